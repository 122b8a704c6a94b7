import PyProof.Rows.All
import Wide.All
import OpenK.AllK
import Wide.FinOn
import Lean
import PyProof.EqAt
import PyProof.EqKinds
import PyProof.TupleCall
import PyProof.NeKinds
import PyProof.EnumStmt
import PyProof.EnumMake
import PyProof.CompFree
import PyProof.Rows.FStr
import PySem.Challenge.RW_treesay_k41_joints
open PySem renaming wpAny_bind->aad,wpAny_pure->aae,wpAny_setState_of->aaq,mainGlobals->aav,wpAny_holding->aa3,Spec->abd,mem_of_lookup->abf,wpAny_setEpoch_of->abg,wpAny_Call_Name_kw->abh,wpAny_mono->abj,wpAny_truthy_bool->abl,boot_len->abo,fits_of_scanBound->aby,wpAny_storeSet_of->abz,wpAny_call_entry->ab2,wpAny_passesOwn->ab5,wpAny_newObj_type->ace,wpAny_forIn_list->aci,codeAny_builtin->acq,wpAny_setField->acy,codeAny_mono->ac1,wpAny_askSetting->ac2,tupleKind_room_in1->ac9,entryFor_alias->adl,builtinLookup_eq_fast->ado,wpAny_isInstance->adp,wpAny_rule->adq,plainId_quiet->adw,wpAny_execs_nil->ady,wpAny_binaryOp_same->adz,wpAny_pyIter_list->ad7,sub_set_self->aef,typeLookup_type->aeg,wpAny_ite_split->aeh,seqIndex_of->ael,sizeLine_eq->aem,wpAny_BinOp->aen,wpAny_standAt->aes,call_meets->aey,Within->ae2,seqIndex_neg->ae4
open List renaming getElem?_eq_getElem->aaf,getElem?_eq_some_iff->aaj,range->aat,getElem?_eq_none->aa1,lookup->ab7,getElem?_set->adg
open Nat renaming le_refl->aag,lt_of_lt_of_le->aal,ne_of_lt->aam,lt_of_le_of_lt->aan,le_trans->aar,zero_le->aa0,lt_irrefl->abk,le_add_right->abq,le_succ->abv,succ_le_succ->abw,not_lt_zero->ab4,le_of_lt->ab8,zero_add->ab9,lt_succ_self->ach,le_of_lt_succ->acu,ne_of_gt->ac0,lt_succ_of_lt->adh,lt_trans->adi,le_of_succ_le->ad4,sub_self->aec,succ_pos->aed,mod_lt->aeu
open Bool renaming and_eq_true->aah,false_eq_true->aao,false_ne_true->aap,or_eq_true->aa5,eq_iff_iff->abu,not_true->abx,false_or->adt,not_eq_true'->ad1,and_false->aei,and_self->aep
open Option.some renaming inj->aai
open Array renaming getElem?_eq_getElem->aak,getElem?_eq_none->aa6
open PySem.PassesOwn renaming never->aas
open PySem.NameKind renaming free->aau,cell->abm
open PySem.Builtin renaming bitAnd->aaw,bitNot->acg,bitOr->acr
open PySem.F renaming plainAttrs_list->aax,slot_list_append->aa7,type_list_append->aa8
open Sum renaming inr->aay,inl->aa4
open PySem.Builtin.Frozenset renaming unchanged->aaz,slot1->abp,updateFrom->aco,copyOf->ac4,sizeOf->ac5
open PySem.Value renaming ref->aa2,int->abr,isInt_shape->acd,none->acv,type->ac8,noConfusion->ad6,str->aeo,bool->aex,float->ae7
open PyProof.Rows renaming callWith_type1->aa9,envOfC->ac3,Constant_none->aer,Subscript_->aew
open False renaming elim->abb
open Int renaming toNat_natCast->abe,emod_lt_of_pos->ab3,natCast_nonneg->acj,emod_nonneg->acp,ofNat->acz,le_refl->ad3
open Option renaming isSome_iff_exists->abn,isSome_some->ac7,isSome_map->ad5
open LawfulBEq renaming eq_of_beq->abt
open ForInStep renaming yield->ab0
open Ne renaming symm->ab1
open PySem.Around renaming under_plainId->ab6,under->aez
open True renaming intro->acf
open PySem.Obj renaming mapSeq->acn,mapFields->ad8,putSet->aev
open PySem.Builtin.List renaming listLengthHint->acs,listTooLong->ac6
open PySem.W renaming cellsFrom_some->acw,kia_one->adn,methodCall_KW->aeb,callWith_K->aee,plainGet_of->aek
open PySem.Builtin.Str renaming occurrences->ada
open Classical renaming propDecidable->adb
open PyProof.Rows.F renaming plain_set_update_loop->ade
open PySem.Str renaming empty->adf,ofString->adk
open PySem.SetTable renaming fill->adu
open Prod.mk renaming inj->adx
open PySem.Calls renaming spliced_cons->ad0,spliced_nil->ad2
open PySem.Paired renaming length->ad9
open PySem.Value.ref renaming inj->aea
open Sum.inr renaming inj->aej
open PySem.Code renaming isFrame->ae0
open Iff renaming rfl->ae1
open PySem.pickOrder renaming go->ae3
open PySem.Data renaming fields->ae5
open Sum.inl renaming inj->ae6
open PySem.W (instObj methodObj lookIn plainGet hasDictIn findIn plainGet_of isFn takerIn typeIn emptyDict specialIn keepIn takesIn mroIn kitOne kia_one callWith_K methodCall_KW cellsFrom_some fnOf codeIn kitCls isClsIn nsIn mg_of)
open List (mem_filter mem_range filterMap_cons mem_cons_self mem_cons_of_mem mem_cons mem_append mem_append_left getElem_inj getElem?_set_self mem_append_right size_toArray any_eq_false length_cons map_cons length_map append_nil nodup_cons of_mem_zip replicate length length_take getElem?_append_right getElem?_replicate getElem?_append_left getElem?_map getElem?_take_of_lt mem_of_getElem? length_append length_replicate find?_cons any_cons length_nil length_drop length_set all_cons reverse_cons length_singleton Pairwise lookup_cons all_eq_true lookup_append getD_eq_getElem?_getD toArray getElem?_cons_zero map_append mem_map any_append take_append_drop take_add_one take_length getElem?_range length_range nil_append range_succ_eq_map filter_cons length_filter_le mem_iff_getElem? mem_singleton nodup_append filter_eq_self getElem_of_mem getElem_mem Perm pairwise_cons getElem?_toArray pairwise_map length_eq_zero_iff length_eraseIdx append_assoc ext_getElem? map_map filterMap any_eq_true set_set map_id' mem_flatten flatten_append flatten_singleton flatten_cons eq_of_mem_replicate)
open PySem.Heap (lt_size SameBut get?_push_of_some get?_push_size size_push get?_update_self get?_update_other)
open Array (length_toList toList getElem?_toList toArray_toList forIn_toList size_map isEmpty toList_append)
open PySem.SetTable (below insertAt probe grown fits eraseAt)
set_option Elab.async false
set_option linter.all false
set_option maxRecDepth 100000
abbrev LI:=List Int
namespace L2
open PySem PySem.Spec PyProof.Rows
abbrev Key:=Sum Int Str
def K6:Key->Value->Bool
 |.inl k,v=>Value.isInt k v
 |.inr x,v=>Value.isStrOf x v
def Us(w:World):Key->Int
 |.inl k=>hashInt k
 |.inr x=>hashStr w x
theorem yP:∀{k:Key}{v:Value},K6 k v=true->(∃i t,k=aa4 i/\v=abr i t)\/(∃x t,k=aay x/\v=aeo x t)
 |.inl i,v,h=>by
  obtain⟨t,e⟩:=acd (k:=i) (v:=v) h
  exact .inl ⟨i,t,rfl,e⟩
 |.inr x,v,h=>by
  obtain⟨t,e⟩:=Value.isStrOf_shape (x:=x) (v:=v) h
  exact .inr ⟨x,t,rfl,e⟩
theorem zO5(i:Int)(t:Tok):K6 (.inl i) (.int i t)=true:=by simp[K6,Value.isInt]
theorem zO4(x:Str)(t:Tok):K6 (.inr x) (.str x t)=true:=by simp[K6,Value.isStrOf]
theorem G9(a b:Int):decide ((aa4 a:Key)=aa4 b)=(a==b):=by
 by_cases e:a=b
 ·subst e;simp
 ·have h:¬(aa4 a:Key)=aa4 b:=λq=>e (ae6 q)
  rw[decide_eq_false h]
  exact(beq_eq_false_iff_ne.mpr e).symm
theorem G_(a b:Str):decide ((aay a:Key)=aay b)=decide (a=b):=by
 by_cases e:a=b
 ·subst e;simp
 ·have h:¬(aay a:Key)=aay b:=λq=>e (aej q)
  rw[decide_eq_false h,decide_eq_false e]
theorem Hf(a:Int)(b:Str):decide ((aa4 a:Key)=aay b)=false:=decide_eq_false (λq=>nomatch q)
theorem Hg(a:Str)(b:Int):decide ((aay a:Key)=aa4 b)=false:=decide_eq_false (λq=>nomatch q)
def xQ(prog:Program)(w:World):PySem.KeyKind prog w Key where
 is:=K6
 hash:=Us w
 inj:=λv a b ha hb=>by
  rcases yP ha with⟨i,t,rfl,rfl⟩|⟨x,t,rfl,rfl⟩
  ·rcases yP hb with⟨j,u,rfl,e⟩|⟨y,u,rfl,e⟩
   ·injection e with e1 _;rw[e1]
   ·exact nomatch e
  ·rcases yP hb with⟨j,u,rfl,e⟩|⟨y,u,rfl,e⟩
   ·exact nomatch e
   ·injection e with e1 _;rw[e1]
 byValue:=λk v h=>by
  rcases yP h with⟨i,t,rfl,rfl⟩|⟨x,t,rfl,rfl⟩<;>rfl
 pyHash:=λhv h=>by
  rcases yP hv with⟨i,t,rfl,rfl⟩|⟨x,t,rfl,rfl⟩
  ·exact wpAny_pyHash_int h
  ·exact wpAny_pyHash_str h
 eqBool:=λhu hv h=>by
  rcases yP hu with⟨i,t,rfl,rfl⟩|⟨x,t,rfl,rfl⟩
  ·rcases yP hv with⟨j,u,rfl,rfl⟩|⟨y,u,rfl,rfl⟩
   ·rw[G9] at h;exact wpAny_eqBool_int h
   ·rw[Hf] at h;exact SeqAt.EqAt.int_str i t y u _ _ _ _ h
  ·rcases yP hv with⟨j,u,rfl,rfl⟩|⟨y,u,rfl,rfl⟩
   ·rw[Hg] at h;exact SeqAt.EqAt.str_int x t j u _ _ _ _ h
   ·rw[G_] at h;exact wpAny_eqBool_str h
 «strs»:=λk x t v h=>by
  rcases yP h with⟨i,u,rfl,e⟩|⟨y,u,rfl,e⟩
  ·exact nomatch e
  ·injection e with e1 _
   subst e1
   cases v<;>rfl
theorem zJb(prog:Program)(w:World)(i:Int)(t:Tok):(xQ prog w).is (.inl i) (.int i t)=true:=zO5 i t
theorem zJa(prog:Program)(w:World)(x:Str)(t:Tok):(xQ prog w).is (.inr x) (.str x t)=true:=zO4 x t
inductive V where
 |non|bl (b:Bool)|int (i:Int)|str (x:Str)|zp (b:Array UInt8)|flt (b:UInt64)|ref (a:Addr)|ty (n:String)
 deriving DecidableEq
def RelV:V->Value->Prop
 |.non,u=>u=acv
 |.bl b,u=>u=aex b
 |.int i,u=>∃t,u=abr i t
 |.str x,u=>∃t,u=aeo x t
 |.zp b,u=>∃t,u=Value.bytes b t
 |.flt b,u=>∃t,u=ae7 b t
 |.ref a,u=>u=aa2 a
 |.ty n,u=>u=ac8 n
abbrev Vals:List V->List Value->Prop:=Paired RelV
theorem Vals.length(r:Vals xs us):xs.length=us.length:=ad9 r
theorem Vals.get:∀{xs:List V}{us:List Value}{i:Nat}{x:V},Vals xs us->xs[i]?=some x->∃u,us[i]?=some u/\RelV x u
 |_,_,_,_,.nil,e=>by simp at e
 |_,_,0,_,.cons r _,e=>by simp at e;subst e;exact⟨_,rfl,r⟩
 |_,_,i+1,x,.cons _ t,e=>by
  obtain⟨u,h1,h2⟩:=Vals.get (i:=i) (x:=x) t (by simpa using e)
  exact⟨u,by simpa using h1,h2⟩
theorem Vals.set(r:RelV x u):∀{xs:List V}{us:List Value}(i:Nat),Vals xs us->Vals (xs.set i x) (us.set i u)
 |_,_,_,.nil=>.nil
 |_,_,0,.cons _ t=>.cons r t
 |_,_,i+1,.cons q t=>.cons q (Vals.set r i t)
theorem Vals.append:∀{xs ys:List V}{us ws:List Value},Vals xs us->Vals ys ws->Vals (xs++ys) (us++ws)
 |_,_,_,_,.nil,s=>s
 |_,_,_,_,.cons r t,s=>.cons r (Vals.append t s)
theorem Vals.take:∀{xs:List V}{us:List Value}(n:Nat),Vals xs us->Vals (xs.take n) (us.take n)
 |_,_,0,_=>.nil
 |_,_,_+1,.nil=>.nil
 |_,_,n+1,.cons r t=>.cons r (Vals.take n t)
theorem Vals.drop:∀{xs:List V}{us:List Value}(n:Nat),Vals xs us->Vals (xs.drop n) (us.drop n)
 |_,_,0,r=>r
 |_,_,_+1,.nil=>.nil
 |_,_,n+1,.cons _ t=>Vals.drop n t
theorem Vals.none_of:∀{xs:List V}{us:List Value}{i:Nat},Vals xs us->xs[i]?=none->us[i]?=none:=λ{xs us i} r e=>by
 have h1:=r.length
 have h2:xs.length<=i:=List.getElem?_eq_none_iff.mp e
 exact List.getElem?_eq_none_iff.mpr (by omega)
def fJ:Option V->Option Value->Prop
 |some v,some u=>RelV v u
 |none,none=>True
 |_,_=>False
def KV{κ:Type}:List (κ×V)->List (κ×Value)->Prop:=Paired λ(p:κ×V) (q:κ×Value)=>p.1=q.1/\RelV p.2 q.2
def kV:Key->V
 |.inl i=>.int i
 |.inr x=>.str x
inductive HO where
 |lst (xs:List V)
 |tup (xs:List V)
 |dK (kvs:List (Key×V))|dT (kvs:List (List Key×V))
 |set (S:Int->Bool) (n:Nat)
 |ins (C dx:Addr) (fs:List (Str×V))
 |own (x:Addr)
 |xd (fs:List (Str×V))
 |met (f x:Addr)
 |rng (lo hi:Int)
 |fU (o:Obj) (u:HO)
 |Hh (ps:Array Value)
 |ext (φ:Heap->Prop)
abbrev Hp:=Addr->Option HO
def upd(H:Hp)(a:Addr)(o:HO):Hp:=λb=>if b=a then some o else H b
theorem zK:upd H a o a=some o:=by unfold upd;rw[if_pos rfl]
theorem zJ(h:b≠a):upd H a o b=H b:=by unfold upd;rw[if_neg h]
theorem Mz{H:Hp}{a b:Addr}{o u:HO}(h:H a=some o)(h':H b=some u)(d:o≠u):a≠b:=by
 intro e;subst e;rw[h] at h';exact d (aai h')
theorem zL{H:Hp}{a b:Addr}{o:HO}(h:H a=some o)(h':H b=none):a≠b:=by
 intro e;subst e;rw[h] at h';cases h'
section
variable(P:Program)(w:World)
def aQ(H:Hp)(h:Heap)(a:Addr):HO->Prop
 |.lst xs=>xs.length<=sizeLine/\∃(its:List Value)(n:Nat),Vals xs its/\h.get? a=some { cls:=.type "list",data:=.seq its.toArray n }
 |.tup xs=>xs.length<=sizeLine/\∃its:List Value,Vals xs its/\IsTup h a its.toArray
 |.dK kvs=>kvs.length<=sizeLine/\(a==sysModules)=false/\∃vs,KV kvs vs/\h.DictOf (xQ P w) a vs
 |.dT kvs=>kvs.length<=sizeLine/\(a==sysModules)=false/\∃xs:List (List Key×Addr×Value),
   Paired (λ(p:List Key×V) (q:List Key×Addr×Value)=>p.1=q.1/\H q.2.1=some (.tup (p.1.map kV))/\RelV p.2 q.2.2) kvs xs /\
   ∃o es ep,h.get? a=some o/\o.ExactDict/\o.data=.dict es ep/\es.toList=xs.map (entryOfKey (tupleKind (xQ P w)))/\(xs.map (·.1)).Nodup
 |.set S n=>h.SetOf (intKind P w) a S n
 |.ins C dx fs=>H dx=some (.own a)/\fs.length<=1000/\dx≠a/\h.get? a=some (instObj C dx) /\
   ∃mA,h.Ns1 dx mA/\(∀f,fJ (fs.lookup f) (mA f))/\ae2 mA (fs.map (·.1))
 |.own _=>∃o,h.get? a=some o
 |.xd fs=>∃mA,h.Ns1 a mA/\∀f,fJ (fs.lookup f) (mA f)
 |.rng lo hi=>∃t u v,h.get? a=some { cls:=.type "range",data:=.fields #[.int lo t,.int hi u,.int 1 v] }
 |.fU o u=>h.get? a=some o/\aQ H h a u
 |.Hh ps=>h.get? a=some { cls:=.none,data:=.fields ps }
 |.met f x=>h.get? a=some (methodObj (.ref f) (.ref x))
 |.ext φ=>φ h/\(∃o,h.get? a=some o)/\∀h1 h2:Heap,φ h1->(∀o,h1.get? a=some o->h2.get? a=some o)->φ h2
def fV(H:Hp)(h:Heap):Prop:=∀a o,H a=some o->aQ P w H h a o
end
section
variable{P:Program}{w:World}{H H':Hp}{h h':Heap}{a:Addr}{o:HO}
theorem aQ.lt(x:aQ P w H h a o):a<h.objs.size:=by
 cases o with
 |lst xs=>obtain⟨_,_,_,_,e⟩:=x;exact lt_size e
 |tup xs=>obtain⟨_,_,_,p⟩:=x;exact p.lt
 |dK kvs=>obtain⟨_,_,_,_,o,_,_,e,_⟩:=x;exact lt_size e
 |dT kvs=>obtain⟨_,_,_,_,o,_,_,e,_⟩:=x;exact lt_size e
 |set S n=>obtain⟨o,_,_,_,e,_⟩:=x;exact lt_size e
 |ins C dx fs=>obtain⟨_,_,_,e,_⟩:=x;exact lt_size e
 |own y=>obtain⟨_,e⟩:=x;exact lt_size e
 |xd fs=>obtain⟨_,⟨_,_,_,e,_⟩,_⟩:=x;exact lt_size e
 |rng lo hi=>obtain⟨_,_,_,e⟩:=x;exact lt_size e
 |fU ob u=>obtain⟨e,_⟩:=x;exact lt_size e
 |Hh ps=>exact lt_size (show h.get? a=some _ from x)
 |met f y=>exact lt_size (show h.get? a=some _ from x)
 |ext φ=>obtain⟨_,⟨_,e⟩,_⟩:=x;exact lt_size e
theorem Paired.Hj{α β:Type}{F G:α->β->Prop}:∀{l₁:List α}{l₂:List β},Paired F l₁ l₂->(∀a b,F a b->G a b)->Paired G l₁ l₂
 |_,_,.nil,_=>.nil
 |_,_,.cons r t,f=>.cons (f _ _ r) (Paired.Hj t f)
theorem aQ.stay(x:aQ P w H h a o)(k:∀b u,(b=a\/H b=some (.own a))->h.get? b=some u->h'.get? b=some u)(ho:∀b,H b=some (.own a)->H' b=some (.own a))(ht:∀b xs,H b=some (.tup xs)->H' b=some (.tup xs)):aQ P w H' h' a o:=by
 induction o with
 |lst xs=>obtain⟨z,its,n,r,e⟩:=x;exact⟨z,its,n,r,k _ _ (.inl rfl) e⟩
 |tup xs=>obtain⟨z,its,r,ob,e,c⟩:=x;exact⟨z,its,r,ob,k _ _ (.inl rfl) e,c⟩
 |dK kvs=>obtain⟨z,y,vs,r,ob,es,ep,e,c⟩:=x;exact⟨z,y,vs,r,ob,es,ep,k _ _ (.inl rfl) e,c⟩
 |dT kvs =>
  obtain⟨z,y,xs,r,ob,es,ep,e,c⟩:=x
  exact⟨z,y,xs,Paired.Hj r λp q z=>⟨z.1,ht _ _ z.2.1,z.2.2⟩,ob,es,ep,k _ _ (.inl rfl) e,c⟩
 |set S n=>obtain⟨ob,es,ep,t,e,c⟩:=x;exact⟨ob,es,ep,t,k _ _ (.inl rfl) e,c⟩
 |ins C dx fs =>
  obtain⟨d,z,ne,e,mA,⟨od,es,ep,e2,c⟩,r⟩:=x
  exact⟨ho _ d,z,ne,k _ _ (.inl rfl) e,mA,⟨od,es,ep,k _ _ (.inr d) e2,c⟩,r⟩
 |own y=>obtain⟨ob,e⟩:=x;exact⟨ob,k _ _ (.inl rfl) e⟩
 |xd fs=>obtain⟨mA,⟨od,es,ep,e,c⟩,r⟩:=x;exact⟨mA,⟨od,es,ep,k _ _ (.inl rfl) e,c⟩,r⟩
 |rng lo hi=>obtain⟨t,u,v,e⟩:=x;exact⟨t,u,v,k _ _ (.inl rfl) e⟩
 |fU ob u ih=>obtain⟨e,q⟩:=x;exact⟨k _ _ (.inl rfl) e,ih q⟩
 |Hh ps =>
  have e:h.get? a=some { cls:=.none,data:=.fields ps }:=x
  show h'.get? a=some { cls:=.none,data:=.fields ps }
  exact k a _ (.inl rfl) e
 |met f y =>
  have e:h.get? a=some (methodObj (.ref f) (.ref y)):=x
  show h'.get? a=some (methodObj (.ref f) (.ref y))
  exact k a _ (.inl rfl) e
 |ext φ=>obtain⟨p,⟨o,e⟩,st⟩:=x;exact⟨st _ _ p λo q=>k _ _ (.inl rfl) q,⟨o,k _ _ (.inl rfl) e⟩,st⟩
theorem fV.lt(x:fV P w H h)(e:H a=some o):a<h.objs.size:=(x a o e).lt
theorem fV.fresh(x:fV P w H h)(e:h.objs.size<=a):H a=none:=by
 cases q:H a with
 |none=>rfl
 |some u=>exact absurd (aal (x.lt q) e) (abk _)
theorem fV.kept(x:fV P w H h)(k:∀b u,h.get? b=some u->h'.get? b=some u):fV P w H h':=λa o e =>
 (x a o e).stay (λb u _ q=>k b u q) (λ_ q=>q) λ_ _ q=>q
theorem fV.laid(x:fV P w H h)(k:∀b u,h.get? b=some u->h'.get? b=some u)(hp:h.objs.size<=a)(new:aQ P w (upd H a o) h' a o):fV P w (upd H a o) h':=λb u e=>by
 have hn:=x.fresh hp
 by_cases hb:b=a
 ·subst hb;rw[zK] at e;cases e;exact new
 ·rw[zJ hb] at e
  exact(x b u e).stay (λc v _ q=>k c v q) (λc q=>by rw[zJ (zL q hn)];exact q) λc xs q=>by rw[zJ (zL q hn)];exact q
end
def Rd(H:Hp)(a:Addr)(u:HO):Prop:=H a=some u\/∃o,H a=some (.fU o u)
theorem Rd.ok(r:Rd H a u)(x:fV P w H h):aQ P w H h a u:=by
 rcases r with r|⟨o,r⟩
 ·exact x a u r
 ·obtain⟨_,q⟩:=x a _ r
  exact q
def MF:Option HO->Prop
 |some (.lst _)=>True
 |some (.dK _)=>True
 |some (.dT _)=>True
 |some (.set _ _)=>True
 |some (.ins _ _ _)=>True
 |some (.ext _)=>True
 |_=>False
section
variable{P:Program}{w:World}{H:Hp}{h h':Heap}{x e:Addr}{o':HO}
theorem fV.write(ok:fV P w H h)(mu:MF (H x))(he:e=x\/H e=some (.own x))(k:∀b u,b≠e->h.get? b=some u->h'.get? b=some u)(heo:∃u,h'.get? e=some u)(new:aQ P w (upd H x o') h' x o'):fV P w (upd H x o') h':=λb u q=>by
 have MJ:∀c y,H c=some (.own y)->c≠x:=λc y r z=>by subst z;rw[r] at mu;exact mu
 have Ut:∀c xs,H c=some (.tup xs)->c≠x:=λc xs r z=>by subst z;rw[r] at mu;exact mu
 by_cases hb:b=x
 ·subst hb;rw[zK] at q;cases q;exact new
 ·rw[zJ hb] at q
  by_cases hbe:b=e
  ·have q':H b=some (.own x):=by
    rcases he with z|z
    ·exact absurd (hbe.trans z) hb
    ·rw[hbe];exact z
   rw[q] at q';cases q'
   obtain⟨v,hv⟩:=heo
   exact⟨v,by rw[hbe];exact hv⟩
  ·refine(ok b u q).stay (λc v hc r=>k c v ?_ r) (λc r=>by rw[zJ (MJ c b r)];exact r) λc xs r=>by rw[zJ (Ut c xs r)];exact r
   rcases hc with rfl|hc
   ·exact hbe
   ·rintro rfl
    rcases he with z|z
    ·exact MJ c b hc z
    ·rw[hc] at z;cases z;exact hb rfl
end
structure Un(fs ex:List Addr)(H H':Hp)(h h':Heap):Prop where
 keep:∀b o,h.get? b=some o->H b=none->b∉fs->b∉ex->h'.get? b=some o
 slot:∀b o,h.get? b=some o->H b=none->b∈fs->b∉ex->∃sl,h'.get? b=some { o with slots:=sl }
 free:∀b o,h.get? b=some o->H b=none->b∉ex->H' b=none
 there:∀b o,h.get? b=some o->b∉ex->∃o',h'.get? b=some o'
 tups:∀b xs,H b=some (.tup xs)->H' b=some (.tup xs)
 jZ:∀b o u,H b=some (.fU o u)->H' b=some (.fU o u)
 lX:∀b ps,H b=some (.Hh ps)->∃more,H' b=some (.Hh (ps++more))
section
variable{fs fs' ex ex':List Addr}{H H1 H2:Hp}{h h1 h2 h':Heap}{a x e:Addr}{o:HO}
theorem Un.any(u:Un fs ex H H1 h h1)(q:h.get? b=some ob)(n:H b=none)(hx:b∉ex):∃sl,h1.get? b=some { ob with slots:=sl }:=by
 by_cases hb:b∈fs
 ·exact u.slot b ob q n hb hx
 ·exact⟨ob.slots,u.keep b ob q n hb hx⟩
theorem Un.kept(k:∀b u,h.get? b=some u->h'.get? b=some u):Un fs ex H H h h' :=
 ⟨λb ob q _ _ _=>k b ob q,λb ob q _ _ _=>⟨ob.slots,k b ob q⟩,λ_ _ _ n _=>n,λb ob q _=>⟨ob,k b ob q⟩,λ_ _ q=>q,λ_ _ _ q=>q,λ_ ps q=>⟨#[],by rw[q];simp⟩⟩
theorem Un.refl:Un fs ex H H h h:=Un.kept λ_ _ q=>q
theorem Un.laid(k:∀b u,h.get? b=some u->h'.get? b=some u)(hp:h.objs.size<=a)(hn:H a=none):Un fs ex H (upd H a o) h h' where
 keep:=λb u q _ _ _=>k b u q
 slot:=λb u q _ _ _=>⟨u.slots,k b u q⟩
 free:=λb u q n _=>by rw[zJ (aam (aal (lt_size q) hp))];exact n
 there:=λb u q _=>⟨u,k b u q⟩
 tups:=λb xs q=>by rw[zJ (zL q hn)];exact q
 jZ:=λb u xs q=>by rw[zJ (zL q hn)];exact q
 lX:=λb ps q=>⟨#[],by rw[zJ (zL q hn),q];simp⟩
theorem Un.write(mu:MF (H x))(he:e=x\/H e=some (.own x))(k:∀b u,b≠e->h.get? b=some u->h'.get? b=some u)(heo:∃u,h'.get? e=some u):Un fs ex H (upd H x o) h h':=by
 have hx:∀b,H b=none->b≠x:=λb n z=>by subst z;rw[n] at mu;exact mu
 have hb:∀b,H b=none->b≠e:=λb n z=>by
  subst z
  rcases he with r|r
  ·exact hx b n r
  ·rw[n] at r;cases r
 have hm:∀b u,H b=some u->¬MF (some u)->b≠x:=λb u q nm z=>by subst z;rw[q] at mu;exact nm mu
 refine⟨λb u q n _ _=>k b u (hb b n) q,λb u q n _ _=>⟨u.slots,k b u (hb b n) q⟩,λb u q n _=>by rw[zJ (hx b n)];exact n,λb u q _=>?_,
  λb xs q=>by rw[zJ (hm b _ q λz=>z)];exact q,λb u xs q=>by rw[zJ (hm b _ q λz=>z)];exact q,λb ps q=>⟨#[],by rw[zJ (hm b _ q λz=>z),q];simp⟩⟩
 by_cases hbe:b=e
 ·subst hbe;exact heo
 ·exact⟨u,k b u hbe q⟩
end
def Rn(h:Heap)(H:Hp):List Addr:=(aat h.objs.size).filter λa=>(H a).isSome
def m5(h:Heap)(H:Hp):Heap:=PySem.W.hideAll h (Rn h H)
theorem zPf(h:Heap)(H:Hp):(m5 h H).objs.size=h.objs.size:=PySem.W.hideAll_size _ _
theorem zSq{h:Heap}(e:h.get? b=some o)(n:H b=none):(m5 h H).get? b=some o :=
 PySem.W.hideAll_get _ e λhm=>by
  have q:(H b).isSome=true:=(mem_filter.mp hm).2
  rw[n] at q;simp at q
theorem zq(e:(m5 h H).get? b=some o):h.get? b=some o/\H b=none:=by
 have e':h.get? b=some o:=PySem.W.of_hideAll (Rn h H) e
 refine⟨e',?_⟩
 cases q:H b with
 |none=>rfl
 |some x =>
  have hm:b∈Rn h H:=mem_filter.mpr ⟨mem_range.mpr (lt_size e'),by simp[q]⟩
  have z:(m5 h H).get? b=none:=PySem.W.hideAll_none (Rn h H) hm
  rw[z] at e;cases e
def zx(g h:Heap)(L:Addr):List (Addr×Obj):=(aat h.objs.size).filterMap λa=>if a=L\/(g.get? a).isSome=true then none else(h.get? a).map λo=>(a,o)
def rest(g h:Heap)(L d:Addr):List (Addr×Obj):=(zx g h L).filter λp=>decide (p.1≠d)
structure Mod(K:PySem.W.Frag)(mg:Str->Option Value)(base:Heap):Prop where
 K7:K.In base
 glob:base.Ns aav mg
 blt:∃mb,base.Ns builtinsNs mb/\∀x:Str,x ≠ "__name__"->mb x=bootBuiltins x
 nolimit:base.NoLimit
structure Cx where
 prog:Program
 w:World
 K:PySem.W.Frag
 mg:Str->Option Value
 base:Heap
 A:Around
 N:List Str
 s₀:Shared
 H₀:Hp
 env:Env
 outer:List Env
 stack:List Env
 ex:List Addr
 fn:Str->Bool
 calm:Bool
 pn:List (Addr×Obj)
 xe:Value->Shared->Prop
def frs(l:List Env):List Addr:=l.filterMap (·.frame)
abbrev Cx.fs(X:Cx):List Addr:=frs X.outer
def MN(sc:Scope)(x:Str):Prop:=sc.names.lookup x=some .local\/sc.names.lookup x=some .cell\/sc.names.lookup x=some .free
def Loc(sc:Scope)(x:Str):Prop:=sc.names.lookup x=some .local\/sc.names.lookup x=some .cell
def Look(env:Env)(h:Heap)(m:Str->Option Value)(x:Str)(u:Value):Prop :=
 (env.kindOf x=some .local/\m x=some u)\/((env.kindOf x=some .cell\/env.kindOf x=some .free)/\∃c,env.cells.lookup x=some c/\h.IsCell c (some u))
structure Cx.Ok(X:Cx):Prop where
 mod:Mod X.K X.mg X.base
 kind:X.env.scope.kind=.function
 glob:X.env.globals=aav
 blt:X.env.builtins=builtinsNs
 above:X.s₀.heap.objs.size<=X.env.locals
 inj:∀x y c,X.env.cells.lookup x=some c->X.env.cells.lookup y=some c->x=y
 has:∀x,(X.env.kindOf x=some .cell\/X.env.kindOf x=some .free)->∃c,X.env.cells.lookup x=some c
 cab:∀x c,X.fn x=true->X.env.cells.lookup x=some c->X.s₀.heap.objs.size<=c
 hd:X.calm=true->X.A.handled=none
 frames:X.A.frames=some X.stack
 stk:X.stack=X.outer\/(X.stack=X.env::X.outer/\X.env.frame=some X.env.locals)
 Ro:∀b∈X.ex,b≠X.env.locals/\∀x c,X.env.cells.lookup x=some c->c≠b
 bs:∀b o,X.base.get? b=some o->X.s₀.heap.get? b=some o/\X.H₀ b=none
 zy:X.base.objs.size<=X.s₀.heap.objs.size
 sV:∀b o,X.base.get? b=some o->b∉X.ex
 sW:∀b∈X.ex,b∉X.fs
 jO:X.s₀.heap.FunFrames X.base X.outer
 Hl:∀b∈X.fs,X.H₀ b=none
structure Inv(X:Cx)(pins:List (Addr×Obj))(σ:List (Option V))(H:Hp)(s:Shared):Prop where
 ok:X.Ok
 os:s.os=X.s₀.os
 bare:AllBare s.gens
 base:Un X.fs X.ex X.H₀ H X.s₀.heap s.heap
 loc:∃m,s.heap.Ns X.env.locals m/\∀(i:Nat)(x:Str)(v:V),X.N[i]?=some x->σ[i]?=some (some v)->MN X.env.scope x->∃u,RelV v u/\Look X.env s.heap m x u
 cell:∀x c,X.env.cells.lookup x=some c->∃v,s.heap.IsCell c v
 free:H X.env.locals=none
 fW:∀x c,X.env.cells.lookup x=some c->H c=none
 pin:∀p∈X.pn++pins,s.heap.get? p.1=some p.2/\H p.1=none/\p.1≠X.env.locals/\p.1∉X.fs/\∀v,p.2.data≠.cell v
 hok:fV X.prog X.w H s.heap
 len:σ.length=X.N.length
section
variable{X:Cx}{pins:List (Addr×Obj)}{σ:List (Option V)}{H H':Hp}{s:Shared}{h':Heap}
theorem Cx.Ok.Uu(ok:X.Ok)(e:X.base.get? b=some o):b∉X.fs:=λhb=>by
 have:=(ok.jO.mem hb).1
 rw[e] at this;cases this
theorem Inv.bs(I:Inv X pins σ H s):∀b o,X.base.get? b=some o->s.heap.get? b=some o/\H b=none:=λb o e =>
 ⟨I.base.keep b o (I.ok.bs b o e).1 (I.ok.bs b o e).2 (I.ok.Uu e) (I.ok.sV b o e),I.base.free b o (I.ok.bs b o e).1 (I.ok.bs b o e).2 (I.ok.sV b o e)⟩
theorem Inv.bk(I:Inv X pins σ H s):∀b o,X.base.get? b=some o->s.heap.get? b=some o:=λb o e=>(I.bs b o e).1
theorem Inv.mod(I:Inv X pins σ H s):Mod X.K X.mg X.base:=I.ok.mod
theorem Inv.iT(I:Inv X pins σ H s):X.K.In s.heap:=I.ok.mod.K7.keeps I.bk
theorem Inv.nolimit(I:Inv X pins σ H s):s.heap.NoLimit:=I.ok.mod.nolimit.keeps I.bk
theorem Inv.lt(I:Inv X pins σ H s):X.env.locals<s.heap.objs.size:=let⟨_,hn,_⟩:=I.loc;hn.lt
theorem Inv.sz(I:Inv X pins σ H s):X.s₀.heap.objs.size<=s.heap.objs.size:=aar I.ok.above (ab8 I.lt)
theorem Inv.Ho(I:Inv X pins σ H s)(h:s.heap.objs.size<=a):a∉X.fs:=λhb=>by
 obtain⟨_,o,ho,_⟩:=I.ok.jO.mem hb
 exact absurd (aal (lt_size ho) (aar I.sz h)) (abk _)
theorem Inv.Hq(I:Inv X pins σ H s):∀x c,X.env.cells.lookup x=some c->c≠X.env.locals:=λx c e z=>by
 obtain⟨v,o,ho,hd⟩:=I.cell x c e
 obtain⟨m,⟨o',es,ep,ho',hd',_⟩,_⟩:=I.loc
 rw[z,ho'] at ho;cases ho;rw[hd'] at hd;cases hd
theorem Inv.jO(I:Inv X pins σ H s):s.heap.FunFrames X.base X.outer:=by
 have all:∀(l:List Env),(∀b∈frs l,b∈X.fs)->X.s₀.heap.FunFrames X.base l->s.heap.FunFrames X.base l:=by
  intro l
  induction l with
  |nil=>intro _ _;trivial
  |cons env r ih =>
   intro hs hl
   obtain⟨hk,⟨L,o,hf,hn,ho,hd⟩,hr⟩:=hl
   have hL:L∈X.fs:=hs L (by unfold frs;rw[filterMap_cons,hf];exact mem_cons_self)
   obtain⟨sl,e⟩:=I.base.slot L o ho (I.ok.Hl L hL) hL λz=>I.ok.sW L z hL
   exact⟨hk,⟨L,_,hf,hn,e,hd⟩,ih (λb hb=>hs b (by unfold frs;rw[filterMap_cons,hf];exact mem_cons_of_mem _ hb)) hr⟩
 exact all X.outer (λ_ hb=>hb) I.ok.jO
theorem Inv.stack(I:Inv X pins σ H s):s.heap.FunFrames X.base X.stack:=by
 rcases I.ok.stk with e|⟨e,hf⟩
 ·rw[e];exact I.jO
 ·rw[e]
  obtain⟨m,hn,_⟩:=I.loc
  refine .cons (by rw[I.ok.kind];decide) hf hn ?_ I.jO
  exact Heap.get?_none_of_le (aar I.ok.zy I.ok.above)
theorem Inv.m6(I:Inv X pins σ H s):∀b∈frs X.stack,b∈X.env.locals::X.fs:=λb hb=>by
 rcases I.ok.stk with e|⟨e,hf⟩
 ·rw[e] at hb;exact mem_cons_of_mem _ hb
 ·rw[e] at hb
  unfold frs at hb
  rw[filterMap_cons,hf] at hb
  exact hb
theorem Inv.qz(I:Inv X pins σ H s):∀b∈frs X.stack,H b=none:=λb hb=>by
 rcases mem_cons.mp (I.m6 b hb) with e|hb
 ·rw[e];exact I.free
 ·obtain⟨_,o,ho,_⟩:=I.ok.jO.mem hb
  exact I.base.free b o ho (I.ok.Hl b hb) λz=>I.ok.sW b z hb
theorem Inv.step{g':Array GenState}{t':Nat}{d':Drawn}{ch:List Addr}(I:Inv X pins σ H s)(hch:∀b∈ch,(b∈X.ex\/X.s₀.heap.objs.size<=b)/\b≠X.env.locals/\(∀x c,X.env.cells.lookup x=some c->c≠b)/\∀p∈X.pn++pins,p.1≠b)(keep:∀b o,b≠X.env.locals->b∉X.fs->b∉ch->s.heap.get? b=some o->H b=none->h'.get? b=some o)(slot:∀b o,b≠X.env.locals->b∈X.fs->b∉ch->s.heap.get? b=some o->H b=none->∃sl,h'.get? b=some { o with slots:=sl })(free:∀b o,b∉ch->s.heap.get? b=some o->H b=none->H' b=none)(there:∀b o,b∉ch->s.heap.get? b=some o->∃o',h'.get? b=some o')(tups:∀b xs,H b=some (.tup xs)->H' b=some (.tup xs))(jZ:∀b o u,H b=some (.fU o u)->H' b=some (.fU o u))(lX:∀b ps,H b=some (.Hh ps)->∃more,H' b=some (.Hh (ps++more)))(ns:∀m,s.heap.Ns X.env.locals m->h'.Ns X.env.locals m)(hok:fV X.prog X.w H' h')(hg:AllBare g') :
  Inv X pins σ H' { s with heap:=h',gens:=g',drawn:=d',toks:=t' }:=by
 have Yh:∀b o,X.s₀.heap.get? b=some o->b≠X.env.locals:=λb o e=>aam (aal (lt_size e) I.ok.above)
 have Rq:∀b o,X.s₀.heap.get? b=some o->b∉X.ex->b∉ch:=λb o e hx hb=>by
  rcases(hch b hb).1 with z|z
  ·exact hx z
  ·exact absurd (aal (lt_size e) z) (abk _)
 have cellK:∀x c,X.env.cells.lookup x=some c->∀v,s.heap.IsCell c v->h'.IsCell c v:=λx c e v ⟨o,ho,hd⟩=>by
  have M4:c∉ch:=λz=>(hch c z).2.2.1 x c e rfl
  by_cases hc:c∈X.fs
  ·obtain⟨sl,q⟩:=slot c o (I.Hq x c e) hc M4 ho (I.fW x c e)
   exact⟨_,q,hd⟩
  ·exact⟨o,keep c o (I.Hq x c e) hc M4 ho (I.fW x c e),hd⟩
 refine⟨I.ok,I.os,hg,⟨λb o e n hb hx=>?_,λb o e n hb hx=>?_,λb o e n hx=>?_,λb o e hx=>?_,λb xs e=>tups b xs (I.base.tups b xs e),λb o xs e=>jZ b o xs (I.base.jZ b o xs e),λb ps e=>?_⟩,?_,λx c e=>?_,?_,λx c e=>?_,λp hp=>?_,hok,I.len⟩
 ·exact keep b o (Yh b o e) hb (Rq b o e hx) (I.base.keep b o e n hb hx) (I.base.free b o e n hx)
 ·obtain⟨sl,e1⟩:=I.base.slot b o e n hb hx
  obtain⟨sl',e2⟩:=slot b _ (Yh b o e) hb (Rq b o e hx) e1 (I.base.free b o e n hx)
  exact⟨sl',e2⟩
 ·obtain⟨o',e1⟩:=I.base.there b o e hx
  exact free b o' (Rq b o e hx) e1 (I.base.free b o e n hx)
 ·obtain⟨o',e1⟩:=I.base.there b o e hx
  exact there b o' (Rq b o e hx) e1
 ·obtain⟨m1,e1⟩:=I.base.lX b ps e
  obtain⟨m2,e2⟩:=lX b _ e1
  exact⟨m1++m2,by rw[e2,Array.append_assoc]⟩
 ·obtain⟨m,hn,hl⟩:=I.loc
  refine⟨m,ns m hn,λi x v e1 e2 e3=>?_⟩
  obtain⟨u,r,l⟩:=hl i x v e1 e2 e3
  refine⟨u,r,?_⟩
  rcases l with l|⟨k,c,e,z⟩
  ·exact .inl l
  ·exact .inr ⟨k,c,e,cellK x c e _ z⟩
 ·obtain⟨v,z⟩:=I.cell x c e
  exact⟨v,cellK x c e v z⟩
 ·obtain⟨m,⟨o,_,_,ho,_⟩,_⟩:=I.loc
  exact free _ o (λz=>(hch _ z).2.1 rfl) ho I.free
 ·obtain⟨v,o,ho,hd⟩:=I.cell x c e
  exact free c o (λz=>(hch c z).2.2.1 x c e rfl) ho (I.fW x c e)
 ·obtain⟨e,n,ne,nf,d⟩:=I.pin p hp
  have M4:p.1∉ch:=λz=>(hch p.1 z).2.2.2 p hp rfl
  exact⟨keep p.1 p.2 ne nf M4 e n,free p.1 p.2 M4 e n,ne,nf,d⟩
theorem Inv.un(I:Inv X pins σ H s)(u:Un X.fs [] H H' s.heap h')(hok:fV X.prog X.w H' h'):Inv X pins σ H' { s with heap:=h',toks:=t' }:=by
 obtain⟨m,⟨o,es,ep,ho,r⟩,_⟩:=id I.loc
 obtain⟨sl,hL⟩:=u.any ho I.free (by simp)
 exact I.step (g':=s.gens) (d':=s.drawn) (ch:=[]) (λ_ z=>nomatch z) (λb o _ hb _ e n=>u.keep b o e n hb (by simp)) (λb o _ hb _ e n=>u.slot b o e n hb (by simp)) (λb o _ e n=>u.free b o e n (by simp)) (λb o _ e=>u.there b o e (by simp)) u.tups u.jZ u.lX (λm' hm=>by
  obtain⟨o',es',ep',ho',r'⟩:=hm
  rw[ho] at ho';cases ho'
  exact⟨_,es',ep',hL,r'⟩) hok I.bare
theorem Inv.call(I:Inv X pins σ H s)(u:Un (frs X.stack) ch H H' s.heap h')(hok:fV X.prog X.w H' h')(hg:AllBare g')(hch:∀b∈ch,(b∈X.ex\/X.s₀.heap.objs.size<=b)/\b≠X.env.locals/\(∀x c,X.env.cells.lookup x=some c->c≠b)/\∀p∈X.pn++pins,p.1≠b) :
  Inv X pins σ H' { s with heap:=h',gens:=g',drawn:=d',toks:=t' }:=by
 obtain⟨m,⟨o,es,ep,ho,r⟩,_⟩:=id I.loc
 obtain⟨sl,hL⟩:=u.any ho I.free λz=>(hch _ z).2.1 rfl
 exact I.step (ch:=ch) hch (λb o hL hb hc e n=>u.keep b o e n (λz=>(mem_cons.mp (I.m6 b z)).elim hL hb) hc) (λb o _ _ hc e n=>u.any e n hc) (λb o hc e n=>u.free b o e n hc) (λb o hc e=>u.there b o e hc) u.tups u.jZ u.lX (λm' hm=>by
  obtain⟨o',es',ep',ho',r'⟩:=hm
  rw[ho] at ho';cases ho'
  exact⟨_,es',ep',hL,r'⟩) hok hg
theorem Inv.turned(I:Inv X pins σ H s)(k:∀b o,b≠it->s.heap.get? b=some o->h'.get? b=some o)(hn:H it=none)(hL:it≠X.env.locals)(h1:it∈X.ex\/X.s₀.heap.objs.size<=it)(h2:∀x c,X.env.cells.lookup x=some c->c≠it)(h3:∀p∈X.pn++pins,p.1≠it):Inv X pins σ H { s with heap:=h',toks:=t' }:=by
 have Yi:∀b u,H b=some u->b≠it:=λb u e z=>by rw[z,hn] at e;cases e
 refine I.step (g':=s.gens) (d':=s.drawn) (ch:=[it]) (λb hb=>?_) (λb o _ _ hc e _=>k b o (λz=>hc (by simp[z])) e) (λb o _ _ hc e _=>⟨o.slots,k b o (λz=>hc (by simp[z])) e⟩) (λ_ _ _ _ n=>n)
  (λb o hc e=>⟨o,k b o (λz=>hc (by simp[z])) e⟩) (λ_ _ e=>e) (λ_ _ _ e=>e) (λb ps e=>⟨#[],by rw[e];simp⟩) (λm hm=>?_) (λb u e=>?_) I.bare
 ·have e:b=it:=by simpa using hb
  subst e
  exact⟨h1,hL,h2,h3⟩
 ·obtain⟨o,es,ep,ho,r⟩:=hm
  exact⟨o,es,ep,k _ o (ab1 hL) ho,r⟩
 ·refine(I.hok b u e).stay (λc v hc q=>k c v ?_ q) (λ_ q=>q) λ_ _ q=>q
  rcases hc with z|z
  ·rw[z];exact Yi b u e
  ·exact Yi c _ z
theorem Inv.tok(I:Inv X pins σ H s)(t:Nat):Inv X pins σ H { s with toks:=t }:=I.un (h':=s.heap) (t':=t) Un.refl I.hok
theorem Inv.kept(I:Inv X pins σ H s)(k:∀b u,s.heap.get? b=some u->h'.get? b=some u):Inv X pins σ H { s with heap:=h',toks:=t' }:=I.un (Un.kept k) (I.hok.kept k)
theorem Inv.laid(I:Inv X pins σ H s)(k:∀b u,s.heap.get? b=some u->h'.get? b=some u)(hp:s.heap.objs.size<=a)(new:aQ X.prog X.w (upd H a o) h' a o) :
  Inv X pins σ (upd H a o) { s with heap:=h',toks:=t' }:=I.un (Un.laid k hp (I.hok.fresh hp)) (I.hok.laid k hp new)
theorem Inv.write(I:Inv X pins σ H s)(mu:MF (H x))(he:e=x\/H e=some (.own x))(k:∀b u,b≠e->s.heap.get? b=some u->h'.get? b=some u)(heo:∃u,h'.get? e=some u)(new:aQ X.prog X.w (upd H x o) h' x o):Inv X pins σ (upd H x o) { s with heap:=h',toks:=t' }:=I.un (Un.write mu he k heo) (I.hok.write mu he k heo new)
theorem Inv.iU(I:Inv X pins σ H s)(h:∀p∈Ez,s.heap.get? p.1=some p.2/\H p.1=none/\p.1≠X.env.locals/\p.1∉X.fs/\∀v,p.2.data≠.cell v):Inv X Ez σ H s :=
 ⟨I.ok,I.os,I.bare,I.base,I.loc,I.cell,I.free,I.fW,λp hp=>(mem_append.mp hp).elim (λz=>I.pin p (mem_append_left _ z)) (h p),I.hok,I.len⟩
theorem Yj{N:List Str}(hN:N.Nodup){i j:Nat}{x:Str}(a:N[i]?=some x)(b:N[j]?=some x):i=j:=by
 obtain⟨h1,e1⟩:=aaj.mp a
 obtain⟨h2,e2⟩:=aaj.mp b
 exact(getElem_inj hN).mp (e1.trans e2.symm)
theorem Yk{Q:Unit->Shared->Prop}(I:Inv X pins σ H s)(hN:X.N.Nodup)(hi:X.N[i]?=some x)(hx:Loc X.env.scope x)(r:RelV v u)(h:∀s',Inv X pins (σ.set i (some v)) H s'->(∃a,SameBut a s.heap s'.heap/\(a=X.env.locals\/X.env.cells.lookup x=some a))->Q () s')(hf:X.fn x=true\/X.env.scope.names.lookup x=some .local:=by first|exact .inl rfl|exact .inr rfl|assumption):wpAny M A (storeName X.env x u) Q E s:=by
 obtain⟨m,hn,hl⟩:=id I.loc
 have hcls:(X.env.scope.kind==.class||(X.env.scope.kind==.module&&X.env.locals != X.env.globals))=false:=by rw[I.ok.kind];rfl
 have M5:i<σ.length:=by rw[I.len];exact(aaj.mp hi).1
 have Hq:=I.Hq
 have tracked:∀{a:Addr}{h':Heap},(∃o,s.heap.get? a=some o/\H a=none)->SameBut a s.heap h'->fV X.prog X.w H h':=λ{a h'} ha hs b ob e=>by
  obtain⟨_,_,hfree⟩:=ha
  refine(I.hok b ob e).stay (λc w' hc q=>(hs.2 c ?_).trans q) (λ_ q=>q) λ_ _ q=>q
  rintro rfl
  rcases hc with rfl|hc
  ·rw[hfree] at e;cases e
  ·rw[hfree] at hc;cases hc
 rcases hx with hk|hk
 ·refine wpAny_storeName_local hk hn (λh' hn' hs=>?_) hcls
  obtain⟨oL,_,_,hoL,_⟩:=id hn
  refine h _ ⟨I.ok,I.os,I.bare,⟨λb o e n hb hx=>?_,λb o e n hb hx=>?_,I.base.free,λb o e hx=>?_,I.base.tups,I.base.jZ,I.base.lX⟩,⟨_,hn',λj y v' e1 e2 e3=>?_⟩,λy c e=>?_,I.free,I.fW,λp hp=>?_,tracked ⟨oL,hoL,I.free⟩ hs,by simpa using I.len⟩ ⟨_,hs,.inl rfl⟩
  ·exact(hs.2 b (aam (aal (lt_size e) I.ok.above))).trans (I.base.keep b o e n hb hx)
  ·obtain⟨sl,e1⟩:=I.base.slot b o e n hb hx
   exact⟨sl,(hs.2 b (aam (aal (lt_size e) I.ok.above))).trans e1⟩
  ·obtain⟨o',e1⟩:=I.base.there b o e hx
   exact⟨o',(hs.2 b (aam (aal (lt_size e) I.ok.above))).trans e1⟩
  ·by_cases hj:j=i
   ·subst hj
    rw[hi] at e1;cases e1
    rw[getElem?_set_self M5] at e2
    cases e2
    exact⟨u,r,.inl ⟨hk,by simp⟩⟩
   ·rw[List.getElem?_set_ne (ab1 hj)] at e2
    obtain⟨u',r',q⟩:=hl j y v' e1 e2 e3
    refine⟨u',r',?_⟩
    rcases q with⟨k,e⟩|⟨k,c,e,z⟩
    ·refine .inl ⟨k,?_⟩
     have:y≠x:=λe=>hj (Yj hN e1 (e▸hi))
     simp[this,e]
    ·exact .inr ⟨k,c,e,z.sameBut hs (Hq y c e)⟩
  ·obtain⟨w',z⟩:=I.cell y c e
   exact⟨w',z.sameBut hs (Hq y c e)⟩
  ·obtain⟨e,n,ne,nf,d⟩:=I.pin p hp
   exact⟨(hs.2 p.1 ne).trans e,n,ne,nf,d⟩
 ·have hfn:X.fn x=true:=by
   rcases hf with z|z
   ·exact z
   ·rw[z] at hk;cases hk
  obtain⟨c,hc⟩:=I.ok.has x (.inl hk)
  obtain⟨w',z⟩:=I.cell x c hc
  refine wpAny_storeName_cell I.ok.kind hk hc z (λh' hc' hs=>?_)
  obtain⟨oc,hoc,Uv⟩:=id z
  refine h { s with heap:=h' } ⟨I.ok,I.os,I.bare,⟨λb o e n hb hx=>?_,λb o e n hb hx=>?_,I.base.free,λb o e hx=>?_,I.base.tups,I.base.jZ,I.base.lX⟩,⟨m,hn.sameBut hs (ab1 (Hq x c hc)),λj y v' e1 e2 e3=>?_⟩,λy c' e=>?_,I.free,I.fW,λp hp=>?_,tracked ⟨oc,hoc,I.fW x c hc⟩ hs,by simpa using I.len⟩ ⟨c,hs,.inr hc⟩
  ·exact(hs.2 b (aam (aal (lt_size e) (I.ok.cab x c hfn hc)))).trans (I.base.keep b o e n hb hx)
  ·obtain⟨sl,e1⟩:=I.base.slot b o e n hb hx
   exact⟨sl,(hs.2 b (aam (aal (lt_size e) (I.ok.cab x c hfn hc)))).trans e1⟩
  ·obtain⟨o',e1⟩:=I.base.there b o e hx
   exact⟨o',(hs.2 b (aam (aal (lt_size e) (I.ok.cab x c hfn hc)))).trans e1⟩
  ·by_cases hj:j=i
   ·subst hj
    rw[hi] at e1;cases e1
    rw[getElem?_set_self M5] at e2
    cases e2
    exact⟨u,r,.inr ⟨.inl hk,c,hc,hc'⟩⟩
   ·rw[List.getElem?_set_ne (ab1 hj)] at e2
    obtain⟨u',r',q⟩:=hl j y v' e1 e2 e3
    refine⟨u',r',?_⟩
    rcases q with q|⟨k,c',e,z'⟩
    ·exact .inl q
    ·refine .inr ⟨k,c',e,z'.sameBut hs ?_⟩
     rintro rfl
     exact hj (Yj hN e1 (I.ok.inj _ _ _ e hc▸hi))
  ·by_cases hcc:c'=c
   ·subst hcc;exact⟨_,hc'⟩
   ·obtain⟨w2,z2⟩:=I.cell y c' e
    exact⟨w2,z2.sameBut hs hcc⟩
  ·obtain⟨e,n,ne,nf,d⟩:=I.pin p hp
   refine⟨(hs.2 p.1 ?_).trans e,n,ne,nf,d⟩
   intro q
   rw[q,hoc] at e
   have q':oc=p.2:=aai e
   exact d w' (by rw[<-q'];exact Uv)
theorem Uw{Q:Unit->Shared->Prop}(I:Inv X pins σ H s)(hN:X.N.Nodup)(hi:X.N[i]?=some x)(hx:Loc X.env.scope x)(r:RelV v u)(h:∀s',Inv X pins (σ.set i (some v)) H s'->Q () s')(hf:X.fn x=true\/X.env.scope.names.lookup x=some .local:=by first|exact .inl rfl|exact .inr rfl|assumption):wpAny M A (storeName X.env x u) Q E s :=
 Yk I hN hi hx r (λs' I' _=>h s' I') hf
theorem Inv.call'{s':Shared}(I:Inv X pins σ H s)(ho:s'.os=s.os)(u:Un (frs X.stack) ch H H' s.heap s'.heap)(hok:fV X.prog X.w H' s'.heap)(hg:AllBare s'.gens)(hch:∀b∈ch,(b∈X.ex\/X.s₀.heap.objs.size<=b)/\b≠X.env.locals/\(∀x c,X.env.cells.lookup x=some c->c≠b)/\∀p∈X.pn++pins,p.1≠b):Inv X pins σ H' s':=by
 obtain⟨h',g',d',t',o'⟩:=s'
 have e:o'=s.os:=ho
 subst e
 exact I.call (g':=g') (t':=t') (d':=d') u hok hg hch
end
abbrev XK:=Value->Option Addr->Hp->Prop
abbrev St:=List (Option V)
abbrev VK:=V->Hp->Prop
abbrev TE:=St->Hp->VK->Prop
abbrev TT:=St->Hp->(Bool->Hp->Prop)->Prop
abbrev TA:=St->Hp->(List V->Hp->Prop)->Prop
structure Ends where
 nx:St->Hp->Prop
 rt:VK
 bk:St->Hp->Prop:=λ_ _=>False
 ct:St->Hp->Prop:=λ_ _=>False
abbrev TS:=Ends->St->Hp->Prop
def EP(X:Cx)(pins:List (Addr×Obj))(σ:St)(Q:VK)(u:Value)(s':Shared):Prop:=∃v H',Inv X pins σ H' s'/\RelV v u/\Q v H'
def TP(X:Cx)(pins:List (Addr×Obj))(σ:St)(Q:Bool->Hp->Prop)(b:Bool)(s':Shared):Prop:=∃H',Inv X pins σ H' s'/\Q b H'
def AP(X:Cx)(pins:List (Addr×Obj))(σ:St)(Q:List V->Hp->Prop)(us:List Value)(s':Shared):Prop:=∃vs H',Inv X pins σ H' s'/\Vals vs us/\Q vs H'
def SP(X:Cx)(pins:List (Addr×Obj))(D:Ends)(f:Flow)(s':Shared):Prop :=
 match f with
 |.next=>∃σ' H',Inv X pins σ' H' s'/\D.nx σ' H'
 |.brk=>∃σ' H',Inv X pins σ' H' s'/\D.bk σ' H'
 |.cont=>∃σ' H',Inv X pins σ' H' s'/\D.ct σ' H'
 |.ret u=>∃v σ' H',Inv X pins σ' H' s'/\RelV v u/\D.rt v H'
def PE(X:Cx)(e:Expr)(t:TE):Prop :=
 ∀(pins:List (Addr×Obj))(s:Shared)(σ:St)(H:Hp)(Q:VK),Inv X pins σ H s->t σ H Q->wpAny (model X.prog X.w) X.A (eval e X.env) (EP X pins σ Q) X.xe s
def PT(X:Cx)(e:Expr)(t:TT):Prop :=
 ∀(pins:List (Addr×Obj))(s:Shared)(σ:St)(H:Hp)(Q:Bool->Hp->Prop),Inv X pins σ H s->t σ H Q->wpAny (model X.prog X.w) X.A (isTrue e X.env (eval e X.env)) (TP X pins σ Q) X.xe s
def PW(X:Cx)(e:Expr)(t:TT):Prop :=
 ∀(whole:Sem Value)(pins:List (Addr×Obj))(s:Shared)(σ:St)(H:Hp)(Q:Bool->Hp->Prop),Inv X pins σ H s->t σ H Q->wpAny (model X.prog X.w) X.A (isTrue e X.env whole) (TP X pins σ Q) X.xe s
theorem PW.pt(h:PW X e t):PT X e t:=h _
def PA(X:Cx)(es:List Expr)(t:TA):Prop :=
 ∀(pos:Pos)(pins:List (Addr×Obj))(s:Shared)(σ:St)(H:Hp)(Q:List V->Hp->Prop),Inv X pins σ H s->t σ H Q->wpAny (model X.prog X.w) X.A (spliced (backTo pos (starEach es X.env))) (AP X pins σ Q) X.xe s
def PS(X:Cx)(st:Stmt)(t:TS):Prop :=
 ∀(pins:List (Addr×Obj))(s:Shared)(σ:St)(H:Hp)(D:Ends),Inv X pins σ H s->t D σ H->wpAny (model X.prog X.w) X.A (exec st X.env) (SP X pins D) X.xe s
def oE(X:Cx)(st:List Stmt)(t:TS):Prop :=
 ∀(pins:List (Addr×Obj))(s:Shared)(σ:St)(H:Hp)(D:Ends),Inv X pins σ H s->t D σ H->wpAny (model X.prog X.w) X.A (execs st X.env) (SP X pins D) X.xe s
theorem aL{α:Type}{t:Sem α}{Q Q':α->Shared->Prop}(h:wpAny M A t Q E s)(hQ:∀a s,Q a s->Q' a s):wpAny M A t Q' E s:=abj h hQ λ_ _ x=>x
section
variable{X:Cx}
def cT(i:Nat):TE:=λσ H Q=>∃v,σ[i]?=some (some v)/\Q v H
def tC(v:V):TE:=λ_ H Q=>Q v H
theorem Hr(hN:X.N[i]?=some x)(hv:MN X.env.scope x)(hd:(x==("__debug__":Str))=false:=by decide)(hcd:(x==("__classdict__":Str))=false:=by decide):PE X (.Name x pos) (cT i):=by
 intro pins s σ H Q I h
 obtain⟨v,e,h⟩:=h
 obtain⟨m,hn,hl⟩:=I.loc
 obtain⟨u,r,l⟩:=hl i x v hN e hv
 have fin:EP X pins σ Q u s:=⟨v,H,I,r,h⟩
 rcases l with⟨hk,hm⟩|⟨hk,c,hc,hcell⟩
 ·exact wpAny_Name (wpAny_loadName_local I.ok.kind hk hn hm fin) hd
 ·rcases hk with hk|hk
  ·exact wpAny_Name (wpAny_loadName_cell I.ok.kind hk hc hcell fin) hd
  ·exact wpAny_Name (wpAny_loadName_free I.ok.kind hk hc hcell fin hcd) hd
theorem zO{i j pos}:PE X (.Constant (.int i) j pos) (tC (.int i)):=λ_ _ _ H _ I h=>wpAny_Constant_int ⟨.int i,H,I.tok _,⟨_,rfl⟩,h⟩
theorem yg{b j pos}:PE X (.Constant (.bool b) j pos) (tC (.bl b)):=λ_ _ _ H _ I h=>Constant_bool ⟨.bl b,H,I,rfl,h⟩
theorem Ym{j pos}:PE X (.Constant .none j pos) (tC .non):=λ_ _ _ H _ I h=>aer ⟨.non,H,I,rfl,h⟩
theorem yS{x j pos}:PE X (.Constant (.str x) j pos) (tC (.str x)):=λ_ _ _ H _ I h=>Calls.Constant_str ⟨.str x,H,I.tok _,⟨_,rfl⟩,h⟩
def Gl(X:Cx)(x:Str):Prop:=X.env.kindOf x=some .globalImplicit
theorem M6{Q:Value->Shared->Prop}(I:Inv X pins σ H s)(hg:Gl X x)(hm:X.mg x=some u)(h:Q u s)(hd:(x==("__debug__":Str))=false:=by decide):wpAny (model X.prog X.w) X.A (eval (.Name x pos) X.env) Q E s :=
 Calls.Name_function_global I.ok.kind hg (Calls.loadGlobal_global (by rw[I.ok.glob];exact I.mod.glob.keeps I.bk) hm h) hd
theorem yh{Q:Value->Shared->Prop}(I:Inv X pins σ H s)(hg:Gl X x)(hm:X.mg x=none)(hv:bootBuiltins x=some u)(h:Q u s)(hn:x ≠ "__name__":=by decide)(hd:(x==("__debug__":Str))=false:=by decide):wpAny (model X.prog X.w) X.A (eval (.Name x pos) X.env) Q E s:=by
 obtain⟨mb,h1,h2⟩:=I.mod.blt
 exact Calls.Name_function_global I.ok.kind hg (Calls.loadGlobal_builtin (by rw[I.ok.glob];exact I.mod.glob.keeps I.bk) hm (by rw[I.ok.blt];exact h1.keeps I.bk) ((h2 x hn).trans hv) h) hd
theorem uR(hg:Gl X x)(hm:X.mg x=some u)(r:RelV v u)(hd:(x==("__debug__":Str))=false:=by decide):PE X (.Name x pos) (tC v) :=
 λ_ _ _ H _ I h=>M6 I hg hm ⟨v,H,I,r,h⟩ hd
theorem K8(hg:Gl X x)(hm:X.mg x=none)(hv:bootBuiltins x=some u)(r:RelV v u)(hn:x ≠ "__name__":=by decide)(hd:(x==("__debug__":Str))=false:=by decide):PE X (.Name x pos) (tC v) :=
 λ_ _ _ H _ I h=>yh I hg hm hv ⟨v,H,I,r,h⟩ hn hd
variable{a b:Expr}{ta tb:TE}{pos:Pos}
def PC(X:Cx)(op:CmpOp)(a b:Expr)(t:TE):Prop :=
 ∀(pins:List (Addr×Obj))(s:Shared)(σ:St)(H:Hp)(Q:VK),Inv X pins σ H s->t σ H Q ->
  wpAny (model X.prog X.w) X.A (eval a X.env) (λv s₁=>wpAny (model X.prog X.w) X.A (eval b X.env) (λu s₂=>wpAny (model X.prog X.w) X.A (compareOp op v u) (EP X pins σ Q) X.xe s₂) X.xe s₁) X.xe s
theorem Yn(b:Expr)(h:op≠.In)(h2:op≠.NotIn):behindInMarks op b=false:=by
 have e1:(op==CmpOp.In)=false:=by cases op<;>first|rfl|exact absurd rfl h
 have e2:(op==CmpOp.NotIn)=false:=by cases op<;>first|rfl|exact absurd rfl h2
 cases b<;>simp[behindInMarks,e1,e2]
def M7(ta:TE):TE:=λσ H Q=>ta σ H λx H1=>Q (.bl (decide (x=.non))) H1
def EY(ta:TE):TE:=λσ H Q=>ta σ H λx H1=>Q (.bl (!decide (x=.non))) H1
theorem RelV.oF(r:RelV x v):(v==acv)=decide (x=.non):=by
 cases x with
 |non=>cases r;rfl
 |bl _=>cases r;rfl
 |int _=>obtain⟨t,rfl⟩:=r;rfl
 |str _=>obtain⟨t,rfl⟩:=r;rfl
 |zp _=>obtain⟨t,rfl⟩:=r;rfl
 |flt _=>obtain⟨t,rfl⟩:=r;rfl
 |ref _=>cases r;rfl
 |ty _=>cases r;rfl
theorem Rr{j pos'}(ha:PE X a ta):PC X .Is a (.Constant .none j pos') (M7 ta):=by
 intro pins s σ H Q I h
 refine aL (ha pins s σ H _ I h) λv s1 ⟨x,H1,I1,r1,q1⟩=>?_
 exact aer (is_none_gen ⟨.bl _,H1,I1,by rw[r1.oF];rfl,q1⟩)
theorem z_{j pos'}(ha:PE X a ta):PC X .IsNot a (.Constant .none j pos') (EY ta):=by
 intro pins s σ H Q I h
 refine aL (ha pins s σ H _ I h) λv s1 ⟨x,H1,I1,r1,q1⟩=>?_
 exact aer (isnot_none_gen ⟨.bl _,H1,I1,by rw[r1.oF];rfl,q1⟩)
def tB(t:TE):TT:=λσ H Q=>t σ H λx H1=>∃c,x=.bl c/\Q c H1
theorem Hs(h:PC X op a b t)(h1:behindInMarks op b=false:=by first|exact Yn _ (by decide) (by decide)|rfl):PE X (.Compare a [op] [b] pos) t:=λpins s σ H Q I hw=>wpAny_Compare1 (h pins s σ H Q I hw) h1
theorem E_(h:PC X op a b t)(h1:behindInMarks op b=false:=by first|exact Yn _ (by decide) (by decide)|rfl):PT X (.Compare a [op] [b] pos) (tB t):=by
 intro pins s σ H Q I hw
 refine wpAny_isTrue_Compare1 (aL (h pins s σ H _ I hw) λv s1 h1=>aL h1 λu s2 h2=>aL h2 λc s3 ⟨x,H1,I1,r1,q1⟩=>?_) h1
 obtain⟨d,rfl,q⟩:=q1
 cases r1
 exact abl ⟨H1,I1,q⟩
theorem uG(h:PE X e t)(he:∀whole,isTrue e X.env whole=(do let v <-whole;standAt e.pos;holding [v] (truthy v)):=by intro _;rfl):PT X e (tB t):=by
 intro pins s σ H Q I hw
 refine isTrue_plain (aL (h pins s σ H _ I hw) λv s1 ⟨x,H1,I1,r1,q1⟩=>?_) (he _)
 obtain⟨d,rfl,q⟩:=q1
 cases r1
 exact abl ⟨H1,I1,q⟩
variable{tA Ru:TT}{rest:List Expr}
def M8(t u:TT):TT:=λσ H Q=>t σ H λc H1=>if c=true then u σ H1 Q else Q false H1
def Yo(t u:TT):TT:=λσ H Q=>t σ H λc H1=>if c=true then Q true H1 else u σ H1 Q
def M9(t:TT):TT:=λσ H Q=>t σ H λc H1=>Q (!c) H1
theorem pw_and1(ha:PT X a tA):PW X (.BoolOp .And [a] pos) tA:=by
 intro wh pins s σ H Q I h
 refine isTrue_and (aL (ha pins s σ H Q I h) λc s1 e=>?_)
 cases c with
 |true=>exact isTrue_and_nil e
 |false=>exact e
theorem pw_or1(ha:PT X a tA):PW X (.BoolOp .Or [a] pos) tA:=by
 intro wh pins s σ H Q I h
 refine isTrue_or (aL (ha pins s σ H Q I h) λc s1 e=>?_)
 cases c with
 |false=>exact isTrue_or_nil e
 |true=>exact e
theorem pw_and(ha:PT X a tA)(hb:PW X (.BoolOp .And (b::rest) pos) Ru):PW X (.BoolOp .And (a::b::rest) pos) (M8 tA Ru):=by
 intro wh pins s σ H Q I h
 refine isTrue_and (aL (ha pins s σ H _ I h) λc s1 ⟨H1,I1,q1⟩=>?_)
 cases c with
 |true=>exact hb wh pins s1 σ H1 Q I1 q1
 |false=>exact⟨H1,I1,q1⟩
theorem pw_or(ha:PT X a tA)(hb:PW X (.BoolOp .Or (b::rest) pos) Ru):PW X (.BoolOp .Or (a::b::rest) pos) (Yo tA Ru):=by
 intro wh pins s σ H Q I h
 refine isTrue_or (aL (ha pins s σ H _ I h) λc s1 ⟨H1,I1,q1⟩=>?_)
 cases c with
 |true=>exact⟨H1,I1,q1⟩
 |false=>exact hb wh pins s1 σ H1 Q I1 q1
theorem M_(ha:PT X a tA):PT X (.UnaryOp .Not a pos) (M9 tA):=by
 intro pins s σ H Q I h
 exact isTrue_not (ha pins s σ H (λc H1=>Q (!c) H1) I h)
def Fb(ta tb:TE):TE:=λσ H Q=>ta σ H λx H1=>∃c,x=.bl c/\if c=true then tb σ H1 Q else Q (.bl false) H1
def Nb(ta tb:TE):TE:=λσ H Q=>ta σ H λx H1=>∃c,x=.bl c/\if c=true then Q (.bl true) H1 else tb σ H1 Q
def Fd(ta:TE):TE:=λσ H Q=>ta σ H λx H1=>∃c,x=.bl c/\Q (.bl (!c)) H1
theorem Nf{op}(h:PE X a t):PE X (.BoolOp op [a] pos) t:=λpins s σ H Q I hw=>BoolOp_one (h pins s σ H Q I hw)
theorem Ng(ha:PE X a ta)(hb:PE X (.BoolOp .And (b::rest) pos) tb):PE X (.BoolOp .And (a::b::rest) pos) (Fb ta tb):=by
 intro pins s σ H Q I h
 refine BoolOp_and (aL (ha pins s σ H _ I h) λv s1 ⟨x,H1,I1,r1,q1⟩=>?_)
 obtain⟨c,rfl,q1⟩:=q1
 cases r1
 refine abl ?_
 cases c with
 |true=>exact hb pins s1 σ H1 Q I1 q1
 |false=>exact⟨.bl false,H1,I1,rfl,q1⟩
theorem Nh(ha:PE X a ta)(hb:PE X (.BoolOp .Or (b::rest) pos) tb):PE X (.BoolOp .Or (a::b::rest) pos) (Nb ta tb):=by
 intro pins s σ H Q I h
 refine BoolOp_or (aL (ha pins s σ H _ I h) λv s1 ⟨x,H1,I1,r1,q1⟩=>?_)
 obtain⟨c,rfl,q1⟩:=q1
 cases r1
 refine abl ?_
 cases c with
 |false=>exact hb pins s1 σ H1 Q I1 q1
 |true=>exact⟨.bl true,H1,I1,rfl,q1⟩
theorem Yp(ha:PE X a ta):PE X (.UnaryOp .Not a pos) (Fd ta):=by
 intro pins s σ H Q I h
 refine UnaryOp_ (aL (ha pins s σ H _ I h) λv s1 ⟨x,H1,I1,r1,q1⟩=>?_)
 obtain⟨c,rfl,q1⟩:=q1
 cases r1
 exact not_of (abl ⟨.bl (!c),H1,I1,rfl,q1⟩)
def Yq(t:TT)(ta tb:TE):TE:=λσ H Q=>t σ H λc H1=>if c=true then ta σ H1 Q else tb σ H1 Q
theorem Yr(hc:PT X c tA)(ha:PE X a ta)(hb:PE X b tb):PE X (.IfExp c a b pos) (Yq tA ta tb):=by
 intro pins s σ H Q I h
 refine wpAny_IfExp (aL (hc pins s σ H _ I h) λd s1 ⟨H1,I1,q1⟩=>?_)
 cases d with
 |true=>exact ha pins s1 σ H1 Q I1 q1
 |false=>exact hb pins s1 σ H1 Q I1 q1
end
def aV(K:PySem.W.Frag)(H:Hp)(a:Addr)(xs:List V):Prop :=
 Rd H a (.lst xs) \/
  ∃(o:Obj)(its:Array Value)(n:Nat),K.lookup a=some o/\o.cls=.type "list" /\ o.dict=none/\o.data=.seq its n/\its.size<=sizeLine/\Vals xs its.toList
def gZ(K:PySem.W.Frag)(H:Hp)(a:Addr)(xs:List V):Prop :=
 Rd H a (.tup xs) \/
  ∃(o:Obj)(its:Array Value)(n:Nat),K.lookup a=some o/\o.cls=.type "tuple" /\ o.data=.seq its n/\its.size<=sizeLine/\Vals xs its.toList
def Ux:Value->Option V
 |.none=>some .non
 |.bool b=>some (.bl b)
 |.int i _=>some (.int i)
 |.str x _=>some (.str x)
 |.bytes b _=>some (.zp b)
 |.float b _=>some (.flt b)
 |.ref a=>some (.ref a)
 |.type n=>some (.ty n)
 |_=>none
theorem RelV.abs(r:RelV x u):Ux u=some x:=by
 cases x with
 |non=>cases r;rfl
 |bl _=>cases r;rfl
 |int _=>obtain⟨t,rfl⟩:=r;rfl
 |str _=>obtain⟨t,rfl⟩:=r;rfl
 |zp _=>obtain⟨t,rfl⟩:=r;rfl
 |flt _=>obtain⟨t,rfl⟩:=r;rfl
 |ref _=>cases r;rfl
 |ty _=>cases r;rfl
theorem RelV.inj(r:RelV x u)(q:RelV y u):x=y:=aai (r.abs.symm.trans q.abs)
theorem Vals.inj:∀{xs ys:List V}{us:List Value},Vals xs us->Vals ys us->xs=ys
 |_,_,_,.nil,.nil=>rfl
 |_,_,_,.cons r t,.cons r' t'=>by rw[r.inj r',Vals.inj t t']
section
variable{X:Cx}{pins:List (Addr×Obj)}{σ:St}{H:Hp}{s:Shared}{a:Addr}{xs ys:List V}
theorem aV.of{K:PySem.W.Frag}(h:H a=some (.lst xs)):aV K H a xs:=.inl (.inl h)
theorem gZ.of{K:PySem.W.Frag}(h:H a=some (.tup xs)):gZ K H a xs:=.inl (.inl h)
theorem Inv.list(I:Inv X pins σ H s)(h:aV X.K H a xs):∃its:List Value,Vals xs its/\PlainL s.heap a its.toArray/\xs.length<=sizeLine:=by
 rcases h with h|⟨o,its,n,hk,hc,hd,hs,hz,r⟩
 ·obtain⟨z,its,n,r,e⟩:=h.ok I.hok
  exact⟨its,r,⟨_,n,e,rfl,rfl,rfl⟩,z⟩
 ·refine⟨its.toList,r,⟨o,n,I.iT a o hk,hc,hd,by simpa using hs⟩,?_⟩
  have e:=r.length
  simp only[length_toList] at e
  omega
theorem Inv.tuple(I:Inv X pins σ H s)(h:gZ X.K H a xs):∃its:List Value,Vals xs its/\IsTup s.heap a its.toArray/\xs.length<=sizeLine:=by
 rcases h with h|⟨o,its,n,hk,hc,hs,hz,r⟩
 ·obtain⟨z,its,r,p⟩:=h.ok I.hok
  exact⟨its,r,p,z⟩
 ·refine⟨its.toList,r,⟨o,I.iT a o hk,hc,n,by simpa using hs⟩,?_⟩
  have e:=r.length
  simp only[length_toList] at e
  omega
theorem Inv.j4(I:Inv X pins σ H s)(h:aV X.K H a xs)(h':aV X.K H a ys):xs=ys:=by
 obtain⟨its,r,⟨o,n,e,_,_,d⟩,_⟩:=I.list h
 obtain⟨its',r',⟨o',n',e',_,_,d'⟩,_⟩:=I.list h'
 rw[e] at e';cases e'
 rw[d] at d'
 injection d' with d1 _
 have:its=its':=by simpa using congrArg toList d1
 subst this
 exact r.inj r'
theorem Inv.qO(I:Inv X pins σ H s)(h:gZ X.K H a xs)(h':gZ X.K H a ys):xs=ys:=by
 obtain⟨its,r,⟨o,e,_,n,d⟩,_⟩:=I.tuple h
 obtain⟨its',r',⟨o',e',_,n',d'⟩,_⟩:=I.tuple h'
 rw[e] at e';cases e'
 rw[d] at d'
 injection d' with d1 _
 have:its=its':=by simpa using congrArg toList d1
 subst this
 exact r.inj r'
end
abbrev Cx.wish(X:Cx)(E:Value->Shared->Prop):Cx:={ X with xe:=E }
abbrev Cx.Aa(X:Cx):Cx:=X.wish λ_ _=>False
theorem Cx.Ok.wish{X:Cx}(ok:X.Ok)(E:Value->Shared->Prop):(X.wish E).Ok :=
 ⟨ok.mod,ok.kind,ok.glob,ok.blt,ok.above,ok.inj,ok.has,ok.cab,ok.hd,ok.frames,ok.stk,ok.Ro,ok.bs,ok.zy,ok.sV,ok.sW,ok.jO,ok.Hl⟩
theorem Cx.Ok.fX{X:Cx}(ok:(X.wish E).Ok):X.Ok :=
 ⟨ok.mod,ok.kind,ok.glob,ok.blt,ok.above,ok.inj,ok.has,ok.cab,ok.hd,ok.frames,ok.stk,ok.Ro,ok.bs,ok.zy,ok.sV,ok.sW,ok.jO,ok.Hl⟩
section
variable{X:Cx}{pins:List (Addr×Obj)}{σ:St}{H:Hp}{s:Shared}{E:Value->Shared->Prop}
theorem Inv.wish(I:Inv X pins σ H s)(E:Value->Shared->Prop):Inv (X.wish E) pins σ H s:=⟨I.ok.wish E,I.os,I.bare,I.base,I.loc,I.cell,I.free,I.fW,I.pin,I.hok,I.len⟩
theorem Inv.fX(I:Inv (X.wish E) pins σ H s):Inv X pins σ H s:=⟨I.ok.fX,I.os,I.bare,I.base,I.loc,I.cell,I.free,I.fW,I.pin,I.hok,I.len⟩
theorem SP.fX(h:SP (X.wish E) pins D f s'):SP X pins D f s':=by
 cases f with
 |next=>obtain⟨σ',H',I,q⟩:=h;exact⟨σ',H',I.fX,q⟩
 |brk=>obtain⟨σ',H',I,q⟩:=h;exact⟨σ',H',I.fX,q⟩
 |cont=>obtain⟨σ',H',I,q⟩:=h;exact⟨σ',H',I.fX,q⟩
 |ret u=>obtain⟨v,σ',H',I,r,q⟩:=h;exact⟨v,σ',H',I.fX,r,q⟩
theorem oE.Aa{st:List Stmt}{t:TS}(h:oE X.Aa st t):oE X st t:=λpins s σ H D I hw =>
 abj (h pins s σ H D (I.wish _) hw) (λ_ _ q=>q.fX) λ_ _ z=>abb z
end
section
variable{X:Cx}{st:Stmt}{rest:List Stmt}{t u:TS}{e:Expr}{te:TE}{pos:Pos}
def Fe:TS:=λD σ H=>D.nx σ H
def iw(t u:TS):TS:=λD σ H=>t { D with nx:=u D } σ H
theorem zF:oE X [] Fe:=λ_ _ σ H _ I h=>ady ⟨σ,H,I,h⟩
theorem zB(h1:PS X st t)(h2:oE X rest u):oE X (st::rest) (iw t u):=by
 intro pins s σ H D I h
 refine wpAny_execs_cons (aL (h1 pins s σ H { D with nx:=u D } I h) λf s1 q=>?_)
 cases f with
 |next =>
  obtain⟨σ',H',I',q⟩:=q
  exact h2 pins s1 σ' H' D I' q
 |ret v=>exact q
 |brk=>exact q
 |cont=>exact q
theorem yW(h1:PS X st t):oE X [st] t:=by
 intro pins s σ H D I h
 refine wpAny_execs_cons (aL (h1 pins s σ H D I h) λf s1 q=>?_)
 cases f with
 |next=>exact ady q
 |ret v=>exact q
 |brk=>exact q
 |cont=>exact q
theorem Inv.quiet(I:Inv X pins σ H s):interactive X.env=false:=by simp[interactive,I.ok.kind]
def Ht(te:TE):TS:=λD σ H=>te σ H λ_ H1=>D.nx σ H1
theorem zY(he:PE X e te)(hs:swapsWith e none pos.line X.env=pure false:=by rfl):PS X (.Expr e pos) (Ht te):=by
 intro pins s σ H D I h
 exact wpAny_Expr_any (aL (he pins s σ H _ I h) λv s1 ⟨x,H1,I1,r1,q1⟩=>⟨σ,H1,I1,q1⟩) I.quiet hs
def sX(te:TE):TS:=λD σ H=>te σ H D.rt
theorem zT(he:PE X e te):PS X (.Return (some e) pos) (sX te):=by
 intro pins s σ H D I h
 exact wpAny_Return_some (aL (he pins s σ H _ I h) λv s1 ⟨x,H1,I1,r1,q1⟩=>⟨x,σ,H1,I1,r1,q1⟩)
def qP(c:TT)(t u:TS):TS:=λD σ H=>c σ H λb H1=>if b=true then t D σ H1 else u D σ H1
theorem xP(hc:PT X c tc)(ha:oE X a t)(hb:oE X b u):PS X (.If c a b pos) (qP tc t u):=by
 intro pins s σ H D I h
 refine wpAny_If (aL (hc pins s σ H _ I h) λd s1 ⟨H1,I1,q1⟩=>?_)
 cases d with
 |true=>exact ha pins s1 σ H1 D I1 q1
 |false=>exact hb pins s1 σ H1 D I1 q1
def Uy:TS:=λ_ _ _=>False
theorem vJ:oE X sts Uy:=λ_ _ _ _ _ _ h=>h.elim
end
abbrev TG:=V->St->Hp->(St->Hp->Prop)->Prop
abbrev K9:=List V->St->Hp->(St->Hp->Prop)->Prop
def PG(X:Cx)(target:Expr)(t:TG):Prop :=
 ∀(pins:List (Addr×Obj))(s:Shared)(σ:St)(H:Hp)(v:V)(u:Value)(Q:St->Hp->Prop),Inv X pins σ H s->RelV v u->t v σ H Q ->
  wpAny (model X.prog X.w) X.A (assign target X.env u) (λ_ s'=>∃σ' H',Inv X pins σ' H' s'/\Q σ' H') X.xe s
def Ni(X:Cx)(ts:List Expr)(t:K9):Prop :=
 ∀(pins:List (Addr×Obj))(s:Shared)(σ:St)(H:Hp)(vs:List V)(us:List Value)(Q:St->Hp->Prop),Inv X pins σ H s->Vals vs us->t vs σ H Q ->
  wpAny (model X.prog X.w) X.A (assignInOrder ((assignEach ts X.env).map (·.2)) us) (λ_ s'=>∃σ' H',Inv X pins σ' H' s'/\Q σ' H') X.xe s
abbrev Hu:=V->V->V->Hp->(Hp->Prop)->Prop
def Hv(X:Cx)(t:Hu):Prop :=
 ∀(pins:List (Addr×Obj))(s:Shared)(σ:St)(H:Hp)(o i v:V)(ov iv u:Value)(Q:Hp->Prop),Inv X pins σ H s->RelV o ov->RelV i iv->RelV v u->t o i v H Q ->
  wpAny (model X.prog X.w) X.A (setItem ov iv u) (λ_ s'=>∃H',Inv X pins σ H' s'/\Q H') X.xe s
abbrev Rv:=V->V->Hp->VK->Prop
def Rw(X:Cx)(op:Operator)(t:Rv):Prop :=
 ∀(pins:List (Addr×Obj))(s:Shared)(σ:St)(H:Hp)(x y:V)(v u:Value)(Q:VK),Inv X pins σ H s->RelV x v->RelV y u->t x y H Q ->
  wpAny (model X.prog X.w) X.A (inplaceOp op v u) (EP X pins σ Q) X.xe s
section
variable{X:Cx}{pos:Pos}
def pL(i:Nat):TG:=λv σ H Q=>Q (σ.set i (some v)) H
theorem yM(hN:X.N.Nodup)(hi:X.N[i]?=some x)(hx:Loc X.env.scope x)(hf:X.fn x=true\/X.env.scope.names.lookup x=some .local:=by first|exact .inl rfl|exact .inr rfl|assumption):PG X (.Name x pos) (pL i):=by
 intro pins s σ H v u Q I r h
 exact wpAny_assign_Name (Uw I hN hi hx r (λs' I'=>⟨_,H,I',h⟩) hf)
def Nj:K9:=λvs σ H Q=>vs=[]/\Q σ H
def sY(t:TG)(u:K9):K9:=λvs σ H Q=>∃v r,vs=v::r/\t v σ H λσ' H'=>u r σ' H' Q
theorem Hw:Ni X [] Nj:=by
 intro pins s σ H vs us Q I r h
 obtain⟨e,h⟩:=h
 subst e
 cases r
 exact assignInOrder_nil ⟨σ,H,I,h⟩
theorem xD(h1:PG X e t)(h2:Ni X es u)(hs:(assignEach (e::es) X.env).map (·.2)=assign e X.env::(assignEach es X.env).map (·.2):=by rfl):Ni X (e::es) (sY t u):=by
 intro pins s σ H vs us Q I r h
 obtain⟨v,vr,e1,h⟩:=h
 subst e1
 cases r with
 |cons r rr =>
  rw[hs]
  refine assignInOrder_cons (aL (h1 pins s σ H _ _ _ I r h) λ_ s1 ⟨σ1,H1,I1,q1⟩=>?_)
  exact h2 pins s1 σ1 H1 _ _ Q I1 rr q1
def Hx(K:PySem.W.Frag)(n:Nat)(t:K9):TG:=λv σ H Q=>∃a xs,v=.ref a/\gZ K H a xs/\xs.length=n/\t xs σ H Q
theorem K_(hc:X.calm=true)(h:Ni X es t)(hn:(assignEach es X.env).length=n:=by rfl)(hst:(assignEach es X.env).findIdx? (·.1)=none:=by rfl):PG X (.Tuple es k pos) (Hx X.K n t):=by
 intro pins s σ H v u Q I r hw
 obtain⟨a,xs,e1,hq,hl,hw⟩:=hw
 subst e1
 cases r
 obtain⟨its,rv,ht,hz⟩:=I.tuple hq
 refine assign_Tuple_tuple (I.ok.hd hc) ht (by simp[hn,<-hl,rv.length]) hst λh' hx=>?_
 have I1:Inv X pins σ H { s with heap:=h' }:=I.kept (t':=s.toks) λb o e=>hx b o (aam (lt_size e)) e
 exact h pins _ σ H xs _ Q I1 (by simpa using rv) hw
def Nk(to ti:TE)(t:Hu):TG:=λv σ H Q=>to σ H λo H1=>ti σ H1 λi H2=>t o i v H2 λH3=>Q σ H3
theorem Rx(ho:PE X o to)(hi:PE X i ti)(hs:Hv X t)(ha:∀v,assign (.Subscript o i pos) X.env v=(do
   let ov <-holding [v] (eval o X.env)
   let iv <-holding [v,ov] (eval i X.env)
   standAt pos
   holding [v,ov,iv] (setItem ov iv v)
   release [v,ov,iv] []):=by intro _;rfl):PG X (.Subscript o i pos) (Nk to ti t):=by
 intro pins s σ H v u Q I r h
 rw[ha]
 refine aad (aa3 (aL (ho pins s σ H _ I h) λov s1 ⟨x,H1,I1,r1,q1⟩=>?_))
 refine aad (aa3 (aL (hi pins s1 σ H1 _ I1 q1) λiv s2 ⟨y,H2,I2,r2,q2⟩=>?_))
 refine aad (aes (aad (aa3 (aL (hs pins s2 σ H2 x y v ov iv u _ I2 r1 r2 r q2) λ_ s3 ⟨H3,I3,q3⟩=>?_))))
 exact wpAny_release ⟨σ,H3,I3,q3⟩
def m7(te:TE)(g:TG):TS:=λD σ H=>te σ H λx H1=>g x σ H1 D.nx
theorem Ry(he:PE X e te)(hg:PG X tg g)(hs:swapsWithSole [tg] e pos.line X.env=pure false:=by rfl)(hw:swappedStores [tg] e X.env=pure none:=by rfl)(h1:(assignEach [tg] X.env).map (·.2)=[assign tg X.env]:=by rfl):PS X (.Assign [tg] e pos) (m7 te g):=by
 intro pins s σ H D I h
 refine wpAny_Assign_stores (aL (he pins s σ H _ I h) λv s1 ⟨x,H1,I1,r1,q1⟩=>?_) hs hw
 rw[h1]
 exact aL (hg pins s1 σ H1 x v _ I1 r1 q1) λ_ s2 q=>q
theorem Uz(hN:X.N.Nodup)(hi:X.N[i]?=some x)(hx:Loc X.env.scope x)(he:PE X e te)(hs:swapsWith e (some (.Name x pos')) pos.line X.env=pure false:=by rfl)(hf:X.fn x=true\/X.env.scope.names.lookup x=some .local:=by first|exact .inl rfl|exact .inr rfl|assumption) :
  PS X (.Assign [.Name x pos'] e pos) (m7 te (pL i)):=by
 intro pins s σ H D I h
 refine wpAny_Assign_Name (aL (he pins s σ H _ I h) λv s1 ⟨y,H1,I1,r1,q1⟩=>?_) hs
 exact Uw I1 hN hi hx r1 (λs2 I2=>⟨_,H1,I2,q1⟩) hf
def Nm(i:Nat)(te:TE)(ti:Rv):TS:=λD σ H=>∃x,σ[i]?=some (some x)/\te σ H λy H1=>ti x y H1 λz H2=>D.nx (σ.set i (some z)) H2
theorem Ys(hN:X.N.Nodup)(hi:X.N[i]?=some x)(hx:Loc X.env.scope x)(he:PE X e te)(ho:Rw X op ti)(hf:X.fn x=true\/X.env.scope.names.lookup x=some .local:=by first|exact .inl rfl|exact .inr rfl|assumption) :
  PS X (.AugAssign (.Name x pos') op e pos) (Nm i te ti):=by
 intro pins s σ H D I h
 obtain⟨v,e1,h⟩:=h
 obtain⟨m,hn,hl⟩:=I.loc
 have vis:MN X.env.scope x:=by rcases hx with k|k;exact .inl k;exact .inr (.inl k)
 obtain⟨u,r,l⟩:=hl i x v hi e1 vis
 refine wpAny_AugAssign_Name ?_
 have go:wpAny (model X.prog X.w) X.A (eval e X.env) (λw s₂=>wpAny (model X.prog X.w) X.A (inplaceOp op u w) (λr s₃=>wpAny (model X.prog X.w) X.A (storeName X.env x r) (λ_=>SP X pins D .next) X.xe s₃) X.xe s₂) X.xe s:=by
  refine aL (he pins s σ H _ I h) λw s1 ⟨y,H1,I1,r1,q1⟩=>?_
  refine aL (ho pins s1 σ H1 v y u w _ I1 r r1 q1) λz s2 ⟨zv,H2,I2,r2,q2⟩=>?_
  exact Uw I2 hN hi hx r2 (λs3 I3=>⟨_,H2,I3,q2⟩) hf
 rcases l with⟨hk,hm⟩|⟨hk,c,hc,hcell⟩
 ·exact wpAny_loadName_local I.ok.kind hk hn hm go
 ·rcases hk with hk|hk
  ·exact wpAny_loadName_cell I.ok.kind hk hc hcell go
  ·rcases hx with k|k
   ·have:X.env.scope.names.lookup x=some .free:=hk
    rw[k] at this;cases this
   ·have:X.env.scope.names.lookup x=some .free:=hk
    rw[k] at this;cases this
def Fg(to ti te:TE)(Hy:V->V->Hp->VK->Prop)(UG:Rv)(Hz:Hu):TS:=λD σ H=>to σ H λo H1=>ti σ H1 λi H2=>Hy o i H2 λx H3=>te σ H3 λy H4=>UG x y H4 λz H5=>Hz o i z H5 λH6=>D.nx σ H6
def Np(X:Cx)(t:V->V->Hp->VK->Prop):Prop :=
 ∀(pins:List (Addr×Obj))(s:Shared)(σ:St)(H:Hp)(o i:V)(ov iv:Value)(Q:VK),Inv X pins σ H s->RelV o ov->RelV i iv->t o i H Q ->
  wpAny (model X.prog X.w) X.A (getItem ov iv) (EP X pins σ Q) X.xe s
theorem Ab(ho:PE X o to)(hi:PE X i ti)(hg:Np X Hy)(he:PE X e te)(hp:Rw X op UG)(hs:Hv X Hz)(ha:∀ov iv new,augStore i ov iv new=(do holding [new,ov,iv] (setItem ov iv new);release [new,ov,iv] [];pure .next):=by intros;rfl):PS X (.AugAssign (.Subscript o i tpos) op e pos) (Fg to ti te Hy UG Hz):=by
 intro pins s σ H D I h
 refine wpAny_AugAssign_SubscriptAny (aL (ho pins s σ H _ I h) λov s1 ⟨x1,H1,I1,r1,q1⟩=>?_) ha
 refine aL (hi pins s1 σ H1 _ I1 q1) λiv s2 ⟨x2,H2,I2,r2,q2⟩=>?_
 refine aL (hg pins s2 σ H2 x1 x2 ov iv _ I2 r1 r2 q2) λold s3 ⟨x3,H3,I3,r3,q3⟩=>?_
 refine aL (he pins s3 σ H3 _ I3 q3) λv s4 ⟨x4,H4,I4,r4,q4⟩=>?_
 refine aL (hp pins s4 σ H4 x3 x4 old v _ I4 r3 r4 q4) λnew s5 ⟨x5,H5,I5,r5,q5⟩=>?_
 exact aL (hs pins s5 σ H5 x1 x2 x5 ov iv new _ I5 r1 r2 r5 q5) λ_ s6 ⟨H6,I6,q6⟩=>⟨σ,H6,I6,q6⟩
def RB(f:Int->Int->Int):Rv:=λx y H Q=>∃i j,x=.int i/\y=.int j/\Q (.int (f i j)) H
theorem HB:Rw X .Add (RB λi j=>i+j):=by
 intro pins s σ H x y v u Q I r1 r2 h
 obtain⟨i,j,e1,e2,q⟩:=h
 subst e1;subst e2
 obtain⟨t,rfl⟩:=r1
 obtain⟨t',rfl⟩:=r2
 exact iadd_int ⟨.int _,H,I.tok _,⟨_,rfl⟩,q⟩
end
section
variable{X:Cx}{pos:Pos}
def Yt(c:TT)(tb:TS):TS:=λD σ H=>∃W:Nat->St->Hp->Prop,(∃m,W m σ H)/\∀m σ H,W m σ H ->
 c σ H λb H1=>if b=true then∃N:St->Hp->Prop,(∀σ' H',N σ' H'->∃m',m'<m/\W m' σ' H')/\tb { D with nx:=N,ct:=N,bk:=D.nx } σ H1 else D.nx σ H1
theorem zRw(hp:PassesOwn (model X.prog X.w) X.A X.env X.xe)(hc:PT X c tc)(hb:oE X body tb):PS X (.While c body [] pos) (Yt tc tb):=by
 intro pins s σ H D I h
 obtain⟨W,⟨m0,w0⟩,turn⟩:=h
 refine wpAny_While (codeAny_whileLoop (λn s'=>∃σ' H',Inv X pins σ' H' s'/\W n σ' H') ?_ m0 ⟨σ,H,I,w0⟩)
 rintro n s1 ⟨σ1,H1,I1,w1⟩
 refine ab5 hp (aL (hc pins s1 σ1 H1 _ I1 (turn n σ1 H1 w1)) λb s2 ⟨H2,I2,q2⟩=>?_)
 cases b with
 |true =>
  obtain⟨N,hN,q2⟩:=q2
  rw[if_pos rfl]
  refine ab5 hp (aL (hb pins s2 σ1 H2 _ I2 q2) λf s3 q3=>?_)
  cases f with
  |next =>
   obtain⟨σ3,H3,I3,n3⟩:=q3
   obtain⟨m',hm,w3⟩:=hN σ3 H3 n3
   exact⟨m',hm,σ3,H3,I3,w3⟩
  |cont =>
   obtain⟨σ3,H3,I3,n3⟩:=q3
   obtain⟨m',hm,w3⟩:=hN σ3 H3 n3
   exact⟨m',hm,σ3,H3,I3,w3⟩
  |brk=>exact q3
  |ret v=>exact q3
 |false =>
  rw[if_neg aap]
  exact ady ⟨σ1,H2,I2,q2⟩
end
structure It where
 go:Nat->Hp->Prop
 La:Nat->Hp->V->Hp->Prop
 stop:Nat->Hp->Prop
def jP(X:Cx)(pins:List (Addr×Obj))(H:Hp)(b:Addr):Prop :=
 H b=none/\b≠X.env.locals/\b∉X.fs/\(b∈X.ex\/X.s₀.heap.objs.size<=b)/\(∀x c,X.env.cells.lookup x=some c->c≠b)/\∀p∈X.pn++pins,p.1≠b
theorem Inv.ji(I:Inv X pins σ H s)(hb:s.heap.objs.size<=b)(hn:H' b=none):jP X pins H' b:=by
 refine⟨hn,ac0 (aal I.lt hb),I.Ho hb,.inr (aar I.sz hb),λx c e z=>?_,λp hp z=>?_⟩
 ·obtain⟨v,q⟩:=I.cell x c e
  exact absurd (aal q.lt (by rw[z];exact hb)) (abk _)
 ·exact absurd (aal (lt_size (I.pin p hp).1) (by rw[z];exact hb)) (abk _)
structure Turn(P:Program)(w:World)(K:PySem.W.Frag)(tg:Expr)(J:It)(fp:List Addr)(it:Addr)(tn:Nat->Heap->Prop):Prop where
 mem:it∈fp
 obj:∀i h,tn i h->∀b∈fp,∃o,h.get? b=some o/\∀v,o.data≠.cell v
 keep:∀i h h',tn i h->(∀b∈fp,∀o,h.get? b=some o->h'.get? b=some o)->tn i h'
 item:∀(X:Cx),X.prog=P->X.w=w->X.K=K->X.calm=true->∀(i:Nat)(pins:List (Addr×Obj))(s:Shared)(σ:St)(H:Hp)(E:Value->Shared->Prop),Inv X pins σ H s->(∀b∈fp,jP X pins H b)->tn i s.heap->J.go i H ->
  wpAny (model P w) X.A (pyNext (.ref it)) (λr s1=>∃u,r=some u /\
   wpAny (model P w) X.A (letOwnedTupleGo tg (.ref it) u) (λ_ s2=>∃x H',Inv X pins σ H' s2/\RelV x u/\J.La i H x H'/\tn (i+1) s2.heap/\∀b∈fp,H' b=none) E s1) E s
 done:∀(X:Cx),X.prog=P->X.w=w->X.K=K->X.calm=true->∀(i:Nat)(pins:List (Addr×Obj))(s:Shared)(σ:St)(H:Hp)(E:Value->Shared->Prop),Inv X pins σ H s->(∀b∈fp,jP X pins H b)->tn i s.heap->J.stop i H ->
  wpAny (model P w) X.A (pyNext (.ref it)) (λr s1=>r=none/\Inv X pins σ H s1) E s
 self:∀(A:Around)(i:Nat)(s:Shared)(Q:Value->Shared->Prop)(E:Value->Shared->Prop),tn i s.heap->Q (.ref it) s->wpAny (model P w) A (pyIter (.ref it)) Q E s
abbrev TI:=St->Hp->(It->Hp->Prop)->Prop
def PIE(X:Cx)(pins:List (Addr×Obj))(σ:St)(tg:Expr)(R:It->Hp->Prop)(itv:Value)(s2:Shared):Prop :=
 ∃(it:Addr)(fp:List Addr)(tn:Nat->Heap->Prop)(J:It)(H':Hp),itv=.ref it/\Inv X pins σ H' s2/\Turn X.prog X.w X.K tg J fp it tn/\tn 0 s2.heap/\(∀b∈fp,jP X pins H' b)/\R J H'
def PI(X:Cx)(tg iter:Expr)(wi:TI):Prop :=
 ∀(pins:List (Addr×Obj))(s:Shared)(σ:St)(H:Hp)(R:It->Hp->Prop),Inv X pins σ H s->wi σ H R ->
  wpAny (model X.prog X.w) X.A (eval iter X.env) (λv s1=>wpAny (model X.prog X.w) X.A (pyIter v) (PIE X pins σ tg R) X.xe s1) X.xe s
theorem HD{s:Shared}{Q:Unit->Shared->Prop}(ho:s.heap.get? it=some o)(hc:o.cls=.type n)(hd:o.data=.fields vs)(hn:["enumerate","zip","dict_itemiterator","dict_reverseitemiterator","odict_iterator","itertools.zip_longest","itertools.pairwise"].contains n=false)(hQ:Q () s):wpAny M A (letOwnedTupleGo tg (.ref it) u) Q E s:=by
 unfold letOwnedTupleGo
 cases tg<;>first
  |exact aae hQ
  | (cases u<;>first
    |exact aae hQ
    | (refine aad (wpAny_load ho ?_)
       rw[hc,hd]
       show wpAny M A (if(["enumerate","zip","dict_itemiterator","dict_reverseitemiterator","odict_iterator","itertools.zip_longest","itertools.pairwise"].contains n&&vs[0]?==some (rawInt _))=true then _ else _) Q E s
       rw[if_neg (by intro h;rw[hn,Bool.false_and] at h;cases h)]
       exact aae hQ))
def Lb(K:PySem.W.Frag)(a:Addr):It :=
 ⟨λi H=>∃xs x,aV K H a xs/\xs[i]?=some x,λi H x H'=>H'=H/\∀xs,aV K H a xs->xs[i]?=some x,λi H=>∃xs,aV K H a xs/\xs.length<=i⟩
def Yu(K:PySem.W.Frag)(a:Addr):It :=
 ⟨λi H=>∃xs x,gZ K H a xs/\xs[i]?=some x,λi H x H'=>H'=H/\∀xs,gZ K H a xs->xs[i]?=some x,λi H=>∃xs,gZ K H a xs/\xs.length<=i⟩
def UJ(lo:Int)(n:Nat):It:=⟨λi _=>i<n,λi H x H'=>H'=H/\x=.int (lo+i),λi _=>n<=i⟩
theorem zM9{P:Program}{w:World}{K:PySem.W.Frag}{tg:Expr}(a it:Addr):Turn P w K tg (Lb K a) [it] it (λi h=>h.IsListIter it a i) where
 mem:=by simp
 obj:=λi h st b hb=>by
  have e:b=it:=by simpa using hb
  subst e
  obtain⟨o,e,c,d⟩:=st
  exact⟨o,e,λv z=>by rw[d] at z;cases z⟩
 keep:=λi h h' st k=>st.at λo e=>k it (by simp) o e
 item:=by
  intro X hP hw hK hc i pins s σ H E I hf st hg
  subst hP hw hK
  obtain⟨xs,x,hq,hx⟩:=hg
  obtain⟨its,rv,p,hz⟩:=I.list hq
  obtain⟨u,hu,ru⟩:=rv.get hx
  obtain⟨f0,f1,f2,f3,f4,f5⟩:=hf it (by simp)
  refine wpAny_pyNext_list_item st p.isList (x:=u) (by simpa using hu) λh' st' sb=>?_
  have I1:Inv X pins σ H { s with heap:=h' }:=I.turned (t':=s.toks) (λb o hb e=>(sb.2 b hb).trans e) f0 f1 f3 f4 f5
  obtain⟨o,e,c,d⟩:=id st'
  exact⟨u,rfl,HD (s:={ s with heap:=h' }) e c d (by decide) ⟨x,H,I1,ru,⟨rfl,λys hy=>by rw[I.j4 hy hq];exact hx⟩,st',λb hb=>(hf b hb).1⟩⟩
 done:=by
  intro X hP hw hK hc i pins s σ H E I hf st hg
  subst hP hw hK
  obtain⟨xs,hq,hx⟩:=hg
  obtain⟨its,rv,p,hz⟩:=I.list hq
  obtain⟨f0,f1,f2,f3,f4,f5⟩:=hf it (by simp)
  have hl:=rv.length
  exact wpAny_pyNext_list_end (I.ok.hd hc) st p.isList (by simp;omega) λh' eb=>⟨rfl,I.turned (t':=s.toks) (λb o hb e=>eb b o hb e) f0 f1 f3 f4 f5⟩
 self:=λ_ _ _ _ _ st h=>wpAny_pyIter_listiter st h
theorem zLo{P:Program}{w:World}{K:PySem.W.Frag}{tg:Expr}(a it:Addr):Turn P w K tg (Yu K a) [it] it (λi h=>h.IsTupleIter it a i) where
 mem:=by simp
 obj:=λi h st b hb=>by
  have e:b=it:=by simpa using hb
  subst e
  obtain⟨o,e,c,d⟩:=st
  exact⟨o,e,λv z=>by rw[d] at z;cases z⟩
 keep:=λi h h' st k=>st.at λo e=>k it (by simp) o e
 item:=by
  intro X hP hw hK hc i pins s σ H E I hf st hg
  subst hP hw hK
  obtain⟨xs,x,hq,hx⟩:=hg
  obtain⟨its,rv,p,hz⟩:=I.tuple hq
  obtain⟨u,hu,ru⟩:=rv.get hx
  obtain⟨f0,f1,f2,f3,f4,f5⟩:=hf it (by simp)
  refine wpAny_pyNext_tuple_item st (show s.heap.IsTuple a its.toArray from p) (x:=u) (by simpa using hu) λh' st' sb=>?_
  have I1:Inv X pins σ H { s with heap:=h' }:=I.turned (t':=s.toks) (λb o hb e=>(sb.2 b hb).trans e) f0 f1 f3 f4 f5
  obtain⟨o,e,c,d⟩:=id st'
  exact⟨u,rfl,HD (s:={ s with heap:=h' }) e c d (by decide) ⟨x,H,I1,ru,⟨rfl,λys hy=>by rw[I.qO hy hq];exact hx⟩,st',λb hb=>(hf b hb).1⟩⟩
 done:=by
  intro X hP hw hK hc i pins s σ H E I hf st hg
  subst hP hw hK
  obtain⟨xs,hq,hx⟩:=hg
  obtain⟨its,rv,p,hz⟩:=I.tuple hq
  obtain⟨f0,f1,f2,f3,f4,f5⟩:=hf it (by simp)
  have hl:=rv.length
  exact wpAny_pyNext_tuple_end (I.ok.hd hc) st (show s.heap.IsTuple a its.toArray from p) (by simp;omega) λh' eb=>⟨rfl,I.turned (t':=s.toks) (λb o hb e=>eb b o hb e) f0 f1 f3 f4 f5⟩
 self:=λ_ _ _ _ _ st h=>wpAny_pyIter_tupleiter st h
theorem zLp{P:Program}{w:World}{K:PySem.W.Frag}{tg:Expr}(it:Addr)(lo:Int)(n:Nat):Turn P w K tg (UJ lo n) [it] it (λi h=>IsRangeIter h it (lo+(i:Nat)*1) ((n:Int)-(i:Nat)) 1) where
 mem:=by simp
 obj:=λi h st b hb=>by
  have e:b=it:=by simpa using hb
  subst e
  exact⟨_,st,λv z=>by
   have z':ae5 _=Data.cell v:=z
   cases z'⟩
 keep:=λi h h' st k=>k it (by simp) _ st
 item:=by
  intro X hP hw hK hc i pins s σ H E I hf st hg
  subst hP hw hK
  obtain⟨f0,f1,f2,f3,f4,f5⟩:=hf it (by simp)
  have W:=Walks.range (prog:=X.prog) (w:=X.w) (I.ok.hd hc) it lo 1 n
  refine W.item i s _ _ hg st λv h' tk hv st' kk=>?_
  obtain⟨t,rfl⟩:=hv
  have I1:Inv X pins σ H { s with heap:=h',toks:=tk }:=I.turned (λb o hb e=>kk b o (by simpa using hb) e) f0 f1 f3 f4 f5
  refine⟨_,rfl,HD (s:={ s with heap:=h',toks:=tk }) (n:="range_iterator") st' rfl rfl (by decide) ⟨.int (lo+i),H,I1,⟨t,?_⟩,⟨rfl,rfl⟩,st',λb hb=>(hf b hb).1⟩⟩
  rw[Int.mul_one]
 done:=by
  intro X hP hw hK hc i pins s σ H E I hf st hg
  subst hP hw hK
  obtain⟨f0,f1,f2,f3,f4,f5⟩:=hf it (by simp)
  exact wpAny_pyNext_range_end (I.ok.hd hc) st (by have:n<=i:=hg;omega) λh' eb=>⟨rfl,I.turned (t':=s.toks) (λb o hb e=>eb b o hb e) f0 f1 f3 f4 f5⟩
 self:=λ_ _ _ _ _ st h=>wpAny_pyIter_rangeiter st h
section
variable{X:Cx}{tg:Expr}
def sZ(K:PySem.W.Frag)(tl:TE):TI:=λσ H R=>tl σ H λx H1=>∃a,x=.ref a/\(∃xs,aV K H1 a xs)/\R (Lb K a) H1
def HF(K:PySem.W.Frag)(tl:TE):TI:=λσ H R=>tl σ H λx H1=>∃a,x=.ref a/\(∃xs,gZ K H1 a xs)/\R (Yu K a) H1
theorem UL(hl:PE X l tl):PI X tg l (sZ X.K tl):=by
 intro pins s σ H R I h
 refine aL (hl pins s σ H _ I h) λv s1 ⟨x,H1,I1,r1,q1⟩=>?_
 obtain⟨a,e,⟨xs,hq⟩,q⟩:=q1
 subst e
 cases r1
 obtain⟨its,rv,p,hz⟩:=I1.list hq
 refine ad7 p.isList ?_
 refine⟨s1.heap.objs.size,[s1.heap.objs.size],_,_,H1,rfl,I1.kept (t':=s1.toks) λb o e=>get?_push_of_some _ e,zM9 a _,⟨_,get?_push_size _ rfl,rfl,rfl⟩,λb hb=>?_,q⟩
 have e:b=s1.heap.objs.size:=by simpa using hb
 subst e
 exact I1.ji (aag _) (I1.hok.fresh (aag _))
theorem HJ(hl:PE X l tl):PI X tg l (HF X.K tl):=by
 intro pins s σ H R I h
 refine aL (hl pins s σ H _ I h) λv s1 ⟨x,H1,I1,r1,q1⟩=>?_
 obtain⟨a,e,⟨xs,hq⟩,q⟩:=q1
 subst e
 cases r1
 obtain⟨its,rv,p,hz⟩:=I1.tuple hq
 refine wpAny_pyIter_tuple (show s1.heap.IsTuple a its.toArray from p) ?_
 refine⟨s1.heap.objs.size,[s1.heap.objs.size],_,_,H1,rfl,I1.kept (t':=s1.toks) λb o e=>get?_push_of_some _ e,zLo a _,⟨_,get?_push_size _ rfl,rfl,rfl⟩,λb hb=>?_,q⟩
 have e:b=s1.heap.objs.size:=by simpa using hb
 subst e
 exact I1.ji (aag _) (I1.hok.fresh (aag _))
theorem zRt{pins:List (Addr×Obj)}{σ:St}{H:Hp}{s:Shared}{R:It->Hp->Prop}{E:Value->Shared->Prop}{lo hi:Int}{t u v:Tok}{tk:Nat}(I:Inv X pins σ H s)(h1:-(2^62)<=lo)(h2:lo<2^62)(h3:-(2^62)<=hi)(h4:hi<2^62)(q:R (UJ lo (hi-lo).toNat) H):wpAny (model X.prog X.w) X.A (pyIter (.ref s.heap.objs.size)) (PIE X pins σ tg R) E { s with heap:=s.heap.push { cls:=.type "range",data:=.fields #[.int lo t,.int hi u,.int 1 v] },toks:=tk }:=by
 refine wpAny_pyIter_range (IsRange.new ..) (small_one h1 h2 h3 h4) ?_
 have I1:Inv X pins σ H { s with heap:=s.heap.push { cls:=.type "range",data:=.fields #[.int lo t,.int hi u,.int 1 v] },toks:=tk }:=I.kept λb o e=>get?_push_of_some _ e
 refine⟨(s.heap.push { cls:=.type "range",data:=.fields #[.int lo t,.int hi u,.int 1 v] }).objs.size,[(s.heap.push { cls:=.type "range",data:=.fields #[.int lo t,.int hi u,.int 1 v] }).objs.size],_,_,H,rfl,
  I1.kept (t':=tk) λb o e=>get?_push_of_some _ e,zLp _ lo (hi-lo).toNat,?_,λb hb=>?_,q⟩
 ·have e1:lo+((0:Nat):Int)*1=lo:=by simp
  have e2:(((hi-lo).toNat:Nat):Int)-((0:Nat):Int)=Builtin.Range.rangeSize lo hi 1:=by rw[rangeSize_one];split<;>omega
  show IsRangeIter _ _ (lo+((0:Nat):Int)*1) ((((hi-lo).toNat:Nat):Int)-((0:Nat):Int)) 1
  rw[e1,e2]
  exact get?_push_size _ rfl
 ·have e:b=(s.heap.push { cls:=.type "range",data:=.fields #[.int lo t,.int hi u,.int 1 v] }).objs.size:=by simpa using hb
  subst e
  exact I1.ji (aag _) (I1.hok.fresh (aag _))
def Fi(ta:TA):TI:=λσ H R=>ta σ H λvs H1=>∃j:Int,vs=[.int j] /\ -(2^62)<=j/\j<2^62/\R (UJ 0 j.toNat) H1
theorem xS(hg:Gl X "range")(hm:X.mg "range" = none)(ha:PA X [a] ta)(hs:starEach [a] X.env=[(false,eval a X.env)]:=by rfl):PI X tg (.Call (.Name "range" p) [a] [] pos) (Fi ta):=by
 intro pins s σ H R I h
 refine Call_ (yh I hg hm boot_range (aa9 (aL (ha pos pins s σ H _ I h) λus s1 ⟨vs,H1,I1,r1,q1⟩=>?_) hs rfl))
 obtain⟨j,e,q1,q2,q⟩:=q1
 subst e
 cases r1 with
 |cons r rr =>
  cases rr
  obtain⟨t,rfl⟩:=r
  exact call_range_1 (zRt I1 (by omega) (by omega) q1 q2 (by simpa using q))
def HN(wi:TI)(g:TG)(tb:TS):TS:=λD σ H=>wi σ H λJ H1=>∃W:Nat->Nat->St->Hp->Prop,(∃m,W 0 m σ H1)/\∀i m σ H,W i m σ H ->
 (J.stop i H/\D.nx σ H)\/(J.go i H/\∃N:St->Hp->Prop,(∀σ' H',N σ' H'->∃m',m'<m/\W (i+1) m' σ' H')/\∀x H',J.La i H x H'->g x σ H' λσ2 H2=>tb { D with nx:=N,ct:=N,bk:=D.nx } σ2 H2)
def Fj(fp:List Addr)(h:Heap):List (Addr×Obj):=fp.filterMap λb=>(h.get? b).map λo=>(b,o)
theorem wJ{h:Heap}(hb:b∈fp)(e:h.get? b=some o):(b,o)∈Fj fp h:=List.mem_filterMap.mpr ⟨b,hb,by rw[e];rfl⟩
theorem zOr(hp:p∈Fj fp h):p.1∈fp/\h.get? p.1=some p.2:=by
 obtain⟨b,hb,e⟩:=List.mem_filterMap.mp hp
 cases q:h.get? b with
 |none=>rw[q] at e;cases e
 |some o =>
  rw[q] at e
  have e':(b,o)=p:=aai e
  subst e'
  exact⟨hb,q⟩
theorem Inv.pinned(I:Inv X pins σ H s)(hf:∀b∈fp,jP X pins H b)(ho:∀b∈fp,∃o,s.heap.get? b=some o/\∀v,o.data≠.cell v):Inv X (pins++Fj fp s.heap) σ H s :=
 I.iU λp hp=>(mem_append.mp hp).elim (λz=>I.pin p (mem_append_right _ z)) λz=>by
  obtain⟨hb,e⟩:=zOr z
  obtain⟨f0,f1,f2,_⟩:=hf p.1 hb
  obtain⟨o,e',d⟩:=ho p.1 hb
  rw[e] at e';cases e'
  exact⟨e,f0,f1,f2,d⟩
theorem Inv.d_(I:Inv X (pins++pl) σ H s):Inv X pins σ H s:=I.iU λp hp=>I.pin p (mem_append_right _ (mem_append_left _ hp))
theorem xJ(hp:PassesOwn (model X.prog X.w) X.A X.env X.xe)(hc:X.calm=true)(hi:PI X tg iter wi)(hg:PG X tg g)(hb:oE X body tb)(hs:∀x,foldedSetIterable iter X.env x=pure x:=by intro _;rfl):PS X (.For tg iter body [] pos) (HN wi g tb):=by
 intro pins s σ H D I h
 refine wpAny_For (aL (hi pins s σ H _ I h) λv s1 h1=>aL h1 λitv s2 h2=>?_) hs
 obtain⟨it,fp,tn,J,H2,e,I2,T,st2,f2,W,⟨m0,w0⟩,turn⟩:=h2
 subst e
 have stat:∀{H':Hp},(∀b∈fp,H' b=none)->∀b∈fp,jP X pins H' b:=λhn b hb=>⟨hn b hb,(f2 b hb).2⟩
 refine codeAny_forLoop_any (λn s'=>∃i σ' H',Inv X pins σ' H' s'/\tn i s'.heap/\(∀b∈fp,H' b=none)/\W i n σ' H') ?_ m0 ⟨0,σ,H2,I2,st2,λb hb=>(f2 b hb).1,w0⟩
 rintro n s3 ⟨i,σ3,H3,I3,st3,RD,w3⟩
 rcases turn i n σ3 H3 w3 with⟨stop,qn⟩|⟨go,N,hN,step⟩
 ·refine ab5 hp (aL (T.done X rfl rfl rfl hc i pins s3 σ3 H3 X.xe I3 (stat RD) st3 stop) λr s4 ⟨hr,I4⟩=>?_)
  subst hr
  exact ady ⟨σ3,H3,I4,qn⟩
 ·refine ab5 hp (aL (T.item X rfl rfl rfl hc i pins s3 σ3 H3 X.xe I3 (stat RD) st3 go) λr s4 ⟨u,hr,h4⟩=>?_)
  subst hr
  refine ab5 hp (aL h4 λ_ s5 ⟨x,H5,I5,r5,y5,UW,fr5⟩=>?_)
  have I5':=I5.pinned (stat fr5) (T.obj _ _ UW)
  refine ab5 hp (aL (hg _ s5 σ3 H5 x u _ I5' r5 (step x H5 y5)) λ_ s6 ⟨σ6,H6,I6,q6⟩=>?_)
  refine ab5 hp (aL (hb _ s6 σ6 H6 _ I6 q6) λf s7 q7=>?_)
  have again:∀{σ7:St}{H7:Hp},Inv X (pins++Fj fp s5.heap) σ7 H7 s7->N σ7 H7->∃m,m<n/\∃i σ' H',Inv X pins σ' H' s7/\tn i s7.heap/\(∀b∈fp,H' b=none)/\W i m σ' H':=λ{σ7 H7} I7 n7=>by
   obtain⟨m',hm,w7⟩:=hN σ7 H7 n7
   refine⟨m',hm,i+1,σ7,H7,I7.d_,T.keep _ _ _ UW λb hb o e=>(I7.pin (b,o) (mem_append_right _ (mem_append_right _ (wJ hb e)))).1,λb hb=>?_,w7⟩
   obtain⟨o,e,d⟩:=T.obj _ _ UW b hb
   exact(I7.pin (b,o) (mem_append_right _ (mem_append_right _ (wJ hb e)))).2.1
  cases f with
  |next=>obtain⟨σ7,H7,I7,n7⟩:=q7;exact again I7 n7
  |cont=>obtain⟨σ7,H7,I7,n7⟩:=q7;exact again I7 n7
  |brk=>obtain⟨σ7,H7,I7,q7⟩:=q7;exact⟨σ7,H7,I7.d_,q7⟩
  |ret v=>obtain⟨x7,σ7,H7,I7,r7,q7⟩:=q7;exact⟨x7,σ7,H7,I7.d_,r7,q7⟩
end
theorem zSs{K:PySem.W.Frag}{a:Addr}{xs:List V}{g:TG}{tb:TS}{D:Ends}{σ:St}{H:Hp}(Pv:Nat->St->Hp->Prop)(h0:Pv 0 σ H)(hl:∀i σ H,i<=xs.length->Pv i σ H->aV K H a xs)(hs:∀i x σ H,xs[i]?=some x->Pv i σ H->g x σ H λσ2 H2=>tb { D with nx:=Pv (i+1),ct:=Pv (i+1),bk:=D.nx } σ2 H2)(hd:∀σ H,Pv xs.length σ H->D.nx σ H) :
  ∃W:Nat->Nat->St->Hp->Prop,(∃m,W 0 m σ H)/\∀i m σ H,W i m σ H ->
   ((Lb K a).stop i H/\D.nx σ H)\/((Lb K a).go i H/\∃N:St->Hp->Prop,(∀σ' H',N σ' H'->∃m',m'<m/\W (i+1) m' σ' H')/\∀x H',(Lb K a).La i H x H'->g x σ H' λσ2 H2=>tb { D with nx:=N,ct:=N,bk:=D.nx } σ2 H2):=by
 refine⟨λi m σ H=>m=xs.length-i/\i<=xs.length/\Pv i σ H,⟨xs.length,by simp,aa0 _,h0⟩,?_⟩
 rintro i m σ H ⟨rfl,hi,p⟩
 have q:=hl i σ H hi p
 by_cases hlt:i<xs.length
 ·refine .inr ⟨⟨xs,xs[i],q,by simp[hlt]⟩,Pv (i+1),λσ' H' p'=>⟨xs.length-(i+1),by omega,rfl,hlt,p'⟩,λx H' y=>?_⟩
  obtain⟨e,y⟩:=y
  subst e
  exact hs i x σ _ (y xs q) p
 ·have e:i=xs.length:=by omega
  subst e
  exact .inl ⟨⟨xs,q,aag _⟩,hd σ H p⟩
abbrev R2:=V->V->Hp->VK->Prop
def jH(X:Cx)(f:Value->Value->Sem Value)(r:R2):Prop :=
 ∀(pins:List (Addr×Obj))(s:Shared)(σ:St)(H:Hp)(x y:V)(v u:Value)(Q:VK),Inv X pins σ H s->RelV x v->RelV y u->r x y H Q ->
  wpAny (model X.prog X.w) X.A (f v u) (EP X pins σ Q) X.xe s
def U0(X:Cx)(f:Value->Sem Value)(r:V->Hp->VK->Prop):Prop :=
 ∀(pins:List (Addr×Obj))(s:Shared)(σ:St)(H:Hp)(x:V)(v:Value)(Q:VK),Inv X pins σ H s->RelV x v->r x H Q ->
  wpAny (model X.prog X.w) X.A (f v) (EP X pins σ Q) X.xe s
def sH(X:Cx)(f:Value)(r:List V->Hp->VK->Prop):Prop :=
 ∀(pins:List (Addr×Obj))(s:Shared)(σ:St)(H:Hp)(xs:List V)(us:List Value)(Q:VK),Inv X pins σ H s->Vals xs us->r xs H Q ->
  wpAny (model X.prog X.w) X.A (call f us) (EP X pins σ Q) X.xe s
def U3(X:Cx)(r:V->Hp->(Bool->Hp->Prop)->Prop):Prop :=
 ∀(pins:List (Addr×Obj))(s:Shared)(σ:St)(H:Hp)(x:V)(v:Value)(Q:Bool->Hp->Prop),Inv X pins σ H s->RelV x v->r x H Q ->
  wpAny (model X.prog X.w) X.A (truthy v) (TP X pins σ Q) X.xe s
def gF(r:R2)(ta tb:TE):TE:=λσ H Q=>ta σ H λx H1=>tb σ H1 λy H2=>r x y H2 Q
def Yv(r:V->Hp->VK->Prop)(ta:TE):TE:=λσ H Q=>ta σ H λx H1=>r x H1 Q
def rI(C:Int->Int->Prop)(g:Int->Int->V):R2:=λx y H Q=>∃i j,x=.int i/\y=.int j/\C i j/\Q (g i j) H
def pJ(g:Int->Int->V):R2:=λx y H Q=>∃i j,x=.int i/\y=.int j/\Q (g i j) H
def rU(g:Int->V):V->Hp->VK->Prop:=λx H Q=>∃i,x=.int i/\Q (g i) H
section
variable{X:Cx}{a b c:Expr}{ta tb tc:TE}{pos:Pos}
theorem Ac(ha:PE X a ta)(hb:PE X b tb){R:V->V->Hp->Prop}(I:Inv X pins σ H s)(h:ta σ H λx H1=>tb σ H1 λy H2=>R x y H2){f:Value->Value->Sem Value}(hf:∀v u s2 x y H2,Inv X pins σ H2 s2->RelV x v->RelV y u->R x y H2->wpAny (model X.prog X.w) X.A (f v u) Q X.xe s2) :
  wpAny (model X.prog X.w) X.A (eval a X.env) (λv s₁=>wpAny (model X.prog X.w) X.A (eval b X.env) (λu s₂=>wpAny (model X.prog X.w) X.A (f v u) Q X.xe s₂) X.xe s₁) X.xe s:=by
 refine aL (ha pins s σ H _ I h) λv s1 ⟨x,H1,I1,r1,q1⟩=>?_
 refine aL (hb pins s1 σ H1 _ I1 q1) λu s2 ⟨y,H2,I2,r2,q2⟩=>?_
 exact hf v u s2 x y H2 I2 r1 r2 q2
theorem yL(ho:jH X (binaryOp op) r)(ha:PE X a ta)(hb:PE X b tb):PE X (.BinOp a op b pos) (gF r ta tb):=by
 intro pins s σ H Q I h
 exact aen (Ac ha hb I h λv u s2 x y H2 I2 rx ry q=>ho pins s2 σ H2 x y v u Q I2 rx ry q)
theorem Fo(ho:U0 X (unaryOp op) r)(ha:PE X a ta):PE X (.UnaryOp op a pos) (Yv r ta):=by
 intro pins s σ H Q I h
 exact UnaryOp_ (aL (ha pins s σ H _ I h) λv s1 ⟨x,H1,I1,r1,q1⟩=>ho pins s1 σ H1 x v Q I1 r1 q1)
theorem Nq{f:Value->Value->Sem Value}{C:Int->Int->Prop}{g:Int->Int->Int}(rule:∀(i j:Int) (t u:Tok) (s:Shared) (Q:Value->Shared->Prop) (E:Value->Shared->Prop),C i j->Q (.int (g i j) s.toks) { s with toks:=s.toks+1 }->wpAny (model X.prog X.w) X.A (f (.int i t) (.int j u)) Q E s) :
  jH X f (rI C λi j=>.int (g i j)):=by
 intro pins s σ H x y v u Q I rx ry h
 obtain⟨i,j,rfl,rfl,hc,q⟩:=h
 obtain⟨t,rfl⟩:=rx
 obtain⟨t',rfl⟩:=ry
 exact rule i j t t' s _ _ hc ⟨.int (g i j),H,I.tok _,⟨_,rfl⟩,q⟩
theorem HS{f:Value->Value->Sem Value}{g:Int->Int->Int}(rule:∀(i j:Int) (t u:Tok) (s:Shared) (Q:Value->Shared->Prop) (E:Value->Shared->Prop),Q (.int (g i j) s.toks) { s with toks:=s.toks+1 }->wpAny (model X.prog X.w) X.A (f (.int i t) (.int j u)) Q E s) :
  jH X f (pJ λi j=>.int (g i j)):=by
 intro pins s σ H x y v u Q I rx ry h
 obtain⟨i,j,rfl,rfl,q⟩:=h
 obtain⟨t,rfl⟩:=rx
 obtain⟨t',rfl⟩:=ry
 exact rule i j t t' s _ _ ⟨.int (g i j),H,I.tok _,⟨_,rfl⟩,q⟩
theorem HW{f:Value->Value->Sem Value}{g:Int->Int->Bool}(rule:∀(i j:Int) (t u:Tok) (s:Shared) (Q:Value->Shared->Prop) (E:Value->Shared->Prop),Q (.bool (g i j)) s->wpAny (model X.prog X.w) X.A (f (.int i t) (.int j u)) Q E s) :
  jH X f (pJ λi j=>.bl (g i j)):=by
 intro pins s σ H x y v u Q I rx ry h
 obtain⟨i,j,rfl,rfl,q⟩:=h
 obtain⟨t,rfl⟩:=rx
 obtain⟨t',rfl⟩:=ry
 exact rule i j t t' s _ _ ⟨.bl (g i j),H,I,rfl,q⟩
def Nr(i j:Int):Prop:=0<j/\j<1073741824
def Ad(i j:Int):Prop:=0<=j/\j<=1000000/\i.natAbs<2^64
theorem zLn(k:Nat):(0:Int)<=2^k:=by
 rw[two_pow_cast]
 exact acj _
theorem HX:jH X (binaryOp .Add) (pJ λi j=>.int (i+j)):=HS λ_ _ _ _ _ _ _ q=>add_int q
theorem Nt:jH X (binaryOp .Sub) (pJ λi j=>.int (i-j)):=HS λ_ _ _ _ _ _ _ q=>sub_int q
theorem HY:jH X (binaryOp .FloorDiv) (rI Nr λi j=>.int (i/j)):=Nq λi j _ _ _ _ _ hc q=>by
 have h1:(0:Int)<j:=hc.1
 have h2:j<1073741824:=hc.2
 exact floordiv_int (by omega) (by rw[Int.fdiv_eq_ediv_of_nonneg i (by omega)];exact q) (.inl (PyProof.noPylong_small (by omega)))
theorem vY:jH X (binaryOp .Mod) (rI (λ_ j=>0<j) λi j=>.int (i%j)):=Nq λi j _ _ _ _ _ hc q=>by
 have h1:(0:Int)<j:=hc
 exact mod_int' (by omega) (by rw[Int.fmod_eq_emod_of_nonneg i (by omega)];exact q)
theorem H_:jH X (binaryOp .Pow) (rI Ad λi j=>.int (i^j.toNat)):=Nq λ_ _ _ _ _ _ _ hc q=>pow_int_small hc.1 hc.2.1 hc.2.2 q
theorem Ia:jH X (binaryOp .LShift) (rI Ad λi j=>.int (i*2^j.toNat)):=Nq λ_ _ _ _ _ _ _ hc q=>lshift_int_small hc.1 hc.2.1 hc.2.2 q
theorem RG:jH X (binaryOp .RShift) (rI (λ_ j=>0<=j) λi j=>.int (i/2^j.toNat)):=Nq λi j _ _ _ _ _ hc q =>
 rshift_int hc (by rw[Int.fdiv_eq_ediv_of_nonneg i (zLn _)];exact q)
theorem Nu:jH X (binaryOp .BitAnd) (pJ λi j=>.int (aaw i j)):=HS λ_ _ _ _ _ _ _ q=>and_int q
theorem unI{f:Value->Sem Value}{g:Int->Int}(rule:∀(i:Int) (t:Tok) (s:Shared) (Q:Value->Shared->Prop) (E:Value->Shared->Prop),Q (.int (g i) s.toks) { s with toks:=s.toks+1 }->wpAny (model X.prog X.w) X.A (f (.int i t)) Q E s) :
  U0 X f (rU λi=>.int (g i)):=by
 intro pins s σ H x v Q I rx h
 obtain⟨i,rfl,q⟩:=h
 obtain⟨t,rfl⟩:=rx
 exact rule i t s _ _ ⟨.int (g i),H,I.tok _,⟨_,rfl⟩,q⟩
theorem Yw:U0 X (unaryOp .USub) (rU λi=>.int (-i)):=unI λ_ _ _ _ _ q=>neg_int q
end
section
variable{X:Cx}{a b c:Expr}{ta tb tc:TE}{pos:Pos}
theorem Ib(I:Inv X pins σ H s)(q:Q (.bl k) H)(e:k=k'):EP X pins σ Q (.bool k') s:=by
 subst e
 exact⟨.bl k,H,I,rfl,q⟩
theorem RJ:jH X (compareOp .Lt) (pJ λi j=>.bl (decide (i<j))):=HW λ_ _ _ _ _ _ _ q=>lt_int q
theorem tu:jH X (compareOp .LtE) (pJ λi j=>.bl (decide (i<=j))):=HW λ_ _ _ _ _ _ _ q=>le_int q
theorem Fp:jH X (compareOp .Gt) (pJ λi j=>.bl (decide (j<i))):=HW λ_ _ _ _ _ _ _ q=>gt_int q
theorem zOd:jH X (compareOp .In) (λx y H Q=>∃i j,x=.str i/\y=.str j/\Q (.bl (!(ada j i 0 j.length 1).isEmpty)) H):=by
 intro pins s σ H x y v u Q I rx ry h
 obtain⟨i,j,rfl,rfl,q⟩:=h
 obtain⟨t,rfl⟩:=rx
 obtain⟨t',rfl⟩:=ry
 exact in_str (Ib I q rfl)
theorem xE(b:Expr)(h:op≠.In:=by decide)(h2:op≠.NotIn:=by decide):behindInMarks op b=false:=by
 have e1:(op==CmpOp.In)=false:=by cases op<;>first|rfl|exact absurd rfl h
 have e2:(op==CmpOp.NotIn)=false:=by cases op<;>first|rfl|exact absurd rfl h2
 cases b<;>simp[behindInMarks,e1,e2]
theorem Yx(ho:jH X (compareOp op) r)(ha:PE X a ta)(hb:PE X b tb)(hm:behindInMarks op b=false):PE X (.Compare a [op] [b] pos) (gF r ta tb):=by
 intro pins s σ H Q I h
 exact wpAny_Compare1 (Ac ha hb I h λv u s2 x y H2 I2 rx ry q=>ho pins s2 σ H2 x y v u Q I2 rx ry q) hm
def Fq(t:TE):TT:=λσ H Q=>t σ H λx H'=>∃k,x=.bl k/\Q k H'
theorem yF(ho:jH X (compareOp op) r)(ha:PE X a ta)(hb:PE X b tb)(hm:behindInMarks op b=false):PT X (.Compare a [op] [b] pos) (Fq (gF r ta tb)):=by
 intro pins s σ H Q I h
 refine wpAny_isTrue_Compare1 (aL (ha pins s σ H _ I h) λv s1 ⟨x,H1,I1,r1,q1⟩=>aL (hb pins s1 σ H1 _ I1 q1) λu s2 ⟨y,H2,I2,r2,q2⟩ =>
  aL (ho pins s2 σ H2 x y v u _ I2 r1 r2 q2) λc s3 ⟨z,H3,I3,r3,k,e,q3⟩=>?_) hm
 subst e
 cases r3
 exact abl ⟨H3,I3,q3⟩
def Yy(r r':R2)(ta tb tc:TE):TE:=λσ H Q=>ta σ H λx H1=>tb σ H1 λy H2=>r x y H2 λz H3=>∃k,z=.bl k /\
 (if k=true then tc σ H3 λw' H4=>r' y w' H4 Q else Q (.bl false) H3)
theorem Yz(ho:jH X (compareOp op) r)(ho':jH X (compareOp op') r')(ha:PE X a ta)(hb:PE X b tb)(hc:PE X c tc)(hm:lastMarks [op,op'] [b,c]=false:=by with_unfolding_all rfl):PE X (.Compare a [op,op'] [b,c] pos) (Yy r r' ta tb tc):=by
 intro pins s σ H Q I h
 refine Compare_chain (aL (ha pins s σ H _ I h) λv s1 ⟨x,H1,I1,r1,q1⟩=>chain_link (aL (hb pins s1 σ H1 _ I1 q1) λu s2 ⟨y,H2,I2,r2,q2⟩ =>
  aL (ho pins s2 σ H2 x y v u _ I2 r1 r2 q2) λd s3 ⟨z,H3,I3,r3,k,e,q3⟩=>?_)) hm
 subst e
 cases r3
 refine abl ?_
 cases k with
 |false=>exact ite_ff ⟨.bl false,H3,I3,rfl,q3⟩
 |true=>exact ite_tt (chain_last (aL (hc pins s3 σ H3 _ I3 q3) λw' s4 ⟨z',H4,I4,r4,q4⟩=>ho' pins s4 σ H4 y z' u w' Q I4 r2 r4 q4))
def Ae(K:PySem.W.Frag)(x:V)(H:Hp)(k:Bool):Prop :=
 match x with
 |.non=>k=false
 |.bl b=>k=b
 |.int i=>k=(i != 0)
 |.str y=>y.length<=sizeLine/\k=((y.length:Int) != 0)
 |.zp y=>y.size<=sizeLine/\k=((y.size:Int) != 0)
 |.ref p=>(∃xs,aV K H p xs/\k=!xs.isEmpty)\/(∃xs,gZ K H p xs/\k=!xs.isEmpty)\/∃kvs,H p=some (.dK kvs)/\k=!kvs.isEmpty
 |_=>False
theorem zMd{κ:Type}{kvs:List (κ×V)}{vs:List (κ×Value)}(r:KV kvs vs):(!vs.isEmpty)=!kvs.isEmpty:=by
 cases r<;>rfl
theorem YB(r:Vals xs its):(!its.toArray.isEmpty)=!xs.isEmpty:=by
 cases r<;>simp
theorem Ie:(sizeLine:Nat)<2^63:=by rw[aem];decide
theorem Ig:U3 X (λx H Q=>∃k,Ae X.K x H k/\Q k H):=by
 intro pins s σ H x v Q I rx h
 obtain⟨k,e,q⟩:=h
 have hl:=Ie
 have hs:sizeLine=16777216:=aem
 cases x with
 |non =>
  cases rx
  have e':k=false:=e
  subst e'
  exact truthy_none ⟨H,I,q⟩
 |bl b =>
  cases rx
  have e':k=b:=e
  subst e'
  exact abl ⟨H,I,q⟩
 |int i =>
  obtain⟨t,rfl⟩:=rx
  have e':k=(i != 0):=e
  subst e'
  exact PySem.P.truthy_int ⟨H,I,q⟩
 |str y =>
  obtain⟨t,rfl⟩:=rx
  obtain⟨hy,e'⟩:y.length<=sizeLine/\k=((y.length:Int) != 0):=e
  subst e'
  exact PySem.P.truthy_str (by omega) ⟨H,I.tok _,q⟩
 |zp y =>
  obtain⟨t,rfl⟩:=rx
  obtain⟨hy,e'⟩:y.size<=sizeLine/\k=((y.size:Int) != 0):=e
  subst e'
  exact PySem.W.truthy_bytes (by omega) ⟨H,I.tok _,q⟩
 |ref p =>
  cases rx
  have e':(∃xs,aV X.K H p xs/\k=!xs.isEmpty)\/(∃xs,gZ X.K H p xs/\k=!xs.isEmpty)\/∃kvs,H p=some (.dK kvs)/\k=!kvs.isEmpty:=e
  rcases e' with⟨xs,hx,e'⟩|⟨xs,hx,e'⟩|⟨kvs,hx,e'⟩
  ·subst e'
   obtain⟨its,r,pl,hz⟩:=I.list hx
   have hlen:=r.length
   exact wpAny_truthy_list pl.isList (by simp only[size_toArray];omega) ⟨H,I.tok _,by rw[YB r];exact q⟩
  ·subst e'
   obtain⟨its,r,pl,hz⟩:=I.tuple hx
   have hlen:=r.length
   exact truthy_tuple pl (by simp only[size_toArray];omega) ⟨H,I.tok _,by rw[YB r];exact q⟩
  ·subst e'
   obtain⟨hz,hS,vs,r,m⟩:kvs.length<=sizeLine/\(p==sysModules)=false/\∃vs,KV kvs vs/\s.heap.DictOf (xQ X.prog X.w) p vs:=I.hok p _ hx
   have hlen:kvs.length=vs.length:=ad9 r
   exact wpAny_truthy_dict hS m (by omega) ⟨H,I.tok _,by rw[zMd r];exact q⟩
 |_=>exact(show False from e).elim
theorem zRv(ha:PE X a ta)(he:∀whole,isTrue a X.env whole=(do let v <-whole;standAt a.pos;holding [v] (truthy v))) :
  PT X a (λσ H Q=>ta σ H λx H'=>∃k,Ae X.K x H' k/\Q k H'):=by
 intro pins s σ H Q I h
 exact isTrue_plain (aL (ha pins s σ H _ I h) λv s1 ⟨x,H1,I1,r1,q1⟩=>Ig pins s1 σ H1 x v Q I1 r1 q1) (he _)
theorem zL0:jH X (binaryOp .Add) (λx y H Q=>∃i j,x=.str i/\y=.str j/\i.length+j.length<=sizeLine/\Q (.str (i++j)) H):=by
 intro pins s σ H x y v u Q I rx ry h
 obtain⟨i,j,rfl,rfl,hz,q⟩:=h
 obtain⟨t,rfl⟩:=rx
 obtain⟨t',rfl⟩:=ry
 exact add_str (λt' tk=>⟨.str (i++j),H,I.tok _,⟨_,rfl⟩,q⟩) hz
def YC(b:Expr):Prop:=∀o i,subscripted b false o i=operate [o,i] (getItem o i)
theorem zI1(ha:PE X a ta)(hb:PE X b tb)(hs:YC b) :
  PE X (.Subscript a b pos) (gF (λx y H Q=>∃z i c,x=.str z/\y=.int i/\0<=i/\i<2^63/\i<z.length/\z.cps[i.toNat]?=some c/\Q (.str ⟨#[c]⟩) H) ta tb):=by
 intro pins s σ H Q I h
 refine aew (Ac ha hb I h λv u s2 x y H2 I2 rx ry q=>?_)
 obtain⟨z,i,c,rfl,rfl,h0,h63,h1,hc,q⟩:=q
 obtain⟨t,rfl⟩:=rx
 obtain⟨t',rfl⟩:=ry
 have e:seqIndex? i z.length=some i.toNat:=PySem.StrLaws.seqIndex_nonneg h0 h1
 exact tail_any (typeIs_str s2 z t) slot_str_getitem.lookup (getItem_str (c:=c) (by
  have e1:decide (i < -(2^63:Int))=false:=decide_eq_false (by omega)
  have e2:decide (i ≥ 2^63)=false:=decide_eq_false (by omega)
  rw[e1,e2]<;>rfl) (by rw[e];exact hc) ⟨.str ⟨#[c]⟩,H2,I2.tok _,⟨_,rfl⟩,q⟩) (hs _ _)
theorem Nv(r:Vals [x] us):∃u,us=[u]/\RelV x u:=by
 cases r with
 |cons r1 r2=>cases r2;exact⟨_,rfl,r1⟩
theorem vals2(r:Vals [x,y] us):∃u w',us=[u,w']/\RelV x u/\RelV y w':=by
 cases r with
 |cons r1 r2 =>
  cases r2 with
  |cons r3 r4=>cases r4;exact⟨_,_,rfl,r1,r3⟩
def U4(K:PySem.W.Frag)(x:V)(H:Hp)(n:Nat):Prop :=
 match x with
 |.str y=>y.length<=sizeLine/\n=y.length
 |.zp y=>y.size<=sizeLine/\n=y.size
 |.ref p=>(∃xs,aV K H p xs/\n=xs.length)\/∃xs,gZ K H p xs/\n=xs.length
 |_=>False
theorem zS6:sH X (.builtin "len") (λxs H Q=>∃x n,xs=[x]/\U4 X.K x H n/\Q (.int n) H):=by
 intro pins s σ H xs us Q I r h
 obtain⟨x,n,rfl,e,q⟩:=h
 obtain⟨u,rfl,rx⟩:=Nv r
 have hl:=Ie
 have hs:sizeLine=16777216:=aem
 cases x with
 |str y =>
  obtain⟨t,rfl⟩:=rx
  obtain⟨hy,e'⟩:y.length<=sizeLine/\n=y.length:=e
  subst e'
  exact len_str (by omega) ⟨.int _,H,I.tok _,⟨_,rfl⟩,q⟩
 |zp y =>
  obtain⟨t,rfl⟩:=rx
  obtain⟨hy,e'⟩:y.size<=sizeLine/\n=y.size:=e
  subst e'
  exact PySem.W.len_bytes (by omega) ⟨.int _,H,I.tok _,⟨_,rfl⟩,q⟩
 |ref p =>
  cases rx
  have e':(∃xs,aV X.K H p xs/\n=xs.length)\/∃xs,gZ X.K H p xs/\n=xs.length:=e
  rcases e' with⟨xs,hx,e'⟩|⟨xs,hx,e'⟩
  ·subst e'
   obtain⟨its,r',pl,hz⟩:=I.list hx
   have hlen:=r'.length
   exact Calls.call_len_list pl.isList (by simp only[size_toArray];omega) ⟨.int xs.length,H,I.tok _,⟨_,by simp only[size_toArray];rw[hlen]⟩,q⟩
  ·subst e'
   obtain⟨its,r',pl,hz⟩:=I.tuple hx
   have hlen:=r'.length
   exact len_tuple pl (by simp only[size_toArray];omega) ⟨.int xs.length,H,I.tok _,⟨_,by simp only[size_toArray];rw[hlen]⟩,q⟩
 |_=>exact(show False from e).elim
end
structure pN(h:Heap)(x dx C:Addr)(mA:Str->Option Value):Prop where
 obj:h.get? x=some (instObj C dx)
 ns:h.Ns1 dx mA
 ne:dx≠x
theorem zOy{h:Heap}(n:h.Ns1 dx mA):∃od,h.get? dx=some od/\∀name,lookIn name od=some (mA name):=by
 obtain⟨o,es,ep,ho,hd,hk,_,hm⟩:=n
 refine⟨o,ho,λname=>?_⟩
 have e:=hm name
 unfold nsFind findBy at e
 rw[<-Array.find?_toList] at e
 unfold lookIn
 rw[hd]
 dsimp only
 split
 ·rename_i y q
  rw[q] at e
  exact congrArg some e
 ·rename_i q
  rw[q] at e
  have a:es.toList.any (·.refKey)=false:=by
   rw[any_eq_false]
   intro y hy
   obtain⟨z,t,hkey⟩:=hk y (Array.mem_toList_iff.mp hy)
   simp[DictEntry.refKey,hkey]
  have a':¬es.toList.any (·.refKey)=true:=by rw[a];exact aap
  rw[if_neg a']
  exact congrArg some e
theorem pN.look(I:pN h x dx C mA):∃od,PySem.W.InstAt h x (instObj C dx) C (some od)/\∀name,lookIn name od=some (mA name) :=
 let⟨od,ho,hl⟩:=zOy I.ns
 ⟨od,⟨I.obj,rfl,rfl,ho⟩,hl⟩
section
variable{prog:Program}{w:World}{A:Around}{E:Value->Shared->Prop}{s:Shared}{K:PySem.W.Frag}{x dx C f:Addr}{mA:Str->Option Value}{name:Str}{v:Value}
theorem get_map{Q:Value->Shared->Prop}(X:K.In s.heap)(I:pN s.heap x dx C mA)(hg:plainGet K C name=true)(hh:hasDictIn K C=true)(ha:findIn K (.ref C) name=some none)(hv:mA name=some v)(hv':PySem.W.handedIn v=true)(h:Q v { s with toks:=s.toks+1 }) :
  wpAny (model prog w) A (getAttr (.ref x) name expr) Q E s:=by
 obtain⟨od,J,hl⟩:=I.look
 exact PySem.W.get_value X J (aek hg).1 (PySem.W.findObj_own hh ha rfl (by rw[hl,hv])) hv' h
theorem zSr{Q:Value×List Value->Shared->Prop}(X:K.In s.heap)(I:pN s.heap x dx C mA)(hg:plainGet K C name=true)(hf:findIn K (.ref C) name=some (some (.ref f)))(ht:isFn K (.ref f)=true)(hv:mA name=none)(h:Q (.ref f,[.ref x]) s) :
  wpAny (model prog w) A (getMethod (.ref x) name pl) Q E s:=by
 obtain⟨od,J,hl⟩:=I.look
 exact PySem.W.method_fn X J (aek hg).1 (aek hg).2 hf (beq_iff_eq.mp ht) (by show(lookIn name od).map (·.isSome)=some false;rw[hl,hv];rfl) h
theorem Af{Q:Unit->Shared->Prop}(X:K.In s.heap)(I:pN s.heap x dx C mA)(hs:findIn K (.ref C) "__setattr__" = some (some (.builtin "object.__setattr__")))(hp:PySem.W.plainOver K C=true)(ht:takerIn K C name=some none)(hh:hasDictIn K C=true)(hw:ae2 mA ns)(hsz:ns.length<=sizeLine)(h:∀h',pN h' x dx C (λy=>if y=name then some v else mA y)->SameBut dx s.heap h'->Q () { s with heap:=h',toks:=s.toks+2 }) :
  wpAny (model prog w) A (setAttr (.ref x) name v) Q E s:=by
 obtain⟨od,J,hl⟩:=I.look
 refine PySem.W.set_plain X J hs (PySem.W.osa_open (s:={ s with toks:=s.toks+1 }) (r:=none) X J hp ht λb=>?_)
 obtain⟨cd,hc,hd'⟩:=PySem.W.any_some hh
 have hx:s.heap.get? x=some ⟨.ref C,some dx,.plain,#[]⟩:=I.obj
 refine aad (aae (aad (aad (wpAny_loadPart hx (aad (PySem.W.Looks.here (s:={ s with toks:=s.toks+1 }) (PySem.W.looks_clsIn X hc) ?_))))))
 rw[hd']
 refine aae (a:=some dx) (aad (aae (aad ?_)))
 refine wpAny_nsSet1 (s:={ s with toks:=s.toks+1 }) I.ns λh' hn2 hs2=>?_
 obtain⟨oD,esD,epD,hoD,hdD,hcD⟩:=hn2.count (PySem.Within.cons name v hw)
 refine aad (wpAny_lookBehind hoD (by rw[hdD];exact pastItsLine_dict (aar hcD (by rw[length_cons];omega))) ?_)
 exact aae (h _ ⟨(hs2.2 _ (ab1 I.ne)).trans I.obj,hn2,I.ne⟩ hs2)
theorem zSh(X:K.In s.heap)(hm:PySem.W.makesIn K C=true)(hi:findIn K (.ref C) "__init__" = some (some (.ref f)))(hf:typeIn K (.ref f)=some (.type "function"))(h:codeAny (model prog w) (A.under (.builtin "type.__call__" ⟨.ref C::vs,kw⟩)) (.call (.ref f) ⟨.ref (s.heap.objs.size+1)::vs,kw⟩) (PySem.W.InitBack (s.heap.objs.size+1) R)
   { s with heap:=(s.heap.push emptyDict).push (instObj C s.heap.objs.size) }) :
  codeAny (model prog w) A (.call (.ref C) ⟨vs,kw⟩) R s:=by
 obtain⟨hh,g,d,t,os⟩:=s
 exact PySem.W.make_core (PySem.W.makes_of X hm) (PySem.W.looks_findIn X hi) (λself=>PySem.W.bind_fn X self hf) (.inl rfl) h
end
def au(f:Str)(v:V):List (Str×V)->List (Str×V)
 |[]=>[(f,v)]
 | (g,x)::r=>if g=f then(g,v)::r else(g,x)::au f v r
theorem zM(f g:Str)(v:V):∀fs:List (Str×V),(au f v fs).lookup g=if g=f then some v else fs.lookup g
 |[]=>by
  show ab7 g [(f,v)]=_
  by_cases h:g=f
  ·have hb:(g==f)=true:=beq_iff_eq.mpr h
   simp only[ab7,hb,if_pos h]
  ·have hb:(g==f)=false:=beq_eq_false_iff_ne.mpr h
   simp only[ab7,hb,if_neg h]
 | (k,x)::r=>by
  have ih:=zM f g v r
  rw[show au f v ((k,x)::r)=(if k=f then(k,v)::r else(k,x)::au f v r) from rfl]
  by_cases hk:k=f
  ·rw[if_pos hk]
   by_cases h:g=k
   ·have hb:(g==k)=true:=beq_iff_eq.mpr h
    simp only[ab7,hb,if_pos (h.trans hk)]
   ·have hb:(g==k)=false:=beq_eq_false_iff_ne.mpr h
    simp only[ab7,hb,if_neg (λe:g=f=>h (e.trans hk.symm))]
  ·rw[if_neg hk]
   by_cases h:g=k
   ·have hb:(g==k)=true:=beq_iff_eq.mpr h
    simp only[ab7,hb,if_neg (λe:g=f=>hk (h.symm.trans e))]
   ·have hb:(g==k)=false:=beq_eq_false_iff_ne.mpr h
    simp only[ab7,hb]
    exact ih
theorem U5(f:Str)(v:V):∀fs:List (Str×V),f∈(au f v fs).map (·.1)/\∀g,g∈fs.map (·.1)->g∈(au f v fs).map (·.1)
 |[]=>⟨by simp[au],λg h=>by simp at h⟩
 | (k,x)::r=>by
  obtain⟨i1,i2⟩:=U5 f v r
  rw[show au f v ((k,x)::r)=(if k=f then(k,v)::r else(k,x)::au f v r) from rfl]
  by_cases hk:k=f
  ·rw[if_pos hk]
   subst hk
   exact⟨by simp,λg h=>by simpa using h⟩
  ·rw[if_neg hk]
   refine⟨?_,λg h=>?_⟩
   ·rw[map_cons]
    exact mem_cons_of_mem _ i1
   ·rw[map_cons] at h ⊢
    rcases mem_cons.mp h with e|e
    ·exact mem_cons.mpr (.inl e)
    ·exact mem_cons_of_mem _ (i2 g e)
theorem YD(f:Str)(v:V):∀fs:List (Str×V),(au f v fs).length<=fs.length+1
 |[]=>by simp[au]
 | (k,x)::r=>by
  have ih:=YD f v r
  rw[show au f v ((k,x)::r)=(if k=f then(k,v)::r else(k,x)::au f v r) from rfl]
  by_cases hk:k=f
  ·rw[if_pos hk,length_cons,length_cons];omega
  ·rw[if_neg hk,length_cons,length_cons];omega
theorem fJ.some_of(r:fJ (some v) o):∃u,o=some u/\RelV v u:=by
 cases o with
 |none=>exact(show False from r).elim
 |some u=>exact⟨u,rfl,r⟩
theorem fJ.none_of(r:fJ none o):o=none:=by
 cases o with
 |none=>rfl
 |some u=>exact(show False from r).elim
theorem zPg(r:RelV v u):PySem.W.handedIn u=true:=by
 cases v with
 |non=>cases(show u=acv from r);rfl
 |bl b=>cases(show u=aex b from r);rfl
 |int i=>obtain⟨t,e⟩:=(show∃t,u=abr i t from r);cases e;rfl
 |str x=>obtain⟨t,e⟩:=(show∃t,u=aeo x t from r);cases e;rfl
 |zp b=>obtain⟨t,e⟩:=(show∃t,u=Value.bytes b t from r);cases e;rfl
 |flt b=>obtain⟨t,e⟩:=(show∃t,u=ae7 b t from r);cases e;rfl
 |ref a=>cases(show u=aa2 a from r);rfl
 |ty n=>cases(show u=ac8 n from r);rfl
section
variable{P:Program}{w:World}{H H':Hp}{h h':Heap}{a C dx:Addr}{fs fs':List (Str×V)}
theorem RK(hok:fV P w H h)(e:H a=some (.ins C dx fs)):∃mA,pN h a dx C mA/\(∀f,fJ (fs.lookup f) (mA f))/\ae2 mA (fs.map (·.1))/\fs.length<=1000/\H dx=some (.own a):=by
 obtain⟨d,z,ne,ob,mA,n,r,q⟩:=(show aQ P w H h a (.ins C dx fs) from hok a _ e)
 exact⟨mA,⟨ob,n,ne⟩,r,q,z,d⟩
end
structure Cls(K:PySem.W.Frag)(C:Addr):Prop where
 pg:plainGet K C adf=true
 hd:hasDictIn K C=true
 po:PySem.W.plainOver K C=true
 sa:findIn K (.ref C) "__setattr__" = some (some (.builtin "object.__setattr__"))
theorem Cls.get{K:PySem.W.Frag}{C:Addr}(c:Cls K C)(f:Str):plainGet K C f=true:=c.pg
def aW(K:PySem.W.Frag)(C:Addr)(f:Str):Prop:=findIn K (.ref C) f=some none
theorem aW.taker{K:PySem.W.Frag}{C:Addr}{f:Str}(n:aW K C f):takerIn K C f=some none:=by
 unfold takerIn
 rw[show findIn K (.ref C) f=some none from n]
 rfl
structure Con(K:PySem.W.Frag)(C:Addr)(f:Str)(v:V)(u:Value):Prop where
 at_:findIn K (.ref C) f=some (some u)
 rel:RelV v u
 get:specialIn K u "__get__" = some none
 cp:PySem.W.copiedNames.contains f=false
structure Meth(K:PySem.W.Frag)(C:Addr)(m:Str)(f:Addr):Prop where
 at_:findIn K (.ref C) m=some (some (.ref f))
 fn:isFn K (.ref f)=true
 kp:keepIn K (.ref f)=true
section
variable{X:Cx}{pins:List (Addr×Obj)}{σ:St}{H:Hp}{s:Shared}{a C dx:Addr}{fs:List (Str×V)}{f:Str}{v:V}{A:Around}{E:Value->Shared->Prop}
theorem zMe{Q:Value->Shared->Prop}(I:Inv X pins σ H s)(e:H a=some (.ins C dx fs))(c:Cls X.K C)(n:aW X.K C f)(l:fs.lookup f=some v)(h:∀u s',Inv X pins σ H s'->RelV v u->Q u s'):wpAny (model X.prog X.w) A (getAttr (.ref a) f b) Q E s:=by
 obtain⟨mA,O,r,_,_,_⟩:=RK I.hok e
 obtain⟨u,hu,ru⟩:=fJ.some_of (v:=v) (o:=mA f) (by rw[<-l];exact r f)
 exact get_map I.iT O (c.get f) c.hd n hu (zPg ru) (h u _ (I.tok _) ru)
theorem YF{Q:Value×List Value->Shared->Prop}(I:Inv X pins σ H s)(e:H a=some (.ins C dx fs))(c:Cls X.K C)(k:Meth X.K C m g)(l:fs.lookup m=none)(h:Q (.ref g,[.ref a]) s):wpAny (model X.prog X.w) A (getMethod (.ref a) m pl) Q E s:=by
 obtain⟨mA,O,r,_,_,_⟩:=RK I.hok e
 have hn:mA m=none:=fJ.none_of (by rw[<-l];exact r m)
 exact zSr I.iT O (c.get m) k.at_ k.fn hn h
theorem zLt{Q:Unit->Shared->Prop}(I:Inv X pins σ H s)(e:H a=some (.ins C dx fs))(c:Cls X.K C)(n:aW X.K C f)(hl:fs.length<1000)(ry:RelV y u)(h:∀s',Inv X pins σ (upd H a (.ins C dx (au f y fs))) s'->Q () s'):wpAny (model X.prog X.w) A (setAttr (.ref a) f u) Q E s:=by
 obtain⟨mA,O,r,wi,_,ho⟩:=RK I.hok e
 have hz:(fs.map (·.1)).length<=sizeLine:=by rw[length_map,aem];omega
 refine Af I.iT O c.sa c.po n.taker c.hd wi hz λh' O' sb=>h _ ?_
 have hd:∃o,h'.get? dx=some o:=let⟨o,_,_,e',_⟩:=O'.ns;⟨o,e'⟩
 refine I.write (x:=a) (e:=dx) (by rw[e];exact acf) (.inr ho) (λb q hb z=>(sb.2 b hb).trans z) hd ?_
 refine⟨by rw[zJ O.ne];exact ho,?_,O.ne,O'.obj,_,O'.ns,λg=>?_,λg hg=>?_⟩
 ·have:=YD f y fs;omega
 ·show fJ ((au f y fs).lookup g) (if g=f then some u else mA g)
  rw[zM]
  by_cases q:g=f
  ·rw[if_pos q,if_pos q];exact ry
  ·rw[if_neg q,if_neg q];exact r g
 ·by_cases q:g=f
  ·rw[q];exact(U5 f y fs).1
  ·refine(U5 f y fs).2 g (wi g λz=>hg ?_)
   show(if g=f then some u else mA g)=none
   rw[if_neg q];exact z
theorem Inv.made(I:Inv X pins σ H s):Inv X pins σ (upd (upd H s.heap.objs.size (.own (s.heap.objs.size+1))) (s.heap.objs.size+1) (.ins C s.heap.objs.size []))
  { s with heap:=(s.heap.push emptyDict).push (instObj C s.heap.objs.size) }:=by
 have e1:(s.heap.push emptyDict).get? s.heap.objs.size=some emptyDict:=get?_push_size s.heap rfl
 have e2:((s.heap.push emptyDict).push (instObj C s.heap.objs.size)).get? (s.heap.objs.size+1)=some (instObj C s.heap.objs.size):=by
  have:=get?_push_size (s.heap.push emptyDict) (o:=instObj C s.heap.objs.size) rfl
  rwa [size_push] at this
 have e3:(s.heap.push emptyDict).Ns s.heap.objs.size (λ_=>none):=⟨emptyDict,#[],_,e1,rfl,(λe he=>absurd he (by simp)),λ_=>rfl⟩
 have I1:=I.laid (a:=s.heap.objs.size) (o:=.own (s.heap.objs.size+1)) (h':=s.heap.push emptyDict) (t':=s.toks) (λb u q=>get?_push_of_some _ q) (aag _) ⟨_,e1⟩
 refine I1.laid (a:=s.heap.objs.size+1) (o:=.ins C s.heap.objs.size []) (t':=s.toks) (λb u q=>get?_push_of_some _ q) (Nat.le_of_eq (size_push _ _)) ?_
 have ne:s.heap.objs.size≠s.heap.objs.size+1:=aam (ach _)
 refine⟨by rw[zJ ne,zK],aa0 _,ne,e2,λ_=>none,(Heap.Ns1.of_empty e3).at λo q=>get?_push_of_some _ q,λ_=>acf,λy hy=>absurd rfl hy⟩
theorem Ag(hb:attributeBase e f env (eval e env)=eval e env)(h:wpAny (model prog w) A (eval e env) (λo s₁=>wpAny (model prog w) A (getAttr o f true) Q E s₁) E s):wpAny (model prog w) A (eval (.Attribute e f pos) env) Q E s :=
 Attribute_any_ h (by rw[arm_eval_Attribute,hb])
end
def m8(K:PySem.W.Frag)(ta:TE)(f:Str):TE:=λσ H Q=>ta σ H λx H1=>∃a C dx fs v,x=.ref a/\H1 a=some (.ins C dx fs)/\Cls K C/\aW K C f/\fs.lookup f=some v/\Q v H1
def U6(K:PySem.W.Frag)(ta tv:TE)(f:Str):TS:=λD σ H=>tv σ H λy H1=>ta σ H1 λx H2=>∃a C dx fs,x=.ref a/\H2 a=some (.ins C dx fs)/\Cls K C/\aW K C f/\fs.length<1000 /\
 D.nx σ (upd H2 a (.ins C dx (au f y fs)))
section
variable{X:Cx}{o e value:Expr}{f:Str}{pos pos' tpos:Pos}{ta tv:TE}
theorem YG(he:PE X e ta)(hb:attributeBase e f X.env (eval e X.env)=eval e X.env):PE X (.Attribute e f pos) (m8 X.K ta f):=by
 intro pins s σ H Q I h
 refine Ag hb (aL (he pins s σ H _ I h) λu s1 ⟨x,H1,I1,rx,a,C,dx,fs,v,ex,ea,c,n,l,q⟩=>?_)
 subst ex
 obtain rfl:u=aa2 a:=rx
 exact zMe I1 ea c n l λu' s2 I2 ru=>⟨v,H1,I2,ru,q⟩
theorem yj(ha:PE X o ta)(hv:PE X value tv)(hs:swapsWith value (some (.Attribute o f pos')) pos.line X.env=pure false):PS X (.Assign [.Attribute o f pos'] value pos) (U6 X.K ta tv f):=by
 intro pins s σ H D I h
 refine plainObj_wpAny_Assign_Attribute (aL (hv pins s σ H _ I h) λu s1 ⟨y,H1,I1,ry,q⟩=>aL (ha pins s1 σ H1 _ I1 q) λov s2 ⟨x,H2,I2,rx,a,C,dx,fs,ex,ea,c,n,l,q2⟩=>?_) hs
 subst ex
 obtain rfl:ov=aa2 a:=rx
 exact zLt I2 ea c n l ry λs3 I3=>⟨σ,_,I3,q2⟩
end
section
variable{X:Cx}{pins:List (Addr×Obj)}{σ:St}{H:Hp}{s:Shared}{A:Around}{E:Value->Shared->Prop}{Q:Value->Shared->Prop}{c:Value}{b:Bool}
inductive iV(K:PySem.W.Frag)(H:Hp):V->Value->Prop where
 |non:iV K H .non (.type "NoneType")
 |bl (x:Bool):iV K H (.bl x) (.type "bool")
 |int (i:Int):iV K H (.int i) (.type "int")
 |str (x:Str):iV K H (.str x) (.type "str")
 |flt (x:UInt64):iV K H (.flt x) (.type "float")
 |lst {a:Addr} {xs:List V} (e:H a=some (.lst xs)):iV K H (.ref a) (.type "list")
 |fU {a:Addr} {o:Obj} {xs:List V} (e:H a=some (.fU o (.lst xs))):iV K H (.ref a) (.type "list")
 |tup {a:Addr} {xs:List V} (e:H a=some (.tup xs)):iV K H (.ref a) (.type "tuple")
 |dK {a:Addr} {kvs:List (Key×V)} (e:H a=some (.dK kvs)):iV K H (.ref a) (.type "dict")
 |dT {a:Addr} {kvs:List (List Key×V)} (e:H a=some (.dT kvs)):iV K H (.ref a) (.type "dict")
 |ins {a C dx:Addr} {fs:List (Str×V)} (e:H a=some (.ins C dx fs)) (cl:Cls K C) (ha:findIn K (.ref C) "__class__" = some (some (.builtin "object.__class__")))
   (hn:specialIn K (.builtin "object.__class__") "__get__" = some (some (.builtin "getset_descriptor.__get__"))) (htk:takesIn K (.builtin "object.__class__")=some true)
   (hm:mroIn K C (.type "object")=some true):iV K H (.ref a) (.ref C)
theorem zO9(I:Inv X pins σ H s)(rx:RelV x u)(ty:iV X.K H x t)(e:kitOne X.K t c=some b)(h:∀tk,Q (.bool b) { s with toks:=tk }) :
  wpAny (model X.prog X.w) A (call (.builtin "isinstance") [u,c]) Q E s:=by
 cases ty with
 |non=>cases(show u=acv from rx);exact adn PySem.W.kitx_none I.iT acf e (λz=>nomatch z) h
 |bl y=>cases(show u=aex y from rx);exact adn PySem.W.kitx_bool I.iT acf e (λz=>nomatch z) h
 |int i=>obtain⟨t,q⟩:=(show∃t,u=abr i t from rx);cases q;exact adn PySem.W.kitx_int I.iT acf e (λz=>nomatch z) h
 |str y=>obtain⟨t,q⟩:=(show∃t,u=aeo y t from rx);cases q;exact adn PySem.W.kitx_str I.iT acf e (λz=>nomatch z) h
 |flt y=>obtain⟨t,q⟩:=(show∃t,u=ae7 y t from rx);cases q;exact adn PySem.W.kitx_float I.iT acf e (λz=>nomatch z) h
 |@lst a xs ea =>
  cases(show u=aa2 a from rx)
  obtain⟨_,_,n,_,h1⟩:=(show aQ X.prog X.w H s.heap a (.lst xs) from I.hok a _ ea)
  exact adn PySem.W.kitx_list I.iT ⟨_,h1,rfl⟩ e (λz=>nomatch z) h
 |@fU a ob xs ea =>
  cases(show u=aa2 a from rx)
  obtain⟨_,_,_,n,_,h1⟩:=(show aQ X.prog X.w H s.heap a (.fU ob (.lst xs)) from I.hok a _ ea)
  exact adn PySem.W.kitx_list I.iT ⟨_,h1,rfl⟩ e (λz=>nomatch z) h
 |@tup a xs ea =>
  cases(show u=aa2 a from rx)
  obtain⟨_,_,_,p⟩:=(show aQ X.prog X.w H s.heap a (.tup xs) from I.hok a _ ea)
  obtain⟨o,h1,h2,_⟩:=p
  exact adn PySem.W.kitx_tuple I.iT ⟨o,h1,h2⟩ e (λz=>nomatch z) h
 |@dK a kvs ea =>
  cases(show u=aa2 a from rx)
  obtain⟨_,_,vs,_,p⟩:=(show aQ X.prog X.w H s.heap a (.dK kvs) from I.hok a _ ea)
  obtain⟨o,es,ep,h1,h2,_⟩:=p
  exact adn PySem.W.kitx_dict I.iT ⟨o,h1,h2.1⟩ e (λz=>nomatch z) h
 |@dT a kvs ea =>
  cases(show u=aa2 a from rx)
  obtain⟨_,_,xs,_,o,es,ep,h1,h2,_⟩:=(show aQ X.prog X.w H s.heap a (.dT kvs) from I.hok a _ ea)
  exact adn PySem.W.kitx_dict I.iT ⟨o,h1,h2.1⟩ e (λz=>nomatch z) h
 |@ins a C dx fs ea cl ha hn htk hm =>
  cases(show u=aa2 a from rx)
  obtain⟨mA,O,_⟩:=RK I.hok ea
  obtain⟨od,J,_⟩:=O.look
  exact adn (PySem.W.kitx_own (cl.get _) cl.hd ha hn htk hm) I.iT J e (λz=>nomatch z) h
end
structure bx(k:Nat)(A:Around):Prop where
 hd:A.handled=none
 dp:A.depth+3*k+5<recursionLimit
 un:A.units+16*k+200<cLine
theorem bx.mono(r:bx k A)(h:j<=k):bx j A:=⟨r.hd,by have:=r.dp;omega,by have:=r.un;omega⟩
theorem bx.deeper(r:bx (k+1) A)(env:Env):bx k (A.deeper env) :=
 ⟨r.hd,by have:=r.dp;show A.depth+1+3*k+5<_;omega,by have:=r.un;show A.units+3+16*k+200<_;omega⟩
theorem zL9{A:Around}:(A.under (.builtin "type.__call__" ⟨.ref C::us,kw⟩)).depth=A.depth+1:=by
 first|rfl|simp[aez,Code.weight,Code.isCreation,Code.isGuard,Code.isCaller,Code.frames,ae0,guardIds]
theorem zL8{A:Around}:(A.under (.builtin "type.__call__" ⟨.ref C::us,kw⟩)).units=A.units+1:=by
 first|rfl|simp[aez,Code.cUnits,Code.frames,ae0]
theorem bx.make(r:bx (k+1) A)(C:Addr)(us:List Value)(kw:List (Str×Value)):bx k (A.under (.builtin "type.__call__" ⟨.ref C::us,kw⟩)) :=
 ⟨r.hd,by have:=r.dp;rw[zL9];omega,by have:=r.un;rw[zL8];omega⟩
theorem bx.depth(r:bx k A):A.depth<recursionLimit:=by have:=r.dp;omega
theorem bx.units(r:bx k A):A.units+64<cLine:=by have:=r.un;omega
def aY:TA:=λ_ H Q=>Q [] H
def yK(ta:TE)(tr:TA):TA:=λσ H Q=>ta σ H λx H1=>tr σ H1 λxs H2=>Q (x::xs) H2
section
variable{X:Cx}{e:Expr}{es:List Expr}{te:TE}{t:TA}{pos:Pos}
theorem zE:PA X [] aY:=λ_ _ _ _ H Q I h=>ad2 ⟨[],H,I,.nil,h⟩
theorem zA(ha:PE X e te)(hr:PA X es t)(hs:starEach (e::es) X.env=(false,eval e X.env)::starEach es X.env:=by rfl):PA X (e::es) (yK te t):=by
 intro pos pins s σ H Q I h
 rw[hs]
 show wpAny _ _ (spliced ((false,eval e X.env)::backTo pos (starEach es X.env))) _ _ s
 refine ad0 (aL (ha pins s σ H _ I h) λu s1 ⟨x,H1,I1,r1,q1⟩=>?_)
 exact aL (hr pos pins s1 σ H1 _ I1 q1) λus s2 ⟨xs,H2,I2,r2,q2⟩=>⟨x::xs,H2,I2,.cons r1 r2,q2⟩
def qQ(t:TA):TE:=λσ H Q=>t σ H λxs H1=>xs.length<=sizeLine/\∀p,H1 p=none->Q (.ref p) (upd H1 p (.tup xs))
def Ah(t:TA):TE:=λσ H Q=>t σ H λxs H1=>xs.length<=sizeLine/\∀p,H1 p=none->Q (.ref p) (upd H1 p (.lst xs))
theorem yp{x1}(h:PA X es t):PE X (.Tuple es x1 pos) (qQ t):=by
 intro pins s σ H Q I hq
 refine wpAny_Tuple_spliced (aL (h pos pins s σ H _ I hq) λus s1 ⟨xs,H1,I1,r,z,q⟩=>⟨by rw[<-r.length];exact z,?_⟩)
 have hf:H1 s1.heap.objs.size=none:=I1.hok.fresh (aag _)
 refine⟨.ref s1.heap.objs.size,upd H1 s1.heap.objs.size (.tup xs),I1.laid (t':=s1.toks) (λb u e=>get?_push_of_some _ e) (aag _) ?_,rfl,q _ hf⟩
 exact⟨z,us,r,⟨_,get?_push_size _ rfl,rfl,_,rfl⟩⟩
theorem vK(h:PA X es t):PE X (.List es pos) (Ah t):=by
 intro pins s σ H Q I hq
 refine wpAny_List_spliced (aL (h pos pins s σ H _ I hq) λus s1 ⟨xs,H1,I1,r,z,q⟩=>⟨by rw[<-r.length];exact z,?_⟩)
 have hf:H1 s1.heap.objs.size=none:=I1.hok.fresh (aag _)
 refine⟨.ref s1.heap.objs.size,upd H1 s1.heap.objs.size (.lst xs),I1.laid (t':=s1.toks) (λb u e=>get?_push_of_some _ e) (aag _) ?_,rfl,q _ hf⟩
 exact⟨z,us,0,r,get?_push_size _ rfl⟩
end
abbrev Sp:=List V->Hp->VK->XK->Prop
abbrev qR:=List Env->Hp->Shared->XK->Value->Shared->Prop
structure pO(P:Program)(w:World)(K:PySem.W.Frag)(mg:Str->Option Value)(base:Heap)(A:Around)(outer:List Env)(s:Shared)(H:Hp):Prop where
 frames:A.frames=some outer
 mod:Mod K mg base
 bs:∀b o,base.get? b=some o->s.heap.get? b=some o/\H b=none
 zy:base.objs.size<=s.heap.objs.size
 jO:s.heap.FunFrames base outer
 Hl:∀b∈frs outer,H b=none
 hok:fV P w H s.heap
 bare:AllBare s.gens
def CE(outer:List Env)(P:Program)(w:World)(H:Hp)(s:Shared)(Q:VK)(u:Value)(s':Shared):Prop :=
 ∃v H',s'.os=s.os/\AllBare s'.gens/\Un (frs outer) [] H H' s.heap s'.heap/\fV P w H' s'.heap/\RelV v u/\Q v H'
def CR(CX:qR)(outer:List Env)(P:Program)(w:World)(H:Hp)(s:Shared)(Q:VK)(E:XK)(r:Result)(s':Shared):Prop :=
 match r with
 |.ok (.ret u)=>CE outer P w H s Q u s'
 |.ok _=>False
 |.error e=>CX outer H s E e s'
structure aq(P:Program)(w:World)(K:PySem.W.Frag)(mg:Str->Option Value)(base:Heap)(CX:qR)(k:Nat)(f:Addr)(fd:FuncData)(ps:List Str)(sp:Sp):Prop where
 len:∀vs H Q E,sp vs H Q E->vs.length=ps.length
 run:∀(A:Around)(outer:List Env)(s:Shared)(H:Hp)(args:Args)(us:List Value)(vs:List V)(Q:VK)(E:XK),bx k A->pO P w K mg base A outer s H->BindsTo s fd args (ps.zip us)->Vals vs us->sp vs H Q E ->
  codeAny (model P w) A (.call (.ref f) args) (CR CX outer P w H s Q E) s
theorem aq.mono{P:Program}{w:World}{K:PySem.W.Frag}{mg:Str->Option Value}{base:Heap}{CX:qR}{j k:Nat}{f:Addr}{fd:FuncData}{ps:List Str}{sp:Sp}(F:aq P w K mg base CX j f fd ps sp)(h:j<=k) :
  aq P w K mg base CX k f fd ps sp:=⟨F.len,λA outer s H args us vs Q E hr=>F.run A outer s H args us vs Q E (hr.mono h)⟩
theorem aq.imp{P:Program}{w:World}{K:PySem.W.Frag}{mg:Str->Option Value}{base:Heap}{CX:qR}{k:Nat}{f:Addr}{fd:FuncData}{ps:List Str}{sp YH:Sp}(F:aq P w K mg base CX k f fd ps sp)(h:∀vs H Q E,YH vs H Q E->sp vs H Q E):aq P w K mg base CX k f fd ps YH :=
 ⟨λvs H Q E q=>F.len vs H Q E (h _ _ _ _ q),λA outer s H args us vs Q E hr he hb hv hs=>F.run A outer s H args us vs Q E hr he hb hv (h _ _ _ _ hs)⟩
theorem pO.make{P:Program}{w:World}{K:PySem.W.Frag}{mg:Str->Option Value}{base:Heap}{A:Around}{outer:List Env}{s:Shared}{H:Hp}(e:pO P w K mg base A outer s H)(C:Addr)(us:List Value)(kw:List (Str×Value)) :
  pO P w K mg base (A.under (.builtin "type.__call__" ⟨.ref C::us,kw⟩)) outer s H:=⟨by first|exact e.frames|(simpa[aez,Code.envs,ae0,pushEnvs] using e.frames),e.mod,e.bs,e.zy,e.jO,e.Hl,e.hok,e.bare⟩
section
variable{X:Cx}{pins:List (Addr×Obj)}{σ:St}{H:Hp}{s s':Shared}
theorem Inv.env0(I:Inv X pins σ H s):pO X.prog X.w X.K X.mg X.base X.A X.stack s H :=
 ⟨I.ok.frames,I.ok.mod,I.bs,aar I.ok.zy I.sz,I.stack,I.qz,I.hok,I.bare⟩
theorem Inv.after(I:Inv X pins σ H s)(h:CE X.stack X.prog X.w H s Q u s'):EP X pins σ Q u s':=by
 obtain⟨v,H',os,bare,un,hok,r,q⟩:=h
 obtain⟨hh,g,d,t,os'⟩:=s'
 obtain rfl:os'=s.os:=os
 exact⟨v,H',I.call (h':=hh) (g':=g) (d':=d) (t':=t) (ch:=[]) un hok bare (λb z=>absurd z (by simp)),r,q⟩
end
def Ld(sp:Sp)(jJ:List V)(E:XK)(t:TA):TE:=λσ H Q=>t σ H λvs H1=>sp (vs++jJ) H1 Q E
def Nx(C:Addr)(m:Str)(sp:Sp)(jJ:List V)(E:XK)(ta:TE)(t:TA):TE:=λσ H Q=>ta σ H λx H1=>∃a dx fs,x=.ref a/\H1 a=some (.ins C dx fs)/\fs.lookup m=none /\
 t σ H1 λvs H2=>sp (x::(vs++jJ)) H2 Q E
def Ih(C:Addr)(sp:Sp)(jJ:List V)(E:XK)(t:TA):TE:=λσ H Q=>t σ H λvs H1=>∀x dx,H1 x=none->H1 dx=none->dx≠x ->
 sp (.ref x::(vs++jJ)) (upd (upd H1 dx (.own x)) x (.ins C dx [])) (λv H2=>v=.non/\Q (.ref x) H2) E
def Binds(K:PySem.W.Frag)(fd:FuncData)(ps:List Str)(ds:List Value):Prop :=
 ∀(s:Shared)(us:List Value),K.In s.heap->(us++ds).length=ps.length->BindsTo s fd ⟨us,[]⟩ (ps.zip (us++ds))
theorem Binds.all{K:PySem.W.Frag}{fd:FuncData}{ps:List Str}(h:∀us:List Value,us.length=ps.length->bindArgs fd ⟨us,[]⟩=pure (ps.zip us)):Binds K fd ps []:=λs us _ hl=>by
 rw[append_nil] at hl ⊢
 exact .of_eq (h us hl)
def Ai(CX:qR)(X:Cx)(E:XK):Prop:=∀(pins:List (Addr×Obj))(σ:St)(H:Hp)(s:Shared)(e:Value)(s':Shared),Inv X pins σ H s->CX X.stack H s E e s'->X.xe e s'
section
variable{X:Cx}{CX:qR}{k:Nat}{f C:Addr}{fd:FuncData}{ps:List Str}{sp:Sp}{jJ:List V}{ds:List Value}{E:XK}{x m:Str}{p pos apos:Pos}{e o:Expr}{es:List Expr}{ta:TE}{t:TA}
theorem RM(F:aq X.prog X.w X.K X.mg X.base CX k f fd ps sp)(hr:bx k X.A)(hb:Binds X.K fd ps ds)(hd:Vals jJ ds)(hx:Ai CX X E)(I:Inv X pins σ H s)(r:Vals vs us)(h:sp (vs++jJ) H Q E):wpAny (model X.prog X.w) X.A (call (.ref f) us) (EP X pins σ Q) X.xe s:=by
 have r2:Vals (vs++jJ) (us++ds):=r.append hd
 have hl:(us++ds).length=ps.length:=by rw[<-r2.length];exact F.len _ _ _ _ h
 refine wpAny_call (ac1 (F.run X.A X.stack s H ⟨us,[]⟩ (us++ds) (vs++jJ) Q E hr I.env0 (hb s us I.iT hl) r2 h) λr s' hq=>?_)
 cases r with
 |error e=>exact hx pins σ H s e s' I hq
 |ok fl =>
  cases fl with
  |ret u=>exact I.after hq
  |next=>exact abb hq
  |brk=>exact abb hq
  |cont=>exact abb hq
theorem Aj(F:aq X.prog X.w X.K X.mg X.base CX k f fd ps sp)(hr:bx k X.A)(hg:Gl X x)(hm:X.mg x=some (.ref f))(hk:keepIn X.K (.ref f)=true)(hb:Binds X.K fd ps ds)(hd:Vals jJ ds)(hx:Ai CX X E)(ha:PA X (e::es) t)(hdb:(x==("__debug__":Str))=false:=by decide)(he:starEach (e::es) X.env=(false,eval e X.env)::starEach es X.env:=by rfl)(hpl:(backTo pos (starEach es X.env)).any (·.1)=false:=by rfl) :
  PE X (.Call (.Name x p) (e::es) [] pos) (Ld sp jJ E t):=by
 intro pins s σ H Q I h
 refine abh (M6 I hg hm ?_ hdb)
 refine aee (h₀:=X.base) I.ok.mod.K7 hk (aL (ha pos pins s σ H _ I h) λus s1 ⟨vs,H1,I1,r,q⟩=>⟨I1.iT,?_⟩) he hpl
 exact RM F hr hb hd hx I1 r q
theorem Ak(he:PE X o ta)(c:Cls X.K C)(hm:Meth X.K C m f)(F:aq X.prog X.w X.K X.mg X.base CX k f fd ps sp)(hr:bx k X.A)(hb:Binds X.K fd ps ds)(hd:Vals jJ ds)(hx:Ai CX X E)(ha:PA X (e::es) t)(hst:starEach (e::es) X.env=(false,eval e X.env)::starEach es X.env:=by rfl)(hpl:(backTo pos (starEach es X.env)).any (·.1)=false:=by rfl)(ht:eval (.Call (.Attribute o m apos) (e::es) [] pos) X.env=(do
   let ov <-eval o X.env
   standAt apos.atName
   let(f,first) <-holding [ov] (getMethod ov m pl)
   callWith pos f first (backTo pos (starEach (e::es) X.env)) (backToKw pos (keywordEach [] X.env))):=by rfl) :
  PE X (.Call (.Attribute o m apos) (e::es) [] pos) (Nx C m sp jJ E ta t):=by
 intro pins s σ H Q I h
 refine aeb (pl:=pl) (aL (he pins s σ H _ I h) λu s1 ⟨x,H1,I1,rx,a,dx,fs,ex,ea,l,q⟩=>?_) ht
 subst ex
 obtain rfl:u=aa2 a:=rx
 refine YF I1 ea c hm l ?_
 refine aee (first:=[.ref a]) (h₀:=X.base) I.ok.mod.K7 hm.kp (aL (ha pos pins s1 σ H1 _ I1 q) λus s2 ⟨vs,H2,I2,r,q2⟩=>⟨I2.iT,?_⟩) hst hpl
 exact RM (us:=.ref a::us) (vs:=.ref a::vs) F hr hb hd hx I2 (.cons rfl r) q2
theorem zRy(he:PE X o ta)(c:Cls X.K C)(hm:Meth X.K C m f)(F:aq X.prog X.w X.K X.mg X.base CX k f fd ps sp)(hr:bx k X.A)(hb:Binds X.K fd ps ds)(hd:Vals jJ ds)(hx:Ai CX X E)(ht:eval (.Call (.Attribute o m apos) [] [] pos) X.env=(do
   let ov <-eval o X.env
   standAt apos.atName
   let(f,first) <-holding [ov] (getMethod ov m pl)
   callWith pos f first (backTo pos (starEach [] X.env)) (backToKw pos (keywordEach [] X.env))):=by rfl) :
  PE X (.Call (.Attribute o m apos) [] [] pos) (Nx C m sp jJ E ta aY):=by
 intro pins s σ H Q I h
 refine aeb (pl:=pl) (aL (he pins s σ H _ I h) λu s1 ⟨x,H1,I1,rx,a,dx,fs,ex,ea,l,q⟩=>?_) ht
 subst ex
 obtain rfl:u=aa2 a:=rx
 refine YF I1 ea c hm l ?_
 exact PySem.W.callWith_K0 (first:=[.ref a]) I1.iT hm.kp (RM (us:=[.ref a]) (vs:=[.ref a]) F hr hb hd hx I1 (.cons rfl .nil) q)
structure Mk(K:PySem.W.Frag)(C f:Addr):Prop where
 makes:PySem.W.makesIn K C=true
 init:findIn K (.ref C) "__init__" = some (some (.ref f))
 fn:isFn K (.ref f)=true
 kp:keepIn K (.ref C)=true
theorem YJ(M:Mk X.K C f)(F:aq X.prog X.w X.K X.mg X.base CX k f fd ps sp)(hr:bx (k+1) X.A)(hb:Binds X.K fd ps ds)(hd:Vals jJ ds)(hx:Ai CX X E)(I:Inv X pins σ H s)(r:Vals vs us)(h:∀x dx,H x=none->H dx=none->dx≠x->sp (.ref x::(vs++jJ)) (upd (upd H dx (.own x)) x (.ins C dx [])) (λv H2=>v=.non/\Q (.ref x) H2) E) :
  wpAny (model X.prog X.w) X.A (call (.ref C) us) (EP X pins σ Q) X.xe s:=by
 have hq:=h (s.heap.objs.size+1) s.heap.objs.size (I.hok.fresh (abv _)) (I.hok.fresh (aag _)) (aam (ach _))
 have I2:=Inv.made (C:=C) I
 have r2:Vals (V.ref (s.heap.objs.size+1)::(vs++jJ)) (aa2 (s.heap.objs.size+1)::(us++ds)):=.cons rfl (r.append hd)
 have hl:(aa2 (s.heap.objs.size+1)::us++ds).length=ps.length:=by
  have e:=r2.length
  rw[F.len _ _ _ _ hq] at e
  exact e.symm
 refine wpAny_call (zSh (f:=f) I.iT M.makes M.init (beq_iff_eq.mp M.fn) (ac1 (F.run _ X.stack _ _ ⟨aa2 (s.heap.objs.size+1)::us,[]⟩ (aa2 (s.heap.objs.size+1)::(us++ds)) _ _ E (hr.make C us [])
  (I2.env0.make C us []) (hb _ (aa2 (s.heap.objs.size+1)::us) I2.iT hl) r2 hq) λr s' hq'=>?_))
 cases r with
 |error e=>exact hx pins σ _ _ e s' I2 hq'
 |ok fl =>
  cases fl with
  |ret u =>
   obtain⟨v,H',I3,rv,ev,q3⟩:=I2.after hq'
   subst ev
   exact⟨rv,⟨V.ref (s.heap.objs.size+1),H',I3,rfl,q3⟩⟩
  |next=>exact abb hq'
  |brk=>exact abb hq'
  |cont=>exact abb hq'
theorem Ny(M:Mk X.K C f)(F:aq X.prog X.w X.K X.mg X.base CX k f fd ps sp)(hr:bx (k+1) X.A)(hg:Gl X x)(hm:X.mg x=some (.ref C))(hb:Binds X.K fd ps ds)(hd:Vals jJ ds)(hx:Ai CX X E)(ha:PA X (e::es) t)(hdb:(x==("__debug__":Str))=false:=by decide)(he:starEach (e::es) X.env=(false,eval e X.env)::starEach es X.env:=by rfl)(hpl:(backTo pos (starEach es X.env)).any (·.1)=false:=by rfl) :
  PE X (.Call (.Name x p) (e::es) [] pos) (Ih C sp jJ E t):=by
 intro pins s σ H Q I h
 refine abh (M6 I hg hm ?_ hdb)
 refine aee (h₀:=X.base) I.ok.mod.K7 M.kp (aL (ha pos pins s σ H _ I h) λus s1 ⟨vs,H1,I1,r,q⟩=>⟨I1.iT,?_⟩) he hpl
 exact YJ M F hr hb hd hx I1 r q
theorem zRz(M:Mk X.K C f)(F:aq X.prog X.w X.K X.mg X.base CX k f fd ps sp)(hr:bx (k+1) X.A)(hg:Gl X x)(hm:X.mg x=some (.ref C))(hb:Binds X.K fd ps ds)(hd:Vals jJ ds)(hx:Ai CX X E)(hdb:(x==("__debug__":Str))=false:=by decide):PE X (.Call (.Name x p) [] [] pos) (Ih C sp jJ E aY):=by
 intro pins s σ H Q I h
 refine abh (M6 I hg hm ?_ hdb)
 exact PySem.W.callWith_K0 I.iT M.kp (YJ (us:=[]) M F hr hb hd hx I .nil h)
end
section
variable{X:Cx}{CX:qR}{k:Nat}{f C:Addr}{fd:FuncData}{ps ks:List Str}{sp:Sp}{E:XK}{x m:Str}{p pos apos kpos:Pos}{e o:Expr}{es:List Expr}{kws:List Keyword}{te ta:TE}{t tk:TA}{nm:Option Str}
structure U7(K:PySem.W.Frag)(fd:FuncData)(ps ks:List Str)(g:List Value->List Value->List Value)(gV:List V->List V->List V):Prop where
 to:∀(s:Shared)(us ws:List Value),K.In s.heap->(g us ws).length=ps.length->BindsTo s fd ⟨us,ks.zip ws⟩ (ps.zip (g us ws))
 rel:∀{vs:List V}{us:List Value}{zs:List V}{ws:List Value},Vals vs us->Vals zs ws->Vals (gV vs zs) (g us ws)
variable{g:List Value->List Value->List Value}{gV:List V->List V->List V}
end
structure ao(N P:List Str)(sc:Scope):Prop where
 kind:sc.kind=.function
 co:sc.isCoroutine=false
 gen:sc.isGenerator=false
 nd:N.Nodup
 pre:N.take P.length=P
 par:∀x∈P,sc.names.lookup x=some .local\/sc.names.lookup x=some .cell
 Ii:∀y∈sc.names,y.2≠.free
theorem YK{kindOf:Str->Option NameKind}{x:Str}:∀{binds:List (Str×Value)}{m:Str->Option Value},(∀v,(x,v)∉binds)->bindL kindOf binds m x=m x
 |[],_,_=>rfl
 | (n,v)::r,m,h=>by
  unfold bindL
  rw[YK λw hw=>h w (mem_cons_of_mem _ hw)]
  split
  ·have:x≠n:=by rintro rfl;exact h v mem_cons_self
   simp[this]
  ·rfl
theorem YL{kindOf:Str->Option NameKind}{x:Str}:∀{binds:List (Str×Value)}{m:Str->Option Value},(∀v,(x,v)∉binds)->bindC kindOf binds m x=m x
 |[],_,_=>rfl
 | (n,v)::r,m,h=>by
  unfold bindC
  rw[YL λw hw=>h w (mem_cons_of_mem _ hw)]
  split
  ·rfl
  ·have:x≠n:=by rintro rfl;exact h v mem_cons_self
   simp[this]
theorem YM{kindOf:Str->Option NameKind}:∀{P:List Str}{vs:List Value}{i:Nat}{m:Str->Option Value},P.Nodup->P[i]?=some x->vs[i]?=some v->kindOf x=some .local ->
  bindL kindOf (P.zip vs) m x=some v
 |[],_,_,_,_,h,_,_=>by simp at h
 |_::_,[],_,_,_,_,h,_=>by simp at h
 |p::P,w::vs,0,m,nd,h1,h2,hk=>by
  simp at h1 h2;subst h1;subst h2
  show bindL kindOf ((p,w)::P.zip vs) m p=_
  unfold bindL
  rw[YK λv hv=>(nodup_cons.mp nd).1 (of_mem_zip hv).1,if_pos hk]
  simp
 |p::P,w::vs,i+1,m,nd,h1,h2,hk=>by
  show bindL kindOf ((p,w)::P.zip vs) m x=_
  unfold bindL
  exact YM (i:=i) (nodup_cons.mp nd).2 (by simpa using h1) (by simpa using h2) hk
theorem YQ{kindOf:Str->Option NameKind}:∀{P:List Str}{vs:List Value}{i:Nat}{m:Str->Option Value},P.Nodup->P[i]?=some x->vs[i]?=some v->kindOf x≠some .local ->
  bindC kindOf (P.zip vs) m x=some v
 |[],_,_,_,_,h,_,_=>by simp at h
 |_::_,[],_,_,_,_,h,_=>by simp at h
 |p::P,w::vs,0,m,nd,h1,h2,hk=>by
  simp at h1 h2;subst h1;subst h2
  show bindC kindOf ((p,w)::P.zip vs) m p=_
  unfold bindC
  rw[YL λv hv=>(nodup_cons.mp nd).1 (of_mem_zip hv).1,if_neg hk]
  simp
 |p::P,w::vs,i+1,m,nd,h1,h2,hk=>by
  show bindC kindOf ((p,w)::P.zip vs) m x=_
  unfold bindC
  exact YQ (i:=i) (nodup_cons.mp nd).2 (by simpa using h1) (by simpa using h2) hk
def start(N:List Str)(vs:List V):St:=vs.map some++replicate (N.length-vs.length) none
def lY(CX:qR)(P:Program)(w:World)(K:PySem.W.Frag)(mg:Str->Option Value)(base:Heap)(N:List Str)(qual:Str)(scope:Scope)(f:Addr)(cd:Value)(A:Around)(outer:List Env)(s:Shared)(H:Hp)(E:XK):Cx where
 prog:=P
 w:=w
 K:=K
 mg:=mg
 base:=base
 A:=A.deeper (envOfC qual scope s.heap.objs.size f cd)
 N:=N
 s₀:=s
 H₀:=H
 env:=envOfC qual scope s.heap.objs.size f cd
 outer:=outer
 stack:=envOfC qual scope s.heap.objs.size f cd::outer
 ex:=[]
 calm:=true
 fn:=λ_=>true
 pn:=[]
 xe:=λe s'=>wpAny (model P w) (A.deeper (envOfC qual scope s.heap.objs.size f cd)) (leaving (envOfC qual scope s.heap.objs.size f cd) e) (λ_ s''=>CX outer H s E e s'') (λe' s''=>CX outer H s E e' s'') s'
theorem YS{sc:Scope}(h:sc.names.lookup x=some .cell):∃c,(cellsFrom n sc.names []).lookup x=some c:=by
 have q:=acw sc.names n [] (.inl h)
 exact abn.mp q
theorem zPb{CX:qR}{P:Program}{w:World}{K:PySem.W.Frag}{mg:Str->Option Value}{base:Heap}{N ps:List Str}{qual:Str}{scope:Scope}{f:Addr}{cd:Value}{A:Around}{outer:List Env}{s s1:Shared}{H:Hp}{E:XK}{us:List Value}{vs:List V}(S:ao N ps scope)(hd:A.handled=none)(e0:pO P w K mg base A outer s H)(hl:vs.length=ps.length)(r:Vals vs us)(x:InCallC s s.heap.objs.size (bindL (envOfC qual scope s.heap.objs.size f cd).kindOf (ps.zip us) λ_=>none) (cellsFrom (s.heap.objs.size+1) scope.names []) (bindC (envOfC qual scope s.heap.objs.size f cd).kindOf (ps.zip us) λ_=>none) s1) :
  Inv (lY CX P w K mg base N qual scope f cd A outer s H E) [] (start N vs) H s1:=by
 have hpl:ps.length<=N.length:=by have:=congrArg length S.pre;rw[length_take] at this;omega
 obtain⟨h1,tk,rfl,hk⟩:=x.done
 have Nz:∀b:Addr,b∉(lY CX P w K mg base N qual scope f cd A outer s H E).ex:=λb z=>absurd (show b∈([]:List Addr) from z) (by simp)
 refine⟨⟨e0.mod,S.kind,rfl,rfl,aag _,λy z c h1 h2=>?_,λy hy=>?_,λy c _ h=>?_,λ_=>hd,Around.frames_deeper e0.frames,.inr ⟨rfl,rfl⟩,λb z=>absurd z (Nz b),e0.bs,e0.zy,λb _ _=>Nz b,λb z=>absurd z (Nz b),e0.jO,e0.Hl⟩,
  rfl,e0.bare,Un.kept hk,⟨_,x.toInCall.ns,λi y v h1 h2 h3=>?_⟩,λy c h=>⟨_,x.cell y c h⟩,e0.hok.fresh (aag _),λy c h=>?_,λp hp=>absurd (show p∈([]:List (Addr×Obj)) from hp) (by simp),e0.hok.kept hk,?_⟩
 ·exact name_of_addr x.apart (abf h1) (abf h2)
 ·have hy:scope.names.lookup y=some .cell\/scope.names.lookup y=some .free:=hy
  rcases hy with hy|hy
  ·exact YS hy
  ·exact absurd rfl (S.Ii _ (abf hy))
 ·exact ab8 (x.above y c (abf h))
 ·have hi:i<vs.length:=by
   unfold start at h2
   by_cases hi:i<vs.length
   ·exact hi
   ·rw[getElem?_append_right (by simpa using hi)] at h2
    rw[getElem?_replicate] at h2
    split at h2<;>cases h2
  have ha:vs[i]?=some v:=by
   unfold start at h2
   rw[getElem?_append_left (by simpa using hi),getElem?_map] at h2
   cases e:vs[i]? with
   |none=>rw[e] at h2;cases h2
   |some a=>rw[e] at h2;cases h2;rfl
  obtain⟨u,hu,rv⟩:=r.get ha
  have hp:ps[i]?=some y:=by
   rw[<-S.pre,getElem?_take_of_lt (by omega)];exact h1
  have YT:ps.Nodup:=by rw[<-S.pre];exact S.nd.sublist (List.take_sublist _ _)
  refine⟨u,rv,?_⟩
  rcases S.par y (mem_of_getElem? hp) with k|k
  ·exact .inl ⟨k,YM YT hp hu k⟩
  ·obtain⟨c,e⟩:=YS (n:=s.heap.objs.size+1) k
   refine .inr ⟨.inl k,c,e,?_⟩
   have q:=x.cell y c e
   rw[YQ YT hp hu (by show scope.names.lookup y≠_;rw[k];decide)] at q
   exact q
 ·exact e0.hok.fresh (ab8 (x.above y c (abf h)))
 ·unfold start
  show _=N.length
  rw[length_append,length_map,length_replicate]
  omega
theorem Ft{CX:qR}{P:Program}{w:World}{K:PySem.W.Frag}{mg:Str->Option Value}{base:Heap}{k:Nat}{f:Addr}{name qual:Str}{params:Arguments}{body:List Stmt}{scope:Scope}{dV kV doc pm cdv ct oc:Value}{an od:Option Addr}{osl:Array (Option Value)}{N ps:List Str}{sp:Sp}(lk:K.lookup f=some ⟨oc,od,.func (fnOf name qual params body scope dV kV doc pm an cdv ct),osl⟩)(hcd:codeIn K cdv qual=true)(S:ao N ps scope)(len:∀vs H Q E,sp vs H Q E->vs.length=ps.length)(hbody:∀(A:Around) (outer:List Env) (s:Shared) (H:Hp) (vs:List V) (Q:VK) (E:XK),bx k (A.deeper (envOfC qual scope s.heap.objs.size f cdv))->sp vs H Q E ->
   ∃t,oE (lY CX P w K mg base N qual scope f cdv A outer s H E) body t/\t { nx:=λ_ H'=>Q .non H',rt:=Q } (start N vs) H) :
  aq P w K mg base CX (k+1) f (fnOf name qual params body scope dV kV doc pm an cdv ct) ps sp:=by
 refine⟨len,λA outer s H args us vs Q E hr e0 hb r hsp=>?_⟩
 have hl:=len _ _ _ _ hsp
 have KX:K.In s.heap:=e0.mod.K7.keeps λb o e=>(e0.bs b o e).1
 have lim:s.heap.NoLimit:=e0.mod.nolimit.keeps λb o e=>(e0.bs b o e).1
 have hkind:∀y∈ps.zip us,scope.names.lookup y.1=some .local\/(scope.names.lookup y.1=some .cell/\((cellsFrom (s.heap.objs.size+1) scope.names []).lookup y.1).isSome=true):=λ⟨n,v⟩ hy=>by
  rcases S.par n (of_mem_zip hy).1 with q|q
  ·exact .inl q
  ·exact .inr ⟨q,acw _ _ _ (.inl q)⟩
 refine codeAny_call_function hr.depth (KX _ _ lk) rfl S.co S.gen rfl (PySem.W.codeRec_of KX hcd) (hb _ _ _ _ ?_)
 refine wpAny_newFunctionEnv_cells S.kind hkind λenv he s1 x=>?_
 subst he
 refine⟨lim.keeps x.toInCall.keep,codeAny_func ?_⟩
 obtain⟨t,ht,hq⟩:=hbody A outer s H vs Q E (hr.deeper _) hsp
 have I:Inv (lY CX P w K mg base N qual scope f cdv A outer s H E) [] (start N vs) H s1:=zPb S hr.hd e0 hl r x
 refine abj (ht [] s1 (start N vs) H _ I hq) (λfl s' hs=>?_) λe s' hs=>hs
 have fin:∀{σ':St}{H':Hp}{v:V}{u:Value},Inv (lY CX P w K mg base N qual scope f cdv A outer s H E) [] σ' H' s'->RelV v u->Q v H'->CE outer P w H s Q u s' :=
  λ{σ' H' v u} J rv q=>⟨v,H',J.os,J.bare,J.base,J.hok,rv,q⟩
 cases fl with
 |ret u =>
  obtain⟨v,σ',H',J,rv,q⟩:=hs
  exact fin J rv q
 |next =>
  obtain⟨σ',H',J,q⟩:=hs
  exact fin (v:=V.non) (u:=acv) J rfl q
 |brk =>
  obtain⟨_,_,_,q⟩:=hs
  exact abb q
 |cont =>
  obtain⟨_,_,_,q⟩:=hs
  exact abb q
section
variable{X:Cx}{x:Str}{p pos:Pos}{e:Expr}{es:List Expr}{t:TA}{id T:String}{r:List V->Hp->VK->Prop}
def yq(r:List V->Hp->VK->Prop)(t:TA):TE:=λσ H Q=>t σ H λvs H1=>r vs H1 Q
theorem zX(hc:sH X (.builtin id) r)(hg:Gl X x)(hm:X.mg x=none)(hv:bootBuiltins x=some (.builtin id))(ha:PA X (e::es) t)(hn:x ≠ "__name__":=by decide)(hdb:(x==("__debug__":Str))=false:=by decide)(he:starEach (e::es) X.env=(false,eval e X.env)::starEach es X.env:=by rfl)(hpl:(backTo pos (starEach es X.env)).any (·.1)=false:=by rfl):PE X (.Call (.Name x p) (e::es) [] pos) (yq r t):=by
 intro pins s σ H Q I h
 refine abh (yh I hg hm hv ?_ hn hdb)
 exact PyProof.Rows.callWith_builtin1 (aL (ha pos pins s σ H _ I h) λus s1 ⟨vs,H1,I1,r1,q1⟩=>hc pins s1 σ H1 vs us Q I1 r1 q1) he hpl
theorem NK(hc:sH X (.type T) r)(hg:Gl X x)(hm:X.mg x=none)(hv:bootBuiltins x=some (.type T))(ha:PA X (e::es) t)(hn:x ≠ "__name__":=by decide)(hdb:(x==("__debug__":Str))=false:=by decide)(he:starEach (e::es) X.env=(false,eval e X.env)::starEach es X.env:=by rfl)(hpl:(backTo pos (starEach es X.env)).any (·.1)=false:=by rfl):PE X (.Call (.Name x p) (e::es) [] pos) (yq r t):=by
 intro pins s σ H Q I h
 refine abh (yh I hg hm hv ?_ hn hdb)
 exact aa9 (aL (ha pos pins s σ H _ I h) λus s1 ⟨vs,H1,I1,r1,q1⟩=>hc pins s1 σ H1 vs us Q I1 r1 q1) he hpl
end
section
variable{κ:Type}[DecidableEq κ]
def fK(kvs:List (κ×V))(k:κ):Option V:=(kvs.find? λkv=>decide (kv.1=k)).map (·.2)
def putK(kvs:List (κ×V))(k:κ)(v:V):List (κ×V) :=
 if(kvs.any λkv=>decide (kv.1=k))=true then kvs.map (λkv=>if kv.1=k then(kv.1,v) else kv) else kvs++[(k,v)]
theorem U8{p:κ×V}{r:List (κ×V)}{k:κ}(e:p.1=k):fK (p::r) k=some p.2:=by simp[fK,find?_cons,e]
theorem U9{p:κ×V}{r:List (κ×V)}{k:κ}(e:¬p.1=k):fK (p::r) k=fK r k:=by simp[fK,find?_cons,e]
theorem YW(k:κ):∀kvs:List (κ×V),(kvs.any λkv=>decide (kv.1=k))=(fK kvs k).isSome
 |[]=>rfl
 |p::r=>by
  rw[any_cons]
  by_cases e:p.1=k
  ·simp only[U8 e,decide_eq_true e,Bool.true_or,ac7]
  ·rw[U9 e,decide_eq_false e,adt];exact YW k r
theorem YX(kvs:List (κ×V))(k:κ)(v:V):(putK kvs k v).length<=kvs.length+1:=by
 unfold putK
 split
 ·rw[length_map];omega
 ·rw[length_append,length_cons,length_nil];omega
theorem fJ.eE(r:fJ o u):o.isSome=u.isSome:=by
 cases o with
 |none=>cases u with
  |none=>rfl
  |some _=>exact(show False from r).elim
 |some _=>cases u with
  |none=>exact(show False from r).elim
  |some _=>rfl
theorem fJ.getD(r:fJ o u)(rd:RelV d d'):RelV (o.getD d) (u.getD d'):=by
 cases o with
 |none=>cases u with
  |none=>exact rd
  |some _=>exact(show False from r).elim
 |some _=>cases u with
  |none=>exact(show False from r).elim
  |some _=>exact r
theorem KV.val(r:KV kvs vs)(k:κ):fJ (fK kvs k) (valueAt vs k):=by
 unfold KV at r
 induction r with
 |nil=>exact acf
 |@cons p q ps qs h t ih =>
  obtain⟨h1,h2⟩:=h
  by_cases e:p.1=k
  ·have e':q.1=k:=h1.symm.trans e
   have b:valueAt (q::qs) k=some q.2:=by simp[valueAt,find?_cons,e']
   rw[U8 e,b];exact h2
  ·have e':¬q.1=k:=λz=>e (h1.trans z)
   have b:valueAt (q::qs) k=valueAt qs k:=by simp[valueAt,find?_cons,e']
   rw[U9 e,b];exact ih
theorem KV.any(r:KV kvs vs)(k:κ):(kvs.any λkv=>decide (kv.1=k))=vs.any λkv=>decide (kv.1=k):=by
 unfold KV at r
 induction r with
 |nil=>rfl
 |cons h t ih=>rw[any_cons,any_cons,ih,h.1]
theorem KV.repl(r:KV kvs vs)(k:κ)(ry:RelV y u) :
  KV (kvs.map λkv=>if kv.1=k then(kv.1,y) else kv) (vs.map λkv=>if kv.1=k then(kv.1,u) else kv):=by
 unfold KV at r ⊢
 induction r with
 |nil=>exact .nil
 |@cons p q ps qs h t ih =>
  rw[map_cons,map_cons]
  refine .cons ?_ ih
  obtain⟨h1,h2⟩:=h
  by_cases e:p.1=k
  ·rw[if_pos e,if_pos (h1.symm.trans e)];exact⟨h1,ry⟩
  ·rw[if_neg e,if_neg (λz=>e (h1.trans z))];exact⟨h1,h2⟩
theorem KV.put(r:KV kvs vs)(k:κ)(ry:RelV y u):KV (putK kvs k y) (stored vs k u):=by
 unfold putK stored
 rw[r.any k]
 by_cases e:(vs.any λkv=>decide (kv.1=k))=true
 ·rw[if_pos e,if_pos e];exact r.repl k ry
 ·rw[if_neg e,if_neg e];exact Paired.snoc r ⟨rfl,ry⟩
theorem KV.length(r:KV kvs vs):kvs.length=vs.length:=ad9 r
end
theorem NP(r:RelV (kV k) u):(xQ P w).is k u=true:=by
 cases k with
 |inl i=>obtain⟨t,e⟩:=(show∃t,u=abr i t from r);subst e;exact zJb P w i t
 |inr x=>obtain⟨t,e⟩:=(show∃t,u=aeo x t from r);subst e;exact zJa P w x t
theorem YZ:∀{ks:List Key}{us:List Value},Vals (ks.map kV) us->ItemsAre (xQ P w) ks us
 |[],_,r=>by rw[List.map_nil] at r;cases r;exact .nil
 |k::ks,_,r=>by
  rw[map_cons] at r
  cases r with
  |cons h t=>exact .cons (NP h) (YZ t)
abbrev KT(H:Hp):List (List Key×V)->List (List Key×Addr×Value)->Prop:=Paired λp q=>p.1=q.1/\H q.2.1=some (.tup (p.1.map kV))/\RelV p.2 q.2.2
theorem KT.val(r:KT H kvs xs)(k:List Key):fJ (fK kvs k) ((atKey xs k).map (·.2)):=by
 induction r with
 |nil=>exact acf
 |@cons p q ps qs h t ih =>
  obtain⟨h1,_,h2⟩:=h
  by_cases e:p.1=k
  ·have e':q.1=k:=h1.symm.trans e
   have b:atKey (q::qs) k=some q.2:=by simp[atKey,find?_cons,e']
   rw[U8 e,b];exact h2
  ·have e':¬q.1=k:=λz=>e (h1.trans z)
   have b:atKey (q::qs) k=atKey qs k:=by simp[atKey,find?_cons,e']
   rw[U9 e,b];exact ih
theorem KT.repl(r:KT H kvs xs)(k:List Key)(ry:RelV y u) :
  KT H (kvs.map λkv=>if kv.1=k then(kv.1,y) else kv) (xs.map (putAt k u)):=by
 induction r with
 |nil=>exact .nil
 |@cons p q ps qs h t ih =>
  rw[map_cons,map_cons]
  refine .cons ?_ ih
  obtain⟨h1,h2,h3⟩:=h
  unfold putAt
  by_cases e:p.1=k
  ·rw[if_pos e,if_pos (h1.symm.trans e)];exact⟨h1,h2,ry⟩
  ·rw[if_neg e,if_neg (λz=>e (h1.trans z))];exact⟨h1,h2,h3⟩
theorem KT.put(r:KT H kvs xs)(k:List Key)(hb:H b=some (.tup (k.map kV)))(ry:RelV y u) :
  KT H (putK kvs k y) (storedH xs k b u):=by
 have e:(kvs.any λkv=>decide (kv.1=k))=(atKey xs k).isSome:=by
  rw[YW,(r.val k).eE,ad5]
 unfold putK storedH
 rw[e]
 by_cases q:(atKey xs k).isSome=true
 ·rw[if_pos q,if_pos q];exact r.repl k ry
 ·rw[if_neg q,if_neg q];exact Paired.snoc r ⟨rfl,hb,ry⟩
theorem KT.keeps(r:KT H kvs xs)(ht:∀b ys,H b=some (.tup ys)->H' b=some (.tup ys)):KT H' kvs xs :=
 Paired.Hj r λ_ _ z=>⟨z.1,ht _ _ z.2.1,z.2.2⟩
section
variable{P:Program}{w:World}{H:Hp}{h:Heap}{a:Addr}
theorem Fv(ok:fV P w H h)(e:Rd H a u):aQ P w H h a u:=e.ok ok
theorem NQ(ok:fV P w H h)(e:Rd H a (.dK kvs)):kvs.length<=sizeLine/\(a==sysModules)=false/\∃vs,KV kvs vs/\h.DictOf (xQ P w) a vs :=
 show aQ P w H h a (.dK kvs) from Fv ok e
theorem NT(ok:fV P w H h)(e:H a=some (.dK kvs)):kvs.length<=sizeLine/\(a==sysModules)=false/\∃vs,KV kvs vs/\h.DictOf (xQ P w) a vs:=NQ ok (.inl e)
theorem NZ{ks:List Key}(ok:fV P w H h)(e:H a=some (.tup (ks.map kV))):(tupleKind (xQ P w)).is h ks a:=by
 obtain⟨_,its,r,o,h1,h2,n,h3⟩:=(show aQ P w H h a (.tup (ks.map kV)) from ok a _ e)
 exact⟨o,its.toArray,n,h1,h2,h3,by simpa using YZ r⟩
theorem N5(ok:fV P w H h)(e:Rd H a (.dT kvs)):kvs.length<=sizeLine/\(a==sysModules)=false /\
  ∃xs,KT H kvs xs/\h.DictOfH (tupleKind (xQ P w)) a xs:=by
 obtain⟨z,y,xs,r,o,es,ep,h1,h2,h3,h4,h5⟩:=(show aQ P w H h a (.dT kvs) from Fv ok e)
 refine⟨z,y,xs,r,o,es,ep,h1,h2,h3,h4,λx hx=>?_,h5⟩
 have all:∀{l:List (List Key×V)}{m:List (List Key×Addr×Value)},KT H l m->∀x∈m,(tupleKind (xQ P w)).is h x.1 x.2.1:=by
  intro l m q
  induction q with
  |nil=>intro x hx;exact nomatch hx
  |@cons p q ps qs hq t ih =>
   intro x hx
   rcases mem_cons.mp hx with e|hx
   ·subst e
    exact NZ ok (by rw[<-hq.1];exact hq.2.1)
   ·exact ih x hx
 exact all r x hx
theorem N6(ok:fV P w H h)(e:H a=some (.dT kvs)):kvs.length<=sizeLine/\(a==sysModules)=false /\
  ∃xs,KT H kvs xs/\h.DictOfH (tupleKind (xQ P w)) a xs:=N5 ok (.inl e)
end
def jQ(H:Hp)(a:Addr)(y:V)(r:Option V):Prop :=
 (∃kvs k,Rd H a (.dK kvs)/\y=kV k/\r=fK kvs k)\/∃kvs k b,Rd H a (.dT kvs)/\y=.ref b/\H b=some (.tup (k.map kV))/\r=fK kvs k
def pP(H:Hp)(a:Addr)(y v:V)(H':Hp):Prop :=
 (∃kvs k,H a=some (.dK kvs)/\y=kV k/\kvs.length<sizeLine/\H'=upd H a (.dK (putK kvs k v))) \/
 ∃kvs k b,H a=some (.dT kvs)/\y=.ref b/\H b=some (.tup (k.map kV))/\kvs.length<sizeLine/\H'=upd H a (.dT (putK kvs k v))
theorem jQ.k{H:Hp}{a:Addr}{kvs:List (Key×V)}{k:Key}(e:H a=some (.dK kvs)):jQ H a (kV k) (fK kvs k):=.inl ⟨kvs,k,.inl e,rfl,rfl⟩
theorem pP.k{H:Hp}{a:Addr}{kvs:List (Key×V)}{k:Key}{v:V}(e:H a=some (.dK kvs))(hl:kvs.length<sizeLine):pP H a (kV k) v (upd H a (.dK (putK kvs k v))):=.inl ⟨kvs,k,e,rfl,hl,rfl⟩
section
variable{X:Cx}{pins:List (Addr×Obj)}{σ:St}{H:Hp}{s:Shared}{a:Addr}{y v:V}{u r:Value}{o:Option V}{A:Around}{E:Value->Shared->Prop}
theorem Inv.big(I:Inv X pins σ H s):sysModules<s.heap.objs.size:=by
 have h:aav<s.heap.objs.size:=(I.mod.glob.keeps I.bk).lt
 exact adi (by decide) h
theorem zQe{Q:Value->Shared->Prop}(hu:A.units+1<cLine)(I:Inv X pins σ H s)(g:jQ H a y (some v))(ry:RelV y u)(h:∀w' s',Inv X pins σ H s'->RelV v w'->Q w' s') :
  wpAny (model X.prog X.w) A (getItem (.ref a) u) Q E s:=by
 rcases g with⟨kvs,k,e,ey,l⟩|⟨kvs,k,b,e,ey,eb,l⟩
 ·subst ey
  obtain⟨z,hd,vs,rel,dd⟩:=NQ I.hok e
  obtain⟨w',hw,tD⟩:=fJ.some_of (v:=v) (o:=valueAt vs k) (by rw[l];exact rel.val k)
  exact wpAny_getItem_of (NP ry) dd.mapOf hw (h w' _ (I.tok _) tD)
 ·subst ey
  cases(show u=aa2 b from ry)
  obtain⟨z,hd,xs,rel,dd⟩:=N5 I.hok e
  obtain⟨w',hw,tD⟩:=fJ.some_of (v:=v) (o:=(atKey xs k).map (·.2)) (by rw[l];exact rel.val k)
  obtain⟨p,hp,hp2⟩:=Option.map_eq_some_iff.mp hw
  refine wpAny_getItem_heap (ac9 hu) (NZ I.hok eb) dd hp ?_
  rw[hp2]
  exact h w' _ (I.tok _) tD
theorem U_{Q:Value->Shared->Prop}(hu:A.units+1<cLine)(I:Inv X pins σ H s)(g:jQ H a y o)(ry:RelV y u)(h:∀s',Inv X pins σ H s'->Q (.bool o.isSome) s') :
  wpAny (model X.prog X.w) A (compareOp .In u (.ref a)) Q E s:=by
 rcases g with⟨kvs,k,e,ey,l⟩|⟨kvs,k,b,e,ey,eb,l⟩
 ·subst ey
  obtain⟨z,hd,vs,rel,dd⟩:=NQ I.hok e
  refine wpAny_in_of (NP ry) hd dd.mapOf ?_
  rw[<-(rel.val k).eE,<-l]
  exact h _ (I.tok _)
 ·subst ey
  cases(show u=aa2 b from ry)
  obtain⟨z,hd,xs,rel,dd⟩:=N5 I.hok e
  refine wpAny_in_heap (ac9 hu) (NZ I.hok eb) hd dd ?_
  have q:=(rel.val k).eE
  rw[ad5] at q
  rw[<-q,<-l]
  exact h _ (I.tok _)
theorem Al{Q:Value->Shared->Prop}(hu:A.units+1<cLine)(I:Inv X pins σ H s)(g:jQ H a y o)(ry:RelV y u)(h:∀s',Inv X pins σ H s'->Q (.bool (!o.isSome)) s') :
  wpAny (model X.prog X.w) A (compareOp .NotIn u (.ref a)) Q E s:=by
 rcases g with⟨kvs,k,e,ey,l⟩|⟨kvs,k,b,e,ey,eb,l⟩
 ·subst ey
  obtain⟨z,hd,vs,rel,dd⟩:=NQ I.hok e
  refine wpAny_notIn_of (NP ry) hd dd.mapOf ?_
  rw[<-(rel.val k).eE,<-l]
  exact h _ (I.tok _)
 ·subst ey
  cases(show u=aa2 b from ry)
  obtain⟨z,hd,xs,rel,dd⟩:=N5 I.hok e
  refine wpAny_notIn_heap (ac9 hu) (NZ I.hok eb) hd dd ?_
  have q:=(rel.val k).eE
  rw[ad5] at q
  rw[<-q,<-l]
  exact h _ (I.tok _)
theorem Y0(I:Inv X pins σ H s)(mu:MF (H a))(hs:SameBut a s.heap h')(he:∃q,h'.get? a=some q)(new:aQ X.prog X.w (upd H a ob) h' a ob) :
  Inv X pins σ (upd H a ob) { s with heap:=h',toks:=t' } :=
 I.write (x:=a) (e:=a) mu (.inl rfl) (λb q hb z=>(hs.2 b hb).trans z) he new
theorem Ij{h':Heap}{kvs:List (Key×V)}(z:kvs.length<=sizeLine)(hd:(a==sysModules)=false)(rel:KV kvs vs)(dd:h'.DictOf (xQ P w) a vs) :
  aQ P w H' h' a (.dK kvs):=⟨z,hd,vs,rel,dd⟩
theorem zQd{Q:Unit->Shared->Prop}(hu:A.units+1<cLine)(I:Inv X pins σ H s)(g:pP H a y v H')(ry:RelV y u)(rv:RelV v r)(h:∀s',Inv X pins σ H' s'->Q () s') :
  wpAny (model X.prog X.w) A (setItem (.ref a) u r) Q E s:=by
 rcases g with⟨kvs,k,e,ey,l,eH⟩|⟨kvs,k,b,e,ey,eb,l,eH⟩
 ·subst ey eH
  obtain⟨z,hd,vs,rel,dd⟩:=NT I.hok e
  have hz:vs.length<=sizeLine:=by rw[<-rel.length];exact z
  have hl:(putK kvs k v).length<=sizeLine:=by have:=YX kvs k v;omega
  refine wpAny_setItem_pairs (hsz:=hz) (NP ry) dd λh' RN hs=>h _ ?_
  have he:∃q,h'.get? a=some q:=let⟨q,_,_,hq,_⟩:=RN;⟨q,hq⟩
  exact Y0 I (by rw[e];exact acf) hs he (Ij hl hd (rel.put k rv) RN)
 ·subst ey eH
  cases(show u=aa2 b from ry)
  obtain⟨z,hd,xs,rel,dd⟩:=N6 I.hok e
  have hz:xs.length<=sizeLine:=by rw[<-ad9 rel];exact z
  have hl:(putK kvs k v).length<=sizeLine:=by have:=YX kvs k v;omega
  refine wpAny_setItem_heap (hsz:=hz) (ac9 hu) (NZ I.hok eb) dd λh' RN hs=>h _ ?_
  obtain⟨q,es,ep,hq,h2,h3,h4,_,h5⟩:=RN
  refine Y0 I (by rw[e];exact acf) hs ⟨q,hq⟩ ⟨hl,hd,_,(rel.put k eb rv).keeps λc ys ec=>?_,q,es,ep,hq,h2,h3,h4,h5⟩
  rw[zJ (Mz ec e (λz=>nomatch z))]
  exact ec
end
section
variable{X:Cx}{pins:List (Addr×Obj)}{σ:St}{H:Hp}{s:Shared}{a:Addr}{kvs:List (Key×V)}{k:Key}{u:Value}{A:Around}{E:Value->Shared->Prop}
end
def N7(i:Expr):Prop:=∀ov iv,subscripted i false ov iv=operate [ov,iv] (getItem ov iv)
theorem Am{prog:Program}{w:World}{A:Around}{E:Value->Shared->Prop}{s:Shared}{env:Env}{value slice:Expr}{pos:Pos}{T id:String}{Q:Value->Shared->Prop}(hl:typeLookup (.type T) "__getitem__" = pure (some (.builtin id)))(hs:N7 slice)(h:wpAny (model prog w) A (eval value env) (λo s₁=>wpAny (model prog w) A (eval slice env) (λi s₂=>s₂.TypeIs o T/\wpAny (model prog w) A (getItem o i) Q E s₂) E s₁) E s) :
  wpAny (model prog w) A (eval (.Subscript value slice pos) env) Q E s:=by
 refine aew (abj h (λo s₁ h₁=>abj h₁ (λi s₂ h₂=>?_) λ_ _ x=>x) λ_ _ x=>x)
 obtain⟨hT,h₂⟩:=h₂
 unfold subscriptTail
 refine aad ?_
 rw[getitemInPython_of_ne hT.not_modules]
 refine aad (wpAny_specialOf hT hl ?_)
 have fin:wpAny (model prog w) A (subscripted slice false o i) (λr s₃=>wpAny (model prog w) A (letTemporaryGo value o r >>= λ_=>pure r) Q E s₃) E s₂:=by
  rw[hs o i]
  exact wpAny_operating (abj h₂ (λr s₃ h₃=>aad (wpAny_letTemporaryGo (aae h₃))) λ_ _ x=>x)
 first
  |exact aae (aad fin)
  |exact aad (aae (aad fin))
  |exact aad fin
theorem zJm(I:Inv X pins σ H s)(g:jQ H a y o):s.TypeIs (.ref a) "dict":=by
 rcases g with⟨kvs,k,e,_,_⟩|⟨kvs,k,b,e,_,_,_⟩
 ·obtain⟨_,_,vs,_,dd⟩:=NQ I.hok e
  exact dd.typeIs
 ·obtain⟨_,_,xs,_,dd⟩:=N5 I.hok e
  exact dd.typeIs
def Fw(td ty:TE):TE:=λσ H Q=>td σ H λx H1=>ty σ H1 λy H2=>∃a v,x=.ref a/\jQ H2 a y (some v)/\Q v H2
def Ao(ty td:TE):TE:=λσ H Q=>ty σ H λy H1=>td σ H1 λx H2=>∃a o,x=.ref a/\jQ H2 a y o/\Q (.bl o.isSome) H2
def Y4(ty td:TE):TE:=λσ H Q=>ty σ H λy H1=>td σ H1 λx H2=>∃a o,x=.ref a/\jQ H2 a y o/\Q (.bl (!o.isSome)) H2
def RP(td ty tv:TE):TS:=λD σ H=>tv σ H λv H1=>td σ H1 λx H2=>ty σ H2 λy H3=>∃a H4,x=.ref a/\pP H3 a y v H4/\D.nx σ H4
section
variable{X:Cx}{o i e value:Expr}{pos pos' tpos:Pos}{td ty tv:TE}
theorem Y5(hu:X.A.units+1<cLine)(ho:PE X o td)(hi:PE X i ty)(hs:N7 i):PE X (.Subscript o i pos) (Fw td ty):=by
 intro pins s σ H Q I h
 refine Am PySem.F.slot_dict_getitem.lookup hs (aL (ho pins s σ H _ I h) λu s1 ⟨x,H1,I1,rx,q1⟩=>aL (hi pins s1 σ H1 _ I1 q1) λiv s2 ⟨y,H2,I2,ry,a,v,ex,g,q2⟩=>?_)
 subst ex
 obtain rfl:u=aa2 a:=rx
 exact⟨zJm I2 g,zQe hu I2 g ry λw' s3 I3 tD=>⟨v,H2,I3,tD,q2⟩⟩
theorem Va(hu:X.A.units+1<cLine)(hi:PE X i ty)(ho:PE X o td):PC X .In i o (Ao ty td):=by
 intro pins s σ H Q I h
 refine aL (hi pins s σ H _ I h) λiv s1 ⟨y,H1,I1,ry,q1⟩=>aL (ho pins s1 σ H1 _ I1 q1) λu s2 ⟨x,H2,I2,rx,a,ov,ex,g,q2⟩=>?_
 subst ex
 obtain rfl:u=aa2 a:=rx
 exact U_ hu I2 g ry λs3 I3=>⟨.bl ov.isSome,H2,I3,rfl,q2⟩
theorem zOb(hu:X.A.units+1<cLine)(hi:PE X i ty)(ho:PE X o td):PC X .NotIn i o (Y4 ty td):=by
 intro pins s σ H Q I h
 refine aL (hi pins s σ H _ I h) λiv s1 ⟨y,H1,I1,ry,q1⟩=>aL (ho pins s1 σ H1 _ I1 q1) λu s2 ⟨x,H2,I2,rx,a,ov,ex,g,q2⟩=>?_
 subst ex
 obtain rfl:u=aa2 a:=rx
 exact Al hu I2 g ry λs3 I3=>⟨.bl (!ov.isSome),H2,I3,rfl,q2⟩
theorem RQ(hu:X.A.units+1<cLine)(ho:PE X o td)(hi:PE X i ty)(hv:PE X value tv)(hs:swapsWith value (some (.Subscript o i pos')) pos.line X.env=pure false) :
  PS X (.Assign [.Subscript o i pos'] value pos) (RP td ty tv):=by
 intro pins s σ H D I h
 refine wpAny_Assign_Subscript (aL (hv pins s σ H _ I h) λr s1 ⟨v,H1,I1,rv,q1⟩=>aL (ho pins s1 σ H1 _ I1 q1) λu s2 ⟨x,H2,I2,rx,q2⟩=>aL (hi pins s2 σ H2 _ I2 q2) λiv s3 ⟨y,H3,I3,ry,a,H4,ex,g,q3⟩=>?_) hs
 subst ex
 obtain rfl:u=aa2 a:=rx
 exact zQd hu I3 g ry rv λs4 I4=>⟨σ,H4,I4,q3⟩
end
theorem zS2(h:Heap)(hb:sysModules<h.objs.size):aQ P w H (h.push { cls:=.type "dict",data:=.dict #[] }) h.objs.size (.dK []) :=
 ⟨aa0 _,beq_eq_false_iff_ne.mpr (ab1 (aam hb)),[],.nil,Heap.DictOf.new h⟩
def Y6:TE:=λ_ H Q=>∀p,H p=none->Q (.ref p) (upd H p (.dK []))
section
variable{X:Cx}{pos:Pos}
theorem RT:PE X (.Dict [] [] pos) Y6:=λpins s σ H Q I h =>
 wpAny_Dict_empty ⟨.ref s.heap.objs.size,_,I.laid (a:=s.heap.objs.size) (o:=.dK []) (t':=s.toks) (λ_ _ q=>get?_push_of_some _ q) (aag _) (zS2 s.heap I.big),rfl,h _ (I.hok.fresh (aag _))⟩
end
structure M1(X:Cx)(o:Expr)(m:Str)(apos:Pos)(e:Expr)(cpos:Pos):Prop where
 base:attributeBase o m X.env (eval o X.env)=eval o X.env
 few:((backTo cpos (starEach [e] X.env)).all (λx=>!x.1)&&(backToKw cpos (keywordEach [] X.env)).all (λx=>x.1.isSome)
  && decide (([e]:List Expr).length+([]:List Keyword).length+(if([]:List Keyword).isEmpty then 0 else 1)<30))=true
 line:(apos.endLine==cpos.line)=true
 trees:backTo cpos (starEach [e] X.env)=[(false,eval e X.env)]
structure M2(X:Cx)(o:Expr)(m:Str)(apos:Pos)(e f:Expr)(cpos:Pos):Prop where
 base:attributeBase o m X.env (eval o X.env)=eval o X.env
 few:((backTo cpos (starEach [e,f] X.env)).all (λx=>!x.1)&&(backToKw cpos (keywordEach [] X.env)).all (λx=>x.1.isSome)
  && decide (([e,f]:List Expr).length+([]:List Keyword).length+(if([]:List Keyword).isEmpty then 0 else 1)<30))=true
 line:(apos.endLine==cpos.line)=true
 trees:backTo cpos (starEach [e,f] X.env)=[(false,eval e X.env),(false,eval f X.env)]
section
variable{X:Cx}{pins:List (Addr×Obj)}{σ:St}{H:Hp}{s:Shared}{a:Addr}{y d:V}{u r:Value}{o:Option V}{A:Around}{E:Value->Shared->Prop}
end
section
variable{X:Cx}{o e f:Expr}{apos cpos:Pos}{td ty tx:TE}
end
section
variable{X:Cx}{pins:List (Addr×Obj)}{σ:St}{H:Hp}{s:Shared}{a:Addr}{kvs:List (Key×V)}{A:Around}{E:Value->Shared->Prop}
end
section
variable{X:Cx}{pins:List (Addr×Obj)}{σ:St}{H:Hp}{s:Shared}{a:Addr}{y:V}{u:Value}{A:Around}{E:Value->Shared->Prop}
end
end L2
namespace HT
open PySem PyProof.Rows
section
open PySem.SeqAt
open PySem.AutoSeq1 (wpAny_loadPart')
open PySem.MeetsSeq PySem.MeetsSeq2 PySem.MeetsSeq3
end
section
variable{prog:Program}{w:World}{A:Around}{E:Value->Shared->Prop}{s:Shared}
def m9(n d:Nat):Option Int->Nat
 |none=>d
 |some v=>if v<0 then(v+(n:Int)).toNat else min v.toNat n
theorem Aq(n d k:Nat):m9 n d (some (k:Int))=min k n:=by
 show(if(k:Int)<0 then((k:Int)+(n:Int)).toNat else min (k:Int).toNat n)=min k n
 rw[if_neg (by omega),abe]
end
end HT
namespace L2
open PySem PySem.Spec PyProof.Rows
abbrev TO:=St->Hp->(Option Int->Hp->Prop)->Prop
def PO(X:Cx)(e:Option Expr)(t:TO):Prop :=
 ∀(pins:List (Addr×Obj))(s:Shared)(σ:St)(H:Hp)(Q:Option Int->Hp->Prop),Inv X pins σ H s->t σ H Q ->
  wpAny (model X.prog X.w) X.A (evalPart e X.env) (λu s'=>∃o H',Inv X pins σ H' s'/\IsPart u o/\Q o H') X.xe s
def Vb:TO:=λ_ H Q=>Q none H
def tE(t:TE):TO:=λσ H Q=>t σ H λx H1=>∃i,x=.int i/\Q (some i) H1
section
variable{X:Cx}{e:Expr}{te:TE}{lo hi:Option Expr}{tl th:TO}{pos p2:Pos}
theorem Y7:PO X none Vb:=by
 intro pins s σ H Q I h
 rw[evalPart_none]
 exact aae ⟨none,H,I,.none,h⟩
theorem Y8(h:PE X e te):PO X (some e) (tE te):=by
 intro pins s σ H Q I hw
 rw[evalPart_some]
 refine aL (h pins s σ H _ I hw) λu s1 ⟨x,H1,I1,r1,q1⟩=>?_
 obtain⟨i,rfl,q⟩:=q1
 obtain⟨t,rfl⟩:=r1
 exact⟨some i,H1,I1,.int i t,q⟩
def Vc(X:Cx)(r:V->Option Int->Option Int->Hp->VK->Prop):Prop :=
 ∀(pins:List (Addr×Obj))(s:Shared)(σ:St)(H:Hp)(x:V)(v vl vu:Value)(lo hi:Option Int)(sl:Addr)(Q:VK),Inv X pins σ H s->RelV x v->s.heap.IsSliceOf sl vl vu .none->IsPart vl lo->IsPart vu hi->r x lo hi H Q ->
  ∃T id,typeLookup (.type T) "__getitem__" = pure (some (.builtin id))/\s.TypeIs v T/\wpAny (model X.prog X.w) X.A (getItem v (.ref sl)) (EP X pins σ Q) X.xe s
def Vd(r:V->Option Int->Option Int->Hp->VK->Prop)(te:TE)(tl th:TO):TE:=λσ H Q=>te σ H λx H1=>tl σ H1 λl H2=>th σ H2 λu H3=>r x l u H3 Q
theorem Y9(hr:Vc X r)(he:PE X e te)(hl:PO X lo tl)(hu:PO X hi th):PE X (.Subscript e (.Slice lo hi none p2) pos) (Vd r te tl th):=by
 intro pins s σ H Q I h
 refine aew (aL (he pins s σ H _ I h) λv s1 ⟨x,H1,I1,r1,q1⟩=>?_)
 refine wpAny_Slice (aL (hl pins s1 σ H1 _ I1 q1) λvl s2 ⟨l,H2,I2,pl,q2⟩=>aL (hu pins s2 σ H2 _ I2 q2) λvu s3 ⟨u,H3,I3,pu,q3⟩=>?_)
 rw[evalPart_none]
 refine aae ?_
 have I4:Inv X pins σ H3 { s3 with heap:=s3.heap.push { cls:=.type "slice",data:=.fields #[vl,vu,.none] } }:=I3.kept (t':=s3.toks) λb ob q=>get?_push_of_some _ q
 obtain⟨T,id,hT,ht,hg⟩:=hr pins { s3 with heap:=s3.heap.push { cls:=.type "slice",data:=.fields #[vl,vu,.none] } } σ H3 x v vl vu l u s3.heap.objs.size Q I4 r1 (Heap.IsSliceOf.new ..) pl pu q3
 show wpAny (model X.prog X.w) X.A (subscriptTail e (.Slice lo hi none p2) v (.ref s3.heap.objs.size)) (EP X pins σ Q) X.xe { s3 with heap:=s3.heap.push { cls:=.type "slice",data:=.fields #[vl,vu,.none] } }
 exact tail_any (ops:=[.ref s3.heap.objs.size,v]) ht hT hg (by with_unfolding_all rfl)
def qT(xs:List V)(lo hi:Option Int):List V:=(xs.drop (HT.m9 xs.length 0 lo)).take (HT.m9 xs.length xs.length hi-HT.m9 xs.length 0 lo)
theorem zJn(xs:List V)(lo hi:Option Int):(qT xs lo hi).length<=xs.length:=by
 unfold qT
 rw[length_take,length_drop]
 omega
end
def qC(n:Nat)(i:Int):Option Nat:=if 0<=i then(if i<n then some i.toNat else none) else if -(n:Int)<=i then some (i+n).toNat else none
def cQ{α:Type}(xs:List α)(i:Int):Option α:=(qC xs.length i).bind λj=>xs[j]?
theorem Y_(h:qC n i=some j):seqIndex? i n=some j/\j<n /\ -(n:Int)<=i/\i<n:=by
 unfold qC at h
 by_cases h0:0<=i
 ·rw[if_pos h0] at h
  by_cases h1:i<n
  ·rw[if_pos h1] at h
   have e:i.toNat=j:=aai h
   exact⟨by rw[ael h0 h1,e],by omega,by omega,h1⟩
  ·rw[if_neg h1] at h;cases h
 ·rw[if_neg h0] at h
  by_cases h1:-(n:Int)<=i
  ·rw[if_pos h1] at h
   have e:(i+n).toNat=j:=aai h
   exact⟨by rw[ae4 (by omega) h1,e],by omega,h1,by omega⟩
  ·rw[if_neg h1] at h;cases h
theorem Ve{α:Type}{xs:List α}{v:α}(h:cQ xs i=some v):∃j,seqIndex? i xs.length=some j/\xs[j]?=some v/\j<xs.length /\ -(xs.length:Int)<=i/\i<xs.length:=by
 unfold cQ at h
 cases e:qC xs.length i with
 |none=>rw[e] at h;cases h
 |some j =>
  rw[e] at h
  obtain⟨h1,h2,h3,h4⟩:=Y_ e
  exact⟨j,h1,h,h2,h3,h4⟩
theorem Vf{α:Type}{xs:List α}{j:Nat}{v:α}(h:xs[j]?=some v):cQ xs (j:Int)=some v:=by
 have hj:j<xs.length:=(aaj.mp h).1
 have e:qC xs.length (j:Int)=some j:=by
  unfold qC
  rw[if_pos (by omega),if_pos (by omega)];simp
 unfold cQ;rw[e];exact h
def Av(b:Expr):Prop:=∀o i,subscripted b false o i=operate [o,i] (getItem o i)
def N8(X:Cx)(r:R2):Prop :=
 ∀(value slice:Expr)(pins:List (Addr×Obj))(s:Shared)(σ:St)(H:Hp)(x y:V)(v u:Value)(Q:VK),Inv X pins σ H s->RelV x v->RelV y u->r x y H Q ->
  subscripted slice false v u=operate [v,u] (getItem v u)->wpAny (model X.prog X.w) X.A (subscriptTail value slice v u) (EP X pins σ Q) X.xe s
def Za(X:Cx)(id:String)(r:V->List V->Hp->VK->Prop):Prop :=
 ∀(pins:List (Addr×Obj))(s:Shared)(σ:St)(H:Hp)(x:V)(xs:List V)(v:Value)(us:List Value)(Q:VK),Inv X pins σ H s->RelV x v->Vals xs us->r x xs H Q ->
  wpAny (model X.prog X.w) X.A (call (.builtin id) (v::us)) (EP X pins σ Q) X.xe s
section
variable{X:Cx}{a b:Expr}{ta tb:TE}{pos:Pos}
theorem yN(hr:N8 X r)(ha:PE X a ta)(hb:PE X b tb)(hs:Av b):PE X (.Subscript a b pos) (gF r ta tb):=by
 intro pins s σ H Q I h
 exact aew (Ac ha hb I h λv u s2 x y H2 I2 rx ry q=>hr a b pins s2 σ H2 x y v u Q I2 rx ry q (hs _ _))
def tH(K:PySem.W.Frag):R2:=λx y H Q=>∃p xs i v,x=.ref p/\y=.int i/\aV K H p xs/\cQ xs i=some v/\Q v H
def qU(K:PySem.W.Frag):R2:=λx y H Q=>∃p xs i v,x=.ref p/\y=.int i/\gZ K H p xs/\cQ xs i=some v/\Q v H
theorem Zb:N8 X (tH X.K):=by
 intro value slice pins s σ H x y v u Q I rx ry h hs
 obtain⟨p,xs,i,z,rfl,rfl,hq,he,q⟩:=h
 cases rx
 obtain⟨t,rfl⟩:=ry
 obtain⟨its,r,pl,hz⟩:=I.list hq
 obtain⟨j,h1,h2,h3,h4,h5⟩:=Ve he
 obtain⟨w,ew,tD⟩:=r.get h2
 have hl:=r.length
 have hn:=Ie
 have fin:EP X pins σ Q w s:=⟨z,H,I,tD,q⟩
 by_cases h0:0<=i
 ·have hj:i.toNat=j:=by
   rw[ael h0 h5] at h1
   exact aai h1
  exact item_listR pl.isList h0 (by omega) (by rw[hj];simpa using ew) fin hs
 ·have hj:(i+(its.toArray.size:Int)).toNat=j:=by
   rw[ae4 (by omega) h4] at h1
   rw[size_toArray,<-hl]
   exact aai h1
  exact subscriptTail_builtinR (x:=w) pl.isList.typeIs slot_list_getitem.lookup
   (wpAny_getItem_list_neg (Q:=λr s'=>r=w/\EP X pins σ Q r s') pl.isList (by omega) (by rw[size_toArray]<;>omega) (by omega) (by rw[hj];simpa using ew) ⟨rfl,fin⟩) hs
theorem Ik:N8 X (qU X.K):=by
 intro value slice pins s σ H x y v u Q I rx ry h hs
 obtain⟨p,xs,i,z,rfl,rfl,hq,he,q⟩:=h
 cases rx
 obtain⟨t,rfl⟩:=ry
 obtain⟨its,r,pl,hz⟩:=I.tuple hq
 obtain⟨j,h1,h2,h3,h4,h5⟩:=Ve he
 obtain⟨w,ew,tD⟩:=r.get h2
 have hl:=r.length
 have hn:=Ie
 have fin:EP X pins σ Q w s:=⟨z,H,I,tD,q⟩
 exact subscriptTail_builtinR (x:=w) pl.typeIs slot_tuple_getitem.lookup
  (getItem_tuple (j:=j) (Q:=λr s'=>r=w/\EP X pins σ Q r s') pl (by omega) (by omega) (by rw[size_toArray,<-hl];exact h1) (by simpa using ew) ⟨rfl,fin⟩) hs
theorem zL7(its:List Value)(n j:Nat)(u:Value):acn (·.setIfInBounds j u) { cls:=.type "list",data:=.seq its.toArray n }={ cls:=.type "list",data:=.seq (its.set j u).toArray n }:=by
 simp[acn]
theorem Inv.lst(I:Inv X pins σ H s)(h:H p=some (.lst xs)) :
  ∃(its:List Value)(n:Nat),Vals xs its/\s.heap.get? p=some { cls:=.type "list",data:=.seq its.toArray n }/\xs.length<=sizeLine:=by
 obtain⟨z,its,n,r,e⟩:=I.hok p _ h
 exact⟨its,n,r,e,z⟩
theorem Inv.Il{its its':List Value}(I:Inv X pins σ H s)(h:H p=some (.lst xs))(ho:s.heap.get? p=some { cls:=.type "list",data:=.seq its.toArray n })(hf:f { cls:=.type "list",data:=.seq its.toArray n }={ cls:=.type "list",data:=.seq its'.toArray n' })(r:Vals ys its')(hz:ys.length<=sizeLine)(t:Nat) :
  Inv X pins σ (upd H p (.lst ys)) { s with heap:=s.heap.update p f,toks:=t }:=by
 have e:(s.heap.update p f).get? p=some { cls:=.type "list",data:=.seq its'.toArray n' }:=by
  rw[get?_update_self f ho (by rw[hf]<;>rfl),hf]
 refine I.write (x:=p) (e:=p) (by rw[h];trivial) (.inl rfl) (λb u hb q=>(get?_update_other _ _ (ab1 hb)).trans q) ⟨_,e⟩ ?_
 exact⟨hz,its',n',r,e⟩
def tK:V->V->V->Hp->(Hp->Prop)->Prop:=λo i v H Q=>∃p xs k j,o=.ref p/\i=.int k/\H p=some (.lst xs)/\qC xs.length k=some j/\Q (upd H p (.lst (xs.set j v)))
theorem N_:Hv X tK:=by
 intro pins s σ H o i v ov iv u Q I ro ri rv h
 obtain⟨p,xs,k,j,rfl,rfl,hp,hj,q⟩:=h
 cases ro
 obtain⟨t,rfl⟩:=ri
 obtain⟨its,n,r,ho,hz⟩:=I.lst hp
 obtain⟨h1,h2,h3,h4⟩:=Y_ hj
 have hl:=r.length
 have hn:=Ie
 have I':Inv X pins σ (upd H p (.lst (xs.set j v))) { s with heap:=s.heap.update p (acn (·.setIfInBounds j u)) } :=
  I.Il hp ho (zL7 its n j u) (r.set rv j) (by rw[length_set];exact hz) s.toks
 by_cases h0:0<=k
 ·have hk:k.toNat=j:=by
   rw[ael h0 h4] at h1
   exact aai h1
  exact PySem.W.ki_setAt ho h0 (by omega) (by rw[size_toArray,<-hl];exact h4) (by rw[hk];exact⟨_,I',q⟩)
 ·have hk:(k+(its.toArray.size:Int)).toNat=j:=by
   rw[ae4 (by omega) h3] at h1
   rw[size_toArray,<-hl]
   exact aai h1
  exact PySem.W.ki_setBack ho (by omega) (by rw[size_toArray,<-hl];exact h3) (by omega) (by rw[hk];exact⟨_,I',q⟩)
theorem zG9(lo hi:Option Int)(n:Nat):(sliceBounds lo hi none n).1=((HT.m9 n 0 lo:Nat):Int)/\(sliceBounds lo hi none n).2.1=((HT.m9 n n hi:Nat):Int)/\(sliceBounds lo hi none n).2.2=1:=by
 refine⟨?_,?_,rfl⟩
 ·cases lo with
  |none=>simp[sliceBounds,HT.m9]
  |some i =>
   simp only[sliceBounds,HT.m9,Option.getD_none,show(1:Int) > 0 by decide,if_true]
   by_cases h:i<0
   ·simp only[h,if_true]<;>omega
   ·simp only[h,if_false]<;>omega
 ·cases hi with
  |none=>simp[sliceBounds,HT.m9]
  |some i =>
   simp only[sliceBounds,HT.m9,Option.getD_none,show(1:Int) > 0 by decide,if_true]
   by_cases h:i<0
   ·simp only[h,if_true]<;>omega
   ·simp only[h,if_false]<;>omega
theorem zFt(its:List Value)(lo hi:Option Int):slicePick its.toArray lo hi none=((its.drop (HT.m9 its.length 0 lo)).take (HT.m9 its.length its.length hi-HT.m9 its.length 0 lo)).toArray:=by
 obtain⟨h1,h2,h3⟩:=zG9 lo hi its.toArray.size
 unfold slicePick
 rw[h1,h2,h3]
 simp only[sliceRange_one,pick_run,size_toArray]<;>rfl
def Aw(K:PySem.W.Frag):V->Option Int->Option Int->Hp->VK->Prop:=λx lo hi H Q=>∃a xs,x=.ref a/\aV K H a xs/\∀p,H p=none->Q (.ref p) (upd H p (.lst (qT xs lo hi)))
theorem Ax:Vc X (Aw X.K):=by
 intro pins s σ H x v vl vu lo hi sl Q I rx hs pl pu h
 obtain⟨a,xs,rfl,hx,q⟩:=h
 cases rx
 obtain⟨its,r,ht,hz⟩:=I.list hx
 have hlen:=r.length
 refine⟨"list",_,slot_list_getitem.lookup,ht.isList.typeIs,?_⟩
 refine wpAny_getItem_list_slice ht.isList hs pl pu .none (by simp) ?_ (by rw[size_toArray]<;>omega)
 rw[zFt,<-hlen]
 refine⟨.ref s.heap.objs.size,_,I.laid (t':=s.toks) (o:=.lst (qT xs lo hi)) (λb ob q=>get?_push_of_some _ q) (aag _) ?_,rfl,q _ (I.hok.fresh (aag _))⟩
 exact⟨aar (zJn xs lo hi) hz,_,0,(r.drop (HT.m9 xs.length 0 lo)).take (HT.m9 xs.length xs.length hi-HT.m9 xs.length 0 lo),get?_push_size _ rfl⟩
def yr:V->Bool
 |.non=>true
 |.bl _=>true
 |.int _=>true
 |.str _=>true
 |_=>false
def Ay:V->V->Bool
 |.non,.non=>true
 |.bl a,.bl b=>a==b
 |.bl a,.int b=>(if a then 1 else 0)==b
 |.int a,.bl b=>a==(if b then 1 else 0)
 |.int a,.int b=>a==b
 |.str a,.str b=>a==b
 |_,_=>false
theorem Im(ry:RelV y u)(rx:RelV x v)(fy:yr y=true)(fx:yr x=true):SeqAt.EqAt A s u v (Ay y x):=by
 cases y with
 |non =>
  cases ry
  cases x with
  |non=>cases rx;exact SeqAt.EqAt.same _
  |bl b=>cases rx;exact SeqAt.EqAt.none_bool b
  |int b=>obtain⟨t,rfl⟩:=rx;exact SeqAt.EqAt.none_int b t
  |str b=>obtain⟨t,rfl⟩:=rx;exact SeqAt.EqAt.none_str b t
  |_=>exact absurd (show false=true from fx) aap
 |bl a =>
  cases ry
  cases x with
  |non=>cases rx;exact SeqAt.EqAt.bool_none a
  |bl b=>cases rx;exact SeqAt.EqAt.bool_bool a b
  |int b=>obtain⟨t,rfl⟩:=rx;exact SeqAt.EqAt.bool_int a b t
  |str b=>obtain⟨t,rfl⟩:=rx;exact SeqAt.EqAt.bool_str a b t
  |_=>exact absurd (show false=true from fx) aap
 |int a =>
  obtain⟨t',rfl⟩:=ry
  cases x with
  |non=>cases rx;exact SeqAt.EqAt.int_none a t'
  |bl b=>cases rx;exact SeqAt.EqAt.int_bool a t' b
  |int b=>obtain⟨t,rfl⟩:=rx;exact SeqAt.EqAt.int_int a t' b t
  |str b=>obtain⟨t,rfl⟩:=rx;exact SeqAt.EqAt.int_str a t' b t
  |_=>exact absurd (show false=true from fx) aap
 |str a =>
  obtain⟨t',rfl⟩:=ry
  cases x with
  |non=>cases rx;exact SeqAt.EqAt.str_none a t'
  |bl b=>cases rx;exact SeqAt.EqAt.str_bool a t' b
  |int b=>obtain⟨t,rfl⟩:=rx;exact SeqAt.EqAt.str_int a t' b t
  |str b=>obtain⟨t,rfl⟩:=rx;exact SeqAt.EqAt.str_str a t' b t
  |_=>exact absurd (show false=true from fx) aap
 |_=>exact absurd (show false=true from fy) aap
def Az(x:V)(u:Value):Bool:=match u with
 |.none=>Ay .non x
 |.bool b=>Ay (.bl b) x
 |.int i _=>Ay (.int i) x
 |.str z _=>Ay (.str z) x
 |_=>false
theorem Zc(r:RelV y u)(f:yr y=true):Az x u=Ay y x:=by
 cases y with
 |non=>cases r;rfl
 |bl b=>cases r;rfl
 |int i=>obtain⟨t,rfl⟩:=r;rfl
 |str z=>obtain⟨t,rfl⟩:=r;rfl
 |_=>exact absurd (show false=true from f) aap
theorem Vg:∀{xs:List V}{us:List Value},Vals xs us->xs.all yr=true->us.any (Az x)=xs.any λy=>Ay y x
 |_,_,.nil,_=>rfl
 |y::xs,u::us,.cons r t,f=>by
  rw[all_cons,aah] at f
  rw[any_cons,any_cons,Zc r f.1,Vg t f.2]
theorem Vh(rx:RelV x v)(fx:yr x=true):∀{xs:List V}{us:List Value},Vals xs us->xs.all yr=true->∀u∈us,SeqAt.EqAt A s u v (Az x u)
 |_,_,.nil,_=>λu hu=>by cases hu
 |y::xs,u::us,.cons r t,f=>λu' hu=>by
  rw[all_cons,aah] at f
  rcases mem_cons.mp hu with rfl|hu
  ·rw[Zc r f.1];exact Im r rx f.1 fx
  ·exact Vh rx fx t f.2 u' hu
def inV(x:V)(xs:List V):Bool:=xs.any λy=>Ay y x
def RV(K:PySem.W.Frag)(neg:Bool):R2:=λx y H Q=>∃p xs,y=.ref p/\(aV K H p xs\/gZ K H p xs)/\yr x=true/\xs.all yr=true/\Q (.bl (if neg then !inV x xs else inV x xs)) H
theorem zOe:jH X (compareOp .In) (RV X.K false):=by
 intro pins s σ H x y v u Q I rx ry h
 obtain⟨p,xs,rfl,hq,fx,fs,q⟩:=h
 cases ry
 rcases hq with hq|hq
 ·obtain⟨its,r,pl,hz⟩:=I.list hq
  refine SeqAt.in_listAt (Az x) pl.isList (λw hw=>Vh rx fx r fs w (by simpa using hw)) ⟨.bl _,H,I,rfl,?_⟩
  rw[show its.toArray.any (Az x)=its.any (Az x) by simp,Vg r fs]
  exact q
 ·obtain⟨its,r,pl,hz⟩:=I.tuple hq
  refine SeqAt.in_tupleAt (Az x) pl (λw hw=>Vh rx fx r fs w (by simpa using hw)) ⟨.bl _,H,I,rfl,?_⟩
  rw[show its.toArray.any (Az x)=its.any (Az x) by simp,Vg r fs]
  exact q
theorem zIc:sH X (.builtin "len") (λxs H Q=>∃p ys,xs=[.ref p]/\(aV X.K H p ys\/gZ X.K H p ys)/\Q (.int ys.length) H):=by
 intro pins s σ H xs us Q I r h
 obtain⟨p,ys,rfl,hq,q⟩:=h
 obtain⟨u,rfl,rx⟩:=Nv r
 cases rx
 have hn:=Ie
 rcases hq with hq|hq
 ·obtain⟨its,r',pl,hz⟩:=I.list hq
  have hlen:=r'.length
  exact Calls.call_len_list pl.isList (by simp only[size_toArray]<;>omega) ⟨.int ys.length,H,I.tok _,⟨s.toks+1,by rw[size_toArray,hlen]⟩,q⟩
 ·obtain⟨its,r',pl,hz⟩:=I.tuple hq
  have hlen:=r'.length
  exact len_tuple pl (by simp only[size_toArray]<;>omega) ⟨.int ys.length,H,I.tok _,⟨s.toks+1,by rw[size_toArray,hlen]⟩,q⟩
theorem zIb:sH X (.type "list") (λxs H Q=>∃p ys,xs=[.ref p]/\(aV X.K H p ys\/gZ X.K H p ys)/\∀l,H l=none->Q (.ref l) (upd H l (.lst ys))):=by
 intro pins s σ H xs us Q I r h
 obtain⟨p,ys,rfl,hq,q⟩:=h
 obtain⟨u,rfl,rx⟩:=Nv r
 cases rx
 have fin:∀(its:List Value),Vals ys its->ys.length<=sizeLine->∀(h':Heap)(c':Nat),(∀b o',s.heap.get? b=some o'->h'.get? b=some o') ->
   h'.get? s.heap.objs.size=some { cls:=.type "list",dict:=none,data:=.seq its.toArray c',slots:=#[] }->EP X pins σ Q (.ref s.heap.objs.size) { s with heap:=h' }:=λits r' hz h' c' kp e =>
  ⟨.ref s.heap.objs.size,_,I.laid (t':=s.toks) kp (aag _) (show aQ X.prog X.w _ h' _ (.lst ys) from⟨hz,its,c',r',e⟩),rfl,q _ (I.hok.fresh (aag _))⟩
 rcases hq with hq|hq
 ·obtain⟨its,r',pl,hz⟩:=I.list hq
  have hlen:=r'.length
  obtain⟨o,ho,hc,n,hd⟩:=pl.isList
  exact call_list_seq p (.inl rfl) ho hc hd (λh' c' kp e=>fin its r' hz h' c' kp e) (by simp only[size_toArray]<;>omega)
 ·obtain⟨its,r',pl,hz⟩:=I.tuple hq
  have hlen:=r'.length
  obtain⟨o,ho,hc,n,hd⟩:=pl
  exact call_list_seq p (.inr rfl) ho hc hd (λh' c' kp e=>fin its r' hz h' c' kp e) (by simp only[size_toArray]<;>omega)
def Vi(K:PySem.W.Frag)(T:String)(x:V)(H:Hp):Prop:=match x with
 |.str _=>T = "str"
 |.int _=>T = "int"
 |.ref p=>(T = "list" /\ ∃xs,aV K H p xs)\/(T = "tuple" /\ ∃o,K.lookup p=some o/\o.cls=.type "tuple" /\ o.dict=none) \/
   (T = "dict" /\ ((∃kvs,H p=some (.dK kvs))\/∃kvs,H p=some (.dT kvs)))\/(T = "set" /\ ∃S n,H p=some (.set S n))
 |_=>False
theorem Zd(I:Inv X pins σ H s)(r:RelV x v)(ty:Vi X.K T x H) :
  s.TypeIs v T/\∀a,v=.ref a->∃ob,s.heap.get? a=some ob/\ob.dict=none:=by
 cases x with
 |str z =>
  obtain⟨t,rfl⟩:=r
  cases(show T = "str" from ty)
  exact⟨typeIs_str s z t,λ_ e=>nomatch e⟩
 |int i =>
  obtain⟨t,rfl⟩:=r
  cases(show T = "int" from ty)
  exact⟨typeIs_int s i t,λ_ e=>nomatch e⟩
 |ref p =>
  cases r
  rcases ty with⟨rfl,xs,hq⟩|⟨rfl,o,hk,hc,hd⟩|⟨rfl,hk⟩|⟨rfl,S,n,hk⟩
  ·obtain⟨its,_,pl,_⟩:=I.list hq
   refine⟨pl.isList.typeIs,λa e=>?_⟩
   cases e
   obtain⟨o,n,e,c,hd,_⟩:=pl
   exact⟨o,e,hd⟩
  ·refine⟨⟨o,I.iT p o hk,hc⟩,λa e=>?_⟩
   cases e
   exact⟨o,I.iT _ o hk,hd⟩
  ·have z:∃o,s.heap.get? p=some o/\o.ExactDict:=by
    rcases hk with⟨kvs,hk⟩|⟨kvs,hk⟩
    ·obtain⟨_,_,_,_,o,_,_,e,ex,_⟩:=I.hok p _ hk
     exact⟨o,e,ex⟩
    ·obtain⟨_,_,_,_,o,_,_,e,ex,_⟩:=I.hok p _ hk
     exact⟨o,e,ex⟩
   obtain⟨o,e,ex⟩:=z
   refine⟨⟨o,e,ex.1⟩,λa e2=>?_⟩
   cases e2
   exact⟨o,e,ex.2.1⟩
  ·obtain⟨o,_,_,_,e,ex,_⟩:=I.hok p _ hk
   refine⟨⟨o,e,ex.1⟩,λa e2=>?_⟩
   cases e2
   exact⟨o,e,ex.2.1⟩
 |_=>exact abb ty
def Io(K:PySem.W.Frag)(T:String)(r:V->List V->Hp->VK->Prop)(to:TE):TE:=λσ H Q=>to σ H λx H1=>Vi K T x H1/\r x [] H1 Q
def Fx(K:PySem.W.Frag)(T:String)(r:V->List V->Hp->VK->Prop)(to:TE)(t:TA):TE:=λσ H Q=>to σ H λx H1=>Vi K T x H1/\t σ H1 λxs H2=>r x xs H2 Q
variable{o e:Expr}{es:List Expr}{to:TE}{t:TA}{name:Str}{apos cpos:Pos}{T id:String}{r:V->List V->Hp->VK->Prop}
theorem Ip(pa:PlainAttrs T)(slot:Slot T name id)(hty:typeOf (.builtin id)=pure (.type "method_descriptor"))(hm:Za X id r)(ho:PE X o to)(hbase:attributeBase o name X.env (eval o X.env)=eval o X.env:=by rfl)(hline:(apos.endLine==cpos.line)=true:=by rfl):PE X (.Call (.Attribute o name apos) [] [] cpos) (Io X.K T r to):=by
 intro pins s σ H Q I h
 refine wpAny_Call_method0_late hbase hline (aL (ho pins s σ H _ I h) λv s1 ⟨x,H1,I1,r1,ty,q1⟩=>?_)
 obtain⟨h1,h2⟩:=Zd I1 r1 ty
 exact⟨T,id,pa,slot,hty,h1,h2,Calls.callWith_builtin rfl (PySem.evalArgs_none (hm pins s1 σ H1 x [] v [] Q I1 r1 .nil q1))⟩
theorem Fy(pa:PlainAttrs T)(slot:Slot T name id)(hty:typeOf (.builtin id)=pure (.type "method_descriptor"))(hm:Za X id r)(ho:PE X o to)(ha:PA X (e::es) t)(hbase:attributeBase o name X.env (eval o X.env)=eval o X.env:=by rfl)(hfew:((backTo cpos (starEach (e::es) X.env)).all (λx=>!x.1)&&(backToKw cpos (keywordEach [] X.env)).all (λx=>x.1.isSome)
   && decide ((e::es).length+([]:List Keyword).length+(if([]:List Keyword).isEmpty then 0 else 1)<30))=true:=by rfl)(hline:(apos.endLine==cpos.line)=true:=by rfl)(hs:starEach (e::es) X.env=(false,eval e X.env)::starEach es X.env:=by rfl)(hplain:(backTo cpos (starEach es X.env)).any (·.1)=false:=by rfl) :
  PE X (.Call (.Attribute o name apos) (e::es) [] cpos) (Fx X.K T r to t):=by
 intro pins s σ H Q I h
 refine wpAny_Call_method_late hbase hfew hline rfl (aL (ho pins s σ H _ I h) λv s1 ⟨x,H1,I1,r1,ty,q1⟩=>?_)
 obtain⟨h1,h2⟩:=Zd I1 r1 ty
 refine⟨T,id,pa,slot,hty,h1,h2,?_⟩
 have hA:=ha cpos pins s1 σ H1 _ I1 q1
 rw[hs] at hA ⊢
 refine Calls.callWith_builtin (by show(false||(backTo cpos (starEach es X.env)).any (·.1))=false;rw[hplain]<;>rfl) (Calls.evalArgs_plain ?_)
 exact aL hA λus s2 ⟨vs,H2,I2,r2,q2⟩=>hm pins s2 σ H2 x vs v us Q I2 r1 r2 q2
end
def Lf(X:Cx)(id:String)(r:V->List V->Hp->VK->Prop):Prop :=
 ∀(pins:List (Addr×Obj))(s:Shared)(σ:St)(H:Hp)(x:V)(xs:List V)(v:Value)(us:List Value)(Q:VK),Inv X pins σ H s->RelV x v->Vals xs us->r x xs H Q ->
  wpAny (model X.prog X.w) X.A (call (.builtin id) (v::us)) (EP X pins σ Q) X.xe s
theorem Vals.one:∀{x:V}{us:List Value},Vals [x] us->∃u,us=[u]/\RelV x u
 |_,_,.cons r .nil=>⟨_,rfl,r⟩
theorem Vals.two:∀{x y:V}{us:List Value},Vals [x,y] us->∃u v,us=[u,v]/\RelV x u/\RelV y v
 |_,_,_,.cons r (.cons q .nil)=>⟨_,_,rfl,r,q⟩
theorem Vals.zero:∀{us:List Value},Vals [] us->us=[]
 |_,.nil=>rfl
theorem Vals.dropLast(h:Vals xs us):Vals xs.dropLast us.dropLast:=by
 induction h with
 |nil=>exact .nil
 |cons r t ih =>
  cases t with
  |nil=>exact .nil
  |cons q t'=>exact .cons r ih
theorem Vals.eraseIdx:∀{xs:List V}{us:List Value}(i:Nat),Vals xs us->Vals (xs.eraseIdx i) (us.eraseIdx i)
 |_,_,_,.nil=>.nil
 |_,_,0,.cons _ t=>t
 |_,_,i+1,.cons r t=>.cons r (Vals.eraseIdx i t)
theorem Vals.reverse(h:Vals xs us):Vals xs.reverse us.reverse:=by
 induction h with
 |nil=>exact .nil
 |cons r t ih=>rw[reverse_cons,reverse_cons];exact Vals.append ih (.cons r .nil)
theorem zMm{α:Type}(l:List α):l.eraseIdx (l.length-1)=l.dropLast:=by
 induction l with
 |nil=>rfl
 |cons a r ih =>
  cases r with
  |nil=>rfl
  |cons b r =>
   have e:(a::b::r).length-1=((b::r).length-1)+1:=by
    have h1:(a::b::r).length=r.length+2:=rfl
    have h2:(b::r).length=r.length+1:=rfl
    omega
   rw[e,List.eraseIdx_cons_succ,ih]
   all_goals rfl
section
variable{X:Cx}{pins:List (Addr×Obj)}{σ:St}{H:Hp}{s:Shared}{l b:Addr}{xs ys zs:List V}
theorem Inv.Ir{its its':List Value}{f:Array Value->Array Value}(I:Inv X pins σ H s)(hH:H l=some (.lst xs))(e:s.heap.get? l=some { cls:=.type "list",data:=.seq its.toArray n })(hf:f its.toArray=its'.toArray)(hv:Vals ys its')(hz:ys.length<=sizeLine) :
  Inv X pins σ (upd H l (.lst ys)) { s with heap:=s.heap.update l (acn f),toks:=t' }:=by
 have q:=PySem.IsL.update e f
 rw[hf] at q
 refine I.write (x:=l) (e:=l) (by rw[hH];exact trivial) (.inl rfl) (λb' u hb hu=>(get?_update_other s.heap (acn f) (ab1 hb)).trans hu) ⟨_,q⟩ ?_
 exact⟨hz,its',_,hv,q⟩
theorem Inv.A_(I:Inv X pins σ H s)(hH:H l=some (.lst xs)):xs.length<=sizeLine/\∃(its:List Value)(n:Nat),Vals xs its/\xs.length=its.length/\s.heap.get? l=some { cls:=.type "list",data:=.seq its.toArray n }:=by
 obtain⟨z,its,n,r,e⟩:=I.hok l _ hH
 exact⟨z,its,n,r,r.length,e⟩
theorem zSb(h:n<=sizeLine):ac6 n=false:=by
 unfold ac6
 exact decide_eq_false (by omega)
end
section
variable{X:Cx}
def RW:V->List V->Hp->VK->Prop:=λx vs H Q=>∃l xs y,x=.ref l/\vs=[y]/\H l=some (.lst xs)/\xs.length<sizeLine/\Q .non (upd H l (.lst (xs++[y])))
theorem wU:Lf X "list.append" RW:=by
 intro pins s σ H x vs v us Q I rx rv h
 obtain⟨l,xs,y,rfl,rfl,hH,hz,q⟩:=h
 cases rx
 obtain⟨u,rfl,ru⟩:=rv.one
 obtain⟨z,its,n,r,hl,e⟩:=I.A_ hH
 refine aey F.slot_list_append ⟨_,e,rfl⟩ F.entry_list_append (F.args_list_append_2 _ _) (PySem.list_append l its.toArray n u (by rw[size_toArray];omega)) ⟨e,?_⟩
 refine⟨.non,_,I.Ir (its':=its++[u]) hH e (by simp) (r.append (.cons ru .nil)) ?_,rfl,q⟩
 rw[length_append,length_singleton]
 omega
def Vj:V->List V->Hp->VK->Prop:=λx vs H Q=>∃l b xs zs,x=.ref l/\vs=[.ref b]/\H l=some (.lst xs)/\H b=some (.lst zs)/\xs.length+zs.length<=sizeLine/\Q .non (upd H l (.lst (xs++zs)))
theorem Ze:Lf X "list.extend" Vj:=by
 intro pins s σ H x vs v us Q I rx rv h
 obtain⟨l,b,xs,zs,rfl,rfl,hH,hB,hz,q⟩:=h
 cases rx
 obtain⟨u,rfl,ru⟩:=rv.one
 cases ru
 obtain⟨z,its,n,r,hl,e⟩:=I.A_ hH
 obtain⟨z2,its2,n2,r2,hl2,e2⟩:=I.A_ hB
 have hsz:its.toArray.size+its2.toArray.size<=sizeLine:=by rw[size_toArray,size_toArray];omega
 have Oa:¬(!its.toArray.isEmpty&&ac6 (its.toArray.size+its2.toArray.size))=true:=by
  rw[zSb hsz,aei]
  exact aap
 refine aey F.slot_list_extend ⟨_,e,rfl⟩ F.entry_list_extend (F.args_list_extend_2 _ _)
  (AutoSeq1.list_extend_list_list_0 l its.toArray n b its2.toArray n2 Oa (by rw[size_toArray];omega) (by omega)) ⟨e,e2,?_⟩
 refine⟨.non,_,I.Ir (its':=its++its2) hH e (by simp) (r.append r2) ?_,rfl,q⟩
 rw[length_append]
 omega
def Ob:V->List V->Hp->VK->Prop:=λx vs H Q=>∃l xs y,x=.ref l/\vs=[]/\H l=some (.lst xs)/\xs[xs.length-1]?=some y/\Q y (upd H l (.lst xs.dropLast))
theorem Iu:Lf X "list.pop" Ob:=by
 intro pins s σ H x vs v us Q I rx rv h
 obtain⟨l,xs,y,rfl,rfl,hH,hy,q⟩:=h
 cases rx
 have hus:=rv.zero
 subst hus
 obtain⟨z,its,n,r,hl,e⟩:=I.A_ hH
 obtain⟨u,hu,ru⟩:=r.get hy
 have hy':its.toArray[its.toArray.size-1]?=some u:=by
  show its.toArray[its.length-1]?=some u
  rw[<-getElem?_toList,<-hl]
  exact hu
 refine aey F.slot_list_pop ⟨_,e,rfl⟩ F.entry_list_pop (F.args_list_pop_1 _) (MeetsSeq.list_pop_last l its.toArray n u hy' (by rw[size_toArray];omega)) ⟨e,?_⟩
 refine⟨y,_,I.Ir (its':=its.dropLast) hH e ?_ r.dropLast ?_,ru,q⟩
 ·show its.toArray.eraseIdxIfInBounds (its.toArray.size-1)=its.dropLast.toArray
  rw[size_toArray,List.eraseIdxIfInBounds_toArray,zMm]
 ·rw[List.length_dropLast]
  omega
end
section
variable{prog:Program}{w:World}{A:Around}{E:Value->Shared->Prop}{s:Shared}
end
section
variable{X:Cx}
end
end L2
namespace Zf
open PySem PySem.W PySem.Calls PyProof.Rows
theorem zD9:∀(ns:LI)(vs:List Value),WellAll P h vs (ns.map WData.int)->IntsAre vs ns:=by
 intro ns
 induction ns with
 |nil =>
  intro vs w
  rw[List.map_nil] at w
  cases w
  exact .nil
 |cons n ns ih =>
  intro vs w
  rw[map_cons] at w
  cases w with
  |cons a b =>
   cases a
   exact .cons _ _ (ih _ b)
theorem zNs{l:OpenLaw}(hn:l.most=some n)(hpre:l.row.toRowW.claim.pre args=true)(hwl:WellAll P h vals args) :
  ∃a vs ns,vals=[aa2 a]/\args=[WData.list (ns.map WData.int)]/\h.get? a=some { cls:=.type "list",data:=.seq vs.toArray }/\IntsAre vs ns/\ns.length<=n:=by
 have hsh:WShape.hasAll [] args [.list .int]=true:=(pre_splitW hpre).1
 have hc:l.pre.holds [] { args:=args }=true:=(pre_splitW hpre).2
 obtain⟨d,r,rfl,h1,h2⟩:=hasAllW_cons hsh
 obtain rfl:=hasAllW_nil h2
 obtain⟨xs,rfl,h3⟩:=hasW_list h1
 obtain⟨ns,rfl⟩:=items_int h3
 have hlen:ns.length<=n:=by
  unfold OpenLaw.pre at hc
  have h4:(WTm.not (.lt (.lit (.int (n:Int))) (.len (.arg 0)))).holds [] { args:=[.list (ns.map .int)] }=true:=by
   have h4:=(holds_andW hc).1
   rw[hn] at h4
   exact h4
  have h5:=condW_of h4 (w_not (w_lt w_lit (w_len_list (w_arg rfl))))
  rw[length_map] at h5
  refine Nat.le_of_not_lt λq=>?_
  have q':(n:Int)<((ns.length:Nat):Int):=by omega
  first
   | (rw[decide_eq_true q'] at h5;exact absurd h5 (by decide))
   | (simp at h5;omega)
 cases hwl with
 |cons w1 w2 =>
  cases w2
  cases w1 with
  |list ho hall=>exact⟨_,_,ns,rfl,rfl,ho,zD9 ns _ hall,hlen⟩
theorem zN3(l:OpenLaw)(args:List WData):l.row.toRowW.claim.post args (.bool true) args=true :=
 postW_of (r:=l.row.toRowW) (X:=(true==true))
  (show WShape.has [] (.bool true) .bool=true by first|rfl|decide|simp[WShape.has,WShape.arms,WShape.armsAll])
  (show(WTm.eq .res (.lit (.bool true))).value [] { args:=args,res:=some (.bool true),after:=args }=some (.bool (true==true)) from w_eq_bool (w_res rfl) w_lit) rfl
theorem oG{l:OpenLaw}{YP:World->Heap->Prop}{d:DefRec}(hn:l.most=some n)(hdf:d.params.defaults=[])(call:∀(w:World) (s₀ s₁:Shared) (mg mb:Str->Option Value) (fa:Addr) (o:Obj) (pm cd doc:Value) (a:Addr) (vs:List Value) (ns:LI),
   Ground q loose [] XP w s₀ mg mb s₁.heap->YP w s₁.heap ->
   s₁.heap.get? fa=some o->o.data=.func (docDef d.name d.params d.body d.scope pm cd doc)->s₁.heap.CodeRec cd d.name->mg d.name=some (.ref fa) ->
   s₁.heap.get? a=some { cls:=.type "list",data:=.seq vs.toArray }->IntsAre vs ns->ns.length<=n->s₁.gens=#[] ->
   codeAny (model l.prog w) callerA (.call (.ref fa) ⟨[.ref a],[]⟩) (λr s'=>r=.ok (.ret (.bool true))/\OldK s₁.heap s'.heap/\s'.os=s₁.os/\AllBare s'.gens) s₁) :
  WalkO q loose XP YP l.row.toRowW d [] (λf vs=>PySem.call f vs):=by
 intro w s₀ s₁ mg mb G Y fa o pm cd doc dV kV ho hd hcd hD hmg hg args vals as hpre hlay hrd hwl hlo
 obtain rfl:dV=.none:=Dflts.none hD hdf
 obtain rfl:kV=.none:=Dflts.noKw hD
 obtain⟨a,vs,ns,rfl,rfl,hobj,hints,hlen⟩:=zNs hn hpre hwl
 refine enter_call (ac1 (call w s₀ s₁ mg mb fa o pm cd doc a vs ns G Y ho (fd_plain hd) hcd hmg hobj hints hlen hg) λr s' hq=>?_)
 obtain⟨rfl,h2,h3,h4⟩:=hq
 exact⟨.inl ⟨.bool true,.bool true,[],rfl,λ_=>rfl,.bool true,zN3 l _,λ_=>⟨Pairwise.nil,λ_ hm=>(nomatch hm)⟩⟩,h2,h3,h4⟩
section
variable{prog:Program}{w:World}{A:Around}{E:Value->Shared->Prop}{s:Shared}{K:Frag}
end
end Zf
namespace L2
open PySem PySem.Spec PyProof.Rows
theorem Zg:∀{vs:List Value}{ns:LI},IntsAre vs ns->Vals (ns.map V.int) vs
 |_,_,.nil=>.nil
 |_,_,.cons n t h=>.cons ⟨t,rfl⟩ (Zg h)
def Only(H:Hp):Prop:=∀b,H b=none\/∃o xs,H b=some (.fU o (.lst xs))
theorem zSj{K:PySem.W.Frag}{s₁:Shared}{vs:List Value}(KX:K.In s₁.heap)(hns:s₁.heap.Ns aav mg)(hb:s₁.heap.Ns builtinsNs mb)(hbb:∀x:Str,x ≠ "__name__"->mb x=bootBuiltins x)(hlim:s₁.heap.NoLimit)(hg:s₁.gens=#[])(ha:s₁.heap.get? a=some { cls:=.type "list",data:=.seq vs.toArray })(hi:IntsAre vs ns)(hl:ns.length<=sizeLine)(hr:bx k callerA)(F:∀base:Heap,K.In base->base.Ns aav mg->aq P w K mg base CX k fa fd [x] sp)(hbind:∀(s:Shared) (u:Value),BindsTo s fd ⟨[u],[]⟩ [(x,u)])(hsp:∀H:Hp,Only H->aV K H a (ns.map V.int)->sp [.ref a] H (λv _=>v=.bl true) λ_ _ _=>False)(Vk:∀H e s',CX [] H s₁ (λ_ _ _=>False) e s'->False) :
  codeAny (model P w) callerA (.call (.ref fa) ⟨[.ref a],[]⟩) (λr s'=>r=.ok (.ret (.bool true))/\OldK s₁.heap s'.heap/\s'.os=s₁.os/\AllBare s'.gens) s₁:=by
 have rv:=Zg hi
 have lenV:=hi.length
 have core:∀H:Hp,Only H->aV K H a (ns.map V.int)->fV P w H s₁.heap->(∀b,H b≠none->b=a)->(H a≠none->K.lookup a=none) ->
   codeAny (model P w) callerA (.call (.ref fa) ⟨[.ref a],[]⟩) (λr s'=>r=.ok (.ret (.bool true))/\OldK s₁.heap s'.heap/\s'.os=s₁.os/\AllBare s'.gens) s₁:=by
  intro H hO hS hok hA hK
  have qD:∀{b:Addr}{o:Obj},s₁.heap.get? b=some o->H b=none->(m5 s₁.heap H).get? b=some o:=λe n=>zSq e n
  have Nz:∀{b:Addr}{o:Obj}{es:Array DictEntry}{ep:Nat},s₁.heap.get? b=some o->o.data=.dict es ep->H b=none:=λ{b o es ep} e d=>by
   cases q:H b with
   |none=>rfl
   |some u =>
    have e':b=a:=hA b (by rw[q];simp)
    subst e'
    rw[ha] at e;cases e
    have d':Data.seq vs.toArray _=Data.dict es ep:=d
    cases d'
  have RX:∀{b:Addr}{m:Str->Option Value},s₁.heap.Ns b m->(m5 s₁.heap H).Ns b m:=λ{b m} ⟨o,es,ep,e,d,r⟩=>⟨o,es,ep,qD e (Nz e d),d,r⟩
  have Zh:K.In (m5 s₁.heap H):=λb o e=>qD (KX b o e) (by
   cases q:H b with
   |none=>rfl
   |some u =>
    have e':b=a:=hA b (by rw[q];simp)
    subst e'
    rw[hK (by rw[q];simp)] at e;cases e)
  have hM:Mod K mg (m5 s₁.heap H):=⟨Zh,RX hns,⟨mb,RX hb,hbb⟩,let⟨mc,h1,h2⟩:=hlim;⟨mc,RX h1,h2⟩⟩
  have e0:pO P w K mg (m5 s₁.heap H) callerA [] s₁ H:=⟨rfl,hM,λb o e=>zq e,Nat.le_of_eq (zPf _ _),trivial,λb hb=>absurd (show b∈([]:List Addr) from hb) (by simp),hok,.of_eq hg⟩
  refine ac1 ((F _ Zh (RX hns)).run callerA [] s₁ H ⟨[.ref a],[]⟩ [.ref a] [.ref a] _ _ hr e0 (hbind s₁ (.ref a)) (.cons rfl .nil) (hsp H hO hS)) λr s' h=>?_
  cases r with
  |error e=>exact(Vk H e s' h).elim
  |ok fl =>
   cases fl with
   |next=>exact abb h
   |brk=>exact abb h
   |cont=>exact abb h
   |ret u =>
    obtain⟨v,H',os,bare,un,hok',r',q⟩:=h
    have q':v=.bl true:=q
    subst q'
    obtain rfl:u=aex true:=r'
    refine⟨rfl,OldK.of_keep λb o e=>?_,os,bare⟩
    cases q:H b with
    |none=>exact un.keep b o e q (by intro z;exact absurd (show b∈([]:List Addr) from z) (by simp)) (by simp)
    |some u =>
     rcases hO b with z|⟨ob,xs,z⟩
     ·rw[q] at z;cases z
     ·have z2:=un.jZ b ob _ z
      obtain⟨e1,_⟩:=hok b _ z
      obtain⟨e2,_⟩:=hok' b _ z2
      rw[e] at e1;cases e1
      exact e2
 cases hk:K.lookup a with
 |some o =>
  have e:=KX a o hk
  rw[ha] at e
  cases e
  refine core (λ_=>none) (λ_=>.inl rfl) (.inr ⟨_,vs.toArray,_,hk,rfl,rfl,rfl,by rw[size_toArray,lenV];exact hl,by simpa using rv⟩) (λb u z=>by have z':(none:Option HO)=some u:=z;cases z') (λb z=>absurd rfl z) λz=>absurd rfl z
 |none =>
  refine core (λb=>if b=a then some (.fU { cls:=.type "list",data:=.seq vs.toArray } (.lst (ns.map V.int))) else none) (λb=>?_) (.inl (.inr ⟨{ cls:=.type "list",data:=.seq vs.toArray },if_pos rfl⟩)) (λb u z=>?_) (λb z=>?_) λ_=>hk
  ·by_cases hb:b=a
   ·exact .inr ⟨_,_,if_pos hb⟩
   ·exact .inl (if_neg hb)
  ·by_cases hb:b=a
   ·have z':=(if_pos hb).symm.trans z
    cases z'
    subst hb
    exact⟨ha,by rw[length_map];exact hl,vs,_,rv,ha⟩
   ·have z':=(if_neg hb).symm.trans z
    cases z'
  ·by_cases hb:b=a
   ·exact hb
   ·exact absurd (if_neg hb) z
theorem Ba{l:PySem.W.OpenLaw}{YP:World->Heap->Prop}{d:DefRec}{K:Params->PySem.W.Frag}{CX:World->qR}{sp:World->Sp}(hn:l.most=some n)(hn2:n<=sizeLine)(hdf:d.params.defaults=[])(hr:bx k callerA)(hY:∀(w:World) (h:Heap),YP w h->(K w.params).In h)(F:∀(w:World) (mg:Str->Option Value) (fa:Addr) (h:Heap),(K w.params).In h->h.Ns aav mg->mg d.name=some (.ref fa) ->
   ∃fd:FuncData,(∀(s:Shared) (u:Value),BindsTo s fd ⟨[u],[]⟩ [(x,u)]) /\
    ∀base:Heap,(K w.params).In base->base.Ns aav mg->aq l.prog w (K w.params) mg base (CX w) k fa fd [x] (sp w))(hsp:∀(w:World) (H:Hp) (a:Addr) (ns:LI),ns.length<=n->Only H->aV (K w.params) H a (ns.map V.int)->sp w [.ref a] H (λv _=>v=.bl true) λ_ _ _=>False)(Vk:∀(w:World) (H:Hp) (s:Shared) (e:Value) (s':Shared),CX w [] H s (λ_ _ _=>False) e s'->False) :
  PySem.W.WalkO q loose XP YP l.row.toRowW d [] (λf vs=>PySem.call f vs):=by
 refine Zf.oG hn hdf λw s₀ s₁ mg mb fa o pm cd doc a vs ns G Y ho hd hcd hmg hobj hints hlen hg=>?_
 have KX:=hY w _ Y
 obtain⟨fd,hb,hF⟩:=F w mg fa _ KX G.T.g hmg
 exact zSj KX G.T.g G.T.b G.T.builtins G.T.nolimit hg hobj hints (aar hlen hn2) hr hF hb (λH hO hS=>hsp w H a ns hlen hO hS) λH e s'=>Vk w H s₁ e s'
def yQ(s:Stmt)(j:Nat):Stmt:=match s with
 |.ClassDef _ _ _ body _ _ _ _ _ _ _=>body.getD j (.Pass ⟨0,0,0,0⟩)
 |_=>.Pass ⟨0,0,0,0⟩
def wY(s:Stmt):Arguments:=match s with
 |.FunctionDef _ a _ _ _ _ _ _ _ _=>a
 |_=>{ posonlyargs:=[],args:=[],vararg:=none,kwonlyargs:=[],kw_defaults:=[],kwarg:=none,defaults:=[] }
def xL(s:Stmt):List Stmt:=match s with
 |.FunctionDef _ _ b _ _ _ _ _ _ _=>b
 |_=>[]
def zI(s:Stmt):Scope:=match s with
 |.FunctionDef _ _ _ _ _ _ sc _ _ _=>sc
 |_=>{ kind:=.function,names:=[],isGenerator:=false,isCoroutine:=false }
abbrev aN:qR:=λ_ _ _ _ _ _=>False
abbrev E0:XK:=λ_ _ _=>False
theorem vL:Ai aN X E0:=λ_ _ _ _ _ _ _ h=>h.elim
structure aX(K:PySem.W.Frag)(x qual:Str)(st:Stmt)(f:Addr)(fd:FuncData):Prop where
 ex:∃(oc:Value)(od:Option Addr)(kV doc pm:Value)(an:Option Addr)(cdv ct:Value)(osl:Array (Option Value)),
  fd=fnOf x qual (wY st) (xL st) (zI st) .none kV doc pm an cdv ct/\K.lookup f=some ⟨oc,od,.func fd,osl⟩/\codeIn K cdv qual=true
 kp:keepIn K (.ref f)=true
section
variable{P:Program}{w:World}{K:PySem.W.Frag}{mg:Str->Option Value}{base:Heap}
theorem aX.ok{x qual:Str}{st:Stmt}{f:Addr}{fd:FuncData}{N ps:List Str}{k:Nat}{sp:Sp}(F:aX K x qual st f fd)(S:ao N ps (zI st))(len:∀vs H Q E,sp vs H Q E->vs.length=ps.length)(hbody:∀(cdv:Value) (A:Around) (outer:List Env) (s:Shared) (H:Hp) (vs:List V) (Q:VK) (E:XK),bx k (A.deeper (envOfC qual (zI st) s.heap.objs.size f cdv))->sp vs H Q E ->
   ∃t,oE (lY aN P w K mg base N qual (zI st) f cdv A outer s H E).Aa (xL st) t/\t { nx:=λ_ H'=>Q .non H',rt:=Q } (start N vs) H):aq P w K mg base aN (k+1) f fd ps sp:=by
 obtain⟨oc,od,kV,doc,pm,an,cdv,ct,osl,rfl,lk,hcd⟩:=F.ex
 refine Ft lk hcd S len λA outer s H vs Q E hr hsp=>?_
 obtain⟨t,h,q⟩:=hbody cdv A outer s H vs Q E hr hsp
 exact⟨t,h.Aa,q⟩
theorem aX.binds{x qual:Str}{st:Stmt}{f:Addr}{fd:FuncData}{ps:List Str}(F:aX K x qual st f fd)(h:∀(kV doc pm:Value) (an:Option Addr) (cdv ct:Value) (us:List Value),us.length=ps.length->bindArgs (fnOf x qual (wY st) (xL st) (zI st) .none kV doc pm an cdv ct) ⟨us,[]⟩=pure (ps.zip us)):Binds K fd ps []:=by
 obtain⟨oc,od,kV,doc,pm,an,cdv,ct,osl,rfl,lk,hcd⟩:=F.ex
 exact .all (h kV doc pm an cdv ct)
theorem j5{x qual:Str}{st:Stmt}{f:Addr}{oc:Value}{od an:Option Addr}{osl:Array (Option Value)}{kV doc pm cdv ct:Value}(l:K.lookup f=some ⟨oc,od,.func (fnOf x qual (wY st) (xL st) (zI st) .none kV doc pm an cdv ct),osl⟩)(c:codeIn K cdv qual=true)(k:keepIn K (.ref f)=true):aX K x qual st f (fnOf x qual (wY st) (xL st) (zI st) .none kV doc pm an cdv ct):=⟨⟨oc,od,kV,doc,pm,an,cdv,ct,osl,rfl,l,c⟩,k⟩
end
theorem Oc(hr:bx k A):A.units+1<cLine:=aan (Nat.add_le_add_left (by decide:1<=64) _) hr.units
theorem Zi(h:n<=1000):n<sizeLine:=aan h (by decide)
section
variable{X:Cx}
theorem pv(i:Nat)(hN:X.N[i]?=some x:=by rfl)(hv:MN X.env.scope x:=by first|exact Or.inl rfl|exact Or.inr (Or.inl rfl)|exact Or.inr (Or.inr rfl))(hd:(x==("__debug__":Str))=false:=by decide)(hcd:(x==("__classdict__":Str))=false:=by decide):PE X (.Name x pos) (cT i):=Hr hN hv hd hcd
end
theorem jR{A B:Prop}(h:B):if false=true then A else B:=by
 rw[if_neg aap]
 exact h
theorem jk{A B:Prop}(h:A):if true=true then A else B:=by
 rw[if_pos rfl]
 exact h
def Same(H H':Hp):Prop:=∀b o,H b=some o->H' b=some o
theorem Same.refl(H:Hp):Same H H:=λ_ _ h=>h
theorem Same.trans(a:Same H H1)(b:Same H1 H2):Same H H2:=λc o h=>b c o (a c o h)
theorem Same.free(e:Same H H')(h:H' l=Option.none):H l=Option.none:=by
 cases q:H l with
 |none=>rfl
 |some o =>
  rw[e l o q] at h
  cases h
theorem Same.seq{K:PySem.W.Frag}{H H':Hp}{a:Addr}{xs:List V}(e:Same H H')(h:aV K H a xs):aV K H' a xs:=by
 rcases h with(h|⟨o,h⟩)|h
 ·exact .inl (.inl (e _ _ h))
 ·exact .inl (.inr ⟨o,e _ _ h⟩)
 ·exact .inr h
section
variable{κ:Type}[DecidableEq κ]
end
open PySem
section
variable{prog:Program}{w:World}{A:Around}{R:Result->Shared->Prop}{s:Shared}
theorem wI{α:Type}{t:Sem α}{Q Q':α->Shared->Prop}(h:wpAny M A t Q (λ_ _=>False) s)(hQ:∀a s,Q a s->Q' a s):wpAny M A t Q' (notedBy M A env E) s :=
 abj h hQ λ_ _ z=>z.elim
theorem zIa(I:Nat->Shared->Prop)(turn:∀n s,I n s->wpAny (model prog w) A (pyNext it) (λr s₁=>match r with
   |none=>R (.ok .next) s₁
   |some v=>wpAny (model prog w) A (letOwnedTupleGo target it v) (λ_ s₂=>wpAny (model prog w) A (assign target env v) (λ_ s₃ =>
     wpAny (model prog w) A (forIn ifs true λc r=>if r=true then do let ok <-isTrue c env (eval c env);pure (ab0 ok) else pure (ab0 r)) (λok s₄ =>
      if ok=true then wpAny (model prog w) A (eval elt env) (λx s₅ =>
       wpAny (model prog w) A (call (.builtin "list.append") [acc,x]) (λ_ s₆=>∃m,m<n/\I m s₆) (λ_ _=>False) s₅) (λ_ _=>False) s₄
      else∃m,m<n/\I m s₄) (λ_ _=>False) s₃) (λ_ _=>False) s₂) (λ_ _=>False) s₁) (λ_ _=>False) s)(n:Nat)(h:I n s):codeAny (model prog w) A (.compLoop (.ListComp elt [⟨target,iter,ifs,0⟩] scope pos) 0 it acc env) R s:=by
 refine codeAny_loop rfl I (λn s hI=>?_) n h
 show wpAny _ A ((compTurn (.ListComp elt [⟨target,iter,ifs,0⟩] scope pos) 0 it acc env).onRaise (λx=>do noteFrame x env;theTreesLotGoes x)) _ _ s
 refine wpAny_noted ?_
 rw[compTurn_list]
 refine aad (aes (aad (wI (turn n s hI) λr s₁ h₁=>?_)))
 cases r with
 |none=>exact aae h₁
 |some v =>
  refine aad (wI h₁ λ_ s₂ h₂=>?_)
  refine aad (wI h₂ λ_ s₃ h₃=>aad (wI h₃ λok s₄ h₄=>?_))
  cases ok with
  |false=>exact aae ⟨rfl,h₄⟩
  |true =>
   exact aad (aad (wI h₄ λx s₅ h₅=>aad (wI h₅ λ_ s₆ h₆=>aae (aae ⟨rfl,h₆⟩))))
end
def uM(env:Env):List (Str×NameKind)->List (Str×Addr)->List (Str×Addr)
 |[],acc=>acc
 | (n,k)::r,acc=>if k==.free then uM env r ((n,(env.cells.lookup n).getD 0)::acc) else uM env r acc
theorem Zj{scope:Scope}{env:Env}(h:∀y∈scope.names,y.2=.free->∃c,env.cells.lookup y.1=some c):closureFor scope env=pure (uM env scope.names []):=by
 unfold closureFor
 generalize scope.names=l at h
 have go:∀(l:List (Str×NameKind))(acc:List (Str×Addr)),(∀y∈l,y.2=.free->∃c,env.cells.lookup y.1=some c) ->
    (forIn l acc (λ(x:Str×NameKind) (r:List (Str×Addr))=>match x with
    | (name,kind)=>if(kind==aau)=true then(do let __do_lift <-cellOf env name;pure (ab0 ((name,__do_lift)::r))) else pure (ab0 r)):Sem (List (Str×Addr)))=pure (uM env l acc):=by
  intro l
  induction l with
  |nil=>intro acc _;rfl
  |cons x r ih =>
   intro acc hl
   obtain⟨n,k⟩:=x
   rw[List.forIn_cons]
   unfold uM
   by_cases hk:(k==aau)=true
   ·obtain⟨c,hc⟩:=hl (n,k) mem_cons_self (abt hk)
    simp only[hk,if_true]
    have hc':env.cells.lookup n=some c:=hc
    unfold cellOf
    rw[hc']
    exact ih _ λy hy=>hl y (mem_cons_of_mem _ hy)
   ·simp only[hk,if_false]
    exact ih _ λy hy=>hl y (mem_cons_of_mem _ hy)
 have e:=go l [] h
 simp only[bind_pure]
 exact e
theorem Vl{env:Env}:∀(l:List (Str×NameKind))(acc:List (Str×Addr)),(∀x c,acc.lookup x=some c->(env.cells.lookup x).getD 0=c)->∀x c,(uM env l acc).lookup x=some c->(env.cells.lookup x).getD 0=c
 |[],_,h,x,c,e=>h x c e
 | (n,k)::r,acc,h,x,c,e=>by
  unfold uM at e
  by_cases hk:(k==aau)=true
  ·rw[if_pos hk] at e
   refine Vl r _ (λy d q=>?_) x c e
   cases hy:y==n with
   |true =>
    rw[lookup_cons,hy] at q
    cases q
    rw[abt hy]
   |false =>
    rw[lookup_cons,hy] at q
    exact h y d q
  ·rw[if_neg hk] at e
   exact Vl r acc h x c e
theorem Vm:∀(l:List (Str×NameKind))(acc:List (Str×Addr))(x:Str)(c:Addr),(uM env l acc).lookup x=some c->(acc.lookup x).isSome=true\/(x,aau)∈l
 |[],_,x,c,e=>.inl (by unfold uM at e;rw[e];rfl)
 | (n,k)::r,acc,x,c,e=>by
  unfold uM at e
  by_cases hk:(k==aau)=true
  ·rw[if_pos hk] at e
   rcases Vm r _ x c e with h|h
   ·cases hy:x==n with
    |true =>
     have e1:=abt hy
     have e2:=abt hk
     subst e1;subst e2
     exact .inr mem_cons_self
    |false =>
     rw[lookup_cons,hy] at h
     exact .inl h
   ·exact .inr (mem_cons_of_mem _ h)
  ·rw[if_neg hk] at e
   rcases Vm r _ x c e with h|h
   ·exact .inl h
   ·exact .inr (mem_cons_of_mem _ h)
theorem RZ:∀(l:List (Str×NameKind))(acc:List (Str×Addr))(x:Str),((acc.lookup x).isSome=true\/(x,aau)∈l)->((uM env l acc).lookup x).isSome=true
 |[],_,x,h=>by
  rcases h with h|h
  ·exact h
  ·cases h
 | (n,k)::r,acc,x,h=>by
  unfold uM
  by_cases hk:(k==aau)=true
  ·rw[if_pos hk]
   refine RZ r _ x ?_
   rcases h with h|h
   ·refine .inl ?_
    rw[lookup_cons]
    cases hy:x==n with
    |true=>rfl
    |false=>exact h
   ·rcases mem_cons.mp h with h|h
    ·cases h
     refine .inl ?_
     rw[lookup_cons,beq_self_eq_true]
     rfl
    ·exact .inr h
  ·rw[if_neg hk]
   refine RZ r _ x ?_
   rcases h with h|h
   ·exact .inl h
   ·rcases mem_cons.mp h with h|h
    ·cases h
     exact absurd rfl hk
    ·exact .inr h
theorem Zk{env:Env}:∀{names:List (Str×NameKind)}{x:Str},names.lookup x=some .free ->
  (names.map λ(n,k)=>if(k==aau&&env.scope.kind==.function&&env.kindOf n==some .cell) then(n,abm) else(n,k)).lookup x=some .cell \/
  (names.map λ(n,k)=>if(k==aau&&env.scope.kind==.function&&env.kindOf n==some .cell) then(n,abm) else(n,k)).lookup x=some .free
 |[],_,h=>by simp at h
 | (n,k)::r,x,h=>by
  have ih:=@Zk env r x
  show ab7 x ((if(k==aau&&env.scope.kind==.function&&env.kindOf n==some .cell)=true then(n,abm) else(n,k))::_)=_\/ab7 x ((if(k==aau&&env.scope.kind==.function&&env.kindOf n==some .cell)=true then(n,abm) else(n,k))::_)=_
  cases hx:x==n with
  |true =>
   simp only[lookup_cons,hx] at h
   cases h
   by_cases hc:(aau==aau&&env.scope.kind==.function&&env.kindOf n==some .cell)=true
   ·rw[if_pos hc];left;simp only[lookup_cons,hx]
   ·rw[if_neg hc];right;simp only[lookup_cons,hx]
  |false =>
   simp only[lookup_cons,hx] at h
   by_cases hc:(k==aau&&env.scope.kind==.function&&env.kindOf n==some .cell)=true
   ·rw[if_pos hc];simp only[lookup_cons,hx];exact ih h
   ·rw[if_neg hc];simp only[lookup_cons,hx];exact ih h
theorem Vn{env:Env}:∀{names:List (Str×NameKind)}{x:Str}{k:NameKind},(k=.cell\/k=.free) ->
  (names.map λ(n,k)=>if(k==aau&&env.scope.kind==.function&&env.kindOf n==some .cell) then(n,abm) else(n,k)).lookup x=some k->(x,aau)∈names\/(x,abm)∈names
 |[],_,_,_,h=>by simp at h
 | (n,k')::r,x,k,hk,h=>by
  have ih:=@Vn env r x k hk
  have h':ab7 x ((if(k'==aau&&env.scope.kind==.function&&env.kindOf n==some .cell)=true then(n,abm) else(n,k'))::(r.map λ(n,k)=>if(k==aau&&env.scope.kind==.function&&env.kindOf n==some .cell) then(n,abm) else(n,k)))=some k:=h
  cases hx:x==n with
  |true =>
   have e:=abt hx
   subst e
   by_cases hd:(k'==aau&&env.scope.kind==.function&&env.kindOf x==some .cell)=true
   ·have e2:k'=.free:=by
     rw[aah,aah] at hd
     exact abt hd.1.1
    subst e2
    exact .inl mem_cons_self
   ·rw[if_neg hd] at h'
    simp only[lookup_cons,hx] at h'
    cases h'
    rcases hk with e|e
    ·subst e;exact .inr mem_cons_self
    ·subst e;exact .inl mem_cons_self
  |false =>
   have g:(x,aau)∈r\/(x,abm)∈r:=by
    refine ih ?_
    by_cases hd:(k'==aau&&env.scope.kind==.function&&env.kindOf n==some .cell)=true
    ·rw[if_pos hd] at h';simp only[lookup_cons,hx] at h';exact h'
    ·rw[if_neg hd] at h';simp only[lookup_cons,hx] at h';exact h'
   rcases g with g|g
   ·exact .inl (mem_cons_of_mem _ g)
   ·exact .inr (mem_cons_of_mem _ g)
theorem xA:∀(l:List (Str×NameKind))(n:Nat)(acc:List (Str×Addr)),cellsFrom n l acc=cellsFrom n l []++acc
 |[],_,_=>rfl
 | (x,k)::r,n,acc=>by
  unfold cellsFrom
  split
  ·rw[xA r (n+1) ((x,n)::acc),xA r (n+1) [(x,n)]];simp
  ·exact xA r n acc
theorem uE:∀(l:List (Str×NameKind))(n:Nat)(x:Str)(c:Addr),(x,c)∈cellsFrom n l []->(x,abm)∈l
 |[],_,_,_,h=>by cases h
 | (y,k)::r,n,x,c,h=>by
  unfold cellsFrom at h
  split at h
  ·rename_i hk
   rw[xA] at h
   rcases mem_append.mp h with h|h
   ·exact mem_cons_of_mem _ (uE r _ x c h)
   ·have e:(x,c)=(y,n):=by simpa using h
    cases e
    rw[abt hk]
    exact mem_cons_self
  ·exact mem_cons_of_mem _ (uE r _ x c h)
theorem zC2{s:Shared}{scope:Scope}{Q:Env->Shared->Prop}(hQ:∀h',h'.Ns s.heap.objs.size (λ_=>none)->(∀b o,s.heap.get? b=some o->h'.get? b=some o)->CellsOk h' (s.heap.objs.size+1) (cellsFrom (s.heap.objs.size+1) scope.names []) ->
   Q (newEnv scope s.heap.objs.size globals (cellsFrom (s.heap.objs.size+1) scope.names closure) qual none .none (some outer) builtinsNs) { s with heap:=h' }) :
  wpAny M A (newFunctionEnv scope globals closure [] qual none .none (some outer)) Q E s:=by
 simp only[newFunctionEnv,ac7,if_true]
 refine aad (wpAny_alloc ?_)
 refine aad (wpAny_layCells _ (λname kind cells=>by cases hkc:kind==abm<;>simp[hkc]) _ _ _ _ ?_)
 have ok:=cellsFrom_ok scope.names (s.heap.push { cls:=.type "dict",data:=.dict #[] }) (s.heap.objs.size+1) [] ⟨λ_ _ hm=>(nomatch hm),Pairwise.nil⟩ (by rw[size_push];exact aag _)
 rw[size_push] at ok
 rw[show({ s with heap:=s.heap.push { cls:=.type "dict",data:=.dict #[] } }:Shared).heap.objs.size=s.heap.objs.size+1 from size_push ..]
 refine aad ?_
 rw[List.forIn_nil]
 exact aae (aae (hQ _ ((Heap.Ns.new s.heap (.type "dict")).keeps (pushCells_keeps _ _)) (λb o e=>pushCells_keeps _ _ b o (get?_push_of_some _ e)) ok))
theorem fV.track(x:fV P w H h)(hn:H a=none)(new:aQ P w (upd H a o) h a o):fV P w (upd H a o) h:=λb u e=>by
 by_cases hb:b=a
 ·subst hb;rw[zK] at e;cases e;exact new
 ·rw[zJ hb] at e
  exact(x b u e).stay (λc v _ q=>q) (λc q=>by rw[zJ (zL q hn)];exact q) λc xs q=>by rw[zJ (zL q hn)];exact q
theorem Un.track(u:Un fs ex H H' h h')(h0:h.get? a=none)(hn:H a=none):Un fs ex H (upd H' a o) h h' where
 keep:=u.keep
 slot:=u.slot
 free:=λb ob q n hx=>by
  rw[zJ (λz=>by rw[z,h0] at q;cases q)];exact u.free b ob q n hx
 there:=u.there
 tups:=λb xs q=>by rw[zJ (zL q hn)];exact u.tups b xs q
 jZ:=λb ob xs q=>by rw[zJ (zL q hn)];exact u.jZ b ob xs q
 lX:=λb ps q=>by rw[zJ (zL q hn)];exact u.lX b ps q
def nIn(N:List Str)(own:List Str)(ix:List Nat):List Str:=own++ix.map λj=>N.getD j adf
def j6(σ:St)(n:Nat)(ix:List Nat):St:=replicate n none++ix.map λj=>(σ[j]?).getD none
def cV(X:Cx)(scope:Scope)(own:List Str)(ix:List Nat)(C:Addr)(s:Shared)(H:Hp)(fp:List Addr):Cx :=
 { X with N:=nIn X.N own ix,s₀:=s,H₀:=H,env:=compEnvC scope (cellsFrom (C+1) scope.names (uM X.env scope.names [])) C X.env,outer:=X.stack,stack:=X.stack,ex:=fp,fn:=λx=>scope.names.lookup x==some .cell,pn:=[] }
def R3(Iv:Scope)(oN:List Str)(scope:Scope)(ix:List Nat):Bool :=
 scope.kind==.function &&
 (scope.names.all λy=>(y.2 != .cell||scope.names.lookup y.1==some .cell)&&(y.2 != .local||scope.names.lookup y.1==some .local)&&(y.2 != .free||(Iv.names.lookup y.1==some .cell||Iv.names.lookup y.1==some .free))) &&
 ix.all λj=>match oN[j]? with
  |some x=>scope.names.lookup x==some .free
  |none=>false
structure iy(Iv:Scope)(oN:List Str)(scope:Scope)(ix:List Nat):Prop where
 kind:scope.kind=.function
 Zm:∀y∈scope.names,y.2=.cell->scope.names.lookup y.1=some .cell
 nm:∀y∈scope.names,y.2=.local->scope.names.lookup y.1=some .local
 fr:∀y∈scope.names,y.2=.free->Iv.names.lookup y.1=some .cell\/Iv.names.lookup y.1=some .free
 ix:∀j∈ix,∃x,oN[j]?=some x/\scope.names.lookup x=some .free
theorem Zn(h:R3 Iv oN scope ix=true):iy Iv oN scope ix:=by
 unfold R3 at h
 rw[aah,aah,all_eq_true,all_eq_true] at h
 obtain⟨⟨h1,h2⟩,h3⟩:=h
 refine⟨abt h1,λy hy e=>?_,λy hy e=>?_,λy hy e=>?_,λj hj=>?_⟩
 ·have q:=h2 y hy
  rw[aah,aah] at q
  rcases aa5 _ _▸q.1.1 with z|z
  ·exact absurd e (bne_iff_ne.mp z)
  ·exact abt z
 ·have q:=h2 y hy
  rw[aah,aah] at q
  rcases aa5 _ _▸q.1.2 with z|z
  ·exact absurd e (bne_iff_ne.mp z)
  ·exact abt z
 ·have q:=h2 y hy
  rw[aah,aah] at q
  rcases aa5 _ _▸q.2 with z|z
  ·exact absurd e (bne_iff_ne.mp z)
  ·rcases aa5 _ _▸z with z|z
   ·exact .inl (abt z)
   ·exact .inr (abt z)
 ·have q:=h3 j hj
  cases e:oN[j]? with
  |none=>rw[e] at q;cases q
  |some x=>rw[e] at q;exact⟨x,rfl,abt q⟩
section
variable{X:Cx}{pins:List (Addr×Obj)}{σ:St}{H:Hp}{s:Shared}{scope:Scope}{own:List Str}{ix:List Nat}
theorem Vo(I:Inv X pins σ H s)(sc:iy X.env.scope X.N scope ix):∀y∈scope.names,y.2=.free->∃c,X.env.cells.lookup y.1=some c:=λy hy e=>by
 rcases sc.fr y hy e with q|q
 ·exact I.ok.has y.1 (.inl q)
 ·exact I.ok.has y.1 (.inr q)
theorem Zo(I:Inv X pins σ H s)(sc:iy X.env.scope X.N scope ix)(e:(uM X.env scope.names []).lookup x=some c):X.env.cells.lookup x=some c:=by
 have h1:=Vl (env:=X.env) scope.names [] (λx c q=>by simp at q) x c e
 rcases Vm (env:=X.env) scope.names [] x c e with q|q
 ·simp at q
 ·obtain⟨c',hc⟩:=Vo I sc (x,.free) q rfl
  have hc':X.env.cells.lookup x=some c':=hc
  rw[hc'] at h1
  rw[hc']
  exact congrArg some h1
theorem zS4(I:Inv X pins σ H s)(sc:iy X.env.scope X.N scope ix)(hx:(x,aau)∈scope.names)(e:X.env.cells.lookup x=some c):(uM X.env scope.names []).lookup x=some c:=by
 have h1:=RZ (env:=X.env) scope.names [] x (.inr hx)
 obtain⟨c',hc⟩:=abn.mp h1
 rw[hc]
 have:=Zo I sc hc
 rw[e] at this
 exact this.symm
theorem vR(I:Inv X pins σ H s)(sc:iy X.env.scope X.N scope ix)(e:(cellsFrom (C+1) scope.names (uM X.env scope.names [])).lookup x=some c):(x,c)∈cellsFrom (C+1) scope.names []\/X.env.cells.lookup x=some c:=by
 rw[xA,lookup_append] at e
 cases h:(cellsFrom (C+1) scope.names []).lookup x with
 |some d=>rw[h] at e;cases e;exact .inl (abf h)
 |none=>rw[h] at e;exact .inr (Zo I sc e)
theorem tL(h:(j6 σ n ix)[i]?=some (some v)):∃j,ix[i-n]?=some j/\σ[j]?=some (some v)/\n<=i:=by
 unfold j6 at h
 by_cases hi:i<n
 ·rw[getElem?_append_left (by simpa using hi),getElem?_replicate] at h
  rw[if_pos hi] at h
  cases h
 ·rw[getElem?_append_right (by simpa using hi),length_replicate,getElem?_map] at h
  cases e:ix[i-n]? with
  |none=>rw[e] at h;cases h
  |some j =>
   rw[e] at h
   have h':(σ[j]?).getD none=some v:=aai h
   refine⟨j,rfl,?_,by omega⟩
   cases e2:σ[j]? with
   |none=>rw[e2] at h';cases h'
   |some o=>rw[e2] at h';exact congrArg some h'
theorem Inv.comp{h₁:Heap}(I:Inv X pins σ H s)(sc:iy X.env.scope X.N scope ix)(fo:∀b∈fp,jP X pins H b)(Od:∀b∈fp,b<s.heap.objs.size)(hC:s.heap.objs.size<=C)(hns:h₁.Ns C m₀)(hk:∀b o,s.heap.get? b=some o->h₁.get? b=some o)(co:CellsOk h₁ (C+1) (cellsFrom (C+1) scope.names [])):Inv (cV X scope own ix C s H fp) [] (j6 σ own.length ix) H { s with heap:=h₁,toks:=t' }:=by
 have lt:∀{b:Addr},b<s.heap.objs.size->b≠C:=λ{b} hb=>aam (aal hb hC)
 have Oe:∀{x:Str}{c:Addr},X.env.cells.lookup x=some c->c<C+1:=λ{x c} e=>by
  obtain⟨v,q⟩:=I.cell x c e
  exact adh (aal q.lt hC)
 have cellK:∀{x:Str}{c:Addr},X.env.cells.lookup x=some c->∀v,s.heap.IsCell c v->h₁.IsCell c v:=λ{x c} _ v ⟨o,ho,hd⟩=>⟨o,hk _ _ ho,hd⟩
 refine⟨⟨I.ok.mod,sc.kind,I.ok.glob,I.ok.blt,hC,λx y c h1 h2=>?_,λx hx=>?_,λx c h e=>by
  have h':scope.names.lookup x=some .cell:=abt h
  have e':(cellsFrom (C+1) scope.names (uM X.env scope.names [])).lookup x=some c:=e
  rw[xA,lookup_append] at e'
  obtain⟨d,hd⟩:=abn.mp (acw scope.names (C+1) [] (.inl h'))
  rw[hd] at e'
  cases e'
  exact aar hC (ad4 (co.empty _ _ (abf hd)).2),I.ok.hd,I.ok.frames,.inl rfl,λb hb=>?_,I.bs,aar I.ok.zy I.sz,λb o e hb=>?_,λb hb z=>?_,I.stack,I.qz⟩,
  rfl,I.bare,Un.kept hk,⟨m₀,hns,λi x v h1 h2 h3=>?_⟩,λx c h=>?_,I.hok.fresh hC,λx c h=>?_,λp hp=>?_,I.hok.kept hk,?_⟩
 ·rcases vR I sc h1 with q1|q1
  ·rcases vR I sc h2 with q2|q2
   ·exact name_of_addr co.apart q1 q2
   ·exact absurd (aal (Oe q2) (co.empty _ _ q1).2) (abk _)
  ·rcases vR I sc h2 with q2|q2
   ·exact absurd (aal (Oe q1) (co.empty _ _ q2).2) (abk _)
   ·exact I.ok.inj x y c q1 q2
 ·have hm:(x,aau)∈scope.names\/(x,abm)∈scope.names:=by
   rcases hx with hx|hx
   ·exact Vn (env:=X.env) (.inl rfl) hx
   ·exact Vn (env:=X.env) (.inr rfl) hx
  refine abn.mp ?_
  show((cellsFrom (C+1) scope.names (uM X.env scope.names [])).lookup x).isSome=true
  rcases hm with hm|hm
  ·exact acw _ _ _ (.inr (RZ (env:=X.env) scope.names [] x (.inr hm)))
  ·exact acw _ _ _ (.inl (sc.Zm _ hm rfl))
 ·obtain⟨f0,f1,f2,f3,f4,f5⟩:=fo b hb
  refine⟨lt (Od b hb),λx c h=>?_⟩
  rcases vR I sc h with q|q
  ·exactλz=>absurd (aal (Od b hb) (aar hC (ad4 (z▸(co.empty _ _ q).2)))) (abk _)
  ·exact f4 x c q
 ·obtain⟨f0,f1,f2,f3,f4,f5⟩:=fo b hb
  rcases f3 with z|z
  ·exact I.ok.sV b o e z
  ·exact absurd (aal (lt_size e) (aar I.ok.zy z)) (abk _)
 ·obtain⟨f0,f1,f2,f3,f4,f5⟩:=fo b hb
  rcases mem_cons.mp (I.m6 b z) with z|z
  ·exact f1 z
  ·exact f2 z
 ·obtain⟨j,hj,hv,hn⟩:=tL h2
  obtain⟨y,hy,hf⟩:=sc.ix j (mem_of_getElem? hj)
  have e:y=x:=by
   have h1':(nIn X.N own ix)[i]?=some x:=h1
   unfold nIn at h1'
   rw[getElem?_append_right hn,getElem?_map,hj] at h1'
   have Og:X.N.getD j adf=x:=aai h1'
   rw[getD_eq_getElem?_getD,hy] at Og
   exact Og
  subst e
  have hm:(y,aau)∈scope.names:=abf hf
  have vis:MN X.env.scope y:=by
   rcases sc.fr _ hm rfl with q|q
   ·exact .inr (.inl q)
   ·exact .inr (.inr q)
  obtain⟨m,_,hl⟩:=I.loc
  obtain⟨u,r,l⟩:=hl j y v hy hv vis
  refine⟨u,r,?_⟩
  rcases l with⟨hk',_⟩|⟨_,c,hc,hcell⟩
  ·have hk'':X.env.scope.names.lookup y=some .local:=hk'
   rcases sc.fr _ hm rfl with q|q
   ·have q':X.env.scope.names.lookup y=some .cell:=q
    rw[hk''] at q';cases q'
   ·have q':X.env.scope.names.lookup y=some .free:=q
    rw[hk''] at q';cases q'
  ·refine .inr ⟨Zk (env:=X.env) hf,c,?_,cellK hc _ hcell⟩
   show(cellsFrom (C+1) scope.names (uM X.env scope.names [])).lookup y=some c
   rw[xA,lookup_append,zS4 I sc hm hc]
   cases e:(cellsFrom (C+1) scope.names []).lookup y with
   |none=>rfl
   |some d =>
    have q:=sc.Zm _ (uE _ _ _ _ (abf e)) rfl
    have q':scope.names.lookup y=some .cell:=q
    rw[hf] at q';cases q'
 ·rcases vR I sc h with q|q
  ·exact⟨_,(co.empty _ _ q).1⟩
  ·obtain⟨v,z⟩:=I.cell x c q
   exact⟨v,cellK q v z⟩
 ·rcases vR I sc h with q|q
  ·exact I.hok.fresh (aar hC (ad4 (co.empty _ _ q).2))
  ·exact I.fW x c q
 ·exact absurd (show p∈([]:List (Addr×Obj)) from hp) (by simp)
 ·show(j6 σ own.length ix).length=(nIn X.N own ix).length
  unfold j6 nIn
  simp
end
def tM(X:Cx)(ifs:List Expr)(t:TT):Prop :=
 ∀(pins:List (Addr×Obj))(s:Shared)(σ:St)(H:Hp)(Q:Bool->Hp->Prop),Inv X pins σ H s->t σ H Q ->
  wpAny (model X.prog X.w) X.A (forIn ifs true λc r=>if r=true then do let ok <-isTrue c X.env (eval c X.env);pure (ab0 ok) else pure (ab0 r)) (TP X pins σ Q) X.xe s
def tQ:TT:=λ_ H Q=>Q true H
theorem wX:tM X [] tQ:=λ_ _ _ H _ I h=>wpAny_tests_nil ⟨H,I,h⟩
theorem R5(h:PT X c t):tM X [c] t:=λpins s σ H Q I q=>wpAny_tests_one (h pins s σ H Q I q)
def R7(n:Nat)(ix:List Nat)(g:TG)(tc:TT)(te:TE)(σ:St)(Q:VK)(J:It)(H1:Hp):Prop :=
 ∃W:Nat->Nat->List V->St->Hp->Prop,(∃m,W 0 m [] (j6 σ n ix) H1)/\∀i m ys σ2 H2,W i m ys σ2 H2 ->
  (J.stop i H2/\ys.length<=sizeLine/\∀p,H2 p=none->Q (.ref p) (upd H2 p (.lst ys))) \/
  (J.go i H2/\ys.length<sizeLine/\∃N:List V->St->Hp->Prop,(∀ys' σ' H',N ys' σ' H'->∃m',m'<m/\W (i+1) m' ys' σ' H') /\
   ∀x H3,J.La i H2 x H3->g x σ2 H3 λσ4 H4=>tc σ4 H4 λb H5=>if b=true then te σ4 H5 λy H6=>N (ys++[y]) σ4 H6 else N ys σ4 H5)
def Oh(n:Nat)(ix:List Nat)(wi:TI)(g:TG)(tc:TT)(te:TE):TE:=λσ H Q=>wi σ H (R7 n ix g tc te σ Q)
def Vp(X:Cx)(pins:List (Addr×Obj))(σ:St)(Q:VK)(acc:Value)(C:Addr)(s':Shared):Prop :=
 ∃p H',acc=.ref p/\Inv X pins σ H' s'/\(∃m,s'.heap.Ns C m)/\jP X pins H' C/\Q (.ref p) H'
theorem Vq{X:Cx}{α:Type}{t:Sem α}{Q Q':α->Shared->Prop}(hx:X.xe=λ_ _=>False)(h:wpAny M A t Q X.xe s)(hQ:∀a s,Q a s->Q' a s):wpAny M A t Q' E s :=
 abj h hQ λe s' z=>by rw[hx] at z;exact z.elim
section
variable{X:Cx}{elt tg iter:Expr}{ifs:List Expr}{scope:Scope}{pos:Pos}{own:List Str}{ix:List Nat}{wi:TI}{g:TG}{tc:TT}{te:TE}
theorem Zq{RR:Value->Addr->Result->Shared->Prop}(hx:X.xe=λ_ _=>False)(hc:X.calm=true)(sc:iy X.env.scope X.N scope ix)(I:Inv X pins σ H s)(T:Turn X.prog X.w X.K tg J fp it tn)(st:tn 0 s.heap)(fo:∀b∈fp,jP X pins H b)(hg:∀C s H fp,PG (cV X scope own ix C s H fp) tg g)(hif:∀C s H fp,tM (cV X scope own ix C s H fp) ifs tc)(he:∀C s H fp,PE (cV X scope own ix C s H fp) elt te)(rd:R7 own.length ix g tc te σ Q J H)(hRR:∀acc C s',Vp X pins σ Q acc C s'->RR acc C (.ok .next) s') :
  wpAny (model X.prog X.w) X.A (newList []) (λacc s₃=>wpAny (model X.prog X.w) X.A (newFunctionEnv scope X.env.globals (uM X.env scope.names []) [] X.env.qual none .none (some X.env)) (λcenv s₄ =>
   codeAny (model X.prog X.w) X.A (.compStart (.ListComp elt [⟨tg,iter,ifs,0⟩] scope pos) 0 (.ref it) acc { cenv with scope:=relabel scope X.env }) (RR acc cenv.locals) s₄) E s₃) E s:=by
 refine ace (zC2 (λh₁ hns₁ hsb₁ co=>?_))
 dsimp only at hns₁ hsb₁ co ⊢
 generalize hD':s.heap.objs.size=D at hns₁ hsb₁ co ⊢
 generalize hH2:s.heap.push { cls:=.type "list",dict:=none,data:=.seq ([]:List Value).toArray }=G at hns₁ hsb₁ co ⊢
 generalize hC':G.objs.size=C at hns₁ hsb₁ co ⊢
 have hC:C=D+1:=by rw[<-hC',<-hH2,size_push,hD']
 have hDC:D≠C:=by rw[hC];exact aam (ach _)
 have hle:s.heap.objs.size<=C:=by rw[hC,hD'];exact abv _
 have old:∀b o,s.heap.get? b=some o->h₁.get? b=some o:=λb o e=>by
  exact hsb₁ b o (hH2▸get?_push_of_some _ e)
 have oD:h₁.get? D=some { cls:=.type "list",data:=.seq ([]:List Value).toArray 0 }:=by
  refine hsb₁ D _ ?_
  rw[<-hH2,<-hD']
  exact get?_push_size _ rfl
 have Od:∀b∈fp,b<s.heap.objs.size:=λb hb=>by
  obtain⟨o,e,_⟩:=T.obj 0 _ st b hb
  exact lt_size e
 have Zr:∀b∈fp,b≠D:=λb hb=>by rw[<-hD'];exact aam (Od b hb)
 have sD:s.heap.get? D=none:=by
  cases e:s.heap.get? D with
  |none=>rfl
  |some o=>exact absurd (lt_size e) (by rw[hD'];exact abk _)
 have Zt:H D=none:=I.hok.fresh (by rw[hD'];exact aag _)
 have I0:Inv (cV X scope own ix C s H fp) [] (j6 σ own.length ix) H { s with heap:=h₁ }:=I.comp sc fo Od hle hns₁ old co
 have st0:tn 0 h₁:=T.keep 0 _ _ st λb _ o e=>old b o e
 have hx':(cV X scope own ix C s H fp).xe=λ_ _=>False:=hx
 have Oi:D≠(cV X scope own ix C s H fp).env.locals:=hDC
 have Dex:D∈(cV X scope own ix C s H fp).ex\/(cV X scope own ix C s H fp).s₀.heap.objs.size<=D:=.inr (by show s.heap.objs.size<=D;rw[hD'];exact aag _)
 have Dfs:D∉(cV X scope own ix C s H fp).fs:=I0.Ho (a:=D) |> λk=>λz=>by
  have z':D∈frs X.stack:=z
  rcases mem_cons.mp (I.m6 D z') with q|q
  ·exact absurd (q▸I.lt) (by rw[hD'];exact abk _)
  ·exact I.Ho (by rw[hD'];exact aag _) q
 have Oj:∀x c,(cV X scope own ix C s H fp).env.cells.lookup x=some c->c≠D:=λx c e z=>by
  rcases vR I sc e with q|q
  ·have w1:=(co.empty _ _ q).2
   rw[z,hC] at w1
   omega
  ·obtain⟨v,q⟩:=I.cell x c q
   exact absurd (aal q.lt (by rw[z,hD'];exact aag _)) (abk _)
 have Vr:∀{H':Hp}{pl:List (Addr×Obj)},(∀b∈fp,H' b=none)->(∀p∈pl,p.1=D)->∀b∈fp,jP (cV X scope own ix C s H fp) pl H' b:=λ{H' pl} hn hp b hb=>by
  obtain⟨f0,f1,f2,f3,f4,f5⟩:=fo b hb
  refine⟨hn b hb,(I0.ok.Ro b hb).1,I0.ok.sW b hb,.inl hb,(I0.ok.Ro b hb).2,λp hp' z=>?_⟩
  rcases mem_append.mp hp' with q|q
  ·exact absurd (show p∈([]:List (Addr×Obj)) from q) (by simp)
  ·exact Zr b hb (by rw[<-z];exact hp p q)
 obtain⟨W,⟨m0,w0⟩,step⟩:=rd
 have loop:codeAny (model X.prog X.w) X.A (.compLoop (.ListComp elt [⟨tg,iter,ifs,0⟩] scope pos) 0 (.ref it) (.ref D) (cV X scope own ix C s H fp).env) (RR (.ref D) C) { s with heap:=h₁ }:=by
  refine zIa (λn s'=>∃i ys σ' H' its k,Inv (cV X scope own ix C s H fp) [] σ' H' s'/\tn i s'.heap/\(∀b∈fp,H' b=none)/\H' D=none/\s'.heap.get? D=some { cls:=.type "list",data:=.seq (toArray its) k }/\Vals ys its/\W i n ys σ' H') ?_ m0
   ⟨0,[],_,H,[],0,I0,st0,λb hb=>(fo b hb).1,Zt,oD,.nil,w0⟩
  rintro n s1 ⟨i,ys,σ1,H1,its,k,I1,Zu,R8,D1,o1,R9,w1⟩
  have J1:Inv (cV X scope own ix C s H fp) [(D,{ cls:=.type "list",data:=.seq (toArray its) k })] σ1 H1 s1:=I1.iU λp hp=>by
   have e:p=(D,{ cls:=.type "list",data:=.seq (toArray its) k }):=by simpa using hp
   subst e
   exact⟨o1,D1,Oi,Dfs,λv z=>by cases z⟩
  have single:∀p∈[((D,{ cls:=.type "list",data:=.seq (toArray its) k }):Addr×Obj)],p.1=D:=λp hp=>by
   have e:p=(D,{ cls:=.type "list",data:=.seq (toArray its) k }):=by simpa using hp
   rw[e]
  rcases step i n ys σ1 H1 w1 with⟨stop,hz,qn⟩|⟨go,hz,N,hN,stp⟩
  ·refine aL (T.done (cV X scope own ix C s H fp) rfl rfl rfl hc i _ s1 σ1 H1 _ J1 (Vr R8 single) Zu stop) λr s2 ⟨hr,I2⟩=>?_
   subst hr
   obtain⟨e2,_⟩:=I2.pin (D,{ cls:=.type "list",data:=.seq (toArray its) k }) (mem_append_right _ (by simp))
   obtain⟨m2,Vs,_⟩:=I2.loc
   refine hRR _ _ _ ⟨D,upd H1 D (.lst ys),rfl,?_,⟨m2,Vs⟩,?_,qn D D1⟩
   ·refine I.call' (ch:=fp) I2.os (Un.track I2.base sD Zt) (I2.hok.track D1 ⟨hz,its,k,R9,e2⟩) I2.bare λb hb=>?_
    obtain⟨f0,f1,f2,f3,f4,f5⟩:=fo b hb
    exact⟨f3,f1,f4,f5⟩
   ·refine I.ji hle ?_
    rw[zJ hDC.symm]
    exact I2.free
  ·refine aL (T.item (cV X scope own ix C s H fp) rfl rfl rfl hc i _ s1 σ1 H1 _ J1 (Vr R8 single) Zu go) λr s2 ⟨u,hr,h2⟩=>?_
   subst hr
   refine aL h2 λ_ s3 ⟨x,H3,I3,rx,y3,Vt,RD⟩=>?_
   have I3':=I3.pinned (Vr RD single) (T.obj _ _ Vt)
   refine Vq hx' (hg C s H fp _ s3 σ1 H3 x u _ I3' rx (stp x H3 y3)) λ_ s4 ⟨σ4,H4,I4,q4⟩=>?_
   refine Vq hx' (hif C s H fp _ s4 σ4 H4 _ I4 q4) λb s5 ⟨H5,I5,q5⟩=>?_
   have back:∀{σ7:St}{H7:Hp}{s7:Shared},Inv (cV X scope own ix C s H fp) ([(D,{ cls:=.type "list",data:=.seq (toArray its) k })]++Fj fp s3.heap) σ7 H7 s7 ->
     tn (i+1) s7.heap/\(∀b∈fp,H7 b=none)/\H7 D=none/\s7.heap.get? D=some { cls:=.type "list",data:=.seq (toArray its) k }:=λ{σ7 H7 s7} I7=>by
    have Ol:=I7.pin (D,{ cls:=.type "list",data:=.seq (toArray its) k }) (mem_append_right _ (mem_append_left _ (by simp)))
    refine⟨T.keep _ _ _ Vt λb hb o e=>(I7.pin (b,o) (mem_append_right _ (mem_append_right _ (wJ hb e)))).1,λb hb=>?_,Ol.2.1,Ol.1⟩
    obtain⟨o,e,d⟩:=T.obj _ _ Vt b hb
    exact(I7.pin (b,o) (mem_append_right _ (mem_append_right _ (wJ hb e)))).2.1
   cases b with
   |false =>
    obtain⟨m',hm,w'⟩:=hN _ _ _ (show N ys σ4 H5 from q5)
    obtain⟨b1,b2,b3,b4⟩:=back I5
    exact⟨m',hm,i+1,ys,σ4,H5,its,k,I5.iU (λp hp=>absurd hp (by simp)),b1,b2,b3,b4,R9,w'⟩
   |true =>
    rw[if_pos rfl]
    refine Vq hx' (he C s H fp _ s5 σ4 H5 _ I5 q5) λv s6 ⟨y,H6,I6,ry,q6⟩=>?_
    obtain⟨m',hm,w'⟩:=hN _ _ _ q6
    obtain⟨b1,b2,b3,b4⟩:=back I6
    have zl:its.length=ys.length:=R9.length.symm
    refine aey F.slot_list_append ⟨_,b4,rfl⟩ F.entry_list_append (F.args_list_append_2 _ _) (PySem.list_append D its.toArray k v (by rw[size_toArray];omega)) ⟨b4,?_⟩
    have q:=PySem.IsL.update b4 (λxs=>xs.push v)
    have keep:∀b o,b≠D->s6.heap.get? b=some o->(s6.heap.update D (acn λxs=>xs.push v)).get? b=some o:=λb o hb e=>(get?_update_other s6.heap _ (ab1 hb)).trans e
    refine⟨m',hm,i+1,ys++[y],σ4,H6,its++[v],(if(its.toArray.push v).size==its.toArray.size then k else k+1),?_,T.keep _ _ _ b1 (λb hb o e=>keep b o (Zr b hb) e),b2,b3,?_,R9.append (.cons ry .nil),w'⟩
    ·exact(I6.iU (Ez:=[]) λp hp=>absurd hp (by simp)).turned (t':=s6.toks) keep b3 Oi Dex Oj λp hp=>absurd (show p∈([]:List (Addr×Obj)) from hp) (by simp)
    ·rw[show(its++[v]).toArray=its.toArray.push v by simp]
     exact q
 exact codeAny_compStart_list loop (T.self X.A 0 _ _ _ st0 loop)
theorem Fz(hx:X.xe=λ_ _=>False)(hc:X.calm=true)(ho:R3 X.env.scope X.N scope ix=true)(hi:PI X tg iter wi)(hg:∀C s H fp,PG (cV X scope own ix C s H fp) tg g)(hif:∀C s H fp,tM (cV X scope own ix C s H fp) ifs tc)(he:∀C s H fp,PE (cV X scope own ix C s H fp) elt te)(hs:∀x,foldedSetIterable iter X.env x=pure x:=by intro _;rfl):PE X (.ListComp elt [⟨tg,iter,ifs,0⟩] scope pos) (Oh own.length ix wi g tc te):=by
 intro pins s σ H Q I h
 have sc:=Zn ho
 rw[eval_ListComp]
 refine wpAny_comprehension_free (use:=none) rfl hs (Zj (Vo I sc)) sc.kind sc.nm (aL (hi pins s σ H _ I h) λv s1 h1=>aL h1 λitv s2 h2=>?_)
 obtain⟨it,fp,tn,J,H2,e,I2,T,st2,f2,rd⟩:=h2
 subst e
 refine Zq (RR:=λacc C=>compPost (model X.prog X.w) X.A X.xe none (EP X pins σ Q) acc C) hx hc sc I2 T st2 f2 hg hif he rd ?_
 rintro acc C s' ⟨p,H',rfl,I',⟨m,hns⟩,fC,q⟩
 obtain⟨f0,f1,f2,f3,f4,f5⟩:=fC
 exact⟨m,hns,λh' hs'=>⟨.ref p,H',I'.turned (t':=s'.toks) (λb o hb e=>(hs'.2 b hb).trans e) f0 f1 f3 f4 f5,rfl,q⟩⟩
theorem FJ{spos:Pos}(hN:X.N.Nodup)(hi':X.N[i]?=some x)(Zv:X.env.scope.names.lookup x=some .local)(hx:X.xe=λ_ _=>False)(hc:X.calm=true)(ho:R3 X.env.scope X.N scope ix=true)(hi:PI X tg iter wi)(hg:∀C s H fp,PG (cV X scope own ix C s H fp) tg g)(hif:∀C s H fp,tM (cV X scope own ix C s H fp) ifs tc)(he:∀C s H fp,PE (cV X scope own ix C s H fp) elt te)(hsw:swapsWith (.ListComp elt [⟨tg,iter,ifs,0⟩] scope pos) (some (.Name x pos')) spos.line X.env=pure true:=by rfl)(hs:∀x,foldedSetIterable iter X.env x=pure x:=by intro _;rfl):PS X (.Assign [.Name x pos'] (.ListComp elt [⟨tg,iter,ifs,0⟩] scope pos) spos) (m7 (Oh own.length ix wi g tc te) (pL i)):=by
 intro pins s σ H D I h
 have sc:=Zn ho
 rw[exec_Assign_Name_used _ _ _ _ hsw]
 refine aad (aes (aad ?_))
 show wpAny _ X.A (do let _ <-comprehension (.ListComp elt [⟨tg,iter,ifs,0⟩] scope pos) scope X.env _ (newList []) false (eval iter X.env) (some (assign (.Name x pos') X.env))) _ _ s
 refine aad (abj (wpAny_comprehension_free (use:=some (assign (.Name x pos') X.env)) (Q:=λ_ s'=>SP X pins D .next s') rfl hs (Zj (Vo I sc)) sc.kind sc.nm
  (aL (hi pins s σ H _ I h) λv s1 h1=>aL h1 λitv s2 h2=>?_)) (λ_ s' hq=>aae (aae hq)) λ_ _ e=>e)
 obtain⟨it,fp,tn,J,H2,e,I2,T,st2,f2,rd⟩:=h2
 subst e
 refine Zq (RR:=λacc C=>compPost (model X.prog X.w) X.A X.xe (some (assign (.Name x pos') X.env)) (λ_ s'=>SP X pins D .next s') acc C) hx hc sc I2 T st2 f2 hg hif he rd ?_
 rintro acc C s' ⟨p,H',rfl,I',⟨m,hns⟩,fC,q⟩
 obtain⟨f0,f1,f2,f3,f4,f5⟩:=fC
 show wpAny _ X.A (assign (.Name x pos') X.env (.ref p)) _ _ _
 refine wpAny_assign_Name (Yk (v:=.ref p) I' hN hi' (.inl Zv) rfl (λs'' I'' ⟨a,hsa,ha⟩=>?_) (.inr Zv))
 have haC:C≠a:=by
  rcases ha with ha|ha
  ·rw[ha];exact f1
  ·exact(f4 x a ha).symm
 exact⟨m,hns.sameBut hsa haC,λh' hs'=>⟨_,H',I''.turned (t':=s''.toks) (λb o hb e=>(hs'.2 b hb).trans e) f0 f1 f3 f4 f5,q⟩⟩
end
section
variable{n:Nat}{ix:List Nat}{g:TG}{tc:TT}{te:TE}{σ:St}{Q:VK}{H:Hp}
theorem zQg{K:PySem.W.Frag}{a:Addr}{xs:List V}(Pv:Nat->List V->St->Hp->Prop)(h0:Pv 0 [] (j6 σ n ix) H)(hl:∀i ys σ H,i<=xs.length->Pv i ys σ H->aV K H a xs/\ys.length<=i)(hz:xs.length<sizeLine)(hs:∀i x ys σ H,xs[i]?=some x->Pv i ys σ H->g x σ H λσ4 H4=>tc σ4 H4 λb H5=>if b=true then te σ4 H5 λy H6=>Pv (i+1) (ys++[y]) σ4 H6 else Pv (i+1) ys σ4 H5)(hd:∀ys σ H,Pv xs.length ys σ H->∀p,H p=none->Q (.ref p) (upd H p (.lst ys))):R7 n ix g tc te σ Q (Lb K a) H:=by
 refine⟨λi m ys σ H=>m=xs.length-i/\i<=xs.length/\Pv i ys σ H,⟨xs.length,by simp,aa0 _,h0⟩,?_⟩
 rintro i m ys σ H ⟨rfl,hi,p⟩
 obtain⟨q,hy⟩:=hl i ys σ H hi p
 by_cases hlt:i<xs.length
 ·refine .inr ⟨⟨xs,xs[i],q,by simp[hlt]⟩,by omega,Pv (i+1),λys' σ' H' p'=>⟨xs.length-(i+1),by omega,rfl,hlt,p'⟩,λx H' y=>?_⟩
  obtain⟨e,y⟩:=y
  subst e
  exact hs i x ys σ _ (y xs q) p
 ·have e:i=xs.length:=by omega
  subst e
  exact .inl ⟨⟨xs,q,aag _⟩,by omega,hd ys σ H p⟩
end
def Ite(K:PySem.W.Frag)(a:Addr):It :=
 ⟨λi H=>∃xs x,aV K H a xs/\xs[i]?=some x,λi H v H'=>∃t x,v=.ref t/\H t=none/\H'=upd H t (.tup [.int i,x])/\∀xs,aV K H a xs->xs[i]?=some x,λi H=>∃xs,aV K H a xs/\xs.length<=i⟩
theorem zNa{P:Program}{w:World}{K:PySem.W.Frag}{elts:List Expr}{k:Nat}{tp:Pos}(a e it:Addr)(hne:e≠it) :
  Turn P w K (.Tuple elts k tp) (Ite K a) [e,it] e (λi h=>(∃old,IsEnum h e it ((i:Nat):Int) old)/\h.IsListIter it a i) where
 mem:=by simp
 obj:=λi h st b hb=>by
  obtain⟨⟨old,he⟩,o,ho,c,d⟩:=st
  have hb':b=e\/b=it:=by simpa using hb
  rcases hb' with rfl|rfl
  ·exact⟨_,he,λv z=>by
    have z':ae5 _=Data.cell v:=z
    cases z'⟩
  ·exact⟨o,ho,λv z=>by rw[d] at z;cases z⟩
 keep:=λi h h' st k=>⟨let⟨old,he⟩:=st.1;⟨old,k e (by simp) _ he⟩,st.2.at λo q=>k it (by simp) o q⟩
 item:=by
  intro X hP hw hK hc i pins s σ H E I hf st hg
  subst hP hw hK
  obtain⟨xs,x,hq,hx⟩:=hg
  obtain⟨its,rv,p,hz⟩:=I.list hq
  obtain⟨u,hu,ru⟩:=rv.get hx
  obtain⟨⟨old,he⟩,hit⟩:=st
  obtain⟨f0,f1,f2,f3,f4,f5⟩:=hf e (by simp)
  obtain⟨g0,g1,g2,g3,g4,g5⟩:=hf it (by simp)
  refine wpAny_pyNext_enum_item he hit p.isList (x:=u) (by simpa using hu) hne λh₁ heo hit₁ ht₁ hz₁ hk₁=>?_
  refine⟨_,rfl,wpAny_letOwnedTupleGo_enum (s:={ s with heap:=h₁,toks:=s.toks+1 }) heo λh₂ he₂ hs₂=>?_⟩
  replace hs₂:SameBut e h₁ h₂:=hs₂
  have hel:e<s.heap.objs.size:=lt_size he
  have nT:H s.heap.objs.size=none:=I.hok.fresh (aag _)
  have ht₂:h₂.get? s.heap.objs.size=some { cls:=.type "tuple",data:=.seq #[.int i s.toks,u] }:=(hs₂.2 _ (ac0 hel)).trans ht₁
  have kk:∀b o,b≠e->b≠it->s.heap.get? b=some o->h₂.get? b=some o:=λb o h1 h2 q=>(hs₂.2 b h1).trans (hk₁ b o h1 h2 q)
  have lt:∀b o,s.heap.get? b=some o->b≠s.heap.objs.size:=λb o q=>aam (lt_size q)
  have there:∀b o,s.heap.get? b=some o->b∉[e,it]->∃o',h₂.get? b=some o':=λb o q hx=>⟨o,kk b o (λz=>hx (by simp[z])) (λz=>hx (by simp[z])) q⟩
  have U:Un (frs X.stack) [e,it] H (upd H s.heap.objs.size (.tup [.int i,x])) s.heap h₂ :=
   ⟨λb o q _ _ hx=>kk b o (λz=>hx (by simp[z])) (λz=>hx (by simp[z])) q,λb o q _ _ hx=>⟨o.slots,kk b o (λz=>hx (by simp[z])) (λz=>hx (by simp[z])) q⟩,
    λb o q n _=>by rw[zJ (lt b o q)];exact n,there,λb ys q=>by rw[zJ (zL q nT)];exact q,λb o ys q=>by rw[zJ (zL q nT)];exact q,λb ps q=>⟨#[],by rw[zJ (zL q nT),q];simp⟩⟩
  have ok:fV X.prog X.w (upd H s.heap.objs.size (.tup [.int i,x])) h₂:=λb o q=>by
   by_cases hb:b=s.heap.objs.size
   ·subst hb
    rw[zK] at q
    cases q
    exact⟨by show 2<=sizeLine;decide,[.int i s.toks,u],.cons ⟨_,rfl⟩ (.cons ru .nil),⟨_,ht₂,rfl,_,rfl⟩⟩
   ·rw[zJ hb] at q
    refine(I.hok b o q).stay (λc v hc' z=>?_) (λc z=>by rw[zJ (zL z nT)];exact z) λc ys z=>by rw[zJ (zL z nT)];exact z
    have hcs:∃o',H c=some o':=by
     rcases hc' with rfl|hc'
     ·exact⟨o,q⟩
     ·exact⟨_,hc'⟩
    obtain⟨o',ho'⟩:=hcs
    exact kk c v (zL ho' f0) (zL ho' g0) z
  have I2:=I.call (h':=h₂) (g':=s.gens) (t':=s.toks+1) (d':=s.drawn) (ch:=[e,it]) U ok I.bare λb hb=>by
   have hb':b=e\/b=it:=by simpa using hb
   rcases hb' with rfl|rfl
   ·exact⟨f3,f1,f4,f5⟩
   ·exact⟨g3,g1,g4,g5⟩
  refine⟨.ref s.heap.objs.size,_,I2,rfl,⟨s.heap.objs.size,x,rfl,nT,rfl,λys hy=>by rw[I.j4 hy hq];exact hx⟩,⟨⟨_,by rw[show((i+1:Nat):Int)=(i:Int)+1 by push_cast;rfl];exact he₂⟩,hit₁.extBut hs₂.extBut hne.symm⟩,λb hb=>?_⟩
  have hb':b=e\/b=it:=by simpa using hb
  obtain⟨o2,ho2,_⟩:=hit
  rcases hb' with rfl|rfl
  ·rw[zJ (aam hel)];exact f0
  ·rw[zJ (aam (lt_size ho2))];exact g0
 done:=by
  intro X hP hw hK hc i pins s σ H E I hf st hg
  subst hP hw hK
  obtain⟨xs,hq,hx⟩:=hg
  obtain⟨its,rv,p,hz⟩:=I.list hq
  obtain⟨⟨old,he⟩,hit⟩:=st
  obtain⟨g0,g1,g2,g3,g4,g5⟩:=hf it (by simp)
  have hl:=rv.length
  exact wpAny_pyNext_enum_end (I.ok.hd hc) he hit p.isList (by simp;omega) λh' eb=>⟨rfl,I.turned (t':=s.toks) (λb o hb e=>eb b o hb e) g0 g1 g3 g4 g5⟩
 self:=λ_ _ _ _ _ st h=>let⟨⟨_,he⟩,_⟩:=st;wpAny_pyIter_enum he h
def tR(K:PySem.W.Frag)(ta:TA):TI:=λσ H R=>ta σ H λvs H1=>∃a,vs=[.ref a]/\(∃xs,aV K H1 a xs)/\R (Ite K a) H1
theorem jT:bootBuiltins "enumerate" = some (.type "enumerate"):=by decide +kernel
theorem Zw(hg:Gl X "enumerate")(hm:X.mg "enumerate" = none)(ha:PA X [a] ta)(hs:starEach [a] X.env=[(false,eval a X.env)]:=by rfl) :
  PI X (.Tuple elts k tp) (.Call (.Name "enumerate" p) [a] [] pos) (tR X.K ta):=by
 intro pins s σ H R I h
 refine Call_ (yh I hg hm jT (aa9 (aL (ha pos pins s σ H _ I h) λus s1 ⟨vs,H1,I1,r1,q1⟩=>?_) hs rfl))
 obtain⟨l,e,⟨xs,hq⟩,q⟩:=q1
 subst e
 cases r1 with
 |cons r rr =>
  cases rr
  cases r
  obtain⟨its,rv,p,hz⟩:=I1.list hq
  refine call_enumerate_list p.isList λh' hE hI hsz hk=>wpAny_pyIter_enum hE ?_
  have I2:Inv X pins σ H1 { s1 with heap:=h',toks:=s1.toks }:=I1.kept hk
  refine⟨s1.heap.objs.size+1,[s1.heap.objs.size+1,s1.heap.objs.size],_,_,H1,rfl,I2,zNa l _ _ (Nat.succ_ne_self _),⟨⟨.none,hE⟩,hI⟩,λb hb=>?_,q⟩
  have hb':b=s1.heap.objs.size+1\/b=s1.heap.objs.size:=by simpa using hb
  rcases hb' with rfl|rfl
  ·exact I1.ji (abv _) (I1.hok.fresh (abv _))
  ·exact I1.ji (aag _) (I1.hok.fresh (aag _))
theorem zSt{K:PySem.W.Frag}{a:Addr}{xs:List V}{g:TG}{tb:TS}{D:Ends}{σ:St}{H:Hp}(Pv:Nat->St->Hp->Prop)(h0:Pv 0 σ H)(hl:∀i σ H,i<=xs.length->Pv i σ H->aV K H a xs)(hs:∀i x t σ H,xs[i]?=some x->H t=none->Pv i σ H->g (.ref t) σ (upd H t (.tup [.int i,x])) λσ2 H2=>tb { D with nx:=Pv (i+1),ct:=Pv (i+1),bk:=D.nx } σ2 H2)(hd:∀σ H,Pv xs.length σ H->D.nx σ H) :
  ∃W:Nat->Nat->St->Hp->Prop,(∃m,W 0 m σ H)/\∀i m σ H,W i m σ H ->
   ((Ite K a).stop i H/\D.nx σ H)\/((Ite K a).go i H/\∃N:St->Hp->Prop,(∀σ' H',N σ' H'->∃m',m'<m/\W (i+1) m' σ' H')/\∀x H',(Ite K a).La i H x H'->g x σ H' λσ2 H2=>tb { D with nx:=N,ct:=N,bk:=D.nx } σ2 H2):=by
 refine⟨λi m σ H=>m=xs.length-i/\i<=xs.length/\Pv i σ H,⟨xs.length,by simp,aa0 _,h0⟩,?_⟩
 rintro i m σ H ⟨rfl,hi,p⟩
 have q:=hl i σ H hi p
 by_cases hlt:i<xs.length
 ·refine .inr ⟨⟨xs,xs[i],q,by simp[hlt]⟩,Pv (i+1),λσ' H' p'=>⟨xs.length-(i+1),by omega,rfl,hlt,p'⟩,λx H' y=>?_⟩
  obtain⟨t,x',rfl,ht,rfl,y⟩:=y
  exact hs i x' t σ H (y xs q) ht p
 ·have e:i=xs.length:=by omega
  subst e
  exact .inl ⟨⟨xs,q,aag _⟩,hd σ H p⟩
def Vu(a:Str)(te:TE):TE:=λσ H Q=>te σ H λx H1=>(∃i,x=.int i/\i.natAbs.log2<1920/\Q (.str (a++adk (toString i))) H1)\/∃z,x=.str z/\z.length<=1000/\Q (.str (a++z)) H1
theorem Zx(x y:Str):(x++y).length=x.length+y.length:=by rw[<-strLen_append]
theorem tV{a:Str}(he:PE X e te)(hl:a.length<=1000):PE X (.JoinedStr [.Constant (.str a) j p1,.FormattedValue e (-1) none p2] pos) (Vu a te):=by
 intro pins s σ H Q I h
 refine JoinedStr_many (joinParts_cons (Calls.Constant_str ?_))
 have e0:(adf++a)=a:=by
  cases a with
  |mk c=>show Str.mk _=_;simp[adf]
 refine⟨by rw[e0];exact aar hl (by decide),?_⟩
 rw[e0]
 have I0:=I.tok (s.toks+1)
 refine joinParts_cons (FormattedValue_plain (aL (he pins _ σ H _ I0 h) λu s1 ⟨x,H1,I1,r1,q1⟩=>?_))
 rcases q1 with⟨i,rfl,hd,q⟩|⟨z,rfl,hz,q⟩
 ·obtain⟨t,rfl⟩:=r1
  refine formatField_int_small hd ?_
  have len:(a++adk (toString i)).length<=sizeLine:=by
   have:=int_text_len_1921 hd
   rw[Zx]
   exact aar (show a.length+(adk (toString i)).length<=4000 by omega) (by decide)
  refine⟨len,joinParts_nil ?_ len⟩
  exact⟨.str (a++adk (toString i)),H1,(I1.tok (s1.toks+1+1)).tok _,⟨_,rfl⟩,q⟩
 ·obtain⟨t,rfl⟩:=r1
  have len:(a++z).length<=sizeLine:=by
   rw[Zx]
   exact aar (show a.length+z.length<=4000 by omega) (by decide)
  refine formatField_str (λt' tk=>?_) (aar hz (by decide))
  refine⟨len,joinParts_nil ?_ len⟩
  exact⟨.str (a++z),H1,(I1.tok tk).tok _,⟨_,rfl⟩,q⟩
def Bb(K:PySem.W.Frag)(c:Value):List V->Hp->VK->Prop:=λxs H Q=>∃x y t b,xs=[x,y]/\RelV y c/\iV K H x t/\kitOne K t c=some b/\Q (.bl b) H
theorem zS7(hc:∀y u,RelV y c->RelV y u->u=c):sH X (.builtin "isinstance") (Bb X.K c):=by
 intro pins s σ H xs us Q I r h
 obtain⟨x,y,t,b,rfl,ry,ty,e,q⟩:=h
 obtain⟨u,v,rfl,ru,rv⟩:=r.two
 obtain rfl:=hc y v ry rv
 exact zO9 I ru ty e λtk=>⟨.bl b,H,I.tok tk,rfl,q⟩
theorem Lg:∀y u,RelV y (.type n)->RelV y u->u=.type n:=λy u h1 h2=>by
 cases y<;>first
  | (cases h1;done)
  | (obtain⟨_,e⟩:=h1;cases e;done)
  | (cases h1;cases h2;rfl)
theorem Om:∀y u,RelV y (.ref a)->RelV y u->u=.ref a:=λy u h1 h2=>by
 cases y<;>first
  | (cases h1;done)
  | (obtain⟨_,e⟩:=h1;cases e;done)
  | (cases h1;cases h2;rfl)
theorem zSe{σ:St}{A B:St->Hp->Prop}(h:A (σ.set i (some x)) H):pL i x σ H (λσ4 H4=>tQ σ4 H4 λb H5=>if b=true then A σ4 H5 else B σ4 H5):=by
 show if true=true then A (σ.set i (some x)) H else B (σ.set i (some x)) H
 rw[if_pos rfl]
 exact h
theorem Zy{X:Cx}{K:PySem.W.Frag}(h:X.K=K){es:List Expr}{k:Nat}{t:K9}{n:Nat}{pos:Pos}(hc:X.calm=true)(ht:Ni X es t)(hn:(assignEach es X.env).length=n:=by rfl)(hst:(assignEach es X.env).findIdx? (·.1)=none:=by rfl):PG X (.Tuple es k pos) (Hx K n t):=by
 subst h
 exact K_ hc ht hn hst
end L2
namespace Ts
open PySem L2
theorem aJ(h:H p=none)(o:HO):Same H (upd H p o):=λb u q=>by rw[zJ (zL q h)];exact q
theorem _root_.L2.Same.put(s:Same H H')(h:H p=none)(o:HO):Same H (upd H' p o):=λb u q=>by rw[zJ (zL q h)];exact s b u q
def A2{α β:Type}(R:α->β->Prop):List α->List β->Prop
 |[],[]=>True
 |x::xs,y::ys=>R x y/\A2 R xs ys
 |_,_=>False
section
variable{α β:Type}{R R':α->β->Prop}
theorem A2.len:∀{xs:List α}{ys:List β},A2 R xs ys->xs.length=ys.length
 |[],[],_=>rfl
 |_::_,_::_,h=>congrArg (· + 1) (A2.len h.2)
 |[],_::_,h=>h.elim
 |_::_,[],h=>h.elim
theorem A2.imp(f:∀x y,R x y->R' x y):∀{xs:List α}{ys:List β},A2 R xs ys->A2 R' xs ys
 |[],[],_=>trivial
 |_::_,_::_,h=>⟨f _ _ h.1,A2.imp f h.2⟩
 |[],_::_,h=>h.elim
 |_::_,[],h=>h.elim
theorem A2.app:∀{xs:List α}{ys:List β}{xs':List α}{ys':List β},A2 R xs ys->A2 R xs' ys'->A2 R (xs++xs') (ys++ys')
 |[],[],_,_,_,h=>h
 |_::_,_::_,_,_,h,h'=>⟨h.1,A2.app h.2 h'⟩
 |[],_::_,_,_,h,_=>h.elim
 |_::_,[],_,_,h,_=>h.elim
theorem A2.snoc(h:A2 R xs ys)(r:R x y):A2 R (xs++[x]) (ys++[y]):=h.app ⟨r,trivial⟩
theorem A2.at1:∀{xs:List α}{ys:List β}{i:Nat}{x:α},A2 R xs ys->xs[i]?=some x->∃y,ys[i]?=some y/\R x y
 |[],_,_,_,_,e=>by simp at e
 |_::_,_::_,0,_,h,e=>by simp at e;subst e;exact⟨_,rfl,h.1⟩
 |_::_,_::_,i+1,_,h,e=>by
  obtain⟨y,h1,h2⟩:=A2.at1 (i:=i) h.2 (by simpa using e)
  exact⟨y,by simpa using h1,h2⟩
 |_::_,[],_,_,h,_=>h.elim
theorem A2.at2:∀{xs:List α}{ys:List β}{i:Nat}{y:β},A2 R xs ys->ys[i]?=some y->∃x,xs[i]?=some x/\R x y
 |_,[],_,_,_,e=>by simp at e
 |_::_,_::_,0,_,h,e=>by simp at e;subst e;exact⟨_,rfl,h.1⟩
 |_::_,_::_,i+1,_,h,e=>by
  obtain⟨y,h1,h2⟩:=A2.at2 (i:=i) h.2 (by simpa using e)
  exact⟨y,by simpa using h1,h2⟩
 |[],_::_,_,_,h,_=>h.elim
theorem A2.set(r:R x y):∀{xs:List α}{ys:List β}(i:Nat),A2 R xs ys->A2 R (xs.set i x) (ys.set i y)
 |[],[],_,_=>trivial
 |_::_,_::_,0,h=>⟨r,h.2⟩
 |_::_,_::_,i+1,h=>⟨h.1,A2.set r i h.2⟩
 |[],_::_,_,h=>h.elim
 |_::_,[],_,h=>h.elim
theorem A2.rev:∀{xs:List α}{ys:List β},A2 R xs ys->A2 R xs.reverse ys.reverse
 |[],[],_=>trivial
 |_::_,_::_,h=>by
  rw[reverse_cons,reverse_cons]
  exact(A2.rev h.2).snoc h.1
 |[],_::_,h=>h.elim
 |_::_,[],h=>h.elim
theorem A2.tk:∀{xs:List α}{ys:List β}(i:Nat),A2 R xs ys->A2 R (xs.take i) (ys.take i)
 |[],[],_,_=>by simp[A2]
 |_::_,_::_,0,h=>trivial
 |_::_,_::_,i+1,h=>⟨h.1,A2.tk i h.2⟩
 |[],_::_,_,h=>h.elim
 |_::_,[],_,h=>h.elim
theorem A2.dr:∀{xs:List α}{ys:List β}(i:Nat),A2 R xs ys->A2 R (xs.drop i) (ys.drop i)
 |[],[],_,_=>by simp[A2]
 |_::_,_::_,0,h=>h
 |_::_,_::_,i+1,h=>A2.dr i h.2
 |[],_::_,_,h=>h.elim
 |_::_,[],_,h=>h.elim
theorem A2.of_map{f:β->α}(h:∀y,R (f y) y):∀ys:List β,A2 R (ys.map f) ys
 |[]=>trivial
 |y::ys=>⟨h y,A2.of_map h ys⟩
end
theorem A2.pQ{α β:Type}{f:β->α}:∀{xs:List α}{ys:List β},A2 (λx y=>x=f y) xs ys->xs=ys.map f
 |[],[],_=>rfl
 |_::_,_::_,h=>by rw[map_cons,h.1,A2.pQ h.2]
 |[],_::_,h=>h.elim
 |_::_,[],h=>h.elim
class Rp (K:PySem.W.Frag) (α:Type) where
 rp:Hp->V->α->Prop
 mono:∀{F F':Hp}{v:V}{a:α},Same F F'->rp F v a->rp F' v a
abbrev rp(K:PySem.W.Frag){α:Type}[Rp K α]:Hp->V->α->Prop:=Rp.rp (K:=K)
class Nn (K:PySem.W.Frag) (α:Type) [Rp K α]:Prop where
 nn:∀{F:Hp}{v:V}{a:α},rp K F v a->v≠.non
class Sc (K:PySem.W.Frag) (α:Type) [Rp K α] where
 val:α->V
 is:∀{F:Hp}{v:V}{a:α},rp K F v a↔v=val a
 inj:∀{a b:α},val a=val b->a=b
section
variable{K:PySem.W.Frag}
instance:Rp K Int:=⟨λ_ v n=>v=.int n,λ_ h=>h⟩
instance:Rp K Bool:=⟨λ_ v n=>v=.bl n,λ_ h=>h⟩
instance:Rp K Str:=⟨λ_ v n=>v=.str n,λ_ h=>h⟩
instance:Rp K Unit:=⟨λ_ v _=>v=.non,λ_ h=>h⟩
instance{α:Type}[Rp K α]:Rp K (Option α):=⟨λF v a=>match a with
 |none=>v=.non
 |some x=>v≠.non/\rp K F v x,λ{F F' v a} s h=>match a,h with
 |none,h=>h
 |some x,h=>⟨h.1,Rp.mono s h.2⟩⟩
instance{α:Type}[Rp K α]:Rp K (List α):=⟨λF v xs=>∃p vs,v=.ref p/\F p=some (.lst vs)/\A2 (rp K F) vs xs,λs ⟨p,vs,h1,h2,h3⟩=>⟨p,vs,h1,s _ _ h2,h3.imp λ_ _=>Rp.mono s⟩⟩
instance{α β:Type}[Rp K α][Rp K β]:Rp K (α×β):=⟨λF v x=>∃p a b,v=.ref p/\F p=some (.tup [a,b])/\rp K F a x.1/\rp K F b x.2,λs ⟨p,a,b,h1,h2,h3,h4⟩=>⟨p,a,b,h1,s _ _ h2,Rp.mono s h3,Rp.mono s h4⟩⟩
structure Oo where
 ns:LI
instance:Rp K Oo:=⟨λF v x=>∃p,v=.ref p/\aV K F p (x.ns.map V.int),λs ⟨p,h1,h2⟩=>⟨p,h1,s.seq h2⟩⟩
instance:Nn K Int:=⟨λh=>by cases h;intro e;cases e⟩
instance:Nn K Bool:=⟨λh=>by cases h;intro e;cases e⟩
instance:Nn K Str:=⟨λh=>by cases h;intro e;cases e⟩
instance{α:Type}[Rp K α]:Nn K (List α):=⟨λ⟨_,_,h,_⟩=>by rw[h];intro e;cases e⟩
instance{α β:Type}[Rp K α][Rp K β]:Nn K (α×β):=⟨λ⟨_,_,_,h,_⟩=>by rw[h];intro e;cases e⟩
instance:Sc K Int:=⟨V.int,ae1,λh=>by cases h;rfl⟩
instance:Sc K Bool:=⟨V.bl,ae1,λh=>by cases h;rfl⟩
instance:Sc K Str:=⟨V.str,ae1,λh=>by cases h;rfl⟩
instance{α:Type}[Rp K α][Sc K α][Nn K α]:Sc K (Option α):=⟨λa=>match a with
 |none=>.non
 |some x=>Sc.val K x,λ{F v a}=>match a with
 |none=>ae1
 |some x=>⟨λh=>Sc.is.mp h.2,λh=>⟨Nn.nn (K:=K) (F:=F) (a:=x) (Sc.is.mpr h),Sc.is.mpr h⟩⟩,λ{a b} h=>match a,b,h with
 |none,none,_=>rfl
 |some x,some y,h=>by rw[Sc.inj (K:=K) (a:=x) (b:=y) h]
 |none,some y,h=>absurd h.symm (Nn.nn (K:=K) (F:=λ_=>none) (a:=y) (Sc.is.mpr rfl))
 |some x,none,h=>absurd h (Nn.nn (K:=K) (F:=λ_=>none) (a:=x) (Sc.is.mpr rfl))⟩
theorem R_{α:Type}[Rp K α][Sc K α]{a:α}(h:rp K F v a):rp K F' v a:=Sc.is.mpr (Sc.is.mp h)
inductive Md|nw|fz|hp
def dif(H H0:Hp):Hp:=λb=>match H0 b with
 |none=>H b
 |some _=>none
def ext(Fa H0 H:Hp):Hp:=λb=>match H0 b with
 |none=>H b
 |some _=>Fa b
structure Bs where
 Fa:Hp
 H0:Hp
abbrev Own:=List (Addr×HO)
def reg(B:Bs)(F H:Hp):Md->Hp
 |.nw=>dif F B.H0
 |.fz=>F
 |.hp=>H
theorem aP:Same (dif H H0) H:=λb o h=>by
 unfold dif at h
 cases e:H0 b with
 |none=>rw[e] at h;exact h
 |some u=>rw[e] at h;cases h
theorem wZ(h:H0 b=none):dif H H0 b=H b:=by
 unfold dif
 rw[h]
theorem xG(s:Same H H'):Same (dif H H0) (dif H' H0):=λb o h=>by
 unfold dif at h ⊢
 cases e:H0 b with
 |none=>rw[e] at h;exact s b o h
 |some u=>rw[e] at h;cases h
structure Ok(B:Bs)(F:Hp)(O:Own)(H:Hp):Prop where
 fh:Same F H
 h0:Same B.H0 H
 fa:∀b o,F b=some o->B.Fa b=some o\/B.H0 b=none
 fo:∀x∈O,F x.1=none/\B.H0 x.1=none/\H x.1=some x.2
 nd:(O.map (·.1)).Nodup
structure aR(B:Bs)(F H:Hp)(O:Own)(F' H':Hp):Prop where
 ff:Same F F'
 hh:Same H H'
 ok:Ok B F' O H'
 nw:∀b,F b=none->H b≠none->F' b=none
section
variable{B:Bs}{F H F' H' F2 H2:Hp}{O:Own}
theorem aR.refl(k:Ok B F O H):aR B F H O F H:=⟨.refl _,.refl _,k,λ_ h _=>h⟩
theorem aR.trans(a:aR B F H O F' H')(b:aR B F' H' O F2 H2):aR B F H O F2 H2 :=
 ⟨a.ff.trans b.ff,a.hh.trans b.hh,b.ok,λq h1 h2=>b.nw q (a.nw q h1 h2) λe=>h2 (a.hh.free e)⟩
theorem aR.new(k:Ok B F O H)(h:H p=none)(o:HO):aR B F H O (upd F p o) (upd H p o):=by
 have fp:=k.fh.free h
 refine⟨aJ fp o,aJ h o,⟨λb u e=>?_,k.h0.put (k.h0.free h) o,λb u e=>?_,λx hx=>?_,k.nd⟩,λb h1 h2=>?_⟩
 ·by_cases q:b=p
  ·subst q;rw[zK] at e ⊢;exact e
  ·rw[zJ q] at e ⊢;exact k.fh b u e
 ·by_cases q:b=p
  ·subst q;exact .inr (k.h0.free h)
  ·rw[zJ q] at e;exact k.fa b u e
 ·obtain⟨a1,a2,a3⟩:=k.fo x hx
  have q:x.1≠p:=zL a3 h
  exact⟨by rw[zJ q];exact a1,a2,by rw[zJ q];exact a3⟩
 ·rw[zJ λe=>h2 (by rw[e];exact h)];exact h1
theorem yD(g:aR B F H O F' H')(md:Md):Same (reg B F H md) (reg B F' H' md):=match md with
 |.nw=>xG g.ff
 |.fz=>g.ff
 |.hp=>g.hh
end
inductive Slot(K:PySem.W.Frag):Type 1
 |un
 |fz (n:Bool) {α:Type} [Rp K α] (a:α)
 |hs {α:Type} [Rp K α] (a:α)
 |nu {α:Type} [Rp K α] (a:α)
 |ow (n:Bool) {α:Type} [Rp K α] (xs:List α)
 |od {α:Type} [Rp K α] (kvs:List (Key×α))
abbrev SL(K:PySem.W.Frag):=List (Slot K)
abbrev iz:Bool->Md
 |true=>.nw
 |false=>.fz
def lo(F:Hp)(O:Own)(H:Hp):Hp:=λb=>if(F b).isSome||(O.any λx=>x.1==b) then none else H b
inductive ak(B:Bs)(F L H:Hp):SL K->St->Own->Prop
 |nil:ak B F L H [] [] []
 |un {sl:SL K} {σ:St} {O:Own} {x:Option V}:ak B F L H sl σ O->ak B F L H (.un::sl) (x::σ) O
 |fz {n:Bool} {α:Type} [Rp K α] {a:α} {sl:SL K} {σ:St} {O:Own} {v:V}:rp K (reg B F H (iz n)) v a->ak B F L H sl σ O->ak B F L H (.fz n a::sl) (some v::σ) O
 |hs {α:Type} [Rp K α] {a:α} {sl:SL K} {σ:St} {O:Own} {v:V}:rp K H v a->ak B F L H sl σ O->ak B F L H (.hs a::sl) (some v::σ) O
 |nu {α:Type} [Rp K α] {a:α} {sl:SL K} {σ:St} {O:Own} {v:V}:rp K (dif L B.H0) v a->ak B F L H sl σ O->ak B F L H (.nu a::sl) (some v::σ) O
 |ow {n:Bool} {α:Type} [Rp K α] {xs:List α} {sl:SL K} {σ:St} {O:Own} {p:Addr} {vs:List V}:A2 (rp K (reg B F H (iz n))) vs xs->ak B F L H sl σ O->ak B F L H (.ow n xs::sl) (some (.ref p)::σ) ((p,.lst vs)::O)
 |od {α:Type} [Rp K α] {kvs:List (Key×α)} {sl:SL K} {σ:St} {O:Own} {p:Addr} {ks:List (Key×V)}:A2 (λ(x:Key×V) (y:Key×α)=>x.1=y.1/\rp K F x.2 y.2) ks kvs->ak B F L H sl σ O->ak B F L H (.od kvs::sl) (some (.ref p)::σ) ((p,.dK ks)::O)
def At(B:Bs)(sl:SL K)(F:Hp)(O:Own)(H:Hp)(σ:St):Prop:=Ok B F O H/\ak B F (lo F O H) H sl σ O
abbrev jU:Slot K->Bool
 |@Slot.ow _ _ _ _ _=>true
 |@Slot.od _ _ _ _=>true
 |_=>false
abbrev b_:Slot K->Bool
 |@Slot.hs _ _ _ _=>true
 |_=>false
section
variable{B:Bs}{F H F' H' L L':Hp}{O O':Own}{sl:SL K}{σ:St}
theorem wW(n:Bool)(hF:Same F F'):Same (reg B F H (iz n)) (reg B F' H' (iz n)):=match n with
 |true=>xG hF
 |false=>hF
theorem ak.mono(hF:Same F F')(hL:Same L L')(hH:Same H H')(h:ak B F L H sl σ O):ak B F' L' H' sl σ O:=by
 induction h with
 |nil=>exact .nil
 |un _ ih=>exact .un ih
 |fz r _ ih=>exact .fz (Rp.mono (wW _ hF) r) ih
 |hs r _ ih=>exact .hs (Rp.mono hH r) ih
 |nu r _ ih=>exact .nu (Rp.mono (xG hL) r) ih
 |ow r _ ih=>exact .ow (r.imp λ_ _=>Rp.mono (wW _ hF)) ih
 |od r _ ih=>exact .od (r.imp λ_ _ z=>⟨z.1,Rp.mono hF z.2⟩) ih
theorem ak.mut(hL:Same L L')(h:ak B F L H sl σ O)(hn:sl.all (λs=>!b_ s)=true):ak B F L' H' sl σ O:=by
 induction h with
 |nil=>exact .nil
 |un _ ih=>exact .un (ih (by rw[all_cons,aah] at hn;exact hn.2))
 |fz r _ ih=>exact .fz (Rp.mono (wW _ (.refl _)) r) (ih (by rw[all_cons,aah] at hn;exact hn.2))
 |hs r _ ih=>rw[all_cons,aah] at hn;exact absurd hn.1 (by simp)
 |nu r _ ih=>exact .nu (Rp.mono (xG hL) r) (ih (by rw[all_cons,aah] at hn;exact hn.2))
 |ow r _ ih=>exact .ow (r.imp λ_ _=>Rp.mono (wW _ (.refl _))) (ih (by rw[all_cons,aah] at hn;exact hn.2))
 |od r _ ih=>exact .od r (ih (by rw[all_cons,aah] at hn;exact hn.2))
theorem Zz(g:aR B F H O F' H'):Same (lo F O H) (lo F' O H'):=λb o h=>by
 unfold lo at h ⊢
 cases e:(F b).isSome||(O.any λx=>x.1==b) with
 |true=>rw[e] at h;cases h
 |false =>
  rw[e] at h
  have hb:H b=some o:=h
  rw[Bool.or_eq_false_iff] at e
  have f':F' b=none:=g.nw b (by cases q:F b with|none=>rfl|some u=>rw[q] at e;cases e.1) (by rw[hb];intro z;cases z)
  rw[f',e.2]
  exact g.hh b o hb
theorem At.grow(h:At B sl F O H σ)(g:aR B F H O F' H'):At B sl F' O H' σ:=⟨g.ok,h.2.mono g.ff (Zz g) g.hh⟩
theorem ak.qF{α:Type}[Rp K α]{a:α}(h:ak B F L H sl σ O):∀{i:Nat},sl[i]?=some (.fz n a)->∃v,σ[i]?=some (some v)/\rp K (reg B F H (iz n)) v a:=by
 induction h with
 |nil=>intro i e;simp at e
 |fz r _ ih =>
  intro i e
  cases i with
  |zero=>simp only[getElem?_cons_zero] at e;cases e;exact⟨_,rfl,r⟩
  |succ i=>exact ih (by simpa using e)
 |_ =>
  rename_i ih
  intro i e
  cases i with
  |zero=>simp only[getElem?_cons_zero] at e;cases e
  |succ i=>exact ih (by simpa using e)
theorem ak.Oq{α:Type}[Rp K α]{a:α}(h:ak B F L H sl σ O):∀{i:Nat},sl[i]?=some (.hs a)->∃v,σ[i]?=some (some v)/\rp K H v a:=by
 induction h with
 |nil=>intro i e;simp at e
 |hs r _ ih =>
  intro i e
  cases i with
  |zero=>simp only[getElem?_cons_zero] at e;cases e;exact⟨_,rfl,r⟩
  |succ i=>exact ih (by simpa using e)
 |_ =>
  rename_i ih
  intro i e
  cases i with
  |zero=>simp only[getElem?_cons_zero] at e;cases e
  |succ i=>exact ih (by simpa using e)
theorem ak.FN{α:Type}[Rp K α]{a:α}(h:ak B F L H sl σ O):∀{i:Nat},sl[i]?=some (.nu a)->∃v,σ[i]?=some (some v)/\rp K (dif L B.H0) v a:=by
 induction h with
 |nil=>intro i e;simp at e
 |nu r _ ih =>
  intro i e
  cases i with
  |zero=>simp only[getElem?_cons_zero] at e;cases e;exact⟨_,rfl,r⟩
  |succ i=>exact ih (by simpa using e)
 |_ =>
  rename_i ih
  intro i e
  cases i with
  |zero=>simp only[getElem?_cons_zero] at e;cases e
  |succ i=>exact ih (by simpa using e)
theorem ak.put(h:ak B F L H sl σ O)(new:∀(sl:SL K) (σ:St) (O:Own),ak B F L H sl σ O->ak B F L H (s'::sl) (x::σ) O):∀{i:Nat},sl[i]?=some s->jU s=false->ak B F L H (sl.set i s') (σ.set i x) O:=by
 induction h with
 |nil=>intro i e;simp at e
 |un g ih =>
  intro i e o
  cases i with
  |zero=>exact new _ _ _ g
  |succ i=>exact .un (ih (by simpa using e) o)
 |fz r g ih =>
  intro i e o
  cases i with
  |zero=>exact new _ _ _ g
  |succ i=>exact .fz r (ih (by simpa using e) o)
 |hs r g ih =>
  intro i e o
  cases i with
  |zero=>exact new _ _ _ g
  |succ i=>exact .hs r (ih (by simpa using e) o)
 |nu r g ih =>
  intro i e o
  cases i with
  |zero=>exact new _ _ _ g
  |succ i=>exact .nu r (ih (by simpa using e) o)
 |ow r g ih =>
  intro i e o
  cases i with
  |zero=>simp only[getElem?_cons_zero] at e;cases e;cases o
  |succ i=>exact .ow r (ih (by simpa using e) o)
 |od r g ih =>
  intro i e o
  cases i with
  |zero=>simp only[getElem?_cons_zero] at e;cases e;cases o
  |succ i=>exact .od r (ih (by simpa using e) o)
theorem ak.own(h:ak B F L H sl σ O)(new:∀(sl:SL K) (σ:St) (O:Own),ak B F L H sl σ O->ak B F L H (s'::sl) (x::σ) (c::O)) :
  ∀{i:Nat},sl[i]?=some s->jU s=false->∃O1 O2,O=O1++O2/\ak B F L H (sl.set i s') (σ.set i x) (O1++c::O2):=by
 induction h with
 |nil=>intro i e;simp at e
 |un g ih =>
  intro i e o
  cases i with
  |zero=>exact⟨[],_,rfl,new _ _ _ g⟩
  |succ i=>obtain⟨O1,O2,q,z⟩:=ih (by simpa using e) o;exact⟨O1,O2,q,.un z⟩
 |fz r g ih =>
  intro i e o
  cases i with
  |zero=>exact⟨[],_,rfl,new _ _ _ g⟩
  |succ i=>obtain⟨O1,O2,q,z⟩:=ih (by simpa using e) o;exact⟨O1,O2,q,.fz r z⟩
 |hs r g ih =>
  intro i e o
  cases i with
  |zero=>exact⟨[],_,rfl,new _ _ _ g⟩
  |succ i=>obtain⟨O1,O2,q,z⟩:=ih (by simpa using e) o;exact⟨O1,O2,q,.hs r z⟩
 |nu r g ih =>
  intro i e o
  cases i with
  |zero=>exact⟨[],_,rfl,new _ _ _ g⟩
  |succ i=>obtain⟨O1,O2,q,z⟩:=ih (by simpa using e) o;exact⟨O1,O2,q,.nu r z⟩
 |ow r g ih =>
  intro i e o
  cases i with
  |zero=>simp only[getElem?_cons_zero] at e;cases e;cases o
  |succ i=>obtain⟨O1,O2,q,z⟩:=ih (by simpa using e) o;exact⟨_::O1,O2,by rw[q]<;>rfl,.ow r z⟩
 |od r g ih =>
  intro i e o
  cases i with
  |zero=>simp only[getElem?_cons_zero] at e;cases e;cases o
  |succ i=>obtain⟨O1,O2,q,z⟩:=ih (by simpa using e) o;exact⟨_::O1,O2,by rw[q]<;>rfl,.od r z⟩
theorem ak.jK{α:Type}[Rp K α]{xs:List α}(h:ak B F L H sl σ O):∀{i:Nat},sl[i]?=some (.ow n xs) ->
  ∃O1 O2 p vs,O=O1++(p,.lst vs)::O2/\σ[i]?=some (some (.ref p))/\A2 (rp K (reg B F H (iz n))) vs xs /\
   (∀(s':Slot K)(x:Option V)(c:Addr×HO),(∀(sl:SL K)(σ:St)(O:Own),ak B F L H sl σ O->ak B F L H (s'::sl) (x::σ) (c::O))->ak B F L H (sl.set i s') (σ.set i x) (O1++c::O2)) /\
   (∀(s':Slot K)(x:Option V),(∀(sl:SL K)(σ:St)(O:Own),ak B F L H sl σ O->ak B F L H (s'::sl) (x::σ) O)->ak B F L H (sl.set i s') (σ.set i x) (O1++O2)):=by
 induction h with
 |nil=>intro i e;simp at e
 |un g ih =>
  intro i e
  cases i with
  |zero=>simp only[getElem?_cons_zero] at e;cases e
  |succ i=>obtain⟨O1,O2,p,vs,q,h1,h2,h3,h4⟩:=ih (by simpa using e);exact⟨O1,O2,p,vs,q,h1,h2,λs' x c z=>.un (h3 s' x c z),λs' x z=>.un (h4 s' x z)⟩
 |fz r g ih =>
  intro i e
  cases i with
  |zero=>simp only[getElem?_cons_zero] at e;cases e
  |succ i=>obtain⟨O1,O2,p,vs,q,h1,h2,h3,h4⟩:=ih (by simpa using e);exact⟨O1,O2,p,vs,q,h1,h2,λs' x c z=>.fz r (h3 s' x c z),λs' x z=>.fz r (h4 s' x z)⟩
 |hs r g ih =>
  intro i e
  cases i with
  |zero=>simp only[getElem?_cons_zero] at e;cases e
  |succ i=>obtain⟨O1,O2,p,vs,q,h1,h2,h3,h4⟩:=ih (by simpa using e);exact⟨O1,O2,p,vs,q,h1,h2,λs' x c z=>.hs r (h3 s' x c z),λs' x z=>.hs r (h4 s' x z)⟩
 |nu r g ih =>
  intro i e
  cases i with
  |zero=>simp only[getElem?_cons_zero] at e;cases e
  |succ i=>obtain⟨O1,O2,p,vs,q,h1,h2,h3,h4⟩:=ih (by simpa using e);exact⟨O1,O2,p,vs,q,h1,h2,λs' x c z=>.nu r (h3 s' x c z),λs' x z=>.nu r (h4 s' x z)⟩
 |ow r g ih =>
  intro i e
  cases i with
  |zero=>simp only[getElem?_cons_zero] at e;cases e;exact⟨[],_,_,_,rfl,rfl,r,λs' x c z=>z _ _ _ g,λs' x z=>z _ _ _ g⟩
  |succ i=>obtain⟨O1,O2,p,vs,q,h1,h2,h3,h4⟩:=ih (by simpa using e);exact⟨_::O1,O2,p,vs,by rw[q]<;>rfl,h1,h2,λs' x c z=>.ow r (h3 s' x c z),λs' x z=>.ow r (h4 s' x z)⟩
 |od r g ih =>
  intro i e
  cases i with
  |zero=>simp only[getElem?_cons_zero] at e;cases e
  |succ i=>obtain⟨O1,O2,p,vs,q,h1,h2,h3,h4⟩:=ih (by simpa using e);exact⟨_::O1,O2,p,vs,by rw[q]<;>rfl,h1,h2,λs' x c z=>.od r (h3 s' x c z),λs' x z=>.od r (h4 s' x z)⟩
theorem ak.tW{α:Type}[Rp K α]{kvs:List (Key×α)}(h:ak B F L H sl σ O):∀{i:Nat},sl[i]?=some (.od kvs) ->
  ∃O1 O2 p ks,O=O1++(p,.dK ks)::O2/\σ[i]?=some (some (.ref p))/\A2 (λ(x:Key×V) (y:Key×α)=>x.1=y.1/\rp K F x.2 y.2) ks kvs /\
   (∀(s':Slot K)(x:Option V)(c:Addr×HO),(∀(sl:SL K)(σ:St)(O:Own),ak B F L H sl σ O->ak B F L H (s'::sl) (x::σ) (c::O))->ak B F L H (sl.set i s') (σ.set i x) (O1++c::O2)) /\
   (∀(s':Slot K)(x:Option V),(∀(sl:SL K)(σ:St)(O:Own),ak B F L H sl σ O->ak B F L H (s'::sl) (x::σ) O)->ak B F L H (sl.set i s') (σ.set i x) (O1++O2)):=by
 induction h with
 |nil=>intro i e;simp at e
 |un g ih =>
  intro i e
  cases i with
  |zero=>simp only[getElem?_cons_zero] at e;cases e
  |succ i=>obtain⟨O1,O2,p,vs,q,h1,h2,h3,h4⟩:=ih (by simpa using e);exact⟨O1,O2,p,vs,q,h1,h2,λs' x c z=>.un (h3 s' x c z),λs' x z=>.un (h4 s' x z)⟩
 |fz r g ih =>
  intro i e
  cases i with
  |zero=>simp only[getElem?_cons_zero] at e;cases e
  |succ i=>obtain⟨O1,O2,p,vs,q,h1,h2,h3,h4⟩:=ih (by simpa using e);exact⟨O1,O2,p,vs,q,h1,h2,λs' x c z=>.fz r (h3 s' x c z),λs' x z=>.fz r (h4 s' x z)⟩
 |hs r g ih =>
  intro i e
  cases i with
  |zero=>simp only[getElem?_cons_zero] at e;cases e
  |succ i=>obtain⟨O1,O2,p,vs,q,h1,h2,h3,h4⟩:=ih (by simpa using e);exact⟨O1,O2,p,vs,q,h1,h2,λs' x c z=>.hs r (h3 s' x c z),λs' x z=>.hs r (h4 s' x z)⟩
 |nu r g ih =>
  intro i e
  cases i with
  |zero=>simp only[getElem?_cons_zero] at e;cases e
  |succ i=>obtain⟨O1,O2,p,vs,q,h1,h2,h3,h4⟩:=ih (by simpa using e);exact⟨O1,O2,p,vs,q,h1,h2,λs' x c z=>.nu r (h3 s' x c z),λs' x z=>.nu r (h4 s' x z)⟩
 |od r g ih =>
  intro i e
  cases i with
  |zero=>simp only[getElem?_cons_zero] at e;cases e;exact⟨[],_,_,_,rfl,rfl,r,λs' x c z=>z _ _ _ g,λs' x z=>z _ _ _ g⟩
  |succ i=>obtain⟨O1,O2,p,vs,q,h1,h2,h3,h4⟩:=ih (by simpa using e);exact⟨_::O1,O2,p,vs,by rw[q]<;>rfl,h1,h2,λs' x c z=>.od r (h3 s' x c z),λs' x z=>.od r (h4 s' x z)⟩
 |ow r g ih =>
  intro i e
  cases i with
  |zero=>simp only[getElem?_cons_zero] at e;cases e
  |succ i=>obtain⟨O1,O2,p,vs,q,h1,h2,h3,h4⟩:=ih (by simpa using e);exact⟨_::O1,O2,p,vs,by rw[q]<;>rfl,h1,h2,λs' x c z=>.ow r (h3 s' x c z),λs' x z=>.ow r (h4 s' x z)⟩
end
end
section
variable{K:PySem.W.Frag}{B:Bs}{F H F' H' L L':Hp}{O O' O1 O2:Own}{sl:SL K}{σ:St}{p:Addr}{o o':HO}
theorem Vv{α:Type}{a b:List α}{x:α}:(a++x::b).Nodup↔(a++b).Nodup/\x∉a++b:=by
 have q:(a++x::b).Perm (x::(a++b)):=List.perm_middle
 rw[q.nodup_iff,nodup_cons]
 exact⟨λh=>⟨h.2,h.1⟩,λh=>⟨h.2,h.1⟩⟩
theorem Ok.add(k:Ok B F (O1++O2) H)(h:H p=none):Ok B F (O1++(p,o)::O2) (upd H p o):=by
 refine⟨λb u e=>?_,k.h0.put (k.h0.free h) o,k.fa,λx hx=>?_,?_⟩
 ·rw[zJ (zL (k.fh b u e) h)];exact k.fh b u e
 ·have hx':x=(p,o)\/x∈O1++O2:=by
   rcases mem_append.mp hx with z|z
   ·exact .inr (mem_append.mpr (.inl z))
   ·rcases mem_cons.mp z with z|z
    ·exact .inl z
    ·exact .inr (mem_append.mpr (.inr z))
  rcases hx' with rfl|hx'
  ·exact⟨k.fh.free h,k.h0.free h,zK⟩
  ·obtain⟨a1,a2,a3⟩:=k.fo x hx'
   exact⟨a1,a2,by rw[zJ (zL a3 h)];exact a3⟩
 ·rw[map_append,map_cons,Vv,<-map_append]
  refine⟨k.nd,λz=>?_⟩
  obtain⟨x,hx,e⟩:=mem_map.mp z
  obtain⟨_,_,a3⟩:=k.fo x hx
  have e':x.1=p:=e
  rw[e',h] at a3
  cases a3
theorem Ok.one(k:Ok B F (O1++(p,o)::O2) H):F p=none/\B.H0 p=none/\H p=some o:=k.fo (p,o) (mem_append.mpr (.inr mem_cons_self))
theorem Ok.Vw(k:Ok B F (O1++(p,o)::O2) H):∀x∈O1++O2,x.1≠p:=λx hx e=>by
 have q:=k.nd
 rw[map_append,map_cons,Vv,<-map_append] at q
 exact q.2 (mem_map.mpr ⟨x,hx,e⟩)
theorem Ok.drop(k:Ok B F (O1++(p,o)::O2) H):Ok B F (O1++O2) H:=by
 refine⟨k.fh,k.h0,k.fa,λx hx=>k.fo x ?_,?_⟩
 ·rcases mem_append.mp hx with z|z
  ·exact mem_append.mpr (.inl z)
  ·exact mem_append.mpr (.inr (mem_cons_of_mem _ z))
 ·have q:=k.nd
  rw[map_append,map_cons,Vv,<-map_append] at q
  exact q.1
theorem Ok.chg(k:Ok B F (O1++(p,o)::O2) H)(o':HO):Ok B F (O1++(p,o')::O2) (upd H p o'):=by
 obtain⟨a1,a2,a3⟩:=k.one
 refine⟨k.fh.put a1 o',k.h0.put a2 o',k.fa,λx hx=>?_,?_⟩
 ·have hx':x=(p,o')\/x∈O1++O2:=by
   rcases mem_append.mp hx with z|z
   ·exact .inr (mem_append.mpr (.inl z))
   ·rcases mem_cons.mp z with z|z
    ·exact .inl z
    ·exact .inr (mem_append.mpr (.inr z))
  rcases hx' with rfl|hx'
  ·exact⟨a1,a2,zK⟩
  ·obtain⟨b1,b2,b3⟩:=k.drop.fo x hx'
   exact⟨b1,b2,by rw[zJ (k.Vw x hx')];exact b3⟩
 ·have q:=k.nd
  rw[map_append,map_cons] at q ⊢
  exact q
theorem Ok.freeze(k:Ok B F (O1++(p,o)::O2) H):Ok B (upd F p o) (O1++O2) H:=by
 obtain⟨a1,a2,a3⟩:=k.one
 refine⟨λb u e=>?_,k.h0,λb u e=>?_,λx hx=>?_,k.drop.nd⟩
 ·by_cases q:b=p
  ·subst q;rw[zK] at e;cases e;exact a3
  ·rw[zJ q] at e;exact k.fh b u e
 ·by_cases q:b=p
  ·subst q;exact .inr a2
  ·rw[zJ q] at e;exact k.fa b u e
 ·obtain⟨b1,b2,b3⟩:=k.drop.fo x hx
  exact⟨by rw[zJ (k.Vw x hx)];exact b1,b2,b3⟩
theorem ZC(h:H p=none):Same (lo F (O1++O2) H) (lo F (O1++(p,o)::O2) (upd H p o)):=λb u e=>by
 unfold lo at e ⊢
 by_cases q:b=p
 ·subst q
  split at e
  ·cases e
  ·rw[h] at e;cases e
 ·rw[zJ q]
  have z:((O1++(p,o)::O2).any λx=>x.1==b)=((O1++O2).any λx=>x.1==b):=by
   rw[any_append,any_append,any_cons]
   have:(p==b)=false:=by simp;exactλe=>q e.symm
   simp[this]
  rw[z]
  exact e
theorem Vx:Same (lo F (O1++(p,o)::O2) H) (lo F (O1++(p,o')::O2) (upd H p o')):=λb u e=>by
 unfold lo at e ⊢
 by_cases q:b=p
 ·subst q
  rw[any_append,any_cons] at e
  simp at e
 ·rw[zJ q]
  have z:((O1++(p,o)::O2).any λx=>x.1==b)=((O1++(p,o')::O2).any λx=>x.1==b):=by
   rw[any_append,any_append,any_cons,any_cons]
  rw[<-z]
  exact e
theorem gG:Same (lo F (O1++(p,o)::O2) H) (lo F (O1++O2) H):=λb u e=>by
 unfold lo at e ⊢
 split at e
 ·cases e
 ·rename_i h
  rw[if_neg]
  ·exact e
  ·rw[any_append,any_cons] at h
   rw[any_append]
   simp at h ⊢
   exact⟨h.1,h.2.1,h.2.2.2⟩
theorem jl:Same (lo F (O1++(p,o)::O2) H) (lo (upd F p o) (O1++O2) H):=λb u e=>by
 unfold lo at e ⊢
 split at e
 ·cases e
 ·rename_i h
  rw[any_append,any_cons] at h
  simp at h
  have q:b≠p:=λz=>h.2.2.1 z.symm
  rw[zJ q,if_neg]
  ·exact e
  ·rw[any_append]
   simp
   exact⟨h.1,h.2.1,h.2.2.2⟩
theorem Ok.called(k:Ok B F O H)(s:Same H H'):aR B F H O (ext F H H') H':=by
 have e1:∀b o,ext F H H' b=some o->F b=some o\/H b=none:=λb o h=>by
  unfold ext at h
  cases q:H b with
  |none=>exact .inr rfl
  |some u=>rw[q] at h;exact .inl h
 refine⟨λb o h=>?_,s,⟨λb o h=>?_,k.h0.trans s,λb o h=>?_,λx hx=>?_,k.nd⟩,λb h1 h2=>?_⟩
 ·unfold ext
  rw[k.fh b o h]
  exact h
 ·unfold ext at h
  cases q:H b with
  |none=>rw[q] at h;exact h
  |some u=>rw[q] at h;rw[<-k.fh b o h];exact(s b u q).trans q.symm
 ·rcases e1 b o h with z|z
  ·exact k.fa b o z
  ·exact .inr (k.h0.free z)
 ·obtain⟨a1,a2,a3⟩:=k.fo x hx
  refine⟨?_,a2,s _ _ a3⟩
  unfold ext
  rw[a3]
  exact a1
 ·unfold ext
  cases q:H b with
  |none=>exact absurd q h2
  |some u=>exact h1
theorem Ot(h0:Same B.H0 H)(s:Same H H'):Same (dif H' H) (dif (ext F H H') B.H0):=λb o h=>by
 unfold dif at h
 cases q:H b with
 |none =>
  rw[q] at h
  rw[wZ (h0.free q)]
  unfold ext
  rw[q]
  exact h
 |some u=>rw[q] at h;cases h
variable{md ZD md2:Md}{α β γ:Type}[Rp K α][Rp K β][Rp K γ]{t t1 t2:TE}{m:Option α}{m1:Option β}{m2:Option γ}
def Ex(B:Bs)(sl:SL K)(md:Md)(t:TE){α:Type}[Rp K α](m:Option α):Prop :=
 ∀a,m=some a->∀(F:Hp)(O:Own)(H:Hp)(σ:St)(Q:VK),At B sl F O H σ->(∀(v:V)(F' H':Hp),aR B F H O F' H'->rp K (reg B F' H' md) v a->Q v H')->t σ H Q
def Et(B:Bs)(sl:SL K)(t:TT)(m:Option Bool):Prop :=
 ∀a,m=some a->∀(F:Hp)(O:Own)(H:Hp)(σ:St)(Q:Bool->Hp->Prop),At B sl F O H σ->(∀(F' H':Hp),aR B F H O F' H'->Q a H')->t σ H Q
inductive Ar(R:Hp):SL K->List V->Prop
 |nil:Ar R [] []
 |cons {n:Bool} {α:Type} [Rp K α] {a:α} {v:V} {sl:SL K} {vs:List V}:rp K R v a->Ar R sl vs->Ar R (.fz n a::sl) (v::vs)
def Ea(B:Bs)(sl:SL K)(md:Md)(t:TA){A:Type}(as:A->SL K)(m:Option A):Prop :=
 ∀a,m=some a->∀(F:Hp)(O:Own)(H:Hp)(σ:St)(Q:List V->Hp->Prop),At B sl F O H σ->(∀(vs:List V)(F' H':Hp),aR B F H O F' H'->Ar (reg B F' H' md) (as a) vs->Q vs H')->t σ H Q
theorem Ex.sc[Sc K α](h:Ex B sl md t m):Ex B sl ZD t m:=λa ha F O H σ Q s k=>h a ha F O H σ Q s λv F' H' g r=>k v F' H' g (R_ r)
theorem Ex.up(h:Ex B sl .nw t m):Ex B sl .fz t m:=λa ha F O H σ Q s k=>h a ha F O H σ Q s λv F' H' g r=>k v F' H' g (Rp.mono aP r)
theorem Vy[Nn K α](h:Ex B sl md t m):Ex B sl md t (m.bind λa=>some (some a)):=λa ha F O H σ Q s k=>by
 cases m with
 |none=>cases ha
 |some a' =>
  cases(show some (some a')=some a from ha)
  exact h a' rfl F O H σ Q s λv F' H' g r=>k v F' H' g ⟨Nn.nn (K:=K) r,r⟩
theorem yJ{n:Bool}{a:α}(i:Nat)(hs:sl[i]?=some (.fz n a)):Ex B sl (iz n) (cT i) (some a):=λa' ha F O H σ Q s k=>by
 cases ha
 obtain⟨v,h1,h2⟩:=s.2.qF hs
 exact⟨v,h1,k v F H (.refl s.1) h2⟩
theorem zG[Sc K α]{n:Bool}{a:α}(i:Nat)(hs:sl[i]?=some (.fz n a)):Ex B sl md (cT i) (some a):=(yJ i hs).sc
theorem lo_le:Same (lo F O H) H:=λb o h=>by
 unfold lo at h
 split at h
 ·cases h
 ·exact h
theorem Bc(k:Ok B F O H)(n:Bool):Same (reg B F H (iz n)) H:=match n with
 |true=>aP.trans k.fh
 |false=>k.fh
theorem zD{n:Bool}{a:α}(i:Nat)(hs:sl[i]?=some (.fz n a)):Ex B sl .hp (cT i) (some a):=λa' ha F O H σ Q s k=>by
 cases ha
 obtain⟨v,h1,h2⟩:=s.2.qF hs
 exact⟨v,h1,k v F H (.refl s.1) (Rp.mono (Bc s.1 n) h2)⟩
theorem FQ{n:Bool}{xs:List α}(i:Nat)(hs:sl[i]?=some (.ow n xs)):Ex B sl .hp (cT i) (some xs):=λa' ha F O H σ Q s k=>by
 cases ha
 obtain⟨O1,O2,p,vs,rfl,h1,h2,_⟩:=s.2.jK hs
 exact⟨_,h1,k _ F H (.refl s.1) ⟨p,vs,rfl,s.1.one.2.2,h2.imp λ_ _=>Rp.mono (Bc s.1 n)⟩⟩
theorem Iw[Sc K α](a:α):Ex B sl md (tC (Sc.val K a)) (some a):=λa' ha F O H σ Q s k=>by cases ha;exact k _ F H (.refl s.1) (Sc.is.mpr rfl)
theorem zN(i:Int):Ex B sl md (tC (.int i)) (some i):=Iw (K:=K) i
theorem yt(i:Bool):Ex B sl md (tC (.bl i)) (some i):=Iw (K:=K) i
theorem uW(i:Str):Ex B sl md (tC (.str i)) (some i):=Iw (K:=K) i
theorem ZF:Ex B sl md (tC .non) (some (none:Option α)):=λa' ha F O H σ Q s k=>by cases ha;exact k _ F H (.refl s.1) rfl
theorem uN{f:β->γ->Option α}(h:(m1.bind λa=>m2.bind λb=>f a b)=some c):∃a b,m1=some a/\m2=some b/\f a b=some c:=by
 cases m1 with
 |none=>cases h
 |some a =>
  cases m2 with
  |none=>cases h
  |some b=>exact⟨a,b,rfl,rfl,h⟩
theorem yu{f:β->γ->Option α}[Sc K α](hr:∀(a:β) (b:γ) (c:α) (v w:V) (H:Hp) (Q:VK),f a b=some c->rp K H v a->rp K H w b->Q (Sc.val K c) H->r v w H Q)(h1:Ex B sl .hp t1 m1)(h2:Ex B sl .hp t2 m2):Ex B sl md (gF r t1 t2) (m1.bind λa=>m2.bind λb=>f a b):=λc hc F O H σ Q s k=>by
 obtain⟨a,b,ha,hb,hf⟩:=uN hc
 refine h1 a ha F O H σ _ s λv F' H' g r1=>?_
 refine h2 b hb F' O H' σ _ (s.grow g) λw F2 H2 g2 r2=>?_
 exact hr a b c v w H2 Q hf (Rp.mono g2.hh r1) r2 (k _ F2 H2 (g.trans g2) (Sc.is.mpr rfl))
theorem yH(h:Ex B sl md t m'):Et B sl (Fq t) m':=λc hc F O H σ Q s k=>h c hc F O H σ _ s λv F' H' g r=>⟨c,r,k F' H' g⟩
theorem dI(h:Ex B sl md t m'):Et B sl (tB t) m':=λc hc F O H σ Q s k=>h c hc F O H σ _ s λv F' H' g r=>⟨c,r,k F' H' g⟩
theorem Ou{t:TT}{n:Option Bool}(h:Et B sl t n):Et B sl (M9 t) (n.bind λc=>some !c):=λc hc F O H σ Q s k=>by
 cases n with
 |none=>cases hc
 |some c' =>
  cases(show some (!c')=some c from hc)
  exact h c' rfl F O H σ _ s λF' H' g=>k F' H' g
theorem ZG(h:Ex B sl .hp t n):Ex B sl md (Fd t) (n.bind λc=>some !c):=λc hc F O H σ Q s k=>by
 cases n with
 |none=>cases hc
 |some c' =>
  cases(show some (!c')=some c from hc)
  refine h c' rfl F O H σ _ s λv F' H' g r=>?_
  cases r
  exact⟨c',rfl,k _ F' H' g rfl⟩
theorem Vz{t u:TT}{n n':Option Bool}(h:Et B sl t n)(h':Et B sl u n'):Et B sl (M8 t u) (n.bind λc=>if c=true then n' else some false):=λc hc F O H σ Q s k=>by
 cases n with
 |none=>cases hc
 |some c' =>
  refine h c' rfl F O H σ _ s λF' H' g=>?_
  cases c' with
  |true=>exact jk (h' c (by simpa using hc) F' O H' σ _ (s.grow g) λF2 H2 g2=>k F2 H2 (g.trans g2))
  |false=>cases(show some false=some c from by simpa using hc);exact jR (k F' H' g)
theorem Lh{t u:TT}{n n':Option Bool}(h:Et B sl t n)(h':Et B sl u n'):Et B sl (Yo t u) (n.bind λc=>if c=true then some true else n'):=λc hc F O H σ Q s k=>by
 cases n with
 |none=>cases hc
 |some c' =>
  refine h c' rfl F O H σ _ s λF' H' g=>?_
  cases c' with
  |true=>cases(show some true=some c from by simpa using hc);exact jk (k F' H' g)
  |false=>exact jR (h' c (by simpa using hc) F' O H' σ _ (s.grow g) λF2 H2 g2=>k F2 H2 (g.trans g2))
theorem Ov(h:Ex B sl .hp t1 n)(h':Ex B sl .hp t2 n'):Ex B sl md (Fb t1 t2) (n.bind λc=>if c=true then n' else some false):=λc hc F O H σ Q s k=>by
 cases n with
 |none=>cases hc
 |some c' =>
  refine h c' rfl F O H σ _ s λv F' H' g r=>?_
  cases r
  refine⟨c',rfl,?_⟩
  cases c' with
  |true=>exact jk (h' c (by simpa using hc) F' O H' σ _ (s.grow g) λv F2 H2 g2 r2=>k v F2 H2 (g.trans g2) (R_ r2))
  |false=>cases(show some false=some c from by simpa using hc);exact jR (k _ F' H' g rfl)
theorem Ow(h:Ex B sl .hp t1 n)(h':Ex B sl .hp t2 n'):Ex B sl md (Nb t1 t2) (n.bind λc=>if c=true then some true else n'):=λc hc F O H σ Q s k=>by
 cases n with
 |none=>cases hc
 |some c' =>
  refine h c' rfl F O H σ _ s λv F' H' g r=>?_
  cases r
  refine⟨c',rfl,?_⟩
  cases c' with
  |true=>cases(show some true=some c from by simpa using hc);exact jk (k _ F' H' g rfl)
  |false=>exact jR (h' c (by simpa using hc) F' O H' σ _ (s.grow g) λv F2 H2 g2 r2=>k v F2 H2 (g.trans g2) (R_ r2))
theorem ZJ{t:TT}{n:Option Bool}{m m':Option α}(h:Et B sl t n)(h1:Ex B sl md t1 m)(h2:Ex B sl md t2 m'):Ex B sl md (Yq t t1 t2) (n.bind λc=>if c=true then m else m'):=λc hc F O H σ Q s k=>by
 cases n with
 |none=>cases hc
 |some c' =>
  refine h c' rfl F O H σ _ s λF' H' g=>?_
  cases c' with
  |true=>exact jk (h1 c (by simpa using hc) F' O H' σ _ (s.grow g) λv F2 H2 g2 r2=>k v F2 H2 (g.trans g2) r2)
  |false=>exact jR (h2 c (by simpa using hc) F' O H' σ _ (s.grow g) λv F2 H2 g2 r2=>k v F2 H2 (g.trans g2) r2)
theorem zQ:Ea B sl md aY (λ_:Unit=>[]) (some ()):=λa ha F O H σ Q s k=>k [] F H (.refl s.1) .nil
theorem zH{A:Type}{as:A->SL K}{ma:Option A}(h1:Ex B sl md t m)(h2:Ea B sl md tr as ma):Ea B sl md (yK t tr) (λx:α×A=>.fz false x.1::as x.2) (m.bind λa=>ma.bind λb=>some (a,b)):=λc hc F O H σ Q s k=>by
 cases m with
 |none=>cases hc
 |some a =>
  cases ma with
  |none=>cases hc
  |some b =>
   cases(show some (a,b)=some c from hc)
   refine h1 a rfl F O H σ _ s λv F' H' g r1=>?_
   refine h2 b rfl F' O H' σ _ (s.grow g) λvs F2 H2 g2 r2=>?_
   exact k (v::vs) F2 H2 (g.trans g2) (.cons (Rp.mono (yD g2 md) r1) r2)
theorem FT(k:Ok B F O H)(h:H p=none)(md:Md):reg B (upd F p o) (upd H p o) md p=some o:=match md with
 |.nw=>by show dif (upd F p o) B.H0 p=_;rw[wZ (k.h0.free h)];exact zK
 |.fz=>zK
 |.hp=>zK
def cap:Nat:=100000
theorem yw(h:n<cap):n<sizeLine:=adi h (by decide)
theorem Iz(h:n<=cap):n<=sizeLine:=aar h (by decide)
def El(B:Bs)(sl:SL K)(md:Md)(t:TA){α:Type}[Rp K α](m:Option (List α)):Prop :=
 ∀a,m=some a->∀(F:Hp)(O:Own)(H:Hp)(σ:St)(Q:List V->Hp->Prop),At B sl F O H σ->(∀(vs:List V)(F' H':Hp),aR B F H O F' H'->A2 (rp K (reg B F' H' md)) vs a->Q vs H')->t σ H Q
theorem Sd:El B sl md aY (some ([]:List α)):=λa ha F O H σ Q s k=>by cases ha;exact k [] F H (.refl s.1) trivial
theorem FW(h1:Ex B sl md t m)(h2:El B sl md tr ma):El B sl md (yK t tr) (m.bind λa=>ma.bind λb=>some (a::b)):=λc hc F O H σ Q s k=>by
 cases m with
 |none=>cases hc
 |some a =>
  cases ma with
  |none=>cases hc
  |some b =>
   cases(show some (a::b)=some c from hc)
   refine h1 a rfl F O H σ _ s λv F' H' g r1=>?_
   refine h2 b rfl F' O H' σ _ (s.grow g) λvs F2 H2 g2 r2=>?_
   exact k (v::vs) F2 H2 (g.trans g2) ⟨Rp.mono (yD g2 md) r1,r2⟩
def Eo(B:Bs)(sl:SL K)(md:Md)(t:TE){α:Type}[Rp K α](m:Option (List α)):Prop :=
 ∀a,m=some a->∀(F:Hp)(O:Own)(H:Hp)(σ:St)(Q:VK),At B sl F O H σ->(∀(p:Addr)(vs:List V)(F' H':Hp),aR B F H O F' H'->H' p=none->A2 (rp K (reg B F' H' md)) vs a->Q (.ref p) (upd H' p (.lst vs)))->t σ H Q
theorem Eo.ex{m:Option (List α)}(h:Eo B sl md t m):Ex B sl md t m:=λa ha F O H σ Q s k=>h a ha F O H σ Q s λp vs F' H' g hp r=>by
 have g2:=aR.new g.ok hp (.lst vs)
 exact k _ _ _ (g.trans g2) ⟨p,vs,rfl,FT g.ok hp md,r.imp λ_ _=>Rp.mono (yD g2 md)⟩
theorem Bd:Eo B sl md (Ah aY) (some ([]:List α)):=λa ha F O H σ Q s k=>by
 cases ha
 exact⟨aa0 _,λp hp=>k p [] F H (.refl s.1) hp trivial⟩
theorem Sh{t:TA}{ma:Option (List α)}(h:El B sl md t ma)(hl:∀a,ma=some a->a.length<=cap):Eo B sl md (Ah t) ma:=λa ha F O H σ Q s k =>
 h a ha F O H σ _ s λvs F' H' g r=>⟨by rw[r.len];exact Iz (hl a ha),λp hp=>k p vs F' H' g hp r⟩
theorem ZK(h1:Ex B sl md t1 m1)(h2:Ex B sl md t2 m2):Ex B sl md (qQ (yK t1 (yK t2 aY))) (m1.bind λa=>m2.bind λb=>some (a,b)):=λc hc F O H σ Q s kk=>by
 obtain⟨a,b,ha,hb,hf⟩:=uN hc
 cases hf
 refine h1 a ha F O H σ _ s λv F' H' g r1=>?_
 refine h2 b hb F' O H' σ _ (s.grow g) λw F2 H2 g2 r2=>?_
 refine⟨by show 2<=sizeLine;decide,λp hp=>?_⟩
 have g3:=aR.new g2.ok hp (.tup [v,w])
 exact kk _ _ _ (g.trans (g2.trans g3)) ⟨p,v,w,rfl,FT g2.ok hp md,Rp.mono (yD (g2.trans g3) md) r1,Rp.mono (yD g3 md) r2⟩
def cR(K:PySem.W.Frag)(al:Bool){A β:Type}[Rp K β](as:A->SL K)(f:A->Option β):Sp:=λvs H Q _ =>
 ∃a b Fa,Same Fa H/\f a=some b/\Ar Fa (as a) vs/\∀v H',Same H H'->rp K (if al=true then ext Fa H H' else dif H' H) v b->Q v H'
theorem zR{A:Type}{as:A->SL K}{f:A->Option β}{ma:Option A}(h:Ea B sl .hp ta as ma):Ex B sl md (Ld (cR K false as f) [] E0 ta) (ma.bind f):=λc hc F O H σ Q s kk=>by
 cases ma with
 |none=>cases hc
 |some a =>
  refine h a rfl F O H σ _ s λvs F' H' g r=>?_
  rw[append_nil]
  refine⟨a,c,H',.refl _,hc,r,λv H2 s2 r2=>?_⟩
  have g2:=g.ok.called s2
  refine kk v _ H2 (g.trans g2) ?_
  have r3:=Rp.mono (Ot (F:=F') g.ok.h0 s2) r2
  exact match md with
  |.nw=>r3
  |.fz=>Rp.mono aP r3
  |.hp=>Rp.mono (aP.trans g2.ok.fh) r3
end
def push{α:Type}(xs:List α)(a:α):Option (List α):=if xs.length<cap then some (xs++[a]) else none
def qW{α:Type}(xs:List α)(i:Int)(a:α):Option (List α):=(qC xs.length i).bind λj=>some (xs.set j a)
def wR(n:Int):Option LI:=if -(2^62)<=n/\n<2^62 then some ((aat n.toNat).map acz) else none
def xH{S α:Type}(step:S->α->Option S):List α->S->Option S
 |[],s=>some s
 |x::xs,s=>(step s x).bind λs'=>xH step xs s'
inductive Out(S β:Type)|nx (s:S)|rt (b:β)
def vD{S α β:Type}(step:S->α->Option (Out S β)):List α->S->Option (Out S β)
 |[],s=>some (.nx s)
 |x::xs,s=>(step s x).bind λo=>match o with
  |.nx s'=>vD step xs s'
  |.rt b=>some (.rt b)
def FZ{S:Type}(c:S->Option Bool)(body:S->Option S):Nat->S->Option S
 |0,_=>none
 |k+1,s=>(c s).bind λb=>if b=true then(body s).bind λs'=>FZ c body k s' else some s
def xM{α β:Type}(c:α->Option Bool)(f:α->Option β):List α->Option (List β)
 |[]=>some []
 |x::xs=>(c x).bind λb=>if b=true then(f x).bind λy=>(xM c f xs).bind λys=>some (y::ys) else xM c f xs
def Out.els{S β:Type}(o:Out S β)(f:S->Option β):Option β:=match o with
 |.nx s=>f s
 |.rt b=>some b
def Out.aL{S S' β:Type}(o:Out S β)(f:S->Option (Out S' β)):Option (Out S' β):=match o with
 |.nx s=>f s
 |.rt b=>some (.rt b)
theorem VB{S α:Type}(step:S->α->Option S):∀(xs ys:List α)(s:S),xH step (xs++ys) s=(xH step xs s).bind λs'=>xH step ys s'
 |[],ys,s=>rfl
 |x::xs,ys,s=>by
  show(step s x).bind _=((step s x).bind _).bind _
  cases step s x with
  |none=>rfl
  |some s'=>exact VB step xs ys s'
theorem zMh{S α:Type}{step:S->α->Option S}{xs:List α}{s s1:S}(h:xH step xs s=some s1){x:α}(hx:xs[i]?=some x):∃a b,xH step (xs.take i) s=some a/\step a x=some b/\xH step (xs.take (i+1)) s=some b:=by
 have e:xs=xs.take (i+1)++xs.drop (i+1):=(take_append_drop _ _).symm
 have e2:xs.take (i+1)=xs.take i++[x]:=by rw[take_add_one,hx]<;>rfl
 rw[e,VB] at h
 cases q:xH step (xs.take (i+1)) s with
 |none=>rw[q] at h;cases h
 |some b =>
  have q':=q
  rw[e2,VB] at q'
  cases z:xH step (xs.take i) s with
  |none=>rw[z] at q';cases q'
  |some a =>
   rw[z] at q'
   have q2:(step a x).bind (λs'=>some s')=some b:=q'
   refine⟨a,b,rfl,?_,rfl⟩
   cases w:step a x with
   |none=>rw[w] at q2;cases q2
   |some c=>rw[w] at q2;exact q2
section
variable{K:PySem.W.Frag}{B:Bs}{F H F' H' G:Hp}{O:Own}{sl sl2:SL K}{σ:St}{md:Md}{α β γ:Type}[Rp K α][Rp K β][Rp K γ]{t u v:TS}{te:TE}{m:Option α}{S S':Type}{al:Bool}
def Sg(B:Bs)(G:Hp)(sl:SL K)(σ:St)(H:Hp):Prop:=∃F O,Same G F/\At B sl F O H σ
def Rt(K:PySem.W.Frag){β:Type}[Rp K β](B:Bs)(al:Bool)(b:β)(v:V)(H':Hp):Prop:=Same B.H0 H'/\rp K (if al=true then ext B.Fa B.H0 H' else dif H' B.H0) v b
def Sn(B:Bs)(sl:SL K)(t:TS){S:Type}(L:S->SL K)(m:Option S):Prop :=
 ∀a,m=some a->∀(G:Hp)(D:Ends)(σ:St)(H:Hp),Sg B G sl σ H->(∀σ' H',Sg B G (L a) σ' H'->D.nx σ' H')->t D σ H
def SB(B:Bs)(sl:SL K)(t:TS)(al:Bool){β:Type}[Rp K β](m:Option β):Prop :=
 ∀b,m=some b->∀(G:Hp)(D:Ends)(σ:St)(H:Hp),Sg B G sl σ H->(∀v H',Rt K B al b v H'->D.rt v H')->t D σ H
def XE(B:Bs)(G:Hp)(al:Bool)(L:S->SL K)(D:Ends)(o:Out S β):Prop:=match o with
 |.nx s=>∀σ' H',Sg B G (L s) σ' H'->D.nx σ' H'
 |.rt b=>∀v H',Rt K B al b v H'->D.rt v H'
def Sx(B:Bs)(sl:SL K)(t:TS)(al:Bool){S β:Type}[Rp K β](L:S->SL K)(m:Option (Out S β)):Prop :=
 ∀o,m=some o->∀(G:Hp)(D:Ends)(σ:St)(H:Hp),Sg B G sl σ H->XE B G al L D o->t D σ H
theorem SB.of(h:SB B sl t al m)(q:m=m'):SB B sl t al m':=q▸h
theorem Sn.of(h:Sn B sl t L m)(q:m=m'):Sn B sl t L m':=q▸h
inductive Le:SL K->SL K->Prop
 |nil:Le [] []
 |eq {s:Slot K} {a b:SL K}:Le a b->Le (s::a) (s::b)
 |un {s:Slot K} {a b:SL K}:Le a b->Le (s::a) (.un::b)
 |fr {n:Bool} {α:Type} [Rp K α] {xs:List α} {a b:SL K}:Le a b->Le (.ow n xs::a) (.fz n xs::b)
 |old {α:Type} [Rp K α] {x:α} {a b:SL K}:Le a b->Le (.fz true x::a) (.fz false x::b)
theorem ak.le(h:Le sl sl2):∀{F:Hp}{σ:St}{O:Own},Ok B F (P++O) H->ak B F (lo F (P++O) H) H sl σ O->∃F' O',Same F F'/\Ok B F' (P++O') H/\Same (lo F (P++O) H) (lo F' (P++O') H)/\ak B F' (lo F' (P++O') H) H sl2 σ O':=by
 induction h generalizing P with
 |nil=>intro F σ O k h;cases h;exact⟨F,[],.refl _,k,.refl _,.nil⟩
 |eq _ ih =>
  intro F σ O k h
  cases h with
  |un h=>obtain⟨F',O',a,b,c,d⟩:=ih k h;exact⟨F',O',a,b,c,.un d⟩
  |fz r h=>obtain⟨F',O',a,b,c,d⟩:=ih k h;exact⟨F',O',a,b,c,.fz (Rp.mono (wW _ a) r) d⟩
  |hs r h=>obtain⟨F',O',a,b,c,d⟩:=ih k h;exact⟨F',O',a,b,c,.hs r d⟩
  |nu r h=>obtain⟨F',O',a,b,c,d⟩:=ih k h;exact⟨F',O',a,b,c,.nu (Rp.mono (xG c) r) d⟩
  |@ow _ _ _ _ _ _ O p vs r h =>
   have e:P++(p,HO.lst vs)::O=(P++[(p,HO.lst vs)])++O:=by simp
   rw[e] at k h
   obtain⟨F',O',a,b,c,d⟩:=ih k h
   have e':(P++[(p,HO.lst vs)])++O'=P++(p,HO.lst vs)::O':=by simp
   rw[e'] at b c d
   rw[<-e] at c
   exact⟨F',_::O',a,b,c,.ow (r.imp λ_ _=>Rp.mono (wW _ a)) d⟩
  |@od _ _ _ _ _ O p vs r h =>
   have e:P++(p,HO.dK vs)::O=(P++[(p,HO.dK vs)])++O:=by simp
   rw[e] at k h
   obtain⟨F',O',a,b,c,d⟩:=ih k h
   have e':(P++[(p,HO.dK vs)])++O'=P++(p,HO.dK vs)::O':=by simp
   rw[e'] at b c d
   rw[<-e] at c
   exact⟨F',_::O',a,b,c,.od (r.imp λ_ _ z=>⟨z.1,Rp.mono a z.2⟩) d⟩
 |un _ ih =>
  intro F σ O k h
  cases h with
  |un h=>obtain⟨F',O',a,b,c,d⟩:=ih k h;exact⟨F',O',a,b,c,.un d⟩
  |fz r h=>obtain⟨F',O',a,b,c,d⟩:=ih k h;exact⟨F',O',a,b,c,.un d⟩
  |hs r h=>obtain⟨F',O',a,b,c,d⟩:=ih k h;exact⟨F',O',a,b,c,.un d⟩
  |nu r h=>obtain⟨F',O',a,b,c,d⟩:=ih k h;exact⟨F',O',a,b,c,.un d⟩
  |ow r h=>obtain⟨F',O',a,b,c,d⟩:=ih k.drop (h.mono (.refl _) gG (.refl _));exact⟨F',O',a,b,gG.trans c,.un d⟩
  |od r h=>obtain⟨F',O',a,b,c,d⟩:=ih k.drop (h.mono (.refl _) gG (.refl _));exact⟨F',O',a,b,gG.trans c,.un d⟩
 |@fr n _ _ _ _ _ _ ih =>
  intro F σ O k h
  cases h with
  |@ow _ _ _ _ _ _ O p vs r h =>
   obtain⟨a1,a2,a3⟩:=k.one
   have sf:Same F (upd F p (.lst vs)):=aJ a1 _
   obtain⟨F',O',a,b,c,d⟩:=ih k.freeze (h.mono sf jl (.refl _))
   refine⟨F',O',sf.trans a,b,jl.trans c,.fz ⟨p,vs,rfl,?_,r.imp λ_ _=>Rp.mono (wW _ (sf.trans a))⟩ d⟩
   cases n with
   |true=>exact(wZ a2).trans (a _ _ zK)
   |false=>exact a _ _ zK
 |old _ ih =>
  intro F σ O k h
  cases h with
  |fz r h=>obtain⟨F',O',a,b,c,d⟩:=ih k h;exact⟨F',O',a,b,c,.fz (Rp.mono (aP.trans a) r) d⟩
theorem Sg.le(h:Sg B G sl σ H)(l:Le sl sl2):Sg B G sl2 σ H:=by
 obtain⟨F,O,g,k,s⟩:=h
 obtain⟨F',O',a,b,_,d⟩:=ak.le (P:=[]) l k s
 exact⟨F',O',g.trans a,b,d⟩
theorem Sg.grow(g:Same G F)(h:At B sl F O' H σ)(gr:aR B F H O' F' H'):Sg B G sl σ H':=⟨F',O',g.trans gr.ff,h.grow gr⟩
theorem yB(L:S->SL K)(s:S)(h:Le sl (L s)):Sn B sl Fe L (some s):=λa ha G D σ H q k=>by cases ha;exact k σ H (q.le h)
theorem zU{f:S->Option S'}(h1:Sn B sl t L m1)(h2:∀s,Sn B (L s) u L' (f s)):Sn B sl (iw t u) L' (m1.bind f):=λa ha G D σ H q k=>by
 cases m1 with
 |none=>cases ha
 |some s=>exact h1 s rfl G _ σ H q λσ' H' q'=>h2 s a ha G D σ' H' q' k
theorem zS{f:S->Option β}(h1:Sn B sl t L m1)(h2:∀s,SB B (L s) u al (f s)):SB B sl (iw t u) al (m1.bind f):=λa ha G D σ H q k=>by
 cases m1 with
 |none=>cases ha
 |some s=>exact h1 s rfl G _ σ H q λσ' H' q'=>h2 s a ha G D σ' H' q' k
theorem VD{f:S->Option β}(h1:Sx B sl t al L m1)(h2:∀s,SB B (L s) u al (f s)):SB B sl (iw t u) al (m1.bind λo=>o.els f):=λa ha G D σ H q k=>by
 cases m1 with
 |none=>cases ha
 |some o =>
  cases o with
  |nx s=>exact h1 _ rfl G _ σ H q λσ' H' q'=>h2 s a ha G D σ' H' q' k
  |rt b=>cases ha;exact h1 _ rfl G { D with nx:=u D } σ H q k
theorem VF(L:S->SL K)(s:S)(h:Le sl (L s)):Sx B sl Fe al L (some (.nx s):Option (Out S β)):=λa ha G D σ H q k=>by cases ha;exact k σ H (q.le h)
theorem Ga(k:Ok B F' O H')(n:Bool){v:V}{b:β}(r:rp K (reg B F' H' (iz n)) v b)(hn:n=!al):Rt K B al b v H':=by
 refine⟨k.h0,?_⟩
 cases al with
 |false=>subst hn;exact Rp.mono (xG k.fh) r
 |true =>
  subst hn
  refine Rp.mono (λb o h=>?_) r
  have h:F' b=some o:=h
  show ext B.Fa B.H0 H' b=some o
  unfold ext
  cases q:B.H0 b with
  |none=>exact k.fh b o h
  |some u =>
   rcases k.fa b o h with z|z
   ·exact z
   ·rw[q] at z;cases z
theorem zW(h:Ex B sl (iz !al) te m):SB B sl (iw (sX te) u) al m:=λb hb G D σ H s k=>by
 obtain⟨F,O,g,a⟩:=s
 exact h b hb F O H σ _ a λv F' H' gr r=>k v H' (Ga gr.ok (!al) r rfl)
theorem Bg(h:F p=none):Same (dif F H0) (dif (upd F p o) H0):=xG (aJ h o)
theorem IK{n:Bool}{xs:List α}(i:Nat)(hs:sl[i]?=some (.ow n xs))(hn:n=!al):SB B sl (iw (sX (cT i)) u) al (some xs):=λb hb G D σ H s k=>by
 cases hb
 obtain⟨F,O,g,a⟩:=s
 obtain⟨O1,O2,p,vs,rfl,h1,h2,_⟩:=a.2.jK hs
 obtain⟨a1,a2,a3⟩:=a.1.one
 refine⟨_,h1,k _ H (Ga a.1.freeze n ⟨p,vs,rfl,?_,h2.imp λ_ _=>Rp.mono ?_⟩ hn)⟩
 ·cases n with
  |true=>exact(wZ a2).trans zK
  |false=>exact zK
 ·cases n with
  |true=>exact Bg a1
  |false=>exact aJ a1 _
theorem yx(hc:Et B sl c n)(h1:Sn B sl t L m1)(h2:Sn B sl u L m2):Sn B sl (qP c t u) L (n.bind λb=>if b=true then m1 else m2):=λa ha G D σ H s k=>by
 cases n with
 |none=>cases ha
 |some b =>
  obtain⟨F,O,g,z⟩:=s
  refine hc b rfl F O H σ _ z λF' H' gr=>?_
  cases b with
  |true=>exact jk (h1 a (by simpa using ha) G D σ H' (Sg.grow g z gr) k)
  |false=>exact jR (h2 a (by simpa using ha) G D σ H' (Sg.grow g z gr) k)
theorem vH{c:TT}{n:Option Bool}{m1 m2:Option β}(hc:Et B sl c n)(h1:SB B sl t al m1)(h2:SB B sl u al m2):SB B sl (iw (qP c t Fe) u) al (n.bind λb=>if b=true then m1 else m2):=λa ha G D σ H s k=>by
 cases n with
 |none=>cases ha
 |some b =>
  obtain⟨F,O,g,z⟩:=s
  refine hc b rfl F O H σ _ z λF' H' gr=>?_
  cases b with
  |true=>exact jk (h1 a (by simpa using ha) G _ σ H' (Sg.grow g z gr) k)
  |false=>exact jR (h2 a (by simpa using ha) G D σ H' (Sg.grow g z gr) k)
theorem VG{c:TT}{n:Option Bool}{m1:Option β}{L:S->SL K}{m2:Option (Out S β)}(hc:Et B sl c n)(h1:SB B sl t al m1)(h2:Sx B sl u al L m2) :
  Sx B sl (iw (qP c t Fe) u) al L (n.bind λb=>if b=true then m1.bind λb=>some (.rt b) else m2):=λa ha G D σ H s k=>by
 cases n with
 |none=>cases ha
 |some b =>
  obtain⟨F,O,g,z⟩:=s
  refine hc b rfl F O H σ _ z λF' H' gr=>?_
  cases b with
  |true =>
   have e:=(show(m1.bind λb=>some (Out.rt b))=some a by simpa using ha)
   cases m1 with
   |none=>cases e
   |some b=>cases e;exact jk (h1 b rfl G _ σ H' (Sg.grow g z gr) k)
  |false=>exact jR (h2 a (by simpa using ha) G D σ H' (Sg.grow g z gr) k)
theorem Sg.set{s:Slot K}{i:Nat}{n:Bool}{a:α}{v:V}{O:Own}(g:Same G F)(h:At B sl F O H σ)(hs:sl[i]?=some s)(ho:jU s=false)(r:rp K (reg B F H (iz n)) v a):Sg B G (sl.set i (.fz n a)) (σ.set i (some v)) H :=
 ⟨F,O,g,h.1,h.2.put (λ_ _ _ z=>.fz r z) hs ho⟩
theorem xI(n:Bool)(i:Nat)(hs:sl[i]?=some s)(ho:jU s=false)(h:Ex B sl (iz n) te m):Sn B sl (m7 te (pL i)) (λa=>sl.set i (.fz n a)) m:=λa ha G D σ H s k=>by
 obtain⟨F,O,g,z⟩:=s
 exact h a ha F O H σ _ z λv F' H' gr r=>k _ _ (Sg.set (g.trans gr.ff) (z.grow gr) hs ho r)
theorem Li(h:Ex B sl md te m):Sn B sl (Ht te) (λ_=>sl) m:=λa ha G D σ H s k=>by
 obtain⟨F,O,g,z⟩:=s
 exact h a ha F O H σ _ z λv F' H' gr r=>k _ _ (Sg.grow g z gr)
theorem At.own{s:Slot K}{i:Nat}{n:Bool}{xs:List α}{vs:List V}{p:Addr}(h:At B sl F O H σ)(hs:sl[i]?=some s)(ho:jU s=false)(hp:H p=none)(r:A2 (rp K (reg B F H (iz n))) vs xs) :
  ∃O',At B (sl.set i (.ow n xs)) F O' (upd H p (.lst vs)) (σ.set i (some (.ref p))):=by
 obtain⟨k,z0⟩:=h
 obtain⟨O1,O2,rfl,z⟩:=z0.own (s':=.ow n xs) (x:=some (.ref p)) (c:=(p,.lst vs)) (λ_ _ _ z=>.ow r z) hs ho
 exact⟨_,k.add hp,z.mono (.refl _) (ZC hp) (aJ hp _)⟩
theorem uZ{s:Slot K}{m:Option (List α)}(n:Bool)(i:Nat)(hs:sl[i]?=some s)(ho:jU s=false)(h:Eo B sl (iz n) te m):Sn B sl (m7 te (pL i)) (λa=>sl.set i (.ow n a)) m:=λa ha G D σ H s k=>by
 obtain⟨F,O,g,z⟩:=s
 refine h a ha F O H σ _ z λp vs F' H' gr hp r=>k _ _ ?_
 obtain⟨O',z'⟩:=(z.grow gr).own hs ho hp r
 exact⟨F',O',g.trans gr.ff,z'⟩
theorem Sq(i:Nat)(hs:sl[i]?=some s)(ho:jU s=false):Sn B sl (m7 Y6 (pL i)) (λ_=>sl.set i (.od ([]:List (Key×α)))) (some ()):=λa ha G D σ H s k=>by
 obtain⟨F,O,g,k0,z0⟩:=s
 intro p hp
 refine k _ _ ?_
 obtain⟨O1,O2,rfl,z'⟩:=z0.own (s':=.od ([]:List (Key×α))) (x:=some (.ref p)) (c:=(p,.dK [])) (λ_ _ _ z=>.od trivial z) hs ho
 exact⟨F,_,g,k0.add hp,z'.mono (.refl _) (ZC hp) (aJ hp _)⟩
theorem wM{α:Type}:∀{l:List α}{i:Nat}{x:α},l[i]?=some x->l.set i x=l
 |[],_,_,h=>by simp at h
 |_::_,0,_,h=>by simp at h;subst h;rfl
 |_::l,i+1,_,h=>congrArg _ (wM (l:=l) (i:=i) (by simpa using h))
theorem Lj{P:Slot K->Bool}(hs:P s=true):∀{l:SL K}{i:Nat},l.all P=true->(l.set i s).all P=true
 |[],_,h=>h
 |_::_,0,h=>by rw[all_cons,aah] at h;rw[List.set_cons_zero,all_cons,aah];exact⟨hs,h.2⟩
 |_::l,i+1,h=>by rw[all_cons,aah] at h;rw[List.set_cons_succ,all_cons,aah];exact⟨h.1,Lj hs h.2⟩
theorem At.chg{i:Nat}{n:Bool}{xs:List α}(h:At B sl F O H σ)(hs:sl[i]?=some (.ow n xs))(hh:sl.all (λs=>!b_ s)=true):∃p vs,σ[i]?=some (some (.ref p))/\H p=some (.lst vs)/\A2 (rp K (reg B F H (iz n))) vs xs /\
  ∀(ws:List V)(ys:List α),A2 (rp K (reg B F H (iz n))) ws ys->∃O',At B (sl.set i (.ow n ys)) F O' (upd H p (.lst ws)) σ:=by
 obtain⟨k,z0⟩:=h
 obtain⟨O1,O2,p,vs,rfl,h1,h2,h3,_⟩:=z0.jK hs
 refine⟨p,vs,h1,k.one.2.2,h2,λws ys r=>⟨_,k.chg (.lst ws),?_⟩⟩
 have z:=h3 (.ow n ys) (some (.ref p)) (p,.lst ws) λ_ _ _ z=>.ow r z
 rw[wM h1] at z
 exact z.mut Vx (Lj rfl hh)
theorem At.qX(h:At B sl F O H σ)(hs:sl[i]?=some (.od kvs))(hh:sl.all (λs=>!b_ s)=true):∃p ks,σ[i]?=some (some (.ref p))/\H p=some (.dK ks)/\A2 (λ(x:Key×V) (y:Key×α)=>x.1=y.1/\rp K F x.2 y.2) ks kvs /\
  ∀(ws:List (Key×V))(ys:List (Key×α)),A2 (λ(x:Key×V) (y:Key×α)=>x.1=y.1/\rp K F x.2 y.2) ws ys->∃O',At B (sl.set i (.od ys)) F O' (upd H p (.dK ws)) σ:=by
 obtain⟨k,z0⟩:=h
 obtain⟨O1,O2,p,vs,rfl,h1,h2,h3,_⟩:=z0.tW hs
 refine⟨p,vs,h1,k.one.2.2,h2,λws ys r=>⟨_,k.chg (.dK ws),?_⟩⟩
 have z:=h3 (.od ys) (some (.ref p)) (p,.dK ws) λ_ _ _ z=>.od r z
 rw[wM h1] at z
 exact z.mut Vx (Lj rfl hh)
theorem Ox(i:Nat)(hs:sl[i]?=some (.ow n xs))(hh:sl.all (λs=>!b_ s)=true)(h:Ex B sl (iz n) te m) :
  Sn B sl (Ht (Fx K "list" RW (cT i) (yK te aY))) (λys=>sl.set i (.ow n ys)) (m.bind λa=>push xs a):=λys ha G D σ H s k=>by
 cases m with
 |none=>cases ha
 |some a =>
  have ha':push xs a=some ys:=ha
  unfold push at ha'
  split at ha'
  case isFalse=>cases ha'
  rename_i hl
  cases ha'
  obtain⟨F,O,g,z⟩:=s
  obtain⟨p,vs,h1,h2,h3,_⟩:=z.chg hs hh
  refine⟨_,h1,.inl ⟨rfl,_,aV.of h2⟩,?_⟩
  refine h a rfl F O H σ _ z λv F' H' gr r=>?_
  obtain⟨p',vs',h1',h2',h3',h4'⟩:=(z.grow gr).chg hs hh
  have e:=h1.symm.trans h1'
  cases e
  obtain⟨O',z'⟩:=h4' (vs'++[v]) (xs++[a]) (h3'.snoc r)
  exact⟨p,vs',v,rfl,rfl,h2',yw (by rw[h3'.len];exact hl),k _ _ ⟨F',O',g.trans gr.ff,z'⟩⟩
theorem Ss(i:Nat)(hs:sl[i]?=some (.ow n xs))(hh:sl.all (λs=>!b_ s)=true)(hv:Ex B sl (iz n) te m)(hi:Ex B sl .hp ti mi) :
  Sn B sl (m7 te (Nk (cT i) ti tK)) (λys=>sl.set i (.ow n ys)) (m.bind λa=>mi.bind λk=>qW xs k a):=λys ha G D σ H s k=>by
 cases m with
 |none=>cases ha
 |some a =>
  cases mi with
  |none=>cases ha
  |some ix =>
   have ha':qW xs ix a=some ys:=ha
   obtain⟨F,O,g,z⟩:=s
   refine hv a rfl F O H σ _ z λv F' H' gr r=>?_
   obtain⟨p,vs,h1,h2,h3,_⟩:=(z.grow gr).chg hs hh
   refine⟨_,h1,?_⟩
   refine hi ix rfl F' O H' σ _ (z.grow gr) λw F2 H2 qG rw=>?_
   cases rw
   obtain⟨p',vs',h1',h2',h3',h4'⟩:=((z.grow gr).grow qG).chg hs hh
   have e:=h1.symm.trans h1'
   cases e
   unfold qW at ha'
   cases ej:qC xs.length ix with
   |none=>rw[ej] at ha';cases ha'
   |some jj =>
    rw[ej] at ha'
    cases ha'
    obtain⟨O',z'⟩:=h4' (vs'.set jj v) (xs.set jj a) (h3'.set (Rp.mono (yD qG (iz n)) r) jj)
    exact⟨p,vs',ix,jj,rfl,rfl,h2',by rw[h3'.len,ej],k _ _ ⟨F2,O',(g.trans gr.ff).trans qG.ff,z'⟩⟩
end
section
variable{K:PySem.W.Frag}{B:Bs}{F H F' H' G:Hp}{O:Own}{sl sl2:SL K}{σ:St}{md:Md}{α β γ:Type}[Rp K α][Rp K β][Rp K γ]{tb u v:TS}{te:TE}{m:Option α}{S S':Type}{al n:Bool}
theorem Sv{S α β:Type}(step:S->α->Option (Out S β)):∀(xs ys:List α)(s:S),vD step (xs++ys) s=(vD step xs s).bind λo=>o.aL λs'=>vD step ys s'
 |[],ys,s=>rfl
 |x::xs,ys,s=>by
  show(step s x).bind _=((step s x).bind _).bind _
  cases step s x with
  |none=>rfl
  |some o =>
   cases o with
   |nx s'=>exact Sv step xs ys s'
   |rt b=>rfl
theorem zMf{S α β:Type}{step:S->α->Option (Out S β)}{xs:List α}{s a:S}{x:α}(h:vD step (xs.take i) s=some (.nx a))(hx:xs[i]?=some x):vD step (xs.take (i+1)) s=step a x:=by
 have e2:xs.take (i+1)=xs.take i++[x]:=by rw[take_add_one,hx]<;>rfl
 rw[e2,Sv,h]
 show(step a x).bind _=step a x
 cases step a x with
 |none=>rfl
 |some o=>cases o<;>rfl
theorem zPk{S α β:Type}{step:S->α->Option (Out S β)}{xs:List α}{s:S}{o:Out S β}{b:β}(h:vD step xs s=some o)(hi:vD step (xs.take i) s=some (.rt b)):o=.rt b:=by
 rw[<-take_append_drop i xs,Sv,hi] at h
 cases h
 rfl
theorem zMg{S α β:Type}{step:S->α->Option (Out S β)}{xs:List α}{s:S}{o:Out S β}(i:Nat)(h:vD step xs s=some o):∃o',vD step (xs.take i) s=some o':=by
 rw[<-take_append_drop i xs,Sv] at h
 cases q:vD step (xs.take i) s with
 |none=>rw[q] at h;cases h
 |some o'=>exact⟨o',rfl⟩
def Yl(K:PySem.W.Frag)(B:Bs)(F':Hp)(n:Bool)(J:It){α:Type}[Rp K α](xs:List α):Prop:=∀(i:Nat)(F2:Hp)(O2:Own)(H2:Hp),Same F' F2->Ok B F2 O2 H2 ->
 (xs.length<=i->J.stop i H2)/\∀x,xs[i]?=some x->J.go i H2/\∀v H3,J.La i H2 v H3->∃F3,aR B F2 H2 O2 F3 H3/\rp K (reg B F3 H3 (iz n)) v x
def Ei(B:Bs)(sl:SL K)(n:Bool)(wi:TI){α:Type}[Rp K α](mi:Option (List α)):Prop :=
 ∀xs,mi=some xs->∀(F:Hp)(O:Own)(H:Hp)(σ:St)(R:It->Hp->Prop),At B sl F O H σ->(∀(J:It)(F' H':Hp),aR B F H O F' H'->Yl K B F' n J xs->R J H')->wi σ H R
def Tg(B:Bs)(sl:SL K)(n:Bool)(g:TG){α:Type}[Rp K α](L:α->SL K):Prop :=
 ∀(v:V)(x:α)(F:Hp)(O:Own)(H:Hp)(σ:St)(Q:St->Hp->Prop),At B sl F O H σ->rp K (reg B F H (iz n)) v x->(∀σ',At B (L x) F O H σ'->Q σ' H)->g v σ H Q
theorem zZ(i:Nat)(hs:sl[i]?=some s)(ho:jU s=false):Tg B sl n (pL i) (λx:α=>sl.set i (.fz n x)):=λv x F O H σ Q a r k=>k _ ⟨a.1,a.2.put (λ_ _ _ z=>.fz r z) hs ho⟩
theorem Bh(k:Ok B F O H)(h:reg B F H (iz n) p=some o):H p=some o:=Bc k n p o h
theorem Lk(i j:Nat)(hs:sl[i]?=some s)(ho:jU s=false)(hs':∀x:Slot K,(sl.set i x)[j]?=some s')(ho':jU s'=false) :
  Tg B sl n (Hx K 2 (sY (pL i) (sY (pL j) Nj))) (λx:α×β=>(sl.set i (.fz n x.1)).set j (.fz n x.2)):=λv x F O H σ Q a r k=>by
 obtain⟨p,w1,w2,rfl,h1,h2,h3⟩:=r
 refine⟨p,[w1,w2],rfl,.inl (.inl (Bh a.1 h1)),rfl,w1,[w2],rfl,w2,[],rfl,rfl,?_⟩
 exact k _ ⟨a.1,(a.2.put (s':=.fz n x.1) (λ_ _ _ z=>.fz h2 z) hs ho).put (λ_ _ _ z=>.fz h3 z) (hs' _) ho'⟩
theorem wE{L:S->SL K}{Lx:S->α->SL K}{step:S->α->Option S}(s0:S)(h0:Le sl (L s0))(hi:Ei B (L s0) n wi mi)(hg:∀s,Tg B (L s) n g (Lx s))(hb:∀s x,Sn B (Lx s x) tb L (step s x)) :
  Sn B sl (HN wi g tb) L (mi.bind λxs=>xH step xs s0):=λs1 hs1 G D σ H q k=>by
 cases mi with
 |none=>cases hs1
 |some xs =>
  have hs1:xH step xs s0=some s1:=hs1
  obtain⟨F,O,g0,a⟩:=q.le h0
  refine hi xs rfl F O H σ _ a λJ F' H' gr yl=>?_
  refine⟨λi m σ H=>m=xs.length-i/\i<=xs.length/\∃s,xH step (xs.take i) s0=some s/\Sg B F' (L s) σ H,⟨xs.length,rfl,aa0 _,s0,rfl,F',O,.refl _,a.grow gr⟩,?_⟩
  rintro i m σ H ⟨rfl,hil,s,hs,F2,O2,sf,a2⟩
  obtain⟨y1,y2⟩:=yl i F2 O2 H sf a2.1
  by_cases hlt:i<xs.length
  ·obtain⟨go,y3⟩:=y2 xs[i] (aaf hlt)
   obtain⟨s',s'',e1,e2,e3⟩:=zMh hs1 (aaf hlt)
   rw[hs] at e1
   cases e1
   refine .inr ⟨go,Sg B F' (L s''),λσ' H' z=>⟨xs.length-(i+1),by omega,rfl,hlt,s'',e3,z⟩,λv H3 yd=>?_⟩
   obtain⟨F3,g3,r3⟩:=y3 v H3 yd
   exact hg s v xs[i] F3 O2 H3 σ _ (a2.grow g3) r3 λσ' a'=>hb s xs[i] s'' e2 F' _ σ' H3 ⟨F3,O2,sf.trans g3.ff,a'⟩ λσ2 H2 z=>z
  ·have e:i=xs.length:=by omega
   subst e
   rw[take_length,hs1] at hs
   cases hs
   exact .inl ⟨y1 (aag _),k σ H ⟨F2,O2,(g0.trans gr.ff).trans sf,a2⟩⟩
theorem VH{L:S->SL K}{Lx:S->α->SL K}{step:S->α->Option (Out S β)}(s0:S)(h0:Le sl (L s0))(hi:Ei B (L s0) n wi mi)(hg:∀s,Tg B (L s) n g (Lx s))(hb:∀s x,Sx B (Lx s x) tb al L (step s x)) :
  Sx B sl (HN wi g tb) al L (mi.bind λxs=>vD step xs s0):=λo ho G D σ H q k=>by
 cases mi with
 |none=>cases ho
 |some xs =>
  have ho:vD step xs s0=some o:=ho
  obtain⟨F,O,g0,a⟩:=q.le h0
  refine hi xs rfl F O H σ _ a λJ F' H' gr yl=>?_
  refine⟨λi m σ H=>m=xs.length-i/\i<=xs.length/\∃s,vD step (xs.take i) s0=some (.nx s)/\Sg B F' (L s) σ H,⟨xs.length,rfl,aa0 _,s0,rfl,F',O,.refl _,a.grow gr⟩,?_⟩
  rintro i m σ H ⟨rfl,hil,s,hs,F2,O2,sf,a2⟩
  obtain⟨y1,y2⟩:=yl i F2 O2 H sf a2.1
  by_cases hlt:i<xs.length
  ·obtain⟨go,y3⟩:=y2 xs[i] (aaf hlt)
   have e2:=zMf hs (aaf hlt)
   obtain⟨o',e3⟩:=zMg (i+1) ho
   refine .inr ⟨go,λσ H=>∃s',o'=.nx s'/\Sg B F' (L s') σ H,λσ' H' ⟨s',e,z⟩=>⟨xs.length-(i+1),by omega,rfl,hlt,s',by rw[e3,e],z⟩,λv H3 yd=>?_⟩
   obtain⟨F3,g3,r3⟩:=y3 v H3 yd
   refine hg s v xs[i] F3 O2 H3 σ _ (a2.grow g3) r3 λσ' a'=>hb s xs[i] o' (by rw[<-e2,e3]) F' _ σ' H3 ⟨F3,O2,sf.trans g3.ff,a'⟩ ?_
   cases o' with
   |nx s'=>exactλσ2 H2 z=>⟨s',rfl,z⟩
   |rt b =>
    have:=zPk ho e3
    subst this
    exact k
  ·have e:i=xs.length:=by omega
   subst e
   rw[take_length,ho] at hs
   cases hs
   exact .inl ⟨y1 (aag _),k σ H ⟨F2,O2,(g0.trans gr.ff).trans sf,a2⟩⟩
theorem zRf{L:S->SL K}{cM:S->Option Bool}{bM:S->Option S}(fuel:Nat)(s0:S)(h0:Le sl (L s0))(hc:∀s,Et B (L s) c (cM s))(hb:∀s,Sn B (L s) tb L (bM s)):Sn B sl (Yt c tb) L (FZ cM bM fuel s0):=λs1 hs1 G D σ H q k=>by
 refine⟨λm σ H=>∃s,FZ cM bM m s=some s1/\Sg B G (L s) σ H,⟨fuel,s0,hs1,q.le h0⟩,?_⟩
 rintro m σ H ⟨s,hs,F,O,g,a⟩
 cases m with
 |zero=>cases hs
 |succ m =>
  have hs:((cM s).bind λb=>if b=true then(bM s).bind λs'=>FZ cM bM m s' else some s)=some s1:=hs
  cases e:cM s with
  |none=>rw[e] at hs;cases hs
  |some b =>
   rw[e] at hs
   refine hc s b e F O H σ _ a λF' H' gr=>?_
   cases b with
   |true =>
    have hs:((bM s).bind λs'=>FZ cM bM m s')=some s1:=by simpa using hs
    cases e2:bM s with
    |none=>rw[e2] at hs;cases hs
    |some s' =>
     rw[e2] at hs
     exact jk ⟨Sg B G (L s'),λσ' H' z=>⟨m,ach _,s',hs,z⟩,hb s s' e2 G _ σ H' (Sg.grow g a gr) λ_ _ z=>z⟩
   |false =>
    have hs:some s=some s1:=by simpa using hs
    cases hs
    exact jR (k σ H' (Sg.grow g a gr))
theorem yZ{mi:Option (List α)}(h:Ex B sl (iz n) te mi):Ei B sl n (sZ K te) mi:=λxs hx F O H σ R a k=>by
 refine h xs hx F O H σ _ a λv F' H' gr r=>?_
 obtain⟨p,vs,rfl,h1,h2⟩:=r
 refine⟨p,rfl,⟨vs,aV.of (Bc gr.ok n p _ h1)⟩,k _ F' H' gr λi F2 O2 H2 sf k2=>?_⟩
 have hq:aV K H2 p vs:=aV.of (k2.fh _ _ (sf _ _ (by cases n with|true=>exact aP _ _ h1|false=>exact h1)))
 refine⟨λhl=>⟨vs,hq,by rw[h2.len];exact hl⟩,λx hx=>?_⟩
 obtain⟨w,hw,rw⟩:=h2.at2 hx
 refine⟨⟨vs,w,hq,hw⟩,λv H3 yd=>?_⟩
 obtain⟨e,y⟩:=yd
 subst e
 have:=(hw.symm.trans (y vs hq))
 cases this
 exact⟨F2,.refl k2,Rp.mono (wW n sf) rw⟩
theorem VJ{k i:Nat}{x:Int}(h:((aat k).map acz)[i]?=some x):i<k/\x=i:=by
 rw[getElem?_map] at h
 by_cases q:i<k
 ·rw[getElem?_range q] at h;cases h;exact⟨q,rfl⟩
 ·rw[aa1 (by rw[length_range];omega)] at h;cases h
theorem wO(h:Ex B sl .hp te mi):Ei B sl n (Fi (yK te aY)) (mi.bind wR):=λxs hx F O H σ R a k=>by
 cases mi with
 |none=>cases hx
 |some j =>
  have hx:wR j=some xs:=hx
  unfold wR at hx
  split at hx
  case isFalse=>cases hx
  rename_i hb
  cases hx
  refine h j rfl F O H σ _ a λv F' H' gr r=>?_
  cases r
  refine⟨j,rfl,hb.1,hb.2,k _ F' H' gr λi F2 O2 H2 sf k2=>⟨λhl=>?_,λx hx=>?_⟩⟩
  ·rw[length_map,length_range] at hl;exact hl
  ·obtain⟨h1,rfl⟩:=VJ hx
   refine⟨h1,λv H3 yd=>?_⟩
   obtain⟨rfl,rfl⟩:=yd
   exact⟨F2,.refl k2,by show V.int (0+(i:Int))=V.int i;rw[Int.zero_add]⟩
def tX{α:Type}(xs:List α):List (Int×α):=((aat xs.length).map acz).zip xs
theorem VL{α:Type}{xs:List α}{i:Nat}{x:Int×α}(h:(tX xs)[i]?=some x):x.1=i/\xs[i]?=some x.2:=by
 unfold tX at h
 rw[List.getElem?_zip_eq_some] at h
 exact⟨(VJ h.1).2,h.2⟩
theorem ZL{α:Type}(xs:List α):(tX xs).length=xs.length:=by unfold tX;simp
theorem VN{mi:Option (List α)}(h:Ex B sl (iz n) te mi):Ei B sl n (tR K (yK te aY)) (mi.bind λxs=>some (tX xs)):=λxs hx F O H σ R a k=>by
 cases mi with
 |none=>cases hx
 |some zs =>
  cases(show some (tX zs)=some xs from hx)
  refine h zs rfl F O H σ _ a λv F' H' gr r=>?_
  obtain⟨p,vs,rfl,h1,h2⟩:=r
  refine⟨p,rfl,⟨vs,aV.of (Bc gr.ok n p _ h1)⟩,k _ F' H' gr λi F2 O2 H2 sf k2=>?_⟩
  have hq:aV K H2 p vs:=aV.of (k2.fh _ _ (sf _ _ (by cases n with|true=>exact aP _ _ h1|false=>exact h1)))
  refine⟨λhl=>⟨vs,hq,by rw[h2.len,<-ZL];exact hl⟩,λx hx=>?_⟩
  obtain⟨e1,e2⟩:=VL hx
  obtain⟨w,hw,rw⟩:=h2.at2 e2
  refine⟨⟨vs,w,hq,hw⟩,λv H3 yd=>?_⟩
  obtain⟨t,x',rfl,ht,rfl,y⟩:=yd
  have:=(hw.symm.trans (y vs hq))
  cases this
  have g3:=aR.new k2 ht (.tup [.int i,w])
  refine⟨_,g3,t,.int i,w,rfl,?_,?_,Rp.mono (wW n (sf.trans g3.ff)) rw⟩
  ·exact FT k2 ht (iz n)
  ·rw[e1];rfl
def wD{α β:Type}(c:α->Option Bool)(f:α->Option β)(xs:List α):Option (List β):=if xs.length<cap then xM c f xs else none
theorem Sw{α β:Type}(c:α->Option Bool)(f:α->Option β):∀(xs ys:List α),xM c f (xs++ys)=(xM c f xs).bind λa=>(xM c f ys).bind λb=>some (a++b)
 |[],ys=>by
  rw[nil_append]
  show xM c f ys=(xM c f ys).bind λb=>some ([]++b)
  cases xM c f ys<;>rfl
 |x::xs,ys=>by
  show(c x).bind _=((c x).bind _).bind _
  cases c x with
  |none=>rfl
  |some b =>
   cases b with
   |true =>
    show(f x).bind _=((f x).bind _).bind _
    cases f x with
    |none=>rfl
    |some y =>
     show(xM c f (xs++ys)).bind _=((xM c f xs).bind _).bind _
     rw[Sw c f xs ys]
     cases xM c f xs with
     |none=>rfl
     |some a =>
      show((xM c f ys).bind _).bind _=(xM c f ys).bind _
      cases xM c f ys<;>rfl
   |false=>exact Sw c f xs ys
theorem VP{α β:Type}(c:α->Option Bool)(f:α->Option β):∀{xs:List α}{ys:List β},xM c f xs=some ys->ys.length<=xs.length
 |[],ys,h=>by cases h;exact aag _
 |x::xs,ys,h=>by
  have h:((c x).bind λb=>if b=true then(f x).bind λy=>(xM c f xs).bind λys=>some (y::ys) else xM c f xs)=some ys:=h
  cases e:c x with
  |none=>rw[e] at h;cases h
  |some b =>
   rw[e] at h
   cases b with
   |true =>
    have h:((f x).bind λy=>(xM c f xs).bind λys=>some (y::ys))=some ys:=by simpa using h
    cases e2:f x with
    |none=>rw[e2] at h;cases h
    |some y =>
     rw[e2] at h
     cases e3:xM c f xs with
     |none=>rw[e3] at h;cases h
     |some zs =>
      rw[e3] at h
      cases h
      exact abw (VP c f e3)
   |false =>
    have h:xM c f xs=some ys:=by simpa using h
    exact Nat.le_succ_of_le (VP c f h)
theorem zMr{α β:Type}{c:α->Option Bool}{f:α->Option β}{xs:List α}{zs:List β}(i:Nat)(h:xM c f xs=some zs):∃ys,xM c f (xs.take i)=some ys:=by
 rw[<-take_append_drop i xs,Sw] at h
 cases q:xM c f (xs.take i) with
 |none=>rw[q] at h;cases h
 |some o'=>exact⟨o',rfl⟩
theorem zMs{α β:Type}{c:α->Option Bool}{f:α->Option β}{xs:List α}{zs ys:List β}{x:α}(h:xM c f (xs.take (i+1))=some zs)(hy:xM c f (xs.take i)=some ys)(hx:xs[i]?=some x) :
  (c x=some false/\zs=ys)\/∃y,c x=some true/\f x=some y/\zs=ys++[y]:=by
 have e2:xs.take (i+1)=xs.take i++[x]:=by rw[take_add_one,hx]<;>rfl
 rw[e2,Sw,hy] at h
 have h:(((c x).bind λb=>if b=true then(f x).bind λy=>some [y] else some []).bind λb=>some (ys++b))=some zs:=h
 cases e:c x with
 |none=>rw[e] at h;cases h
 |some b =>
  rw[e] at h
  cases b with
  |true =>
   have h:(((f x).bind λy=>some [y]).bind λb=>some (ys++b))=some zs:=by simpa using h
   cases e2:f x with
   |none=>rw[e2] at h;cases h
   |some y=>rw[e2] at h;cases h;exact .inr ⟨y,rfl,rfl,rfl⟩
  |false =>
   have h:some (ys++[])=some zs:=by simpa using h
   rw[append_nil] at h
   cases h
   exact .inl ⟨rfl,rfl⟩
abbrev Oz:Slot K->Slot K
 |.un=>.un
 |@Slot.fz _ n _ i a=>@Slot.fz _ n _ i a
 |@Slot.hs _ _ i a=>@Slot.hs _ _ i a
 |@Slot.nu _ _ i a=>@Slot.hs _ _ i a
 |@Slot.ow _ _ _ i xs=>@Slot.hs _ _ _ xs
 |@Slot.od _ _ _ _=>.un
theorem aR.lift(k:Ok B F O H)(g:aR B F H [] F' H'):aR B F H O F' H' :=
 ⟨g.ff,g.hh,⟨g.ok.fh,g.ok.h0,g.ok.fa,λx hx=>by
  obtain⟨a1,a2,a3⟩:=k.fo x hx
  exact⟨g.nw _ a1 (by rw[a3];intro z;cases z),a2,g.hh _ _ a3⟩,k.nd⟩,g.nw⟩
theorem Ok.nil(k:Ok B F O H):Ok B F [] H:=⟨k.fh,k.h0,k.fa,λx hx=>(by cases hx),(by simp)⟩
theorem ak.one(a:At B sl F O H σ)(L:Hp)(j:Nat)(hs:sl[j]?=some s):∀{sl':SL K}{σ':St},ak B F L H sl' σ' []->ak B F L H (Oz s::sl') ((σ[j]?).getD none::σ') []:=λ{sl' σ'} h=>by
 cases s with
 |un=>exact .un h
 |fz n b=>obtain⟨v,h1,h2⟩:=a.2.qF hs;rw[h1];exact .fz h2 h
 |hs b=>obtain⟨v,h1,h2⟩:=a.2.Oq hs;rw[h1];exact .hs h2 h
 |nu b=>obtain⟨v,h1,h2⟩:=a.2.FN hs;rw[h1];exact .hs (Rp.mono (aP.trans lo_le) h2) h
 |ow n xs =>
  obtain⟨k,z0⟩:=a
  obtain⟨O1,O2,p,vs,rfl,h1,h2,_⟩:=z0.jK hs
  rw[h1]
  exact .hs ⟨p,vs,rfl,k.one.2.2,h2.imp λ_ _=>Rp.mono (Bc k n)⟩ h
 |od kvs=>exact .un h
def IV(sl:SL K)(n:Nat)(ix:List Nat):SL K:=replicate n .un++ix.map λj=>Oz ((sl[j]?).getD .un)
theorem Bj(a:At B sl F O H σ)(L:Hp)(n:Nat):∀(ix:List Nat),(∀j∈ix,j<sl.length)->ak B F L H (IV sl n ix) (j6 σ n ix) []:=λix hix=>by
 unfold IV j6
 induction n with
 |zero =>
  show ak B F L H ([]++_) ([]++_) []
  rw[nil_append,nil_append]
  induction ix with
  |nil=>exact .nil
  |cons j ix ih =>
   rw[map_cons,map_cons]
   have hl:=hix j mem_cons_self
   have hj:sl[j]?=some sl[j]:=aaf hl
   have z:=ak.one a L j hj (ih λk hk=>hix k (mem_cons_of_mem _ hk))
   rw[show(sl[j]?).getD .un=sl[j] by rw[hj]<;>rfl]
   exact z
 |succ n ih=>exact .un ih
inductive pR:SL K->SL K->Prop
 |nil:pR [] []
 |eq {s:Slot K} {a b:SL K}:pR a b->pR (s::a) (s::b)
 |un {s:Slot K} {a b:SL K}:pR a b->pR (s::a) (.un::b)
theorem ak.le0(l:pR sl sl2):∀{σ:St},ak B F L H sl σ []->ak B F L H sl2 σ []:=by
 induction l with
 |nil=>intro σ h;exact h
 |eq _ ih =>
  intro σ h
  cases h with
  |un h=>exact .un (ih h)
  |fz r h=>exact .fz r (ih h)
  |hs r h=>exact .hs r (ih h)
  |nu r h=>exact .nu r (ih h)
 |un _ ih =>
  intro σ h
  cases h with
  |un h=>exact .un (ih h)
  |fz r h=>exact .un (ih h)
  |hs r h=>exact .un (ih h)
  |nu r h=>exact .un (ih h)
theorem wC{c:α->Option Bool}{f:α->Option β}{ix:List Nat}(hix:(ix.all λj=>decide (j<sl.length))=true)(hI:mJ=IV sl no ix)(hi:Ei B sl n wi mi)(hg:Tg B mJ n g Lx)(hc:∀x,Et B (Lx x) tc (c x))(he:∀x,Ex B (Lx x) md te (f x))(hle:∀x,pR (Lx x) mJ) :
  Eo B sl md (Oh no ix wi g tc te) (mi.bind λxs=>wD c f xs):=λzs hz F O H σ Q a k=>by
 cases mi with
 |none=>cases hz
 |some xs =>
  have hz:wD c f xs=some zs:=hz
  unfold wD at hz
  split at hz
  case isFalse=>cases hz
  rename_i hcap
  have hcl:=yw hcap
  refine hi xs rfl F O H σ _ a λJ F' H' gr yl=>?_
  have a':=a.grow gr
  refine⟨λi m ys σ2 H2=>m=xs.length-i/\i<=xs.length/\∃(F2:Hp)(ws:List β),xM c f (xs.take i)=some ws/\aR B F' H' O F2 H2/\ak B F2 (lo F2 [] H2) H2 mJ σ2 []/\A2 (rp K (reg B F2 H2 md)) ys ws,
   ⟨xs.length,rfl,aa0 _,F',[],rfl,.refl a'.1,?_,trivial⟩,?_⟩
  ·rw[hI]
   exact Bj a' _ no ix λj hj=>by simpa using(all_eq_true.mp hix) j hj
  rintro i m ys σ2 H2 ⟨rfl,hil,F2,ws,hw,g2,s2,r2⟩
  have hyl:ys.length<=xs.length:=by
   rw[r2.len]
   exact aar (VP c f hw) (by rw[length_take];omega)
  obtain⟨y1,y2⟩:=yl i F2 O H2 g2.ff g2.ok
  by_cases hlt:i<xs.length
  ·obtain⟨go,y3⟩:=y2 xs[i] (aaf hlt)
   obtain⟨ws',hw'⟩:=zMr (i+1) hz
   refine .inr ⟨go,by omega,λys σ2 H2=>∃(F2:Hp),aR B F' H' O F2 H2/\ak B F2 (lo F2 [] H2) H2 mJ σ2 []/\A2 (rp K (reg B F2 H2 md)) ys ws',λys' σ' H' ⟨F3,z1,z2,z3⟩=>⟨xs.length-(i+1),by omega,rfl,hlt,F3,ws',hw',z1,z2,z3⟩,λv H3 yd=>?_⟩
   obtain⟨F3,g3,r3⟩:=y3 v H3 yd
   have g23:=g2.trans g3
   have SJ:At B mJ F3 [] H3 σ2:=⟨g3.ok.nil,s2.mono g3.ff (Zz ⟨g3.ff,g3.hh,g3.ok.nil,g3.nw⟩) g3.hh⟩
   refine hg v xs[i] F3 [] H3 σ2 _ SJ r3 λσ4 a4=>?_
   have back:∀{F5 H5:Hp},aR B F3 H3 [] F5 H5->aR B F' H' O F5 H5/\ak B F5 (lo F5 [] H5) H5 mJ σ4 []:=λ{F5 H5} g5=>⟨g23.trans (aR.lift g3.ok g5),(a4.grow g5).2.le0 (hle xs[i])⟩
   rcases zMs hw' hw (aaf hlt) with⟨e1,rfl⟩|⟨y,e1,e2,rfl⟩
   ·refine hc xs[i] false e1 F3 [] H3 σ4 _ a4 λF5 H5 g5=>jR ?_
    obtain⟨z1,z2⟩:=back g5
    exact⟨F5,z1,z2,r2.imp λ_ _=>Rp.mono (yD (g3.trans (aR.lift g3.ok g5)) md)⟩
   ·refine hc xs[i] true e1 F3 [] H3 σ4 _ a4 λF5 H5 g5=>jk ?_
    refine he xs[i] y e2 F5 [] H5 σ4 _ (a4.grow g5) λw F6 H6 g6 r6=>?_
    obtain⟨z1,z2⟩:=back (g5.trans g6)
    exact⟨F6,z1,z2,(r2.imp λ_ _=>Rp.mono (yD (g3.trans (aR.lift g3.ok (g5.trans g6))) md)).snoc r6⟩
  ·have e:i=xs.length:=by omega
   subst e
   rw[take_length,hz] at hw
   cases hw
   exact .inl ⟨y1 (aag _),by omega,λp hp=>k p ys F2 H2 (gr.trans g2) hp r2⟩
abbrev isF:Slot K->Bool
 |@Slot.fz _ false _ _ _=>true
 |_=>false
theorem ZM{as:SL K}(k:Nat)(hf:as.all isF=true)(r:Ar F as vs):ak ⟨F,H⟩ F L' H (as++replicate k .un) (vs.map some++replicate k none) []:=by
 induction r with
 |nil =>
  show ak _ _ _ _ ([]++_) ([]++_) []
  rw[nil_append,nil_append]
  induction k with
  |zero=>exact .nil
  |succ k ih=>exact .un ih
 |@cons n _ _ _ _ _ _ r _ ih =>
  rw[all_cons,aah] at hf
  cases n with
  |false=>exact .fz r (ih hf.2)
  |true=>exact absurd hf.1 (by simp)
theorem Ar.len(r:Ar F as vs):vs.length=as.length:=by
 induction r with
 |nil=>rfl
 |cons _ _ ih=>rw[length_cons,length_cons,ih]
theorem zRc{A:Type}{as:A->SL K}{f:A->Option β}{N:List Str}(hf:∀a,(as a).all isF=true)(hl:∀a,(as a).length=np)(hb:∀Fa a,SB ⟨Fa,H⟩ (as a++replicate (N.length-np) .un) t al (f a))(h:cR K al as f vs H Q E):t { nx:=λ_ H'=>Q .non H',rt:=Q } (L2.start N vs) H:=by
 obtain⟨a,b,Fa,s,hfa,r,q⟩:=h
 have e:L2.start N vs=vs.map some++replicate (N.length-np) none:=by
  unfold L2.start
  rw[r.len,hl]
 rw[e]
 refine hb Fa a b hfa Fa _ _ H ⟨Fa,[],.refl _,⟨s,.refl _,λb o h=>.inl h,λx hx=>(by cases hx),(by simp)⟩,ZM _ (hf a) r⟩ (λv H' z=>q v H' z.1 z.2)
theorem ZP{A:Type}{as:A->SL K}{f:A->Option β}(hl:∀a,(as a).length=np)(h:cR K al as f vs H Q E):vs.length=np:=by
 obtain⟨a,b,Fa,s,hfa,r,q⟩:=h
 rw[r.len,hl]
end
open PySem.SeqAt (EqAt RcAt RcNeAt)
class Eqv (K:PySem.W.Frag) (α:Type) [Rp K α] [DecidableEq α] where
 dep:Nat
 det:∀{H:Hp}{v:V}{a b:α},rp K H v a->rp K H v b->a=b
 Ln:∀{X:Cx}{pins:List (Addr×Obj)}{σ:St}{H:Hp}{s:Shared},Inv X pins σ H s->∀{A:Around},A.units+dep<cLine->∀{v w:V}{u u':Value}{a b:α},rp K H v a->rp K H w b->RelV v u->RelV w u'->EqAt A s u u' (decide (a=b))
 SM:∀{X:Cx}{pins:List (Addr×Obj)}{σ:St}{H:Hp}{s:Shared},Inv X pins σ H s->∀{A:Around},A.units+dep<cLine->∀{v w:V}{u u':Value}{a b:α},rp K H v a->rp K H w b->RelV v u->RelV w u'->RcAt A s u u' (decide (a=b))
 SN:∀{X:Cx}{pins:List (Addr×Obj)}{σ:St}{H:Hp}{s:Shared},Inv X pins σ H s->∀{A:Around},A.units+dep<cLine->∀{v w:V}{u u':Value}{a b:α},rp K H v a->rp K H w b->RelV v u->RelV w u'->RcNeAt A s u u' (!decide (a=b))
section
variable{K:PySem.W.Frag}
theorem m_{α:Type}[BEq α][LawfulBEq α][DecidableEq α](a b:α):(a==b)=decide (a=b):=by
 by_cases h:a=b
 ·subst h;simp
 ·simp[h]
instance:Eqv K Int where
 dep:=0
 det h1 h2:=by cases h1;cases h2;rfl
 Ln _ _ _ _ _ _ _ _ _ h1 h2 r1 r2:=by cases h1;cases h2;obtain⟨t,rfl⟩:=r1;obtain⟨t',rfl⟩:=r2;rw[<-m_];exact EqAt.int_int _ _ _ _
 SM _ _ _ _ _ _ _ _ _ h1 h2 r1 r2:=by cases h1;cases h2;obtain⟨t,rfl⟩:=r1;obtain⟨t',rfl⟩:=r2;rw[<-m_];exact RcAt.int_int _ _ _ _
 SN _ _ _ _ _ _ _ _ _ h1 h2 r1 r2:=by cases h1;cases h2;obtain⟨t,rfl⟩:=r1;obtain⟨t',rfl⟩:=r2;rw[<-m_];exact RcNeAt.int_int _ _ _ _
instance:Eqv K Str where
 dep:=0
 det h1 h2:=by cases h1;cases h2;rfl
 Ln _ _ _ _ _ _ _ _ _ h1 h2 r1 r2:=by cases h1;cases h2;obtain⟨t,rfl⟩:=r1;obtain⟨t',rfl⟩:=r2;rw[<-m_];exact EqAt.str_str _ _ _ _
 SM _ _ _ _ _ _ _ _ _ h1 h2 r1 r2:=by cases h1;cases h2;obtain⟨t,rfl⟩:=r1;obtain⟨t',rfl⟩:=r2;rw[<-m_];exact RcAt.str_str _ _ _ _
 SN _ _ _ _ _ _ _ _ _ h1 h2 r1 r2:=by cases h1;cases h2;obtain⟨t,rfl⟩:=r1;obtain⟨t',rfl⟩:=r2;rw[<-m_];exact RcNeAt.str_str _ _ _ _
theorem A2.det{α β:Type}{R:α->β->Prop}(h:∀x y z,R x y->R x z->y=z):∀{xs:List α}{ys zs:List β},A2 R xs ys->A2 R xs zs->ys=zs
 |[],[],[],_,_=>rfl
 |_::_,_::_,_::_,h1,h2=>by rw[h _ _ _ h1.1 h2.1,A2.det h h1.2 h2.2]
 |[],_::_,_,h1,_=>h1.elim
 |[],[],_::_,_,h2=>h2.elim
 |_::_,[],_,h1,_=>h1.elim
 |_::_,_::_,[],_,h2=>h2.elim
theorem uA{α:Type}[DecidableEq α]:∀{xs ys:List α},xs.length=ys.length->((aat xs.length).all λj=>decide (xs[j]?=ys[j]?))=decide (xs=ys)
 |[],[],_=>by simp
 |x::xs,y::ys,h=>by
  have ih:=uA (xs:=xs) (ys:=ys) (by simpa using h)
  rw[length_cons,range_succ_eq_map,all_cons,List.all_map]
  have e:((λj=>decide ((x::xs)[j]?=(y::ys)[j]?))∘Nat.succ)=λj=>decide (xs[j]?=ys[j]?):=by
   funext j
   simp
  rw[e,ih]
  by_cases h1:x=y<;>by_cases h2:xs=ys<;>simp[h1,h2]
 |[],_::_,h=>by simp at h
 |_::_,[],h=>by simp at h
theorem Lp{α:Type}[Rp K α]{xs:List α}(r:Vals vs us)(h:A2 (rp K H) vs xs)(j:Nat)(hj:j<us.toArray.size):∃v x,xs[j]?=some x/\rp K H v x/\RelV v us.toArray[j]:=by
 have l1:j<vs.length:=by rw[r.length];simpa using hj
 obtain⟨u,hu,ru⟩:=r.get (aaf l1)
 obtain⟨x,hx,rx⟩:=h.at1 (aaf l1)
 refine⟨vs[j],x,hx,rx,?_⟩
 have e1:us.toArray[j]=u:=by
  have:us[j]?=some u:=hu
  rw[aaf (by simpa using hj)] at this
  simpa using this
 rw[e1]
 exact ru
theorem VR{A:Around}:A.in1.units=A.units+1:=rfl
instance{α:Type}[Rp K α][DecidableEq α][Eqv K α]:Eqv K (List α) where
 dep:=Eqv.dep K α+1
 det {H v a b} h1 h2:=by
  obtain⟨p,vs,rfl,h1,r1⟩:=h1
  obtain⟨p',vs',e,h2,r2⟩:=h2
  cases e
  cases h1.symm.trans h2
  exact A2.det (R:=rp K H) (λ_ _ _ z1 z2=>Eqv.det (K:=K) z1 z2) r1 r2
 SM {X pins σ H s} I {A} hu {v w u u' a b} h1 h2 q1 q2:=by
  obtain⟨p,vs,rfl,h1,r1⟩:=h1
  obtain⟨p',ws,rfl,h2,r2⟩:=h2
  cases q1;cases q2
  obtain⟨us,s1,p1,_⟩:=I.list (aV.of h1)
  obtain⟨us',s2,p2,_⟩:=I.list (aV.of h2)
  have n1:us.toArray.size=a.length:=by rw[size_toArray,<-r1.len];exact s1.length.symm
  have n2:us'.toArray.size=b.length:=by rw[size_toArray,<-r2.len];exact s2.length.symm
  by_cases hl:a.length=b.length
  ·have z:=RcAt.lists (e:=λj=>decide (a[j]?=b[j]?)) p1.isList p2.isList (by rw[n1,n2];exact hl) (aan (abq _ _) hu) (λj h1 h2=>by
    obtain⟨v,x,e1,e2,e3⟩:=Lp s1 r1 j h1
    obtain⟨w,y,f1,f2,f3⟩:=Lp s2 r2 j h2
    rw[e1,f1]
    have z:=Eqv.Ln (K:=K) I (A:=A.in1) (by rw[VR];omega) e2 f2 e3 f3
    simpa using z)
   rw[n1,uA hl] at z
   exact z
  ·rw[show decide (a=b)=false by simp;intro e;exact hl (by rw[e])]
   exact RcAt.lists_lengths p1.isList p2.isList (by rw[n1,n2];exact bne_iff_ne.mpr hl) (aan (abq _ _) hu)
 SN {X pins σ H s} I {A} hu {v w u u' a b} h1 h2 q1 q2:=by
  obtain⟨p,vs,rfl,h1,r1⟩:=h1
  obtain⟨p',ws,rfl,h2,r2⟩:=h2
  cases q1;cases q2
  obtain⟨us,s1,p1,_⟩:=I.list (aV.of h1)
  obtain⟨us',s2,p2,_⟩:=I.list (aV.of h2)
  have n1:us.toArray.size=a.length:=by rw[size_toArray,<-r1.len];exact s1.length.symm
  have n2:us'.toArray.size=b.length:=by rw[size_toArray,<-r2.len];exact s2.length.symm
  by_cases hl:a.length=b.length
  ·have z:=RcNeAt.lists (e:=λj=>decide (a[j]?=b[j]?)) p1.isList p2.isList (by rw[n1,n2];exact hl) (aan (abq _ _) hu) (λj h1 h2=>by
    obtain⟨v,x,e1,e2,e3⟩:=Lp s1 r1 j h1
    obtain⟨w,y,f1,f2,f3⟩:=Lp s2 r2 j h2
    rw[e1,f1]
    have z:=Eqv.Ln (K:=K) I (A:=A.in1) (by rw[VR];omega) e2 f2 e3 f3
    simpa using z)
   rw[n1,uA hl] at z
   exact z
  ·rw[show decide (a=b)=false by simp;intro e;exact hl (by rw[e])]
   exact RcNeAt.lists_lengths p1.isList p2.isList (by rw[n1,n2];exact bne_iff_ne.mpr hl) (aan (abq _ _) hu)
 Ln {X pins σ H s} I {A} hu {v w u u' a b} h1 h2 q1 q2:=by
  obtain⟨p,vs,rfl,h1,r1⟩:=h1
  obtain⟨p',ws,rfl,h2,r2⟩:=h2
  cases q1;cases q2
  by_cases hp:p=p'
  ·subst hp
   cases h1.symm.trans h2
   rw[show a=b from A2.det (R:=rp K H) (λ_ _ _ z1 z2=>Eqv.det (K:=K) z1 z2) r1 r2]
   simp
   exact EqAt.same _
  ·refine EqAt.of_refs hp ?_
   obtain⟨us,s1,p1,_⟩:=I.list (aV.of h1)
   obtain⟨us',s2,p2,_⟩:=I.list (aV.of h2)
   have n1:us.toArray.size=a.length:=by rw[size_toArray,<-r1.len];exact s1.length.symm
   have n2:us'.toArray.size=b.length:=by rw[size_toArray,<-r2.len];exact s2.length.symm
   by_cases hl:a.length=b.length
   ·have z:=RcAt.lists (e:=λj=>decide (a[j]?=b[j]?)) p1.isList p2.isList (by rw[n1,n2];exact hl) (aan (abq _ _) hu) (λj h1 h2=>by
     obtain⟨v,x,e1,e2,e3⟩:=Lp s1 r1 j h1
     obtain⟨w,y,f1,f2,f3⟩:=Lp s2 r2 j h2
     rw[e1,f1]
     have z:=Eqv.Ln (K:=K) I (A:=A.in1) (by rw[VR];omega) e2 f2 e3 f3
     simpa using z)
    rw[n1,uA hl] at z
    exact z
   ·rw[show decide (a=b)=false by simp;intro e;exact hl (by rw[e])]
    exact RcAt.lists_lengths p1.isList p2.isList (by rw[n1,n2];exact bne_iff_ne.mpr hl) (aan (abq _ _) hu)
theorem vals2(h:Vals [v1,v2] us):∃u1 u2,us=[u1,u2]/\RelV v1 u1/\RelV v2 u2:=by
 cases h with
 |cons a1 h=>cases h with
  |cons a2 h=>cases h;exact⟨_,_,rfl,a1,a2⟩
section
variable{α β:Type}[Rp K α][DecidableEq α][Eqv K α][Rp K β][DecidableEq β][Eqv K β]{X:Cx}{pins:List (Addr×Obj)}{σ:St}{H:Hp}{s:Shared}{A:Around}{a b:α×β}{p p':Addr}{v1 v2 w1 w2:V}
end
def Bk(K:PySem.W.Frag)(α:Type)[Rp K α][DecidableEq α](neg:Bool):R2:=λx y H Q=>∃a b:α,rp K H x a/\rp K H y b/\Q (.bl (if neg=true then !decide (a=b) else decide (a=b))) H
theorem wF(K:PySem.W.Frag)(α:Type)[Rp K α][DecidableEq α][Eqv K α]{X:Cx}(hr:bx k X.A)(hd:Eqv.dep K α<=64:=by exact Nat.le_of_ble_eq_true rfl):jH X (compareOp .Eq) (Bk K α false):=by
 intro pins s σ H x y v u Q I rx ry h
 obtain⟨a,b,h1,h2,q⟩:=h
 exact Eqv.SM (K:=K) I (A:=X.A) (by have:=hr.units;omega) h1 h2 rx ry _ _ _ _ ⟨.bl (decide (a=b)),H,I,rfl,q⟩
theorem IW(K:PySem.W.Frag)(α:Type)[Rp K α][DecidableEq α][Eqv K α]{X:Cx}(hr:bx k X.A)(hd:Eqv.dep K α<=64:=by exact Nat.le_of_ble_eq_true rfl):jH X (compareOp .NotEq) (Bk K α true):=by
 intro pins s σ H x y v u Q I rx ry h
 obtain⟨a,b,h1,h2,q⟩:=h
 exact Eqv.SN (K:=K) I (A:=X.A) (by have:=hr.units;omega) h1 h2 rx ry _ _ _ _ ⟨.bl (!decide (a=b)),H,I,rfl,q⟩
variable{B:Bs}{sl:SL K}{md ZD:Md}{α β:Type}[Rp K α][Rp K β]{t1 t2 t:TE}
theorem wG[DecidableEq α]{m1 m2:Option α}(h1:Ex B sl .hp t1 m1)(h2:Ex B sl .hp t2 m2):Ex B sl md (gF (Bk K α false) t1 t2) (m1.bind λa=>m2.bind λb=>some (decide (a=b))) :=
 yu (f:=λa b=>some (decide (a=b))) (λa b c v w H Q e r1 r2 q=>by cases e;exact⟨a,b,r1,r2,q⟩) h1 h2
theorem I8[DecidableEq α]{m1 m2:Option α}(h1:Ex B sl .hp t1 m1)(h2:Ex B sl .hp t2 m2):Ex B sl md (gF (Bk K α true) t1 t2) (m1.bind λa=>m2.bind λb=>some (!decide (a=b))) :=
 yu (f:=λa b=>some (!decide (a=b))) (λa b c v w H Q e r1 r2 q=>by cases e;exact⟨a,b,r1,r2,q⟩) h1 h2
section
variable{m1 m2:Option Int}
theorem OD{g:Int->Int->V}{f:Int->Int->α}[Sc K α](hg:∀i j,g i j=Sc.val K (f i j))(h1:Ex B sl .hp t1 m1)(h2:Ex B sl .hp t2 m2):Ex B sl md (gF (pJ g) t1 t2) (m1.bind λa=>m2.bind λb=>some (f a b)) :=
 yu (f:=λa b=>some (f a b)) (λa b c v w H Q e r1 r2 q=>by cases e;cases r1;cases r2;exact⟨a,b,rfl,rfl,by rw[hg];exact q⟩) h1 h2
theorem I9(h1:Ex B sl .hp t1 m1)(h2:Ex B sl .hp t2 m2):Ex B sl md (gF (pJ λi j=>.int (i+j)) t1 t2) (m1.bind λa=>m2.bind λb=>some (a+b)):=OD (λ_ _=>rfl) h1 h2
theorem OJ(h1:Ex B sl .hp t1 m1)(h2:Ex B sl .hp t2 m2):Ex B sl md (gF (pJ λi j=>.int (i-j)) t1 t2) (m1.bind λa=>m2.bind λb=>some (a-b)):=OD (λ_ _=>rfl) h1 h2
theorem tY(h1:Ex B sl .hp t1 m1)(h2:Ex B sl .hp t2 m2):Ex B sl md (gF (pJ λi j=>.bl (decide (i<j))) t1 t2) (m1.bind λa=>m2.bind λb=>some (decide (a<b))):=OD (λ_ _=>rfl) h1 h2
theorem Gb(h1:Ex B sl .hp t1 m1)(h2:Ex B sl .hp t2 m2):Ex B sl md (gF (pJ λi j=>.bl (decide (j<i))) t1 t2) (m1.bind λa=>m2.bind λb=>some (decide (b<a))):=OD (λ_ _=>rfl) h1 h2
def cL(a b:Int):Option Int:=if 0<b then some (a%b) else none
def jm(a b:Int):Option Int:=if 0<b/\b<1073741824 then some (a/b) else none
def pU(a b:Int):Option Int:=if 0<=b/\b<=1000000/\a.natAbs<2^64 then some (a^b.toNat) else none
theorem uL(h1:Ex B sl .hp t1 m1)(h2:Ex B sl .hp t2 m2):Ex B sl md (gF (rI (λ_ j=>0<j) λi j=>.int (i%j)) t1 t2) (m1.bind λa=>m2.bind λb=>cL a b) :=
 yu (f:=cL) (λa b c v w H Q e r1 r2 q=>by
  unfold cL at e
  split at e
  case isFalse=>cases e
  rename_i hc
  cases e;cases r1;cases r2
  exact⟨a,b,rfl,rfl,hc,q⟩) h1 h2
theorem I_(h1:Ex B sl .hp t1 m1)(h2:Ex B sl .hp t2 m2):Ex B sl md (gF (rI Nr λi j=>.int (i/j)) t1 t2) (m1.bind λa=>m2.bind λb=>jm a b) :=
 yu (f:=jm) (λa b c v w H Q e r1 r2 q=>by
  unfold jm at e
  split at e
  case isFalse=>cases e
  rename_i hc
  cases e;cases r1;cases r2
  exact⟨a,b,rfl,rfl,hc,q⟩) h1 h2
theorem Ja(h1:Ex B sl .hp t1 m1)(h2:Ex B sl .hp t2 m2):Ex B sl md (gF (rI Ad λi j=>.int (i^j.toNat)) t1 t2) (m1.bind λa=>m2.bind λb=>pU a b) :=
 yu (f:=pU) (λa b c v w H Q e r1 r2 q=>by
  unfold pU at e
  split at e
  case isFalse=>cases e
  rename_i hc
  cases e;cases r1;cases r2
  exact⟨a,b,rfl,rfl,hc,q⟩) h1 h2
end
theorem A2.cQ(h:A2 R vs xs)(e:L2.cQ xs i=some a):∃v,L2.cQ vs i=some v/\R v a:=by
 unfold L2.cQ at e ⊢
 rw[h.len]
 cases q:qC xs.length i with
 |none=>rw[q] at e;cases e
 |some j=>rw[q] at e;exact h.at2 e
theorem uD{m1:Option (List α)}{m2:Option Int}(h1:Ex B sl md t1 m1)(h2:Ex B sl .hp t2 m2):Ex B sl md (gF (tH K) t1 t2) (m1.bind λxs=>m2.bind λi=>L2.cQ xs i):=λc hc F O H σ Q s k=>by
 obtain⟨xs,i,e1,e2,e3⟩:=uN hc
 refine h1 xs e1 F O H σ _ s λv F' H' g r1=>?_
 refine h2 i e2 F' O H' σ _ (s.grow g) λw F2 H2 g2 r2=>?_
 cases r2
 obtain⟨p,vs,rfl,z1,z2⟩:=r1
 obtain⟨u,y1,y2⟩:=z2.cQ e3
 have hle:Same (reg B F' H' md) H2:=(match md with
  |.nw=>aP.trans g.ok.fh
  |.fz=>g.ok.fh
  |.hp=>.refl _:Same (reg B F' H' md) H').trans g2.hh
 exact⟨p,vs,i,u,rfl,rfl,aV.of (hle _ _ z1),y1,k u F2 H2 (g.trans g2) (Rp.mono (yD g2 md) y2)⟩
theorem Jb{n:Bool}{xs:List α}{m2:Option Int}(i:Nat)(hs:sl[i]?=some (.ow n xs))(h2:Ex B sl .hp t2 m2):Ex B sl (iz n) (gF (tH K) (cT i) t2) (m2.bind λi=>L2.cQ xs i):=λc hc F O H σ Q s k=>by
 cases m2 with
 |none=>cases hc
 |some j =>
  have hc:L2.cQ xs j=some c:=hc
  obtain⟨O1,O2,p,vs,rfl,y1,y2,_⟩:=s.2.jK hs
  refine⟨_,y1,?_⟩
  refine h2 j rfl F _ H σ _ s λw F2 H2 g2 r2=>?_
  cases r2
  obtain⟨u,z1,z2⟩:=y2.cQ hc
  exact⟨p,vs,j,u,rfl,rfl,aV.of (g2.hh _ _ s.1.one.2.2),z1,k u F2 H2 g2 (Rp.mono (yD g2 (iz n)) z2)⟩
abbrev Jc(K:PySem.W.Frag):List V->Hp->VK->Prop:=λxs H Q=>∃p ys,xs=[.ref p]/\(aV K H p ys\/gZ K H p ys)/\Q (.int ys.length) H
theorem Bo{m:Option (List α)}(h:Ex B sl .hp t m):Ex B sl md (yq (Jc K) (yK t aY)) (m.bind λxs=>some (xs.length:Int)):=λc hc F O H σ Q s k=>by
 cases m with
 |none=>cases hc
 |some xs =>
  cases(show some (xs.length:Int)=some c from hc)
  refine h xs rfl F O H σ _ s λv F' H' g r1=>?_
  obtain⟨p,vs,rfl,z1,z2⟩:=r1
  exact⟨p,vs,rfl,.inl (aV.of z1),k _ F' H' g (by show V.int vs.length=V.int xs.length;rw[z2.len])⟩
abbrev Gd(K:PySem.W.Frag):List V->Hp->VK->Prop:=λxs H Q=>∃p ys,xs=[V.ref p]/\(aV K H p ys\/gZ K H p ys)/\∀l,H l=none->Q (.ref l) (upd H l (.lst ys))
theorem A2.sc{F F':Hp}[Sc K α]{vs:List V}{xs:List α}(h:A2 (rp K F) vs xs):A2 (rp K F') vs xs:=h.imp λ_ _=>R_
theorem O4[Sc K α]{m:Option (List α)}(h:Ex B sl .hp t m):Eo B sl md (yq (Gd K) (yK t aY)) m:=λc hc F O H σ Q s k=>by
 refine h c hc F O H σ _ s λv F' H' g r1=>?_
 obtain⟨p,vs,rfl,z1,z2⟩:=r1
 exact⟨p,vs,rfl,.inl (aV.of z1),λl hl=>k l vs F' H' g hl z2.sc⟩
class Fl (K:PySem.W.Frag) (α:Type) [Rp K α] [Sc K α] [DecidableEq α]:Prop where
 flat:∀a:α,yr (Sc.val K a)=true
 eq:∀a b:α,Ay (Sc.val K a) (Sc.val K b)=decide (a=b)
instance:Fl K Int:=⟨λ_=>rfl,λa b=>by show(a==b)=_;exact m_ a b⟩
instance:Fl K Str:=⟨λ_=>rfl,λa b=>by show(a==b)=_;exact m_ a b⟩
instance:Fl K Bool:=⟨λ_=>rfl,λa b=>by show(a==b)=_;exact m_ a b⟩
theorem A2.vals[Sc K α]:∀{vs:List V}{xs:List α},A2 (rp K F) vs xs->vs=xs.map (Sc.val K)
 |[],[],_=>rfl
 |_::_,_::_,h=>by rw[map_cons,Sc.is.mp h.1,A2.vals h.2]
 |[],_::_,h=>h.elim
 |_::_,[],h=>h.elim
theorem V0[Sc K α][DecidableEq α][Fl K α](a:α):∀xs:List α,inV (Sc.val K a) (xs.map (Sc.val K))=decide (a∈xs)
 |[]=>by simp[inV]
 |x::xs=>by
  have ih:=V0 a xs
  unfold inV at ih ⊢
  rw[map_cons,any_cons,ih,Fl.eq]
  by_cases h1:x=a
  ·subst h1;simp
  ·by_cases h2:a∈xs<;>simp[h1,h2,ab1 h1]
theorem ZQ[Sc K α][DecidableEq α][Fl K α](xs:List α):(xs.map (Sc.val K)).all yr=true:=by
 rw[List.all_map,all_eq_true]
 intro x _
 exact Fl.flat x
theorem O6[Sc K α][DecidableEq α][Fl K α]{m1:Option α}{m2:Option (List α)}(h1:Ex B sl .hp t1 m1)(h2:Ex B sl .hp t2 m2):Ex B sl md (gF (RV K false) t1 t2) (m1.bind λa=>m2.bind λxs=>some (decide (a∈xs))) :=
 yu (f:=λa xs=>some (decide (a∈xs))) (λa b c v w H Q e r1 r2 q=>by
  cases e
  obtain⟨p,vs,rfl,z1,z2⟩:=r2
  have ev:=Sc.is.mp r1
  have es:=z2.vals
  subst ev es
  refine⟨p,_,rfl,.inl (aV.of z1),Fl.flat a,ZQ b,?_⟩
  have:=V0 (K:=K) a b
  simp only[aao,if_false]
  rw[this]
  exact q) h1 h2
theorem SQ{m:Option (Option α)}(h:Ex B sl .hp t m):Ex B sl md (M7 t) (m.bind λa=>some a.isNone):=λc hc F O H σ Q s k=>by
 cases m with
 |none=>cases hc
 |some a =>
  cases(show some a.isNone=some c from hc)
  refine h a rfl F O H σ _ s λv F' H' g r1=>?_
  cases a with
  |none=>cases r1;exact k _ F' H' g rfl
  |some x=>rw[decide_eq_false r1.1];exact k _ F' H' g rfl
theorem Bp{m:Option (Option α)}(h:Ex B sl .hp t m):Ex B sl md (EY t) (m.bind λa=>some a.isSome):=λc hc F O H σ Q s k=>by
 cases m with
 |none=>cases hc
 |some a =>
  cases(show some a.isSome=some c from hc)
  refine h a rfl F O H σ _ s λv F' H' g r1=>?_
  cases a with
  |none=>cases r1;exact k _ F' H' g rfl
  |some x=>rw[decide_eq_false r1.1];exact k _ F' H' g rfl
theorem V1{m:Option (Option α)}(h:Ex B sl md t m):Ex B sl md t (m.bind λa=>a):=λc hc F O H σ Q s k=>by
 cases m with
 |none=>cases hc
 |some a =>
  cases a with
  |none=>cases hc
  |some x =>
   have e:x=c:=aai hc
   subst e
   exact h (some x) rfl F O H σ _ s λv F' H' g r1=>k v F' H' g r1.2
class Ty (K:PySem.W.Frag) (α:Type) [Rp K α] where
 ty:Value
 is:∀{H:Hp}{v:V}{a:α},rp K H v a->iV K H v ty
instance:Ty K Int:=⟨.type "int",λh=>by cases h;exact .int _⟩
instance:Ty K Bool:=⟨.type "bool",λh=>by cases h;exact .bl _⟩
instance:Ty K Str:=⟨.type "str",λh=>by cases h;exact .str _⟩
instance:Ty K (List α):=⟨.type "list",λ⟨p,vs,e,h,_⟩=>by rw[e];exact .lst h⟩
instance:Ty K (α×β):=⟨.type "tuple",λ⟨p,_,_,e,h,_⟩=>by rw[e];exact .tup h⟩
theorem Lq[Ty K α]{c:Value}{y:V}{b:Bool}{m:Option α}(hb:kitOne K (Ty.ty K α) c=some b)(hy:RelV y c)(h:Ex B sl .hp t m):Ex B sl md (yq (Bb K c) (yK t (yK (tC y) aY))) (m.bind λ_=>some b):=λd hd F O H σ Q s k=>by
 cases m with
 |none=>cases hd
 |some a =>
  cases(show some b=some d from hd)
  refine h a rfl F O H σ _ s λv F' H' g r1=>?_
  exact⟨v,y,_,b,rfl,hy,Ty.is r1,hb,k _ F' H' g rfl⟩
end
def src(xss:List LI)(j:Nat):LI:=((aat xss.length).filter λk=>decide ((j:Int)∈xss.getD k [])).map acz
theorem g8{α:Type}{p q:α->Bool}:∀{l:List α},(∀x∈l,p x=q x)->l.filter p=l.filter q
 |[],_=>rfl
 |a::l,h=>by
  rw[filter_cons,filter_cons,h a mem_cons_self,g8 λx hx=>h x (mem_cons_of_mem _ hx)]
theorem zRb(xss:List LI)(xs:LI)(j:Nat):src (xss++[xs]) j=src xss j++(if(j:Int)∈xs then[(xss.length:Int)] else[]):=by
 unfold src
 rw[length_append,length_singleton,List.range_succ,List.filter_append,map_append]
 congr 1
 ·congr 1
  refine g8 λk hk=>?_
  have hk':k<xss.length:=mem_range.mp hk
  rw[getD_eq_getElem?_getD,getD_eq_getElem?_getD,getElem?_append_left hk']
 ·rw[filter_cons,List.filter_nil,getD_eq_getElem?_getD,getElem?_append_right (aag _),aec]
  by_cases h:(j:Int)∈xs
  ·simp[h]
  ·simp[h]
theorem zRa{xss:List LI}{i:Nat}{xs:LI}(h:xss[i]?=some xs)(j:Nat):src (xss.take (i+1)) j=src (xss.take i) j++(if(j:Int)∈xs then[(i:Int)] else[]):=by
 have hi:i<xss.length:=(aaj.mp h).1
 rw[take_add_one,h]
 have e:(some xs:Option LI).toList=[xs]:=rfl
 rw[e,zRb,length_take,Nat.min_eq_left (ab8 hi)]
theorem Bq(xss:List LI)(j:Nat):(src xss j).length<=xss.length:=by
 unfold src
 rw[length_map]
 exact aar (length_filter_le _ _) (by rw[length_range];exact aag _)
theorem int_at{ns:LI}{i:Nat}{y:V}(h:(ns.map V.int)[i]?=some y):∃z,y=.int z/\ns[i]?=some z:=by
 rw[getElem?_map] at h
 cases e:ns[i]? with
 |none=>rw[e] at h;cases h
 |some z=>rw[e] at h;exact⟨z,(aai h).symm,rfl⟩
theorem Jd{bs:List Addr}{i:Nat}{y:V}(h:(bs.map V.ref)[i]?=some y):∃b,y=.ref b/\bs[i]?=some b:=by
 rw[getElem?_map] at h
 cases e:bs[i]? with
 |none=>rw[e] at h;cases h
 |some z=>rw[e] at h;exact⟨z,(aai h).symm,rfl⟩
theorem Br{bs:List Addr}{i:Nat}{b:Addr}(h:bs[i]?=some b):(bs.map V.ref)[i]?=some (.ref b):=by rw[getElem?_map,h]<;>rfl
theorem yC{α:Type}{xs:List α}{x:α}(h:xs[i]?=some x):i<xs.length:=(aaj.mp h).1
theorem zOz{i:Nat}(h:i<1920):((i:Int)).natAbs.log2<1920:=by
 rw[Int.natAbs_natCast]
 exact aan (Nat.log2_le_self i) h
theorem ZR{ns:LI}(nd:ns.Nodup)(h:ns[i]?=some z):¬z∈ns.take i:=λhz=>by
 obtain⟨j,hj⟩:=mem_iff_getElem?.mp hz
 have hji:j<i:=by
  have:=yC hj
  rw[length_take] at this
  omega
 rw[getElem?_take_of_lt hji] at hj
 have hi:=yC h
 have hjl:=yC hj
 rw[aaf hi] at h
 rw[aaf hjl] at hj
 have e:ns[j]=ns[i]:=(aai hj).trans (aai h).symm
 have:=(getElem_inj nd).mp e
 omega
theorem vC{α:Type}{ns:List α}{z x:α}(h:ns[i]?=some z):x∈ns.take (i+1)↔x∈ns.take i\/x=z:=by
 rw[take_add_one,h]
 simp
def oH(K:PySem.W.Frag)(H:Hp)(bs:List Addr)(xss:List LI):Prop:=bs.length=xss.length/\∀(i:Nat)(b:Addr),bs[i]?=some b->∃xs:LI,xss[i]?=some xs/\aV K H b (xs.map V.int)
theorem oH.same(r:oH K H bs xss)(s:Same H H'):oH K H' bs xss:=⟨r.1,λi b h=>let⟨xs,h1,h2⟩:=r.2 i b h;⟨xs,h1,s.seq h2⟩⟩
def SX(n:Nat)(xss:List LI):Prop:=xss.length=n/\∀xs∈xss,xs≠[]/\xs.Nodup/\xs.length<=100/\∀z∈xs,0<=z/\z<(n:Int)
def oJ(H:Hp)(cs:List Addr)(row:Nat->LI):Prop:=∀(j:Nat)(c:Addr),cs[j]?=some c->H c=some (.lst ((row j).map V.int))
structure Bl(K:PySem.W.Frag)(mg:Str->Option Value):Prop where
 len:mg "len" = none
 range:mg "range" = none
 qY:mg "isinstance" = none
 int:mg "int" = none
 bool:mg "bool" = none
 list:mg "list" = none
 enum:mg "enumerate" = none
 ii:kitOne K (.type "int") (.type "int")=some true
 ib:kitOne K (.type "int") (.type "bool")=some false
 ll:kitOne K (.type "list") (.type "list")=some true
theorem O7:kitOne K (.type "int") (.type "int")=some true:=rfl
theorem O8:kitOne K (.type "list") (.type "list")=some true:=rfl
theorem O9:kitOne K (.type "int") (.type "bool")=some false:=by
 first|rfl|(unfold kitOne kitCls;decide +kernel)
theorem tZ:bootBuiltins "isinstance" = some (.builtin "isinstance"):=by decide +kernel
theorem ZS:bootBuiltins "int" = some (.type "int"):=by decide +kernel
theorem ZV:bootBuiltins "bool" = some (.type "bool"):=by decide +kernel
theorem Lr:bootBuiltins "list" = some (.type "list"):=by decide +kernel
structure News(H H':Hp)(cs:List Addr)(xss:List (List V)):Prop where
 len:cs.length=xss.length
 at_:∀(i:Nat)(c:Addr),cs[i]?=some c->∃xs,xss[i]?=some xs/\H' c=some (.lst xs)
 new:∀c∈cs,H c=none
 nd:cs.Nodup
theorem News.nil:News H H' [] []:=⟨rfl,λi c h=>(by simp at h),λc h=>(by cases h),List.nodup_nil⟩
theorem News.snoc(n:News H H1 cs xss)(s:Same H H1)(h:H1 l=none):News H (upd H1 l (.lst xs)) (cs++[l]) (xss++[xs]):=by
 have hl:∀c∈cs,c≠l:=λc hc e=>by
  obtain⟨i,hi⟩:=mem_iff_getElem?.mp hc
  obtain⟨ys,_,q⟩:=n.at_ i c hi
  rw[e,h] at q
  cases q
 refine⟨by rw[length_append,length_append,n.len]<;>rfl,λi c hc=>?_,λc hc=>?_,?_⟩
 ·by_cases hi:i<cs.length
  ·rw[getElem?_append_left hi] at hc
   obtain⟨ys,h1,h2⟩:=n.at_ i c hc
   refine⟨ys,?_,?_⟩
   ·rw[getElem?_append_left (by rw[<-n.len];exact hi)];exact h1
   ·rw[zJ (hl c (mem_of_getElem? hc))];exact h2
  ·rw[getElem?_append_right (by omega)] at hc
   have hi2:i-cs.length=0:=by
    have:=yC hc
    simp at this
    omega
   rw[hi2] at hc
   have e:l=c:=aai hc
   subst e
   refine⟨xs,?_,zK⟩
   rw[getElem?_append_right (by rw[<-n.len];omega),<-n.len,hi2]<;>rfl
 ·rcases mem_append.mp hc with hc|hc
  ·exact n.new c hc
  ·rw[mem_singleton.mp hc];exact s.free h
 ·rw[nodup_append]
  refine⟨n.nd,by simp,λa ha b hb e=>?_⟩
  rw[mem_singleton.mp hb] at e
  exact hl a ha e
theorem News.O_(n:News H H' cs xss)(h:H' r=none):r∉cs:=λhc=>by
 obtain⟨i,hi⟩:=mem_iff_getElem?.mp hc
 obtain⟨ys,_,q⟩:=n.at_ i r hi
 rw[h] at q
 cases q
structure aG(C:Addr) where
 steps:List LI
 marks:List (Str×LI)
 fair:List LI
 sources:List LI
def V2:List Str:=["many","next_of","before","marked","fair_at","names_at"]
def srcs(xss:List LI):List LI:=(aat xss.length).map (src xss)
def hid(H:Hp)(p:Addr):Hp:=λb=>if b=p then none else H b
section
variable{K:PySem.W.Frag}{C:Addr}
instance:Rp K (aG C):=⟨λF v m=>∃p dx fs vS vM vF vB,v=.ref p/\F p=some (.ins C dx fs)/\fs.lookup ("steps":Str)=some vS/\rp K F vS m.steps/\fs.lookup ("marks":Str)=some vM/\rp K F vM m.marks/\fs.lookup ("fair":Str)=some vF/\rp K F vF m.fair /\
 fs.lookup ("sources":Str)=some vB/\rp K F vB m.sources/\∀g∈V2,fs.lookup g=none,
 λs ⟨p,dx,fs,vS,vM,vF,vB,h1,h2,h3,h4,h5,h6,h7,h8,h9,h10,h11⟩=>⟨p,dx,fs,vS,vM,vF,vB,h1,s _ _ h2,h3,Rp.mono s h4,h5,Rp.mono s h6,h7,Rp.mono s h8,h9,Rp.mono s h10,h11⟩⟩
instance:Nn K (aG C):=⟨λ⟨_,_,_,_,_,_,_,h,_⟩=>by rw[h];intro e;cases e⟩
theorem uU(ns:LI):A2 (rp K F) (ns.map V.int) ns:=A2.of_map (R:=rp K F) (f:=V.int) (λ_=>rfl) ns
theorem ZW:∀{cs:List Addr}{xss:List LI},cs.length=xss.length->(∀(i:Nat)(c:Addr),cs[i]?=some c->∃xs,xss[i]?=some xs/\F c=some (.lst (xs.map V.int)))->A2 (rp K F) (cs.map V.ref) xss
 |[],[],_,_=>trivial
 |c::cs,xs::xss,hl,h=>by
  obtain⟨ys,e1,e2⟩:=h 0 c rfl
  cases e1
  exact⟨⟨c,_,rfl,e2,uU _⟩,ZW (by simpa using hl) λi c' hc=>h (i+1) c' hc⟩
 |[],_::_,hl,_=>by simp at hl
 |_::_,[],hl,_=>by simp at hl
theorem ZX{xss:List LI}(h:i<xss.length):(srcs xss)[i]?=some (src xss i):=by
 unfold srcs
 rw[getElem?_map,getElem?_range h]
 rfl
theorem Bt{cs:List Addr}{xss:List LI}(hl:cs.length=xss.length)(n:oJ H' cs (src xss))(h:∀c∈cs,∀o,H' c=some o->D c=some o):A2 (rp K D) (cs.map V.ref) (srcs xss):=by
 refine ZW (by rw[hl];unfold srcs;simp) λi c hc=>?_
 have hi:=yC hc
 exact⟨_,ZX (by omega),h c (mem_of_getElem? hc) _ (n i c hc)⟩
end
section
variable{K:PySem.W.Frag}{B:Bs}{F H F' H' G:Hp}{O:Own}{sl:SL K}{σ:St}{md:Md}{α β:Type}[Rp K α][Rp K β]{te ta:TE}{C:Addr}
theorem S5{pr:aG C->α}(cl:Cls K C)(na:aW K C f)(hp:∀(R:Hp) (v:V) (x:aG C),rp K R v x->∃p dx fs w,v=.ref p/\R p=some (.ins C dx fs)/\fs.lookup f=some w/\rp K R w (pr x))(h:Ex B sl md ta m) :
  Ex B sl md (m8 K ta f) (m.bind λx=>some (pr x)):=λc hc F O H σ Q s k=>by
 cases m with
 |none=>cases hc
 |some x =>
  cases(show some (pr x)=some c from hc)
  refine h x rfl F O H σ _ s λv F' H' g r=>?_
  obtain⟨p,dx,fs,w,rfl,h1,h2,h3⟩:=hp _ v x r
  have hle:Same (reg B F' H' md) H':=match md with
   |.nw=>aP.trans g.ok.fh
   |.fz=>g.ok.fh
   |.hp=>.refl _
  exact⟨p,C,dx,fs,w,rfl,hle _ _ h1,cl,na,h2,k w F' H' g h3⟩
theorem Z0{m:Option (aG C)}(cl:Cls K C)(na:aW K C "steps")(h:Ex B sl md ta m):Ex B sl md (m8 K ta "steps") (m.bind λx=>some x.steps) :=
 S5 cl na (λR v x ⟨p,dx,fs,vS,vM,vF,vB,h1,h2,h3,h4,_⟩=>⟨p,dx,fs,vS,h1,h2,h3,h4⟩) h
theorem zPx{m:Option (aG C)}(cl:Cls K C)(na:aW K C "marks")(h:Ex B sl md ta m):Ex B sl md (m8 K ta "marks") (m.bind λx=>some x.marks) :=
 S5 cl na (λR v x ⟨p,dx,fs,vS,vM,vF,vB,h1,h2,_,_,h5,h6,_⟩=>⟨p,dx,fs,vM,h1,h2,h5,h6⟩) h
theorem Z1{m:Option (aG C)}(cl:Cls K C)(na:aW K C "fair")(h:Ex B sl md ta m):Ex B sl md (m8 K ta "fair") (m.bind λx=>some x.fair) :=
 S5 cl na (λR v x ⟨p,dx,fs,vS,vM,vF,vB,h1,h2,_,_,_,_,h7,h8,_⟩=>⟨p,dx,fs,vF,h1,h2,h7,h8⟩) h
theorem zJj{m:Option (aG C)}(cl:Cls K C)(na:aW K C "sources")(h:Ex B sl md ta m):Ex B sl md (m8 K ta "sources") (m.bind λx=>some x.sources) :=
 S5 cl na (λR v x ⟨p,dx,fs,vS,vM,vF,vB,h1,h2,_,_,_,_,_,_,h9,h10,_⟩=>⟨p,dx,fs,vB,h1,h2,h9,h10⟩) h
theorem Ge{A:Type}{as:A->SL K}{f:aG C×A->Option β}{ma:Option A}(hg:g∈V2)(h0:Ex B sl .hp ta mm)(h:Ea B sl .hp t as ma) :
  Ex B sl md (Nx C g (cR K false (λx:aG C×A=>.fz false x.1::as x.2) f) [] E0 ta t) (mm.bind λx=>ma.bind λa=>f (x,a)):=λc hc F O H σ Q s kk=>by
 cases mm with
 |none=>cases hc
 |some x =>
  cases ma with
  |none=>cases hc
  |some a =>
   have hc:f (x,a)=some c:=hc
   refine h0 x rfl F O H σ _ s λv F1 H1 g1 r1=>?_
   obtain⟨p,dx,fs,vS,vM,vF,vB,rfl,h2,h3,h4,h5,h6,h7,h8,h9,h10,h11⟩:=id r1
   refine⟨p,dx,fs,rfl,h2,h11 g hg,?_⟩
   refine h a rfl F1 O H1 σ _ (s.grow g1) λvs F' H' g2 r=>?_
   rw[append_nil]
   refine⟨(x,a),c,H',.refl _,hc,.cons (Rp.mono g2.hh r1) r,λv H2 s2 r2=>?_⟩
   have g3:=g2.ok.called s2
   refine kk v _ H2 (g1.trans (g2.trans g3)) ?_
   have r3:=Rp.mono (Ot (F:=F') g2.ok.h0 s2) r2
   exact match md with
   |.nw=>r3
   |.fz=>Rp.mono aP r3
   |.hp=>Rp.mono (aP.trans g3.ok.fh) r3
def En(B:Bs)(sl:SL K)(t:TE){α:Type}[Rp K α](m:Option α):Prop :=
 ∀a,m=some a->∀(F:Hp)(O:Own)(H:Hp)(σ:St)(Q:VK),At B sl F O H σ->(∀(v:V)(F' H1 H2:Hp),aR B F H O F' H1->Same H1 H2->rp K (dif H2 H1) v a->Q v H2)->t σ H Q
theorem En.ex{m:Option α}(h:En B sl te m):Ex B sl md te m:=λc hc F O H σ Q s kk=>h c hc F O H σ Q s λv F' H1 H2 g s2 r2=>by
 have g2:=g.ok.called s2
 refine kk v _ H2 (g.trans g2) ?_
 have r3:=Rp.mono (Ot (F:=F') g.ok.h0 s2) r2
 exact match md with
 |.nw=>r3
 |.fz=>Rp.mono aP r3
 |.hp=>Rp.mono (aP.trans g2.ok.fh) r3
theorem Gf(h1:F b=none)(h2:∀x∈O,x.1≠b):lo F O H b=H b:=by
 unfold lo
 rw[if_neg]
 rw[h1]
 simp
 exactλx hx=>h2 _ hx rfl
structure Bu where
 n:Unit
instance:Rp K Bu:=⟨λF v _=>∃p vs,v=.ref p/\F p=some (.lst vs),λs ⟨p,vs,h1,h2⟩=>⟨p,vs,h1,s _ _ h2⟩⟩
class IsL (K:PySem.W.Frag) (α:Type) [Rp K α]:Prop where
 il:∀{F:Hp}{v:V}{a:α},rp K F v a->∃p vs,v=.ref p/\F p=some (.lst vs)
instance:IsL K (List α):=⟨λ⟨p,vs,h1,h2,_⟩=>⟨p,vs,h1,h2⟩⟩
instance:IsL K Bu:=⟨λh=>h⟩
abbrev Z2:Slot K->Bool
 |@Slot.hs _ _ _ _=>true
 |@Slot.nu _ _ _ _=>true
 |_=>false
instance(n:Nat)(xss:List LI):Decidable (SX n xss):=by unfold SX;infer_instance
theorem Z4{s:Slot K}(i:Nat)(hs:sl[i]?=some (.fz n x))(h:Ex B sl .hp te m):Sn B sl (Nm i te (RB f)) (λa=>sl.set i (.fz true a)) (m.bind λy=>some (f x y)):=λa ha G D σ H s k=>by
 cases m with
 |none=>cases ha
 |some y =>
  cases(show some (f x y)=some a from ha)
  obtain⟨F,O,g,z⟩:=s
  obtain⟨v,h1,h2⟩:=z.2.qF hs
  have h2:v=.int x:=Sc.is.mp h2
  subst h2
  refine⟨_,h1,h y rfl F O H σ _ z λw F' H' gr r=>?_⟩
  cases r
  exact⟨x,y,rfl,rfl,k _ _ (Sg.set (n:=true) (a:=f x y) (g.trans gr.ff) (z.grow gr) hs rfl rfl)⟩
end
section
variable{K:PySem.W.Frag}{X:Cx}
theorem Z5(K:PySem.W.Frag)(h:X.K=K:=by rfl):jH X (compareOp .In) (RV K false):=by subst h;exact zOe
theorem cW(K:PySem.W.Frag)(h:X.K=K:=by rfl):N8 X (tH K):=by subst h;exact Zb
theorem dJ(K:PySem.W.Frag)(h:X.K=K:=by rfl):N8 X (qU K):=by subst h;exact Ik
theorem za(K:PySem.W.Frag)(h:X.K=K:=by rfl):sH X (.builtin "len") (Jc K):=by subst h;exact zIc
theorem Pa(K:PySem.W.Frag)(h:X.K=K:=by rfl):sH X (.type "list") (Gd K):=by subst h;exact zIb
theorem t_(K:PySem.W.Frag)(hc:∀y u,RelV y c->RelV y u->u=c)(h:X.K=K:=by rfl):sH X (.builtin "isinstance") (Bb K c):=by subst h;exact zS7 hc
theorem Gg(K:PySem.W.Frag)(he:PE X e ta)(h:X.K=K:=by rfl)(hb:attributeBase e f X.env (eval e X.env)=eval e X.env:=by rfl):PE X (.Attribute e f pos) (m8 K ta f):=by subst h;exact YG he hb
theorem yY(K:PySem.W.Frag)(hl:PE X l tl)(h:X.K=K:=by rfl):PI X tg l (sZ K tl):=by subst h;exact UL hl
theorem V3(K:PySem.W.Frag)(hm:X.mg "enumerate" = none)(ha:PA X [a] ta)(h:X.K=K:=by rfl)(hg:Gl X "enumerate":=by rfl)(hs:starEach [a] X.env=[(false,eval a X.env)]:=by rfl) :
  PI X (.Tuple elts k tp) (.Call (.Name "enumerate" p) [a] [] pos) (tR K ta):=by subst h;exact Zw hg hm ha hs
theorem uc(K:PySem.W.Frag){o e:Expr}{es:List Expr}{to:TE}{t:TA}{name:Str}{apos cpos:Pos}{T id:String}{r:V->List V->Hp->VK->Prop}(pa:PlainAttrs T)(slot:PySem.Slot T name id)(hty:typeOf (.builtin id)=pure (.type "method_descriptor"))(hm:Lf X id r)(ho:PE X o to)(ha:PA X (e::es) t)(h:X.K=K:=by rfl)(hbase:attributeBase o name X.env (eval o X.env)=eval o X.env:=by rfl)(hfew:((backTo cpos (starEach (e::es) X.env)).all (λx=>!x.1)&&(backToKw cpos (keywordEach [] X.env)).all (λx=>x.1.isSome)
   && decide ((e::es).length+([]:List Keyword).length+(if([]:List Keyword).isEmpty then 0 else 1)<30))=true:=by rfl)(hline:(apos.endLine==cpos.line)=true:=by rfl)(hs:starEach (e::es) X.env=(false,eval e X.env)::starEach es X.env:=by rfl)(hplain:(backTo cpos (starEach es X.env)).any (·.1)=false:=by rfl) :
  PE X (.Call (.Attribute o name apos) (e::es) [] cpos) (Fx K T r to t):=by subst h;exact Fy pa slot hty hm ho ha hbase hfew hline hs hplain
theorem Je(K:PySem.W.Frag){o:Expr}{to:TE}{name:Str}{apos cpos:Pos}{T id:String}{r:V->List V->Hp->VK->Prop}(pa:PlainAttrs T)(slot:PySem.Slot T name id)(hty:typeOf (.builtin id)=pure (.type "method_descriptor"))(hm:Lf X id r)(ho:PE X o to)(h:X.K=K:=by rfl)(hbase:attributeBase o name X.env (eval o X.env)=eval o X.env:=by rfl)(hline:(apos.endLine==cpos.line)=true:=by rfl):PE X (.Call (.Attribute o name apos) [] [] cpos) (Io K T r to):=by subst h;exact Ip pa slot hty hm ho hbase hline
theorem Jf:bootBuiltins "all" = some (.builtin "all"):=by decide +kernel
theorem V4:bootBuiltins "sorted" = some (.builtin "sorted"):=by decide +kernel
theorem zc:Et B sl tQ (some true):=λa ha F O H σ Q s k=>by cases ha;exact k F H (.refl s.1)
theorem S6{α:Type}:∀c:List α,some []=some c->c.length<=0:=λc h=>by cases h;exact aag _
theorem Gh{α:Type}{m:Option α}{ma:Option (List α)}(h:∀b,ma=some b->b.length<=n):∀c,(m.bind λa=>ma.bind λb=>some (a::b))=some c->c.length<=n+1:=λc e=>by
 cases m with
 |none=>cases e
 |some a =>
  cases ma with
  |none=>cases e
  |some b=>cases e;exact abw (h b rfl)
theorem bnd{α β:Type}(a:α)(f:α->Option β):(some a).bind f=f a:=(λ(x:Option α) (e:x=some a)=>by subst e;rfl:∀x:Option α,x=some a->x.bind f=f a) _ rfl
def fuel:Nat:=100000
structure bJ(P:Program)(w:World)(K:PySem.W.Frag)(mg:Str->Option Value)(base:Heap)(k:Nat)(x:Str)(ps:List Str)(sp:Sp):Prop where
 ex:∃f fd,aq P w K mg base aN k f fd ps sp/\Binds K fd ps []/\keepIn K (.ref f)=true/\mg x=some (.ref f)
structure fL(P:Program)(w:World)(K:PySem.W.Frag)(mg:Str->Option Value)(base:Heap)(k:Nat)(C:Addr)(m:Str)(ps:List Str)(sp:Sp):Prop where
 ex:∃f fd,aq P w K mg base aN k f fd ps sp/\Binds K fd ps []/\Meth K C m f
 cl:Cls K C
theorem bJ.mono(c:bJ P w K mg base j x ps sp)(h:j<=k):bJ P w K mg base k x ps sp:=by
 obtain⟨f,fd,h1,h2⟩:=c.ex
 exact⟨f,fd,h1.mono h,h2⟩
theorem fL.mono(c:fL P w K mg base j C x ps sp)(h:j<=k):fL P w K mg base k C x ps sp:=by
 obtain⟨f,fd,h1,h2⟩:=c.ex
 exact⟨⟨f,fd,h1.mono h,h2⟩,c.cl⟩
theorem yA(c:bJ X.prog X.w X.K X.mg X.base k x ps sp)(hr:bx k X.A)(ha:PA X (e::es) t)(hg:Gl X x:=by rfl)(hdb:(x==("__debug__":Str))=false:=by decide)(he:starEach (e::es) X.env=(false,eval e X.env)::starEach es X.env:=by rfl)(hpl:(backTo pos (starEach es X.env)).any (·.1)=false:=by rfl):PE X (.Call (.Name x p) (e::es) [] pos) (Ld sp [] E0 t):=by
 obtain⟨f,fd,h1,h2,h3,h4⟩:=c.ex
 exact Aj h1 hr hg h4 h3 h2 .nil vL ha hdb he hpl
theorem S7(c:fL X.prog X.w X.K X.mg X.base k C m ps sp)(hr:bx k X.A)(he:PE X o ta)(ha:PA X (e::es) t)(hst:starEach (e::es) X.env=(false,eval e X.env)::starEach es X.env:=by rfl)(hpl:(backTo pos (starEach es X.env)).any (·.1)=false:=by rfl)(ht:eval (.Call (.Attribute o m apos) (e::es) [] pos) X.env=(do
   let ov <-eval o X.env
   standAt apos.atName
   let(f,first) <-holding [ov] (getMethod ov m pl)
   callWith pos f first (backTo pos (starEach (e::es) X.env)) (backToKw pos (keywordEach [] X.env))):=by rfl):PE X (.Call (.Attribute o m apos) (e::es) [] pos) (Nx C m sp [] E0 ta t):=by
 obtain⟨f,fd,h1,h2,h3⟩:=c.ex
 exact Ak he c.cl h3 h1 hr h2 .nil vL ha hst hpl ht
theorem S8(c:fL X.prog X.w X.K X.mg X.base k C m ps sp)(hr:bx k X.A)(he:PE X o ta)(ht:eval (.Call (.Attribute o m apos) [] [] pos) X.env=(do
   let ov <-eval o X.env
   standAt apos.atName
   let(f,first) <-holding [ov] (getMethod ov m pl)
   callWith pos f first (backTo pos (starEach [] X.env)) (backToKw pos (keywordEach [] X.env))):=by rfl):PE X (.Call (.Attribute o m apos) [] [] pos) (Nx C m sp [] E0 ta aY):=by
 obtain⟨f,fd,h1,h2,h3⟩:=c.ex
 exact zRy he c.cl h3 h1 hr h2 .nil vL ht
end
section
variable{P:Program}{w:World}{K:PySem.W.Frag}{mg:Str->Option Value}{base:Heap}
theorem yE{A β:Type}[Rp K β]{as:A->SL K}{fM:A->Option β}(F:aX K x qual st f fd)(S:ao N ps (zI st))(hf:∀a,(as a).all isF=true)(hl:∀a,(as a).length=ps.length)(hb:∀(cdv:Value) (A:Around) (outer:List Env) (s:Shared) (H:Hp) (E:XK),bx k (A.deeper (ac3 qual (zI st) s.heap.objs.size f cdv)) ->
   ∃t,oE (lY aN P w K mg base N qual (zI st) f cdv A outer s H E).Aa (xL st) t/\∀Fa a,SB ⟨Fa,H⟩ (as a++replicate (N.length-ps.length) .un) t al (fM a)) :
  aq P w K mg base aN (k+1) f fd ps (cR K al as fM) :=
 F.ok S (λvs H Q E h=>ZP hl h) λcdv A outer s H vs Q E hr h=>by
  obtain⟨t,p,q⟩:=hb cdv A outer s H E hr
  exact⟨t,p,zRc hf hl q h⟩
end
def W{α:Type}(m:Option α)(P:α->Prop):Prop:=∃a,m=some a/\P a
section
variable{α β S:Type}
theorem aj:W (some a) P↔P a:=⟨λ⟨_,e,h⟩=>by cases e;exact h,λh=>⟨a,rfl,h⟩⟩
theorem Bv:W (none:Option α) P↔False:=⟨λ⟨_,e,_⟩=>(by cases e),abb⟩
theorem zC{m:Option α}:W (m.bind f) Q↔W m λa=>W (f a) Q:=by
 cases m with
 |none=>exact⟨λ⟨_,e,_⟩=>(by cases e),λ⟨_,e,_⟩=>(by cases e)⟩
 |some a=>exact⟨λh=>⟨a,rfl,h⟩,λ⟨_,e,h⟩=>by cases e;exact h⟩
theorem ud:W ((Out.nx s:Out S β).els f) Q↔W (f s) Q:=ae1
theorem W.imp{Q:α->Prop}(h:W m P)(f:∀a,P a->Q a):W m Q:=let⟨a,e,p⟩:=h;⟨a,e,f a p⟩
theorem qH:W (cL a b) Q↔0<b/\Q (a%b):=by
 unfold cL
 split
 ·rename_i h;rw[aj];exact⟨λq=>⟨h,q⟩,λq=>q.2⟩
 ·rename_i h;rw[Bv];exact⟨abb,λq=>h q.1⟩
theorem Jg:W (jm a b) Q↔(0<b/\b<1073741824)/\Q (a/b):=by
 unfold jm
 split
 ·rename_i h;rw[aj];exact⟨λq=>⟨h,q⟩,λq=>q.2⟩
 ·rename_i h;rw[Bv];exact⟨abb,λq=>h q.1⟩
theorem Pb:W (pU a b) Q↔(0<=b/\b<=1000000/\a.natAbs<2^64)/\Q (a^b.toNat):=by
 unfold pU
 split
 ·rename_i h;rw[aj];exact⟨λq=>⟨h,q⟩,λq=>q.2⟩
 ·rename_i h;rw[Bv];exact⟨abb,λq=>h q.1⟩
theorem Pg:W (push xs a) Q↔xs.length<cap/\Q (xs++[a]):=by
 unfold push
 split
 ·rename_i h;rw[aj];exact⟨λq=>⟨h,q⟩,λq=>q.2⟩
 ·rename_i h;rw[Bv];exact⟨abb,λq=>h q.1⟩
def rng(n:Int):LI:=(aat n.toNat).map acz
theorem uV:W (wR n) Q↔(-(2^62)<=n/\n<2^62)/\Q (rng n):=by
 unfold wR rng
 split
 ·rename_i h;rw[aj];exact⟨λq=>⟨h,q⟩,λq=>q.2⟩
 ·rename_i h;rw[Bv];exact⟨abb,λq=>h q.1⟩
theorem vI(h:0<=n):((rng n).length:Int)=n:=by
 unfold rng
 rw[length_map,length_range]
 omega
theorem V5{n:Int}{i:Nat}{x:Int}(h:(rng n)[i]?=some x):x=i/\(i:Int)<n:=by
 obtain⟨a,b⟩:=VJ h
 exact⟨b,by omega⟩
theorem iW:x∈rng n↔0<=x/\x<n:=by
 unfold rng
 rw[mem_map]
 constructor
 ·rintro⟨a,h,rfl⟩
  rw[mem_range] at h
  exact⟨acj _,by show(a:Int)<n;omega⟩
 ·intro⟨h1,h2⟩
  exact⟨x.toNat,mem_range.mpr (by omega),by show((x.toNat:Nat):Int)=x;omega⟩
theorem Z6(h:0<=i):L2.cQ xs i=xs[i.toNat]?:=by
 unfold L2.cQ qC
 rw[if_pos h]
 by_cases q:i<xs.length
 ·rw[if_pos q];rfl
 ·rw[if_neg q,aa1 (by omega)];rfl
theorem gO(h0:0<=i):W (L2.cQ xs i) Q↔∃a,xs[i.toNat]?=some a/\Q a:=by
 rw[Z6 h0]
 exact ae1
theorem zRj{xs:List α}{i:Int}{a:α}(h0:0<=i)(h1:i<xs.length):qW xs i a=some (xs.set i.toNat a):=by
 unfold qW qC
 rw[if_pos h0,if_pos h1]
 rfl
theorem Ph{xs:List α}{i:Int}{a:α}{Q:List α->Prop}(h0:0<=i)(h1:i<xs.length):W (qW xs i a) Q↔Q (xs.set i.toNat a):=by
 rw[zRj h0 h1,aj]
theorem wH{step:S->α->Option S}{Q:S->Prop}(I:Nat->S->Prop)(h0:I 0 s)(hs:∀i x s,xs[i]?=some x->I i s->W (step s x) (I (i+1)))(hd:∀s,I xs.length s->Q s):W (xH step xs s) Q:=by
 have key:∀(ys:List α)(i:Nat)(s:S),(∀j x,ys[j]?=some x->xs[i+j]?=some x)->i+ys.length=xs.length->I i s->W (xH step ys s) Q:=by
  intro ys
  induction ys with
  |nil=>intro i s _ hl h;exact⟨s,rfl,hd s ((show i=xs.length from hl)▸h)⟩
  |cons y ys ih =>
   intro i s hy hl h
   show W ((step s y).bind λs'=>xH step ys s') Q
   rw[zC]
   refine(hs i y s (hy 0 y rfl) h).imp λs' h'=>ih (i+1) s' (λj x hx=>?_) (by rw[length_cons] at hl;omega) h'
   have:=hy (j+1) x (by simpa using hx)
   rw[show i+1+j=i+(j+1) by omega]
   exact this
 exact key xs 0 s (λj x h=>by rw[ab9];exact h) (ab9 _) h0
theorem Z7{step:S->α->Option (Out S β)}:vD step (x::xs) s=(step s x).bind λo=>o.aL λs'=>vD step xs s':=by
 rw[vD]
 congr 1
theorem Bw{step:S->α->Option (Out S β)}{Q:Out S β->Prop}(I:Nat->S->Prop)(h0:I 0 s)(hs:∀i x s,xs[i]?=some x->I i s->W (step s x) λo=>∃s',o=.nx s'/\I (i+1) s')(hd:∀s,I xs.length s->Q (.nx s)):W (vD step xs s) Q:=by
 have key:∀(ys:List α)(i:Nat)(s:S),(∀j x,ys[j]?=some x->xs[i+j]?=some x)->i+ys.length=xs.length->I i s->W (vD step ys s) Q:=by
  intro ys
  induction ys with
  |nil=>intro i s _ hl h;exact⟨.nx s,rfl,hd s ((show i=xs.length from hl)▸h)⟩
  |cons y ys ih =>
   intro i s hy hl h
   rw[Z7,zC]
   refine(hs i y s (hy 0 y rfl) h).imp ?_
   rintro o ⟨s',rfl,h'⟩
   refine ih (i+1) s' (λj x hx=>?_) (by rw[length_cons] at hl;omega) h'
   have:=hy (j+1) x (by simpa using hx)
   rw[show i+1+j=i+(j+1) by omega]
   exact this
 exact key xs 0 s (λj x h=>by rw[ab9];exact h) (ab9 _) h0
theorem Bx{c:S->Option Bool}{body:S->Option S}(I:S->Prop)(μ:S->Nat)(h0:I s)(hk:μ s<k)(hs:∀s,I s->W (c s) λb=>if b=true then W (body s) λs'=>I s'/\μ s'<μ s else Q s):W (FZ c body k s) Q:=by
 induction k generalizing s with
 |zero=>omega
 |succ k ih =>
  show W ((c s).bind λb=>if b=true then(body s).bind λs'=>FZ c body k s' else some s) Q
  rw[zC]
  refine(hs s h0).imp λb h=>?_
  cases b with
  |true =>
   have h:W (body s) λs'=>I s'/\μ s'<μ s:=by simpa using h
   simp only[if_true]
   rw[zC]
   exact h.imp λs' ⟨h1,h2⟩=>ih h1 (by omega)
  |false=>simpa[aj] using h
theorem Z8(c:α->Bool)(f:α->β):∀xs:List α,xM (λx=>some (c x)) (λx=>some (f x)) xs=some ((xs.filter c).map f)
 |[]=>rfl
 |x::xs=>by
  have ih:=Z8 c f xs
  show(some (c x)).bind _=_
  cases h:c x with
  |true =>
   show((some (f x)).bind λy=>(xM _ _ xs).bind λys=>some (y::ys))=_
   rw[ih,filter_cons,if_pos h]
   rfl
  |false =>
   show xM _ _ xs=_
   rw[ih,filter_cons,if_neg (by rw[h];decide)]
theorem Jh(c:α->Bool)(f:α->β):W (wD (λx=>some (c x)) (λx=>some (f x)) xs) Q↔xs.length<cap/\Q ((xs.filter c).map f):=by
 unfold wD
 split
 ·rename_i h;rw[Z8,aj];exact⟨λq=>⟨h,q⟩,λq=>q.2⟩
 ·rename_i h;rw[Bv];exact⟨abb,λq=>h q.1⟩
theorem zPm(xs:List α):xs.filter (λ_=>true)=xs:=filter_eq_self.mpr λ_ _=>rfl
theorem Ls(f:α->β):W (wD (λ_=>some true) (λx=>some (f x)) xs) Q↔xs.length<cap/\Q (xs.map f):=by
 rw[Jh (λ_=>true) f,zPm]
theorem iY[Decidable c]:W (if c then a else b) Q↔(c->W a Q)/\(¬c->W b Q):=by
 by_cases h:c
 ·rw[if_pos h];exact⟨λq=>⟨λ_=>q,λn=>absurd h n⟩,λq=>q.1 h⟩
 ·rw[if_neg h];exact⟨λq=>⟨λn=>absurd n h,λ_=>q⟩,λq=>q.2 h⟩
theorem yR(h:n<=1000):n<cap:=aan h (by decide)
def bN(n:Int)(xs:LI):Prop:=xs.Pairwise (· < ·)/\∀x∈xs,0<=x/\x<n
theorem bN.nodup(h:bN n xs):xs.Nodup:=h.1.imp λq=>Int.ne_of_lt q
theorem Z9:bN n []:=⟨.nil,λx h=>by cases h⟩
theorem zNz(h:bN k xs)(h0:0<=k)(hk:k<n):bN n (xs++[k]):=by
 refine⟨List.pairwise_append.mpr ⟨h.1,by simp,λx hx y hy=>?_⟩,λx hx=>?_⟩
 ·rw[mem_singleton.mp hy];exact(h.2 x hx).2
 ·rcases mem_append.mp hx with q|q
  ·have:=h.2 x q;omega
  ·rw[mem_singleton.mp q];omega
theorem BJ(h:bN n xs)(l:n<=m):bN m xs:=⟨h.1,λx hx=>by have:=h.2 x hx;omega⟩
theorem xO:∀{n:Nat}{xs:LI},xs.Nodup->(∀x∈xs,0<=x/\x<(n:Int))->xs.length<=n
 |0,xs,_,h=>by
  cases xs with
  |nil=>exact aag _
  |cons x xs=>have:=h x mem_cons_self;omega
 |n+1,xs,nd,h=>by
  by_cases q:(n:Int)∈xs
  ·have l:=List.length_erase_of_mem q
   have ih:=xO (n:=n) (xs:=xs.erase (n:Int)) (nd.erase _) λx hx=>by
    have h1:=h x (List.mem_of_mem_erase hx)
    have h2:x≠(n:Int):=λe=>by rw[e] at hx;exact(List.Nodup.not_mem_erase nd) hx
    omega
   omega
  ·have ih:=xO (n:=n) nd λx hx=>by
    have h1:=h x hx
    have h2:x≠(n:Int):=λe=>q (e▸hx)
    omega
   omega
end
end Ts
namespace L2
open PySem PySem.Spec PyProof.Rows
theorem V6:∀{ns:LI}{its:List Value},Vals (ns.map V.int) its->IntsAre its ns
 |[],[],_=>.nil
 |n::ns,_::its,h=>by
  cases h with
  |cons r t =>
   obtain⟨k,rfl⟩:=r
   exact .cons n k (V6 t)
theorem vV:∀{ns:LI}{its:List Value},IntsAre its ns->Vals (ns.map V.int) its
 |_,_,.nil=>.nil
 |_,_,.cons n t h=>.cons ⟨t,rfl⟩ (vV h)
section
variable{X:Cx}
def Gi(K:PySem.W.Frag):List V->Hp->VK->Prop:=λxs H Q=>∃(p:Addr)(ns:LI),xs=[.ref p]/\aV K H p (ns.map V.int)/\ns.length<64/\∀(l:Addr)(ns':LI),H l=none->ns'.Perm ns->ns'.Pairwise (· <= ·)->Q (.ref l) (upd H l (.lst (ns'.map V.int)))
theorem V7(K:PySem.W.Frag)(hK:X.K=K:=by rfl):sH X (.builtin "sorted") (Gi K):=by
 subst hK
 intro pins s σ H xs us Q I r h
 obtain⟨p,ns,rfl,hq,h64,q⟩:=h
 obtain⟨u,rfl,rx⟩:=Nv r
 cases rx
 obtain⟨its,r',pl,hz⟩:=I.list hq
 have hl:=r'.length
 rw[length_map] at hl
 refine sorted_ints pl.isList (V6 r') (by omega) λout ns' a1 a2 a3=>?_
 obtain⟨e,he⟩:=sortedAll_at s.heap its out
 have fr:H (s.heap.objs.size+1)=none:=I.hok.fresh (abv _)
 refine⟨.ref (s.heap.objs.size+1),_,I.laid (t':=s.toks) (o:=.lst (ns'.map V.int)) (λb ob w=>sortedAll_old w) (abv _) ?_,rfl,q _ ns' fr a2 a3⟩
 refine⟨?_,out.toList,e,vV a1,?_⟩
 ·rw[length_map,a2.length_eq]
  exact ab8 (adi h64 (by decide))
 ·rw[toArray_toList]
  exact he
theorem zIr{bs:List Bool}(r:Vals (bs.map V.bl) its):TruthOf prog w A (λi v=>its.toArray[i]?=some v) (λi=>bs.getD i false):=by
 intro i v s Q E hv hq
 have hv:its[i]?=some v:=by simpa using hv
 have hi:i<bs.length:=by
  have:=(aaj.mp hv).1
  rw[<-r.length,length_map] at this
  exact this
 obtain⟨u,h1,h2⟩:=r.get (i:=i) (x:=.bl bs[i]) (by rw[getElem?_map,aaf hi]<;>rfl)
 rw[hv] at h1
 cases h1
 cases h2
 have hq:Q (bs.getD i false) s:=hq
 rw[getD_eq_getElem?_getD,aaf hi] at hq
 exact abl hq
theorem zN1{bs:List Bool}:((aat bs.length).all λi=>bs.getD i false)=bs.all id:=by
 rw[abu,all_eq_true,all_eq_true]
 constructor
 ·intro h x hx
  obtain⟨i,hi,e⟩:=getElem_of_mem hx
  have z:=h i (mem_range.mpr hi)
  rw[getD_eq_getElem?_getD,aaf hi,e] at z
  exact z
 ·intro h i hi
  have hi:=mem_range.mp hi
  rw[getD_eq_getElem?_getD,aaf hi]
  exact h _ (getElem_mem hi)
def Z_(K:PySem.W.Frag)(f:List Bool->Bool):List V->Hp->VK->Prop:=λxs H Q=>∃(p:Addr)(bs:List Bool),xs=[.ref p]/\aV K H p (bs.map V.bl)/\Q (.bl (f bs)) H
theorem Pj{s:Shared}{h':Heap}(hk:∀b o,b∉[s.heap.objs.size]->(s.heap.push { cls:=.type "list_iterator",data:=.fields #[.ref l,.int 0 0] }).get? b=some o->h'.get? b=some o) :
  ∀b o,s.heap.get? b=some o->h'.get? b=some o:=λb o e=>hk b o (λm=>abk _ (mem_singleton.mp m▸lt_size e)) (get?_push_of_some _ e)
theorem zQi(K:PySem.W.Frag)(hc:X.calm=true)(hK:X.K=K:=by rfl):sH X (.builtin "all") (Z_ K λbs=>bs.all id):=by
 subst hK
 intro pins s σ H xs us Q I r h
 obtain⟨p,bs,rfl,hq,q⟩:=h
 obtain⟨u,rfl,rx⟩:=Nv r
 cases rx
 obtain⟨its,r',pl,hz⟩:=I.list hq
 have hl:=pl.isList
 have hlt:p<s.heap.objs.size:=by obtain⟨_,e,_⟩:=hl;exact lt_size e
 refine call_all_walk (ad7 hl ?_)
 refine⟨_,_,_,_,_,_,_,rfl,Walks.list (A:=X.A.in1) (I.ok.hd hc) s.heap.objs.size p (aam hlt) its.toArray,⟨⟨_,get?_push_size _ rfl,rfl,rfl⟩,hl.push _⟩,zIr r',λh' tk hk=>?_⟩
 have hn:its.toArray.size=bs.length:=by
  rw[size_toArray,<-r'.length,length_map]
 rw[hn,zN1]
 exact⟨.bl (bs.all id),H,I.kept (Pj hk),rfl,q⟩
end
section
variable{prog:Program}{w:World}{A:Around}{R:Result->Shared->Prop}{It:Addr}{fp wr:List Addr}{n:Nat}{P:Nat->Value->Prop}{St:Nat->Heap->Prop}{kw:List (Str×Value)}
end
section
variable{X:Cx}{e e2:Expr}{te td:TE}{p pos kpos:Pos}
end
end L2
namespace Ts
open PySem L2
def S9(ns:LI):LI:=ns.mergeSort (λa b=>decide (a<=b))
def BK(ns:LI):Option LI:=if ns.length<64 then some (S9 ns) else none
theorem wL(ns:LI):(S9 ns).Perm ns:=List.mergeSort_perm _ _
theorem zCx(ns:LI):(S9 ns).Pairwise (· <= ·):=by
 have:=List.pairwise_mergeSort (le:=λa b:Int=>decide (a<=b)) (λa b c h1 h2=>by simp at *;omega) (λa b=>by simp;omega) ns
 exact this.imp λh=>by simpa using h
theorem zDi:∀{xs ys:LI},xs.Perm ys->xs.Pairwise (· <= ·)->ys.Pairwise (· <= ·)->xs=ys
 |[],ys,p,_,_=>(Perm.nil_eq p)
 |x::xs,[],p,_,_=>by have:=p.length_eq;simp at this
 |x::xs,y::ys,p,h1,h2=>by
  have a1:=pairwise_cons.mp h1
  have a2:=pairwise_cons.mp h2
  have e:x=y:=by
   have q1:x∈y::ys:=p.subset mem_cons_self
   have q2:y∈x::xs:=p.symm.subset mem_cons_self
   rcases mem_cons.mp q1 with q1|q1
   ·exact q1
   ·rcases mem_cons.mp q2 with q2|q2
    ·exact q2.symm
    ·have:=a1.1 y q2;have:=a2.1 x q1;omega
  subst e
  rw[zDi (Perm.cons_inv p) a1.2 a2.2]
section
variable{K:PySem.W.Frag}{B:Bs}{sl:SL K}{md:Md}{t t1 t2:TE}{n:Bool}
theorem V8(h:Ex B sl .hp t m):Eo B sl md (yq (Gi K) (yK t aY)) (m.bind BK):=λc hc F O H σ Q s k=>by
 cases m with
 |none=>cases hc
 |some ns =>
  have hc:BK ns=some c:=hc
  unfold BK at hc
  split at hc
  case isFalse=>cases hc
  rename_i hl
  cases hc
  refine h ns rfl F O H σ _ s λv F' H' g r1=>?_
  obtain⟨p,vs,rfl,z1,z2⟩:=r1
  have z3:vs=ns.map V.int:=z2.vals
  subst z3
  refine⟨p,ns,rfl,aV.of z1,hl,λl ns' hn p1 p2=>?_⟩
  rw[zDi (p1.trans (wL ns).symm) p2 (zCx ns)]
  exact k l _ F' H' g hn (uU _)
theorem zSv(h:Ex B sl .hp t m):Ex B sl md (yq (Z_ K f) (yK t aY)) (m.bind λbs=>some (f bs)):=λc hc F O H σ Q s k=>by
 cases m with
 |none=>cases hc
 |some bs =>
  cases(show some (f bs)=some c from hc)
  refine h bs rfl F O H σ _ s λv F' H' g r1=>?_
  obtain⟨p,vs,rfl,z1,z2⟩:=r1
  have z3:vs=bs.map V.bl:=z2.vals
  subst z3
  exact⟨p,bs,rfl,aV.of z1,k _ F' H' g rfl⟩
theorem zUb(h:Ex B sl .hp t m):Ex B sl md (Yv (rU λi=>.int (-i)) t) (m.bind λa=>some (-a)):=λc hc F O H σ Q s k=>by
 cases m with
 |none=>cases hc
 |some a =>
  cases(show some (-a)=some c from hc)
  refine h a rfl F O H σ _ s λv F' H' g r1=>?_
  cases r1
  exact⟨a,rfl,k _ F' H' g rfl⟩
end
section
variable{β:Type}
def gK(kvs:List (Key×β))(k:Key):Option β:=(kvs.find? λkv=>decide (kv.1=k)).map (·.2)
def pK(kvs:List (Key×β))(k:Key)(v:β):List (Key×β):=if(kvs.any λkv=>decide (kv.1=k))=true then kvs.map (λkv=>if kv.1=k then(kv.1,v) else kv) else kvs++[(k,v)]
abbrev gP(kvs:List (Key×β))(k:Int):Option β:=gK kvs (aa4 k)
def dput(kvs:List (Key×β))(k:Int)(v:β):Option (List (Key×β)):=if kvs.length<cap then some (pK kvs (aa4 k) v) else none
theorem zPj:∀{kvs:List (Key×β)}{k:Key},(kvs.any λkv=>decide (kv.1=k))=(gK kvs k).isSome
 |[],_=>rfl
 |x::kvs,k=>by
  unfold gK
  rw[any_cons,find?_cons]
  by_cases e:x.1=k
  ·rw[decide_eq_true e];rfl
  ·rw[decide_eq_false e,adt];exact zPj
theorem zT9:∀(kvs:List (Key×β))(k j:Key)(v:β),gK (pK kvs k v) j=if j=k then some v else gK kvs j:=λkvs k j v=>by
 unfold pK
 cases a:(kvs.any λkv=>decide (kv.1=k)) with
 |true =>
  rw[if_pos rfl]
  induction kvs with
  |nil=>cases a
  |cons x kvs ih =>
   unfold gK at ih ⊢
   rw[map_cons,find?_cons,find?_cons]
   by_cases e:x.1=k
   ·rw[if_pos e]
    by_cases f:j=k
    ·subst f
     rw[decide_eq_true (show(x.1,v).1=j from e),if_pos rfl];rfl
    ·rw[decide_eq_false (show¬(x.1,v).1=j fromλz=>f (z.symm.trans e)),if_neg f]
     show Option.map (λx=>x.2) (List.find? (λkv=>decide (kv.1=j)) (List.map (λkv=>if kv.1=k then(kv.1,v) else kv) kvs))=Option.map (λx=>x.2) (List.find? (λkv=>decide (kv.1=j)) kvs)
     clear ih a
     induction kvs with
     |nil=>rfl
     |cons y kvs ih =>
      rw[map_cons,find?_cons,find?_cons]
      by_cases g:y.1=k
      ·rw[if_pos g,decide_eq_false (show¬(y.1,v).1=j fromλz=>f (z.symm.trans g))];exact ih
      ·rw[if_neg g]
       by_cases h:y.1=j
       ·rw[decide_eq_true h]
       ·rw[decide_eq_false h];exact ih
   ·rw[if_neg e]
    have a':(kvs.any λkv=>decide (kv.1=k))=true:=by rw[any_cons,decide_eq_false e,adt] at a;exact a
    by_cases f:x.1=j
    ·rw[decide_eq_true f,if_neg λz=>e (f.trans z)]
    ·rw[decide_eq_false f];exact ih a'
 |false =>
  rw[if_neg (by decide)]
  unfold gK
  rw[List.find?_append]
  have hn:kvs.find? (λkv=>decide (kv.1=k))=none:=by
   rw[List.find?_eq_none]
   intro x hx
   have:=any_eq_false.mp a x hx
   exact this
  by_cases f:j=k
  ·subst f;rw[hn,if_pos rfl];simp
  ·rw[if_neg f]
   cases kvs.find? (λkv=>decide (kv.1=j)) with
   |none=>simp[ab1 f]
   |some y=>rfl
theorem zTv(kvs:List (Key×β))(k:Key)(v:β):(pK kvs k v).length<=kvs.length+1:=by
 unfold pK
 split
 ·rw[length_map];omega
 ·rw[length_append];exact aag _
end
section
variable{K:PySem.W.Frag}{α:Type}[Rp K α]
abbrev DR(K:PySem.W.Frag){α:Type}[Rp K α](F:Hp):Key×V->Key×α->Prop:=λx y=>x.1=y.1/\rp K F x.2 y.2
theorem A2.any:∀{ks:List (Key×V)}{kvs:List (Key×α)},A2 (DR K F) ks kvs->(ks.any λkv=>decide (kv.1=k))=(kvs.any λkv=>decide (kv.1=k))
 |[],[],_=>rfl
 |_::_,_::_,h=>by rw[any_cons,any_cons,h.1.1,A2.any h.2]
 |[],_::_,h=>h.elim
 |_::_,[],h=>h.elim
theorem A2.val:∀{ks:List (Key×V)}{kvs:List (Key×α)},A2 (DR K F) ks kvs->(gK kvs k=none/\fK ks k=none)\/∃a v,gK kvs k=some a/\fK ks k=some v/\rp K F v a
 |[],[],_=>.inl ⟨rfl,rfl⟩
 |x::ks,y::kvs,h=>by
  unfold gK fK
  rw[find?_cons,find?_cons,h.1.1]
  by_cases e:y.1=k
  ·rw[decide_eq_true e];exact .inr ⟨y.2,x.2,rfl,rfl,h.1.2⟩
  ·rw[decide_eq_false e];exact A2.val h.2
 |[],_::_,h=>h.elim
 |_::_,[],h=>h.elim
theorem A2.Pk(r:rp K F v a):∀{ks:List (Key×V)}{kvs:List (Key×α)},A2 (DR K F) ks kvs->A2 (DR K F) (ks.map λkv=>if kv.1=k then(kv.1,v) else kv) (kvs.map λkv=>if kv.1=k then(kv.1,a) else kv)
 |[],[],_=>trivial
 |x::ks,y::kvs,h=>by
  rw[map_cons,map_cons]
  refine⟨?_,A2.Pk r h.2⟩
  by_cases e:x.1=k
  ·rw[if_pos e,if_pos (h.1.1▸e)];exact⟨h.1.1,r⟩
  ·rw[if_neg e,if_neg (h.1.1▸e)];exact h.1
 |[],_::_,h=>h.elim
 |_::_,[],h=>h.elim
theorem A2.put{F:Hp}{k:Key}{v:V}{a:α}(r:rp K F v a){ks:List (Key×V)}{kvs:List (Key×α)}(h:A2 (DR K F) ks kvs):A2 (DR K F) (putK ks k v) (pK kvs k a):=by
 unfold putK pK
 rw[h.any]
 split
 ·exact h.Pk r
 ·exact h.snoc ⟨rfl,r⟩
structure Dc(α:Type) where
 kv:List (Key×α)
instance:Rp K (Dc α):=⟨λF v d=>∃p ks,v=.ref p/\F p=some (.dK ks)/\A2 (DR K F) ks d.kv,λs ⟨p,ks,h1,h2,h3⟩=>⟨p,ks,h1,s _ _ h2,h3.imp λ_ _ z=>⟨z.1,Rp.mono s z.2⟩⟩⟩
instance:Nn K (Dc α):=⟨λ⟨_,_,h,_⟩=>by rw[h];intro e;cases e⟩
variable{B:Bs}{sl:SL K}{md:Md}{t t2:TE}{F H G:Hp}{O:Own}{σ:St}{u:TS}{al:Bool}
theorem V9{kvs:List (Key×α)}(i:Nat)(hs:sl[i]?=some (.od kvs)):Ex B sl .hp (cT i) (some (Dc.mk kvs)):=λa' ha F O H σ Q s k=>by
 cases ha
 obtain⟨k0,z0⟩:=s
 obtain⟨O1,O2,p,ks,rfl,h1,h2,_⟩:=z0.tW hs
 exact⟨_,h1,k _ F H (.refl k0) ⟨p,ks,rfl,k0.one.2.2,h2.imp λ_ _ z=>⟨z.1,Rp.mono k0.fh z.2⟩⟩⟩
theorem Ji{m:Option Int}{m2:Option (Dc α)}(h:Ex B sl .hp t m)(h2:Ex B sl .hp t2 m2):Ex B sl md (Ao t t2) (m.bind λk=>m2.bind λd=>some (gP d.kv k).isSome):=λc hc F O H σ Q s kk=>by
 obtain⟨k,d,e1,e2,e3⟩:=uN hc
 cases e3
 refine h k e1 F O H σ _ s λv F' H' g r1=>?_
 refine h2 d e2 F' O H' σ _ (s.grow g) λw F2 H2 g2 r2=>?_
 cases r1
 obtain⟨p,ks,rfl,z1,z2⟩:=r2
 refine⟨p,_,rfl,jQ.k (k:=aa4 k) z1,?_⟩
 have e:(fK ks (aa4 k:Key)).isSome=(gP d.kv k).isSome:=by
  rcases z2.val (k:=aa4 k) with⟨q1,q2⟩|⟨a,v,q1,q2,_⟩
  ·show _=(gK d.kv (aa4 k)).isSome;rw[q1,q2];rfl
  ·show _=(gK d.kv (aa4 k)).isSome;rw[q1,q2];rfl
 rw[e]
 exact kk _ F2 H2 (g.trans g2) rfl
theorem zPy{m:Option Int}{m2:Option (Dc α)}(h:Ex B sl .hp t m)(h2:Ex B sl .hp t2 m2):Ex B sl md (Y4 t t2) (m.bind λk=>m2.bind λd=>some !(gP d.kv k).isSome):=λc hc F O H σ Q s kk=>by
 obtain⟨k,d,e1,e2,e3⟩:=uN hc
 cases e3
 refine h k e1 F O H σ _ s λv F' H' g r1=>?_
 refine h2 d e2 F' O H' σ _ (s.grow g) λw F2 H2 g2 r2=>?_
 cases r1
 obtain⟨p,ks,rfl,z1,z2⟩:=r2
 refine⟨p,_,rfl,jQ.k (k:=aa4 k) z1,?_⟩
 have e:(fK ks (aa4 k:Key)).isSome=(gP d.kv k).isSome:=by
  rcases z2.val (k:=aa4 k) with⟨q1,q2⟩|⟨a,v,q1,q2,_⟩
  ·show _=(gK d.kv (aa4 k)).isSome;rw[q1,q2];rfl
  ·show _=(gK d.kv (aa4 k)).isSome;rw[q1,q2];rfl
 rw[e]
 exact kk _ F2 H2 (g.trans g2) rfl
theorem zNo{kvs:List (Key×α)}{m:Option α}{mi:Option Int}{te ti:TE}(i:Nat)(hs:sl[i]?=some (.od kvs))(hh:sl.all (λs=>!b_ s)=true)(hv:Ex B sl .fz te m)(hi:Ex B sl .hp ti mi) :
  Sn B sl (RP (cT i) ti te) (λys=>sl.set i (.od ys)) (m.bind λa=>mi.bind λk=>dput kvs k a):=λys ha G D σ H s k=>by
 obtain⟨a,ix,e1,e2,e3⟩:=uN ha
 unfold dput at e3
 split at e3
 case isFalse=>cases e3
 rename_i hl
 cases e3
 obtain⟨F,O,g,z⟩:=s
 refine hv a e1 F O H σ _ z λv F' H' gr r=>?_
 obtain⟨p,ks,h1,h2,h3,_⟩:=(z.grow gr).qX hs hh
 refine⟨_,h1,?_⟩
 refine hi ix e2 F' O H' σ _ (z.grow gr) λw F2 H2 qG rw=>?_
 cases rw
 obtain⟨p',ks',h1',h2',h3',h4'⟩:=((z.grow gr).grow qG).qX hs hh
 have e:=h1.symm.trans h1'
 cases e
 obtain⟨O',z'⟩:=h4' (putK ks' (aa4 ix) v) (pK kvs (aa4 ix) a) (h3'.put (Rp.mono qG.ff r))
 exact⟨p,_,rfl,pP.k (k:=aa4 ix) h2' (yw (by rw[h3'.len];exact hl)),k _ _ ⟨F2,O',(g.trans gr.ff).trans qG.ff,z'⟩⟩
end
end Ts
namespace L2
open PySem PySem.Spec PyProof.Rows
section
variable{X:Cx}{tg:Expr}
end
end L2
namespace Ts
open PySem L2
section
variable{K:PySem.W.Frag}{B:Bs}{sl:SL K}{t1 t2 t3:TE}{n:Bool}
end
section
variable{K:PySem.W.Frag}{B:Bs}{sl:SL K}{md:Md}{t:TE}{u:TS}{al:Bool}{α:Type}[Rp K α]
end
end Ts
namespace L2
open PySem PySem.Spec PyProof.Rows
section
variable{X:Cx}
theorem KV.Jj{ks:List (Key×V)}{vs:List (Key×Value)}(r:KV ks vs):ks.map (·.1)=vs.map (·.1):=by
 unfold KV at r
 induction r with
 |nil=>rfl
 |cons h _ ih=>rw[map_cons,map_cons,h.1,ih]
end
end L2
namespace Ts
open PySem L2
section
variable{K:PySem.W.Frag}{B:Bs}{sl:SL K}{md:Md}{t:TE}{α:Type}[Rp K α]
variable{S:Type}{n:Bool}{tb:TS}
end
end Ts
namespace L2
open PySem
open PySem PySem.Spec PyProof.Rows
def Its(x:Str):It:=⟨λi _=>i<x.cps.size,λi H v H'=>H'=H/\∃c,x.cps[i]?=some c/\v=.str ⟨#[c]⟩,λi _=>x.cps.size<=i⟩
theorem zLq{P:Program}{w:World}{K:PySem.W.Frag}{tg:Expr}(it:Addr)(x:Str)(t:Tok):Turn P w K tg (Its x) [it] it (λi h=>h.IsStrIter it "str_ascii_iterator" x t i) where
 mem:=mem_singleton.mpr rfl
 obj:=λi h st b hb=>by
  have e:b=it:=mem_singleton.mp hb
  subst e
  obtain⟨o,ho,hc,hd⟩:=st
  refine⟨o,ho,λv z=>?_⟩
  rw[hd] at z
  cases z
 keep:=λi h h' st k=>by
  obtain⟨o,ho,r⟩:=st
  exact⟨o,k it (mem_singleton.mpr rfl) _ ho,r⟩
 item:=by
  intro X hP hw hK hc i pins s σ H E I hf st hg
  subst hP hw hK
  obtain⟨f0,f1,f2,f3,f4,f5⟩:=hf it (mem_singleton.mpr rfl)
  refine(Walks.strAscii (prog:=X.prog) (w:=X.w) (I.ok.hd hc) it x t).item i s _ _ hg st λv h' tk hv st' kk=>?_
  obtain⟨c,u,hx,rfl⟩:=hv
  have I1:Inv X pins σ H { s with heap:=h',toks:=tk }:=I.turned (λb o hb e=>kk b o (λz=>hb (mem_singleton.mp z)) e) f0 f1 f3 f4 f5
  obtain⟨o,ho,hc,hd⟩:=id st'
  exact⟨_,rfl,HD (s:={ s with heap:=h',toks:=tk }) (n:="str_ascii_iterator") ho hc hd (by decide) ⟨.str ⟨#[c]⟩,H,I1,⟨u,rfl⟩,⟨rfl,c,hx,rfl⟩,st',λb hb=>(hf b hb).1⟩⟩
 done:=by
  intro X hP hw hK hc i pins s σ H E I hf st hg
  subst hP hw hK
  obtain⟨f0,f1,f2,f3,f4,f5⟩:=hf it (mem_singleton.mpr rfl)
  exact wpAny_pyNext_ascii_end (I.ok.hd hc) st (aa6 hg) λh' eb=>⟨rfl,I.turned (t':=s.toks) (λb o hb e=>eb b o hb e) f0 f1 f3 f4 f5⟩
 self:=λ_ _ _ _ _ st h=>wpAny_pyIter_striter_ascii st h
theorem zM8{P:Program}{w:World}{K:PySem.W.Frag}{tg:Expr}(it:Addr)(x:Str)(t:Tok):Turn P w K tg (Its x) [it] it (λi h=>h.IsStrIter it "str_iterator" x t i) where
 mem:=mem_singleton.mpr rfl
 obj:=λi h st b hb=>by
  have e:b=it:=mem_singleton.mp hb
  subst e
  obtain⟨o,ho,hc,hd⟩:=st
  refine⟨o,ho,λv z=>?_⟩
  rw[hd] at z
  cases z
 keep:=λi h h' st k=>by
  obtain⟨o,ho,r⟩:=st
  exact⟨o,k it (mem_singleton.mpr rfl) _ ho,r⟩
 item:=by
  intro X hP hw hK hc i pins s σ H E I hf st hg
  subst hP hw hK
  obtain⟨f0,f1,f2,f3,f4,f5⟩:=hf it (mem_singleton.mpr rfl)
  refine(Walks.strWide (prog:=X.prog) (w:=X.w) (I.ok.hd hc) it x t).item i s _ _ hg st λv h' tk hv st' kk=>?_
  obtain⟨c,u,hx,rfl⟩:=hv
  have I1:Inv X pins σ H { s with heap:=h',toks:=tk }:=I.turned (λb o hb e=>kk b o (λz=>hb (mem_singleton.mp z)) e) f0 f1 f3 f4 f5
  obtain⟨o,ho,hc,hd⟩:=id st'
  exact⟨_,rfl,HD (s:={ s with heap:=h',toks:=tk }) (n:="str_iterator") ho hc hd (by decide) ⟨.str ⟨#[c]⟩,H,I1,⟨u,rfl⟩,⟨rfl,c,hx,rfl⟩,st',λb hb=>(hf b hb).1⟩⟩
 done:=by
  intro X hP hw hK hc i pins s σ H E I hf st hg
  subst hP hw hK
  obtain⟨f0,f1,f2,f3,f4,f5⟩:=hf it (mem_singleton.mpr rfl)
  exact wpAny_pyNext_wide_end (I.ok.hd hc) st (aa6 hg) λh' eb=>⟨rfl,I.turned (t':=s.toks) (λb o hb e=>eb b o hb e) f0 f1 f3 f4 f5⟩
 self:=λ_ _ _ _ _ st h=>wpAny_pyIter_striter_wide st h
section
variable{X:Cx}{tg:Expr}
def Pn(tl:TE):TI:=λσ H R=>tl σ H λx H1=>∃y,x=.str y/\R (Its y) H1
theorem Jk(hl:PE X l tl):PI X tg l (Pn tl):=by
 intro pins s σ H R I h
 refine aL (hl pins s σ H _ I h) λv s1 ⟨x,H1,I1,r1,q1⟩=>?_
 obtain⟨y,e,q⟩:=q1
 subst e
 obtain⟨t,rfl⟩:=r1
 have fp:∀b∈[s1.heap.objs.size],jP X pins H1 b:=λb hb=>by
  have e:b=s1.heap.objs.size:=mem_singleton.mp hb
  subst e
  exact I1.ji (aag _) (I1.hok.fresh (aag _))
 cases ha:y.cps.all (· < 128)
 ·exact wpAny_pyIter_wide ha ⟨s1.heap.objs.size,[s1.heap.objs.size],_,_,H1,rfl,I1.kept (t':=s1.toks) λb o e=>get?_push_of_some _ e,zM8 _ y t,⟨_,get?_push_size _ rfl,rfl,rfl⟩,fp,q⟩
 ·exact wpAny_pyIter_ascii ha ⟨s1.heap.objs.size,[s1.heap.objs.size],_,_,H1,rfl,I1.kept (t':=s1.toks) λb o e=>get?_push_of_some _ e,zLq _ y t,⟨_,get?_push_size _ rfl,rfl,rfl⟩,fp,q⟩
end
end L2
namespace Ts
open PySem L2
section
variable{K:PySem.W.Frag}{B:Bs}{sl:SL K}{md:Md}{t ta tb tc:TE}{n:Bool}
def BL(x:Str):List Str:=x.cps.toList.map λc=>(⟨#[c]⟩:Str)
theorem Jl(h:Ex B sl .hp t mi):Ei B sl n (Pn t) (mi.bind λx=>some (BL x)):=λxs hx F O H σ R a k=>by
 cases mi with
 |none=>cases hx
 |some x =>
  cases(show some (BL x)=some xs from hx)
  refine h x rfl F O H σ _ a λv F' H' gr r=>?_
  cases r
  refine⟨x,rfl,k _ F' H' gr λi F2 O2 H2 sf k2=>⟨λhl=>?_,λy hy=>?_⟩⟩
  ·show x.cps.size<=i
   unfold BL at hl
   rw[length_map,length_toList] at hl
   exact hl
  ·unfold BL at hy
   rw[getElem?_map,getElem?_toList] at hy
   cases e:x.cps[i]? with
   |none=>rw[e] at hy;cases hy
   |some c =>
    rw[e] at hy
    cases hy
    have hi:i<x.cps.size:=(Array.getElem?_eq_some_iff.mp e).1
    refine⟨hi,λv H3 yd=>?_⟩
    obtain⟨rfl,c',e',rfl⟩:=yd
    rw[e] at e'
    cases e'
    exact⟨F2,.refl k2,rfl⟩
theorem zKy{f g:Int->Int->Bool}(h1:Ex B sl .hp ta m1)(h2:Ex B sl .hp tb m2)(h3:Ex B sl .hp tc m3) :
  Ex B sl md (Yy (pJ λi j=>.bl (f i j)) (pJ λi j=>.bl (g i j)) ta tb tc) (m1.bind λa=>m2.bind λb=>if f a b=true then m3.bind λc=>some (g b c) else some false):=λd hd F O H σ Q s k=>by
 obtain⟨a,b,e1,e2,e3⟩:=uN hd
 refine h1 a e1 F O H σ _ s λv F' H' g1 r1=>?_
 refine h2 b e2 F' O H' σ _ (s.grow g1) λw F2 H2 g2 r2=>?_
 cases r1
 cases r2
 refine⟨a,b,rfl,rfl,_,rfl,?_⟩
 by_cases q:f a b=true
 ·rw[if_pos q] at e3 ⊢
  cases m3 with
  |none=>cases e3
  |some c =>
   cases(show some (g b c)=some d from e3)
   refine h3 c rfl F2 O H2 σ _ ((s.grow g1).grow g2) λu F3 H3 g3 r3=>?_
   cases r3
   exact⟨b,c,rfl,rfl,k _ F3 H3 ((g1.trans g2).trans g3) rfl⟩
 ·rw[if_neg q] at e3 ⊢
  cases e3
  exact k _ F2 H2 (g1.trans g2) rfl
def Gj:List V->Hp->VK->Prop:=λxs H Q=>∃x:Str,xs=[.str x]/\x.length<cap/\Q (.int x.length) H
theorem zQh:sH X (.builtin "len") Gj:=by
 intro pins s σ H xs us Q I r h
 obtain⟨x,rfl,hl,q⟩:=h
 exact zS6 pins s σ H _ us Q I r ⟨_,_,rfl,⟨ab8 (yw hl),rfl⟩,q⟩
def uf(x:Str):Option Int:=if x.length<cap then some (x.length:Int) else none
theorem BP(h:Ex B sl .hp t m):Ex B sl md (yq Gj (yK t aY)) (m.bind uf):=λc hc F O H σ Q s k=>by
 cases m with
 |none=>cases hc
 |some x =>
  have hc:uf x=some c:=hc
  unfold uf at hc
  split at hc
  case isFalse=>cases hc
  rename_i hl
  cases hc
  refine h x rfl F O H σ _ s λv F' H' g r1=>?_
  cases r1
  exact⟨x,rfl,hl,k _ F' H' g rfl⟩
def Pq(i j:Str):Bool:=!(ada j i 0 j.length 1).isEmpty
abbrev V_:R2:=λx y H Q=>∃i j,x=.str i/\y=.str j/\Q (.bl (!(ada j i 0 j.length 1).isEmpty)) H
theorem Jm(h1:Ex B sl .hp ta m1)(h2:Ex B sl .hp tb m2):Ex B sl md (gF V_ ta tb) (m1.bind λa=>m2.bind λb=>some (Pq a b)) :=
 yu (f:=λa b=>some (Pq a b)) (λa b c v w H Q e r1 r2 q=>by
  cases e
  cases r1
  cases r2
  exact⟨a,b,rfl,rfl,q⟩) h1 h2
theorem Jo{ws:List Str}(hT:∀H,gZ K H p (ws.map V.str))(h:Ex B sl .hp t m):Ex B sl md (gF (RV K false) t (tC (.ref p))) (m.bind λx=>some (decide (x∈ws))):=λc hc F O H σ Q s k=>by
 cases m with
 |none=>cases hc
 |some x =>
  cases(show some (decide (x∈ws))=some c from hc)
  refine h x rfl F O H σ _ s λv F' H' g r1=>?_
  cases r1
  refine⟨p,_,rfl,.inr (hT H'),Fl.flat (K:=K) x,ZQ (K:=K) ws,?_⟩
  have:=V0 (K:=K) x ws
  simp only[aao,if_false]
  rw[show inV (V.str x) (ws.map V.str)=decide (x∈ws) from this]
  exact k _ F' H' g rfl
end
section
variable{P:Program}{w:World}{K:PySem.W.Frag}{mg:Str->Option Value}{base:Heap}{B:Bs}{sl:SL K}{al:Bool}{S β:Type}[Rp K β]
theorem Lw:Sn B sl Uy L none:=λa ha=>by cases ha
theorem zRn:SB B sl Uy al (none:Option β):=λa ha=>by cases ha
theorem S_{A:Type}{as:A->SL K}{fM:A->Option Unit}(F:aX K x qual st f fd)(S:ao N ps (zI st))(hf:∀a,(as a).all isF=true)(hl:∀a,(as a).length=ps.length)(hb:∀(cdv:Value) (A:Around) (outer:List Env) (s:Shared) (H:Hp) (E:XK),bx k (A.deeper (ac3 qual (zI st) s.heap.objs.size f cdv)) ->
   ∃t,oE (lY aN P w K mg base N qual (zI st) f cdv A outer s H E).Aa (xL st) t/\∀Fa a,∃L:Unit->SL K,Sn ⟨Fa,H⟩ (as a++replicate (N.length-ps.length) .un) t L (fM a)) :
  aq P w K mg base aN (k+1) f fd ps (cR K al as fM) :=
 F.ok S (λvs H Q E h=>ZP hl h) λcdv A outer s H vs Q E hr h=>by
  obtain⟨t,p,q⟩:=hb cdv A outer s H E hr
  refine⟨t,p,?_⟩
  obtain⟨a,b,Fa,s,hfa,r,kk⟩:=h
  have e:L2.start N vs=vs.map some++replicate (N.length-ps.length) none:=by
   unfold L2.start
   rw[r.len,hl]
  rw[e]
  obtain⟨L,q⟩:=q Fa a
  exact q b hfa Fa _ _ H ⟨Fa,[],.refl _,⟨s,.refl _,λb o h=>.inl h,λx hx=>(by cases hx),(by simp)⟩,ZM _ (hf a) r⟩ λσ' H' ⟨F',O',g,a'⟩=>kk .non H' a'.1.h0 rfl
def Jp(a:Str)(i:Int):Option Str:=if i.natAbs.log2<1920 then some (a++adk (toString i)) else none
def Ly(a z:Str):Option Str:=if z.length<=1000 then some (a++z) else none
theorem zUe(a:Str)(h:Ex B sl .hp t m):Ex B sl md (Vu a t) (m.bind (Jp a)):=λc hc F O H σ Q s k=>by
 cases m with
 |none=>cases hc
 |some i =>
  have hc:Jp a i=some c:=hc
  unfold Jp at hc
  split at hc
  case isFalse=>cases hc
  rename_i hl
  cases hc
  refine h i rfl F O H σ _ s λv F' H' g r1=>?_
  cases r1
  exact .inl ⟨i,rfl,hl,k _ F' H' g rfl⟩
theorem Jq(a:Str)(h:Ex B sl .hp t m):Ex B sl md (Vu a t) (m.bind (Ly a)):=λc hc F O H σ Q s k=>by
 cases m with
 |none=>cases hc
 |some i =>
  have hc:Ly a i=some c:=hc
  unfold Ly at hc
  split at hc
  case isFalse=>cases hc
  rename_i hl
  cases hc
  refine h i rfl F O H σ _ s λv F' H' g r1=>?_
  cases r1
  exact .inr ⟨i,rfl,hl,k _ F' H' g rfl⟩
theorem Pr:kitOne K (.type "str") (.type "str")=some true:=rfl
theorem Jr:bootBuiltins "str" = some (.type "str"):=by decide +kernel
end
section
variable{β:Type}
abbrev xC(kvs:List (Key×β))(k:Str):Option β:=gK kvs (aay k)
def qZ(kvs:List (Key×β))(k:Str)(v:β):Option (List (Key×β)):=if kvs.length<cap then some (pK kvs (aay k) v) else none
end
section
variable{K:PySem.W.Frag}{α:Type}[Rp K α]
variable{B:Bs}{sl:SL K}{md:Md}{t t2:TE}{F H G:Hp}{O:Own}{σ:St}{u:TS}{al:Bool}
theorem BR{m:Option Str}{m2:Option (Dc α)}(h:Ex B sl .hp t m)(h2:Ex B sl .hp t2 m2):Ex B sl md (Ao t t2) (m.bind λk=>m2.bind λd=>some (xC d.kv k).isSome):=λc hc F O H σ Q s kk=>by
 obtain⟨k,d,e1,e2,e3⟩:=uN hc
 cases e3
 refine h k e1 F O H σ _ s λv F' H' g r1=>?_
 refine h2 d e2 F' O H' σ _ (s.grow g) λw F2 H2 g2 r2=>?_
 cases r1
 obtain⟨p,ks,rfl,z1,z2⟩:=r2
 refine⟨p,_,rfl,jQ.k (k:=aay k) z1,?_⟩
 have e:(fK ks (aay k:Key)).isSome=(xC d.kv k).isSome:=by
  rcases z2.val (k:=aay k) with⟨q1,q2⟩|⟨a,v,q1,q2,_⟩
  ·show _=(gK d.kv (aay k)).isSome;rw[q1,q2];rfl
  ·show _=(gK d.kv (aay k)).isSome;rw[q1,q2];rfl
 rw[e]
 exact kk _ F2 H2 (g.trans g2) rfl
theorem zRg{kvs:List (Key×α)}{m:Option α}{mi:Option Str}{te ti:TE}(i:Nat)(hs:sl[i]?=some (.od kvs))(hh:sl.all (λs=>!b_ s)=true)(hv:Ex B sl .fz te m)(hi:Ex B sl .hp ti mi) :
  Sn B sl (RP (cT i) ti te) (λys=>sl.set i (.od ys)) (m.bind λa=>mi.bind λk=>qZ kvs k a):=λys ha G D σ H s k=>by
 obtain⟨a,ix,e1,e2,e3⟩:=uN ha
 unfold qZ at e3
 split at e3
 case isFalse=>cases e3
 rename_i hl
 cases e3
 obtain⟨F,O,g,z⟩:=s
 refine hv a e1 F O H σ _ z λv F' H' gr r=>?_
 obtain⟨p,ks,h1,h2,h3,_⟩:=(z.grow gr).qX hs hh
 refine⟨_,h1,?_⟩
 refine hi ix e2 F' O H' σ _ (z.grow gr) λw F2 H2 qG rw=>?_
 cases rw
 obtain⟨p',ks',h1',h2',h3',h4'⟩:=((z.grow gr).grow qG).qX hs hh
 have e:=h1.symm.trans h1'
 cases e
 obtain⟨O',z'⟩:=h4' (putK ks' (aay ix) v) (pK kvs (aay ix) a) (h3'.put (Rp.mono qG.ff r))
 exact⟨p,_,rfl,pP.k (k:=aay ix) h2' (yw (by rw[h3'.len];exact hl)),k _ _ ⟨F2,O',(g.trans gr.ff).trans qG.ff,z'⟩⟩
end
abbrev LLI:=List LI
abbrev zf:=List (Str×LI)
structure fY(p:Addr) where
 u:Unit
def Tc(C:Addr)(fS:LLI->Option Unit)(fM:zf->Int->Option Unit)(fF:LLI->Int->Option Unit)(fC fO:LLI->Option LLI)(xss:LLI)(mo:Option zf)(fo:Option LLI):Option (aG C) :=
 (fS xss).bind λ_=>(fM (mo.getD []) (xss.length:Int)).bind λ_=>(fF (fo.getD []) (xss.length:Int)).bind λ_=>(fC xss).bind λa=>(wD (λ_=>some true) (λx:Str×LI=>some (x.1,x.2)) (mo.getD [])).bind λb =>
  (fC (fo.getD [])).bind λc=>(fO a).bind λd=>some ⟨a,b,c,d⟩
theorem uC{α β:Type}{m:Option α}{f:α->Option β}{b:β}(h:m.bind f=some b):∃a,m=some a/\f a=some b:=by
 cases m with
 |none=>cases h
 |some a=>exact⟨a,rfl,h⟩
section
variable{K:PySem.W.Frag}{C:Addr}{B:Bs}{sl:SL K}{F H:Hp}{O:Own}{σ:St}
instance:Rp K (fY p):=⟨λ_ v _=>v=.ref p,λ_ h=>h⟩
def Pu(K:PySem.W.Frag)(C:Addr)(mk:LLI->Option zf->Option LLI->Option (aG C)):Sp:=λvs H Q _=>∃(p dx:Addr)(vS vM vF:V)(xss:LLI)(mo:Option zf)(fo:Option LLI)(M:aG C),vs=[.ref p,vS,vM,vF]/\H p=some (.ins C dx []) /\
 rp K (hid H p) vS xss/\rp K (hid H p) vM mo/\rp K (hid H p) vF fo/\mk xss mo fo=some M/\∀H':Hp,(∀b o,b≠p->H b=some o->H' b=some o)->rp K (dif H' (hid H p)) (.ref p) M->Q .non H'
variable{mk:LLI->Option zf->Option LLI->Option (aG C)}
theorem zRd{H1:Hp}{x dx:Addr}(nx:H1 x=none)(ndx:H1 dx=none){vS vM vF:V}{xss:LLI}{mo:Option zf}{fo:Option LLI}{c:aG C}(rS:rp K H1 vS xss)(rM:rp K H1 vM mo)(rF:rp K H1 vF fo)(hc:mk xss mo fo=some c){Q:VK}{E:XK}(k:∀H2:Hp,Same H1 H2->rp K (dif H2 H1) (.ref x) c->Q (.ref x) H2):Pu K C mk [.ref x,vS,vM,vF] (upd (upd H1 dx (.own x)) x (.ins C dx [])) (λv H2=>v=.non/\Q (.ref x) H2) E:=by
 have sG:Same H1 (upd (upd H1 dx (.own x)) x (.ins C dx [])):=λb o e=>by rw[zJ (zL e nx),zJ (zL e ndx)];exact e
 have sh:Same H1 (hid (upd (upd H1 dx (.own x)) x (.ins C dx [])) x):=λb o e=>by
  unfold hid
  rw[if_neg (zL e nx)]
  exact sG b o e
 refine⟨x,dx,vS,vM,vF,xss,mo,fo,c,rfl,zK,Rp.mono sh rS,Rp.mono sh rM,Rp.mono sh rF,hc,λH2 kp r2=>⟨rfl,?_⟩⟩
 refine k H2 (λb o e=>kp b o (zL e nx) (sG b o e)) (Rp.mono (λb o e=>?_) r2)
 have hb:H1 b=none:=by
  cases q:H1 b with
  |none=>rfl
  |some u =>
   have:hid (upd (upd H1 dx (.own x)) x (.ins C dx [])) x b=some u:=sh b u q
   unfold dif at e
   rw[this] at e
   cases e
 rw[wZ hb]
 exact aP _ _ e
theorem zP4(h1:Ex B sl .hp t1 m1)(h2:Ex B sl .hp t2 m2)(h3:Ex B sl .hp t3 m3) :
  En B sl (Ih C (Pu K C mk) [] E0 (yK t1 (yK t2 (yK t3 aY)))) (m1.bind λa=>m2.bind λb=>m3.bind λc=>mk a (some b) (some c)):=λc hc F O H σ Q s kk=>by
 obtain⟨a,rfl,hc⟩:=uC (m:=m1) hc
 obtain⟨b,rfl,hc⟩:=uC (m:=m2) hc
 obtain⟨d,rfl,hc⟩:=uC (m:=m3) hc
 refine h1 a rfl F O H σ _ s λv1 F1 H1 g1 r1=>?_
 refine h2 b rfl F1 O H1 σ _ (s.grow g1) λv2 F2 H2 g2 r2=>?_
 refine h3 d rfl F2 O H2 σ _ ((s.grow g1).grow g2) λv3 F3 H3 g3 r3=>?_
 intro x dx nx ndx nex
 have r2':rp K H2 v2 b:=r2
 have r3':rp K H3 v3 d:=r3
 exact zRd nx ndx (Rp.mono (g2.hh.trans g3.hh) r1) (show rp K H3 v2 (some b) from⟨Nn.nn (K:=K) r2',Rp.mono g3.hh r2⟩) (show rp K H3 v3 (some d) from⟨Nn.nn (K:=K) r3',r3⟩) hc λH4 s4 r4=>kk _ F3 H3 H4 (g1.trans (g2.trans g3)) s4 r4
theorem Js(h:b≠p):hid H p b=H b:=by unfold hid;rw[if_neg h]
theorem Lz:hid H p p=none:=by unfold hid;rw[if_pos rfl]
theorem Px:Same (hid H p) H:=λb o e=>by
 by_cases q:b=p
 ·subst q;rw[Lz] at e;cases e
 ·rw[Js q] at e;exact e
theorem LC(s:Same H H'):Same (hid H p) (hid H' p):=λb o e=>by
 by_cases q:b=p
 ·subst q;rw[Lz] at e;cases e
 ·rw[Js q] at e ⊢;exact s b o e
theorem Gk:hid (upd H p o) p=hid H p:=by
 funext b
 by_cases q:b=p
 ·subst q;rw[Lz,Lz]
 ·rw[Js q,Js q,zJ q]
theorem Td(kp:∀b o,b≠p->H b=some o->Hi b=some o)(hp:Hi p≠none):Same (dif H' Hi) (dif (hid H' p) (hid H p)):=λb o e=>by
 have hb:Hi b=none:=by
  cases q:Hi b with
  |none=>rfl
  |some u=>unfold dif at e;rw[q] at e;cases e
 have nb:b≠p:=λq=>hp (by rw[<-q];exact hb)
 rw[wZ hb] at e
 have h0:hid H p b=none:=by
  rw[Js nb]
  cases q:H b with
  |none=>rfl
  |some u=>rw[kp b u nb q] at hb;cases hb
 rw[wZ h0,Js nb]
 exact e
theorem zUj(hs:ak (K:=K) ⟨hid Hi p,Hi⟩ (hid Hi p) (lo (hid Hi p) [] Hi) Hi sl σ []):At (K:=K) ⟨hid Hi p,Hi⟩ sl (hid Hi p) [] Hi σ :=
 ⟨⟨Px,.refl _,λb o h=>.inl h,λx hx=>(by cases hx),by simp⟩,hs⟩
end
end Ts
namespace oK
open PySem
def Rz(xs:Array Nat):Prop:=∀i k a b:Nat,i<k->xs[i]?=some a->xs[k]?=some b->a<b
theorem Wa(hr:Rz xs):∀(fuel lo hi:Nat),hi-lo<=fuel->lo<=hi->hi<=xs.size->(∀i a,i<lo->xs[i]?=some a->a<j)->(∀i a,hi<=i->xs[i]?=some a->j<=a) ->
  (below.go xs j fuel lo hi)<=xs.size/\(∀i a,i<below.go xs j fuel lo hi->xs[i]?=some a->a<j)/\(∀i a,below.go xs j fuel lo hi<=i->xs[i]?=some a->j<=a)
 |0,lo,hi,hf,hl,hz,h1,h2=>by
  have e:lo=hi:=by omega
  subst e
  unfold below.go
  exact⟨hz,h1,h2⟩
 |fuel+1,lo,hi,hf,hl,hz,h1,h2=>by
  unfold below.go
  by_cases hlt:lo<hi
  ·rw[if_pos hlt]
   have hm:(lo+hi)/2<hi:=by omega
   have hm0:lo<=(lo+hi)/2:=by omega
   have hms:(lo+hi)/2<xs.size:=by omega
   have e:xs.getD ((lo+hi)/2) j=xs[(lo+hi)/2]:=by simp[Array.getD,hms]
   dsimp only
   rw[e]
   by_cases hc:xs[(lo+hi)/2]<j
   ·rw[if_pos hc]
    refine Wa hr fuel _ hi (by omega) (by omega) hz (λi a hi' ha=>?_) h2
    by_cases hi2:i=(lo+hi)/2
    ·subst hi2
     rw[aak hms] at ha
     cases ha
     exact hc
    ·exact adi (hr i ((lo+hi)/2) a _ (by omega) ha (aak hms)) hc
   ·rw[if_neg hc]
    refine Wa hr fuel lo _ (by omega) (by omega) (by omega) h1 (λi a hi' ha=>?_)
    by_cases hi2:i=(lo+hi)/2
    ·subst hi2
     rw[aak hms] at ha
     cases ha
     omega
    ·have:=hr ((lo+hi)/2) i _ a (by omega) (aak hms) ha
     omega
  ·rw[if_neg hlt]
   have e:lo=hi:=by omega
   subst e
   exact⟨hz,h1,h2⟩
theorem Wb(hr:Rz xs)(j:Nat):below xs j<=xs.size/\(∀i a,i<below xs j->xs[i]?=some a->a<j)/\(∀i a,below xs j<=i->xs[i]?=some a->j<=a) :=
 Wa hr xs.size 0 xs.size (by omega) (aa0 _) (aag _) (λi a h=>absurd h (ab4 _)) (λi a h1 h2=>by
  rw[aa6 h1] at h2
  cases h2)
theorem Ju{α:Type}(xs:Array α)(p:Nat)(x:α)(hp:p<=xs.size)(i:Nat):(insertAt xs p x)[i]?=if i<p then xs[i]? else if i=p then some x else xs[i-1]?:=by
 have e:insertAt xs p x=(xs.toList.take p++x::xs.toList.drop p).toArray:=by
  unfold insertAt
  apply Array.ext'
  simp
  rw[List.take_of_length_le (by rw[length_drop,length_toList];exact aag _)]
 rw[e,getElem?_toArray]
 have hl:p<=xs.toList.length:=by simpa using hp
 by_cases h1:i<p
 ·rw[if_pos h1,getElem?_append_left (by rw[length_take];omega),getElem?_take_of_lt h1,getElem?_toList]
 ·rw[if_neg h1,getElem?_append_right (by rw[length_take];omega),length_take,Nat.min_eq_left hl]
  by_cases h2:i=p
  ·subst h2;simp
  ·rw[if_neg h2]
   obtain⟨k,rfl⟩:∃k,i=p+1+k:=⟨i-(p+1),by omega⟩
   rw[show p+1+k-p=k+1 by omega,List.getElem?_cons_succ,List.getElem?_drop,getElem?_toList]
   congr 1
   omega
theorem Jv(hr:Rz xs)(hn:xs[below xs j]?≠some j):Rz (insertAt xs (below xs j) j):=by
 obtain⟨b1,b2,b3⟩:=Wb hr j
 intro i k a b hik ha hb
 rw[Ju _ _ _ b1] at ha hb
 generalize below xs j=p at *
 have up:∀m c,p<=m->xs[m]?=some c->j<c:=λm c hm hc=>by
  have h1:=b3 m c hm hc
  by_cases e:m=p
  ·subst e
   have:c≠j:=λz=>hn (by rw[hc,z])
   omega
  ·have hp:p<xs.size:=by
    have:m<xs.size:=by
     by_cases z:m<xs.size
     ·exact z
     ·rw[aa6 (by omega)] at hc;cases hc
    omega
   have h2:=hr p m _ c (by omega) (aak hp) hc
   have h3:=b3 p _ (aag _) (aak hp)
   omega
 by_cases i1:i<p
 ·rw[if_pos i1] at ha
  have ja:=b2 i a i1 ha
  by_cases k1:k<p
  ·rw[if_pos k1] at hb;exact hr i k a b hik ha hb
  ·rw[if_neg k1] at hb
   by_cases k2:k=p
   ·rw[if_pos k2] at hb;cases hb;exact ja
   ·rw[if_neg k2] at hb
    exact adi ja (up (k-1) b (by omega) hb)
 ·rw[if_neg i1] at ha
  have k1:¬k<p:=by omega
  have k2:¬k=p:=by omega
  rw[if_neg k1,if_neg k2] at hb
  by_cases i2:i=p
  ·rw[if_pos i2] at ha;cases ha;exact up (k-1) b (by omega) hb
  ·rw[if_neg i2] at ha
   exact hr (i-1) (k-1) a b (by omega) ha hb
def Free(t:SetTable)(j:Nat):Prop:=t.place[below t.place j]?≠some j
theorem zG8{t:SetTable}(h:∀i,t.slot j≠.live i):Free t j:=λe=>by
 refine h (below t.place j) ?_
 unfold SetTable.slot
 simp[e]
theorem Wc:∀(fuel:Nat)(p:SetTable.Probe)(j:Nat)(d:Option Nat),(∀d,p.dummy=some d->Free t d)->probe.go t f h fuel p=some (.empty j d)->Free t j/\∀e,d=some e->Free t e
 |0,p,j,d,hd,e=>by unfold probe.go at e;cases e
 |fuel+1,p,j,d,hd,e=>by
  have adv:∀q:SetTable.Probe,(t.advance q).dummy=q.dummy:=λq=>by
   unfold SetTable.advance
   split
   ·rfl
   ·rfl
  unfold probe.go at e
  cases hs:t.slot p.j with
  |empty =>
   rw[hs] at e
   cases e
   exact⟨zG8 (λi z=>by rw[hs] at z;cases z),hd⟩
  |dummy =>
   rw[hs] at e
   refine Wc fuel _ j d (λd' h'=>?_) e
   rw[adv] at h'
   cases h'
   exact zG8 λi z=>by rw[hs] at z;cases z
  |live i =>
   rw[hs] at e
   dsimp only at e
   split at e
   ·cases e
   ·exact Wc fuel _ j d (λd' h'=>hd d' (by rw[adv] at h';exact h')) e
theorem zGm{t:SetTable}(e:t.freeSlot h=some (j,b)):Free t j:=by
 unfold SetTable.freeSlot at e
 split at e
 ·rename_i j' d hp
  cases e
  have q:=Wc (t:=t) _ _ j' d (λd h'=>by cases h') hp
  cases d with
  |none=>exact q.1
  |some d=>exact q.2 d rfl
 ·cases e
structure Tb(led:Bool)(t:SetTable):Prop where
 led:t.led=led
 rz:t.plain=true->Rz t.place
theorem Te(h:Tb led t)(n:Nat):Tb led (t.standIn n):=⟨h.led,λz=>by cases z⟩
theorem Py(h:Tb led t)(n:Nat):Tb led (t.orStandIn n):=by
 unfold SetTable.orStandIn
 split
 ·exact h
 ·exact Te h n
theorem Jw(hb:Tb led t)(es:Array (Int×Value))(h:Int)(x:Value):Tb led (layNew t es h x).2.1:=by
 unfold layNew
 cases e:t.freeSlot h with
 |none=>exact Te hb _
 |some q =>
  obtain⟨j,b⟩:=q
  dsimp only
  refine Py (t:=(t.put j).1) ⟨hb.led,λz=>?_⟩ _
  exact Jv (hb.rz z) (zGm e)
theorem zHf(f:Nat->Option Nat)(n:Nat):Rz (((aat n).filterMap λj=>(f j).map (j,·)).map (·.1)).toArray:=by
 have hp:(((aat n).filterMap λj=>(f j).map (j,·)).map (·.1)).Pairwise (· < ·):=by
  rw[pairwise_map]
  refine Pairwise.filterMap _ ?_ (List.pairwise_lt_range (n:=n))
  intro a b hab x hx y hy
  cases ea:f a with
  |none=>rw[ea] at hx;cases hx
  |some u =>
   cases eb:f b with
   |none=>rw[eb] at hy;cases hy
   |some v =>
    rw[ea] at hx
    rw[eb] at hy
    cases hx
    cases hy
    exact hab
 intro i k a b hik ha hb
 rw[getElem?_toArray] at ha hb
 obtain⟨h1,e1⟩:=aaj.mp ha
 obtain⟨h2,e2⟩:=aaj.mp hb
 rw[<-e1,<-e2]
 exact List.pairwise_iff_getElem.mp hp i k h1 h2 hik
theorem zQ8(hb:Tb led t)(es:Array (Int×Value))(n:Nat):Tb led (relayAll t es n).2.1:=by
 unfold relayAll
 cases e:t.relaid (es.map (·.1)) n with
 |none=>exact Te hb _
 |some q =>
  obtain⟨t',order⟩:=q
  dsimp only
  split
  ·unfold SetTable.relaid SetTable.laid at e
   cases e2:SetTable.layClean (SetTable.sizeAbove n-1) (es.map (·.1)) with
   |none=>rw[e2] at e;cases e
   |some owner =>
    rw[e2] at e
    cases e
    exact⟨hb.led,λ_=>zHf _ _⟩
  ·exact Te hb _
theorem zQ9(led:Bool):Tb led (.fresh 0 0 led):=⟨rfl,λ_=>λi k a b _ h _=>by
 have:(#[]:Array Nat)[i]?=some a:=h
 simp at this⟩
section
variable{prog:Program}{w:World}{κ:Type}[DecidableEq κ](knd:KeyKind prog w κ)(dec:Value->κ)
def Good(led:Bool)(h:Heap)(a:Addr)(ks:List κ):Prop :=
 ∃o es ep t,h.get? a=some o/\o.ExactSet/\o.data=.set es ep t/\ElemsOf knd es.toList/\(es.toList.map λe=>dec e.2).Perm ks/\ks.Nodup/\es.size<scanBound/\t.fits es.size=true/\Tb led t
variable{knd}{dec}{led:Bool}{A:Around}{E:Value->Shared->Prop}{s:Shared}
theorem Good.len(g:Good knd dec led h a ks):ks.length<scanBound:=by
 obtain⟨o,es,ep,t,_,_,_,_,p,_,hb,_⟩:=g
 rw[<-p.length_eq,length_map,length_toList]
 exact hb
theorem Good.keep{h':Heap}(g:Good knd dec led h a ks)(k:∀o,h.get? a=some o->h'.get? a=some o):Good knd dec led h' a ks:=by
 obtain⟨o,es,ep,t,h1,rest⟩:=g
 exact⟨o,es,ep,t,k _ h1,rest⟩
theorem zHz(hdec:∀k v,knd.is k v=true->dec v=k)(hel:ElemsOf knd es)(k:κ):es.findIdx? (λe=>knd.is k e.2)=none↔k∉es.map λe=>dec e.2:=by
 rw[List.findIdx?_eq_none_iff]
 constructor
 ·intro h hm
  obtain⟨e,he,rfl⟩:=mem_map.mp hm
  obtain⟨⟨k',hk,_⟩,_⟩:=hel e he
  have:=h e he
  rw[hdec k' _ hk,hk] at this
  cases this
 ·intro h e he
  cases q:knd.is k e.2 with
  |false=>rfl
  |true=>exact absurd (mem_map.mpr ⟨e,he,hdec _ _ q⟩) h
theorem Gm{h:Heap}(ho:h.get? a=some o)(hd:o.data=.set es ep t):(h.update a (aev es' t')).get? a=some { o with data:=.set es' (ep+1) t' }:=by
 have q:=get?_update_self (aev es' t') ho (by rw[putSet_of es' t' hd];rfl)
 rw[putSet_of es' t' hd] at q
 exact q
theorem Wd{Q:Unit->Shared->Prop}(h:Q () s1):wpAny (model prog w) A (match b with|true=>rule "set.scan.the-table-gave-way" | false=>pure ()) Q E s1:=by
 cases b
 ·exact aae h
 ·exact adq h
theorem zK8{g:Bool->Sem Unit}(hg:∀(b:Bool) (s₁:Shared) (Q':Unit->Shared->Prop),Q' () s₁->wpAny (model prog w) A (g b) Q' E s₁){es1:Array (Int×Value)}{t2:SetTable}{R:Option Bool->Shared->Prop}(ho:s.heap.get? a=some o)(hx:o.ExactSet)(hd:o.data=.set es ep t)(hel:ElemsOf knd es1.toList)(hp:(es1.toList.map λe=>dec e.2).Perm ks)(nd:ks.Nodup)(hb:es1.size<scanBound)(hf:t2.fits es1.size=true)(tb:Tb led t2)(h:∀h',SameBut a s.heap h'->Good knd dec led h' a ks->R (some true) { s with heap:=h' }) :
  wpAny (model prog w) A (storeSet a es1 t2 >>= λ_=>if(!Pz&&t2.tooFull)=true then(g (relayAll t2 es1 (grown es1.size)).2.2 >>= λ_=>storeSet a (relayAll t2 es1 (grown es1.size)).1 (relayAll t2 es1 (grown es1.size)).2.1 >>= λ_=>pure (some true)) else pure (some true)) R E s:=by
 refine aad (abz ho hd ?_ (aby hb))
 have o1:=Gm (es':=es1) (t':=t2) ho hd
 have sb:=SameBut.update s.heap a (aev es1 t2)
 split
 ·have rp:=relayAll_perm t2 es1 (grown es1.size)
  have rf:=relayAll_fits t2 es1 (grown es1.size)
  have rt:=zQ8 tb es1 (grown es1.size)
  generalize relayAll t2 es1 (grown es1.size)=L at rp rf rt ⊢
  obtain⟨es2,t3,gv⟩:=L
  dsimp only at rp rf rt ⊢
  have sz:es2.size=es1.size:=by rw[<-length_toList,rp.length_eq,length_toList]
  refine aad (hg _ _ _ (aad (abz o1 rfl (aae (h _ (sb.trans (SameBut.update _ a _)) ⟨_,es2,_,t3,Gm (es':=es2) (t':=t3) o1 rfl,hx,rfl,hel.perm rp,(rp.map _).trans hp,nd,by rw[sz];exact hb,rf,rt⟩)) (aby (by rw[sz];exact hb)))))
 ·exact aae (h _ sb ⟨_,es1,_,t2,o1,hx,rfl,hel,hp,nd,hb,hf,tb⟩)
theorem Jx(h:Tb led t):Tb led { t with plain:=false }:=⟨h.led,λz=>by cases z⟩
theorem Tf(hdec:∀k v,knd.is k v=true->dec v=k){Q:Bool->Shared->Prop}(hk:knd.is k x=true)(hs:x.scannable=true)(g:Good knd dec led s.heap a ks)(room:ks.length+1<scanBound)(h:∀(h':Heap) (b:Bool),SameBut a s.heap h'->Good knd dec led h' a (if k∈ks then ks else k::ks)->Q b { s with heap:=h' }) :
  wpAny (model prog w) A (setAddHashed a x (knd.hash k)) Q E s:=by
 obtain⟨o,es,ep,t,ho,hx,hd,hel,hp,nd,hb,hf,tb⟩:=g
 have n:es.size=ks.length:=by rw[<-hp.length_eq,length_map,length_toList]
 unfold setAddHashed setAddHashedIn
 refine aa3 (aad (aaq ho hd hf ?_))
 dsimp only
 rw[byScan_of hs hb hel]
 simp only[↓reduceIte]
 unfold setAddByScan
 refine aad (aad (adq (aad (wpAny_setScan_of hk ho hd hf hel ?_))))
 have fi:=zHz hdec hel k
 cases hr:List.findIdx? (λe=>knd.is k e.2) es.toList with
 |some j =>
  have hm:k∈ks:=by
   refine hp.mem_iff.mp (Classical.byContradiction λz=>?_)
   rw[fi.mpr z] at hr
   cases hr
  dsimp only
  refine aae (aae ?_)
  have q:=h s.heap false (SameBut.refl a s.heap)
  rw[if_pos hm] at q
  exact q ⟨o,es,ep,t,ho,hx,hd,hel,hp,nd,hb,hf,tb⟩
 |none =>
  have hm:k∉ks:=λz=>fi.mp hr (hp.mem_iff.mpr z)
  dsimp only
  have lp:=layNew_perm t es (knd.hash k) x
  have lf:=layNew_fits t es (knd.hash k) x
  have lt:=Jw tb es (knd.hash k) x
  generalize layNew t es (knd.hash k) x=L at lp lf lt ⊢
  obtain⟨es1,t1,Pz,gave⟩:=L
  dsimp only at lp lf lt ⊢
  rw[Array.toList_push] at lp
  have sz:es1.size=es.size+1:=by rw[<-length_toList,lp.length_eq,length_append,length_toList];rfl
  have hp1:(es1.toList.map λe=>dec e.2).Perm (k::ks):=by
   refine(lp.map _).trans ?_
   rw[map_append]
   show(_++[dec x]).Perm _
   rw[hdec k x hk]
   exact Perm.trans (l₂:=k::es.toList.map λ(e:Int×Value)=>dec e.2) List.perm_append_comm (hp.cons k)
  have fin:∀h',SameBut a s.heap h'->Good knd dec led h' a (k::ks)->Q true { s with heap:=h' }:=λh' sb g'=>by
   have q:=h h' true sb
   rw[if_neg hm] at q
   exact q g'
  have nd1:(k::ks).Nodup:=nodup_cons.mpr ⟨hm,nd⟩
  refine aad (Wd ?_)
  split
  ·refine aad ?_
   rw[hashByValue_scannable 8 hs]
   refine aae ?_
   refine zK8 (led:=led) (Pz:=Pz) (λb s₁ Q' hq=>Wd hq) ho hx hd ((hel.push hk hs).perm lp) hp1 nd1 (by rw[sz,n];exact room) ?_ ?_ λh' sb g'=>?_
   ·split
    ·exact lf
    ·exact SetTable.fits_plain_off lf
   ·split
    ·exact lt
    ·exact Jx lt
   ·exact aae (fin h' sb g')
  ·refine aad (aae ?_)
   simp only[↓reduceIte]
   refine zK8 (led:=led) (Pz:=Pz) (λb s₁ Q' hq=>Wd hq) ho hx hd ((hel.push hk hs).perm lp) hp1 nd1 (by rw[sz,n];exact room) lf lt λh' sb g'=>?_
   exact aae (fin h' sb g')
end
open PySem PySem.Spec PyProof.Rows
section
variable{κ:Type}[DecidableEq κ]
def met(val:Nat->κ):Nat->List κ
 |0=>[]
 |i+1=>if val i∈met val i then met val i else val i::met val i
theorem zOu(val:Nat->κ):∀i,(met val i).length<=i
 |0=>aag _
 |i+1=>by
  have ih:=zOu val i
  unfold met
  split
  ·omega
  ·rw[length_cons];omega
theorem zOv(val:Nat->κ)(k:κ):∀i,k∈met val i↔∃j,j<i/\val j=k
 |0=>by simp[met]
 |i+1=>by
  have ih:=zOv val k i
  have lt:(∃j,j<i+1/\val j=k)↔(∃j,j<i/\val j=k)\/val i=k:=by
   constructor
   ·rintro⟨j,hj,e⟩
    by_cases q:j=i
    ·subst q;exact .inr e
    ·exact .inl ⟨j,by omega,e⟩
   ·rintro(⟨j,hj,e⟩|e)
    ·exact⟨j,by omega,e⟩
    ·exact⟨i,by omega,e⟩
  rw[lt,<-ih]
  show k∈(if val i∈met val i then met val i else val i::met val i)↔_
  split
  ·rename_i hm
   exact⟨.inl,λh=>h.elim id λe=>e▸hm⟩
  ·rw[mem_cons]
   exact⟨λh=>h.elim (λe=>.inr e.symm) .inl,λh=>h.elim .inr λe=>.inl e.symm⟩
variable{prog:Program}{w:World}{knd:KeyKind prog w κ}{dec:Value->κ}{led:Bool}{A:Around}{R:Result->Shared->Prop}{I:Addr}{fp wr:List Addr}{G:Array GenState->Array GenState->Prop}{n:Nat}{P:Nat->Value->Prop}{St:Nat->Shared->Prop}
theorem BW(hdec:∀k v,knd.is k v=true->dec v=k)(W:WalksS prog w A.in1 I fp wr G n P St)(S:Addr)(off:S∉fp)(val:Nat->κ)(hval:∀i v,P i v->knd.is (val i) v=true/\v.scannable=true)(hb:n+1<scanBound) :
  ∀(k i:Nat)(s:Shared),n-i=k->i<=n->St i s->Good knd dec led s.heap S (met val i)->(∀s',Moved (S::wr) G s s'->Good knd dec led s'.heap S (met val n)->R (.ok (.ret .none)) s')->codeAny (model prog w) A (.builtin "set.update.loop" ⟨[.ref S,.ref I],[]⟩) R s:=by
 have PB:S∉wr:=λh=>off (W.sub _ h)
 have sub:∀b∈wr,b∈S::wr:=λb hb=>mem_cons_of_mem _ hb
 intro k
 induction k with
 |zero =>
  intro i s hk hi st g fin
  have e:i=n:=by omega
  subst e
  refine acq F.entry_set_update_loop ?_
  rw[ab6 ade _]
  refine aad (m:=pyNext (.ref I)) (W.done s _ _ st λs' hm=>?_)
  exact aae (fin s' (hm.mono sub) (g.keep λo h=>hm.heap S o PB h))
 |succ k ih =>
  intro i s hk hi st g fin
  have lt:i<n:=by omega
  refine acq F.entry_set_update_loop ?_
  rw[ab6 ade _]
  refine aad (m:=pyNext (.ref I)) (W.item i s _ _ lt st λv s' hP st' hm=>?_)
  obtain⟨his,hsc⟩:=hval i v hP
  refine aad (m:=holding [v] (setAdd S v)) (aa3 ?_)
  unfold setAdd
  refine aa3 (aad (knd.pyHash (k:=val i) his ?_))
  refine Tf (led:=led) (s:={ s' with toks:=s'.toks+1 }) hdec his hsc (g.keep λo h=>hm.heap S o PB h) (by have:=zOu val i;omega) λh' b sb g'=>?_
  refine aae ⟨adw ade _,ih (i+1) _ (by omega) lt (W.frame _ s' _ _ st' (abv _) λb hb o e=>?_) g' λs'' hm'' g''=>?_⟩
  ·rw[sb.2 b (λh:b=S=>off (by rw[<-h];exact hb))];exact e
  ·refine fin s'' (Moved.trans W.gtrans ((hm.mono sub).then_heap (abv _) λb o hb e=>?_) hm'') g''
   rw[sb.2 b (λh:b=S=>hb (h▸mem_cons_self))];exact e
end
section
variable{prog:Program}{w:World}{A:Around}{E:Value->Shared->Prop}{s:Shared}
def zP(w:World):Bool:=!w.params.followText "set-order"
theorem zSd(a:Value){Q₁:Value->Shared->Prop}(h:Q₁ (.ref s.heap.objs.size) { s with heap:=s.heap.push { cls:=.type "set",dict:=none,data:=.set #[] 0 (.fresh 0 0 (zP w)) } }) :
  codeAny (model prog w) A (.call (.builtin "set.__new__") ⟨[.type "set",a],[]⟩) (wants Q₁ E) s:=by
 refine codeAny_of_tree (aad (m:=checkBuiltinCall "set.__new__" ⟨[.type "set",a],[]⟩) (wpAny_of_eq (F.newCall_set_1 a) (aae ⟨adw F.plain_set_new _,acq F.entry_set_new ?_⟩)))
 rw[ab6 F.plain_set_new _]
 unfold Builtin.«set.__new__» Builtin.Frozenset.newClass
 have sub:=aef
 obtain⟨hp,g,d,tk,os⟩:=s
 dsimp only
 wp_walk
 refine ac2 (aae ?_)
 dsimp only
 simp only[newObj]
 exact aad (wpAny_alloc (aae (aae h)))
theorem PJ{κ:Type}[DecidableEq κ]{knd:KeyKind prog w κ}{dec:Value->κ}{h:Heap}(e:h.get? a=some { cls:=.type "set",dict:=none,data:=.set #[] 0 (.fresh 0 0 led) }):Good knd dec led h a [] :=
 ⟨_,#[],0,.fresh 0 0 led,e,⟨rfl,rfl,rfl⟩,rfl,λx hx=>by simp at hx,by simp,List.nodup_nil,by show 0<4096;decide,by cases led<;>rfl,zQ9 led⟩
set_option maxHeartbeats 4000000 in
theorem zS5{κ:Type}[DecidableEq κ]{knd:KeyKind prog w κ}{dec:Value->κ}(hdec:∀k v,knd.is k v=true->dec v=k){Q:Value->Shared->Prop}(val:Nat->κ)(hh:A.handled=none)(hl:s.heap.IsList l items)(hi:∀(i:Nat) (v:Value),items[i]?=some v->knd.is (val i) v=true/\v.scannable=true)(hb:items.size+1<scanBound)(h:∀(h':Heap) (tk:Nat),Good knd dec (zP w) h' s.heap.objs.size (met val items.size)->(∀b o,b<s.heap.objs.size->s.heap.get? b=some o->h'.get? b=some o)->Q (.ref s.heap.objs.size) { s with heap:=h',toks:=tk }) :
  wpAny (model prog w) A (call (.type "set") [.ref l]) Q E s:=by
 obtain⟨c,tl,hmro⟩:=F.called_set.mro
 have hmade:=F.called_set.made
 have hsub:=F.called_set.sub
 refine wpAny_call (codeAny_of_tree (aae ⟨Code.quiet_builtin _ (by decide +kernel),acq F.entry_type_call ?_⟩))
 rw[Around.under_plain (weight_type_call_type "set" [.ref l] []) rfl]
 have h1:=F.called_set.notType
 have h2:=F.called_set.canCreate
 have hct:=F.typeCall_set_1 (.ref l)
 repeat(any_goals (first|assumption|wp_step))
 refine ac1 (zSd (.ref l) (E:=E) (Q₁:=λobj s₁=>obj=.ref s.heap.objs.size/\s₁={ s with heap:=s.heap.push { cls:=.type "set",dict:=none,data:=.set #[] 0 (.fresh 0 0 (zP w)) } }) ⟨rfl,rfl⟩) λr s₁ hr=>?_
 cases r with
 |error e=>exact hr
 |ok fl =>
  cases fl with
  |ret obj =>
   obtain⟨rfl,rfl⟩:=hr
   have hS:(s.heap.push { cls:=.type "set",dict:=none,data:=.set #[] 0 (.fresh 0 0 (zP w)) }).get? s.heap.objs.size=some { cls:=.type "set",dict:=none,data:=.set #[] 0 (.fresh 0 0 (zP w)) }:=get?_push_size _ rfl
   have hT:Shared.TypeIs { s with heap:=s.heap.push { cls:=.type "set",dict:=none,data:=.set #[] 0 (.fresh 0 0 (zP w)) } } (.ref s.heap.objs.size) "set":=⟨_,hS,rfl⟩
   have hli:=F.called_set.init.lookup
   have hbi:=F.called_set.init.bind (.ref s.heap.objs.size)
   repeat(any_goals (first|assumption|wp_step))
   refine ac1 (codeAny_call_builtin (R:=wants (λr s₂=>r=.none/\∃h' tk,s₂={ s with heap:=h',toks:=tk }/\Good knd dec (zP w) h' s.heap.objs.size (met val items.size)/\(∀b o,b<s.heap.objs.size->s.heap.get? b=some o->h'.get? b=some o)) E)
    F.called_set.init.plain F.entry_set_init (check_set_init_1 hT ?_)) λr₂ s₂ hr₂=>?_
   ·obtain⟨ol,hol,hcl,nl,hdl⟩:=hl
    obtain⟨ocls,odict,odata,oslots⟩:=ol
    simp only at hcl hdl
    subst hcl
    subst hdl
    have hol':(s.heap.push { cls:=.type "set",dict:=none,data:=.set #[] 0 (.fresh 0 0 (zP w)) }).get? l=some { cls:=.type "list",dict:=odict,data:=.seq items nl,slots:=oslots }:=get?_push_of_some _ hol
    have hsls:=F.sub_list_set
    have hslf:=F.sub_list_frozenset
    have hne:(ac8 "list" == ac8 "dict")=false:=by decide
    have hl1:(s.heap.push { cls:=.type "set",dict:=none,data:=.set #[] 0 (.fresh 0 0 (zP w)) }).IsList l items:=⟨_,hol',rfl,nl,rfl⟩
    unfold Builtin.«set.__init__» noKeywords aco
    generalize hPI:pyIter=PI
    wp_walk
    subst hPI
    refine ad7 hl1 (aad (wpAny_runValue ?_))
    have hlS:l<s.heap.objs.size:=lt_size hol
    have sz:(s.heap.push { cls:=.type "set",dict:=none,data:=.set #[] 0 (.fresh 0 0 (zP w)) }).objs.size=s.heap.objs.size+1:=size_push ..
    have hneI:l≠(s.heap.push { cls:=.type "set",dict:=none,data:=.set #[] 0 (.fresh 0 0 (zP w)) }).objs.size:=by rw[sz];exact aam (adh hlS)
    refine BW (led:=zP w) hdec ((Walks.list (by simp[hh]) _ l hneI items).toS) s.heap.objs.size (by
     rw[sz]
     intro z
     rcases mem_cons.mp z with z|z
     ·exact absurd z (aam (ach _))
     ·exact absurd (mem_singleton.mp z) (ac0 hlS)) val hi hb (items.size-0) 0 _ (by omega) (aa0 _) ⟨⟨_,get?_push_size _ rfl,rfl,rfl⟩,hl1.push _⟩ (PJ (get?_push_of_some _ hS)) λs' hm g'=>?_
    obtain⟨h',g1,d1,tk',os1⟩:=s'
    have eg:g1=s.gens:=hm.gens
    have ed:d1=s.drawn:=hm.drawn
    have eo:os1=s.os:=hm.os
    subst eg ed eo
    refine aae ?_
    refine aae ⟨rfl,h',tk',rfl,g',λb o hb e=>hm.heap b o (λz=>?_) (get?_push_of_some _ (get?_push_of_some _ e))⟩
    rcases mem_cons.mp z with z|z
    ·exact absurd z (aam hb)
    ·have z:=mem_singleton.mp z
     rw[sz] at z
     exact absurd z (aam (adh hb))
   ·cases r₂ with
    |error e=>exact hr₂
    |ok fl₂ =>
     cases fl₂ with
     |ret r =>
      obtain⟨rfl,h',tk,rfl,hS',hk'⟩:=hr₂
      repeat(any_goals (first|assumption|wp_step))
      exact h _ _ hS' hk'
     |_=>exact hr₂.elim
  |_=>exact hr.elim
end
set_option maxRecDepth 100000
theorem zJ1:Manifest.owners.lookup (String.ofList ['r','o','t','a','r','e','t','i','_','t','e','s'].reverse)=some Manifest.sig_set_iterator:=by kernel_rfl
theorem iZ:Slot "set_iterator" "__next__" "set_iterator.__next__":=.of (owner:="set_iterator") (n:="__next__") (by rw[aeg,ado];kernel_rfl) (by decide +kernel) (by decide +kernel) (by decide +kernel) (by first|exact .inl (by decide +kernel)|exact .inr (by decide +kernel)) (by rw[isSubtype_type];kernel_rfl)
theorem zFv:entryFor table "set_iterator.__next__" = some Builtin.«set_iterator.__next__»:=entryFor_of_tree (by kernel_rfl)
theorem zHa(a:Value):argsOk "set_iterator.__next__" ⟨[a],[]⟩:=by unfold argsOk;rw[signature?_of (id:="set_iterator.__next__") (n:=['_','_','t','x','e','n','_','_']) (o:=['r','o','t','a','r','e','t','i','_','t','e','s']) (by kernel_rfl) zJ1];kernel_rfl
theorem zNq:Slot "set_iterator" "__iter__" "set_iterator.__iter__":=.of (owner:="set_iterator") (n:="__iter__") (by rw[aeg,ado];kernel_rfl) (by decide +kernel) (by decide +kernel) (by decide +kernel) (by first|exact .inl (by decide +kernel)|exact .inr (by decide +kernel)) (by rw[isSubtype_type];kernel_rfl)
theorem zFw:entryFor table "set_iterator.__iter__" = some Builtin.«dict_keyiterator.__iter__»:=adl (id':="dict_keyiterator.__iter__") (by kernel_rfl) rfl (by decide +kernel) (by kernel_rfl)
theorem zHb(a:Value):argsOk "set_iterator.__iter__" ⟨[a],[]⟩:=by unfold argsOk;rw[signature?_of (id:="set_iterator.__iter__") (n:=['_','_','r','e','t','i','_','_']) (o:=['r','o','t','a','r','e','t','i','_','t','e','s']) (by kernel_rfl) zJ1];kernel_rfl
theorem zEr:entryFor table "set.__iter__" = some Builtin.«frozenset.__iter__»:=adl (id':="frozenset.__iter__") (by kernel_rfl) rfl (by decide +kernel) (by kernel_rfl)
theorem qI:typeLookup (.type "set") "__len__" = pure (some (.builtin "set.__len__")):=by rw[aeg,ado];kernel_rfl
set_option maxRecDepth 100000
section
variable{prog:Program}{w:World}{A:Around}{E:Value->Shared->Prop}{s:Shared}
theorem Ti{α:Type}:∀{l:List α}{i:Nat}(h:i<l.length),(l[i]::l.eraseIdx i).Perm l
 |x::l,0,h=>.refl _
 |x::l,i+1,h=>by
  have hi:i<l.length:=by simpa using h
  have ih:=Ti (l:=l) (i:=i) hi
  show(l[i]::x::l.eraseIdx i).Perm (x::l)
  exact(Perm.swap _ _ _).trans (ih.cons x)
theorem zMv{Q:Nat->Shared->Prop}(hn:0<n)(h:∀i d,i<n->Q i { s with drawn:=d }):wpAny (model prog w) A (choose src n) Q E s :=
 λ_ _ _=>⟨ac0 hn,h _ _ (aeu _ hn)⟩
theorem zP6{α:Type}:∀(n:Nat)(xs:List α)(s:Shared)(Q:List α->Shared->Prop),xs.length=n->(∀ys d,ys.Perm xs->Q ys { s with drawn:=d })->wpAny (model prog w) A (drawOrder n xs) Q E s
 |0,xs,s,Q,hl,h=>by
  have e:xs=[]:=length_eq_zero_iff.mp hl
  subst e
  unfold drawOrder
  exact aae (h [] s.drawn (.refl _))
 |n+1,[],s,Q,hl,h=>by simp at hl
 |n+1,x::xs,s,Q,hl,h=>by
  unfold drawOrder
  refine aad (zMv (by rw[hl];omega) λi d hi=>?_)
  have e:(x::xs)[i]?=some (x::xs)[i]:=aaf hi
  rw[e]
  refine aad (zP6 n _ _ _ (by rw[length_eraseIdx,if_pos hi,hl];rfl) λys d' p=>?_)
  exact aae (h _ d' ((p.cons _).trans (Ti hi)))
theorem zN6{α:Type}(next:Nat->Nat):∀(fuel k:Nat)(left:List α)(out:Array α),left.length=fuel->(ae3 next fuel k left out).toList.Perm (out.toList++left)
 |0,k,left,out,hl=>by
  have e:left=[]:=length_eq_zero_iff.mp hl
  subst e
  unfold ae3
  rw[append_nil]
 |fuel+1,k,left,out,hl=>by
  have hi:next k%left.length<left.length:=aeu _ (by omega)
  unfold ae3
  rw[aaf hi]
  dsimp only
  refine(zN6 next fuel (k+1) _ _ (by rw[length_eraseIdx,if_pos hi,hl];rfl)).trans ?_
  rw[Array.toList_push,append_assoc]
  exact Perm.append_left _ (Ti hi)
theorem uH{α:Type}(next:Nat->Nat)(xs:Array α):(pickOrder next xs).toList.Perm xs.toList:=by
 have q:=zN6 next xs.size 0 xs.toList #[] (by simp)
 have e:(#[]:Array α).toList++xs.toList=xs.toList:=rfl
 rw[e] at q
 exact q
variable{a it T:Addr}{o:Obj}{es:Array (Int×Value)}{ep:Nat}{t:SetTable}
theorem vT{Q:Bool->Shared->Prop}(h:Q (w.params.followText "set-order") s):wpAny (model prog w) A setsByText Q E s:=by
 unfold setsByText
 exact aad (ac2 (aae h))
theorem zS1{Q:Bool->Shared->Prop}(ho:s.heap.get? a=some o)(hd:o.data=.set es ep t)(hf:t.fits es.size=true)(h:Q (!w.params.followText "set-order" && (!t.plain&&decide (es.size > 1))) s):wpAny (model prog w) A (setDrawn a) Q E s:=by
 unfold setDrawn
 refine aad (aaq ho hd hf ?_)
 exact aad (vT (aae h))
theorem Tj{Q:Array (Int×Value)->Shared->Prop}(ho:s.heap.get? a=some o)(hd:o.data=.set es ep t)(hf:t.fits es.size=true)(h:Q es s):wpAny (model prog w) A (setEntries a) Q E s:=by
 unfold setEntries
 exact aad (aaq ho hd hf (aae h))
theorem zHp{Q:Option (Value×Nat)->Shared->Prop}(ho:s.heap.get? a=some o)(hd:o.data=.set es ep t)(hf:t.fits es.size=true)(hb:w.params.followText "set-order" = true)(h:Q (((pickOrder (w.params.setOrder a ep) es)[i]?).map λe=>(e.2,slot)) s):wpAny (model prog w) A (setNext a slot i ep) Q E s:=by
 unfold setNext
 refine aad (aaq ho hd hf ?_)
 refine aad (vT ?_)
 rw[hb]
 simp only[↓reduceIte,bne_self_eq_false,aao]
 refine aad ?_
 unfold setWalk
 refine aad (aaq ho hd hf ?_)
 refine aad (vT ?_)
 rw[hb]
 simp only[↓reduceIte]
 refine aad (ac2 (aae ?_))
 exact aae h
theorem zE8{Q:Option (Value×Nat)->Shared->Prop}(ho:s.heap.get? a=some o)(hd:o.data=.set es ep t)(hf:t.fits es.size=true)(hb:w.params.followText "set-order" = false)(hl:t.led=true)(hn:(!t.plain&&decide (es.size > 1))=false)(h:Q (match es[below t.place slot]?,t.place[below t.place slot]? with|some (_,x),some j=>some (x,j+1)|_,_=>none) s):wpAny (model prog w) A (setNext a slot i ep) Q E s:=by
 unfold setNext
 refine aad (aaq ho hd hf ?_)
 refine aad (vT ?_)
 rw[hb]
 simp only[↓reduceIte,aao]
 show wpAny _ _ (if(!t.plain&&decide (es.size > 1))=true then _ else _) _ _ _
 rw[if_neg (by rw[hn];exact aap)]
 refine aad ?_
 show wpAny _ _ (if(!t.led&&!es.isEmpty)=true then _ else pure ()) _ _ _
 rw[if_neg (by rw[hl];exact aap)]
 exact aae (aae h)
theorem zL6{Q:Value->Shared->Prop}(ho:s.heap.get? a=some o)(hd:o.data=.set es ep t)(hf:t.fits es.size=true)(hx:es[place]?=some x)(h:Q x.2 s):wpAny (model prog w) A (setNextDrawn a place ep) Q E s:=by
 unfold setNextDrawn
 refine aad (aaq ho hd hf ?_)
 simp only[bne_self_eq_false,aao,↓reduceIte,hx]
 exact aae h
def lZ(first:Value)(i:Nat)(a:Addr)(n ep:Nat):Obj:={ cls:=.type "set_iterator",data:=.fields #[first,.int i 0,.ref a,.int n 0,.int ep 0] }
theorem zSl{Q:Value->Shared->Prop}(ho:s.heap.get? a=some o)(hx:o.ExactSet)(hd:o.data=.set es ep t)(hf:t.fits es.size=true)(h1:(!w.params.followText "set-order" && (!t.plain&&decide (es.size > 1)))=false->Q (.ref s.heap.objs.size) { s with heap:=s.heap.push (lZ (.int 0 0) 0 a es.size ep) })(h2:(!w.params.followText "set-order" && (!t.plain&&decide (es.size > 1)))=true->es.size<=sizeLine/\∀(d:Drawn) (ps:List Nat),ps.Perm (aat es.size)->Q (.ref (s.heap.objs.size+1)) { s with drawn:=d,heap:=(s.heap.push { cls:=.type "tuple",data:=.seq (ps.map λ(i:Nat)=>abr i 0).toArray }).push (lZ (.ref s.heap.objs.size) 0 a es.size ep) }) :
  wpAny (model prog w) A (pyIter (.ref a)) Q E s:=by
 have hT:s.TypeIs (.ref a) "set":=⟨o,ho,hx.1⟩
 refine wpAny_pyIter_slot hT F.slot_set_iter (ab2 F.slot_set_iter hT zEr ?_ (F.args_set_iter_1 _))
 unfold Builtin.«frozenset.__iter__»
 refine aad (aae ?_)
 refine aad ?_
 unfold ac5
 refine aad (Tj ho hd hf (aae ?_))
 refine aad (zS1 ho hd hf ?_)
 cases hc:(!w.params.followText "set-order" && (!t.plain&&decide (es.size > 1))) with
 |false =>
  simp only[aao,↓reduceIte]
  refine aad (aae ?_)
  refine aad (abg ho hd hf ?_)
  exact aad (ace (aae ⟨_,rfl,"set_iterator",_,⟨_,get?_push_size _ rfl,rfl⟩,iZ.lookup,h1 hc⟩))
 |true =>
  obtain⟨hz,h2⟩:=h2 hc
  simp only[↓reduceIte]
  refine aad (zP6 _ _ _ _ (by simp) λps d hp=>?_)
  refine aad (wpAny_newTuple ?_ (by rw[length_map,hp.length_eq,length_range];exact hz))
  have ho':=get?_push_of_some ({ cls:=.type "tuple",data:=.seq (ps.map λ(i:Nat)=>rawInt i).toArray }:Obj) ho
  refine aad (abg (s:={ s with drawn:=d,heap:=_ }) ho' hd hf ?_)
  refine aad (ace (aae ⟨_,rfl,"set_iterator",_,⟨_,get?_push_size _ rfl,rfl⟩,iZ.lookup,?_⟩))
  have q:=h2 d ps hp
  have sz:(s.heap.push ({ cls:=.type "tuple",data:=.seq (ps.map λ(i:Nat)=>abr i 0).toArray }:Obj)).objs.size=s.heap.objs.size+1:=size_push ..
  rw[<-sz] at q
  exact q
end
set_option maxRecDepth 100000
section
variable{prog:Program}{w:World}{A:Around}{E:Value->Shared->Prop}{s:Shared}{a it T:Addr}{o:Obj}{es:Array (Int×Value)}{ep:Nat}{t:SetTable}{i:Nat}{first:Value}
theorem Tn{Q:Option Value->Shared->Prop}(hi:s.heap.get? it=some (lZ first i a es.size ep))(ho:s.heap.get? a=some o)(hd:o.data=.set es ep t)(hf:t.fits es.size=true)(h:wpAny (model prog w) A.in1 (if let .int slot _:=first then do
    match <-setNext a slot.toNat (i:Int).toNat (ep:Int).toNat with
    |some (x,next) =>
     setField (.ref it) 0 (rawInt next)
     setField (.ref it) 1 (rawInt ((i:Int)+1))
     ret x
    |none=>setField (.ref it) 2 .none;raiseNew (<-newExc (.type "StopIteration") [])
   else do
    let some places <-seqItems? first|unsupported "internal:set_iterator"
    match places[(i:Int).toNat]? with
    |some (.int place _) =>
     let x <-setNextDrawn a place.toNat (ep:Int).toNat
     setField (.ref it) 1 (rawInt ((i:Int)+1))
     ret x
    |some _=>unsupported "internal:set_iterator"
    |none=>setField (.ref it) 0 (rawInt 0);setField (.ref it) 2 .none;raiseNew (<-newExc (.type "StopIteration") []))
   (λfin s'=>∃v,fin=.done (.ret v)/\Q (some v) s')
   (λe s'=>s'.TypeIs e "StopIteration" /\ Q none s') s):wpAny (model prog w) A (pyNext (.ref it)) Q E s:=by
 have hT:s.TypeIs (.ref it) "set_iterator":=⟨_,hi,rfl⟩
 unfold pyNext
 refine aad (wpAny_attempt (wpAny_callSpecial?_slot (name:=adk "__next__") hT iZ (ab2 iZ hT zFv ?_ (zHa _))))
 unfold Builtin.«set_iterator.__next__»
 refine aad (aae ?_)
 refine aad (wpAny_fieldsOf hi rfl ?_)
 dsimp only
 refine aad (Tj ho hd hf ?_)
 rw[if_neg (by simp)]
 exact abj h (λfin s' ⟨v,e,q⟩=>⟨v,e,aae q⟩) λe s' ⟨ty,q⟩=>aad (adp (T:="StopIteration") (b:=true) ty isSubtype_stop (aae q))
theorem zNj{α:Type}{Q:α->Shared->Prop}{E':Value->Shared->Prop}(hh:A.handled=none)(h:∀(e:Value) (h':Heap),(∀b u,s.heap.get? b=some u->h'.get? b=some u)->({ s with heap:=h' }:Shared).TypeIs e "StopIteration"->E' e { s with heap:=h' }) :
  wpAny (model prog w) A (newExc (.type "StopIteration") [] >>= λe=>(raiseNew e:Sem α)) Q E' s:=by
 refine aad ?_
 simp only[newExc,newTuple]
 refine aad (ace (aad (m:=firstArgMember _ _) (wpAny_of_eq (a:=acv) (by first|rfl|(simp only[firstArgMember];rfl)) (ace ?_ (by size_fits)))) (by size_fits))
 simp only[raiseNew]
 refine aad (wpAny_handled ?_)
 rw[hh]
 refine aad (aae (wpAny_throw ?_))
 refine h _ _ (λb u e=>get?_push_of_some _ (get?_push_of_some _ e)) ?_
 exact⟨_,get?_push_size _ rfl,rfl⟩
theorem Tp{f:Obj->Obj}(hi:s.heap.get? it=some u)(hn:(f u).isFreed=false):(s.heap.update it f).get? it=some (f u):=get?_update_self f hi hn
theorem LK(hb:b≠it)(e:s.heap.get? b=some u):(s.heap.update it f).get? b=some u:=(get?_update_other _ _ (ab1 hb)).trans e
theorem zE9{Q:Option Value->Shared->Prop}{slot next:Nat}{tk:Tok}{x:Value}(hi:s.heap.get? it=some (lZ (.int slot tk) i a es.size ep))(ho:s.heap.get? a=some o)(hd:o.data=.set es ep t)(hf:t.fits es.size=true)(hs:∀(R:Option (Value×Nat)->Shared->Prop) (E':Value->Shared->Prop),R (some (x,next)) s->wpAny (model prog w) A.in1 (setNext a slot i ep) R E' s)(h:∀h',h'.get? it=some (lZ (.int next 0) (i+1) a es.size ep)->(∀b u,b≠it->s.heap.get? b=some u->h'.get? b=some u)->Q (some x) { s with heap:=h' }):wpAny (model prog w) A (pyNext (.ref it)) Q E s:=by
 refine Tn hi ho hd hf ?_
 dsimp only
 refine aad (hs _ _ ?_)
 dsimp only
 refine aad (acy hi rfl (by simp) ?_)
 have h1:=Tp (f:=ad8 (·.setIfInBounds 0 (rawInt next))) hi rfl
 refine aad (acy (s:={ s with heap:=_ }) h1 rfl (by simp) ?_)
 have h2:=Tp (s:={ s with heap:=_ }) (f:=ad8 (·.setIfInBounds 1 (rawInt ((i:Int)+1)))) h1 rfl
 exact aae ⟨x,rfl,h _ h2 λb u hb e=>LK (s:={ s with heap:=_ }) hb (LK hb e)⟩
theorem zH6{Q:Option Value->Shared->Prop}{slot:Nat}{tk:Tok}(hh:A.handled=none)(hi:s.heap.get? it=some (lZ (.int slot tk) i a es.size ep))(ho:s.heap.get? a=some o)(hd:o.data=.set es ep t)(hf:t.fits es.size=true)(hs:∀(R:Option (Value×Nat)->Shared->Prop) (E':Value->Shared->Prop),R none s->wpAny (model prog w) A.in1 (setNext a slot i ep) R E' s)(h:∀h',(∀b u,b≠it->s.heap.get? b=some u->h'.get? b=some u)->Q none { s with heap:=h' }):wpAny (model prog w) A (pyNext (.ref it)) Q E s:=by
 refine Tn hi ho hd hf ?_
 dsimp only
 refine aad (hs _ _ ?_)
 dsimp only
 refine aad (acy hi rfl (by simp) ?_)
 exact zNj (s:={ s with heap:=_ }) (by simp[hh]) λe h' k ty=>⟨ty,h h' λb u hb e=>k b u (LK hb e)⟩
theorem zMb{Q:Option Value->Shared->Prop}{ps:List Nat}(hi:s.heap.get? it=some (lZ (.ref T) i a es.size ep))(ho:s.heap.get? a=some o)(hd:o.data=.set es ep t)(hf:t.fits es.size=true)(hT:s.heap.get? T=some { cls:=.type "tuple",data:=.seq (ps.map λ(i:Nat)=>abr i 0).toArray })(hp:ps[i]?=some place)(hx:es[place]?=some x)(h:∀h',h'.get? it=some (lZ (.ref T) (i+1) a es.size ep)->(∀b u,b≠it->s.heap.get? b=some u->h'.get? b=some u)->Q (some x.2) { s with heap:=h' }):wpAny (model prog w) A (pyNext (.ref it)) Q E s:=by
 refine Tn hi ho hd hf ?_
 dsimp only
 refine aad (wpAny_seqItems hT rfl ?_)
 have e:((ps.map λ(i:Nat)=>abr i 0).toArray)[(i:Int).toNat]?=some (.int (place:Nat) 0):=by
  rw[abe,getElem?_toArray,getElem?_map,hp]
  rfl
 dsimp only
 rw[e]
 dsimp only
 refine aad (zL6 ho hd hf (x:=x) (by rw[abe];exact hx) ?_)
 refine aad (acy hi rfl (by simp) ?_)
 have h1:=Tp (f:=ad8 (·.setIfInBounds 1 (rawInt ((i:Int)+1)))) hi rfl
 exact aae ⟨x.2,rfl,h _ h1 λb u hb e=>LK hb e⟩
theorem zP3{Q:Option Value->Shared->Prop}{ps:List Nat}(hh:A.handled=none)(hi:s.heap.get? it=some (lZ (.ref T) i a es.size ep))(ho:s.heap.get? a=some o)(hd:o.data=.set es ep t)(hf:t.fits es.size=true)(hT:s.heap.get? T=some { cls:=.type "tuple",data:=.seq (ps.map λ(i:Nat)=>abr i 0).toArray })(hp:ps[i]?=none)(h:∀h',(∀b u,b≠it->s.heap.get? b=some u->h'.get? b=some u)->Q none { s with heap:=h' }):wpAny (model prog w) A (pyNext (.ref it)) Q E s:=by
 refine Tn hi ho hd hf ?_
 dsimp only
 refine aad (wpAny_seqItems hT rfl ?_)
 have e:((ps.map λ(i:Nat)=>abr i 0).toArray)[(i:Int).toNat]?=none:=by
  rw[abe,getElem?_toArray,getElem?_map,hp]
  rfl
 dsimp only
 rw[e]
 dsimp only
 refine aad (acy hi rfl (by simp) ?_)
 have h1:=Tp (f:=ad8 (·.setIfInBounds 0 (rawInt 0))) hi rfl
 refine aad (acy (s:={ s with heap:=_ }) h1 rfl (by simp) ?_)
 exact zNj (s:={ s with heap:=_ }) (by simp[hh]) λe h' k ty=>⟨ty,h h' λb u hb e=>k b u (LK (s:={ s with heap:=_ }) hb (LK hb e))⟩
end
set_option maxRecDepth 100000
section
variable{prog:Program}{w:World}{A:Around}{E:Value->Shared->Prop}{s:Shared}{a it T:Addr}{o:Obj}{es:Array (Int×Value)}{ep:Nat}{t:SetTable}
theorem Wf{Q:Value->Shared->Prop}(hi:s.heap.get? it=some (lZ first i a n ep))(h:Q (.ref it) s):wpAny (model prog w) A (pyIter (.ref it)) Q E s:=by
 have hT:s.TypeIs (.ref it) "set_iterator":=⟨_,hi,rfl⟩
 refine wpAny_pyIter_slot hT zNq (ab2 zNq hT zFw ?_ (zHb _))
 refine aad (aae ?_)
 exact aae ⟨_,rfl,"set_iterator",_,hT,iZ.lookup,h⟩
theorem PK(hf:t.fits es.size=true):t.place.size=es.size:=by
 unfold fits at hf
 rw[aah] at hf
 exact abt hf.1
theorem zMt(hr:Rz xs):below xs 0=0:=by
 obtain⟨b1,b2,b3⟩:=Wb hr 0
 cases e:below xs 0 with
 |zero=>rfl
 |succ k =>
  rw[e] at b1 b2
  have h0:0<xs.size:=by omega
  exact absurd (b2 0 _ (aed k) (aak h0)) (ab4 _)
theorem zMu(hr:Rz xs)(h:xs[i]?=some j):below xs (j+1)=i+1:=by
 obtain⟨b1,b2,b3⟩:=Wb hr (j+1)
 generalize below xs (j+1)=p at *
 have hi:i<xs.size:=by
  by_cases z:i<xs.size
  ·exact z
  ·rw[aa6 (by omega)] at h;cases h
 have h1:i<p:=by
  by_cases z:i<p
  ·exact z
  ·have:=b3 i j (by omega) h;omega
 by_cases z:p=i+1
 ·exact z
 ·have hp:i+1<xs.size:=by omega
  have q1:=b2 (i+1) _ (by omega) (aak hp)
  have q2:=hr i (i+1) j _ (by omega) h (aak hp)
  omega
theorem zRp{xs:Array Nat}(h:xs.size<=1):Rz xs:=λi k a b hik ha hb=>by
 rw[aa6 (by omega)] at hb
 cases hb
theorem zLi(hh:A.handled=none)(hne:a≠it)(hd:o.data=.set es ep t)(hf:t.fits es.size=true)(hb:w.params.followText "set-order" = false)(hl:t.led=true)(hn:(!t.plain&&decide (es.size > 1))=false)(hr:Rz t.place) :
  Walks prog w A it [it,a] [it] es.size (λi v=>(es.toList.map (·.2))[i]?=some v) (λi h=>h.get? a=some o/\∃(slot:Nat)(tk:Tok),h.get? it=some (lZ (.int slot tk) i a es.size ep)/\below t.place slot=i) where
 sub:=λb hb=>by simp at hb;simp[hb]
 frame:=λi h h' ⟨h1,slot,tk,h2,h3⟩ k=>⟨k a (by simp) _ h1,slot,tk,k it (by simp) _ h2,h3⟩
 item:=λi s Q E hi ⟨h1,slot,tk,h2,h3⟩ hQ=>by
  have hp:i<t.place.size:=by rw[PK hf];exact hi
  refine zE9 (x:=es[i].2) (next:=t.place[i]+1) h2 h1 hd hf (λR E' hR=>zE8 h1 hd hf hb hl hn ?_) λh' hi' k=>?_
  ·rw[h3,aak hi,aak hp]
   exact hR
  ·refine hQ _ h' s.toks (by simp[hi]) ⟨k a o hne h1,_,_,hi',zMu hr (aak hp)⟩ λb u hb e=>k b u (λz=>hb (by simp[z])) e
 done:=λs Q E ⟨h1,slot,tk,h2,h3⟩ hQ=>by
  refine zH6 hh h2 h1 hd hf (λR E' hR=>zE8 h1 hd hf hb hl hn ?_) λh' k=>hQ h' s.toks λb u hb e=>k b u (λz=>hb (by simp[z])) e
  rw[h3,aa6 (aag _)]
  exact hR
 self:=λi s Q E ⟨h1,slot,tk,h2,h3⟩ hQ=>Wf h2 hQ
theorem zMy(hh:A.handled=none)(hne:a≠it)(hd:o.data=.set es ep t)(hf:t.fits es.size=true)(hb:w.params.followText "set-order" = true) :
  Walks prog w A it [it,a] [it] es.size (λi v=>((pickOrder (w.params.setOrder a ep) es).toList.map (·.2))[i]?=some v) (λi h=>h.get? a=some o/\∃(slot:Nat)(tk:Tok),h.get? it=some (lZ (.int slot tk) i a es.size ep)) where
 sub:=λb hb=>by simp at hb;simp[hb]
 frame:=λi h h' ⟨h1,slot,tk,h2⟩ k=>⟨k a (by simp) _ h1,slot,tk,k it (by simp) _ h2⟩
 item:=λi s Q E hi ⟨h1,slot,tk,h2⟩ hQ=>by
  have hz:i<(pickOrder (w.params.setOrder a ep) es).size:=by rw[<-length_toList,(uH _ es).length_eq,length_toList];exact hi
  refine zE9 (x:=(pickOrder (w.params.setOrder a ep) es)[i].2) (next:=slot) h2 h1 hd hf (λR E' hR=>zHp h1 hd hf hb ?_) λh' hi' k=>?_
  ·rw[aak hz]
   exact hR
  ·refine hQ _ h' s.toks (by simp[hz]) ⟨k a o hne h1,_,_,hi'⟩ λb u hb e=>k b u (λz=>hb (by simp[z])) e
 done:=λs Q E ⟨h1,slot,tk,h2⟩ hQ=>by
  have hz:(pickOrder (w.params.setOrder a ep) es).size=es.size:=by rw[<-length_toList,(uH _ es).length_eq,length_toList]
  refine zH6 hh h2 h1 hd hf (λR E' hR=>zHp h1 hd hf hb ?_) λh' k=>hQ h' s.toks λb u hb e=>k b u (λz=>hb (by simp[z])) e
  rw[aa6 (by rw[hz];exact aag _)]
  exact hR
 self:=λi s Q E ⟨h1,slot,tk,h2⟩ hQ=>Wf h2 hQ
theorem zLj{ps:List Nat}(hh:A.handled=none)(hne:a≠it)(hnT:T≠it)(hd:o.data=.set es ep t)(hf:t.fits es.size=true)(hp:ps.Perm (aat es.size)) :
  Walks prog w A it [it,a,T] [it] es.size (λi v=>(ps.map λp=>((es[p]?).map (·.2)).getD .none)[i]?=some v)
   (λi h=>h.get? a=some o/\h.get? T=some { cls:=.type "tuple",data:=.seq (ps.map λ(i:Nat)=>abr i 0).toArray }/\h.get? it=some (lZ (.ref T) i a es.size ep)) where
 sub:=λb hb=>by simp at hb;simp[hb]
 frame:=λi h h' ⟨h1,h2,h3⟩ k=>⟨k a (by simp) _ h1,k T (by simp) _ h2,k it (by simp) _ h3⟩
 item:=λi s Q E hi ⟨h1,h2,h3⟩ hQ=>by
  have hl:ps.length=es.size:=by rw[hp.length_eq,length_range]
  have hi':i<ps.length:=by omega
  have hm:ps[i]<es.size:=mem_range.mp (hp.mem_iff.mp (getElem_mem hi'))
  refine zMb (place:=ps[i]) (x:=es[ps[i]]) h3 h1 hd hf h2 (aaf hi') (aak hm) λh' hi' k=>?_
  refine hQ _ h' s.toks ?_ ⟨k a o hne h1,k T _ hnT h2,hi'⟩ λb u hb e=>k b u (λz=>hb (by simp[z])) e
  rw[getElem?_map,aaf (by omega),Option.map_some,aak hm]
  rfl
 done:=λs Q E ⟨h1,h2,h3⟩ hQ=>by
  have hl:ps.length=es.size:=by rw[hp.length_eq,length_range]
  exact zP3 hh h3 h1 hd hf h2 (aa1 (by omega)) λh' k=>hQ h' s.toks λb u hb e=>k b u (λz=>hb (by simp[z])) e
 self:=λi s Q E ⟨h1,h2,h3⟩ hQ=>Wf h3 hQ
end
set_option maxRecDepth 100000
section
variable{prog:Program}{w:World}{A:Around}{E:Value->Shared->Prop}{s:Shared}{a it T:Addr}{o:Obj}{es:Array (Int×Value)}{ep:Nat}{t:SetTable}
theorem zSp{Q:Bool->Shared->Prop}(hT:s.TypeIs (.ref a) "set")(h:Q false s):wpAny (model prog w) A (acs (.ref a)) Q E s:=by
 unfold acs
 refine aad (wpAny_specialOf hT F.slot_set_len.lookup ?_)
 generalize hid:("set.__len__":String)=id0
 wp_delta
 rw[show splitId id0=some ("set","__len__") from by subst hid;decide +kernel]
 subst hid
 refine aad (adp (T:="set") (b:=true) hT aef (aeh (λhab=>absurd hab (by decide)) λ_=>aeh (λ_=>aad (wpAny_typeOf hT (aae h))) λhab=>absurd (by decide +kernel) hab))
theorem zOx{R:Result->Shared->Prop}{P:Nat->Value->Prop}{St:Nat->Heap->Prop}(W:Walks prog w A.in1 it fp [it] n P St)(hn:n<=sizeLine)(off:S∉fp)(st:St 0 s.heap)(hS:s.heap.get? S=some { cls:=.type "list",data:=.seq #[] c₁ })(hR:∀h' tk acc c',(∀b u,b≠S->b≠it->s.heap.get? b=some u->h'.get? b=some u)->h'.get? S=some { cls:=.type "list",dict:=none,data:=.seq acc c',slots:=#[] }->ItemsOf P acc n->R (.ok (.ret res)) { s with heap:=h',toks:=tk }) :
  codeAny (model prog w) A (.builtin "list.extend.loop" ⟨[.ref S,.ref it,res],[]⟩) R s:=by
 refine codeAny_extend_loopS W.toS hn S off res n 0 _ #[] c₁ rfl (aa0 _) st hS (ItemsOf.nil _) λs' acc c' hm hS' hacc=>?_
 rw[Moved.eq_with hm]
 refine hR s'.heap s'.toks acc c' (λb u h1 h2 e=>hm.heap b u (λz=>?_) e) hS' hacc
 rcases mem_cons.mp z with z|z
 ·exact h1 z
 ·exact h2 (mem_singleton.mp z)
theorem Wg{R:Result->Shared->Prop}{P:Nat->Value->Prop}{St:Nat->Heap->Prop}(W:Walks prog w A.in1 it fp [it] n P St)(hn:n<=sizeLine)(off:S∉fp)(hT:s.TypeIs (.ref a) "set")(st:St 0 s.heap)(hS:s.heap.get? S=some { cls:=.type "list",data:=.seq #[] c₀ })(hR:∀h' tk acc c',(∀b u,b≠S->b≠it->s.heap.get? b=some u->h'.get? b=some u)->h'.get? S=some { cls:=.type "list",dict:=none,data:=.seq acc c',slots:=#[] }->ItemsOf P acc n->R (.ok (.ret res)) { s with heap:=h',toks:=tk }) :
  wpAny (model prog w) A.in1 (holding [.ref it] (acs (.ref a)) >>= λroom=>if(room||b)=true then(rule "list.extend.makes-room" >>= λ_=>Builtin.List.listTouch (.ref S) >>= λ_=>again (.builtin "list.extend.loop" ⟨[.ref S,.ref it,res],[]⟩)) else again (.builtin "list.extend.loop" ⟨[.ref S,.ref it,res],[]⟩))
   (λfin s'=>match fin with|.done f=>R (.ok f) s'|.again c'=>c'.quiet=true/\codeAny (model prog w) A c' R s') (λe s'=>R (.error e) s') s:=by
 refine aad (aa3 (zSp hT ?_))
 refine aeh (λ_=>?_) λ_=>aae ⟨adw F.plain_extend_loop _,zOx W hn off st hS hR⟩
 refine aad (adq ?_)
 refine aad ?_
 show wpAny _ _ (updateSeq S (·.push .none) >>= λ_=>updateSeq S (·.pop)) _ _ _
 refine aad (wpAny_updateSeq hS rfl ?_)
 have hS2:=get?_update_self (acn (·.push acv)) hS rfl
 refine wpAny_updateSeq (hz:=by seq_fits) hS2 rfl ?_
 have hS3:=get?_update_self (acn (·.pop)) hS2 rfl
 have keep:∀c u,c≠S->s.heap.get? c=some u->((s.heap.update S (acn (·.push acv))).update S (acn (·.pop))).get? c=some u:=λc u hc e=>(get?_update_other _ _ (ab1 hc)).trans ((get?_update_other _ _ (ab1 hc)).trans e)
 refine aae ⟨adw F.plain_extend_loop _,zOx (s:={ s with heap:=_ }) W hn off (W.frame 0 _ _ st λc hc u e=>keep c u (λz=>off (z▸hc)) e) hS3 λh' tk acc c' k h1 h2=>hR h' tk acc c' (λc u n1 n2 e=>k c u n1 n2 (keep c u n1 e)) h1 h2⟩
theorem Wh(h:ItemsOf (λi v=>ord[i]?=some v) acc n)(hl:ord.length=n):acc.toList=ord:=by
 apply ext_getElem?
 intro i
 rw[getElem?_toList]
 by_cases hi:i<acc.size
 ·rw[aak hi]
  exact(h.2 i _ (aak hi)).symm
 ·rw[aa6 (by omega),aa1 (by rw[hl,<-h.1];omega)]
theorem zLz(es:Array (Int×Value)):(aat es.size).map (λp=>((es[p]?).map (·.2)).getD acv)=es.toList.map (·.2):=by
 apply List.ext_getElem (by simp)
 intro i h1 h2
 have hi:i<es.size:=by simpa using h1
 simp[hi]
theorem zMj{R:Result->Shared->Prop}(hh:A.handled=none)(ho:s.heap.get? a=some o)(hx:o.ExactSet)(hd:o.data=.set es ep t)(hf:t.fits es.size=true)(tb:Tb (zP w) t)(hz:es.size<=sizeLine)(Wi:S≠a)(hS:s.heap.get? S=some { cls:=.type "list",data:=.seq #[] c₀ })(hR:∀h' tk d acc c',(∀b u,b≠S->s.heap.get? b=some u->h'.get? b=some u)->h'.get? S=some { cls:=.type "list",dict:=none,data:=.seq acc c',slots:=#[] }->acc.toList.Perm (es.toList.map (·.2))->R (.ok (.ret res)) { s with heap:=h',toks:=tk,drawn:=d }) :
  wpAny (model prog w) A.in1 (Builtin.List.listExtendWith (.ref S) (.ref a) res)
   (λfin s'=>match fin with|.done f=>R (.ok f) s'|.again c'=>c'.quiet=true/\codeAny (model prog w) A c' R s') (λe s'=>R (.error e) s') s:=by
 have hT:s.TypeIs (.ref a) "set":=⟨o,ho,hx.1⟩
 have lta:a<s.heap.objs.size:=lt_size ho
 have ltS:S<s.heap.objs.size:=lt_size hS
 have hi:A.in1.handled=none:=by simp[hh]
 unfold Builtin.List.listExtendWith
 refine aad (wpAny_typeOf hT ?_)
 have h1:Builtin.List.listSameRef (.ref S) (.ref a)=false:=by simp[Builtin.List.listSameRef,Wi]
 simp only[h1,show(ac8 "set" == ac8 "list")=false by decide,show(ac8 "set" == ac8 "tuple")=false by decide,Bool.or_false,aao,if_false]
 have old:∀{b:Addr}{u:Obj}{n:Nat},s.heap.get? b=some u->s.heap.objs.size<=n->b≠n:=λe hn z=>absurd (lt_size e) (by rw[z];exact Nat.not_lt_of_le hn)
 refine aad (zSl ho hx hd hf (λhc=>?_) λhc=>⟨hz,λd ps hp=>?_⟩)
 ·have hS':=get?_push_of_some (lZ (.int 0 0) 0 a es.size ep) hS
  have ho':=get?_push_of_some (lZ (.int 0 0) 0 a es.size ep) ho
  have hI:(s.heap.push (lZ (.int 0 0) 0 a es.size ep)).get? s.heap.objs.size=some (lZ (.int 0 0) 0 a es.size ep):=get?_push_size _ rfl
  have off:S∉[s.heap.objs.size,a]:=λz=>by
   rcases mem_cons.mp z with z|z
   ·exact old hS (aag _) z
   ·exact Wi (mem_singleton.mp z)
  have hne:a≠s.heap.objs.size:=old ho (aag _)
  cases hb:w.params.followText "set-order" with
  |true =>
   refine Wg (s:={ s with heap:=_ }) (zMy hi hne hd hf hb) hz off ⟨o,ho',hx.1⟩ ⟨ho',0,0,hI⟩ hS' λh' tk acc c' k h2 h3=>?_
   refine hR h' tk s.drawn acc c' (λb u n e=>k b u n (old e (aag _)) (get?_push_of_some _ e)) h2 ?_
   rw[Wh h3 (by rw[length_map,(uH _ es).length_eq,length_toList])]
   exact(uH _ es).map _
  |false =>
   have hl:t.led=true:=by rw[tb.led];unfold zP;rw[hb];rfl
   have hn:(!t.plain&&decide (es.size > 1))=false:=by rw[hb] at hc;exact hc
   have hr:Rz t.place:=by
    cases hp:t.plain with
    |true=>exact tb.rz hp
    |false =>
     rw[hp] at hn
     refine zRp ?_
     rw[PK hf]
     have:¬es.size > 1:=of_decide_eq_false (by simpa using hn)
     omega
   refine Wg (s:={ s with heap:=_ }) (zLi hi hne hd hf hb hl hn hr) hz off ⟨o,ho',hx.1⟩ ⟨ho',0,0,hI,zMt hr⟩ hS' λh' tk acc c' k h2 h3=>?_
   refine hR h' tk s.drawn acc c' (λb u n e=>k b u n (old e (aag _)) (get?_push_of_some _ e)) h2 ?_
   rw[Wh h3 (by rw[length_map,length_toList])]
 ·have e0:∀{b:Addr}{u:Obj},s.heap.get? b=some u->((s.heap.push { cls:=.type "tuple",data:=.seq (ps.map λ(i:Nat)=>abr i 0).toArray }).push (lZ (.ref s.heap.objs.size) 0 a es.size ep)).get? b=some u:=λe=>get?_push_of_some _ (get?_push_of_some _ e)
  have sz:(s.heap.push ({ cls:=.type "tuple",data:=.seq (ps.map λ(i:Nat)=>abr i 0).toArray }:Obj)).objs.size=s.heap.objs.size+1:=size_push ..
  have hI:((s.heap.push { cls:=.type "tuple",data:=.seq (ps.map λ(i:Nat)=>abr i 0).toArray }).push (lZ (.ref s.heap.objs.size) 0 a es.size ep)).get? (s.heap.objs.size+1)=some (lZ (.ref s.heap.objs.size) 0 a es.size ep):=by
   rw[<-sz];exact get?_push_size _ rfl
  have hTT:((s.heap.push { cls:=.type "tuple",data:=.seq (ps.map λ(i:Nat)=>abr i 0).toArray }).push (lZ (.ref s.heap.objs.size) 0 a es.size ep)).get? s.heap.objs.size=some { cls:=.type "tuple",data:=.seq (ps.map λ(i:Nat)=>abr i 0).toArray }:=get?_push_of_some _ (get?_push_size _ rfl)
  have off:S∉[s.heap.objs.size+1,a,s.heap.objs.size]:=λz=>by
   rcases mem_cons.mp z with z|z
   ·exact old hS (abv _) z
   ·rcases mem_cons.mp z with z|z
    ·exact Wi z
    ·exact old hS (aag _) (mem_singleton.mp z)
  refine Wg (s:={ s with drawn:=d,heap:=_ }) (zLj hi (old ho (abv _)) (aam (ach _)) hd hf hp) hz off ⟨o,e0 ho,hx.1⟩ ⟨e0 ho,hTT,hI⟩ (e0 hS) λh' tk acc c' k h2 h3=>?_
  refine hR h' tk d acc c' (λb u n e=>k b u n (old e (abv _)) (e0 e)) h2 ?_
  rw[Wh h3 (by rw[length_map,hp.length_eq,length_range])]
  have e1:=zLz es
  rw[<-e1]
  exact hp.map _
theorem zJo{R:List Value->Shared->Prop}(hh:A.handled=none)(ho:s.heap.get? a=some o)(hx:o.ExactSet)(hd:o.data=.set es ep t)(hf:t.fits es.size=true)(tb:Tb (zP w) t)(hz:es.size<=sizeLine)(h:∀h' tk d (acc:List Value),(∀b u,s.heap.get? b=some u->h'.get? b=some u)->acc.Perm (es.toList.map (·.2))->R acc { s with heap:=h',toks:=tk,drawn:=d }) :
  wpAny (model prog w) A (collect (.ref a)) R E s:=by
 have lt:a<s.heap.objs.size:=lt_size ho
 unfold collect
 refine aad (wpAny_runValue (acq entry_proto_collect' ?_))
 rw[ab6 F.plain_proto_collect _]
 refine aad (m:=newList []) (ace (aae ⟨adw F.plain_list_iadd _,acq entry_list_iadd' ?_⟩))
 rw[ab6 F.plain_list_iadd _]
 have hS:(s.heap.push { cls:=.type "list",data:=.seq ([]:List Value).toArray }).get? s.heap.objs.size=some { cls:=.type "list",data:=.seq #[] }:=get?_push_size _ rfl
 have key:=zMj (prog:=prog) (A:=A) (S:=s.heap.objs.size) (res:=.ref s.heap.objs.size) (s:={ s with heap:=s.heap.push { cls:=.type "list",data:=.seq ([]:List Value).toArray } })
  (R:=λ(q:Result) (s':Shared)=>∃(h':Heap)(tk:Nat)(d:Drawn)(acc:Array Value)(c':Nat),q=.ok (.ret (.ref s.heap.objs.size))/\s'={ s with heap:=h',toks:=tk,drawn:=d }/\(∀b u,s.heap.get? b=some u->h'.get? b=some u) /\
   h'.get? s.heap.objs.size=some { cls:=.type "list",dict:=none,data:=.seq acc c',slots:=#[] }/\acc.toList.Perm (es.toList.map (·.2)))
  hh (get?_push_of_some _ ho) hx hd hf tb hz (ac0 lt) hS λh' tk d acc c' k h1 h2=>⟨h',tk,d,acc,c',rfl,rfl,λb u e=>k b u (aam (lt_size e)) (get?_push_of_some _ e),h1,h2⟩
 refine abj key (λfin s' x=>?_) λe s' x=>?_
 ·cases fin with
  |done f =>
   obtain⟨h',tk,d,acc,c',e,rfl,k,h1,h2⟩:=x
   cases e
   refine aad (m:=load s.heap.objs.size) (wpAny_load h1 ?_)
   exact aae (h h' tk d acc.toList k h2)
  |again c1 =>
   refine⟨x.1,ac1 x.2 λq s2 y=>?_⟩
   obtain⟨h',tk,d,acc,c',rfl,rfl,k,h1,h2⟩:=y
   refine aad (m:=load s.heap.objs.size) (wpAny_load h1 ?_)
   exact aae (h h' tk d acc.toList k h2)
 ·obtain⟨_,_,_,_,_,e',_⟩:=x
  cases e'
end
end oK
namespace L2
open PySem PySem.Spec PyProof.Rows oK
def oM:Value->Int
 |.int k _=>k
 |_=>0
theorem Tq:∀k v,(intKind P w).is k v=true->oM v=k:=λk v h=>by
 obtain⟨t,rfl⟩:=acd h
 rfl
theorem Inv.drew(I:Inv X pins σ H s)(d:Drawn):Inv X pins σ H { s with drawn:=d }:=⟨I.ok,I.os,I.bare,I.base,I.loc,I.cell,I.free,I.fW,I.pin,I.hok,I.len⟩
abbrev BX:=St->Hp->(LI->Hp->Prop)->Prop
def StP(X:Cx)(pins:List (Addr×Obj))(σ:St)(Q:LI->Hp->Prop)(v:Value)(s':Shared):Prop :=
 ∃(a:Addr)(ks:LI)(H':Hp),v=.ref a/\Inv X pins σ H' s'/\Good (intKind X.prog X.w) oM (zP X.w) s'.heap a ks/\jP X pins H' a/\Q ks H'
def ug(X:Cx)(e:Expr)(t:BX):Prop:=∀(pins:List (Addr×Obj))(s:Shared)(σ:St)(H:Hp)(Q:LI->Hp->Prop),Inv X pins σ H s->t σ H Q->wpAny (model X.prog X.w) X.A (eval e X.env) (StP X pins σ Q) X.xe s
section
variable{X:Cx}
theorem zUl:∀{ns:LI}{its:List Value},IntsAre its ns->∀{i:Nat}{v:Value},its[i]?=some v->∃t,v=.int (ns.getD i 0) t
 |_,_,.nil,i,v,h=>by simp at h
 |_,_,.cons n t r,0,v,h=>by simp at h;subst h;exact⟨t,rfl⟩
 |_,_,.cons n t r,i+1,v,h=>by
  obtain⟨t',e⟩:=zUl r (by simpa using h)
  exact⟨t',e⟩
theorem zQl:∀{ns:LI}{its:List Value},IntsAre its ns->its.length=ns.length
 |_,_,.nil=>rfl
 |_,_,.cons n t r=>congrArg (· + 1) (zQl r)
def Gn(K:PySem.W.Frag)(te:TE):BX:=λσ H Q=>yK te aY σ H λvs H1=>∃(p:Addr)(ns:LI),vs=[.ref p]/\aV K H1 p (ns.map V.int)/\ns.length<4000/\∀ks:LI,ks.Nodup->(∀z,z∈ks↔z∈ns)->Q ks H1
theorem Jy:bootBuiltins "set" = some (.type "set"):=by decide +kernel
theorem Jz(K:PySem.W.Frag)(hc:X.calm=true)(hm:X.mg "set" = none)(he:PE X e te)(hK:X.K=K:=by rfl)(hg:Gl X "set":=by rfl)(hs:starEach [e] X.env=[(false,eval e X.env)]:=by rfl):ug X (.Call (.Name "set" p) [e] [] pos) (Gn K te):=by
 subst hK
 intro pins s σ H Q I h
 refine abh (yh I hg hm Jy ?_)
 have ha:PA X [e] (yK te aY):=zA he zE hs
 refine aa9 (aL (ha pos pins s σ H _ I h) λus s1 ⟨vs,H1,I1,r1,q1⟩=>?_) hs rfl
 obtain⟨l,ns,e1,hq,h4,q⟩:=q1
 subst e1
 cases r1 with
 |cons r rr =>
  cases rr
  cases r
  obtain⟨its,rv,pl,hz⟩:=I1.list hq
  have hi:IntsAre its ns:=V6 rv
  have hl:=zQl hi
  refine zS5 (knd:=intKind X.prog X.w) (dec:=oM) Tq (λi=>ns.getD i 0) (I1.ok.hd hc) pl.isList (λi v hv=>?_) (by rw[size_toArray,hl];show ns.length+1<4096;omega) λh' tk g k=>?_
  ·obtain⟨t,rfl⟩:=zUl hi (by rw[getElem?_toArray] at hv;exact hv)
   exact⟨intKind_is _ _ _ _,rfl⟩
  ·have I2:=I1.kept (h':=h') (t':=tk) λb o e=>k b o (lt_size e) e
   obtain⟨_,_,_,_,_,_,_,_,_,nd,_⟩:=id g
   refine⟨_,_,H1,rfl,I2,g,I1.ji (aag _) (I1.hok.fresh (aag _)),q _ nd λz=>?_⟩
   rw[zOv,size_toArray,hl]
   constructor
   ·rintro⟨j,hj,rfl⟩
    rw[getD_eq_getElem?_getD,aaf hj]
    exact getElem_mem hj
   ·intro hz
    obtain⟨j,hj,e⟩:=getElem_of_mem hz
    exact⟨j,hj,by rw[getD_eq_getElem?_getD,aaf hj];exact e⟩
def PL(ts:BX):TE:=λσ H Q=>ts σ H λks H1=>ks.length<64/\∀(l:Addr)(ms:LI),H1 l=none->ms.Perm ks->ms.Pairwise (· <= ·)->Q (.ref l) (upd H1 l (.lst (ms.map V.int)))
theorem zKr:∀{vs:List Value},(∀v∈vs,∃k,(intKind P w).is k v=true)->IntsAre vs (vs.map oM)
 |[],_=>.nil
 |v::vs,h=>by
  obtain⟨k,hk⟩:=h v mem_cons_self
  obtain⟨t,rfl⟩:=acd hk
  exact .cons k t (zKr (P:=P) (w:=w) λu hu=>h u (mem_cons_of_mem _ hu))
theorem zRe(hc:X.calm=true)(I:Inv X pins σ H s)(g:Good (intKind X.prog X.w) oM (zP X.w) s.heap a ks)(h64:ks.length<64)(q:∀(l:Addr) (ms:LI),H l=none->ms.Perm ks->ms.Pairwise (· <= ·)->Q (.ref l) (upd H l (.lst (ms.map V.int)))):wpAny (model X.prog X.w) X.A (call (.builtin "sorted") [.ref a]) (EP X pins σ Q) X.xe s:=by
 obtain⟨o,es,ep,t,ho,hx,hd,hel,hp,nd,hb,hf,tb⟩:=g
 have hsz:es.size=ks.length:=by rw[<-hp.length_eq,length_map,length_toList]
 refine PySem.Calls.call_function_entry kind_sorted plain_sorted entry_sorted (args_sorted1 _) ?_
 unfold Builtin.«sorted»
 refine aad (m:=checkCount "sorted" 1 1 _) (aae ?_)
 refine aad (zJo (A:=X.A.in1) (I.ok.hd hc) ho hx hd hf tb (aby hb) λh' tk d acc hkeep hacc=>?_)
 have I':Inv X pins σ H { s with heap:=h',toks:=tk,drawn:=d }:=(I.kept (h':=h') (t':=tk) hkeep).drew d
 have hI:IntsAre acc (acc.map oM):=zKr (P:=X.prog) (w:=X.w) λv hv=>by
  obtain⟨e,he,rfl⟩:=mem_map.mp (hacc.mem_iff.mp hv)
  obtain⟨⟨k,hk,_⟩,_⟩:=hel e he
  exact⟨k,hk⟩
 have hpk:(acc.map oM).Perm ks:=by
  refine(hacc.map oM).trans ?_
  rw[map_map]
  exact hp
 have hal:acc.length=ks.length:=by rw[<-hpk.length_eq,length_map]
 have hsl:acc.length<=sizeLine:=by rw[hal];exact ab8 (adi h64 (by decide))
 refine aad (wpAny_newList ?_ hsl)
 have hoL:(h'.push (seqObj "list" acc.toArray 0)).get? h'.objs.size=some (seqObj "list" acc.toArray 0):=get?_push_size _ rfl
 refine aad (aa3 (ab2 slot_list_sort ⟨_,hoL,rfl⟩ entry_list_sort (list_sort_tree hoL hI (by omega) λout ns' a1 a2 a3=>⟨_,rfl,?_⟩) (args_list_sort _)))
 refine aae ⟨_,rfl,?_⟩
 obtain⟨e,he⟩:=sortedHeap_at (out:=out) hoL
 refine⟨.ref h'.objs.size,_,I'.laid (t':=tk) (o:=.lst (ns'.map V.int)) (λb ob w=>?_) (aag _) ?_,rfl,q _ ns' (I'.hok.fresh (aag _)) (a2.trans hpk) a3⟩
 ·have hb:h'.get? b=some ob:=w
  have hlt:=lt_size hb
  rw[sortedHeap_old (aam hlt) (by rw[size_push'];exact adh hlt),Heap.get?_push_ne _ _ _ (aam hlt)]
  exact hb
 ·refine⟨?_,out.toList,e,vV a1,?_⟩
  ·rw[length_map,a2.length_eq,length_map];exact hsl
  ·rw[toArray_toList];exact he
theorem Tt(hc:X.calm=true)(hm:X.mg "sorted" = none)(he:ug X e ts)(hg:Gl X "sorted":=by rfl)(hs:starEach [e] X.env=[(false,eval e X.env)]:=by rfl):PE X (.Call (.Name "sorted" p) [e] [] pos) (PL ts):=by
 intro pins s σ H Q I h
 refine abh (yh I hg hm (by decide +kernel:bootBuiltins "sorted" = some (.builtin "sorted")) ?_)
 refine PyProof.Rows.callWith_builtin1 (Q:=_) ?_ hs rfl
 rw[hs]
 show wpAny _ _ (spliced ((false,eval e X.env)::backTo pos [])) _ _ s
 refine ad0 (aL (he pins s σ H _ I h) λu s1 ⟨a,ks,H1,e1,I1,g,fo,h64,q⟩=>?_)
 subst e1
 refine ad2 ?_
 exact zRe hc I1 g h64 q
end
end L2
namespace Ts
open PySem L2
def ni(z:Int):LI->LI
 |[]=>[z]
 |y::ys=>if z<y then z::y::ys else if z=y then y::ys else y::ni z ys
def xX(ns:LI):LI:=ns.foldr ni []
def LQ(ns:LI):Option LI:=if ns.length<64 then some (xX ns) else none
theorem j7:∀{ys:LI},x∈ni z ys↔x=z\/x∈ys
 |[]=>by simp[ni]
 |y::ys=>by
  unfold ni
  split
  ·simp
  ·split
   ·rename_i h;subst h;simp
   ·rw[mem_cons,j7,mem_cons]
    exact⟨λh=>h.elim (λh=>.inr (.inl h)) λh=>h.elim .inl λh=>.inr (.inr h),λh=>h.elim (λh=>.inr (.inl h)) λh=>h.elim .inl λh=>.inr (.inr h)⟩
theorem zPc:∀{ys:LI},ys.Pairwise (· < ·)->(ni z ys).Pairwise (· < ·)
 |[],_=>by simp[ni]
 |y::ys,h=>by
  have h1:=pairwise_cons.mp h
  unfold ni
  split
  ·rename_i hz
   refine pairwise_cons.mpr ⟨λx hx=>?_,h⟩
   rcases mem_cons.mp hx with e|e
   ·rw[e];exact hz
   ·exact Int.lt_trans hz (h1.1 x e)
  ·split
   ·exact h
   ·refine pairwise_cons.mpr ⟨λx hx=>?_,zPc h1.2⟩
    rcases j7.mp hx with e|e
    ·rw[e];omega
    ·exact h1.1 x e
theorem bh:∀{ns:LI},x∈xX ns↔x∈ns
 |[]=>by simp[xX]
 |n::ns=>by
  show x∈ni n (xX ns)↔_
  rw[j7,bh,mem_cons]
theorem vW:∀ns:LI,(xX ns).Pairwise (· < ·)
 |[]=>.nil
 |n::ns=>zPc (vW ns)
theorem Gp:∀{xs ys:LI},xs.Pairwise (· < ·)->ys.Pairwise (· < ·)->(∀s,s∈xs↔s∈ys)->xs=ys
 |[],[],_,_,_=>rfl
 |[],y::ys,_,_,h=>absurd ((h y).mpr mem_cons_self) (by simp)
 |x::xs,[],_,_,h=>absurd ((h x).mp mem_cons_self) (by simp)
 |x::xs,y::ys,hx,hy,h=>by
  have h1:=pairwise_cons.mp hx
  have h2:=pairwise_cons.mp hy
  have e:x=y:=by
   rcases mem_cons.mp ((h x).mp mem_cons_self) with e|e
   ·exact e
   ·rcases mem_cons.mp ((h y).mpr mem_cons_self) with e'|e'
    ·exact e'.symm
    ·have a1:=h2.1 x e
     have a2:=h1.1 y e'
     omega
  subst e
  rw[Gp h1.2 h2.2 λs=>?_]
  constructor
  ·intro hs
   rcases mem_cons.mp ((h s).mp (mem_cons_of_mem _ hs)) with e|e
   ·have:=h1.1 s hs;omega
   ·exact e
  ·intro hs
   rcases mem_cons.mp ((h s).mpr (mem_cons_of_mem _ hs)) with e|e
   ·have:=h2.1 s hs;omega
   ·exact e
theorem uQ:∀{ks ns:LI},ks.Nodup->(∀z∈ks,z∈ns)->ks.length<=ns.length
 |[],_,_,_=>aa0 _
 |k::ks,ns,nd,h=>by
  obtain⟨a,b,e⟩:=List.append_of_mem (h k mem_cons_self)
  have nd':=nodup_cons.mp nd
  have q:=uQ (ks:=ks) (ns:=a++b) nd'.2 λz hz=>by
   have hm:=h z (mem_cons_of_mem _ hz)
   rw[e] at hm
   rcases mem_append.mp hm with m|m
   ·exact mem_append.mpr (.inl m)
   ·rcases mem_cons.mp m with m|m
    ·exact absurd (m▸hz) nd'.1
    ·exact mem_append.mpr (.inr m)
  rw[e,length_append,length_cons,length_cons]
  rw[length_append] at q
  omega
theorem wK:∀{ms:LI},ms.Pairwise (· <= ·)->ms.Nodup->ms.Pairwise (· < ·)
 |[],_,_=>.nil
 |m::ms,h,nd=>by
  have h1:=pairwise_cons.mp h
  have n1:=nodup_cons.mp nd
  refine pairwise_cons.mpr ⟨λx hx=>?_,wK h1.2 n1.2⟩
  have a:=h1.1 x hx
  have b:m≠x:=λe=>n1.1 (e▸hx)
  omega
section
variable{K:PySem.W.Frag}{B:Bs}{sl:SL K}{md:Md}{t:TE}
theorem zMo(h:Ex B sl .hp t m):Eo B sl md (PL (Gn K t)) (m.bind LQ):=λc hc F O H σ Q s k=>by
 cases m with
 |none=>cases hc
 |some ns =>
  have hc:LQ ns=some c:=hc
  unfold LQ at hc
  split at hc
  case isFalse=>cases hc
  rename_i hl
  cases hc
  refine h ns rfl F O H σ _ s λv F' H' g r1=>?_
  obtain⟨p,vs,rfl,z1,z2⟩:=r1
  have z3:vs=ns.map V.int:=z2.vals
  subst z3
  refine⟨p,ns,rfl,aV.of z1,by omega,λks nd hm=>⟨aan (uQ nd λz hz=>(hm z).mp hz) hl,λl ms hn p1 p2=>?_⟩⟩
  have e:ms=xX ns:=Gp (wK p2 (p1.nodup_iff.mpr nd)) (vW ns) λz=>by rw[p1.mem_iff,hm,bh]
  subst e
  exact k l _ F' H' g hn (uU _)
end
end Ts
namespace oK
open PySem PySem.Spec PyProof.Rows
set_option maxRecDepth 100000
theorem zFz:entryFor table "set.__and__" = some Builtin.«frozenset.__and__»:=adl (id':="frozenset.__and__") (by kernel_rfl) rfl (by decide +kernel) (by kernel_rfl)
section
variable{prog:Program}{w:World}{κ:Type}[DecidableEq κ]{knd:KeyKind prog w κ}{dec:Value->κ}{led:Bool}{A:Around}{E:Value->Shared->Prop}{s:Shared}
theorem Good.setOf(hdec:∀k v,knd.is k v=true->dec v=k)(g:Good knd dec led h a ks):h.SetOf knd a (λk=>decide (k∈ks)) ks.length:=by
 obtain⟨o,es,ep,t,h1,h2,h3,hel,hp,nd,hb,hf,tb⟩:=g
 refine⟨o,es,ep,t,h1,h2,h3,hel,λk=>?_,hb,hf,by rw[<-hp.length_eq,length_map,length_toList]⟩
 rw[decide_eq_true_iff,<-hp.mem_iff,mem_map]
 constructor
 ·rintro⟨e,he,rfl⟩
  obtain⟨⟨k',hk,_⟩,_⟩:=hel e he
  exact⟨e,he,by rw[hdec k' _ hk];exact hk⟩
 ·rintro⟨e,he,hk⟩
  exact⟨e,he,hdec _ _ hk⟩
theorem Good.size(g:Good knd dec led h a ks):∃o es ep t,h.get? a=some o/\o.ExactSet/\o.data=.set es ep t/\t.fits es.size=true/\es.size=ks.length/\Tb led t/\ElemsOf knd es.toList/\(es.toList.map λe=>dec e.2).Perm ks:=by
 obtain⟨o,es,ep,t,h1,h2,h3,hel,hp,nd,hb,hf,tb⟩:=g
 exact⟨o,es,ep,t,h1,h2,h3,hf,by rw[<-hp.length_eq,length_map,length_toList],tb,hel,hp⟩
theorem Good.type{s:Shared}(g:Good knd dec led s.heap a ks):s.TypeIs (.ref a) "set":=by
 obtain⟨o,_,_,_,h1,h2,_⟩:=g
 exact⟨o,h1,h2.1⟩
theorem uF{Q:Bool->Shared->Prop}(hT:s.TypeIs (.ref a) "set")(h:Q true s):wpAny (model prog w) A (Builtin.Frozenset.isAnySet (.ref a)) Q E s:=by
 unfold Builtin.Frozenset.isAnySet
 refine aad (adp (T:="set") (b:=true) hT aef ?_)
 exact aae h
theorem LR{Q:Nat->Shared->Prop}(g:Good knd dec led s.heap a ks)(h:Q ks.length s):wpAny (model prog w) A (ac5 a) Q E s:=by
 obtain⟨o,es,ep,t,h1,h2,h3,hf,hl,_⟩:=g.size
 unfold ac5
 refine aad (Tj h1 h3 hf (aae ?_))
 rw[hl]
 exact h
theorem zKb(sets:List Addr)(hs:∀a∈sets,∃ks:List κ,Good knd dec led s.heap a ks)(hn:∀k v,knd.is k v=true->∀b,v≠.ref b){Q:Bool->Shared->Prop}(h:Q true s):wpAny (model prog w) A (setsQuiet sets) Q E s:=by
 unfold setsQuiet
 refine aad (abj (aci (β:=Option Bool×Unit) _ (λl b s'=>s'=s/\b=(none,())/\∀a∈l,∃ks:List κ,Good knd dec led s.heap a ks) (λb s'=>s'=s/\b=(none,())) ?turn (λb s' hI=>⟨hI.1,hI.2.1⟩) sets _ ⟨rfl,rfl,hs⟩) ?post (λ_ _ h=>h))
 case post =>
  rintro b s' ⟨rfl,rfl⟩
  exact aae h
 case turn =>
  rintro a rest b s' ⟨rfl,rfl,hg⟩
  obtain⟨ks,g⟩:=hg a mem_cons_self
  obtain⟨o,es,ep,t,h1,h2,h3,hf,hl,tb,hel,hp⟩:=g.size
  refine aad (Tj h1 h3 hf ?_)
  rw[<-forIn_toList]
  refine aad (abj (aci (β:=Option Bool×Unit) _ (λl b s''=>s''=s'/\b=(none,())/\∀e∈l,∀c,e.2≠.ref c) (λb s''=>s''=s'/\b=(none,())) ?t2 (λb s' hI=>⟨hI.1,hI.2.1⟩) es.toList _ ⟨rfl,rfl,?p0⟩) ?p2 (λ_ _ h=>h))
  case p0 =>
   intro e he c z
   obtain⟨⟨k,hk,_⟩,_⟩:=hel e he
   exact hn k _ hk c z
  case p2 =>
   rintro b s'' ⟨rfl,rfl⟩
   exact aae ⟨rfl,rfl,λa ha=>hg a (mem_cons_of_mem _ ha)⟩
  case t2 =>
   rintro⟨hh,x⟩ l b s'' ⟨rfl,rfl,hl⟩
   have hx:=hl _ mem_cons_self
   dsimp only at hx ⊢
   split
   ·exact absurd rfl (hx _)
   ·exact aae ⟨rfl,rfl,λe he=>hl e (mem_cons_of_mem _ he)⟩
theorem zMz(g:Good knd dec (zP w) s.heap a ks)(hq:w.params.followText "set-order" = false->∀o es ep t,s.heap.get? a=some o->o.data=.set es ep t->(!t.plain&&decide (es.size > 1))=false){Q:Array (Int×Value)->Shared->Prop}(h:∀es:Array (Int×Value),ElemsOf knd es.toList->(es.toList.map λe=>dec e.2).Perm ks->Q es s):wpAny (model prog w) A (setWalk a) Q E s:=by
 obtain⟨o,es,ep,t,h1,h2,h3,hf,hl,tb,hel,hp⟩:=g.size
 unfold setWalk
 refine aad (aaq h1 h3 hf ?_)
 dsimp only
 refine aad (vT ?_)
 cases hb:w.params.followText "set-order" with
 |true =>
  simp only[↓reduceIte]
  refine aad (ac2 (aae ?_))
  exact h _ (hel.perm (uH _ es)) (((uH _ es).map _).trans hp)
 |false =>
  have q:=hq hb o es ep t h1 h3
  have Wj:t.led=true:=by rw[tb.led];unfold zP;rw[hb];rfl
  simp only[aao,↓reduceIte]
  show wpAny _ _ (if(!t.plain&&decide (es.size > 1))=true then _ else _) _ _ _
  rw[if_neg (by rw[q];exact aap)]
  refine aad ?_
  show wpAny _ _ (if(!t.led&&decide (es.size > 1))=true then _ else pure ()) _ _ _
  rw[if_neg (by rw[Wj];exact aap)]
  exact aae (aae (h es hel hp))
theorem Wk(g:Good knd dec (zP w) s.heap a ks)(gf:Good knd dec (zP w) s.heap f kf)(hs:∀b∈others,∃ks:List κ,Good knd dec (zP w) s.heap b ks)(hn:∀k v,knd.is k v=true->∀b,v≠.ref b){Q:Array (Int×Value)->Shared->Prop}(h:∀(es:Array (Int×Value)) (h':Heap),ElemsOf knd es.toList->(es.toList.map λe=>dec e.2).Perm ks->SameBut f s.heap h'->Good knd dec (zP w) h' f kf->Q es { s with heap:=h' }):wpAny (model prog w) A (setWalkUnseen a others (some f)) Q E s:=by
 obtain⟨o,es,ep,t,h1,h2,h3,hf,hl,tb,hel,hp⟩:=g.size
 unfold setWalkUnseen
 refine aad (aaq h1 h3 hf ?_)
 dsimp only
 refine aad (vT ?_)
 split
 ·rename_i c
  refine zMz g (λhb o' es' ep' t' h1' h3'=>?_) λes' j8 hp'=>h es' s.heap j8 hp' (SameBut.refl f s.heap) gf
  rw[h1] at h1'
  cases h1'
  rw[h3] at h3'
  cases h3'
  rw[hb] at c
  simp only[adt,aa5,aah,decide_eq_true_eq] at c
  rcases c with⟨_,c⟩|c
  ·rw[c];rfl
  ·rw[decide_eq_false (by omega),aei]
 ·refine aad (zKb (knd:=knd) (dec:=dec) (led:=zP w) (a::others) (λb hb=>(mem_cons.mp hb).elim (λe=>e▸⟨ks,g⟩) (hs b)) hn ?_)
  simp only[abx,aao,↓reduceIte]
  refine aad (adq ?_)
  obtain⟨of,ef,epf,tf,f1,f2,f3,ff,fl,tbf,Wm,fp⟩:=gf.size
  refine aad (aaq f1 f3 ff ?_)
  dsimp only
  split
  ·have gl:=gf.len
   refine aad (abz f1 f3 ?_ (aby (by rw[fl];exact gl)))
   obtain⟨_,_,_,_,e1,_,_,_,_,nd,hb,_,_⟩:=gf
   refine aae (h es _ hel hp (SameBut.update _ f _) ⟨_,ef,_,_,Gm (es':=ef) (t':=_) f1 f3,f2,rfl,Wm,fp,nd,?_,?_,?_⟩)
   ·rw[fl];exact gl
   ·exact ff
   ·refine⟨?_,λz=>?_⟩
    ·show(tf.led&&t.led)=_
     rw[tbf.led,tb.led,aep]
    ·exact tbf.rz (Bool.and_eq_true_iff.mp z).1
  ·exact aae (h es s.heap hel hp (SameBut.refl f s.heap) gf)
theorem zFb(hdec:∀k v,knd.is k v=true->dec v=k)(id:String)(hn:∀k v,knd.is k v=true->∀b,v≠.ref b)(Wn:x≠r)(Tv:y≠r)(gx:Good knd dec (zP w) s.heap x ka)(gy:Good knd dec (zP w) s.heap y ky)(gr:Good knd dec (zP w) s.heap r []){Q:Unit->Shared->Prop}(h:∀(h':Heap) (kr:List κ),SameBut r s.heap h'->Good knd dec (zP w) h' r kr->(∀k,k∈kr↔k∈ka/\k∈ky)->Q () { s with heap:=h' }) :
  wpAny (model prog w) A (do
   let was <-setEpoch y
   for (h,x') in <-setWalkUnseen y [x,r] (some r) do
    holding [x'] do
     if(<-setFind x x' h).isSome then
      let _ <-setAddHashed r x' h
    aaz id y was) Q E s:=by
 obtain⟨o,es,ep,t,h1,h2,h3,hf,hl,tb,hel,hp⟩:=gy.size
 refine aad (abg h1 h3 hf ?_)
 refine aad (Wk gy gr (λb hb=>(mem_cons.mp hb).elim (λe=>e▸⟨ka,gx⟩) λe=>(mem_singleton.mp e)▸⟨[],gr⟩) hn λes' h' j8 hp' sb PN=>?_)
 rw[<-forIn_toList]
 have ln:es'.toList.length=ky.length:=by rw[<-hp'.length_eq,length_map]
 refine aad (abj (aci (β:=Unit) _ (λl _ s'=>∃h2 kr,s'={ s with heap:=h2 }/\SameBut r s.heap h2/\Good knd dec (zP w) h2 r kr/\ElemsOf knd l/\kr.length+l.length<=ky.length/\∀k,(k∈kr\/(k∈ka/\k∈l.map λe=>dec e.2))↔(k∈ka/\k∈ky)) (λ_ s'=>∃h2 kr,s'={ s with heap:=h2 }/\SameBut r s.heap h2/\Good knd dec (zP w) h2 r kr/\∀k,k∈kr↔k∈ka/\k∈ky) ?turn ?fin es'.toList () ⟨h',[],rfl,sb,PN,j8,by rw[ln,length_nil];omega,λk=>?_⟩) ?post (λ_ _ h=>h))
 case turn =>
  rintro⟨hs,v⟩ l b s' ⟨h2,kr,rfl,iQ,g2,hl2,hlen,hm⟩
  obtain⟨⟨k,hk,hh⟩,hsc⟩:=hl2 _ mem_cons_self
  dsimp only at hk hh hsc ⊢
  subst hh
  have kx:∀o,s.heap.get? x=some o->h2.get? x=some o:=λo e=>by rw[iQ.2 x Wn];exact e
  have ky':∀o,s.heap.get? y=some o->h2.get? y=some o:=λo e=>by rw[iQ.2 y Tv];exact e
  have Wo:=gx.keep kx
  have dv:dec v=k:=hdec k v hk
  rw[length_cons] at hlen
  have cont:∀(h3':Heap)(uh:List κ),SameBut r s.heap h3'->Good knd dec (zP w) h3' r uh->uh.length+l.length<=ky.length->(∀c,(c∈uh\/(c∈ka/\c∈l.map λe=>dec e.2))↔(c∈ka/\c∈ky)) ->
    wpAny (model prog w) A (aaz id y ep) (λ_ s''=>wpAny (model prog w) A (pure (ab0 ())) (λq s''=>match q with|.yield _=>∃h2 kr,s''={ s with heap:=h2 }/\SameBut r s.heap h2/\Good knd dec (zP w) h2 r kr/\ElemsOf knd l/\kr.length+l.length<=ky.length/\∀k,(k∈kr\/(k∈ka/\k∈l.map λe=>dec e.2))↔(k∈ka/\k∈ky)|.done _=>∃h2 kr,s''={ s with heap:=h2 }/\SameBut r s.heap h2/\Good knd dec (zP w) h2 r kr/\∀k,k∈kr↔k∈ka/\k∈ky) E s'') E { s with heap:=h3' }:=λh3' uh oO g3 l3 m3=>by
   unfold aaz
   refine aad (abg (s:={ s with heap:=h3' }) (by show h3'.get? y=_;rw[oO.2 y Tv];exact h1) h3 hf ?_)
   simp only[bne_self_eq_false,aao,↓reduceIte]
   exact aae (aae ⟨h3',uh,rfl,oO,g3,λe he=>hl2 e (mem_cons_of_mem _ he),l3,m3⟩)
  refine aad (aa3 (aad (wpAny_setFind_of (s:={ s with heap:=h2 }) hk hsc (Wo.setOf hdec) λq hq=>?_)))
  cases q with
  |none =>
   have nk:k∉ka:=by simpa using hq.symm
   simp only[Option.isSome_none,aao,↓reduceIte]
   refine aae (aad (cont h2 kr iQ g2 (by omega) λc=>?_))
   rw[<-hm c,map_cons,mem_cons]
   show _↔(c∈kr\/c∈ka/\(c=dec v\/_))
   rw[dv]
   constructor
   ·rintro(z|⟨z1,z2⟩)
    ·exact .inl z
    ·exact .inr ⟨z1,.inr z2⟩
   ·rintro(z|⟨z1,z2|z2⟩)
    ·exact .inl z
    ·exact absurd (z2▸z1) nk
    ·exact .inr ⟨z1,z2⟩
  |some j =>
   have mk:k∈ka:=by simpa using hq.symm
   simp only[ac7,↓reduceIte]
   refine aad (Tf (led:=zP w) (s:={ s with heap:=h2 }) hdec hk hsc g2 (by have:=gy.len;omega) λh3' b' oO g3=>?_)
   refine aae (aad (cont h3' _ (iQ.trans oO) g3 ?_ λc=>?_))
   ·split
    ·omega
    ·rw[length_cons];omega
   ·rw[<-hm c,map_cons,mem_cons]
    show _↔(c∈kr\/c∈ka/\(c=dec v\/_))
    rw[dv]
    have e:c∈(if k∈kr then kr else k::kr)↔c=k\/c∈kr:=by
     split
     ·rename_i z
      exact⟨.inr,λq=>q.elim (λq=>q▸z) λq=>q⟩
     ·exact mem_cons
    rw[e]
    constructor
    ·rintro((z|z)|⟨z1,z2⟩)
     ·exact .inr ⟨z▸mk,.inl z⟩
     ·exact .inl z
     ·exact .inr ⟨z1,.inr z2⟩
    ·rintro(z|⟨z1,z2|z2⟩)
     ·exact .inl (.inr z)
     ·exact .inl (.inl z2)
     ·exact .inr ⟨z1,z2⟩
 case fin =>
  rintro b s' ⟨h2,kr,rfl,iQ,g2,_,_,hm⟩
  refine⟨h2,kr,rfl,iQ,g2,λk=>?_⟩
  rw[<-hm k]
  simp
 case post =>
  rintro b s' ⟨h2,kr,rfl,iQ,g2,hm⟩
  exact aae (h h2 kr iQ g2 hm)
 ·rw[hp'.mem_iff]
  simp
theorem Wq(hT:s.TypeIs (.ref a) "set"){Q:Value->Shared->Prop}(h:Q (.type "set") s):wpAny (model prog w) A (Builtin.Frozenset.baseOf a) Q E s:=by
 unfold Builtin.Frozenset.baseOf
 refine aad (adp (T:="set") (b:=true) hT aef ?_)
 exact aae h
theorem Wr{Q:Value->Shared->Prop}(h:Q (.ref s.heap.objs.size) { s with heap:=s.heap.push { cls:=.type "set",dict:=none,data:=.set #[] 0 (.fresh 0 0 (zP w)) } }):wpAny (model prog w) A (newSet (.type "set")) Q E s:=by
 unfold newSet setsByText
 refine aad (aad (ac2 (aae ?_)))
 dsimp only
 simp only[newObj]
 exact aad (wpAny_alloc (aae h))
theorem zSn(hdec:∀k v,knd.is k v=true->dec v=k)(id:String)(hn:∀k v,knd.is k v=true->∀b,v≠.ref b)(hab:b≠a)(ga:Good knd dec (zP w) s.heap a ka)(gb:Good knd dec (zP w) s.heap b kb){Q:Value->Shared->Prop}(h:∀(h':Heap) (kr:List κ),Good knd dec (zP w) h' s.heap.objs.size kr->(∀k,k∈kr↔k∈ka/\k∈kb)->(∀c o,c<s.heap.objs.size->s.heap.get? c=some o->h'.get? c=some o)->Q (.ref s.heap.objs.size) { s with heap:=h' }) :
  wpAny (model prog w) A (Builtin.Frozenset.intersection id a (.ref b)) Q E s:=by
 have la:a<s.heap.objs.size:=by obtain⟨o,_,_,_,h1,_⟩:=ga;exact lt_size h1
 have lb:b<s.heap.objs.size:=by obtain⟨o,_,_,_,h1,_⟩:=gb;exact lt_size h1
 unfold Builtin.Frozenset.intersection
 rw[if_neg (λe=>hab (aea (abt e)))]
 refine aad (Wq ga.type (aad (Wr ?_)))
 refine aad (aae ?_)
 have up:∀c o,s.heap.get? c=some o->(s.heap.push { cls:=.type "set",dict:=none,data:=.set #[] 0 (.fresh 0 0 (zP w)) }).get? c=some o:=λc o e=>get?_push_of_some _ e
 have Gq:=ga.keep (up a)
 have Gs:=gb.keep (up b)
 have L_:Good knd dec (zP w) (s.heap.push { cls:=.type "set",dict:=none,data:=.set #[] 0 (.fresh 0 0 (zP w)) }) s.heap.objs.size []:=PJ (get?_push_size _ rfl)
 generalize hp:s.heap.push { cls:=.type "set",dict:=none,data:=.set #[] 0 (.fresh 0 0 (zP w)) }=hq at up Gq Gs L_ ⊢
 have fin:∀(h':Heap)(kr:List κ),SameBut s.heap.objs.size hq h'->Good knd dec (zP w) h' s.heap.objs.size kr->(∀k,k∈kr↔k∈ka/\k∈kb)->Q (.ref s.heap.objs.size) { s with heap:=h' }:=λh' kr sb g m =>
  h h' kr g m λc o hc e=>by rw[sb.2 c (aam hc)];exact up c o e
 refine aad (aa3 (aad (uF (s:={ s with heap:=hq }) (Good.type (s:={ s with heap:=hq }) Gs) ?_)))
 simp only[↓reduceIte]
 refine aad (aae ?_)
 refine aad (LR (s:={ s with heap:=hq }) Gs (aad (LR (s:={ s with heap:=hq }) Gq ?_)))
 split
 ·exact zFb (s:={ s with heap:=hq }) hdec id hn (aam lb) (aam la) Gs Gq L_ λh' kr sb g m=>aae (fin h' kr sb g λk=>by rw[m k,and_comm])
 ·exact zFb (s:={ s with heap:=hq }) hdec id hn (aam la) (aam lb) Gq Gs L_ λh' kr sb g m=>aae (fin h' kr sb g m)
theorem JB(hdec:∀k v,knd.is k v=true->dec v=k)(hn:∀k v,knd.is k v=true->∀b,v≠.ref b)(hab:b≠a)(ga:Good knd dec (zP w) s.heap a ka)(gb:Good knd dec (zP w) s.heap b kb){Q:Value->Shared->Prop}(h:∀(h':Heap) (kr:List κ),Good knd dec (zP w) h' s.heap.objs.size kr->(∀k,k∈kr↔k∈ka/\k∈kb)->(∀c o,c<s.heap.objs.size->s.heap.get? c=some o->h'.get? c=some o)->Q (.ref s.heap.objs.size) { s with heap:=h' }) :
  wpAny (model prog w) A (binaryOp .BitAnd (.ref a) (.ref b)) Q E s:=by
 refine adz (op:=.BitAnd) (T:="set") ga.type gb.type F.fills_set_and F.slot_set_and (ab2 F.slot_set_and ga.type zFz ?_ (F.args_set_and_2 _ _))
 refine aad (m:=abp "__and__" ⟨[.ref a,.ref b],[]⟩) ?_
 unfold abp slotArgs
 refine aae ?_
 dsimp only
 refine aad (aad (uF ga.type ?_))
 refine uF gb.type ?_
 simp only[abx,aao,↓reduceIte]
 refine aad (aae (aad (zSn hdec _ hn hab ga gb λh' kr g m k=>aae ⟨.ref s.heap.objs.size,rfl,?_,h h' kr g m k⟩)))
 exactλz=>ad6 z
end
end oK
namespace L2
open PySem PySem.Spec PyProof.Rows oK
section
variable{X:Cx}
def Gu(ta tb:BX):BX:=λσ H Q=>ta σ H λks H1=>tb σ H1 λjs H2=>∀rs:LI,rs.Nodup->(∀z,z∈rs↔z∈ks/\z∈js)->Q rs H2
theorem BZ(ha:ug X a ta)(hb:ug X b tb):ug X (.BinOp a .BitAnd b pos) (Gu ta tb):=by
 intro pins s σ H Q I h
 refine aen (aL (ha pins s σ H _ I h) λu s1 ⟨p,ks,H1,e,I1,g,fo,h1⟩=>?_)
 subst e
 obtain⟨o,es,ep,t,go,gx,gd,_⟩:=id g
 have PX:=I1.pinned (fp:=[p]) (λb hb=>by rw[mem_singleton.mp hb];exact fo) (λb hb=>by
  rw[mem_singleton.mp hb]
  exact⟨o,go,λv z=>by rw[gd] at z;cases z⟩)
 refine aL (hb _ s1 σ H1 _ PX h1) λu2 s2 ⟨p2,js,H2,e2,I2,g2,P0,q2⟩=>?_
 subst e2
 have pm:(p,o)∈X.pn++(pins++Fj [p] s1.heap):=mem_append_right _ (mem_append_right _ (wJ (mem_singleton.mpr rfl) go))
 have kp:s2.heap.get? p=some o:=(I2.pin (p,o) pm).1
 have g1:=g.keep (h':=s2.heap) λo' e'=>by rw[go] at e';cases e';exact kp
 have ne:p2≠p:=ab1 (P0.2.2.2.2.2 (p,o) pm)
 have I3:=I2.d_
 refine JB Tq (λk v hk b z=>?_) ne g1 g2 λh' kr g3 m k=>?_
 ·obtain⟨t,rfl⟩:=acd hk
  cases z
 ·have I4:=I3.kept (h':=h') (t':=s2.toks) λb o e=>k b o (lt_size e) e
  obtain⟨_,_,_,_,_,_,_,_,_,nd,_⟩:=id g3
  exact⟨_,kr,H2,rfl,I4,g3,I3.ji (aag _) (I3.hok.fresh (aag _)),q2 kr nd m⟩
end
end L2
namespace Ts
open PySem L2
def Tw(ns ms:LI):Option LI:=if(ns.length<64\/ms.length<64)/\ns.length<4000/\ms.length<4000 then some (xX (ns.filter λz=>decide (z∈ms))) else none
section
variable{K:PySem.W.Frag}{B:Bs}{sl:SL K}{md:Md}{t1 t2:TE}
theorem zMp(h1:Ex B sl .hp t1 m1)(h2:Ex B sl .hp t2 m2):Eo B sl md (PL (Gu (Gn K t1) (Gn K t2))) (m1.bind λa=>m2.bind λb=>Tw a b):=λc hc F O H σ Q s k=>by
 obtain⟨ns,ms,ha,hb,hf⟩:=uN hc
 unfold Tw at hf
 split at hf
 case isFalse=>cases hf
 rename_i hl
 cases hf
 refine h1 ns ha F O H σ _ s λv F' H' g r1=>?_
 obtain⟨p,vs,rfl,z1,z2⟩:=r1
 have z3:vs=ns.map V.int:=z2.vals
 subst z3
 refine⟨p,ns,rfl,aV.of z1,hl.2.1,λks nd hm=>?_⟩
 refine h2 ms hb F' O H' σ _ (s.grow g) λw F2 H2 g2 r2=>?_
 obtain⟨p',vs',rfl,y1,y2⟩:=r2
 have y3:vs'=ms.map V.int:=y2.vals
 subst y3
 refine⟨p',ms,rfl,aV.of y1,hl.2.2,λjs jd hj rs rd hr=>⟨hl.1.elim (aan (uQ rd λz hz=>(hm z).mp ((hr z).mp hz).1)) (aan (uQ rd λz hz=>(hj z).mp ((hr z).mp hz).2)),λl us hn p1 p2=>?_⟩⟩
 have e:us=xX (ns.filter λz=>decide (z∈ms)):=Gp (wK p2 (p1.nodup_iff.mpr rd)) (vW _) λz=>by rw[p1.mem_iff,hr,hm,hj,bh,mem_filter,decide_eq_true_iff]
 subst e
 exact k l _ F2 H2 (g.trans g2) hn (uU _)
end
end Ts
namespace L2
open PySem PySem.Spec PyProof.Rows
section
variable{X:Cx}
theorem Gv:Rw X .BitOr (RB λi j=>acr i j):=by
 intro pins s σ H x y v u Q I r1 r2 h
 obtain⟨i,j,e1,e2,q⟩:=h
 subst e1;subst e2
 obtain⟨t,rfl⟩:=r1
 obtain⟨t',rfl⟩:=r2
 exact ior_int ⟨.int _,H,I.tok _,⟨_,rfl⟩,q⟩
def Gw(K:PySem.W.Frag):V->V->Hp->VK->Prop:=λx y H Q=>∃p xs i v,x=.ref p/\y=.int i/\0<=i/\aV K H p xs/\cQ xs i=some v/\Q v H
theorem zPi(K:PySem.W.Frag)(h:X.K=K:=by rfl):Np X (Gw K):=by
 subst h
 intro pins s σ H o i ov iv Q I rx ry h
 obtain⟨p,xs,i,z,rfl,rfl,h0,hq,he,q⟩:=h
 cases rx
 obtain⟨t,rfl⟩:=ry
 obtain⟨its,r,pl,hz⟩:=I.list hq
 obtain⟨j,h1,h2,h3,h4,h5⟩:=Ve he
 obtain⟨w,ew,tD⟩:=r.get h2
 have hl:=r.length
 have hn:=Ie
 have hj:i.toNat=j:=by
  rw[ael h0 h5] at h1
  exact aai h1
 exact wpAny_getItem_list pl.isList h0 (by omega) (by rw[hj];simpa using ew) ⟨z,H,I,tD,q⟩
theorem Ws(K:PySem.W.Frag)(ha:PE X a ta)(hK:X.K=K:=by rfl)(he:∀whole,isTrue a X.env whole=(do let v <-whole;standAt a.pos;holding [v] (truthy v)):=by intro _;rfl) :
  PT X a (λσ H Q=>ta σ H λx H'=>∃k,Ae K x H' k/\Q k H'):=by
 subst hK
 exact zRv ha he
def tLR(ta:TA):TE:=λσ H Q=>ta σ H λvs H1=>∃j:Int,vs=[.int j] /\ -(2^62)<=j/\j<1000000/\∀l,H1 l=none->Q (.ref l) (upd H1 l (.lst (((aat j.toNat).map acz).map V.int)))
theorem B_{acc:List Value}:∀{ns:LI},acc.length=ns.length->(∀(i:Nat)(v:Value),acc[i]?=some v->∃t:Tok,v=abr (ns.getD i 0) t)->IntsAre acc ns:=by
 induction acc with
 |nil =>
  intro ns h _
  cases ns with
  |nil=>exact .nil
  |cons n ns=>simp at h
 |cons v acc ih =>
  intro ns h g
  cases ns with
  |nil=>simp at h
  |cons n ns =>
   obtain⟨t,e⟩:=g 0 v rfl
   subst e
   exact .cons n t (ih (by simpa using h) λi v hv=>g (i+1) v hv)
theorem zR0(hc:X.calm=true)(hg:Gl X "list")(hm:X.mg "list" = none)(hg2:Gl X "range")(hm2:X.mg "range" = none)(ha:PA X [a] ta)(hs:starEach [a] X.env=[(false,eval a X.env)]:=by rfl)(hs2:starEach [Expr.Call (.Name "range" p2) [a] [] pos2] X.env=[(false,eval (Expr.Call (.Name "range" p2) [a] [] pos2) X.env)]:=by rfl):PE X (.Call (.Name "list" p) [.Call (.Name "range" p2) [a] [] pos2] [] pos) (tLR ta):=by
 intro pins s σ H Q I h
 refine abh (yh I hg hm (by decide +kernel:bootBuiltins "list" = some (.type "list")) ?_)
 refine aa9 ?_ hs2 rfl
 rw[hs2]
 show wpAny _ _ (spliced ((false,eval (Expr.Call (.Name "range" p2) [a] [] pos2) X.env)::backTo pos [])) _ _ s
 refine ad0 (abh (yh I hg2 hm2 boot_range (aa9 (aL (ha pos2 pins s σ H _ I h) λus s1 ⟨vs,H1,I1,r1,q1⟩=>?_) hs rfl)))
 obtain⟨j,e,q1,q2,q⟩:=q1
 subst e
 cases r1 with
 |cons r rr =>
  cases rr
  obtain⟨t,rfl⟩:=r
  refine call_range_1 (ad2 ?_)
  have I2:Inv X pins σ H1 { s1 with heap:=s1.heap.push { cls:=.type "range",data:=.fields #[.int 0 s1.toks,.int j t,.int 1 (s1.toks+1)] },toks:=s1.toks+1+1 }:=I1.kept λb o e=>get?_push_of_some _ e
  refine call_list_range (n:=j.toNat) (I2.ok.hd hc) (IsRange.new ..) (small_one (by omega) (by omega) q1 (by omega)) (by rw[rangeSize_one];split<;>omega) (by omega) λh' tk acc' c' hk hS hacc=>?_
  have hI:IntsAre acc'.toList ((aat j.toNat).map acz):=B_ (by rw[length_toList,hacc.1,length_map,length_range]) λi v hv=>by
   rw[getElem?_toList] at hv
   obtain⟨t',rfl⟩:=hacc.2 i v hv
   have hi:i<j.toNat:=by
    have:=(Array.getElem?_eq_some_iff.mp hv).1
    rw[hacc.1] at this
    exact this
   refine⟨t',?_⟩
   have e:((aat j.toNat).map acz).getD i 0=(i:Int):=by
    rw[getD_eq_getElem?_getD,getElem?_map,getElem?_range hi]
    rfl
   rw[e]
   simp
  refine⟨.ref _,_,I2.laid (h':=h') (t':=tk) (o:=.lst (((aat j.toNat).map acz).map V.int)) (λb ob w=>hk b ob w) (aag _) ?_,rfl,q _ (I2.hok.fresh (aag _))⟩
  refine⟨?_,acc'.toList,c',vV hI,?_⟩
  ·rw[length_map,length_map,length_range]
   exact aar (show j.toNat<=1000000 by omega) (by decide)
  ·rw[toArray_toList];exact hS
end
end L2
namespace Ts
open PySem L2
def q9(a b:Int):Option Int:=if 0<=b/\b<=1000000/\a.natAbs<2^64 then some (a*2^b.toNat) else none
def iB(a b:Int):Option Int:=if 0<=b then some (a/2^b.toNat) else none
section
variable{K:PySem.W.Frag}{B:Bs}{sl:SL K}{md:Md}{t t1 t2 te:TE}{m1 m2:Option Int}
theorem P_(h1:Ex B sl .hp t1 m1)(h2:Ex B sl .hp t2 m2):Ex B sl md (gF (pJ λi j=>.int (aaw i j)) t1 t2) (m1.bind λa=>m2.bind λb=>some (aaw a b)):=OD (λ_ _=>rfl) h1 h2
theorem JC(h1:Ex B sl .hp t1 m1)(h2:Ex B sl .hp t2 m2):Ex B sl md (gF (rI Ad λi j=>.int (i*2^j.toNat)) t1 t2) (m1.bind λa=>m2.bind λb=>q9 a b) :=
 yu (f:=q9) (λa b c v w H Q e r1 r2 q=>by
  unfold q9 at e
  split at e
  case isFalse=>cases e
  rename_i hc
  cases e;cases r1;cases r2
  exact⟨a,b,rfl,rfl,hc,q⟩) h1 h2
theorem Tz(h1:Ex B sl .hp t1 m1)(h2:Ex B sl .hp t2 m2):Ex B sl md (gF (rI (λ_ j=>0<=j) λi j=>.int (i/2^j.toNat)) t1 t2) (m1.bind λa=>m2.bind λb=>iB a b) :=
 yu (f:=iB) (λa b c v w H Q e r1 r2 q=>by
  unfold iB at e
  split at e
  case isFalse=>cases e
  rename_i hc
  cases e;cases r1;cases r2
  exact⟨a,b,rfl,rfl,hc,q⟩) h1 h2
theorem Wt{m:Option Int}(h:Ex B sl .hp t m):Et B sl (λσ H Q=>t σ H λx H'=>∃k,Ae K x H' k/\Q k H') (m.bind λi=>some (i != 0)):=λc hc F O H σ Q s k=>by
 cases m with
 |none=>cases hc
 |some i =>
  cases(show some (i != 0)=some c from hc)
  refine h i rfl F O H σ _ s λv F' H' g r=>?_
  cases r
  exact⟨_,rfl,k F' H' g⟩
def Ma(n:Int):Option LI:=if -(2^62)<=n/\n<1000000 then some ((aat n.toNat).map acz) else none
theorem zSw(h:Ex B sl .hp t m):Eo B sl md (tLR (yK t aY)) (m.bind Ma):=λc hc F O H σ Q s k=>by
 cases m with
 |none=>cases hc
 |some n =>
  have hc:Ma n=some c:=hc
  unfold Ma at hc
  split at hc
  case isFalse=>cases hc
  rename_i hl
  cases hc
  refine h n rfl F O H σ _ s λv F' H' g r1=>?_
  cases r1
  exact⟨n,rfl,hl.1,hl.2,λl hn=>k l _ F' H' g hn (uU _)⟩
def uo(xs ys:LI):Option LI:=if xs.length+ys.length<cap then some (xs++ys) else none
theorem zNm(i:Nat)(hs:sl[i]?=some (.ow n xs))(hh:sl.all (λs=>!b_ s)=true)(h:Ex B sl .hp te m) :
  Sn B sl (Ht (Fx K "list" Vj (cT i) (yK te aY))) (λys=>sl.set i (.ow n ys)) (m.bind λa=>uo xs a):=λys ha G D σ H s k=>by
 cases m with
 |none=>cases ha
 |some a =>
  have ha':uo xs a=some ys:=ha
  unfold uo at ha'
  split at ha'
  case isFalse=>cases ha'
  rename_i hl
  cases ha'
  obtain⟨F,O,g,z⟩:=s
  obtain⟨p,vs,h1,h2,h3,_⟩:=z.chg hs hh
  refine⟨_,h1,.inl ⟨rfl,_,aV.of h2⟩,?_⟩
  refine h a rfl F O H σ _ z λv F' H' gr r=>?_
  obtain⟨p',vs',h1',h2',h3',h4'⟩:=(z.grow gr).chg hs hh
  have e:=h1.symm.trans h1'
  cases e
  obtain⟨q,us,rfl,z1,z2⟩:=r
  have z3:us=a.map V.int:=z2.vals
  subst z3
  have e3:vs'=xs.map V.int:=h3'.vals
  subst e3
  obtain⟨O',z'⟩:=h4' (xs.map V.int++a.map V.int) (xs++a) (by rw[<-map_append];exact uU _)
  exact⟨p,q,_,_,rfl,rfl,h2',z1,by rw[length_map,length_map];exact ab8 (yw hl),k _ _ ⟨F',O',g.trans gr.ff,z'⟩⟩
def Ca(f:Int->Int->Int)(xs:LI)(ix:Int)(y:Int):Option LI:=if 0<=ix then(L2.cQ xs ix).bind λx=>qW xs ix (f x y) else none
theorem zRh(i:Nat)(hs:sl[i]?=some (.ow n xs))(hh:sl.all (λs=>!b_ s)=true)(hi:Ex B sl .hp ti mi)(hv:Ex B sl .hp te m) :
  Sn B sl (Fg (cT i) ti te (Gw K) (RB f) tK) (λys=>sl.set i (.ow n ys)) (mi.bind λk=>m.bind λa=>Ca f xs k a):=λys ha G D σ H s k=>by
 obtain⟨ix,a,e1,e2,ha'⟩:=uN ha
 unfold Ca at ha'
 split at ha'
 case isFalse=>cases ha'
 rename_i h0
 obtain⟨x,ex,ha'⟩:=Option.bind_eq_some_iff.mp ha'
 obtain⟨F,O,g,z⟩:=s
 obtain⟨p,vs,h1,h2,h3,_⟩:=z.chg hs hh
 refine⟨_,h1,?_⟩
 refine hi ix e1 F O H σ _ z λv F' H' gr r=>?_
 cases r
 obtain⟨p',vs',h1',h2',h3',h4'⟩:=(z.grow gr).chg hs hh
 have e:=h1.symm.trans h1'
 cases e
 obtain⟨xv,exv,rx⟩:=h3'.cQ ex
 have rx:xv=.int x:=Sc.is.mp rx
 subst rx
 refine⟨p,vs',ix,_,rfl,rfl,h0,aV.of h2',exv,?_⟩
 refine hv a e2 F' O H' σ _ (z.grow gr) λw F2 H2 qG rw=>?_
 cases rw
 obtain⟨p2,vs2,y1,y2,y3,y4⟩:=((z.grow gr).grow qG).chg hs hh
 have e:=h1.symm.trans y1
 cases e
 refine⟨x,a,rfl,rfl,?_⟩
 unfold qW at ha'
 cases ej:qC xs.length ix with
 |none=>rw[ej] at ha';cases ha'
 |some jj =>
  rw[ej] at ha'
  cases ha'
  obtain⟨O',z'⟩:=y4 (vs2.set jj (.int (f x a))) (xs.set jj (f x a)) (y3.set (Sc.is.mpr rfl) jj)
  exact⟨p,vs2,ix,jj,rfl,rfl,y2,by rw[y3.len,ej],k _ _ ⟨F2,O',(g.trans gr.ff).trans qG.ff,z'⟩⟩
end
section
variable{K:PySem.W.Frag}{B:Bs}{sl:SL K}{F H H2:Hp}{O:Own}{σ:St}{te:TE}
end
section
variable{K:PySem.W.Frag}{B:Bs}{sl sl2:SL K}{G F H:Hp}{O:Own}{σ:St}{te:TE}
inductive Wu{α:Type}[Rp K α](kvs:List (Key×α)):SL K->SL K->Prop
 |here {a:SL K}:Wu kvs (.od kvs::a) (.fz false (Dc.mk kvs)::a)
 |skip {s:Slot K} {a b:SL K}:Wu kvs a b->Wu kvs (s::a) (s::b)
end
section
variable{K:PySem.W.Frag}{B:Bs}{sl:SL K}{md:Md}{t t2:TE}{α β:Type}[Rp K α][Rp K β]
end
def mj{α:Type}(xs:List α)(lo hi:Option Int):List α:=(xs.drop (HT.m9 xs.length 0 lo)).take (HT.m9 xs.length xs.length hi-HT.m9 xs.length 0 lo)
section
variable{P:Program}{w:World}{K:PySem.W.Frag}{mg:Str->Option Value}{base:Heap}{B:Bs}{sl:SL K}{md:Md}{α β:Type}[Rp K α][Rp K β]{tA:Addr}{tO:HO}{te t1 t2:TE}
theorem A2.cut(h:A2 R vs xs)(lo hi:Option Int):A2 R (qT vs lo hi) (mj xs lo hi):=by
 unfold qT mj
 rw[h.len]
 exact(h.dr _).tk _
theorem zSy[Sc K α]{m:Option (List α)}{mi:Option Int}{ti:TE}(h:Ex B sl .hp te m)(hi:Ex B sl .hp ti mi):Eo B sl md (Vd (Aw K) te (tE ti) Vb) (m.bind λxs=>mi.bind λi=>some (mj xs (some i) none)):=λc hc F O H σ Q s k=>by
 obtain⟨xs,i,hx,hi',hc⟩:=uN hc
 cases hc
 refine h xs hx F O H σ _ s λv F' H' g r=>?_
 refine hi i hi' F' O H' σ _ (s.grow g) λu F2 H2 g2 r2=>?_
 have r2:u=.int i:=r2
 obtain⟨p,vs,rfl,z1,z2⟩:=r
 exact⟨i,r2,p,vs,rfl,aV.of (g2.hh _ _ z1),λl hl=>k l _ F2 H2 (g.trans g2) hl (z2.cut _ _).sc⟩
theorem Qa(K:PySem.W.Frag){X:Cx}(h:X.K=K:=by rfl):Vc X (Aw K):=by subst h;exact Ax
end
section
variable{X:Cx}{pos pos':Pos}{x:Str}{e:Expr}{te:TE}
theorem xN(i:Nat)(hN:X.N.Nodup)(he:PE X e te)(hi:X.N[i]?=some x:=by rfl)(hx:Loc X.env.scope x:=by first|exact .inl rfl|exact .inr rfl)(hs:swapsWith e (some (.Name x pos')) pos.line X.env=pure false:=by rfl)(hf:X.fn x=true\/X.env.scope.names.lookup x=some .local:=by first|exact .inl rfl|exact .inr rfl|assumption):PS X (.Assign [.Name x pos'] e pos) (m7 te (pL i)):=Uz hN hi hx he hs hf
theorem cU(i:Nat)(hN:X.N.Nodup)(hi:X.N[i]?=some x:=by rfl)(hx:Loc X.env.scope x:=by first|exact .inl rfl|exact .inr rfl)(hf:X.fn x=true\/X.env.scope.names.lookup x=some .local:=by first|exact .inl rfl|exact .inr rfl|assumption):PG X (.Name x pos) (pL i):=yM hN hi hx hf
end
theorem esc{K:PySem.W.Frag}{B:Bs}{sl:SL K}{md:Md}{α:Type}[Rp K α][Sc K α]{t:TE}{m:Option α}(h:Ex B sl .hp t m):Ex B sl md t m:=h.sc
theorem fsc{N P:List Str}{s:Scope}(h1:s.kind=.function:=by rfl)(h2:s.isCoroutine=false:=by rfl)(h3:s.isGenerator=false:=by rfl)(h4:N.Nodup:=by decide +kernel)(h5:N.take P.length=P:=by rfl)(h6:∀x∈P,s.names.lookup x=some .local\/s.names.lookup x=some .cell:=by decide +kernel)(h7:∀y∈s.names,y.2≠.free:=by decide +kernel):ao N P s:=⟨h1,h2,h3,h4,h5,h6,h7⟩
section
variable{K:PySem.W.Frag}{x y:Str}{st:Stmt}{f:Addr}{fd:FuncData}{p0 p1 p2 p3 p4:Str}
theorem q_(F:aX K x y st f fd)(h:∀kV dc pm an cd ct u0,bindArgs (fnOf x y (wY st) (xL st) (zI st) .none kV dc pm an cd ct) ⟨[u0],[]⟩=pure [(p0,u0)]:=by intros;rfl):Binds K fd [p0] []:=F.binds λa b c d e g us hl=>match us,hl with|[u0],_=>h a b c d e g u0
theorem i_(F:aX K x y st f fd)(h:∀kV dc pm an cd ct u0 u1,bindArgs (fnOf x y (wY st) (xL st) (zI st) .none kV dc pm an cd ct) ⟨[u0,u1],[]⟩=pure [(p0,u0),(p1,u1)]:=by intros;rfl):Binds K fd [p0,p1] []:=F.binds λa b c d e g us hl=>match us,hl with|[u0,u1],_=>h a b c d e g u0 u1
theorem pW(F:aX K x y st f fd)(h:∀kV dc pm an cd ct u0 u1 u2,bindArgs (fnOf x y (wY st) (xL st) (zI st) .none kV dc pm an cd ct) ⟨[u0,u1,u2],[]⟩=pure [(p0,u0),(p1,u1),(p2,u2)]:=by intros;rfl):Binds K fd [p0,p1,p2] []:=F.binds λa b c d e g us hl=>match us,hl with|[u0,u1,u2],_=>h a b c d e g u0 u1 u2
theorem bi4(F:aX K x y st f fd)(h:∀kV dc pm an cd ct u0 u1 u2 u3,bindArgs (fnOf x y (wY st) (xL st) (zI st) .none kV dc pm an cd ct) ⟨[u0,u1,u2,u3],[]⟩=pure [(p0,u0),(p1,u1),(p2,u2),(p3,u3)]:=by intros;rfl):Binds K fd [p0,p1,p2,p3] []:=F.binds λa b c d e g us hl=>match us,hl with|[u0,u1,u2,u3],_=>h a b c d e g u0 u1 u2 u3
end
theorem bK{K:PySem.W.Frag}{a b:SL K}(h:Le a b:=by repeat(first|exact Le.nil|refine Le.eq ?_|refine Le.un ?_|refine Le.fr ?_)):Le a b:=h
theorem jo{K:PySem.W.Frag}{a b:SL K}(h:pR a b:=by repeat(first|exact pR.nil|refine pR.eq ?_|refine pR.un ?_)):pR a b:=h
abbrev Slot.z{α:Type}[Rp K α](a:α):Slot K:=.fz false a
abbrev Slot.y{α:Type}[Rp K α](a:α):Slot K:=.fz true a
end Ts
namespace oK
open PySem PySem.SetTable
set_option maxRecDepth 100000
def TF(m:Nat):Nat->Nat->Nat
 |0,i=>i
 |t+1,i=>TF m t ((i*5+1)%m)
def seen(m:Nat):Nat->Nat->Nat->Nat
 |0,_,acc=>acc
 |t+1,i,acc=>seen m t ((i*5+1)%m) (acc|||1 <<< i)
theorem zJ3(m j:Nat):∀(t i acc:Nat),(seen m t i acc).testBit j=true->acc.testBit j=true\/∃u,u<t/\TF m u i=j
 |0,i,acc,h=>.inl h
 |t+1,i,acc,h=>by
  rcases zJ3 m j t _ _ h with z|⟨u,hu,e⟩
  ·rw[Nat.testBit_or,aa5] at z
   rcases z with z|z
   ·exact .inl z
   ·rw[Nat.testBit_shiftLeft,aah,decide_eq_true_eq] at z
    obtain⟨z1,z2⟩:=z
    have:j-i=0:=by
     cases q:j-i with
     |zero=>rfl
     |succ n =>
      rw[q] at z2
      have:(1:Nat).testBit (n+1)=false:=Nat.testBit_lt_two_pow (aal (by decide) (Nat.pow_le_pow_right (by decide) (abw (aa0 n))))
      rw[this] at z2
      cases z2
    exact .inr ⟨0,aed _,by show i=j;omega⟩
  ·exact .inr ⟨u+1,Nat.succ_lt_succ hu,e⟩
def rA(m:Nat):Bool:=(aat m).all λi=>seen m m i 0==2^m-1
theorem Cd(h:rA m=true)(hi:i<m)(hj:j<m):∃u,u<m/\TF m u i=j:=by
 have q:=all_eq_true.mp h i (mem_range.mpr hi)
 have e:seen m m i 0=2^m-1:=by simpa using q
 have t:(seen m m i 0).testBit j=true:=by rw[e,Nat.testBit_two_pow_sub_one];simpa using hj
 rcases zJ3 m j m i 0 t with z|z
 ·rw[Nat.zero_testBit] at z;cases z
 ·exact z
theorem Qc:rA 8=true:=by decide +kernel
theorem Qd:rA 16=true:=by decide +kernel
theorem Qe:rA 32=true:=by decide +kernel
theorem Qf:rA 64=true:=by decide +kernel
theorem JD:rA 128=true:=by decide +kernel
theorem JF:rA 256=true:=by decide +kernel
theorem Qg{owner:Array (Option Nat)}{mask i:Nat}(h:owner.getD i (some 0)=none):(aat (runEnd mask i+1-i)).find? (λk=>(owner.getD (i+k) (some 0)).isNone)≠none:=λe=>by
 have q:=List.find?_eq_none.mp e 0 (mem_range.mpr (by unfold runEnd;split<;>omega))
 apply q
 show(owner.getD (i+0) (some 0)).isNone=true
 rw[Nat.add_zero,h];rfl
theorem zHx{owner:Array (Option Nat)}{mask:Nat}:∀(fuel i p j:Nat),layClean.free mask owner fuel i p=some j->owner.getD j (some 0)=none
 |0,_,_,_,h=>by cases h
 |fuel+1,i,p,j,h=>by
  unfold layClean.free at h
  split at h
  ·rename_i k hk
   cases h
   have:=List.find?_some hk
   simpa using this
  ·exact zHx fuel _ _ j h
theorem zHy{owner:Array (Option Nat)}{mask j:Nat}(hj:owner.getD j (some 0)=none):∀(fuel u i:Nat),u<fuel->TF (mask+1) u i=j->layClean.free mask owner fuel i 0≠none
 |0,u,i,h,_=>absurd h (ab4 _)
 |fuel+1,0,i,_,e=>by
  have e':i=j:=e
  subst e'
  unfold layClean.free
  cases q:(aat (runEnd mask i+1-i)).find? λk=>(owner.getD (i+k) (some 0)).isNone with
  |none=>exact absurd q (Qg hj)
  |some k=>exactλz=>by cases z
 |fuel+1,u+1,i,h,e=>by
  unfold layClean.free
  cases q:(aat (runEnd mask i+1-i)).find? λk=>(owner.getD (i+k) (some 0)).isNone with
  |none=>exact zHy hj fuel u _ (Nat.lt_of_succ_lt_succ h) e
  |some k=>exactλz=>by cases z
theorem zKt{owner:Array (Option Nat)}{mask:Nat}(fuel:Nat)(h0:∀i,i<=mask->layClean.free mask owner fuel i 0≠none):∀(d i p:Nat),i<=mask->p<32^d->layClean.free mask owner (fuel+d) i p≠none
 |0,i,p,hi,hp=>by
  have e:p=0:=by rw[Nat.pow_zero] at hp;omega
  subst e
  exact h0 i hi
 |d+1,i,p,hi,hp=>by
  show layClean.free mask owner (fuel+d+1) i p≠none
  unfold layClean.free
  cases q:(aat (runEnd mask i+1-i)).find? λk=>(owner.getD (i+k) (some 0)).isNone with
  |none=>exact zKt fuel h0 d _ _ (acu (aeu _ (aed _))) (by rw[Nat.pow_succ] at hp;show p/32<_;omega)
  |some k=>exactλz=>by cases z
theorem Ce{owner:Array (Option Nat)}{mask j:Nat}(hc:rA (mask+1)=true)(hs:j<=mask)(hj:owner.getD j (some 0)=none)(h:Int):∃k,layClean.free mask owner (turns mask) (bits h%(mask+1)) (bits h)=some k/\owner.getD k (some 0)=none:=by
 have q:layClean.free mask owner (mask+2+13) (bits h%(mask+1)) (bits h)≠none:=zKt (mask+2) (λi hi=>by
  obtain⟨u,hu,e⟩:=Cd hc (Nat.lt_succ_of_le hi) (Nat.lt_succ_of_le hs)
  exact zHy hj _ u i (by omega) e) 13 _ _ (acu (aeu _ (aed _))) (by unfold bits;have:=ab3 h (b:=2^64) (by decide);have:=acp h (b:=2^64) (by decide);omega)
 unfold turns
 cases e:layClean.free mask owner (mask+15) (bits h%(mask+1)) (bits h) with
 |none=>exact absurd e q
 |some k=>exact⟨k,rfl,zHx _ _ _ _ e⟩
theorem Wv{α:Type}(v:α):∀(l:List (Option α))(j:Nat),l[j]?=some none->((l.set j (some v)).filterMap id).Perm (v::l.filterMap id)
 |[],j,h=>by simp at h
 |x::l,0,h=>by
  have e:x=none:=by simpa using h
  subst e
  exact .refl _
 |none::l,j+1,h=>by
  show((l.set j (some v)).filterMap id).Perm (v::l.filterMap id)
  exact Wv v l j (by simpa using h)
 |some x::l,j+1,h=>by
  show(x::(l.set j (some v)).filterMap id).Perm (v::x::l.filterMap id)
  exact((Wv v l j (by simpa using h)).cons x).trans (.swap _ _ _)
theorem zG5:∀(l:List (Option Nat)),(l.filterMap id).length<l.length->∃j,j<l.length/\l[j]?=some none
 |[],h=>by simp at h
 |none::l,_=>⟨0,by simp,rfl⟩
 |some x::l,h=>by
  obtain⟨j,hj,e⟩:=zG5 l (by simpa using h)
  exact⟨j+1,by simpa using hj,e⟩
theorem getD_none{owner:Array (Option Nat)}:owner.getD j (some 0)=none↔owner.toList[j]?=some none:=by
 rw[Array.getD_eq_getD_getElem?,getElem?_toList]
 cases owner[j]? with
 |none=>simp
 |some x=>simp
theorem zT3{mask:Nat}(hc:rA (mask+1)=true):∀(hs:LI)(owner:Array (Option Nat))(k:Nat),owner.size=mask+1->(owner.toList.filterMap id).Perm (aat k)->k+hs.length<=mask ->
  ∃pX,hs.foldl (λacc h=>do
   let(owner,k) <-acc
   let j <-layClean.free mask owner (turns mask) (bits h%(mask+1)) (bits h)
   pure (owner.setIfInBounds j (some k),k+1)) (some (owner,k))=some (pX,k+hs.length)/\pX.size=mask+1/\(pX.toList.filterMap id).Perm (aat (k+hs.length))
 |[],owner,k,h1,h2,h3=>⟨owner,rfl,h1,h2⟩
 |h::hs,owner,k,h1,h2,h3=>by
  obtain⟨j,hj,ej⟩:=zG5 owner.toList (by rw[h2.length_eq,length_range,length_toList,h1];rw[length_cons] at h3;omega)
  obtain⟨i,ei,fi⟩:=Ce hc (owner:=owner) (j:=j) (by rw[length_toList,h1] at hj;omega) (getD_none.mpr ej) h
  have q:=zT3 hc hs (owner.setIfInBounds i (some k)) (k+1) (by rw[Array.size_setIfInBounds];exact h1) ?_ (by rw[length_cons] at h3;omega)
  ·obtain⟨o',e,z1,z2⟩:=q
   have ek:k+(h::hs).length=k+1+hs.length:=by rw[length_cons];omega
   refine⟨o',?_,z1,by rw[ek];exact z2⟩
   rw[ek,List.foldl_cons,<-e]
   refine congrArg (λz=>List.foldl _ z hs) ?_
   show(layClean.free mask owner (turns mask) (bits h%(mask+1)) (bits h)).bind _=_
   rw[ei]
   rfl
  ·rw[Array.toList_setIfInBounds,List.range_succ]
   exact((Wv k owner.toList i (getD_none.mp fi)).trans (h2.cons k)).trans (List.perm_append_singleton k _).symm
theorem zHg:∀(l:List (Option Nat)),(aat l.length).filterMap (λj=>(l[j]?).getD none)=l.filterMap id
 |[]=>rfl
 |x::l=>by
  rw[length_cons,range_succ_eq_map,filterMap_cons,List.filterMap_map]
  have e:((λj=>((x::l)[j]?).getD none)∘Nat.succ)=λj=>(l[j]?).getD none:=rfl
  rw[e,zHg l]
  cases x<;>rfl
theorem zO2{mask:Nat}(hc:rA (mask+1)=true)(finger moves:Nat)(led plain:Bool)(hs:Array Int)(hn:hs.size<=mask) :
  ∃t order,laid mask finger moves led plain hs=some (t,order)/\order.toList.Perm (aat hs.size)/\t.place.size=hs.size/\t.dummies=#[]/\t.mask=mask/\t.led=led/\t.plain=plain/\Rz t.place:=by
 obtain⟨o',e,z1,z2⟩:=zT3 hc hs.toList (Array.replicate (mask+1) none) 0 (by rw[Array.size_replicate]) (by rw[Array.toList_replicate,List.filterMap_replicate_of_none rfl];exact .refl _) (by rw[ab9,length_toList];exact hn)
 rw[ab9,length_toList] at z2
 have el:layClean mask hs=some o':=by
  unfold layClean
  rw[<-Array.foldl_toList,e]
  rfl
 have eo:((aat (mask+1)).filterMap λj=>(o'.getD j none).map λk=>(j,k)).map (·.2)=o'.toList.filterMap id:=by
  rw[<-zHg o'.toList,length_toList,z1,List.map_filterMap]
  refine congrArg (λf=>filterMap f _) (funext λj=>?_)
  rw[Array.getD_eq_getD_getElem?,getElem?_toList]
  cases(o'[j]?).getD none<;>rfl
 refine⟨_,_,by unfold laid;rw[el];rfl,?_,?_,rfl,rfl,rfl,rfl,zHf (λj=>o'.getD j none) _⟩
 ·show((aat (mask+1)).filterMap λj=>(o'.getD j none).map λk=>(j,k)).map (·.2) |>.Perm _
  rw[eo]
  exact z2
 ·show(((aat (mask+1)).filterMap λj=>(o'.getD j none).map λk=>(j,k)).map (·.1)).length=_
  rw[length_map,<-length_map (f:=(·.2)),eo,z2.length_eq,length_range]
theorem zS9(h:n<=255):∃m,sizeAbove n=m+1/\n<=m/\rA (m+1)=true/\m<=255:=by
 by_cases h1:n<8
 ·exact⟨7,by unfold sizeAbove;unfold sizeAbove.go;rw[if_neg (by omega)],by omega,Qc,by omega⟩
 by_cases h2:n<16
 ·exact⟨15,by unfold sizeAbove;unfold sizeAbove.go;rw[if_pos (by omega)];unfold sizeAbove.go;rw[if_neg (by omega)],by omega,Qd,by omega⟩
 by_cases h3:n<32
 ·exact⟨31,by unfold sizeAbove;unfold sizeAbove.go;rw[if_pos (by omega)];unfold sizeAbove.go;rw[if_pos (by omega)];unfold sizeAbove.go;rw[if_neg (by omega)],by omega,Qe,by omega⟩
 by_cases h4:n<64
 ·exact⟨63,by unfold sizeAbove;unfold sizeAbove.go;rw[if_pos (by omega)];unfold sizeAbove.go;rw[if_pos (by omega)];unfold sizeAbove.go;rw[if_pos (by omega)];unfold sizeAbove.go;rw[if_neg (by omega)],by omega,Qf,by omega⟩
 by_cases h5:n<128
 ·exact⟨127,by unfold sizeAbove;unfold sizeAbove.go;rw[if_pos (by omega)];unfold sizeAbove.go;rw[if_pos (by omega)];unfold sizeAbove.go;rw[if_pos (by omega)];unfold sizeAbove.go;rw[if_pos (by omega)];unfold sizeAbove.go;rw[if_neg (by omega)],by omega,JD,by omega⟩
 ·exact⟨255,by unfold sizeAbove;unfold sizeAbove.go;rw[if_pos (by omega)];unfold sizeAbove.go;rw[if_pos (by omega)];unfold sizeAbove.go;rw[if_pos (by omega)];unfold sizeAbove.go;rw[if_pos (by omega)];unfold sizeAbove.go;rw[if_pos (by omega)];unfold sizeAbove.go;rw[if_neg (by omega)],by omega,JF,by omega⟩
open PySem PySem.Spec PyProof.Rows
set_option maxRecDepth 100000
section
variable{prog:Program}{w:World}{κ:Type}[DecidableEq κ]{knd:KeyKind prog w κ}{dec:Value->κ}{led:Bool}{A:Around}{E:Value->Shared->Prop}{s:Shared}
theorem zE6{α:Type}(es:Array α)(order:Array Nat)(h:order.toList.Perm (aat es.size)):(order.filterMap (es[·]?)).toList.Perm es.toList:=by
 rw[Array.toList_filterMap]
 refine(h.filterMap _).trans ?_
 have e:(aat es.size).filterMap (es[·]?)=es.toList:=by
  have:∀l:List α,(aat l.length).filterMap (λj=>l[j]?)=l:=λl=>by
   induction l with
   |nil=>rfl
   |cons x l ih =>
    rw[length_cons,range_succ_eq_map,filterMap_cons,List.filterMap_map]
    show x::filterMap (λj=>l[j]?) _=_
    rw[ih]
  have q:=this es.toList
  rw[length_toList] at q
  rw[<-q]
  refine congrArg (λf=>filterMap f _) (funext λj=>?_)
  rw[getElem?_toList]
 rw[e]
theorem zKa{Q:Unit->Shared->Prop}(ho:s.heap.get? a=some o)(hd:o.data=.set es ep t)(hf:t.fits es.size=true)(hw:wanted<=255)(hn:es.size<=wanted)(h:∀(es':Array (Int×Value)) (t':SetTable),es'.toList.Perm es.toList->t'.place.size=es.size->t'.dummies=#[]->wanted<=t'.mask->rA (t'.mask+1)=true->t'.led=t.led->Rz t'.place->Q () { s with heap:=s.heap.update a (aev es' t') }):wpAny (model prog w) A (setRelay a wanted) Q E s:=by
 obtain⟨m,e1,e2,e3,e4⟩:=zS9 hw
 unfold setRelay
 refine aad (aaq ho hd hf ?_)
 dsimp only
 rw[if_neg (by rw[e1];show¬m+1 > 2^24;omega)]
 obtain⟨t',order,q1,q2,q3,q4,q5,q6,q7,q8⟩:=zO2 (mask:=m) e3 t.finger (t.movedTo m) t.led t.plain (es.map (·.1)) (by rw[size_map];omega)
 rw[size_map] at q2 q3
 have er:t.relaid (es.map (·.1)) wanted=some (t',order):=by
  unfold SetTable.relaid
  rw[e1]
  exact q1
 rw[er]
 have p:=zE6 es order q2
 have sz:(order.filterMap (es[·]?)).size=es.size:=by rw[<-length_toList,p.length_eq,length_toList]
 refine aad (m:=(if((order.filterMap (es[·]?)).size != es.size)=true then unsupported "internal:set-table-lost-an-element" else pure (order.filterMap (es[·]?),t'))) ?_
 rw[if_neg (by rw[sz];simp)]
 refine aae ?_
 exact abz ho hd (h _ t' p q3 q4 (by rw[q5];exact e2) (by rw[q5];exact e3) q6 q8) (by rw[sz];show es.size<=2^24;omega)
theorem Ww{t':SetTable}(h1:t'.place.size=n)(h2:t'.dummies=#[])(h3:wanted<=t'.mask)(h4:n<=wanted):t'.fits n=true:=by
 unfold fits adu
 rw[h1,h2]
 simp
 omega
theorem zJ9{Q:Unit->Shared->Prop}(g:Good knd dec led s.heap a ks)(hw:wanted<=255)(hn:ks.length<=wanted)(h:∀h',SameBut a s.heap h'->Good knd dec led h' a ks->Q () { s with heap:=h' }):wpAny (model prog w) A (setRelay a wanted) Q E s:=by
 obtain⟨o,es,ep,t,ho,hx,hd,hel,hp,nd,hb,hf,tb⟩:=g
 have ln:es.size=ks.length:=by rw[<-hp.length_eq,length_map,length_toList]
 refine zKa ho hd hf hw (by rw[ln];exact hn) λes' t' p q3 q4 q5 q6 q7 q8=>h _ (SameBut.update _ a _) ?_
 have sz:es'.size=es.size:=by rw[<-length_toList,p.length_eq,length_toList]
 exact⟨_,es',_,t',Gm (es':=es') (t':=t') ho hd,hx,rfl,hel.perm p,(p.map _).trans hp,nd,by rw[sz];exact hb,by rw[sz];exact Ww q3 q4 q5 (by rw[ln];exact hn),⟨q7.trans tb.led,λ_=>q8⟩⟩
theorem Cg{Q:Unit->Shared->Prop}(g:Good knd dec led s.heap a ks)(hw:(ks.length+more)*2<=255)(h:∀h',SameBut a s.heap h'->Good knd dec led h' a ks->Q () { s with heap:=h' }):wpAny (model prog w) A (setRoomFor a more) Q E s:=by
 obtain⟨o,es,ep,t,ho,hx,hd,hel,hp,nd,hb,hf,tb⟩:=id g
 have ln:es.size=ks.length:=by rw[<-hp.length_eq,length_map,length_toList]
 unfold setRoomFor
 refine aad (aaq ho hd hf ?_)
 dsimp only
 unfold SetTable.roomFor
 have pl:t.place.size=es.size:=PK hf
 split
 ·rename_i z
  split at z
  ·cases z
   exact zJ9 g (by rw[pl,ln];exact hw) (by rw[pl,ln];omega) h
  ·cases z
 ·exact aae (h _ (SameBut.refl a s.heap) g)
theorem zD3{Q:Unit->Shared->Prop}(hr:s.heap.get? r=some { cls:=.type "set",dict:=none,data:=.set #[] 0 (.fresh 0 0 (zP w)) })(hne:r≠o)(g:Good knd dec (zP w) s.heap o ks)(hl:ks.length<=127)(h:∀h',SameBut r s.heap h'->Good knd dec (zP w) h' r ks->Q () { s with heap:=h' }):wpAny (model prog w) A (setMerge r o each) Q E s:=by
 obtain⟨ob,es,ep,t,ho,hx,hd,hel,hp,nd,hb,hf,tb⟩:=id g
 have ln:es.size=ks.length:=by rw[<-hp.length_eq,length_map,length_toList]
 unfold setMerge
 rw[if_neg (by simpa using hne)]
 refine aad (aaq ho hd hf ?_)
 dsimp only
 by_cases hemp:es.isEmpty=true
 ·rw[if_pos hemp]
  have e0:es.size=0:=by simpa[isEmpty] using hemp
  have k0:ks=[]:=length_eq_zero_iff.mp (by rw[<-ln];exact e0)
  subst k0
  exact aae (h _ (SameBut.refl r s.heap) (PJ hr))
 rw[if_neg hemp]
 refine aad (abj (Q:=λ_ s'=>∃(h1:Heap)(o1:Obj)(ep1:Nat)(t1:SetTable),s'={ s with heap:=h1 }/\SameBut r s.heap h1/\h1.get? r=some o1/\o1.ExactSet/\o1.data=.set #[] ep1 t1/\t1.place.size=0/\t1.dummies=#[]/\t1.led=zP w/\rA (t1.mask+1)=true/\es.size<=t1.mask) ?first ?post (λ_ _ h=>h))
 case post =>
  rintro _ _ ⟨h1,o1,ep1,t1,rfl,sb,g1,x1,d1,pl,du,le,cy,rm⟩
  refine aad (aaq (s:={ s with heap:=h1 }) g1 d1 (by show t1.fits 0=true;exact Ww pl du (aa0 _) (aag 0)) ?_)
  dsimp only
  have hfill:t1.fill=0:=by unfold adu;rw[pl,du];rfl
  unfold SetTable.road
  rw[hfill]
  rw[if_neg (by simp)]
  by_cases hsl:(t1.mask==t.mask&&t.dummies.isEmpty)=true
  ·rw[if_pos hsl]
   refine abz (s:={ s with heap:=h1 }) g1 d1 (h _ (sb.trans (SameBut.update _ r _)) ⟨_,es,_,_,Gm (es':=es) (t':=_) g1 d1,x1,rfl,hel,hp,nd,hb,hf,⟨?_,λz=>tb.rz (Bool.and_eq_true_iff.mp z).2⟩⟩) (aby hb)
   show(t1.led&&t.led)=_
   rw[le,tb.led,aep]
  ·rw[if_neg hsl]
   obtain⟨t',order,q1,q2,q3,q4,q5,q6,q7,q8⟩:=zO2 (mask:=t1.mask) cy t1.finger t1.moves (t1.led&&t.led) (t1.plain&&t.plain) (es.map (·.1)) (by rw[size_map];exact rm)
   rw[size_map] at q2 q3
   dsimp only
   rw[q1]
   have p:=zE6 es order q2
   have sz:(order.filterMap (es[·]?)).size=es.size:=by rw[<-length_toList,p.length_eq,length_toList]
   refine aad (m:=(if((order.filterMap (es[·]?)).size != es.size)=true then unsupported "internal:set-table-lost-an-element" else pure (order.filterMap (es[·]?),t'))) ?_
   rw[if_neg (by rw[sz];simp)]
   refine aae ?_
   refine abz (s:={ s with heap:=h1 }) g1 d1 (h _ (sb.trans (SameBut.update _ r _)) ⟨_,_,_,t',Gm (es':=order.filterMap (es[·]?)) (t':=t') g1 d1,x1,rfl,hel.perm p,(p.map _).trans hp,nd,by rw[sz];exact hb,by rw[sz];exact Ww q3 q4 (by rw[q5];exact rm) (aag _),⟨?_,λ_=>q8⟩⟩) (aby (by rw[sz];exact hb))
   rw[q6,le,tb.led,aep]
 case first =>
  unfold setRoomFor
  refine aad (aaq hr rfl rfl ?_)
  dsimp only
  have e1:(SetTable.fresh 0 0 (zP w)).roomFor es.size=if(es.size*5 ≥ 21) then some (es.size*2) else none:=by
   unfold SetTable.roomFor adu SetTable.fresh
   simp
  rw[e1]
  by_cases c:es.size*5 ≥ 21
  ·rw[if_pos c]
   refine zKa hr rfl rfl (by omega) (aa0 _) λes' t' p q3 q4 q5 q6 q7 q8=>?_
   have ee:es'=#[]:=by
    have:=p.length_eq
    rw[length_toList] at this
    exact Array.eq_empty_of_size_eq_zero this
   subst ee
   exact⟨_,_,_,t',rfl,SameBut.update _ r _,Gm (es':=#[]) (t':=t') hr rfl,⟨rfl,rfl,rfl⟩,rfl,q3,q4,q7,q6,by omega⟩
  ·rw[if_neg c]
   exact aae ⟨s.heap,_,0,_,rfl,SameBut.refl r s.heap,hr,⟨rfl,rfl,rfl⟩,rfl,rfl,rfl,rfl,Qc,by show es.size<=7;omega⟩
end
set_option maxRecDepth 100000
section
variable{prog:Program}{w:World}{κ:Type}[DecidableEq κ]{knd:KeyKind prog w κ}{dec:Value->κ}{led:Bool}{A:Around}{E:Value->Shared->Prop}{s:Shared}
theorem zQf{Q:Value->Shared->Prop}(g:Good knd dec (zP w) s.heap a ks)(hl:ks.length<=127)(h:∀(h':Heap),Good knd dec (zP w) h' s.heap.objs.size ks->(∀c o,c<s.heap.objs.size->s.heap.get? c=some o->h'.get? c=some o)->(ks=[]->h'=s.heap.push { cls:=.type "set",dict:=none,data:=.set #[] 0 (.fresh 0 0 (zP w)) })->Q (.ref s.heap.objs.size) { s with heap:=h' }) :
  wpAny (model prog w) A (ac4 a) Q E s:=by
 have la:a<s.heap.objs.size:=by obtain⟨o,_,_,_,h1,_⟩:=g;exact lt_size h1
 have up:∀c o,s.heap.get? c=some o->(s.heap.push { cls:=.type "set",dict:=none,data:=.set #[] 0 (.fresh 0 0 (zP w)) }).get? c=some o:=λc o e=>get?_push_of_some _ e
 have g1:=g.keep (up a)
 unfold ac4
 refine aad (Wq g.type (aad (Wr ?_)))
 refine aad (aae ?_)
 cases ks with
 |nil =>
  obtain⟨o,es,ep,t,ho,hx,hd,hel,hp,nd,hb,hf,tb⟩:=g1
  have e0:es.size=0:=by rw[<-length_toList];have:=hp.length_eq;rw[length_map] at this;exact this
  unfold setMerge
  rw[if_neg (by simpa using(ac0 la))]
  refine aad (aad (aaq (s:={ s with heap:=_ }) ho hd hf ?_))
  dsimp only
  rw[if_pos (by simpa[isEmpty] using e0)]
  refine aae (aae (h _ (PJ (get?_push_size _ rfl)) (λc o _ e=>up c o e) λ_=>rfl))
 |cons k0 ks0 =>
  refine aad (zD3 (s:={ s with heap:=_ }) (get?_push_size _ rfl) (ac0 la) g1 hl λh' sb g'=>?_)
  exact aae (h h' g' (λc o hc e=>by rw[sb.2 c (aam hc)];exact up c o e) λz=>by cases z)
theorem Qh{α:Type}(xs:Array α)(p:Nat):(eraseAt xs p).toList=xs.toList.eraseIdx p:=by
 unfold eraseAt
 rw[toList_append,List.eraseIdx_eq_take_drop_succ,Array.toList_extract,Array.toList_extract]
 simp[List.extract_eq_take_drop]
 exact List.take_of_length_le (by rw[length_drop,length_toList];omega)
theorem zSo{α:Type}(xs:Array α)(p:Nat)(x:α):(insertAt xs p x).size=xs.size+1:=by
 unfold insertAt
 simp
 omega
theorem Qi(hr:Rz xs)(p:Nat):Rz (eraseAt xs p):=by
 intro i k a b hik ha hb
 rw[<-getElem?_toList,Qh,List.getElem?_eraseIdx] at ha hb
 have q:∀j,xs.toList[j]?=xs[j]?:=λj=>getElem?_toList
 split at ha<;>split at hb
 ·exact hr i k a b hik (by rw[<-q];exact ha) (by rw[<-q];exact hb)
 ·exact hr i (k+1) a b (by omega) (by rw[<-q];exact ha) (by rw[<-q];exact hb)
 ·omega
 ·exact hr (i+1) (k+1) a b (by omega) (by rw[<-q];exact ha) (by rw[<-q];exact hb)
theorem zMq(hdec:∀k v,knd.is k v=true->dec v=k){Q:Bool->Shared->Prop}(hk:knd.is k x=true)(hs:x.scannable=true)(g:Good knd dec led s.heap a ks)(h:∀(h':Heap) (b:Bool),SameBut a s.heap h'->Good knd dec led h' a (ks.erase k)->Q b { s with heap:=h' }) :
  wpAny (model prog w) A (setDiscardHashed a x (knd.hash k)) Q E s:=by
 obtain⟨o,es,ep,t,ho,hx,hd,hel,hp,nd,hb,hf,tb⟩:=id g
 unfold setDiscardHashed
 refine aad ?_
 unfold setFind setFindIn
 refine aad (aaq ho hd hf ?_)
 dsimp only
 rw[byScan_of hs hb hel]
 simp only[↓reduceIte]
 refine aad (adq (aad (wpAny_setScan_of hk ho hd hf hel ?_)))
 have fi:=zHz hdec hel k
 cases hr:List.findIdx? (λe=>knd.is k e.2) es.toList with
 |none =>
  have hm:k∉ks:=λz=>fi.mp hr (hp.mem_iff.mpr z)
  dsimp only
  refine aae (aae ?_)
  have q:=h s.heap false (SameBut.refl a s.heap)
  rw[List.erase_of_not_mem hm] at q
  exact q g
 |some j =>
  obtain⟨hj,hpj,_⟩:=List.findIdx?_eq_some_iff_getElem.mp hr
  dsimp only
  rw[ab9]
  refine aae (aad (aaq ho hd hf ?_))
  dsimp only
  have pl:t.place.size=es.size:=PK hf
  have hj':j<t.place.size:=by rw[pl,<-length_toList];exact hj
  have sz:(eraseAt es j).size=es.size-1:=by rw[<-length_toList,Qh,length_eraseIdx,if_pos hj,length_toList]
  have ed:t.drop j={ t with place:=eraseAt t.place j,dummies:=insertAt t.dummies (below t.dummies t.place[j]) t.place[j] }:=by
   unfold SetTable.drop
   rw[aak hj']
  have jz:j<es.size:=by rw[<-length_toList];exact hj
  have ft:(t.drop j).fits (eraseAt es j).size=true:=by
   rw[ed]
   unfold fits adu at hf ⊢
   have e1:(eraseAt t.place j).size=es.size-1:=by rw[<-length_toList,Qh,length_eraseIdx,length_toList,if_pos hj',pl]
   dsimp only
   rw[e1,zSo,sz]
   rw[aah,decide_eq_true_eq] at hf
   rw[aah,decide_eq_true_eq]
   refine⟨by simp,?_⟩
   have:=hf.2
   omega
  have tb':Tb led (t.drop j):=by
   rw[ed]
   exact⟨tb.led,λz=>Qi (tb.rz z) j⟩
  have hp':((eraseAt es j).toList.map λe=>dec e.2).Perm (ks.erase k):=by
   rw[Qh]
   have p1:=((Ti hj).map λe=>dec e.2).trans hp
   rw[map_cons,hdec k _ hpj] at p1
   have p2:=p1.erase k
   rw[List.erase_cons_head] at p2
   exact p2
  refine aad (abz ho hd (aad (wpAny_point (aae (h _ true (SameBut.update _ a _) ⟨_,_,_,_,Gm (es':=eraseAt es j) (t':=t.drop j) ho hd,hx,rfl,λe he=>?_,hp',nd.erase k,by rw[sz];omega,ft,tb'⟩)))) (aby (by rw[sz];omega)))
  rw[Qh] at he
  exact hel e (List.mem_of_mem_eraseIdx he)
theorem Ci{Q:Unit->Shared->Prop}(g:Good knd dec led s.heap a ks)(hw:ks.length<=63)(h:∀h',SameBut a s.heap h'->Good knd dec led h' a ks->Q () { s with heap:=h' }):wpAny (model prog w) A (setTidy a) Q E s:=by
 obtain⟨o,es,ep,t,ho,hx,hd,hel,hp,nd,hb,hf,tb⟩:=id g
 have ln:es.size=ks.length:=by rw[<-hp.length_eq,length_map,length_toList]
 unfold setTidy
 refine aad (aaq ho hd hf ?_)
 dsimp only
 split
 ·have e:grown es.size=ks.length*4:=by unfold grown;rw[if_neg (by omega),ln]
  rw[e]
  exact zJ9 g (by omega) (by omega) h
 ·exact aae (h _ (SameBut.refl a s.heap) g)
theorem zLm(g:Good knd dec (zP w) s.heap a ks)(hs:∀b∈others,∃ks:List κ,Good knd dec (zP w) s.heap b ks)(hn:∀k v,knd.is k v=true->∀b,v≠.ref b){Q:Array (Int×Value)->Shared->Prop}(h:∀(es:Array (Int×Value)),ElemsOf knd es.toList->(es.toList.map λe=>dec e.2).Perm ks->Q es s):wpAny (model prog w) A (setWalkUnseen a others none) Q E s:=by
 obtain⟨o,es,ep,t,h1,h2,h3,hf,hl,tb,hel,hp⟩:=g.size
 unfold setWalkUnseen
 refine aad (aaq h1 h3 hf ?_)
 dsimp only
 refine aad (vT ?_)
 split
 ·rename_i c
  refine zMz g (λhb o' es' ep' t' h1' h3'=>?_) λes' j8 hp'=>h es' j8 hp'
  rw[h1] at h1'
  cases h1'
  rw[h3] at h3'
  cases h3'
  rw[hb] at c
  simp only[adt,aa5,aah,decide_eq_true_eq] at c
  rcases c with⟨_,c⟩|c
  ·rw[c];rfl
  ·rw[decide_eq_false (by omega),aei]
 ·refine aad (zKb (knd:=knd) (dec:=dec) (led:=zP w) (a::others) (λb hb=>(mem_cons.mp hb).elim (λe=>e▸⟨ks,g⟩) (hs b)) hn ?_)
  simp only[abx,aao,↓reduceIte]
  exact aad (adq (aae (h es hel hp)))
theorem Cj(hdec:∀k v,knd.is k v=true->dec v=k)(id:String)(hn:∀k v,knd.is k v=true->∀b,v≠.ref b)(hab:b≠r)(ga:Good knd dec (zP w) s.heap r ka)(gb:Good knd dec (zP w) s.heap b kb)(hl:ka.length<=63)(hs:¬kb.length/8 > ka.length){Q:Unit->Shared->Prop}(h:∀(h':Heap) (kr:List κ),SameBut r s.heap h'->Good knd dec (zP w) h' r kr->(∀k,k∈kr↔k∈ka/\k∉kb)->Q () { s with heap:=h' }) :
  wpAny (model prog w) A (Builtin.Frozenset.differenceUpdate id r (.ref b)) Q E s:=by
 obtain⟨o,es,ep,t,h1,h2,h3,hf,hlb,tb,hel,hp⟩:=gb.size
 have nda:ka.Nodup:=by obtain⟨_,_,_,_,_,_,_,_,_,nd,_⟩:=ga;exact nd
 unfold Builtin.Frozenset.differenceUpdate
 rw[if_neg (λe=>hab (aea (abt e)))]
 refine aad (uF gb.type ?_)
 simp only[↓reduceIte]
 refine aad (aae ?_)
 refine aad (LR gb (aad (LR ga ?_)))
 rw[if_neg hs]
 refine aad (abg h1 h3 hf ?_)
 refine aad (aa3 (aad (zLm gb (λc hc=>(mem_singleton.mp hc)▸⟨ka,ga⟩) hn λes' j8 hp'=>?_)))
 rw[<-forIn_toList]
 refine aad (abj (aci (β:=Unit) _ (λl _ s'=>∃h2 kr,s'={ s with heap:=h2 }/\SameBut r s.heap h2/\Good knd dec (zP w) h2 r kr/\ElemsOf knd l/\kr.length<=63/\∀k,(k∈kr/\k∉l.map λe=>dec e.2)↔(k∈ka/\k∉kb)) (λ_ s'=>∃h2 kr,s'={ s with heap:=h2 }/\SameBut r s.heap h2/\Good knd dec (zP w) h2 r kr/\kr.length<=63/\∀k,k∈kr↔k∈ka/\k∉kb) ?turn ?fin es'.toList () ⟨s.heap,ka,rfl,SameBut.refl r s.heap,ga,j8,hl,λk=>?_⟩) ?post (λ_ _ h=>h))
 case turn =>
  rintro⟨hs',v⟩ l b' s' ⟨h2',kr,rfl,iQ,g2,hl2,hlen,hm⟩
  obtain⟨⟨k,hk,hh⟩,hsc⟩:=hl2 _ mem_cons_self
  dsimp only at hk hh hsc ⊢
  subst hh
  have dv:dec v=k:=hdec k v hk
  have ndr:kr.Nodup:=by obtain⟨_,_,_,_,_,_,_,_,_,nd,_⟩:=g2;exact nd
  refine aad (aa3 (zMq (led:=zP w) (s:={ s with heap:=h2' }) hdec hk hsc g2 λh3' b'' oO g3=>?_))
  refine aad ?_
  unfold aaz
  refine aad (abg (s:={ s with heap:=h3' }) (by show h3'.get? b=_;rw[oO.2 b hab];show h2'.get? b=_;rw[iQ.2 b hab];exact h1) h3 hf ?_)
  simp only[bne_self_eq_false,aao,↓reduceIte]
  refine aae (aae ⟨h3',kr.erase k,rfl,iQ.trans oO,g3,λe he=>hl2 e (mem_cons_of_mem _ he),?_,λc=>?_⟩)
  ·have:=List.length_erase_le (a:=k) (l:=kr)
   omega
  ·rw[<-hm c,map_cons,mem_cons]
   show _↔(c∈kr/\¬(c=dec v\/_))
   rw[dv,ndr.mem_erase_iff]
   constructor
   ·rintro⟨⟨z1,z2⟩,z3⟩
    exact⟨z2,λq=>q.elim z1 z3⟩
   ·rintro⟨z1,z2⟩
    exact⟨⟨λq=>z2 (.inl q),z1⟩,λq=>z2 (.inr q)⟩
 case fin =>
  rintro b' s' ⟨h2',kr,rfl,iQ,g2,_,hlen,hm⟩
  refine⟨h2',kr,rfl,iQ,g2,hlen,λk=>?_⟩
  rw[<-hm k]
  simp
 case post =>
  rintro b' s' ⟨h2',kr,rfl,iQ,g2,hlen,hm⟩
  refine aae ?_
  exact Ci (s:={ s with heap:=h2' }) g2 hlen λh3' oO g3=>h h3' kr (iQ.trans oO) g3 hm
 ·rw[hp'.mem_iff]
end
set_option maxRecDepth 100000
theorem zFx:entryFor table "set.__sub__" = some Builtin.«frozenset.__sub__»:=adl (id':="frozenset.__sub__") (by kernel_rfl) rfl (by decide +kernel) (by kernel_rfl)
theorem zHc:entryFor table "set.__or__" = some Builtin.«frozenset.__or__»:=adl (id':="frozenset.__or__") (by kernel_rfl) rfl (by decide +kernel) (by kernel_rfl)
section
variable{prog:Program}{w:World}{κ:Type}[DecidableEq κ]{knd:KeyKind prog w κ}{dec:Value->κ}{led:Bool}{A:Around}{E:Value->Shared->Prop}{s:Shared}
theorem zP9(hdec:∀k v,knd.is k v=true->dec v=k)(id:String)(hn:∀k v,knd.is k v=true->∀b,v≠.ref b)(Wn:x≠r)(Tv:y≠r)(gx:Good knd dec (zP w) s.heap x kx)(gy:Good knd dec (zP w) s.heap y ky)(gr:Good knd dec (zP w) s.heap r [])(Gx:∀o es e t,s.heap.get? y=some o->o.data=.set es e t->e=ep){Q:Unit->Shared->Prop}(h:∀(h':Heap) (kr:List κ),SameBut r s.heap h'->Good knd dec (zP w) h' r kr->(∀k,k∈kr↔k∈ky/\k∉kx)->Q () { s with heap:=h' }) :
  wpAny (model prog w) A (do
   for (h,x') in <-setWalkUnseen y [x,r] (some r) do
    holding [x'] do
     let there <-pure (<-setFind x x' h).isSome
     if !there then
      let _ <-setAddHashed r x' h
    aaz id y ep) Q E s:=by
 obtain⟨o,es,ep',t,h1,h2,h3,hf,hl,tb,hel,hp⟩:=gy.size
 have e1:=Gx o es ep' t h1 h3
 subst e1
 refine aad (Wk gy gr (λb hb=>(mem_cons.mp hb).elim (λe=>e▸⟨kx,gx⟩) λe=>(mem_singleton.mp e)▸⟨[],gr⟩) hn λes' h' j8 hp' sb PN=>?_)
 rw[<-forIn_toList]
 have ln:es'.toList.length=ky.length:=by rw[<-hp'.length_eq,length_map]
 refine aad (abj (aci (β:=Unit) _ (λl _ s'=>∃h2 kr,s'={ s with heap:=h2 }/\SameBut r s.heap h2/\Good knd dec (zP w) h2 r kr/\ElemsOf knd l/\kr.length+l.length<=ky.length/\∀k,(k∈kr\/(k∉kx/\k∈l.map λe=>dec e.2))↔(k∈ky/\k∉kx)) (λ_ s'=>∃h2 kr,s'={ s with heap:=h2 }/\SameBut r s.heap h2/\Good knd dec (zP w) h2 r kr/\∀k,k∈kr↔k∈ky/\k∉kx) ?turn ?fin es'.toList () ⟨h',[],rfl,sb,PN,j8,by rw[ln,length_nil];omega,λk=>?_⟩) ?post (λ_ _ h=>h))
 case turn =>
  rintro⟨hs,v⟩ l b s' ⟨h2,kr,rfl,iQ,g2,hl2,hlen,hm⟩
  obtain⟨⟨k,hk,hh⟩,hsc⟩:=hl2 _ mem_cons_self
  dsimp only at hk hh hsc ⊢
  subst hh
  have kx':∀o,s.heap.get? x=some o->h2.get? x=some o:=λo e=>by rw[iQ.2 x Wn];exact e
  have Wo:=gx.keep kx'
  have dv:dec v=k:=hdec k v hk
  rw[length_cons] at hlen
  have cont:∀(h3':Heap)(uh:List κ),SameBut r s.heap h3'->Good knd dec (zP w) h3' r uh->uh.length+l.length<=ky.length->(∀c,(c∈uh\/(c∉kx/\c∈l.map λe=>dec e.2))↔(c∈ky/\c∉kx)) ->
    wpAny (model prog w) A (aaz id y ep') (λ_ s''=>wpAny (model prog w) A (pure (ab0 ())) (λq s''=>match q with|.yield _=>∃h2 kr,s''={ s with heap:=h2 }/\SameBut r s.heap h2/\Good knd dec (zP w) h2 r kr/\ElemsOf knd l/\kr.length+l.length<=ky.length/\∀k,(k∈kr\/(k∉kx/\k∈l.map λe=>dec e.2))↔(k∈ky/\k∉kx)|.done _=>∃h2 kr,s''={ s with heap:=h2 }/\SameBut r s.heap h2/\Good knd dec (zP w) h2 r kr/\∀k,k∈kr↔k∈ky/\k∉kx) E s'') E { s with heap:=h3' }:=λh3' uh oO g3 l3 m3=>by
   unfold aaz
   refine aad (abg (s:={ s with heap:=h3' }) (by show h3'.get? y=_;rw[oO.2 y Tv];exact h1) h3 hf ?_)
   simp only[bne_self_eq_false,aao,↓reduceIte]
   exact aae (aae ⟨h3',uh,rfl,oO,g3,λe he=>hl2 e (mem_cons_of_mem _ he),l3,m3⟩)
  refine aad (aa3 (aad (wpAny_setFind_of (s:={ s with heap:=h2 }) hk hsc (Wo.setOf hdec) λq hq=>aad (aae ?_))))
  cases q with
  |some j =>
   have nk:k∈kx:=by simpa using hq.symm
   simp only[ac7,abx,aao,↓reduceIte]
   refine aae (aad (cont h2 kr iQ g2 (by omega) λc=>?_))
   rw[<-hm c,map_cons,mem_cons]
   show _↔(c∈kr\/c∉kx/\(c=dec v\/_))
   rw[dv]
   constructor
   ·rintro(z|⟨z1,z2⟩)
    ·exact .inl z
    ·exact .inr ⟨z1,.inr z2⟩
   ·rintro(z|⟨z1,z2|z2⟩)
    ·exact .inl z
    ·exact absurd nk (z2▸z1)
    ·exact .inr ⟨z1,z2⟩
  |none =>
   have mk:k∉kx:=by simpa using hq.symm
   simp only[Option.isSome_none,Bool.not_false,↓reduceIte]
   refine aad (Tf (led:=zP w) (s:={ s with heap:=h2 }) hdec hk hsc g2 (by have:=gy.len;omega) λh3' b' oO g3=>?_)
   refine aae (aad (cont h3' _ (iQ.trans oO) g3 ?_ λc=>?_))
   ·split
    ·omega
    ·rw[length_cons];omega
   ·rw[<-hm c,map_cons,mem_cons]
    show _↔(c∈kr\/c∉kx/\(c=dec v\/_))
    rw[dv]
    have e:c∈(if k∈kr then kr else k::kr)↔c=k\/c∈kr:=by
     split
     ·rename_i z
      exact⟨.inr,λq=>q.elim (λq=>q▸z) λq=>q⟩
     ·exact mem_cons
    rw[e]
    constructor
    ·rintro((z|z)|⟨z1,z2⟩)
     ·exact .inr ⟨z▸mk,.inl z⟩
     ·exact .inl z
     ·exact .inr ⟨z1,.inr z2⟩
    ·rintro(z|⟨z1,z2|z2⟩)
     ·exact .inl (.inr z)
     ·exact .inl (.inl z2)
     ·exact .inr ⟨z1,z2⟩
 case fin =>
  rintro b s' ⟨h2,kr,rfl,iQ,g2,_,_,hm⟩
  refine⟨h2,kr,rfl,iQ,g2,λk=>?_⟩
  rw[<-hm k]
  simp
 case post =>
  rintro b s' ⟨h2,kr,rfl,iQ,g2,hm⟩
  exact aae (h h2 kr iQ g2 hm)
 ·rw[hp'.mem_iff]
  constructor
  ·rintro(z|⟨z1,z2⟩)
   ·cases z
   ·exact⟨z2,z1⟩
  ·exactλ⟨z1,z2⟩=>.inr ⟨z2,z1⟩
theorem Ck(hdec:∀k v,knd.is k v=true->dec v=k)(id:String)(hn:∀k v,knd.is k v=true->∀b,v≠.ref b)(hab:b≠a)(ga:Good knd dec (zP w) s.heap a ka)(gb:Good knd dec (zP w) s.heap b kb)(hl:ka.length<=63){Q:Value->Shared->Prop}(h:∀(h':Heap) (kr:List κ),Good knd dec (zP w) h' s.heap.objs.size kr->(∀k,k∈kr↔k∈ka/\k∉kb)->(∀c o,c<s.heap.objs.size->s.heap.get? c=some o->h'.get? c=some o)->Q (.ref s.heap.objs.size) { s with heap:=h' }) :
  wpAny (model prog w) A (Builtin.Frozenset.difference id a (.ref b)) Q E s:=by
 have la:a<s.heap.objs.size:=by obtain⟨o,_,_,_,h1,_⟩:=ga;exact lt_size h1
 have lb:b<s.heap.objs.size:=by obtain⟨o,_,_,_,h1,_⟩:=gb;exact lt_size h1
 unfold Builtin.Frozenset.difference
 refine aad (uF gb.type ?_)
 simp only[abx,aao,Bool.false_and,↓reduceIte]
 refine aad (aae ?_)
 refine aad (LR gb (aad (LR ga ?_)))
 split
 ·rename_i c
  refine aad (adq (aad (zQf ga (by omega) λh' g' k' _=>?_)))
  refine aad (aae ?_)
  refine aad (aa3 (Cj (s:={ s with heap:=h' }) hdec id hn (aam lb) g' (gb.keep λo e=>k' b o lb e) hl (by omega) λh2 kr sb g2 m=>aae (h h2 kr g2 m λc o hc e=>?_)))
  rw[sb.2 c (aam hc)]
  exact k' c o hc e
 ·refine aad (Wq ga.type (aad (Wr ?_)))
  refine aad (aae ?_)
  have up:∀c o,s.heap.get? c=some o->(s.heap.push { cls:=.type "set",dict:=none,data:=.set #[] 0 (.fresh 0 0 (zP w)) }).get? c=some o:=λc o e=>get?_push_of_some _ e
  have Gq:=ga.keep (up a)
  have Gs:=gb.keep (up b)
  have L_:Good knd dec (zP w) (s.heap.push { cls:=.type "set",dict:=none,data:=.set #[] 0 (.fresh 0 0 (zP w)) }) s.heap.objs.size []:=PJ (get?_push_size _ rfl)
  generalize hp:s.heap.push { cls:=.type "set",dict:=none,data:=.set #[] 0 (.fresh 0 0 (zP w)) }=hq at up Gq Gs L_ ⊢
  obtain⟨o,es,ep,t,h1,h2,h3,hf,hl,tb,hel,hpp⟩:=Gq.size
  refine aad (abg (s:={ s with heap:=hq }) h1 h3 hf ?_)
  refine aad (aa3 (zP9 (s:={ s with heap:=hq }) hdec id hn (aam lb) (aam la) Gs Gq L_ (λo' es' e' t' z1 z2=>?_) λh' kr sb g m=>aae (h h' kr g m λc o hc e=>?_)))
  ·have z1':hq.get? a=some o':=z1
   rw[h1] at z1'
   cases z1'
   rw[h3] at z2
   cases z2
   rfl
  ·rw[sb.2 c (aam hc)];exact up c o e
theorem JG(hdec:∀k v,knd.is k v=true->dec v=k)(hn:∀k v,knd.is k v=true->∀b,v≠.ref b)(hab:b≠a)(ga:Good knd dec (zP w) s.heap a ka)(gb:Good knd dec (zP w) s.heap b kb)(hl:ka.length<=63){Q:Value->Shared->Prop}(h:∀(h':Heap) (kr:List κ),Good knd dec (zP w) h' s.heap.objs.size kr->(∀k,k∈kr↔k∈ka/\k∉kb)->(∀c o,c<s.heap.objs.size->s.heap.get? c=some o->h'.get? c=some o)->Q (.ref s.heap.objs.size) { s with heap:=h' }) :
  wpAny (model prog w) A (binaryOp .Sub (.ref a) (.ref b)) Q E s:=by
 refine adz (op:=.Sub) (T:="set") ga.type gb.type F.fills_set_sub F.slot_set_sub (ab2 F.slot_set_sub ga.type zFx ?_ (F.args_set_sub_2 _ _))
 refine aad (m:=abp "__sub__" ⟨[.ref a,.ref b],[]⟩) ?_
 unfold abp slotArgs
 refine aae ?_
 dsimp only
 refine aad (aad (uF ga.type ?_))
 refine uF gb.type ?_
 simp only[abx,aao,↓reduceIte]
 refine aad (aae (aad (Ck hdec _ hn hab ga gb hl λh' kr g m k=>aae ⟨.ref s.heap.objs.size,rfl,?_,h h' kr g m k⟩)))
 exactλz=>ad6 z
end
set_option maxRecDepth 100000
section
variable{prog:Program}{w:World}{κ:Type}[DecidableEq κ]{knd:KeyKind prog w κ}{dec:Value->κ}{led:Bool}{A:Around}{E:Value->Shared->Prop}{s:Shared}
theorem zSg(hdec:∀k v,knd.is k v=true->dec v=k)(id:String)(hn:∀k v,knd.is k v=true->∀b,v≠.ref b)(hne:o≠r)(g:Good knd dec (zP w) s.heap r kr)(go:Good knd dec (zP w) s.heap o ko)(hk:kr≠[])(hl:(kr.length+ko.length)*2<=255)(Gx:∀ob es e t,s.heap.get? o=some ob->ob.data=.set es e t->e=ep){Q:Unit->Shared->Prop}(h:∀(h':Heap) (ks:List κ),SameBut r s.heap h'->Good knd dec (zP w) h' r ks->(∀k,k∈ks↔k∈kr\/k∈ko)->Q () { s with heap:=h' }) :
  wpAny (model prog w) A (setMerge r o (aaz id o ep)) Q E s:=by
 obtain⟨ob,es,ep',t,h1,h2,h3,hf,hlo,tb,hel,hp⟩:=go.size
 have e1:=Gx ob es ep' t h1 h3
 subst e1
 unfold setMerge
 rw[if_neg (by simpa using(ab1 hne))]
 refine aad (aaq h1 h3 hf ?_)
 dsimp only
 by_cases hemp:es.isEmpty=true
 ·rw[if_pos hemp]
  have e0:es.size=0:=by simpa[isEmpty] using hemp
  have k0:ko=[]:=length_eq_zero_iff.mp (by rw[<-hlo];exact e0)
  subst k0
  exact aae (h _ kr (SameBut.refl r s.heap) g λk=>by simp)
 rw[if_neg hemp]
 refine aad (Cg g (by rw[hlo];exact hl) λh4 sb4 g4=>?_)
 obtain⟨o5,es5,ep5,t5,i1,i2,i3,if5,il5,tb5,aac,ip5⟩:=g4.size
 have go4:=go.keep (h':=h4) λob' e=>by rw[sb4.2 o hne];exact e
 refine aad (aaq (s:={ s with heap:=h4 }) i1 i3 if5 ?_)
 dsimp only
 have hfill:t5.fill≠0:=by
  unfold adu
  rw[PK if5,il5]
  cases kr with
  |nil=>exact absurd rfl hk
  |cons a l=>rw[length_cons];omega
 unfold SetTable.road
 rw[if_pos (by simpa using hfill)]
 dsimp only
 refine aad (Wk (s:={ s with heap:=h4 }) go4 g4 (λb hb=>(mem_singleton.mp hb)▸⟨kr,g4⟩) hn λes' h' j8 hp' sb PN=>?_)
 rw[<-forIn_toList]
 have ln:es'.toList.length=ko.length:=by rw[<-hp'.length_eq,length_map]
 refine aad (abj (aci (β:=Unit) _ (λl _ s'=>∃h2 ks,s'={ s with heap:=h2 }/\SameBut r s.heap h2/\Good knd dec (zP w) h2 r ks/\ElemsOf knd l/\ks.length+l.length<=128/\∀k,(k∈ks\/k∈l.map λe=>dec e.2)↔(k∈kr\/k∈ko)) (λ_ s'=>∃h2 ks,s'={ s with heap:=h2 }/\SameBut r s.heap h2/\Good knd dec (zP w) h2 r ks/\∀k,k∈ks↔k∈kr\/k∈ko) ?turn ?fin es'.toList () ⟨h',kr,rfl,sb4.trans sb,PN,j8,by rw[ln];omega,λk=>?_⟩) ?post (λ_ _ h=>h))
 case turn =>
  rintro⟨hs,v⟩ l b s' ⟨h2',ks,rfl,iQ,g2,hl2,hlen,hm⟩
  obtain⟨⟨k,hk',hh⟩,hsc⟩:=hl2 _ mem_cons_self
  dsimp only at hk' hh hsc ⊢
  subst hh
  have dv:dec v=k:=hdec k v hk'
  rw[length_cons] at hlen
  have big:(129:Nat)<scanBound:=by decide
  have room:ks.length+1<scanBound:=by omega
  refine aad (aa3 (Tf (led:=zP w) (s:={ s with heap:=h2' }) hdec hk' hsc g2 room λh3' b' oO g3=>?_))
  have SJ:h3'.get? o=some ob:=by rw[oO.2 o hne];show h2'.get? o=_;rw[iQ.2 o hne];exact h1
  refine aad ?_
  unfold aaz
  refine aad (abg (s:={ s with heap:=h3' }) SJ h3 hf ?_)
  simp only[bne_self_eq_false,aao,↓reduceIte]
  refine aae (aad (aaq (s:={ s with heap:=h3' }) SJ h3 hf ?_))
  simp only[bne_self_eq_false,aao,↓reduceIte]
  refine aae ⟨h3',_,rfl,iQ.trans oO,g3,λe he=>hl2 e (mem_cons_of_mem _ he),?_,λc=>?_⟩
  ·split
   ·omega
   ·rw[length_cons];omega
  ·rw[<-hm c,map_cons,mem_cons]
   show _↔(c∈ks\/(c=dec v\/_))
   rw[dv]
   have e:c∈(if k∈ks then ks else k::ks)↔c=k\/c∈ks:=by
    split
    ·rename_i z
     exact⟨.inr,λq=>q.elim (λq=>q▸z) λq=>q⟩
    ·exact mem_cons
   rw[e]
   constructor
   ·rintro((z|z)|z)
    ·exact .inr (.inl z)
    ·exact .inl z
    ·exact .inr (.inr z)
   ·rintro(z|z|z)
    ·exact .inl (.inr z)
    ·exact .inl (.inl z)
    ·exact .inr z
 case fin =>
  rintro b s' ⟨h2',ks,rfl,iQ,g2,_,_,hm⟩
  refine⟨h2',ks,rfl,iQ,g2,λk=>?_⟩
  rw[<-hm k]
  simp
 case post =>
  rintro b s' ⟨h2',ks,rfl,iQ,g2,hm⟩
  exact aae (h h2' ks iQ g2 hm)
 ·rw[hp'.mem_iff]
theorem JH(hdec:∀k v,knd.is k v=true->dec v=k)(id:String)(hn:∀k v,knd.is k v=true->∀b,v≠.ref b)(hne:o≠r)(g:Good knd dec (zP w) s.heap r kr)(go:Good knd dec (zP w) s.heap o ko)(h0:kr=[]->s.heap.get? r=some { cls:=.type "set",dict:=none,data:=.set #[] 0 (.fresh 0 0 (zP w)) })(hl:(kr.length+ko.length)*2<=255){Q:Unit->Shared->Prop}(h:∀(h':Heap) (ks:List κ),SameBut r s.heap h'->Good knd dec (zP w) h' r ks->(∀k,k∈ks↔k∈kr\/k∈ko)->Q () { s with heap:=h' }) :
  wpAny (model prog w) A (aco id r (.ref o)) Q E s:=by
 obtain⟨ob,es,ep',t,h1,h2,h3,hf,hlo,tb,hel,hp⟩:=go.size
 unfold aco
 refine aad (uF go.type ?_)
 simp only[↓reduceIte]
 refine aad (aae ?_)
 unfold Builtin.Frozenset.merge
 refine aad (abg h1 h3 hf ?_)
 cases kr with
 |nil=>exact zD3 (h0 rfl) (ab1 hne) go (by simp at hl;omega) λh' sb g'=>h h' ko sb g' λk=>by simp
 |cons a l =>
  refine zSg hdec id hn hne g go (λz=>by cases z) hl (λob' es' e' t' z1 z2=>?_) h
  rw[h1] at z1
  cases z1
  rw[h3] at z2
  cases z2
  rfl
theorem Qj(hdec:∀k v,knd.is k v=true->dec v=k)(hn:∀k v,knd.is k v=true->∀b,v≠.ref b)(hab:b≠a)(ga:Good knd dec (zP w) s.heap a ka)(gb:Good knd dec (zP w) s.heap b kb)(hl:ka.length<=63)(hl':kb.length<=63){Q:Value->Shared->Prop}(h:∀(h':Heap) (kr:List κ),Good knd dec (zP w) h' s.heap.objs.size kr->(∀k,k∈kr↔k∈ka\/k∈kb)->(∀c o,c<s.heap.objs.size->s.heap.get? c=some o->h'.get? c=some o)->Q (.ref s.heap.objs.size) { s with heap:=h' }) :
  wpAny (model prog w) A (binaryOp .BitOr (.ref a) (.ref b)) Q E s:=by
 have lb:b<s.heap.objs.size:=by obtain⟨o,_,_,_,h1,_⟩:=gb;exact lt_size h1
 refine adz (op:=.BitOr) (T:="set") ga.type gb.type F.fills_set_or F.slot_set_or (ab2 F.slot_set_or ga.type zHc ?_ (F.args_set_or_2 _ _))
 refine aad (m:=abp "__or__" ⟨[.ref a,.ref b],[]⟩) ?_
 unfold abp slotArgs
 refine aae ?_
 dsimp only
 refine aad (aad (uF ga.type ?_))
 refine uF gb.type ?_
 simp only[abx,aao,↓reduceIte]
 refine aad (aae (aad ?_))
 refine aad (m:=ac4 a) (zQf ga (by omega) λh' g' k' z0=>?_)
 have e1:(aa2 b != .ref a)=true:=by
  rw[bne_iff_ne]
  exactλe=>hab (aea e)
 rw[if_pos e1]
 refine aad (aae ?_)
 refine aad (aa3 (JH (s:={ s with heap:=h' }) hdec _ hn (aam lb) g' (gb.keep λo e=>k' b o lb e) (λz=>?_) (by omega) λh2 ks sb g2 m=>aae (aae ⟨.ref s.heap.objs.size,rfl,?_,h h2 ks g2 m λc o hc e=>?_⟩)))
 ·show h'.get? _=_
  rw[z0 z]
  exact get?_push_size _ rfl
 ·exactλz=>ad6 z
 ·rw[sb.2 c (aam hc)]
  exact k' c o hc e
end
end oK
namespace L2
open PySem PySem.Spec PyProof.Rows oK
section
variable{X:Cx}
def Gy(ta tb:BX):BX:=λσ H Q=>ta σ H λks H1=>ks.length<64/\tb σ H1 λjs H2=>∀rs:LI,rs.Nodup->(∀z,z∈rs↔z∈ks/\z∉js)->Q rs H2
theorem Cm(ha:ug X a ta)(hb:ug X b tb):ug X (.BinOp a .Sub b pos) (Gy ta tb):=by
 intro pins s σ H Q I h
 refine aen (aL (ha pins s σ H _ I h) λu s1 ⟨p,ks,H1,e,I1,g,fo,hl,h1⟩=>?_)
 subst e
 obtain⟨o,es,ep,t,go,gx,gd,_⟩:=id g
 have PX:=I1.pinned (fp:=[p]) (λb hb=>by rw[mem_singleton.mp hb];exact fo) (λb hb=>by
  rw[mem_singleton.mp hb]
  exact⟨o,go,λv z=>by rw[gd] at z;cases z⟩)
 refine aL (hb _ s1 σ H1 _ PX h1) λu2 s2 ⟨p2,js,H2,e2,I2,g2,P0,q2⟩=>?_
 subst e2
 have pm:(p,o)∈X.pn++(pins++Fj [p] s1.heap):=mem_append_right _ (mem_append_right _ (wJ (mem_singleton.mpr rfl) go))
 have kp:s2.heap.get? p=some o:=(I2.pin (p,o) pm).1
 have g1:=g.keep (h':=s2.heap) λo' e'=>by rw[go] at e';cases e';exact kp
 have ne:p2≠p:=ab1 (P0.2.2.2.2.2 (p,o) pm)
 have I3:=I2.d_
 refine JG Tq (λk v hk b z=>?_) ne g1 g2 (acu hl) λh' kr g3 m k=>?_
 ·obtain⟨t,rfl⟩:=acd hk
  cases z
 ·have I4:=I3.kept (h':=h') (t':=s2.toks) λb o e=>k b o (lt_size e) e
  obtain⟨_,_,_,_,_,_,_,_,_,nd,_⟩:=id g3
  exact⟨_,kr,H2,rfl,I4,g3,I3.ji (aag _) (I3.hok.fresh (aag _)),q2 kr nd m⟩
def Qk(ta tb:BX):BX:=λσ H Q=>ta σ H λks H1=>ks.length<64/\tb σ H1 λjs H2=>js.length<64/\∀rs:LI,rs.Nodup->(∀z,z∈rs↔z∈ks\/z∈js)->Q rs H2
theorem JK(ha:ug X a ta)(hb:ug X b tb):ug X (.BinOp a .BitOr b pos) (Qk ta tb):=by
 intro pins s σ H Q I h
 refine aen (aL (ha pins s σ H _ I h) λu s1 ⟨p,ks,H1,e,I1,g,fo,hl,h1⟩=>?_)
 subst e
 obtain⟨o,es,ep,t,go,gx,gd,_⟩:=id g
 have PX:=I1.pinned (fp:=[p]) (λb hb=>by rw[mem_singleton.mp hb];exact fo) (λb hb=>by
  rw[mem_singleton.mp hb]
  exact⟨o,go,λv z=>by rw[gd] at z;cases z⟩)
 refine aL (hb _ s1 σ H1 _ PX h1) λu2 s2 ⟨p2,js,H2,e2,I2,g2,P0,hl2,q2⟩=>?_
 subst e2
 have pm:(p,o)∈X.pn++(pins++Fj [p] s1.heap):=mem_append_right _ (mem_append_right _ (wJ (mem_singleton.mpr rfl) go))
 have kp:s2.heap.get? p=some o:=(I2.pin (p,o) pm).1
 have g1:=g.keep (h':=s2.heap) λo' e'=>by rw[go] at e';cases e';exact kp
 have ne:p2≠p:=ab1 (P0.2.2.2.2.2 (p,o) pm)
 have I3:=I2.d_
 refine Qj Tq (λk v hk b z=>?_) ne g1 g2 (acu hl) (acu hl2) λh' kr g3 m k=>?_
 ·obtain⟨t,rfl⟩:=acd hk
  cases z
 ·have I4:=I3.kept (h':=h') (t':=s2.toks) λb o e=>k b o (lt_size e) e
  obtain⟨_,_,_,_,_,_,_,_,_,nd,_⟩:=id g3
  exact⟨_,kr,H2,rfl,I4,g3,I3.ji (aag _) (I3.hok.fresh (aag _)),q2 kr nd m⟩
end
end L2
namespace Ts
open PySem L2
def Ql(ns ms:LI):Option LI:=if ns.length<64/\ms.length<4000 then some (xX (ns.filter λz=>!decide (z∈ms))) else none
def Cp(ns ms:LI):Option LI:=if ns.length<64/\ms.length<64/\(xX (ns++ms)).length<64 then some (xX (ns++ms)) else none
section
variable{K:PySem.W.Frag}{B:Bs}{sl:SL K}{md:Md}{t1 t2:TE}
theorem zMn(h1:Ex B sl .hp t1 m1)(h2:Ex B sl .hp t2 m2):Eo B sl md (PL (Gy (Gn K t1) (Gn K t2))) (m1.bind λa=>m2.bind λb=>Ql a b):=λc hc F O H σ Q s k=>by
 obtain⟨ns,ms,ha,hb,hf⟩:=uN hc
 unfold Ql at hf
 split at hf
 case isFalse=>cases hf
 rename_i hl
 cases hf
 refine h1 ns ha F O H σ _ s λv F' H' g r1=>?_
 obtain⟨p,vs,rfl,z1,z2⟩:=r1
 have z3:vs=ns.map V.int:=z2.vals
 subst z3
 refine⟨p,ns,rfl,aV.of z1,aal hl.1 (by decide),λks nd hm=>⟨aan (uQ nd λz hz=>(hm z).mp hz) hl.1,?_⟩⟩
 refine h2 ms hb F' O H' σ _ (s.grow g) λw F2 H2 g2 r2=>?_
 obtain⟨p',vs',rfl,y1,y2⟩:=r2
 have y3:vs'=ms.map V.int:=y2.vals
 subst y3
 refine⟨p',ms,rfl,aV.of y1,hl.2,λjs jd hj rs rd hr=>⟨aan (uQ rd λz hz=>(hm z).mp ((hr z).mp hz).1) hl.1,λl us hn p1 p2=>?_⟩⟩
 have e:us=xX (ns.filter λz=>!decide (z∈ms)):=Gp (wK p2 (p1.nodup_iff.mpr rd)) (vW _) λz=>by rw[p1.mem_iff,hr,hm,hj,bh,mem_filter,ad1,decide_eq_false_iff_not]
 subst e
 exact k l _ F2 H2 (g.trans g2) hn (uU _)
theorem zP2(h1:Ex B sl .hp t1 m1)(h2:Ex B sl .hp t2 m2):Eo B sl md (PL (Qk (Gn K t1) (Gn K t2))) (m1.bind λa=>m2.bind λb=>Cp a b):=λc hc F O H σ Q s k=>by
 obtain⟨ns,ms,ha,hb,hf⟩:=uN hc
 unfold Cp at hf
 split at hf
 case isFalse=>cases hf
 rename_i hl
 cases hf
 refine h1 ns ha F O H σ _ s λv F' H' g r1=>?_
 obtain⟨p,vs,rfl,z1,z2⟩:=r1
 have z3:vs=ns.map V.int:=z2.vals
 subst z3
 refine⟨p,ns,rfl,aV.of z1,aal hl.1 (by decide),λks nd hm=>⟨aan (uQ nd λz hz=>(hm z).mp hz) hl.1,?_⟩⟩
 refine h2 ms hb F' O H' σ _ (s.grow g) λw F2 H2 g2 r2=>?_
 obtain⟨p',vs',rfl,y1,y2⟩:=r2
 have y3:vs'=ms.map V.int:=y2.vals
 subst y3
 refine⟨p',ms,rfl,aV.of y1,aal hl.2.1 (by decide),λjs jd hj=>⟨aan (uQ jd λz hz=>(hj z).mp hz) hl.2.1,λrs rd hr=>⟨aan (uQ rd λz hz=>bh.mpr (mem_append.mpr (((hr z).mp hz).imp (hm z).mp (hj z).mp))) hl.2.2,λl us hn p1 p2=>?_⟩⟩⟩
 have e:us=xX (ns++ms):=Gp (wK p2 (p1.nodup_iff.mpr rd)) (vW _) λz=>by rw[p1.mem_iff,hr,hm,hj,bh,mem_append]
 subst e
 exact k l _ F2 H2 (g.trans g2) hn (uU _)
end
end Ts
namespace L2
open PySem PySem.Spec PyProof.Rows
def Wx(K:PySem.W.Frag)(a:Addr)(n:Nat):It :=
 ⟨λi H=>i<n/\∃xs x,aV K H a xs/\xs[n-1-i]?=some x,λi H x H'=>H'=H/\∀xs,aV K H a xs->xs[n-1-i]?=some x,λi _=>i=n⟩
theorem zQ7{P:Program}{w:World}{K:PySem.W.Frag}{tg:Expr}(a it:Addr)(n:Nat):Turn P w K tg (Wx K a n) [it] it (λi h=>h.IsRevIter it a ((n:Int)-1-(i:Nat))) where
 mem:=by simp
 obj:=λi h st b hb=>by
  have e:b=it:=by simpa using hb
  subst e
  obtain⟨o,e,c,d⟩:=st
  exact⟨o,e,λv z=>by rw[d] at z;cases z⟩
 keep:=λi h h' st k=>st.at λo e=>k it (by simp) o e
 item:=by
  intro X hP hw hK hc i pins s σ H E I hf st hg
  subst hP hw hK
  obtain⟨hi,xs,x,hq,hx⟩:=hg
  obtain⟨its,rv,p,hz⟩:=I.list hq
  obtain⟨u,hu,ru⟩:=rv.get hx
  obtain⟨f0,f1,f2,f3,f4,f5⟩:=hf it (by simp)
  have e:(n:Int)-1-(i:Nat)=((n-1-i:Nat):Int):=by omega
  rw[e] at st
  refine wpAny_pyNext_rev_item st p.isList (x:=u) (by simpa using hu) λh' st' sb=>?_
  have I1:Inv X pins σ H { s with heap:=h' }:=I.turned (t':=s.toks) (λb o hb e=>(sb.2 b hb).trans e) f0 f1 f3 f4 f5
  have e2:((n-1-i:Nat):Int)-1=(n:Int)-1-((i+1:Nat):Int):=by omega
  rw[e2] at st'
  obtain⟨o,e,c,d⟩:=id st'
  exact⟨u,rfl,HD (s:={ s with heap:=h' }) e c d (by decide) ⟨x,H,I1,ru,⟨rfl,λys hy=>by rw[I.j4 hy hq];exact hx⟩,st',λb hb=>(hf b hb).1⟩⟩
 done:=by
  intro X hP hw hK hc i pins s σ H E I hf st hg
  subst hP hw hK
  have hi:i=n:=hg
  subst hi
  obtain⟨f0,f1,f2,f3,f4,f5⟩:=hf it (by simp)
  have e:(i:Int)-1-(i:Nat)=-1:=by omega
  rw[e] at st
  exact wpAny_pyNext_rev_end (I.ok.hd hc) st λh' eb=>⟨rfl,I.turned (t':=s.toks) (λb o hb e=>eb b o hb e) f0 f1 f3 f4 f5⟩
 self:=λ_ _ _ _ _ st h=>wpAny_pyIter_revIter st h
def Cq(K:PySem.W.Frag)(ta:TA):TI:=λσ H R=>ta σ H λvs H1=>∃a xs,vs=[.ref a]/\aV K H1 a xs/\R (Wx K a xs.length) H1
theorem j9:bootBuiltins "reversed" = some (.type "reversed"):=by decide +kernel
theorem JL(hg:Gl X "reversed")(hm:X.mg "reversed" = none)(ha:PA X [a] ta)(hs:starEach [a] X.env=[(false,eval a X.env)]:=by rfl):PI X tg (.Call (.Name "reversed" p) [a] [] pos) (Cq X.K ta):=by
 intro pins s σ H R I h
 refine Call_ (yh I hg hm j9 (aa9 (aL (ha pos pins s σ H _ I h) λus s1 ⟨vs,H1,I1,r1,q1⟩=>?_) hs rfl))
 obtain⟨l,xs,e,hq,q⟩:=q1
 subst e
 obtain⟨u,rfl,ru⟩:=r1.one
 cases ru
 obtain⟨its,rv,p,hz⟩:=I1.list hq
 have hl:=rv.length
 refine call_reversed_list p.isList ?_
 have I2:Inv X pins σ H1 { s1 with heap:=s1.heap.push (revObj l ((its.toArray.size:Int)-1)),toks:=s1.toks }:=I1.kept λb o e=>get?_push_of_some _ e
 have R0:(s1.heap.push (revObj l ((its.toArray.size:Int)-1))).IsRevIter s1.heap.objs.size l ((xs.length:Int)-1-((0:Nat):Int)):=by
  refine⟨_,get?_push_size _ rfl,rfl,?_⟩
  show ae5 #[.ref l,rawInt ((its.toArray.size:Int)-1)]=_
  rw[show((its.toArray.size:Int)-1)=(xs.length:Int)-1-((0:Nat):Int) by rw[size_toArray];omega]
 refine wpAny_pyIter_revIter (s:={ s1 with heap:=s1.heap.push (revObj l ((its.toArray.size:Int)-1)) }) R0 ?_
 refine⟨s1.heap.objs.size,[s1.heap.objs.size],_,_,H1,rfl,I2,zQ7 l _ xs.length,R0,λb hb=>?_,q⟩
 have e:b=s1.heap.objs.size:=by simpa using hb
 subst e
 exact I1.ji (aag _) (I1.hok.fresh (aag _))
theorem zS3{n:Nat}{ix:List Nat}{g:TG}{tc:TT}{te:TE}{σ:St}{Q:VK}{H:Hp}{K:PySem.W.Frag}{a:Addr}{xs:List V}(Pv:Nat->List V->St->Hp->Prop)(h0:Pv 0 [] (j6 σ n ix) H)(hl:∀i ys σ H,i<=xs.length->Pv i ys σ H->aV K H a xs/\ys.length<=i)(hz:xs.length<sizeLine)(hs:∀i x ys σ H,xs[xs.length-1-i]?=some x->i<xs.length->Pv i ys σ H->g x σ H λσ4 H4=>tc σ4 H4 λb H5=>if b=true then te σ4 H5 λy H6=>Pv (i+1) (ys++[y]) σ4 H6 else Pv (i+1) ys σ4 H5)(hd:∀ys σ H,Pv xs.length ys σ H->∀p,H p=none->Q (.ref p) (upd H p (.lst ys))):R7 n ix g tc te σ Q (Wx K a xs.length) H:=by
 refine⟨λi m ys σ H=>m=xs.length-i/\i<=xs.length/\Pv i ys σ H,⟨xs.length,by simp,aa0 _,h0⟩,?_⟩
 rintro i m ys σ H ⟨rfl,hi,p⟩
 obtain⟨q,hy⟩:=hl i ys σ H hi p
 by_cases hlt:i<xs.length
 ·refine .inr ⟨⟨hlt,xs,xs[xs.length-1-i]'(by omega),q,aaf (by omega)⟩,by omega,Pv (i+1),λys' σ' H' p'=>⟨xs.length-(i+1),by omega,rfl,hlt,p'⟩,λx H' y=>?_⟩
  obtain⟨e,y⟩:=y
  subst e
  exact hs i x ys σ _ (y xs q) hlt p
 ·have e:i=xs.length:=by omega
  subst e
  exact .inl ⟨rfl,by omega,hd ys σ H p⟩
structure oR(K:PySem.W.Frag)(C:Addr)(m:Str)(f:Addr):Prop where
 sp:specialIn K (.ref C) "__getattribute__" = some (some (.builtin "type.__getattribute__"))
 rd:PySem.W.readsIn K C (.type "type")=true
 at_:PySem.W.findCls K (.ref C) (.type "type") m=some (.val (.ref f))
 kp:keepIn K (.ref f)=true
section
variable{X:Cx}{CX:qR}{k:Nat}{f C:Addr}{fd:FuncData}{ps:List Str}{sp:Sp}{jJ:List V}{ds:List Value}{E:XK}{x m:Str}{p pos apos:Pos}{e o:Expr}{es:List Expr}{ta:TE}{t:TA}
theorem vX(hg:Gl X x)(hm:X.mg x=some (.ref C))(c:oR X.K C m f)(F:aq X.prog X.w X.K X.mg X.base CX k f fd ps sp)(hr:bx k X.A)(hb:Binds X.K fd ps ds)(hd:Vals jJ ds)(hx:Ai CX X E)(ha:PA X (e::es) t)(hdb:(x==("__debug__":Str))=false:=by decide)(hst:starEach (e::es) X.env=(false,eval e X.env)::starEach es X.env:=by rfl)(hpl:(backTo pos (starEach es X.env)).any (·.1)=false:=by rfl)(ht:eval (.Call (.Attribute (.Name x p) m apos) (e::es) [] pos) X.env=(do
   let ov <-eval (.Name x p) X.env
   standAt apos.atName
   let(f,first) <-holding [ov] (getMethod ov m pl)
   callWith pos f first (backTo pos (starEach (e::es) X.env)) (backToKw pos (keywordEach [] X.env))):=by rfl) :
  PE X (.Call (.Attribute (.Name x p) m apos) (e::es) [] pos) (Ld sp jJ E t):=by
 intro pins s σ H Q I h
 refine aeb (pl:=pl) (M6 I hg hm ?_ hdb) ht
 refine PySem.W.method_cls I.iT c.sp (PySem.W.cls_value I.iT c.rd c.at_ rfl ?_)
 have I':=I.tok (s.toks+1)
 refine aee (first:=[]) (h₀:=X.base) I.ok.mod.K7 c.kp (aL (ha pos pins _ σ H _ I' h) λus s1 ⟨vs,H1,I1,r,q⟩=>⟨I1.iT,?_⟩) hst hpl
 exact RM F hr hb hd hx I1 r q
end
end L2
namespace Sy
open PySem L2
inductive Tr where
 |all
 |mark (x:Str)
 |one (i:Fin 6) (t:Tr)
 |two (i:Fin 4) (l r:Tr)
def w1(i:Fin 6):Str:=(["not","somenext","eachnext","somealways","eachalways","someever","eachever"]:List Str).getD i.val adf
def w2(i:Fin 4):Str:=(["both","either","sometill","eachtill"]:List Str).getD i.val adf
def Tr.depth:Tr->Nat
 |.all=>0
 |.mark _=>0
 |.one _ t=>t.depth+1
 |.two _ l r=>max l.depth r.depth+1
def Kp(p:Addr)(H H':Hp):Prop:=∀b o,b≠p->H b=some o->H' b=some o
theorem Kp.of(s:Same H H'):Kp p H H':=λb o _ e=>s b o e
theorem Kp.trans(a:Kp p H H1)(b:Kp p H1 H2):Kp p H H2:=λc o n e=>b c o n (a c o n e)
theorem Kp.put(p:Addr)(H:Hp)(o:HO):Kp p H (upd H p o):=λb u n e=>by rw[zJ n];exact e
theorem aJ(h:H p=none)(o:HO):Same H (upd H p o):=λb u q=>by rw[zJ (zL q h)];exact q
def sI(w:V)(q:Addr):List (Str×V):=au "parts" (.ref q) (au "word" w [])
def rB(w v:V)(q:Addr):List (Str×V):=au "part" v (sI w q)
def rC(w v u:V)(q:Addr):List (Str×V):=au "right" u (au "left" v (sI w q))
def Mf(x:V)(q:Addr):List (Str×V):=au "name" x (sI x q)
theorem bC(f:Str)(v:V):∀fs:List (Str×V),(au f v fs).length<=fs.length+1
 |[]=>aag _
 | (g,x)::r=>by
  unfold au
  split
  ·exact abv _
  ·exact abw (bC f v r)
theorem TJ(w:V)(q:Addr):(sI w q).length<=2:=by
 have a1:=bC "parts" (V.ref q) (au "word" w [])
 have a2:=bC "word" w []
 have a3:([]:List (Str×V)).length=0:=rfl
 show(au "parts" (V.ref q) (au "word" w [])).length<=2
 omega
structure fZ(K:PySem.W.Frag)(C:Addr):Prop where
 cl:Cls K C
 nW:aW K C "word"
 nP:aW K C "parts"
 n1:aW K C "part"
 nL:aW K C "left"
 nR:aW K C "right"
 nN:aW K C "name"
inductive Hd where
 |all
 |mark
 |one (i:Fin 6)
 |two (i:Fin 4)
def spS(K:PySem.W.Frag):Sp:=λvs H Q _=>∃(p C dx:Addr)(x y:V),vs=[.ref p,x,y]/\H p=some (.ins C dx [])/\fZ K C/\∀H':Hp,Kp p H H'->H' p=some (.ins C dx (au "parts" y (au "word" x [])))->Q .non H'
def pY(K:PySem.W.Frag):Sp:=λvs H Q _=>∃(p C dx:Addr)(x v:V),vs=[.ref p,x,v]/\H p=some (.ins C dx [])/\fZ K C/\∀(q:Addr)(H':Hp),Kp p H H'->H q=none->H' q=some (.tup [v])->H' p=some (.ins C dx (rB x v q))->Q .non H'
def uq(K:PySem.W.Frag):Sp:=λvs H Q _=>∃(p C dx:Addr)(x v u:V),vs=[.ref p,x,v,u]/\H p=some (.ins C dx [])/\fZ K C/\∀(q:Addr)(H':Hp),Kp p H H'->H q=none->H' q=some (.tup [v,u])->H' p=some (.ins C dx (rC x v u q))->Q .non H'
def JM(C:Addr):Sp:=λvs H Q _=>∃(p dx:Addr),vs=[.ref p]/\H p=some (.ins C dx [])/\∀(q:Addr)(H':Hp),Kp p H H'->H q=none->H' q=some (.tup [])->H' p=some (.ins C dx (sI (.str "all") q))->Q .non H'
def JN(C:Addr):Sp:=λvs H Q _=>∃(p dx:Addr)(x:V),vs=[.ref p,x]/\H p=some (.ins C dx [])/\∀(q:Addr)(H':Hp),Kp p H H'->H q=none->H' q=some (.tup [])->H' p=some (.ins C dx (Mf x q))->Q .non H'
def oV(C:Addr)(w:Str):Sp:=λvs H Q _=>∃(p dx:Addr)(v:V),vs=[.ref p,v]/\H p=some (.ins C dx [])/\∀(q:Addr)(H':Hp),Kp p H H'->H q=none->H' q=some (.tup [v])->H' p=some (.ins C dx (rB (.str w) v q))->Q .non H'
def rD(C:Addr)(w:Str):Sp:=λvs H Q _=>∃(p dx:Addr)(v u:V),vs=[.ref p,v,u]/\H p=some (.ins C dx [])/\∀(q:Addr)(H':Hp),Kp p H H'->H q=none->H' q=some (.tup [v,u])->H' p=some (.ins C dx (rC (.str w) v u q))->Q .non H'
inductive cX(cl:Hd->Addr)(H:Hp):Addr->Tr->Prop where
 |all {p q dx:Addr}:H p=some (.ins (cl .all) dx (sI (.str "all") q))->H q=some (.tup [])->cX cl H p .all
 |mark {p q dx:Addr} {x:Str}:H p=some (.ins (cl .mark) dx (Mf (.str x) q))->H q=some (.tup [])->cX cl H p (.mark x)
 |one {p q dx c:Addr} {i:Fin 6} {t:Tr}:H p=some (.ins (cl (.one i)) dx (rB (.str (w1 i)) (.ref c) q))->H q=some (.tup [.ref c])->cX cl H c t->cX cl H p (.one i t)
 |two {p q dx c d:Addr} {i:Fin 4} {l r:Tr}:H p=some (.ins (cl (.two i)) dx (rC (.str (w2 i)) (.ref c) (.ref d) q))->H q=some (.tup [.ref c,.ref d])->cX cl H c l->cX cl H d r->cX cl H p (.two i l r)
theorem cX.same(h:cX cl H p t)(s:Same H H'):cX cl H' p t:=by
 induction h with
 |all h1 h2=>exact .all (s _ _ h1) (s _ _ h2)
 |mark h1 h2=>exact .mark (s _ _ h1) (s _ _ h2)
 |one h1 h2 _ ih=>exact .one (s _ _ h1) (s _ _ h2) ih
 |two h1 h2 _ _ ih1 ih2=>exact .two (s _ _ h1) (s _ _ h2) ih1 ih2
def hd:Tr->Hd
 |.all=>.all
 |.mark _=>.mark
 |.one i _=>.one i
 |.two i _ _=>.two i
def hw:Tr->Str
 |.all=>"all"
 |.mark x=>x
 |.one i _=>w1 i
 |.two i _ _=>w2 i
def rE:Tr->List Tr
 |.all=>[]
 |.mark _=>[]
 |.one _ t=>[t]
 |.two _ l r=>[l,r]
theorem kw1:¬(("word":Str) = "parts"):=by decide +kernel
theorem kw2:¬(("word":Str) = "part"):=by decide +kernel
theorem kw3:¬(("word":Str) = "left"):=by decide +kernel
theorem kw4:¬(("word":Str) = "right"):=by decide +kernel
theorem kw5:¬(("word":Str) = "name"):=by decide +kernel
theorem kp2:¬(("parts":Str) = "part"):=by decide +kernel
theorem kp3:¬(("parts":Str) = "left"):=by decide +kernel
theorem kp4:¬(("parts":Str) = "right"):=by decide +kernel
theorem kp5:¬(("parts":Str) = "name"):=by decide +kernel
theorem TQ(w:V)(q:Addr):(sI w q).lookup ("word":Str)=some w:=by unfold sI;rw[zM,if_neg kw1,zM,if_pos rfl]
theorem TV(w:V)(q:Addr):(sI w q).lookup ("parts":Str)=some (.ref q):=by unfold sI;rw[zM,if_pos rfl]
theorem TX(w:V)(q:Addr){m:Str}(h1:¬m = "parts")(h2:¬m = "word"):(sI w q).lookup m=none:=by
 unfold sI
 rw[zM,if_neg h1,zM,if_neg h2]
 rfl
theorem cX.look(h:cX cl H p t):∃(dx q:Addr)(fs:List (Str×V))(cs:List Addr),H p=some (.ins (cl (hd t)) dx fs)/\fs.lookup ("word":Str)=some (.str (hw t))/\fs.lookup ("parts":Str)=some (.ref q) /\
  (∀m:Str,¬m = "word"->¬m = "parts"->¬m = "part"->¬m = "left"->¬m = "right"->¬m = "name"->fs.lookup m=none)/\H q=some (.tup (cs.map V.ref))/\Paired (cX cl H) cs (rE t):=by
 cases h with
 |all h1 h2=>exact⟨_,_,_,[],h1,TQ _ _,TV _ _,λm a b _ _ _ _=>TX _ _ b a,h2,.nil⟩
 |mark h1 h2 =>
  refine⟨_,_,_,[],h1,?_,?_,λm a b _ _ _ f=>?_,h2,.nil⟩
  ·unfold Mf;rw[zM,if_neg kw5];exact TQ _ _
  ·unfold Mf;rw[zM,if_neg kp5];exact TV _ _
  ·unfold Mf;rw[zM,if_neg f];exact TX _ _ b a
 |one h1 h2 h3 =>
  refine⟨_,_,_,[_],h1,?_,?_,λm a b c _ _ _=>?_,h2,.cons h3 .nil⟩
  ·unfold rB;rw[zM,if_neg kw2];exact TQ _ _
  ·unfold rB;rw[zM,if_neg kp2];exact TV _ _
  ·unfold rB;rw[zM,if_neg c];exact TX _ _ b a
 |two h1 h2 h3 h4 =>
  refine⟨_,_,_,[_,_],h1,?_,?_,λm a b _ c d _=>?_,h2,.cons h3 (.cons h4 .nil)⟩
  ·unfold rC;rw[zM,if_neg kw4,zM,if_neg kw3];exact TQ _ _
  ·unfold rC;rw[zM,if_neg kp4,zM,if_neg kp3];exact TV _ _
  ·unfold rC;rw[zM,if_neg d,zM,if_neg c];exact TX _ _ b a
def n1(i:Fin 6):Str:=(["Not","SomeNext","EachNext","SomeAlways","EachAlways","SomeEver","EachEver"]:List Str).getD i.val adf
def n2(i:Fin 4):Str:=(["Both","Either","SomeTill","EachTill"]:List Str).getD i.val adf
structure Ini(P:Program)(w:World)(K:PySem.W.Frag)(mg:Str->Option Value)(base:Heap)(k:Nat)(cl fi:Hd->Addr)(di:Hd->FuncData):Prop where
 made:∀h,Mk K (cl h) (fi h)
 iA:aq P w K mg base aN k (fi .all) (di .all) ["self"] (JM (cl .all))
 bA:Binds K (di .all) ["self"] []
 iM:aq P w K mg base aN k (fi .mark) (di .mark) ["self","name"] (JN (cl .mark))
 bM:Binds K (di .mark) ["self","name"] []
 i1:∀i,aq P w K mg base aN k (fi (.one i)) (di (.one i)) ["self","part"] (oV (cl (.one i)) (w1 i))
 b1:∀i,Binds K (di (.one i)) ["self","part"] []
 i2:∀i,aq P w K mg base aN k (fi (.two i)) (di (.two i)) ["self","left","right"] (rD (cl (.two i)) (w2 i))
 b2:∀i,Binds K (di (.two i)) ["self","left","right"] []
 mA:mg "All" = some (.ref (cl .all))
 mM:mg "Mark" = some (.ref (cl .mark))
 m1:∀i,mg (n1 i)=some (.ref (cl (.one i)))
 m2:∀i,mg (n2 i)=some (.ref (cl (.two i)))
theorem zOw(nx:H x=none)(nd:H dx=none):Same H (upd (upd H dx (.own x)) x (.ins C dx [])):=λb o e=>by
 rw[zJ (zL e nx),zJ (zL e nd)]
 exact e
theorem TY(nx:H x=none)(nd:H dx=none)(k:Kp x (upd (upd H dx (.own x)) x (.ins C dx [])) H'):Same H H':=λb o e=>k b o (zL e nx) (zOw nx nd b o e)
end Sy
namespace Ts
open PySem L2 Sy
structure cN(cl:Hd->Addr) where
 t:Tr
def oW:Hd->Tr->Bool
 |.all,.all=>true
 |.mark,.mark _=>true
 |.one i,.one j _=>decide (j=i)
 |.two i,.two j _ _=>decide (j=i)
 |_,_=>false
def cN.parts(x:cN cl):List (cN cl):=(rE x.t).map cN.mk
def cN.name(x:cN cl):Option Str:=match x.t with
 |.mark s=>some s
 |_=>none
structure oX(P:Program)(w:World)(K:PySem.W.Frag)(mg:Str->Option Value)(base:Heap)(k:Nat)(cl fi:Hd->Addr)(di:Hd->FuncData):Prop where
 ini:Ini P w K mg base k cl fi di
 kd:∀h,fZ K (cl h)
 qY:∀h h':Hd,∀t:Tr,hd t=h->kitOne K (.ref (cl h)) (.ref (cl h'))=some (oW h' t)
 c1:∀h,findIn K (.ref (cl h)) "__class__" = some (some (.builtin "object.__class__"))
 c2:specialIn K (.builtin "object.__class__") "__get__" = some (some (.builtin "getset_descriptor.__get__"))
 c3:takesIn K (.builtin "object.__class__")=some true
 c4:∀h,mroIn K (cl h) (.type "object")=some true
section
variable{K:PySem.W.Frag}{cl:Hd->Addr}
instance:Rp K (cN cl):=⟨λF v x=>∃p,v=.ref p/\cX cl F p x.t,λs ⟨p,h1,h2⟩=>⟨p,h1,h2.same s⟩⟩
instance:Nn K (cN cl):=⟨λ⟨_,h,_⟩=>by rw[h];intro e;cases e⟩
end
section
variable{K:PySem.W.Frag}{B:Bs}{F H H2:Hp}{O:Own}
theorem Gz(k:Ok B F O H)(s:Same H H2)(hx:H x=none)(e:H2 x=some o):∀md:Md,reg B (ext F H H2) H2 md x=some o
 |.hp=>e
 |.fz=>by
  show ext F H H2 x=some o
  unfold ext
  rw[hx]
  exact e
 |.nw=>by
  show dif (ext F H H2) B.H0 x=some o
  rw[wZ (k.h0.free hx)]
  unfold ext
  rw[hx]
  exact e
end
section
variable{P:Program}{w:World}{K:PySem.W.Frag}{mg:Str->Option Value}{base:Heap}{B:Bs}{sl:SL K}{md:Md}{te t1 t2:TE}{cl fi:Hd->Addr}{di:Hd->FuncData}{k:Nat}
theorem T3(h:upd (upd H dx o1) x o2 q=none):H q=none:=by
 by_cases e1:q=x
 ·subst e1;rw[zK] at h;cases h
 ·rw[zJ e1] at h
  by_cases e2:q=dx
  ·subst e2;rw[zK] at h;cases h
  ·rw[zJ e2] at h;exact h
theorem Cr:Ex B sl md (Ih (cl .all) (JM (cl .all)) [] E0 aY) (some (cN.mk (cl:=cl) .all)):=λc hc F O H σ Q s kk=>by
 cases hc
 intro x dx nx nd ne
 refine⟨x,dx,rfl,zK,λq H2 k1 f0 e1 e2=>⟨rfl,?_⟩⟩
 have s2:=TY nx nd k1
 have g:=s.1.called s2
 exact kk (.ref x) _ H2 g ⟨x,rfl,.all (Gz s.1 s2 nx e2 md) (Gz s.1 s2 (T3 f0) e1 md)⟩
theorem Cu(h:Ex B sl md te m):Ex B sl md (Ih (cl .mark) (JN (cl .mark)) [] E0 (yK te aY)) (m.bind λa=>some (cN.mk (cl:=cl) (.mark a))):=λc hc F O H σ Q s kk=>by
 cases m with
 |none=>cases hc
 |some a =>
  cases hc
  refine h a rfl F O H σ _ s λv F' H' g r1=>?_
  cases r1
  intro x dx nx nd ne
  refine⟨x,dx,.str a,rfl,zK,λq H2 k1 f0 e1 e2=>⟨rfl,?_⟩⟩
  have s2:=TY nx nd k1
  have g2:=g.ok.called s2
  exact kk (.ref x) _ H2 (g.trans g2) ⟨x,rfl,.mark (Gz g.ok s2 nx e2 md) (Gz g.ok s2 (T3 f0) e1 md)⟩
theorem Cv(i:Fin 6){m:Option (cN cl)}(h:Ex B sl md te m):Ex B sl md (Ih (cl (.one i)) (oV (cl (.one i)) (w1 i)) [] E0 (yK te aY)) (m.bind λa=>some (cN.mk (cl:=cl) (.one i a.t))):=λc hc F O H σ Q s kk=>by
 cases m with
 |none=>cases hc
 |some a =>
  cases hc
  refine h a rfl F O H σ _ s λv F' H' g r1=>?_
  obtain⟨p,rfl,sa⟩:=r1
  intro x dx nx nd ne
  refine⟨x,dx,.ref p,rfl,zK,λq H2 k1 f0 e1 e2=>⟨rfl,?_⟩⟩
  have s2:=TY nx nd k1
  have g2:=g.ok.called s2
  exact kk (.ref x) _ H2 (g.trans g2) ⟨x,rfl,.one (Gz g.ok s2 nx e2 md) (Gz g.ok s2 (T3 f0) e1 md) (sa.same (yD g2 md))⟩
theorem zPt(i:Fin 4){m1 m2:Option (cN cl)}(h1:Ex B sl md t1 m1)(h2:Ex B sl md t2 m2):Ex B sl md (Ih (cl (.two i)) (rD (cl (.two i)) (w2 i)) [] E0 (yK t1 (yK t2 aY))) (m1.bind λa=>m2.bind λb=>some (cN.mk (cl:=cl) (.two i a.t b.t))):=λc hc F O H σ Q s kk=>by
 obtain⟨a,b,ha,hb,hf⟩:=uN hc
 cases hf
 refine h1 a ha F O H σ _ s λv F' H' g r1=>?_
 refine h2 b hb F' O H' σ _ (s.grow g) λw F2 H2' g2 r2=>?_
 obtain⟨p,rfl,sa⟩:=r1
 obtain⟨p2,rfl,sb⟩:=r2
 intro x dx nx nd ne
 refine⟨x,dx,.ref p,.ref p2,rfl,zK,λq H2 k1 f0 e1 e2=>⟨rfl,?_⟩⟩
 have s2:=TY nx nd k1
 have g3:=g2.ok.called s2
 exact kk (.ref x) _ H2 (g.trans (g2.trans g3)) ⟨x,rfl,.two (Gz g2.ok s2 nx e2 md) (Gz g2.ok s2 (T3 f0) e1 md) (sa.same (yD (g2.trans g3) md)) (sb.same (yD g3 md))⟩
theorem Qm(I:oX P w K mg base k cl fi di)(hh:Hd){m:Option (cN cl)}(h:Ex B sl .hp te m):Ex B sl md (yq (Bb K (.ref (cl hh))) (yK te (yK (tC (.ref (cl hh))) aY))) (m.bind λa=>some (oW hh a.t)):=λc hc F O H σ Q s kk=>by
 cases m with
 |none=>cases hc
 |some a =>
  cases hc
  refine h a rfl F O H σ _ s λv F' H' g r1=>?_
  obtain⟨p,rfl,sa⟩:=r1
  obtain⟨dx,q,fs,cs,l1,_⟩:=sa.look
  exact⟨.ref p,.ref (cl hh),_,_,rfl,rfl,.ins l1 (I.kd (hd a.t)).cl (I.c1 _) I.c2 I.c3 (I.c4 _),I.qY (hd a.t) hh a.t rfl,kk _ F' H' g rfl⟩
theorem zMk(I:oX P w K mg base k cl fi di){m:Option (cN cl)}(h:Ex B sl .hp te m):Ex B sl md (m8 K te "name") (m.bind λa=>a.name):=λc hc F O H σ Q s kk=>by
 cases m with
 |none=>cases hc
 |some a =>
  obtain⟨t⟩:=a
  cases t with
  |mark x =>
   cases hc
   refine h _ rfl F O H σ _ s λv F' H' g r1=>?_
   obtain⟨p,rfl,sa⟩:=r1
   cases sa with
   |mark e1 e2=>exact⟨p,_,_,_,_,rfl,e1,(I.kd .mark).cl,(I.kd .mark).nN,by unfold Mf;rw[zM,if_pos rfl],kk _ F' H' g rfl⟩
  |_=>cases hc
theorem GC:∀{cs:List Addr}{ts:List Tr},Paired (cX cl F) cs ts->A2 (rp K F) (cs.map V.ref) (ts.map (cN.mk (cl:=cl)))
 |_,_,.nil=>trivial
 |_,_,.cons h r=>⟨⟨_,rfl,h⟩,GC r⟩
theorem zS0{n:Bool}(I:oX P w K mg base k cl fi di){mi:Option (cN cl)}(h:Ex B sl (iz n) te mi):Ei B sl n (HF K (m8 K te "parts")) (mi.bind λa=>some a.parts):=λxs hx F O H σ R a kk=>by
 cases mi with
 |none=>cases hx
 |some y =>
  cases hx
  refine h y rfl F O H σ _ a λv F' H' gr r=>?_
  obtain⟨p,rfl,sa⟩:=r
  obtain⟨dx,q,fs,cs,l1,l2,l3,l4,l5,l6⟩:=sa.look
  have h2:A2 (rp K (reg B F' H' (iz n))) (cs.map V.ref) y.parts:=GC l6
  have e1:=Bc gr.ok n p _ l1
  refine⟨p,_,dx,fs,.ref q,rfl,e1,(I.kd _).cl,(I.kd _).nP,l3,q,rfl,⟨_,gZ.of (Bc gr.ok n q _ l5)⟩,kk _ F' H' gr λi F2 O2 H2 sf k2=>?_⟩
  have hq:gZ K H2 q (cs.map V.ref):=gZ.of (k2.fh _ _ (sf _ _ (by cases n with|true=>exact aP _ _ l5|false=>exact l5)))
  refine⟨λhl=>⟨_,hq,by rw[h2.len];exact hl⟩,λx hx=>?_⟩
  obtain⟨w,hw,rw⟩:=h2.at2 hx
  refine⟨⟨_,w,hq,hw⟩,λv H3 yd=>?_⟩
  obtain⟨e,y'⟩:=yd
  subst e
  have:=(hw.symm.trans (y' _ hq))
  cases this
  exact⟨F2,.refl k2,Rp.mono (wW n sf) rw⟩
end
theorem JQ(K:PySem.W.Frag)(hl:PE X l tl)(h:X.K=K:=by rfl):PI X tg l (HF K tl):=by subst h;exact HJ hl
section
variable{K:PySem.W.Frag}{B:Bs}{sl:SL K}{md:Md}{te:TE}{α:Type}[Rp K α]
def ur{α:Type}(xs ys:List α):Option (List α):=if xs.length+ys.length<cap then some (xs++ys) else none
theorem zLs{n:Bool}{xs:List α}{m:Option (List α)}(i:Nat)(hs:sl[i]?=some (.ow n xs))(hh:sl.all (λs=>!b_ s)=true)(h:Ex B sl (iz n) te m) :
  Sn B sl (Ht (Fx K "list" Vj (cT i) (yK te aY))) (λys=>sl.set i (.ow n ys)) (m.bind λa=>ur xs a):=λys ha G D σ H s k=>by
 cases m with
 |none=>cases ha
 |some a =>
  have ha':ur xs a=some ys:=ha
  unfold ur at ha'
  split at ha'
  case isFalse=>cases ha'
  rename_i hl
  cases ha'
  obtain⟨F,O,g,z⟩:=s
  obtain⟨p,vs,h1,h2,h3,_⟩:=z.chg hs hh
  refine⟨_,h1,.inl ⟨rfl,_,aV.of h2⟩,?_⟩
  refine h a rfl F O H σ _ z λv F' H' gr r=>?_
  obtain⟨p',vs',h1',h2',h3',h4'⟩:=(z.grow gr).chg hs hh
  have e:=h1.symm.trans h1'
  cases e
  obtain⟨q,us,rfl,z1,z2⟩:=r
  obtain⟨O',z'⟩:=h4' (vs'++us) (xs++a) (h3'.app z2)
  exact⟨p,q,_,_,rfl,rfl,h2',Bc gr.ok n q _ z1,by rw[h3'.len,z2.len];exact ab8 (yw hl),k _ _ ⟨F',O',g.trans gr.ff,z'⟩⟩
end
end Ts
namespace Qn
open PySem PySem.Spec PyProof.Rows
set_option maxRecDepth 100000
section
variable{prog:Program}{w:World}{A:Around}{E:Value->Shared->Prop}{s:Shared}
variable{R:Result->Shared->Prop}
end
section
variable{prog:Program}{w:World}{A:Around}{E:Value->Shared->Prop}{s:Shared}
end
end Qn
namespace L2
open PySem PySem.Spec PyProof.Rows Qn
end L2
namespace Ts
open PySem L2
section
variable{K:PySem.W.Frag}{B:Bs}{sl:SL K}{md:Md}{t1 t2:TE}{α β:Type}[Rp K α][Rp K β]
end
open PySem L2 Sy
section
variable{K:PySem.W.Frag}
end
section
variable{K:PySem.W.Frag}{B:Bs}{sl:SL K}{md:Md}{te t1 t2:TE}
end
end Ts
namespace L2
open PySem PySem.Spec PyProof.Rows
section
variable{X:Cx}
def GD:R2:=λx y H Q=>∃i j,x=.str i/\y=.str j/\i.length+j.length<=sizeLine/\Q (.str (i++j)) H
theorem zOf:jH X (binaryOp .Add) GD:=zL0
def GF:R2:=λx y H Q=>∃z i c,x=.str z/\y=.int i/\0<=i/\i<2^63/\i<z.length/\z.cps[i.toNat]?=some c/\Q (.str ⟨#[c]⟩) H
theorem zTt(ha:PE X a ta)(hb:PE X b tb)(hs:YC b):PE X (.Subscript a b pos) (gF GF ta tb):=zI1 ha hb hs
end
end L2
namespace Ts
open PySem L2
section
variable{K:PySem.W.Frag}{B:Bs}{sl:SL K}{md:Md}{t t1 t2:TE}
def pZ(a b:Str):Option Str:=if a.length+b.length<=1000 then some (a++b) else none
theorem zPz(h1:Ex B sl .hp t1 m1)(h2:Ex B sl .hp t2 m2):Ex B sl md (gF GD t1 t2) (m1.bind λa=>m2.bind λb=>pZ a b):=λc hc F O H σ Q s k=>by
 obtain⟨a,b,ha,hb,hf⟩:=uN hc
 unfold pZ at hf
 split at hf
 case isFalse=>cases hf
 rename_i hl
 cases hf
 refine h1 a ha F O H σ _ s λv F' H' g r1=>?_
 refine h2 b hb F' O H' σ _ (s.grow g) λw F2 H2 g2 r2=>?_
 cases r1
 cases r2
 exact⟨a,b,rfl,rfl,aar hl (by decide),k _ F2 H2 (g.trans g2) rfl⟩
def Mg(z:Str)(i:Int):Option Str:=if 0<=i/\i<2^63/\i<z.length then(z.cps[i.toNat]?).map λc=>⟨#[c]⟩ else none
theorem zUc(h1:Ex B sl .hp t1 m1)(h2:Ex B sl .hp t2 m2):Ex B sl md (gF GF t1 t2) (m1.bind λa=>m2.bind λb=>Mg a b):=λc hc F O H σ Q s k=>by
 obtain⟨a,b,ha,hb,hf⟩:=uN hc
 unfold Mg at hf
 split at hf
 case isFalse=>cases hf
 rename_i hl
 cases e:a.cps[b.toNat]? with
 |none=>rw[e] at hf;cases hf
 |some z =>
  rw[e] at hf
  cases hf
  refine h1 a ha F O H σ _ s λv F' H' g r1=>?_
  refine h2 b hb F' O H' σ _ (s.grow g) λw F2 H2 g2 r2=>?_
  cases r1
  cases r2
  exact⟨a,b,z,rfl,rfl,hl.1,hl.2.1,hl.2.2,e,k _ F2 H2 (g.trans g2) rfl⟩
end
section
variable{K:PySem.W.Frag}{B:Bs}{sl:SL K}{F H H' L L':Hp}{O:Own}{σ:St}{α:Type}[Rp K α]
abbrev jq:Slot K->Bool
 |@Slot.nu _ _ _ _=>true
 |_=>false
theorem ak.Wy(h:ak B F L H sl σ O)(hn:sl.all (λs=>!b_ s&&!jq s)=true):ak B F L' H' sl σ O:=by
 induction h with
 |nil=>exact .nil
 |un _ ih=>exact .un (ih (by rw[all_cons,aah] at hn;exact hn.2))
 |fz r _ ih=>exact .fz (Rp.mono (wW _ (.refl _)) r) (ih (by rw[all_cons,aah] at hn;exact hn.2))
 |hs r _ ih=>rw[all_cons,aah] at hn;exact absurd hn.1 (by simp)
 |nu r _ ih=>rw[all_cons,aah] at hn;exact absurd hn.1 (by simp)
 |ow r _ ih=>exact .ow (r.imp λ_ _=>Rp.mono (wW _ (.refl _))) (ih (by rw[all_cons,aah] at hn;exact hn.2))
 |od r _ ih=>exact .od r (ih (by rw[all_cons,aah] at hn;exact hn.2))
end
open PySem L2 Sy
open PySem.SeqAt (EqAt RcAt RcNeAt)
section
variable{K:PySem.W.Frag}
variable{B:Bs}{sl:SL K}{md:Md}{t1 t2:TE}
end
theorem sJ{β:Type}[Rp K β]{m:Option β}(sl2:SL K)(h:SB B sl2 t al m)(e:sl=sl2:=by rfl):SB B sl t al m:=e▸h
def del(H:Hp)(p:Addr):Hp:=λb=>if b=p then none else H b
def Qo(K:PySem.W.Frag){A β:Type}[Rp K β](as:A->SL K)(f:LI->A->Option (β×LI)):Sp:=λvs H Q _ =>
 ∃(p:Addr)(ws:LI)(us:List V)(a:A)(b:β)(ws':LI)(Fa:Hp),vs=.ref p::us/\H p=some (.lst (ws.map V.int))/\Fa p=none/\Same Fa H/\f ws a=some (b,ws')/\Ar Fa (as a) us /\
  ∀v H',Same (del H p) H'->H' p=some (.lst (ws'.map V.int))->rp K (dif H' H) v b->Q v H'
section
variable{K:PySem.W.Frag}{B:Bs}{sl:SL K}{md:Md}{β:Type}[Rp K β]
def Ey(B:Bs)(sl:SL K)(md:Md)(t:TE){α S:Type}[Rp K α](L:S->SL K)(m:Option (α×S)):Prop :=
 ∀a s,m=some (a,s)->∀(F:Hp)(O:Own)(H:Hp)(σ:St)(Q:VK),At B sl F O H σ->(∀(v:V)(F':Hp)(O':Own)(H':Hp),Same F F'->At B (L s) F' O' H' σ->rp K (reg B F' H' md) v a->Q v H')->t σ H Q
end
structure RL(p:Addr) where
 ws:LI
section
variable{K:PySem.W.Frag}{B:Bs}{sl:SL K}{F H:Hp}{O:Own}{σ:St}{md:Md}{β:Type}[Rp K β]{p:Addr}{ws:LI}
instance:Rp K (RL p):=⟨λF v x=>v=.ref p/\F p=some (.lst (x.ws.map V.int)),λs ⟨h1,h2⟩=>⟨h1,s _ _ h2⟩⟩
theorem At.j_(z:At B sl F O H σ)(hs:sl[i]?=some (.nu (RL.mk (p:=p) ws)))(hh:(sl.set i .un).all (λs=>!b_ s&&!jq s)=true) :
  σ[i]?=some (some (.ref p))/\H p=some (.lst (ws.map V.int))/\B.H0 p=none/\F p=none/\(∀x∈O,x.1≠p)/\∀ws':LI,At B (sl.set i (.nu (RL.mk (p:=p) ws'))) F O (upd H p (.lst (ws'.map V.int))) σ:=by
 obtain⟨v,h1,rfl,h2⟩:=z.2.FN hs
 have b0:B.H0 p=none:=by
  cases q:B.H0 p with
  |none=>rfl
  |some u=>unfold dif at h2;rw[q] at h2;cases h2
 rw[wZ b0] at h2
 have h2':=h2
 unfold lo at h2
 split at h2
 case isTrue=>cases h2
 rename_i hlo
 have hlo':=hlo
 rw[aa5,not_or] at hlo
 have f0:F p=none:=by
  cases q:F p with
  |none=>rfl
  |some u=>exact absurd (by rw[q];rfl) hlo.1
 have o0:∀x∈O,x.1≠p:=λx hx e=>hlo.2 (any_eq_true.mpr ⟨x,hx,by simpa using e⟩)
 refine⟨h1,h2,b0,f0,o0,λws'=>⟨⟨z.1.fh.put f0 _,z.1.h0.put b0 _,z.1.fa,λx hx=>?_,z.1.nd⟩,?_⟩⟩
 ·obtain⟨a1,a2,a3⟩:=z.1.fo x hx
  exact⟨a1,a2,by rw[zJ (o0 x hx)];exact a3⟩
 ·have e:σ.set i (some (.ref p))=σ:=by
   apply ext_getElem?
   intro j
   rw[adg]
   split
   ·rename_i hij
    subst hij
    split
    ·exact h1.symm
    ·rename_i hlt
     rw[aa1 (by omega)] at h1
     cases h1
   ·rfl
  have q:=z.2.put (s':=.un) (x:=some (.ref p)) (λsl σ O h=>.un h) hs rfl
  rw[e] at q
  have q2:=q.Wy (L':=lo F O (upd H p (.lst (ws'.map V.int)))) (H':=upd H p (.lst (ws'.map V.int))) hh
  have hlt:i<sl.length:=by
   cases c:decide (i<sl.length) with
   |true=>exact of_decide_eq_true c
   |false=>rw[aa1 (by have:=of_decide_eq_false c;omega)] at hs;cases hs
  have q3:=q2.put (s:=.un) (s':=.nu (RL.mk (p:=p) ws')) (x:=some (.ref p)) (i:=i) (λsl σ O h=>.nu (by
   refine⟨rfl,?_⟩
   rw[wZ b0]
   unfold lo
   rw[if_neg hlo',zK]) h) (by rw[adg,if_pos rfl,if_pos hlt]) rfl
  rw[e,set_set] at q3
  exact q3
end
section
variable{K:PySem.W.Frag}{B:Bs}{sl:SL K}{F H:Hp}{O:Own}{σ:St}{md:Md}{α β S:Type}[Rp K α][Rp K β]{p:Addr}{ws:LI}{te:TE}{t u:TS}
def p7(B:Bs)(p:Addr)(sl:SL K)(t:TS){β:Type}[Rp K β](m:Option (β×LI)):Prop :=
 ∀b ws,m=some (b,ws)->∀(G:Hp)(D:Ends)(σ:St)(H:Hp),Sg B G sl σ H->(∀v H',Same B.H0 H'->H' p=some (.lst (ws.map V.int))->(∃F:Hp,F p=none/\Same F H'/\rp K (dif F B.H0) v b)->D.rt v H')->t D σ H
theorem p7.of{m m':Option (β×LI)}(h:p7 B p sl t m)(e:m=m'):p7 B p sl t m':=e▸h
theorem Wz{m:Option β}(i:Nat)(hs:sl[i]?=some (.nu (RL.mk (p:=p) ws)))(hh:(sl.set i .un).all (λs=>!b_ s&&!jq s)=true)(h:Ex B sl .nw te m):p7 B p sl (iw (sX te) u) (m.bind λb=>some (b,ws)):=λb ws' hb G D σ H s k=>by
 cases m with
 |none=>cases hb
 |some c =>
  obtain⟨rfl,rfl⟩:=adx (aai (show some (c,ws)=some (b,ws') from hb))
  obtain⟨F,O,g,a⟩:=s
  refine h c rfl F O H σ _ a λv F' H' gr r=>?_
  obtain⟨_,h2,_,f0,_⟩:=(a.grow gr).j_ hs hh
  exact k v H' gr.ok.h0 h2 ⟨F',f0,gr.ok.fh,r⟩
theorem zNp(hs:sl[i]?=some s):(sl.set i s')[i]?=some s':=by
 have hlt:i<sl.length:=by
  cases c:decide (i<sl.length) with
  |true=>exact of_decide_eq_true c
  |false=>rw[aa1 (by have:=of_decide_eq_false c;omega)] at hs;cases hs
 rw[adg,if_pos rfl,if_pos hlt]
theorem WD{s:Slot K}{m:Option (β×LI)}(i:Nat)(hs:sl[i]?=some s)(hh:(sl.set i .un).all (λs=>!b_ s&&!jq s)=true)(h:Ey B sl .nw te (λws'=>sl.set i (.nu (RL.mk (p:=p) ws'))) m):p7 B p sl (iw (sX te) u) m:=λb ws' hb G D σ H s k=>by
 obtain⟨F,O,g,a⟩:=s
 refine h b ws' hb F O H σ _ a λv F' O' H' sf a' r=>?_
 obtain⟨_,h2,_,f0,_⟩:=a'.j_ (zNp hs) (by rw[set_set];exact hh)
 exact k v H' a'.1.h0 h2 ⟨F',f0,a'.1.fh,r⟩
theorem WK{f:S->Option (β×LI)}(h1:Sn B sl t L m1)(h2:∀s,p7 B p (L s) u (f s)):p7 B p sl (iw t u) (m1.bind f):=λa w ha G D σ H q k=>by
 cases m1 with
 |none=>cases ha
 |some s=>exact h1 s rfl G _ σ H q λσ' H' q'=>h2 s a w ha G D σ' H' q' k
theorem T4{c:TT}{n:Option Bool}{m1 m2:Option (β×LI)}(hc:Et B sl c n)(h1:p7 B p sl t m1)(h2:p7 B p sl u m2):p7 B p sl (iw (qP c t Fe) u) (n.bind λb=>if b=true then m1 else m2):=λa w ha G D σ H s k=>by
 cases n with
 |none=>cases ha
 |some b =>
  obtain⟨F,O,g,z⟩:=s
  refine hc b rfl F O H σ _ z λF' H' gr=>?_
  cases b with
  |true=>exact jk (h1 a w (by simpa using ha) G _ σ H' (Sg.grow g z gr) k)
  |false=>exact jR (h2 a w (by simpa using ha) G D σ H' (Sg.grow g z gr) k)
theorem Cw(i:Nat)(hs:sl[i]?=some (.nu (RL.mk (p:=p) ws)))(hh:(sl.set i .un).all (λs=>!b_ s&&!jq s)=true):Ey B sl md (Io K "list" Ob (cT i)) (λws'=>sl.set i (.nu (RL.mk (p:=p) ws'))) (ws.getLast?.bind λy=>some (y,ws.dropLast)):=λb ws' hb F O H σ Q z k=>by
 cases e2:ws.getLast? with
 |none=>rw[e2] at hb;cases hb
 |some y =>
  rw[e2] at hb
  obtain⟨rfl,rfl⟩:=adx (aai (show some (y,ws.dropLast)=some (b,ws') from hb))
  obtain⟨h1,h2,b0,f0,o0,ch⟩:=z.j_ hs hh
  refine⟨_,h1,.inl ⟨rfl,_,aV.of h2⟩,p,ws.map V.int,V.int y,rfl,rfl,h2,?_,?_⟩
  ·rw[length_map,getElem?_map,<-List.getLast?_eq_getElem?,e2];rfl
  rw[<-List.map_dropLast]
  exact k _ F O _ (.refl _) (ch ws.dropLast) rfl
theorem Cy(i:Nat)(hs:sl[i]?=some (.nu (RL.mk (p:=p) ws)))(hh:(sl.set i .un).all (λs=>!b_ s&&!jq s)=true):Ex B sl md (yq (Jc K) (yK (cT i) aY)) (some (ws.length:Int)):=λd hd F O H σ Q z k=>by
 cases hd
 obtain⟨h1,h2,_⟩:=z.j_ hs hh
 refine⟨_,h1,p,_,rfl,.inl (aV.of h2),k _ F H (.refl z.1) ?_⟩
 rw[length_map]
 rfl
theorem zG7{as:SL K}(k:Nat)(hf:as.all isF=true)(r:Ar F as vs):ak B F L' H (as++replicate k .un) (vs.map some++replicate k none) []:=by
 induction r with
 |nil =>
  show ak _ _ _ _ ([]++_) ([]++_) []
  rw[nil_append,nil_append]
  induction k with
  |zero=>exact .nil
  |succ k ih=>exact .un ih
 |@cons n _ _ _ _ _ _ r _ ih =>
  rw[all_cons,aah] at hf
  cases n with
  |false=>exact .fz r (ih hf.2)
  |true=>exact absurd hf.1 (by simp)
end
section
variable{P:Program}{w:World}{K:PySem.W.Frag}{mg:Str->Option Value}{base:Heap}
theorem zQb{A β:Type}[Rp K β]{as:A->SL K}{fM:LI->A->Option (β×LI)}(F:aX K x qual st f fd)(S:ao N ps (zI st))(hf:∀a,(as a).all isF=true)(hl:∀a,(as a).length+1=ps.length)(hb:∀(cdv:Value) (A:Around) (outer:List Env) (s:Shared) (H:Hp) (E:XK),bx k (A.deeper (ac3 qual (zI st) s.heap.objs.size f cdv)) ->
   ∃t,oE (lY aN P w K mg base N qual (zI st) f cdv A outer s H E).Aa (xL st) t/\∀Fa p ws a,p7 ⟨Fa,del H p⟩ p (.nu (RL.mk (p:=p) ws)::(as a++replicate (N.length-ps.length) .un)) t (fM ws a)) :
  aq P w K mg base aN (k+1) f fd ps (Qo K as fM) :=
 F.ok S (λvs H Q E h=>by
  obtain⟨p,ws,us,a,b,ws',Fa,rfl,_,_,_,_,r,_⟩:=h
  rw[length_cons,r.len,hl]) λcdv A outer s H vs Q E hr h=>by
  obtain⟨t,pt,q⟩:=hb cdv A outer s H E hr
  refine⟨t,pt,?_⟩
  obtain⟨p,ws,us,a,b,ws',Fa,rfl,hp,fp,sf,hfa,r,kk⟩:=h
  have e:L2.start N (.ref p::us)=some (.ref p)::(us.map some++replicate (N.length-ps.length) none):=by
   unfold L2.start
   rw[length_cons,r.len,hl]
   rfl
  have d0:Same (del H p) H:=λc o e=>by
   unfold del at e
   split at e
   ·cases e
   ·exact e
  have dp:del H p p=none:=by
   unfold del
   rw[if_pos rfl]
  rw[e]
  refine q Fa p ws a b ws' hfa Fa _ _ H ⟨Fa,[],.refl _,⟨sf,d0,λb o h=>.inl h,λx hx=>(by cases hx),(by simp)⟩,.nu ⟨rfl,?_⟩ (zG7 _ (hf a) r)⟩ (λv H' s1 e1 z=>?_)
  ·rw[wZ dp]
   unfold lo
   rw[fp]
   exact hp
  ·obtain⟨F2,f2,s2,r2⟩:=z
   refine kk v H' s1 e1 (Rp.mono (λc o e=>?_) r2)
   unfold dif at e ⊢
   by_cases c1:c=p
   ·subst c1
    have e:(match del H c c with|none=>F2 c|some _=>none)=some o:=e
    rw[dp,f2] at e
    cases e
   ·have ed:del H p c=H c:=by
     unfold del
     rw[if_neg c1]
    have e:(match del H p c with|none=>F2 c|some _=>none)=some o:=e
    rw[ed] at e
    show(match H c with|none=>H' c|some _=>none)=some o
    cases hc:H c with
    |none=>rw[hc] at e;exact s2 _ _ e
    |some u=>rw[hc] at e;cases e
end
section
variable{K:PySem.W.Frag}{B:Bs}{sl:SL K}{md:Md}{α β S:Type}[Rp K α][Rp K β]{te:TE}
theorem Qp{L:S->SL K}(n:Bool)(j:Nat)(hs:∀s,∃x,(L s)[j]?=some x/\jU x=false)(h:Ey B sl (iz n) te L m):Sn B sl (m7 te (pL j)) (λr:α×S=>(L r.2).set j (.fz n r.1)) m:=λa ha G D σ H s k=>by
 obtain⟨F,O,g,z⟩:=s
 obtain⟨x,h1,h2⟩:=hs a.2
 exact h a.1 a.2 ha F O H σ _ z λv F' O' H' sf z' r=>k _ _ (Sg.set (g.trans sf) z' h1 h2 r)
end
section
variable{K:PySem.W.Frag}{B:Bs}{sl:SL K}{md:Md}{α β S:Type}[Rp K α][Rp K β]{te:TE}{p:Addr}{ws:LI}
structure Fr(p:Addr)(F H F' H':Hp):Prop where
 ff:Same F F'
 hh:∀b o,b≠p->H b=some o->H' b=some o
 nw:∀b,F b=none->H b≠none->F' b=none
theorem Fr.of(g:aR B F H O F' H'):Fr p F H F' H':=⟨g.ff,λb o _ e=>g.hh b o e,g.nw⟩
theorem Fr.trans(a:Fr p F H F1 H1)(b:Fr p F1 H1 F2 H2)(hp:H1 p≠none):Fr p F H F2 H2 :=
 ⟨a.ff.trans b.ff,λc o n e=>b.hh c o n (a.hh c o n e),λc h1 h2=>b.nw c (a.nw c h1 h2) (by
  by_cases n:c=p
  ·rw[n];exact hp
  ·cases q:H c with
   |none=>exact absurd q h2
   |some o=>rw[a.hh c o n q];intro z;cases z)⟩
def mq(B:Bs)(p:Addr)(sl:SL K)(md:Md)(t:TE){α S:Type}[Rp K α](L:S->SL K)(m:Option (α×S)):Prop :=
 ∀a s,m=some (a,s)->∀(F:Hp)(O:Own)(H:Hp)(σ:St)(Q:VK),At B sl F O H σ->(∀(v:V)(F' H':Hp),Fr p F H F' H'->At B (L s) F' O H' σ->rp K (reg B F' H' md) v a->Q v H')->t σ H Q
theorem mq.ey{L:S->SL K}{m:Option (α×S)}(h:mq B p sl md te L m):Ey B sl md te L m:=λa s e F O H σ Q z k=>h a s e F O H σ Q z λv F' H' f z' r=>k v F' O H' f.ff z' r
theorem wV{A:Type}{as:A->SL K}{f:LI->A->Option (β×LI)}{ma:Option A}(i:Nat)(hs:sl[i]?=some (.nu (RL.mk (p:=p) ws)))(hh:(sl.set i .un).all (λs=>!b_ s&&!jq s)=true)(h:Ea B sl .fz ta as ma) :
  mq B p sl md (Ld (Qo K as f) [] E0 (yK (cT i) ta)) (λws'=>sl.set i (.nu (RL.mk (p:=p) ws'))) (ma.bind λa=>f ws a):=λb ws' hc F O H σ Q z k=>by
 cases ma with
 |none=>cases hc
 |some a =>
  have hc:f ws a=some (b,ws'):=hc
  obtain⟨h1,_⟩:=z.j_ hs hh
  refine⟨_,h1,?_⟩
  refine h a rfl F O H σ _ z λus F' H' gr r=>?_
  obtain⟨_,h2,b0,f0,o0,ch⟩:=(z.grow gr).j_ hs hh
  show Qo K as f ((.ref p::us)++[]) H' Q E0
  rw[append_nil]
  refine⟨p,ws,us,a,b,ws',F',rfl,h2,f0,gr.ok.fh,hc,r,λv H2 s2 e2 r2=>?_⟩
  have z':=ch ws'
  have s3:Same (upd H' p (.lst (ws'.map V.int))) H2:=λc o e=>by
   by_cases q:c=p
   ·subst q
    rw[zK] at e
    rw[e2]
    exact e
   ·rw[zJ q] at e
    refine s2 c o ?_
    unfold del
    rw[if_neg q]
    exact e
  have g2:=z'.1.called s3
  have R8:Fr p F' H' F' (upd H' p (.lst (ws'.map V.int))):=⟨.refl _,λc o n e=>by rw[zJ n];exact e,λ_ h _=>h⟩
  have up:upd H' p (.lst (ws'.map V.int)) p≠none:=by rw[zK];intro q;cases q
  refine k v _ H2 ((Fr.of gr).trans (R8.trans (.of g2) up) (by rw[h2];intro q;cases q)) (z'.grow g2) ?_
  have d:Same (dif H2 H') (dif H2 (upd H' p (.lst (ws'.map V.int)))):=λc o e=>by
   unfold dif at e ⊢
   by_cases q:c=p
   ·subst q
    rw[h2] at e
    cases e
   ·rw[zJ q]
    exact e
  have r3:=Rp.mono (Ot (F:=F') z'.1.h0 s3) (Rp.mono d r2)
  exact match md with
  |.nw=>r3
  |.fz=>Rp.mono aP r3
  |.hp=>Rp.mono (aP.trans g2.ok.fh) r3
theorem zPp{A:Type}{as:A->SL K}{f:α×A->Option β}{ma:S->Option A}(h0:mq B p sl .hp te L m)(hL:∀s,∃(i:Nat) (ws:LI),(L s)[i]?=some (.nu (RL.mk (p:=p) ws))/\((L s).set i .un).all (λs=>!b_ s&&!jq s)=true)(h:∀s,Ea B (L s) .hp ta as (ma s)) :
  mq B p sl md (Ld (cR K false (λx:α×A=>.fz false x.1::as x.2) f) [] E0 (yK te ta)) L (m.bind λr=>(ma r.2).bind λa=>(f (r.1,a)).bind λb=>some (b,r.2)):=λc s hc F O H σ Q z k=>by
 cases m with
 |none=>cases hc
 |some r =>
  obtain⟨a,s'⟩:=r
  have hc:((ma s').bind λx=>(f (a,x)).bind λb=>some (b,s'))=some (c,s):=hc
  cases e1:ma s' with
  |none=>rw[e1] at hc;cases hc
  |some x =>
   rw[e1] at hc
   have hc:((f (a,x)).bind λb=>some (b,s'))=some (c,s):=hc
   cases e2:f (a,x) with
   |none=>rw[e2] at hc;cases hc
   |some b =>
    rw[e2] at hc
    obtain⟨rfl,rfl⟩:=adx (aai (show some (b,s')=some (c,s) from hc))
    refine h0 a s' rfl F O H σ _ z λv F1 H1 fr z1 r1=>?_
    obtain⟨i,w1,i1,i2⟩:=hL s'
    obtain⟨_,hp1,_⟩:=z1.j_ i1 i2
    refine h s' x e1 F1 O H1 σ _ z1 λvs F2 H2 gr r2=>?_
    show cR K false (λx:α×A=>.fz false x.1::as x.2) f ((v::vs)++[]) H2 Q E0
    rw[append_nil]
    refine⟨(a,x),b,H2,.refl _,e2,.cons (Rp.mono gr.hh r1) r2,λv2 H3 s3 r3=>?_⟩
    have g2:=gr.ok.called s3
    refine k v2 _ H3 (fr.trans (.of (gr.trans g2)) (by rw[hp1];intro q;cases q)) (z1.grow (gr.trans g2)) ?_
    have r4:=Rp.mono (Ot (F:=F2) gr.ok.h0 s3) r3
    exact match md with
    |.nw=>r4
    |.fz=>Rp.mono aP r4
    |.hp=>Rp.mono (aP.trans g2.ok.fh) r4
end
section
variable{K:PySem.W.Frag}{B:Bs}{sl:SL K}{md:Md}{α β S:Type}[Rp K α][Rp K β]{te:TE}{p:Addr}{ws:LI}{n n':Bool}
end
section
variable{K:PySem.W.Frag}{B:Bs}{sl:SL K}{md:Md}{α β S:Type}[Rp K α][Rp K β]{te t1 t2:TE}{p:Addr}
end
section
variable{K:PySem.W.Frag}{B:Bs}{sl:SL K}{F H:Hp}{O:Own}{σ:St}
end
structure WL(α β γ:Type) where
 a:α
 b:β
 c:γ
section
variable{K:PySem.W.Frag}{B:Bs}{sl:SL K}{md:Md}{n:Bool}{α β γ S:Type}[Rp K α][Rp K β][Rp K γ]{te t1 t2 t3:TE}
instance:Rp K (WL α β γ):=⟨λF v x=>∃p u w z,v=.ref p/\F p=some (.tup [u,w,z])/\rp K F u x.a/\rp K F w x.b/\rp K F z x.c,λs ⟨p,u,w,z,h1,h2,h3,h4,h5⟩=>⟨p,u,w,z,h1,s _ _ h2,Rp.mono s h3,Rp.mono s h4,Rp.mono s h5⟩⟩
instance:Nn K (WL α β γ):=⟨λ⟨_,_,_,_,h,_⟩=>by rw[h];intro e;cases e⟩
end
section
variable{K:PySem.W.Frag}{B:Bs}{sl:SL K}{md:Md}{te:TE}
theorem JR{mi:Option LI}(h:Ex B sl .hp te mi):Eo B sl md (Oh 1 [] (Cq K (yK te aY)) (pL 0) tQ (cT 0)) (mi.bind λus=>if us.length<cap then some us.reverse else none):=λzs hz F O H σ Q a k=>by
 cases mi with
 |none=>cases hz
 |some us =>
  have hz:(if us.length<cap then some us.reverse else none)=some zs:=hz
  split at hz
  case isFalse=>cases hz
  rename_i hcap
  cases hz
  refine h us rfl F O H σ _ a λv F' H' gr r=>?_
  obtain⟨p,vs,rfl,h1,h2⟩:=r
  have h1:H' p=some (.lst vs):=h1
  have ev:vs=us.map V.int:=A2.pQ h2
  have hl:vs.length=us.length:=h2.len
  refine⟨p,vs,rfl,aV.of h1,zS3 (xs:=vs) (λi ys σ2 H2=>H2=H'/\(∃v,σ2=[v])/\ys=vs.reverse.take i) ⟨rfl,⟨none,rfl⟩,rfl⟩ (λi ys σ2 H2 hi ⟨e1,_,e2⟩=>?_) (by rw[hl];exact yw hcap) (λi x ys σ2 H2 hx hi ⟨e1,⟨v,e2⟩,e3⟩=>?_) (λys σ2 H2 ⟨e1,_,e3⟩ q hq=>?_)⟩
  ·subst e1
   exact⟨aV.of h1,by rw[e2,length_take];exact Nat.min_le_left _ _⟩
  ·subst e1
   subst e2
   subst e3
   refine(jk ?_:if true=true then _ else cT 0 [some x] H2 (λ_ _=>False))
   refine⟨x,rfl,rfl,⟨some x,rfl⟩,?_⟩
   rw[take_add_one,List.getElem?_reverse hi,hx]
   rfl
  ·subst e1
   subst e3
   refine k q _ F' H2 gr hq ?_
   rw[<-List.length_reverse,take_length,ev]
   exact(A2.of_map (R:=rp K (reg B F' H2 md)) (f:=V.int) (λ_=>rfl) us).rev
end
def Cz(us:LI):Option LI:=if us.length<cap then some us.reverse else none
section
variable{K:PySem.W.Frag}{B:Bs}{sl sl2:SL K}{md:Md}{te:TE}{t:TS}{β:Type}[Rp K β]{p:Addr}
theorem zSx{m:Option Oo}{mi:Option Int}{ti:TE}(h:Ex B sl .hp te m)(hi:Ex B sl .hp ti mi):Eo B sl md (Vd (Aw K) te Vb (tE ti)) (m.bind λxs=>mi.bind λi=>some (mj xs.ns none (some i))):=λc hc F O H σ Q s k=>by
 obtain⟨xs,i,hx,hi',hc⟩:=uN hc
 cases hc
 refine h xs hx F O H σ _ s λv F' H' g r=>?_
 refine hi i hi' F' O H' σ _ (s.grow g) λu F2 H2 g2 r2=>?_
 have r2:u=.int i:=r2
 obtain⟨p,rfl,z1⟩:=r
 exact⟨i,r2,p,xs.ns.map V.int,rfl,g2.hh.seq z1,λl hl=>k l _ F2 H2 (g.trans g2) hl ((A2.of_map (R:=rp K (reg B F2 H2 md)) (f:=V.int) (λ_=>rfl) xs.ns).cut _ _)⟩
theorem CG(h:Ex B sl .hp te mi):Eo B sl md (Oh 1 [] (Cq K (yK te aY)) (pL 0) tQ (cT 0)) (mi.bind λus=>Cz us):=JR h
theorem JT(K:PySem.W.Frag){X:Cx}(hm:X.mg "reversed" = none)(ha:PA X [a] ta)(h:X.K=K:=by rfl)(hg:Gl X "reversed":=by rfl)(hs:starEach [a] X.env=[(false,eval a X.env)]:=by rfl):PI X tg (.Call (.Name "reversed" q) [a] [] pos) (Cq K ta):=by subst h;exact JL hg hm ha hs
theorem WM{m:Option (β×LI)}(sl2:SL K)(h:p7 B p sl2 t m)(e:sl=sl2:=by rfl):p7 B p sl t m:=e▸h
end
section
variable{K:PySem.W.Frag}{B:Bs}{sl:SL K}{F H:Hp}{O:Own}{σ:St}{t u:TS}{al:Bool}{α β S A A1 A2:Type}[Rp K α][Rp K β]{b:β}
end
end Ts
namespace L2
open PySem PySem.Spec PyProof.Rows
section
variable{X:Cx}
theorem zJ0:∀{ts:List Str}{its:List Value},Vals (ts.map V.str) its->∃l:List (Str×Tok),its=strValues l/\l.map (·.1)=ts
 |[],[],_=>⟨[],rfl,rfl⟩
 |x::ts,_::its,h=>by
  cases h with
  |cons r t =>
   obtain⟨k,rfl⟩:=r
   obtain⟨l,e1,e2⟩:=zJ0 t
   exact⟨(x,k)::l,by rw[e1]<;>rfl,by rw[map_cons,e2]⟩
def rJoin(K:PySem.W.Frag):V->List V->Hp->VK->Prop:=λx vs H Q=>∃(sep:Str)(p:Addr)(ts:List Str),x=.str sep/\vs=[.ref p]/\aV K H p (ts.map V.str)/\JoinOk sep ts=true/\Q (.str (Txt.join sep ts)) H
theorem zOt(K:PySem.W.Frag)(hK:X.K=K:=by rfl):Lf X "str.join" (rJoin K):=by
 subst hK
 intro pins s σ H x vs v us Q I rx rv h
 obtain⟨sep,p,ts,rfl,rfl,hq,hok,q⟩:=h
 obtain⟨t,rfl⟩:=rx
 obtain⟨u,rfl,ru⟩:=rv.one
 cases ru
 obtain⟨its,r,pl,hz⟩:=I.list hq
 obtain⟨l,e1,e2⟩:=zJ0 r
 have hl:=pl.isList
 rw[e1] at hl
 exact SC.join hl e2 hok λt' k=>⟨.str (Txt.join sep ts),H,I.tok k,⟨t',rfl⟩,q⟩
theorem CJ{sep:Str}(h:∀y∈ts,y.length<=n)(hl:ts.length*n+ts.length*sep.length<=16777216):JoinOk sep ts=true:=by
 unfold JoinOk
 rw[StrLaws.joinFits h hl]
 rfl
end
end L2
namespace Ts
open PySem L2
open PySem.SeqAt (EqAt RcAt RcNeAt)
def GJ(sep:Str)(ts:List Str):Option Str:=if JoinOk sep ts=true then some (Txt.join sep ts) else none
section
variable{K:PySem.W.Frag}{B:Bs}{sl:SL K}{md:Md}{te t1 t2:TE}{α β γ δ:Type}[Rp K α][Rp K β][Rp K γ][Rp K δ]
theorem zPv(sep:Str)(h:Ex B sl .hp te m):Ex B sl md (Fx K "str" (rJoin K) (tC (.str sep)) (yK te aY)) (m.bind (GJ sep)):=λc hc F O H σ Q s k=>by
 cases m with
 |none=>cases hc
 |some ts =>
  have hc:GJ sep ts=some c:=hc
  unfold GJ at hc
  split at hc
  case isFalse=>cases hc
  rename_i hok
  cases hc
  refine⟨rfl,h ts rfl F O H σ _ s λv F' H' g r=>?_⟩
  obtain⟨p,vs,rfl,z1,z2⟩:=r
  have ev:vs=ts.map V.str:=z2.vals
  subst ev
  exact⟨sep,p,ts,rfl,rfl,aV.of z1,hok,k _ F' H' g rfl⟩
end
section
variable{K:PySem.W.Frag}{α β γ:Type}[Rp K α][DecidableEq α][Eqv K α][Rp K β][DecidableEq β][Eqv K β][Rp K γ][DecidableEq γ][Eqv K γ]{X:Cx}{pins:List (Addr×Obj)}{σ:St}{H:Hp}{s:Shared}{A:Around}{a b:WL α β γ}{p p':Addr}{v1 v2 v3 w1 w2 w3:V}
end
section
variable{K:PySem.W.Frag}{B:Bs}{sl:SL K}{md:Md}{te:TE}{β S:Type}[Rp K β]{p:Addr}{ws:LI}{g:TG}{tb:TS}
end
section
variable{K:PySem.W.Frag}{B:Bs}{sl slE slW:SL K}{md:Md}{te:TE}{F F' H H' L L':Hp}{O:Own}{σ:St}{α β γ:Type}[Rp K α][Rp K β][Rp K γ]
inductive oY:SL K->Prop
 |nil:oY []
 |nu {a:SL K}:oY a->oY (.nu (Bu.mk ())::a)
 |oth {s:Slot K} {a:SL K}:Z2 s=false->oY a->oY (s::a)
inductive Qq:SL K->SL K->SL K->Prop
 |nil:Qq [] [] []
 |nu {α:Type} [Rp K α] [IsL K α] {x:α} {a b c:SL K}:Qq a b c->Qq (.nu x::a) (.fz true x::b) (.nu (Bu.mk ())::c)
 |oth {s:Slot K} {a b c:SL K}:Z2 s=false->jU s=false->Qq a b c->Qq (s::a) (.un::b) (s::c)
end
end Ts
namespace L2
open PySem PySem.Spec PyProof.Rows
section
variable{X:Cx}
end
end L2
namespace Ts
open PySem L2
section
variable{K:PySem.W.Frag}{mg:Str->Option Value}{B:Bs}{sl:SL K}{md:Md}{te t1 t2:TE}{C:Addr}{α β γ S:Type}[Rp K α][Rp K β][Rp K γ]{u:TS}{al:Bool}
theorem JV{f:β->γ->Option α}[Sc K α]{m2:S->Option γ}(hr:∀(a:β) (b:γ) (c:α) (v w:V) (H:Hp) (Q:VK),f a b=some c->rp K H v a->rp K H w b->Q (Sc.val K c) H->r v w H Q)(h1:mq B p sl .hp t1 L m1)(hL:∀s,∃(i:Nat) (ws:LI),(L s)[i]?=some (.nu (RL.mk (p:=p) ws))/\((L s).set i .un).all (λs=>!b_ s&&!jq s)=true)(h2:∀s,Ex B (L s) .hp t2 (m2 s)):mq B p sl md (gF r t1 t2) L (m1.bind λq=>(m2 q.2).bind λb=>(f q.1 b).bind λc=>some (c,q.2)):=λc s hc F O H σ Q z k=>by
 cases m1 with
 |none=>cases hc
 |some q =>
  obtain⟨a,s'⟩:=q
  have hc:((m2 s').bind λb=>(f a b).bind λc=>some (c,s'))=some (c,s):=hc
  cases e1:m2 s' with
  |none=>rw[e1] at hc;cases hc
  |some b =>
   rw[e1] at hc
   have hc:((f a b).bind λc=>some (c,s'))=some (c,s):=hc
   cases e2:f a b with
   |none=>rw[e2] at hc;cases hc
   |some d =>
    rw[e2] at hc
    obtain⟨rfl,rfl⟩:=adx (aai (show some (d,s')=some (c,s) from hc))
    refine h1 a s' rfl F O H σ _ z λv F1 H1 fr z1 r1=>?_
    obtain⟨i,w1,i1,i2⟩:=hL s'
    obtain⟨_,hp1,_⟩:=z1.j_ i1 i2
    refine h2 s' b e1 F1 O H1 σ _ z1 λw F2 H2 gr r2=>?_
    exact hr a b d v w H2 Q e2 (Rp.mono gr.hh r1) r2 (k _ F2 H2 (fr.trans (.of gr) (by rw[hp1];intro q;cases q)) (z1.grow gr) (Sc.is.mpr rfl))
theorem CK{m2:S->Option Int}(h1:mq B p sl .hp t1 L m1)(hL:∀s,∃(i:Nat) (ws:LI),(L s)[i]?=some (.nu (RL.mk (p:=p) ws))/\((L s).set i .un).all (λs=>!b_ s&&!jq s)=true)(h2:∀s,Ex B (L s) .hp t2 (m2 s)) :
  mq B p sl md (gF (rI (λ_ j=>0<j) λi j=>.int (i%j)) t1 t2) L (m1.bind λq=>(m2 q.2).bind λb=>(cL q.1 b).bind λc=>some (c,q.2)) :=
 JV (f:=cL) (λa b c v w H Q e r1 r2 q=>by
  unfold cL at e
  split at e
  case isFalse=>cases e
  rename_i hc
  cases e;cases r1;cases r2
  exact⟨a,b,rfl,rfl,hc,q⟩) h1 hL h2
theorem zRm{n:Bool}{ws:LI}{m:Option β}(i:Nat)(hs:sl[i]?=some (.ow n ws))(hh:sl.all (λs=>!b_ s)=true)(h:∀p,SB B (sl.set i (.nu (RL.mk (p:=p) ws))) u al m):SB B sl u al m:=λb hb G D σ H s k=>by
 obtain⟨F,O,g,k0,z0⟩:=s
 obtain⟨O1,O2,p,vs,rfl,h1,h2,_,h4⟩:=z0.jK hs
 obtain⟨a1,a2,a3⟩:=k0.one
 have ev:vs=ws.map V.int:=A2.pQ h2
 subst ev
 have nd:=k0.Vw
 have hlo:lo F (O1++O2) H p=some (.lst (ws.map V.int)):=by rw[Gf a1 nd];exact a3
 have z:=h4 .un (some (.ref p)) λ_ _ _ y=>.un y
 rw[wM h1] at z
 have z2:ak B F (lo F (O1++O2) H) H (sl.set i .un) σ (O1++O2):=z.mono (.refl _) gG (.refl _)
 have hi:i<sl.length:=(aaj.mp hs).1
 have z3:=z2.put (i:=i) (s:=.un) (s':=.nu (RL.mk (p:=p) ws)) (x:=some (.ref p)) (λ_ _ _ y=>.nu (show V.ref p=.ref p/\dif (lo F (O1++O2) H) B.H0 p=some (.lst (ws.map V.int)) from⟨rfl,by rw[wZ a2];exact hlo⟩) y) (by rw[getElem?_set_self hi]) rfl
 rw[set_set,wM h1] at z3
 exact h p b hb G D σ H ⟨F,O1++O2,g,k0.drop,z3⟩ k
end
end Ts
namespace L2
open PySem PySem.Spec PyProof.Rows
section
variable{X:Cx}{pins:List (Addr×Obj)}{σ:St}{H:Hp}{s:Shared}
theorem Inv.WQ(I:Inv X pins σ H s)(hH:H a=some (.dK ks)):∃o,Inv X pins σ (upd H a (.fU o (.dK ks))) s:=by
 have ok:aQ X.prog X.w H s.heap a (.dK ks):=I.hok a _ hH
 obtain⟨_,_,vs,_,o,es,ep,e,_⟩:=id ok
 exact⟨o,I.write (t':=s.toks) (h':=s.heap) (x:=a) (e:=a) (o:=.fU o (.dK ks)) (by rw[hH];trivial) (.inl rfl) (λb u _ q=>q) ⟨o,e⟩ ⟨e,ok⟩⟩
def Qs(i:Nat)(t:TS):TS:=λD σ H=>∃(a:Addr)(ks:List (Key×V)),σ[i]?=some (some (.ref a))/\H a=some (.dK ks)/\∀o,t D σ (upd H a (.fU o (.dK ks)))
theorem JW{st:Stmt}{t:TS}(i:Nat)(h:PS X st t):PS X st (Qs i t):=by
 intro pins s σ H D I hq
 obtain⟨a,ks,_,e2,q⟩:=hq
 obtain⟨o,I'⟩:=I.WQ e2
 exact h pins s σ _ D I' (q o)
end
def Qt(a:Addr)(o:Obj)(ks:List (Key×V)):It:=⟨λi H=>i<ks.length/\H a=some (.fU o (.dK ks)),λi H x H'=>H'=H/\∃k v,ks[i]?=some (k,v)/\x=kV k,λi H=>ks.length<=i/\H a=some (.fU o (.dK ks))⟩
theorem WR(ok:fV P w H h)(e:H a=some (.fU o (.dK ks)))(Gx:∃es,o.data=.dict es ep):(a==sysModules)=false/\∃vs,KV ks vs/\h.DictAt (xQ P w) a vs ep:=by
 obtain⟨e1,_,lo,vs,r,o',es,ep',e2,e3,e4,e5⟩:=(show aQ P w H h a (.fU o (.dK ks)) from ok a _ e)
 have eo:o=o':=aai (e1.symm.trans e2)
 subst eo
 obtain⟨es',h'⟩:=Gx
 have ee:Data.dict es ep'=Data.dict es' ep:=e4.symm.trans h'
 cases ee
 exact⟨lo,vs,r,o,es,e2,e3,e4,e5⟩
theorem CN(h:(xQ P w).is k u=true):RelV (kV k) u:=by
 rcases yP (k:=k) (v:=u) h with⟨i,t,rfl,rfl⟩|⟨x,t,rfl,rfl⟩
 ·exact⟨t,rfl⟩
 ·exact⟨t,rfl⟩
theorem KV.len{ks:List (Key×V)}{vs:List (Key×Value)}(r:KV ks vs):vs.length=ks.length:=r.length.symm
theorem zNb{P:Program}{w:World}{K:PySem.W.Frag}{tg:Expr}(a it:Addr)(o:Obj)(ks:List (Key×V))(ep:Nat)(Gx:∃es,o.data=.dict es ep):Turn P w K tg (Qt a o ks) [it] it (λi h=>h.IsKeyIter it a i ks.length ep) where
 mem:=mem_singleton.mpr rfl
 obj:=λi h st b hb=>by
  have e:b=it:=mem_singleton.mp hb
  subst e
  obtain⟨o,ho,hc,hd⟩:=st
  refine⟨o,ho,λv z=>?_⟩
  rw[hd] at z
  cases z
 keep:=λi h h' st k=>by
  obtain⟨o,ho,r⟩:=st
  exact⟨o,k it (mem_singleton.mpr rfl) _ ho,r⟩
 item:=by
  intro X hP hw hK hc i pins s σ H E I hf st hg
  subst hP hw hK
  obtain⟨hi,e⟩:=hg
  obtain⟨_,vs,r,dd⟩:=WR I.hok e Gx
  obtain⟨f0,f1,f2,f3,f4,f5⟩:=hf it (mem_singleton.mpr rfl)
  have l:=r.len
  have hx:vs[i]?=some vs[i]:=aaf (by omega)
  have key:(ks.map (·.1))[i]?=some vs[i].1:=by rw[r.Jj,getElem?_map,hx];rfl
  rw[getElem?_map,aaf hi] at key
  have key:ks[i].1=vs[i].1:=aai key
  refine wpAny_pyNext_dict_item (k:=vs[i].1) (v:=vs[i].2) (by rw[l];exact st) dd hx λu h' hu st' sb=>?_
  have I1:Inv X pins σ H { s with heap:=h' }:=I.turned (t':=s.toks) (λb o hb e=>(sb.2 b hb).trans e) f0 f1 f3 f4 f5
  rw[l] at st'
  obtain⟨o',ho',hc',hd'⟩:=id st'
  exact⟨u,rfl,HD (s:={ s with heap:=h' }) ho' hc' hd' (by decide) ⟨kV vs[i].1,H,I1,CN hu,⟨rfl,ks[i].1,ks[i].2,aaf hi,by rw[key]⟩,st',λb hb=>(hf b hb).1⟩⟩
 done:=by
  intro X hP hw hK hc i pins s σ H E I hf st hg
  subst hP hw hK
  obtain⟨hi,e⟩:=hg
  obtain⟨_,vs,r,dd⟩:=WR I.hok e Gx
  obtain⟨f0,f1,f2,f3,f4,f5⟩:=hf it (mem_singleton.mpr rfl)
  have l:=r.len
  exact wpAny_pyNext_dict_end (I.ok.hd hc) (by rw[l];exact st) dd (aa1 (by omega)) λh' eb=>⟨rfl,I.turned (t':=s.toks) (λb o hb e=>eb b o hb e) f0 f1 f3 f4 f5⟩
 self:=λ_ _ _ _ _ st h=>wpAny_pyIter_keyiter st h
section
variable{X:Cx}{tg:Expr}
def iDz(tl:TE):TI:=λσ H R=>tl σ H λx H1=>∃(a:Addr)(o:Obj)(ks:List (Key×V)),x=.ref a/\H1 a=some (.fU o (.dK ks))/\R (Qt a o ks) H1
theorem CP(hl:PE X l tl):PI X tg l (iDz tl):=by
 intro pins s σ H R I h
 refine aL (hl pins s σ H _ I h) λv s1 ⟨x,H1,I1,r1,q1⟩=>?_
 obtain⟨a,o,ks,e,hH,q⟩:=q1
 subst e
 cases r1
 have ok:aQ X.prog X.w H1 s1.heap a (.fU o (.dK ks)):=I1.hok a _ hH
 obtain⟨e1,_,_,_,_,o',es,ep,e2,_,e4,_⟩:=id ok
 have eo:o=o':=aai (e1.symm.trans e2)
 subst eo
 obtain⟨lo,vs,r,dd⟩:=WR I1.hok hH ⟨es,e4⟩
 have l:=r.len
 refine wpAny_pyIter_dict lo dd ⟨s1.heap.objs.size,[s1.heap.objs.size],_,_,H1,rfl,I1.kept (t':=s1.toks) λb o e=>get?_push_of_some _ e,zNb a _ o ks ep ⟨es,e4⟩,⟨_,get?_push_size _ rfl,rfl,by rw[l];rfl⟩,λb hb=>?_,q⟩
 have e:b=s1.heap.objs.size:=mem_singleton.mp hb
 subst e
 exact I1.ji (aag _) (I1.hok.fresh (aag _))
end
end L2
namespace Ts
open PySem L2
structure Dz(α:Type) where
 kv:List (Key×α)
section
variable{K:PySem.W.Frag}{α:Type}[Rp K α]{B:Bs}{sl:SL K}{md:Md}{t t2:TE}{u:TS}{S:Type}
instance:Rp K (Dz α):=⟨λF v d=>∃p ks o,v=.ref p/\F p=some (.fU o (.dK ks))/\A2 (DR K F) ks d.kv,λs ⟨p,ks,o,h1,h2,h3⟩=>⟨p,ks,o,h1,s _ _ h2,h3.imp λ_ _ z=>⟨z.1,Rp.mono s z.2⟩⟩⟩
theorem JX{kvs:List (Key×α)}{L:S->SL K}{m:Option S}(i:Nat)(hs:sl[i]?=some (.od kvs))(hh:sl.all (λs=>!b_ s)=true)(h:Sn B (sl.set i (.fz false (Dz.mk kvs))) u L m):Sn B sl (Qs i u) L m:=λa ha G D σ H q k=>by
 obtain⟨F,O,g,k0,z0⟩:=q
 obtain⟨O1,O2,p,ks,rfl,h1,h2,_,h4⟩:=z0.tW hs
 obtain⟨a1,a2,a3⟩:=k0.one
 refine⟨p,ks,h1,a3,λo=>h a ha G D σ _ ⟨upd F p (.fU o (.dK ks)),O1++O2,g.trans (aJ a1 _),(k0.chg (.fU o (.dK ks))).freeze,?_⟩ k⟩
 have z:=h4 .un (some (.ref p)) λ_ _ _ y=>.un y
 rw[wM h1] at z
 have z2:ak B F (lo F (O1++(p,.fU o (.dK ks))::O2) (upd H p (.fU o (.dK ks)))) (upd H p (.fU o (.dK ks))) (sl.set i .un) σ (O1++O2):=z.mut Vx (Lj rfl hh)
 have sf:Same F (upd F p (.fU o (.dK ks))):=aJ a1 _
 have z3:=z2.mono sf (jl (p:=p) (o:=.fU o (.dK ks))) (.refl _)
 have hi:i<sl.length:=(aaj.mp hs).1
 have z4:=z3.put (i:=i) (s:=.un) (s':=.fz false (Dz.mk kvs)) (x:=some (.ref p)) (λ_ _ _ y=>.fz (show∃p' ks' o',V.ref p=.ref p'/\upd F p (.fU o (.dK ks)) p'=some (.fU o' (.dK ks'))/\A2 (DR K (upd F p (.fU o (.dK ks)))) ks' kvs from⟨p,ks,o,rfl,zK,h2.imp λ_ _ z=>⟨z.1,Rp.mono sf z.2⟩⟩) y) (by rw[getElem?_set_self hi]) rfl
 rw[set_set,wM h1] at z4
 exact z4
theorem CQ(k:Ok B F' O H')(md:Md):Same (reg B F' H' md) H':=match md with
 |.nw=>aP.trans k.fh
 |.fz=>k.fh
 |.hp=>.refl _
theorem CT{m:Option Str}{m2:Option (Dz α)}(h:Ex B sl .hp t m)(h2:Ex B sl .hp t2 m2):Ex B sl md (Ao t t2) (m.bind λk=>m2.bind λd=>some (xC d.kv k).isSome):=λc hc F O H σ Q s kk=>by
 obtain⟨k,d,e1,e2,e3⟩:=uN hc
 cases e3
 refine h k e1 F O H σ _ s λv F' H' g r1=>?_
 refine h2 d e2 F' O H' σ _ (s.grow g) λw F2 H2 g2 r2=>?_
 cases r1
 obtain⟨p,ks,o,rfl,z1,z2⟩:=r2
 refine⟨p,_,rfl,.inl ⟨ks,aay k,.inr ⟨o,z1⟩,rfl,rfl⟩,?_⟩
 have e:(fK ks (aay k:Key)).isSome=(xC d.kv k).isSome:=by
  rcases z2.val (k:=aay k) with⟨q1,q2⟩|⟨a,v,q1,q2,_⟩
  ·show _=(gK d.kv (aay k)).isSome;rw[q1,q2];rfl
  ·show _=(gK d.kv (aay k)).isSome;rw[q1,q2];rfl
 rw[e]
 exact kk _ F2 H2 (g.trans g2) rfl
theorem zKu{m:Option (Dz α)}{m2:Option Str}(h:Ex B sl md t m)(h2:Ex B sl .hp t2 m2):Ex B sl md (Fw t t2) (m.bind λd=>m2.bind λk=>xC d.kv k):=λc hc F O H σ Q s kk=>by
 obtain⟨d,k,e1,e2,e3⟩:=uN hc
 refine h d e1 F O H σ _ s λv F' H' g r1=>?_
 refine h2 k e2 F' O H' σ _ (s.grow g) λw F2 H2 g2 r2=>?_
 cases r2
 obtain⟨p,ks,o,rfl,z1,z2⟩:=r1
 have hle:=(CQ g.ok md).trans g2.hh
 have e3:gK d.kv (aay k)=some c:=e3
 rcases z2.val (k:=aay k) with⟨q1,q2⟩|⟨a,v,q1,q2,q3⟩
 ·rw[q1] at e3
  cases e3
 ·rw[q1] at e3
  cases e3
  exact⟨p,v,rfl,.inl ⟨ks,aay k,.inr ⟨o,hle _ _ z1⟩,rfl,q2.symm⟩,kk v F2 H2 (g.trans g2) (Rp.mono (yD g2 md) q3)⟩
def zj:List (Key×α)->Option (List Str)
 |[]=>some []
 | (.inr x,_)::r=>(zj r).bind λys=>some (x::ys)
 |_=>none
theorem zKp:∀{kvs:List (Key×α)}{xs:List Str},zj kvs=some xs->xs.length=kvs.length/\∀(i:Nat) x,xs[i]?=some x->∃a,kvs[i]?=some (.inr x,a)
 |[],xs,h=>by cases h;exact⟨rfl,λi x e=>by simp at e⟩
 | (.inr y,a)::r,xs,h=>by
  have h:((zj r).bind λys=>some (y::ys))=some xs:=h
  cases e:zj r with
  |none=>rw[e] at h;cases h
  |some ys =>
   rw[e] at h
   cases h
   obtain⟨l,q⟩:=zKp e
   refine⟨by rw[length_cons,length_cons,l],λi x hx=>?_⟩
   cases i with
   |zero=>cases hx;exact⟨a,rfl⟩
   |succ i=>exact q i x hx
 | (.inl y,a)::r,xs,h=>by cases h
theorem Qu{n:Bool}{m:Option (Dz α)}(h:Ex B sl .fz t m):Ei B sl n (iDz t) (m.bind λd=>zj d.kv):=λxs hx F O H σ R a k=>by
 cases m with
 |none=>cases hx
 |some d =>
  have hx:zj d.kv=some xs:=hx
  obtain⟨hl,hk⟩:=zKp hx
  refine h d rfl F O H σ _ a λv F' H' gr r=>?_
  obtain⟨p,ks,o,rfl,z1,z2⟩:=r
  have z1:F' p=some (.fU o (.dK ks)):=z1
  refine⟨p,o,ks,rfl,gr.ok.fh _ _ z1,k _ F' H' gr λi F2 O2 H2 sf k2=>?_⟩
  have hq:H2 p=some (.fU o (.dK ks)):=k2.fh _ _ (sf _ _ z1)
  have hl2:=z2.len
  refine⟨λq=>⟨by omega,hq⟩,λx hx=>?_⟩
  obtain⟨b,e1⟩:=hk i x hx
  obtain⟨y,e2,e3⟩:=z2.at2 e1
  refine⟨⟨(aaj.mp e2).1,hq⟩,λv H3 yd=>?_⟩
  obtain⟨rfl,k',v',y1,rfl⟩:=yd
  have:=e2.symm.trans y1
  cases this
  have e4:k'=aay x:=e3.1
  subst e4
  exact⟨F2,.refl k2,rfl⟩
end
end Ts
namespace Sy
open PySem L2 Ts
inductive bO(H:Hp):V->Tr->Prop where
 |all {a:Addr}:H a=some (.tup [.str "all"])->bO H (.ref a) .all
 |mark {a:Addr} {x:Str}:H a=some (.tup [.str "mark",.str x])->bO H (.ref a) (.mark x)
 |one {a:Addr} {i:Fin 6} {v:V} {t:Tr}:H a=some (.tup [.str (w1 i),v])->bO H v t->bO H (.ref a) (.one i t)
 |two {a:Addr} {i:Fin 4} {v u:V} {l r:Tr}:H a=some (.tup [.str (w2 i),v,u])->bO H v l->bO H u r->bO H (.ref a) (.two i l r)
theorem bO.mono(h:bO H v t)(k:∀a xs,H a=some (.tup xs)->H' a=some (.tup xs)):bO H' v t:=by
 induction h with
 |all h=>exact .all (k _ _ h)
 |mark h=>exact .mark (k _ _ h)
 |one h _ ih=>exact .one (k _ _ h) ih
 |two h _ _ ih1 ih2=>exact .two (k _ _ h) ih1 ih2
theorem bO.same(h:bO H v t)(s:Same H H'):bO H' v t:=h.mono λa xs e=>s a _ e
inductive Itm where
 |s (x:Str)
 |t (t:Tr)
def items:Tr->List Itm
 |.all=>[.s "all"]
 |.mark x=>[.s "mark",.s x]
 |.one i t=>[.s (w1 i),.t t]
 |.two i l r=>[.s (w2 i),.t l,.t r]
end Sy
namespace Ts
open PySem L2 Sy
structure gj where
 t:Tr
def Mh(x:gj):Option Str:=match x.t with
 |.mark s=>some s
 |_=>none
def CV(x:gj):Option gj:=match x.t with
 |.one _ t=>some ⟨t⟩
 |.two _ l _=>some ⟨l⟩
 |_=>none
def JZ(x:gj):Option gj:=match x.t with
 |.two _ _ r=>some ⟨r⟩
 |_=>none
def CW(x:Str)(l r:gj):Option gj:=if x = "both" then some ⟨.two 0 l.t r.t⟩ else if x = "either" then some ⟨.two 1 l.t r.t⟩ else none
def kh:Tr->Str
 |.all=>"all"
 |.mark _=>"mark"
 |.one i _=>w1 i
 |.two i _ _=>w2 i
section
variable{K:PySem.W.Frag}{B:Bs}{sl:SL K}{md:Md}{t0 t1 t2 te:TE}{p:Addr}{S:Type}{n:Bool}
instance:Rp K gj:=⟨λF v x=>bO F v x.t,λs h=>h.same s⟩
theorem hdT(h:bO H v t):∃(a:Addr)(vs:List V),v=.ref a/\H a=some (.tup (.str (kh t)::vs)):=by
 cases h with
 |all h1=>exact⟨_,_,rfl,h1⟩
 |mark h1=>exact⟨_,_,rfl,h1⟩
 |one h1 _=>exact⟨_,_,rfl,h1⟩
 |two h1 _ _=>exact⟨_,_,rfl,h1⟩
theorem GK{m:Option gj}(h1:Ex B sl .hp t1 m)(h2:Ex B sl .hp t2 (some (0:Int))):Ex B sl md (gF (qU K) t1 t2) (m.bind λx=>some (kh x.t)):=λc hc F O H σ Q s k=>by
 cases m with
 |none=>cases hc
 |some x =>
  cases(show some (kh x.t)=some c from hc)
  refine h1 x rfl F O H σ _ s λv F' H' g r1=>?_
  refine h2 0 rfl F' O H' σ _ (s.grow g) λw F2 H2 g2 r2=>?_
  cases r2
  have r1:bO H' v x.t:=r1
  obtain⟨a,vs,rfl,e⟩:=hdT r1
  exact⟨a,_,0,.str (kh x.t),rfl,rfl,gZ.of (g2.hh _ _ e),Vf (xs:=V.str (kh x.t)::vs) (j:=0) rfl,k _ F2 H2 (g.trans g2) rfl⟩
theorem WT(h1:Ex B sl .hp t1 m)(h2:Ex B sl .hp t2 (some (1:Int))):Ex B sl md (gF (qU K) t1 t2) (m.bind λx=>Mh x):=λc hc F O H σ Q s k=>by
 cases m with
 |none=>cases hc
 |some x =>
  have hc:Mh x=some c:=hc
  refine h1 x rfl F O H σ _ s λv F' H' g r1=>?_
  refine h2 1 rfl F' O H' σ _ (s.grow g) λw F2 H2 g2 r2=>?_
  cases r2
  have r1:bO H' v x.t:=r1
  unfold Mh at hc
  generalize x.t=t at r1 hc
  cases r1 with
  |@mark a y e =>
   cases hc
   exact⟨a,_,1,.str _,rfl,rfl,gZ.of (g2.hh _ _ e),rfl,k _ F2 H2 (g.trans g2) rfl⟩
  |all _=>cases hc
  |one _ _=>cases hc
  |two _ _ _=>cases hc
theorem Qv(k:Ok B F' O H')(s:Same H' H2):Same (reg B F' H' md) H2:=(match md with
 |.nw=>aP.trans k.fh
 |.fz=>k.fh
 |.hp=>.refl _:Same (reg B F' H' md) H').trans s
theorem Mi(h1:Ex B sl md t1 m)(h2:Ex B sl .hp t2 (some (1:Int))):Ex B sl md (gF (qU K) t1 t2) (m.bind λx=>CV x):=λc hc F O H σ Q s k=>by
 cases m with
 |none=>cases hc
 |some x =>
  have hc:CV x=some c:=hc
  refine h1 x rfl F O H σ _ s λv F' H' g r1=>?_
  refine h2 1 rfl F' O H' σ _ (s.grow g) λw F2 H2 g2 r2=>?_
  cases r2
  have r1:bO (reg B F' H' md) v x.t:=r1
  have hle:=Qv (md:=md) g.ok g2.hh
  unfold CV at hc
  generalize x.t=t at r1 hc
  cases r1 with
  |all _=>cases hc
  |mark _=>cases hc
  |@one a i u t' e ht =>
   cases hc
   exact⟨a,_,1,u,rfl,rfl,gZ.of (hle _ _ e),rfl,k u F2 H2 (g.trans g2) (show bO _ u t' from ht.same (yD g2 md))⟩
  |@two a i u u' l r e hl hr =>
   cases hc
   exact⟨a,_,1,u,rfl,rfl,gZ.of (hle _ _ e),rfl,k u F2 H2 (g.trans g2) (show bO _ u l from hl.same (yD g2 md))⟩
theorem T5(h1:Ex B sl md t1 m)(h2:Ex B sl .hp t2 (some (2:Int))):Ex B sl md (gF (qU K) t1 t2) (m.bind λx=>JZ x):=λc hc F O H σ Q s k=>by
 cases m with
 |none=>cases hc
 |some x =>
  have hc:JZ x=some c:=hc
  refine h1 x rfl F O H σ _ s λv F' H' g r1=>?_
  refine h2 2 rfl F' O H' σ _ (s.grow g) λw F2 H2 g2 r2=>?_
  cases r2
  have r1:bO (reg B F' H' md) v x.t:=r1
  have hle:=Qv (md:=md) g.ok g2.hh
  unfold JZ at hc
  generalize x.t=t at r1 hc
  cases r1 with
  |all _=>cases hc
  |mark _=>cases hc
  |one _ _=>cases hc
  |@two a i u u' l r e hl hr =>
   cases hc
   exact⟨a,_,2,u',rfl,rfl,gZ.of (hle _ _ e),rfl,k u' F2 H2 (g.trans g2) (show bO _ u' r from hr.same (yD g2 md))⟩
theorem zSu:Ex B sl md (qQ (yK (tC (.str "all")) aY)) (some (gj.mk .all)):=λc hc F O H σ Q s k=>by
 cases hc
 refine⟨by show 1<=sizeLine;decide,λq hq=>?_⟩
 have g:=aR.new s.1 hq (.tup [.str "all"])
 exact k _ _ _ g (show bO _ _ Tr.all from .all (FT s.1 hq md))
theorem zPr(h:Ex B sl .hp te m):Ex B sl md (qQ (yK (tC (.str "mark")) (yK te aY))) (m.bind λx=>some (gj.mk (.mark x))):=λc hc F O H σ Q s k=>by
 cases m with
 |none=>cases hc
 |some x =>
  cases(show some (gj.mk (.mark x))=some c from hc)
  refine h x rfl F O H σ _ s λv F' H' g r=>?_
  have r:v=.str x:=r
  subst r
  refine⟨by show 2<=sizeLine;decide,λq hq=>?_⟩
  have g2:=aR.new g.ok hq (.tup [.str "mark",.str x])
  exact k _ _ _ (g.trans g2) (show bO _ _ (Tr.mark x) from .mark (FT g.ok hq md))
theorem zPo{L:S->SL K}{m:Option (gj×S)}(hL:∀s,∃(i:Nat) (ws:LI),(L s)[i]?=some (.nu (RL.mk (p:=p) ws))/\((L s).set i .un).all (λs=>!b_ s&&!jq s)=true)(h:mq B p sl .nw te L m) :
  mq B p sl .nw (qQ (yK (tC (.str "not")) (yK te aY))) L (m.bind λr=>some (gj.mk (.one 0 r.1.t),r.2)):=λc s hc F O H σ Q z k=>by
 cases m with
 |none=>cases hc
 |some r =>
  obtain⟨b,s'⟩:=r
  obtain⟨rfl,rfl⟩:=adx (aai (show some (gj.mk (.one 0 b.t),s')=some (c,s) from hc))
  refine h b s' rfl F O H σ _ z λw F2 H2 fr z2 r2=>?_
  obtain⟨i',w1,i1,i2⟩:=hL s'
  obtain⟨_,hp2,_⟩:=z2.j_ i1 i2
  refine⟨by show 2<=sizeLine;decide,λq hq=>?_⟩
  have g3:=aR.new z2.1 hq (.tup [.str "not",w])
  have r2:bO (reg B F2 H2 .nw) w b.t:=r2
  exact k _ _ _ (fr.trans (.of g3) (by rw[hp2];intro q;cases q)) (z2.grow g3) (show bO _ _ (Tr.one 0 b.t) from .one (FT z2.1 hq .nw) (r2.same (yD g3 .nw)))
theorem zPn{L:S->SL K}(hs:sl[i]?=some (.nu (RL.mk (p:=p) ws)))(hh:(sl.set i .un).all (λs=>!b_ s&&!jq s)=true)(hL:∀s,∃(i:Nat) (ws:LI),(L s)[i]?=some (.nu (RL.mk (p:=p) ws))/\((L s).set i .un).all (λs=>!b_ s&&!jq s)=true)(h0:Ex B sl .hp t0 m0)(h1:Ex B sl .nw t1 m1)(h:mq B p sl .nw te L m) :
  mq B p sl .nw (qQ (yK t0 (yK t1 (yK te aY)))) L (m0.bind λx=>m1.bind λl=>m.bind λr=>(CW x l r.1).bind λt=>some (t,r.2)):=λc s hc F O H σ Q z k=>by
 cases m0 with
 |none=>cases hc
 |some x =>
  cases m1 with
  |none=>cases hc
  |some l =>
   cases m with
   |none=>cases hc
   |some r =>
    obtain⟨b,s'⟩:=r
    have hc:((CW x l b).bind λt=>some (t,s'))=some (c,s):=hc
    cases e:CW x l b with
    |none=>rw[e] at hc;cases hc
    |some t =>
     rw[e] at hc
     obtain⟨rfl,rfl⟩:=adx (aai (show some (t,s')=some (c,s) from hc))
     refine h0 x rfl F O H σ _ z λv0 F0 H0 g0 r0=>?_
     have r0:v0=.str x:=r0
     subst r0
     refine h1 l rfl F0 O H0 σ _ (z.grow g0) λv1 F1 H1 g1 r1=>?_
     obtain⟨_,hp1,_⟩:=((z.grow g0).grow g1).j_ hs hh
     refine h b s' rfl F1 O H1 σ _ ((z.grow g0).grow g1) λw F2 H2 fr z2 r2=>?_
     obtain⟨i',w1,i1,i2⟩:=hL s'
     obtain⟨_,hp2,_⟩:=z2.j_ i1 i2
     refine⟨by show 3<=sizeLine;decide,λq hq=>?_⟩
     have g3:=aR.new z2.1 hq (.tup [.str x,v1,w])
     have r1:bO (reg B F1 H1 .nw) v1 l.t:=r1
     have r2:bO (reg B F2 H2 .nw) w b.t:=r2
     have a1:=(r1.same (show Same (reg B F1 H1 .nw) (reg B F2 H2 .nw) from xG fr.ff)).same (yD g3 .nw)
     have a2:=r2.same (yD g3 .nw)
     refine k _ _ _ ((Fr.of (g0.trans g1)).trans (fr.trans (.of g3) (by rw[hp2];intro q;cases q)) (by rw[hp1];intro q;cases q)) (z2.grow g3) ?_
     unfold CW at e
     split at e
     ·rename_i ex
      cases e
      subst ex
      exact(show bO _ _ (Tr.two 0 l.t b.t) from .two (FT z2.1 hq .nw) a1 a2)
     ·split at e
      ·rename_i ex
       cases e
       subst ex
       exact(show bO _ _ (Tr.two 1 l.t b.t) from .two (FT z2.1 hq .nw) a1 a2)
      ·cases e
theorem zNn{α:Type}[Rp K α]{kvs:List (Key×α)}{L:S->SL K}{m:Option (α×S)}{mi:S->Option Str}(i:Nat)(hs:∀s,(L s)[i]?=some (.od kvs))(hh:∀s,(L s).all (λs=>!b_ s)=true)(hv:Ey B sl .fz te L m)(hi:∀s,Ex B (L s) .hp ti (mi s)) :
  Sn B sl (RP (cT i) ti te) (λr:List (Key×α)×S=>(L r.2).set i (.od r.1)) (m.bind λr=>(mi r.2).bind λk=>(qZ kvs k r.1).bind λy=>some (y,r.2)):=λys ha G D σ H s k=>by
 cases m with
 |none=>cases ha
 |some r =>
  obtain⟨a,s'⟩:=r
  have ha:((mi s').bind λk=>(qZ kvs k a).bind λy=>some (y,s'))=some ys:=ha
  cases e1:mi s' with
  |none=>rw[e1] at ha;cases ha
  |some x =>
   rw[e1] at ha
   have ha:((qZ kvs x a).bind λy=>some (y,s'))=some ys:=ha
   unfold qZ at ha
   split at ha
   case isFalse=>cases ha
   rename_i hl
   cases(show some (pK kvs (aay x) a,s')=some ys from ha)
   obtain⟨F,O,g,z⟩:=s
   refine hv a s' rfl F O H σ _ z λv F1 O1 H1 sf z1 r1=>?_
   obtain⟨p,ks,h1,_⟩:=z1.qX (hs s') (hh s')
   refine⟨_,h1,hi s' x e1 F1 O1 H1 σ _ z1 λw F2 H2 g2 r2=>?_⟩
   have r2:w=.str x:=r2
   subst r2
   obtain⟨p',ks',h1',h2',h3',h4'⟩:=(z1.grow g2).qX (hs s') (hh s')
   cases h1.symm.trans h1'
   obtain⟨O',z'⟩:=h4' (putK ks' (aay x) v) (pK kvs (aay x) a) (h3'.put (Rp.mono g2.ff r1))
   exact⟨p,_,rfl,pP.k (k:=aay x) h2' (by rw[h3'.len];exact yw hl),k _ _ ⟨F2,O',g.trans (sf.trans g2.ff),z'⟩⟩
end
open PySem L2
def CZ(xss:List LI)(a:Int)(b:Bool)(mk mv:Option Int):Option (List LI) :=
 if xss.length<cap then(if b=true then mk.bind λj=>mv.bind λy=>if j=(xss.length:Int) then some (xss++[[a,y]]) else none else some (xss++[[a]])) else none
structure uw where
 u:Unit
section
variable{K:PySem.W.Frag}{B:Bs}{sl:SL K}{F F1 F5 H H1 H2 H5 G:Hp}{O O1 O2:Own}{σ:St}
instance:Rp K uw:=⟨λ_ _ _=>True,λ_ h=>h⟩
theorem zUn:∀vs:List V,A2 (rp K R) vs (vs.map λ_=>uw.mk ())
 |[]=>trivial
 |_::vs=>⟨trivial,zUn vs⟩
theorem zPh(k:Ok B F O H)(hp:H p=none)(o:HO):aR B F H O F (upd H p o):=⟨.refl _,aJ hp _,⟨k.fh.put (k.fh.free hp) _,k.h0.put (k.h0.free hp) _,k.fa,λx hx=>by
 obtain⟨a1,a2,a3⟩:=k.fo x hx
 exact⟨a1,a2,aJ hp _ _ _ a3⟩,k.nd⟩,λ_ h _=>h⟩
theorem J0(h:H q=some o):upd H q o=H:=by
 funext b
 by_cases e:b=q
 ·subst e;rw[zK,h]
 ·rw[zJ e]
theorem C_{n:Bool}{xss:List LI}{i:Nat}{p q:Addr}{vs:List V}{row:LI}{o0:HO}(hs:sl[i]?=some (.ow true xss))(hh:sl.all (λs=>!b_ s)=true)(k1:Ok B F1 (O1++(p,.lst vs)::O2) H1)(z1:ak B F1 (lo F1 (O1++(p,.lst vs)::O2) H1) H1 (sl.set i (.ow true ((vs++[V.ref q]).map λ_=>uw.mk ()))) σ (O1++(p,.lst (vs++[.ref q]))::O2))(hσ:σ[i]?=some (some (.ref p)))(hv:A2 (rp K (reg B F1 H1 .nw)) vs xss)(hq:H1 q=none)(e2:H2=upd (upd H1 q o0) p (.lst (vs++[.ref q])))(g:aR B F1 H2 (O1++(p,.lst (vs++[.ref q]))::O2) F5 H5)(sg:Same G F1) :
  Sg B G (sl.set i (.ow true (xss++[row]))) σ (upd H5 q (.lst (row.map V.int))):=by
 obtain⟨a1,a2,a3⟩:=k1.one
 have qp:q≠p:=λe=>by rw[e,a3] at hq;cases hq
 have Qw:H2 q≠none:=by
  rw[e2,zJ qp,zK]
  intro z
  cases z
 have f1q:F1 q=none:=k1.fh.free hq
 have WW:B.H0 q=none:=k1.h0.free hq
 have f5q:F5 q=none:=g.nw q f1q Qw
 have oq:∀x∈O1++(p,HO.lst (vs++[.ref q]))::O2,x.1≠q:=λx hx e=>by
  rcases mem_append.mp hx with hx|hx
  ·have:=(k1.fo x (mem_append.mpr (.inl hx))).2.2
   rw[e,hq] at this
   cases this
  ·rcases mem_cons.mp hx with rfl|hx
   ·exact qp e.symm
   ·have:=(k1.fo x (mem_append.mpr (.inr (mem_cons_of_mem _ hx)))).2.2
    rw[e,hq] at this
    cases this
 have k6:Ok B (upd F5 q (.lst (row.map V.int))) (O1++(p,.lst (vs++[.ref q]))::O2) (upd H5 q (.lst (row.map V.int))):=by
  refine⟨λb o e=>?_,λb o e=>?_,λb o e=>?_,λx hx=>?_,g.ok.nd⟩
  ·by_cases c:b=q
   ·subst c;rw[zK] at e ⊢;exact e
   ·rw[zJ c] at e ⊢;exact g.ok.fh b o e
  ·rw[zJ (zL e WW)];exact g.ok.h0 b o e
  ·by_cases c:b=q
   ·subst c;exact .inr WW
   ·rw[zJ c] at e;exact g.ok.fa b o e
  ·obtain⟨c1,c2,c3⟩:=g.ok.fo x hx
   rw[zJ (oq x hx),zJ (oq x hx)]
   exact⟨c1,c2,c3⟩
 have gH:∀b o,b≠p->H1 b=some o->upd H5 q (.lst (row.map V.int)) b=some o:=λb o bp e=>by
  have bq:b≠q:=zL e hq
  rw[zJ bq]
  refine g.hh b o ?_
  rw[e2,zJ bp,zJ bq]
  exact e
 have sf:Same F1 (upd F5 q (.lst (row.map V.int))):=λb o e=>by rw[zJ (zL e f1q)];exact g.ff b o e
 have hlo:Same (lo F1 (O1++(p,.lst vs)::O2) H1) (lo (upd F5 q (.lst (row.map V.int))) (O1++(p,.lst (vs++[.ref q]))::O2) (upd H5 q (.lst (row.map V.int)))):=λb o e=>by
  unfold lo at e
  split at e
  ·cases e
  ·rename_i hb
   rw[aa5,not_or] at hb
   have bp:b≠p:=λc=>hb.2 (by rw[any_append,any_cons,c];simp)
   have bq:b≠q:=zL e hq
   have fb:F1 b=none:=by
    cases w:F1 b with
    |none=>rfl
    |some u=>exact absurd (by rw[w];rfl) hb.1
   have h2b:H2 b≠none:=by rw[e2,zJ bp,zJ bq,e];intro w;cases w
   rw[Gf (by rw[zJ bq];exact g.nw b fb h2b) λx hx c=>hb.2 (by
    rw[any_append,any_cons] at *
    rcases mem_append.mp hx with hx|hx
    ·rw[aa5];exact .inl (any_eq_true.mpr ⟨x,hx,by simpa using c⟩)
    ·rcases mem_cons.mp hx with rfl|hx
     ·exact absurd c.symm bp
     ·rw[aa5,aa5];exact .inr (.inr (any_eq_true.mpr ⟨x,hx,by simpa using c⟩)))]
   exact gH b o bp e
 have z6:=(z1.mut (L':=lo (upd F5 q (.lst (row.map V.int))) (O1++(p,.lst (vs++[.ref q]))::O2) (upd H5 q (.lst (row.map V.int)))) (H':=upd H5 q (.lst (row.map V.int))) hlo (Lj rfl hh)).mono sf (.refl _) (.refl _)
 have hi:i<sl.length:=(aaj.mp hs).1
 obtain⟨P1,P2,p',vs',eO,h1,_,h3,_⟩:=z6.jK (n:=true) (xs:=(vs++[V.ref q]).map λ_=>uw.mk ()) (i:=i) (by rw[getElem?_set_self hi])
 cases hσ.symm.trans h1
 have ev:vs'=vs++[.ref q]:=by
  have m1:(p,HO.lst vs')∈O1++(p,HO.lst (vs++[.ref q]))::O2:=by rw[eO];simp
  have c1:=(k6.fo _ m1).2.2
  have c2:=k6.one.2.2
  have c3:=c1.symm.trans c2
  exact HO.lst.inj (aai c3)
 have r6:A2 (rp K (reg B (upd F5 q (.lst (row.map V.int))) (upd H5 q (.lst (row.map V.int))) .nw)) (vs++[.ref q]) (xss++[row]):=(hv.imp λ_ _=>Rp.mono (show Same (dif F1 B.H0) _ from xG sf)).snoc ⟨q,row.map V.int,rfl,by
  show dif (upd F5 q (.lst (row.map V.int))) B.H0 q=_
  rw[wZ WW,zK],uU row⟩
 have z7:=h3 (.ow true (xss++[row])) (some (.ref p)) (p,.lst (vs++[.ref q])) λ_ _ _ y=>.ow (n:=true) r6 y
 rw[set_set,wM h1,<-ev,<-eO,ev] at z7
 exact⟨_,_,sg.trans sf,k6,z7⟩
theorem zRi{S:Type}{L:S->SL K}{f:List LI->Option S}(i:Nat)(hs:sl[i]?=some (.ow true xss))(hh:sl.all (λs=>!b_ s)=true)(h1:Ex B sl .hp te m1)(hc:Et B (sl.set i .un) tc mc)(hk:Ex B (sl.set i .un) .hp tk mk)(hv:Ex B (sl.set i .un) .hp tv mv)(hu:∀ys,Sn B (sl.set i (.ow true ys)) u L (f ys)) :
  Sn B sl (iw (Ht (Fx K "list" RW (cT i) (yK (Ah (yK te aY)) aY))) (iw (qP tc (iw (Ht (Fx K "list" RW (gF (tH K) (cT i) tk) (yK tv aY))) Fe) Fe) u)) L ((m1.bind λa=>mc.bind λb=>CZ xss a b mk mv).bind f):=λs hz G D σ H q kk=>by
 cases m1 with
 |none=>cases hz
 |some a =>
  cases mc with
  |none=>cases hz
  |some b =>
   have hz:(CZ xss a b mk mv).bind f=some s:=hz
   cases ea:CZ xss a b mk mv with
   |none=>rw[ea] at hz;cases hz
   |some ys =>
    rw[ea] at hz
    have hz:f ys=some s:=hz
    unfold CZ at ea
    split at ea
    case isFalse=>cases ea
    rename_i hcap
    obtain⟨F,O,g,z⟩:=q
    obtain⟨p,vs0,y1,y0,y2,_⟩:=z.chg hs hh
    refine⟨_,y1,.inl ⟨rfl,_,aV.of y0⟩,?_⟩
    refine h1 a rfl F O H σ _ z λw F1 H1 gr r1=>?_
    have r1:w=.int a:=r1
    subst r1
    refine⟨by show 1<=sizeLine;decide,λq hq=>?_⟩
    have zg:=z.grow gr
    obtain⟨O1,O2,p',vs,rfl,w1,w2,w3,w4⟩:=zg.2.jK hs
    cases y1.symm.trans w1
    have k1:=gr.ok
    obtain⟨a1,a2,hp1⟩:=k1.one
    have qp:q≠p:=λe=>by rw[e,hp1] at hq;cases hq
    have yl:=w2.len
    refine⟨p,vs,.ref q,rfl,rfl,by rw[zJ qp.symm];exact hp1,yw (by rw[yl];exact hcap),?_⟩
    have z1:=w3 (.ow true ((vs++[V.ref q]).map λ_=>uw.mk ())) (some (.ref p)) (p,.lst (vs++[.ref q])) λ_ _ _ y=>.ow (n:=true) (zUn _) y
    rw[wM w1] at z1
    have zu:=w4 .un (some (.ref p)) λ_ _ _ y=>.un y
    rw[wM w1] at zu
    have ok2:Ok B F1 (O1++(p,.lst (vs++[.ref q]))::O2) (upd (upd H1 q (.lst [.int a])) p (.lst (vs++[.ref q]))):=(zPh k1 hq (.lst [.int a])).ok.chg (.lst (vs++[.ref q]))
    have hlo:Same (lo F1 (O1++(p,.lst vs)::O2) H1) (lo F1 (O1++O2) (upd (upd H1 q (.lst [.int a])) p (.lst (vs++[.ref q])))):=λc o e=>by
     have e0:=e
     unfold lo at e
     split at e
     ·cases e
     ·rename_i hb
      rw[aa5,not_or] at hb
      have cp:c≠p:=λw=>hb.2 (by rw[any_append,any_cons,w];simp)
      have cq:c≠q:=zL e hq
      have:=gG _ _ e0
      unfold lo at this ⊢
      rw[zJ cp,zJ cq]
      exact this
    have at2:At B (sl.set i .un) F1 (O1++O2) (upd (upd H1 q (.lst [.int a])) p (.lst (vs++[.ref q]))) σ:=⟨ok2.drop,zu.mut hlo (Lj rfl hh)⟩
    have lift:∀{F5 H5:Hp},aR B F1 (upd (upd H1 q (.lst [.int a])) p (.lst (vs++[.ref q]))) (O1++O2) F5 H5->aR B F1 (upd (upd H1 q (.lst [.int a])) p (.lst (vs++[.ref q]))) (O1++(p,.lst (vs++[.ref q]))::O2) F5 H5:=λg5=>aR.lift ok2 ⟨g5.ff,g5.hh,g5.ok.nil,g5.nw⟩
    have Qw:upd (upd H1 q (.lst [.int a])) p (.lst (vs++[.ref q])) q=some (.lst [.int a]):=by rw[zJ qp,zK]
    have h2p:upd (upd H1 q (.lst [.int a])) p (.lst (vs++[.ref q])) p=some (.lst (vs++[.ref q])):=zK
    have fin:∀{F5 H5:Hp}(row:LI),aR B F1 (upd (upd H1 q (.lst [.int a])) p (.lst (vs++[.ref q]))) (O1++O2) F5 H5->Sg B G (sl.set i (.ow true (xss++[row]))) σ (upd H5 q (.lst (row.map V.int))):=λrow g5=>C_ (n:=true) hs hh k1 z1 w1 w2 hq rfl (lift g5) (g.trans gr.ff)
    refine hc b rfl F1 _ _ σ _ at2 λF3 H3 g3=>?_
    cases b with
    |false =>
     cases(show some (xss++[[a]])=some ys from ea)
     have e3:upd H3 q (.lst ([a].map V.int))=H3:=J0 (g3.hh _ _ Qw)
     have f3:=fin [a] g3
     rw[e3] at f3
     exact jR (hu _ s hz G D σ H3 f3 kk)
    |true =>
     have ea:(mk.bind λj=>mv.bind λy=>if j=(xss.length:Int) then some (xss++[[a,y]]) else none)=some ys:=ea
     cases mk with
     |none=>cases ea
     |some j =>
      cases mv with
      |none=>cases ea
      |some y =>
       have ea:(if j=(xss.length:Int) then some (xss++[[a,y]]) else none)=some ys:=ea
       split at ea
       case isFalse=>cases ea
       rename_i ej
       cases ea
       refine jk ⟨_,w1,hk j rfl F3 _ H3 σ _ (at2.grow g3) λw F4 H4 g4 r4=>?_⟩
       have r4:w=.int j:=r4
       subst r4
       have WX:=g3.trans g4
       refine⟨p,vs++[.ref q],j,.ref q,rfl,rfl,aV.of (WX.hh _ _ h2p),?_,.inl ⟨rfl,_,aV.of (WX.hh _ _ Qw)⟩,?_⟩
       ·rw[ej,<-yl]
        exact Vf (by rw[getElem?_append_right (aag _),aec];rfl)
       refine hv y rfl F4 _ H4 σ _ ((at2.grow g3).grow g4) λw F5 H5 g5 r5=>?_
       have r5:w=.int y:=r5
       subst r5
       have g35:=WX.trans g5
       exact⟨q,[.int a],.int y,rfl,rfl,g35.hh _ _ Qw,by show 1<sizeLine;decide,hu _ s hz G D σ _ (fin [a,y] g35) kk⟩
end
def top(i:Nat):Stmt:=PySem.Challenge.pw_treesay_k41_joints.main.body.getD i (.Pass ⟨0,0,0,0⟩)
abbrev eG:Stmt:=top 2
abbrev nj:Stmt:=top 3
abbrev kj:Stmt:=top 4
abbrev kE:Stmt:=top 5
abbrev iC:Stmt:=top 6
abbrev jr:Stmt:=top 7
abbrev gk:Stmt:=top 9
abbrev iD:Stmt:=top 10
abbrev jt:Stmt:=top 14
abbrev dM:Stmt:=top 15
abbrev nq:Stmt:=top 16
abbrev gn:Stmt:=top 17
abbrev eN:Stmt:=top 18
abbrev kI:Stmt:=top 19
abbrev p8:Stmt:=top 20
abbrev s_alive:Stmt:=top 21
abbrev jc:Stmt:=yQ (top 23) 0
abbrev jw:Stmt:=yQ (top 24) 0
abbrev jx:Stmt:=yQ (top 25) 0
abbrev kJ:Stmt:=yQ (top 26) 0
abbrev jV:Stmt:=yQ (top 27) 0
abbrev kO:Stmt:=yQ (top 28) 0
abbrev jW:Stmt:=yQ (top 29) 0
abbrev je:Stmt:=yQ (top 30) 0
abbrev gQ:Stmt:=yQ (top 31) 0
abbrev gR:Stmt:=yQ (top 32) 0
abbrev gU:Stmt:=yQ (top 33) 0
abbrev gW:Stmt:=yQ (top 34) 0
abbrev fP:Stmt:=yQ (top 35) 0
abbrev fQ:Stmt:=yQ (top 36) 0
abbrev gY:Stmt:=yQ (top 37) 0
abbrev jy:Stmt:=top 44
abbrev dN:Stmt:=top 45
abbrev nA:Stmt:=top 46
abbrev nD:Stmt:=top 47
abbrev iG:Stmt:=top 58
abbrev cY:Stmt:=top 59
abbrev dO:Stmt:=top 60
abbrev jA:Stmt:=top 61
abbrev dR:Stmt:=top 62
abbrev eU:Stmt:=top 63
abbrev kW:Stmt:=top 64
abbrev T6:Stmt:=top 65
abbrev ux:Stmt:=yQ (top 66) 0
abbrev cZ:Stmt:=yQ (top 66) 1
abbrev bQ:Stmt:=yQ (top 66) 2
abbrev cg:Stmt:=yQ (top 66) 3
abbrev cj:Stmt:=yQ (top 66) 4
abbrev bT:Stmt:=yQ (top 66) 6
abbrev kY:Stmt:=top 68
abbrev jB:Stmt:=top 69
abbrev kZ:Stmt:=top 70
abbrev lg:Stmt:=top 71
abbrev lq:Stmt:=top 72
abbrev lu:Stmt:=top 73
abbrev nG:Stmt:=top 74
abbrev mK:Stmt:=top 75
section
variable{P:Program}{w:World}{K:PySem.W.Frag}{mg:Str->Option Value}{base:Heap}
def WY(K:PySem.W.Frag):Sp:=λvs H Q _=>∃(a:Addr)(bs:List Addr)(xss:List LI),vs=[.ref a]/\aV K H a (bs.map V.ref)/\oH K H bs xss/\xss.length<=60/\SX xss.length xss /\
 ∀(r:Addr)(cs:List Addr)(H':Hp),Same H H'->H r=none->H' r=some (.lst (cs.map V.ref))->cs.length=xss.length->oJ H' cs (src xss)->(∀c∈cs,H c=none)->Q (.ref r) H'
theorem uy:ao ["steps","sources","stand","targets","target"] ["steps"] (zI T6):=⟨rfl,rfl,rfl,by decide +kernel,rfl,by decide +kernel,by decide +kernel⟩
theorem W0:(["stand"]:List Str).Nodup:=by decide +kernel
theorem J2{cs:List Addr}(nd:cs.Nodup){i j:Nat}{c:Addr}(h1:cs[i]?=some c)(h2:cs[j]?=some c):i=j:=by
 obtain⟨k1,e1⟩:=aaj.mp h1
 obtain⟨k2,e2⟩:=aaj.mp h2
 exact(getElem_inj nd).mp (e1.trans e2.symm)
theorem oJ.put{J3:Nat->LI}(r:oJ H cs row)(nd:cs.Nodup)(hc:cs[j]?=some c)(e:J3 j=xs)(e':∀k,k≠j->J3 k=row k):oJ (upd H c (.lst (xs.map V.int))) cs J3:=λk d hd=>by
 by_cases hk:k=j
 ·subst hk
  rw[hc] at hd
  cases hd
  rw[zK,e]
 ·rw[zJ (λz=>hk (J2 nd hd (by rw[z];exact hc))),e' k hk]
  exact r k d hd
theorem Qx(F:aX K "sources_of" "sources_of" T6 f fd)(B:Bl K mg):aq P w K mg base aN 1 f fd ["steps"] (WY K):=by
 refine F.ok uy (λvs H Q E h=>?_) (λcdv A outer s H vs Q E hr h=>?_)
 ·obtain⟨a,bs,xss,rfl,_⟩:=h
  rfl
 obtain⟨a,bs,xss,rfl,hS,hR,GP,hV,q⟩:=h
 have hbl:(bs.map V.ref).length=xss.length:=by rw[length_map];exact hR.1
 refine⟨_,zB (FJ (i:=1) (own:=["stand"]) (ix:=[]) uy.nd rfl rfl rfl rfl rfl (UL (pv 0)) (λC s H fp=>yM (i:=0) W0 rfl (Or.inl rfl)) (λC s H fp=>wX) (λC s H fp=>vK zE))
  (zB (xJ aas rfl (Zw rfl B.enum (zA (pv 0) zE)) (K_ rfl (xD (yM (i:=2) uy.nd rfl (Or.inl rfl)) (xD (yM (i:=3) uy.nd rfl (Or.inl rfl)) Hw)))
   (yW (xJ aas rfl (UL (pv 3)) (yM (i:=4) uy.nd rfl (Or.inl rfl))
    (yW (zY (Fy aax aa7 aa8 wU (yN Zb (pv 1) (pv 4) (λ_ _=>rfl)) (zA (pv 2) zE)))))))
  (yW (zT (pv 1)))),?_⟩
 refine⟨_,rfl,a,rfl,⟨_,hS⟩,zQg (K:=K) (a:=a) (xs:=bs.map V.ref) (λi ys σ H2=>∃(cs:List Addr)(v:Option V),ys=cs.map V.ref/\σ=[v]/\Same H H2/\News H H2 cs (replicate i [])/\cs.length=i)
  ⟨[],none,rfl,rfl,Same.refl H,News.nil,rfl⟩ (λi ys σ H2 _ ⟨cs,v,e,_,s2,_,hi⟩=>⟨s2.seq hS,by rw[e,length_map,hi];exact aag _⟩) (Zi (by omega)) ?_ ?_⟩
 ·rintro i y ys σ H2 hi ⟨cs,v,rfl,rfl,s2,hN,W2⟩
  refine zSe ?_
  refine⟨(by show 0<=sizeLine;decide),λl hl'=>?_⟩
  refine⟨cs++[l],_,by rw[map_append]<;>rfl,rfl,s2.trans (aJ hl' _),?_,by rw[length_append,W2]<;>rfl⟩
  have e:replicate (i+1) ([]:List V)=replicate i []++[[]]:=List.replicate_succ'
  rw[e]
  exact hN.snoc s2 hl'
 rintro ys σ H2 ⟨cs,v,rfl,rfl,s2,hN,W2⟩ r hr0
 have hcl:cs.length=xss.length:=by rw[W2,hbl]
 have s3:Same H (upd H2 r (.lst (cs.map V.ref))):=s2.trans (aJ hr0 _)
 have hrH:H r=none:=s2.free hr0
 have nrc:r∉cs:=hN.O_ hr0
 have R0:oJ (upd H2 r (.lst (cs.map V.ref))) cs (src (xss.take 0)):=λj c hc=>by
  obtain⟨xs,h1,h2⟩:=hN.at_ j c hc
  have e:xs=[]:=by
   rw[getElem?_replicate] at h1
   split at h1
   ·exact(aai h1).symm
   ·cases h1
  subst e
  rw[zJ (λz=>nrc (by rw[<-z];exact mem_of_getElem? hc)),h2]
  rfl
 refine⟨_,rfl,a,rfl,⟨_,s3.seq hS⟩,zSt (K:=K) (a:=a) (xs:=bs.map V.ref) (λi σ H4=>∃u v t,σ=[some (.ref a),some (.ref r),u,v,t]/\Same H H4/\H4 r=some (.lst (cs.map V.ref))/\oJ H4 cs (src (xss.take i)))
  ⟨none,none,none,rfl,s3,zK,R0⟩ (λi σ H4 _ ⟨_,_,_,_,s4,_⟩=>s4.seq hS) ?_ ?_⟩
 ·rintro i x t σ H4 hi ht ⟨u,v,t',rfl,s4,W3,R4⟩
  obtain⟨b,rfl,hb⟩:=Jd hi
  obtain⟨xs,hx,hsq⟩:=hR.2 i b hb
  obtain⟨ne,nd,len,vr⟩:=hV.2 xs (mem_of_getElem? hx)
  have il:=yC hx
  have st:Same H4 (upd H4 t (.tup [.int i,.ref b])):=aJ ht _
  have s5:=s4.trans st
  refine⟨t,_,rfl,gZ.of zK,rfl,_,_,rfl,_,_,rfl,rfl,?_⟩
  refine⟨_,rfl,b,rfl,⟨_,s5.seq hsq⟩,zSs (K:=K) (a:=b) (xs:=xs.map V.int) (λm σ H6=>∃tt,σ=[some (.ref a),some (.ref r),some (.int i),some (.ref b),tt]/\Same H H6/\H6 r=some (.lst (cs.map V.ref)) /\
   oJ H6 cs λj=>src (xss.take i) j++(if(j:Int)∈xs.take m then[(i:Int)] else[])) ⟨t',rfl,s5,st _ _ W3,λj c hc=>?_⟩ (λm σ H6 _ ⟨_,_,s6,_⟩=>s6.seq hsq) ?_ ?_⟩
  ·rw[st _ _ (R4 j c hc)]
   simp
  ·rintro m y σ H6 hm ⟨tt,rfl,s6,T7,R6⟩
   obtain⟨z,rfl,hz⟩:=int_at hm
   obtain⟨z0,z1⟩:=vr z (mem_of_getElem? hz)
   have zl:z.toNat<cs.length:=by rw[hcl];omega
   have hc:cs[z.toNat]?=some cs[z.toNat]:=aaf zl
   have hz':((z.toNat:Nat):Int)=z:=by omega
   have hrow:=R6 z.toNat _ hc
   have hno:¬z∈xs.take m:=ZR nd hz
   simp only[hz',if_neg hno,append_nil] at hrow
   have hix:cQ (cs.map V.ref) z=some (.ref cs[z.toNat]):=by
    have:=Vf (Br hc)
    rw[hz'] at this
    exact this
   refine⟨_,rfl,_,rfl,r,_,z,_,rfl,rfl,aV.of T7,hix,.inl ⟨rfl,_,aV.of hrow⟩,_,rfl,_,_,_,rfl,rfl,hrow,?_,?_⟩
   ·have:=Bq (xss.take i) z.toNat
    rw[length_take] at this
    refine Zi ?_
    rw[length_map]
    omega
   ·have cH:H cs[z.toNat]=none:=hN.new _ (mem_of_getElem? hc)
    have cr:r≠cs[z.toNat]:=λe=>nrc (by rw[e];exact mem_of_getElem? hc)
    refine⟨_,rfl,s6.put cH _,by rw[zJ cr];exact T7,?_⟩
    have em:(src (xss.take i) z.toNat).map V.int++[V.int i]=(src (xss.take i) z.toNat++[(i:Int)]).map V.int:=by rw[map_append]<;>rfl
    rw[em]
    refine R6.put hN.nd hc ?_ λk hk=>?_
    ·rw[hz',if_pos ((vC hz).mpr (.inr rfl))]
    ·have hk':((k:Int)∈xs.take (m+1))=((k:Int)∈xs.take m):=by
      rw[vC hz]
      refine propext ⟨λh=>h.elim id λe=>absurd (by omega) hk,.inl⟩
     simp only[hk']
  ·rintro σ H6 ⟨tt,rfl,s6,T7,R6⟩
   refine⟨_,_,_,rfl,s6,T7,λj c hc=>?_⟩
   rw[R6 j c hc,zRa hx j,length_map,take_length]
 ·rintro σ H4 ⟨u,v,t,rfl,s4,W3,R4⟩
  refine⟨_,rfl,?_⟩
  have e:xss.take (bs.map V.ref).length=xss:=by rw[hbl];exact take_length
  rw[e] at R4
  exact q r cs H4 s4 hrH W3 hcl R4 hN.new
end
structure uz(K:PySem.W.Frag)(x qual:Str)(st:Stmt)(dV:Value)(f:Addr)(fd:FuncData):Prop where
 ex:∃(oc:Value)(od:Option Addr)(kV doc pm:Value)(an:Option Addr)(cdv ct:Value)(osl:Array (Option Value)),
  fd=fnOf x qual (wY st) (xL st) (zI st) dV kV doc pm an cdv ct/\K.lookup f=some ⟨oc,od,.func fd,osl⟩/\codeIn K cdv qual=true
 kp:keepIn K (.ref f)=true
section
variable{P:Program}{w:World}{K:PySem.W.Frag}{mg:Str->Option Value}{base:Heap}
theorem uz.ok(F:uz K x qual st dV f fd)(S:ao N ps (zI st))(len:∀vs H Q E,sp vs H Q E->vs.length=ps.length)(hbody:∀(cdv:Value) (A:Around) (outer:List Env) (s:Shared) (H:Hp) (vs:List V) (Q:VK) (E:XK),bx k (A.deeper (ac3 qual (zI st) s.heap.objs.size f cdv))->sp vs H Q E ->
   ∃t,oE (lY aN P w K mg base N qual (zI st) f cdv A outer s H E).Aa (xL st) t/\t { nx:=λ_ H'=>Q .non H',rt:=Q } (start N vs) H):aq P w K mg base aN (k+1) f fd ps sp:=by
 obtain⟨oc,od,kV,doc,pm,an,cdv,ct,osl,rfl,lk,hcd⟩:=F.ex
 refine Ft lk hcd S len λA outer s H vs Q E hr hsp=>?_
 obtain⟨t,h,q⟩:=hbody cdv A outer s H vs Q E hr hsp
 exact⟨t,h.Aa,q⟩
structure Cl(K:PySem.W.Frag)(mg:Str->Option Value)(C:Addr):Prop where
 cl:Cls K C
 nS:aW K C "steps"
 nM:aW K C "marks"
 nF:aW K C "fair"
 nB:aW K C "sources"
 mgC:mg "Machine" = some (.ref C)
theorem J4:ao ["self","steps","marks","fair","given_marks","given_fair"] ["self","steps","marks","fair"] (zI ux):=⟨rfl,rfl,rfl,by decide +kernel,rfl,by decide +kernel,by decide +kernel⟩
theorem Qy:(["name","stands"]:List Str).Nodup:=by decide +kernel
theorem bC(f:Str)(v:V):∀fs:List (Str×V),(au f v fs).length<=fs.length+1
 |[]=>aag _
 | (g,x)::r=>by
  unfold au
  split
  ·exact abv _
  ·exact abw (bC f v r)
theorem zNw:∀{vs:List V}{xss:List LI},A2 (rp K R) vs xss->∃bs:List Addr,vs=bs.map V.ref/\oH K R bs xss
 |[],[],_=>⟨[],rfl,rfl,λi b h=>by simp at h⟩
 |v::vs,xs::xss,h=>by
  obtain⟨bs,e,h1,h2⟩:=zNw h.2
  obtain⟨p,ws,rfl,h3,h4⟩:=h.1
  have h5:ws=xs.map V.int:=h4.vals
  refine⟨p::bs,by rw[e,map_cons],by rw[length_cons,length_cons,h1],λi b hb=>?_⟩
  cases i with
  |zero=>simp at hb;subst hb;exact⟨xs,rfl,aV.of (by rw[h3,h5])⟩
  |succ i=>exact h2 i b (by simpa using hb)
 |[],_::_,h=>h.elim
 |_::_,[],h=>h.elim
def Mj(xss:LLI):Option LLI:=if xss.length<=60/\SX xss.length xss then some (srcs xss) else none
theorem J5(F:aX K "sources_of" "sources_of" T6 f fd)(B:Bl K mg):aq P w K mg base aN 1 f fd ["steps"] (cR K false (λa:LLI×Unit=>([.fz false a.1]:SL K)) λa=>Mj a.1):=by
 refine(Qx F B).imp λvs H Q E h=>?_
 obtain⟨⟨xss,⟨⟩⟩,b,Fa,s,hb,r,q⟩:=h
 have hb:Mj xss=some b:=hb
 unfold Mj at hb
 split at hb
 case isFalse=>cases hb
 rename_i hv
 cases hb
 cases r with
 |cons r1 r2 =>
  cases r2
  obtain⟨a,ws,rfl,h1,h2⟩:=r1
  obtain⟨bs,rfl,h3⟩:=zNw (K:=K) h2
  refine⟨a,bs,xss,rfl,aV.of (s _ _ h1),h3.same s,hv.1,hv.2,λrr cs H' s' hr e l R N=>q _ _ s' ?_⟩
  refine⟨rr,_,rfl,by show dif H' H rr=_;rw[wZ hr];exact e,?_⟩
  exact Bt (K:=K) l R λc hc o e=>by show dif H' H c=_;rw[wZ (N c hc)];exact e
theorem J6{fS:LLI->Option Unit}{fM:zf->Int->Option Unit}{fF:LLI->Int->Option Unit}{fC fO:LLI->Option LLI}(F:uz K "__init__" "Machine.__init__" ux dV f fd)(T:Cl K mg C)(B:Bl K mg)(CS:bJ P w K mg base k "check_steps" ["steps"] (cR K false (λa:LLI×Unit=>([.fz false a.1]:SL K)) λa=>fS a.1))(CM:bJ P w K mg base k "check_marks" ["marks","many"] (cR K false (λa:zf×Int×Unit=>([.fz false a.1,.fz false a.2.1]:SL K)) λa=>fM a.1 a.2.1))(CF:bJ P w K mg base k "check_fair" ["fair","many"] (cR K false (λa:LLI×Int×Unit=>([.fz false a.1,.fz false a.2.1]:SL K)) λa=>fF a.1 a.2.1))(CC:bJ P w K mg base k "copied" ["lists"] (cR K false (λa:LLI×Unit=>([.fz false a.1]:SL K)) λa=>fC a.1))(CO:bJ P w K mg base k "sources_of" ["steps"] (cR K false (λa:LLI×Unit=>([.fz false a.1]:SL K)) λa=>fO a.1)) :
  aq P w K mg base aN (k+1) f fd ["self","steps","marks","fair"] (Pu K C (Tc C fS fM fF fC fO)):=by
 refine F.ok J4 (λvs H Q E h=>?_) (λcdv A outer s H vs Q E hr h=>?_)
 ·obtain⟨p,dx,vS,vM,vF,xss,mo,fo,M,rfl,_⟩:=h
  rfl
 obtain⟨p,dx,vS,vM,vF,xss,mo,fo,M,rfl,hp,rS,rM,rF,hm,q⟩:=h
 unfold Tc at hm
 obtain⟨⟨⟩,e1,hm⟩:=uC hm
 obtain⟨⟨⟩,e2,hm⟩:=uC hm
 obtain⟨⟨⟩,e3,hm⟩:=uC hm
 obtain⟨a,e4,hm⟩:=uC hm
 obtain⟨b,e5,hm⟩:=uC hm
 obtain⟨c,e6,hm⟩:=uC hm
 obtain⟨d,e7,hm⟩:=uC hm
 cases hm
 refine⟨_,zB (Uz (i:=4) J4.nd rfl (Or.inl rfl) (Yr (E_ (Rr (pv 2))) (vK zE) (pv 2)))
  (zB (Uz (i:=5) J4.nd rfl (Or.inl rfl) (Yr (E_ (Rr (pv 3))) (vK zE) (pv 3)))
  (zB (zY (yA CS hr (zA (pv 1) zE)))
  (zB (zY (yA CM hr (zA (pv 4) (zA (zX (za K) rfl B.len abo (zA (pv 1) zE)) zE))))
  (zB (zY (yA CF hr (zA (pv 5) (zA (zX (za K) rfl B.len abo (zA (pv 1) zE)) zE))))
  (zB (yj (pv 0) (yA CC hr (zA (pv 1) zE)) rfl)
  (zB (yj (pv 0) (Fz (own:=["name","stands"]) (ix:=[]) rfl rfl rfl (yY K (pv 4)) (λC s H fp=>Zy (K:=K) (n:=2) rfl rfl (xD (yM (i:=0) Qy rfl (Or.inl rfl)) (xD (yM (i:=1) Qy rfl (Or.inl rfl)) Hw))) (λC s H fp=>wX)
   (λC s H fp=>yp (zA (pv 0) (zA (NK (Pa K) rfl B.list Lr (zA (pv 1) zE)) zE)))) rfl)
  (zB (yj (pv 0) (yA CC hr (zA (pv 5) zE)) rfl)
  (yW (yj (pv 0) (yA CO hr (zA (YG (pv 0) rfl) zE)) rfl))))))))),?_⟩
 have sg0:Sg (K:=K) ⟨hid H p,H⟩ (hid H p) [.fz false (fY.mk ():fY p),.fz false xss,.fz false mo,.fz false fo,.un,.un] [some (.ref p),some vS,some vM,some vF,none,none] H :=
  ⟨hid H p,[],.refl _,zUj (.fz (show rp K _ _ (fY.mk ():fY p) from rfl) (.fz rS (.fz rM (.fz rF (.un (.un .nil))))))⟩
 refine(Sn.of (xI false 4 rfl rfl (ZJ (dI (md:=.hp) (SQ (zD 2 rfl))) (Eo.ex (Bd (α:=Str×LI))) (V1 (yJ 2 rfl)))) (show _=some (mo.getD []) by cases mo<;>rfl)) _ rfl (hid H p) _ _ H sg0 λσ1 H1 sg1=>?_
 refine(Sn.of (xI false 5 rfl rfl (ZJ (dI (md:=.hp) (SQ (zD 3 rfl))) (Eo.ex (Bd (α:=LI))) (V1 (yJ 3 rfl)))) (show _=some (fo.getD []) by cases fo<;>rfl)) _ rfl (hid H p) _ _ H1 sg1 λσ2 H2 sg2=>?_
 refine(Sn.of (Li (md:=.hp) (zR (f:=λa:LLI×Unit=>fS a.1) (zH (zD 1 rfl) zQ))) (show _=fS xss from rfl)) () e1 (hid H p) _ _ H2 sg2 λσ3 H3 sg3=>?_
 refine(Sn.of (Li (md:=.hp) (zR (f:=λa:zf×Int×Unit=>fM a.1 a.2.1) (zH (zD 4 rfl) (zH (Ex.sc (md:=.hp) (Bo (zD 1 rfl))) zQ)))) (show _=fM (mo.getD []) (xss.length:Int) from rfl)) () e2 (hid H p) _ _ H3 sg3 λσ4 H4 sg4=>?_
 refine(Sn.of (Li (md:=.hp) (zR (f:=λa:LLI×Int×Unit=>fF a.1 a.2.1) (zH (zD 5 rfl) (zH (Ex.sc (md:=.hp) (Bo (zD 1 rfl))) zQ)))) (show _=fF (fo.getD []) (xss.length:Int) from rfl)) () e3 (hid H p) _ _ H4 sg4 λσ5 H5 sg5=>?_
 obtain⟨F5,O5,g5,k5,s5⟩:=sg5
 have s5:ak (K:=K) ⟨hid H p,H⟩ F5 (lo F5 O5 H5) H5 [.fz false (fY.mk ():fY p),.fz false xss,.fz false mo,.fz false fo,.fz false (mo.getD []),.fz false (fo.getD [])] σ5 O5:=s5
 cases s5 with|fz r0 s5 =>
 cases s5 with|fz r1 s5 =>
 cases s5 with|fz r2 s5 =>
 cases s5 with|fz r3 s5 =>
 cases s5 with|fz r4 s5 =>
 cases s5 with|fz r5 s5 =>
 cases s5
 rename_i v0 v1 v2 v3 v4 v5
 have r0:v0=.ref p:=r0
 subst r0
 have hF:Same F5 (hid H5 p):=λb o e=>by
  by_cases z:b=p
  ·subst z
   rcases k5.fa b o e with z|z
   ·have z:hid H b b=some o:=z
    rw[Lz] at z
    cases z
   ·have z:H b=none:=z
    rw[hp] at z
    cases z
  ·rw[Js z];exact k5.fh b o e
 have r1:rp K (hid H5 p) v1 xss:=Rp.mono hF r1
 have r2:rp K (hid H5 p) v2 mo:=Rp.mono hF r2
 have r3:rp K (hid H5 p) v3 fo:=Rp.mono hF r3
 have r4:rp K (hid H5 p) v4 (mo.getD []):=Rp.mono hF r4
 have r5:rp K (hid H5 p) v5 (fo.getD []):=Rp.mono hF r5
 have W4:Same H H5:=k5.h0
 have hp5:H5 p=some (.ins C dx []):=W4 _ _ hp
 refine⟨_,rfl,(xss,()),a,H5,.refl _,e4,.cons (Rp.mono Px r1) .nil,λy1 H6 s6 t1=>?_⟩
 have t1:rp K (dif H6 H5) y1 a:=t1
 have hp6:=s6 _ _ hp5
 refine⟨_,rfl,p,C,dx,[],rfl,hp6,T.cl,T.nS,(by show 0<1000;decide),?_⟩
 have f1:=Rp.mono (Td (H:=H) (p:=p) (λb o _ e=>W4 b o e) (by rw[hp5];intro z;cases z)) t1
 have kp6:∀b o,b≠p->H b=some o->(upd H6 p (.ins C dx (au "steps" y1 []))) b=some o:=λb o n e=>by rw[zJ n];exact s6 _ _ (W4 _ _ e)
 have h6:Same (hid H5 p) (hid (upd H6 p (.ins C dx (au "steps" y1 []))) p):=by rw[Gk];exact LC s6
 have E2:Ex (K:=K) ⟨hid (upd H6 p (.ins C dx (au "steps" y1 []))) p,upd H6 p (.ins C dx (au "steps" y1 []))⟩ [.fz false (fY.mk ():fY p),.fz false xss,.fz false mo,.fz false fo,.fz false (mo.getD []),.fz false (fo.getD [])] .nw _ _ :=
  (wC (n:=false) (mJ:=[.un,.un]) (no:=2) (ix:=[]) rfl rfl (yZ (yJ 4 rfl)) (Lk 0 1 rfl rfl (λ_=>rfl) rfl) (λx=>zc) (λx=>ZK (zG 0 rfl) (O4 (zD 1 rfl)).ex) (λx=>pR.un (pR.un pR.nil))).ex
 refine E2 b e5 (hid (upd H6 p (.ins C dx (au "steps" y1 []))) p) [] _ _ _ (zUj (.fz (show rp K _ _ (fY.mk ():fY p) from rfl) (.fz (Rp.mono h6 r1) (.fz (Rp.mono h6 r2) (.fz (Rp.mono h6 r3) (.fz (Rp.mono h6 r4) (.fz (Rp.mono h6 r5) .nil))))))) λy2 F7 H7 g7 t2=>?_
 have s7:=g7.hh
 have t2:rp K (dif H7 (upd H6 p (.ins C dx (au "steps" y1 [])))) y2 b:=Rp.mono (xG g7.ok.fh) t2
 have hp7:H7 p=some (.ins C dx (au "steps" y1 [])):=s7 _ _ zK
 refine⟨_,rfl,p,C,dx,_,rfl,hp7,T.cl,T.nM,(by show 1<1000;decide),?_⟩
 have f2:=Rp.mono (Td (H:=H) (p:=p) kp6 (by rw[zK];intro z;cases z)) t2
 have kp7:∀b o,b≠p->H b=some o->(upd H7 p (.ins C dx (au "marks" y2 (au "steps" y1 [])))) b=some o:=λb o n e=>by rw[zJ n];exact s7 _ _ (kp6 _ _ n e)
 have h7:Same (hid (upd H6 p (.ins C dx (au "steps" y1 []))) p) (hid (upd H7 p (.ins C dx (au "marks" y2 (au "steps" y1 [])))) p):=by rw[Gk (H:=H7)];exact LC s7
 refine⟨_,rfl,(fo.getD [],()),c,_,.refl _,e6,.cons (Rp.mono (h6.trans (h7.trans Px)) r5) .nil,λy3 H8 s8 t3=>?_⟩
 have t3:rp K (dif H8 (upd H7 p (.ins C dx (au "marks" y2 (au "steps" y1 []))))) y3 c:=t3
 have hp8:H8 p=some (.ins C dx (au "marks" y2 (au "steps" y1 []))):=s8 _ _ zK
 have l2:(au "marks" y2 (au "steps" y1 [])).length<1000:=by
  have a1:=bC "marks" y2 (au "steps" y1 [])
  have a2:=bC "steps" y1 []
  have a3:([]:List (Str×V)).length=0:=rfl
  omega
 refine⟨_,rfl,p,C,dx,_,rfl,hp8,T.cl,T.nF,l2,?_⟩
 have f3:=Rp.mono (Td (H:=H) (p:=p) kp7 (by rw[zK];intro z;cases z)) t3
 have kp8:∀b o,b≠p->H b=some o->(upd H8 p (.ins C dx (au "fair" y3 (au "marks" y2 (au "steps" y1 []))))) b=some o:=λb o n e=>by rw[zJ n];exact s8 _ _ (kp7 _ _ n e)
 have h8:Same (hid (upd H7 p (.ins C dx (au "marks" y2 (au "steps" y1 [])))) p) (hid (upd H8 p (.ins C dx (au "fair" y3 (au "marks" y2 (au "steps" y1 []))))) p):=by rw[Gk (H:=H8)];exact LC s8
 have lk:(au "fair" y3 (au "marks" y2 (au "steps" y1 []))).lookup ("steps":Str)=some y1:=by
  rw[zM,if_neg (by decide +kernel),zM,if_neg (by decide +kernel),zM,if_pos rfl]
 have d1:Same (dif (hid H6 p) (hid H p)) (hid (upd H8 p (.ins C dx (au "fair" y3 (au "marks" y2 (au "steps" y1 []))))) p):=aP.trans ((by rw[Gk];exact .refl _:Same (hid H6 p) (hid (upd H6 p (.ins C dx (au "steps" y1 []))) p)).trans (h7.trans h8))
 refine⟨_,rfl,p,C,dx,_,_,rfl,zK,T.cl,T.nS,lk,(a,()),d,_,.refl _,e7,.cons (Rp.mono (d1.trans Px) f1) .nil,λy4 H9 s9 t4=>?_⟩
 have t4:rp K (dif H9 (upd H8 p (.ins C dx (au "fair" y3 (au "marks" y2 (au "steps" y1 [])))))) y4 d:=t4
 have hp9:H9 p=some (.ins C dx (au "fair" y3 (au "marks" y2 (au "steps" y1 [])))):=s9 _ _ zK
 have l3:(au "fair" y3 (au "marks" y2 (au "steps" y1 []))).length<1000:=by
  have a0:=bC "fair" y3 (au "marks" y2 (au "steps" y1 []))
  have a1:=bC "marks" y2 (au "steps" y1 [])
  have a2:=bC "steps" y1 []
  have a3:([]:List (Str×V)).length=0:=rfl
  omega
 refine⟨_,rfl,p,C,dx,_,rfl,hp9,T.cl,T.nB,l3,?_⟩
 have f4:=Rp.mono (Td (H:=H) (p:=p) kp8 (by rw[zK];intro z;cases z)) t4
 have kp9:∀b o,b≠p->H b=some o->(upd H9 p (.ins C dx (au "sources" y4 (au "fair" y3 (au "marks" y2 (au "steps" y1 [])))))) b=some o:=λb o n e=>by rw[zJ n];exact s9 _ _ (kp8 _ _ n e)
 have u9:Same (hid H9 p) (upd H9 p (.ins C dx (au "sources" y4 (au "fair" y3 (au "marks" y2 (au "steps" y1 [])))))):=(by rw[Gk];exact .refl _:Same (hid H9 p) (hid (upd H9 p (.ins C dx (au "sources" y4 (au "fair" y3 (au "marks" y2 (au "steps" y1 [])))))) p)).trans Px
 have u8:Same (hid H8 p) (hid H9 p):=(by rw[Gk];exact .refl _:Same (hid H8 p) (hid (upd H8 p (.ins C dx (au "fair" y3 (au "marks" y2 (au "steps" y1 []))))) p)).trans (LC s9)
 have u7:Same (hid H7 p) (hid H8 p):=(by rw[Gk];exact .refl _:Same (hid H7 p) (hid (upd H7 p (.ins C dx (au "marks" y2 (au "steps" y1 [])))) p)).trans (LC s8)
 have u6:Same (hid H6 p) (hid H7 p):=(by rw[Gk];exact .refl _:Same (hid H6 p) (hid (upd H6 p (.ins C dx (au "steps" y1 []))) p)).trans (LC s7)
 refine q _ kp9 ⟨p,dx,au "sources" y4 (au "fair" y3 (au "marks" y2 (au "steps" y1 []))),y1,y2,y3,y4,rfl,?_,?_,Rp.mono (xG (u6.trans (u7.trans (u8.trans u9)))) f1,?_,Rp.mono (xG (u7.trans (u8.trans u9))) f2,?_,Rp.mono (xG (u8.trans u9)) f3,?_,Rp.mono (xG u9) f4,?_⟩
 ·rw[wZ Lz];exact zK
 ·rw[zM,if_neg (by decide +kernel)];exact lk
 ·rw[zM,if_neg (by decide +kernel),zM,if_neg (by decide +kernel),zM,if_pos rfl]
 ·rw[zM,if_neg (by decide +kernel),zM,if_pos rfl]
 ·rw[zM,if_pos rfl]
 ·intro g hg
  simp only[V2,mem_cons,List.not_mem_nil,or_false] at hg
  rcases hg with rfl|rfl|rfl|rfl|rfl|rfl<;>(rw[zM,if_neg (by decide +kernel),zM,if_neg (by decide +kernel),zM,if_neg (by decide +kernel),zM,if_neg (by decide +kernel)];rfl)
end
end Ts
namespace Sy
open PySem L2
abbrev W5:Stmt:=Ts.jc
abbrev W6:Stmt:=Ts.jw
abbrev W7:Stmt:=Ts.jx
abbrev J7:Stmt:=Ts.kJ
abbrev u5:Stmt:=Ts.jV
abbrev J8:Stmt:=Ts.kO
abbrev W8:Stmt:=Ts.gQ
abbrev W9:Stmt:=Ts.gR
abbrev W_:Stmt:=Ts.fP
abbrev Xa:Stmt:=Ts.fQ
abbrev Xb:Stmt:=Ts.gY
abbrev u_:Stmt:=Ts.jW
abbrev Xc:Stmt:=Ts.je
abbrev Xd:Stmt:=Ts.gU
abbrev Xe:Stmt:=Ts.gW
section
variable{P:Program}{w:World}{K:PySem.W.Frag}{mg:Str->Option Value}{base:Heap}
theorem zRk:ao ["self","word","parts"] ["self","word","parts"] (zI W5):=⟨rfl,rfl,rfl,by decide +kernel,rfl,by decide +kernel,by decide +kernel⟩
theorem zOp(F:aX K "__init__" "Saying.__init__" W5 f fd):aq P w K mg base aN 1 f fd ["self","word","parts"] (spS K):=by
 refine F.ok zRk (λvs H Q E h=>?_) (λcdv A outer s H vs Q E hr h=>?_)
 ·obtain⟨p,C,dx,x,y,rfl,_⟩:=h
  rfl
 obtain⟨p,C,dx,x,y,rfl,hp,T,q⟩:=h
 refine⟨_,zB (yj (pv 0) (pv 1) rfl) (yW (yj (pv 0) (pv 2) rfl)),?_⟩
 refine⟨_,rfl,_,rfl,p,C,dx,[],rfl,hp,T.cl,T.nW,(by show 0<1000;decide),_,rfl,_,rfl,p,C,dx,_,rfl,zK,T.cl,T.nP,(by show 1<1000;decide),?_⟩
 exact q _ ((Kp.put p H _).trans (Kp.put p _ _)) zK
theorem Dd:ao ["self","word","part"] ["self","word","part"] (zI W6):=⟨rfl,rfl,rfl,by decide +kernel,rfl,by decide +kernel,by decide +kernel⟩
theorem zSa(F:aX K "__init__" "OfOne.__init__" W6 f fd)(mD:mg "Saying" = some (.ref D))(cD:oR K D "__init__" g)(G:aq P w K mg base aN 1 g gd ["self","word","parts"] (spS K))(bG:Binds K gd ["self","word","parts"] []) :
  aq P w K mg base aN 2 f fd ["self","word","part"] (pY K):=by
 refine F.ok Dd (λvs H Q E h=>?_) (λcdv A outer s H vs Q E hr h=>?_)
 ·obtain⟨p,C,dx,x,v,rfl,_⟩:=h
  rfl
 obtain⟨p,C,dx,x,v,rfl,hp,T,q⟩:=h
 refine⟨_,zB (zY (vX rfl mD cD G hr bG .nil vL (zA (pv 0) (zA (pv 1) (zA (yp (zA (pv 2) zE)) zE))))) (yW (yj (pv 0) (pv 2) rfl)),?_⟩
 refine⟨_,rfl,_,rfl,_,rfl,(by show 1<=sizeLine;decide),λt ht=>?_⟩
 have hp1:=aJ ht (.tup [v]) _ _ hp
 refine⟨p,C,dx,_,_,rfl,hp1,T,λH' k1 e1=>?_⟩
 have pt:t≠p:=(zL hp ht).symm
 refine⟨_,rfl,_,rfl,p,C,dx,_,rfl,e1,T.cl,T.n1,aan (TJ x t) (by decide),?_⟩
 exact q t _ (((Kp.of (aJ ht _)).trans k1).trans (Kp.put p _ _)) ht (by rw[zJ pt];exact k1 _ _ pt zK) zK
theorem Df:ao ["self","word","left","right"] ["self","word","left","right"] (zI W7):=⟨rfl,rfl,rfl,by decide +kernel,rfl,by decide +kernel,by decide +kernel⟩
theorem zR9(F:aX K "__init__" "OfTwo.__init__" W7 f fd)(mD:mg "Saying" = some (.ref D))(cD:oR K D "__init__" g)(G:aq P w K mg base aN 1 g gd ["self","word","parts"] (spS K))(bG:Binds K gd ["self","word","parts"] []) :
  aq P w K mg base aN 2 f fd ["self","word","left","right"] (uq K):=by
 refine F.ok Df (λvs H Q E h=>?_) (λcdv A outer s H vs Q E hr h=>?_)
 ·obtain⟨p,C,dx,x,v,u,rfl,_⟩:=h
  rfl
 obtain⟨p,C,dx,x,v,u,rfl,hp,T,q⟩:=h
 refine⟨_,zB (zY (vX rfl mD cD G hr bG .nil vL (zA (pv 0) (zA (pv 1) (zA (yp (zA (pv 2) (zA (pv 3) zE))) zE))))) (zB (yj (pv 0) (pv 2) rfl) (yW (yj (pv 0) (pv 3) rfl))),?_⟩
 refine⟨_,rfl,_,rfl,_,rfl,_,rfl,(by show 2<=sizeLine;decide),λt ht=>?_⟩
 have hp1:=aJ ht (.tup [v,u]) _ _ hp
 refine⟨p,C,dx,_,_,rfl,hp1,T,λH' k1 e1=>?_⟩
 have pt:t≠p:=(zL hp ht).symm
 refine⟨_,rfl,_,rfl,p,C,dx,_,rfl,e1,T.cl,T.nL,aan (TJ x t) (by decide),?_⟩
 refine⟨_,rfl,_,rfl,p,C,dx,_,rfl,zK,T.cl,T.nR,aan (aar (bC "left" v _) (abw (TJ x t))) (by decide),?_⟩
 exact q t _ ((((Kp.of (aJ ht _)).trans k1).trans (Kp.put p _ _)).trans (Kp.put p _ _)) ht (by rw[zJ pt,zJ pt];exact k1 _ _ pt zK) zK
theorem Qz:ao ["self"] ["self"] (zI J7):=⟨rfl,rfl,rfl,by decide +kernel,rfl,by decide +kernel,by decide +kernel⟩
theorem J9(F:aX K "__init__" "All.__init__" J7 f fd)(T:fZ K C)(mD:mg "Saying" = some (.ref D))(cD:oR K D "__init__" g)(G:aq P w K mg base aN 1 g gd ["self","word","parts"] (spS K))(bG:Binds K gd ["self","word","parts"] []) :
  aq P w K mg base aN 2 f fd ["self"] (JM C):=by
 refine F.ok Qz (λvs H Q E h=>?_) (λcdv A outer s H vs Q E hr h=>?_)
 ·obtain⟨p,dx,rfl,_⟩:=h
  rfl
 obtain⟨p,dx,rfl,hp,q⟩:=h
 refine⟨_,yW (zY (vX rfl mD cD G hr bG .nil vL (zA (pv 0) (zA yS (zA (yp zE) zE))))),?_⟩
 refine⟨_,rfl,(by show 0<=sizeLine;decide),λt ht=>?_⟩
 have hp1:=aJ ht (.tup []) _ _ hp
 have pt:t≠p:=(zL hp ht).symm
 exact⟨p,C,dx,_,_,rfl,hp1,T,λH' k1 e1=>q t H' ((Kp.of (aJ ht _)).trans k1) ht (k1 _ _ pt zK) e1⟩
theorem J_:ao ["self","name"] ["self","name"] (zI u5):=⟨rfl,rfl,rfl,by decide +kernel,rfl,by decide +kernel,by decide +kernel⟩
theorem Dg(F:aX K "__init__" "Mark.__init__" u5 f fd)(T:fZ K C)(mD:mg "Saying" = some (.ref D))(cD:oR K D "__init__" g)(G:aq P w K mg base aN 1 g gd ["self","word","parts"] (spS K))(bG:Binds K gd ["self","word","parts"] []) :
  aq P w K mg base aN 2 f fd ["self","name"] (JN C):=by
 refine F.ok J_ (λvs H Q E h=>?_) (λcdv A outer s H vs Q E hr h=>?_)
 ·obtain⟨p,dx,x,rfl,_⟩:=h
  rfl
 obtain⟨p,dx,x,rfl,hp,q⟩:=h
 refine⟨_,zB (zY (vX rfl mD cD G hr bG .nil vL (zA (pv 0) (zA (pv 1) (zA (yp zE) zE))))) (yW (yj (pv 0) (pv 1) rfl)),?_⟩
 refine⟨_,rfl,_,rfl,(by show 0<=sizeLine;decide),λt ht=>?_⟩
 have hp1:=aJ ht (.tup []) _ _ hp
 have pt:t≠p:=(zL hp ht).symm
 refine⟨p,C,dx,_,_,rfl,hp1,T,λH' k1 e1=>?_⟩
 refine⟨_,rfl,_,rfl,p,C,dx,_,rfl,e1,T.cl,T.nN,aan (TJ x t) (by decide),?_⟩
 exact q t _ (((Kp.of (aJ ht _)).trans k1).trans (Kp.put p _ _)) ht (by rw[zJ pt];exact k1 _ _ pt zK) zK
end
section
variable{P:Program}{w:World}{K:PySem.W.Frag}{mg:Str->Option Value}{base:Heap}
theorem QB:ao ["self","part"] ["self","part"] (zI J8):=⟨rfl,rfl,rfl,by decide +kernel,rfl,by decide +kernel,by decide +kernel⟩
theorem Ka(F:aX K "__init__" "Not.__init__" J8 f fd)(T:fZ K C)(mD:mg "OfOne" = some (.ref D))(cD:oR K D "__init__" g)(G:aq P w K mg base aN 2 g gd ["self","word","part"] (pY K))(bG:Binds K gd ["self","word","part"] []) :
  aq P w K mg base aN 3 f fd ["self","part"] (oV C "not"):=by
 refine F.ok QB (λvs H Q E h=>?_) (λcdv A outer s H vs Q E hr h=>?_)
 ·obtain⟨p,dx,c,rfl,_⟩:=h
  rfl
 obtain⟨p,dx,c,rfl,hp,q⟩:=h
 refine⟨_,yW (zY (vX rfl mD cD G hr bG .nil vL (zA (pv 0) (zA yS (zA (pv 1) zE))))),?_⟩
 exact⟨_,rfl,_,rfl,p,C,dx,_,_,rfl,hp,T,λq0 H' k1 f0 e1 e2=>q q0 H' k1 f0 e1 e2⟩
theorem zLv:ao ["self","part"] ["self","part"] (zI W8):=⟨rfl,rfl,rfl,by decide +kernel,rfl,by decide +kernel,by decide +kernel⟩
theorem zI6(F:aX K "__init__" "SomeNext.__init__" W8 f fd)(T:fZ K C)(mD:mg "OfOne" = some (.ref D))(cD:oR K D "__init__" g)(G:aq P w K mg base aN 2 g gd ["self","word","part"] (pY K))(bG:Binds K gd ["self","word","part"] []) :
  aq P w K mg base aN 3 f fd ["self","part"] (oV C "somenext"):=by
 refine F.ok zLv (λvs H Q E h=>?_) (λcdv A outer s H vs Q E hr h=>?_)
 ·obtain⟨p,dx,c,rfl,_⟩:=h
  rfl
 obtain⟨p,dx,c,rfl,hp,q⟩:=h
 refine⟨_,yW (zY (vX rfl mD cD G hr bG .nil vL (zA (pv 0) (zA yS (zA (pv 1) zE))))),?_⟩
 exact⟨_,rfl,_,rfl,p,C,dx,_,_,rfl,hp,T,λq0 H' k1 f0 e1 e2=>q q0 H' k1 f0 e1 e2⟩
theorem zLy:ao ["self","part"] ["self","part"] (zI W9):=⟨rfl,rfl,rfl,by decide +kernel,rfl,by decide +kernel,by decide +kernel⟩
theorem zI9(F:aX K "__init__" "EachNext.__init__" W9 f fd)(T:fZ K C)(mD:mg "OfOne" = some (.ref D))(cD:oR K D "__init__" g)(G:aq P w K mg base aN 2 g gd ["self","word","part"] (pY K))(bG:Binds K gd ["self","word","part"] []) :
  aq P w K mg base aN 3 f fd ["self","part"] (oV C "eachnext"):=by
 refine F.ok zLy (λvs H Q E h=>?_) (λcdv A outer s H vs Q E hr h=>?_)
 ·obtain⟨p,dx,c,rfl,_⟩:=h
  rfl
 obtain⟨p,dx,c,rfl,hp,q⟩:=h
 refine⟨_,yW (zY (vX rfl mD cD G hr bG .nil vL (zA (pv 0) (zA yS (zA (pv 1) zE))))),?_⟩
 exact⟨_,rfl,_,rfl,p,C,dx,_,_,rfl,hp,T,λq0 H' k1 f0 e1 e2=>q q0 H' k1 f0 e1 e2⟩
theorem zHd:ao ["self","part"] ["self","part"] (zI W_):=⟨rfl,rfl,rfl,by decide +kernel,rfl,by decide +kernel,by decide +kernel⟩
theorem zGe(F:aX K "__init__" "SomeAlways.__init__" W_ f fd)(T:fZ K C)(mD:mg "OfOne" = some (.ref D))(cD:oR K D "__init__" g)(G:aq P w K mg base aN 2 g gd ["self","word","part"] (pY K))(bG:Binds K gd ["self","word","part"] []) :
  aq P w K mg base aN 3 f fd ["self","part"] (oV C "somealways"):=by
 refine F.ok zHd (λvs H Q E h=>?_) (λcdv A outer s H vs Q E hr h=>?_)
 ·obtain⟨p,dx,c,rfl,_⟩:=h
  rfl
 obtain⟨p,dx,c,rfl,hp,q⟩:=h
 refine⟨_,yW (zY (vX rfl mD cD G hr bG .nil vL (zA (pv 0) (zA yS (zA (pv 1) zE))))),?_⟩
 exact⟨_,rfl,_,rfl,p,C,dx,_,_,rfl,hp,T,λq0 H' k1 f0 e1 e2=>q q0 H' k1 f0 e1 e2⟩
theorem zHe:ao ["self","part"] ["self","part"] (zI Xa):=⟨rfl,rfl,rfl,by decide +kernel,rfl,by decide +kernel,by decide +kernel⟩
theorem zGf(F:aX K "__init__" "EachAlways.__init__" Xa f fd)(T:fZ K C)(mD:mg "OfOne" = some (.ref D))(cD:oR K D "__init__" g)(G:aq P w K mg base aN 2 g gd ["self","word","part"] (pY K))(bG:Binds K gd ["self","word","part"] []) :
  aq P w K mg base aN 3 f fd ["self","part"] (oV C "eachalways"):=by
 refine F.ok zHe (λvs H Q E h=>?_) (λcdv A outer s H vs Q E hr h=>?_)
 ·obtain⟨p,dx,c,rfl,_⟩:=h
  rfl
 obtain⟨p,dx,c,rfl,hp,q⟩:=h
 refine⟨_,yW (zY (vX rfl mD cD G hr bG .nil vL (zA (pv 0) (zA yS (zA (pv 1) zE))))),?_⟩
 exact⟨_,rfl,_,rfl,p,C,dx,_,_,rfl,hp,T,λq0 H' k1 f0 e1 e2=>q q0 H' k1 f0 e1 e2⟩
theorem zLw:ao ["self","part"] ["self","part"] (zI Xb):=⟨rfl,rfl,rfl,by decide +kernel,rfl,by decide +kernel,by decide +kernel⟩
theorem zI7(F:aX K "__init__" "SomeEver.__init__" Xb f fd)(T:fZ K C)(mD:mg "OfOne" = some (.ref D))(cD:oR K D "__init__" g)(G:aq P w K mg base aN 2 g gd ["self","word","part"] (pY K))(bG:Binds K gd ["self","word","part"] []) :
  aq P w K mg base aN 3 f fd ["self","part"] (oV C "someever"):=by
 refine F.ok zLw (λvs H Q E h=>?_) (λcdv A outer s H vs Q E hr h=>?_)
 ·obtain⟨p,dx,c,rfl,_⟩:=h
  rfl
 obtain⟨p,dx,c,rfl,hp,q⟩:=h
 refine⟨_,yW (zY (vX rfl mD cD G hr bG .nil vL (zA (pv 0) (zA yS (zA (pv 1) zE))))),?_⟩
 exact⟨_,rfl,_,rfl,p,C,dx,_,_,rfl,hp,T,λq0 H' k1 f0 e1 e2=>q q0 H' k1 f0 e1 e2⟩
theorem Kc:ao ["self","left","right"] ["self","left","right"] (zI u_):=⟨rfl,rfl,rfl,by decide +kernel,rfl,by decide +kernel,by decide +kernel⟩
theorem Dh(F:aX K "__init__" "Both.__init__" u_ f fd)(T:fZ K C)(mD:mg "OfTwo" = some (.ref D))(cD:oR K D "__init__" g)(G:aq P w K mg base aN 2 g gd ["self","word","left","right"] (uq K))(bG:Binds K gd ["self","word","left","right"] []) :
  aq P w K mg base aN 3 f fd ["self","left","right"] (rD C "both"):=by
 refine F.ok Kc (λvs H Q E h=>?_) (λcdv A outer s H vs Q E hr h=>?_)
 ·obtain⟨p,dx,c,d,rfl,_⟩:=h
  rfl
 obtain⟨p,dx,c,d,rfl,hp,q⟩:=h
 refine⟨_,yW (zY (vX rfl mD cD G hr bG .nil vL (zA (pv 0) (zA yS (zA (pv 1) (zA (pv 2) zE)))))),?_⟩
 exact⟨_,rfl,_,rfl,_,rfl,p,C,dx,_,_,_,rfl,hp,T,λq0 H' k1 f0 e1 e2=>q q0 H' k1 f0 e1 e2⟩
theorem zRl:ao ["self","left","right"] ["self","left","right"] (zI Xc):=⟨rfl,rfl,rfl,by decide +kernel,rfl,by decide +kernel,by decide +kernel⟩
theorem zOq(F:aX K "__init__" "Either.__init__" Xc f fd)(T:fZ K C)(mD:mg "OfTwo" = some (.ref D))(cD:oR K D "__init__" g)(G:aq P w K mg base aN 2 g gd ["self","word","left","right"] (uq K))(bG:Binds K gd ["self","word","left","right"] []) :
  aq P w K mg base aN 3 f fd ["self","left","right"] (rD C "either"):=by
 refine F.ok zRl (λvs H Q E h=>?_) (λcdv A outer s H vs Q E hr h=>?_)
 ·obtain⟨p,dx,c,d,rfl,_⟩:=h
  rfl
 obtain⟨p,dx,c,d,rfl,hp,q⟩:=h
 refine⟨_,yW (zY (vX rfl mD cD G hr bG .nil vL (zA (pv 0) (zA yS (zA (pv 1) (zA (pv 2) zE)))))),?_⟩
 exact⟨_,rfl,_,rfl,_,rfl,p,C,dx,_,_,_,rfl,hp,T,λq0 H' k1 f0 e1 e2=>q q0 H' k1 f0 e1 e2⟩
theorem zLu:ao ["self","left","right"] ["self","left","right"] (zI Xd):=⟨rfl,rfl,rfl,by decide +kernel,rfl,by decide +kernel,by decide +kernel⟩
theorem zI5(F:aX K "__init__" "SomeTill.__init__" Xd f fd)(T:fZ K C)(mD:mg "OfTwo" = some (.ref D))(cD:oR K D "__init__" g)(G:aq P w K mg base aN 2 g gd ["self","word","left","right"] (uq K))(bG:Binds K gd ["self","word","left","right"] []) :
  aq P w K mg base aN 3 f fd ["self","left","right"] (rD C "sometill"):=by
 refine F.ok zLu (λvs H Q E h=>?_) (λcdv A outer s H vs Q E hr h=>?_)
 ·obtain⟨p,dx,c,d,rfl,_⟩:=h
  rfl
 obtain⟨p,dx,c,d,rfl,hp,q⟩:=h
 refine⟨_,yW (zY (vX rfl mD cD G hr bG .nil vL (zA (pv 0) (zA yS (zA (pv 1) (zA (pv 2) zE)))))),?_⟩
 exact⟨_,rfl,_,rfl,_,rfl,p,C,dx,_,_,_,rfl,hp,T,λq0 H' k1 f0 e1 e2=>q q0 H' k1 f0 e1 e2⟩
theorem zLx:ao ["self","left","right"] ["self","left","right"] (zI Xe):=⟨rfl,rfl,rfl,by decide +kernel,rfl,by decide +kernel,by decide +kernel⟩
theorem zI8(F:aX K "__init__" "EachTill.__init__" Xe f fd)(T:fZ K C)(mD:mg "OfTwo" = some (.ref D))(cD:oR K D "__init__" g)(G:aq P w K mg base aN 2 g gd ["self","word","left","right"] (uq K))(bG:Binds K gd ["self","word","left","right"] []) :
  aq P w K mg base aN 3 f fd ["self","left","right"] (rD C "eachtill"):=by
 refine F.ok zLx (λvs H Q E h=>?_) (λcdv A outer s H vs Q E hr h=>?_)
 ·obtain⟨p,dx,c,d,rfl,_⟩:=h
  rfl
 obtain⟨p,dx,c,d,rfl,hp,q⟩:=h
 refine⟨_,yW (zY (vX rfl mD cD G hr bG .nil vL (zA (pv 0) (zA yS (zA (pv 1) (zA (pv 2) zE)))))),?_⟩
 exact⟨_,rfl,_,rfl,_,rfl,p,C,dx,_,_,_,rfl,hp,T,λq0 H' k1 f0 e1 e2=>q q0 H' k1 f0 e1 e2⟩
end
end Sy
set_option maxHeartbeats 40000000
namespace Ts
open PySem L2 Sy
section
variable{P:Program}{w:World}{K:PySem.W.Frag}{mg:Str->Option Value}{base:Heap}
def uJ(q0:Int)(q1:Int):Option Bool:=if true=true then if(!false)=true then if decide ((0:Int)<=q0)=true then some (decide (q0<q1)) else some false else some false else some false
theorem jL:ao ["thing","many"] ["thing","many"] (zI iG):=fsc
abbrev zFi(K:PySem.W.Frag):Sp:=cR K false (λa:Int×Int×Unit=>([.z a.1,.z a.2.1]:SL K)) (λa=>uJ a.1 a.2.1)
theorem zI3(F:aX K "is_stand" "is_stand" iG f fd)(B:Bl K mg):aq P w K mg base aN (k+1) f fd ["thing","many"] (zFi K):=by
 refine yE F jL (λ_=>rfl) (λ_=>rfl) λcdv A outer s H E hr=>?_
 have nd:=jL.nd
 refine⟨_,(zB (zT (Ng (zX (t_ K (Lg (n:="int"))) rfl B.qY tZ (zA (pv 0) (zA (K8 (v:=.ty "int") rfl B.int ZS rfl) zE))) (Ng (Yp (zX (t_ K (Lg (n:="bool"))) rfl B.qY tZ (zA (pv 0) (zA (K8 (v:=.ty "bool") rfl B.bool ZV rfl) zE)))) (Nf (Yz tu RJ zO (pv 0) (pv 1)))))) zF),?_⟩
 rintro Fa ⟨q0,q1,⟨⟩⟩
 exact SB.of (zW (esc (Ov (Lq B.ii rfl (zG 0 rfl)) (Ov (ZG (Lq B.ib rfl (zG 0 rfl))) (zKy (f:=(λi j=>decide (i<=j))) (g:=(λi j=>decide (i<j))) (zN 0) (zG 0 rfl) (zG 1 rfl)))))) (by unfold uJ;simp only[bnd])
def yO(q0:LI)(q1:Int)(q2:Str):Option Unit:=(some ()).bind λqb=>((some q0).bind λxs=>xH (λ(s2:List (Key×Bool)) (x4:Int)=>(((uJ x4 q1).bind λa5=>some (!a5)).bind λb=>if b=true then none else some ()).bind λs6=>(if((gP (Dc.mk s2).kv x4).isSome)=true then none else some ()).bind λs8=>(dput s2 x4 true).bind λeV=>some eV) xs (([]:List (Key×Bool)))).bind λs3=>some ()
theorem fG:ao ["stands","many","where","ahead","stand"] ["stands","many","where"] (zI cY):=fsc
abbrev wP(K:PySem.W.Frag):Sp:=cR K false (λa:LI×Int×Str×Unit=>([.z a.1,.z a.2.1,.z a.2.2.1]:SL K)) (λa=>yO a.1 a.2.1 a.2.2.1)
theorem zDz(F:aX K "check_stands" "check_stands" cY f fd)(B:Bl K mg)(iH:bJ P w K mg base k "is_stand" ["thing","many"] (zFi K)):aq P w K mg base aN (k+1) f fd ["stands","many","where"] (wP K):=by
 refine S_ F fG (λ_=>rfl) (λ_=>rfl) λcdv A outer s H E hr=>?_
 have nd:=fG.nd
 have hu:=Oc hr
 refine⟨_,(zB (xN 3 nd RT) (zB (xJ aas rfl (yY K (pv 0)) (cU 4 nd) (zB (xP (M_ (uG (yA iH hr (zA (pv 4) (zA (pv 1) zE))))) vJ zF) (zB (xP (E_ (Va hu (pv 4) (pv 3))) vJ zF) (zB (RQ hu (pv 3) (pv 4) yg rfl) zF)))) zF)),?_⟩
 rintro Fa ⟨q0,q1,q2,⟨⟩⟩
 exact⟨_,Sn.of (zU (Sq (α:=Bool) 3 rfl rfl) (λqb=>(zU (wE (n:=false) (L:=(λs2:List (Key×Bool)=>([.z q0,.z q1,.z q2,.od (s2:List (Key×Bool)),.un]:SL K))) (([]:List (Key×Bool))) bK (yZ (yJ 0 rfl)) (λs2=>(zZ 4 rfl rfl)) (λs2 x4=>(zU (yx (Ou (dI (md:=.hp) (zR (zH (esc (zG 4 rfl)) (zH (esc (zG 1 rfl)) zQ))))) Lw (yB (λs7:Unit=>([.z q0,.z q1,.z q2,.od (s2:List (Key×Bool)),.z x4]:SL K)) () bK)) (λs6=>(zU (yx (dI (md:=.hp) (Ji (zG 4 rfl) (V9 3 rfl))) Lw (yB (λs9:Unit=>([.z q0,.z q1,.z q2,.od (s2:List (Key×Bool)),.z x4]:SL K)) () bK)) (λs8=>(zU (zNo 3 rfl rfl (esc (yt true)) (zG 4 rfl)) (λeV=>(yB (λs2:List (Key×Bool)=>([.z q0,.z q1,.z q2,.od (s2:List (Key×Bool)),.un]:SL K)) eV bK))))))))) (λs3=>(yB (λ_:Unit=>([.un,.un,.un,.un,.un]:SL K)) () bK))))) (by unfold yO;simp only[bnd])⟩
def wA(q0:List LI):Option Unit:=(some (q0.length:Int)).bind λmany1=>((if(decide (many1<(1:Int)))=true then some true else some (decide ((60:Int)<many1))).bind λb=>if b=true then none else some ()).bind λs2=>((some (tX q0)).bind λxs=>xH (λ(s4:Unit) (x6:Int×LI)=>(((((Jp "steps of stand " x6.1).bind λa8=>some ((a8,()))).bind λb9=>some (many1,b9)).bind λb10=>some (x6.2,b10)).bind λz7=>yO z7.1 z7.2.1 z7.2.2.1).bind λu11=>(if(decide ((x6.2.length:Int)=(0:Int)))=true then none else some ()).bind λs12=>some ()) xs ()).bind λs5=>some ()
theorem gq:ao ["steps","many","stand","targets"] ["steps"] (zI dO):=fsc
abbrev zGz(K:PySem.W.Frag):Sp:=cR K false (λa:((List LI))×Unit=>([.z a.1]:SL K)) (λa=>wA a.1)
theorem zEv(F:aX K "check_steps" "check_steps" dO f fd)(B:Bl K mg)(mz:mg "MOST_STANDS" = some (.int 60 mC))(aK:bJ P w K mg base k "check_stands" ["stands","many","where"] (wP K)):aq P w K mg base aN (k+1) f fd ["steps"] (zGz K):=by
 refine S_ F gq (λ_=>rfl) (λ_=>rfl) λcdv A outer s H E hr=>?_
 have nd:=gq.nd
 refine⟨_,(zB (xN 1 nd (zX (za K) rfl B.len abo (zA (pv 0) zE))) (zB (xP (PW.pt (pw_or (yF RJ (pv 1) zO (xE _)) (pw_or1 (yF Fp (pv 1) (uR (v:=.int 60) rfl mz ⟨_,rfl⟩) (xE _))))) vJ zF) (zB (xJ aas rfl (V3 K B.enum (zA (pv 0) zE)) (K_ rfl (xD (cU 2 nd) (xD (cU 3 nd) Hw))) (zB (zY (yA aK hr (zA (pv 3) (zA (pv 1) (zA (tV (pv 2) (by decide)) zE))))) (zB (xP (yF (wF K Int hr) (zX (za K) rfl B.len abo (zA (pv 3) zE)) zO (xE _)) vJ zF) zF))) zF))),?_⟩
 rintro Fa ⟨q0,⟨⟩⟩
 exact⟨_,Sn.of (zU (xI true 1 rfl rfl (esc (Bo (zD 0 rfl)))) (λmany1=>(zU (yx (Lh (yH (md:=.hp) (tY (zG 1 rfl) (zN 1))) (yH (md:=.hp) (Gb (zG 1 rfl) (zN 60)))) Lw (yB (λs3:Unit=>([.z q0,.y many1,.un,.un]:SL K)) () bK)) (λs2=>(zU (wE (n:=false) (L:=(λs4:Unit=>([.z q0,.y many1,.un,.un]:SL K))) () bK (VN (yJ 0 rfl)) (λs4=>(Lk 2 3 rfl rfl (λ_=>rfl) rfl)) (λs4 x6=>(zU (Li (md:=.hp) (zR (zH (zD 3 rfl) (zH (esc (zG 1 rfl)) (zH (esc (zUe "steps of stand " (zG 2 rfl))) zQ))))) (λu11=>(zU (yx (yH (md:=.hp) (wG (Bo (zD 3 rfl)) (zN 0))) Lw (yB (λDi:Unit=>([.z q0,.y many1,.z x6.1,.z x6.2]:SL K)) () bK)) (λs12=>(yB (λs4:Unit=>([.z q0,.y many1,.un,.un]:SL K)) () bK))))))) (λs5=>(yB (λ_:Unit=>([.un,.un,.un,.un]:SL K)) () bK))))))) (by unfold wA;simp only[bnd])⟩
def wS(q0:Str):Option Bool:=(if(!true)=true then some true else some (decide (q0∈(["all","not","both","either","somenext","eachnext","sometill","eachtill","someever","eachever"]:List Str)))).bind λb=>if b=true then some false else((uf q0).bind λb1=>if decide ((1:Int)<=b1)=true then some (decide (b1<=(8:Int))) else some false).bind λc4=>if c4=true then((some (BL q0)).bind λxs=>wD (λ(x2:Str)=>some true) (λ(x2:Str)=>some (Pq x2 ("abcdefghijklmnopqrstuvwxyz":Str))) xs).bind λa3=>some (a3.all id) else some false
theorem lA:ao ["name"] ["name"] (zI jA):=fsc
abbrev zIm(K:PySem.W.Frag):Sp:=cR K false (λa:Str×Unit=>([.z a.1]:SL K)) (λa=>wS a.1)
theorem zL4(F:aX K "is_name" "is_name" jA f fd)(B:Bl K mg)(rG:mg "LETTERS" = some (.str "abcdefghijklmnopqrstuvwxyz" rH))(lB:mg "LONGEST_NAME" = some (.int 8 lC))(lD:mg "SAYING_WORDS" = some (.ref bF))(c7:∀H,gZ K H bF ((["all","not","both","either","somenext","eachnext","sometill","eachtill","someever","eachever"]:List Str).map V.str))(Kd:mg "all" = none)(Ke:mg "str" = none):aq P w K mg base aN (k+1) f fd ["name"] (zIm K):=by
 refine yE F lA (λ_=>rfl) (λ_=>rfl) λcdv A outer s H E hr=>?_
 have nd:=lA.nd
 refine⟨_,(zB (xP (PW.pt (pw_or (M_ (uG (zX (t_ K (Lg (n:="str"))) rfl B.qY tZ (zA (pv 0) (zA (K8 (v:=.ty "str") rfl Ke Jr rfl) zE))))) (pw_or1 (yF (Z5 K) (pv 0) (uR (v:=.ref bF) rfl lD rfl) (by with_unfolding_all rfl))))) (zB (zT yg) zF) zF) (zB (zT (Ng (Yz tu tu zO (zX zQh rfl B.len abo (zA (pv 0) zE)) (uR (v:=.int 8) rfl lB ⟨_,rfl⟩)) (Nf (zX (zQi K rfl) rfl Kd Jf (zA (Fz (own:=["sign"]) (ix:=[]) rfl rfl rfl (Jk (pv 0)) (λC s H fp=>yM (i:=0) (show(["sign"]:List Str).Nodup from by decide +kernel) rfl (Or.inl rfl)) (λC s H fp=>wX) (λC s H fp=>(Yx zOd (pv 0) (uR (v:=.str "abcdefghijklmnopqrstuvwxyz") rfl rG ⟨_,rfl⟩) (by with_unfolding_all rfl)))) zE))))) zF)),?_⟩
 rintro Fa ⟨q0,⟨⟩⟩
 exact SB.of (vH (Lh (Ou (dI (md:=.hp) (Lq Pr rfl (zG 0 rfl)))) (yH (md:=.hp) (Jo c7 (zG 0 rfl)))) (zW (esc (yt false))) (zW (esc (Ov (zKy (f:=(λi j=>decide (i<=j))) (g:=(λi j=>decide (i<=j))) (zN 1) (BP (zG 0 rfl)) (zN 8)) (zSv (wC (n:=true) (mJ:=[.un]) (no:=1) (ix:=[]) rfl rfl (Jl (zG 0 rfl)) (zZ 0 rfl rfl) (λx2=>zc) (λx2=>(esc (Jm (zG 0 rfl) (uW "abcdefghijklmnopqrstuvwxyz")))) (λx2=>jo)).ex))))) (by unfold wS;simp only[bnd])
def wB(q0:List (Str×LI))(q1:Int):Option Unit:=(some ()).bind λqb=>((some q0).bind λxs=>xH (λ(s2:List (Key×Bool)) (x4:Str×LI)=>(((wS x4.1).bind λa5=>some (!a5)).bind λb=>if b=true then none else some ()).bind λs6=>(if((xC (Dc.mk s2).kv x4.1).isSome)=true then none else some ()).bind λs8=>(qZ s2 x4.1 true).bind λeV=>(((((Ly "mark " x4.1).bind λa12=>some ((a12,()))).bind λXf=>some (q1,Xf)).bind λXg=>some (x4.2,Xg)).bind λQC=>yO QC.1 QC.2.1 QC.2.2.1).bind λu15=>some eV) xs (([]:List (Key×Bool)))).bind λs3=>some ()
theorem gw:ao ["marks","many","ahead","name","stands"] ["marks","many"] (zI dR):=fsc
abbrev zG0(K:PySem.W.Frag):Sp:=cR K false (λa:((List (Str×LI)))×Int×Unit=>([.z a.1,.z a.2.1]:SL K)) (λa=>wB a.1 a.2.1)
theorem zEw(F:aX K "check_marks" "check_marks" dR f fd)(B:Bl K mg)(aK:bJ P w K mg base k "check_stands" ["stands","many","where"] (wP K))(jC:bJ P w K mg base k "is_name" ["name"] (zIm K)):aq P w K mg base aN (k+1) f fd ["marks","many"] (zG0 K):=by
 refine S_ F gw (λ_=>rfl) (λ_=>rfl) λcdv A outer s H E hr=>?_
 have nd:=gw.nd
 have hu:=Oc hr
 refine⟨_,(zB (xN 2 nd RT) (zB (xJ aas rfl (yY K (pv 0)) (K_ rfl (xD (cU 3 nd) (xD (cU 4 nd) Hw))) (zB (xP (M_ (uG (yA jC hr (zA (pv 3) zE)))) vJ zF) (zB (xP (E_ (Va hu (pv 3) (pv 2))) vJ zF) (zB (RQ hu (pv 2) (pv 3) yg rfl) (zB (zY (yA aK hr (zA (pv 4) (zA (pv 1) (zA (tV (pv 3) (by decide)) zE))))) zF))))) zF)),?_⟩
 rintro Fa ⟨q0,q1,⟨⟩⟩
 exact⟨_,Sn.of (zU (Sq (α:=Bool) 2 rfl rfl) (λqb=>(zU (wE (n:=false) (L:=(λs2:List (Key×Bool)=>([.z q0,.z q1,.od (s2:List (Key×Bool)),.un,.un]:SL K))) (([]:List (Key×Bool))) bK (yZ (yJ 0 rfl)) (λs2=>(Lk 3 4 rfl rfl (λ_=>rfl) rfl)) (λs2 x4=>(zU (yx (Ou (dI (md:=.hp) (zR (zH (esc (zG 3 rfl)) zQ)))) Lw (yB (λs7:Unit=>([.z q0,.z q1,.od (s2:List (Key×Bool)),.z x4.1,.z x4.2]:SL K)) () bK)) (λs6=>(zU (yx (dI (md:=.hp) (BR (zG 3 rfl) (V9 2 rfl))) Lw (yB (λs9:Unit=>([.z q0,.z q1,.od (s2:List (Key×Bool)),.z x4.1,.z x4.2]:SL K)) () bK)) (λs8=>(zU (zRg 2 rfl rfl (esc (yt true)) (zG 3 rfl)) (λeV=>(zU (Li (md:=.hp) (zR (zH (zD 4 rfl) (zH (esc (zG 1 rfl)) (zH (esc (Jq "mark " (zG 3 rfl))) zQ))))) (λu15=>(yB (λs2:List (Key×Bool)=>([.z q0,.z q1,.od (s2:List (Key×Bool)),.un,.un]:SL K)) eV bK))))))))))) (λs3=>(yB (λ_:Unit=>([.un,.un,.un,.un,.un]:SL K)) () bK))))) (by unfold wB;simp only[bnd])⟩
def wT(q0:List LI)(q1:Int):Option Unit:=((some (tX q0)).bind λxs=>xH (λ(s1:Unit) (x3:Int×LI)=>(((((Jp "fair set " x3.1).bind λa5=>some ((a5,()))).bind λb6=>some (q1,b6)).bind λb7=>some (x3.2,b7)).bind λz4=>yO z4.1 z4.2.1 z4.2.2.1).bind λu8=>some ()) xs ()).bind λs2=>some ()
theorem g_:ao ["fair","many","number","stands"] ["fair","many"] (zI eU):=fsc
abbrev zIn(K:PySem.W.Frag):Sp:=cR K false (λa:((List LI))×Int×Unit=>([.z a.1,.z a.2.1]:SL K)) (λa=>wT a.1 a.2.1)
theorem zGd(F:aX K "check_fair" "check_fair" eU f fd)(B:Bl K mg)(aK:bJ P w K mg base k "check_stands" ["stands","many","where"] (wP K)):aq P w K mg base aN (k+1) f fd ["fair","many"] (zIn K):=by
 refine S_ F g_ (λ_=>rfl) (λ_=>rfl) λcdv A outer s H E hr=>?_
 have nd:=g_.nd
 refine⟨_,(zB (xJ aas rfl (V3 K B.enum (zA (pv 0) zE)) (K_ rfl (xD (cU 2 nd) (xD (cU 3 nd) Hw))) (zB (zY (yA aK hr (zA (pv 3) (zA (pv 1) (zA (tV (pv 2) (by decide)) zE))))) zF)) zF),?_⟩
 rintro Fa ⟨q0,q1,⟨⟩⟩
 exact⟨_,Sn.of (zU (wE (n:=false) (L:=(λs1:Unit=>([.z q0,.z q1,.un,.un]:SL K))) () bK (VN (yJ 0 rfl)) (λs1=>(Lk 2 3 rfl rfl (λ_=>rfl) rfl)) (λs1 x3=>(zU (Li (md:=.hp) (zR (zH (zD 3 rfl) (zH (esc (zG 1 rfl)) (zH (esc (zUe "fair set " (zG 2 rfl))) zQ))))) (λu8=>(yB (λs1:Unit=>([.z q0,.z q1,.un,.un]:SL K)) () bK))))) (λs2=>(yB (λ_:Unit=>([.un,.un,.un,.un]:SL K)) () bK))) (by unfold wT;simp only[bnd])⟩
def Ml(q0:List LI):Option (List LI):=(some q0).bind λxs=>wD (λ(x1:LI)=>some true) (λ(x1:LI)=>some x1) xs
theorem mL:ao ["lists"] ["lists"] (zI kW):=fsc
abbrev zTe(K:PySem.W.Frag):Sp:=cR K false (λa:((List LI))×Unit=>([.z a.1]:SL K)) (λa=>Ml a.1)
theorem zOo(F:aX K "copied" "copied" kW f fd)(B:Bl K mg):aq P w K mg base aN (k+1) f fd ["lists"] (zTe K):=by
 refine yE F mL (λ_=>rfl) (λ_=>rfl) λcdv A outer s H E hr=>?_
 have nd:=mL.nd
 refine⟨_,(zB (zT (Fz (own:=["things"]) (ix:=[]) rfl rfl rfl (yY K (pv 0)) (λC s H fp=>yM (i:=0) (show(["things"]:List Str).Nodup from by decide +kernel) rfl (Or.inl rfl)) (λC s H fp=>wX) (λC s H fp=>(NK (Pa K) rfl B.list Lr (zA (pv 0) zE))))) zF),?_⟩
 rintro Fa ⟨q0,⟨⟩⟩
 exact SB.of (zW (wC (n:=false) (mJ:=[.un]) (no:=1) (ix:=[]) rfl rfl (yZ (yJ 0 rfl)) (zZ 0 rfl rfl) (λx1=>zc) (λx1=>(O4 (zD 0 rfl)).ex) (λx1=>jo)).ex) (by unfold Ml;simp only[bnd])
end
abbrev QD(C:Addr):=Tc C wA wB wT Ml Mj
section
variable{P:Program}{w:World}{K:PySem.W.Frag}{mg:Str->Option Value}{base:Heap}
def yI(q0:aG C):Option Int:=some (q0.steps.length:Int)
theorem fH:ao ["self"] ["self"] (zI cZ):=fsc
abbrev xT(K:PySem.W.Frag)(C:Addr):Sp:=cR K false (λa:(aG C)×Unit=>([.z a.1]:SL K)) (λa=>yI a.1)
theorem zD0(F:aX K "many" "Machine.many" cZ f fd)(B:Bl K mg)(T:Cl K mg C):aq P w K mg base aN (k+1) f fd ["self"] (xT K C):=by
 refine yE F fH (λ_=>rfl) (λ_=>rfl) λcdv A outer s H E hr=>?_
 have nd:=fH.nd
 refine⟨_,(zB (zT (zX (za K) rfl B.len abo (zA (Gg K (pv 0)) zE))) zF),?_⟩
 rintro Fa ⟨q0,⟨⟩⟩
 exact SB.of (zW (esc (Bo (Z0 T.cl T.nS (zD 0 rfl))))) (by unfold yI;simp only[bnd])
def yT(q0:aG C)(q1:Int):Option LI:=(cQ q0.steps q1).bind λa1=>BK a1
theorem dh:ao ["self","stand"] ["self","stand"] (zI bQ):=fsc
abbrev uO(K:PySem.W.Frag)(C:Addr):Sp:=cR K false (λa:(aG C)×Int×Unit=>([.z a.1,.z a.2.1]:SL K)) (λa=>yT a.1 a.2.1)
theorem zBo(F:aX K "next_of" "Machine.next_of" bQ f fd)(B:Bl K mg)(T:Cl K mg C)(aZ:mg "sorted" = none):aq P w K mg base aN (k+1) f fd ["self","stand"] (uO K C):=by
 refine yE F dh (λ_=>rfl) (λ_=>rfl) λcdv A outer s H E hr=>?_
 have nd:=dh.nd
 refine⟨_,(zB (zT (zX (V7 K) rfl aZ V4 (zA (yN (cW K) (Gg K (pv 0)) (pv 1) (λ_ _=>rfl)) zE))) zF),?_⟩
 rintro Fa ⟨q0,q1,⟨⟩⟩
 exact SB.of (zW (V8 (uD (Z0 T.cl T.nS (zD 0 rfl)) (zG 1 rfl))).ex) (by unfold yT;simp only[bnd])
def xB(q0:aG C)(q1:Int):Option LI:=cQ q0.sources q1
theorem dF:ao ["self","stand"] ["self","stand"] (zI cg):=fsc
abbrev uY(K:PySem.W.Frag)(C:Addr):Sp:=cR K false (λa:(aG C)×Int×Unit=>([.z a.1,.z a.2.1]:SL K)) (λa=>xB a.1 a.2.1)
theorem zCi(F:aX K "before" "Machine.before" cg f fd)(B:Bl K mg)(T:Cl K mg C):aq P w K mg base aN (k+1) f fd ["self","stand"] (uY K C):=by
 refine yE F dF (λ_=>rfl) (λ_=>rfl) λcdv A outer s H E hr=>?_
 have nd:=dF.nd
 refine⟨_,(zB (zT (NK (Pa K) rfl B.list Lr (zA (yN (cW K) (Gg K (pv 0)) (pv 1) (λ_ _=>rfl)) zE))) zF),?_⟩
 rintro Fa ⟨q0,q1,⟨⟩⟩
 exact SB.of (zW (O4 (uD (zJj T.cl T.nB (zD 0 rfl)) (zG 1 rfl))).ex) (by unfold xB;simp only[bnd])
def zV(q0:aG C)(q1:Str):Option LI:=((some q0.marks).bind λxs=>vD (λ(s1:Unit) (x3:Str×LI)=>if(decide (x3.1=q1))=true then(BK x3.2).bind λb=>some (.rt b) else some (.nx ())) xs ()).bind λo=>o.els λs2=>some ([]:LI)
theorem dG:ao ["self","name","known","stands"] ["self","name"] (zI cj):=fsc
abbrev uX(K:PySem.W.Frag)(C:Addr):Sp:=cR K false (λa:(aG C)×Str×Unit=>([.z a.1,.z a.2.1]:SL K)) (λa=>zV a.1 a.2.1)
theorem zCh(F:aX K "marked" "Machine.marked" cj f fd)(B:Bl K mg)(T:Cl K mg C)(aZ:mg "sorted" = none):aq P w K mg base aN (k+1) f fd ["self","name"] (uX K C):=by
 refine yE F dG (λ_=>rfl) (λ_=>rfl) λcdv A outer s H E hr=>?_
 have nd:=dG.nd
 refine⟨_,(zB (xJ aas rfl (yY K (Gg K (pv 0))) (K_ rfl (xD (cU 2 nd) (xD (cU 3 nd) Hw))) (zB (xP (yF (wF K Str hr) (pv 2) (pv 1) (xE _)) (zB (zT (zX (V7 K) rfl aZ V4 (zA (pv 3) zE))) zF) zF) zF)) (zB (zT (vK zE)) zF)),?_⟩
 rintro Fa ⟨q0,q1,⟨⟩⟩
 exact SB.of (VD (VH (n:=false) (L:=(λs1:Unit=>([.z q0,.z q1,.un,.un]:SL K))) () bK (yZ (zPx T.cl T.nM (yJ 0 rfl))) (λs1=>(Lk 2 3 rfl rfl (λ_=>rfl) rfl)) (λs1 x3=>(VG (yH (md:=.hp) (wG (zG 2 rfl) (zG 1 rfl))) (zW (V8 (zD 3 rfl)).ex) (VF (λs1:Unit=>([.z q0,.z q1,.un,.un]:SL K)) () bK)))) (λs2=>(zW (Bd (α:=Int)).ex))) (by unfold zV;simp only[bnd])
def yU(q0:aG C)(q1:Int):Option LI:=(cQ q0.fair q1).bind λa1=>BK a1
theorem dj:ao ["self","number"] ["self","number"] (zI bT):=fsc
abbrev uP(K:PySem.W.Frag)(C:Addr):Sp:=cR K false (λa:(aG C)×Int×Unit=>([.z a.1,.z a.2.1]:SL K)) (λa=>yU a.1 a.2.1)
theorem zBp(F:aX K "fair_at" "Machine.fair_at" bT f fd)(B:Bl K mg)(T:Cl K mg C)(aZ:mg "sorted" = none):aq P w K mg base aN (k+1) f fd ["self","number"] (uP K C):=by
 refine yE F dj (λ_=>rfl) (λ_=>rfl) λcdv A outer s H E hr=>?_
 have nd:=dj.nd
 refine⟨_,(zB (zT (zX (V7 K) rfl aZ V4 (zA (yN (cW K) (Gg K (pv 0)) (pv 1) (λ_ _=>rfl)) zE))) zF),?_⟩
 rintro Fa ⟨q0,q1,⟨⟩⟩
 exact SB.of (zW (V8 (uD (Z1 T.cl T.nF (zD 0 rfl)) (zG 1 rfl))).ex) (by unfold yU;simp only[bnd])
def yV(q0:aG C):Option LI:=(yI q0).bind λa1=>Ma a1
theorem h_:ao ["machine"] ["machine"] (zI eG):=fsc
abbrev uB(K:PySem.W.Frag)(C:Addr):Sp:=cR K false (λa:(aG C)×Unit=>([.z a.1]:SL K)) (λa=>yV a.1)
theorem zGc(F:aX K "everywhere" "everywhere" eG f fd)(B:Bl K mg)(aH:fL P w K mg base k C "many" ["self"] (xT K C)):aq P w K mg base aN (k+1) f fd ["machine"] (uB K C):=by
 refine yE F h_ (λ_=>rfl) (λ_=>rfl) λcdv A outer s H E hr=>?_
 have nd:=h_.nd
 refine⟨_,(zB (zT (zR0 rfl rfl B.list rfl B.range (zA (S8 aH hr (pv 0)) zE))) zF),?_⟩
 rintro Fa ⟨q0,⟨⟩⟩
 exact SB.of (zW (zSw (Ge (by decide +kernel) (zD 0 rfl) zQ)).ex) (by unfold yV;simp only[bnd])
def QF(q0:aG C)(q1:LI):Option (List Bool):=(((yI q0).bind λa2=>wR a2).bind λxs=>wD (λ(x3:Int)=>some true) (λ(x3:Int)=>some false) xs).bind λdw=>((some q1).bind λxs=>xH (λ(s4:List Bool) (x6:Int)=>(qW s4 x6 true).bind λvd=>some vd) xs dw).bind λs5=>some s5
theorem oZ:ao ["machine","stands","told","stand"] ["machine","stands"] (zI nj):=fsc
abbrev zQu(K:PySem.W.Frag)(C:Addr):Sp:=cR K false (λa:(aG C)×LI×Unit=>([.z a.1,.z a.2.1]:SL K)) (λa=>QF a.1 a.2.1)
theorem zR7(F:aX K "flags" "flags" nj f fd)(B:Bl K mg)(aH:fL P w K mg base k C "many" ["self"] (xT K C)):aq P w K mg base aN (k+1) f fd ["machine","stands"] (zQu K C):=by
 refine yE F oZ (λ_=>rfl) (λ_=>rfl) λcdv A outer s H E hr=>?_
 have nd:=oZ.nd
 refine⟨_,(zB (FJ (i:=2) (own:=["stand"]) (ix:=[]) nd rfl rfl rfl rfl rfl (xS rfl B.range (zA (S8 aH hr (pv 0)) zE)) (λC s H fp=>yM (i:=0) (show(["stand"]:List Str).Nodup from by decide +kernel) rfl (Or.inl rfl)) (λC s H fp=>wX) (λC s H fp=>yg)) (zB (xJ aas rfl (yY K (pv 1)) (cU 3 nd) (zB (Ry yg (Rx (pv 2) (pv 3) N_)) zF)) (zB (zT (pv 2)) zF))),?_⟩
 rintro Fa ⟨q0,q1,⟨⟩⟩
 exact SB.of (zS (uZ true 2 rfl rfl (wC (n:=true) (mJ:=[.un]) (no:=1) (ix:=[]) rfl rfl (wO (Ge (by decide +kernel) (zD 0 rfl) zQ)) (zZ 0 rfl rfl) (λx3=>zc) (λx3=>(esc (yt false))) (λx3=>jo))) (λdw=>(zS (wE (n:=false) (L:=(λs4:List Bool=>([.z q0,.z q1,.ow true s4,.un]:SL K))) dw bK (yZ (yJ 1 rfl)) (λs4=>(zZ 3 rfl rfl)) (λs4 x6=>(zU (Ss 2 rfl rfl (esc (yt true)) (zG 3 rfl)) (λvd=>(yB (λs4:List Bool=>([.z q0,.z q1,.ow true s4,.un]:SL K)) vd bK))))) (λs5=>(IK 2 rfl rfl))))) (by unfold QF;simp only[bnd])
def Xh(q0:LI)(q1:LI):Option LI:=Ql q0 q1
theorem lE:ao ["one","other"] ["one","other"] (zI jr):=fsc
abbrev zIj(K:PySem.W.Frag):Sp:=cR K false (λa:LI×LI×Unit=>([.z a.1,.z a.2.1]:SL K)) (λa=>Xh a.1 a.2.1)
theorem zL1(F:aX K "without" "without" jr f fd)(B:Bl K mg)(aZ:mg "sorted" = none)(jX:mg "set" = none):aq P w K mg base aN (k+1) f fd ["one","other"] (zIj K):=by
 refine yE F lE (λ_=>rfl) (λ_=>rfl) λcdv A outer s H E hr=>?_
 have nd:=lE.nd
 refine⟨_,(zB (zT (Tt rfl aZ (Cm (Jz K rfl jX (pv 0)) (Jz K rfl jX (pv 1))))) zF),?_⟩
 rintro Fa ⟨q0,q1,⟨⟩⟩
 exact SB.of (zW (zMn (zD 0 rfl) (zD 1 rfl)).ex) (by unfold Xh;simp only[bnd])
def Mp(q0:aG C)(q1:LI):Option LI:=((yV q0).bind λa2=>some ((a2,(q1,())))).bind λz1=>Xh z1.1 z1.2.1
theorem mO:ao ["machine","stands"] ["machine","stands"] (zI kj):=fsc
abbrev zLa(K:PySem.W.Frag)(C:Addr):Sp:=cR K false (λa:(aG C)×LI×Unit=>([.z a.1,.z a.2.1]:SL K)) (λa=>Mp a.1 a.2.1)
theorem zOh(F:aX K "others" "others" kj f fd)(B:Bl K mg)(aO:bJ P w K mg base k "everywhere" ["machine"] (uB K C))(jD:bJ P w K mg base k "without" ["one","other"] (zIj K)):aq P w K mg base aN (k+1) f fd ["machine","stands"] (zLa K C):=by
 refine yE F mO (λ_=>rfl) (λ_=>rfl) λcdv A outer s H E hr=>?_
 have nd:=mO.nd
 refine⟨_,(zB (zT (yA jD hr (zA (yA aO hr (zA (pv 0) zE)) (zA (pv 1) zE)))) zF),?_⟩
 rintro Fa ⟨q0,q1,⟨⟩⟩
 exact SB.of (zW (zR (zH (zR (zH (zD 0 rfl) zQ)) (zH (zD 1 rfl) zQ)))) (by unfold Mp;simp only[bnd])
def wN(q0:LI)(q1:LI):Option LI:=Tw q0 q1
theorem mQ:ao ["one","other"] ["one","other"] (zI kE):=fsc
abbrev Xi(K:PySem.W.Frag):Sp:=cR K false (λa:LI×LI×Unit=>([.z a.1,.z a.2.1]:SL K)) (λa=>wN a.1 a.2.1)
theorem zOg(F:aX K "shared" "shared" kE f fd)(B:Bl K mg)(aZ:mg "sorted" = none)(jX:mg "set" = none):aq P w K mg base aN (k+1) f fd ["one","other"] (Xi K):=by
 refine yE F mQ (λ_=>rfl) (λ_=>rfl) λcdv A outer s H E hr=>?_
 have nd:=mQ.nd
 refine⟨_,(zB (zT (Tt rfl aZ (BZ (Jz K rfl jX (pv 0)) (Jz K rfl jX (pv 1))))) zF),?_⟩
 rintro Fa ⟨q0,q1,⟨⟩⟩
 exact SB.of (zW (zMp (zD 0 rfl) (zD 1 rfl)).ex) (by unfold wN;simp only[bnd])
def uI(q0:LI)(q1:LI):Option LI:=Cp q0 q1
theorem jM:ao ["one","other"] ["one","other"] (zI iC):=fsc
abbrev zFh(K:PySem.W.Frag):Sp:=cR K false (λa:LI×LI×Unit=>([.z a.1,.z a.2.1]:SL K)) (λa=>uI a.1 a.2.1)
theorem zI2(F:aX K "together" "together" iC f fd)(B:Bl K mg)(aZ:mg "sorted" = none)(jX:mg "set" = none):aq P w K mg base aN (k+1) f fd ["one","other"] (zFh K):=by
 refine yE F jM (λ_=>rfl) (λ_=>rfl) λcdv A outer s H E hr=>?_
 have nd:=jM.nd
 refine⟨_,(zB (zT (Tt rfl aZ (JK (Jz K rfl jX (pv 0)) (Jz K rfl jX (pv 1))))) zF),?_⟩
 rintro Fa ⟨q0,q1,⟨⟩⟩
 exact SB.of (zW (zP2 (zD 0 rfl) (zD 1 rfl)).ex) (by unfold uI;simp only[bnd])
def vQ(q0:aG C)(q1:LI)(q2:LI):Option (List (Option Int)):=(QF q0 q1).bind λbw=>(((yI q0).bind λa3=>wR a3).bind λxs=>wD (λ(x4:Int)=>some true) (λ(x4:Int)=>some (none:Option Int)) xs).bind λvf=>((some q2).bind λxs=>xH (λ(s5:List (Option Int)) (x7:Int)=>(qW s5 x7 (some (0:Int))).bind λvg=>some vg) xs vf).bind λs6=>(some q2).bind λKf=>(some (0:Int)).bind λnH=>(FZ (λiR:(List (Option Int))×LI×Int=>some (decide (iR.2.2<(iR.2.1.length:Int)))) (λiR:(List (Option Int))×LI×Int=>(cQ iR.2.1 iR.2.2).bind λeX=>((xB q0 eX).bind λxs=>xH (λ(nJ:(List (Option Int))×LI) (Kg:Int)=>(((cQ bw Kg).bind λc18=>if c18=true then(cQ nJ.1 Kg).bind λa17=>some a17.isNone else some false).bind λb=>if b=true then(((((cQ nJ.1 eX).bind λa22=>a22).bind λa23=>some (a23+(1:Int))).bind λa24=>some (some a24)).bind λa25=>qW nJ.1 Kg a25).bind λeY=>(push nJ.2 Kg).bind λvh=>some (eY,vh) else some (nJ.1,nJ.2)).bind λQG=>some (QG.1,QG.2)) xs (iR.1,iR.2.1)).bind λnO=>(some (iR.2.2+(1:Int))).bind λnQ=>some (nO.1,nO.2,nQ)) fuel (s6,Kf,nH)).bind λs12=>some s12.1
theorem jf:ao ["machine","through","goal","passable","told","stand","row","place","source"] ["machine","through","goal"] (zI gk):=fsc
abbrev zEp(K:PySem.W.Frag)(C:Addr):Sp:=cR K false (λa:(aG C)×LI×LI×Unit=>([.z a.1,.z a.2.1,.z a.2.2.1]:SL K)) (λa=>vQ a.1 a.2.1 a.2.2.1)
theorem zHo(F:aX K "distances" "distances" gk f fd)(B:Bl K mg)(cu:fL P w K mg base k C "before" ["self","stand"] (uY K C))(aH:fL P w K mg base k C "many" ["self"] (xT K C))(nU:bJ P w K mg base k "flags" ["machine","stands"] (zQu K C)):aq P w K mg base aN (k+1) f fd ["machine","through","goal"] (zEp K C):=by
 refine yE F jf (λ_=>rfl) (λ_=>rfl) λcdv A outer s H E hr=>?_
 have nd:=jf.nd
 refine⟨_,(zB (xN 3 nd (yA nU hr (zA (pv 0) (zA (pv 1) zE)))) (zB (FJ (i:=4) (own:=["stand"]) (ix:=[]) nd rfl rfl rfl rfl rfl (xS rfl B.range (zA (S8 aH hr (pv 0)) zE)) (λC s H fp=>yM (i:=0) (show(["stand"]:List Str).Nodup from by decide +kernel) rfl (Or.inl rfl)) (λC s H fp=>wX) (λC s H fp=>Ym)) (zB (xJ aas rfl (yY K (pv 2)) (cU 5 nd) (zB (Ry zO (Rx (pv 4) (pv 5) N_)) zF)) (zB (xN 6 nd (NK (Pa K) rfl B.list Lr (zA (pv 2) zE))) (zB (xN 7 nd zO) (zB (zRw aas (yF RJ (pv 7) (zX (za K) rfl B.len abo (zA (pv 6) zE)) (xE _)) (zB (xN 5 nd (yN (cW K) (pv 6) (pv 7) (λ_ _=>rfl))) (zB (xJ aas rfl (yY K (S7 cu hr (pv 0) (zA (pv 5) zE))) (cU 8 nd) (zB (xP (PW.pt (pw_and (uG (yN (cW K) (pv 3) (pv 8) (λ_ _=>rfl))) (pw_and1 (E_ (Rr (yN (cW K) (pv 4) (pv 8) (λ_ _=>rfl))))))) (zB (Ry (yL HX (yN (cW K) (pv 4) (pv 5) (λ_ _=>rfl)) zO) (Rx (pv 4) (pv 8) N_)) (zB (zY (uc K aax aa7 aa8 wU (pv 6) (zA (pv 8) zE))) zF)) zF) zF)) (zB (Ys (i:=7) nd rfl (by first|exact .inl rfl|exact .inr rfl) zO HB) zF)))) (zB (zT (pv 4)) zF))))))),?_⟩
 rintro Fa ⟨q0,q1,q2,⟨⟩⟩
 exact SB.of (zS (xI true 3 rfl rfl (zR (zH (zD 0 rfl) (zH (zD 1 rfl) zQ)))) (λbw=>(zS (uZ true 4 rfl rfl (wC (n:=true) (mJ:=[.un]) (no:=1) (ix:=[]) rfl rfl (wO (Ge (by decide +kernel) (zD 0 rfl) zQ)) (zZ 0 rfl rfl) (λx4=>zc) (λx4=>(esc (ZF (α:=Int)))) (λx4=>jo))) (λvf=>(zS (wE (n:=false) (L:=(λs5:List (Option Int)=>([.z q0,.z q1,.z q2,.y bw,.ow true s5,.un,.un,.un,.un]:SL K))) vf bK (yZ (yJ 2 rfl)) (λs5=>(zZ 5 rfl rfl)) (λs5 x7=>(zU (Ss 4 rfl rfl (esc (Vy (zN 0))) (zG 5 rfl)) (λvg=>(yB (λs5:List (Option Int)=>([.z q0,.z q1,.z q2,.y bw,.ow true s5,.un,.un,.un,.un]:SL K)) vg bK))))) (λs6=>(zS (uZ true 6 rfl rfl (O4 (zD 2 rfl))) (λKf=>(zS (xI true 7 rfl rfl (esc (zN 0))) (λnH=>(zS (zRf (L:=(λiR:(List (Option Int))×LI×Int=>([.z q0,.z q1,.z q2,.y bw,.ow true iR.1,.un,.ow true iR.2.1,.y iR.2.2,.un]:SL K))) fuel (s6,Kf,nH) bK (λiR=>(yH (md:=.hp) (tY (zG 7 rfl) (Bo (FQ 6 rfl))))) (λiR=>(zU (xI true 5 rfl rfl (esc (esc (uD (FQ 6 rfl) (zG 7 rfl))))) (λeX=>(zU (wE (n:=true) (L:=(λnJ:(List (Option Int))×LI=>([.z q0,.z q1,.z q2,.y bw,.ow true nJ.1,.y eX,.ow true nJ.2,.y iR.2.2,.un]:SL K))) (iR.1,iR.2.1) bK (yZ (Ge (by decide +kernel) (zD 0 rfl) (zH (esc (zG 5 rfl)) zQ))) (λnJ=>(zZ 8 rfl rfl)) (λnJ Kg=>(zU (yx (Vz (dI (md:=.hp) (esc (uD (zD 3 rfl) (zG 8 rfl)))) (dI (md:=.hp) (SQ (esc (uD (FQ 4 rfl) (zG 8 rfl)))))) (zU (Ss 4 rfl rfl (esc (Vy (I9 (V1 (esc (uD (FQ 4 rfl) (zG 5 rfl)))) (zN 1)))) (zG 8 rfl)) (λeY=>(zU (Ox 6 rfl rfl (esc (zG 8 rfl))) (λvh=>(yB (λQH:(List (Option Int))×LI=>([.z q0,.z q1,.z q2,.y bw,.ow true QH.1,.y eX,.ow true QH.2,.y iR.2.2,.y Kg]:SL K)) (eY,vh) bK))))) (yB (λQH:(List (Option Int))×LI=>([.z q0,.z q1,.z q2,.y bw,.ow true QH.1,.y eX,.ow true QH.2,.y iR.2.2,.y Kg]:SL K)) (nJ.1,nJ.2) bK)) (λQG=>(yB (λnJ:(List (Option Int))×LI=>([.z q0,.z q1,.z q2,.y bw,.ow true nJ.1,.y eX,.ow true nJ.2,.y iR.2.2,.un]:SL K)) (QG.1,QG.2) bK))))) (λnO=>(zU (Z4 (s:=.un) 7 rfl (zN 1)) (λnQ=>(yB (λiR:(List (Option Int))×LI×Int=>([.z q0,.z q1,.z q2,.y bw,.ow true iR.1,.un,.ow true iR.2.1,.y iR.2.2,.un]:SL K)) (nO.1,nO.2,nQ) bK))))))))) (λs12=>(IK 4 rfl rfl))))))))))))) (by unfold vQ;simp only[bnd])
def vG(q0:aG C)(q1:LI)(q2:LI):Option LI:=(vQ q0 q1 q2).bind λGQ=>(some (tX GQ)).bind λxs=>wD (λ(x2:Int×(Option Int))=>some x2.2.isSome) (λ(x2:Int×(Option Int))=>some x2.1) xs
theorem jN:ao ["machine","through","goal","away"] ["machine","through","goal"] (zI iD):=fsc
abbrev zFj(K:PySem.W.Frag)(C:Addr):Sp:=cR K false (λa:(aG C)×LI×LI×Unit=>([.z a.1,.z a.2.1,.z a.2.2.1]:SL K)) (λa=>vG a.1 a.2.1 a.2.2.1)
theorem zI4(F:aX K "comes_to" "comes_to" iD f fd)(B:Bl K mg)(gA:bJ P w K mg base k "distances" ["machine","through","goal"] (zEp K C)):aq P w K mg base aN (k+1) f fd ["machine","through","goal"] (zFj K C):=by
 refine yE F jN (λ_=>rfl) (λ_=>rfl) λcdv A outer s H E hr=>?_
 have nd:=jN.nd
 refine⟨_,(zB (xN 3 nd (yA gA hr (zA (pv 0) (zA (pv 1) (zA (pv 2) zE))))) (zB (zT (Fz (own:=["stand","steps"]) (ix:=[]) rfl rfl rfl (V3 K B.enum (zA (pv 3) zE)) (λC s H fp=>Zy (K:=K) (n:=2) rfl rfl (xD (yM (i:=0) (show(["stand","steps"]:List Str).Nodup from by decide +kernel) rfl (Or.inl rfl)) (xD (yM (i:=1) (show(["stand","steps"]:List Str).Nodup from by decide +kernel) rfl (Or.inl rfl)) Hw))) (λC s H fp=>R5 (E_ (z_ (pv 1)))) (λC s H fp=>(pv 0)))) zF)),?_⟩
 rintro Fa ⟨q0,q1,q2,⟨⟩⟩
 exact SB.of (zS (xI true 3 rfl rfl (zR (zH (zD 0 rfl) (zH (zD 1 rfl) (zH (zD 2 rfl) zQ))))) (λGQ=>(zW (wC (n:=true) (mJ:=[.un,.un]) (no:=2) (ix:=[]) rfl rfl (VN (yJ 3 rfl)) (Lk 0 1 rfl rfl (λ_=>rfl) rfl) (λx2=>(dI (md:=.hp) (Bp (zG 1 rfl)))) (λx2=>(esc (zG 0 rfl))) (λx2=>jo)).ex))) (by unfold vG;simp only[bnd])
def uK(q0:LI):Option Int:=(some (0:Int)).bind λdw=>((some q0).bind λxs=>xH (λ(s2:Int) (x4:Int)=>((q9 (1:Int) x4).bind λa6=>some (acr s2 a6)).bind λlF=>some lF) xs dw).bind λs3=>some s3
theorem lG:ao ["stands","told","stand"] ["stands"] (zI jt):=fsc
abbrev zIo(K:PySem.W.Frag):Sp:=cR K false (λa:LI×Unit=>([.z a.1]:SL K)) (λa=>uK a.1)
theorem zL5(F:aX K "bits_of" "bits_of" jt f fd)(B:Bl K mg):aq P w K mg base aN (k+1) f fd ["stands"] (zIo K):=by
 refine yE F lG (λ_=>rfl) (λ_=>rfl) λcdv A outer s H E hr=>?_
 have nd:=lG.nd
 refine⟨_,(zB (xN 1 nd zO) (zB (xJ aas rfl (yY K (pv 0)) (cU 2 nd) (zB (Ys (i:=1) nd rfl (by first|exact .inl rfl|exact .inr rfl) (yL Ia zO (pv 2)) Gv) zF)) (zB (zT (pv 1)) zF))),?_⟩
 rintro Fa ⟨q0,⟨⟩⟩
 exact SB.of (zS (xI true 1 rfl rfl (esc (zN 0))) (λdw=>(zS (wE (n:=false) (L:=(λs2:Int=>([.z q0,.y s2,.un]:SL K))) dw bK (yZ (yJ 0 rfl)) (λs2=>(zZ 2 rfl rfl)) (λs2 x4=>(zU (Z4 (s:=.un) 1 rfl (JC (zN 1) (zG 2 rfl))) (λlF=>(yB (λs2:Int=>([.z q0,.y s2,.un]:SL K)) lF bK))))) (λs3=>(zW (esc (zG 1 rfl))))))) (by unfold uK;simp only[bnd])
def xZ(q0:aG C)(q1:LI):Option LI:=(uK q1).bind λcI=>(((yI q0).bind λa3=>wR a3).bind λxs=>wD (λ(x4:Int)=>some true) (λ(x4:Int)=>some (0:Int)) xs).bind λdz=>((some q1).bind λxs=>xH (λ(s5:LI) (x7:Int)=>(((((yT q0 x7).bind λa10=>some ((a10,()))).bind λz9=>uK z9.1).bind λa11=>some (aaw a11 cI)).bind λa12=>qW s5 x7 a12).bind λvm=>some vm) xs dz).bind λs6=>((some q1).bind λxs=>xH (λ(Di:LI) (Kh:Int)=>((some q1).bind λxs=>xH (λ(gH:LI) (x18:Int)=>(((((cQ gH x18).bind λa19=>iB a19 Kh).bind λa20=>some (aaw a20 (1:Int))).bind λa21=>some (a21 != 0)).bind λb=>if b=true then((cQ gH Kh).bind λb25=>Ca (λi j=>acr i j) gH x18 b25).bind λqd=>some qd else some gH).bind λvo=>some vo) xs Di).bind λXj=>some Xj) xs s6).bind λnJ=>some nJ
theorem gB:ao ["machine","within","inside","rows","stand","middle"] ["machine","within"] (zI dM):=fsc
abbrev zB5(K:PySem.W.Frag)(C:Addr):Sp:=cR K false (λa:(aG C)×LI×Unit=>([.z a.1,.z a.2.1]:SL K)) (λa=>xZ a.1 a.2.1)
theorem zEu(F:aX K "onward_bits" "onward_bits" dM f fd)(B:Bl K mg)(aH:fL P w K mg base k C "many" ["self"] (xT K C))(bV:fL P w K mg base k C "next_of" ["self","stand"] (uO K C))(gJ:bJ P w K mg base k "bits_of" ["stands"] (zIo K)):aq P w K mg base aN (k+1) f fd ["machine","within"] (zB5 K C):=by
 refine yE F gB (λ_=>rfl) (λ_=>rfl) λcdv A outer s H E hr=>?_
 have nd:=gB.nd
 refine⟨_,(zB (xN 2 nd (yA gJ hr (zA (pv 1) zE))) (zB (FJ (i:=3) (own:=["stand"]) (ix:=[]) nd rfl rfl rfl rfl rfl (xS rfl B.range (zA (S8 aH hr (pv 0)) zE)) (λC s H fp=>yM (i:=0) (show(["stand"]:List Str).Nodup from by decide +kernel) rfl (Or.inl rfl)) (λC s H fp=>wX) (λC s H fp=>zO)) (zB (xJ aas rfl (yY K (pv 1)) (cU 4 nd) (zB (Ry (yL Nu (yA gJ hr (zA (S7 bV hr (pv 0) (zA (pv 4) zE)) zE)) (pv 2)) (Rx (pv 3) (pv 4) N_)) zF)) (zB (xJ aas rfl (yY K (pv 1)) (cU 5 nd) (zB (xJ aas rfl (yY K (pv 1)) (cU 4 nd) (zB (xP (Ws K (yL Nu (yL RG (yN (cW K) (pv 3) (pv 4) (λ_ _=>rfl)) (pv 5)) zO)) (zB (Ab (pv 3) (pv 4) (zPi K) (yN (cW K) (pv 3) (pv 5) (λ_ _=>rfl)) Gv N_) zF) zF) zF)) zF)) (zB (zT (pv 3)) zF))))),?_⟩
 rintro Fa ⟨q0,q1,⟨⟩⟩
 exact SB.of (zS (xI true 2 rfl rfl (esc (zR (zH (zD 1 rfl) zQ)))) (λcI=>(zS (uZ true 3 rfl rfl (wC (n:=true) (mJ:=[.un]) (no:=1) (ix:=[]) rfl rfl (wO (Ge (by decide +kernel) (zD 0 rfl) zQ)) (zZ 0 rfl rfl) (λx4=>zc) (λx4=>(esc (zN 0))) (λx4=>jo))) (λdz=>(zS (wE (n:=false) (L:=(λs5:LI=>([.z q0,.z q1,.y cI,.ow true s5,.un,.un]:SL K))) dz bK (yZ (yJ 1 rfl)) (λs5=>(zZ 4 rfl rfl)) (λs5 x7=>(zU (Ss 3 rfl rfl (esc (P_ (zR (zH (Ge (by decide +kernel) (zD 0 rfl) (zH (esc (zG 4 rfl)) zQ)) zQ)) (zG 2 rfl))) (zG 4 rfl)) (λvm=>(yB (λs5:LI=>([.z q0,.z q1,.y cI,.ow true s5,.un,.un]:SL K)) vm bK))))) (λs6=>(zS (wE (n:=false) (L:=(λDi:LI=>([.z q0,.z q1,.y cI,.ow true Di,.un,.un]:SL K))) s6 bK (yZ (yJ 1 rfl)) (λDi=>(zZ 5 rfl rfl)) (λDi Kh=>(zU (wE (n:=false) (L:=(λgH:LI=>([.z q0,.z q1,.y cI,.ow true gH,.un,.z Kh]:SL K))) Di bK (yZ (yJ 1 rfl)) (λgH=>(zZ 4 rfl rfl)) (λgH x18=>(zU (yx (Wt (P_ (Tz (esc (uD (FQ 3 rfl) (zG 4 rfl))) (zG 5 rfl)) (zN 1))) (zU (zRh 3 rfl rfl (zG 4 rfl) (esc (uD (FQ 3 rfl) (zG 5 rfl)))) (λqd=>(yB (λKl:LI=>([.z q0,.z q1,.y cI,.ow true Kl,.z x18,.z Kh]:SL K)) qd bK))) (yB (λKl:LI=>([.z q0,.z q1,.y cI,.ow true Kl,.z x18,.z Kh]:SL K)) gH bK)) (λvo=>(yB (λgH:LI=>([.z q0,.z q1,.y cI,.ow true gH,.un,.z Kh]:SL K)) vo bK))))) (λXj=>(yB (λDi:LI=>([.z q0,.z q1,.y cI,.ow true Di,.un,.un]:SL K)) Xj bK))))) (λnJ=>(IK 3 rfl rfl))))))))) (by unfold xZ;simp only[bnd])
def QJ(q0:aG C)(q1:LI):Option (List LI):=(LQ q1).bind λcJ=>(xZ q0 cJ).bind λdz=>(some (([]:List LI))).bind λvp=>(some ()).bind λQK=>((some cJ).bind λxs=>xH (λ(s5:(List LI)×(List (Key×Bool))) (x7:Int)=>((if(!(gP (Dc.mk s5.2).kv x7).isSome)=true then(((cQ dz x7).bind λa8=>iB a8 x7).bind λa9=>some (aaw a9 (1:Int))).bind λa10=>some (a10 != 0) else some false).bind λb=>if b=true then((some cJ).bind λxs=>wD (λ(Km:Int)=>((((cQ dz x7).bind λa15=>iB a15 Km).bind λa17=>((cQ dz Km).bind λa16=>iB a16 x7).bind λb18=>some (aaw a17 b18)).bind λa19=>some (aaw a19 (1:Int))).bind λa20=>some (a20 != 0)) (λ(Km:Int)=>some Km) xs).bind λlH=>(push s5.1 lH).bind λeY=>((some lH).bind λxs=>xH (λ(vo:List (Key×Bool)) (x24:Int)=>(dput vo x24 true).bind λqe=>some qe) xs s5.2).bind λKl=>some (eY,Kl) else some (s5.1,s5.2)).bind λiR=>some (iR.1,iR.2)) xs ((vp,([]:List (Key×Bool))))).bind λs6=>some s6.1
theorem o_:ao ["machine","within","stands","rows","told","done","stand","ring","other"] ["machine","within"] (zI nq):=fsc
abbrev zQr(K:PySem.W.Frag)(C:Addr):Sp:=cR K false (λa:(aG C)×LI×Unit=>([.z a.1,.z a.2.1]:SL K)) (λa=>QJ a.1 a.2.1)
theorem zR4(F:aX K "rings" "rings" nq f fd)(B:Bl K mg)(aZ:mg "sorted" = none)(jX:mg "set" = none)(dU:bJ P w K mg base k "onward_bits" ["machine","within"] (zB5 K C)):aq P w K mg base aN (k+1) f fd ["machine","within"] (zQr K C):=by
 refine yE F o_ (λ_=>rfl) (λ_=>rfl) λcdv A outer s H E hr=>?_
 have nd:=o_.nd
 have hu:=Oc hr
 refine⟨_,(zB (xN 2 nd (Tt rfl aZ (Jz K rfl jX (pv 1)))) (zB (xN 3 nd (yA dU hr (zA (pv 0) (zA (pv 2) zE)))) (zB (xN 4 nd (vK zE)) (zB (xN 5 nd RT) (zB (xJ aas rfl (yY K (pv 2)) (cU 6 nd) (zB (xP (PW.pt (pw_and (E_ (zOb hu (pv 6) (pv 5))) (pw_and1 (Ws K (yL Nu (yL RG (yN (cW K) (pv 3) (pv 6) (λ_ _=>rfl)) (pv 6)) zO))))) (zB (FJ (i:=7) (own:=["other"]) (ix:=[3,6]) nd rfl rfl rfl rfl rfl (yY K (pv 2)) (λC s H fp=>yM (i:=0) (show(["other","rows","stand"]:List Str).Nodup from by decide +kernel) rfl (Or.inl rfl)) (λC s H fp=>R5 (Ws K (yL Nu (yL Nu (yL RG (yN (cW K) (pv 1) (pv 2) (λ_ _=>rfl)) (pv 0)) (yL RG (yN (cW K) (pv 1) (pv 0) (λ_ _=>rfl)) (pv 2))) zO))) (λC s H fp=>(pv 0))) (zB (zY (uc K aax aa7 aa8 wU (pv 4) (zA (pv 7) zE))) (zB (xJ aas rfl (yY K (pv 7)) (cU 8 nd) (zB (RQ hu (pv 5) (pv 8) yg rfl) zF)) zF))) zF) zF)) (zB (zT (pv 4)) zF)))))),?_⟩
 rintro Fa ⟨q0,q1,⟨⟩⟩
 exact SB.of (zS (xI true 2 rfl rfl (zMo (zD 1 rfl)).ex) (λcJ=>(zS (xI true 3 rfl rfl (zR (zH (zD 0 rfl) (zH (zD 2 rfl) zQ)))) (λdz=>(zS (uZ true 4 rfl rfl (Bd (α:=LI))) (λvp=>(zS (Sq (α:=Bool) 5 rfl rfl) (λQK=>(zS (wE (n:=true) (L:=(λs5:(List LI)×(List (Key×Bool))=>([.z q0,.z q1,.y cJ,.y dz,.ow true s5.1,.od (s5.2:List (Key×Bool)),.un,.un,.un]:SL K))) ((vp,([]:List (Key×Bool)))) bK (yZ (yJ 2 rfl)) (λs5=>(zZ 6 rfl rfl)) (λs5 x7=>(zU (yx (Vz (dI (md:=.hp) (zPy (zG 6 rfl) (V9 5 rfl))) (Wt (P_ (Tz (esc (uD (zD 3 rfl) (zG 6 rfl))) (zG 6 rfl)) (zN 1)))) (zU (xI true 7 rfl rfl (wC (n:=true) (mJ:=[.un,.y dz,.y x7]) (no:=1) (ix:=[3,6]) rfl rfl (yZ (yJ 2 rfl)) (zZ 0 rfl rfl) (λKm=>(Wt (P_ (P_ (Tz (esc (uD (zD 1 rfl) (zG 2 rfl))) (zG 0 rfl)) (Tz (esc (uD (zD 1 rfl) (zG 0 rfl))) (zG 2 rfl))) (zN 1)))) (λKm=>(esc (zG 0 rfl))) (λKm=>jo)).ex) (λlH=>(zU (Ox 4 rfl rfl (yJ 7 rfl)) (λeY=>(zU (wE (n:=true) (L:=(λvo:List (Key×Bool)=>([.z q0,.z q1,.y cJ,.y dz,.ow true eY,.od (vo:List (Key×Bool)),.y x7,.y lH,.un]:SL K))) s5.2 bK (yZ (yJ 7 rfl)) (λvo=>(zZ 8 rfl rfl)) (λvo x24=>(zU (zNo 5 rfl rfl (esc (yt true)) (zG 8 rfl)) (λqe=>(yB (λvo:List (Key×Bool)=>([.z q0,.z q1,.y cJ,.y dz,.ow true eY,.od (vo:List (Key×Bool)),.y x7,.y lH,.un]:SL K)) qe bK))))) (λKl=>(yB (λs12:(List LI)×(List (Key×Bool))=>([.z q0,.z q1,.y cJ,.y dz,.ow true s12.1,.od (s12.2:List (Key×Bool)),.y x7,.un,.un]:SL K)) (eY,Kl) bK))))))) (yB (λs12:(List LI)×(List (Key×Bool))=>([.z q0,.z q1,.y cJ,.y dz,.ow true s12.1,.od (s12.2:List (Key×Bool)),.y x7,.un,.un]:SL K)) (s5.1,s5.2) bK)) (λiR=>(yB (λs5:(List LI)×(List (Key×Bool))=>([.z q0,.z q1,.y cJ,.y dz,.ow true s5.1,.od (s5.2:List (Key×Bool)),.un,.un,.un]:SL K)) (iR.1,iR.2) bK))))) (λs6=>(IK 4 rfl rfl))))))))))) (by unfold QJ;simp only[bnd])
def vN(q0:aG C)(q1:LI):Option (Option Int):=((wR (q0.fair.length:Int)).bind λxs=>vD (λ(s1:Unit) (x3:Int)=>((((((yU q0 x3).bind λa5=>some ((a5,()))).bind λb6=>some (q1,b6)).bind λz4=>wN z4.1 z4.2.1).bind λa7=>some (a7.length:Int)).bind λa8=>some (decide (a8=(0:Int)))).bind λb=>if b=true then(some (some x3)).bind λb=>some (.rt b) else some (.nx ())) xs ()).bind λo=>o.els λs2=>some (none:Option Int)
theorem jg:ao ["machine","ring","number"] ["machine","ring"] (zI gn):=fsc
abbrev zEo(K:PySem.W.Frag)(C:Addr):Sp:=cR K false (λa:(aG C)×LI×Unit=>([.z a.1,.z a.2.1]:SL K)) (λa=>vN a.1 a.2.1)
theorem zHn(F:aX K "missed_by" "missed_by" gn f fd)(B:Bl K mg)(T:Cl K mg C)(bW:fL P w K mg base k C "fair_at" ["self","number"] (uP K C))(eF:bJ P w K mg base k "shared" ["one","other"] (Xi K)):aq P w K mg base aN (k+1) f fd ["machine","ring"] (zEo K C):=by
 refine yE F jg (λ_=>rfl) (λ_=>rfl) λcdv A outer s H E hr=>?_
 have nd:=jg.nd
 refine⟨_,(zB (xJ aas rfl (xS rfl B.range (zA (zX (za K) rfl B.len abo (zA (Gg K (pv 0)) zE)) zE)) (cU 2 nd) (zB (xP (yF (wF K Int hr) (zX (za K) rfl B.len abo (zA (yA eF hr (zA (pv 1) (zA (S7 bW hr (pv 0) (zA (pv 2) zE)) zE))) zE)) zO (xE _)) (zB (zT (pv 2)) zF) zF) zF)) (zB (zT Ym) zF)),?_⟩
 rintro Fa ⟨q0,q1,⟨⟩⟩
 exact SB.of (VD (VH (n:=true) (L:=(λs1:Unit=>([.z q0,.z q1,.un]:SL K))) () bK (wO (Bo (Z1 T.cl T.nF (zD 0 rfl)))) (λs1=>(zZ 2 rfl rfl)) (λs1 x3=>(VG (yH (md:=.hp) (wG (Bo (zR (zH (zD 1 rfl) (zH (Ge (by decide +kernel) (zD 0 rfl) (zH (esc (zG 2 rfl)) zQ)) zQ)))) (zN 0))) (zW (esc (Vy (zG 2 rfl)))) (VF (λs1:Unit=>([.z q0,.z q1,.un]:SL K)) () bK)))) (λs2=>(zW (esc (ZF (α:=Int)))))) (by unfold vN;simp only[bnd])
def xW(q0:aG C)(q1:LI):Option (List LI):=(QJ q0 q1).bind λxs=>wD (λ(x1:LI)=>(vN q0 x1).bind λa2=>some a2.isNone) (λ(x1:LI)=>some x1) xs
theorem ig:ao ["machine","within"] ["machine","within"] (zI eN):=fsc
abbrev zC0(K:PySem.W.Frag)(C:Addr):Sp:=cR K false (λa:(aG C)×LI×Unit=>([.z a.1,.z a.2.1]:SL K)) (λa=>xW a.1 a.2.1)
theorem zGb(F:aX K "fair_rings" "fair_rings" eN f fd)(B:Bl K mg)(gC:bJ P w K mg base k "missed_by" ["machine","ring"] (zEo K C))(nY:bJ P w K mg base k "rings" ["machine","within"] (zQr K C)):aq P w K mg base aN (k+1) f fd ["machine","within"] (zC0 K C):=by
 refine yE F ig (λ_=>rfl) (λ_=>rfl) λcdv A outer s H E hr=>?_
 have nd:=ig.nd
 refine⟨_,(zB (zT (Fz (own:=["ring"]) (ix:=[0]) rfl rfl rfl (yY K (yA nY hr (zA (pv 0) (zA (pv 1) zE)))) (λC s H fp=>yM (i:=0) (show(["ring","machine"]:List Str).Nodup from by decide +kernel) rfl (Or.inl rfl)) (λC s H fp=>R5 (E_ (Rr (yA gC hr (zA (pv 1) (zA (pv 0) zE)))))) (λC s H fp=>(pv 0)))) zF),?_⟩
 rintro Fa ⟨q0,q1,⟨⟩⟩
 exact SB.of (zW (wC (n:=true) (mJ:=[.un,.z q0]) (no:=1) (ix:=[0]) rfl rfl (yZ (zR (zH (zD 0 rfl) (zH (zD 1 rfl) zQ)))) (zZ 0 rfl rfl) (λx1=>(dI (md:=.hp) (SQ (zR (zH (zD 1 rfl) (zH (zD 0 rfl) zQ)))))) (λx1=>(yJ 0 rfl)) (λx1=>jo)).ex) (by unfold xW;simp only[bnd])
def uT(q0:List LI):Option LI:=(some ([]:LI)).bind λdw=>((some q0).bind λxs=>xH (λ(s2:LI) (x4:LI)=>(uo s2 x4).bind λlF=>some lF) xs dw).bind λs3=>some s3
theorem mR:ao ["lists","told","things"] ["lists"] (zI kI):=fsc
abbrev zLf(K:PySem.W.Frag):Sp:=cR K false (λa:((List LI))×Unit=>([.z a.1]:SL K)) (λa=>uT a.1)
theorem zOn(F:aX K "joined" "joined" kI f fd)(B:Bl K mg):aq P w K mg base aN (k+1) f fd ["lists"] (zLf K):=by
 refine yE F mR (λ_=>rfl) (λ_=>rfl) λcdv A outer s H E hr=>?_
 have nd:=mR.nd
 refine⟨_,(zB (xN 1 nd (vK zE)) (zB (xJ aas rfl (yY K (pv 0)) (cU 2 nd) (zB (zY (uc K aax PySem.F.slot_list_extend PySem.F.type_list_extend Ze (pv 1) (zA (pv 2) zE))) zF)) (zB (zT (pv 1)) zF))),?_⟩
 rintro Fa ⟨q0,⟨⟩⟩
 exact SB.of (zS (uZ true 1 rfl rfl (Bd (α:=Int))) (λdw=>(zS (wE (n:=false) (L:=(λs2:LI=>([.z q0,.ow true s2,.un]:SL K))) dw bK (yZ (yJ 0 rfl)) (λs2=>(zZ 2 rfl rfl)) (λs2 x4=>(zU (zNm 1 rfl rfl (zD 2 rfl)) (λlF=>(yB (λs2:LI=>([.z q0,.ow true s2,.un]:SL K)) lF bK))))) (λs3=>(IK 1 rfl rfl))))) (by unfold uT;simp only[bnd])
def QL(q0:aG C)(q1:LI):Option LI:=((((((xW q0 q1).bind λa2=>some ((a2,()))).bind λz1=>uT z1.1).bind λa4=>some ((a4,()))).bind λb5=>some (q1,b5)).bind λb6=>some (q0,b6)).bind λz3=>vG z3.1 z3.2.1 z3.2.2.1
theorem qJ:ao ["machine","within"] ["machine","within"] (zI p8):=fsc
abbrev zUo(K:PySem.W.Frag)(C:Addr):Sp:=cR K false (λa:(aG C)×LI×Unit=>([.z a.1,.z a.2.1]:SL K)) (λa=>QL a.1 a.2.1)
theorem Dj(F:aX K "core" "core" p8 f fd)(B:Bl K mg)(iI:bJ P w K mg base k "comes_to" ["machine","through","goal"] (zFj K C))(eZ:bJ P w K mg base k "fair_rings" ["machine","within"] (zC0 K C))(lJ:bJ P w K mg base k "joined" ["lists"] (zLf K)):aq P w K mg base aN (k+1) f fd ["machine","within"] (zUo K C):=by
 refine yE F qJ (λ_=>rfl) (λ_=>rfl) λcdv A outer s H E hr=>?_
 have nd:=qJ.nd
 refine⟨_,(zB (zT (yA iI hr (zA (pv 0) (zA (pv 1) (zA (yA lJ hr (zA (yA eZ hr (zA (pv 0) (zA (pv 1) zE))) zE)) zE))))) zF),?_⟩
 rintro Fa ⟨q0,q1,⟨⟩⟩
 exact SB.of (zW (zR (zH (zD 0 rfl) (zH (zD 1 rfl) (zH (zR (zH (zR (zH (zD 0 rfl) (zH (zD 1 rfl) zQ))) zQ)) zQ))))) (by unfold QL;simp only[bnd])
def QM(q0:aG C):Option LI:=(((yV q0).bind λa2=>some ((a2,()))).bind λb3=>some (q0,b3)).bind λz1=>QL z1.1 z1.2.1
theorem pq:ao ["machine"] ["machine"] (zI s_alive):=fsc
abbrev zQv(K:PySem.W.Frag)(C:Addr):Sp:=cR K false (λa:(aG C)×Unit=>([.z a.1]:SL K)) (λa=>QM a.1)
theorem zR8(F:aX K "alive" "alive" s_alive f fd)(B:Bl K mg)(qg:bJ P w K mg base k "core" ["machine","within"] (zUo K C))(aO:bJ P w K mg base k "everywhere" ["machine"] (uB K C)):aq P w K mg base aN (k+1) f fd ["machine"] (zQv K C):=by
 refine yE F pq (λ_=>rfl) (λ_=>rfl) λcdv A outer s H E hr=>?_
 have nd:=pq.nd
 refine⟨_,(zB (zT (yA qg hr (zA (pv 0) (zA (yA aO hr (zA (pv 0) zE)) zE)))) zF),?_⟩
 rintro Fa ⟨q0,⟨⟩⟩
 exact SB.of (zW (zR (zH (zD 0 rfl) (zH (zR (zH (zD 0 rfl) zQ)) zQ)))) (by unfold QM;simp only[bnd])
def vO(q0:aG C)(q1:LI)(q2:cN cl)(q3:List LI):Option LI:=if(oW .all q2.t)=true then yV q0 else if(oW .mark q2.t)=true then(q2.name.bind λa2=>some ((a2,()))).bind λz1=>zV q0 z1.1 else if(oW (.one 0) q2.t)=true then(((cQ q3 (0:Int)).bind λa4=>some ((a4,()))).bind λb5=>some (q0,b5)).bind λz3=>Mp z3.1 z3.2.1 else if(oW (.two 0) q2.t)=true then((cQ q3 (0:Int)).bind λa8=>((cQ q3 (1:Int)).bind λa7=>some ((a7,()))).bind λb9=>some (a8,b9)).bind λz6=>wN z6.1 z6.2.1 else if(oW (.two 1) q2.t)=true then((cQ q3 (0:Int)).bind λa12=>((cQ q3 (1:Int)).bind λa11=>some ((a11,()))).bind λXf=>some (a12,Xf)).bind λMq=>uI Mq.1 Mq.2.1 else none
theorem lK:ao ["machine","living","saying","sets"] ["machine","living","saying","sets"] (zI jy):=fsc
abbrev zIk(K:PySem.W.Frag)(C:Addr)(cl:Hd->Addr):Sp:=cR K false (λa:(aG C)×LI×(cN cl)×((List LI))×Unit=>([.z a.1,.z a.2.1,.z a.2.2.1,.z a.2.2.2.1]:SL K)) (λa=>vO a.1 a.2.1 a.2.2.1 a.2.2.2.1)
theorem zL2(F:aX K "meaning" "meaning" jy f fd)(B:Bl K mg)(I:oX P w K mg base kS cl fi di)(cF:fL P w K mg base k C "marked" ["self","name"] (uX K C))(aO:bJ P w K mg base k "everywhere" ["machine"] (uB K C))(lM:bJ P w K mg base k "others" ["machine","stands"] (zLa K C))(eF:bJ P w K mg base k "shared" ["one","other"] (Xi K))(iJ:bJ P w K mg base k "together" ["one","other"] (zFh K)):aq P w K mg base aN (k+1) f fd ["machine","living","saying","sets"] (zIk K C cl):=by
 refine yE F lK (λ_=>rfl) (λ_=>rfl) λcdv A outer s H E hr=>?_
 have nd:=lK.nd
 refine⟨_,(zB (xP (uG (zX (t_ K (Om (a:=cl .all))) rfl B.qY tZ (zA (pv 2) (zA (uR (v:=.ref (cl .all)) rfl I.ini.mA rfl) zE)))) (zB (zT (yA aO hr (zA (pv 0) zE))) zF) zF) (zB (xP (uG (zX (t_ K (Om (a:=cl .mark))) rfl B.qY tZ (zA (pv 2) (zA (uR (v:=.ref (cl .mark)) rfl I.ini.mM rfl) zE)))) (zB (zT (S7 cF hr (pv 0) (zA (Gg K (pv 2)) zE))) zF) zF) (zB (xP (uG (zX (t_ K (Om (a:=cl (.one 0)))) rfl B.qY tZ (zA (pv 2) (zA (uR (v:=.ref (cl (.one 0))) rfl (I.ini.m1 0) rfl) zE)))) (zB (zT (yA lM hr (zA (pv 0) (zA (yN (cW K) (pv 3) zO (λ_ _=>rfl)) zE)))) zF) zF) (zB (xP (uG (zX (t_ K (Om (a:=cl (.two 0)))) rfl B.qY tZ (zA (pv 2) (zA (uR (v:=.ref (cl (.two 0))) rfl (I.ini.m2 0) rfl) zE)))) (zB (zT (yA eF hr (zA (yN (cW K) (pv 3) zO (λ_ _=>rfl)) (zA (yN (cW K) (pv 3) zO (λ_ _=>rfl)) zE)))) zF) zF) (zB (xP (uG (zX (t_ K (Om (a:=cl (.two 1)))) rfl B.qY tZ (zA (pv 2) (zA (uR (v:=.ref (cl (.two 1))) rfl (I.ini.m2 1) rfl) zE)))) (zB (zT (yA iJ hr (zA (yN (cW K) (pv 3) zO (λ_ _=>rfl)) (zA (yN (cW K) (pv 3) zO (λ_ _=>rfl)) zE)))) zF) zF) vJ))))),?_⟩
 rintro Fa ⟨q0,q1,q2,q3,⟨⟩⟩
 exact SB.of (vH (dI (md:=.hp) (Qm I .all (zD 2 rfl))) (zW (zR (zH (zD 0 rfl) zQ))) (vH (dI (md:=.hp) (Qm I .mark (zD 2 rfl))) (zW (Ge (by decide +kernel) (zD 0 rfl) (zH (esc (esc (zMk I (zD 2 rfl)))) zQ))) (vH (dI (md:=.hp) (Qm I (.one 0) (zD 2 rfl))) (zW (zR (zH (zD 0 rfl) (zH (uD (zD 3 rfl) (zN 0)) zQ)))) (vH (dI (md:=.hp) (Qm I (.two 0) (zD 2 rfl))) (zW (zR (zH (uD (zD 3 rfl) (zN 0)) (zH (uD (zD 3 rfl) (zN 1)) zQ)))) (vH (dI (md:=.hp) (Qm I (.two 1) (zD 2 rfl))) (zW (zR (zH (uD (zD 3 rfl) (zN 0)) (zH (uD (zD 3 rfl) (zN 1)) zQ)))) zRn))))) (by unfold vO;simp only[bnd])
def xY(rec:(aG C)->LI->(cN cl)->Option (List LI))(q0:aG C)(q1:LI)(q2:cN cl):Option (List LI):=(some (([]:List LI))).bind λdw=>(some (([]:List LI))).bind λvq=>((some q2.parts).bind λxs=>xH (λ(s3:(List LI)×(List LI)) (x5:cN cl)=>((rec q0 q1 x5).bind λa7=>ur s3.1 a7).bind λqK=>((cQ qK (-(1:Int))).bind λa9=>push s3.2 a9).bind λv7=>some (qK,v7)) xs (dw,vq)).bind λs4=>((vO q0 q1 q2 s4.2).bind λa11=>push s4.1 a11).bind λv8=>some v8
def yX:Nat->(aG C)->LI->(cN cl)->Option (List LI)
 |0=>λ_ _ _=>none
 |n+1=>xY (yX n)
theorem gD:ao ["machine","living","saying","told","sets","part"] ["machine","living","saying"] (zI dN):=fsc
abbrev vE(K:PySem.W.Frag)(C:Addr)(cl:Hd->Addr)(rec:(aG C)->LI->(cN cl)->Option (List LI)):Sp:=cR K false (λa:(aG C)×LI×(cN cl)×Unit=>([.z a.1,.z a.2.1,.z a.2.2.1]:SL K)) (λa=>rec a.1 a.2.1 a.2.2.1)
abbrev zB4(K:PySem.W.Frag)(C:Addr)(cl:Hd->Addr):Sp:=vE K C cl (yX 10 )
theorem zEt(F:aX K "table_among" "table_among" dN f fd)(B:Bl K mg)(I:oX P w K mg base kS cl fi di)(jE:bJ P w K mg base k "meaning" ["machine","living","saying","sets"] (zIk K C cl))(bI:bJ P w K mg base k "table_among" ["machine","living","saying"] (vE K C cl rec)):aq P w K mg base aN (k+1) f fd ["machine","living","saying"] (vE K C cl (xY rec)):=by
 refine yE F gD (λ_=>rfl) (λ_=>rfl) λcdv A outer s H E hr=>?_
 have nd:=gD.nd
 refine⟨_,(zB (xN 3 nd (vK zE)) (zB (xN 4 nd (vK zE)) (zB (xJ aas rfl (JQ K (Gg K (pv 2))) (cU 5 nd) (zB (zY (uc K aax PySem.F.slot_list_extend PySem.F.type_list_extend Ze (pv 3) (zA (yA bI hr (zA (pv 0) (zA (pv 1) (zA (pv 5) zE)))) zE))) (zB (zY (uc K aax aa7 aa8 wU (pv 4) (zA (yN (cW K) (pv 3) (Fo Yw zO) (λ_ _=>rfl)) zE))) zF))) (zB (zY (uc K aax aa7 aa8 wU (pv 3) (zA (yA jE hr (zA (pv 0) (zA (pv 1) (zA (pv 2) (zA (pv 4) zE))))) zE))) (zB (zT (pv 3)) zF))))),?_⟩
 rintro Fa ⟨q0,q1,q2,⟨⟩⟩
 exact SB.of (zS (uZ true 3 rfl rfl (Bd (α:=LI))) (λdw=>(zS (uZ true 4 rfl rfl (Bd (α:=LI))) (λvq=>(zS (wE (n:=false) (L:=(λs3:(List LI)×(List LI)=>([.z q0,.z q1,.z q2,.ow true s3.1,.ow true s3.2,.un]:SL K))) (dw,vq) bK (zS0 I (yJ 2 rfl)) (λs3=>(zZ 5 rfl rfl)) (λs3 x5=>(zU (zLs 3 rfl rfl (zR (zH (zD 0 rfl) (zH (zD 1 rfl) (zH (zD 5 rfl) zQ))))) (λqK=>(zU (Ox 4 rfl rfl (Jb 3 rfl (zUb (zN 1)))) (λv7=>(yB (λs3:(List LI)×(List LI)=>([.z q0,.z q1,.z q2,.ow true s3.1,.ow true s3.2,.un]:SL K)) (qK,v7) bK))))))) (λs4=>(zS (Ox 3 rfl rfl (zR (zH (zD 0 rfl) (zH (zD 1 rfl) (zH (zD 2 rfl) (zH (FQ 4 rfl) zQ)))))) (λv8=>(IK 3 rfl rfl))))))))) (by unfold xY;simp only[bnd])
def T8(q0:aG C)(q1:cN cl):Option (List LI):=(((QM q0).bind λa2=>some ((a2,(q1,())))).bind λb3=>some (q0,b3)).bind λz1=>yX 10 z1.1 z1.2.1 z1.2.2.1
theorem pA:ao ["machine","saying"] ["machine","saying"] (zI nA):=fsc
abbrev zQq(K:PySem.W.Frag)(C:Addr)(cl:Hd->Addr):Sp:=cR K false (λa:(aG C)×(cN cl)×Unit=>([.z a.1,.z a.2.1]:SL K)) (λa=>T8 a.1 a.2.1)
theorem zR3(F:aX K "table" "table" nA f fd)(B:Bl K mg)(nZ:bJ P w K mg base k "alive" ["machine"] (zQv K C))(bI:bJ P w K mg base k "table_among" ["machine","living","saying"] (zB4 K C cl)):aq P w K mg base aN (k+1) f fd ["machine","saying"] (zQq K C cl):=by
 refine yE F pA (λ_=>rfl) (λ_=>rfl) λcdv A outer s H E hr=>?_
 have nd:=pA.nd
 refine⟨_,(zB (zT (yA bI hr (zA (pv 0) (zA (yA nZ hr (zA (pv 0) zE)) (zA (pv 1) zE))))) zF),?_⟩
 rintro Fa ⟨q0,q1,⟨⟩⟩
 exact SB.of (zW (zR (zH (zD 0 rfl) (zH (zR (zH (zD 0 rfl) zQ)) (zH (zD 1 rfl) zQ))))) (by unfold T8;simp only[bnd])
def Mr(q0:aG C)(q1:cN cl):Option LI:=(T8 q0 q1).bind λa1=>cQ a1 (-(1:Int))
theorem pB:ao ["machine","saying"] ["machine","saying"] (zI nD):=fsc
abbrev zQt(K:PySem.W.Frag)(C:Addr)(cl:Hd->Addr):Sp:=cR K false (λa:(aG C)×(cN cl)×Unit=>([.z a.1,.z a.2.1]:SL K)) (λa=>Mr a.1 a.2.1)
theorem zR6(F:aX K "holds" "holds" nD f fd)(B:Bl K mg)(n8:bJ P w K mg base k "table" ["machine","saying"] (zQq K C cl)):aq P w K mg base aN (k+1) f fd ["machine","saying"] (zQt K C cl):=by
 refine yE F pB (λ_=>rfl) (λ_=>rfl) λcdv A outer s H E hr=>?_
 have nd:=pB.nd
 refine⟨_,(zB (zT (yN (cW K) (yA n8 hr (zA (pv 0) (zA (pv 1) zE))) (Fo Yw zO) (λ_ _=>rfl))) zF),?_⟩
 rintro Fa ⟨q0,q1,⟨⟩⟩
 exact SB.of (zW (uD (zR (zH (zD 0 rfl) (zH (zD 1 rfl) zQ))) (zUb (zN 1)))) (by unfold Mr;simp only[bnd])
end
end Ts
set_option maxHeartbeats 40000000
namespace Ts
open PySem L2 Sy
section
variable{P:Program}{w:World}{K:PySem.W.Frag}{mg:Str->Option Value}{base:Heap}
def vA(q0:LI) :Option (Int×LI):=if(decide ((q0.length:Int)=(0:Int)))=true then some ((0:Int),q0) else q0.getLast?.bind λy=>some (y,q0.dropLast)
theorem mU:ao ["_law_rest"] ["_law_rest"] (zI kY):=fsc
abbrev Xk(K:PySem.W.Frag):Sp:=Qo K (λa:Unit=>([]:SL K)) (λws a=>vA ws )
theorem zOl(F:aX K "_law_cell" "_law_cell" kY f fd)(B:Bl K mg):aq P w K mg base aN (k+1) f fd ["_law_rest"] (Xk K):=by
 refine zQb F mU (λ_=>rfl) (λ_=>rfl) λcdv A outer s H E hr=>?_
 have nd:=mU.nd
 refine⟨_,(zB (xP (yF (wF K Int hr) (zX (za K) rfl B.len abo (zA (pv 0) zE)) zO (xE _)) (zB (zT zO) zF) zF) (zB (zT (Je K aax PySem.F.slot_list_pop PySem.F.type_list_pop Iu (pv 0))) zF)),?_⟩
 rintro Fa p q0 ⟨⟩
 exact p7.of (T4 (yH (md:=.hp) (wG (Cy 0 rfl rfl) (zN 0))) (Wz 0 rfl rfl (esc (zN 0))) (WD 0 rfl rfl (Cw 0 rfl rfl))) (by unfold vA;simp only[bnd])
def QS(rec:LI->(List Str)->Int->Option (gj×LI))(q0:LI)(q1:List Str)(q2:Int):Option (gj×LI):=(vA q0 ).bind λaU=>(cL aU.1 (7:Int)).bind λpC=>(if(decide (q2=(0:Int)))=true then some true else some (decide (pC<(2:Int)))).bind λb=>if b=true then if(decide (pC=(0:Int)))=true then some (gj.mk .all,aU.2) else((((jm aU.1 (7:Int)).bind λa3=>cL a3 (q1.length:Int)).bind λb4=>cQ q1 b4).bind λa5=>some (gj.mk (.mark a5))).bind λt=>some (t,aU.2) else(if(decide (pC=(2:Int)))=true then some true else some (decide (pC=(3:Int)))).bind λb=>if b=true then(rec aU.2 q1 (q2-(1:Int))).bind λr6=>some (gj.mk (.one 0 r6.1.t),r6.2) else(rec aU.2 q1 (q2-(1:Int))).bind λpD=>((cL pC (2:Int)).bind λb8=>cQ ([("both":Str),("either":Str)]) b8).bind λx10=>(rec pD.2 q1 (q2-(1:Int))).bind λr9=>(CW x10 pD.1 r9.1).bind λt=>some (t,r9.2)
def vP:Nat->LI->(List Str)->Int->Option (gj×LI)
 |0=>λ_ _ _=>none
 |n+1=>QS (vP n)
theorem lN:ao ["_law_rest","_law_names","_law_deep","_law_cell_here","_law_way","_law_left"] ["_law_rest","_law_names","_law_deep"] (zI jB):=fsc
abbrev T9(K:PySem.W.Frag)(rec:LI->(List Str)->Int->Option (gj×LI)):Sp:=Qo K (λa:(List Str)×Int×Unit=>([.z a.1,.z a.2.1]:SL K)) (λws a=>rec ws a.1 a.2.1)
abbrev zIl(K:PySem.W.Frag):Sp:=T9 K (vP 10 )
theorem zL3(F:aX K "_law_grown" "_law_grown" jB f fd)(B:Bl K mg)(cO:bJ P w K mg base k "_law_cell" ["_law_rest"] (Xk K))(cG:bJ P w K mg base k "_law_grown" ["_law_rest","_law_names","_law_deep"] (T9 K rec)):aq P w K mg base aN (k+1) f fd ["_law_rest","_law_names","_law_deep"] (T9 K (QS rec)):=by
 refine zQb F lN (λ_=>rfl) (λ_=>rfl) λcdv A outer s H E hr=>?_
 have nd:=lN.nd
 refine⟨_,(zB (xN 3 nd (yA cO hr (zA (pv 0) zE))) (zB (xN 4 nd (yL vY (pv 3) zO)) (zB (xP (PW.pt (pw_or (yF (wF K Int hr) (pv 2) zO (xE _)) (pw_or1 (yF RJ (pv 4) zO (xE _))))) (zB (xP (yF (wF K Int hr) (pv 4) zO (xE _)) (zB (zT (yp (zA yS zE))) zF) zF) (zB (zT (yp (zA yS (zA (yN (cW K) (pv 1) (yL vY (yL HY (pv 3) zO) (zX (za K) rfl B.len abo (zA (pv 1) zE))) (λ_ _=>rfl)) zE)))) zF)) zF) (zB (xP (PW.pt (pw_or (yF (wF K Int hr) (pv 4) zO (xE _)) (pw_or1 (yF (wF K Int hr) (pv 4) zO (xE _))))) (zB (zT (yp (zA yS (zA (yA cG hr (zA (pv 0) (zA (pv 1) (zA (yL Nt (pv 2) zO) zE)))) zE)))) zF) zF) (zB (xN 5 nd (yA cG hr (zA (pv 0) (zA (pv 1) (zA (yL Nt (pv 2) zO) zE))))) (zB (zT (yp (zA (yN (cW K) (vK (zA yS (zA yS zE))) (yL vY (pv 4) zO) (λ_ _=>rfl)) (zA (pv 5) (zA (yA cG hr (zA (pv 0) (zA (pv 1) (zA (yL Nt (pv 2) zO) zE)))) zE))))) zF)))))),?_⟩
 rintro Fa p q0 ⟨q1,q2,⟨⟩⟩
 exact p7.of (WK (Qp true 3 (λ_=>⟨_,rfl,rfl⟩) (mq.ey (wV 0 rfl rfl zQ))) (λaU=>(WM [.nu (RL.mk (p:=p) aU.2),.z q1,.z q2,.y aU.1,.un,.un] (WK (xI true 4 rfl rfl (esc (uL (zG 3 rfl) (zN 7)))) (λpC=>(WM [.nu (RL.mk (p:=p) aU.2),.z q1,.z q2,.y aU.1,.y pC,.un] (T4 (Lh (yH (md:=.hp) (wG (zG 2 rfl) (zN 0))) (yH (md:=.hp) (tY (zG 4 rfl) (zN 2)))) (T4 (yH (md:=.hp) (wG (zG 4 rfl) (zN 0))) (Wz 0 rfl rfl zSu) (Wz 0 rfl rfl (zPr (esc (uD (zD 1 rfl) (uL (I_ (zG 3 rfl) (zN 7)) (Bo (zD 1 rfl)))))))) (T4 (Lh (yH (md:=.hp) (wG (zG 4 rfl) (zN 2))) (yH (md:=.hp) (wG (zG 4 rfl) (zN 3)))) (WD 0 rfl rfl (mq.ey (zPo (λ_=>⟨0,_,rfl,rfl⟩) (wV 0 rfl rfl (zH (yJ (n:=false) 1 rfl) (zH (esc (OJ (zG 2 rfl) (zN 1))) zQ)))))) (WK (Qp true 5 (λ_=>⟨_,rfl,rfl⟩) (mq.ey (wV 0 rfl rfl (zH (yJ (n:=false) 1 rfl) (zH (esc (OJ (zG 2 rfl) (zN 1))) zQ))))) (λpD=>(WM [.nu (RL.mk (p:=p) pD.2),.z q1,.z q2,.y aU.1,.y pC,.y pD.1] (WD 0 rfl rfl (mq.ey (zPn (i:=0) rfl rfl (λ_=>⟨0,_,rfl,rfl⟩) (esc (uD (Sh (FW (esc (uW "both")) (FW (esc (uW "either")) Sd)) (λa h=>aar ((Gh (Gh S6)) a h) (by decide))).ex (uL (zG 4 rfl) (zN 2)))) (yJ (n:=true) 5 rfl) (wV 0 rfl rfl (zH (yJ (n:=false) 1 rfl) (zH (esc (OJ (zG 2 rfl) (zN 1))) zQ))))))))))))))))) (by unfold QS;simp only[bnd])
def QT(cl:Hd->Addr)(rec:gj->Option (cN cl))(q0:gj):Option (cN cl):=if(decide ((kh q0.t)=("all":Str)))=true then some (cN.mk .all:cN cl) else if(decide ((kh q0.t)=("mark":Str)))=true then(Mh q0).bind λa1=>some ((cN.mk (.mark a1):cN cl)) else if(decide ((kh q0.t)=("not":Str)))=true then(((CV q0).bind λa3=>some ((a3,()))).bind λz2=>rec z2.1).bind λa4=>some ((cN.mk (.one 0 a4.t):cN cl)) else if(decide ((kh q0.t)=("both":Str)))=true then(((CV q0).bind λa6=>some ((a6,()))).bind λz5=>rec z5.1).bind λa9=>(((JZ q0).bind λa8=>some ((a8,()))).bind λz7=>rec z7.1).bind λb10=>some ((cN.mk (.two 0 a9.t b10.t):cN cl)) else(((CV q0).bind λa12=>some ((a12,()))).bind λQC=>rec QC.1).bind λa15=>(((JZ q0).bind λa14=>some ((a14,()))).bind λQV=>rec QV.1).bind λXl=>some ((cN.mk (.two 1 a15.t Xl.t):cN cl))
def xV(cl:Hd->Addr):Nat->gj->Option (cN cl)
 |0=>λ_=>none
 |n+1=>QT cl (xV cl n)
theorem mV:ao ["_law_tree"] ["_law_tree"] (zI kZ):=fsc
abbrev T_(K:PySem.W.Frag)(cl:Hd->Addr)(rec:gj->Option (cN cl)):Sp:=cR K false (λa:gj×Unit=>([.z a.1]:SL K)) (λa=>rec a.1)
abbrev zLd(K:PySem.W.Frag)(cl:Hd->Addr):Sp:=T_ K cl (xV cl 10 )
theorem zOk(F:aX K "_law_made" "_law_made" kZ f fd)(B:Bl K mg)(I:oX P w K mg base kS cl fi di)(hS:kS+1<=k)(bY:bJ P w K mg base k "_law_made" ["_law_tree"] (T_ K cl rec)):aq P w K mg base aN (k+1) f fd ["_law_tree"] (T_ K cl (QT cl rec)):=by
 refine yE F mV (λ_=>rfl) (λ_=>rfl) λcdv A outer s H E hr=>?_
 have nd:=mV.nd
 refine⟨_,(zB (xP (yF (wF K Str hr) (yN (dJ K) (pv 0) zO (λ_ _=>rfl)) yS (xE _)) (zB (zT (zRz (I.ini.made .all) I.ini.iA (hr.mono hS) rfl I.ini.mA I.ini.bA .nil vL)) zF) zF) (zB (xP (yF (wF K Str hr) (yN (dJ K) (pv 0) zO (λ_ _=>rfl)) yS (xE _)) (zB (zT (Ny (I.ini.made .mark) I.ini.iM (hr.mono hS) rfl I.ini.mM I.ini.bM .nil vL (zA (yN (dJ K) (pv 0) zO (λ_ _=>rfl)) zE))) zF) zF) (zB (xP (yF (wF K Str hr) (yN (dJ K) (pv 0) zO (λ_ _=>rfl)) yS (xE _)) (zB (zT (Ny (I.ini.made (.one 0)) (I.ini.i1 0) (hr.mono hS) rfl (I.ini.m1 0) (I.ini.b1 0) .nil vL (zA (yA bY hr (zA (yN (dJ K) (pv 0) zO (λ_ _=>rfl)) zE)) zE))) zF) zF) (zB (xP (yF (wF K Str hr) (yN (dJ K) (pv 0) zO (λ_ _=>rfl)) yS (xE _)) (zB (zT (Ny (I.ini.made (.two 0)) (I.ini.i2 0) (hr.mono hS) rfl (I.ini.m2 0) (I.ini.b2 0) .nil vL (zA (yA bY hr (zA (yN (dJ K) (pv 0) zO (λ_ _=>rfl)) zE)) (zA (yA bY hr (zA (yN (dJ K) (pv 0) zO (λ_ _=>rfl)) zE)) zE)))) zF) zF) (zB (zT (Ny (I.ini.made (.two 1)) (I.ini.i2 1) (hr.mono hS) rfl (I.ini.m2 1) (I.ini.b2 1) .nil vL (zA (yA bY hr (zA (yN (dJ K) (pv 0) zO (λ_ _=>rfl)) zE)) (zA (yA bY hr (zA (yN (dJ K) (pv 0) zO (λ_ _=>rfl)) zE)) zE)))) zF))))),?_⟩
 rintro Fa ⟨q0,⟨⟩⟩
 exact SB.of (vH (yH (md:=.hp) (wG (GK (zD 0 rfl) (zN 0)) (uW "all"))) (zW (Cr (cl:=cl))) (vH (yH (md:=.hp) (wG (GK (zD 0 rfl) (zN 0)) (uW "mark"))) (zW (Cu (cl:=cl) (esc (WT (zD 0 rfl) (zN 1))))) (vH (yH (md:=.hp) (wG (GK (zD 0 rfl) (zN 0)) (uW "not"))) (zW (Cv 0 (zR (zH (Mi (zD 0 rfl) (zN 1)) zQ)))) (vH (yH (md:=.hp) (wG (GK (zD 0 rfl) (zN 0)) (uW "both"))) (zW (zPt 0 (zR (zH (Mi (zD 0 rfl) (zN 1)) zQ)) (zR (zH (T5 (zD 0 rfl) (zN 2)) zQ)))) (zW (zPt 1 (zR (zH (Mi (zD 0 rfl) (zN 1)) zQ)) (zR (zH (T5 (zD 0 rfl) (zN 2)) zQ)))))))) (by unfold QT;simp only[bnd])
def QW(rec:gj->Int->(Dz LI)->Option Bool)(q0:gj)(q1:Int)(q2:Dz LI):Option Bool:=if(decide ((kh q0.t)=("all":Str)))=true then some true else if(decide ((kh q0.t)=("mark":Str)))=true then((Mh q0).bind λa1=>some ((xC q2.kv a1).isSome)).bind λc4=>if c4=true then((Mh q0).bind λb2=>xC q2.kv b2).bind λb3=>some (decide (q1∈b3)) else some false else if(decide ((kh q0.t)=("not":Str)))=true then(((CV q0).bind λa6=>some ((a6,(q1,(q2,()))))).bind λz5=>rec z5.1 z5.2.1 z5.2.2.1).bind λa7=>some (!a7) else if(decide ((kh q0.t)=("both":Str)))=true then(((CV q0).bind λa9=>some ((a9,(q1,(q2,()))))).bind λz8=>rec z8.1 z8.2.1 z8.2.2.1).bind λc12=>if c12=true then((JZ q0).bind λa11=>some ((a11,(q1,(q2,()))))).bind λMq=>rec Mq.1 Mq.2.1 Mq.2.2.1 else some false else(((CV q0).bind λa14=>some ((a14,(q1,(q2,()))))).bind λQV=>rec QV.1 QV.2.1 QV.2.2.1).bind λXm=>if Xm=true then some true else((JZ q0).bind λa16=>some ((a16,(q1,(q2,()))))).bind λXn=>rec Xn.1 Xn.2.1 Xn.2.2.1
def xU:Nat->gj->Int->(Dz LI)->Option Bool
 |0=>λ_ _ _=>none
 |n+1=>QW (xU n)
theorem mW:ao ["_law_tree","_law_stand","_law_marks"] ["_law_tree","_law_stand","_law_marks"] (zI lg):=fsc
abbrev Ua(K:PySem.W.Frag)(rec:gj->Int->(Dz LI)->Option Bool):Sp:=cR K false (λa:gj×Int×((Dz LI))×Unit=>([.z a.1,.z a.2.1,.z a.2.2.1]:SL K)) (λa=>rec a.1 a.2.1 a.2.2.1)
abbrev zLb(K:PySem.W.Frag):Sp:=Ua K (xU 10 )
theorem zOi(F:aX K "_law_true" "_law_true" lg f fd)(B:Bl K mg)(bZ:bJ P w K mg base k "_law_true" ["_law_tree","_law_stand","_law_marks"] (Ua K rec)):aq P w K mg base aN (k+1) f fd ["_law_tree","_law_stand","_law_marks"] (Ua K (QW rec)):=by
 refine yE F mW (λ_=>rfl) (λ_=>rfl) λcdv A outer s H E hr=>?_
 have nd:=mW.nd
 have hu:=Oc hr
 refine⟨_,(zB (xP (yF (wF K Str hr) (yN (dJ K) (pv 0) zO (λ_ _=>rfl)) yS (xE _)) (zB (zT yg) zF) zF) (zB (xP (yF (wF K Str hr) (yN (dJ K) (pv 0) zO (λ_ _=>rfl)) yS (xE _)) (zB (zT (Ng (Hs (Va hu (yN (dJ K) (pv 0) zO (λ_ _=>rfl)) (pv 2))) (Nf (Yx (Z5 K) (pv 1) (Y5 hu (pv 2) (yN (dJ K) (pv 0) zO (λ_ _=>rfl)) (λ_ _=>rfl)) (by with_unfolding_all rfl))))) zF) zF) (zB (xP (yF (wF K Str hr) (yN (dJ K) (pv 0) zO (λ_ _=>rfl)) yS (xE _)) (zB (zT (Yp (yA bZ hr (zA (yN (dJ K) (pv 0) zO (λ_ _=>rfl)) (zA (pv 1) (zA (pv 2) zE)))))) zF) zF) (zB (xP (yF (wF K Str hr) (yN (dJ K) (pv 0) zO (λ_ _=>rfl)) yS (xE _)) (zB (zT (Ng (yA bZ hr (zA (yN (dJ K) (pv 0) zO (λ_ _=>rfl)) (zA (pv 1) (zA (pv 2) zE)))) (Nf (yA bZ hr (zA (yN (dJ K) (pv 0) zO (λ_ _=>rfl)) (zA (pv 1) (zA (pv 2) zE))))))) zF) zF) (zB (zT (Nh (yA bZ hr (zA (yN (dJ K) (pv 0) zO (λ_ _=>rfl)) (zA (pv 1) (zA (pv 2) zE)))) (Nf (yA bZ hr (zA (yN (dJ K) (pv 0) zO (λ_ _=>rfl)) (zA (pv 1) (zA (pv 2) zE))))))) zF))))),?_⟩
 rintro Fa ⟨q0,q1,q2,⟨⟩⟩
 exact SB.of (vH (yH (md:=.hp) (wG (GK (zD 0 rfl) (zN 0)) (uW "all"))) (zW (esc (yt true))) (vH (yH (md:=.hp) (wG (GK (zD 0 rfl) (zN 0)) (uW "mark"))) (zW (esc (Ov (CT (WT (zD 0 rfl) (zN 1)) (zD 2 rfl)) (O6 (zG 1 rfl) (zKu (zD 2 rfl) (WT (zD 0 rfl) (zN 1))))))) (vH (yH (md:=.hp) (wG (GK (zD 0 rfl) (zN 0)) (uW "not"))) (zW (esc (ZG (zR (zH (Mi (zD 0 rfl) (zN 1)) (zH (esc (zG 1 rfl)) (zH (zD 2 rfl) zQ))))))) (vH (yH (md:=.hp) (wG (GK (zD 0 rfl) (zN 0)) (uW "both"))) (zW (esc (Ov (zR (zH (Mi (zD 0 rfl) (zN 1)) (zH (esc (zG 1 rfl)) (zH (zD 2 rfl) zQ)))) (zR (zH (T5 (zD 0 rfl) (zN 2)) (zH (esc (zG 1 rfl)) (zH (zD 2 rfl) zQ))))))) (zW (esc (Ow (zR (zH (Mi (zD 0 rfl) (zN 1)) (zH (esc (zG 1 rfl)) (zH (zD 2 rfl) zQ)))) (zR (zH (T5 (zD 0 rfl) (zN 2)) (zH (esc (zG 1 rfl)) (zH (zD 2 rfl) zQ))))))))))) (by unfold QW;simp only[bnd])
def Ms(q0:Int)(q1:Int):Option Str:=(some ("abcdefghijklmnopqrstuvwxyz":Str)).bind λlO=>((cL q1 (5:Int)).bind λb3=>some ((4:Int)+b3)).bind λv9=>((jm q1 (5:Int)).bind λa5=>cL a5 v9).bind λwg=>(((jm q1 (999:Int)).bind λa7=>cL a7 (26:Int)).bind λb8=>Mg lO b8).bind λpF=>((((wR wg).bind λxs=>wD (λ(x10:Int)=>some true) (λ(x10:Int)=>some pF) xs).bind λa11=>GJ "" a11).bind λa15=>((((jm q1 (40:Int)).bind λa12=>some (a12+q0)).bind λa13=>cL a13 (26:Int)).bind λXg=>Mg lO Xg).bind λXl=>pZ a15 Xl).bind λGR=>(((wR ((v9-wg)-(1:Int))).bind λxs=>wD (λ(x17:Int)=>some true) (λ(x17:Int)=>some pF) xs).bind λa18=>GJ "" a18).bind λb19=>pZ GR b19
theorem mX:ao ["_law_k","_law_seed","_law_letters","_law_size","_law_spot","_law_base","_law_text"] ["_law_k","_law_seed"] (zI lq):=fsc
abbrev zLc(K:PySem.W.Frag):Sp:=cR K false (λa:Int×Int×Unit=>([.z a.1,.z a.2.1]:SL K)) (λa=>Ms a.1 a.2.1)
theorem zOj(F:aX K "_law_name" "_law_name" lq f fd)(B:Bl K mg):aq P w K mg base aN (k+1) f fd ["_law_k","_law_seed"] (zLc K):=by
 refine yE F mX (λ_=>rfl) (λ_=>rfl) λcdv A outer s H E hr=>?_
 have nd:=mX.nd
 refine⟨_,(zB (xN 2 nd yS) (zB (xN 3 nd (yL HX zO (yL vY (pv 1) zO))) (zB (xN 4 nd (yL vY (yL HY (pv 1) zO) (pv 3))) (zB (xN 5 nd (zTt (pv 2) (yL vY (yL HY (pv 1) zO) zO) (λ_ _=>rfl))) (zB (xN 6 nd (yL zOf (uc K PySem.F.plainAttrs_str PySem.F.slot_str_join PySem.F.type_str_join (zOt K) yS (zA (Fz (own:=["_law_j"]) (ix:=[5]) rfl rfl rfl (xS rfl B.range (zA (pv 4) zE)) (λC s H fp=>yM (i:=0) (show(["_law_j","_law_base"]:List Str).Nodup from by decide +kernel) rfl (Or.inl rfl)) (λC s H fp=>wX) (λC s H fp=>(pv 1))) zE)) (zTt (pv 2) (yL vY (yL HX (yL HY (pv 1) zO) (pv 0)) zO) (λ_ _=>rfl)))) (zB (zT (yL zOf (pv 6) (uc K PySem.F.plainAttrs_str PySem.F.slot_str_join PySem.F.type_str_join (zOt K) yS (zA (Fz (own:=["_law_j"]) (ix:=[5]) rfl rfl rfl (xS rfl B.range (zA (yL Nt (yL Nt (pv 3) (pv 4)) zO) zE)) (λC s H fp=>yM (i:=0) (show(["_law_j","_law_base"]:List Str).Nodup from by decide +kernel) rfl (Or.inl rfl)) (λC s H fp=>wX) (λC s H fp=>(pv 1))) zE)))) zF)))))),?_⟩
 rintro Fa ⟨q0,q1,⟨⟩⟩
 exact SB.of (zS (xI true 2 rfl rfl (esc (uW "abcdefghijklmnopqrstuvwxyz"))) (λlO=>(zS (xI true 3 rfl rfl (esc (I9 (zN 4) (uL (zG 1 rfl) (zN 5))))) (λv9=>(zS (xI true 4 rfl rfl (esc (uL (I_ (zG 1 rfl) (zN 5)) (zG 3 rfl)))) (λwg=>(zS (xI true 5 rfl rfl (esc (esc (zUc (zG 2 rfl) (uL (I_ (zG 1 rfl) (zN 999)) (zN 26)))))) (λpF=>(zS (xI true 6 rfl rfl (esc (zPz (zPv "" (wC (n:=true) (mJ:=[.un,.y pF]) (no:=1) (ix:=[5]) rfl rfl (wO (zG 4 rfl)) (zZ 0 rfl rfl) (λx10=>zc) (λx10=>(esc (zG 1 rfl))) (λx10=>jo)).ex) (esc (zUc (zG 2 rfl) (uL (I9 (I_ (zG 1 rfl) (zN 40)) (zG 0 rfl)) (zN 26))))))) (λGR=>(zW (esc (zPz (zG 6 rfl) (zPv "" (wC (n:=true) (mJ:=[.un,.y pF]) (no:=1) (ix:=[5]) rfl rfl (wO (OJ (OJ (zG 3 rfl) (zG 4 rfl)) (zN 1))) (zZ 0 rfl rfl) (λx17=>zc) (λx17=>(esc (zG 1 rfl))) (λx17=>jo)).ex)))))))))))))) (by unfold Ms;simp only[bnd])
def uS(q0:Int)(q1:Int):Option LI:=(some ([]:LI)).bind λqj=>((wR q1).bind λxs=>xH (λ(s2:LI×Int) (x4:Int)=>(((cL s2.2 (2:Int)).bind λa5=>some (decide (a5=(1:Int)))).bind λb=>if b=true then(push s2.1 x4).bind λql=>some ql else some s2.1).bind λs6=>(jm s2.2 (2:Int)).bind λjF=>some (s6,jF)) xs (qj,q0)).bind λs3=>some s3.1
theorem mY:ao ["_law_cell_here","_law_many","_law_found","_law_stand"] ["_law_cell_here","_law_many"] (zI lu):=fsc
abbrev zLe(K:PySem.W.Frag):Sp:=cR K false (λa:Int×Int×Unit=>([.z a.1,.z a.2.1]:SL K)) (λa=>uS a.1 a.2.1)
theorem zOm(F:aX K "_law_bits" "_law_bits" lu f fd)(B:Bl K mg):aq P w K mg base aN (k+1) f fd ["_law_cell_here","_law_many"] (zLe K):=by
 refine yE F mY (λ_=>rfl) (λ_=>rfl) λcdv A outer s H E hr=>?_
 have nd:=mY.nd
 refine⟨_,(zB (xN 2 nd (vK zE)) (zB (xJ aas rfl (xS rfl B.range (zA (pv 1) zE)) (cU 3 nd) (zB (xP (yF (wF K Int hr) (yL vY (pv 0) zO) zO (xE _)) (zB (zY (uc K aax aa7 aa8 wU (pv 2) (zA (pv 3) zE))) zF) zF) (zB (xN 0 nd (yL HY (pv 0) zO)) zF))) (zB (zT (pv 2)) zF))),?_⟩
 rintro Fa ⟨q0,q1,⟨⟩⟩
 exact SB.of (zS (uZ true 2 rfl rfl (Bd (α:=Int))) (λqj=>(zS (wE (n:=true) (L:=(λs2:LI×Int=>([.z s2.2,.z q1,.ow true s2.1,.un]:SL K))) (qj,q0) bK (wO (zG 1 rfl)) (λs2=>(zZ 3 rfl rfl)) (λs2 x4=>(zU (yx (yH (md:=.hp) (wG (uL (zG 0 rfl) (zN 2)) (zN 1))) (zU (Ox 2 rfl rfl (esc (zG 3 rfl))) (λql=>(yB (λs7:LI=>([.z s2.2,.z q1,.ow true s7,.y x4]:SL K)) ql bK))) (yB (λs7:LI=>([.z s2.2,.z q1,.ow true s7,.y x4]:SL K)) s2.1 bK)) (λs6=>(zU (xI true 0 rfl rfl (esc (I_ (zG 0 rfl) (zN 2)))) (λjF=>(yB (λs2:LI×Int=>([.z s2.2,.z q1,.ow true s2.1,.un]:SL K)) (s6,jF) (Le.old bK)))))))) (λs3=>(IK 2 rfl rfl))))) (by unfold uS;simp only[bnd])
def Mt(q0:LI)(q1:LI):Option Bool:=(if(!true)=true then some true else some (!decide (q0=q1))).bind λb=>if b=true then some false else((some q0).bind λxs=>vD (λ(s1:Unit) (x3:Int)=>(if(!true)=true then some true else some false).bind λb=>if b=true then(some false).bind λb=>some (.rt b) else some (.nx ())) xs ()).bind λo=>o.els λs2=>some true
theorem pG:ao ["_law_found","_law_due","_law_number"] ["_law_found","_law_due"] (zI nG):=fsc
abbrev zQs(K:PySem.W.Frag):Sp:=cR K false (λa:LI×LI×Unit=>([.z a.1,.z a.2.1]:SL K)) (λa=>Mt a.1 a.2.1)
theorem zR5(F:aX K "_law_set" "_law_set" nG f fd)(B:Bl K mg):aq P w K mg base aN (k+1) f fd ["_law_found","_law_due"] (zQs K):=by
 refine yE F pG (λ_=>rfl) (λ_=>rfl) λcdv A outer s H E hr=>?_
 have nd:=pG.nd
 refine⟨_,(zB (xP (PW.pt (pw_or (M_ (uG (zX (t_ K (Lg (n:="list"))) rfl B.qY tZ (zA (pv 0) (zA (K8 (v:=.ty "list") rfl B.list Lr rfl) zE))))) (pw_or1 (yF (IW K LI hr) (pv 0) (pv 1) (xE _))))) (zB (zT yg) zF) zF) (zB (xJ aas rfl (yY K (pv 0)) (cU 2 nd) (zB (xP (PW.pt (pw_or (M_ (uG (zX (t_ K (Lg (n:="int"))) rfl B.qY tZ (zA (pv 2) (zA (K8 (v:=.ty "int") rfl B.int ZS rfl) zE))))) (pw_or1 (uG (zX (t_ K (Lg (n:="bool"))) rfl B.qY tZ (zA (pv 2) (zA (K8 (v:=.ty "bool") rfl B.bool ZV rfl) zE))))))) (zB (zT yg) zF) zF) zF)) (zB (zT yg) zF))),?_⟩
 rintro Fa ⟨q0,q1,⟨⟩⟩
 exact SB.of (vH (Lh (Ou (dI (md:=.hp) (Lq B.ll rfl (zD 0 rfl)))) (yH (md:=.hp) (I8 (zD 0 rfl) (zD 1 rfl)))) (zW (esc (yt false))) (VD (VH (n:=false) (L:=(λs1:Unit=>([.z q0,.z q1,.un]:SL K))) () bK (yZ (yJ 0 rfl)) (λs1=>(zZ 2 rfl rfl)) (λs1 x3=>(VG (Lh (Ou (dI (md:=.hp) (Lq B.ii rfl (zG 2 rfl)))) (dI (md:=.hp) (Lq B.ib rfl (zG 2 rfl)))) (zW (esc (yt false))) (VF (λs1:Unit=>([.z q0,.z q1,.un]:SL K)) () bK)))) (λs2=>(zW (esc (yt true)))))) (by unfold Mt;simp only[bnd])
end
open PySem L2
structure Gr{C:Addr}(m:aG C)(n:Int):Prop where
 len:(m.steps.length:Int)=n
 pos:1<=n
 few:n<=60
 row:∀xs∈m.steps,xs≠[]/\xs.Nodup/\∀z∈xs,0<=z/\z<n
 src:m.sources=srcs m.steps
def nxt(xss:List LI)(s:Int):LI:=xss.getD s.toNat []
theorem Dk:x∈src xss j↔0<=x/\x<(xss.length:Int)/\(j:Int)∈nxt xss x:=by
 unfold src nxt
 rw[mem_map]
 constructor
 ·rintro⟨k,h,rfl⟩
  rw[mem_filter,mem_range] at h
  have h2:=of_decide_eq_true h.2
  exact⟨acj _,by show(k:Int)<_;omega,h2⟩
 ·intro⟨h0,h1,h2⟩
  refine⟨x.toNat,?_,by show((x.toNat:Nat):Int)=x;omega⟩
  rw[mem_filter,mem_range]
  exact⟨by omega,decide_eq_true h2⟩
theorem Ub{C:Addr}{m:aG C}(g:Gr m n):yI m=some n:=by
 unfold yI
 rw[g.len]
theorem zQ4{C:Addr}{m:aG C}(g:Gr m n)(h0:0<=s)(h1:s<n):W (xB m s) λxs=>∀x,x∈xs↔0<=x/\x<n/\s∈nxt m.steps x:=by
 unfold xB
 rw[gO h0,g.src]
 have hl:=g.len
 refine⟨_,ZX (by omega),λx=>?_⟩
 rw[Dk,hl,show((s.toNat:Nat):Int)=s by omega]
theorem QX{α:Type}{xs:List α}{a d:α}(h:i<xs.length):(xs.set i a).getD j d=if j=i then a else xs.getD j d:=by
 rw[getD_eq_getElem?_getD,getD_eq_getElem?_getD,adg]
 by_cases e:i=j
 ·subst e;simp[h]
 ·rw[if_neg e,if_neg (ab1 e)]
theorem Dl{C:Addr}{m:aG C}(g:Gr m n)(hx:∀x∈xs,0<=x/\x<n):W (QF m xs) λfl=>(fl.length:Int)=n/\∀s:Int,0<=s->s<n->fl.getD s.toNat false=decide (s∈xs):=by
 unfold QF
 have hp:=g.pos
 have hf:=g.few
 simp only[zC,aj,Ub g,uV]
 refine⟨⟨by omega,by omega⟩,?_⟩
 rw[Ls (λ_=>false)]
 have e:=vI (n:=n) (by omega)
 refine⟨yR (by omega),wH (λi fl=>(fl.length:Int)=n/\∀s:Int,0<=s->s<n->fl.getD s.toNat false=decide (s∈xs.take i)) ⟨by rw[length_map];exact e,λs _ _=>?_⟩ (λi x fl hi hI=>?_) λfl hI=>?_⟩
 ·rw[getD_eq_getElem?_getD,getElem?_map]
  cases(rng n)[s.toNat]?<;>simp
 ·have hxx:=hx x (mem_of_getElem? hi)
  simp only[zC,aj]
  rw[Ph hxx.1 (by omega)]
  refine⟨by rw[length_set];exact hI.1,λs s0 s1=>?_⟩
  rw[QX (by omega)]
  have tk:xs.take (i+1)=xs.take i++[x]:=by rw[take_add_one,hi]<;>rfl
  by_cases q:s.toNat=x.toNat
  ·have:s=x:=by omega
   subst this
   rw[if_pos rfl,tk];simp
  ·have:s≠x:=λz=>q (by rw[z])
   rw[if_neg q,hI.2 s s0 s1,tk]
   simp[this]
 ·rw[take_length] at hI
  exact hI
abbrev dg(d:List (Option Int))(s:Int):Option Int:=d.getD s.toNat none
structure qm(xss:List LI)(through goal:LI)(n:Int)(d:List (Option Int)):Prop where
 len:(d.length:Int)=n
 pos:∀s k,0<=s->s<n->dg d s=some k->0<=k/\k<n
 zero:∀s,0<=s->s<n->(dg d s=some 0↔s∈goal)
 via:∀s k,0<=s->s<n->dg d s=some k->s∉goal->s∈through/\∃t∈nxt xss s,0<=t/\t<n/\dg d t=some (k-1)
 near:∀s t k,0<=s->s<n->0<=t->t<n->s∈through->t∈nxt xss s->dg d t=some k->∃j,dg d s=some j/\j<=k+1
structure Bf(xss:List LI)(pass:Int->Prop)(goal:LI)(n:Int)(d:List (Option Int))(row:LI)(place:Nat):Prop where
 len:(d.length:Int)=n
 rng:∀s∈row,0<=s/\s<n
 nd:row.Nodup
 iff:∀s:Int,0<=s->s<n->((dg d s).isSome=true↔s∈row)
 idx:∀(i:Nat)(s:Int),row[i]?=some s->∃k:Int,dg d s=some k/\0<=k/\k<=i
 mono:∀(i j:Nat)(s t k l:Int),i<=j->row[i]?=some s->row[j]?=some t->dg d s=some k->dg d t=some l->k<=l
 top:∀(j:Nat)(s t k l:Int),row[place]?=some s->row[j]?=some t->dg d s=some k->dg d t=some l->l<=k+1
 zero:∀s:Int,0<=s->s<n->(dg d s=some 0↔s∈goal)
 via:∀(s k:Int),s∈row->dg d s=some k->s∉goal->pass s/\∃t∈nxt xss s,0<=t/\t<n/\dg d t=some (k-1)
 done:∀(i:Nat)(s t k:Int),i<place->row[i]?=some t->dg d t=some k->0<=s->s<n->pass s->t∈nxt xss s->∃j,dg d s=some j/\j<=k+1
theorem Xo{d:List (Option Int)}(hl:(d.length:Int)=n)(h0:0<=s)(h1:s<n)(t0:0<=t):dg (d.set s.toNat v) t=if t=s then v else dg d t:=by
 show(d.set s.toNat v).getD t.toNat none=_
 rw[QX (by omega)]
 by_cases e:t=s
 ·rw[if_pos e,if_pos (by rw[e])]
 ·rw[if_neg e,if_neg (by omega)]
theorem Mu{row:LI}{i:Nat}{s x:Int}(h:(row++[x])[i]?=some s):row[i]?=some s\/(i=row.length/\s=x):=by
 by_cases q:i<row.length
 ·rw[getElem?_append_left q] at h;exact .inl h
 ·rw[getElem?_append_right (by omega)] at h
  have:i-row.length=0:=by
   have:=yC h
   simp at this
   omega
  rw[this] at h
  exact .inr ⟨by omega,(aai h).symm⟩
structure Bm(xss:List LI)(pass:Int->Prop)(goal:LI)(n:Int)(d:List (Option Int))(row:LI)(place:Nat)(t k:Int)(seen:LI):Prop where
 bf:Bf xss pass goal n d row place
 at_:row[place]?=some t
 k_:dg d t=some k
 qL:∀s∈seen,pass s->∃j,dg d s=some j/\j<=k+1
theorem Bm.put(b:Bm xss pass goal n d row place t k seen)(hx0:0<=x)(hx1:x<n)(hp:pass x)(hn:dg d x=none)(ht:t∈nxt xss x) :
  Bm xss pass goal n (d.set x.toNat (some (k+1))) (row++[x]) place t k (seen++[x]):=by
 have B:=b.bf
 have tr:=B.rng t (mem_of_getElem? b.at_)
 have xr:x∉row:=λh=>by have:=(B.iff x hx0 hx1).mpr h;rw[hn] at this;cases this
 have tx:t≠x:=λe=>xr (e▸mem_of_getElem? b.at_)
 obtain⟨k',e1,k0,kp⟩:=B.idx place t b.at_
 rw[b.k_] at e1
 cases e1
 have pl:=yC b.at_
 have old:∀s:Int,0<=s->s≠x->dg (d.set x.toNat (some (k+1))) s=dg d s:=λs s0 q=>by rw[Xo B.len hx0 hx1 s0,if_neg q]
 have new:dg (d.set x.toNat (some (k+1))) x=some (k+1):=by rw[Xo B.len hx0 hx1 hx0,if_pos rfl]
 have inr:∀{i:Nat}{s:Int},row[i]?=some s->0<=s/\s<n/\s≠x:=λh=>by
  have:=B.rng _ (mem_of_getElem? h)
  exact⟨this.1,this.2,λe=>xr (e▸mem_of_getElem? h)⟩
 refine⟨⟨by rw[length_set];exact B.len,λs hs=>?_,?_,λs s0 s1=>?_,λi s h=>?_,λi j s u a l ij h1 h2 h3 h4=>?_,λj s u a l h1 h2 h3 h4=>?_,λs s0 s1=>?_,λs a hs h1 h2=>?_,λi s u a hi h1 h2 s0 s1 ps hu=>?_⟩,?_,?_,λs hs ps=>?_⟩
 ·rcases mem_append.mp hs with q|q
  ·exact B.rng s q
  ·rw[mem_singleton.mp q];exact⟨hx0,hx1⟩
 ·rw[nodup_append]
  exact⟨B.nd,by simp,λa ha c hc e=>by rw[mem_singleton.mp hc] at e;exact xr (e▸ha)⟩
 ·by_cases e:s=x
  ·subst e;rw[new];simp
  ·rw[old s s0 e,B.iff s s0 s1];simp[e]
 ·rcases Mu h with h|⟨rfl,rfl⟩
  ·obtain⟨a1,a2,a3⟩:=inr h
   rw[old s a1 a3];exact B.idx i s h
  ·exact⟨k+1,new,by omega,by omega⟩
 ·rcases Mu h1 with g1|⟨rfl,rfl⟩
  ·obtain⟨a1,a2,a3⟩:=inr g1
   rw[old s a1 a3] at h3
   rcases Mu h2 with g2|⟨rfl,rfl⟩
   ·obtain⟨b1,b2,b3⟩:=inr g2
    rw[old u b1 b3] at h4
    exact B.mono i j s u a l ij g1 g2 h3 h4
   ·rw[new] at h4
    cases h4
    exact B.top i t s k a b.at_ g1 b.k_ h3
  ·rcases Mu h2 with h2|⟨rfl,rfl⟩
   ·have:=yC h2;omega
   ·rw[h3] at h4;cases h4;exact ad3 _
 ·have h1':s=t:=by
   rcases Mu h1 with h1|⟨e,_⟩
   ·rw[b.at_] at h1;exact(aai h1).symm
   ·omega
  subst h1'
  rw[old s tr.1 tx,b.k_] at h3
  cases h3
  rcases Mu h2 with h2|⟨rfl,rfl⟩
  ·obtain⟨b1,b2,b3⟩:=inr h2
   rw[old u b1 b3] at h4
   exact B.top j s u k l b.at_ h2 b.k_ h4
  ·rw[new] at h4;cases h4;exact ad3 _
 ·by_cases e:s=x
  ·subst e
   rw[new]
   constructor
   ·intro q;have q:=aai q;omega
   ·intro q;have:=(B.zero s s0 s1).mpr q;rw[hn] at this;cases this
  ·rw[old s s0 e];exact B.zero s s0 s1
 ·rcases mem_append.mp hs with q|q
  ·have sr:=B.rng s q
   have sx:s≠x:=λe=>xr (e▸q)
   rw[old s sr.1 sx] at h1
   obtain⟨p1,u,u1,u2,u3,u4⟩:=B.via s a q h1 h2
   refine⟨p1,u,u1,u2,u3,?_⟩
   rw[old u u2 λe=>by rw[e,hn] at u4;cases u4]
   exact u4
  ·have:=mem_singleton.mp q
   subst this
   rw[new] at h1
   cases h1
   exact⟨hp,t,ht,tr.1,tr.2,by rw[old t tr.1 tx,b.k_,show k+1-1=k by omega]⟩
 ·have h1':row[i]?=some u:=by rw[getElem?_append_left (by omega)] at h1;exact h1
  obtain⟨b1,b2,b3⟩:=inr h1'
  rw[old u b1 b3] at h2
  obtain⟨j,q1,q2⟩:=B.done i s u a hi h1' h2 s0 s1 ps hu
  by_cases e:s=x
  ·subst e;rw[hn] at q1;cases q1
  ·exact⟨j,by rw[old s s0 e];exact q1,q2⟩
 ·rw[getElem?_append_left pl];exact b.at_
 ·rw[old t tr.1 tx];exact b.k_
 ·rcases mem_append.mp hs with q|q
  ·obtain⟨j,q1,q2⟩:=b.qL s q ps
   by_cases e:s=x
   ·subst e;rw[hn] at q1;cases q1
   ·by_cases s0:0<=s
    ·exact⟨j,by rw[old s s0 e];exact q1,q2⟩
    ·refine⟨j,?_,q2⟩
     show(d.set x.toNat (some (k+1))).getD s.toNat none=some j
     have z:s.toNat=0:=by omega
     rw[QX (by have:=B.len;omega)]
     by_cases w:s.toNat=x.toNat
     ·have xz:x=0:=by omega
      have q1':d.getD s.toNat none=some j:=q1
      have hn':d.getD x.toNat none=none:=hn
      rw[w] at q1'
      rw[q1'] at hn'
      cases hn'
     ·rw[if_neg w];exact q1
  ·rw[mem_singleton.mp q];exact⟨k+1,new,ad3 _⟩
theorem zIq{C:Addr}{m:aG C}(g:Gr m n){goal:LI}(ht:∀x∈through,0<=x/\x<n)(hg:goal.Nodup/\∀x∈goal,0<=x/\x<n):W (vQ m through goal) (qm m.steps through goal n):=by
 unfold vQ
 have hp:=g.pos
 have hf:=g.few
 simp only[zC,aj,Ub g,uV]
 refine(Dl g ht).imp λfl ⟨fl1,fl2⟩=>⟨⟨by omega,by omega⟩,?_⟩
 rw[Ls (λ_=>(none:Option Int))]
 have e:=vI (n:=n) (by omega)
 refine⟨yR (by omega),wH (λi (d:List (Option Int))=>(d.length:Int)=n/\∀s:Int,0<=s->s<n->dg d s=if s∈goal.take i then some 0 else none) ⟨by rw[length_map];exact e,λs _ _=>?_⟩ (λi x d hi hI=>?_) λd hd=>?_⟩
 ·show(List.map (λ_=>(none:Option Int)) (rng n)).getD s.toNat none=_
  rw[getD_eq_getElem?_getD,getElem?_map]
  cases(rng n)[s.toNat]?<;>simp
 ·have hx:=hg.2 x (mem_of_getElem? hi)
  simp only[zC,aj]
  rw[Ph hx.1 (by omega)]
  refine⟨by rw[length_set];exact hI.1,λs s0 s1=>?_⟩
  have tk:goal.take (i+1)=goal.take i++[x]:=by rw[take_add_one,hi]<;>rfl
  rw[Xo hI.1 hx.1 hx.2 s0,hI.2 s s0 s1,tk]
  by_cases q:s=x<;>simp[q]
 rw[take_length] at hd
 have base:Bf m.steps (· ∈ through) goal n d goal 0:=by
  have z:∀s:Int,0<=s->s<n->∀k,dg d s=some k->k=0/\s∈goal:=λs s0 s1 k h=>by
   rw[hd.2 s s0 s1] at h
   split at h
   ·rename_i q;cases h;exact⟨rfl,q⟩
   ·cases h
  refine⟨hd.1,hg.2,hg.1,λs s0 s1=>?_,λi s h=>?_,λi j s t k l _ h1 h2 h3 h4=>?_,λj s t k l h1 h2 h3 h4=>?_,λs s0 s1=>?_,λs k hs h1 h2=>absurd hs h2,λi s t k hi=>by omega⟩
  ·rw[hd.2 s s0 s1];by_cases q:s∈goal<;>simp[q]
  ·have hs:=mem_of_getElem? h
   have:=hg.2 s hs
   exact⟨0,by rw[hd.2 s this.1 this.2,if_pos hs],ad3 _,by omega⟩
  ·have a1:=hg.2 s (mem_of_getElem? h1)
   have a2:=hg.2 t (mem_of_getElem? h2)
   have:=(z s a1.1 a1.2 k h3).1
   have:=(z t a2.1 a2.2 l h4).1
   omega
  ·have a1:=hg.2 s (mem_of_getElem? h1)
   have a2:=hg.2 t (mem_of_getElem? h2)
   have:=(z s a1.1 a1.2 k h3).1
   have:=(z t a2.1 a2.2 l h4).1
   omega
  ·rw[hd.2 s s0 s1];by_cases q:s∈goal<;>simp[q]
 have Xp:n.toNat<=60:=by omega
 refine Bx (λs=>∃pl:Nat,s.2.2=(pl:Int)/\Bf m.steps (· ∈ through) goal n s.1 s.2.1 pl) (λs=>n.toNat-s.2.2.toNat) ⟨0,rfl,base⟩ (show n.toNat-(0:Int).toNat<fuel from aan (Nat.sub_le _ _) (aan Xp (by decide))) λs ⟨pl,hpl,B⟩=>?_
 rw[aj]
 have rl:s.2.1.length<=n.toNat:=xO B.nd λx hx=>by have:=B.rng x hx;omega
 by_cases lt:s.2.2<(s.2.1.length:Int)
 ·rw[decide_eq_true lt,if_pos rfl]
  simp only[zC,aj]
  rw[gO (by omega)]
  have pll:pl<s.2.1.length:=by omega
  have e1:s.2.2.toNat=pl:=by omega
  rw[e1]
  refine⟨_,aaf pll,?_⟩
  have hat:s.2.1[pl]?=some s.2.1[pl]:=aaf pll
  generalize s.2.1[pl]=t at hat
  have tr:=B.rng t (mem_of_getElem? hat)
  obtain⟨k,hk,k0,k1⟩:=B.idx pl t hat
  refine(zQ4 g tr.1 tr.2).imp λxs hxs=>?_
  refine wH (λi (r:List (Option Int)×LI)=>Bm m.steps (· ∈ through) goal n r.1 r.2 pl t k (xs.take i)) ⟨B,hat,hk,λs hs=>by cases hs⟩ (λi x r hi b=>?_) λr b=>?_
  ·have hx:=(hxs x).mp (mem_of_getElem? hi)
   have tk:xs.take (i+1)=xs.take i++[x]:=by rw[take_add_one,hi]<;>rfl
   rw[tk]
   simp only[zC,aj]
   rw[gO hx.1]
   have fx:=fl2 x hx.1 hx.2.1
   have fl3:x.toNat<fl.length:=by omega
   refine⟨_,aaf fl3,?_⟩
   rw[getD_eq_getElem?_getD,aaf fl3] at fx
   have fx:fl[x.toNat]=decide (x∈through):=fx
   rw[fx]
   have dl:x.toNat<r.1.length:=by have:=b.bf.len;omega
   have dx:dg r.1 x=r.1[x.toNat]:=by show r.1.getD x.toNat none=_;rw[getD_eq_getElem?_getD,aaf dl];rfl
   by_cases px:x∈through
   ·rw[decide_eq_true px,if_pos rfl,zC,gO hx.1]
    refine⟨_,aaf dl,?_⟩
    rw[<-dx,aj]
    cases hdx:dg r.1 x with
    |none =>
     simp only[Option.isNone_none,if_true,zC,aj]
     have tr':t.toNat<r.1.length:=by have:=b.bf.len;omega
     rw[gO tr.1]
     refine⟨_,aaf tr',?_⟩
     have ek:r.1[t.toNat]=some k:=by
      have:=b.k_
      have z:r.1.getD t.toNat none=some k:=this
      rw[getD_eq_getElem?_getD,aaf tr'] at z
      exact z
     rw[ek,aj,Ph hx.1 (by have:=b.bf.len;omega),Pg]
     have rl2:r.2.length<=n.toNat:=xO b.bf.nd λx hx=>by have:=b.bf.rng x hx;omega
     exact⟨yR (by omega),b.put hx.1 hx.2.1 px hdx hx.2.2⟩
    |some j =>
     simp only[Option.isNone_some,aao,if_false,aj]
     refine⟨b.bf,b.at_,b.k_,λs hs ps=>?_⟩
     rcases mem_append.mp hs with q|q
     ·exact b.qL s q ps
     ·rw[mem_singleton.mp q]
      have hin:x∈r.2:=(b.bf.iff x hx.1 hx.2.1).mp (by rw[hdx];rfl)
      obtain⟨ii,hii⟩:=mem_iff_getElem?.mp hin
      exact⟨j,hdx,b.bf.top ii t x k j b.at_ hii b.k_ hdx⟩
   ·rw[decide_eq_false px,if_neg (by decide),aj]
    simp only[aao,if_false,aj]
    refine⟨b.bf,b.at_,b.k_,λs hs ps=>?_⟩
    rcases mem_append.mp hs with q|q
    ·exact b.qL s q ps
    ·rw[mem_singleton.mp q] at ps;exact absurd ps px
  ·rw[take_length] at b
   refine⟨⟨pl+1,by show s.2.2+1=_;omega,?_⟩,?_⟩
   ·have B':=b.bf
    refine⟨B'.len,B'.rng,B'.nd,B'.iff,B'.idx,B'.mono,λj u v a l h1 h2 h3 h4=>?_,B'.zero,B'.via,λi u v a hi h1 h2 u0 u1 pu hu=>?_⟩
    ·have q1:=B'.mono pl (pl+1) t u k a (by omega) b.at_ h1 b.k_ h3
     have q2:=B'.top j t v k l b.at_ h2 b.k_ h4
     omega
    ·by_cases q:i=pl
     ·subst q
      rw[b.at_] at h1
      cases h1
      rw[b.k_] at h2
      cases h2
      exact b.qL u ((hxs u).mpr ⟨u0,u1,hu⟩) pu
     ·exact B'.done i u v a (by omega) h1 h2 u0 u1 pu hu
   ·show n.toNat-(s.2.2+1).toNat<n.toNat-pl
    omega
 ·rw[decide_eq_false lt,if_neg (by decide)]
  have all:∀t∈s.2.1,∃i,i<pl/\s.2.1[i]?=some t:=λt h=>by
   obtain⟨i,hi⟩:=mem_iff_getElem?.mp h
   exact⟨i,by have:=yC hi;omega,hi⟩
  refine⟨B.len,λu k u0 u1 h=>?_,B.zero,λu k u0 u1 h hu=>?_,λu t k u0 u1 t0 t1 hu ht hk=>?_⟩
  ·have hin:=(B.iff u u0 u1).mp (by rw[h];rfl)
   obtain⟨i,hi⟩:=mem_iff_getElem?.mp hin
   obtain⟨k',e1,e2,e3⟩:=B.idx i u hi
   rw[h] at e1
   cases e1
   have:=yC hi
   exact⟨e2,by omega⟩
  ·exact B.via u k ((B.iff u u0 u1).mp (by rw[h];rfl)) h hu
  ·obtain⟨i,h1,h2⟩:=all t ((B.iff t t0 t1).mp (by rw[hk];rfl))
   exact B.done i u t k h1 h2 hk u0 u1 hu ht
theorem zTx{xss:List LI}(hl:(xss.length:Int)=n)(h0:0<=s)(h1:s<n):xss[s.toNat]?=some (nxt xss s):=by
 have:s.toNat<xss.length:=by omega
 unfold nxt
 rw[getD_eq_getElem?_getD,aaf this]
 rfl
theorem zT1:∀{xs ys:LI},xs.Pairwise (· < ·)->ys.Pairwise (· < ·)->(∀s,s∈xs↔s∈ys)->xs=ys
 |[],[],_,_,_=>rfl
 |[],y::ys,_,_,h=>by have:=(h y).mpr mem_cons_self;cases this
 |x::xs,[],_,_,h=>by have:=(h x).mp mem_cons_self;cases this
 |x::xs,y::ys,h1,h2,h=>by
  have a1:=pairwise_cons.mp h1
  have a2:=pairwise_cons.mp h2
  have e:x=y:=by
   rcases mem_cons.mp ((h x).mp mem_cons_self) with q|q
   ·exact q
   ·rcases mem_cons.mp ((h y).mpr mem_cons_self) with r|r
    ·exact r.symm
    ·have:=a1.1 y r;have:=a2.1 x q;omega
  subst e
  rw[zT1 a1.2 a2.2 λs=>?_]
  constructor
  ·intro q
   rcases mem_cons.mp ((h s).mp (mem_cons_of_mem _ q)) with r|r
   ·have:=a1.1 s q;omega
   ·exact r
  ·intro q
   rcases mem_cons.mp ((h s).mpr (mem_cons_of_mem _ q)) with r|r
   ·have:=a2.1 s q;omega
   ·exact r
theorem Xq(n:Int):(rng n).Pairwise (· < ·):=by
 unfold rng
 rw[pairwise_map]
 exact List.pairwise_lt_range.imp λh=>by show(_:Int)<_;simpa using h
def pick(n:Int)(p:Int->Bool):LI:=(rng n).filter p
theorem cP:s∈pick n p↔0<=s/\s<n/\p s=true:=by
 unfold pick
 rw[mem_filter,iW,and_assoc]
theorem wQ(n:Int)(p:Int->Bool):bN n (pick n p):=⟨(Xq n).filter p,λx hx=>by have:=cP.mp hx;omega⟩
theorem Uc(h:bN n xs)(e:∀s,0<=s->s<n->(s∈xs↔p s=true)):xs=pick n p :=
 zT1 h.1 (wQ n p).1 λs=>by
  rw[cP]
  constructor
  ·intro q;have:=h.2 s q;exact⟨this.1,this.2,(e s this.1 this.2).mp q⟩
  ·intro⟨a,b,c⟩;exact(e s a b).mpr c
theorem zRx(p:Int->Bool)(h:n<=60):(pick n p).length<=60:=by
 unfold pick
 refine aar (length_filter_le _ _) ?_
 unfold rng
 rw[length_map,length_range]
 omega
theorem zSz{d:List (Option Int)}(hl:(d.length:Int)=n):tX d=(rng n).map λs=>(s,dg d s):=by
 refine ext_getElem? λi=>?_
 have e:n.toNat=d.length:=by omega
 by_cases q:i<d.length
 ·have h1:(rng n)[i]?=some (i:Int):=by unfold rng;rw[getElem?_map,getElem?_range (by omega)];rfl
  rw[getElem?_map,h1]
  unfold tX
  rw[List.getElem?_zip_eq_some (z:=((i:Int),dg d i))|>.mpr ⟨?_,?_⟩]
  ·rfl
  ·rw[getElem?_map,getElem?_range q];rfl
  ·show d[i]?=some (d.getD ((i:Int).toNat) none)
   rw[abe,getD_eq_getElem?_getD,aaf q];rfl
 ·rw[aa1 (by rw[ZL];omega),aa1 (by rw[length_map];unfold rng;rw[length_map,length_range];omega)]
theorem Dm:W (dput kvs k v) Q↔kvs.length<cap/\Q (pK kvs (aa4 k) v):=by
 unfold dput
 rw[iY]
 constructor
 ·intro⟨h1,h2⟩
  by_cases h:kvs.length<cap
  ·exact⟨h,aj.mp (h1 h)⟩
  ·exact absurd (h2 h) (by rw[Bv];exact id)
 ·intro⟨h,q⟩
  exact⟨λ_=>aj.mpr q,λz=>absurd h z⟩
theorem zTc:W (qZ kvs k v) Q↔kvs.length<cap/\Q (pK kvs (aay k) v):=by
 unfold qZ
 rw[iY]
 constructor
 ·intro⟨h1,h2⟩
  by_cases h:kvs.length<cap
  ·exact⟨h,aj.mp (h1 h)⟩
  ·exact absurd (h2 h) (by rw[Bv];exact id)
 ·intro⟨h,q⟩
  exact⟨λ_=>aj.mpr q,λz=>absurd h z⟩
def qt(n:Int)(xs:LI):Prop:=xs.Nodup/\xs.length<=100/\∀z∈xs,0<=z/\z<n
theorem zM3(h:0<=z/\z<n):uJ z n=some true:=by
 unfold uJ
 rw[if_pos rfl,if_pos (show(!false)=true from rfl),decide_eq_true h.1,if_pos rfl,decide_eq_true h.2]
theorem Xr(h:qt n xs)(x:Str):W (yO xs n x) λ_=>True:=by
 unfold yO
 rw[zC,aj,zC,zC,aj]
 refine wH (λi s=>s.length<=i/\∀z,(gP s z).isSome=true->z∈xs.take i) ⟨aa0 _,λz hz=>by cases hz⟩ (λi y s hi hI=>?_) λs _=>aj.mpr trivial
 have il:=yC hi
 rw[zM3 (h.2.2 y (mem_of_getElem? hi)),zC,zC,zC,aj,aj,abx,if_neg (by decide),aj,zC]
 have hn:(gP s y).isSome=false:=by
  cases q:(gP s y).isSome with
  |false=>rfl
  |true=>exact absurd (hI.2 y q) (ZR h.1 hi)
 have hn':(gP (Dc.mk s).kv y).isSome=false:=hn
 rw[hn',if_neg (by decide),aj,zC,Dm]
 have l1:=h.2.1
 refine⟨yR (by omega),?_⟩
 rw[aj]
 have l2:=zTv s (aa4 y) true
 refine⟨by omega,λz hz=>?_⟩
 rw[vC hi]
 have e:gP (pK s (aa4 y) true) z=if(aa4 z:Key)=aa4 y then some true else gP s z:=zT9 s (aa4 y) (aa4 z) true
 rw[e] at hz
 by_cases q:(aa4 z:Key)=aa4 y
 ·exact .inr (ae6 q)
 ·rw[if_neg q] at hz
  exact .inl (hI.2 z hz)
theorem GX(a:Str){i:Nat}(h:i<1000):W (Jp a (i:Int)) λ_=>True:=by
 unfold Jp
 rw[if_pos (zOz (by omega)),aj]
 trivial
theorem zLk{xss:List LI}(hl:(xss.length:Int)=n)(h0:1<=n)(h1:n<=60)(h:∀xs∈xss,xs≠[]/\qt n xs):W (wA xss) λ_=>True:=by
 unfold wA
 rw[zC,aj,zC,zC,hl,decide_eq_false (by omega),if_neg (by decide),aj,decide_eq_false (by omega),if_neg (by decide),aj,zC,zC,aj]
 refine wH (λ_ _=>True) trivial (λi y s hi _=>?_) λs _=>aj.mpr trivial
 obtain⟨e1,e2⟩:=VL hi
 have il:=yC e2
 obtain⟨ne,ok⟩:=h y.2 (mem_of_getElem? e2)
 rw[e1]
 simp only[zC]
 refine(GX "steps of stand " (i:=i) (by omega)).imp λt _=>?_
 rw[aj,aj,aj]
 refine(Xr ok t).imp λ_ _=>?_
 rw[decide_eq_false (λz=>ne (length_eq_zero_iff.mp (by omega))),if_neg (by decide),aj,aj]
 trivial
theorem zM5{xss:List LI}(hl:xss.length<=100)(h:∀xs∈xss,qt n xs):W (wT xss n) λ_=>True:=by
 unfold wT
 rw[zC,zC,aj]
 refine wH (λ_ _=>True) trivial (λi y s hi _=>?_) λs _=>aj.mpr trivial
 obtain⟨e1,e2⟩:=VL hi
 have il:=yC e2
 rw[e1]
 simp only[zC]
 refine(GX "fair set " (i:=i) (by omega)).imp λt _=>?_
 rw[aj,aj,aj]
 refine(Xr (h y.2 (mem_of_getElem? e2)) t).imp λ_ _=>?_
 rw[aj]
 trivial
def Xu(n:Int)(ms:List (Str×LI)):Prop:=(ms.map (·.1)).Nodup/\ms.length<=100/\∀m∈ms,wS m.1=some true/\m.1.length<=1000/\qt n m.2
theorem zLl(h:Xu n ms):W (wB ms n) λ_=>True:=by
 unfold wB
 rw[zC,aj,zC,zC,aj]
 refine wH (λi s=>s.length<=i/\∀z,(xC s z).isSome=true->z∈(ms.map (·.1)).take i) ⟨aa0 _,λz hz=>by cases hz⟩ (λi y s hi hI=>?_) λs _=>aj.mpr trivial
 have il:=yC hi
 have hi':(ms.map (·.1))[i]?=some y.1:=by rw[getElem?_map,hi];rfl
 obtain⟨nm,ln,ok⟩:=h.2.2 y (mem_of_getElem? hi)
 have nin:y.1∉(ms.map (·.1)).take i:=λhz=>by
  obtain⟨j,hj⟩:=mem_iff_getElem?.mp hz
  have hji:j<i:=by
   have:=yC hj
   rw[length_take] at this
   omega
  rw[getElem?_take_of_lt hji] at hj
  have a1:=yC hi'
  have a2:=yC hj
  rw[aaf a1] at hi'
  rw[aaf a2] at hj
  have e:(ms.map (·.1))[j]=(ms.map (·.1))[i]:=(aai hj).trans (aai hi').symm
  have:=(getElem_inj h.1).mp e
  omega
 rw[nm,zC,zC,zC,aj,aj,abx,if_neg (by decide),aj,zC]
 have hn:(xC (Dc.mk s).kv y.1).isSome=false:=by
  cases q:(xC s y.1).isSome with
  |false=>rfl
  |true=>exact absurd (hI.2 y.1 q) nin
 rw[hn,if_neg (by decide),aj,zC,zTc]
 have l1:=h.2.1
 refine⟨yR (by omega),?_⟩
 simp only[zC]
 have fs:W (Ly "mark " y.1) λ_=>True:=by
  unfold Ly
  rw[if_pos ln,aj]
  trivial
 refine fs.imp λt _=>?_
 rw[aj,aj,aj]
 refine(Xr ok t).imp λ_ _=>?_
 rw[aj]
 have l2:=zTv s (aay y.1) true
 refine⟨by omega,λz hz=>?_⟩
 rw[vC hi']
 have e:xC (pK s (aay y.1) true) z=if(aay z:Key)=aay y.1 then some true else xC s z:=zT9 s (aay y.1) (aay z) true
 rw[e] at hz
 by_cases q:(aay z:Key)=aay y.1
 ·exact .inr (aej q)
 ·rw[if_neg q] at hz
  exact .inl (hI.2 z hz)
theorem zJy{xss:List LI}(h:xss.length<=100):Ml xss=some xss:=by
 have q:W (Ml xss) (· = xss):=by
  unfold Ml
  rw[zC,aj,Ls (λx=>x),map_id']
  exact⟨yR (by omega),rfl⟩
 obtain⟨a,e,rfl⟩:=q
 exact e
theorem QZ(C:Addr){xss:List LI}{mo:Option zf}{fo:Option LLI}(hl:(xss.length:Int)=n)(h0:1<=n)(h1:n<=60)(h:∀xs∈xss,xs≠[]/\qt n xs)(hm:Xu n (mo.getD []))(hf:(fo.getD []).length<=100/\∀xs∈fo.getD [],qt n xs) :
  W (QD C xss mo fo) λm=>Gr m n/\m.steps=xss/\m.marks=mo.getD []/\m.fair=fo.getD []:=by
 unfold QD Tc
 rw[zC]
 refine(zLk hl h0 h1 h).imp λ_ _=>?_
 rw[zC,hl]
 refine(zLl hm).imp λ_ _=>?_
 rw[zC]
 refine(zM5 hf.1 hf.2).imp λ_ _=>?_
 have m1:=hm.2.1
 rw[zJy (by omega),zC,aj,zC,Ls (λx:Str×LI=>(x.1,x.2))]
 refine⟨yR (by omega),?_⟩
 have e:(mo.getD []).map (λx:Str×LI=>(x.1,x.2))=mo.getD []:=map_id' _
 rw[zJy hf.1,zC,aj,zC]
 have hv:Mj xss=some (srcs xss):=by
  unfold Mj
  rw[if_pos ⟨by omega,rfl,λxs hx=>by obtain⟨a,b,c,d⟩:=h xs hx;exact⟨a,b,c,λz hz=>by have:=d z hz;omega⟩⟩]
 rw[hv,aj,aj,e]
 exact⟨⟨hl,h0,h1,λxs hx=>by obtain⟨a,b,c,d⟩:=h xs hx;exact⟨a,b,d⟩,rfl⟩,rfl,rfl,rfl⟩
theorem zRr(h:bN n xs)(GP:n<=60):qt n xs:=⟨h.nodup,by
 by_cases hn:0<=n
 ·have:=xO (n:=n.toNat) h.nodup λx hx=>by have:=h.2 x hx;omega
  omega
 ·cases xs with
  |nil=>exact aa0 _
  |cons x xs=>have:=h.2 x mem_cons_self;omega,h.2⟩
theorem Xv(hx:0<=x)(hy:0<=y):aaw x y=((x.toNat&&&y.toNat:Nat):Int):=by
 unfold aaw
 rw[decide_eq_true hx,decide_eq_true hy]
theorem zK7(hx:0<=x)(hy:0<=y):acr x y=((x.toNat|||y.toNat:Nat):Int):=by
 have h1:¬0<=acg x:=by unfold acg;omega
 have h2:¬0<=acg y:=by unfold acg;omega
 have nn:∀z:Int,acg (acg z)=z:=λz=>by unfold acg;omega
 unfold acr aaw
 rw[decide_eq_false h1,decide_eq_false h2]
 dsimp only
 rw[nn,nn,nn]
def bt(x t:Int):Bool:=x.toNat.testBit t.toNat
theorem GZ(hx:0<=x)(hy:0<=y)(t:Int):bt (acr x y) t=(bt x t||bt y t):=by
 unfold bt
 rw[zK7 hx hy,abe,Nat.testBit_or]
theorem zUi(hx:0<=x)(hy:0<=y)(t:Int):bt (aaw x y) t=(bt x t&&bt y t):=by
 unfold bt
 rw[Xv hx hy,abe,Nat.testBit_and]
theorem G3(hx:0<=x)(hy:0<=y):0<=acr x y:=by rw[zK7 hx hy];exact acj _
theorem zUm(hx:0<=x)(hy:0<=y):0<=aaw x y:=by rw[Xv hx hy];exact acj _
theorem Dn(t:Int):bt 0 t=false:=by unfold bt;simp
theorem Ko(ht:0<=t)(hu:0<=u):bt (1*2^t.toNat) u=decide (u=t):=by
 unfold bt
 rw[Int.one_mul,show((2:Int)^t.toNat).toNat=2^t.toNat by
  rw[show((2:Int)^t.toNat)=((2^t.toNat:Nat):Int) by simp]
  exact abe _,Nat.testBit_two_pow]
 rw[abu,decide_eq_true_iff,decide_eq_true_iff]
 omega
theorem Xw{x:Int}(hx:0<=x)(k:Nat):0<=x/2^k:=Int.ediv_nonneg hx (Int.le_of_lt (Int.pow_pos (by decide)))
theorem Dp{x:Int}(hx:0<=x)(k:Nat):(x/2^k).toNat=x.toNat>>>k:=by
 obtain⟨m,rfl⟩:=Int.eq_ofNat_of_zero_le hx
 rw[Nat.shiftRight_eq_div_pow,abe]
 have:((m:Int)/2^k)=((m/2^k:Nat):Int):=by simp
 rw[this,abe]
theorem Xx{t:Int}(hx:0<=x):bt (x/2^t.toNat) 0=bt x t:=by
 unfold bt
 rw[Dp hx,Int.toNat_zero,Nat.testBit_shiftRight]
 rfl
theorem zUg(hx:0<=x):(aaw x 1 != 0)=bt x 0:=by
 rw[Xv hx (by decide)]
 unfold bt
 rw[Nat.testBit]
 simp only[Int.toNat_zero,Nat.shiftRight_zero,show(1:Int).toNat=1 from rfl]
 rw[Nat.and_comm]
 rw[abu]
 simp only[bne_iff_ne,ne_eq]
 omega
theorem zTf(h:∀x∈xs,0<=x/\x<n)(GP:n<=60):W (uK xs) λb=>0<=b/\∀t:Int,0<=t->bt b t=decide (t∈xs):=by
 unfold uK
 rw[zC,aj,zC,zC,aj]
 refine wH (λi s=>0<=s/\∀t:Int,0<=t->bt s t=decide (t∈xs.take i)) ⟨by decide,λt _=>by rw[Dn];simp⟩ (λi x s hi hI=>?_) λs hI=>?_
 ·obtain⟨h0,hb⟩:=hI
  have xb:=h x (mem_of_getElem? hi)
  have e:q9 1 x=some (1*2^x.toNat):=by unfold q9;rw[if_pos ⟨xb.1,by omega,by decide⟩]
  have tk:xs.take (i+1)=xs.take i++[x]:=by rw[take_add_one,hi]<;>rfl
  have p0:(0:Int)<=1*2^x.toNat:=by rw[Int.one_mul];exact Int.le_of_lt (Int.pow_pos (by decide))
  rw[zC,zC,e,aj,aj,aj]
  refine⟨G3 h0 p0,λt ht=>?_⟩
  rw[GZ h0 p0,hb t ht,Ko xb.1 ht,tk,abu]
  simp
 ·rw[aj]
  rw[take_length] at hI
  exact hI
def rb(rows:LI)(s t:Int):Bool:=bt (rows.getD s.toNat 0) t
theorem Q_{rows:LI}(hl:(rows.length:Int)=n)(h0:0<=s)(h1:s<n):L2.cQ rows s=some (rows.getD s.toNat 0):=by
 rw[Z6 h0,getD_eq_getElem?_getD,aaf (by omega)]
 rfl
def G4(rows:LI):Prop:=∀i:Nat,0<=rows.getD i 0
theorem zK6{rows:LI}{n s t:Int}(hl:(rows.length:Int)=n)(nn:G4 rows)(h0:0<=s)(h1:s<n)(t0:0<=t) :
  ((((L2.cQ rows s).bind λa=>iB a t).bind λa=>some (aaw a 1)).bind λa=>some (a != 0))=some (rb rows s t):=by
 rw[Q_ hl h0 h1]
 show(((iB _ t).bind _).bind _)=_
 unfold iB
 rw[if_pos t0]
 show some (aaw (rows.getD s.toNat 0/2^t.toNat) 1 != 0)=_
 rw[zUg (Xw (nn _) _),Xx (nn _)]
 rfl
theorem zQ6{rows:LI}{n s t:Int}(hl:(rows.length:Int)=n)(nn:G4 rows)(h0:0<=s)(h1:s<n)(t0:0<=t)(t1:t<n) :
  (((((L2.cQ rows s).bind λa=>iB a t).bind λa=>((L2.cQ rows t).bind λb=>iB b s).bind λb=>some (aaw a b)).bind λa=>some (aaw a 1)).bind λa=>some (a != 0))=some (rb rows s t&&rb rows t s):=by
 rw[Q_ hl h0 h1,Q_ hl t0 t1]
 show((((iB _ t).bind λa=>(iB _ s).bind _).bind _).bind _)=_
 unfold iB
 rw[if_pos t0,if_pos h0]
 show some (aaw (aaw (rows.getD s.toNat 0/2^t.toNat) (rows.getD t.toNat 0/2^s.toNat)) 1 != 0)=_
 have a1:=Xw (nn s.toNat) t.toNat
 have a2:=Xw (nn t.toNat) s.toNat
 rw[zUg (zUm a1 a2),zUi a1 a2,Xx (nn _),Xx (nn _)]
 rfl
theorem zTo{rows:LI}(hl:(rows.length:Int)=n)(x0:0<=x)(x1:x<n)(s0:0<=s):rb (rows.set x.toNat v) s t=if s=x then bt v t else rb rows s t:=by
 unfold rb
 rw[QX (by omega)]
 by_cases e:s=x
 ·subst e;rw[if_pos rfl,if_pos rfl]
 ·rw[if_neg (by omega),if_neg e]
theorem zTy{rows:LI}(hl:(rows.length:Int)=n)(x0:0<=x)(x1:x<n)(nn:G4 rows)(hv:0<=v):G4 (rows.set x.toNat v):=λi=>by
 rw[QX (by omega)]
 split
 ·exact hv
 ·exact nn i
inductive iK(xss:List LI)(U:LI):Int->Int->Prop
 |one {s t:Int}:t∈nxt xss s->t∈U->iK xss U s t
 |step {s u t:Int}:u∈nxt xss s->u∈U->iK xss U u t->iK xss U s t
theorem iK.trans(h:iK xss U s t)(k:iK xss U t u):iK xss U s u:=by
 induction h with
 |one a b=>exact .step a b k
 |step a b _ ih=>exact .step a b (ih k)
theorem iK.mem(h:iK xss U s t):t∈U:=by
 induction h with
 |one _ b=>exact b
 |step _ _ _ ih=>exact ih
theorem iK.mono{xss:List LI}{U V:LI}{s t:Int}(h:iK xss U s t)(k:∀x∈U,x∈V):iK xss V s t:=by
 induction h with
 |one a b=>exact .one a (k _ b)
 |step a b _ ih=>exact .step a (k _ b) ih
structure lQ(xss:List LI)(U rows:LI):Prop where
 nn:G4 rows
 edge:∀s∈U,∀t∈U,t∈nxt xss s->rb rows s t=true
 sound:∀s∈U,∀t:Int,0<=t->rb rows s t=true->iK xss U s t
 trans:∀s∈U,∀u∈U,∀t:Int,0<=t->rb rows s u=true->rb rows u t=true->rb rows s t=true
theorem zK3{α β:Type}{c:α->Option Bool}{f:α->Option β}{p:α->Bool}{g:α->β}:∀{xs:List α},(∀x∈xs,c x=some (p x))->(∀x∈xs,f x=some (g x))->xM c f xs=some ((xs.filter p).map g)
 |[],_,_=>rfl
 |x::xs,hc,hf=>by
  have ih:=zK3 (xs:=xs) (λy hy=>hc y (mem_cons_of_mem _ hy)) λy hy=>hf y (mem_cons_of_mem _ hy)
  show((c x).bind λb=>if b=true then(f x).bind λy=>(xM c f xs).bind λys=>some (y::ys) else xM c f xs)=_
  rw[hc x mem_cons_self,bnd,hf x mem_cons_self,ih,filter_cons]
  cases p x with
  |true=>rw[if_pos rfl,if_pos rfl];rfl
  |false=>rw[if_neg (by decide),if_neg (by decide)]
theorem Mv{α β:Type}{c:α->Option Bool}{f:α->Option β}{p:α->Bool}{g:α->β}{xs:List α}(hl:xs.length<cap)(hc:∀x∈xs,c x=some (p x))(hf:∀x∈xs,f x=some (g x)):wD c f xs=some ((xs.filter p).map g):=by
 unfold wD
 rw[if_pos hl]
 exact zK3 hc hf
theorem zTn{C:Addr}{m:aG C}(g:Gr m n)(h0:0<=s)(h1:s<n):nxt m.steps s∈m.steps:=mem_of_getElem? (zTx g.len h0 h1)
theorem zQy{C:Addr}{m:aG C}(g:Gr m n)(h0:0<=s)(h1:s<n):W (yT m s) λxs=>xs.length<=60/\∀x,x∈xs↔x∈nxt m.steps s:=by
 unfold yT
 have f:=g.few
 obtain⟨_,nd,rg⟩:=g.row _ (zTn g h0 h1)
 have l:=xO (n:=n.toNat) nd λx hx=>by have:=rg x hx;omega
 rw[zC,gO h0]
 refine⟨_,zTx g.len h0 h1,?_⟩
 unfold BK
 rw[if_pos (by omega),aj]
 refine⟨by rw[(wL _).length_eq];omega,λx=>(wL _).mem_iff⟩
def dl(xs:LI):List (Key×Bool):=xs.map λx=>((aa4 x:Key),true)
theorem Xy:∀(xs:LI)(x:Int),(gP (dl xs) x).isSome=decide (x∈xs)
 |[],x=>by simp[dl,gP,gK]
 |y::xs,x=>by
  have ih:=Xy xs x
  unfold gP gK dl at ih ⊢
  rw[map_cons,find?_cons]
  by_cases e:y=x
  ·subst e;simp
  ·rw[decide_eq_false (show¬((aa4 y:Key),true).1=(aa4 x:Key) fromλz=>e (ae6 z))]
   rw[ih,abu,decide_eq_true_eq,decide_eq_true_eq,mem_cons]
   exact⟨.inr,λh=>h.resolve_left λz=>e z.symm⟩
theorem Kq(h:x∉xs):pK (dl xs) (aa4 x) true=dl (xs++[x]):=by
 unfold pK
 have:((dl xs).any λkv=>decide (kv.1=(aa4 x:Key)))=false:=by
  rw[zPj]
  have:=Xy xs x
  rw[decide_eq_false h] at this
  exact this
 rw[if_neg (by rw[this];decide)]
 unfold dl
 rw[map_append]
 rfl
theorem Kr(xs:LI):(dl xs).length=xs.length:=length_map ..
theorem Ks:W (dput kvs k v) Q↔kvs.length<cap/\Q (pK kvs (aa4 k) v):=by
 unfold dput
 split
 ·rename_i h;rw[aj];exact⟨λq=>⟨h,q⟩,λq=>q.2⟩
 ·rename_i h;rw[Bv];exact⟨abb,λq=>h q.1⟩
section
variable{S α β:Type}
theorem zQp{step:S->α->Option (Out S β)}{Q:Out S β->Prop}(I:Nat->S->Prop)(h0:I 0 s)(hs:∀i x s,xs[i]?=some x->I i s->W (step s x) λo=>(∃s',o=.nx s'/\I (i+1) s')\/∃b,o=.rt b/\Q (.rt b))(hd:∀s,I xs.length s->Q (.nx s)):W (vD step xs s) Q:=by
 have key:∀(ys:List α)(i:Nat)(s:S),(∀j x,ys[j]?=some x->xs[i+j]?=some x)->i+ys.length=xs.length->I i s->W (vD step ys s) Q:=by
  intro ys
  induction ys with
  |nil=>intro i s _ hl h;exact⟨.nx s,rfl,hd s ((show i=xs.length from hl)▸h)⟩
  |cons y ys ih =>
   intro i s hy hl h
   rw[Z7,zC]
   refine(hs i y s (hy 0 y rfl) h).imp ?_
   rintro o (⟨s',rfl,h'⟩|⟨b,rfl,h'⟩)
   ·refine ih (i+1) s' (λj x hx=>?_) (by rw[length_cons] at hl;omega) h'
    have:=hy (j+1) x (by simpa using hx)
    rw[show i+1+j=i+(j+1) by omega]
    exact this
   ·exact⟨.rt b,rfl,h'⟩
 exact key xs 0 s (λj x h=>by rw[ab9];exact h) (ab9 _) h0
end
theorem Ud{α:Type}{xs:List α}{x:α}(h:xs[i]?=some x):xs.take (i+1)=xs.take i++[x]:=by rw[take_add_one,h]<;>rfl
theorem vZ{xs:LI}{i:Nat}{x s:Int}(h:xs[i]?=some x):s∈xs.take (i+1)↔s∈xs.take i\/s=x:=by rw[Ud h,mem_append,mem_singleton]
theorem Ku{C:Addr}{m:aG C}(g:Gr m n)(h0:0<=s)(h1:s<n):∀x∈nxt m.steps s,0<=x/\x<n:=(g.row _ (zTn g h0 h1)).2.2
theorem zQx{C:Addr}{m:aG C}(g:Gr m n)(hU:∀x∈U,0<=x/\x<n):W (xZ m U) λrows=>(rows.length:Int)=n/\lQ m.steps U rows:=by
 unfold xZ
 have few:=g.few
 have pos:=g.pos
 rw[zC]
 refine(zTf hU few).imp λinside ⟨i0,ib⟩=>?_
 rw[zC,zC,zC,Ub g,aj,uV]
 refine⟨⟨by omega,by omega⟩,?_⟩
 have rl:=vI (n:=n) (by omega)
 rw[Ls (λ_=>(0:Int))]
 refine⟨yR (by omega),?_⟩
 rw[zC,zC,aj]
 refine wH (λi rows=>(rows.length:Int)=n/\G4 rows/\∀s∈U.take i,∀t:Int,0<=t->rb rows s t=decide (t∈nxt m.steps s/\t∈U)) ⟨by rw[length_map];exact rl,λi=>?_,λs hs=>by simp at hs⟩ (λi x rows hi hI=>?_) λrows hI=>?_
 ·rw[getD_eq_getElem?_getD,getElem?_map]
  cases(rng n)[i]?<;>exact ad3 0
 ·obtain⟨hl,nn,hb⟩:=hI
  have xb:=hU x (mem_of_getElem? hi)
  rw[zC,zC,zC,zC,zC]
  refine(zQy g xb.1 xb.2).imp λns ⟨_,hns⟩=>?_
  rw[aj]
  refine(zTf (xs:=ns) (λy hy=>Ku g xb.1 xb.2 y ((hns y).mp hy)) few).imp λb ⟨b0,bb⟩=>?_
  rw[aj,Ph xb.1 (by omega),aj]
  refine⟨by rw[length_set];exact hl,zTy hl xb.1 xb.2 nn (zUm b0 i0),λs hs t ht=>?_⟩
  rw[vZ hi] at hs
  have s0:0<=s:=hs.elim (λh=>(hU s (List.mem_of_mem_take h)).1) λh=>h▸xb.1
  rw[zTo hl xb.1 xb.2 s0]
  by_cases e:s=x
  ·subst e
   rw[if_pos rfl,zUi b0 i0,bb t ht,ib t ht,abu]
   simp[hns]
  ·rw[if_neg e]
   exact hb s (hs.resolve_right e) t ht
 ·obtain⟨hl,nn,hb⟩:=hI
  rw[take_length] at hb
  rw[zC,zC,aj]
  refine wH (λi rows=>(rows.length:Int)=n/\G4 rows/\(∀s∈U,∀t∈U,t∈nxt m.steps s->rb rows s t=true)/\(∀s∈U,∀t:Int,0<=t->rb rows s t=true->iK m.steps U s t)/\∀u∈U.take i,∀s∈U,∀t:Int,0<=t->rb rows s u=true->rb rows u t=true->rb rows s t=true)
   ⟨hl,nn,λs hs t ht h=>by rw[hb s hs t (hU t ht).1];exact decide_eq_true ⟨h,ht⟩,λs hs t ht h=>by
    rw[hb s hs t ht] at h
    have:=of_decide_eq_true h
    exact .one this.1 this.2,λu hu=>by simp at hu⟩ (λi u R0 hi hI=>?_) λrows hI=>?_
  ·obtain⟨hl0,nn0,ed0,Xz,tr0⟩:=hI
   have um:=mem_of_getElem? hi
   have ub:=hU u um
   rw[zC,zC,aj]
   refine wH (λj rows=>(rows.length:Int)=n/\G4 rows/\∀s∈U,∀t:Int,0<=t->rb rows s t=(rb R0 s t||(decide (s∈U.take j)&&(rb R0 s u&&rb R0 u t)))) ⟨hl0,nn0,λs _ t _=>by simp⟩ (λj x rows hj hJ=>?_) λrows hJ=>?_
   ·obtain⟨hl1,wj,hb1⟩:=hJ
    have xm:=mem_of_getElem? hj
    have xb:=hU x xm
    have ex:rb rows x u=rb R0 x u:=by
     rw[hb1 x xm u ub.1]
     cases rb R0 x u<;>simp
    have eu:∀t:Int,0<=t->rb rows u t=rb R0 u t:=λt ht=>by
     rw[hb1 u um t ht]
     cases rb R0 u t<;>simp
    rw[zK6 hl1 wj xb.1 xb.2 ub.1,zC,zC,aj,ex]
    by_cases c:rb R0 x u=true
    ·rw[c,if_pos rfl,zC,zC,Q_ hl1 ub.1 ub.2,aj]
     unfold Ca
     rw[if_pos xb.1,Q_ hl1 xb.1 xb.2]
     show W (qW rows x _) _
     rw[Ph xb.1 (by omega),aj,aj]
     refine⟨by rw[length_set];exact hl1,zTy hl1 xb.1 xb.2 wj (G3 (wj _) (wj _)),λs hs t ht=>?_⟩
     rw[zTo hl1 xb.1 xb.2 (hU s hs).1]
     by_cases e:s=x
     ·subst e
      rw[if_pos rfl,GZ (wj _) (wj _)]
      show(rb rows s t||rb rows u t)=_
      rw[hb1 s hs t ht,eu t ht,c,decide_eq_true ((vZ hj).mpr (.inr rfl))]
      cases rb R0 s t<;>cases rb R0 u t<;>simp
     ·rw[if_neg e,hb1 s hs t ht]
      have:decide (s∈U.take (j+1))=decide (s∈U.take j):=by
       rw[abu,decide_eq_true_iff,decide_eq_true_iff,vZ hj]
       exact⟨λh=>h.resolve_right e,.inl⟩
      rw[this]
    ·have c:rb R0 x u=false:=by simpa using c
     rw[c,if_neg (by decide),aj,aj]
     refine⟨hl1,wj,λs hs t ht=>?_⟩
     rw[hb1 s hs t ht]
     by_cases e:s=x
     ·subst e
      rw[c]
      simp
     ·have:decide (s∈U.take (j+1))=decide (s∈U.take j):=by
       rw[abu,decide_eq_true_iff,decide_eq_true_iff,vZ hj]
       exact⟨λh=>h.resolve_right e,.inl⟩
      rw[this]
   ·obtain⟨hl1,wj,hb1⟩:=hJ
    rw[take_length] at hb1
    have nw:∀s∈U,∀t:Int,0<=t->(rb rows s t=true↔rb R0 s t=true\/(rb R0 s u=true/\rb R0 u t=true)):=λs hs t ht=>by
     rw[hb1 s hs t ht,decide_eq_true hs]
     simp
    rw[aj]
    refine⟨hl1,wj,λs hs t ht h=>(nw s hs t (hU t ht).1).mpr (.inl (ed0 s hs t ht h)),λs hs t ht h=>?_,λv hv s hs t ht h1 h2=>?_⟩
    ·rcases(nw s hs t ht).mp h with h|⟨h,k⟩
     ·exact Xz s hs t ht h
     ·exact(Xz s hs u ub.1 h).trans (Xz u um t ht k)
    ·rw[vZ hi] at hv
     refine(nw s hs t ht).mpr ?_
     rcases hv with hv|rfl
     ·have vU:=List.mem_of_mem_take hv
      have v0:=(hU v vU).1
      have T:=tr0 v hv
      rcases(nw s hs v v0).mp h1 with a|⟨a,b⟩<;>rcases(nw v vU t ht).mp h2 with c|⟨c,d⟩
      ·exact .inl (T s hs t ht a c)
      ·exact .inr ⟨T s hs u ub.1 a c,d⟩
      ·exact .inr ⟨a,T u um t ht b c⟩
      ·exact .inr ⟨a,d⟩
     ·have a:rb R0 s v=true:=((nw s hs v ub.1).mp h1).elim id And.left
      have b:rb R0 v t=true:=((nw v um t ht).mp h2).elim id And.right
      exact .inr ⟨a,b⟩
  ·obtain⟨hl1,wj,ed,so,tr⟩:=hI
   rw[take_length] at tr
   rw[aj]
   exact⟨hl1,wj,ed,so,λs hs u hu t ht=>tr u hu s hs t ht⟩
def ring(rows U:LI)(s:Int):LI:=U.filter λt=>rb rows s t&&rb rows t s
theorem aM:t∈ring rows U s↔t∈U/\rb rows s t=true/\rb rows t s=true:=by
 unfold ring
 rw[mem_filter,aah]
structure qu(xss:List LI)(U G:LI):Prop where
 sub:∀s∈G,s∈U
 nd:G.Nodup
 go:∀s∈G,∀t∈G,iK xss G s t
theorem lQ.full(R:lQ xss U rows)(h0:∀x∈U,0<=x)(h:iK xss U s t):s∈U->rb rows s t=true:=by
 induction h with
 |one a b=>exactλhs=>R.edge _ hs _ b a
 |step a b p ih=>exactλhs=>R.trans _ hs _ b _ (h0 _ p.mem) (R.edge _ hs _ b a) (ih b)
theorem zN0(R:lQ xss U rows)(h0:∀x∈U,0<=x)(nd:U.Nodup)(ho:o∈U):qu xss U (ring rows U o):=by
 have key:∀{s t:Int},iK xss U s t->s∈ring rows U o->t∈ring rows U o->iK xss (ring rows U o) s t:=by
  intro s t h
  induction h with
  |one a b=>exactλ_ ht=>.one a ht
  |@step s u t a b p ih =>
   intro hs ht
   obtain⟨sU,s1,s2⟩:=aM.mp hs
   obtain⟨tU,t1,t2⟩:=aM.mp ht
   have u1:rb rows o u=true:=R.trans o ho s sU u (h0 u b) s1 (R.edge s sU u b a)
   have u2:rb rows u o=true:=R.trans u b t tU o (h0 o ho) (R.full h0 p b) t2
   have hu:=aM.mpr ⟨b,u1,u2⟩
   exact .step a hu (ih hu ht)
 refine⟨λs hs=>(aM.mp hs).1,nd.filter _,λs hs t ht=>?_⟩
 obtain⟨sU,s1,s2⟩:=aM.mp hs
 obtain⟨tU,t1,t2⟩:=aM.mp ht
 exact key (R.sound s sU t (h0 t tU) (R.trans s sU o ho t (h0 t tU) s2 t1)) hs ht
structure Dq(rows U:LI)(told:List LI):Prop where
 are:∀G∈told,∃s∈U,rb rows s s=true/\G=ring rows U s
 nd:told.flatten.Nodup
 all:∀s∈U,rb rows s s=true->s∈told.flatten
theorem zM0(h:∀x∈xs,0<=x/\x<n)(hl:xs.length<64):LQ xs=some (xX xs)/\bN n (xX xs):=by
 unfold LQ
 rw[if_pos hl]
 exact⟨rfl,vW xs,λx hx=>h x (bh.mp hx)⟩
theorem Dr{C:Addr}{m:aG C}(g:Gr m n)(hx:∀x∈xs,0<=x/\x<n)(hl:xs.length<64):W (QJ m xs) λtold=>∃rows,lQ m.steps (xX xs) rows/\Dq rows (xX xs) told:=by
 obtain⟨e,hR⟩:=zM0 hx hl
 have few:=g.few
 have pos:=g.pos
 unfold QJ
 rw[e,zC,aj,zC]
 generalize xX xs=U at hR ⊢
 have h0:∀x∈U,0<=x:=λx hx=>(hR.2 x hx).1
 have Ul:U.length<=n.toNat:=xO hR.nodup λx hx=>by have:=hR.2 x hx;omega
 refine(zQx g hR.2).imp λrows ⟨rl,R⟩=>?_
 rw[zC,aj,zC,aj,zC,zC,aj]
 refine wH (λi z=>∃told:List LI,z=(told,dl told.flatten)/\(∀G∈told,∃s∈U,rb rows s s=true/\G=ring rows U s)/\told.flatten.Nodup/\(∀s∈U.take i,rb rows s s=true->s∈told.flatten)/\told.length<=i) ⟨[],rfl,λG hG=>(by cases hG),by simp,λs hs=>(by simp at hs),aag _⟩ (λi x z hi hI=>?_) λz hI=>?_
 ·obtain⟨told,rfl,are,nd,all,tl⟩:=hI
  have xm:=mem_of_getElem? hi
  have xb:=hR.2 x xm
  have sub:∀t∈told.flatten,t∈U:=λt ht=>by
   obtain⟨G,hG,tG⟩:=mem_flatten.mp ht
   obtain⟨s,_,_,rfl⟩:=are G hG
   exact(aM.mp tG).1
  have il:i<U.length:=(aaj.mp hi).1
  rw[zC,zC]
  show W (if(!(gP (dl told.flatten) x).isSome)=true then _ else _) _
  rw[Xy]
  by_cases xf:x∈told.flatten
  ·rw[decide_eq_true xf,abx,if_neg (by decide),aj,if_neg (by decide),aj,aj]
   exact⟨told,rfl,are,nd,λs hs h=>((vZ hi).mp hs).elim (λq=>all s q h) λq=>q▸xf,by omega⟩
  ·rw[decide_eq_false xf,Bool.not_false,if_pos rfl,zK6 rl R.nn xb.1 xb.2 xb.1,aj]
   by_cases c:rb rows x x=true
   ·have dis:∀t∈ring rows U x,t∉told.flatten:=λt ht tf=>by
     obtain⟨G,hG,tG⟩:=mem_flatten.mp tf
     obtain⟨s,sU,_,rfl⟩:=are G hG
     obtain⟨tU,t1,t2⟩:=aM.mp ht
     obtain⟨_,t3,t4⟩:=aM.mp tG
     exact xf (mem_flatten.mpr ⟨_,hG,aM.mpr ⟨xm,R.trans s sU t tU x xb.1 t3 t2,R.trans x xm t tU s (h0 s sU) t1 t4⟩⟩)
    have rn:(ring rows U x).Nodup:=hR.nodup.filter _
    have nd2:(told.flatten++ring rows U x).Nodup:=by
     rw[nodup_append]
     exact⟨nd,rn,λa ha b hb e=>dis b hb (e▸ha)⟩
    have ln:(told.flatten++ring rows U x).length<=n.toNat:=xO nd2 λy hy=>by
     have:y∈U:=(mem_append.mp hy).elim (sub y) λq=>(aM.mp q).1
     have:=hR.2 y this
     omega
    rw[c,if_pos rfl,zC,zC,aj,Mv (p:=λt=>rb rows x t&&rb rows t x) (g:=λt=>t) (yR (by omega)) (λt ht=>zQ6 rl R.nn xb.1 xb.2 (hR.2 t ht).1 (hR.2 t ht).2) (λt _=>rfl),aj,map_id']
    show W ((push told (ring rows U x)).bind _) _
    rw[zC,Pg]
    refine⟨yR (by omega),?_⟩
    rw[zC,zC,aj]
    refine wH (λk d=>d=dl (told.flatten++(ring rows U x).take k)) (by rw[List.take_zero,append_nil]) (λk y d hk hd=>?_) λd hd=>?_
    ·subst hd
     have hk:(ring rows U x)[k]?=some y:=hk
     have ym:=mem_of_getElem? hk
     have kl:=(aaj.mp hk).1
     have yn:y∉told.flatten++(ring rows U x).take k:=λq=>by
      rcases mem_append.mp q with q|q
      ·exact dis y ym q
      ·obtain⟨j,hj,e⟩:=getElem_of_mem q
       rw[List.getElem_take] at e
       rw[length_take] at hj
       have e2:=(aaj.mp hk).2
       have:=(List.nodup_iff_pairwise_ne.mp rn)
       have ne:=List.pairwise_iff_getElem.mp this j k (by omega) kl (by omega)
       exact ne (e.trans e2.symm)
     rw[zC,Ks,Kq yn,Kr]
     refine⟨yR ?_,?_⟩
     ·rw[length_append] at ln ⊢
      rw[length_take]
      omega
     ·rw[aj,Ud hk,append_assoc]
    ·subst hd
     rw[show(ring rows U x).take (U.filter λt=>rb rows x t&&rb rows t x).length=ring rows U x from take_length,aj,aj]
     refine⟨told++[ring rows U x],by rw[flatten_append,flatten_singleton],λG hG=>?_,by rw[flatten_append,flatten_singleton];exact nd2,λs hs h=>?_,by rw[length_append];exact abw tl⟩
     ·rcases mem_append.mp hG with q|q
      ·exact are G q
      ·exact⟨x,xm,c,mem_singleton.mp q⟩
     ·rw[flatten_append,flatten_singleton,mem_append]
      exact((vZ hi).mp hs).elim (λq=>.inl (all s q h)) λq=>.inr (by rw[q];exact aM.mpr ⟨xm,c,c⟩)
   ·have c':rb rows x x=false:=by simpa using c
    rw[c',if_neg (by decide),aj,aj]
    exact⟨told,rfl,are,nd,λs hs h=>((vZ hi).mp hs).elim (λq=>all s q h) λq=>absurd (q▸h) c,by omega⟩
 ·obtain⟨told,rfl,are,nd,all,_⟩:=hI
  rw[take_length] at all
  rw[aj]
  exact⟨rows,R,are,nd,all⟩
def G5(n:Int)(fair:List LI):Prop:=fair.length<=100/\∀F∈fair,qt n F
def xK(fair:List LI)(G:LI):Bool:=fair.all λF=>G.any λx=>decide (x∈F)
theorem qI(h:qt n xs)(GP:n<=60)(h0:0<=n):xs.length<=60:=by
 have:=xO (n:=n.toNat) h.1 λx hx=>by have:=h.2.2 x hx;omega
 omega
theorem zQ3{C:Addr}{m:aG C}{n:Int}(g:Gr m n)(hf:G5 n m.fair){i:Nat}{F:LI}(hi:m.fair[i]?=some F):W (yU m (i:Int)) λxs=>xs.length<=60/\∀x,x∈xs↔x∈F:=by
 unfold yU
 have few:=g.few
 have pos:=g.pos
 have l:=qI (hf.2 F (mem_of_getElem? hi)) few (by omega)
 rw[zC,gO (by omega)]
 refine⟨F,by rw[abe];exact hi,?_⟩
 unfold BK
 rw[if_pos (by omega),aj]
 exact⟨by rw[(wL _).length_eq];exact l,λx=>(wL _).mem_iff⟩
theorem zM2{xs ys:LI}(h:xs.length<64\/ys.length<64)(h1:xs.length<4000)(h2:ys.length<4000):wN xs ys=some (xX (xs.filter λz=>decide (z∈ys))):=by
 unfold wN Tw
 rw[if_pos ⟨h,h1,h2⟩]
theorem zJw{xs ys:LI}(h1:xs.length<64)(h2:ys.length<4000):wN xs ys=some (xX (xs.filter λz=>decide (z∈ys))):=zM2 (.inl h1) (by omega) h2
theorem mZ:(xX xs).length=0↔xs=[]:=by
 rw[length_eq_zero_iff]
 constructor
 ·intro h
  cases xs with
  |nil=>rfl
  |cons x xs =>
   have:=(bh (x:=x) (ns:=x::xs)).mpr mem_cons_self
   rw[h] at this
   cases this
 ·intro h;subst h;rfl
theorem zQz{C:Addr}{m:aG C}(g:Gr m n)(hf:G5 n m.fair){G:LI}(hG:G.length<64):W (vN m G) λo=>o.isNone=xK m.fair G:=by
 unfold vN
 have hl:=hf.1
 rw[zC,zC,uV]
 refine⟨⟨by omega,by omega⟩,zQp (λi _=>∀F∈m.fair.take i,(G.any λx=>decide (x∈F))=true) (λF hF=>by simp at hF) (λi x s hi hI=>?_) λs hI=>?_⟩
 ·obtain⟨rfl,hx⟩:=V5 hi
  have il:i<m.fair.length:=by omega
  have hF:m.fair[i]?=some m.fair[i]:=aaf il
  rw[zC,zC,zC,zC,zC,zC]
  refine(zQ3 g hf hF).imp λys ⟨yl,ym⟩=>?_
  rw[aj,aj]
  show W (wN G ys) _
  rw[zJw hG (by omega),aj,aj,aj]
  by_cases e:G.filter (λz=>decide (z∈ys))=[]
  ·rw[decide_eq_true (show((xX (G.filter λz=>decide (z∈ys))).length:Int)=0 by have:=mZ.mpr e;omega),if_pos rfl,zC,aj,aj]
   refine .inr ⟨_,rfl,?_⟩
   show W (some (some (i:Int))) _
   rw[aj]
   symm
   show xK m.fair G=false
   have:(G.any λx=>decide (x∈m.fair[i]))=false:=by
    rw[any_eq_false]
    intro x hx q
    have q:=of_decide_eq_true q
    have:x∈G.filter (λz=>decide (z∈ys)):=mem_filter.mpr ⟨hx,decide_eq_true ((ym x).mpr q)⟩
    rw[e] at this
    cases this
   unfold xK
   rw[List.all_eq_false]
   exact⟨_,getElem_mem il,by rw[this];decide⟩
  ·rw[decide_eq_false (λz=>e (mZ.mp (by omega))),if_neg (by decide),aj]
   refine .inl ⟨(),rfl,λF hF'=>?_⟩
   rw[Ud hF,mem_append,mem_singleton] at hF'
   rcases hF' with q|q
   ·exact hI F q
   ·subst q
    obtain⟨x,hx⟩:=List.exists_mem_of_ne_nil _ e
    rw[mem_filter] at hx
    exact any_eq_true.mpr ⟨x,hx.1,decide_eq_true ((ym x).mp (of_decide_eq_true hx.2))⟩
 ·have e:(rng (m.fair.length:Int)).length=m.fair.length:=by have:=vI (n:=(m.fair.length:Int)) (by omega);omega
  rw[e,take_length] at hI
  rw[ud,aj]
  symm
  show xK m.fair G=true
  exact all_eq_true.mpr hI
theorem zRs{U:LI}(h:U.length<=k):(ring rows U s).length<=k:=aar (length_filter_le ..) h
structure qw(xss:List LI)(fair:List LI)(U goal:LI):Prop where
 nd:goal.Nodup
 sub:∀s∈goal,s∈U
 of:∀s∈goal,∃G:LI,qu xss U G/\s∈G/\xK fair G=true/\∀t∈G,t∈goal
 all:∀s∈U,∀G:LI,(∀t,t∈G↔t∈U/\iK xss U s t/\iK xss U t s)->iK xss U s s->xK fair G=true->s∈goal
theorem zHr(h:∀t,t∈G↔t∈G'):xK fair G=xK fair G':=by
 unfold xK
 congr 1
 funext F
 rw[abu,any_eq_true,any_eq_true]
 exact⟨λ⟨x,a,b⟩=>⟨x,(h x).mp a,b⟩,λ⟨x,a,b⟩=>⟨x,(h x).mpr a,b⟩⟩
theorem Ds{C:Addr}{m:aG C}(g:Gr m n)(hf:G5 n m.fair)(hx:∀x∈xs,0<=x/\x<n)(hl:xs.length<64) :
  W (xW m xs) λa=>a.length<=60/\(∀G∈a,qu m.steps (xX xs) G/\xK m.fair G=true)/\W (uT a) λgoal=>goal=a.flatten/\qw m.steps m.fair (xX xs) goal:=by
 have few:=g.few
 have pos:=g.pos
 have hR:=(zM0 hx hl).2
 have h0:∀x∈xX xs,0<=x:=λx hx=>(hR.2 x hx).1
 have Ul:(xX xs).length<=n.toNat:=xO hR.nodup λx hx=>by have:=hR.2 x hx;omega
 unfold xW
 rw[zC]
 refine(Dr g hx hl).imp λtold ⟨rows,R,T⟩=>?_
 have tl:told.length<=60/\told.flatten.length<=60:=by
  have f:told.flatten.length<=n.toNat:=xO T.nd λy hy=>by
   obtain⟨G,hG,yG⟩:=mem_flatten.mp hy
   obtain⟨s,_,_,rfl⟩:=T.are G hG
   have:=hR.2 y (aM.mp yG).1
   omega
  refine⟨?_,by omega⟩
  have ne:∀G∈told,1<=G.length:=λG hG=>by
   obtain⟨s,sU,c,rfl⟩:=T.are G hG
   exact List.length_pos_of_mem (aM.mpr ⟨sU,c,c⟩)
  have:∀l:List LI,(∀G∈l,1<=G.length)->l.length<=l.flatten.length:=λl=>by
   induction l with
   |nil=>intro _;exact aa0 _
   |cons G l ih =>
    intro h
    rw[flatten_cons,length_append,length_cons]
    have a:=ih λG' hG'=>h G' (mem_cons_of_mem _ hG')
    have b:=h G mem_cons_self
    omega
  have:=this told ne
  omega
 have gl:∀G∈told,G.length<64:=λG hG=>by
  obtain⟨s,_,_,rfl⟩:=T.are G hG
  have:=zRs (rows:=rows) (s:=s) Ul
  omega
 rw[Mv (p:=xK m.fair) (g:=λG=>G) (yR (by omega)) (λG hG=>by
  obtain⟨o,e,q⟩:=zQz g hf (gl G hG)
  rw[e]
  exact congrArg some q) (λ_ _=>rfl),aj,map_id']
 have fl:∀l:List LI,(l.filter (xK m.fair)).flatten.Sublist l.flatten:=λl=>by
  induction l with
  |nil=>exact List.Sublist.refl _
  |cons G l ih =>
   rw[filter_cons]
   split
   ·rw[flatten_cons,flatten_cons];exact(List.Sublist.refl _).append ih
   ·rw[flatten_cons];exact ih.trans (List.sublist_append_right ..)
 have js:W (uT (told.filter (xK m.fair))) (· = (told.filter (xK m.fair)).flatten):=by
  unfold uT
  rw[zC,aj,zC,zC,aj]
  refine wH (λi s=>s=((told.filter (xK m.fair)).take i).flatten) (by rw[List.take_zero];rfl) (λi G s hi hI=>?_) λs hI=>?_
  ·subst hI
   unfold uo
   have e:((told.filter (xK m.fair)).take i).flatten++G=((told.filter (xK m.fair)).take (i+1)).flatten:=by rw[Ud hi,flatten_append,flatten_singleton]
   have l:(((told.filter (xK m.fair)).take i).flatten++G).length<=60:=by
    rw[e]
    have a:((told.filter (xK m.fair)).take (i+1)).flatten.Sublist (told.filter (xK m.fair)).flatten:=by
     have e2:(told.filter (xK m.fair)).flatten=((told.filter (xK m.fair)).take (i+1)).flatten++((told.filter (xK m.fair)).drop (i+1)).flatten:=by rw[<-flatten_append,take_append_drop]
     rw[e2]
     exact List.sublist_append_left ..
    have:=(a.trans (fl told)).length_le
    omega
   rw[length_append] at l
   rw[if_pos (yR (by omega)),zC,aj,aj,e]
  ·subst hI
   rw[take_length,aj]
 refine⟨aar (length_filter_le ..) tl.1,λG hG=>?_,js.imp λgoal e=>⟨e,?_⟩⟩
 ·obtain⟨o,oU,_,rfl⟩:=T.are G (mem_filter.mp hG).1
  exact⟨zN0 R h0 hR.nodup oU,(mem_filter.mp hG).2⟩
 subst e
 refine⟨T.nd.sublist (fl told),λs hs=>?_,λs hs=>?_,λs sU G hG p q=>?_⟩
 ·obtain⟨G,hG,sG⟩:=mem_flatten.mp hs
  obtain⟨o,_,_,rfl⟩:=T.are G (mem_filter.mp hG).1
  exact(aM.mp sG).1
 ·obtain⟨G,hG,sG⟩:=mem_flatten.mp hs
  obtain⟨o,oU,_,rfl⟩:=T.are G (mem_filter.mp hG).1
  exact⟨_,zN0 R h0 hR.nodup oU,sG,(mem_filter.mp hG).2,λt ht=>mem_flatten.mpr ⟨_,hG,ht⟩⟩
 ·obtain⟨G',hG',sG⟩:=mem_flatten.mp (T.all s sU (R.full h0 p sU))
  obtain⟨o,oU,oo,rfl⟩:=T.are G' hG'
  obtain⟨_,s1,s2⟩:=aM.mp sG
  refine mem_flatten.mpr ⟨_,mem_filter.mpr ⟨hG',?_⟩,sG⟩
  rw[<-q]
  refine zHr λt=>?_
  rw[hG t,aM]
  constructor
  ·rintro⟨tU,t1,t2⟩
   exact⟨tU,R.sound s sU t (h0 t tU) (R.trans s sU o oU t (h0 t tU) s2 t1),R.sound t tU s (h0 s sU) (R.trans t tU o oU s (h0 s sU) t2 s1)⟩
  ·rintro⟨tU,t1,t2⟩
   exact⟨tU,R.trans o oU s sU t (h0 t tU) s1 (R.full h0 t1 sU),R.trans t tU s sU o (h0 o oU) (R.full h0 t2 tU) s2⟩
theorem Kv{C:Addr}{m:aG C}(g:Gr m n)(hf:G5 n m.fair)(hx:∀x∈xs,0<=x/\x<n)(hl:xs.length<64) :
  W ((xW m xs).bind λa=>uT a) (qw m.steps m.fair (xX xs)):=by
 rw[zC]
 exact(Ds g hf hx hl).imp λa ⟨_,_,h⟩=>h.imp λ_ q=>q.2
theorem Dt{C:Addr}{m:aG C}(g:Gr m n){goal:LI}(ht:∀x∈through,0<=x/\x<n)(hg:goal.Nodup/\∀x∈goal,0<=x/\x<n):W (vG m through goal) λR=>∃d,qm m.steps through goal n d/\R=pick n λs=>(dg d s).isSome:=by
 unfold vG
 have few:=g.few
 have pos:=g.pos
 rw[zC]
 refine(zIq g ht hg).imp λd D=>?_
 have rl:=vI (n:=n) (by omega)
 rw[zC,aj,zSz D.len]
 have e:wD (λx:Int×Option Int=>some x.2.isSome) (λx:Int×Option Int=>some x.1) ((rng n).map λs=>(s,dg d s))=some (pick n λs=>(dg d s).isSome):=by
  rw[Mv (p:=λx:Int×Option Int=>x.2.isSome) (g:=λx:Int×Option Int=>x.1) (yR (by rw[length_map];omega)) (λ_ _=>rfl) (λ_ _=>rfl)]
  congr 1
  rw[List.filter_map,map_map]
  exact map_id' _
 rw[e,aj]
 exact⟨d,D,rfl⟩
structure XC(xss fair:List LI)(n:Int)(U R:LI):Prop where
 rise:bN n R
 sub:∀s∈R,s∈U
 go:∀s∈R,∃t∈nxt xss s,t∈R
 come:∀s∈R,∀F∈fair,∃x∈F,x=s\/iK xss R s x
theorem XD(h:bN n U):xX U=U:=Gp (vW U) h.1 λ_=>bh
inductive Rc(xss:List LI)(U:LI)(s:Int):Int->Prop
 |here:Rc xss U s s
 |on {t u:Int}:Rc xss U s t->u∈nxt xss t->u∈U->Rc xss U s u
theorem Rc.mem(h:Rc xss U s t)(hs:s∈U):t∈U:=by
 cases h with
 |here=>exact hs
 |on _ _ h=>exact h
theorem Rc.trans(h:Rc xss U s t)(k:Rc xss U t u):Rc xss U s u:=by
 induction k with
 |here=>exact h
 |on _ a b ih=>exact .on ih a b
theorem Rc.pth(h:Rc xss U s t):t=s\/iK xss U s t:=by
 induction h with
 |here=>exact .inl rfl
 |@on t u _ a b ih =>
  rcases ih with rfl|ih
  ·exact .inr (.one a b)
  ·exact .inr (ih.trans (.one a b))
theorem iK.rc(h:iK xss U s t):Rc xss U s t:=by
 induction h with
 |one a b=>exact .on .here a b
 |step a b _ ih=>exact(Rc.on .here a b).trans ih
theorem cls(P:Int->Prop):∃p:Int->Bool,∀x,p x=true↔P x:=⟨λx=>@decide _ (adb (P x)),λx=>by
 constructor
 ·intro h;exact@of_decide_eq_true _ (adb _) h
 ·intro h;exact@decide_eq_true _ (adb _) h⟩
def Ue(xss fair:List LI)(U:LI)(b:Int):Prop:=iK xss U b b/\∀F∈fair,∃x∈F,Rc xss U b x/\Rc xss U x b
theorem Du(D:qm xss U goal n d)(G:qw xss fair U goal)(hU:∀x∈U,0<=x/\x<n)(s:Int):s∈pick n (λs=>(dg d s).isSome)↔s∈U/\∃b∈U,Ue xss fair U b/\Rc xss U s b:=by
 have base:∀b∈U,(b∈goal↔Ue xss fair U b):=λb bU=>by
  constructor
  ·intro h
   obtain⟨R,RO,bR,met,_⟩:=G.of b h
   have up:∀{x y:Int},x∈R->y∈R->iK xss U x y:=λhx hy=>(RO.go _ hx _ hy).mono RO.sub
   refine⟨up bR bR,λF hF=>?_⟩
   obtain⟨x,xR,xF⟩:=any_eq_true.mp (all_eq_true.mp met F hF)
   exact⟨x,of_decide_eq_true xF,(up bR xR).rc,(up xR bR).rc⟩
  ·rintro⟨p,m⟩
   obtain⟨f,hf⟩:=cls λt=>iK xss U b t/\iK xss U t b
   refine G.all b bU (U.filter f) (λt=>by rw[mem_filter,hf t]) p ?_
   refine all_eq_true.mpr λF hF=>?_
   obtain⟨x,xF,r1,r2⟩:=m F hF
   have p1:iK xss U b x:=r1.pth.elim (λe=>e▸p) id
   have p2:iK xss U x b:=r2.pth.elim (λe=>by rw[<-e];exact e▸p) id
   exact any_eq_true.mpr ⟨x,mem_filter.mpr ⟨p1.mem,(hf x).mpr ⟨p1,p2⟩⟩,decide_eq_true xF⟩
 have key:∀(k:Nat)(s:Int),0<=s->s<n->dg d s=some (k:Int)->s∈U/\∃b∈goal,Rc xss U s b:=by
  intro k
  induction k with
  |zero =>
   intro s s0 s1 e
   have hg:=(D.zero s s0 s1).mp e
   exact⟨G.sub s hg,s,hg,.here⟩
  |succ k ih =>
   intro s s0 s1 e
   have ng:s∉goal:=λhg=>by
    have:=(D.zero s s0 s1).mpr hg
    rw[e] at this
    have:=aai this
    omega
   obtain⟨sU,t,tn,t0,t1,e2⟩:=D.via s _ s0 s1 e ng
   obtain⟨tU,b,bg,r⟩:=ih t t0 t1 (by rw[e2];congr 1;omega)
   exact⟨sU,b,bg,(Rc.on .here tn tU).trans r⟩
 have back:∀{s t:Int},Rc xss U s t->s∈U->(dg d t).isSome=true->(dg d s).isSome=true:=λh=>by
  induction h with
  |here=>exactλ_ q=>q
  |@on t u r a b ih =>
   intro sU q
   have tU:=r.mem sU
   obtain⟨k,e⟩:=abn.mp q
   obtain⟨j,ej,_⟩:=D.near t u k (hU t tU).1 (hU t tU).2 (hU u b).1 (hU u b).2 tU a e
   exact ih sU (by rw[ej];rfl)
 rw[cP]
 constructor
 ·rintro⟨s0,s1,q⟩
  obtain⟨k,e⟩:=abn.mp q
  have kp:=D.pos s k s0 s1 e
  obtain⟨sU,b,bg,r⟩:=key k.toNat s s0 s1 (by rw[e];congr 1;omega)
  exact⟨sU,b,G.sub b bg,(base b (G.sub b bg)).mp bg,r⟩
 ·rintro⟨sU,b,bU,bB,r⟩
  refine⟨(hU s sU).1,(hU s sU).2,back r sU ?_⟩
  rw[(D.zero b (hU b bU).1 (hU b bU).2).mpr ((base b bU).mpr bB)]
  rfl
theorem Dv{C:Addr}{m:aG C}(g:Gr m n)(hf:G5 n m.fair)(hU:bN n U):W (QL m U) λR=>bN n R/\∀s,s∈R↔s∈U/\∃b∈U,Ue m.steps m.fair U b/\Rc m.steps U s b:=by
 unfold QL
 have few:=g.few
 have Ul:U.length<=n.toNat:=xO hU.nodup λx hx=>by have:=hU.2 x hx;omega
 have q:=Kv g hf hU.2 (by omega)
 rw[XD hU,zC] at q
 rw[zC,zC,zC,zC,zC,zC]
 refine q.imp λa qa=>?_
 rw[aj]
 refine qa.imp λgoal G=>?_
 rw[aj,aj,aj]
 show W (vG m U goal) _
 refine(Dt g hU.2 ⟨G.nd,λx h=>hU.2 x (G.sub x h)⟩).imp λR ⟨d,D,e⟩=>?_
 subst e
 exact⟨wQ n _,Du D G hU.2⟩
theorem XF{C:Addr}{m:aG C}(g:Gr m n):yV m=some (rng n):=by
 unfold yV
 rw[Ub g]
 have:=g.pos
 have:=g.few
 show Ma n=_
 unfold Ma
 rw[if_pos ⟨by omega,by omega⟩]
 rfl
theorem Kw(h:n<=60)(h0:0<=n):(rng n).length<=60:=by have:=vI (n:=n) h0;omega
theorem zQw{C:Addr}{m:aG C}(g:Gr m n){xs:LI}(hl:xs.length<4000):Mp m xs=some (pick n λz=>!decide (z∈xs)):=by
 unfold Mp
 rw[XF g]
 have r:=Kw g.few (by have:=g.pos;omega)
 show Ql (rng n) xs=_
 unfold Ql
 rw[if_pos ⟨by omega,hl⟩]
 exact congrArg some (XD (wQ n _))
theorem zJ8(h:bN n xs)(GP:n<=60):xs.length<=60:=by
 by_cases h0:0<=n
 ·have:=xO (n:=n.toNat) h.nodup λx hx=>by have:=h.2 x hx;omega
  omega
 ·cases xs with
  |nil=>exact aa0 _
  |cons a l=>have:=h.2 a mem_cons_self;omega
theorem zM1{ys:LI}(hx:bN n xs)(GP:n<=60)(hy:ys.length<4000):wN xs ys=some (xs.filter λz=>decide (z∈ys)):=by
 rw[zJw (by have:=zJ8 hx GP;omega) hy]
 exact congrArg some (XD (n:=n) ⟨hx.1.filter _,λx h=>hx.2 x (mem_filter.mp h).1⟩)
def Ky(xss fair:List LI)(n:Int)(L:LI):Prop:=bN n L/\∀s,s∈L↔s∈rng n/\∃b∈rng n,Ue xss fair (rng n) b/\Rc xss (rng n) s b
theorem zJ6(n:Int):bN n (rng n):=⟨Xq n,λx hx=>iW.mp hx⟩
theorem Dw{C:Addr}{m:aG C}(g:Gr m n)(hf:G5 n m.fair):W (QM m) (Ky m.steps m.fair n):=by
 unfold QM
 rw[XF g]
 exact Dv g hf (zJ6 n)
theorem pH{α:Type}{pre:List α}{x:α}:L2.cQ (pre++[x]) (-(1:Int))=some x:=by
 unfold L2.cQ qC
 rw[if_neg (by decide),if_pos (by rw[length_append,length_singleton];omega)]
 show(pre++[x])[((-(1:Int))+((pre++[x]).length:Nat)).toNat]?=some x
 have e:((-(1:Int))+((pre++[x]).length:Nat)).toNat=pre.length:=by rw[length_append,length_singleton];omega
 rw[e,getElem?_append_right (aag _),aec]
 rfl
theorem zMc(h:bN n xs):S9 xs=xs :=
 Gp (wK (zCx xs) ((wL xs).nodup_iff.mpr h.nodup)) h.1 λs=>(wL xs).mem_iff
theorem zQ0{C:Addr}{m:aG C}(GP:n<=60)(hs:∀mk∈m.marks,bN n mk.2)(x:Str):W (zV m x) λS=>(∃mk∈m.marks,mk.1=x/\S=mk.2)\/((∀mk∈m.marks,mk.1≠x)/\S=[]):=by
 unfold zV
 rw[zC,zC,aj]
 refine zQp (λi _=>∀mk∈m.marks.take i,mk.1≠x) (λmk h=>by simp at h) (λi mk _ hi hI=>?_) λ_ hI=>?_
 ·have mm:=mem_of_getElem? hi
  by_cases c:mk.1=x
  ·rw[decide_eq_true c,if_pos rfl,zC]
   have r:=zJ8 (hs mk mm) GP
   unfold BK
   rw[if_pos (by omega),aj,aj,zMc (hs mk mm)]
   refine .inr ⟨_,rfl,?_⟩
   show W (some mk.2) _
   rw[aj]
   exact .inl ⟨mk,mm,c,rfl⟩
  ·rw[decide_eq_false c,if_neg (by decide),aj]
   refine .inl ⟨(),rfl,λmk' h=>?_⟩
   rw[take_add_one,hi,mem_append] at h
   rcases h with h|h
   ·exact hI mk' h
   ·have e:mk'=mk:=by simpa using h
    rw[e];exact c
 ·rw[take_length] at hI
  rw[ud,aj]
  exact .inr ⟨hI,rfl⟩
theorem rJ{α:Type}{m:Option α}{a:α}(h:W m (· = a)):m=some a:=by obtain⟨b,e,rfl⟩:=h;exact e
def resv:List Str:=["all","not","both","either","somenext","eachnext","sometill","eachtill","someever","eachever"]
theorem Ra:∀w∈resv,w = "all" \/ (w.cps[0]?≠w.cps[1]?/\w.cps[0]?≠w.cps[2]?/\w.cps[1]?≠w.cps[2]?/\3<=w.cps.size):=by decide +kernel
theorem Dy:∀i,i<26->(("abcdefghijklmnopqrstuvwxyz":Str).cps)[i]?=some (97+i):=by decide +kernel
theorem DG:∀i,i<26->Pq ⟨#[97+i]⟩ ("abcdefghijklmnopqrstuvwxyz":Str)=true:=by decide +kernel
theorem zS8:("abcdefghijklmnopqrstuvwxyz":Str).length=26:=by decide +kernel
theorem zKq(x:Int):Mg ("abcdefghijklmnopqrstuvwxyz":Str) (x%26)=some ⟨#[97+(x%26).toNat]⟩:=by
 have h0:0<=x%26/\x%26<26:=by omega
 unfold Mg
 rw[if_pos ⟨h0.1,by omega,by rw[zS8];exact h0.2⟩,Dy _ (by omega)]
 rfl
theorem XH(a b:Str):(a++b).cps=a.cps++b.cps:=by
 first
  |rfl
  | (show(Str.append a b).cps=_;unfold Str.append;rfl)
def dW(l:List Nat):Str:=⟨l.toArray⟩
theorem zTz{x:Str}(h:x.cps.toList=l):x=dW l:=by
 obtain⟨c⟩:=x
 have h:c.toList=l:=h
 unfold dW
 rw[<-h]
theorem DK(a b:List Nat):dW a++dW b=dW (a++b):=zTz (by rw[XH];unfold dW;simp)
theorem Rb(l:List Nat):(dW l).length=l.length:=by
 show l.toArray.size=_
 rw[size_toArray]
theorem DN(h:dW a=dW b):a=b:=by
 have h:a.toArray=b.toArray:=congrArg Str.cps h
 have:=congrArg toList h
 simpa using this
theorem zT7(b:Nat):∀n,(Str.join "" (replicate n (dW [b]))).cps.toList=replicate n b
 |0=>by
  show(Str.join "" []).cps.toList=[]
  decide +kernel
 |1=>rfl
 |n+2=>by
  have ih:=zT7 b (n+1)
  show((dW [b] ++ "")++Str.join "" (replicate (n+1) (dW [b]))).cps.toList=_
  rw[XH,XH,toList_append,toList_append,ih]
  have e:("":Str).cps.toList=[]:=by decide +kernel
  rw[e]
  rfl
theorem XJ(b n:Nat)(h:n<=8):GJ "" (replicate n (dW [b]))=some (dW (replicate n b)):=by
 unfold GJ
 rw[if_pos]
 ·rw[show Txt.join "" (replicate n (dW [b]))=Str.join "" (replicate n (dW [b])) from StrLaws.glued_eq_join _ _,zTz (zT7 b n)]
 ·refine CJ (n:=1) (λy hy=>by rw[eq_of_mem_replicate hy];exact aag 1) ?_
  have h4:("":Str).length=0:=by decide +kernel
  rw[length_replicate,h4]
  omega
theorem G6(h0:0<=n)(h8:n<=8)(b:Nat):W (((wR n).bind λxs=>wD (λ(_:Int)=>some true) (λ(_:Int)=>some (dW [b])) xs).bind λa=>GJ "" a) λx=>x=dW (replicate n.toNat b):=by
 rw[zC,zC,uV]
 refine⟨⟨by omega,by omega⟩,?_⟩
 have rl:=vI h0
 rw[Ls (λ_=>dW [b])]
 refine⟨yR (by omega),?_⟩
 have e:(rng n).map (λ_=>dW [b])=replicate n.toNat (dW [b]):=by
  rw[List.map_const']
  congr 1
  omega
 rw[e,XJ b _ (by omega),aj]
def lw(s r b c:Nat):List Nat:=replicate s b++(c::replicate r b)
theorem G7:(lw s r b c)[j]?=if j=s then some c else if j<s+r+1 then some b else none:=by
 unfold lw
 by_cases h:j<s
 ·rw[getElem?_append_left (by rw[length_replicate];exact h),getElem?_replicate,if_pos h,if_neg (by omega),if_pos (by omega)]
 ·rw[getElem?_append_right (by rw[length_replicate];omega),length_replicate]
  by_cases e:j=s
  ·subst e
   rw[if_pos rfl,aec]
   rfl
  ·rw[if_neg e,show j-s=(j-s-1)+1 by omega,List.getElem?_cons_succ,getElem?_replicate]
   by_cases h2:j<s+r+1
   ·rw[if_pos (by omega),if_pos h2]
   ·rw[if_neg (by omega),if_neg h2]
theorem zT0:(lw s r b c).length=s+r+1:=by
 unfold lw
 rw[length_append,length_cons,length_replicate,length_replicate]
 omega
theorem DP(h:dW (lw s r b c)∈resv):dW (lw s r b c) = "all":=by
 rcases Ra _ h with e|⟨h1,h2,h3,h4⟩
 ·exact e
 ·exfalso
  have at':∀j:Nat,(dW (lw s r b c)).cps[j]?=(lw s r b c)[j]?:=λj=>by
   show(lw s r b c).toArray[j]?=_
   rw[getElem?_toArray]
  have hl:3<=s+r+1:=by
   have:(dW (lw s r b c)).cps.size=s+r+1:=by
    show(lw s r b c).toArray.size=_
    rw[size_toArray,zT0]
   omega
  rw[at',at',G7,G7] at h1
  rw[at',at',G7,G7] at h2
  rw[at',at',G7,G7] at h3
  by_cases s0:s=0
  ·subst s0
   simp[show 1<r+1 by omega,show 2<r+1 by omega] at h3
  ·by_cases s1:s=1
   ·subst s1
    simp[show 2<1+r+1 by omega] at h2
   ·rw[if_neg (by omega),if_pos (by omega),if_neg (by omega),if_pos (by omega)] at h1
    exact h1 rfl
theorem zH9{α β:Type}{c:α->Option Bool}{f:α->Option β}{g:α->β}:∀{xs:List α},(∀x∈xs,c x=some true)->(∀x∈xs,f x=some (g x))->xM c f xs=some (xs.map g)
 |[],_,_=>rfl
 |x::xs,hc,hf=>by
  have ih:=zH9 (λy hy=>hc y (mem_cons_of_mem _ hy)) (λy hy=>hf y (mem_cons_of_mem _ hy))
  show(c x).bind _=_
  rw[hc x mem_cons_self]
  show(f x).bind _=_
  rw[hf x mem_cons_self]
  show(xM c f xs).bind _=_
  rw[ih]
  rfl
theorem zPa{l:List Nat}(h1:1<=l.length)(h8:l.length<=8)(hl:∀x∈l,∃i,i<26/\x=97+i)(hr:dW l∉resv):wS (dW l)=some true:=by
 have ln:=Rb l
 unfold resv at hr
 apply rJ
 unfold wS
 rw[zC,if_neg (by decide),aj,if_neg (λz=>hr (of_decide_eq_true z)),zC,zC]
 unfold uf
 rw[if_pos (yR (by omega)),aj,decide_eq_true (by omega),if_pos rfl,aj,decide_eq_true (by omega),if_pos rfl,zC,zC,aj]
 have ls:BL (dW l)=l.map λc=>(⟨#[c]⟩:Str):=by
  unfold BL dW
  rfl
 have e:wD (λ(_:Str)=>some true) (λ(x2:Str)=>some (Pq x2 ("abcdefghijklmnopqrstuvwxyz":Str))) (BL (dW l))=some ((BL (dW l)).map λ_=>true):=by
  unfold wD
  rw[if_pos (by rw[ls,length_map];exact yR (by omega))]
  refine zH9 (λ_ _=>rfl) λx hx=>?_
  rw[ls] at hx
  obtain⟨y,hy,rfl⟩:=mem_map.mp hx
  obtain⟨i,hi,rfl⟩:=hl y hy
  rw[DG i hi]
 rw[e,aj,aj,all_eq_true]
 intro x hx
 obtain⟨y,_,rfl⟩:=mem_map.mp hx
 rfl
theorem zQm{a b:List Nat}(h:a.length+b.length<=1000):pZ (dW a) (dW b)=some (dW (a++b)):=by
 unfold pZ
 rw[if_pos (by rw[Rb,Rb];exact h),DK]
theorem DQ{α:Type}[Decidable c]{a b:Option α}{Q:α->Prop}(h:¬c)(q:W b Q):W (if c then a else b) Q:=by rw[if_neg h];exact q
theorem Ug{α:Type}[Decidable c]{a b:Option α}{Q:α->Prop}(h:c)(q:W a Q):W (if c then a else b) Q:=by rw[if_pos h];exact q
inductive Jt:Nat->Tr->Prop
 |all {k:Nat}:Jt k .all
 |mark {k:Nat} (x:Str):Jt k (.mark x)
 |neg {k:Nat} {t:Tr}:Jt k t->Jt (k+1) (.one 0 t)
 |two {k:Nat} {i:Fin 4} {l r:Tr}:i=0\/i=1->Jt k l->Jt k r->Jt (k+1) (.two i l r)
theorem Uh(ws:LI):W (vA ws) λ_=>True:=by
 unfold vA
 rw[iY]
 refine⟨λ_=>aj.mpr trivial,λh=>?_⟩
 cases ws with
 |nil=>exact absurd rfl h
 |cons x r =>
  rw[List.getLast?_cons]
  exact⟨_,rfl,trivial⟩
theorem zM4(hn:names≠[]):∀(f k:Nat)(ws:LI),k<f->W (vP f ws names (k:Int)) λr=>Jt k r.1.t
 |0,k,ws,h=>absurd h (ab4 _)
 |f+1,k,ws,h=>by
  have hp:0<names.length:=List.length_pos_iff.mpr hn
  show W (QS (vP f) ws names (k:Int)) _
  unfold QS
  rw[zC]
  refine(Uh ws).imp λc _=>?_
  rw[zC,qH]
  refine⟨by decide,?_⟩
  obtain⟨wy,hwy⟩:∃wy:Int,wy=c.1%7:=⟨_,rfl⟩
  rw[<-hwy]
  have h7:0<=wy/\wy<7:=by omega
  have leaf:W (if(decide (wy=(0:Int)))=true then some (gj.mk .all,c.2) else((((jm c.1 (7:Int)).bind λa3=>cL a3 (names.length:Int)).bind λb4=>cQ names b4).bind λa5=>some (gj.mk (.mark a5))).bind λt=>some (t,c.2)) λr=>Jt k r.1.t:=by
   rw[iY]
   refine⟨λ_=>aj.mpr .all,λ_=>?_⟩
   rw[zC,zC,zC,zC,Jg]
   refine⟨⟨by decide,by decide⟩,?_⟩
   rw[qH]
   refine⟨by omega,?_⟩
   have m0:0<=c.1/7%(names.length:Int):=acp _ (by omega)
   have m1:c.1/7%(names.length:Int)<names.length:=ab3 _ (by omega)
   rw[gO m0]
   refine⟨_,aaf (show(c.1/7%(names.length:Int)).toNat<names.length by omega),?_⟩
   rw[aj,aj]
   exact .mark _
  cases k with
  |zero =>
   rw[zC,if_pos (by decide),aj,if_pos rfl]
   exact leaf
  |succ k =>
   have ek:((k+1:Nat):Int)-1=(k:Int):=by omega
   rw[zC,if_neg (λz=>by have:=of_decide_eq_true z;omega),aj]
   refine iY.mpr ⟨λ_=>leaf,λh2=>?_⟩
   have h2:2<=wy:=by
    by_cases q:wy<2
    ·exact absurd (decide_eq_true q) h2
    ·omega
   have rc:=λws=>zM4 hn f k ws (by omega)
   have nt:W ((vP f c.2 names (((k+1:Nat):Int)-1)).bind λr6=>some (gj.mk (.one 0 r6.1.t),r6.2)) λr=>Jt (k+1) r.1.t:=by
    rw[zC,ek]
    refine(rc c.2).imp λr hr=>?_
    exact aj.mpr (.neg hr)
   rw[zC]
   refine iY.mpr ⟨λ_=>aj.mpr (Ug rfl nt),λh3=>aj.mpr (iY.mpr ⟨λ_=>nt,λh4=>?_⟩)⟩
   rw[zC,ek]
   refine(rc c.2).imp λl hl=>?_
   rw[zC,zC,qH]
   refine⟨by decide,?_⟩
   have m2:wy%2=0\/wy%2=1:=by omega
   rcases m2 with e|e
   ·rw[e,gO (by decide)]
    refine⟨"both",rfl,?_⟩
    rw[zC]
    refine(rc l.2).imp λr hr=>?_
    have q:CW "both" l.1 r.1=some ⟨.two 0 l.1.t r.1.t⟩:=by
     unfold CW
     rw[if_pos rfl]
    rw[q]
    exact aj.mpr (.two (.inl rfl) hl hr)
   ·rw[e,gO (by decide)]
    refine⟨"either",rfl,?_⟩
    rw[zC]
    refine(rc l.2).imp λr hr=>?_
    have q:CW "either" l.1 r.1=some ⟨.two 1 l.1.t r.1.t⟩:=by
     unfold CW
     rw[if_neg (by decide +kernel),if_pos rfl]
    rw[q]
    exact aj.mpr (.two (.inr rfl) hl hr)
theorem zT6:(decide (kh .all=("all":Str)))=true:=by decide +kernel
theorem Ui(x:Str):(decide (kh (.mark x)=("all":Str)))=false/\(decide (kh (.mark x)=("mark":Str)))=true:=⟨show decide (("mark":Str) = "all")=false by decide +kernel,show decide (("mark":Str) = "mark")=true by decide +kernel⟩
theorem zT5(t:Tr):(decide (kh (.one 0 t)=("all":Str)))=false/\(decide (kh (.one 0 t)=("mark":Str)))=false/\(decide (kh (.one 0 t)=("not":Str)))=true:=⟨show decide (w1 0 = "all")=false by decide +kernel,show decide (w1 0 = "mark")=false by decide +kernel,show decide (w1 0 = "not")=true by decide +kernel⟩
theorem zT4(i:Fin 4)(h:i=0\/i=1)(l r:Tr):(decide (kh (.two i l r)=("all":Str)))=false/\(decide (kh (.two i l r)=("mark":Str)))=false/\(decide (kh (.two i l r)=("not":Str)))=false/\(decide (kh (.two i l r)=("both":Str)))=decide (i=0):=by
 rcases h with rfl|rfl
 ·exact⟨show decide (w2 0 = "all")=false by decide +kernel,show decide (w2 0 = "mark")=false by decide +kernel,show decide (w2 0 = "not")=false by decide +kernel,show decide (w2 0 = "both")=true by decide +kernel⟩
 ·exact⟨show decide (w2 1 = "all")=false by decide +kernel,show decide (w2 1 = "mark")=false by decide +kernel,show decide (w2 1 = "not")=false by decide +kernel,show decide (w2 1 = "both")=false by decide +kernel⟩
theorem Uj(cl:Hd->Addr):∀(f k:Nat)(t:Tr),Jt k t->k<f->xV cl f ⟨t⟩=some (cN.mk t)
 |0,k,t,_,h=>absurd h (ab4 _)
 |f+1,k,t,j,h=>by
  show QT cl (xV cl f) ⟨t⟩=_
  unfold QT
  cases j with
  |all=>rw[if_pos zT6]
  |mark x=>rw[(Ui x).1,if_neg (by decide),(Ui x).2,if_pos rfl];rfl
  |@neg k t j =>
   have ih:=Uj cl f k t j (by omega)
   obtain⟨e1,e2,e3⟩:=zT5 t
   rw[e1,if_neg (by decide),e2,if_neg (by decide),e3,if_pos rfl]
   show(xV cl f ⟨t⟩).bind _=_
   rw[ih]
   rfl
  |@two k i l r hi j1 j2 =>
   have i1:=Uj cl f k l j1 (by omega)
   have i2:=Uj cl f k r j2 (by omega)
   obtain⟨e1,e2,e3,e4⟩:=zT4 i hi l r
   rw[e1,if_neg (by decide),e2,if_neg (by decide),e3,if_neg (by decide),e4]
   rcases hi with rfl|rfl
   ·rw[if_pos (by decide)]
    show(xV cl f ⟨l⟩).bind _=_
    rw[i1]
    show(xV cl f ⟨r⟩).bind _=_
    rw[i2]
    rfl
   ·rw[if_neg (by decide)]
    show(xV cl f ⟨l⟩).bind _=_
    rw[i1]
    show(xV cl f ⟨r⟩).bind _=_
    rw[i2]
    rfl
def tv(mk:Str->LI)(s:Int):Tr->Bool
 |.all=>true
 |.mark x=>decide (s∈mk x)
 |.one _ t=>!tv mk s t
 |.two i l r=>if i=0 then tv mk s l&&tv mk s r else tv mk s l||tv mk s r
theorem Uk(d:Dz LI)(s:Int):∀(f k:Nat)(t:Tr),Jt k t->k<f->xU f ⟨t⟩ s d=some (tv (λx=>(xC d.kv x).getD []) s t)
 |0,k,t,_,h=>absurd h (ab4 _)
 |f+1,k,t,j,h=>by
  show QW (xU f) ⟨t⟩ s d=_
  unfold QW
  cases j with
  |all=>rw[if_pos zT6];rfl
  |mark x =>
   rw[(Ui x).1,if_neg (by decide),(Ui x).2,if_pos rfl]
   show(if(xC d.kv x).isSome=true then((some x).bind λb2=>xC d.kv b2).bind λb3=>some (decide (s∈b3)) else some false)=some (decide (s∈(xC d.kv x).getD []))
   cases e:xC d.kv x with
   |none=>rw[if_neg (by decide)];exact congrArg some (decide_eq_false (by simp)).symm
   |some xs =>
    rw[if_pos (show(some xs).isSome=true from rfl)]
    show(xC d.kv x).bind _=_
    rw[e]
    rfl
  |@neg k t j =>
   have ih:=Uk d s f k t j (by omega)
   obtain⟨e1,e2,e3⟩:=zT5 t
   rw[e1,if_neg (by decide),e2,if_neg (by decide),e3,if_pos rfl]
   show(xU f ⟨t⟩ s d).bind _=_
   rw[ih]
   rfl
  |@two k i l r hi j1 j2 =>
   have i1:=Uk d s f k l j1 (by omega)
   have i2:=Uk d s f k r j2 (by omega)
   obtain⟨e1,e2,e3,e4⟩:=zT4 i hi l r
   rw[e1,if_neg (by decide),e2,if_neg (by decide),e3,if_neg (by decide),e4]
   rcases hi with rfl|rfl
   ·rw[if_pos (by decide)]
    show(xU f ⟨l⟩ s d).bind (λc12=>if c12=true then xU f ⟨r⟩ s d else some false)=some (tv _ s l&&tv _ s r)
    rw[i1,i2]
    cases tv (λx=>(xC d.kv x).getD []) s l<;>rfl
   ·rw[if_neg (by decide)]
    show(xU f ⟨l⟩ s d).bind (λXm=>if Xm=true then some true else xU f ⟨r⟩ s d)=some (tv _ s l||tv _ s r)
    rw[i1,i2]
    cases tv (λx=>(xC d.kv x).getD []) s l<;>rfl
section
variable{C:Addr}{cl:Hd->Addr}{m:aG C}{n:Int}{mk:Str->LI}
def iu(mk:Str->LI)(n:Int)(t:Tr):LI:=pick n λs=>tv mk s t
theorem XM(h0:0<=s)(h1:s<n):s∈iu mk n t↔tv mk s t=true:=by
 unfold iu
 rw[cP]
 exact⟨λh=>h.2.2,λh=>⟨h0,h1,h⟩⟩
theorem Kz(g:Gr m n)(hk:∀x,zV m x=some (mk x)/\bN n (mk x))(j:Jt k t):vO m L (cN.mk (cl:=cl) t) ((rE t).map (iu mk n))=some (iu mk n t):=by
 have ln:∀t,(iu mk n t).length<=60:=λt=>zRx _ g.few
 cases j with
 |all =>
  show yV m=_
  rw[XF g]
  refine congrArg some (Uc (zJ6 n) λs h0 h1=>⟨λ_=>rfl,λ_=>iW.mpr ⟨h0,h1⟩⟩)
 |mark x =>
  show zV m x=_
  rw[(hk x).1]
  refine congrArg some (Uc (hk x).2 λs h0 h1=>?_)
  show _↔decide (s∈mk x)=true
  rw[decide_eq_true_iff]
 |@neg k t j =>
  apply rJ
  unfold vO
  refine(DQ aap (DQ aap (Ug (by show decide ((0:Fin 6)=0)=true;decide) ?_)))
  rw[zC,zC,zC,gO (by decide)]
  refine⟨iu mk n t,rfl,?_⟩
  rw[aj,aj]
  show W (Mp m (iu mk n t)) _
  rw[zQw g (by have:=ln t;omega),aj]
  refine Uc (wQ n _) λs h0 h1=>?_
  rw[cP]
  show _↔(!tv mk s t)=true
  rw[ad1,decide_eq_false_iff_not,XM h0 h1,ad1,Bool.not_eq_true]
  exact⟨λh=>h.2.2,λh=>⟨h0,h1,h⟩⟩
 |@two k i l r hi j1 j2 =>
  apply rJ
  unfold vO
  rcases hi with rfl|rfl
  ·refine(DQ aap (DQ aap (DQ aap (Ug (by show decide ((0:Fin 4)=0)=true;decide) ?_))))
   rw[zC,zC,gO (by decide)]
   refine⟨iu mk n l,rfl,?_⟩
   rw[zC,zC,gO (by decide)]
   refine⟨iu mk n r,rfl,?_⟩
   rw[aj,aj]
   show W (wN (iu mk n l) (iu mk n r)) _
   rw[zM1 (n:=n) (xs:=iu mk n l) (ys:=iu mk n r) (wQ n _) g.few (by have:=ln r;omega),aj]
   refine Uc (n:=n) ⟨(wQ n _).1.filter _,λx h=>(wQ n _).2 x (mem_filter.mp h).1⟩ λs h0 h1=>?_
   show _↔(tv mk s l&&tv mk s r)=true
   rw[mem_filter,decide_eq_true_iff,XM h0 h1,XM h0 h1,aah]
  ·refine(DQ aap (DQ aap (DQ aap (DQ (by show¬decide ((1:Fin 4)=0)=true;decide) (Ug (by show decide ((1:Fin 4)=1)=true;decide) ?_)))))
   rw[zC,zC,gO (by decide)]
   refine⟨iu mk n l,rfl,?_⟩
   rw[zC,zC,gO (by decide)]
   refine⟨iu mk n r,rfl,?_⟩
   rw[aj,aj]
   show W (uI (iu mk n l) (iu mk n r)) _
   have e:xX (iu mk n l++iu mk n r)=iu mk n (.two 1 l r):=Gp (vW _) (wQ n _).1 λs=>by
    rw[bh,mem_append]
    unfold iu
    rw[cP,cP,cP]
    show _↔_/\_/\(tv mk s l||tv mk s r)=true
    rw[aa5]
    exact⟨λh=>h.elim (λa=>⟨a.1,a.2.1,.inl a.2.2⟩) λb=>⟨b.1,b.2.1,.inr b.2.2⟩,λh=>h.2.2.elim (λa=>.inl ⟨h.1,h.2.1,a⟩) λa=>.inr ⟨h.1,h.2.1,a⟩⟩
   unfold uI Cp
   have la:=ln l
   have lb:=ln r
   have lc:=ln (.two 1 l r)
   rw[e,if_pos ⟨by omega,by omega,by omega⟩,aj]
theorem KC(j:Jt k t)(h:u∈rE t):∃k',k=k'+1/\Jt k' u:=by
 cases j with
 |all=>cases h
 |mark x=>cases h
 |@neg k t j=>rw[mem_singleton.mp h];exact⟨k,rfl,j⟩
 |@two k i l r hi j1 j2 =>
  rcases mem_cons.mp h with rfl|h
  ·exact⟨k,rfl,j1⟩
  ·rw[mem_singleton.mp h];exact⟨k,rfl,j2⟩
theorem w_tab(g:Gr m n)(hk:∀x,zV m x=some (mk x)/\bN n (mk x))(L:LI):∀(f k:Nat)(t:Tr),Jt k t->k<f->k<=8->W (yX f m L (cN.mk (cl:=cl) t)) λT=>∃pre,T=pre++[iu mk n t]/\T.length<2^(k+1)
 |0,k,t,_,h,_=>absurd h (ab4 _)
 |f+1,k,t,j,h,h9=>by
  show W (xY (yX f) m L _) _
  unfold xY
  rw[zC,aj,zC,aj,zC,zC,aj]
  show W (xH _ ((rE t).map cN.mk) _) _
  have p9:2^k<=2^8:=Nat.pow_le_pow_right (by decide) (by omega)
  have p9':2^k<=256:=p9
  have p1:1<=2^k:=Nat.one_le_two_pow
  have l2:(rE t).length<=2:=by cases t<;>simp[rE]
  refine wH (λi z=>z.1.length<=i*(2^k-1)/\z.2=((rE t).take i).map (iu mk n)) ⟨aa0 _,rfl⟩ (λi x z hi hz=>?_) λz hz=>?_
  ·obtain⟨z1,z2⟩:=hz
   rw[getElem?_map] at hi
   obtain⟨u,hu,rfl⟩:=Option.map_eq_some_iff.mp hi
   have il:i<2:=by
    have:=(aaj.mp hu).1
    omega
   obtain⟨k',ek,ju⟩:=KC j (mem_of_getElem? hu)
   subst ek
   have im:i*(2^(k'+1)-1)<=1*255:=Nat.mul_le_mul (by omega) (by omega)
   rw[zC,zC]
   refine(w_tab g hk L f k' u ju (by omega) (by omega)).imp λT ⟨pre,e,hl⟩=>?_
   subst e
   unfold ur
   rw[if_pos (yR (by omega)),aj,zC,zC]
   show W (L2.cQ (z.1++(pre++[iu mk n u])) (-(1:Int))) _
   rw[<-append_assoc,pH,aj,z2,Pg]
   refine⟨yR (by rw[length_map,length_take];omega),?_⟩
   rw[aj]
   refine⟨?_,?_⟩
   ·show((z.1++pre)++[iu mk n u]).length<=(i+1)*(2^(k'+1)-1)
    rw[append_assoc,length_append,Nat.succ_mul]
    omega
   ·show((rE t).take i).map (iu mk n)++[iu mk n u]=_
    rw[take_add_one,hu,map_append]
    rfl
  ·obtain⟨told,sets⟩:=z
   obtain⟨z1,z2⟩:=hz
   rw[length_map] at z1 z2
   rw[take_length] at z2
   have z2:sets=(rE t).map (iu mk n):=z2
   have z1:told.length<=(rE t).length*(2^k-1):=z1
   have zm:(rE t).length*(2^k-1)<=2*(2^k-1):=Nat.mul_le_mul_right _ l2
   subst z2
   rw[zC,zC]
   show W (vO m L (cN.mk (cl:=cl) t) ((rE t).map (iu mk n))) _
   rw[Kz g hk j,aj,Pg]
   refine⟨yR (by show told.length<=1000;omega),?_⟩
   rw[aj]
   refine⟨told,rfl,?_⟩
   show(told++[_]).length<2^(k+1)
   rw[length_append,Nat.pow_succ]
   show told.length+1<_
   omega
theorem KD(g:Gr m n)(hf:G5 n m.fair)(hk:∀x,zV m x=some (mk x)/\bN n (mk x))(j:Jt 8 t):Mr m (cN.mk (cl:=cl) t)=some (iu mk n t):=by
 apply rJ
 obtain⟨L,eL,_⟩:=Dw g hf
 unfold Mr T8
 rw[zC,zC,zC,zC,eL,aj,aj,aj]
 show W (yX 10 m L (cN.mk t)) _
 refine(w_tab g hk L 10 8 t j (by decide) (by decide)).imp λT ⟨pre,e,_⟩=>?_
 subst e
 rw[pH,aj]
end
end Ts
set_option maxHeartbeats 40000000
namespace Ts
open PySem L2 Sy
section
variable{P:Program}{w:World}{K:PySem.W.Frag}{mg:Str->Option Value}{base:Heap}
def Um(C:Addr)(cl:Hd->Addr)(q0:Oo):Option Bool:=(Cz (mj q0.ns none (some (60:Int)))).bind λwk=>(vA wk ).bind λaF=>(((jm aF.1 (4:Int)).bind λa5=>((cL aF.1 (4:Int)).bind λb4=>cQ ([(8:Int),(8:Int),(8:Int),(60:Int)]) b4).bind λb6=>cL a5 b6).bind λb7=>some ((1:Int)+b7)).bind λbL=>(vA aF.2 ).bind λbH=>(((((jm aF.1 (240:Int)).bind λa10=>cL a10 (6:Int)).bind λb11=>some ((1:Int)+b11)).bind λa12=>wR a12).bind λxs=>wD (λ(KH:Int)=>some true) (λ(KH:Int)=>Ms KH bH.1) xs).bind λnames9=>(some ()).bind λDW=>((some (mj names9 (some (1:Int)) none)).bind λxs=>xH (λ(nO:(List (Key×LI))×LI) (x17:Str)=>((((vA nO.2 ).bind λr19=>(pU (10:Int) (30:Int)).bind λXQ=>(cL r19.1 XQ).bind λc=>some (c,r19.2)).bind λr22=>(uS r22.1 bL).bind λXR=>some (XR,r22.2)).bind λr26=>(qZ nO.1 x17 r26.1).bind λXS=>some (XS,r26.2)).bind λdH=>some (dH.1,dH.2)) xs ((([]:List (Key×LI)),bH.2))).bind λgH=>(some (([]:List LI))).bind λjY=>((wR bL).bind λxs=>xH (λ(DX:List LI) (x31:Int)=>(((cL (x31+(1:Int)) bL).bind λa35=>(((cL (bH.1+x31) (3:Int)).bind λa32=>some (decide (a32=(0:Int)))).bind λX3=>if X3=true then some (decide ((1:Int)<bL)) else some false).bind λX4=>CZ DX a35 X4 (some x31) (some x31))).bind λwu=>some wu) xs jY).bind λMw=>(vP 10 gH.2 names9 (8:Int)).bind λdX=>(((zj (Dz.mk gH.1).kv).bind λxs=>wD (λ(x39:Str)=>some true) (λ(x39:Str)=>(xC (Dz.mk gH.1).kv x39).bind λKJ=>some (x39,KJ)) xs).bind λa41=>QD C Mw (some a41) (some ([[(0:Int)]]))).bind λgM=>((wR bL).bind λxs=>wD (λ(x43:Int)=>xU 10 dX.1 x43 (Dz.mk gH.1)) (λ(x43:Int)=>some x43) xs).bind λwz=>(((((xV cl 10 dX.1).bind λa45=>some ((a45,()))).bind λb46=>some (gM,b46)).bind λz44=>Mr z44.1 z44.2.1).bind λa48=>some ((a48,(wz,())))).bind λz47=>Mt z47.1 z47.2.1
theorem w5:ao ["_law_script","_law_rest","_law_cell_here","_law_many","_law_seed","_law_names","_law_marks","_law_name_here","_law_steps","_law_k","_law_tree","_law_machine","_law_due"] ["_law_script"] (zI mK):=fsc
abbrev Rf(K:PySem.W.Frag)(C:Addr)(cl:Hd->Addr):Sp:=cR K false (λa:Oo×Unit=>([.z a.1]:SL K)) (λa=>Um C cl a.1)
theorem KN(F:aX K "law" "law" mK f fd)(B:Bl K mg)(T:Cl K mg C)(MK:Mk K C fI)(GI:aq P w K mg base aN k0 fI Uo ["self","steps","marks","fair"] (Pu K C (QD C)))(X5:Binds K Uo ["self","steps","marks","fair"] [])(jG:mg "reversed" = none)(lR:bJ P w K mg base (k0+1) "_law_bits" ["_law_cell_here","_law_many"] (zLe K))(cO:bJ P w K mg base (k0+1) "_law_cell" ["_law_rest"] (Xk K))(cG:bJ P w K mg base (k0+1) "_law_grown" ["_law_rest","_law_names","_law_deep"] (zIl K))(bY:bJ P w K mg base (k0+1) "_law_made" ["_law_tree"] (zLd K cl))(lU:bJ P w K mg base (k0+1) "_law_name" ["_law_k","_law_seed"] (zLc K))(n_:bJ P w K mg base (k0+1) "_law_set" ["_law_found","_law_due"] (zQs K))(bZ:bJ P w K mg base (k0+1) "_law_true" ["_law_tree","_law_stand","_law_marks"] (zLb K))(oh:bJ P w K mg base (k0+1) "holds" ["machine","saying"] (zQt K C cl)):aq P w K mg base aN ((k0+1)+1) f fd ["_law_script"] (Rf K C cl):=by
 refine yE F w5 (λ_=>rfl) (λ_=>rfl) λcdv A outer s H E hr=>?_
 have nd:=w5.nd
 have hu:=Oc hr
 refine⟨_,(zB (FJ (i:=1) (own:=["_law_cell_here"]) (ix:=[]) nd rfl rfl rfl rfl rfl (JT K jG (zA (Y9 (Qa K) (pv 0) Y7 (Y8 zO)) zE)) (λC s H fp=>yM (i:=0) (show(["_law_cell_here"]:List Str).Nodup from by decide +kernel) rfl (Or.inl rfl)) (λC s H fp=>wX) (λC s H fp=>(pv 0))) (zB (xN 2 nd (yA cO hr (zA (pv 1) zE))) (zB (xN 3 nd (yL HX zO (yL vY (yL HY (pv 2) zO) (yN (cW K) (vK (zA zO (zA zO (zA zO (zA zO zE))))) (yL vY (pv 2) zO) (λ_ _=>rfl))))) (zB (xN 4 nd (yA cO hr (zA (pv 1) zE))) (zB (FJ (i:=5) (own:=["_law_k"]) (ix:=[4]) nd rfl rfl rfl rfl rfl (xS rfl B.range (zA (yL HX zO (yL vY (yL HY (pv 2) zO) zO)) zE)) (λC s H fp=>yM (i:=0) (show(["_law_k","_law_seed"]:List Str).Nodup from by decide +kernel) rfl (Or.inl rfl)) (λC s H fp=>wX) (λC s H fp=>(yA lU hr (zA (pv 0) (zA (pv 1) zE))))) (zB (xN 6 nd RT) (zB (xJ aas rfl (yY K (Y9 (Qa K) (pv 5) (Y8 zO) Y7)) (cU 7 nd) (zB (RQ hu (pv 6) (pv 7) (yA lR hr (zA (yL vY (yA cO hr (zA (pv 1) zE)) (yL H_ zO zO)) (zA (pv 3) zE))) rfl) zF)) (zB (xN 8 nd (vK zE)) (zB (xJ aas rfl (xS rfl B.range (zA (pv 3) zE)) (cU 9 nd) (zB (zY (uc K aax aa7 aa8 wU (pv 8) (zA (vK (zA (yL vY (yL HX (pv 9) zO) (pv 3)) zE)) zE))) (zB (xP (PW.pt (pw_and (yF (wF K Int hr) (yL vY (yL HX (pv 4) (pv 9)) zO) zO (xE _)) (pw_and1 (yF Fp (pv 3) zO (xE _))))) (zB (zY (uc K aax aa7 aa8 wU (yN (cW K) (pv 8) (pv 9) (λ_ _=>rfl)) (zA (pv 9) zE))) zF) zF) zF))) (zB (xN 10 nd (yA cG hr (zA (pv 1) (zA (pv 5) (zA zO zE))))) (zB (JW 6 (xN 11 nd (Ny MK GI hr rfl T.mgC X5 .nil vL (zA (pv 8) (zA (Fz (own:=["_law_name_here"]) (ix:=[6]) rfl rfl rfl (CP (pv 6)) (λC s H fp=>yM (i:=0) (show(["_law_name_here","_law_marks"]:List Str).Nodup from by decide +kernel) rfl (Or.inl rfl)) (λC s H fp=>wX) (λC s H fp=>(yp (zA (pv 0) (zA (NK (Pa K) rfl B.list Lr (zA (Y5 hu (pv 1) (pv 0) (λ_ _=>rfl)) zE)) zE))))) (zA (vK (zA (vK (zA zO zE)) zE)) zE)))))) (zB (FJ (i:=12) (own:=["_law_stand"]) (ix:=[10,6]) nd rfl rfl rfl rfl rfl (xS rfl B.range (zA (pv 3) zE)) (λC s H fp=>yM (i:=0) (show(["_law_stand","_law_tree","_law_marks"]:List Str).Nodup from by decide +kernel) rfl (Or.inl rfl)) (λC s H fp=>R5 (uG (yA bZ hr (zA (pv 1) (zA (pv 0) (zA (pv 2) zE)))))) (λC s H fp=>(pv 0))) (zB (zT (yA n_ hr (zA (yA oh hr (zA (pv 11) (zA (yA bY hr (zA (pv 10) zE)) zE))) (zA (pv 12) zE)))) zF))))))))))))),?_⟩
 rintro Fa ⟨q0,⟨⟩⟩
 exact SB.of (zS (uZ true 1 rfl rfl (CG (zSx (zD 0 rfl) (zN 60)).ex)) (λwk=>(sJ [.z q0,.ow true wk,.un,.un,.un,.un,.un,.un,.un,.un,.un,.un,.un] (zRm 1 rfl rfl (λp=>(zS (Qp true 2 (λ_=>⟨_,rfl,rfl⟩) (mq.ey (wV 1 rfl rfl zQ))) (λaF=>(sJ [.z q0,.nu (RL.mk (p:=p) aF.2),.y aF.1,.un,.un,.un,.un,.un,.un,.un,.un,.un,.un] (zS (xI true 3 rfl rfl (esc (I9 (zN 1) (uL (I_ (zG 2 rfl) (zN 4)) (esc (uD (Sh (FW (esc (zN 8)) (FW (esc (zN 8)) (FW (esc (zN 8)) (FW (esc (zN 60)) Sd)))) (λa h=>aar ((Gh (Gh (Gh (Gh S6)))) a h) (by decide))).ex (uL (zG 2 rfl) (zN 4)))))))) (λbL=>(sJ [.z q0,.nu (RL.mk (p:=p) aF.2),.y aF.1,.y bL,.un,.un,.un,.un,.un,.un,.un,.un,.un] (zS (Qp true 4 (λ_=>⟨_,rfl,rfl⟩) (mq.ey (wV 1 rfl rfl zQ))) (λbH=>(sJ [.z q0,.nu (RL.mk (p:=p) bH.2),.y aF.1,.y bL,.y bH.1,.un,.un,.un,.un,.un,.un,.un,.un] (zS (xI true 5 rfl rfl (wC (n:=true) (mJ:=[.un,.y bH.1]) (no:=1) (ix:=[4]) rfl rfl (wO (I9 (zN 1) (uL (I_ (zG 2 rfl) (zN 240)) (zN 6)))) (zZ 0 rfl rfl) (λKH=>zc) (λKH=>(esc (zR (zH (esc (zG 0 rfl)) (zH (esc (zG 1 rfl)) zQ))))) (λKH=>jo)).ex) (λnames9=>(sJ [.z q0,.nu (RL.mk (p:=p) bH.2),.y aF.1,.y bL,.y bH.1,.y names9,.un,.un,.un,.un,.un,.un,.un] (zS (Sq (α:=LI) 6 rfl rfl) (λDW=>(sJ [.z q0,.nu (RL.mk (p:=p) bH.2),.y aF.1,.y bL,.y bH.1,.y names9,.od (([]:List (Key×LI)):List (Key×LI)),.un,.un,.un,.un,.un,.un] (zS (wE (n:=true) (L:=(λnO:(List (Key×LI))×LI=>([.z q0,.nu (RL.mk (p:=p) nO.2),.y aF.1,.y bL,.y bH.1,.y names9,.od (nO.1:List (Key×LI)),.un,.un,.un,.un,.un,.un]:SL K))) ((([]:List (Key×LI)),bH.2)) bK (yZ (zSy (zD 5 rfl) (zN 1)).ex) (λnO=>(zZ 7 rfl rfl)) (λnO x17=>(zU (zNn 6 (λ_=>rfl) (λ_=>rfl) (mq.ey (zPp (as:=(λa:Int×Unit=>([.z a.1]:SL K))) (f:=(λa=>uS a.1 a.2.1)) (CK (wV 1 rfl rfl zQ) (λ_=>⟨1,_,rfl,rfl⟩) (λw18=>(Ja (zN 10) (zN 30)))) (λ_=>⟨1,_,rfl,rfl⟩) (λw21=>(zH (esc (zG 3 rfl)) zQ)))) (λw25=>(zG 7 rfl))) (λdH=>(yB (λnO:(List (Key×LI))×LI=>([.z q0,.nu (RL.mk (p:=p) nO.2),.y aF.1,.y bL,.y bH.1,.y names9,.od (nO.1:List (Key×LI)),.un,.un,.un,.un,.un,.un]:SL K)) (dH.1,dH.2) bK))))) (λgH=>(sJ [.z q0,.nu (RL.mk (p:=p) gH.2),.y aF.1,.y bL,.y bH.1,.y names9,.od (gH.1:List (Key×LI)),.un,.un,.un,.un,.un,.un] (zS (uZ true 8 rfl rfl (Bd (α:=LI))) (λjY=>(sJ [.z q0,.nu (RL.mk (p:=p) gH.2),.y aF.1,.y bL,.y bH.1,.y names9,.od (gH.1:List (Key×LI)),.un,.ow true jY,.un,.un,.un,.un] (zS (wE (n:=true) (L:=(λDX:List LI=>([.z q0,.nu (RL.mk (p:=p) gH.2),.y aF.1,.y bL,.y bH.1,.y names9,.od (gH.1:List (Key×LI)),.un,.ow true DX,.un,.un,.un,.un]:SL K))) jY bK (wO (zG 3 rfl)) (λDX=>(zZ 9 rfl rfl)) (λDX x31=>(zRi 8 rfl rfl (uL (I9 (zG 9 rfl) (zN 1)) (zG 3 rfl)) (Vz (yH (md:=.hp) (wG (uL (I9 (zG 4 rfl) (zG 9 rfl)) (zN 3)) (zN 0))) (yH (md:=.hp) (Gb (zG 3 rfl) (zN 1)))) (zG 9 rfl) (zG 9 rfl) (λwu=>(yB (λDX:List LI=>([.z q0,.nu (RL.mk (p:=p) gH.2),.y aF.1,.y bL,.y bH.1,.y names9,.od (gH.1:List (Key×LI)),.un,.ow true DX,.un,.un,.un,.un]:SL K)) wu bK))))) (λMw=>(sJ [.z q0,.nu (RL.mk (p:=p) gH.2),.y aF.1,.y bL,.y bH.1,.y names9,.od (gH.1:List (Key×LI)),.un,.ow true Mw,.un,.un,.un,.un] (zS (Qp true 10 (λ_=>⟨_,rfl,rfl⟩) (mq.ey (wV 1 rfl rfl (zH (yJ (n:=true) 5 rfl).up (zH (esc (zN 8)) zQ))))) (λdX=>(sJ [.z q0,.nu (RL.mk (p:=p) dX.2),.y aF.1,.y bL,.y bH.1,.y names9,.od (gH.1:List (Key×LI)),.un,.ow true Mw,.un,.y dX.1,.un,.un] (zS (JX 6 rfl rfl (xI true 11 rfl rfl (zP4 (FQ 8 rfl) (wC (n:=true) (mJ:=[.un,.z ((Dz.mk gH.1):Dz LI)]) (no:=1) (ix:=[6]) rfl rfl (Qu (yJ (n:=false) 6 rfl)) (zZ 0 rfl rfl) (λx39=>zc) (λx39=>(ZK (zG 0 rfl) (O4 (zKu (zD 1 rfl) (zG 0 rfl))).ex)) (λx39=>jo)).ex (Sh (FW (Sh (FW (esc (zN 0)) Sd) (λa h=>aar ((Gh S6) a h) (by decide))).ex Sd) (λa h=>aar ((Gh S6) a h) (by decide))).ex).ex)) (λgM=>(sJ [.z q0,.nu (RL.mk (p:=p) dX.2),.y aF.1,.y bL,.y bH.1,.y names9,.z ((Dz.mk gH.1):Dz LI),.un,.ow true Mw,.un,.y dX.1,.y gM,.un] (zS (xI true 12 rfl rfl (wC (n:=true) (mJ:=[.un,.y dX.1,.z ((Dz.mk gH.1):Dz LI)]) (no:=1) (ix:=[10,6]) rfl rfl (wO (zG 3 rfl)) (zZ 0 rfl rfl) (λx43=>(dI (md:=.hp) (zR (zH (zD 1 rfl) (zH (esc (zG 0 rfl)) (zH (zD 2 rfl) zQ)))))) (λx43=>(esc (zG 0 rfl))) (λx43=>jo)).ex) (λwz=>(sJ [.z q0,.nu (RL.mk (p:=p) dX.2),.y aF.1,.y bL,.y bH.1,.y names9,.z ((Dz.mk gH.1):Dz LI),.un,.ow true Mw,.un,.y dX.1,.y gM,.y wz] (zW (esc (zR (zH (zR (zH (zD 11 rfl) (zH (zR (zH (zD 10 rfl) zQ)) zQ))) (zH (zD 12 rfl) zQ))))))))))))))))))))))))))))))))))))))))))) (by unfold Um;simp only[bnd])
end
theorem DY(c:Int)(h0:0<=n)(h1:n<=60):W (uS c n) (bN n):=by
 unfold uS
 rw[zC,aj,zC,zC,uV]
 refine⟨⟨by omega,by omega⟩,?_⟩
 have rn:=vI h0
 refine wH (λj z=>bN j z.1/\z.1.length<=j) ⟨Z9,aag _⟩ (λj y z hj hJ=>?_) λz hJ=>?_
 ·obtain⟨rfl,hy⟩:=V5 hj
  simp only[zC,Jg,qH,aj,iY,Pg]
  exact⟨by decide,λ_=>⟨yR (by omega),⟨by decide,by decide⟩,zNz hJ.1 (by omega) (by omega),by rw[length_append];exact abw hJ.2⟩,λ_=>⟨⟨by decide,by decide⟩,BJ hJ.1 (by omega),by omega⟩⟩
 ·rw[rn] at hJ
  rw[aj]
  exact hJ.1
def qM(k seed:Int):List Nat:=lw (seed/5%(4+seed%5)).toNat ((4+seed%5)-(seed/5%(4+seed%5))-1).toNat (97+(seed/999%26).toNat) (97+((seed/40+k)%26).toNat)
theorem D_(k seed:Int):W (Ms k seed) λx=>x=dW (qM k seed):=by
 have h8:0<=seed%5/\seed%5<5:=by omega
 unfold Ms
 rw[zC,aj,zC,zC,qH]
 refine⟨by decide,?_⟩
 rw[aj]
 unfold qM
 obtain⟨size,hsz⟩:∃size:Int,size=4+seed%5:=⟨_,rfl⟩
 rw[<-hsz]
 have hs:4<=size/\size<=8:=by omega
 rw[zC,zC,Jg]
 refine⟨⟨by decide,by decide⟩,?_⟩
 rw[qH]
 refine⟨by omega,?_⟩
 obtain⟨spot,hsp⟩:∃spot:Int,spot=seed/5%size:=⟨_,rfl⟩
 rw[<-hsp]
 have h0:0<=spot/\spot<size:=by
  rw[hsp]
  exact⟨acp _ (by omega),ab3 _ (by omega)⟩
 rw[zC,zC,zC,Jg]
 refine⟨⟨by decide,by decide⟩,?_⟩
 rw[qH]
 refine⟨by decide,?_⟩
 rw[zKq,aj,zC,zC]
 refine(G6 (n:=spot) h0.1 (by omega) (97+(seed/999%26).toNat)).imp λx hx=>?_
 subst hx
 rw[zC,zC,zC,zC,Jg]
 refine⟨⟨by decide,by decide⟩,?_⟩
 rw[aj,qH]
 refine⟨by decide,?_⟩
 rw[zKq,aj]
 have e1:pZ (dW (replicate spot.toNat (97+(seed/999%26).toNat))) ⟨#[97+((seed/40+k)%26).toNat]⟩=some (dW (replicate spot.toNat (97+(seed/999%26).toNat)++[97+((seed/40+k)%26).toNat])):=zQm (b:=[97+((seed/40+k)%26).toNat]) (by rw[length_replicate,length_singleton];omega)
 rw[e1,aj,zC]
 refine(G6 (n:=size-spot-1) (by omega) (by omega) (97+(seed/999%26).toNat)).imp λx hx=>?_
 subst hx
 rw[zQm (by rw[length_append,length_replicate,length_replicate,length_singleton];omega),aj]
 unfold lw
 rw[append_assoc]
 rfl
theorem Eb(k seed:Int):((qM k seed).length:Int)=4+seed%5:=by
 have h8:0<=seed%5/\seed%5<5:=by omega
 unfold qM
 rw[zT0]
 obtain⟨size,hsz⟩:∃size:Int,size=4+seed%5:=⟨_,rfl⟩
 rw[<-hsz]
 have a:0<=seed/5%size:=acp _ (by omega)
 have b:seed/5%size<size:=ab3 _ (by omega)
 omega
theorem Ec(k seed:Int):∀x∈qM k seed,∃i,i<26/\x=97+i:=λx hx=>by
 unfold qM lw at hx
 have Mx:∀z:Int,(z%26).toNat<26:=λz=>by omega
 rcases mem_append.mp hx with q|q
 ·exact⟨_,Mx _,eq_of_mem_replicate q⟩
 ·rcases mem_cons.mp q with q|q
  ·exact⟨_,Mx _,q⟩
  ·exact⟨_,Mx _,eq_of_mem_replicate q⟩
theorem zSc(k seed:Int):wS (dW (qM k seed))=some true/\(dW (qM k seed)).length<=1000:=by
 have hl:=Eb k seed
 have h8:0<=seed%5/\seed%5<5:=by omega
 have l3:("all":Str).length=3:=by decide +kernel
 refine⟨zPa (by omega) (by omega) (Ec k seed) λz=>?_,by rw[Rb];omega⟩
 have e:=congrArg Str.length (DP z)
 have e2:(qM k seed).length=3:=by
  rw[<-Rb,<-l3]
  exact e
 omega
theorem KQ(seed:Int)(h0:0<=k)(h1:k<13)(h0':0<=k')(h1':k'<13)(hk:k≠k'):dW (qM k seed)≠dW (qM k' seed):=λe=>by
 have e:=DN e
 unfold qM at e
 have a:=congrArg (λl:List Nat=>l[(seed/5%(4+seed%5)).toNat]?) e
 rw[G7,G7,if_pos rfl,if_pos rfl] at a
 have a:=aai a
 omega
def jh(L:List (Str×LI)):List (Key×LI):=L.map λp=>(aay p.1,p.2)
theorem zKo:∀L:List (Str×LI),zj (jh L)=some (L.map (·.1))
 |[]=>rfl
 |p::L=>by
  show(zj (jh L)).bind _=_
  rw[zKo L]
  rfl
theorem X6:∀(L:List (Str×LI))(x:Str),(∃mk∈L,mk.1=x/\xC (jh L) x=some mk.2)\/((∀mk∈L,mk.1≠x)/\xC (jh L) x=none)
 |[],x=>.inr ⟨λ_ h=>absurd h List.not_mem_nil,rfl⟩
 |p::L,x=>by
  by_cases e:p.1=x
  ·refine .inl ⟨p,mem_cons_self,e,?_⟩
   show((((aay p.1:Key),p.2)::jh L).find? λkv=>decide (kv.1=aay x)).map (·.2)=_
   rw[List.find?_cons_of_pos (by rw[e];exact decide_eq_true rfl)]
   rfl
  ·have h:xC (jh (p::L)) x=xC (jh L) x:=by
    show((((aay p.1:Key),p.2)::jh L).find? λkv=>decide (kv.1=aay x)).map (·.2)=_
    rw[List.find?_cons_of_neg (by rw[decide_eq_true_iff];exactλq=>e (aej q))]
    rfl
   rw[h]
   rcases X6 L x with⟨mk,h1,h2,h3⟩|⟨h1,h2⟩
   ·exact .inl ⟨mk,mem_cons_of_mem _ h1,h2,h3⟩
   ·refine .inr ⟨λmk hm=>?_,h2⟩
    rcases mem_cons.mp hm with rfl|hm
    ·exact e
    ·exact h1 mk hm
theorem Ed{L:List (Str×LI)}(h:x∉L.map (·.1)):pK (jh L) (aay x) A=jh (L++[(x,A)]):=by
 unfold pK
 rw[if_neg]
 ·unfold jh
  rw[map_append]
  rfl
 ·intro q
  obtain⟨kv,h1,h2⟩:=any_eq_true.mp q
  obtain⟨p,hp,rfl⟩:=mem_map.mp h1
  have:=aej (of_decide_eq_true h2)
  exact h (mem_map.mpr ⟨p,hp,this⟩)
theorem Ef(L:List (Str×LI)):(jh L).length=L.length:=length_map ..
theorem zKs:∀{L:List (Str×LI)},(L.map (·.1)).Nodup->∀{p q:Str×LI},p∈L->q∈L->p.1=q.1->p=q
 |[],_,p,q,hp,_,_=>by cases hp
 |a::L,nd,p,q,hp,hq,e=>by
  rw[map_cons,nodup_cons] at nd
  rcases mem_cons.mp hp with rfl|hp'
  ·rcases mem_cons.mp hq with rfl|hq'
   ·rfl
   ·exact absurd (mem_map.mpr ⟨q,hq',e.symm⟩) nd.1
  ·rcases mem_cons.mp hq with rfl|hq'
   ·exact absurd (mem_map.mpr ⟨p,hp',e⟩) nd.1
   ·exact zKs nd.2 hp' hq' e
theorem X7{L:List (Str×LI)}(nd:(L.map (·.1)).Nodup)(hp:p∈L):xC (jh L) p.1=some p.2:=by
 rcases X6 L p.1 with⟨mk,h1,h2,h3⟩|⟨h1,_⟩
 ·rw[h3,zKs nd h1 hp h2]
 ·exact absurd rfl (h1 p hp)
theorem zSk{L:List (Str×LI)}(nd:(L.map (·.1)).Nodup)(hl:L.length<=1000):wD (λ(_:Str)=>some true) (λ(x39:Str)=>(xC (jh L) x39).bind λKJ=>some (x39,KJ)) (L.map (·.1))=some L:=by
 have e:=Mv (c:=λ(_:Str)=>some true) (f:=λ(x39:Str)=>(xC (jh L) x39).bind λKJ=>some (x39,KJ)) (p:=λ_=>true) (g:=λx=>(x,(xC (jh L) x).getD [])) (xs:=L.map (·.1)) (by rw[length_map];exact yR hl) (λ_ _=>rfl) (λx hx=>by
  obtain⟨p,hp,rfl⟩:=mem_map.mp hx
  rw[X7 nd hp]
  rfl)
 rw[e,filter_eq_self.mpr (λ_ _=>rfl),map_map]
 congr 1
 have q:L.map ((λx=>(x,(xC (jh L) x).getD []))∘λx:Str×LI=>x.1)=L.map id:=List.map_congr_left λp hp=>by
  show(p.1,(xC (jh L) p.1).getD [])=p
  rw[X7 nd hp]
  rfl
 rw[q,List.map_id]
theorem zTb{kvs:List (Key×LI)}{Q:List (Key×LI)->Prop}(h:kvs.length<=1000)(q:Q (pK kvs (aay k) v)):W (qZ kvs k v) Q:=by
 unfold qZ
 rw[if_pos (yR h)]
 exact aj.mpr q
theorem Eh{α:Type}(xs:List α)(a b:Option Int):(mj xs a b).Sublist xs:=(List.take_sublist _ _).trans (List.drop_sublist _ _)
theorem zQ2(h0:0<=n)(h1:n<=60){xs:List Str}(nd:xs.Nodup)(hl:xs.length<=100)(ws:LI):W (xH (λ(nO:(List (Key×LI))×LI) (x17:Str)=>((((vA nO.2 ).bind λr19=>(pU (10:Int) (30:Int)).bind λXQ=>(cL r19.1 XQ).bind λc=>some (c,r19.2)).bind λr22=>(uS r22.1 n).bind λXR=>some (XR,r22.2)).bind λr26=>(qZ nO.1 x17 r26.1).bind λXS=>some (XS,r26.2)).bind λdH=>some (dH.1,dH.2)) xs ((([]:List (Key×LI)),ws))) λs=>∃L,s.1=jh L/\L.map (·.1)=xs/\∀p∈L,bN n p.2:=by
 refine wH (λi s=>∃L,s.1=jh L/\L.map (·.1)=xs.take i/\∀p∈L,bN n p.2) ⟨[],rfl,rfl,λp h=>by cases h⟩ (λi x s hi hI=>?_) λs hI=>?_
 ·obtain⟨L,e1,e2,e3⟩:=hI
  have il:=yC hi
  have ll:L.length<=i:=by
   have:=congrArg length e2
   rw[length_map,length_take] at this
   omega
  rw[zC,zC,zC,zC]
  refine(Uh s.2).imp λc _=>?_
  rw[zC,Pb]
  refine⟨⟨by decide,by decide,by decide⟩,?_⟩
  rw[zC,qH]
  refine⟨by decide,?_⟩
  rw[aj,zC]
  refine(DY _ h0 h1).imp λA hA=>?_
  rw[aj,zC,e1]
  refine zTb (by rw[Ef];omega) ?_
  have nin:x∉L.map (·.1):=λhz=>by
   rw[e2] at hz
   obtain⟨j,hj⟩:=mem_iff_getElem?.mp hz
   have hji:j<i:=by
    have:=yC hj
    rw[length_take] at this
    omega
   rw[getElem?_take_of_lt hji] at hj
   have a2:=yC hj
   rw[aaf il] at hi
   rw[aaf a2] at hj
   have e:xs[j]=xs[i]:=(aai hj).trans (aai hi).symm
   have:=(getElem_inj nd).mp e
   omega
  rw[Ed nin,aj,aj]
  refine⟨L++[(x,A)],rfl,?_,λp hp=>?_⟩
  ·rw[map_append,e2,take_add_one,hi]
   rfl
  ·rcases mem_append.mp hp with q|q
   ·exact e3 p q
   ·rw[mem_singleton.mp q]
    exact hA
 ·obtain⟨L,e1,e2,e3⟩:=hI
  rw[take_length] at e2
  exact⟨L,e1,e2,e3⟩
theorem zQ1(seed:Int)(h0:1<=n)(h1:n<=60):W ((wR n).bind λxs=>xH (λ(DX:List LI) (x31:Int)=>(((cL (x31+(1:Int)) n).bind λa35=>(((cL (seed+x31) (3:Int)).bind λa32=>some (decide (a32=(0:Int)))).bind λX3=>if X3=true then some (decide ((1:Int)<n)) else some false).bind λX4=>CZ DX a35 X4 (some x31) (some x31))).bind λwu=>some wu) xs ([]:List LI)) λxss=>(xss.length:Int)=n/\∀xs∈xss,xs≠[]/\qt n xs:=by
 rw[zC,uV]
 refine⟨⟨by omega,by omega⟩,?_⟩
 have rl:=vI (n:=n) (by omega)
 refine wH (λi z=>z.length=i/\∀xs∈z,xs≠[]/\qt n xs) ⟨rfl,λy hy=>by cases hy⟩ (λi x z hi hI=>?_) λz hI=>⟨by rw[hI.1];exact rl,hI.2⟩
 obtain⟨rfl,hx⟩:=V5 hi
 obtain⟨i1,i2⟩:=hI
 rw[zC,zC,qH]
 refine⟨by omega,?_⟩
 have m0:0<=((i:Int)+1)%n:=acp _ (by omega)
 have m1:((i:Int)+1)%n<n:=ab3 _ (by omega)
 rw[zC,zC,zC,qH]
 refine⟨by decide,?_⟩
 rw[aj]
 have fin:∀ys:LI,ys≠[]->qt n ys->(z++[ys]).length=i+1/\∀xs∈z++[ys],xs≠[]/\qt n xs:=λys ne ok=>by
  refine⟨by rw[length_append,i1];rfl,λxs hx=>?_⟩
  rcases mem_append.mp hx with q|q
  ·exact i2 xs q
  ·rw[mem_singleton.mp q]
   exact⟨ne,ok⟩
 have one:W (CZ z (((i:Int)+1)%n) false (some (i:Int)) (some (i:Int))) λa=>W (some a) λz=>z.length=i+1/\∀xs∈z,xs≠[]/\qt n xs:=by
  unfold CZ
  rw[if_pos (yR (by omega)),if_neg (by decide),aj,aj]
  exact fin _ (by simp) ⟨by simp,by simp,λy hy=>by rw[mem_singleton.mp hy];exact⟨m0,m1⟩⟩
 refine iY.mpr ⟨λ_=>aj.mpr ?_,λ_=>aj.mpr one⟩
 by_cases c:1<n
 ·rw[decide_eq_true c]
  unfold CZ
  rw[if_pos (yR (by omega)),if_pos rfl]
  show W (if(i:Int)=(z.length:Int) then some (z++[[((i:Int)+1)%n,(i:Int)]]) else none) _
  rw[if_pos (by omega),aj,aj]
  have ne:((i:Int)+1)%n≠(i:Int):=λe=>by
   by_cases q:(i:Int)+1<n
   ·rw[Int.emod_eq_of_lt (by omega) q] at e
    omega
   ·rw[show(i:Int)+1=n by omega,Int.emod_self] at e
    omega
  exact fin _ (by simp) ⟨by simpa using ne,by simp,λy hy=>by
   rcases mem_cons.mp hy with rfl|hy
   ·exact⟨m0,m1⟩
   ·rw[mem_singleton.mp hy];exact⟨by omega,hx⟩⟩
 ·rw[decide_eq_false c]
  exact one
theorem KR(xs:LI):Mt xs xs=some true:=by
 apply rJ
 unfold Mt
 rw[zC,if_neg (by decide),aj,decide_eq_true rfl,if_neg (by decide),zC,zC,aj]
 refine Bw (λ_ _=>True) trivial (λi x s _ _=>?_) λs _=>?_
 ·rw[zC,if_neg (by decide),aj,if_neg (by decide),aj]
  exact⟨(),rfl,trivial⟩
 ·rw[ud,aj]
theorem Rg(xs:LI):(mj xs none (some (60:Int))).length<=60:=by
 unfold mj
 rw[length_take,show(60:Int)=((60:Nat):Int) from rfl,HT.Aq]
 omega
theorem zSi(C:Addr)(cl:Hd->Addr)(q:Oo):W (Um C cl q) (· = true):=by
 unfold Um
 rw[zC]
 have c60:=Rg q.ns
 have r60:W (Cz (mj q.ns none (some (60:Int)))) λ_=>True:=by
  unfold Cz
  rw[if_pos (yR (by omega)),aj]
  trivial
 refine r60.imp λrest _=>?_
 rw[zC]
 refine(Uh rest).imp λc _=>?_
 rw[zC,zC,zC,Jg]
 refine⟨⟨by decide,by decide⟩,?_⟩
 rw[zC,zC,qH]
 refine⟨by decide,?_⟩
 have c4:0<=c.1%4/\c.1%4<4:=by omega
 have top:∃b,([(8:Int),(8:Int),(8:Int),(60:Int)])[(c.1%4).toNat]?=some b/\1<=b/\b<=60:=by
  have:(c.1%4).toNat=0\/(c.1%4).toNat=1\/(c.1%4).toNat=2\/(c.1%4).toNat=3:=by omega
  rcases this with e|e|e|e<;>rw[e]
  ·exact⟨8,rfl,by decide,by decide⟩
  ·exact⟨8,rfl,by decide,by decide⟩
  ·exact⟨8,rfl,by decide,by decide⟩
  ·exact⟨60,rfl,by decide,by decide⟩
 obtain⟨b,eb,b1,b2⟩:=top
 rw[gO c4.1]
 refine⟨b,eb,?_⟩
 rw[qH]
 refine⟨by omega,?_⟩
 rw[aj]
 obtain⟨n,hn⟩:∃n:Int,n=1+c.1/4%b:=⟨_,rfl⟩
 have n0:0<=c.1/4%b:=acp _ (by omega)
 have n1:c.1/4%b<b:=ab3 _ (by omega)
 rw[<-hn]
 have hn0:1<=n:=by omega
 have hn1:n<=60:=by omega
 rw[zC]
 refine(Uh c.2).imp λseed _=>?_
 rw[zC,zC,zC,zC,zC,Jg]
 refine⟨⟨by decide,by decide⟩,?_⟩
 rw[qH]
 refine⟨by decide,?_⟩
 rw[aj]
 obtain⟨cn,hcn⟩:∃cn:Int,cn=1+c.1/240%6:=⟨_,rfl⟩
 rw[<-hcn]
 have hc:1<=cn/\cn<=6:=by omega
 rw[uV]
 refine⟨⟨by omega,by omega⟩,?_⟩
 have rl:=vI (n:=cn) (by omega)
 have en:=Mv (c:=λ(_:Int)=>some true) (f:=λ(KH:Int)=>Ms KH seed.1) (p:=λ_=>true) (g:=λx=>dW (qM x seed.1)) (xs:=rng cn) (yR (by omega)) (λ_ _=>rfl) (λx _=>rJ (D_ x seed.1))
 rw[en,filter_eq_self.mpr (λ_ _=>rfl),aj]
 obtain⟨names,hnm⟩:∃names,names=(rng cn).map λx=>dW (qM x seed.1):=⟨_,rfl⟩
 rw[<-hnm]
 have nl:(names.length:Int)=cn:=by rw[hnm,length_map];omega
 have nne:names≠[]:=λe=>by rw[e] at nl;simp at nl;omega
 have nnd:names.Nodup:=by
  rw[hnm]
  refine List.nodup_iff_pairwise_ne.mpr (pairwise_map.mpr ((Xq cn).imp_of_mem λ{a b} ha hb hab=>?_))
  have a1:=iW.mp ha
  have b1:=iW.mp hb
  exact KQ seed.1 (by omega) (by omega) (by omega) (by omega) (by omega)
 have nok:∀x∈names,wS x=some true/\x.length<=1000:=λx hx=>by
  rw[hnm] at hx
  obtain⟨k,_,rfl⟩:=mem_map.mp hx
  exact zSc k seed.1
 rw[zC,aj,zC,zC,aj]
 have cs:=Eh names (some 1) none
 have cl6:=cs.length_le
 refine(zQ2 (by omega) hn1 (cs.nodup nnd) (by omega) seed.2).imp λs ⟨L,e1,e2,e3⟩=>?_
 have ll:L.length<=6:=by
  have:=congrArg length e2
  rw[length_map] at this
  omega
 have X8:(L.map (·.1)).Nodup:=by rw[e2];exact cs.nodup nnd
 rw[zC,aj,zC]
 refine(zQ1 seed.1 hn0 hn1).imp λxss ⟨x1,x2⟩=>?_
 rw[zC]
 refine(zM4 nne 10 8 s.2 (by decide)).imp λtree ht=>?_
 rw[e1,zC,zC,zC]
 show W (zj (jh L)) _
 rw[zKo,aj]
 show W (wD (λ(_:Str)=>some true) (λ(x39:Str)=>(xC (jh L) x39).bind λKJ=>some (x39,KJ)) (L.map (·.1))) _
 rw[zSk X8 (by omega),aj]
 have mok:Xu n ((some L).getD []):=⟨X8,by show L.length<=100;omega,λm hm=>by
  have hx:m.1∈names:=cs.subset (by rw[<-e2];exact mem_map.mpr ⟨m,hm,rfl⟩)
  exact⟨(nok _ hx).1,(nok _ hx).2,zRr (e3 m hm) hn1⟩⟩
 have fok:((some ([[(0:Int)]])).getD []).length<=100/\∀xs∈(some ([[(0:Int)]])).getD [],qt n xs:=⟨by decide,λxs hx=>by
  have hx:xs∈[[(0:Int)]]:=hx
  rw[mem_singleton.mp hx]
  exact⟨by decide,by decide,λz hz=>by rw[mem_singleton.mp hz];exact⟨by decide,by omega⟩⟩⟩
 refine(QZ C x1 hn0 hn1 x2 mok fok).imp λm ⟨g,m1,m2,m3⟩=>?_
 have m2:m.marks=L:=m2
 have m3:m.fair=[[0]]:=m3
 have hf:G5 n m.fair:=by rw[m3];exact fok
 have hs:∀mk∈m.marks,bN n mk.2:=by rw[m2];exact e3
 have hk:∀x,zV m x=some ((xC (jh L) x).getD [])/\bN n ((xC (jh L) x).getD []):=λx=>by
  obtain⟨S,e,h⟩:=zQ0 hn1 hs x
  rw[e]
  rw[m2] at h
  rcases h with⟨mk,h1,h2,rfl⟩|⟨h1,rfl⟩
  ·have:=X7 X8 h1
   rw[h2] at this
   rw[this]
   exact⟨rfl,e3 mk h1⟩
  ·rcases X6 L x with⟨mk,g1,g2,_⟩|⟨_,g2⟩
   ·exact absurd g2 (h1 mk g1)
   ·rw[g2]
    exact⟨rfl,Z9⟩
 rw[zC,zC,uV]
 refine⟨⟨by omega,by omega⟩,?_⟩
 have rn:=vI (n:=n) (by omega)
 have ed:=Mv (c:=λ(x43:Int)=>xU 10 tree.1 x43 (Dz.mk (jh L))) (f:=λ(x43:Int)=>some x43) (p:=λs=>tv (λx=>(xC (jh L) x).getD []) s tree.1.t) (g:=λx=>x) (xs:=rng n) (yR (by omega)) (λx _=>Uk (Dz.mk (jh L)) x 10 8 tree.1.t ht (by decide)) (λ_ _=>rfl)
 rw[ed,map_id',aj,zC,zC,zC,zC,zC]
 have em:xV cl 10 tree.1=some (cN.mk tree.1.t):=Uj cl 10 8 tree.1.t ht (by decide)
 rw[em,aj,aj,aj]
 show W (Mr m (cN.mk (cl:=cl) tree.1.t)) _
 rw[KD g hf hk ht,aj,aj]
 show W (Mt (iu (λx=>(xC (jh L) x).getD []) n tree.1.t) (iu (λx=>(xC (jh L) x).getD []) n tree.1.t)) _
 rw[KR,aj]
end Ts
namespace Sy
open PySem L2
section
variable{K:PySem.W.Frag}{C D:Addr}
theorem Ej(hc:isClsIn K D=true)(ht:typeIn K (.ref D)=some (.type "type"))(hm:mroIn K C (.ref D)=some true):kitOne K (.ref C) (.ref D)=some true:=by
 unfold kitOne
 split
 ·rfl
 ·unfold kitCls PySem.W.subIn
  dsimp only
  rw[ht,hm,show(PySem.W.clsIn K D).isSome=true from hc]
  rfl
theorem KY(hc:isClsIn K D=true)(ht:typeIn K (.ref D)=some (.type "type"))(hm:mroIn K C (.ref D)=some false)(hs:mroIn K C (.ref C)=some true):kitOne K (.ref C) (.ref D)=some false:=by
 have ne:C≠D:=λe=>by
  subst e
  rw[hm] at hs
  cases hs
 unfold kitOne
 rw[if_neg (λe=>ne (aea (abt e)))]
 unfold kitCls PySem.W.subIn
 dsimp only
 rw[ht,hm,show(PySem.W.clsIn K D).isSome=true from hc]
 rfl
def Uq(K:PySem.W.Frag)(C:Addr):List Addr->Prop
 |[]=>True
 |D::r=>mroIn K C (.ref D)=some false/\Uq K C r
def w6(K:PySem.W.Frag):List Addr->List Addr->Prop
 |_,[]=>True
 |p,C::r=>mroIn K C (.ref C)=some true/\Uq K C p/\Uq K C r/\w6 K (C::p) r
theorem zKn(h:Uq K C ds)(m:D∈ds):mroIn K C (.ref D)=some false:=by
 induction ds with
 |nil=>cases m
 |cons E r ih =>
  cases m with
  |head=>exact h.1
  |tail _ m=>exact ih h.2 m
theorem Rh:∀{p:List Addr},w6 K p r->∀{i:Nat},r[i]?=some C->mroIn K C (.ref C)=some true/\(D∈p->mroIn K C (.ref D)=some false)/\∀{j:Nat},r[j]?=some D->j≠i->mroIn K C (.ref D)=some false:=by
 induction r with
 |nil=>intro p _ i e;cases e
 |cons E r ih =>
  intro p h i e
  cases i with
  |zero =>
   cases e
   refine⟨h.1,zKn h.2.1,λ{j} f n=>?_⟩
   cases j with
   |zero=>exact absurd rfl n
   |succ j=>exact zKn h.2.2.1 (mem_of_getElem? f)
  |succ i =>
   obtain⟨a,b,c⟩:=ih h.2.2.2 e
   refine⟨a,λm=>b (.tail _ m),λ{j} f n=>?_⟩
   cases j with
   |zero=>cases f;exact b (.head _)
   |succ j=>exact c f λq=>n (congrArg _ q)
end
def hix:Hd->Nat
 |.all=>0
 |.mark=>1
 |.one i=>i.val+2
 |.two i=>i.val+8
theorem Ek(h:Hd)(t:Tr):Ts.oW h t=decide (hix h=hix (hd t)):=by
 cases h<;>cases t
 case one.one i j _=>exact decide_eq_decide.2 ⟨λe=>by subst e;rfl,λe=>Fin.ext (by have e:i.val+2=j.val+2:=e;omega)⟩
 case two.two i j _ _=>exact decide_eq_decide.2 ⟨λe=>by subst e;rfl,λe=>Fin.ext (by have e:i.val+8=j.val+8:=e;omega)⟩
 all_goals first|rfl|(symm;apply decide_eq_false;intro e;simp only[hix,hd] at e;omega)
theorem Em:∀i:Fin 6,i=0\/i=1\/i=2\/i=3\/i=4\/i=5:=by decide
theorem Ep:∀i:Fin 4,i=0\/i=1\/i=2\/i=3:=by decide
abbrev X_(K:PySem.W.Frag)(C:Addr):Prop:=findIn K (.ref C) "__class__" = some (some (.builtin "object.__class__"))/\mroIn K C (.type "object")=some true/\isClsIn K C=true/\typeIn K (.ref C)=some (.type "type")
abbrev qN(K:PySem.W.Frag)(C:Addr)(x y:Str)(st:Stmt):Prop:=nsIn K aav x=some (some (.ref C))/\(∃f fd,Mk K C f/\aX K "__init__" y st f fd)/\Cls K C/\(findIn K (.ref C) "word" = some none/\findIn K (.ref C) "parts" = some none/\findIn K (.ref C) "part" = some none/\findIn K (.ref C) "left" = some none/\findIn K (.ref C) "right" = some none/\findIn K (.ref C) "name" = some none)/\X_ K C
abbrev Ur(K:PySem.W.Frag)(C:Addr)(x y:Str)(st:Stmt):Prop:=nsIn K aav x=some (some (.ref C))/\∃f fd,oR K C "__init__" f/\aX K "__init__" y st f fd
def HdQ(K:PySem.W.Frag)(C f:Addr):Prop:=Mk K C f/\fZ K C/\X_ K C
section
variable{K:PySem.W.Frag}{h:Heap}{mg:Str->Option Value}{C:Addr}{x y:Str}{st:Stmt}
theorem KZ(a:nsIn K aav x=some (some (.ref C)))(c:oR K C "__init__" f)(F:aX K "__init__" y st f fd):Ur K C x y st:=⟨a,f,fd,c,F⟩
theorem K1(a:nsIn K aav x=some (some (.ref C)))(m:Mk K C f)(F:aX K "__init__" y st f fd)(c:Cls K C)(n:(findIn K (.ref C) "word" = some none/\findIn K (.ref C) "parts" = some none/\findIn K (.ref C) "part" = some none/\findIn K (.ref C) "left" = some none/\findIn K (.ref C) "right" = some none/\findIn K (.ref C) "name" = some none)/\X_ K C):qN K C x y st:=⟨a,⟨f,fd,m,F⟩,c,n⟩
theorem sO(X:K.In h)(G:h.Ns aav mg)(p:qN K C x y st):mg x=some (.ref C)/\∃f fd,aX K "__init__" y st f fd/\HdQ K C f:=by
 obtain⟨a,⟨f,fd,m,F⟩,c,⟨n1,n2,n3,n4,n5,n6⟩,r⟩:=p
 exact⟨mg_of X G a,f,fd,F,m,⟨c,n1,n2,n3,n4,n5,n6⟩,r⟩
end
set_option maxHeartbeats 8000000 in
theorem K3{l:PySem.W.OpenLaw}{K:PySem.W.Frag}(X:K.In h)(G:h.Ns aav mg)(bA:Ur K CA "Saying" "Saying.__init__" W5)(bB:Ur K CB "OfOne" "OfOne.__init__" W6)(bD:Ur K CD "OfTwo" "OfTwo.__init__" W7)(h0:qN K C0 "All" "All.__init__" J7)(h1:qN K C1 "Mark" "Mark.__init__" u5)(h2:qN K C2 "Not" "Not.__init__" J8)(h3:qN K C3 "SomeNext" "SomeNext.__init__" W8)(h4:qN K C4 "EachNext" "EachNext.__init__" W9)(h5:qN K C5 "SomeAlways" "SomeAlways.__init__" W_)(h6:qN K C6 "EachAlways" "EachAlways.__init__" Xa)(h7:qN K C7 "SomeEver" "SomeEver.__init__" Xb)(h8:qN K C8 "Both" "Both.__init__" u_)(h9:qN K C9 "Either" "Either.__init__" Xc)(h10:qN K C10 "SomeTill" "SomeTill.__init__" Xd)(h11:qN K C11 "EachTill" "EachTill.__init__" Xe)(m:w6 K [] [C0,C1,C2,C3,C4,C5,C6,C7,C8,C9,C10,C11])(hn:specialIn K (.builtin "object.__class__") "__get__" = some (some (.builtin "getset_descriptor.__get__")))(ht:takesIn K (.builtin "object.__class__")=some true)
   :∃(cl fi:Hd->Addr)(di:Hd->FuncData),∀base:Heap,Ts.oX l.prog w K mg base 3 cl fi di:=by
 obtain⟨aA,fA,dA,cA,FA⟩:=bA
 have aA:=mg_of X G aA
 obtain⟨aB,fB,dB,cB,FB⟩:=bB
 have aB:=mg_of X G aB
 obtain⟨aD,fD,dD,cD,FD⟩:=bD
 have aD:=mg_of X G aD
 obtain⟨a0,f0,d0,F0,Q0⟩:=sO X G h0
 obtain⟨a1,f1,d1,F1,Q1⟩:=sO X G h1
 obtain⟨a2,f2,d2,F2,Q2⟩:=sO X G h2
 obtain⟨a3,f3,d3,F3,Q3⟩:=sO X G h3
 obtain⟨a4,f4,d4,F4,Q4⟩:=sO X G h4
 obtain⟨a5,f5,d5,F5,Q5⟩:=sO X G h5
 obtain⟨a6,f6,d6,F6,Q6⟩:=sO X G h6
 obtain⟨a7,f7,d7,F7,Q7⟩:=sO X G h7
 obtain⟨a8,f8,d8,F8,Q8⟩:=sO X G h8
 obtain⟨a9,f9,d9,F9,Q9⟩:=sO X G h9
 obtain⟨a10,f10,d10,F10,Q10⟩:=sO X G h10
 obtain⟨a11,f11,d11,F11,Q11⟩:=sO X G h11
 refine⟨λh=>([C0,C1,C2,C3,C4,C5,C6,C7,C8,C9,C10,C11]:List Addr).getD (hix h) 0,λh=>([f0,f1,f2,f3,f4,f5,f6,f7,f8,f9,f10,f11]:List Addr).getD (hix h) 0,λh=>([d0,d1,d2,d3,d4,d5,d6,d7,d8,d9,d10,d11]:List FuncData).getD (hix h) d0,λbase=>?_⟩
 have Z:∀h,HdQ K (([C0,C1,C2,C3,C4,C5,C6,C7,C8,C9,C10,C11]:List Addr).getD (hix h) 0) (([f0,f1,f2,f3,f4,f5,f6,f7,f8,f9,f10,f11]:List Addr).getD (hix h) 0)/\([C0,C1,C2,C3,C4,C5,C6,C7,C8,C9,C10,C11]:List Addr)[hix h]?=some (([C0,C1,C2,C3,C4,C5,C6,C7,C8,C9,C10,C11]:List Addr).getD (hix h) 0):=λh=>by
  rcases h with _|_|i|i
  ·exact⟨Q0,rfl⟩
  ·exact⟨Q1,rfl⟩
  ·rcases Em i with rfl|rfl|rfl|rfl|rfl|rfl<;>exact⟨by assumption,rfl⟩
  ·rcases Ep i with rfl|rfl|rfl|rfl<;>exact⟨by assumption,rfl⟩
 have oA:=zOp (P:=l.prog) (w:=w) (mg:=mg) (base:=base) FA
 have bA:=Ts.pW (p0:="self") (p1:="word") (p2:="parts") FA
 have oB:=zSa FB aA cA oA bA
 have bB:=Ts.pW (p0:="self") (p1:="word") (p2:="part") FB
 have oD:=zR9 FD aA cA oA bA
 have bD:=Ts.bi4 (p0:="self") (p1:="word") (p2:="left") (p3:="right") FD
 have o0:=J9 F0 Q0.2.1 aA cA oA bA
 have o1:=Dg F1 Q1.2.1 aA cA oA bA
 have o2:=Ka F2 Q2.2.1 aB cB oB bB
 have o3:=zI6 F3 Q3.2.1 aB cB oB bB
 have o4:=zI9 F4 Q4.2.1 aB cB oB bB
 have o5:=zGe F5 Q5.2.1 aB cB oB bB
 have o6:=zGf F6 Q6.2.1 aB cB oB bB
 have o7:=zI7 F7 Q7.2.1 aB cB oB bB
 have o8:=Dh F8 Q8.2.1 aD cD oD bD
 have o9:=zOq F9 Q9.2.1 aD cD oD bD
 have o10:=zI5 F10 Q10.2.1 aD cD oD bD
 have o11:=zI8 F11 Q11.2.1 aD cD oD bD
 refine⟨⟨λh=>(Z h).1.1,o0.mono (by decide),Ts.q_ F0,o1.mono (by decide),Ts.i_ F1,λi=>by rcases Em i with rfl|rfl|rfl|rfl|rfl|rfl<;>assumption,λi=>by rcases Em i with rfl|rfl|rfl|rfl|rfl|rfl<;>(first|exact Ts.i_ F2|exact Ts.i_ F3|exact Ts.i_ F4|exact Ts.i_ F5|exact Ts.i_ F6|exact Ts.i_ F7),λi=>by rcases Ep i with rfl|rfl|rfl|rfl<;>assumption,λi=>by rcases Ep i with rfl|rfl|rfl|rfl<;>(first|exact Ts.pW F8|exact Ts.pW F9|exact Ts.pW F10|exact Ts.pW F11),a0,a1,λi=>by rcases Em i with rfl|rfl|rfl|rfl|rfl|rfl<;>assumption,λi=>by rcases Ep i with rfl|rfl|rfl|rfl<;>assumption⟩,λh=>(Z h).1.2.1,λh h' t e=>?_,λh=>(Z h).1.2.2.1,hn,ht,λh=>(Z h).1.2.2.2.1⟩
 subst e
 rw[Ek]
 obtain⟨x,_,y⟩:=Rh (D:=_) m (Z (hd t)).2
 by_cases e:hix h'=hix (hd t)
 ·rw[decide_eq_true e]
  exact Ej (Z h').1.2.2.2.2.1 (Z h').1.2.2.2.2.2 (by rw[e];exact x)
 ·rw[decide_eq_false e]
  exact KY (Z h').1.2.2.2.2.1 (Z h').1.2.2.2.2.2 (y (Z h').2 e) x
end Sy
namespace Ts
open PySem L2 Sy
def xg(K:PySem.W.Frag):Sp:=λvs H Q _=>∃(a:Addr)(ns:LI),vs=[.ref a]/\aV K H a (ns.map V.int)/\ns.length<=63/\∀H',Q (.bl true) H'
section
variable{P:Program}{w:World}{K:PySem.W.Frag}{mg:Str->Option Value}{base h:Heap}{j k:Nat}{f C:Addr}{fd:FuncData}{ps:List Str}{sp:Sp}{x y:Str}{st:Stmt}
theorem Er(no:∀vs H Q E,¬sp vs H Q E):aq P w K mg base aN k f fd ps sp :=
 ⟨λvs H Q E h=>absurd h (no vs H Q E),λA outer s H args us vs Q E _ _ _ _ h=>absurd h (no vs H Q E)⟩
abbrev FP(K:PySem.W.Frag)(x:Str)(st:Stmt):Prop:=∃f fd,nsIn K aav x=some (some (.ref f))/\aX K x x st f fd
abbrev MP(K:PySem.W.Frag)(C:Addr)(x y:Str)(st:Stmt):Prop:=∃f fd,Meth K C x f/\aX K x y st f fd
def G8(K:PySem.W.Frag):List Str->Prop
 |[]=>True
 |x::r=>nsIn K aav x=some none/\G8 K r
theorem Ri(a:nsIn K aav x=some (some (.ref f)))(F:aX K x x st f fd):FP K x st:=⟨f,fd,a,F⟩
theorem Rj(a:Meth K C x f)(F:aX K x y st f fd):MP K C x y st:=⟨f,fd,a,F⟩
theorem Es{dV oc kV doc pm cdv ct:Value}{od an:Option Addr}{osl:Array (Option Value)}(l:K.lookup f=some ⟨oc,od,.func (fnOf x y (wY st) (xL st) (zI st) dV kV doc pm an cdv ct),osl⟩)(c:codeIn K cdv y=true)(k:keepIn K (.ref f)=true):uz K x y st dV f (fnOf x y (wY st) (xL st) (zI st) dV kV doc pm an cdv ct):=⟨⟨oc,od,kV,doc,pm,an,cdv,ct,osl,rfl,l,c⟩,k⟩
theorem K4(X:K.In h)(G:h.Ns aav mg)(p:FP K x st)(t:∀f fd,aX K x x st f fd->aq P w K mg base aN k f fd ps sp/\Binds K fd ps []):bJ P w K mg base k x ps sp:=by
 obtain⟨f,fd,a,F⟩:=p
 exact⟨f,fd,(t f fd F).1,(t f fd F).2,F.kp,mg_of X G a⟩
theorem Eu(c:Cls K C)(p:MP K C x y st)(t:∀f fd,aX K x y st f fd->aq P w K mg base aN k f fd ps sp/\Binds K fd ps []):fL P w K mg base k C x ps sp:=by
 obtain⟨f,fd,a,F⟩:=p
 exact⟨⟨f,fd,(t f fd F).1,(t f fd F).2,a⟩,c⟩
theorem bJ.m(c:bJ P w K mg base j x ps sp)(h:j<=k:=by decide):bJ P w K mg base k x ps sp:=c.mono h
theorem fL.m(c:fL P w K mg base j C x ps sp)(h:j<=k:=by decide):fL P w K mg base k C x ps sp:=c.mono h
end
set_option maxHeartbeats 8000000 in
theorem all_mk{l:PySem.W.OpenLaw}{K:PySem.W.Frag}(X:K.In h)(G:h.Ns aav mg)(hfa:mg "law" = some (.ref fa))(SY:∃(cl fi:Hd->Addr) (di:Hd->FuncData),∀base:Heap,oX l.prog w K mg base 3 cl fi di)(h1:FP K "sources_of" T6)(h2:FP K "is_stand" iG)(h3:FP K "check_stands" cY)(h4:FP K "check_steps" dO)(h5:FP K "is_name" jA)(h6:FP K "check_marks" dR)(h7:FP K "check_fair" eU)(h8:FP K "copied" kW)(h9:FP K "everywhere" eG)(h10:FP K "flags" nj)(h11:FP K "without" jr)(h12:FP K "others" kj)(h13:FP K "shared" kE)(h14:FP K "together" iC)(h15:FP K "distances" gk)(h16:FP K "comes_to" iD)(h17:FP K "bits_of" jt)(h18:FP K "onward_bits" dM)(h19:FP K "rings" nq)(h20:FP K "missed_by" gn)(h21:FP K "fair_rings" eN)(h22:FP K "joined" kI)(h23:FP K "core" p8)(h24:FP K "alive" s_alive)(h25:FP K "meaning" jy)(Mx:FP K "table_among" dN)(h27:FP K "table" nA)(h28:FP K "holds" nD)(h29:FP K "_law_cell" kY)(h30:FP K "_law_grown" jB)(h31:FP K "_law_made" kZ)(h32:FP K "_law_true" lg)(h33:FP K "_law_name" lq)(h34:FP K "_law_bits" lu)(h35:FP K "_law_set" nG)(h36:FP K "law" mK)(aC:nsIn K aav "Machine" = some (some (.ref C)))(mk:Mk K C fI)(FI:uz K "__init__" "Machine.__init__" ux (.ref TD) fI Uo)(lT:K.lookup TD=some ⟨ocT,odT,.seq #[.none,.none] nT,slT⟩)(m0:MP K C "many" "Machine.many" cZ)(m1:MP K C "next_of" "Machine.next_of" bQ)(m2:MP K C "before" "Machine.before" cg)(m3:MP K C "marked" "Machine.marked" cj)(m4:MP K C "fair_at" "Machine.fair_at" bT)(cC:Cls K C)(nC:findIn K (.ref C) "steps" = some none/\findIn K (.ref C) "marks" = some none/\findIn K (.ref C) "fair" = some none/\findIn K (.ref C) "sources" = some none)(lV:nsIn K aav "LETTERS" = some (some (.str "abcdefghijklmnopqrstuvwxyz" rH)))(dY:nsIn K aav "LONGEST_NAME" = some (some (.int 8 lC)))(fj:nsIn K aav "MOST_STANDS" = some (some (.int 60 mC)))(dZ:nsIn K aav "SAYING_WORDS" = some (some (.ref bF)))(mF:K.lookup bF=some ⟨.type "tuple",none,.seq #[.str "all" rK,.str "not" rN,.str "both" rO,.str "either" rP,.str "somenext" rQ,.str "eachnext" rR,.str "sometill" rT,.str "eachtill" rW,.str "someever" rY,.str "eachever" rZ] xq,sS⟩)(z:G8 K ["len","range","isinstance","int","bool","list","enumerate","all","sorted","str","set","reversed"]) :
  ∃fd:FuncData,(∀(s:Shared)(v:Value),BindsTo s fd ⟨[v],[]⟩ [("_law_script",v)])/\∀base:Heap,K.In base->base.Ns aav mg->aq l.prog w K mg base aN 17 fa fd ["_law_script"] (xg K):=by
 obtain⟨f,fd,a,⟨oc,od,kV,dc,pm,an,cd,ct,sl,rfl,lk,ck⟩,kp⟩:=h36
 have e:=hfa.symm.trans (mg_of X G a)
 cases e
 obtain⟨cl,fi,di,I0⟩:=SY
 obtain⟨Yb,K5,pI,Yc,Rk,Rm,qx,Kd,aZ,Ke,jX,jG,_⟩:=z
 obtain⟨nS,nM,nF,nB⟩:=nC
 have N:∀{x:Str},nsIn K aav x=some none->mg x=none:=λe=>PySem.W.mg_none_of X G e
 have B:Bl K mg:=⟨N Yb,N K5,N pI,N Yc,N Rk,N Rm,N qx,O7,O9,O8⟩
 have Yd:=N Kd
 have fu:=N aZ
 have Ye:=N Ke
 have Ew:=N jX
 have su:=N jG
 have lV:=mg_of X G lV
 have dY:=mg_of X G dY
 have fj:=mg_of X G fj
 have dZ:=mg_of X G dZ
 have T:Cl K mg C:=⟨cC,nS,nM,nF,nB,mg_of X G aC⟩
 have X5:Binds K Uo ["self","steps","marks","fair"] []:=λs us KX hl=>by
  obtain⟨_,_,_,_,_,_,_,_,_,rfl,_⟩:=FI.ex
  have h2:us.length=4:=by
   rw[length_append] at hl
   have:([]:List Value).length=0:=rfl
   have h4:(["self","steps","marks","fair"]:List Str).length=4:=rfl
   omega
  match us,h2 with
  |[u0,u1,u2,u3],_=>exact BindsTo.of_defaults rfl (KX _ _ lT) rfl rfl rfl
 refine⟨fnOf "law" "law" (wY mK) (xL mK) (zI mK) .none kV dc pm an cd ct,λs v=>.of_eq rfl,λbase _ _=>?_⟩
 have cal:∀{k:Nat}{x:Str}{st:Stmt}{ps:List Str}{sp:Sp},FP K x st->(∀f fd,aX K x x st f fd->aq l.prog w K mg base aN k f fd ps sp/\Binds K fd ps [])->bJ l.prog w K mg base k x ps sp:=λh t=>K4 X G h t
 have xu:∀{k:Nat}{x y:Str}{st:Stmt}{ps:List Str}{sp:Sp},MP K C x y st->(∀f fd,aX K x y st f fd->aq l.prog w K mg base aN k f fd ps sp/\Binds K fd ps [])->fL l.prog w K mg base k C x ps sp:=λh t=>Eu cC h t
 have I:=I0 base
 have c7:∀H:Hp,gZ K H bF ((["all","not","both","either","somenext","eachnext","sometill","eachtill","someever","eachever"]:List Str).map V.str):=λH=>.inr ⟨_,_,_,mF,rfl,rfl,(by show 10<=sizeLine;decide),by repeat(first|exact Paired.nil|refine Paired.cons ⟨_,rfl⟩ ?_)⟩
 have iH:=cal h2 λ_ _ F=>⟨zI3 (k:=0) F B,i_ F⟩
 have aK:=cal h3 λ_ _ F=>⟨zDz (k:=1) F B iH.m,pW F⟩
 have mG:=cal h4 λ_ _ F=>⟨zEv (k:=2) F B fj aK.m,q_ F⟩
 have jC:=cal h5 λ_ _ F=>⟨zL4 (k:=0) F B lV dY dZ c7 Yd Ye,q_ F⟩
 have mH:=cal h6 λ_ _ F=>⟨zEw (k:=2) F B aK.m jC.m,i_ F⟩
 have ou:=cal h7 λ_ _ F=>⟨zGd (k:=2) F B aK.m,i_ F⟩
 have yc:=cal h8 λ_ _ F=>⟨zOo (k:=0) F B,q_ F⟩
 have Yg:=cal h1 λ_ _ F=>⟨J5 F B,q_ F⟩
 have OI:aq l.prog w K mg base aN 4 fI Uo ["self","steps","marks","fair"] (Pu K C (QD C)):=J6 (k:=3) FI T B mG.m mH.m ou.m yc.m Yg.m
 have aH:=xu m0 λ_ _ F=>⟨zD0 (k:=0) (C:=C) F B T,q_ F⟩
 have bV:=xu m1 λ_ _ F=>⟨zBo (k:=0) (C:=C) F B T fu,i_ F⟩
 have cu:=xu m2 λ_ _ F=>⟨zCi (k:=0) (C:=C) F B T,i_ F⟩
 have cF:=xu m3 λ_ _ F=>⟨zCh (k:=0) (C:=C) F B T fu,i_ F⟩
 have bW:=xu m4 λ_ _ F=>⟨zBp (k:=0) (C:=C) F B T fu,i_ F⟩
 have aO:=cal h9 λ_ _ F=>⟨zGc (k:=1) (C:=C) F B aH.m,q_ F⟩
 have nU:=cal h10 λ_ _ F=>⟨zR7 (k:=1) (C:=C) F B aH.m,i_ F⟩
 have jD:=cal h11 λ_ _ F=>⟨zL1 (k:=0) F B fu Ew,i_ F⟩
 have lM:=cal h12 λ_ _ F=>⟨zOh (k:=2) (C:=C) F B aO.m jD.m,i_ F⟩
 have eF:=cal h13 λ_ _ F=>⟨zOg (k:=0) F B fu Ew,i_ F⟩
 have iJ:=cal h14 λ_ _ F=>⟨zI2 (k:=0) F B fu Ew,i_ F⟩
 have gA:=cal h15 λ_ _ F=>⟨zHo (k:=2) (C:=C) F B cu.m aH.m nU.m,pW F⟩
 have iI:=cal h16 λ_ _ F=>⟨zI4 (k:=3) (C:=C) F B gA.m,pW F⟩
 have gJ:=cal h17 λ_ _ F=>⟨zL5 (k:=0) F B,q_ F⟩
 have dU:=cal h18 λ_ _ F=>⟨zEu (k:=1) (C:=C) F B aH.m bV.m gJ.m,i_ F⟩
 have nY:=cal h19 λ_ _ F=>⟨zR4 (k:=2) (C:=C) F B fu Ew dU.m,i_ F⟩
 have gC:=cal h20 λ_ _ F=>⟨zHn (k:=1) (C:=C) F B T bW.m eF.m,i_ F⟩
 have eZ:=cal h21 λ_ _ F=>⟨zGb (k:=3) (C:=C) F B gC.m nY.m,i_ F⟩
 have lJ:=cal h22 λ_ _ F=>⟨zOn (k:=0) F B,q_ F⟩
 have qg:=cal h23 λ_ _ F=>⟨Dj (k:=4) (C:=C) F B iI.m eZ.m lJ.m,i_ F⟩
 have nZ:=cal h24 λ_ _ F=>⟨zR8 (k:=5) (C:=C) F B qg.m aO.m,q_ F⟩
 have jE:=cal h25 λ_ _ F=>⟨zL2 (k:=3) (C:=C) (cl:=cl) F B I cF.m aO.m lM.m eF.m iJ.m,bi4 F⟩
 have lW:∀n:Nat,bJ l.prog w K mg base (4+n) "table_among" ["machine","living","saying"] (vE K C cl (yX n)):=λn=>by
  induction n with
  |zero=>exact cal Mx λ_ _ F=>⟨Er (λvs H Q E ⟨_,_,_,_,z,_⟩=>by cases z),pW F⟩
  |succ n ih=>exact cal Mx λ_ _ F=>⟨zEt (k:=4+n) F B I (jE.mono (aar (by decide) (abq 4 n))) ih,pW F⟩
 have bI:bJ l.prog w K mg base 14 "table_among" ["machine","living","saying"] (zB4 K C cl):=lW 10
 have n8:=cal h27 λ_ _ F=>⟨zR3 (k:=14) (C:=C) (cl:=cl) F B nZ.m bI.m,i_ F⟩
 have oh:=cal h28 λ_ _ F=>⟨zR6 (k:=15) (C:=C) (cl:=cl) F B n8.m,i_ F⟩
 have cO:=cal h29 λ_ _ F=>⟨zOl (k:=0) F B,q_ F⟩
 have qy:∀n:Nat,bJ l.prog w K mg base (1+n) "_law_grown" ["_law_rest","_law_names","_law_deep"] (T9 K (vP n)):=λn=>by
  induction n with
  |zero=>exact cal h30 λ_ _ F=>⟨Er (λvs H Q E ⟨_,_,_,_,_,_,_,_,_,_,_,z,_⟩=>by cases z),pW F⟩
  |succ n ih=>exact cal h30 λ_ _ F=>⟨zL3 (k:=1+n) F B (cO.mono (aar (by decide) (abq 1 n))) ih,pW F⟩
 have cG:bJ l.prog w K mg base 11 "_law_grown" ["_law_rest","_law_names","_law_deep"] (zIl K):=qy 10
 have sy:∀n:Nat,bJ l.prog w K mg base (4+n) "_law_made" ["_law_tree"] (T_ K cl (xV cl n)):=λn=>by
  induction n with
  |zero=>exact cal h31 λ_ _ F=>⟨Er (λvs H Q E ⟨_,_,_,_,z,_⟩=>by cases z),q_ F⟩
  |succ n ih=>exact cal h31 λ_ _ F=>⟨zOk (k:=4+n) F B I (aar (by decide) (abq 4 n)) ih,q_ F⟩
 have bY:bJ l.prog w K mg base 14 "_law_made" ["_law_tree"] (zLd K cl):=sy 10
 have sE:∀n:Nat,bJ l.prog w K mg base (0+n) "_law_true" ["_law_tree","_law_stand","_law_marks"] (Ua K (xU n)):=λn=>by
  induction n with
  |zero=>exact cal h32 λ_ _ F=>⟨Er (λvs H Q E ⟨_,_,_,_,z,_⟩=>by cases z),pW F⟩
  |succ n ih=>exact cal h32 λ_ _ F=>⟨zOi (k:=0+n) F B ih,pW F⟩
 have bZ:bJ l.prog w K mg base 10 "_law_true" ["_law_tree","_law_stand","_law_marks"] (zLb K):=sE 10
 have lU:=cal h33 λ_ _ F=>⟨zOj (k:=0) F B,i_ F⟩
 have lR:=cal h34 λ_ _ F=>⟨zOm (k:=0) F B,i_ F⟩
 have n_:=cal h35 λ_ _ F=>⟨zR5 (k:=0) F B,i_ F⟩
 refine aq.imp (KN (k0:=15) (C:=C) (cl:=cl) (j5 lk ck kp) B T mk (OI.mono (by decide)) X5 su lR.m cO.m cG.m bY.m lU.m n_.m bZ.m oh.m) λvs H Q E h=>?_
 obtain⟨a,ns,rfl,hS,h63,hQ⟩:=h
 obtain⟨b,e1,e2⟩:=zSi C cl ⟨ns⟩
 subst e2
 exact⟨(⟨ns⟩,()),true,H,.refl _,e1,.cons ⟨a,rfl,hS⟩ .nil,λv H' _ r=>by cases r;exact hQ H'⟩
theorem walk{l:PySem.W.OpenLaw}{YP:World->Heap->Prop}{d:DefRec}{K:Params->PySem.W.Frag}(hn:l.most=some 63)(hdf:d.params.defaults=[])(hY:∀(w:World) (h:Heap),YP w h->(K w.params).In h)(F:∀(w:World) (mg:Str->Option Value) (fa:Addr) (h:Heap),(K w.params).In h->h.Ns aav mg->mg d.name=some (.ref fa) ->
   ∃fd:FuncData,(∀(s:Shared) (u:Value),BindsTo s fd ⟨[u],[]⟩ [("_law_script",u)])/\∀base:Heap,(K w.params).In base->base.Ns aav mg->aq l.prog w (K w.params) mg base aN 17 fa fd ["_law_script"] (xg (K w.params))) :
  PySem.W.WalkO q loose XP YP l.row.toRowW d [] (λf vs=>PySem.call f vs) :=
 L2.Ba (n:=63) (k:=17) (x:="_law_script") (CX:=λ_=>aN) (sp:=λw=>xg (K w.params)) hn (by decide) hdf ⟨rfl,by decide,by decide⟩ hY F (λ_ _ a ns hl _ hS=>⟨a,ns,rfl,hS,hl,λ_=>rfl⟩) λ_ _ _ _ _ z=>z
end Ts
namespace PySem.W.Fast
def tw11473560134451580740:=0
def tw3962587706503092858:=0
def tw10543224690742252264:=0
def tw855397020034546696:=0
def tw14053732937677267629:=0
def tw4452117147847181467:=0
def tw17505492041356722812:=0
def tw3922419337970081610:=0
def tw17156912443025983455:=0
def tw2158079120617285285:=0
def tw2063067969685028464:=0
def tw2463547537351546189:=0
def tw1446040486386641620:=0
def tw10376820093918879294:=0
def tw6255381093191682459:=0
def tw11300509832282180743:=0
def tw7240646960594556433:=0
def tw16915328709544628589:=0
def tw18444780125816752856:=0
def tw14051833356493498601:=0
def tw5921825597446334564:=0
def tw11052783892656364279:=0
def tw11533156963218419892:=0
def tw17576670315702296099:=0
def tw10129251188715026890:=0
def tw17999354213321791319:=0
def tw10324478960469172850:=0
def tw17266961348278396327:=0
def tw3981200054542869233:=0
def tw17386063559526489629:=0
def tw14246279772534113559:=0
def tw2433244247990225023:=0
def tw15064930006663559573:=0
def tw13629684654480373985:=0
def tw7471261476311984629:=0
def tw8501884962159688649:=0
def tw6187840462984199106:=0
def tw14615495863098016241:=0
def tw3076531685062634358:=0
def tw2354964368367428253:=0
def tw18016527937019978280:=0
def tw11865350423942206408:=0
def tw8162862582824128555:=0
def tw6782582198933772859:=0
def tw15360447068092709688:=0
def tw10833445194468840795:=0
def tw5478963167791263965:=0
def tw13599015373843521755:=0
def tw7084967496093294240:=0
def tw16735563630542180487:=0
def tw10882063538866385567:=0
def tw14017023890694985409:=0
def tw14635079906022543676:=0
def tw5740754002357028232:=0
def tw2908825750029877973:=0
def tw11494722691034614856:=0
def tw5971888867983556935:=0
def tw9949890272544625492:=0
def tw11844494233984634340:=0
def tw2539051205775238680:=0
def tw13671772540514263910:=0
def tw11037700433268889748:=0
def tw11225446973910008828:=0
def tw1390285370336354106:=0
def tw6629137174546694801:=0
def tw3684506530862224268:=0
def tw15023873991670943549:=0
def tw1960676609188953988:=0
def tw5198540556759804605:=0
def tw14459995637522730020:=0
def tw8869329204238299195:=0
def tw13400132707975688722:=0
def tw8201741604592347509:=0
def tw6132846743687036827:=0
def tw8578620485226876507:=0
def tw4580613055960843998:=0
def tw6428962232343463105:=0
def tw9028554188545969606:=0
def tw14130184029621510188:=0
def tw3582319831821915545:=0
def tw10713780710631581451:=0
def tw18257775574730955445:=0
def tw17812591352319655881:=0
def tw5409221010229998195:=0
def tw17491564565455956915:=0
def tw17364918515069384477:=0
def tw1085170052887180711:=0
def tw3702762533416653418:=0
def tw6411190096801718756:=0
def tw15068625560924126415:=0
def tw4988352791984195972:=0
def tw570984209705571562:=0
def tw10349110661140467115:=0
def tw12168527118902571594:=0
def tw13892133719102796403:=0
def tw17190688924478852068:=0
def tw3273787059084536208:=0
def tw17598297690870319486:=0
def tw15987110218472824555:=0
def tw2698324924212684727:=0
def tw244710897938500674:=0
def tw320851748407178328:=0
def tw10951101574364171320:=0
def tw8849670842547580851:=0
def tw14262219080208919534:=0
def tw8005441044590750487:=0
def tw8719016724193545385:=0
def tw15194373086232295684:=0
def tw15485460215664645939:=0
def tw13610267068583287153:=0
def tw14247916577814417627:=0
def tw4831868520035285756:=0
def tw11470774037679095775:=0
def tw2133623509990982340:=0
def tw3032882540321351364:=0
def tw4943136450901172586:=0
def tw3687707415746578624:=0
def tw8019746674285279360:=0
def tw15088016336791619222:=0
def tw14401962616069175283:=0
def tw2414669442218083459:=0
def tw4844659508419027885:=0
def tw10379955260752438401:=0
def tw7086935677764402197:=0
def tw13098916897622399299:=0
def tw16904099215765173573:=0
def tw5385336894926351519:=0
def tw4638671594349931899:=0
def tw11585702109778180400:=0
def tw1461664312789845390:=0
def tw15712084833494732061:=0
def tw14377469219831088845:=0
def tw14463099205057870837:=0
def tw1432732962564499708:=0
def tw1353656525207320194:=0
def tw15008836387277635776:=0
def tw14456602170488415554:=0
def tw9326836451310310645:=0
def tw13224200547225373165:=0
def tw8518565355369393579:=0
def tw15973768633647701316:=0
def tw5934801930560736259:=0
def tw1054861131661463109:=0
def tw9248174125691178104:=0
def tw9946120571343040406:=0
def tw7707626772302128315:=0
def tw10167465600186032124:=0
def tw1422423821871881036:=0
def tw11254746730289747471:=0
def tw4437960548772993999:=0
def tw3141835953883035028:=0
def tw17510488543193591279:=0
def tw12984394376475624645:=0
def tw10566293234468015351:=0
def tw3920959712275600194:=0
def tw4770106128704765873:=0
def tw1826365002927956032:=0
def tw13187524394799930839:=0
def tw5389721262550985486:=0
def tw2698409913668132756:=0
def tw8165137020052555525:=0
def tw14498774936842310754:=0
def tw6430246282540804404:=0
def tw15494825072241718696:=0
def tw2385166650436812294:=0
def tw1078749479026291062:=0
def tw4192330845668580929:=0
def tw14250995095776452196:=0
def tw5171736194060041131:=0
def tw7647497810127944023:=0
def tw12066829968115819097:=0
def tw12622395393957366864:=0
def tw13117957876316099247:=0
def tw15815961581484885402:=0
def tw15987976759337743179:=0
def tw4070011586941356485:=0
def tw10291909009812724625:=0
def tw5432623206772466501:=0
def tw10130904549524477949:=0
def tw6834740058328343341:=0
def tw9112871482863628943:=0
def tw1582471569878824901:=0
def tw7444546015257063275:=0
def tw10707044037477434498:=0
def tw15592571294311615887:=0
def tw15555908492828976824:=0
def tw7335135809442065852:=0
def tw100967361901003711:=0
def tw3285259905733306438:=0
def tw12746440593583230621:=0
def tw6416092908200275111:=0
def tw13543442485814450415:=0
def tw6323688539716298289:=0
def tw2130556883269876888:=0
def tw1770631965697469169:=0
def tw3700169372058927178:=0
def tw4007877887860660789:=0
def tw11292898475226703979:=0
def tw17292460188255436133:=0
def tw1806954346906142045:=0
def tw9951588853533640793:=0
def tw8215381486681821127:=0
def tw10259810586327421467:=0
def tw9499672517935458086:=0
def tw16932943880012033850:=0
def tw12767761877683256106:=0
def tw11108415848061969179:=0
def tw7803555541147707553:=0
def tw2646861242334898858:=0
def tw9633236497784734978:=0
def tw5161165589065325054:=0
def tw5265874180999723883:=0
def tw5623620700470832653:=0
def tw4978726479844025643:=0
def tw18074126985991252967:=0
def tw6303442190481324569:=0
def tw5293404583689979170:=0
def tw9428574110037355531:=0
def tw82083652611354342:=0
def tw8902731818108601117:=0
def tw15033781463057943494:=0
def tw7781869797473230983:=0
def tw4338232417670592229:=0
def tw9555081418494276975:=0
def tw14641640696803077270:=0
def tw12938604482600105589:=0
def tw17331664679174289235:=0
def tw16565857678301741466:=0
def tw8938520566835053141:=0
def tw1429014322229016346:=0
def tw13676804374619562628:=0
def tw1021326312832309108:=0
def tw14303774989685285297:=0
def tw7547517862315295555:=0
def tw12322345400438353113:=0
def tw5320760545709112850:=0
def tw6830696964286573124:=0
def tw8547535960487100794:=0
def tw7956904228565591856:=0
def tw1156796637052515755:=0
def tw6734066469655606650:=0
def tw8887772256606491706:=0
def tw9773476751337421618:=0
def tw16663249426619329893:=0
def tw2898612381940728371:=0
def tw14337823531132486954:=0
def tw10254980138387821774:=0
def tw9661545585185197653:=0
def tw2969654405585800446:=0
def tw10751997819269617050:=0
def tw7608905624254608247:=0
def tw4826116333605794646:=0
def tw1074847479614546119:=0
def tw8251715240776089596:=0
def tw9242724839230888328:=0
def tw13031314132368474322:=0
def tw14907506511533332188:=0
def tw5544044889516761462:=0
def tw6125822358565861634:=0
def tw12597814823269304965:=0
def tw9345832266582400806:=0
def tw15757961347725429708:=0
def tw5663564264070880787:=0
def tw16688494153140274181:=0
def tw11892651738088553545:=0
def tw2945030930621696593:=0
def tw6318165853412657767:=0
def tw1713776497479594141:=0
def tw2156405434531253703:=0
def tw15551964781285501469:=0
def tw16358345332292286278:=0
def tw16035081905270021436:=0
def tw5626139274154527136:=0
def tw11803065301982814888:=0
def tw13194816617284707103:=0
def tw1152624933380843459:=0
def tw8972460036896161640:=0
def tw10418002127514707548:=0
def tw8911254309690610780:=0
def tw2496204479221762965:=0
def tw7744370734326352264:=0
def tw11399869482681686134:=0
def tw11970393301242911645:=0
def tw965225549027815199:=0
def tw13029955363646862193:=0
def tw8103451027522132474:=0
def tw25355475103583094:=0
def tw5671607239827343006:=0
def tw13723251052774651286:=0
def tw292236243870498967:=0
def tw14696091847677779257:=0
def tw4027057761838428770:=0
def tw17620045247057447338:=0
def tw6333136125765904066:=0
def tw12652858533191878230:=0
def tw3691219255048517530:=0
def tw16442719648326873579:=0
def tw9707837661139963957:=0
def tw8352152380803607752:=0
def tw6543193729245640974:=0
end PySem.W.Fast
open PySem PySem.W PyProof.Rows
set_option maxRecDepth 100000 in
set_option maxHeartbeats 0 in
theorem PySem.Challenge.cw_treesay_k41_joints_holds : PySem.Challenge.rw_treesay_k41_joints.Holds := by
 w_on; o_law; k_head; (case hw=>w_witness2)
 k_fill
 refine Ts.walk (l:=PySem.Challenge.rw_treesay_k41_joints) rfl rfl (fun w h Y=>by first | exact PySem.W.kIn_of Y | exact PySem.W.km_in_of Y) ?F
 case F =>
  intro w mg fa h KX G hmg
  refine' Ts.all_mk KX G hmg (Sy.K3 KX G ?_ ?_ ?_ ?_ ?_ ?_ ?_ ?_ ?_ ?_ ?_ ?_ ?_ ?_ ?_ ?_ ?_ ?_) ?_ ?_ ?_ ?_ ?_ ?_ ?_ ?_ ?_ ?_ ?_ ?_ ?_ ?_ ?_ ?_ ?_ ?_ ?_ ?_ ?_ ?_ ?_ ?_ ?_ ?_ ?_ ?_ ?_ ?_ ?_ ?_ ?_ ?_ ?_ ?_ ?_ ?_ ?_ ?_ ?_ ?_ ?_ ?_ ?_ ?_ ?_ ?_ ?_ ?_ ?_ ?_ ?_
  all_goals first | refine' Sy.K1 ?_ ⟨?_,?_,?_,?_⟩ (L2.j5 ?_ ?_ ?_) ⟨?_,?_,?_,?_⟩ ?_ | refine' Sy.KZ ?_ ⟨?_,?_,?_,?_⟩ (L2.j5 ?_ ?_ ?_) | refine' Ts.Rj ⟨?_,?_,?_⟩ (L2.j5 ?_ ?_ ?_) | refine' Ts.Ri ?_ (L2.j5 ?_ ?_ ?_) | refine' Ts.Es ?_ ?_ ?_ | refine' ⟨?_,?_,?_,?_⟩ | skip
  all_goals repeat' first | refine' And.intro ?_ ?_ | exact True.intro
  all_goals first | k_is | skip
  all_goals first | k_is | skip
