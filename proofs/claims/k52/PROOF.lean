import PyProof.Rows.All
import Wide.All
import OpenK.AllK
import Wide.FinOn
import Lean
import PyProof.EqAt
import PyProof.EqKinds
import PyProof.TupleCall
import PyProof.NeKinds
import PyProof.EnumStmt
import PyProof.EnumMake
import PyProof.CompFree
import PyProof.Rows.FStr
import PySem.Challenge.RW_treesay_k52_walks_told
open PySem renaming wpAny_bind->aar,wpAny_pure->aat,boot_len->aa8,wpAny_setState_of->abd,mainGlobals->abg,wpAny_holding->abo,wpAny_Call_Name_kw->abt,mem_of_lookup->aby,wpAny_truthy_bool->ab1,Spec->ab2,wpAny_setEpoch_of->ach,wpAny_call_entry->acj,wpAny_mono->acn,fits_of_scanBound->acq,wpAny_storeSet_of->acr,codeAny_builtin->acy,builtinLookup_eq_fast->ac4,wpAny_passesOwn->ac5,wpAny_newObj_type->ac9,wpAny_updateSeq->adh,plainId_quiet->adl,wpAny_setField->adq,codeAny_mono->adw,wpAny_askSetting->adx,wpAny_forIn_list->ady,wpAny_isInstance->adz,typeLookup_type->ad4,wpAny_rule->ad7,wpAny_callSpecial?_slot->aeb,wpAny_seqItems->aee,wpAny_field->aeh,wpAny_execs_nil->aek,entryFor_alias->aeo,tupleKind_room_in1->aep,sizeLine_eq->aev,wpAny_pyIter_list->aew,sub_set_self->ae3,wpAny_ite_split->ae4,wpAny_specialOf->ae5,seqIndex_of->afa,wpAny_attempt->afe,wpAny_standAt->afg,call_meets->afl,Within->afp,seqIndex_neg->afr,wpAny_typeOf->afs
open List renaming getElem?_eq_getElem->aas,range->aax,getElem?_eq_some_iff->aa6,getElem?_eq_none->ab3,lookup->ac6,not_mem_nil->ae1
open Bool renaming false_ne_true->aau,and_eq_true->aaz,false_eq_true->aa1,eq_iff_iff->abw,not_true->ab4,or_eq_true->acs,false_or->aef,and_false->ae6,not_false->ae7,and_self->afb
open Nat renaming le_refl->aav,ne_of_lt->aa0,lt_of_lt_of_le->aa2,le_trans->aa4,lt_of_le_of_lt->aa5,zero_le->abk,le_add_right->abn,succ_le_succ->abp,lt_irrefl->abx,le_succ->ace,le_of_lt->aco,lt_succ_self->ac2,zero_add->ac7,lt_succ_of_lt->adn,lt_trans->adt,ne_of_gt->adu,add_lt_add_left->ad1,not_lt_zero->aej,succ_pos->aen,le_of_lt_succ->aer,le_of_succ_le->aes,mod_lt->afh,not_lt->afi,sub_self->afo
open Array renaming getElem?_eq_getElem->aaw,getElem?_eq_none->abf
open PySem.PassesOwn renaming never->aay
open Option.some renaming inj->aa3
open PySem.F renaming plainAttrs_list->aa7,slot_list_append->aa9,type_list_append->abb,plain_extend_loop->acz,slot_zip_next->aei
open PySem.NameKind renaming free->abe,cell->ab6
open PySem.Builtin renaming bitAnd->abh,bitNot->adf,bitOr->adi
open PySem.Value renaming ref->abj,int->acf,type->ac3,none->adb,str->adk,isInt_shape->ado,bool->afk,float->afw
open PyProof.Rows renaming callWith_type1->abl,envOfC->ael,Constant_none->afc
open Sum renaming inl->abm,inr->ab8
open False renaming elim->abq
open Int renaming toNat_natCast->abr,emod_lt_of_pos->aci,emod_nonneg->acv,ofNat->ac1,natCast_nonneg->adg,le_refl->aeg
open PySem.Builtin.Frozenset renaming unchanged->abu,slot1->ade,sizeOf->ad2
open Ne renaming symm->abv
open PySem.Obj renaming mapSeq->abz,mapFields->aex,putSet->afj
open PySem.Builtin.List renaming listExtendWith->ab0,listLengthHint->ac0,listSameRef->ada,listTooLong->ad3
open PySem.Builtin.SmallTypes renaming ownedTupleIsFree->ab5,nextOf->ad0
open Option renaming isSome_iff_exists->ab7,isSome_some->ad6,isSome_map->aeu,none->ae8
open PySem.Around renaming under_plainId->ab9,under->afm
open Classical renaming propDecidable->acd
open LawfulBEq renaming eq_of_beq->acg
open PySem.Builtin.Range renaming rangeSize->acp
open ForInStep renaming yield->acu
open True renaming intro->acw
open PySem.Str renaming ofString->ac8,empty->aea
open PySem.W renaming cellsFrom_some->adp,kia_one->aed,methodCall_KW->ae0,callWith_K->ae2,plainGet_of->ae9
open PySem.Calls renaming spliced_cons->ad5,spliced_nil->aec
open PySem.Builtin.Str renaming occurrences->ad8
open PyProof.Rows.F renaming plain_set_update_loop->ad9
open Iff renaming rfl->aem
open PySem.Paired renaming length->aey
open PySem.SetTable renaming fill->aez
open PySem.Value.ref renaming inj->afd
open PySem.Code renaming isFrame->afn
open PySem.pickOrder renaming go->afq
open PySem.Data renaming fields->aft
open PySem.IsRange renaming new->afu
open Sum.inl renaming inj->afv
open PySem.W (instObj methodObj lookIn plainGet hasDictIn findIn plainGet_of isFn takerIn typeIn emptyDict specialIn keepIn takesIn mroIn kitOne kia_one callWith_K methodCall_KW cellsFrom_some fnOf codeIn kitCls isClsIn nsIn mg_of)
open List (mem_filter mem_range filterMap_cons mem_cons_self mem_cons_of_mem mem_cons mem_append mem_append_left getElem_inj mem_append_right size_toArray any_eq_false length_cons map_cons length_map append_nil nodup_cons of_mem_zip replicate length_take getElem?_append_right getElem?_replicate getElem?_append_left getElem?_map getElem?_take_of_lt mem_of_getElem? length_append find?_cons any_cons length_nil map_nil length_drop length_set all_cons length_singleton Pairwise forIn_cons lookup_cons forIn_nil all_eq_true lookup_append getD_eq_getElem?_getD toArray getElem?_cons_zero map_append mem_map any_append take_append_drop take_add_one take_length getElem?_range length_range getElem?_zip_eq_some nil_append range_succ_eq_map range_succ filter_cons length_filter_le mem_iff_getElem? nodup_nil mem_singleton nodup_append filter_eq_self getElem_of_mem getElem_mem Perm pairwise_cons getElem?_toArray length_eq_zero_iff length_eraseIdx append_assoc map_map filterMap map_id' mem_flatten flatten_append flatten_singleton any_eq_true length_pos_of_mem flatten_cons exists_mem_of_length_pos)
open PySem.Heap (lt_size SameBut get?_push_of_some get?_push_size size_push get?_update_self get?_update_other size_update)
open Array (length_toList getElem?_toList toArray_toList toList_push forIn_toList size_map)
open PySem.SetTable (below insertAt probe grown fits eraseAt)
set_option Elab.async false
set_option linter.all false
set_option maxRecDepth 100000
abbrev LI:=List Int
namespace L2
open PySem PySem.Spec PyProof.Rows
abbrev Key:=Sum Int Str
def Qa:Key->Value->Bool
 |.inl k,v=>Value.isInt k v
 |.inr x,v=>Value.isStrOf x v
def X7(w:World):Key->Int
 |.inl k=>hashInt k
 |.inr x=>hashStr w x
theorem wI:∀{k:Key}{v:Value},Qa k v=true->(∃i t,k=abm i/\v=acf i t)\/(∃x t,k=ab8 x/\v=adk x t)
 |.inl i,v,h=>by
  obtain⟨t,e⟩:=ado (k:=i) (v:=v) h
  exact .inl ⟨i,t,rfl,e⟩
 |.inr x,v,h=>by
  obtain⟨t,e⟩:=Value.isStrOf_shape (x:=x) (v:=v) h
  exact .inr ⟨x,t,rfl,e⟩
theorem zR0(i:Int)(t:Tok):Qa (.inl i) (.int i t)=true:=by simp[Qa,Value.isInt]
theorem zRz(x:Str)(t:Tok):Qa (.inr x) (.str x t)=true:=by simp[Qa,Value.isStrOf]
theorem Ks(a b:Int):decide ((abm a:Key)=abm b)=(a==b):=by
 by_cases e:a=b
 ·subst e;simp
 ·have h:¬(abm a:Key)=abm b:=λq=>e (afv q)
  rw[decide_eq_false h]
  exact(beq_eq_false_iff_ne.mpr e).symm
theorem Ku(a b:Str):decide ((ab8 a:Key)=ab8 b)=decide (a=b):=by
 by_cases e:a=b
 ·subst e;simp
 ·have h:¬(ab8 a:Key)=ab8 b:=λq=>e (Sum.inr.inj q)
  rw[decide_eq_false h,decide_eq_false e]
theorem Kv(a:Int)(b:Str):decide ((abm a:Key)=ab8 b)=false:=decide_eq_false (λq=>nomatch q)
theorem Kw(a:Str)(b:Int):decide ((ab8 a:Key)=abm b)=false:=decide_eq_false (λq=>nomatch q)
def vG(prog:Program)(w:World):PySem.KeyKind prog w Key where
 is:=Qa
 hash:=X7 w
 inj:=λv a b ha hb=>by
  rcases wI ha with⟨i,t,rfl,rfl⟩|⟨x,t,rfl,rfl⟩
  ·rcases wI hb with⟨j,u,rfl,e⟩|⟨y,u,rfl,e⟩
   ·injection e with e1 _;rw[e1]
   ·exact nomatch e
  ·rcases wI hb with⟨j,u,rfl,e⟩|⟨y,u,rfl,e⟩
   ·exact nomatch e
   ·injection e with e1 _;rw[e1]
 byValue:=λk v h=>by
  rcases wI h with⟨i,t,rfl,rfl⟩|⟨x,t,rfl,rfl⟩<;>rfl
 pyHash:=λhv h=>by
  rcases wI hv with⟨i,t,rfl,rfl⟩|⟨x,t,rfl,rfl⟩
  ·exact wpAny_pyHash_int h
  ·exact wpAny_pyHash_str h
 eqBool:=λhu hv h=>by
  rcases wI hu with⟨i,t,rfl,rfl⟩|⟨x,t,rfl,rfl⟩
  ·rcases wI hv with⟨j,u,rfl,rfl⟩|⟨y,u,rfl,rfl⟩
   ·rw[Ks] at h;exact wpAny_eqBool_int h
   ·rw[Kv] at h;exact SeqAt.EqAt.int_str i t y u _ _ _ _ h
  ·rcases wI hv with⟨j,u,rfl,rfl⟩|⟨y,u,rfl,rfl⟩
   ·rw[Kw] at h;exact SeqAt.EqAt.str_int x t j u _ _ _ _ h
   ·rw[Ku] at h;exact wpAny_eqBool_str h
 «strs»:=λk x t v h=>by
  rcases wI h with⟨i,u,rfl,e⟩|⟨y,u,rfl,e⟩
  ·exact nomatch e
  ·injection e with e1 _
   subst e1
   cases v<;>rfl
theorem zLz(prog:Program)(w:World)(i:Int)(t:Tok):(vG prog w).is (.inl i) (.int i t)=true:=zR0 i t
theorem zLy(prog:Program)(w:World)(x:Str)(t:Tok):(vG prog w).is (.inr x) (.str x t)=true:=zRz x t
inductive V where
 |non|bl (b:Bool)|int (i:Int)|str (x:Str)|Fd (b:Array UInt8)|flt (b:UInt64)|ref (a:Addr)|ty (n:String)
 deriving DecidableEq
def RelV:V->Value->Prop
 |.non,u=>u=adb
 |.bl b,u=>u=afk b
 |.int i,u=>∃t,u=acf i t
 |.str x,u=>∃t,u=adk x t
 |.Fd b,u=>∃t,u=Value.bytes b t
 |.flt b,u=>∃t,u=afw b t
 |.ref a,u=>u=abj a
 |.ty n,u=>u=ac3 n
abbrev Vals:List V->List Value->Prop:=Paired RelV
theorem Vals.length(r:Vals xs us):xs.length=us.length:=aey r
theorem Vals.get:∀{xs:List V}{us:List Value}{i:Nat}{x:V},Vals xs us->xs[i]?=some x->∃u,us[i]?=some u/\RelV x u
 |_,_,_,_,.nil,e=>by simp at e
 |_,_,0,_,.cons r _,e=>by simp at e;subst e;exact⟨_,rfl,r⟩
 |_,_,i+1,x,.cons _ t,e=>by
  obtain⟨u,h1,h2⟩:=Vals.get (i:=i) (x:=x) t (by simpa using e)
  exact⟨u,by simpa using h1,h2⟩
theorem Vals.set(r:RelV x u):∀{xs:List V}{us:List Value}(i:Nat),Vals xs us->Vals (xs.set i x) (us.set i u)
 |_,_,_,.nil=>.nil
 |_,_,0,.cons _ t=>.cons r t
 |_,_,i+1,.cons q t=>.cons q (Vals.set r i t)
theorem Vals.append:∀{xs ys:List V}{us ws:List Value},Vals xs us->Vals ys ws->Vals (xs++ys) (us++ws)
 |_,_,_,_,.nil,s=>s
 |_,_,_,_,.cons r t,s=>.cons r (Vals.append t s)
theorem Vals.take:∀{xs:List V}{us:List Value}(n:Nat),Vals xs us->Vals (xs.take n) (us.take n)
 |_,_,0,_=>.nil
 |_,_,_+1,.nil=>.nil
 |_,_,n+1,.cons r t=>.cons r (Vals.take n t)
theorem Vals.drop:∀{xs:List V}{us:List Value}(n:Nat),Vals xs us->Vals (xs.drop n) (us.drop n)
 |_,_,0,r=>r
 |_,_,_+1,.nil=>.nil
 |_,_,n+1,.cons _ t=>Vals.drop n t
theorem Vals.none_of:∀{xs:List V}{us:List Value}{i:Nat},Vals xs us->xs[i]?=none->us[i]?=none:=λ{xs us i} r e=>by
 have h1:=r.length
 have h2:xs.length<=i:=List.getElem?_eq_none_iff.mp e
 exact List.getElem?_eq_none_iff.mpr (by omega)
def jq:Option V->Option Value->Prop
 |some v,some u=>RelV v u
 |none,none=>True
 |_,_=>False
def KV{κ:Type}:List (κ×V)->List (κ×Value)->Prop:=Paired λ(p:κ×V) (q:κ×Value)=>p.1=q.1/\RelV p.2 q.2
def kV:Key->V
 |.inl i=>.int i
 |.inr x=>.str x
inductive HO where
 |lst (xs:List V)
 |tup (xs:List V)
 |dK (kvs:List (Key×V))|dT (kvs:List (List Key×V))
 |set (S:Int->Bool) (n:Nat)
 |ins (C dx:Addr) (fs:List (Str×V))
 |own (x:Addr)
 |xd (fs:List (Str×V))
 |met (f x:Addr)
 |rng (lo hi:Int)
 |vh (o:Obj) (u:HO)
 |Ky (ps:Array Value)
 |ext (φ:Heap->Prop)
abbrev Hp:=Addr->Option HO
def upd(H:Hp)(a:Addr)(o:HO):Hp:=λb=>if b=a then some o else H b
theorem zT:upd H a o a=some o:=by unfold upd;rw[if_pos rfl]
theorem zX(h:b≠a):upd H a o b=H b:=by unfold upd;rw[if_neg h]
theorem Fe:upd (upd H a o) a u=upd H a u:=by
 funext b;unfold upd;split<;>rfl
theorem Rn{H:Hp}{a b:Addr}{o u:HO}(h:H a=some o)(h':H b=some u)(d:o≠u):a≠b:=by
 intro e;subst e;rw[h] at h';exact d (aa3 h')
theorem zU{H:Hp}{a b:Addr}{o:HO}(h:H a=some o)(h':H b=none):a≠b:=by
 intro e;subst e;rw[h] at h';cases h'
section
variable(P:Program)(w:World)
def bw(H:Hp)(h:Heap)(a:Addr):HO->Prop
 |.lst xs=>xs.length<=sizeLine/\∃(its:List Value)(n:Nat),Vals xs its/\h.get? a=some { cls:=.type "list",data:=.seq its.toArray n }
 |.tup xs=>xs.length<=sizeLine/\∃its:List Value,Vals xs its/\IsTup h a its.toArray
 |.dK kvs=>kvs.length<=sizeLine/\(a==sysModules)=false/\∃vs,KV kvs vs/\h.DictOf (vG P w) a vs
 |.dT kvs=>kvs.length<=sizeLine/\(a==sysModules)=false/\∃xs:List (List Key×Addr×Value),
   Paired (λ(p:List Key×V) (q:List Key×Addr×Value)=>p.1=q.1/\H q.2.1=some (.tup (p.1.map kV))/\RelV p.2 q.2.2) kvs xs /\
   ∃o es ep,h.get? a=some o/\o.ExactDict/\o.data=.dict es ep/\es.toList=xs.map (entryOfKey (tupleKind (vG P w)))/\(xs.map (·.1)).Nodup
 |.set S n=>h.SetOf (intKind P w) a S n
 |.ins C dx fs=>H dx=some (.own a)/\fs.length<=1000/\dx≠a/\h.get? a=some (instObj C dx) /\
   ∃mA,h.Ns1 dx mA/\(∀f,jq (fs.lookup f) (mA f))/\afp mA (fs.map (·.1))
 |.own _=>∃o,h.get? a=some o
 |.xd fs=>∃mA,h.Ns1 a mA/\∀f,jq (fs.lookup f) (mA f)
 |.rng lo hi=>∃t u v,h.get? a=some { cls:=.type "range",data:=.fields #[.int lo t,.int hi u,.int 1 v] }
 |.vh o u=>h.get? a=some o/\bw H h a u
 |.Ky ps=>h.get? a=some { cls:=.none,data:=.fields ps }
 |.met f x=>h.get? a=some (methodObj (.ref f) (.ref x))
 |.ext φ=>φ h/\(∃o,h.get? a=some o)/\∀h1 h2:Heap,φ h1->(∀o,h1.get? a=some o->h2.get? a=some o)->φ h2
def h_(H:Hp)(h:Heap):Prop:=∀a o,H a=some o->bw P w H h a o
end
section
variable{P:Program}{w:World}{H H':Hp}{h h':Heap}{a:Addr}{o:HO}
theorem bw.lt(x:bw P w H h a o):a<h.objs.size:=by
 cases o with
 |lst xs=>obtain⟨_,_,_,_,e⟩:=x;exact lt_size e
 |tup xs=>obtain⟨_,_,_,p⟩:=x;exact p.lt
 |dK kvs=>obtain⟨_,_,_,_,o,_,_,e,_⟩:=x;exact lt_size e
 |dT kvs=>obtain⟨_,_,_,_,o,_,_,e,_⟩:=x;exact lt_size e
 |set S n=>obtain⟨o,_,_,_,e,_⟩:=x;exact lt_size e
 |ins C dx fs=>obtain⟨_,_,_,e,_⟩:=x;exact lt_size e
 |own y=>obtain⟨_,e⟩:=x;exact lt_size e
 |xd fs=>obtain⟨_,⟨_,_,_,e,_⟩,_⟩:=x;exact lt_size e
 |rng lo hi=>obtain⟨_,_,_,e⟩:=x;exact lt_size e
 |vh ob u=>obtain⟨e,_⟩:=x;exact lt_size e
 |Ky ps=>exact lt_size (show h.get? a=some _ from x)
 |met f y=>exact lt_size (show h.get? a=some _ from x)
 |ext φ=>obtain⟨_,⟨_,e⟩,_⟩:=x;exact lt_size e
theorem Paired.Kz{α β:Type}{F G:α->β->Prop}:∀{l₁:List α}{l₂:List β},Paired F l₁ l₂->(∀a b,F a b->G a b)->Paired G l₁ l₂
 |_,_,.nil,_=>.nil
 |_,_,.cons r t,f=>.cons (f _ _ r) (Paired.Kz t f)
theorem bw.stay(x:bw P w H h a o)(k:∀b u,(b=a\/H b=some (.own a))->h.get? b=some u->h'.get? b=some u)(ho:∀b,H b=some (.own a)->H' b=some (.own a))(ht:∀b xs,H b=some (.tup xs)->H' b=some (.tup xs)):bw P w H' h' a o:=by
 induction o with
 |lst xs=>obtain⟨z,its,n,r,e⟩:=x;exact⟨z,its,n,r,k _ _ (.inl rfl) e⟩
 |tup xs=>obtain⟨z,its,r,ob,e,c⟩:=x;exact⟨z,its,r,ob,k _ _ (.inl rfl) e,c⟩
 |dK kvs=>obtain⟨z,y,vs,r,ob,es,ep,e,c⟩:=x;exact⟨z,y,vs,r,ob,es,ep,k _ _ (.inl rfl) e,c⟩
 |dT kvs =>
  obtain⟨z,y,xs,r,ob,es,ep,e,c⟩:=x
  exact⟨z,y,xs,Paired.Kz r λp q z=>⟨z.1,ht _ _ z.2.1,z.2.2⟩,ob,es,ep,k _ _ (.inl rfl) e,c⟩
 |set S n=>obtain⟨ob,es,ep,t,e,c⟩:=x;exact⟨ob,es,ep,t,k _ _ (.inl rfl) e,c⟩
 |ins C dx fs =>
  obtain⟨d,z,ne,e,mA,⟨od,es,ep,e2,c⟩,r⟩:=x
  exact⟨ho _ d,z,ne,k _ _ (.inl rfl) e,mA,⟨od,es,ep,k _ _ (.inr d) e2,c⟩,r⟩
 |own y=>obtain⟨ob,e⟩:=x;exact⟨ob,k _ _ (.inl rfl) e⟩
 |xd fs=>obtain⟨mA,⟨od,es,ep,e,c⟩,r⟩:=x;exact⟨mA,⟨od,es,ep,k _ _ (.inl rfl) e,c⟩,r⟩
 |rng lo hi=>obtain⟨t,u,v,e⟩:=x;exact⟨t,u,v,k _ _ (.inl rfl) e⟩
 |vh ob u ih=>obtain⟨e,q⟩:=x;exact⟨k _ _ (.inl rfl) e,ih q⟩
 |Ky ps =>
  have e:h.get? a=some { cls:=.none,data:=.fields ps }:=x
  show h'.get? a=some { cls:=.none,data:=.fields ps }
  exact k a _ (.inl rfl) e
 |met f y =>
  have e:h.get? a=some (methodObj (.ref f) (.ref y)):=x
  show h'.get? a=some (methodObj (.ref f) (.ref y))
  exact k a _ (.inl rfl) e
 |ext φ=>obtain⟨p,⟨o,e⟩,st⟩:=x;exact⟨st _ _ p λo q=>k _ _ (.inl rfl) q,⟨o,k _ _ (.inl rfl) e⟩,st⟩
theorem h_.lt(x:h_ P w H h)(e:H a=some o):a<h.objs.size:=(x a o e).lt
theorem h_.fresh(x:h_ P w H h)(e:h.objs.size<=a):H a=none:=by
 cases q:H a with
 |none=>rfl
 |some u=>exact absurd (aa2 (x.lt q) e) (abx _)
theorem h_.kept(x:h_ P w H h)(k:∀b u,h.get? b=some u->h'.get? b=some u):h_ P w H h':=λa o e =>
 (x a o e).stay (λb u _ q=>k b u q) (λ_ q=>q) λ_ _ q=>q
theorem h_.laid(x:h_ P w H h)(k:∀b u,h.get? b=some u->h'.get? b=some u)(hp:h.objs.size<=a)(new:bw P w (upd H a o) h' a o):h_ P w (upd H a o) h':=λb u e=>by
 have hn:=x.fresh hp
 by_cases hb:b=a
 ·subst hb;rw[zT] at e;cases e;exact new
 ·rw[zX hb] at e
  exact(x b u e).stay (λc v _ q=>k c v q) (λc q=>by rw[zX (zU q hn)];exact q) λc xs q=>by rw[zX (zU q hn)];exact q
end
def Rd(H:Hp)(a:Addr)(u:HO):Prop:=H a=some u\/∃o,H a=some (.vh o u)
theorem Rd.ok(r:Rd H a u)(x:h_ P w H h):bw P w H h a u:=by
 rcases r with r|⟨o,r⟩
 ·exact x a u r
 ·obtain⟨_,q⟩:=x a _ r
  exact q
def Ro:Option HO->Prop
 |some (.lst _)=>True
 |some (.dK _)=>True
 |some (.dT _)=>True
 |some (.set _ _)=>True
 |some (.ins _ _ _)=>True
 |some (.ext _)=>True
 |_=>False
section
variable{P:Program}{w:World}{H:Hp}{h h':Heap}{x e:Addr}{o':HO}
theorem h_.write(ok:h_ P w H h)(mu:Ro (H x))(he:e=x\/H e=some (.own x))(k:∀b u,b≠e->h.get? b=some u->h'.get? b=some u)(heo:∃u,h'.get? e=some u)(new:bw P w (upd H x o') h' x o'):h_ P w (upd H x o') h':=λb u q=>by
 have Rq:∀c y,H c=some (.own y)->c≠x:=λc y r z=>by subst z;rw[r] at mu;exact mu
 have X8:∀c xs,H c=some (.tup xs)->c≠x:=λc xs r z=>by subst z;rw[r] at mu;exact mu
 by_cases hb:b=x
 ·subst hb;rw[zT] at q;cases q;exact new
 ·rw[zX hb] at q
  by_cases hbe:b=e
  ·have q':H b=some (.own x):=by
    rcases he with z|z
    ·exact absurd (hbe.trans z) hb
    ·rw[hbe];exact z
   rw[q] at q';cases q'
   obtain⟨v,hv⟩:=heo
   exact⟨v,by rw[hbe];exact hv⟩
  ·refine(ok b u q).stay (λc v hc r=>k c v ?_ r) (λc r=>by rw[zX (Rq c b r)];exact r) λc xs r=>by rw[zX (X8 c xs r)];exact r
   rcases hc with rfl|hc
   ·exact hbe
   ·rintro rfl
    rcases he with z|z
    ·exact Rq c b hc z
    ·rw[hc] at z;cases z;exact hb rfl
end
structure Un(fs ex:List Addr)(H H':Hp)(h h':Heap):Prop where
 keep:∀b o,h.get? b=some o->H b=none->b∉fs->b∉ex->h'.get? b=some o
 slot:∀b o,h.get? b=some o->H b=none->b∈fs->b∉ex->∃sl,h'.get? b=some { o with slots:=sl }
 free:∀b o,h.get? b=some o->H b=none->b∉ex->H' b=none
 there:∀b o,h.get? b=some o->b∉ex->∃o',h'.get? b=some o'
 tups:∀b xs,H b=some (.tup xs)->H' b=some (.tup xs)
 mJ:∀b o u,H b=some (.vh o u)->H' b=some (.vh o u)
 oX:∀b ps,H b=some (.Ky ps)->∃more,H' b=some (.Ky (ps++more))
section
variable{fs fs' ex ex':List Addr}{H H1 H2:Hp}{h h1 h2 h':Heap}{a x e:Addr}{o:HO}
theorem Un.any(u:Un fs ex H H1 h h1)(q:h.get? b=some ob)(n:H b=none)(hx:b∉ex):∃sl,h1.get? b=some { ob with slots:=sl }:=by
 by_cases hb:b∈fs
 ·exact u.slot b ob q n hb hx
 ·exact⟨ob.slots,u.keep b ob q n hb hx⟩
theorem Un.kept(k:∀b u,h.get? b=some u->h'.get? b=some u):Un fs ex H H h h' :=
 ⟨λb ob q _ _ _=>k b ob q,λb ob q _ _ _=>⟨ob.slots,k b ob q⟩,λ_ _ _ n _=>n,λb ob q _=>⟨ob,k b ob q⟩,λ_ _ q=>q,λ_ _ _ q=>q,λ_ ps q=>⟨#[],by rw[q];simp⟩⟩
theorem Un.refl:Un fs ex H H h h:=Un.kept λ_ _ q=>q
theorem Un.laid(k:∀b u,h.get? b=some u->h'.get? b=some u)(hp:h.objs.size<=a)(hn:H a=none):Un fs ex H (upd H a o) h h' where
 keep:=λb u q _ _ _=>k b u q
 slot:=λb u q _ _ _=>⟨u.slots,k b u q⟩
 free:=λb u q n _=>by rw[zX (aa0 (aa2 (lt_size q) hp))];exact n
 there:=λb u q _=>⟨u,k b u q⟩
 tups:=λb xs q=>by rw[zX (zU q hn)];exact q
 mJ:=λb u xs q=>by rw[zX (zU q hn)];exact q
 oX:=λb ps q=>⟨#[],by rw[zX (zU q hn),q];simp⟩
theorem Un.write(mu:Ro (H x))(he:e=x\/H e=some (.own x))(k:∀b u,b≠e->h.get? b=some u->h'.get? b=some u)(heo:∃u,h'.get? e=some u):Un fs ex H (upd H x o) h h':=by
 have hx:∀b,H b=none->b≠x:=λb n z=>by subst z;rw[n] at mu;exact mu
 have hb:∀b,H b=none->b≠e:=λb n z=>by
  subst z
  rcases he with r|r
  ·exact hx b n r
  ·rw[n] at r;cases r
 have hm:∀b u,H b=some u->¬Ro (some u)->b≠x:=λb u q nm z=>by subst z;rw[q] at mu;exact nm mu
 refine⟨λb u q n _ _=>k b u (hb b n) q,λb u q n _ _=>⟨u.slots,k b u (hb b n) q⟩,λb u q n _=>by rw[zX (hx b n)];exact n,λb u q _=>?_,
  λb xs q=>by rw[zX (hm b _ q λz=>z)];exact q,λb u xs q=>by rw[zX (hm b _ q λz=>z)];exact q,λb ps q=>⟨#[],by rw[zX (hm b _ q λz=>z),q];simp⟩⟩
 by_cases hbe:b=e
 ·subst hbe;exact heo
 ·exact⟨u,k b u hbe q⟩
end
def VJ(h:Heap)(H:Hp):List Addr:=(aax h.objs.size).filter λa=>(H a).isSome
def p7(h:Heap)(H:Hp):Heap:=PySem.W.hideAll h (VJ h H)
theorem zR8(h:Heap)(H:Hp):(p7 h H).objs.size=h.objs.size:=PySem.W.hideAll_size _ _
theorem zVe{h:Heap}(e:h.get? b=some o)(n:H b=none):(p7 h H).get? b=some o :=
 PySem.W.hideAll_get _ e λhm=>by
  have q:(H b).isSome=true:=(mem_filter.mp hm).2
  rw[n] at q;simp at q
theorem Fg(e:(p7 h H).get? b=some o):h.get? b=some o/\H b=none:=by
 have e':h.get? b=some o:=PySem.W.of_hideAll (VJ h H) e
 refine⟨e',?_⟩
 cases q:H b with
 |none=>rfl
 |some x =>
  have hm:b∈VJ h H:=mem_filter.mpr ⟨mem_range.mpr (lt_size e'),by simp[q]⟩
  have z:(p7 h H).get? b=none:=PySem.W.hideAll_none (VJ h H) hm
  rw[z] at e;cases e
def Fi(g h:Heap)(L:Addr):List (Addr×Obj):=(aax h.objs.size).filterMap λa=>if a=L\/(g.get? a).isSome=true then none else(h.get? a).map λo=>(a,o)
def rest(g h:Heap)(L d:Addr):List (Addr×Obj):=(Fi g h L).filter λp=>decide (p.1≠d)
structure Mod(K:PySem.W.Frag)(mg:Str->Option Value)(base:Heap):Prop where
 Qc:K.In base
 glob:base.Ns abg mg
 blt:∃mb,base.Ns builtinsNs mb/\∀x:Str,x ≠ "__name__"->mb x=bootBuiltins x
 nolimit:base.NoLimit
structure Cx where
 prog:Program
 w:World
 K:PySem.W.Frag
 mg:Str->Option Value
 base:Heap
 A:Around
 N:List Str
 s₀:Shared
 H₀:Hp
 env:Env
 outer:List Env
 stack:List Env
 ex:List Addr
 fn:Str->Bool
 calm:Bool
 pn:List (Addr×Obj)
 xe:Value->Shared->Prop
def frs(l:List Env):List Addr:=l.filterMap (·.frame)
abbrev Cx.fs(X:Cx):List Addr:=frs X.outer
def Rr(sc:Scope)(x:Str):Prop:=sc.names.lookup x=some .local\/sc.names.lookup x=some .cell\/sc.names.lookup x=some .free
def Loc(sc:Scope)(x:Str):Prop:=sc.names.lookup x=some .local\/sc.names.lookup x=some .cell
def Look(env:Env)(h:Heap)(m:Str->Option Value)(x:Str)(u:Value):Prop :=
 (env.kindOf x=some .local/\m x=some u)\/((env.kindOf x=some .cell\/env.kindOf x=some .free)/\∃c,env.cells.lookup x=some c/\h.IsCell c (some u))
structure Cx.Ok(X:Cx):Prop where
 mod:Mod X.K X.mg X.base
 kind:X.env.scope.kind=.function
 glob:X.env.globals=abg
 blt:X.env.builtins=builtinsNs
 above:X.s₀.heap.objs.size<=X.env.locals
 inj:∀x y c,X.env.cells.lookup x=some c->X.env.cells.lookup y=some c->x=y
 has:∀x,(X.env.kindOf x=some .cell\/X.env.kindOf x=some .free)->∃c,X.env.cells.lookup x=some c
 cab:∀x c,X.fn x=true->X.env.cells.lookup x=some c->X.s₀.heap.objs.size<=c
 hd:X.calm=true->X.A.handled=none
 frames:X.A.frames=some X.stack
 stk:X.stack=X.outer\/(X.stack=X.env::X.outer/\X.env.frame=some X.env.locals)
 VL:∀b∈X.ex,b≠X.env.locals/\∀x c,X.env.cells.lookup x=some c->c≠b
 bs:∀b o,X.base.get? b=some o->X.s₀.heap.get? b=some o/\X.H₀ b=none
 Fj:X.base.objs.size<=X.s₀.heap.objs.size
 Bk:∀b o,X.base.get? b=some o->b∉X.ex
 Bo:∀b∈X.ex,b∉X.fs
 lY:X.s₀.heap.FunFrames X.base X.outer
 KC:∀b∈X.fs,X.H₀ b=none
structure Inv(X:Cx)(pins:List (Addr×Obj))(σ:List (Option V))(H:Hp)(s:Shared):Prop where
 ok:X.Ok
 os:s.os=X.s₀.os
 bare:AllBare s.gens
 base:Un X.fs X.ex X.H₀ H X.s₀.heap s.heap
 loc:∃m,s.heap.Ns X.env.locals m/\∀(i:Nat)(x:Str)(v:V),X.N[i]?=some x->σ[i]?=some (some v)->Rr X.env.scope x->∃u,RelV v u/\Look X.env s.heap m x u
 cell:∀x c,X.env.cells.lookup x=some c->∃v,s.heap.IsCell c v
 free:H X.env.locals=none
 ig:∀x c,X.env.cells.lookup x=some c->H c=none
 pin:∀p∈X.pn++pins,s.heap.get? p.1=some p.2/\H p.1=none/\p.1≠X.env.locals/\p.1∉X.fs/\∀v,p.2.data≠.cell v
 hok:h_ X.prog X.w H s.heap
 len:σ.length=X.N.length
section
variable{X:Cx}{pins:List (Addr×Obj)}{σ:List (Option V)}{H H':Hp}{s:Shared}{h':Heap}
theorem Cx.Ok.X_(ok:X.Ok)(e:X.base.get? b=some o):b∉X.fs:=λhb=>by
 have:=(ok.lY.mem hb).1
 rw[e] at this;cases this
theorem Inv.bs(I:Inv X pins σ H s):∀b o,X.base.get? b=some o->s.heap.get? b=some o/\H b=none:=λb o e =>
 ⟨I.base.keep b o (I.ok.bs b o e).1 (I.ok.bs b o e).2 (I.ok.X_ e) (I.ok.Bk b o e),I.base.free b o (I.ok.bs b o e).1 (I.ok.bs b o e).2 (I.ok.Bk b o e)⟩
theorem Inv.bk(I:Inv X pins σ H s):∀b o,X.base.get? b=some o->s.heap.get? b=some o:=λb o e=>(I.bs b o e).1
theorem Inv.mod(I:Inv X pins σ H s):Mod X.K X.mg X.base:=I.ok.mod
theorem Inv.jV(I:Inv X pins σ H s):X.K.In s.heap:=I.ok.mod.Qc.keeps I.bk
theorem Inv.nolimit(I:Inv X pins σ H s):s.heap.NoLimit:=I.ok.mod.nolimit.keeps I.bk
theorem Inv.lt(I:Inv X pins σ H s):X.env.locals<s.heap.objs.size:=let⟨_,hn,_⟩:=I.loc;hn.lt
theorem Inv.sz(I:Inv X pins σ H s):X.s₀.heap.objs.size<=s.heap.objs.size:=aa4 I.ok.above (aco I.lt)
theorem Inv.KD(I:Inv X pins σ H s)(h:s.heap.objs.size<=a):a∉X.fs:=λhb=>by
 obtain⟨_,o,ho,_⟩:=I.ok.lY.mem hb
 exact absurd (aa2 (lt_size ho) (aa4 I.sz h)) (abx _)
theorem Inv.KH(I:Inv X pins σ H s):∀x c,X.env.cells.lookup x=some c->c≠X.env.locals:=λx c e z=>by
 obtain⟨v,o,ho,hd⟩:=I.cell x c e
 obtain⟨m,⟨o',es,ep,ho',hd',_⟩,_⟩:=I.loc
 rw[z,ho'] at ho;cases ho;rw[hd'] at hd;cases hd
theorem Inv.lY(I:Inv X pins σ H s):s.heap.FunFrames X.base X.outer:=by
 have all:∀(l:List Env),(∀b∈frs l,b∈X.fs)->X.s₀.heap.FunFrames X.base l->s.heap.FunFrames X.base l:=by
  intro l
  induction l with
  |nil=>intro _ _;trivial
  |cons env r ih =>
   intro hs hl
   obtain⟨hk,⟨L,o,hf,hn,ho,hd⟩,hr⟩:=hl
   have hL:L∈X.fs:=hs L (by unfold frs;rw[filterMap_cons,hf];exact mem_cons_self)
   obtain⟨sl,e⟩:=I.base.slot L o ho (I.ok.KC L hL) hL λz=>I.ok.Bo L z hL
   exact⟨hk,⟨L,_,hf,hn,e,hd⟩,ih (λb hb=>hs b (by unfold frs;rw[filterMap_cons,hf];exact mem_cons_of_mem _ hb)) hr⟩
 exact all X.outer (λ_ hb=>hb) I.ok.lY
theorem Inv.stack(I:Inv X pins σ H s):s.heap.FunFrames X.base X.stack:=by
 rcases I.ok.stk with e|⟨e,hf⟩
 ·rw[e];exact I.lY
 ·rw[e]
  obtain⟨m,hn,_⟩:=I.loc
  refine .cons (by rw[I.ok.kind];decide) hf hn ?_ I.lY
  exact Heap.get?_none_of_le (aa4 I.ok.Fj I.ok.above)
theorem Inv.p8(I:Inv X pins σ H s):∀b∈frs X.stack,b∈X.env.locals::X.fs:=λb hb=>by
 rcases I.ok.stk with e|⟨e,hf⟩
 ·rw[e] at hb;exact mem_cons_of_mem _ hb
 ·rw[e] at hb
  unfold frs at hb
  rw[filterMap_cons,hf] at hb
  exact hb
theorem Inv.vm(I:Inv X pins σ H s):∀b∈frs X.stack,H b=none:=λb hb=>by
 rcases mem_cons.mp (I.p8 b hb) with e|hb
 ·rw[e];exact I.free
 ·obtain⟨_,o,ho,_⟩:=I.ok.lY.mem hb
  exact I.base.free b o ho (I.ok.KC b hb) λz=>I.ok.Bo b z hb
theorem Inv.step{g':Array GenState}{t':Nat}{d':Drawn}{ch:List Addr}(I:Inv X pins σ H s)(hch:∀b∈ch,(b∈X.ex\/X.s₀.heap.objs.size<=b)/\b≠X.env.locals/\(∀x c,X.env.cells.lookup x=some c->c≠b)/\∀p∈X.pn++pins,p.1≠b)(keep:∀b o,b≠X.env.locals->b∉X.fs->b∉ch->s.heap.get? b=some o->H b=none->h'.get? b=some o)(slot:∀b o,b≠X.env.locals->b∈X.fs->b∉ch->s.heap.get? b=some o->H b=none->∃sl,h'.get? b=some { o with slots:=sl })(free:∀b o,b∉ch->s.heap.get? b=some o->H b=none->H' b=none)(there:∀b o,b∉ch->s.heap.get? b=some o->∃o',h'.get? b=some o')(tups:∀b xs,H b=some (.tup xs)->H' b=some (.tup xs))(mJ:∀b o u,H b=some (.vh o u)->H' b=some (.vh o u))(oX:∀b ps,H b=some (.Ky ps)->∃more,H' b=some (.Ky (ps++more)))(ns:∀m,s.heap.Ns X.env.locals m->h'.Ns X.env.locals m)(hok:h_ X.prog X.w H' h')(hg:AllBare g') :
  Inv X pins σ H' { s with heap:=h',gens:=g',drawn:=d',toks:=t' }:=by
 have neL:∀b o,X.s₀.heap.get? b=some o->b≠X.env.locals:=λb o e=>aa0 (aa2 (lt_size e) I.ok.above)
 have VN:∀b o,X.s₀.heap.get? b=some o->b∉X.ex->b∉ch:=λb o e hx hb=>by
  rcases(hch b hb).1 with z|z
  ·exact hx z
  ·exact absurd (aa2 (lt_size e) z) (abx _)
 have cellK:∀x c,X.env.cells.lookup x=some c->∀v,s.heap.IsCell c v->h'.IsCell c v:=λx c e v ⟨o,ho,hd⟩=>by
  have Ru:c∉ch:=λz=>(hch c z).2.2.1 x c e rfl
  by_cases hc:c∈X.fs
  ·obtain⟨sl,q⟩:=slot c o (I.KH x c e) hc Ru ho (I.ig x c e)
   exact⟨_,q,hd⟩
  ·exact⟨o,keep c o (I.KH x c e) hc Ru ho (I.ig x c e),hd⟩
 refine⟨I.ok,I.os,hg,⟨λb o e n hb hx=>?_,λb o e n hb hx=>?_,λb o e n hx=>?_,λb o e hx=>?_,λb xs e=>tups b xs (I.base.tups b xs e),λb o xs e=>mJ b o xs (I.base.mJ b o xs e),λb ps e=>?_⟩,?_,λx c e=>?_,?_,λx c e=>?_,λp hp=>?_,hok,I.len⟩
 ·exact keep b o (neL b o e) hb (VN b o e hx) (I.base.keep b o e n hb hx) (I.base.free b o e n hx)
 ·obtain⟨sl,e1⟩:=I.base.slot b o e n hb hx
  obtain⟨sl',e2⟩:=slot b _ (neL b o e) hb (VN b o e hx) e1 (I.base.free b o e n hx)
  exact⟨sl',e2⟩
 ·obtain⟨o',e1⟩:=I.base.there b o e hx
  exact free b o' (VN b o e hx) e1 (I.base.free b o e n hx)
 ·obtain⟨o',e1⟩:=I.base.there b o e hx
  exact there b o' (VN b o e hx) e1
 ·obtain⟨m1,e1⟩:=I.base.oX b ps e
  obtain⟨m2,e2⟩:=oX b _ e1
  exact⟨m1++m2,by rw[e2,Array.append_assoc]⟩
 ·obtain⟨m,hn,hl⟩:=I.loc
  refine⟨m,ns m hn,λi x v e1 e2 e3=>?_⟩
  obtain⟨u,r,l⟩:=hl i x v e1 e2 e3
  refine⟨u,r,?_⟩
  rcases l with l|⟨k,c,e,z⟩
  ·exact .inl l
  ·exact .inr ⟨k,c,e,cellK x c e _ z⟩
 ·obtain⟨v,z⟩:=I.cell x c e
  exact⟨v,cellK x c e v z⟩
 ·obtain⟨m,⟨o,_,_,ho,_⟩,_⟩:=I.loc
  exact free _ o (λz=>(hch _ z).2.1 rfl) ho I.free
 ·obtain⟨v,o,ho,hd⟩:=I.cell x c e
  exact free c o (λz=>(hch c z).2.2.1 x c e rfl) ho (I.ig x c e)
 ·obtain⟨e,n,ne,nf,d⟩:=I.pin p hp
  have Ru:p.1∉ch:=λz=>(hch p.1 z).2.2.2 p hp rfl
  exact⟨keep p.1 p.2 ne nf Ru e n,free p.1 p.2 Ru e n,ne,nf,d⟩
theorem Inv.un(I:Inv X pins σ H s)(u:Un X.fs [] H H' s.heap h')(hok:h_ X.prog X.w H' h'):Inv X pins σ H' { s with heap:=h',toks:=t' }:=by
 obtain⟨m,⟨o,es,ep,ho,r⟩,_⟩:=id I.loc
 obtain⟨sl,hL⟩:=u.any ho I.free (by simp)
 exact I.step (g':=s.gens) (d':=s.drawn) (ch:=[]) (λ_ z=>nomatch z) (λb o _ hb _ e n=>u.keep b o e n hb (by simp)) (λb o _ hb _ e n=>u.slot b o e n hb (by simp)) (λb o _ e n=>u.free b o e n (by simp)) (λb o _ e=>u.there b o e (by simp)) u.tups u.mJ u.oX (λm' hm=>by
  obtain⟨o',es',ep',ho',r'⟩:=hm
  rw[ho] at ho';cases ho'
  exact⟨_,es',ep',hL,r'⟩) hok I.bare
theorem Inv.call(I:Inv X pins σ H s)(u:Un (frs X.stack) ch H H' s.heap h')(hok:h_ X.prog X.w H' h')(hg:AllBare g')(hch:∀b∈ch,(b∈X.ex\/X.s₀.heap.objs.size<=b)/\b≠X.env.locals/\(∀x c,X.env.cells.lookup x=some c->c≠b)/\∀p∈X.pn++pins,p.1≠b) :
  Inv X pins σ H' { s with heap:=h',gens:=g',drawn:=d',toks:=t' }:=by
 obtain⟨m,⟨o,es,ep,ho,r⟩,_⟩:=id I.loc
 obtain⟨sl,hL⟩:=u.any ho I.free λz=>(hch _ z).2.1 rfl
 exact I.step (ch:=ch) hch (λb o hL hb hc e n=>u.keep b o e n (λz=>(mem_cons.mp (I.p8 b z)).elim hL hb) hc) (λb o _ _ hc e n=>u.any e n hc) (λb o hc e n=>u.free b o e n hc) (λb o hc e=>u.there b o e hc) u.tups u.mJ u.oX (λm' hm=>by
  obtain⟨o',es',ep',ho',r'⟩:=hm
  rw[ho] at ho';cases ho'
  exact⟨_,es',ep',hL,r'⟩) hok hg
theorem Inv.turned(I:Inv X pins σ H s)(k:∀b o,b≠it->s.heap.get? b=some o->h'.get? b=some o)(hn:H it=none)(hL:it≠X.env.locals)(h1:it∈X.ex\/X.s₀.heap.objs.size<=it)(h2:∀x c,X.env.cells.lookup x=some c->c≠it)(h3:∀p∈X.pn++pins,p.1≠it):Inv X pins σ H { s with heap:=h',toks:=t' }:=by
 have nit:∀b u,H b=some u->b≠it:=λb u e z=>by rw[z,hn] at e;cases e
 refine I.step (g':=s.gens) (d':=s.drawn) (ch:=[it]) (λb hb=>?_) (λb o _ _ hc e _=>k b o (λz=>hc (by simp[z])) e) (λb o _ _ hc e _=>⟨o.slots,k b o (λz=>hc (by simp[z])) e⟩) (λ_ _ _ _ n=>n)
  (λb o hc e=>⟨o,k b o (λz=>hc (by simp[z])) e⟩) (λ_ _ e=>e) (λ_ _ _ e=>e) (λb ps e=>⟨#[],by rw[e];simp⟩) (λm hm=>?_) (λb u e=>?_) I.bare
 ·have e:b=it:=by simpa using hb
  subst e
  exact⟨h1,hL,h2,h3⟩
 ·obtain⟨o,es,ep,ho,r⟩:=hm
  exact⟨o,es,ep,k _ o (abv hL) ho,r⟩
 ·refine(I.hok b u e).stay (λc v hc q=>k c v ?_ q) (λ_ q=>q) λ_ _ q=>q
  rcases hc with z|z
  ·rw[z];exact nit b u e
  ·exact nit c _ z
theorem Inv.tok(I:Inv X pins σ H s)(t:Nat):Inv X pins σ H { s with toks:=t }:=I.un (h':=s.heap) (t':=t) Un.refl I.hok
theorem Inv.kept(I:Inv X pins σ H s)(k:∀b u,s.heap.get? b=some u->h'.get? b=some u):Inv X pins σ H { s with heap:=h',toks:=t' }:=I.un (Un.kept k) (I.hok.kept k)
theorem Inv.laid(I:Inv X pins σ H s)(k:∀b u,s.heap.get? b=some u->h'.get? b=some u)(hp:s.heap.objs.size<=a)(new:bw X.prog X.w (upd H a o) h' a o) :
  Inv X pins σ (upd H a o) { s with heap:=h',toks:=t' }:=I.un (Un.laid k hp (I.hok.fresh hp)) (I.hok.laid k hp new)
theorem Inv.write(I:Inv X pins σ H s)(mu:Ro (H x))(he:e=x\/H e=some (.own x))(k:∀b u,b≠e->s.heap.get? b=some u->h'.get? b=some u)(heo:∃u,h'.get? e=some u)(new:bw X.prog X.w (upd H x o) h' x o):Inv X pins σ (upd H x o) { s with heap:=h',toks:=t' }:=I.un (Un.write mu he k heo) (I.hok.write mu he k heo new)
theorem Inv.jW(I:Inv X pins σ H s)(h:∀p∈Jh,s.heap.get? p.1=some p.2/\H p.1=none/\p.1≠X.env.locals/\p.1∉X.fs/\∀v,p.2.data≠.cell v):Inv X Jh σ H s :=
 ⟨I.ok,I.os,I.bare,I.base,I.loc,I.cell,I.free,I.ig,λp hp=>(mem_append.mp hp).elim (λz=>I.pin p (mem_append_left _ z)) (h p),I.hok,I.len⟩
theorem zM9{N:List Str}(hN:N.Nodup){i j:Nat}{x:Str}(a:N[i]?=some x)(b:N[j]?=some x):i=j:=by
 obtain⟨h1,e1⟩:=aa6.mp a
 obtain⟨h2,e2⟩:=aa6.mp b
 exact(getElem_inj hN).mp (e1.trans e2.symm)
theorem zI5{Q:Unit->Shared->Prop}(I:Inv X pins σ H s)(hN:X.N.Nodup)(hi:X.N[i]?=some x)(hx:Loc X.env.scope x)(r:RelV v u)(h:∀s',Inv X pins (σ.set i (some v)) H s'->(∃a,SameBut a s.heap s'.heap/\(a=X.env.locals\/X.env.cells.lookup x=some a))->Q () s')(hf:X.fn x=true\/X.env.scope.names.lookup x=some .local:=by first|exact .inl rfl|exact .inr rfl|assumption):wpAny M A (storeName X.env x u) Q E s:=by
 obtain⟨m,hn,hl⟩:=id I.loc
 have hcls:(X.env.scope.kind==.class||(X.env.scope.kind==.module&&X.env.locals != X.env.globals))=false:=by rw[I.ok.kind];rfl
 have Rv:i<σ.length:=by rw[I.len];exact(aa6.mp hi).1
 have KH:=I.KH
 have tracked:∀{a:Addr}{h':Heap},(∃o,s.heap.get? a=some o/\H a=none)->SameBut a s.heap h'->h_ X.prog X.w H h':=λ{a h'} ha hs b ob e=>by
  obtain⟨_,_,hfree⟩:=ha
  refine(I.hok b ob e).stay (λc w' hc q=>(hs.2 c ?_).trans q) (λ_ q=>q) λ_ _ q=>q
  rintro rfl
  rcases hc with rfl|hc
  ·rw[hfree] at e;cases e
  ·rw[hfree] at hc;cases hc
 rcases hx with hk|hk
 ·refine wpAny_storeName_local hk hn (λh' hn' hs=>?_) hcls
  obtain⟨oL,_,_,hoL,_⟩:=id hn
  refine h _ ⟨I.ok,I.os,I.bare,⟨λb o e n hb hx=>?_,λb o e n hb hx=>?_,I.base.free,λb o e hx=>?_,I.base.tups,I.base.mJ,I.base.oX⟩,⟨_,hn',λj y v' e1 e2 e3=>?_⟩,λy c e=>?_,I.free,I.ig,λp hp=>?_,tracked ⟨oL,hoL,I.free⟩ hs,by simpa using I.len⟩ ⟨_,hs,.inl rfl⟩
  ·exact(hs.2 b (aa0 (aa2 (lt_size e) I.ok.above))).trans (I.base.keep b o e n hb hx)
  ·obtain⟨sl,e1⟩:=I.base.slot b o e n hb hx
   exact⟨sl,(hs.2 b (aa0 (aa2 (lt_size e) I.ok.above))).trans e1⟩
  ·obtain⟨o',e1⟩:=I.base.there b o e hx
   exact⟨o',(hs.2 b (aa0 (aa2 (lt_size e) I.ok.above))).trans e1⟩
  ·by_cases hj:j=i
   ·subst hj
    rw[hi] at e1;cases e1
    rw[List.getElem?_set_self Rv] at e2
    cases e2
    exact⟨u,r,.inl ⟨hk,by simp⟩⟩
   ·rw[List.getElem?_set_ne (abv hj)] at e2
    obtain⟨u',r',q⟩:=hl j y v' e1 e2 e3
    refine⟨u',r',?_⟩
    rcases q with⟨k,e⟩|⟨k,c,e,z⟩
    ·refine .inl ⟨k,?_⟩
     have:y≠x:=λe=>hj (zM9 hN e1 (e▸hi))
     simp[this,e]
    ·exact .inr ⟨k,c,e,z.sameBut hs (KH y c e)⟩
  ·obtain⟨w',z⟩:=I.cell y c e
   exact⟨w',z.sameBut hs (KH y c e)⟩
  ·obtain⟨e,n,ne,nf,d⟩:=I.pin p hp
   exact⟨(hs.2 p.1 ne).trans e,n,ne,nf,d⟩
 ·have hfn:X.fn x=true:=by
   rcases hf with z|z
   ·exact z
   ·rw[z] at hk;cases hk
  obtain⟨c,hc⟩:=I.ok.has x (.inl hk)
  obtain⟨w',z⟩:=I.cell x c hc
  refine wpAny_storeName_cell I.ok.kind hk hc z (λh' hc' hs=>?_)
  obtain⟨oc,hoc,Yb⟩:=id z
  refine h { s with heap:=h' } ⟨I.ok,I.os,I.bare,⟨λb o e n hb hx=>?_,λb o e n hb hx=>?_,I.base.free,λb o e hx=>?_,I.base.tups,I.base.mJ,I.base.oX⟩,⟨m,hn.sameBut hs (abv (KH x c hc)),λj y v' e1 e2 e3=>?_⟩,λy c' e=>?_,I.free,I.ig,λp hp=>?_,tracked ⟨oc,hoc,I.ig x c hc⟩ hs,by simpa using I.len⟩ ⟨c,hs,.inr hc⟩
  ·exact(hs.2 b (aa0 (aa2 (lt_size e) (I.ok.cab x c hfn hc)))).trans (I.base.keep b o e n hb hx)
  ·obtain⟨sl,e1⟩:=I.base.slot b o e n hb hx
   exact⟨sl,(hs.2 b (aa0 (aa2 (lt_size e) (I.ok.cab x c hfn hc)))).trans e1⟩
  ·obtain⟨o',e1⟩:=I.base.there b o e hx
   exact⟨o',(hs.2 b (aa0 (aa2 (lt_size e) (I.ok.cab x c hfn hc)))).trans e1⟩
  ·by_cases hj:j=i
   ·subst hj
    rw[hi] at e1;cases e1
    rw[List.getElem?_set_self Rv] at e2
    cases e2
    exact⟨u,r,.inr ⟨.inl hk,c,hc,hc'⟩⟩
   ·rw[List.getElem?_set_ne (abv hj)] at e2
    obtain⟨u',r',q⟩:=hl j y v' e1 e2 e3
    refine⟨u',r',?_⟩
    rcases q with q|⟨k,c',e,z'⟩
    ·exact .inl q
    ·refine .inr ⟨k,c',e,z'.sameBut hs ?_⟩
     rintro rfl
     exact hj (zM9 hN e1 (I.ok.inj _ _ _ e hc▸hi))
  ·by_cases hcc:c'=c
   ·subst hcc;exact⟨_,hc'⟩
   ·obtain⟨w2,z2⟩:=I.cell y c' e
    exact⟨w2,z2.sameBut hs hcc⟩
  ·obtain⟨e,n,ne,nf,d⟩:=I.pin p hp
   refine⟨(hs.2 p.1 ?_).trans e,n,ne,nf,d⟩
   intro q
   rw[q,hoc] at e
   have q':oc=p.2:=aa3 e
   exact d w' (by rw[<-q'];exact Yb)
theorem Yc{Q:Unit->Shared->Prop}(I:Inv X pins σ H s)(hN:X.N.Nodup)(hi:X.N[i]?=some x)(hx:Loc X.env.scope x)(r:RelV v u)(h:∀s',Inv X pins (σ.set i (some v)) H s'->Q () s')(hf:X.fn x=true\/X.env.scope.names.lookup x=some .local:=by first|exact .inl rfl|exact .inr rfl|assumption):wpAny M A (storeName X.env x u) Q E s :=
 zI5 I hN hi hx r (λs' I' _=>h s' I') hf
theorem Inv.call'{s':Shared}(I:Inv X pins σ H s)(ho:s'.os=s.os)(u:Un (frs X.stack) ch H H' s.heap s'.heap)(hok:h_ X.prog X.w H' s'.heap)(hg:AllBare s'.gens)(hch:∀b∈ch,(b∈X.ex\/X.s₀.heap.objs.size<=b)/\b≠X.env.locals/\(∀x c,X.env.cells.lookup x=some c->c≠b)/\∀p∈X.pn++pins,p.1≠b):Inv X pins σ H' s':=by
 obtain⟨h',g',d',t',o'⟩:=s'
 have e:o'=s.os:=ho
 subst e
 exact I.call (g':=g') (t':=t') (d':=d') u hok hg hch
end
abbrev XK:=Value->Option Addr->Hp->Prop
abbrev St:=List (Option V)
abbrev VK:=V->Hp->Prop
abbrev TE:=St->Hp->VK->Prop
abbrev TT:=St->Hp->(Bool->Hp->Prop)->Prop
abbrev TA:=St->Hp->(List V->Hp->Prop)->Prop
structure Ends where
 nx:St->Hp->Prop
 rt:VK
 bk:St->Hp->Prop:=λ_ _=>False
 ct:St->Hp->Prop:=λ_ _=>False
abbrev TS:=Ends->St->Hp->Prop
def EP(X:Cx)(pins:List (Addr×Obj))(σ:St)(Q:VK)(u:Value)(s':Shared):Prop:=∃v H',Inv X pins σ H' s'/\RelV v u/\Q v H'
def TP(X:Cx)(pins:List (Addr×Obj))(σ:St)(Q:Bool->Hp->Prop)(b:Bool)(s':Shared):Prop:=∃H',Inv X pins σ H' s'/\Q b H'
def AP(X:Cx)(pins:List (Addr×Obj))(σ:St)(Q:List V->Hp->Prop)(us:List Value)(s':Shared):Prop:=∃vs H',Inv X pins σ H' s'/\Vals vs us/\Q vs H'
def SP(X:Cx)(pins:List (Addr×Obj))(D:Ends)(f:Flow)(s':Shared):Prop :=
 match f with
 |.next=>∃σ' H',Inv X pins σ' H' s'/\D.nx σ' H'
 |.brk=>∃σ' H',Inv X pins σ' H' s'/\D.bk σ' H'
 |.cont=>∃σ' H',Inv X pins σ' H' s'/\D.ct σ' H'
 |.ret u=>∃v σ' H',Inv X pins σ' H' s'/\RelV v u/\D.rt v H'
def PE(X:Cx)(e:Expr)(t:TE):Prop :=
 ∀(pins:List (Addr×Obj))(s:Shared)(σ:St)(H:Hp)(Q:VK),Inv X pins σ H s->t σ H Q->wpAny (model X.prog X.w) X.A (eval e X.env) (EP X pins σ Q) X.xe s
def PT(X:Cx)(e:Expr)(t:TT):Prop :=
 ∀(pins:List (Addr×Obj))(s:Shared)(σ:St)(H:Hp)(Q:Bool->Hp->Prop),Inv X pins σ H s->t σ H Q->wpAny (model X.prog X.w) X.A (isTrue e X.env (eval e X.env)) (TP X pins σ Q) X.xe s
def PW(X:Cx)(e:Expr)(t:TT):Prop :=
 ∀(whole:Sem Value)(pins:List (Addr×Obj))(s:Shared)(σ:St)(H:Hp)(Q:Bool->Hp->Prop),Inv X pins σ H s->t σ H Q->wpAny (model X.prog X.w) X.A (isTrue e X.env whole) (TP X pins σ Q) X.xe s
theorem PW.pt(h:PW X e t):PT X e t:=h _
def PA(X:Cx)(es:List Expr)(t:TA):Prop :=
 ∀(pos:Pos)(pins:List (Addr×Obj))(s:Shared)(σ:St)(H:Hp)(Q:List V->Hp->Prop),Inv X pins σ H s->t σ H Q->wpAny (model X.prog X.w) X.A (spliced (backTo pos (starEach es X.env))) (AP X pins σ Q) X.xe s
def PS(X:Cx)(st:Stmt)(t:TS):Prop :=
 ∀(pins:List (Addr×Obj))(s:Shared)(σ:St)(H:Hp)(D:Ends),Inv X pins σ H s->t D σ H->wpAny (model X.prog X.w) X.A (exec st X.env) (SP X pins D) X.xe s
def qZ(X:Cx)(st:List Stmt)(t:TS):Prop :=
 ∀(pins:List (Addr×Obj))(s:Shared)(σ:St)(H:Hp)(D:Ends),Inv X pins σ H s->t D σ H->wpAny (model X.prog X.w) X.A (execs st X.env) (SP X pins D) X.xe s
theorem aM{α:Type}{t:Sem α}{Q Q':α->Shared->Prop}(h:wpAny M A t Q E s)(hQ:∀a s,Q a s->Q' a s):wpAny M A t Q' E s:=acn h hQ λ_ _ x=>x
section
variable{X:Cx}
def fY(i:Nat):TE:=λσ H Q=>∃v,σ[i]?=some (some v)/\Q v H
def tC(v:V):TE:=λ_ H Q=>Q v H
theorem KJ(hN:X.N[i]?=some x)(hv:Rr X.env.scope x)(hd:(x==("__debug__":Str))=false:=by decide)(hcd:(x==("__classdict__":Str))=false:=by decide):PE X (.Name x pos) (fY i):=by
 intro pins s σ H Q I h
 obtain⟨v,e,h⟩:=h
 obtain⟨m,hn,hl⟩:=I.loc
 obtain⟨u,r,l⟩:=hl i x v hN e hv
 have fin:EP X pins σ Q u s:=⟨v,H,I,r,h⟩
 rcases l with⟨hk,hm⟩|⟨hk,c,hc,hcell⟩
 ·exact wpAny_Name (wpAny_loadName_local I.ok.kind hk hn hm fin) hd
 ·rcases hk with hk|hk
  ·exact wpAny_Name (wpAny_loadName_cell I.ok.kind hk hc hcell fin) hd
  ·exact wpAny_Name (wpAny_loadName_free I.ok.kind hk hc hcell fin hcd) hd
theorem zL{i j pos}:PE X (.Constant (.int i) j pos) (tC (.int i)):=λ_ _ _ H _ I h=>wpAny_Constant_int ⟨.int i,H,I.tok _,⟨_,rfl⟩,h⟩
theorem vP{b j pos}:PE X (.Constant (.bool b) j pos) (tC (.bl b)):=λ_ _ _ H _ I h=>Constant_bool ⟨.bl b,H,I,rfl,h⟩
theorem Yd{j pos}:PE X (.Constant .none j pos) (tC .non):=λ_ _ _ H _ I h=>afc ⟨.non,H,I,rfl,h⟩
theorem xV{x j pos}:PE X (.Constant (.str x) j pos) (tC (.str x)):=λ_ _ _ H _ I h=>Calls.Constant_str ⟨.str x,H,I.tok _,⟨_,rfl⟩,h⟩
def Gl(X:Cx)(x:Str):Prop:=X.env.kindOf x=some .globalImplicit
theorem Rw{Q:Value->Shared->Prop}(I:Inv X pins σ H s)(hg:Gl X x)(hm:X.mg x=some u)(h:Q u s)(hd:(x==("__debug__":Str))=false:=by decide):wpAny (model X.prog X.w) X.A (eval (.Name x pos) X.env) Q E s :=
 Calls.Name_function_global I.ok.kind hg (Calls.loadGlobal_global (by rw[I.ok.glob];exact I.mod.glob.keeps I.bk) hm h) hd
theorem A_{Q:Value->Shared->Prop}(I:Inv X pins σ H s)(hg:Gl X x)(hm:X.mg x=none)(hv:bootBuiltins x=some u)(h:Q u s)(hn:x ≠ "__name__":=by decide)(hd:(x==("__debug__":Str))=false:=by decide):wpAny (model X.prog X.w) X.A (eval (.Name x pos) X.env) Q E s:=by
 obtain⟨mb,h1,h2⟩:=I.mod.blt
 exact Calls.Name_function_global I.ok.kind hg (Calls.loadGlobal_builtin (by rw[I.ok.glob];exact I.mod.glob.keeps I.bk) hm (by rw[I.ok.blt];exact h1.keeps I.bk) ((h2 x hn).trans hv) h) hd
theorem xH(hg:Gl X x)(hm:X.mg x=some u)(r:RelV v u)(hd:(x==("__debug__":Str))=false:=by decide):PE X (.Name x pos) (tC v) :=
 λ_ _ _ H _ I h=>Rw I hg hm ⟨v,H,I,r,h⟩ hd
theorem Bp(hg:Gl X x)(hm:X.mg x=none)(hv:bootBuiltins x=some u)(r:RelV v u)(hn:x ≠ "__name__":=by decide)(hd:(x==("__debug__":Str))=false:=by decide):PE X (.Name x pos) (tC v) :=
 λ_ _ _ H _ I h=>A_ I hg hm hv ⟨v,H,I,r,h⟩ hn hd
variable{a b:Expr}{ta tb:TE}{pos:Pos}
def PC(X:Cx)(op:CmpOp)(a b:Expr)(t:TE):Prop :=
 ∀(pins:List (Addr×Obj))(s:Shared)(σ:St)(H:Hp)(Q:VK),Inv X pins σ H s->t σ H Q ->
  wpAny (model X.prog X.w) X.A (eval a X.env) (λv s₁=>wpAny (model X.prog X.w) X.A (eval b X.env) (λu s₂=>wpAny (model X.prog X.w) X.A (compareOp op v u) (EP X pins σ Q) X.xe s₂) X.xe s₁) X.xe s
theorem zUy(b:Expr)(h:op≠.In)(h2:op≠.NotIn):behindInMarks op b=false:=by
 have e1:(op==CmpOp.In)=false:=by cases op<;>first|rfl|exact absurd rfl h
 have e2:(op==CmpOp.NotIn)=false:=by cases op<;>first|rfl|exact absurd rfl h2
 cases b<;>simp[behindInMarks,e1,e2]
def Rx(ta:TE):TE:=λσ H Q=>ta σ H λx H1=>Q (.bl (decide (x=.non))) H1
def Ji(ta:TE):TE:=λσ H Q=>ta σ H λx H1=>Q (.bl (!decide (x=.non))) H1
theorem RelV.q9(r:RelV x v):(v==adb)=decide (x=.non):=by
 cases x with
 |non=>cases r;rfl
 |bl _=>cases r;rfl
 |int _=>obtain⟨t,rfl⟩:=r;rfl
 |str _=>obtain⟨t,rfl⟩:=r;rfl
 |Fd _=>obtain⟨t,rfl⟩:=r;rfl
 |flt _=>obtain⟨t,rfl⟩:=r;rfl
 |ref _=>cases r;rfl
 |ty _=>cases r;rfl
theorem Qd{j pos'}(ha:PE X a ta):PC X .Is a (.Constant .none j pos') (Rx ta):=by
 intro pins s σ H Q I h
 refine aM (ha pins s σ H _ I h) λv s1 ⟨x,H1,I1,r1,q1⟩=>?_
 exact afc (is_none_gen ⟨.bl _,H1,I1,by rw[r1.q9];rfl,q1⟩)
theorem Fp{j pos'}(ha:PE X a ta):PC X .IsNot a (.Constant .none j pos') (Ji ta):=by
 intro pins s σ H Q I h
 refine aM (ha pins s σ H _ I h) λv s1 ⟨x,H1,I1,r1,q1⟩=>?_
 exact afc (isnot_none_gen ⟨.bl _,H1,I1,by rw[r1.q9];rfl,q1⟩)
def tB(t:TE):TT:=λσ H Q=>t σ H λx H1=>∃c,x=.bl c/\Q c H1
theorem sI(h:PC X op a b t)(h1:behindInMarks op b=false:=by first|exact zUy _ (by decide) (by decide)|rfl):PT X (.Compare a [op] [b] pos) (tB t):=by
 intro pins s σ H Q I hw
 refine wpAny_isTrue_Compare1 (aM (h pins s σ H _ I hw) λv s1 h1=>aM h1 λu s2 h2=>aM h2 λc s3 ⟨x,H1,I1,r1,q1⟩=>?_) h1
 obtain⟨d,rfl,q⟩:=q1
 cases r1
 exact ab1 ⟨H1,I1,q⟩
theorem yW(h:PE X e t)(he:∀whole,isTrue e X.env whole=(do let v <-whole;standAt e.pos;holding [v] (truthy v)):=by intro _;rfl):PT X e (tB t):=by
 intro pins s σ H Q I hw
 refine isTrue_plain (aM (h pins s σ H _ I hw) λv s1 ⟨x,H1,I1,r1,q1⟩=>?_) (he _)
 obtain⟨d,rfl,q⟩:=q1
 cases r1
 exact ab1 ⟨H1,I1,q⟩
variable{tA VP:TT}{rest:List Expr}
def Ry(t u:TT):TT:=λσ H Q=>t σ H λc H1=>if c=true then u σ H1 Q else Q false H1
def tOr(t u:TT):TT:=λσ H Q=>t σ H λc H1=>if c=true then Q true H1 else u σ H1 Q
def RB(t:TT):TT:=λσ H Q=>t σ H λc H1=>Q (!c) H1
theorem pw_and1(ha:PT X a tA):PW X (.BoolOp .And [a] pos) tA:=by
 intro wh pins s σ H Q I h
 refine isTrue_and (aM (ha pins s σ H Q I h) λc s1 e=>?_)
 cases c with
 |true=>exact isTrue_and_nil e
 |false=>exact e
theorem pw_or1(ha:PT X a tA):PW X (.BoolOp .Or [a] pos) tA:=by
 intro wh pins s σ H Q I h
 refine isTrue_or (aM (ha pins s σ H Q I h) λc s1 e=>?_)
 cases c with
 |false=>exact isTrue_or_nil e
 |true=>exact e
theorem pw_and(ha:PT X a tA)(hb:PW X (.BoolOp .And (b::rest) pos) VP):PW X (.BoolOp .And (a::b::rest) pos) (Ry tA VP):=by
 intro wh pins s σ H Q I h
 refine isTrue_and (aM (ha pins s σ H _ I h) λc s1 ⟨H1,I1,q1⟩=>?_)
 cases c with
 |true=>exact hb wh pins s1 σ H1 Q I1 q1
 |false=>exact⟨H1,I1,q1⟩
theorem pw_or(ha:PT X a tA)(hb:PW X (.BoolOp .Or (b::rest) pos) VP):PW X (.BoolOp .Or (a::b::rest) pos) (tOr tA VP):=by
 intro wh pins s σ H Q I h
 refine isTrue_or (aM (ha pins s σ H _ I h) λc s1 ⟨H1,I1,q1⟩=>?_)
 cases c with
 |true=>exact⟨H1,I1,q1⟩
 |false=>exact hb wh pins s1 σ H1 Q I1 q1
theorem uL(ha:PT X a tA):PT X (.UnaryOp .Not a pos) (RB tA):=by
 intro pins s σ H Q I h
 exact isTrue_not (ha pins s σ H (λc H1=>Q (!c) H1) I h)
def Jj(ta tb:TE):TE:=λσ H Q=>ta σ H λx H1=>∃c,x=.bl c/\if c=true then tb σ H1 Q else Q (.bl false) H1
def Jk(ta:TE):TE:=λσ H Q=>ta σ H λx H1=>∃c,x=.bl c/\Q (.bl (!c)) H1
theorem VR{op}(h:PE X a t):PE X (.BoolOp op [a] pos) t:=λpins s σ H Q I hw=>BoolOp_one (h pins s σ H Q I hw)
theorem RD(ha:PE X a ta)(hb:PE X (.BoolOp .And (b::rest) pos) tb):PE X (.BoolOp .And (a::b::rest) pos) (Jj ta tb):=by
 intro pins s σ H Q I h
 refine BoolOp_and (aM (ha pins s σ H _ I h) λv s1 ⟨x,H1,I1,r1,q1⟩=>?_)
 obtain⟨c,rfl,q1⟩:=q1
 cases r1
 refine ab1 ?_
 cases c with
 |true=>exact hb pins s1 σ H1 Q I1 q1
 |false=>exact⟨.bl false,H1,I1,rfl,q1⟩
theorem zWf(ha:PE X a ta):PE X (.UnaryOp .Not a pos) (Jk ta):=by
 intro pins s σ H Q I h
 refine UnaryOp_ (aM (ha pins s σ H _ I h) λv s1 ⟨x,H1,I1,r1,q1⟩=>?_)
 obtain⟨c,rfl,q1⟩:=q1
 cases r1
 exact not_of (ab1 ⟨.bl (!c),H1,I1,rfl,q1⟩)
def tIf(t:TT)(ta tb:TE):TE:=λσ H Q=>t σ H λc H1=>if c=true then ta σ H1 Q else tb σ H1 Q
theorem zM6(hc:PT X c tA)(ha:PE X a ta)(hb:PE X b tb):PE X (.IfExp c a b pos) (tIf tA ta tb):=by
 intro pins s σ H Q I h
 refine wpAny_IfExp (aM (hc pins s σ H _ I h) λd s1 ⟨H1,I1,q1⟩=>?_)
 cases d with
 |true=>exact ha pins s1 σ H1 Q I1 q1
 |false=>exact hb pins s1 σ H1 Q I1 q1
end
def bx(K:PySem.W.Frag)(H:Hp)(a:Addr)(xs:List V):Prop :=
 Rd H a (.lst xs) \/
  ∃(o:Obj)(its:Array Value)(n:Nat),K.lookup a=some o/\o.cls=.type "list" /\ o.dict=none/\o.data=.seq its n/\its.size<=sizeLine/\Vals xs its.toList
def kO(K:PySem.W.Frag)(H:Hp)(a:Addr)(xs:List V):Prop :=
 Rd H a (.tup xs) \/
  ∃(o:Obj)(its:Array Value)(n:Nat),K.lookup a=some o/\o.cls=.type "tuple" /\ o.data=.seq its n/\its.size<=sizeLine/\Vals xs its.toList
def Ye:Value->Option V
 |.none=>some .non
 |.bool b=>some (.bl b)
 |.int i _=>some (.int i)
 |.str x _=>some (.str x)
 |.bytes b _=>some (.Fd b)
 |.float b _=>some (.flt b)
 |.ref a=>some (.ref a)
 |.type n=>some (.ty n)
 |_=>none
theorem RelV.abs(r:RelV x u):Ye u=some x:=by
 cases x with
 |non=>cases r;rfl
 |bl _=>cases r;rfl
 |int _=>obtain⟨t,rfl⟩:=r;rfl
 |str _=>obtain⟨t,rfl⟩:=r;rfl
 |Fd _=>obtain⟨t,rfl⟩:=r;rfl
 |flt _=>obtain⟨t,rfl⟩:=r;rfl
 |ref _=>cases r;rfl
 |ty _=>cases r;rfl
theorem RelV.inj(r:RelV x u)(q:RelV y u):x=y:=aa3 (r.abs.symm.trans q.abs)
theorem Vals.inj:∀{xs ys:List V}{us:List Value},Vals xs us->Vals ys us->xs=ys
 |_,_,_,.nil,.nil=>rfl
 |_,_,_,.cons r t,.cons r' t'=>by rw[r.inj r',Vals.inj t t']
section
variable{X:Cx}{pins:List (Addr×Obj)}{σ:St}{H:Hp}{s:Shared}{a:Addr}{xs ys:List V}
theorem bx.of{K:PySem.W.Frag}(h:H a=some (.lst xs)):bx K H a xs:=.inl (.inl h)
theorem kO.of{K:PySem.W.Frag}(h:H a=some (.tup xs)):kO K H a xs:=.inl (.inl h)
theorem Inv.list(I:Inv X pins σ H s)(h:bx X.K H a xs):∃its:List Value,Vals xs its/\PlainL s.heap a its.toArray/\xs.length<=sizeLine:=by
 rcases h with h|⟨o,its,n,hk,hc,hd,hs,hz,r⟩
 ·obtain⟨z,its,n,r,e⟩:=h.ok I.hok
  exact⟨its,r,⟨_,n,e,rfl,rfl,rfl⟩,z⟩
 ·refine⟨its.toList,r,⟨o,n,I.jV a o hk,hc,hd,by simpa using hs⟩,?_⟩
  have e:=r.length
  simp only[length_toList] at e
  omega
theorem Inv.tuple(I:Inv X pins σ H s)(h:kO X.K H a xs):∃its:List Value,Vals xs its/\IsTup s.heap a its.toArray/\xs.length<=sizeLine:=by
 rcases h with h|⟨o,its,n,hk,hc,hs,hz,r⟩
 ·obtain⟨z,its,r,p⟩:=h.ok I.hok
  exact⟨its,r,p,z⟩
 ·refine⟨its.toList,r,⟨o,I.jV a o hk,hc,n,by simpa using hs⟩,?_⟩
  have e:=r.length
  simp only[length_toList] at e
  omega
theorem Inv.q_(I:Inv X pins σ H s)(h:bx X.K H a xs)(h':bx X.K H a ys):xs=ys:=by
 obtain⟨its,r,⟨o,n,e,_,_,d⟩,_⟩:=I.list h
 obtain⟨its',r',⟨o',n',e',_,_,d'⟩,_⟩:=I.list h'
 rw[e] at e';cases e'
 rw[d] at d'
 injection d' with d1 _
 have:its=its':=by simpa using congrArg Array.toList d1
 subst this
 exact r.inj r'
theorem Inv.yp(I:Inv X pins σ H s)(h:kO X.K H a xs)(h':kO X.K H a ys):xs=ys:=by
 obtain⟨its,r,⟨o,e,_,n,d⟩,_⟩:=I.tuple h
 obtain⟨its',r',⟨o',e',_,n',d'⟩,_⟩:=I.tuple h'
 rw[e] at e';cases e'
 rw[d] at d'
 injection d' with d1 _
 have:its=its':=by simpa using congrArg Array.toList d1
 subst this
 exact r.inj r'
end
abbrev Cx.wish(X:Cx)(E:Value->Shared->Prop):Cx:={ X with xe:=E }
abbrev Cx.Jl(X:Cx):Cx:=X.wish λ_ _=>False
theorem Cx.Ok.wish{X:Cx}(ok:X.Ok)(E:Value->Shared->Prop):(X.wish E).Ok :=
 ⟨ok.mod,ok.kind,ok.glob,ok.blt,ok.above,ok.inj,ok.has,ok.cab,ok.hd,ok.frames,ok.stk,ok.VL,ok.bs,ok.Fj,ok.Bk,ok.Bo,ok.lY,ok.KC⟩
theorem Cx.Ok.iu{X:Cx}(ok:(X.wish E).Ok):X.Ok :=
 ⟨ok.mod,ok.kind,ok.glob,ok.blt,ok.above,ok.inj,ok.has,ok.cab,ok.hd,ok.frames,ok.stk,ok.VL,ok.bs,ok.Fj,ok.Bk,ok.Bo,ok.lY,ok.KC⟩
section
variable{X:Cx}{pins:List (Addr×Obj)}{σ:St}{H:Hp}{s:Shared}{E:Value->Shared->Prop}
theorem Inv.wish(I:Inv X pins σ H s)(E:Value->Shared->Prop):Inv (X.wish E) pins σ H s:=⟨I.ok.wish E,I.os,I.bare,I.base,I.loc,I.cell,I.free,I.ig,I.pin,I.hok,I.len⟩
theorem Inv.iu(I:Inv (X.wish E) pins σ H s):Inv X pins σ H s:=⟨I.ok.iu,I.os,I.bare,I.base,I.loc,I.cell,I.free,I.ig,I.pin,I.hok,I.len⟩
theorem SP.iu(h:SP (X.wish E) pins D f s'):SP X pins D f s':=by
 cases f with
 |next=>obtain⟨σ',H',I,q⟩:=h;exact⟨σ',H',I.iu,q⟩
 |brk=>obtain⟨σ',H',I,q⟩:=h;exact⟨σ',H',I.iu,q⟩
 |cont=>obtain⟨σ',H',I,q⟩:=h;exact⟨σ',H',I.iu,q⟩
 |ret u=>obtain⟨v,σ',H',I,r,q⟩:=h;exact⟨v,σ',H',I.iu,r,q⟩
theorem qZ.Jl{st:List Stmt}{t:TS}(h:qZ X.Jl st t):qZ X st t:=λpins s σ H D I hw =>
 acn (h pins s σ H D (I.wish _) hw) (λ_ _ q=>q.iu) λ_ _ z=>abq z
end
section
variable{X:Cx}{st:Stmt}{rest:List Stmt}{t u:TS}{e:Expr}{te:TE}{pos:Pos}
def RG:TS:=λD σ H=>D.nx σ H
def mK(t u:TS):TS:=λD σ H=>t { D with nx:=u D } σ H
theorem zH:qZ X [] RG:=λ_ _ σ H _ I h=>aek ⟨σ,H,I,h⟩
theorem zB(h1:PS X st t)(h2:qZ X rest u):qZ X (st::rest) (mK t u):=by
 intro pins s σ H D I h
 refine wpAny_execs_cons (aM (h1 pins s σ H { D with nx:=u D } I h) λf s1 q=>?_)
 cases f with
 |next =>
  obtain⟨σ',H',I',q⟩:=q
  exact h2 pins s1 σ' H' D I' q
 |ret v=>exact q
 |brk=>exact q
 |cont=>exact q
theorem wB(h1:PS X st t):qZ X [st] t:=by
 intro pins s σ H D I h
 refine wpAny_execs_cons (aM (h1 pins s σ H D I h) λf s1 q=>?_)
 cases f with
 |next=>exact aek q
 |ret v=>exact q
 |brk=>exact q
 |cont=>exact q
theorem Inv.quiet(I:Inv X pins σ H s):interactive X.env=false:=by simp[interactive,I.ok.kind]
def RJ(te:TE):TS:=λD σ H=>te σ H λ_ H1=>D.nx σ H1
theorem yJ(he:PE X e te)(hs:swapsWith e none pos.line X.env=pure false:=by rfl):PS X (.Expr e pos) (RJ te):=by
 intro pins s σ H D I h
 exact wpAny_Expr_any (aM (he pins s σ H _ I h) λv s1 ⟨x,H1,I1,r1,q1⟩=>⟨σ,H1,I1,q1⟩) I.quiet hs
def Bq(te:TE):TS:=λD σ H=>te σ H D.rt
theorem zS(he:PE X e te):PS X (.Return (some e) pos) (Bq te):=by
 intro pins s σ H D I h
 exact wpAny_Return_some (aM (he pins s σ H _ I h) λv s1 ⟨x,H1,I1,r1,q1⟩=>⟨x,σ,H1,I1,r1,q1⟩)
def Br(c:TT)(t u:TS):TS:=λD σ H=>c σ H λb H1=>if b=true then t D σ H1 else u D σ H1
theorem yO(hc:PT X c tc)(ha:qZ X a t)(hb:qZ X b u):PS X (.If c a b pos) (Br tc t u):=by
 intro pins s σ H D I h
 refine wpAny_If (aM (hc pins s σ H _ I h) λd s1 ⟨H1,I1,q1⟩=>?_)
 cases d with
 |true=>exact ha pins s1 σ H1 D I1 q1
 |false=>exact hb pins s1 σ H1 D I1 q1
def Yg:TS:=λ_ _ _=>False
theorem yT:qZ X sts Yg:=λ_ _ _ _ _ _ h=>h.elim
end
abbrev TG:=V->St->Hp->(St->Hp->Prop)->Prop
abbrev Qe:=List V->St->Hp->(St->Hp->Prop)->Prop
def PG(X:Cx)(target:Expr)(t:TG):Prop :=
 ∀(pins:List (Addr×Obj))(s:Shared)(σ:St)(H:Hp)(v:V)(u:Value)(Q:St->Hp->Prop),Inv X pins σ H s->RelV v u->t v σ H Q ->
  wpAny (model X.prog X.w) X.A (assign target X.env u) (λ_ s'=>∃σ' H',Inv X pins σ' H' s'/\Q σ' H') X.xe s
def RK(X:Cx)(ts:List Expr)(t:Qe):Prop :=
 ∀(pins:List (Addr×Obj))(s:Shared)(σ:St)(H:Hp)(vs:List V)(us:List Value)(Q:St->Hp->Prop),Inv X pins σ H s->Vals vs us->t vs σ H Q ->
  wpAny (model X.prog X.w) X.A (assignInOrder ((assignEach ts X.env).map (·.2)) us) (λ_ s'=>∃σ' H',Inv X pins σ' H' s'/\Q σ' H') X.xe s
abbrev KN:=V->V->V->Hp->(Hp->Prop)->Prop
def KQ(X:Cx)(t:KN):Prop :=
 ∀(pins:List (Addr×Obj))(s:Shared)(σ:St)(H:Hp)(o i v:V)(ov iv u:Value)(Q:Hp->Prop),Inv X pins σ H s->RelV o ov->RelV i iv->RelV v u->t o i v H Q ->
  wpAny (model X.prog X.w) X.A (setItem ov iv u) (λ_ s'=>∃H',Inv X pins σ H' s'/\Q H') X.xe s
abbrev V0:=V->V->Hp->VK->Prop
def V1(X:Cx)(op:Operator)(t:V0):Prop :=
 ∀(pins:List (Addr×Obj))(s:Shared)(σ:St)(H:Hp)(x y:V)(v u:Value)(Q:VK),Inv X pins σ H s->RelV x v->RelV y u->t x y H Q ->
  wpAny (model X.prog X.w) X.A (inplaceOp op v u) (EP X pins σ Q) X.xe s
section
variable{X:Cx}{pos:Pos}
def yq(i:Nat):TG:=λv σ H Q=>Q (σ.set i (some v)) H
theorem yQ(hN:X.N.Nodup)(hi:X.N[i]?=some x)(hx:Loc X.env.scope x)(hf:X.fn x=true\/X.env.scope.names.lookup x=some .local:=by first|exact .inl rfl|exact .inr rfl|assumption):PG X (.Name x pos) (yq i):=by
 intro pins s σ H v u Q I r h
 exact wpAny_assign_Name (Yc I hN hi hx r (λs' I'=>⟨_,H,I',h⟩) hf)
def RL:Qe:=λvs σ H Q=>vs=[]/\Q σ H
def Bt(t:TG)(u:Qe):Qe:=λvs σ H Q=>∃v r,vs=v::r/\t v σ H λσ' H'=>u r σ' H' Q
theorem Fq:RK X [] RL:=by
 intro pins s σ H vs us Q I r h
 obtain⟨e,h⟩:=h
 subst e
 cases r
 exact assignInOrder_nil ⟨σ,H,I,h⟩
theorem xO(h1:PG X e t)(h2:RK X es u)(hs:(assignEach (e::es) X.env).map (·.2)=assign e X.env::(assignEach es X.env).map (·.2):=by rfl):RK X (e::es) (Bt t u):=by
 intro pins s σ H vs us Q I r h
 obtain⟨v,vr,e1,h⟩:=h
 subst e1
 cases r with
 |cons r rr =>
  rw[hs]
  refine assignInOrder_cons (aM (h1 pins s σ H _ _ _ I r h) λ_ s1 ⟨σ1,H1,I1,q1⟩=>?_)
  exact h2 pins s1 σ1 H1 _ _ Q I1 rr q1
def KR(K:PySem.W.Frag)(n:Nat)(t:Qe):TG:=λv σ H Q=>∃a xs,v=.ref a/\kO K H a xs/\xs.length=n/\t xs σ H Q
theorem Jm(hc:X.calm=true)(h:RK X es t)(hn:(assignEach es X.env).length=n:=by rfl)(hst:(assignEach es X.env).findIdx? (·.1)=none:=by rfl):PG X (.Tuple es k pos) (KR X.K n t):=by
 intro pins s σ H v u Q I r hw
 obtain⟨a,xs,e1,hq,hl,hw⟩:=hw
 subst e1
 cases r
 obtain⟨its,rv,ht,hz⟩:=I.tuple hq
 refine assign_Tuple_tuple (I.ok.hd hc) ht (by simp[hn,<-hl,rv.length]) hst λh' hx=>?_
 have I1:Inv X pins σ H { s with heap:=h' }:=I.kept (t':=s.toks) λb o e=>hx b o (aa0 (lt_size e)) e
 exact h pins _ σ H xs _ Q I1 (by simpa using rv) hw
def RM(to ti:TE)(t:KN):TG:=λv σ H Q=>to σ H λo H1=>ti σ H1 λi H2=>t o i v H2 λH3=>Q σ H3
theorem V2(ho:PE X o to)(hi:PE X i ti)(hs:KQ X t)(ha:∀v,assign (.Subscript o i pos) X.env v=(do
   let ov <-holding [v] (eval o X.env)
   let iv <-holding [v,ov] (eval i X.env)
   standAt pos
   holding [v,ov,iv] (setItem ov iv v)
   release [v,ov,iv] []):=by intro _;rfl):PG X (.Subscript o i pos) (RM to ti t):=by
 intro pins s σ H v u Q I r h
 rw[ha]
 refine aar (abo (aM (ho pins s σ H _ I h) λov s1 ⟨x,H1,I1,r1,q1⟩=>?_))
 refine aar (abo (aM (hi pins s1 σ H1 _ I1 q1) λiv s2 ⟨y,H2,I2,r2,q2⟩=>?_))
 refine aar (afg (aar (abo (aM (hs pins s2 σ H2 x y v ov iv u _ I2 r1 r2 r q2) λ_ s3 ⟨H3,I3,q3⟩=>?_))))
 exact wpAny_release ⟨σ,H3,I3,q3⟩
def oY(te:TE)(g:TG):TS:=λD σ H=>te σ H λx H1=>g x σ H1 D.nx
theorem Qf(he:PE X e te)(hg:PG X tg g)(hs:swapsWithSole [tg] e pos.line X.env=pure false:=by rfl)(hw:swappedStores [tg] e X.env=pure none:=by rfl)(h1:(assignEach [tg] X.env).map (·.2)=[assign tg X.env]:=by rfl):PS X (.Assign [tg] e pos) (oY te g):=by
 intro pins s σ H D I h
 refine wpAny_Assign_stores (aM (he pins s σ H _ I h) λv s1 ⟨x,H1,I1,r1,q1⟩=>?_) hs hw
 rw[h1]
 exact aM (hg pins s1 σ H1 x v _ I1 r1 q1) λ_ s2 q=>q
theorem Yh(hN:X.N.Nodup)(hi:X.N[i]?=some x)(hx:Loc X.env.scope x)(he:PE X e te)(hs:swapsWith e (some (.Name x pos')) pos.line X.env=pure false:=by rfl)(hf:X.fn x=true\/X.env.scope.names.lookup x=some .local:=by first|exact .inl rfl|exact .inr rfl|assumption) :
  PS X (.Assign [.Name x pos'] e pos) (oY te (yq i)):=by
 intro pins s σ H D I h
 refine wpAny_Assign_Name (aM (he pins s σ H _ I h) λv s1 ⟨y,H1,I1,r1,q1⟩=>?_) hs
 exact Yc I1 hN hi hx r1 (λs2 I2=>⟨_,H1,I2,q1⟩) hf
def RN(i:Nat)(te:TE)(ti:V0):TS:=λD σ H=>∃x,σ[i]?=some (some x)/\te σ H λy H1=>ti x y H1 λz H2=>D.nx (σ.set i (some z)) H2
theorem zWe(hN:X.N.Nodup)(hi:X.N[i]?=some x)(hx:Loc X.env.scope x)(he:PE X e te)(ho:V1 X op ti)(hf:X.fn x=true\/X.env.scope.names.lookup x=some .local:=by first|exact .inl rfl|exact .inr rfl|assumption) :
  PS X (.AugAssign (.Name x pos') op e pos) (RN i te ti):=by
 intro pins s σ H D I h
 obtain⟨v,e1,h⟩:=h
 obtain⟨m,hn,hl⟩:=I.loc
 have vis:Rr X.env.scope x:=by rcases hx with k|k;exact .inl k;exact .inr (.inl k)
 obtain⟨u,r,l⟩:=hl i x v hi e1 vis
 refine wpAny_AugAssign_Name ?_
 have go:wpAny (model X.prog X.w) X.A (eval e X.env) (λw s₂=>wpAny (model X.prog X.w) X.A (inplaceOp op u w) (λr s₃=>wpAny (model X.prog X.w) X.A (storeName X.env x r) (λ_=>SP X pins D .next) X.xe s₃) X.xe s₂) X.xe s:=by
  refine aM (he pins s σ H _ I h) λw s1 ⟨y,H1,I1,r1,q1⟩=>?_
  refine aM (ho pins s1 σ H1 v y u w _ I1 r r1 q1) λz s2 ⟨zv,H2,I2,r2,q2⟩=>?_
  exact Yc I2 hN hi hx r2 (λs3 I3=>⟨_,H2,I3,q2⟩) hf
 rcases l with⟨hk,hm⟩|⟨hk,c,hc,hcell⟩
 ·exact wpAny_loadName_local I.ok.kind hk hn hm go
 ·rcases hk with hk|hk
  ·exact wpAny_loadName_cell I.ok.kind hk hc hcell go
  ·rcases hx with k|k
   ·have:X.env.scope.names.lookup x=some .free:=hk
    rw[k] at this;cases this
   ·have:X.env.scope.names.lookup x=some .free:=hk
    rw[k] at this;cases this
def Jo(to ti te:TE)(KY:V->V->Hp->VK->Prop)(Yi:V0)(KZ:KN):TS:=λD σ H=>to σ H λo H1=>ti σ H1 λi H2=>KY o i H2 λx H3=>te σ H3 λy H4=>Yi x y H4 λz H5=>KZ o i z H5 λH6=>D.nx σ H6
def RP(X:Cx)(t:V->V->Hp->VK->Prop):Prop :=
 ∀(pins:List (Addr×Obj))(s:Shared)(σ:St)(H:Hp)(o i:V)(ov iv:Value)(Q:VK),Inv X pins σ H s->RelV o ov->RelV i iv->t o i H Q ->
  wpAny (model X.prog X.w) X.A (getItem ov iv) (EP X pins σ Q) X.xe s
theorem Ft(ho:PE X o to)(hi:PE X i ti)(hg:RP X KY)(he:PE X e te)(hp:V1 X op Yi)(hs:KQ X KZ)(ha:∀ov iv new,augStore i ov iv new=(do holding [new,ov,iv] (setItem ov iv new);release [new,ov,iv] [];pure .next):=by intros;rfl):PS X (.AugAssign (.Subscript o i tpos) op e pos) (Jo to ti te KY Yi KZ):=by
 intro pins s σ H D I h
 refine wpAny_AugAssign_SubscriptAny (aM (ho pins s σ H _ I h) λov s1 ⟨x1,H1,I1,r1,q1⟩=>?_) ha
 refine aM (hi pins s1 σ H1 _ I1 q1) λiv s2 ⟨x2,H2,I2,r2,q2⟩=>?_
 refine aM (hg pins s2 σ H2 x1 x2 ov iv _ I2 r1 r2 q2) λold s3 ⟨x3,H3,I3,r3,q3⟩=>?_
 refine aM (he pins s3 σ H3 _ I3 q3) λv s4 ⟨x4,H4,I4,r4,q4⟩=>?_
 refine aM (hp pins s4 σ H4 x3 x4 old v _ I4 r3 r4 q4) λnew s5 ⟨x5,H5,I5,r5,q5⟩=>?_
 exact aM (hs pins s5 σ H5 x1 x2 x5 ov iv new _ I5 r1 r2 r5 q5) λ_ s6 ⟨H6,I6,q6⟩=>⟨σ,H6,I6,q6⟩
def V3(f:Int->Int->Int):V0:=λx y H Q=>∃i j,x=.int i/\y=.int j/\Q (.int (f i j)) H
theorem K1:V1 X .Add (V3 λi j=>i+j):=by
 intro pins s σ H x y v u Q I r1 r2 h
 obtain⟨i,j,e1,e2,q⟩:=h
 subst e1;subst e2
 obtain⟨t,rfl⟩:=r1
 obtain⟨t',rfl⟩:=r2
 exact iadd_int ⟨.int _,H,I.tok _,⟨_,rfl⟩,q⟩
end
section
variable{X:Cx}{pos:Pos}
def zV7(c:TT)(tb:TS):TS:=λD σ H=>∃W:Nat->St->Hp->Prop,(∃m,W m σ H)/\∀m σ H,W m σ H ->
 c σ H λb H1=>if b=true then∃N:St->Hp->Prop,(∀σ' H',N σ' H'->∃m',m'<m/\W m' σ' H')/\tb { D with nx:=N,ct:=N,bk:=D.nx } σ H1 else D.nx σ H1
theorem zM1(hp:PassesOwn (model X.prog X.w) X.A X.env X.xe)(hc:PT X c tc)(hb:qZ X body tb):PS X (.While c body [] pos) (zV7 tc tb):=by
 intro pins s σ H D I h
 obtain⟨W,⟨m0,w0⟩,turn⟩:=h
 refine wpAny_While (codeAny_whileLoop (λn s'=>∃σ' H',Inv X pins σ' H' s'/\W n σ' H') ?_ m0 ⟨σ,H,I,w0⟩)
 rintro n s1 ⟨σ1,H1,I1,w1⟩
 refine ac5 hp (aM (hc pins s1 σ1 H1 _ I1 (turn n σ1 H1 w1)) λb s2 ⟨H2,I2,q2⟩=>?_)
 cases b with
 |true =>
  obtain⟨N,hN,q2⟩:=q2
  rw[if_pos rfl]
  refine ac5 hp (aM (hb pins s2 σ1 H2 _ I2 q2) λf s3 q3=>?_)
  cases f with
  |next =>
   obtain⟨σ3,H3,I3,n3⟩:=q3
   obtain⟨m',hm,w3⟩:=hN σ3 H3 n3
   exact⟨m',hm,σ3,H3,I3,w3⟩
  |cont =>
   obtain⟨σ3,H3,I3,n3⟩:=q3
   obtain⟨m',hm,w3⟩:=hN σ3 H3 n3
   exact⟨m',hm,σ3,H3,I3,w3⟩
  |brk=>exact q3
  |ret v=>exact q3
 |false =>
  rw[if_neg aau]
  exact aek ⟨σ1,H2,I2,q2⟩
end
structure It where
 go:Nat->Hp->Prop
 Qg:Nat->Hp->V->Hp->Prop
 stop:Nat->Hp->Prop
def lZ(X:Cx)(pins:List (Addr×Obj))(H:Hp)(b:Addr):Prop :=
 H b=none/\b≠X.env.locals/\b∉X.fs/\(b∈X.ex\/X.s₀.heap.objs.size<=b)/\(∀x c,X.env.cells.lookup x=some c->c≠b)/\∀p∈X.pn++pins,p.1≠b
theorem Inv.mL(I:Inv X pins σ H s)(hb:s.heap.objs.size<=b)(hn:H' b=none):lZ X pins H' b:=by
 refine⟨hn,adu (aa2 I.lt hb),I.KD hb,.inr (aa4 I.sz hb),λx c e z=>?_,λp hp z=>?_⟩
 ·obtain⟨v,q⟩:=I.cell x c e
  exact absurd (aa2 q.lt (by rw[z];exact hb)) (abx _)
 ·exact absurd (aa2 (lt_size (I.pin p hp).1) (by rw[z];exact hb)) (abx _)
structure Turn(P:Program)(w:World)(K:PySem.W.Frag)(tg:Expr)(J:It)(fp:List Addr)(it:Addr)(tn:Nat->Heap->Prop):Prop where
 mem:it∈fp
 obj:∀i h,tn i h->∀b∈fp,∃o,h.get? b=some o/\∀v,o.data≠.cell v
 keep:∀i h h',tn i h->(∀b∈fp,∀o,h.get? b=some o->h'.get? b=some o)->tn i h'
 item:∀(X:Cx),X.prog=P->X.w=w->X.K=K->X.calm=true->∀(i:Nat)(pins:List (Addr×Obj))(s:Shared)(σ:St)(H:Hp)(E:Value->Shared->Prop),Inv X pins σ H s->(∀b∈fp,lZ X pins H b)->tn i s.heap->J.go i H ->
  wpAny (model P w) X.A (pyNext (.ref it)) (λr s1=>∃u,r=some u /\
   wpAny (model P w) X.A (letOwnedTupleGo tg (.ref it) u) (λ_ s2=>∃x H',Inv X pins σ H' s2/\RelV x u/\J.Qg i H x H'/\tn (i+1) s2.heap/\∀b∈fp,H' b=none) E s1) E s
 done:∀(X:Cx),X.prog=P->X.w=w->X.K=K->X.calm=true->∀(i:Nat)(pins:List (Addr×Obj))(s:Shared)(σ:St)(H:Hp)(E:Value->Shared->Prop),Inv X pins σ H s->(∀b∈fp,lZ X pins H b)->tn i s.heap->J.stop i H ->
  wpAny (model P w) X.A (pyNext (.ref it)) (λr s1=>r=none/\Inv X pins σ H s1) E s
 self:∀(A:Around)(i:Nat)(s:Shared)(Q:Value->Shared->Prop)(E:Value->Shared->Prop),tn i s.heap->Q (.ref it) s->wpAny (model P w) A (pyIter (.ref it)) Q E s
abbrev TI:=St->Hp->(It->Hp->Prop)->Prop
def PIE(X:Cx)(pins:List (Addr×Obj))(σ:St)(tg:Expr)(R:It->Hp->Prop)(itv:Value)(s2:Shared):Prop :=
 ∃(it:Addr)(fp:List Addr)(tn:Nat->Heap->Prop)(J:It)(H':Hp),itv=.ref it/\Inv X pins σ H' s2/\Turn X.prog X.w X.K tg J fp it tn/\tn 0 s2.heap/\(∀b∈fp,lZ X pins H' b)/\R J H'
def PI(X:Cx)(tg iter:Expr)(wi:TI):Prop :=
 ∀(pins:List (Addr×Obj))(s:Shared)(σ:St)(H:Hp)(R:It->Hp->Prop),Inv X pins σ H s->wi σ H R ->
  wpAny (model X.prog X.w) X.A (eval iter X.env) (λv s1=>wpAny (model X.prog X.w) X.A (pyIter v) (PIE X pins σ tg R) X.xe s1) X.xe s
theorem Qh{s:Shared}{Q:Unit->Shared->Prop}(ho:s.heap.get? it=some o)(hc:o.cls=.type n)(hd:o.data=.fields vs)(hn:["enumerate","zip","dict_itemiterator","dict_reverseitemiterator","odict_iterator","itertools.zip_longest","itertools.pairwise"].contains n=false)(hQ:Q () s):wpAny M A (letOwnedTupleGo tg (.ref it) u) Q E s:=by
 unfold letOwnedTupleGo
 cases tg<;>first
  |exact aat hQ
  | (cases u<;>first
    |exact aat hQ
    | (refine aar (wpAny_load ho ?_)
       rw[hc,hd]
       show wpAny M A (if(["enumerate","zip","dict_itemiterator","dict_reverseitemiterator","odict_iterator","itertools.zip_longest","itertools.pairwise"].contains n&&vs[0]?==some (rawInt _))=true then _ else _) Q E s
       rw[if_neg (by intro h;rw[hn,Bool.false_and] at h;cases h)]
       exact aat hQ))
def Qi(K:PySem.W.Frag)(a:Addr):It :=
 ⟨λi H=>∃xs x,bx K H a xs/\xs[i]?=some x,λi H x H'=>H'=H/\∀xs,bx K H a xs->xs[i]?=some x,λi H=>∃xs,bx K H a xs/\xs.length<=i⟩
def Itt(K:PySem.W.Frag)(a:Addr):It :=
 ⟨λi H=>∃xs x,kO K H a xs/\xs[i]?=some x,λi H x H'=>H'=H/\∀xs,kO K H a xs->xs[i]?=some x,λi H=>∃xs,kO K H a xs/\xs.length<=i⟩
def Yj(lo:Int)(n:Nat):It:=⟨λi _=>i<n,λi H x H'=>H'=H/\x=.int (lo+i),λi _=>n<=i⟩
theorem zP4{P:Program}{w:World}{K:PySem.W.Frag}{tg:Expr}(a it:Addr):Turn P w K tg (Qi K a) [it] it (λi h=>h.IsListIter it a i) where
 mem:=by simp
 obj:=λi h st b hb=>by
  have e:b=it:=by simpa using hb
  subst e
  obtain⟨o,e,c,d⟩:=st
  exact⟨o,e,λv z=>by rw[d] at z;cases z⟩
 keep:=λi h h' st k=>st.at λo e=>k it (by simp) o e
 item:=by
  intro X hP hw hK hc i pins s σ H E I hf st hg
  subst hP hw hK
  obtain⟨xs,x,hq,hx⟩:=hg
  obtain⟨its,rv,p,hz⟩:=I.list hq
  obtain⟨u,hu,ru⟩:=rv.get hx
  obtain⟨f0,f1,f2,f3,f4,f5⟩:=hf it (by simp)
  refine wpAny_pyNext_list_item st p.isList (x:=u) (by simpa using hu) λh' st' sb=>?_
  have I1:Inv X pins σ H { s with heap:=h' }:=I.turned (t':=s.toks) (λb o hb e=>(sb.2 b hb).trans e) f0 f1 f3 f4 f5
  obtain⟨o,e,c,d⟩:=id st'
  exact⟨u,rfl,Qh (s:={ s with heap:=h' }) e c d (by decide) ⟨x,H,I1,ru,⟨rfl,λys hy=>by rw[I.q_ hy hq];exact hx⟩,st',λb hb=>(hf b hb).1⟩⟩
 done:=by
  intro X hP hw hK hc i pins s σ H E I hf st hg
  subst hP hw hK
  obtain⟨xs,hq,hx⟩:=hg
  obtain⟨its,rv,p,hz⟩:=I.list hq
  obtain⟨f0,f1,f2,f3,f4,f5⟩:=hf it (by simp)
  have hl:=rv.length
  exact wpAny_pyNext_list_end (I.ok.hd hc) st p.isList (by simp;omega) λh' eb=>⟨rfl,I.turned (t':=s.toks) (λb o hb e=>eb b o hb e) f0 f1 f3 f4 f5⟩
 self:=λ_ _ _ _ _ st h=>wpAny_pyIter_listiter st h
theorem zOb{P:Program}{w:World}{K:PySem.W.Frag}{tg:Expr}(a it:Addr):Turn P w K tg (Itt K a) [it] it (λi h=>h.IsTupleIter it a i) where
 mem:=by simp
 obj:=λi h st b hb=>by
  have e:b=it:=by simpa using hb
  subst e
  obtain⟨o,e,c,d⟩:=st
  exact⟨o,e,λv z=>by rw[d] at z;cases z⟩
 keep:=λi h h' st k=>st.at λo e=>k it (by simp) o e
 item:=by
  intro X hP hw hK hc i pins s σ H E I hf st hg
  subst hP hw hK
  obtain⟨xs,x,hq,hx⟩:=hg
  obtain⟨its,rv,p,hz⟩:=I.tuple hq
  obtain⟨u,hu,ru⟩:=rv.get hx
  obtain⟨f0,f1,f2,f3,f4,f5⟩:=hf it (by simp)
  refine wpAny_pyNext_tuple_item st (show s.heap.IsTuple a its.toArray from p) (x:=u) (by simpa using hu) λh' st' sb=>?_
  have I1:Inv X pins σ H { s with heap:=h' }:=I.turned (t':=s.toks) (λb o hb e=>(sb.2 b hb).trans e) f0 f1 f3 f4 f5
  obtain⟨o,e,c,d⟩:=id st'
  exact⟨u,rfl,Qh (s:={ s with heap:=h' }) e c d (by decide) ⟨x,H,I1,ru,⟨rfl,λys hy=>by rw[I.yp hy hq];exact hx⟩,st',λb hb=>(hf b hb).1⟩⟩
 done:=by
  intro X hP hw hK hc i pins s σ H E I hf st hg
  subst hP hw hK
  obtain⟨xs,hq,hx⟩:=hg
  obtain⟨its,rv,p,hz⟩:=I.tuple hq
  obtain⟨f0,f1,f2,f3,f4,f5⟩:=hf it (by simp)
  have hl:=rv.length
  exact wpAny_pyNext_tuple_end (I.ok.hd hc) st (show s.heap.IsTuple a its.toArray from p) (by simp;omega) λh' eb=>⟨rfl,I.turned (t':=s.toks) (λb o hb e=>eb b o hb e) f0 f1 f3 f4 f5⟩
 self:=λ_ _ _ _ _ st h=>wpAny_pyIter_tupleiter st h
theorem zOc{P:Program}{w:World}{K:PySem.W.Frag}{tg:Expr}(it:Addr)(lo:Int)(n:Nat):Turn P w K tg (Yj lo n) [it] it (λi h=>IsRangeIter h it (lo+(i:Nat)*1) ((n:Int)-(i:Nat)) 1) where
 mem:=by simp
 obj:=λi h st b hb=>by
  have e:b=it:=by simpa using hb
  subst e
  exact⟨_,st,λv z=>by
   have z':aft _=Data.cell v:=z
   cases z'⟩
 keep:=λi h h' st k=>k it (by simp) _ st
 item:=by
  intro X hP hw hK hc i pins s σ H E I hf st hg
  subst hP hw hK
  obtain⟨f0,f1,f2,f3,f4,f5⟩:=hf it (by simp)
  have W:=Walks.range (prog:=X.prog) (w:=X.w) (I.ok.hd hc) it lo 1 n
  refine W.item i s _ _ hg st λv h' tk hv st' kk=>?_
  obtain⟨t,rfl⟩:=hv
  have I1:Inv X pins σ H { s with heap:=h',toks:=tk }:=I.turned (λb o hb e=>kk b o (by simpa using hb) e) f0 f1 f3 f4 f5
  refine⟨_,rfl,Qh (s:={ s with heap:=h',toks:=tk }) (n:="range_iterator") st' rfl rfl (by decide) ⟨.int (lo+i),H,I1,⟨t,?_⟩,⟨rfl,rfl⟩,st',λb hb=>(hf b hb).1⟩⟩
  rw[Int.mul_one]
 done:=by
  intro X hP hw hK hc i pins s σ H E I hf st hg
  subst hP hw hK
  obtain⟨f0,f1,f2,f3,f4,f5⟩:=hf it (by simp)
  exact wpAny_pyNext_range_end (I.ok.hd hc) st (by have:n<=i:=hg;omega) λh' eb=>⟨rfl,I.turned (t':=s.toks) (λb o hb e=>eb b o hb e) f0 f1 f3 f4 f5⟩
 self:=λ_ _ _ _ _ st h=>wpAny_pyIter_rangeiter st h
section
variable{X:Cx}{tg:Expr}
def V4(K:PySem.W.Frag)(tl:TE):TI:=λσ H R=>tl σ H λx H1=>∃a,x=.ref a/\(∃xs,bx K H1 a xs)/\R (Qi K a) H1
def K3(K:PySem.W.Frag)(tl:TE):TI:=λσ H R=>tl σ H λx H1=>∃a,x=.ref a/\(∃xs,kO K H1 a xs)/\R (Itt K a) H1
theorem Yk(hl:PE X l tl):PI X tg l (V4 X.K tl):=by
 intro pins s σ H R I h
 refine aM (hl pins s σ H _ I h) λv s1 ⟨x,H1,I1,r1,q1⟩=>?_
 obtain⟨a,e,⟨xs,hq⟩,q⟩:=q1
 subst e
 cases r1
 obtain⟨its,rv,p,hz⟩:=I1.list hq
 refine aew p.isList ?_
 refine⟨s1.heap.objs.size,[s1.heap.objs.size],_,_,H1,rfl,I1.kept (t':=s1.toks) λb o e=>get?_push_of_some _ e,zP4 a _,⟨_,get?_push_size _ rfl,rfl,rfl⟩,λb hb=>?_,q⟩
 have e:b=s1.heap.objs.size:=by simpa using hb
 subst e
 exact I1.mL (aav _) (I1.hok.fresh (aav _))
theorem K4(hl:PE X l tl):PI X tg l (K3 X.K tl):=by
 intro pins s σ H R I h
 refine aM (hl pins s σ H _ I h) λv s1 ⟨x,H1,I1,r1,q1⟩=>?_
 obtain⟨a,e,⟨xs,hq⟩,q⟩:=q1
 subst e
 cases r1
 obtain⟨its,rv,p,hz⟩:=I1.tuple hq
 refine wpAny_pyIter_tuple (show s1.heap.IsTuple a its.toArray from p) ?_
 refine⟨s1.heap.objs.size,[s1.heap.objs.size],_,_,H1,rfl,I1.kept (t':=s1.toks) λb o e=>get?_push_of_some _ e,zOb a _,⟨_,get?_push_size _ rfl,rfl,rfl⟩,λb hb=>?_,q⟩
 have e:b=s1.heap.objs.size:=by simpa using hb
 subst e
 exact I1.mL (aav _) (I1.hok.fresh (aav _))
theorem zUf{pins:List (Addr×Obj)}{σ:St}{H:Hp}{s:Shared}{R:It->Hp->Prop}{E:Value->Shared->Prop}{lo hi:Int}{t u v:Tok}{tk:Nat}(I:Inv X pins σ H s)(h1:-(2^62)<=lo)(h2:lo<2^62)(h3:-(2^62)<=hi)(h4:hi<2^62)(q:R (Yj lo (hi-lo).toNat) H):wpAny (model X.prog X.w) X.A (pyIter (.ref s.heap.objs.size)) (PIE X pins σ tg R) E { s with heap:=s.heap.push { cls:=.type "range",data:=.fields #[.int lo t,.int hi u,.int 1 v] },toks:=tk }:=by
 refine wpAny_pyIter_range (afu ..) (small_one h1 h2 h3 h4) ?_
 have I1:Inv X pins σ H { s with heap:=s.heap.push { cls:=.type "range",data:=.fields #[.int lo t,.int hi u,.int 1 v] },toks:=tk }:=I.kept λb o e=>get?_push_of_some _ e
 refine⟨(s.heap.push { cls:=.type "range",data:=.fields #[.int lo t,.int hi u,.int 1 v] }).objs.size,[(s.heap.push { cls:=.type "range",data:=.fields #[.int lo t,.int hi u,.int 1 v] }).objs.size],_,_,H,rfl,
  I1.kept (t':=tk) λb o e=>get?_push_of_some _ e,zOc _ lo (hi-lo).toNat,?_,λb hb=>?_,q⟩
 ·have e1:lo+((0:Nat):Int)*1=lo:=by simp
  have e2:(((hi-lo).toNat:Nat):Int)-((0:Nat):Int)=acp lo hi 1:=by rw[rangeSize_one];split<;>omega
  show IsRangeIter _ _ (lo+((0:Nat):Int)*1) ((((hi-lo).toNat:Nat):Int)-((0:Nat):Int)) 1
  rw[e1,e2]
  exact get?_push_size _ rfl
 ·have e:b=(s.heap.push { cls:=.type "range",data:=.fields #[.int lo t,.int hi u,.int 1 v] }).objs.size:=by simpa using hb
  subst e
  exact I1.mL (aav _) (I1.hok.fresh (aav _))
def Jp(ta:TA):TI:=λσ H R=>ta σ H λvs H1=>∃j:Int,vs=[.int j] /\ -(2^62)<=j/\j<2^62/\R (Yj 0 j.toNat) H1
theorem xG(hg:Gl X "range")(hm:X.mg "range" = none)(ha:PA X [a] ta)(hs:starEach [a] X.env=[(false,eval a X.env)]:=by rfl):PI X tg (.Call (.Name "range" p) [a] [] pos) (Jp ta):=by
 intro pins s σ H R I h
 refine Call_ (A_ I hg hm boot_range (abl (aM (ha pos pins s σ H _ I h) λus s1 ⟨vs,H1,I1,r1,q1⟩=>?_) hs rfl))
 obtain⟨j,e,q1,q2,q⟩:=q1
 subst e
 cases r1 with
 |cons r rr =>
  cases rr
  obtain⟨t,rfl⟩:=r
  exact call_range_1 (zUf I1 (by omega) (by omega) q1 q2 (by simpa using q))
def Fv(wi:TI)(g:TG)(tb:TS):TS:=λD σ H=>wi σ H λJ H1=>∃W:Nat->Nat->St->Hp->Prop,(∃m,W 0 m σ H1)/\∀i m σ H,W i m σ H ->
 (J.stop i H/\D.nx σ H)\/(J.go i H/\∃N:St->Hp->Prop,(∀σ' H',N σ' H'->∃m',m'<m/\W (i+1) m' σ' H')/\∀x H',J.Qg i H x H'->g x σ H' λσ2 H2=>tb { D with nx:=N,ct:=N,bk:=D.nx } σ2 H2)
def K5(fp:List Addr)(h:Heap):List (Addr×Obj):=fp.filterMap λb=>(h.get? b).map λo=>(b,o)
theorem Qj{h:Heap}(hb:b∈fp)(e:h.get? b=some o):(b,o)∈K5 fp h:=List.mem_filterMap.mpr ⟨b,hb,by rw[e];rfl⟩
theorem zRk(hp:p∈K5 fp h):p.1∈fp/\h.get? p.1=some p.2:=by
 obtain⟨b,hb,e⟩:=List.mem_filterMap.mp hp
 cases q:h.get? b with
 |none=>rw[q] at e;cases e
 |some o =>
  rw[q] at e
  have e':(b,o)=p:=aa3 e
  subst e'
  exact⟨hb,q⟩
theorem Inv.pinned(I:Inv X pins σ H s)(hf:∀b∈fp,lZ X pins H b)(ho:∀b∈fp,∃o,s.heap.get? b=some o/\∀v,o.data≠.cell v):Inv X (pins++K5 fp s.heap) σ H s :=
 I.jW λp hp=>(mem_append.mp hp).elim (λz=>I.pin p (mem_append_right _ z)) λz=>by
  obtain⟨hb,e⟩:=zRk z
  obtain⟨f0,f1,f2,_⟩:=hf p.1 hb
  obtain⟨o,e',d⟩:=ho p.1 hb
  rw[e] at e';cases e'
  exact⟨e,f0,f1,f2,d⟩
theorem Inv.iw(I:Inv X (pins++pl) σ H s):Inv X pins σ H s:=I.jW λp hp=>I.pin p (mem_append_right _ (mem_append_left _ hp))
theorem yZ(hp:PassesOwn (model X.prog X.w) X.A X.env X.xe)(hc:X.calm=true)(hi:PI X tg iter wi)(hg:PG X tg g)(hb:qZ X body tb)(hs:∀x,foldedSetIterable iter X.env x=pure x:=by intro _;rfl):PS X (.For tg iter body [] pos) (Fv wi g tb):=by
 intro pins s σ H D I h
 refine wpAny_For (aM (hi pins s σ H _ I h) λv s1 h1=>aM h1 λitv s2 h2=>?_) hs
 obtain⟨it,fp,tn,J,H2,e,I2,T,st2,f2,W,⟨m0,w0⟩,turn⟩:=h2
 subst e
 have stat:∀{H':Hp},(∀b∈fp,H' b=none)->∀b∈fp,lZ X pins H' b:=λhn b hb=>⟨hn b hb,(f2 b hb).2⟩
 refine codeAny_forLoop_any (λn s'=>∃i σ' H',Inv X pins σ' H' s'/\tn i s'.heap/\(∀b∈fp,H' b=none)/\W i n σ' H') ?_ m0 ⟨0,σ,H2,I2,st2,λb hb=>(f2 b hb).1,w0⟩
 rintro n s3 ⟨i,σ3,H3,I3,st3,V5,w3⟩
 rcases turn i n σ3 H3 w3 with⟨stop,qn⟩|⟨go,N,hN,step⟩
 ·refine ac5 hp (aM (T.done X rfl rfl rfl hc i pins s3 σ3 H3 X.xe I3 (stat V5) st3 stop) λr s4 ⟨hr,I4⟩=>?_)
  subst hr
  exact aek ⟨σ3,H3,I4,qn⟩
 ·refine ac5 hp (aM (T.item X rfl rfl rfl hc i pins s3 σ3 H3 X.xe I3 (stat V5) st3 go) λr s4 ⟨u,hr,h4⟩=>?_)
  subst hr
  refine ac5 hp (aM h4 λ_ s5 ⟨x,H5,I5,r5,y5,Ym,fr5⟩=>?_)
  have I5':=I5.pinned (stat fr5) (T.obj _ _ Ym)
  refine ac5 hp (aM (hg _ s5 σ3 H5 x u _ I5' r5 (step x H5 y5)) λ_ s6 ⟨σ6,H6,I6,q6⟩=>?_)
  refine ac5 hp (aM (hb _ s6 σ6 H6 _ I6 q6) λf s7 q7=>?_)
  have again:∀{σ7:St}{H7:Hp},Inv X (pins++K5 fp s5.heap) σ7 H7 s7->N σ7 H7->∃m,m<n/\∃i σ' H',Inv X pins σ' H' s7/\tn i s7.heap/\(∀b∈fp,H' b=none)/\W i m σ' H':=λ{σ7 H7} I7 n7=>by
   obtain⟨m',hm,w7⟩:=hN σ7 H7 n7
   refine⟨m',hm,i+1,σ7,H7,I7.iw,T.keep _ _ _ Ym λb hb o e=>(I7.pin (b,o) (mem_append_right _ (mem_append_right _ (Qj hb e)))).1,λb hb=>?_,w7⟩
   obtain⟨o,e,d⟩:=T.obj _ _ Ym b hb
   exact(I7.pin (b,o) (mem_append_right _ (mem_append_right _ (Qj hb e)))).2.1
  cases f with
  |next=>obtain⟨σ7,H7,I7,n7⟩:=q7;exact again I7 n7
  |cont=>obtain⟨σ7,H7,I7,n7⟩:=q7;exact again I7 n7
  |brk=>obtain⟨σ7,H7,I7,q7⟩:=q7;exact⟨σ7,H7,I7.iw,q7⟩
  |ret v=>obtain⟨x7,σ7,H7,I7,r7,q7⟩:=q7;exact⟨x7,σ7,H7,I7.iw,r7,q7⟩
end
theorem zVg{K:PySem.W.Frag}{a:Addr}{xs:List V}{g:TG}{tb:TS}{D:Ends}{σ:St}{H:Hp}(Pv:Nat->St->Hp->Prop)(h0:Pv 0 σ H)(hl:∀i σ H,i<=xs.length->Pv i σ H->bx K H a xs)(hs:∀i x σ H,xs[i]?=some x->Pv i σ H->g x σ H λσ2 H2=>tb { D with nx:=Pv (i+1),ct:=Pv (i+1),bk:=D.nx } σ2 H2)(hd:∀σ H,Pv xs.length σ H->D.nx σ H) :
  ∃W:Nat->Nat->St->Hp->Prop,(∃m,W 0 m σ H)/\∀i m σ H,W i m σ H ->
   ((Qi K a).stop i H/\D.nx σ H)\/((Qi K a).go i H/\∃N:St->Hp->Prop,(∀σ' H',N σ' H'->∃m',m'<m/\W (i+1) m' σ' H')/\∀x H',(Qi K a).Qg i H x H'->g x σ H' λσ2 H2=>tb { D with nx:=N,ct:=N,bk:=D.nx } σ2 H2):=by
 refine⟨λi m σ H=>m=xs.length-i/\i<=xs.length/\Pv i σ H,⟨xs.length,by simp,abk _,h0⟩,?_⟩
 rintro i m σ H ⟨rfl,hi,p⟩
 have q:=hl i σ H hi p
 by_cases hlt:i<xs.length
 ·refine .inr ⟨⟨xs,xs[i],q,by simp[hlt]⟩,Pv (i+1),λσ' H' p'=>⟨xs.length-(i+1),by omega,rfl,hlt,p'⟩,λx H' y=>?_⟩
  obtain⟨e,y⟩:=y
  subst e
  exact hs i x σ _ (y xs q) p
 ·have e:i=xs.length:=by omega
  subst e
  exact .inl ⟨⟨xs,q,aav _⟩,hd σ H p⟩
abbrev R2:=V->V->Hp->VK->Prop
def jr(X:Cx)(f:Value->Value->Sem Value)(r:R2):Prop :=
 ∀(pins:List (Addr×Obj))(s:Shared)(σ:St)(H:Hp)(x y:V)(v u:Value)(Q:VK),Inv X pins σ H s->RelV x v->RelV y u->r x y H Q ->
  wpAny (model X.prog X.w) X.A (f v u) (EP X pins σ Q) X.xe s
def Yn(X:Cx)(f:Value->Sem Value)(r:V->Hp->VK->Prop):Prop :=
 ∀(pins:List (Addr×Obj))(s:Shared)(σ:St)(H:Hp)(x:V)(v:Value)(Q:VK),Inv X pins σ H s->RelV x v->r x H Q ->
  wpAny (model X.prog X.w) X.A (f v) (EP X pins σ Q) X.xe s
def sJ(X:Cx)(f:Value)(r:List V->Hp->VK->Prop):Prop :=
 ∀(pins:List (Addr×Obj))(s:Shared)(σ:St)(H:Hp)(xs:List V)(us:List Value)(Q:VK),Inv X pins σ H s->Vals xs us->r xs H Q ->
  wpAny (model X.prog X.w) X.A (call f us) (EP X pins σ Q) X.xe s
def Yo(X:Cx)(r:V->Hp->(Bool->Hp->Prop)->Prop):Prop :=
 ∀(pins:List (Addr×Obj))(s:Shared)(σ:St)(H:Hp)(x:V)(v:Value)(Q:Bool->Hp->Prop),Inv X pins σ H s->RelV x v->r x H Q ->
  wpAny (model X.prog X.w) X.A (truthy v) (TP X pins σ Q) X.xe s
def gW(r:R2)(ta tb:TE):TE:=λσ H Q=>ta σ H λx H1=>tb σ H1 λy H2=>r x y H2 Q
def tUn(r:V->Hp->VK->Prop)(ta:TE):TE:=λσ H Q=>ta σ H λx H1=>r x H1 Q
def rI(C:Int->Int->Prop)(g:Int->Int->V):R2:=λx y H Q=>∃i j,x=.int i/\y=.int j/\C i j/\Q (g i j) H
def qT(g:Int->Int->V):R2:=λx y H Q=>∃i j,x=.int i/\y=.int j/\Q (g i j) H
def rU(g:Int->V):V->Hp->VK->Prop:=λx H Q=>∃i,x=.int i/\Q (g i) H
section
variable{X:Cx}{a b c:Expr}{ta tb tc:TE}{pos:Pos}
theorem Fw(ha:PE X a ta)(hb:PE X b tb){R:V->V->Hp->Prop}(I:Inv X pins σ H s)(h:ta σ H λx H1=>tb σ H1 λy H2=>R x y H2){f:Value->Value->Sem Value}(hf:∀v u s2 x y H2,Inv X pins σ H2 s2->RelV x v->RelV y u->R x y H2->wpAny (model X.prog X.w) X.A (f v u) Q X.xe s2) :
  wpAny (model X.prog X.w) X.A (eval a X.env) (λv s₁=>wpAny (model X.prog X.w) X.A (eval b X.env) (λu s₂=>wpAny (model X.prog X.w) X.A (f v u) Q X.xe s₂) X.xe s₁) X.xe s:=by
 refine aM (ha pins s σ H _ I h) λv s1 ⟨x,H1,I1,r1,q1⟩=>?_
 refine aM (hb pins s1 σ H1 _ I1 q1) λu s2 ⟨y,H2,I2,r2,q2⟩=>?_
 exact hf v u s2 x y H2 I2 r1 r2 q2
theorem yD(ho:jr X (binaryOp op) r)(ha:PE X a ta)(hb:PE X b tb):PE X (.BinOp a op b pos) (gW r ta tb):=by
 intro pins s σ H Q I h
 exact wpAny_BinOp (Fw ha hb I h λv u s2 x y H2 I2 rx ry q=>ho pins s2 σ H2 x y v u Q I2 rx ry q)
theorem K6(ho:Yn X (unaryOp op) r)(ha:PE X a ta):PE X (.UnaryOp op a pos) (tUn r ta):=by
 intro pins s σ H Q I h
 exact UnaryOp_ (aM (ha pins s σ H _ I h) λv s1 ⟨x,H1,I1,r1,q1⟩=>ho pins s1 σ H1 x v Q I1 r1 q1)
theorem Qk{f:Value->Value->Sem Value}{C:Int->Int->Prop}{g:Int->Int->Int}(rule:∀(i j:Int) (t u:Tok) (s:Shared) (Q:Value->Shared->Prop) (E:Value->Shared->Prop),C i j->Q (.int (g i j) s.toks) { s with toks:=s.toks+1 }->wpAny (model X.prog X.w) X.A (f (.int i t) (.int j u)) Q E s) :
  jr X f (rI C λi j=>.int (g i j)):=by
 intro pins s σ H x y v u Q I rx ry h
 obtain⟨i,j,rfl,rfl,hc,q⟩:=h
 obtain⟨t,rfl⟩:=rx
 obtain⟨t',rfl⟩:=ry
 exact rule i j t t' s _ _ hc ⟨.int (g i j),H,I.tok _,⟨_,rfl⟩,q⟩
theorem K7{f:Value->Value->Sem Value}{g:Int->Int->Int}(rule:∀(i j:Int) (t u:Tok) (s:Shared) (Q:Value->Shared->Prop) (E:Value->Shared->Prop),Q (.int (g i j) s.toks) { s with toks:=s.toks+1 }->wpAny (model X.prog X.w) X.A (f (.int i t) (.int j u)) Q E s) :
  jr X f (qT λi j=>.int (g i j)):=by
 intro pins s σ H x y v u Q I rx ry h
 obtain⟨i,j,rfl,rfl,q⟩:=h
 obtain⟨t,rfl⟩:=rx
 obtain⟨t',rfl⟩:=ry
 exact rule i j t t' s _ _ ⟨.int (g i j),H,I.tok _,⟨_,rfl⟩,q⟩
theorem Fx{f:Value->Value->Sem Value}{g:Int->Int->Bool}(rule:∀(i j:Int) (t u:Tok) (s:Shared) (Q:Value->Shared->Prop) (E:Value->Shared->Prop),Q (.bool (g i j)) s->wpAny (model X.prog X.w) X.A (f (.int i t) (.int j u)) Q E s) :
  jr X f (qT λi j=>.bl (g i j)):=by
 intro pins s σ H x y v u Q I rx ry h
 obtain⟨i,j,rfl,rfl,q⟩:=h
 obtain⟨t,rfl⟩:=rx
 obtain⟨t',rfl⟩:=ry
 exact rule i j t t' s _ _ ⟨.bl (g i j),H,I,rfl,q⟩
def RQ(i j:Int):Prop:=0<j/\j<1073741824
def Fy(i j:Int):Prop:=0<=j/\j<=1000000/\i.natAbs<2^64
def Fz(i j:Int):Prop:=(-(2^64)<i/\i<2^64)\/(-(2^64)<j/\j<2^64)
theorem Fz.ok(h:Fz i j):IntMulOk i j:=by
 rcases h with⟨h1,h2⟩|⟨h1,h2⟩
 ·exact .of_left (intBits_le_64 h1 h2)
 ·exact .of_right (intBits_le_64 h1 h2)
theorem zOa(k:Nat):(0:Int)<=2^k:=by
 rw[two_pow_cast]
 exact adg _
theorem wD:jr X (binaryOp .Add) (qT λi j=>.int (i+j)):=K7 λ_ _ _ _ _ _ _ q=>add_int q
theorem Yp:jr X (binaryOp .Sub) (qT λi j=>.int (i-j)):=K7 λ_ _ _ _ _ _ _ q=>sub_int q
theorem K8:jr X (binaryOp .Mult) (rI Fz λi j=>.int (i*j)):=Qk λ_ _ _ _ _ _ _ hc q=>mul_int q hc.ok
theorem uV:jr X (binaryOp .FloorDiv) (rI RQ λi j=>.int (i/j)):=Qk λi j _ _ _ _ _ hc q=>by
 have h1:(0:Int)<j:=hc.1
 have h2:j<1073741824:=hc.2
 exact floordiv_int (by omega) (by rw[Int.fdiv_eq_ediv_of_nonneg i (by omega)];exact q) (.inl (PyProof.noPylong_small (by omega)))
theorem wR:jr X (binaryOp .Mod) (rI (λ_ j=>0<j) λi j=>.int (i%j)):=Qk λi j _ _ _ _ _ hc q=>by
 have h1:(0:Int)<j:=hc
 exact mod_int' (by omega) (by rw[Int.fmod_eq_emod_of_nonneg i (by omega)];exact q)
theorem Yq:jr X (binaryOp .Pow) (rI Fy λi j=>.int (i^j.toNat)):=Qk λ_ _ _ _ _ _ _ hc q=>pow_int_small hc.1 hc.2.1 hc.2.2 q
theorem K9:jr X (binaryOp .LShift) (rI Fy λi j=>.int (i*2^j.toNat)):=Qk λ_ _ _ _ _ _ _ hc q=>lshift_int_small hc.1 hc.2.1 hc.2.2 q
theorem V6:jr X (binaryOp .RShift) (rI (λ_ j=>0<=j) λi j=>.int (i/2^j.toNat)):=Qk λi j _ _ _ _ _ hc q =>
 rshift_int hc (by rw[Int.fdiv_eq_ediv_of_nonneg i (zOa _)];exact q)
theorem RT:jr X (binaryOp .BitAnd) (qT λi j=>.int (abh i j)):=K7 λ_ _ _ _ _ _ _ q=>and_int q
theorem unI{f:Value->Sem Value}{g:Int->Int}(rule:∀(i:Int) (t:Tok) (s:Shared) (Q:Value->Shared->Prop) (E:Value->Shared->Prop),Q (.int (g i) s.toks) { s with toks:=s.toks+1 }->wpAny (model X.prog X.w) X.A (f (.int i t)) Q E s) :
  Yn X f (rU λi=>.int (g i)):=by
 intro pins s σ H x v Q I rx h
 obtain⟨i,rfl,q⟩:=h
 obtain⟨t,rfl⟩:=rx
 exact rule i t s _ _ ⟨.int (g i),H,I.tok _,⟨_,rfl⟩,q⟩
theorem K_:Yn X (unaryOp .USub) (rU λi=>.int (-i)):=unI λ_ _ _ _ _ q=>neg_int q
end
section
variable{X:Cx}{a b c:Expr}{ta tb tc:TE}{pos:Pos}
theorem La(I:Inv X pins σ H s)(q:Q (.bl k) H)(e:k=k'):EP X pins σ Q (.bool k') s:=by
 subst e
 exact⟨.bl k,H,I,rfl,q⟩
theorem Ef:jr X (compareOp .Lt) (qT λi j=>.bl (decide (i<j))):=Fx λ_ _ _ _ _ _ _ q=>lt_int q
theorem V7:jr X (compareOp .LtE) (qT λi j=>.bl (decide (i<=j))):=Fx λ_ _ _ _ _ _ _ q=>le_int q
theorem Lb:jr X (compareOp .Gt) (qT λi j=>.bl (decide (j<i))):=Fx λ_ _ _ _ _ _ _ q=>gt_int q
theorem Jq:jr X (compareOp .GtE) (qT λi j=>.bl (decide (j<=i))):=Fx λ_ _ _ _ _ _ _ q=>ge_int q
theorem zQ7:jr X (compareOp .In) (λx y H Q=>∃i j,x=.str i/\y=.str j/\Q (.bl (!(ad8 j i 0 j.length 1).isEmpty)) H):=by
 intro pins s σ H x y v u Q I rx ry h
 obtain⟨i,j,rfl,rfl,q⟩:=h
 obtain⟨t,rfl⟩:=rx
 obtain⟨t',rfl⟩:=ry
 exact in_str (La I q rfl)
theorem aH(b:Expr)(h:op≠.In:=by decide)(h2:op≠.NotIn:=by decide):behindInMarks op b=false:=by
 have e1:(op==CmpOp.In)=false:=by cases op<;>first|rfl|exact absurd rfl h
 have e2:(op==CmpOp.NotIn)=false:=by cases op<;>first|rfl|exact absurd rfl h2
 cases b<;>simp[behindInMarks,e1,e2]
theorem Ql(ho:jr X (compareOp op) r)(ha:PE X a ta)(hb:PE X b tb)(hm:behindInMarks op b=false):PE X (.Compare a [op] [b] pos) (gW r ta tb):=by
 intro pins s σ H Q I h
 exact wpAny_Compare1 (Fw ha hb I h λv u s2 x y H2 I2 rx ry q=>ho pins s2 σ H2 x y v u Q I2 rx ry q) hm
def Bu(t:TE):TT:=λσ H Q=>t σ H λx H'=>∃k,x=.bl k/\Q k H'
theorem yB(ho:jr X (compareOp op) r)(ha:PE X a ta)(hb:PE X b tb)(hm:behindInMarks op b=false):PT X (.Compare a [op] [b] pos) (Bu (gW r ta tb)):=by
 intro pins s σ H Q I h
 refine wpAny_isTrue_Compare1 (aM (ha pins s σ H _ I h) λv s1 ⟨x,H1,I1,r1,q1⟩=>aM (hb pins s1 σ H1 _ I1 q1) λu s2 ⟨y,H2,I2,r2,q2⟩ =>
  aM (ho pins s2 σ H2 x y v u _ I2 r1 r2 q2) λc s3 ⟨z,H3,I3,r3,k,e,q3⟩=>?_) hm
 subst e
 cases r3
 exact ab1 ⟨H3,I3,q3⟩
def Yr(r r':R2)(ta tb tc:TE):TE:=λσ H Q=>ta σ H λx H1=>tb σ H1 λy H2=>r x y H2 λz H3=>∃k,z=.bl k /\
 (if k=true then tc σ H3 λw' H4=>r' y w' H4 Q else Q (.bl false) H3)
theorem zM7(ho:jr X (compareOp op) r)(ho':jr X (compareOp op') r')(ha:PE X a ta)(hb:PE X b tb)(hc:PE X c tc)(hm:lastMarks [op,op'] [b,c]=false:=by with_unfolding_all rfl):PE X (.Compare a [op,op'] [b,c] pos) (Yr r r' ta tb tc):=by
 intro pins s σ H Q I h
 refine Compare_chain (aM (ha pins s σ H _ I h) λv s1 ⟨x,H1,I1,r1,q1⟩=>chain_link (aM (hb pins s1 σ H1 _ I1 q1) λu s2 ⟨y,H2,I2,r2,q2⟩ =>
  aM (ho pins s2 σ H2 x y v u _ I2 r1 r2 q2) λd s3 ⟨z,H3,I3,r3,k,e,q3⟩=>?_)) hm
 subst e
 cases r3
 refine ab1 ?_
 cases k with
 |false=>exact ite_ff ⟨.bl false,H3,I3,rfl,q3⟩
 |true=>exact ite_tt (chain_last (aM (hc pins s3 σ H3 _ I3 q3) λw' s4 ⟨z',H4,I4,r4,q4⟩=>ho' pins s4 σ H4 y z' u w' Q I4 r2 r4 q4))
theorem zUh(ho:jr X (compareOp op) r)(ho':jr X (compareOp op') r')(ha:PE X a ta)(hb:PE X b tb)(hc:PE X c tc)(hm:lastMarks [op,op'] [b,c]=false:=by with_unfolding_all rfl):PT X (.Compare a [op,op'] [b,c] pos) (Bu (Yr r r' ta tb tc)):=by
 intro pins s σ H Q I h
 refine isTrue_chain (aM (ha pins s σ H _ I h) λv s1 ⟨x,H1,I1,r1,q1⟩=>test_link (aM (hb pins s1 σ H1 _ I1 q1) λu s2 ⟨y,H2,I2,r2,q2⟩ =>
  aM (ho pins s2 σ H2 x y v u _ I2 r1 r2 q2) λd s3 ⟨z,H3,I3,r3,k,e,q3⟩=>?_)) hm
 subst e
 cases r3
 refine ab1 ?_
 cases k with
 |false =>
  obtain⟨k',e',q'⟩:=q3
  cases e'
  exact ite_ff ⟨H3,I3,q'⟩
 |true =>
  refine ite_tt (test_last (aM (hc pins s3 σ H3 _ I3 q3) λw' s4 ⟨z',H4,I4,r4,q4⟩=>aM (ho' pins s4 σ H4 y z' u w' _ I4 r2 r4 q4) λd' s5 ⟨z2,H5,I5,r5,k2,e2,q5⟩=>?_))
  subst e2
  cases r5
  exact ab1 ⟨H5,I5,q5⟩
def FJ(K:PySem.W.Frag)(x:V)(H:Hp)(k:Bool):Prop :=
 match x with
 |.non=>k=false
 |.bl b=>k=b
 |.int i=>k=(i != 0)
 |.str y=>y.length<=sizeLine/\k=((y.length:Int) != 0)
 |.Fd y=>y.size<=sizeLine/\k=((y.size:Int) != 0)
 |.ref p=>(∃xs,bx K H p xs/\k=!xs.isEmpty)\/(∃xs,kO K H p xs/\k=!xs.isEmpty)\/∃kvs,H p=some (.dK kvs)/\k=!kvs.isEmpty
 |_=>False
theorem zPa{κ:Type}{kvs:List (κ×V)}{vs:List (κ×Value)}(r:KV kvs vs):(!vs.isEmpty)=!kvs.isEmpty:=by
 cases r<;>rfl
theorem zG0(r:Vals xs its):(!its.toArray.isEmpty)=!xs.isEmpty:=by
 cases r<;>simp
theorem Ld:(sizeLine:Nat)<2^63:=by rw[aev];decide
theorem Lf:Yo X (λx H Q=>∃k,FJ X.K x H k/\Q k H):=by
 intro pins s σ H x v Q I rx h
 obtain⟨k,e,q⟩:=h
 have hl:=Ld
 have hs:sizeLine=16777216:=aev
 cases x with
 |non =>
  cases rx
  have e':k=false:=e
  subst e'
  exact truthy_none ⟨H,I,q⟩
 |bl b =>
  cases rx
  have e':k=b:=e
  subst e'
  exact ab1 ⟨H,I,q⟩
 |int i =>
  obtain⟨t,rfl⟩:=rx
  have e':k=(i != 0):=e
  subst e'
  exact PySem.P.truthy_int ⟨H,I,q⟩
 |str y =>
  obtain⟨t,rfl⟩:=rx
  obtain⟨hy,e'⟩:y.length<=sizeLine/\k=((y.length:Int) != 0):=e
  subst e'
  exact PySem.P.truthy_str (by omega) ⟨H,I.tok _,q⟩
 |Fd y =>
  obtain⟨t,rfl⟩:=rx
  obtain⟨hy,e'⟩:y.size<=sizeLine/\k=((y.size:Int) != 0):=e
  subst e'
  exact PySem.W.truthy_bytes (by omega) ⟨H,I.tok _,q⟩
 |ref p =>
  cases rx
  have e':(∃xs,bx X.K H p xs/\k=!xs.isEmpty)\/(∃xs,kO X.K H p xs/\k=!xs.isEmpty)\/∃kvs,H p=some (.dK kvs)/\k=!kvs.isEmpty:=e
  rcases e' with⟨xs,hx,e'⟩|⟨xs,hx,e'⟩|⟨kvs,hx,e'⟩
  ·subst e'
   obtain⟨its,r,pl,hz⟩:=I.list hx
   have hlen:=r.length
   exact wpAny_truthy_list pl.isList (by simp only[size_toArray];omega) ⟨H,I.tok _,by rw[zG0 r];exact q⟩
  ·subst e'
   obtain⟨its,r,pl,hz⟩:=I.tuple hx
   have hlen:=r.length
   exact truthy_tuple pl (by simp only[size_toArray];omega) ⟨H,I.tok _,by rw[zG0 r];exact q⟩
  ·subst e'
   obtain⟨hz,hS,vs,r,m⟩:kvs.length<=sizeLine/\(p==sysModules)=false/\∃vs,KV kvs vs/\s.heap.DictOf (vG X.prog X.w) p vs:=I.hok p _ hx
   have hlen:kvs.length=vs.length:=aey r
   exact wpAny_truthy_dict hS m (by omega) ⟨H,I.tok _,by rw[zPa r];exact q⟩
 |_=>exact(show False from e).elim
theorem zUg(ha:PE X a ta)(he:∀whole,isTrue a X.env whole=(do let v <-whole;standAt a.pos;holding [v] (truthy v))) :
  PT X a (λσ H Q=>ta σ H λx H'=>∃k,FJ X.K x H' k/\Q k H'):=by
 intro pins s σ H Q I h
 exact isTrue_plain (aM (ha pins s σ H _ I h) λv s1 ⟨x,H1,I1,r1,q1⟩=>Lf pins s1 σ H1 x v Q I1 r1 q1) (he _)
theorem zOs:jr X (binaryOp .Add) (λx y H Q=>∃i j,x=.str i/\y=.str j/\i.length+j.length<=sizeLine/\Q (.str (i++j)) H):=by
 intro pins s σ H x y v u Q I rx ry h
 obtain⟨i,j,rfl,rfl,hz,q⟩:=h
 obtain⟨t,rfl⟩:=rx
 obtain⟨t',rfl⟩:=ry
 exact add_str (λt' tk=>⟨.str (i++j),H,I.tok _,⟨_,rfl⟩,q⟩) hz
def zNz(b:Expr):Prop:=∀o i,subscripted b false o i=operate [o,i] (getItem o i)
theorem zLk(ha:PE X a ta)(hb:PE X b tb)(hs:zNz b) :
  PE X (.Subscript a b pos) (gW (λx y H Q=>∃z i c,x=.str z/\y=.int i/\0<=i/\i<2^63/\i<z.length/\z.cps[i.toNat]?=some c/\Q (.str ⟨#[c]⟩) H) ta tb):=by
 intro pins s σ H Q I h
 refine Subscript_ (Fw ha hb I h λv u s2 x y H2 I2 rx ry q=>?_)
 obtain⟨z,i,c,rfl,rfl,h0,h63,h1,hc,q⟩:=q
 obtain⟨t,rfl⟩:=rx
 obtain⟨t',rfl⟩:=ry
 have e:seqIndex? i z.length=some i.toNat:=PySem.StrLaws.seqIndex_nonneg h0 h1
 exact tail_any (typeIs_str s2 z t) slot_str_getitem.lookup (getItem_str (c:=c) (by
  have e1:decide (i < -(2^63:Int))=false:=decide_eq_false (by omega)
  have e2:decide (i ≥ 2^63)=false:=decide_eq_false (by omega)
  rw[e1,e2]<;>rfl) (by rw[e];exact hc) ⟨.str ⟨#[c]⟩,H2,I2.tok _,⟨_,rfl⟩,q⟩) (hs _ _)
theorem Jr(r:Vals [x] us):∃u,us=[u]/\RelV x u:=by
 cases r with
 |cons r1 r2=>cases r2;exact⟨_,rfl,r1⟩
theorem vals2(r:Vals [x,y] us):∃u w',us=[u,w']/\RelV x u/\RelV y w':=by
 cases r with
 |cons r1 r2 =>
  cases r2 with
  |cons r3 r4=>cases r4;exact⟨_,_,rfl,r1,r3⟩
theorem zS0(hc:X.calm=true):sJ X (.builtin "max") (λxs H Q=>∃i j,xs=[.int i,.int j]/\Q (.int (if j > i then j else i)) H):=by
 intro pins s σ H xs us Q I r h
 obtain⟨i,j,rfl,q⟩:=h
 obtain⟨u,w',rfl,⟨t,rfl⟩,⟨t',rfl⟩⟩:=vals2 r
 refine max_two_ints (I.ok.hd hc) λh' tk k=>⟨_,H,I.kept k,?_,q⟩
 by_cases hj:j > i
 ·rw[if_pos hj,if_pos hj];exact⟨_,rfl⟩
 ·rw[if_neg hj,if_neg hj];exact⟨_,rfl⟩
theorem zS2:sJ X (.type "int") (λxs H Q=>(∃i,xs=[.int i]/\Q (.int i) H)\/∃k,xs=[.bl k]/\Q (.int (if k then 1 else 0)) H):=by
 intro pins s σ H xs us Q I r h
 rcases h with⟨i,rfl,q⟩|⟨k,rfl,q⟩
 ·obtain⟨u,rfl,t,rfl⟩:=Jr r
  exact call_int_int ⟨.int i,H,I,⟨_,rfl⟩,q⟩
 ·obtain⟨u,rfl,r1⟩:=Jr r
  cases r1
  exact call_int_bool ⟨.int (if k then 1 else 0),H,I.tok _,⟨_,rfl⟩,q⟩
def Ys(K:PySem.W.Frag)(x:V)(H:Hp)(n:Nat):Prop :=
 match x with
 |.str y=>y.length<=sizeLine/\n=y.length
 |.Fd y=>y.size<=sizeLine/\n=y.size
 |.ref p=>(∃xs,bx K H p xs/\n=xs.length)\/∃xs,kO K H p xs/\n=xs.length
 |_=>False
theorem zVt:sJ X (.builtin "len") (λxs H Q=>∃x n,xs=[x]/\Ys X.K x H n/\Q (.int n) H):=by
 intro pins s σ H xs us Q I r h
 obtain⟨x,n,rfl,e,q⟩:=h
 obtain⟨u,rfl,rx⟩:=Jr r
 have hl:=Ld
 have hs:sizeLine=16777216:=aev
 cases x with
 |str y =>
  obtain⟨t,rfl⟩:=rx
  obtain⟨hy,e'⟩:y.length<=sizeLine/\n=y.length:=e
  subst e'
  exact len_str (by omega) ⟨.int _,H,I.tok _,⟨_,rfl⟩,q⟩
 |Fd y =>
  obtain⟨t,rfl⟩:=rx
  obtain⟨hy,e'⟩:y.size<=sizeLine/\n=y.size:=e
  subst e'
  exact PySem.W.len_bytes (by omega) ⟨.int _,H,I.tok _,⟨_,rfl⟩,q⟩
 |ref p =>
  cases rx
  have e':(∃xs,bx X.K H p xs/\n=xs.length)\/∃xs,kO X.K H p xs/\n=xs.length:=e
  rcases e' with⟨xs,hx,e'⟩|⟨xs,hx,e'⟩
  ·subst e'
   obtain⟨its,r',pl,hz⟩:=I.list hx
   have hlen:=r'.length
   exact Calls.call_len_list pl.isList (by simp only[size_toArray];omega) ⟨.int xs.length,H,I.tok _,⟨_,by simp only[size_toArray];rw[hlen]⟩,q⟩
  ·subst e'
   obtain⟨its,r',pl,hz⟩:=I.tuple hx
   have hlen:=r'.length
   exact len_tuple pl (by simp only[size_toArray];omega) ⟨.int xs.length,H,I.tok _,⟨_,by simp only[size_toArray];rw[hlen]⟩,q⟩
 |_=>exact(show False from e).elim
end
structure sO(h:Heap)(x dx C:Addr)(mA:Str->Option Value):Prop where
 obj:h.get? x=some (instObj C dx)
 ns:h.Ns1 dx mA
 ne:dx≠x
theorem zRs{h:Heap}(n:h.Ns1 dx mA):∃od,h.get? dx=some od/\∀name,lookIn name od=some (mA name):=by
 obtain⟨o,es,ep,ho,hd,hk,_,hm⟩:=n
 refine⟨o,ho,λname=>?_⟩
 have e:=hm name
 unfold nsFind findBy at e
 rw[<-Array.find?_toList] at e
 unfold lookIn
 rw[hd]
 dsimp only
 split
 ·rename_i y q
  rw[q] at e
  exact congrArg some e
 ·rename_i q
  rw[q] at e
  have a:es.toList.any (·.refKey)=false:=by
   rw[any_eq_false]
   intro y hy
   obtain⟨z,t,hkey⟩:=hk y (Array.mem_toList_iff.mp hy)
   simp[DictEntry.refKey,hkey]
  have a':¬es.toList.any (·.refKey)=true:=by rw[a];exact aau
  rw[if_neg a']
  exact congrArg some e
theorem sO.look(I:sO h x dx C mA):∃od,PySem.W.InstAt h x (instObj C dx) C (some od)/\∀name,lookIn name od=some (mA name) :=
 let⟨od,ho,hl⟩:=zRs I.ns
 ⟨od,⟨I.obj,rfl,rfl,ho⟩,hl⟩
section
variable{prog:Program}{w:World}{A:Around}{E:Value->Shared->Prop}{s:Shared}{K:PySem.W.Frag}{x dx C f:Addr}{mA:Str->Option Value}{name:Str}{v:Value}
theorem get_map{Q:Value->Shared->Prop}(X:K.In s.heap)(I:sO s.heap x dx C mA)(hg:plainGet K C name=true)(hh:hasDictIn K C=true)(ha:findIn K (.ref C) name=some none)(hv:mA name=some v)(hv':PySem.W.handedIn v=true)(h:Q v { s with toks:=s.toks+1 }) :
  wpAny (model prog w) A (getAttr (.ref x) name expr) Q E s:=by
 obtain⟨od,J,hl⟩:=I.look
 exact PySem.W.get_value X J (ae9 hg).1 (PySem.W.findObj_own hh ha rfl (by rw[hl,hv])) hv' h
theorem zVf{Q:Value×List Value->Shared->Prop}(X:K.In s.heap)(I:sO s.heap x dx C mA)(hg:plainGet K C name=true)(hf:findIn K (.ref C) name=some (some (.ref f)))(ht:isFn K (.ref f)=true)(hv:mA name=none)(h:Q (.ref f,[.ref x]) s) :
  wpAny (model prog w) A (getMethod (.ref x) name pl) Q E s:=by
 obtain⟨od,J,hl⟩:=I.look
 exact PySem.W.method_fn X J (ae9 hg).1 (ae9 hg).2 hf (beq_iff_eq.mp ht) (by show(lookIn name od).map (·.isSome)=some false;rw[hl,hv];rfl) h
theorem FN{Q:Unit->Shared->Prop}(X:K.In s.heap)(I:sO s.heap x dx C mA)(hs:findIn K (.ref C) "__setattr__" = some (some (.builtin "object.__setattr__")))(hp:PySem.W.plainOver K C=true)(ht:takerIn K C name=some none)(hh:hasDictIn K C=true)(hw:afp mA ns)(hsz:ns.length<=sizeLine)(h:∀h',sO h' x dx C (λy=>if y=name then some v else mA y)->SameBut dx s.heap h'->Q () { s with heap:=h',toks:=s.toks+2 }) :
  wpAny (model prog w) A (setAttr (.ref x) name v) Q E s:=by
 obtain⟨od,J,hl⟩:=I.look
 refine PySem.W.set_plain X J hs (PySem.W.osa_open (s:={ s with toks:=s.toks+1 }) (r:=none) X J hp ht λb=>?_)
 obtain⟨cd,hc,hd'⟩:=PySem.W.any_some hh
 have hx:s.heap.get? x=some ⟨.ref C,some dx,.plain,#[]⟩:=I.obj
 refine aar (aat (aar (aar (wpAny_loadPart hx (aar (PySem.W.Looks.here (s:={ s with toks:=s.toks+1 }) (PySem.W.looks_clsIn X hc) ?_))))))
 rw[hd']
 refine aat (a:=some dx) (aar (aat (aar ?_)))
 refine wpAny_nsSet1 (s:={ s with toks:=s.toks+1 }) I.ns λh' hn2 hs2=>?_
 obtain⟨oD,esD,epD,hoD,hdD,hcD⟩:=hn2.count (PySem.Within.cons name v hw)
 refine aar (wpAny_lookBehind hoD (by rw[hdD];exact pastItsLine_dict (aa4 hcD (by rw[length_cons];omega))) ?_)
 exact aat (h _ ⟨(hs2.2 _ (abv I.ne)).trans I.obj,hn2,I.ne⟩ hs2)
theorem zU2(X:K.In s.heap)(hm:PySem.W.makesIn K C=true)(hi:findIn K (.ref C) "__init__" = some (some (.ref f)))(hf:typeIn K (.ref f)=some (.type "function"))(h:codeAny (model prog w) (A.under (.builtin "type.__call__" ⟨.ref C::vs,kw⟩)) (.call (.ref f) ⟨.ref (s.heap.objs.size+1)::vs,kw⟩) (PySem.W.InitBack (s.heap.objs.size+1) R)
   { s with heap:=(s.heap.push emptyDict).push (instObj C s.heap.objs.size) }) :
  codeAny (model prog w) A (.call (.ref C) ⟨vs,kw⟩) R s:=by
 obtain⟨hh,g,d,t,os⟩:=s
 exact PySem.W.make_core (PySem.W.makes_of X hm) (PySem.W.looks_findIn X hi) (λself=>PySem.W.bind_fn X self hf) (.inl rfl) h
end
def aF(f:Str)(v:V):List (Str×V)->List (Str×V)
 |[]=>[(f,v)]
 | (g,x)::r=>if g=f then(g,v)::r else(g,x)::aF f v r
theorem zR(f g:Str)(v:V):∀fs:List (Str×V),(aF f v fs).lookup g=if g=f then some v else fs.lookup g
 |[]=>by
  show ac6 g [(f,v)]=_
  by_cases h:g=f
  ·have hb:(g==f)=true:=beq_iff_eq.mpr h
   simp only[ac6,hb,if_pos h]
  ·have hb:(g==f)=false:=beq_eq_false_iff_ne.mpr h
   simp only[ac6,hb,if_neg h]
 | (k,x)::r=>by
  have ih:=zR f g v r
  rw[show aF f v ((k,x)::r)=(if k=f then(k,v)::r else(k,x)::aF f v r) from rfl]
  by_cases hk:k=f
  ·rw[if_pos hk]
   by_cases h:g=k
   ·have hb:(g==k)=true:=beq_iff_eq.mpr h
    simp only[ac6,hb,if_pos (h.trans hk)]
   ·have hb:(g==k)=false:=beq_eq_false_iff_ne.mpr h
    simp only[ac6,hb,if_neg (λe:g=f=>h (e.trans hk.symm))]
  ·rw[if_neg hk]
   by_cases h:g=k
   ·have hb:(g==k)=true:=beq_iff_eq.mpr h
    simp only[ac6,hb,if_neg (λe:g=f=>hk (h.symm.trans e))]
   ·have hb:(g==k)=false:=beq_eq_false_iff_ne.mpr h
    simp only[ac6,hb]
    exact ih
theorem Yt(f:Str)(v:V):∀fs:List (Str×V),f∈(aF f v fs).map (·.1)/\∀g,g∈fs.map (·.1)->g∈(aF f v fs).map (·.1)
 |[]=>⟨by simp[aF],λg h=>by simp at h⟩
 | (k,x)::r=>by
  obtain⟨i1,i2⟩:=Yt f v r
  rw[show aF f v ((k,x)::r)=(if k=f then(k,v)::r else(k,x)::aF f v r) from rfl]
  by_cases hk:k=f
  ·rw[if_pos hk]
   subst hk
   exact⟨by simp,λg h=>by simpa using h⟩
  ·rw[if_neg hk]
   refine⟨?_,λg h=>?_⟩
   ·rw[map_cons]
    exact mem_cons_of_mem _ i1
   ·rw[map_cons] at h ⊢
    rcases mem_cons.mp h with e|e
    ·exact mem_cons.mpr (.inl e)
    ·exact mem_cons_of_mem _ (i2 g e)
theorem zFk(f:Str)(v:V):∀fs:List (Str×V),(aF f v fs).length<=fs.length+1
 |[]=>by simp[aF]
 | (k,x)::r=>by
  have ih:=zFk f v r
  rw[show aF f v ((k,x)::r)=(if k=f then(k,v)::r else(k,x)::aF f v r) from rfl]
  by_cases hk:k=f
  ·rw[if_pos hk,length_cons,length_cons];omega
  ·rw[if_neg hk,length_cons,length_cons];omega
theorem jq.some_of(r:jq (some v) o):∃u,o=some u/\RelV v u:=by
 cases o with
 |none=>exact(show False from r).elim
 |some u=>exact⟨u,rfl,r⟩
theorem jq.none_of(r:jq none o):o=none:=by
 cases o with
 |none=>rfl
 |some u=>exact(show False from r).elim
theorem zSa(r:RelV v u):PySem.W.handedIn u=true:=by
 cases v with
 |non=>cases(show u=adb from r);rfl
 |bl b=>cases(show u=afk b from r);rfl
 |int i=>obtain⟨t,e⟩:=(show∃t,u=acf i t from r);cases e;rfl
 |str x=>obtain⟨t,e⟩:=(show∃t,u=adk x t from r);cases e;rfl
 |Fd b=>obtain⟨t,e⟩:=(show∃t,u=Value.bytes b t from r);cases e;rfl
 |flt b=>obtain⟨t,e⟩:=(show∃t,u=afw b t from r);cases e;rfl
 |ref a=>cases(show u=abj a from r);rfl
 |ty n=>cases(show u=ac3 n from r);rfl
section
variable{P:Program}{w:World}{H H':Hp}{h h':Heap}{a C dx:Addr}{fs fs':List (Str×V)}
theorem V8(hok:h_ P w H h)(e:H a=some (.ins C dx fs)):∃mA,sO h a dx C mA/\(∀f,jq (fs.lookup f) (mA f))/\afp mA (fs.map (·.1))/\fs.length<=1000/\H dx=some (.own a):=by
 obtain⟨d,z,ne,ob,mA,n,r,q⟩:=(show bw P w H h a (.ins C dx fs) from hok a _ e)
 exact⟨mA,⟨ob,n,ne⟩,r,q,z,d⟩
end
structure Cls(K:PySem.W.Frag)(C:Addr):Prop where
 pg:plainGet K C aea=true
 hd:hasDictIn K C=true
 po:PySem.W.plainOver K C=true
 sa:findIn K (.ref C) "__setattr__" = some (some (.builtin "object.__setattr__"))
theorem Cls.get{K:PySem.W.Frag}{C:Addr}(c:Cls K C)(f:Str):plainGet K C f=true:=c.pg
def aY(K:PySem.W.Frag)(C:Addr)(f:Str):Prop:=findIn K (.ref C) f=some none
theorem aY.taker{K:PySem.W.Frag}{C:Addr}{f:Str}(n:aY K C f):takerIn K C f=some none:=by
 unfold takerIn
 rw[show findIn K (.ref C) f=some none from n]
 rfl
structure Con(K:PySem.W.Frag)(C:Addr)(f:Str)(v:V)(u:Value):Prop where
 at_:findIn K (.ref C) f=some (some u)
 rel:RelV v u
 get:specialIn K u "__get__" = some none
 cp:PySem.W.copiedNames.contains f=false
structure Meth(K:PySem.W.Frag)(C:Addr)(m:Str)(f:Addr):Prop where
 at_:findIn K (.ref C) m=some (some (.ref f))
 fn:isFn K (.ref f)=true
 kp:keepIn K (.ref f)=true
section
variable{X:Cx}{pins:List (Addr×Obj)}{σ:St}{H:Hp}{s:Shared}{a C dx:Addr}{fs:List (Str×V)}{f:Str}{v:V}{A:Around}{E:Value->Shared->Prop}
theorem zPc{Q:Value->Shared->Prop}(I:Inv X pins σ H s)(e:H a=some (.ins C dx fs))(c:Cls X.K C)(n:aY X.K C f)(l:fs.lookup f=some v)(h:∀u s',Inv X pins σ H s'->RelV v u->Q u s'):wpAny (model X.prog X.w) A (getAttr (.ref a) f b) Q E s:=by
 obtain⟨mA,O,r,_,_,_⟩:=V8 I.hok e
 obtain⟨u,hu,ru⟩:=jq.some_of (v:=v) (o:=mA f) (by rw[<-l];exact r f)
 exact get_map I.jV O (c.get f) c.hd n hu (zSa ru) (h u _ (I.tok _) ru)
theorem zG3{Q:Value×List Value->Shared->Prop}(I:Inv X pins σ H s)(e:H a=some (.ins C dx fs))(c:Cls X.K C)(k:Meth X.K C m g)(l:fs.lookup m=none)(h:Q (.ref g,[.ref a]) s):wpAny (model X.prog X.w) A (getMethod (.ref a) m pl) Q E s:=by
 obtain⟨mA,O,r,_,_,_⟩:=V8 I.hok e
 have hn:mA m=none:=jq.none_of (by rw[<-l];exact r m)
 exact zVf I.jV O (c.get m) k.at_ k.fn hn h
theorem zOi{Q:Unit->Shared->Prop}(I:Inv X pins σ H s)(e:H a=some (.ins C dx fs))(c:Cls X.K C)(n:aY X.K C f)(hl:fs.length<1000)(ry:RelV y u)(h:∀s',Inv X pins σ (upd H a (.ins C dx (aF f y fs))) s'->Q () s'):wpAny (model X.prog X.w) A (setAttr (.ref a) f u) Q E s:=by
 obtain⟨mA,O,r,wi,_,ho⟩:=V8 I.hok e
 have hz:(fs.map (·.1)).length<=sizeLine:=by rw[length_map,aev];omega
 refine FN I.jV O c.sa c.po n.taker c.hd wi hz λh' O' sb=>h _ ?_
 have hd:∃o,h'.get? dx=some o:=let⟨o,_,_,e',_⟩:=O'.ns;⟨o,e'⟩
 refine I.write (x:=a) (e:=dx) (by rw[e];exact acw) (.inr ho) (λb q hb z=>(sb.2 b hb).trans z) hd ?_
 refine⟨by rw[zX O.ne];exact ho,?_,O.ne,O'.obj,_,O'.ns,λg=>?_,λg hg=>?_⟩
 ·have:=zFk f y fs;omega
 ·show jq ((aF f y fs).lookup g) (if g=f then some u else mA g)
  rw[zR]
  by_cases q:g=f
  ·rw[if_pos q,if_pos q];exact ry
  ·rw[if_neg q,if_neg q];exact r g
 ·by_cases q:g=f
  ·rw[q];exact(Yt f y fs).1
  ·refine(Yt f y fs).2 g (wi g λz=>hg ?_)
   show(if g=f then some u else mA g)=none
   rw[if_neg q];exact z
theorem Inv.made(I:Inv X pins σ H s):Inv X pins σ (upd (upd H s.heap.objs.size (.own (s.heap.objs.size+1))) (s.heap.objs.size+1) (.ins C s.heap.objs.size []))
  { s with heap:=(s.heap.push emptyDict).push (instObj C s.heap.objs.size) }:=by
 have e1:(s.heap.push emptyDict).get? s.heap.objs.size=some emptyDict:=get?_push_size s.heap rfl
 have e2:((s.heap.push emptyDict).push (instObj C s.heap.objs.size)).get? (s.heap.objs.size+1)=some (instObj C s.heap.objs.size):=by
  have:=get?_push_size (s.heap.push emptyDict) (o:=instObj C s.heap.objs.size) rfl
  rwa [size_push] at this
 have e3:(s.heap.push emptyDict).Ns s.heap.objs.size (λ_=>none):=⟨emptyDict,#[],_,e1,rfl,(λe he=>absurd he (by simp)),λ_=>rfl⟩
 have I1:=I.laid (a:=s.heap.objs.size) (o:=.own (s.heap.objs.size+1)) (h':=s.heap.push emptyDict) (t':=s.toks) (λb u q=>get?_push_of_some _ q) (aav _) ⟨_,e1⟩
 refine I1.laid (a:=s.heap.objs.size+1) (o:=.ins C s.heap.objs.size []) (t':=s.toks) (λb u q=>get?_push_of_some _ q) (Nat.le_of_eq (size_push _ _)) ?_
 have ne:s.heap.objs.size≠s.heap.objs.size+1:=aa0 (ac2 _)
 refine⟨by rw[zX ne,zT],abk _,ne,e2,λ_=>none,(Heap.Ns1.of_empty e3).at λo q=>get?_push_of_some _ q,λ_=>acw,λy hy=>absurd rfl hy⟩
theorem FQ(hb:attributeBase e f env (eval e env)=eval e env)(h:wpAny (model prog w) A (eval e env) (λo s₁=>wpAny (model prog w) A (getAttr o f true) Q E s₁) E s):wpAny (model prog w) A (eval (.Attribute e f pos) env) Q E s :=
 Attribute_any_ h (by rw[arm_eval_Attribute,hb])
end
def qb(K:PySem.W.Frag)(ta:TE)(f:Str):TE:=λσ H Q=>ta σ H λx H1=>∃a C dx fs v,x=.ref a/\H1 a=some (.ins C dx fs)/\Cls K C/\aY K C f/\fs.lookup f=some v/\Q v H1
def Yu(K:PySem.W.Frag)(ta tv:TE)(f:Str):TS:=λD σ H=>tv σ H λy H1=>ta σ H1 λx H2=>∃a C dx fs,x=.ref a/\H2 a=some (.ins C dx fs)/\Cls K C/\aY K C f/\fs.length<1000 /\
 D.nx σ (upd H2 a (.ins C dx (aF f y fs)))
section
variable{X:Cx}{o e value:Expr}{f:Str}{pos pos' tpos:Pos}{ta tv:TE}
theorem zWg(he:PE X e ta)(hb:attributeBase e f X.env (eval e X.env)=eval e X.env):PE X (.Attribute e f pos) (qb X.K ta f):=by
 intro pins s σ H Q I h
 refine FQ hb (aM (he pins s σ H _ I h) λu s1 ⟨x,H1,I1,rx,a,C,dx,fs,v,ex,ea,c,n,l,q⟩=>?_)
 subst ex
 obtain rfl:u=abj a:=rx
 exact zPc I1 ea c n l λu' s2 I2 ru=>⟨v,H1,I2,ru,q⟩
theorem Eh(ha:PE X o ta)(hv:PE X value tv)(hs:swapsWith value (some (.Attribute o f pos')) pos.line X.env=pure false):PS X (.Assign [.Attribute o f pos'] value pos) (Yu X.K ta tv f):=by
 intro pins s σ H D I h
 refine plainObj_wpAny_Assign_Attribute (aM (hv pins s σ H _ I h) λu s1 ⟨y,H1,I1,ry,q⟩=>aM (ha pins s1 σ H1 _ I1 q) λov s2 ⟨x,H2,I2,rx,a,C,dx,fs,ex,ea,c,n,l,q2⟩=>?_) hs
 subst ex
 obtain rfl:ov=abj a:=rx
 exact zOi I2 ea c n l ry λs3 I3=>⟨σ,_,I3,q2⟩
end
section
variable{X:Cx}{pins:List (Addr×Obj)}{σ:St}{H:Hp}{s:Shared}{A:Around}{E:Value->Shared->Prop}{Q:Value->Shared->Prop}{c:Value}{b:Bool}
inductive jX(K:PySem.W.Frag)(H:Hp):V->Value->Prop where
 |non:jX K H .non (.type "NoneType")
 |bl (x:Bool):jX K H (.bl x) (.type "bool")
 |int (i:Int):jX K H (.int i) (.type "int")
 |str (x:Str):jX K H (.str x) (.type "str")
 |flt (x:UInt64):jX K H (.flt x) (.type "float")
 |lst {a:Addr} {xs:List V} (e:H a=some (.lst xs)):jX K H (.ref a) (.type "list")
 |vh {a:Addr} {o:Obj} {xs:List V} (e:H a=some (.vh o (.lst xs))):jX K H (.ref a) (.type "list")
 |tup {a:Addr} {xs:List V} (e:H a=some (.tup xs)):jX K H (.ref a) (.type "tuple")
 |dK {a:Addr} {kvs:List (Key×V)} (e:H a=some (.dK kvs)):jX K H (.ref a) (.type "dict")
 |dT {a:Addr} {kvs:List (List Key×V)} (e:H a=some (.dT kvs)):jX K H (.ref a) (.type "dict")
 |ins {a C dx:Addr} {fs:List (Str×V)} (e:H a=some (.ins C dx fs)) (cl:Cls K C) (ha:findIn K (.ref C) "__class__" = some (some (.builtin "object.__class__")))
   (hn:specialIn K (.builtin "object.__class__") "__get__" = some (some (.builtin "getset_descriptor.__get__"))) (htk:takesIn K (.builtin "object.__class__")=some true)
   (hm:mroIn K C (.type "object")=some true):jX K H (.ref a) (.ref C)
theorem zR4(I:Inv X pins σ H s)(rx:RelV x u)(ty:jX X.K H x t)(e:kitOne X.K t c=some b)(h:∀tk,Q (.bool b) { s with toks:=tk }) :
  wpAny (model X.prog X.w) A (call (.builtin "isinstance") [u,c]) Q E s:=by
 cases ty with
 |non=>cases(show u=adb from rx);exact aed PySem.W.kitx_none I.jV acw e (λz=>nomatch z) h
 |bl y=>cases(show u=afk y from rx);exact aed PySem.W.kitx_bool I.jV acw e (λz=>nomatch z) h
 |int i=>obtain⟨t,q⟩:=(show∃t,u=acf i t from rx);cases q;exact aed PySem.W.kitx_int I.jV acw e (λz=>nomatch z) h
 |str y=>obtain⟨t,q⟩:=(show∃t,u=adk y t from rx);cases q;exact aed PySem.W.kitx_str I.jV acw e (λz=>nomatch z) h
 |flt y=>obtain⟨t,q⟩:=(show∃t,u=afw y t from rx);cases q;exact aed PySem.W.kitx_float I.jV acw e (λz=>nomatch z) h
 |@lst a xs ea =>
  cases(show u=abj a from rx)
  obtain⟨_,_,n,_,h1⟩:=(show bw X.prog X.w H s.heap a (.lst xs) from I.hok a _ ea)
  exact aed PySem.W.kitx_list I.jV ⟨_,h1,rfl⟩ e (λz=>nomatch z) h
 |@vh a ob xs ea =>
  cases(show u=abj a from rx)
  obtain⟨_,_,_,n,_,h1⟩:=(show bw X.prog X.w H s.heap a (.vh ob (.lst xs)) from I.hok a _ ea)
  exact aed PySem.W.kitx_list I.jV ⟨_,h1,rfl⟩ e (λz=>nomatch z) h
 |@tup a xs ea =>
  cases(show u=abj a from rx)
  obtain⟨_,_,_,p⟩:=(show bw X.prog X.w H s.heap a (.tup xs) from I.hok a _ ea)
  obtain⟨o,h1,h2,_⟩:=p
  exact aed PySem.W.kitx_tuple I.jV ⟨o,h1,h2⟩ e (λz=>nomatch z) h
 |@dK a kvs ea =>
  cases(show u=abj a from rx)
  obtain⟨_,_,vs,_,p⟩:=(show bw X.prog X.w H s.heap a (.dK kvs) from I.hok a _ ea)
  obtain⟨o,es,ep,h1,h2,_⟩:=p
  exact aed PySem.W.kitx_dict I.jV ⟨o,h1,h2.1⟩ e (λz=>nomatch z) h
 |@dT a kvs ea =>
  cases(show u=abj a from rx)
  obtain⟨_,_,xs,_,o,es,ep,h1,h2,_⟩:=(show bw X.prog X.w H s.heap a (.dT kvs) from I.hok a _ ea)
  exact aed PySem.W.kitx_dict I.jV ⟨o,h1,h2.1⟩ e (λz=>nomatch z) h
 |@ins a C dx fs ea cl ha hn htk hm =>
  cases(show u=abj a from rx)
  obtain⟨mA,O,_⟩:=V8 I.hok ea
  obtain⟨od,J,_⟩:=O.look
  exact aed (PySem.W.kitx_own (cl.get _) cl.hd ha hn htk hm) I.jV J e (λz=>nomatch z) h
end
structure bT(k:Nat)(A:Around):Prop where
 hd:A.handled=none
 dp:A.depth+3*k+5<recursionLimit
 un:A.units+16*k+200<cLine
theorem bT.mono(r:bT k A)(h:j<=k):bT j A:=⟨r.hd,by have:=r.dp;omega,by have:=r.un;omega⟩
theorem bT.deeper(r:bT (k+1) A)(env:Env):bT k (A.deeper env) :=
 ⟨r.hd,by have:=r.dp;show A.depth+1+3*k+5<_;omega,by have:=r.un;show A.units+3+16*k+200<_;omega⟩
theorem zO6{A:Around}:(A.under (.builtin "type.__call__" ⟨.ref C::us,kw⟩)).depth=A.depth+1:=by
 first|rfl|simp[afm,Code.weight,Code.isCreation,Code.isGuard,Code.isCaller,Code.frames,afn,guardIds]
theorem zO5{A:Around}:(A.under (.builtin "type.__call__" ⟨.ref C::us,kw⟩)).units=A.units+1:=by
 first|rfl|simp[afm,Code.cUnits,Code.frames,afn]
theorem bT.make(r:bT (k+1) A)(C:Addr)(us:List Value)(kw:List (Str×Value)):bT k (A.under (.builtin "type.__call__" ⟨.ref C::us,kw⟩)) :=
 ⟨r.hd,by have:=r.dp;rw[zO6];omega,by have:=r.un;rw[zO5];omega⟩
theorem bT.depth(r:bT k A):A.depth<recursionLimit:=by have:=r.dp;omega
theorem bT.units(r:bT k A):A.units+64<cLine:=by have:=r.un;omega
def bJ:TA:=λ_ H Q=>Q [] H
def xS(ta:TE)(tr:TA):TA:=λσ H Q=>ta σ H λx H1=>tr σ H1 λxs H2=>Q (x::xs) H2
section
variable{X:Cx}{e:Expr}{es:List Expr}{te:TE}{t:TA}{pos:Pos}
theorem zI:PA X [] bJ:=λ_ _ _ _ H Q I h=>aec ⟨[],H,I,.nil,h⟩
theorem zA(ha:PE X e te)(hr:PA X es t)(hs:starEach (e::es) X.env=(false,eval e X.env)::starEach es X.env:=by rfl):PA X (e::es) (xS te t):=by
 intro pos pins s σ H Q I h
 rw[hs]
 show wpAny _ _ (spliced ((false,eval e X.env)::backTo pos (starEach es X.env))) _ _ s
 refine ad5 (aM (ha pins s σ H _ I h) λu s1 ⟨x,H1,I1,r1,q1⟩=>?_)
 exact aM (hr pos pins s1 σ H1 _ I1 q1) λus s2 ⟨xs,H2,I2,r2,q2⟩=>⟨x::xs,H2,I2,.cons r1 r2,q2⟩
def Bv(t:TA):TE:=λσ H Q=>t σ H λxs H1=>xs.length<=sizeLine/\∀p,H1 p=none->Q (.ref p) (upd H1 p (.tup xs))
def Lg(t:TA):TE:=λσ H Q=>t σ H λxs H1=>xs.length<=sizeLine/\∀p,H1 p=none->Q (.ref p) (upd H1 p (.lst xs))
theorem sS{x1}(h:PA X es t):PE X (.Tuple es x1 pos) (Bv t):=by
 intro pins s σ H Q I hq
 refine wpAny_Tuple_spliced (aM (h pos pins s σ H _ I hq) λus s1 ⟨xs,H1,I1,r,z,q⟩=>⟨by rw[<-r.length];exact z,?_⟩)
 have hf:H1 s1.heap.objs.size=none:=I1.hok.fresh (aav _)
 refine⟨.ref s1.heap.objs.size,upd H1 s1.heap.objs.size (.tup xs),I1.laid (t':=s1.toks) (λb u e=>get?_push_of_some _ e) (aav _) ?_,rfl,q _ hf⟩
 exact⟨z,us,r,⟨_,get?_push_size _ rfl,rfl,_,rfl⟩⟩
theorem wV(h:PA X es t):PE X (.List es pos) (Lg t):=by
 intro pins s σ H Q I hq
 refine wpAny_List_spliced (aM (h pos pins s σ H _ I hq) λus s1 ⟨xs,H1,I1,r,z,q⟩=>⟨by rw[<-r.length];exact z,?_⟩)
 have hf:H1 s1.heap.objs.size=none:=I1.hok.fresh (aav _)
 refine⟨.ref s1.heap.objs.size,upd H1 s1.heap.objs.size (.lst xs),I1.laid (t':=s1.toks) (λb u e=>get?_push_of_some _ e) (aav _) ?_,rfl,q _ hf⟩
 exact⟨z,us,0,r,get?_push_size _ rfl⟩
end
abbrev Sp:=List V->Hp->VK->XK->Prop
abbrev yr:=List Env->Hp->Shared->XK->Value->Shared->Prop
structure sV(P:Program)(w:World)(K:PySem.W.Frag)(mg:Str->Option Value)(base:Heap)(A:Around)(outer:List Env)(s:Shared)(H:Hp):Prop where
 frames:A.frames=some outer
 mod:Mod K mg base
 bs:∀b o,base.get? b=some o->s.heap.get? b=some o/\H b=none
 Fj:base.objs.size<=s.heap.objs.size
 lY:s.heap.FunFrames base outer
 KC:∀b∈frs outer,H b=none
 hok:h_ P w H s.heap
 bare:AllBare s.gens
def CE(outer:List Env)(P:Program)(w:World)(H:Hp)(s:Shared)(Q:VK)(u:Value)(s':Shared):Prop :=
 ∃v H',s'.os=s.os/\AllBare s'.gens/\Un (frs outer) [] H H' s.heap s'.heap/\h_ P w H' s'.heap/\RelV v u/\Q v H'
def CR(CX:yr)(outer:List Env)(P:Program)(w:World)(H:Hp)(s:Shared)(Q:VK)(E:XK)(r:Result)(s':Shared):Prop :=
 match r with
 |.ok (.ret u)=>CE outer P w H s Q u s'
 |.ok _=>False
 |.error e=>CX outer H s E e s'
structure aq(P:Program)(w:World)(K:PySem.W.Frag)(mg:Str->Option Value)(base:Heap)(CX:yr)(k:Nat)(f:Addr)(fd:FuncData)(ps:List Str)(sp:Sp):Prop where
 len:∀vs H Q E,sp vs H Q E->vs.length=ps.length
 run:∀(A:Around)(outer:List Env)(s:Shared)(H:Hp)(args:Args)(us:List Value)(vs:List V)(Q:VK)(E:XK),bT k A->sV P w K mg base A outer s H->BindsTo s fd args (ps.zip us)->Vals vs us->sp vs H Q E ->
  codeAny (model P w) A (.call (.ref f) args) (CR CX outer P w H s Q E) s
theorem aq.mono{P:Program}{w:World}{K:PySem.W.Frag}{mg:Str->Option Value}{base:Heap}{CX:yr}{j k:Nat}{f:Addr}{fd:FuncData}{ps:List Str}{sp:Sp}(F:aq P w K mg base CX j f fd ps sp)(h:j<=k) :
  aq P w K mg base CX k f fd ps sp:=⟨F.len,λA outer s H args us vs Q E hr=>F.run A outer s H args us vs Q E (hr.mono h)⟩
theorem aq.imp{P:Program}{w:World}{K:PySem.W.Frag}{mg:Str->Option Value}{base:Heap}{CX:yr}{k:Nat}{f:Addr}{fd:FuncData}{ps:List Str}{sp sp':Sp}(F:aq P w K mg base CX k f fd ps sp)(h:∀vs H Q E,sp' vs H Q E->sp vs H Q E):aq P w K mg base CX k f fd ps sp' :=
 ⟨λvs H Q E q=>F.len vs H Q E (h _ _ _ _ q),λA outer s H args us vs Q E hr he hb hv hs=>F.run A outer s H args us vs Q E hr he hb hv (h _ _ _ _ hs)⟩
theorem sV.make{P:Program}{w:World}{K:PySem.W.Frag}{mg:Str->Option Value}{base:Heap}{A:Around}{outer:List Env}{s:Shared}{H:Hp}(e:sV P w K mg base A outer s H)(C:Addr)(us:List Value)(kw:List (Str×Value)) :
  sV P w K mg base (A.under (.builtin "type.__call__" ⟨.ref C::us,kw⟩)) outer s H:=⟨by first|exact e.frames|(simpa[afm,Code.envs,afn,pushEnvs] using e.frames),e.mod,e.bs,e.Fj,e.lY,e.KC,e.hok,e.bare⟩
section
variable{X:Cx}{pins:List (Addr×Obj)}{σ:St}{H:Hp}{s s':Shared}
theorem Inv.env0(I:Inv X pins σ H s):sV X.prog X.w X.K X.mg X.base X.A X.stack s H :=
 ⟨I.ok.frames,I.ok.mod,I.bs,aa4 I.ok.Fj I.sz,I.stack,I.vm,I.hok,I.bare⟩
theorem Inv.after(I:Inv X pins σ H s)(h:CE X.stack X.prog X.w H s Q u s'):EP X pins σ Q u s':=by
 obtain⟨v,H',os,bare,un,hok,r,q⟩:=h
 obtain⟨hh,g,d,t,os'⟩:=s'
 obtain rfl:os'=s.os:=os
 exact⟨v,H',I.call (h':=hh) (g':=g) (d':=d) (t':=t) (ch:=[]) un hok bare (λb z=>absurd z (by simp)),r,q⟩
end
def RV(sp:Sp)(lR:List V)(E:XK)(t:TA):TE:=λσ H Q=>t σ H λvs H1=>sp (vs++lR) H1 Q E
def RW(C:Addr)(m:Str)(sp:Sp)(lR:List V)(E:XK)(ta:TE)(t:TA):TE:=λσ H Q=>ta σ H λx H1=>∃a dx fs,x=.ref a/\H1 a=some (.ins C dx fs)/\fs.lookup m=none /\
 t σ H1 λvs H2=>sp (x::(vs++lR)) H2 Q E
def Lh(C:Addr)(sp:Sp)(lR:List V)(E:XK)(t:TA):TE:=λσ H Q=>t σ H λvs H1=>∀x dx,H1 x=none->H1 dx=none->dx≠x ->
 sp (.ref x::(vs++lR)) (upd (upd H1 dx (.own x)) x (.ins C dx [])) (λv H2=>v=.non/\Q (.ref x) H2) E
def Binds(K:PySem.W.Frag)(fd:FuncData)(ps:List Str)(ds:List Value):Prop :=
 ∀(s:Shared)(us:List Value),K.In s.heap->(us++ds).length=ps.length->BindsTo s fd ⟨us,[]⟩ (ps.zip (us++ds))
theorem Binds.all{K:PySem.W.Frag}{fd:FuncData}{ps:List Str}(h:∀us:List Value,us.length=ps.length->bindArgs fd ⟨us,[]⟩=pure (ps.zip us)):Binds K fd ps []:=λs us _ hl=>by
 rw[append_nil] at hl ⊢
 exact .of_eq (h us hl)
def FT(CX:yr)(X:Cx)(E:XK):Prop:=∀(pins:List (Addr×Obj))(σ:St)(H:Hp)(s:Shared)(e:Value)(s':Shared),Inv X pins σ H s->CX X.stack H s E e s'->X.xe e s'
section
variable{X:Cx}{CX:yr}{k:Nat}{f C:Addr}{fd:FuncData}{ps:List Str}{sp:Sp}{lR:List V}{ds:List Value}{E:XK}{x m:Str}{p pos apos:Pos}{e o:Expr}{es:List Expr}{ta:TE}{t:TA}
theorem V9(F:aq X.prog X.w X.K X.mg X.base CX k f fd ps sp)(hr:bT k X.A)(hb:Binds X.K fd ps ds)(hd:Vals lR ds)(hx:FT CX X E)(I:Inv X pins σ H s)(r:Vals vs us)(h:sp (vs++lR) H Q E):wpAny (model X.prog X.w) X.A (call (.ref f) us) (EP X pins σ Q) X.xe s:=by
 have r2:Vals (vs++lR) (us++ds):=r.append hd
 have hl:(us++ds).length=ps.length:=by rw[<-r2.length];exact F.len _ _ _ _ h
 refine wpAny_call (adw (F.run X.A X.stack s H ⟨us,[]⟩ (us++ds) (vs++lR) Q E hr I.env0 (hb s us I.jV hl) r2 h) λr s' hq=>?_)
 cases r with
 |error e=>exact hx pins σ H s e s' I hq
 |ok fl =>
  cases fl with
  |ret u=>exact I.after hq
  |next=>exact abq hq
  |brk=>exact abq hq
  |cont=>exact abq hq
theorem FW(F:aq X.prog X.w X.K X.mg X.base CX k f fd ps sp)(hr:bT k X.A)(hg:Gl X x)(hm:X.mg x=some (.ref f))(hk:keepIn X.K (.ref f)=true)(hb:Binds X.K fd ps ds)(hd:Vals lR ds)(hx:FT CX X E)(ha:PA X (e::es) t)(hdb:(x==("__debug__":Str))=false:=by decide)(he:starEach (e::es) X.env=(false,eval e X.env)::starEach es X.env:=by rfl)(hpl:(backTo pos (starEach es X.env)).any (·.1)=false:=by rfl) :
  PE X (.Call (.Name x p) (e::es) [] pos) (RV sp lR E t):=by
 intro pins s σ H Q I h
 refine abt (Rw I hg hm ?_ hdb)
 refine ae2 (h₀:=X.base) I.ok.mod.Qc hk (aM (ha pos pins s σ H _ I h) λus s1 ⟨vs,H1,I1,r,q⟩=>⟨I1.jV,?_⟩) he hpl
 exact V9 F hr hb hd hx I1 r q
theorem FZ(he:PE X o ta)(c:Cls X.K C)(hm:Meth X.K C m f)(F:aq X.prog X.w X.K X.mg X.base CX k f fd ps sp)(hr:bT k X.A)(hb:Binds X.K fd ps ds)(hd:Vals lR ds)(hx:FT CX X E)(ha:PA X (e::es) t)(hst:starEach (e::es) X.env=(false,eval e X.env)::starEach es X.env:=by rfl)(hpl:(backTo pos (starEach es X.env)).any (·.1)=false:=by rfl)(ht:eval (.Call (.Attribute o m apos) (e::es) [] pos) X.env=(do
   let ov <-eval o X.env
   standAt apos.atName
   let(f,first) <-holding [ov] (getMethod ov m pl)
   callWith pos f first (backTo pos (starEach (e::es) X.env)) (backToKw pos (keywordEach [] X.env))):=by rfl) :
  PE X (.Call (.Attribute o m apos) (e::es) [] pos) (RW C m sp lR E ta t):=by
 intro pins s σ H Q I h
 refine ae0 (pl:=pl) (aM (he pins s σ H _ I h) λu s1 ⟨x,H1,I1,rx,a,dx,fs,ex,ea,l,q⟩=>?_) ht
 subst ex
 obtain rfl:u=abj a:=rx
 refine zG3 I1 ea c hm l ?_
 refine ae2 (first:=[.ref a]) (h₀:=X.base) I.ok.mod.Qc hm.kp (aM (ha pos pins s1 σ H1 _ I1 q) λus s2 ⟨vs,H2,I2,r,q2⟩=>⟨I2.jV,?_⟩) hst hpl
 exact V9 (us:=.ref a::us) (vs:=.ref a::vs) F hr hb hd hx I2 (.cons rfl r) q2
theorem zUj(he:PE X o ta)(c:Cls X.K C)(hm:Meth X.K C m f)(F:aq X.prog X.w X.K X.mg X.base CX k f fd ps sp)(hr:bT k X.A)(hb:Binds X.K fd ps ds)(hd:Vals lR ds)(hx:FT CX X E)(ht:eval (.Call (.Attribute o m apos) [] [] pos) X.env=(do
   let ov <-eval o X.env
   standAt apos.atName
   let(f,first) <-holding [ov] (getMethod ov m pl)
   callWith pos f first (backTo pos (starEach [] X.env)) (backToKw pos (keywordEach [] X.env))):=by rfl) :
  PE X (.Call (.Attribute o m apos) [] [] pos) (RW C m sp lR E ta bJ):=by
 intro pins s σ H Q I h
 refine ae0 (pl:=pl) (aM (he pins s σ H _ I h) λu s1 ⟨x,H1,I1,rx,a,dx,fs,ex,ea,l,q⟩=>?_) ht
 subst ex
 obtain rfl:u=abj a:=rx
 refine zG3 I1 ea c hm l ?_
 exact PySem.W.callWith_K0 (first:=[.ref a]) I1.jV hm.kp (V9 (us:=[.ref a]) (vs:=[.ref a]) F hr hb hd hx I1 (.cons rfl .nil) q)
structure Mk(K:PySem.W.Frag)(C f:Addr):Prop where
 makes:PySem.W.makesIn K C=true
 init:findIn K (.ref C) "__init__" = some (some (.ref f))
 fn:isFn K (.ref f)=true
 kp:keepIn K (.ref C)=true
theorem zMv(M:Mk X.K C f)(F:aq X.prog X.w X.K X.mg X.base CX k f fd ps sp)(hr:bT (k+1) X.A)(hb:Binds X.K fd ps ds)(hd:Vals lR ds)(hx:FT CX X E)(I:Inv X pins σ H s)(r:Vals vs us)(h:∀x dx,H x=none->H dx=none->dx≠x->sp (.ref x::(vs++lR)) (upd (upd H dx (.own x)) x (.ins C dx [])) (λv H2=>v=.non/\Q (.ref x) H2) E) :
  wpAny (model X.prog X.w) X.A (call (.ref C) us) (EP X pins σ Q) X.xe s:=by
 have hq:=h (s.heap.objs.size+1) s.heap.objs.size (I.hok.fresh (ace _)) (I.hok.fresh (aav _)) (aa0 (ac2 _))
 have I2:=Inv.made (C:=C) I
 have r2:Vals (V.ref (s.heap.objs.size+1)::(vs++lR)) (abj (s.heap.objs.size+1)::(us++ds)):=.cons rfl (r.append hd)
 have hl:(abj (s.heap.objs.size+1)::us++ds).length=ps.length:=by
  have e:=r2.length
  rw[F.len _ _ _ _ hq] at e
  exact e.symm
 refine wpAny_call (zU2 (f:=f) I.jV M.makes M.init (beq_iff_eq.mp M.fn) (adw (F.run _ X.stack _ _ ⟨abj (s.heap.objs.size+1)::us,[]⟩ (abj (s.heap.objs.size+1)::(us++ds)) _ _ E (hr.make C us [])
  (I2.env0.make C us []) (hb _ (abj (s.heap.objs.size+1)::us) I2.jV hl) r2 hq) λr s' hq'=>?_))
 cases r with
 |error e=>exact hx pins σ _ _ e s' I2 hq'
 |ok fl =>
  cases fl with
  |ret u =>
   obtain⟨v,H',I3,rv,ev,q3⟩:=I2.after hq'
   subst ev
   exact⟨rv,⟨V.ref (s.heap.objs.size+1),H',I3,rfl,q3⟩⟩
  |next=>exact abq hq'
  |brk=>exact abq hq'
  |cont=>exact abq hq'
theorem Ej(M:Mk X.K C f)(F:aq X.prog X.w X.K X.mg X.base CX k f fd ps sp)(hr:bT (k+1) X.A)(hg:Gl X x)(hm:X.mg x=some (.ref C))(hb:Binds X.K fd ps ds)(hd:Vals lR ds)(hx:FT CX X E)(ha:PA X (e::es) t)(hdb:(x==("__debug__":Str))=false:=by decide)(he:starEach (e::es) X.env=(false,eval e X.env)::starEach es X.env:=by rfl)(hpl:(backTo pos (starEach es X.env)).any (·.1)=false:=by rfl) :
  PE X (.Call (.Name x p) (e::es) [] pos) (Lh C sp lR E t):=by
 intro pins s σ H Q I h
 refine abt (Rw I hg hm ?_ hdb)
 refine ae2 (h₀:=X.base) I.ok.mod.Qc M.kp (aM (ha pos pins s σ H _ I h) λus s1 ⟨vs,H1,I1,r,q⟩=>⟨I1.jV,?_⟩) he hpl
 exact zMv M F hr hb hd hx I1 r q
theorem zUk(M:Mk X.K C f)(F:aq X.prog X.w X.K X.mg X.base CX k f fd ps sp)(hr:bT (k+1) X.A)(hg:Gl X x)(hm:X.mg x=some (.ref C))(hb:Binds X.K fd ps ds)(hd:Vals lR ds)(hx:FT CX X E)(hdb:(x==("__debug__":Str))=false:=by decide):PE X (.Call (.Name x p) [] [] pos) (Lh C sp lR E bJ):=by
 intro pins s σ H Q I h
 refine abt (Rw I hg hm ?_ hdb)
 exact PySem.W.callWith_K0 I.jV M.kp (zMv (us:=[]) M F hr hb hd hx I .nil h)
end
section
variable{X:Cx}{CX:yr}{k:Nat}{f C:Addr}{fd:FuncData}{ps ks:List Str}{sp:Sp}{E:XK}{x m:Str}{p pos apos kpos:Pos}{e o:Expr}{es:List Expr}{kws:List Keyword}{te ta:TE}{t tk:TA}{nm:Option Str}
structure Yv(K:PySem.W.Frag)(fd:FuncData)(ps ks:List Str)(g:List Value->List Value->List Value)(gV:List V->List V->List V):Prop where
 to:∀(s:Shared)(us ws:List Value),K.In s.heap->(g us ws).length=ps.length->BindsTo s fd ⟨us,ks.zip ws⟩ (ps.zip (g us ws))
 rel:∀{vs:List V}{us:List Value}{zs:List V}{ws:List Value},Vals vs us->Vals zs ws->Vals (gV vs zs) (g us ws)
variable{g:List Value->List Value->List Value}{gV:List V->List V->List V}
end
structure ak(N P:List Str)(sc:Scope):Prop where
 kind:sc.kind=.function
 co:sc.isCoroutine=false
 gen:sc.isGenerator=false
 nd:N.Nodup
 pre:N.take P.length=P
 par:∀x∈P,sc.names.lookup x=some .local\/sc.names.lookup x=some .cell
 Li:∀y∈sc.names,y.2≠.free
theorem zKq{kindOf:Str->Option NameKind}{x:Str}:∀{binds:List (Str×Value)}{m:Str->Option Value},(∀v,(x,v)∉binds)->bindL kindOf binds m x=m x
 |[],_,_=>rfl
 | (n,v)::r,m,h=>by
  unfold bindL
  rw[zKq λw hw=>h w (mem_cons_of_mem _ hw)]
  split
  ·have:x≠n:=by rintro rfl;exact h v mem_cons_self
   simp[this]
  ·rfl
theorem zKs{kindOf:Str->Option NameKind}{x:Str}:∀{binds:List (Str×Value)}{m:Str->Option Value},(∀v,(x,v)∉binds)->bindC kindOf binds m x=m x
 |[],_,_=>rfl
 | (n,v)::r,m,h=>by
  unfold bindC
  rw[zKs λw hw=>h w (mem_cons_of_mem _ hw)]
  split
  ·rfl
  ·have:x≠n:=by rintro rfl;exact h v mem_cons_self
   simp[this]
theorem zKr{kindOf:Str->Option NameKind}:∀{P:List Str}{vs:List Value}{i:Nat}{m:Str->Option Value},P.Nodup->P[i]?=some x->vs[i]?=some v->kindOf x=some .local ->
  bindL kindOf (P.zip vs) m x=some v
 |[],_,_,_,_,h,_,_=>by simp at h
 |_::_,[],_,_,_,_,h,_=>by simp at h
 |p::P,w::vs,0,m,nd,h1,h2,hk=>by
  simp at h1 h2;subst h1;subst h2
  show bindL kindOf ((p,w)::P.zip vs) m p=_
  unfold bindL
  rw[zKq λv hv=>(nodup_cons.mp nd).1 (of_mem_zip hv).1,if_pos hk]
  simp
 |p::P,w::vs,i+1,m,nd,h1,h2,hk=>by
  show bindL kindOf ((p,w)::P.zip vs) m x=_
  unfold bindL
  exact zKr (i:=i) (nodup_cons.mp nd).2 (by simpa using h1) (by simpa using h2) hk
theorem zKt{kindOf:Str->Option NameKind}:∀{P:List Str}{vs:List Value}{i:Nat}{m:Str->Option Value},P.Nodup->P[i]?=some x->vs[i]?=some v->kindOf x≠some .local ->
  bindC kindOf (P.zip vs) m x=some v
 |[],_,_,_,_,h,_,_=>by simp at h
 |_::_,[],_,_,_,_,h,_=>by simp at h
 |p::P,w::vs,0,m,nd,h1,h2,hk=>by
  simp at h1 h2;subst h1;subst h2
  show bindC kindOf ((p,w)::P.zip vs) m p=_
  unfold bindC
  rw[zKs λv hv=>(nodup_cons.mp nd).1 (of_mem_zip hv).1,if_neg hk]
  simp
 |p::P,w::vs,i+1,m,nd,h1,h2,hk=>by
  show bindC kindOf ((p,w)::P.zip vs) m x=_
  unfold bindC
  exact zKt (i:=i) (nodup_cons.mp nd).2 (by simpa using h1) (by simpa using h2) hk
def start(N:List Str)(vs:List V):St:=vs.map some++replicate (N.length-vs.length) none
def qd(CX:yr)(P:Program)(w:World)(K:PySem.W.Frag)(mg:Str->Option Value)(base:Heap)(N:List Str)(qual:Str)(scope:Scope)(f:Addr)(cd:Value)(A:Around)(outer:List Env)(s:Shared)(H:Hp)(E:XK):Cx where
 prog:=P
 w:=w
 K:=K
 mg:=mg
 base:=base
 A:=A.deeper (envOfC qual scope s.heap.objs.size f cd)
 N:=N
 s₀:=s
 H₀:=H
 env:=envOfC qual scope s.heap.objs.size f cd
 outer:=outer
 stack:=envOfC qual scope s.heap.objs.size f cd::outer
 ex:=[]
 calm:=true
 fn:=λ_=>true
 pn:=[]
 xe:=λe s'=>wpAny (model P w) (A.deeper (envOfC qual scope s.heap.objs.size f cd)) (leaving (envOfC qual scope s.heap.objs.size f cd) e) (λ_ s''=>CX outer H s E e s'') (λe' s''=>CX outer H s E e' s'') s'
theorem zNp{sc:Scope}(h:sc.names.lookup x=some .cell):∃c,(cellsFrom n sc.names []).lookup x=some c:=by
 have q:=adp sc.names n [] (.inl h)
 exact ab7.mp q
theorem zR5{CX:yr}{P:Program}{w:World}{K:PySem.W.Frag}{mg:Str->Option Value}{base:Heap}{N ps:List Str}{qual:Str}{scope:Scope}{f:Addr}{cd:Value}{A:Around}{outer:List Env}{s s1:Shared}{H:Hp}{E:XK}{us:List Value}{vs:List V}(S:ak N ps scope)(hd:A.handled=none)(e0:sV P w K mg base A outer s H)(hl:vs.length=ps.length)(r:Vals vs us)(x:InCallC s s.heap.objs.size (bindL (envOfC qual scope s.heap.objs.size f cd).kindOf (ps.zip us) λ_=>none) (cellsFrom (s.heap.objs.size+1) scope.names []) (bindC (envOfC qual scope s.heap.objs.size f cd).kindOf (ps.zip us) λ_=>none) s1) :
  Inv (qd CX P w K mg base N qual scope f cd A outer s H E) [] (start N vs) H s1:=by
 have hpl:ps.length<=N.length:=by have:=congrArg List.length S.pre;rw[length_take] at this;omega
 obtain⟨h1,tk,rfl,hk⟩:=x.done
 have RX:∀b:Addr,b∉(qd CX P w K mg base N qual scope f cd A outer s H E).ex:=λb z=>absurd (show b∈([]:List Addr) from z) (by simp)
 refine⟨⟨e0.mod,S.kind,rfl,rfl,aav _,λy z c h1 h2=>?_,λy hy=>?_,λy c _ h=>?_,λ_=>hd,Around.frames_deeper e0.frames,.inr ⟨rfl,rfl⟩,λb z=>absurd z (RX b),e0.bs,e0.Fj,λb _ _=>RX b,λb z=>absurd z (RX b),e0.lY,e0.KC⟩,
  rfl,e0.bare,Un.kept hk,⟨_,x.toInCall.ns,λi y v h1 h2 h3=>?_⟩,λy c h=>⟨_,x.cell y c h⟩,e0.hok.fresh (aav _),λy c h=>?_,λp hp=>absurd (show p∈([]:List (Addr×Obj)) from hp) (by simp),e0.hok.kept hk,?_⟩
 ·exact name_of_addr x.apart (aby h1) (aby h2)
 ·have hy:scope.names.lookup y=some .cell\/scope.names.lookup y=some .free:=hy
  rcases hy with hy|hy
  ·exact zNp hy
  ·exact absurd rfl (S.Li _ (aby hy))
 ·exact aco (x.above y c (aby h))
 ·have hi:i<vs.length:=by
   unfold start at h2
   by_cases hi:i<vs.length
   ·exact hi
   ·rw[getElem?_append_right (by simpa using hi)] at h2
    rw[getElem?_replicate] at h2
    split at h2<;>cases h2
  have ha:vs[i]?=some v:=by
   unfold start at h2
   rw[getElem?_append_left (by simpa using hi),getElem?_map] at h2
   cases e:vs[i]? with
   |none=>rw[e] at h2;cases h2
   |some a=>rw[e] at h2;cases h2;rfl
  obtain⟨u,hu,rv⟩:=r.get ha
  have hp:ps[i]?=some y:=by
   rw[<-S.pre,getElem?_take_of_lt (by omega)];exact h1
  have ndP:ps.Nodup:=by rw[<-S.pre];exact S.nd.sublist (List.take_sublist _ _)
  refine⟨u,rv,?_⟩
  rcases S.par y (mem_of_getElem? hp) with k|k
  ·exact .inl ⟨k,zKr ndP hp hu k⟩
  ·obtain⟨c,e⟩:=zNp (n:=s.heap.objs.size+1) k
   refine .inr ⟨.inl k,c,e,?_⟩
   have q:=x.cell y c e
   rw[zKt ndP hp hu (by show scope.names.lookup y≠_;rw[k];decide)] at q
   exact q
 ·exact e0.hok.fresh (aco (x.above y c (aby h)))
 ·unfold start
  show _=N.length
  rw[length_append,length_map,List.length_replicate]
  omega
theorem Js{CX:yr}{P:Program}{w:World}{K:PySem.W.Frag}{mg:Str->Option Value}{base:Heap}{k:Nat}{f:Addr}{name qual:Str}{params:Arguments}{body:List Stmt}{scope:Scope}{dV kV doc pm cdv ct oc:Value}{an od:Option Addr}{osl:Array (Option Value)}{N ps:List Str}{sp:Sp}(lk:K.lookup f=some ⟨oc,od,.func (fnOf name qual params body scope dV kV doc pm an cdv ct),osl⟩)(hcd:codeIn K cdv qual=true)(S:ak N ps scope)(len:∀vs H Q E,sp vs H Q E->vs.length=ps.length)(hbody:∀(A:Around) (outer:List Env) (s:Shared) (H:Hp) (vs:List V) (Q:VK) (E:XK),bT k (A.deeper (envOfC qual scope s.heap.objs.size f cdv))->sp vs H Q E ->
   ∃t,qZ (qd CX P w K mg base N qual scope f cdv A outer s H E) body t/\t { nx:=λ_ H'=>Q .non H',rt:=Q } (start N vs) H) :
  aq P w K mg base CX (k+1) f (fnOf name qual params body scope dV kV doc pm an cdv ct) ps sp:=by
 refine⟨len,λA outer s H args us vs Q E hr e0 hb r hsp=>?_⟩
 have hl:=len _ _ _ _ hsp
 have KX:K.In s.heap:=e0.mod.Qc.keeps λb o e=>(e0.bs b o e).1
 have lim:s.heap.NoLimit:=e0.mod.nolimit.keeps λb o e=>(e0.bs b o e).1
 have hkind:∀y∈ps.zip us,scope.names.lookup y.1=some .local\/(scope.names.lookup y.1=some .cell/\((cellsFrom (s.heap.objs.size+1) scope.names []).lookup y.1).isSome=true):=λ⟨n,v⟩ hy=>by
  rcases S.par n (of_mem_zip hy).1 with q|q
  ·exact .inl q
  ·exact .inr ⟨q,adp _ _ _ (.inl q)⟩
 refine codeAny_call_function hr.depth (KX _ _ lk) rfl S.co S.gen rfl (PySem.W.codeRec_of KX hcd) (hb _ _ _ _ ?_)
 refine wpAny_newFunctionEnv_cells S.kind hkind λenv he s1 x=>?_
 subst he
 refine⟨lim.keeps x.toInCall.keep,codeAny_func ?_⟩
 obtain⟨t,ht,hq⟩:=hbody A outer s H vs Q E (hr.deeper _) hsp
 have I:Inv (qd CX P w K mg base N qual scope f cdv A outer s H E) [] (start N vs) H s1:=zR5 S hr.hd e0 hl r x
 refine acn (ht [] s1 (start N vs) H _ I hq) (λfl s' hs=>?_) λe s' hs=>hs
 have fin:∀{σ':St}{H':Hp}{v:V}{u:Value},Inv (qd CX P w K mg base N qual scope f cdv A outer s H E) [] σ' H' s'->RelV v u->Q v H'->CE outer P w H s Q u s' :=
  λ{σ' H' v u} J rv q=>⟨v,H',J.os,J.bare,J.base,J.hok,rv,q⟩
 cases fl with
 |ret u =>
  obtain⟨v,σ',H',J,rv,q⟩:=hs
  exact fin J rv q
 |next =>
  obtain⟨σ',H',J,q⟩:=hs
  exact fin (v:=V.non) (u:=adb) J rfl q
 |brk =>
  obtain⟨_,_,_,q⟩:=hs
  exact abq q
 |cont =>
  obtain⟨_,_,_,q⟩:=hs
  exact abq q
section
variable{X:Cx}{x:Str}{p pos:Pos}{e:Expr}{es:List Expr}{t:TA}{id T:String}{r:List V->Hp->VK->Prop}
def sW(r:List V->Hp->VK->Prop)(t:TA):TE:=λσ H Q=>t σ H λvs H1=>r vs H1 Q
theorem zP(hc:sJ X (.builtin id) r)(hg:Gl X x)(hm:X.mg x=none)(hv:bootBuiltins x=some (.builtin id))(ha:PA X (e::es) t)(hn:x ≠ "__name__":=by decide)(hdb:(x==("__debug__":Str))=false:=by decide)(he:starEach (e::es) X.env=(false,eval e X.env)::starEach es X.env:=by rfl)(hpl:(backTo pos (starEach es X.env)).any (·.1)=false:=by rfl):PE X (.Call (.Name x p) (e::es) [] pos) (sW r t):=by
 intro pins s σ H Q I h
 refine abt (A_ I hg hm hv ?_ hn hdb)
 exact PyProof.Rows.callWith_builtin1 (aM (ha pos pins s σ H _ I h) λus s1 ⟨vs,H1,I1,r1,q1⟩=>hc pins s1 σ H1 vs us Q I1 r1 q1) he hpl
theorem vQ(hc:sJ X (.type T) r)(hg:Gl X x)(hm:X.mg x=none)(hv:bootBuiltins x=some (.type T))(ha:PA X (e::es) t)(hn:x ≠ "__name__":=by decide)(hdb:(x==("__debug__":Str))=false:=by decide)(he:starEach (e::es) X.env=(false,eval e X.env)::starEach es X.env:=by rfl)(hpl:(backTo pos (starEach es X.env)).any (·.1)=false:=by rfl):PE X (.Call (.Name x p) (e::es) [] pos) (sW r t):=by
 intro pins s σ H Q I h
 refine abt (A_ I hg hm hv ?_ hn hdb)
 exact abl (aM (ha pos pins s σ H _ I h) λus s1 ⟨vs,H1,I1,r1,q1⟩=>hc pins s1 σ H1 vs us Q I1 r1 q1) he hpl
end
section
variable{κ:Type}[DecidableEq κ]
def iy(kvs:List (κ×V))(k:κ):Option V:=(kvs.find? λkv=>decide (kv.1=k)).map (·.2)
def putK(kvs:List (κ×V))(k:κ)(v:V):List (κ×V) :=
 if(kvs.any λkv=>decide (kv.1=k))=true then kvs.map (λkv=>if kv.1=k then(kv.1,v) else kv) else kvs++[(k,v)]
theorem Yw{p:κ×V}{r:List (κ×V)}{k:κ}(e:p.1=k):iy (p::r) k=some p.2:=by simp[iy,find?_cons,e]
theorem Yx{p:κ×V}{r:List (κ×V)}{k:κ}(e:¬p.1=k):iy (p::r) k=iy r k:=by simp[iy,find?_cons,e]
theorem zMo(k:κ):∀kvs:List (κ×V),(kvs.any λkv=>decide (kv.1=k))=(iy kvs k).isSome
 |[]=>rfl
 |p::r=>by
  rw[any_cons]
  by_cases e:p.1=k
  ·simp only[Yw e,decide_eq_true e,Bool.true_or,ad6]
  ·rw[Yx e,decide_eq_false e,aef];exact zMo k r
theorem Yy(kvs:List (κ×V))(k:κ)(v:V):(putK kvs k v).length<=kvs.length+1:=by
 unfold putK
 split
 ·rw[length_map];omega
 ·rw[length_append,length_cons,length_nil];omega
theorem jq.fZ(r:jq o u):o.isSome=u.isSome:=by
 cases o with
 |none=>cases u with
  |none=>rfl
  |some _=>exact(show False from r).elim
 |some _=>cases u with
  |none=>exact(show False from r).elim
  |some _=>rfl
theorem jq.getD(r:jq o u)(rd:RelV d d'):RelV (o.getD d) (u.getD d'):=by
 cases o with
 |none=>cases u with
  |none=>exact rd
  |some _=>exact(show False from r).elim
 |some _=>cases u with
  |none=>exact(show False from r).elim
  |some _=>exact r
theorem KV.val(r:KV kvs vs)(k:κ):jq (iy kvs k) (valueAt vs k):=by
 unfold KV at r
 induction r with
 |nil=>exact acw
 |@cons p q ps qs h t ih =>
  obtain⟨h1,h2⟩:=h
  by_cases e:p.1=k
  ·have e':q.1=k:=h1.symm.trans e
   have b:valueAt (q::qs) k=some q.2:=by simp[valueAt,find?_cons,e']
   rw[Yw e,b];exact h2
  ·have e':¬q.1=k:=λz=>e (h1.trans z)
   have b:valueAt (q::qs) k=valueAt qs k:=by simp[valueAt,find?_cons,e']
   rw[Yx e,b];exact ih
theorem KV.any(r:KV kvs vs)(k:κ):(kvs.any λkv=>decide (kv.1=k))=vs.any λkv=>decide (kv.1=k):=by
 unfold KV at r
 induction r with
 |nil=>rfl
 |cons h t ih=>rw[any_cons,any_cons,ih,h.1]
theorem KV.repl(r:KV kvs vs)(k:κ)(ry:RelV y u) :
  KV (kvs.map λkv=>if kv.1=k then(kv.1,y) else kv) (vs.map λkv=>if kv.1=k then(kv.1,u) else kv):=by
 unfold KV at r ⊢
 induction r with
 |nil=>exact .nil
 |@cons p q ps qs h t ih =>
  rw[map_cons,map_cons]
  refine .cons ?_ ih
  obtain⟨h1,h2⟩:=h
  by_cases e:p.1=k
  ·rw[if_pos e,if_pos (h1.symm.trans e)];exact⟨h1,ry⟩
  ·rw[if_neg e,if_neg (λz=>e (h1.trans z))];exact⟨h1,h2⟩
theorem KV.put(r:KV kvs vs)(k:κ)(ry:RelV y u):KV (putK kvs k y) (stored vs k u):=by
 unfold putK stored
 rw[r.any k]
 by_cases e:(vs.any λkv=>decide (kv.1=k))=true
 ·rw[if_pos e,if_pos e];exact r.repl k ry
 ·rw[if_neg e,if_neg e];exact Paired.snoc r ⟨rfl,ry⟩
theorem KV.length(r:KV kvs vs):kvs.length=vs.length:=aey r
end
theorem RZ(r:RelV (kV k) u):(vG P w).is k u=true:=by
 cases k with
 |inl i=>obtain⟨t,e⟩:=(show∃t,u=acf i t from r);subst e;exact zLz P w i t
 |inr x=>obtain⟨t,e⟩:=(show∃t,u=adk x t from r);subst e;exact zLy P w x t
theorem zJ0:∀{ks:List Key}{us:List Value},Vals (ks.map kV) us->ItemsAre (vG P w) ks us
 |[],_,r=>by rw[map_nil] at r;cases r;exact .nil
 |k::ks,_,r=>by
  rw[map_cons] at r
  cases r with
  |cons h t=>exact .cons (RZ h) (zJ0 t)
abbrev KT(H:Hp):List (List Key×V)->List (List Key×Addr×Value)->Prop:=Paired λp q=>p.1=q.1/\H q.2.1=some (.tup (p.1.map kV))/\RelV p.2 q.2.2
theorem KT.val(r:KT H kvs xs)(k:List Key):jq (iy kvs k) ((atKey xs k).map (·.2)):=by
 induction r with
 |nil=>exact acw
 |@cons p q ps qs h t ih =>
  obtain⟨h1,_,h2⟩:=h
  by_cases e:p.1=k
  ·have e':q.1=k:=h1.symm.trans e
   have b:atKey (q::qs) k=some q.2:=by simp[atKey,find?_cons,e']
   rw[Yw e,b];exact h2
  ·have e':¬q.1=k:=λz=>e (h1.trans z)
   have b:atKey (q::qs) k=atKey qs k:=by simp[atKey,find?_cons,e']
   rw[Yx e,b];exact ih
theorem KT.repl(r:KT H kvs xs)(k:List Key)(ry:RelV y u) :
  KT H (kvs.map λkv=>if kv.1=k then(kv.1,y) else kv) (xs.map (putAt k u)):=by
 induction r with
 |nil=>exact .nil
 |@cons p q ps qs h t ih =>
  rw[map_cons,map_cons]
  refine .cons ?_ ih
  obtain⟨h1,h2,h3⟩:=h
  unfold putAt
  by_cases e:p.1=k
  ·rw[if_pos e,if_pos (h1.symm.trans e)];exact⟨h1,h2,ry⟩
  ·rw[if_neg e,if_neg (λz=>e (h1.trans z))];exact⟨h1,h2,h3⟩
theorem KT.put(r:KT H kvs xs)(k:List Key)(hb:H b=some (.tup (k.map kV)))(ry:RelV y u) :
  KT H (putK kvs k y) (storedH xs k b u):=by
 have e:(kvs.any λkv=>decide (kv.1=k))=(atKey xs k).isSome:=by
  rw[zMo,(r.val k).fZ,aeu]
 unfold putK storedH
 rw[e]
 by_cases q:(atKey xs k).isSome=true
 ·rw[if_pos q,if_pos q];exact r.repl k ry
 ·rw[if_neg q,if_neg q];exact Paired.snoc r ⟨rfl,hb,ry⟩
theorem KT.keeps(r:KT H kvs xs)(ht:∀b ys,H b=some (.tup ys)->H' b=some (.tup ys)):KT H' kvs xs :=
 Paired.Kz r λ_ _ z=>⟨z.1,ht _ _ z.2.1,z.2.2⟩
section
variable{P:Program}{w:World}{H:Hp}{h:Heap}{a:Addr}
theorem Jt(ok:h_ P w H h)(e:Rd H a u):bw P w H h a u:=e.ok ok
theorem Bw(ok:h_ P w H h)(e:Rd H a (.dK kvs)):kvs.length<=sizeLine/\(a==sysModules)=false/\∃vs,KV kvs vs/\h.DictOf (vG P w) a vs :=
 show bw P w H h a (.dK kvs) from Jt ok e
theorem Ju(ok:h_ P w H h)(e:H a=some (.dK kvs)):kvs.length<=sizeLine/\(a==sysModules)=false/\∃vs,KV kvs vs/\h.DictOf (vG P w) a vs:=Bw ok (.inl e)
theorem V_{ks:List Key}(ok:h_ P w H h)(e:H a=some (.tup (ks.map kV))):(tupleKind (vG P w)).is h ks a:=by
 obtain⟨_,its,r,o,h1,h2,n,h3⟩:=(show bw P w H h a (.tup (ks.map kV)) from ok a _ e)
 exact⟨o,its.toArray,n,h1,h2,h3,by simpa using zJ0 r⟩
theorem Bx(ok:h_ P w H h)(e:Rd H a (.dT kvs)):kvs.length<=sizeLine/\(a==sysModules)=false /\
  ∃xs,KT H kvs xs/\h.DictOfH (tupleKind (vG P w)) a xs:=by
 obtain⟨z,y,xs,r,o,es,ep,h1,h2,h3,h4,h5⟩:=(show bw P w H h a (.dT kvs) from Jt ok e)
 refine⟨z,y,xs,r,o,es,ep,h1,h2,h3,h4,λx hx=>?_,h5⟩
 have all:∀{l:List (List Key×V)}{m:List (List Key×Addr×Value)},KT H l m->∀x∈m,(tupleKind (vG P w)).is h x.1 x.2.1:=by
  intro l m q
  induction q with
  |nil=>intro x hx;exact nomatch hx
  |@cons p q ps qs hq t ih =>
   intro x hx
   rcases mem_cons.mp hx with e|hx
   ·subst e
    exact V_ ok (by rw[<-hq.1];exact hq.2.1)
   ·exact ih x hx
 exact all r x hx
theorem R3(ok:h_ P w H h)(e:H a=some (.dT kvs)):kvs.length<=sizeLine/\(a==sysModules)=false /\
  ∃xs,KT H kvs xs/\h.DictOfH (tupleKind (vG P w)) a xs:=Bx ok (.inl e)
end
def qe(H:Hp)(a:Addr)(y:V)(r:Option V):Prop :=
 (∃kvs k,Rd H a (.dK kvs)/\y=kV k/\r=iy kvs k)\/∃kvs k b,Rd H a (.dT kvs)/\y=.ref b/\H b=some (.tup (k.map kV))/\r=iy kvs k
def yt(H:Hp)(a:Addr)(y v:V)(H':Hp):Prop :=
 (∃kvs k,H a=some (.dK kvs)/\y=kV k/\kvs.length<sizeLine/\H'=upd H a (.dK (putK kvs k v))) \/
 ∃kvs k b,H a=some (.dT kvs)/\y=.ref b/\H b=some (.tup (k.map kV))/\kvs.length<sizeLine/\H'=upd H a (.dT (putK kvs k v))
theorem qe.k{H:Hp}{a:Addr}{kvs:List (Key×V)}{k:Key}(e:H a=some (.dK kvs)):qe H a (kV k) (iy kvs k):=.inl ⟨kvs,k,.inl e,rfl,rfl⟩
theorem yt.k{H:Hp}{a:Addr}{kvs:List (Key×V)}{k:Key}{v:V}(e:H a=some (.dK kvs))(hl:kvs.length<sizeLine):yt H a (kV k) v (upd H a (.dK (putK kvs k v))):=.inl ⟨kvs,k,e,rfl,hl,rfl⟩
section
variable{X:Cx}{pins:List (Addr×Obj)}{σ:St}{H:Hp}{s:Shared}{a:Addr}{y v:V}{u r:Value}{o:Option V}{A:Around}{E:Value->Shared->Prop}
theorem Inv.big(I:Inv X pins σ H s):sysModules<s.heap.objs.size:=by
 have h:abg<s.heap.objs.size:=(I.mod.glob.keeps I.bk).lt
 exact adt (by decide) h
theorem Yz{Q:Value->Shared->Prop}(hu:A.units+1<cLine)(I:Inv X pins σ H s)(g:qe H a y o)(ry:RelV y u)(h:∀s',Inv X pins σ H s'->Q (.bool o.isSome) s') :
  wpAny (model X.prog X.w) A (compareOp .In u (.ref a)) Q E s:=by
 rcases g with⟨kvs,k,e,ey,l⟩|⟨kvs,k,b,e,ey,eb,l⟩
 ·subst ey
  obtain⟨z,hd,vs,rel,dd⟩:=Bw I.hok e
  refine wpAny_in_of (RZ ry) hd dd.mapOf ?_
  rw[<-(rel.val k).fZ,<-l]
  exact h _ (I.tok _)
 ·subst ey
  cases(show u=abj b from ry)
  obtain⟨z,hd,xs,rel,dd⟩:=Bx I.hok e
  refine wpAny_in_heap (aep hu) (V_ I.hok eb) hd dd ?_
  have q:=(rel.val k).fZ
  rw[aeu] at q
  rw[<-q,<-l]
  exact h _ (I.tok _)
theorem Ga{Q:Value->Shared->Prop}(hu:A.units+1<cLine)(I:Inv X pins σ H s)(g:qe H a y o)(ry:RelV y u)(h:∀s',Inv X pins σ H s'->Q (.bool (!o.isSome)) s') :
  wpAny (model X.prog X.w) A (compareOp .NotIn u (.ref a)) Q E s:=by
 rcases g with⟨kvs,k,e,ey,l⟩|⟨kvs,k,b,e,ey,eb,l⟩
 ·subst ey
  obtain⟨z,hd,vs,rel,dd⟩:=Bw I.hok e
  refine wpAny_notIn_of (RZ ry) hd dd.mapOf ?_
  rw[<-(rel.val k).fZ,<-l]
  exact h _ (I.tok _)
 ·subst ey
  cases(show u=abj b from ry)
  obtain⟨z,hd,xs,rel,dd⟩:=Bx I.hok e
  refine wpAny_notIn_heap (aep hu) (V_ I.hok eb) hd dd ?_
  have q:=(rel.val k).fZ
  rw[aeu] at q
  rw[<-q,<-l]
  exact h _ (I.tok _)
theorem YB(I:Inv X pins σ H s)(mu:Ro (H a))(hs:SameBut a s.heap h')(he:∃q,h'.get? a=some q)(new:bw X.prog X.w (upd H a ob) h' a ob) :
  Inv X pins σ (upd H a ob) { s with heap:=h',toks:=t' } :=
 I.write (x:=a) (e:=a) mu (.inl rfl) (λb q hb z=>(hs.2 b hb).trans z) he new
theorem zWt{h':Heap}{kvs:List (Key×V)}(z:kvs.length<=sizeLine)(hd:(a==sysModules)=false)(rel:KV kvs vs)(dd:h'.DictOf (vG P w) a vs) :
  bw P w H' h' a (.dK kvs):=⟨z,hd,vs,rel,dd⟩
theorem zSw{Q:Unit->Shared->Prop}(hu:A.units+1<cLine)(I:Inv X pins σ H s)(g:yt H a y v H')(ry:RelV y u)(rv:RelV v r)(h:∀s',Inv X pins σ H' s'->Q () s') :
  wpAny (model X.prog X.w) A (setItem (.ref a) u r) Q E s:=by
 rcases g with⟨kvs,k,e,ey,l,eH⟩|⟨kvs,k,b,e,ey,eb,l,eH⟩
 ·subst ey eH
  obtain⟨z,hd,vs,rel,dd⟩:=Ju I.hok e
  have hz:vs.length<=sizeLine:=by rw[<-rel.length];exact z
  have hl:(putK kvs k v).length<=sizeLine:=by have:=Yy kvs k v;omega
  refine wpAny_setItem_pairs (hsz:=hz) (RZ ry) dd λh' Lj hs=>h _ ?_
  have he:∃q,h'.get? a=some q:=let⟨q,_,_,hq,_⟩:=Lj;⟨q,hq⟩
  exact YB I (by rw[e];exact acw) hs he (zWt hl hd (rel.put k rv) Lj)
 ·subst ey eH
  cases(show u=abj b from ry)
  obtain⟨z,hd,xs,rel,dd⟩:=R3 I.hok e
  have hz:xs.length<=sizeLine:=by rw[<-aey rel];exact z
  have hl:(putK kvs k v).length<=sizeLine:=by have:=Yy kvs k v;omega
  refine wpAny_setItem_heap (hsz:=hz) (aep hu) (V_ I.hok eb) dd λh' Lj hs=>h _ ?_
  obtain⟨q,es,ep,hq,h2,h3,h4,_,h5⟩:=Lj
  refine YB I (by rw[e];exact acw) hs ⟨q,hq⟩ ⟨hl,hd,_,(rel.put k eb rv).keeps λc ys ec=>?_,q,es,ep,hq,h2,h3,h4,h5⟩
  rw[zX (Rn ec e (λz=>nomatch z))]
  exact ec
end
section
variable{X:Cx}{pins:List (Addr×Obj)}{σ:St}{H:Hp}{s:Shared}{a:Addr}{kvs:List (Key×V)}{k:Key}{u:Value}{A:Around}{E:Value->Shared->Prop}
end
def Lk(ty td:TE):TE:=λσ H Q=>ty σ H λy H1=>td σ H1 λx H2=>∃a o,x=.ref a/\qe H2 a y o/\Q (.bl o.isSome) H2
def zQc(ty td:TE):TE:=λσ H Q=>ty σ H λy H1=>td σ H1 λx H2=>∃a o,x=.ref a/\qe H2 a y o/\Q (.bl (!o.isSome)) H2
def BJ(td ty tv:TE):TS:=λD σ H=>tv σ H λv H1=>td σ H1 λx H2=>ty σ H2 λy H3=>∃a H4,x=.ref a/\yt H3 a y v H4/\D.nx σ H4
section
variable{X:Cx}{o i e value:Expr}{pos pos' tpos:Pos}{td ty tv:TE}
theorem Qm(hu:X.A.units+1<cLine)(hi:PE X i ty)(ho:PE X o td):PC X .In i o (Lk ty td):=by
 intro pins s σ H Q I h
 refine aM (hi pins s σ H _ I h) λiv s1 ⟨y,H1,I1,ry,q1⟩=>aM (ho pins s1 σ H1 _ I1 q1) λu s2 ⟨x,H2,I2,rx,a,ov,ex,g,q2⟩=>?_
 subst ex
 obtain rfl:u=abj a:=rx
 exact Yz hu I2 g ry λs3 I3=>⟨.bl ov.isSome,H2,I3,rfl,q2⟩
theorem zJj(hu:X.A.units+1<cLine)(hi:PE X i ty)(ho:PE X o td):PC X .NotIn i o (zQc ty td):=by
 intro pins s σ H Q I h
 refine aM (hi pins s σ H _ I h) λiv s1 ⟨y,H1,I1,ry,q1⟩=>aM (ho pins s1 σ H1 _ I1 q1) λu s2 ⟨x,H2,I2,rx,a,ov,ex,g,q2⟩=>?_
 subst ex
 obtain rfl:u=abj a:=rx
 exact Ga hu I2 g ry λs3 I3=>⟨.bl (!ov.isSome),H2,I3,rfl,q2⟩
theorem Wb(hu:X.A.units+1<cLine)(ho:PE X o td)(hi:PE X i ty)(hv:PE X value tv)(hs:swapsWith value (some (.Subscript o i pos')) pos.line X.env=pure false) :
  PS X (.Assign [.Subscript o i pos'] value pos) (BJ td ty tv):=by
 intro pins s σ H D I h
 refine wpAny_Assign_Subscript (aM (hv pins s σ H _ I h) λr s1 ⟨v,H1,I1,rv,q1⟩=>aM (ho pins s1 σ H1 _ I1 q1) λu s2 ⟨x,H2,I2,rx,q2⟩=>aM (hi pins s2 σ H2 _ I2 q2) λiv s3 ⟨y,H3,I3,ry,a,H4,ex,g,q3⟩=>?_) hs
 subst ex
 obtain rfl:u=abj a:=rx
 exact zSw hu I3 g ry rv λs4 I4=>⟨σ,H4,I4,q3⟩
end
theorem zNl(h:Heap)(hb:sysModules<h.objs.size):bw P w H (h.push { cls:=.type "dict",data:=.dict #[] }) h.objs.size (.dK []) :=
 ⟨abk _,beq_eq_false_iff_ne.mpr (abv (aa0 hb)),[],.nil,Heap.DictOf.new h⟩
def zV8:TE:=λ_ H Q=>∀p,H p=none->Q (.ref p) (upd H p (.dK []))
section
variable{X:Cx}{pos:Pos}
theorem YC:PE X (.Dict [] [] pos) zV8:=λpins s σ H Q I h =>
 wpAny_Dict_empty ⟨.ref s.heap.objs.size,_,I.laid (a:=s.heap.objs.size) (o:=.dK []) (t':=s.toks) (λ_ _ q=>get?_push_of_some _ q) (aav _) (zNl s.heap I.big),rfl,h _ (I.hok.fresh (aav _))⟩
end
def YD:List (TE×TE)->St->Hp->(List (V×V)->Hp->Prop)->Prop
 |[],_,H,Q=>Q [] H
 | (tk,tv)::r,σ,H,Q=>tk σ H λx H1=>tv σ H1 λy H2=>YD r σ H2 λps H3=>Q ((x,y)::ps) H3
abbrev VV:List (V×V)->List (Value×Value)->Prop:=Paired λp q=>RelV p.1 q.1/\RelV p.2 q.2
def Wc(X:Cx)(pos:Pos)(keys:List (Option Expr))(values:List Expr)(Ln:List (TE×TE)):Prop :=
 ∀(pins:List (Addr×Obj))(s:Shared)(σ:St)(H:Hp)(Q:List (V×V)->Hp->Prop),Inv X pins σ H s->YD Ln σ H Q ->
  wpAny (model X.prog X.w) X.A (evalPairs (pairTrees keys values X.env pos)) (λvs s'=>∃ps H',Inv X pins σ H' s'/\VV ps vs/\Q ps H') X.xe s
theorem Gb:Wc X pos [] [] []:=λpins s σ H Q I h=>pairTrees_nil_walk ⟨[],H,I,.nil,h⟩
theorem zUi(hk:PE X k tk)(hv:PE X v tv)(hr:Wc X pos ks vs Ln) :
  Wc X pos (some k::ks) (v::vs) ((tk,tv)::Ln):=λpins s σ H Q I h =>
 pairTrees_cons_walk (aM (hk pins s σ H _ I h) λu s1 ⟨x,H1,I1,rx,q1⟩=>aM (hv pins s1 σ H1 _ I1 q1) λw2 s2 ⟨y,H2,I2,ry,q2⟩ =>
  aM (hr pins s2 σ H2 _ I2 q2) λws s3 ⟨ps,H3,I3,rel,q3⟩=>⟨(x,y)::ps,H3,I3,.cons ⟨rx,ry⟩ rel,q3⟩)
def Qn(kvs more:List (Key×V)):List (Key×V):=more.foldl (λacc kv=>putK acc kv.1 kv.2) kvs
theorem KV.merge:∀{more:List (Key×V)}{rs:List (Key×Value)}{kvs:List (Key×V)}{vs:List (Key×Value)},KV more rs->KV kvs vs->KV (Qn kvs more) (merged vs rs):=by
 intro more rs kvs vs r
 unfold KV at r
 induction r generalizing kvs vs with
 |nil=>intro q;exact q
 |@cons p q ps qs h t ih =>
  intro r0
  have e:KV (putK kvs p.1 p.2) (stored vs q.1 q.2):=by
   have:=r0.put p.1 h.2
   rw[<-h.1];exact this
  exact ih e
theorem zDb:∀(more kvs:List (Key×V)),(Qn kvs more).length<=kvs.length+more.length
 |[],kvs=>by show kvs.length<=kvs.length+0;omega
 |p::r,kvs=>by
  have h1:=zDb r (putK kvs p.1 p.2)
  have h2:=Yy kvs p.1 p.2
  show(Qn (putK kvs p.1 p.2) r).length<=_
  rw[length_cons];omega
theorem zHc:∀{kvs:List (Key×V)}{ws:List (Value×Value)},VV (kvs.map λkv=>(kV kv.1,kv.2)) ws->∃rs,Carries (vG P w) ws rs/\KV kvs rs
 |[],_,r=>by rw[map_nil] at r;cases r;exact⟨[],acw,.nil⟩
 |p::kvs,_,r=>by
  rw[map_cons] at r
  cases r with
  |@cons a b as bs h t =>
   obtain⟨rs,c,q⟩:=zHc (P:=P) (w:=w) t
   obtain⟨b1,b2⟩:=b
   exact⟨(p.1,b2)::rs,⟨RZ h.1,rfl,c⟩,.cons ⟨rfl,h.2⟩ q⟩
def BK(Ln:List (TE×TE)):TE:=λσ H Q=>∀p,H p=none->YD Ln σ (upd H p (.dK [])) λps H2=>H2 p=some (.dK [])/\∃kvs:List (Key×V),ps=kvs.map (λkv=>(kV kv.1,kv.2))/\kvs.length<=15/\Q (.ref p) (upd H2 p (.dK (Qn [] kvs)))
theorem Gd(h:Wc X pos keys values Ln)(hall:keys.all (·.isSome)=true)(hl:keys.length=values.length)(h0:keys≠[])(h15:keys.length<=15):PE X (.Dict keys values pos) (BK Ln):=by
 intro pins s σ H Q I q
 have hn:=I.hok.fresh (aav s.heap.objs.size)
 have I1:=I.laid (a:=s.heap.objs.size) (o:=.dK []) (h':=s.heap.push { cls:=.type "dict",data:=.dict #[] }) (t':=s.toks) (λ_ _ q=>get?_push_of_some _ q) (aav _) (zNl s.heap I.big)
 refine wpAny_Dict_walk (knd:=vG X.prog X.w) hall hl h0 h15 (aM (h pins _ σ _ _ I1 (q _ hn)) λws s2 ⟨ps,H2,I2,rel,e,kvs,ep,lk,q2⟩=>?_)
 subst ep
 obtain⟨rs,c,rk⟩:=zHc (P:=X.prog) (w:=X.w) rel
 obtain⟨z,hd,vs0,r0,dd⟩:=Ju I2.hok e
 cases r0
 refine⟨rs,c,dd,λh' Lj hs=>⟨.ref s.heap.objs.size,_,?_,rfl,q2⟩⟩
 have hz:(Qn [] kvs).length<=sizeLine:=by
  have h1:=zDb kvs []
  rw[length_nil] at h1
  rw[aev];omega
 have he:∃q,h'.get? s.heap.objs.size=some q:=let⟨q,_,_,hq,_⟩:=Lj;⟨q,hq⟩
 exact YB I2 (by rw[e];exact acw) hs he (zWt hz hd (rk.merge .nil) Lj)
structure M1(X:Cx)(o:Expr)(m:Str)(apos:Pos)(e:Expr)(cpos:Pos):Prop where
 base:attributeBase o m X.env (eval o X.env)=eval o X.env
 few:((backTo cpos (starEach [e] X.env)).all (λx=>!x.1)&&(backToKw cpos (keywordEach [] X.env)).all (λx=>x.1.isSome)
  && decide (([e]:List Expr).length+([]:List Keyword).length+(if([]:List Keyword).isEmpty then 0 else 1)<30))=true
 line:(apos.endLine==cpos.line)=true
 trees:backTo cpos (starEach [e] X.env)=[(false,eval e X.env)]
structure M2(X:Cx)(o:Expr)(m:Str)(apos:Pos)(e f:Expr)(cpos:Pos):Prop where
 base:attributeBase o m X.env (eval o X.env)=eval o X.env
 few:((backTo cpos (starEach [e,f] X.env)).all (λx=>!x.1)&&(backToKw cpos (keywordEach [] X.env)).all (λx=>x.1.isSome)
  && decide (([e,f]:List Expr).length+([]:List Keyword).length+(if([]:List Keyword).isEmpty then 0 else 1)<30))=true
 line:(apos.endLine==cpos.line)=true
 trees:backTo cpos (starEach [e,f] X.env)=[(false,eval e X.env),(false,eval f X.env)]
section
variable{X:Cx}{pins:List (Addr×Obj)}{σ:St}{H:Hp}{s:Shared}{a:Addr}{y d:V}{u r:Value}{o:Option V}{A:Around}{E:Value->Shared->Prop}
end
section
variable{X:Cx}{o e f:Expr}{apos cpos:Pos}{td ty tx:TE}
end
section
variable{X:Cx}{pins:List (Addr×Obj)}{σ:St}{H:Hp}{s:Shared}{a:Addr}{kvs:List (Key×V)}{A:Around}{E:Value->Shared->Prop}
end
section
variable{X:Cx}{pins:List (Addr×Obj)}{σ:St}{H:Hp}{s:Shared}{a:Addr}{y:V}{u:Value}{A:Around}{E:Value->Shared->Prop}
end
end L2
namespace HT
open PySem PyProof.Rows
section
open PySem.SeqAt
open PySem.AutoSeq1 (wpAny_loadPart')
open PySem.MeetsSeq PySem.MeetsSeq2 PySem.MeetsSeq3
end
section
variable{prog:Program}{w:World}{A:Around}{E:Value->Shared->Prop}{s:Shared}
def pH(n d:Nat):Option Int->Nat
 |none=>d
 |some v=>if v<0 then(v+(n:Int)).toNat else min v.toNat n
theorem BL(n d:Nat):pH n d none=d:=rfl
end
end HT
namespace L2
open PySem PySem.Spec PyProof.Rows
abbrev TO:=St->Hp->(Option Int->Hp->Prop)->Prop
def PO(X:Cx)(e:Option Expr)(t:TO):Prop :=
 ∀(pins:List (Addr×Obj))(s:Shared)(σ:St)(H:Hp)(Q:Option Int->Hp->Prop),Inv X pins σ H s->t σ H Q ->
  wpAny (model X.prog X.w) X.A (evalPart e X.env) (λu s'=>∃o H',Inv X pins σ H' s'/\IsPart u o/\Q o H') X.xe s
def YF:TO:=λ_ H Q=>Q none H
def BP(t:TE):TO:=λσ H Q=>t σ H λx H1=>∃i,x=.int i/\Q (some i) H1
section
variable{X:Cx}{e:Expr}{te:TE}{lo hi:Option Expr}{tl th:TO}{pos p2:Pos}
theorem zQz:PO X none YF:=by
 intro pins s σ H Q I h
 rw[evalPart_none]
 exact aat ⟨none,H,I,.none,h⟩
theorem zQy(h:PE X e te):PO X (some e) (BP te):=by
 intro pins s σ H Q I hw
 rw[evalPart_some]
 refine aM (h pins s σ H _ I hw) λu s1 ⟨x,H1,I1,r1,q1⟩=>?_
 obtain⟨i,rfl,q⟩:=q1
 obtain⟨t,rfl⟩:=r1
 exact⟨some i,H1,I1,.int i t,q⟩
def Wd(X:Cx)(r:V->Option Int->Option Int->Hp->VK->Prop):Prop :=
 ∀(pins:List (Addr×Obj))(s:Shared)(σ:St)(H:Hp)(x:V)(v vl vu:Value)(lo hi:Option Int)(sl:Addr)(Q:VK),Inv X pins σ H s->RelV x v->s.heap.IsSliceOf sl vl vu .none->IsPart vl lo->IsPart vu hi->r x lo hi H Q ->
  ∃T id,typeLookup (.type T) "__getitem__" = pure (some (.builtin id))/\s.TypeIs v T/\wpAny (model X.prog X.w) X.A (getItem v (.ref sl)) (EP X pins σ Q) X.xe s
def YG(r:V->Option Int->Option Int->Hp->VK->Prop)(te:TE)(tl th:TO):TE:=λσ H Q=>te σ H λx H1=>tl σ H1 λl H2=>th σ H2 λu H3=>r x l u H3 Q
theorem zM4(hr:Wd X r)(he:PE X e te)(hl:PO X lo tl)(hu:PO X hi th):PE X (.Subscript e (.Slice lo hi none p2) pos) (YG r te tl th):=by
 intro pins s σ H Q I h
 refine Subscript_ (aM (he pins s σ H _ I h) λv s1 ⟨x,H1,I1,r1,q1⟩=>?_)
 refine wpAny_Slice (aM (hl pins s1 σ H1 _ I1 q1) λvl s2 ⟨l,H2,I2,pl,q2⟩=>aM (hu pins s2 σ H2 _ I2 q2) λvu s3 ⟨u,H3,I3,pu,q3⟩=>?_)
 rw[evalPart_none]
 refine aat ?_
 have I4:Inv X pins σ H3 { s3 with heap:=s3.heap.push { cls:=.type "slice",data:=.fields #[vl,vu,.none] } }:=I3.kept (t':=s3.toks) λb ob q=>get?_push_of_some _ q
 obtain⟨T,id,hT,ht,hg⟩:=hr pins { s3 with heap:=s3.heap.push { cls:=.type "slice",data:=.fields #[vl,vu,.none] } } σ H3 x v vl vu l u s3.heap.objs.size Q I4 r1 (Heap.IsSliceOf.new ..) pl pu q3
 show wpAny (model X.prog X.w) X.A (subscriptTail e (.Slice lo hi none p2) v (.ref s3.heap.objs.size)) (EP X pins σ Q) X.xe { s3 with heap:=s3.heap.push { cls:=.type "slice",data:=.fields #[vl,vu,.none] } }
 exact tail_any (ops:=[.ref s3.heap.objs.size,v]) ht hT hg (by with_unfolding_all rfl)
def yu(xs:List V)(lo hi:Option Int):List V:=(xs.drop (HT.pH xs.length 0 lo)).take (HT.pH xs.length xs.length hi-HT.pH xs.length 0 lo)
theorem zMa(xs:List V)(lo hi:Option Int):(yu xs lo hi).length<=xs.length:=by
 unfold yu
 rw[length_take,length_drop]
 omega
end
def rA(n:Nat)(i:Int):Option Nat:=if 0<=i then(if i<n then some i.toNat else none) else if -(n:Int)<=i then some (i+n).toNat else none
def aO{α:Type}(xs:List α)(i:Int):Option α:=(rA xs.length i).bind λj=>xs[j]?
theorem zR3(h:rA n i=some j):seqIndex? i n=some j/\j<n /\ -(n:Int)<=i/\i<n:=by
 unfold rA at h
 by_cases h0:0<=i
 ·rw[if_pos h0] at h
  by_cases h1:i<n
  ·rw[if_pos h1] at h
   have e:i.toNat=j:=aa3 h
   exact⟨by rw[afa h0 h1,e],by omega,by omega,h1⟩
  ·rw[if_neg h1] at h;cases h
 ·rw[if_neg h0] at h
  by_cases h1:-(n:Int)<=i
  ·rw[if_pos h1] at h
   have e:(i+n).toNat=j:=aa3 h
   exact⟨by rw[afr (by omega) h1,e],by omega,h1,by omega⟩
  ·rw[if_neg h1] at h;cases h
theorem YH{α:Type}{xs:List α}{v:α}(h:aO xs i=some v):∃j,seqIndex? i xs.length=some j/\xs[j]?=some v/\j<xs.length /\ -(xs.length:Int)<=i/\i<xs.length:=by
 unfold aO at h
 cases e:rA xs.length i with
 |none=>rw[e] at h;cases h
 |some j =>
  rw[e] at h
  obtain⟨h1,h2,h3,h4⟩:=zR3 e
  exact⟨j,h1,h,h2,h3,h4⟩
theorem Ge{α:Type}{xs:List α}{j:Nat}{v:α}(h:xs[j]?=some v):aO xs (j:Int)=some v:=by
 have hj:j<xs.length:=(aa6.mp h).1
 have e:rA xs.length (j:Int)=some j:=by
  unfold rA
  rw[if_pos (by omega),if_pos (by omega)];simp
 unfold aO;rw[e];exact h
def Gf(b:Expr):Prop:=∀o i,subscripted b false o i=operate [o,i] (getItem o i)
def R5(X:Cx)(r:R2):Prop :=
 ∀(value slice:Expr)(pins:List (Addr×Obj))(s:Shared)(σ:St)(H:Hp)(x y:V)(v u:Value)(Q:VK),Inv X pins σ H s->RelV x v->RelV y u->r x y H Q ->
  subscripted slice false v u=operate [v,u] (getItem v u)->wpAny (model X.prog X.w) X.A (subscriptTail value slice v u) (EP X pins σ Q) X.xe s
def MtR(X:Cx)(id:String)(r:V->List V->Hp->VK->Prop):Prop :=
 ∀(pins:List (Addr×Obj))(s:Shared)(σ:St)(H:Hp)(x:V)(xs:List V)(v:Value)(us:List Value)(Q:VK),Inv X pins σ H s->RelV x v->Vals xs us->r x xs H Q ->
  wpAny (model X.prog X.w) X.A (call (.builtin id) (v::us)) (EP X pins σ Q) X.xe s
section
variable{X:Cx}{a b:Expr}{ta tb:TE}{pos:Pos}
theorem yM(hr:R5 X r)(ha:PE X a ta)(hb:PE X b tb)(hs:Gf b):PE X (.Subscript a b pos) (gW r ta tb):=by
 intro pins s σ H Q I h
 exact Subscript_ (Fw ha hb I h λv u s2 x y H2 I2 rx ry q=>hr a b pins s2 σ H2 x y v u Q I2 rx ry q (hs _ _))
def yw(K:PySem.W.Frag):R2:=λx y H Q=>∃p xs i v,x=.ref p/\y=.int i/\bx K H p xs/\aO xs i=some v/\Q v H
def BR(K:PySem.W.Frag):R2:=λx y H Q=>∃p xs i v,x=.ref p/\y=.int i/\kO K H p xs/\aO xs i=some v/\Q v H
theorem zR2:R5 X (yw X.K):=by
 intro value slice pins s σ H x y v u Q I rx ry h hs
 obtain⟨p,xs,i,z,rfl,rfl,hq,he,q⟩:=h
 cases rx
 obtain⟨t,rfl⟩:=ry
 obtain⟨its,r,pl,hz⟩:=I.list hq
 obtain⟨j,h1,h2,h3,h4,h5⟩:=YH he
 obtain⟨w,ew,R7⟩:=r.get h2
 have hl:=r.length
 have hn:=Ld
 have fin:EP X pins σ Q w s:=⟨z,H,I,R7,q⟩
 by_cases h0:0<=i
 ·have hj:i.toNat=j:=by
   rw[afa h0 h5] at h1
   exact aa3 h1
  exact item_listR pl.isList h0 (by omega) (by rw[hj];simpa using ew) fin hs
 ·have hj:(i+(its.toArray.size:Int)).toNat=j:=by
   rw[afr (by omega) h4] at h1
   rw[size_toArray,<-hl]
   exact aa3 h1
  exact subscriptTail_builtinR (x:=w) pl.isList.typeIs slot_list_getitem.lookup
   (wpAny_getItem_list_neg (Q:=λr s'=>r=w/\EP X pins σ Q r s') pl.isList (by omega) (by rw[size_toArray]<;>omega) (by omega) (by rw[hj];simpa using ew) ⟨rfl,fin⟩) hs
theorem Lp:R5 X (BR X.K):=by
 intro value slice pins s σ H x y v u Q I rx ry h hs
 obtain⟨p,xs,i,z,rfl,rfl,hq,he,q⟩:=h
 cases rx
 obtain⟨t,rfl⟩:=ry
 obtain⟨its,r,pl,hz⟩:=I.tuple hq
 obtain⟨j,h1,h2,h3,h4,h5⟩:=YH he
 obtain⟨w,ew,R7⟩:=r.get h2
 have hl:=r.length
 have hn:=Ld
 have fin:EP X pins σ Q w s:=⟨z,H,I,R7,q⟩
 exact subscriptTail_builtinR (x:=w) pl.typeIs slot_tuple_getitem.lookup
  (getItem_tuple (j:=j) (Q:=λr s'=>r=w/\EP X pins σ Q r s') pl (by omega) (by omega) (by rw[size_toArray,<-hl];exact h1) (by simpa using ew) ⟨rfl,fin⟩) hs
theorem zO4(its:List Value)(n j:Nat)(u:Value):abz (·.setIfInBounds j u) { cls:=.type "list",data:=.seq its.toArray n }={ cls:=.type "list",data:=.seq (its.set j u).toArray n }:=by
 simp[abz]
theorem Inv.lst(I:Inv X pins σ H s)(h:H p=some (.lst xs)) :
  ∃(its:List Value)(n:Nat),Vals xs its/\s.heap.get? p=some { cls:=.type "list",data:=.seq its.toArray n }/\xs.length<=sizeLine:=by
 obtain⟨z,its,n,r,e⟩:=I.hok p _ h
 exact⟨its,n,r,e,z⟩
theorem Inv.Lq{its its':List Value}(I:Inv X pins σ H s)(h:H p=some (.lst xs))(ho:s.heap.get? p=some { cls:=.type "list",data:=.seq its.toArray n })(hf:f { cls:=.type "list",data:=.seq its.toArray n }={ cls:=.type "list",data:=.seq its'.toArray n' })(r:Vals ys its')(hz:ys.length<=sizeLine)(t:Nat) :
  Inv X pins σ (upd H p (.lst ys)) { s with heap:=s.heap.update p f,toks:=t }:=by
 have e:(s.heap.update p f).get? p=some { cls:=.type "list",data:=.seq its'.toArray n' }:=by
  rw[get?_update_self f ho (by rw[hf]<;>rfl),hf]
 refine I.write (x:=p) (e:=p) (by rw[h];trivial) (.inl rfl) (λb u hb q=>(get?_update_other _ _ (abv hb)).trans q) ⟨_,e⟩ ?_
 exact⟨hz,its',n',r,e⟩
def BW:V->V->V->Hp->(Hp->Prop)->Prop:=λo i v H Q=>∃p xs k j,o=.ref p/\i=.int k/\H p=some (.lst xs)/\rA xs.length k=some j/\Q (upd H p (.lst (xs.set j v)))
theorem R8:KQ X BW:=by
 intro pins s σ H o i v ov iv u Q I ro ri rv h
 obtain⟨p,xs,k,j,rfl,rfl,hp,hj,q⟩:=h
 cases ro
 obtain⟨t,rfl⟩:=ri
 obtain⟨its,n,r,ho,hz⟩:=I.lst hp
 obtain⟨h1,h2,h3,h4⟩:=zR3 hj
 have hl:=r.length
 have hn:=Ld
 have I':Inv X pins σ (upd H p (.lst (xs.set j v))) { s with heap:=s.heap.update p (abz (·.setIfInBounds j u)) } :=
  I.Lq hp ho (zO4 its n j u) (r.set rv j) (by rw[length_set];exact hz) s.toks
 by_cases h0:0<=k
 ·have hk:k.toNat=j:=by
   rw[afa h0 h4] at h1
   exact aa3 h1
  exact PySem.W.ki_setAt ho h0 (by omega) (by rw[size_toArray,<-hl];exact h4) (by rw[hk];exact⟨_,I',q⟩)
 ·have hk:(k+(its.toArray.size:Int)).toNat=j:=by
   rw[afr (by omega) h3] at h1
   rw[size_toArray,<-hl]
   exact aa3 h1
  exact PySem.W.ki_setBack ho (by omega) (by rw[size_toArray,<-hl];exact h3) (by omega) (by rw[hk];exact⟨_,I',q⟩)
theorem zI9(lo hi:Option Int)(n:Nat):(sliceBounds lo hi none n).1=((HT.pH n 0 lo:Nat):Int)/\(sliceBounds lo hi none n).2.1=((HT.pH n n hi:Nat):Int)/\(sliceBounds lo hi none n).2.2=1:=by
 refine⟨?_,?_,rfl⟩
 ·cases lo with
  |none=>simp[sliceBounds,HT.pH]
  |some i =>
   simp only[sliceBounds,HT.pH,Option.getD_none,show(1:Int) > 0 by decide,if_true]
   by_cases h:i<0
   ·simp only[h,if_true]<;>omega
   ·simp only[h,if_false]<;>omega
 ·cases hi with
  |none=>simp[sliceBounds,HT.pH]
  |some i =>
   simp only[sliceBounds,HT.pH,Option.getD_none,show(1:Int) > 0 by decide,if_true]
   by_cases h:i<0
   ·simp only[h,if_true]<;>omega
   ·simp only[h,if_false]<;>omega
theorem zHt(its:List Value)(lo hi:Option Int):slicePick its.toArray lo hi none=((its.drop (HT.pH its.length 0 lo)).take (HT.pH its.length its.length hi-HT.pH its.length 0 lo)).toArray:=by
 obtain⟨h1,h2,h3⟩:=zI9 lo hi its.toArray.size
 unfold slicePick
 rw[h1,h2,h3]
 simp only[sliceRange_one,pick_run,size_toArray]<;>rfl
def Lr(K:PySem.W.Frag):V->Option Int->Option Int->Hp->VK->Prop:=λx lo hi H Q=>∃a xs,x=.ref a/\bx K H a xs/\∀p,H p=none->Q (.ref p) (upd H p (.lst (yu xs lo hi)))
theorem Gg:Wd X (Lr X.K):=by
 intro pins s σ H x v vl vu lo hi sl Q I rx hs pl pu h
 obtain⟨a,xs,rfl,hx,q⟩:=h
 cases rx
 obtain⟨its,r,ht,hz⟩:=I.list hx
 have hlen:=r.length
 refine⟨"list",_,slot_list_getitem.lookup,ht.isList.typeIs,?_⟩
 refine wpAny_getItem_list_slice ht.isList hs pl pu .none (by simp) ?_ (by rw[size_toArray]<;>omega)
 rw[zHt,<-hlen]
 refine⟨.ref s.heap.objs.size,_,I.laid (t':=s.toks) (o:=.lst (yu xs lo hi)) (λb ob q=>get?_push_of_some _ q) (aav _) ?_,rfl,q _ (I.hok.fresh (aav _))⟩
 exact⟨aa4 (zMa xs lo hi) hz,_,0,(r.drop (HT.pH xs.length 0 lo)).take (HT.pH xs.length xs.length hi-HT.pH xs.length 0 lo),get?_push_size _ rfl⟩
def Ek:V->Bool
 |.non=>true
 |.bl _=>true
 |.int _=>true
 |.str _=>true
 |_=>false
def Gh:V->V->Bool
 |.non,.non=>true
 |.bl a,.bl b=>a==b
 |.bl a,.int b=>(if a then 1 else 0)==b
 |.int a,.bl b=>a==(if b then 1 else 0)
 |.int a,.int b=>a==b
 |.str a,.str b=>a==b
 |_,_=>false
theorem Ls(ry:RelV y u)(rx:RelV x v)(fy:Ek y=true)(fx:Ek x=true):SeqAt.EqAt A s u v (Gh y x):=by
 cases y with
 |non =>
  cases ry
  cases x with
  |non=>cases rx;exact SeqAt.EqAt.same _
  |bl b=>cases rx;exact SeqAt.EqAt.none_bool b
  |int b=>obtain⟨t,rfl⟩:=rx;exact SeqAt.EqAt.none_int b t
  |str b=>obtain⟨t,rfl⟩:=rx;exact SeqAt.EqAt.none_str b t
  |_=>exact absurd (show false=true from fx) aau
 |bl a =>
  cases ry
  cases x with
  |non=>cases rx;exact SeqAt.EqAt.bool_none a
  |bl b=>cases rx;exact SeqAt.EqAt.bool_bool a b
  |int b=>obtain⟨t,rfl⟩:=rx;exact SeqAt.EqAt.bool_int a b t
  |str b=>obtain⟨t,rfl⟩:=rx;exact SeqAt.EqAt.bool_str a b t
  |_=>exact absurd (show false=true from fx) aau
 |int a =>
  obtain⟨t',rfl⟩:=ry
  cases x with
  |non=>cases rx;exact SeqAt.EqAt.int_none a t'
  |bl b=>cases rx;exact SeqAt.EqAt.int_bool a t' b
  |int b=>obtain⟨t,rfl⟩:=rx;exact SeqAt.EqAt.int_int a t' b t
  |str b=>obtain⟨t,rfl⟩:=rx;exact SeqAt.EqAt.int_str a t' b t
  |_=>exact absurd (show false=true from fx) aau
 |str a =>
  obtain⟨t',rfl⟩:=ry
  cases x with
  |non=>cases rx;exact SeqAt.EqAt.str_none a t'
  |bl b=>cases rx;exact SeqAt.EqAt.str_bool a t' b
  |int b=>obtain⟨t,rfl⟩:=rx;exact SeqAt.EqAt.str_int a t' b t
  |str b=>obtain⟨t,rfl⟩:=rx;exact SeqAt.EqAt.str_str a t' b t
  |_=>exact absurd (show false=true from fx) aau
 |_=>exact absurd (show false=true from fy) aau
def sX(x:V)(u:Value):Bool:=match u with
 |.none=>Gh .non x
 |.bool b=>Gh (.bl b) x
 |.int i _=>Gh (.int i) x
 |.str z _=>Gh (.str z) x
 |_=>false
theorem zWr(r:RelV y u)(f:Ek y=true):sX x u=Gh y x:=by
 cases y with
 |non=>cases r;rfl
 |bl b=>cases r;rfl
 |int i=>obtain⟨t,rfl⟩:=r;rfl
 |str z=>obtain⟨t,rfl⟩:=r;rfl
 |_=>exact absurd (show false=true from f) aau
theorem R9:∀{xs:List V}{us:List Value},Vals xs us->xs.all Ek=true->us.any (sX x)=xs.any λy=>Gh y x
 |_,_,.nil,_=>rfl
 |y::xs,u::us,.cons r t,f=>by
  rw[all_cons,aaz] at f
  rw[any_cons,any_cons,zWr r f.1,R9 t f.2]
theorem R_(rx:RelV x v)(fx:Ek x=true):∀{xs:List V}{us:List Value},Vals xs us->xs.all Ek=true->∀u∈us,SeqAt.EqAt A s u v (sX x u)
 |_,_,.nil,_=>λu hu=>by cases hu
 |y::xs,u::us,.cons r t,f=>λu' hu=>by
  rw[all_cons,aaz] at f
  rcases mem_cons.mp hu with rfl|hu
  ·rw[zWr r f.1];exact Ls r rx f.1 fx
  ·exact R_ rx fx t f.2 u' hu
def inV(x:V)(xs:List V):Bool:=xs.any λy=>Gh y x
def Jv(K:PySem.W.Frag)(neg:Bool):R2:=λx y H Q=>∃p xs,y=.ref p/\(bx K H p xs\/kO K H p xs)/\Ek x=true/\xs.all Ek=true/\Q (.bl (if neg then !inV x xs else inV x xs)) H
theorem zQ8:jr X (compareOp .In) (Jv X.K false):=by
 intro pins s σ H x y v u Q I rx ry h
 obtain⟨p,xs,rfl,hq,fx,fs,q⟩:=h
 cases ry
 rcases hq with hq|hq
 ·obtain⟨its,r,pl,hz⟩:=I.list hq
  refine SeqAt.in_listAt (sX x) pl.isList (λw hw=>R_ rx fx r fs w (by simpa using hw)) ⟨.bl _,H,I,rfl,?_⟩
  rw[show its.toArray.any (sX x)=its.any (sX x) by simp,R9 r fs]
  exact q
 ·obtain⟨its,r,pl,hz⟩:=I.tuple hq
  refine SeqAt.in_tupleAt (sX x) pl (λw hw=>R_ rx fx r fs w (by simpa using hw)) ⟨.bl _,H,I,rfl,?_⟩
  rw[show its.toArray.any (sX x)=its.any (sX x) by simp,R9 r fs]
  exact q
theorem zJm:jr X (compareOp .NotIn) (Jv X.K true):=by
 intro pins s σ H x y v u Q I rx ry h
 obtain⟨p,xs,rfl,hq,fx,fs,q⟩:=h
 cases ry
 rcases hq with hq|hq
 ·obtain⟨its,r,pl,hz⟩:=I.list hq
  refine SeqAt.notIn_listAt (sX x) pl.isList (λw hw=>R_ rx fx r fs w (by simpa using hw)) ⟨.bl _,H,I,rfl,?_⟩
  rw[show its.toArray.any (sX x)=its.any (sX x) by simp,R9 r fs]
  exact q
 ·obtain⟨its,r,pl,hz⟩:=I.tuple hq
  refine SeqAt.notIn_tupleAt (sX x) pl (λw hw=>R_ rx fx r fs w (by simpa using hw)) ⟨.bl _,H,I,rfl,?_⟩
  rw[show its.toArray.any (sX x)=its.any (sX x) by simp,R9 r fs]
  exact q
theorem zKp:sJ X (.builtin "len") (λxs H Q=>∃p ys,xs=[.ref p]/\(bx X.K H p ys\/kO X.K H p ys)/\Q (.int ys.length) H):=by
 intro pins s σ H xs us Q I r h
 obtain⟨p,ys,rfl,hq,q⟩:=h
 obtain⟨u,rfl,rx⟩:=Jr r
 cases rx
 have hn:=Ld
 rcases hq with hq|hq
 ·obtain⟨its,r',pl,hz⟩:=I.list hq
  have hlen:=r'.length
  exact Calls.call_len_list pl.isList (by simp only[size_toArray]<;>omega) ⟨.int ys.length,H,I.tok _,⟨s.toks+1,by rw[size_toArray,hlen]⟩,q⟩
 ·obtain⟨its,r',pl,hz⟩:=I.tuple hq
  have hlen:=r'.length
  exact len_tuple pl (by simp only[size_toArray]<;>omega) ⟨.int ys.length,H,I.tok _,⟨s.toks+1,by rw[size_toArray,hlen]⟩,q⟩
theorem zKo:sJ X (.type "list") (λxs H Q=>∃p ys,xs=[.ref p]/\(bx X.K H p ys\/kO X.K H p ys)/\∀l,H l=none->Q (.ref l) (upd H l (.lst ys))):=by
 intro pins s σ H xs us Q I r h
 obtain⟨p,ys,rfl,hq,q⟩:=h
 obtain⟨u,rfl,rx⟩:=Jr r
 cases rx
 have fin:∀(its:List Value),Vals ys its->ys.length<=sizeLine->∀(h':Heap)(c':Nat),(∀b o',s.heap.get? b=some o'->h'.get? b=some o') ->
   h'.get? s.heap.objs.size=some { cls:=.type "list",dict:=none,data:=.seq its.toArray c',slots:=#[] }->EP X pins σ Q (.ref s.heap.objs.size) { s with heap:=h' }:=λits r' hz h' c' kp e =>
  ⟨.ref s.heap.objs.size,_,I.laid (t':=s.toks) kp (aav _) (show bw X.prog X.w _ h' _ (.lst ys) from⟨hz,its,c',r',e⟩),rfl,q _ (I.hok.fresh (aav _))⟩
 rcases hq with hq|hq
 ·obtain⟨its,r',pl,hz⟩:=I.list hq
  have hlen:=r'.length
  obtain⟨o,ho,hc,n,hd⟩:=pl.isList
  exact call_list_seq p (.inl rfl) ho hc hd (λh' c' kp e=>fin its r' hz h' c' kp e) (by simp only[size_toArray]<;>omega)
 ·obtain⟨its,r',pl,hz⟩:=I.tuple hq
  have hlen:=r'.length
  obtain⟨o,ho,hc,n,hd⟩:=pl
  exact call_list_seq p (.inr rfl) ho hc hd (λh' c' kp e=>fin its r' hz h' c' kp e) (by simp only[size_toArray]<;>omega)
def YJ(K:PySem.W.Frag)(T:String)(x:V)(H:Hp):Prop:=match x with
 |.str _=>T = "str"
 |.int _=>T = "int"
 |.ref p=>(T = "list" /\ ∃xs,bx K H p xs)\/(T = "tuple" /\ ∃o,K.lookup p=some o/\o.cls=.type "tuple" /\ o.dict=none) \/
   (T = "dict" /\ ((∃kvs,H p=some (.dK kvs))\/∃kvs,H p=some (.dT kvs)))\/(T = "set" /\ ∃S n,H p=some (.set S n))
 |_=>False
theorem zV6(I:Inv X pins σ H s)(r:RelV x v)(ty:YJ X.K T x H) :
  s.TypeIs v T/\∀a,v=.ref a->∃ob,s.heap.get? a=some ob/\ob.dict=none:=by
 cases x with
 |str z =>
  obtain⟨t,rfl⟩:=r
  cases(show T = "str" from ty)
  exact⟨typeIs_str s z t,λ_ e=>nomatch e⟩
 |int i =>
  obtain⟨t,rfl⟩:=r
  cases(show T = "int" from ty)
  exact⟨typeIs_int s i t,λ_ e=>nomatch e⟩
 |ref p =>
  cases r
  rcases ty with⟨rfl,xs,hq⟩|⟨rfl,o,hk,hc,hd⟩|⟨rfl,hk⟩|⟨rfl,S,n,hk⟩
  ·obtain⟨its,_,pl,_⟩:=I.list hq
   refine⟨pl.isList.typeIs,λa e=>?_⟩
   cases e
   obtain⟨o,n,e,c,hd,_⟩:=pl
   exact⟨o,e,hd⟩
  ·refine⟨⟨o,I.jV p o hk,hc⟩,λa e=>?_⟩
   cases e
   exact⟨o,I.jV _ o hk,hd⟩
  ·have z:∃o,s.heap.get? p=some o/\o.ExactDict:=by
    rcases hk with⟨kvs,hk⟩|⟨kvs,hk⟩
    ·obtain⟨_,_,_,_,o,_,_,e,ex,_⟩:=I.hok p _ hk
     exact⟨o,e,ex⟩
    ·obtain⟨_,_,_,_,o,_,_,e,ex,_⟩:=I.hok p _ hk
     exact⟨o,e,ex⟩
   obtain⟨o,e,ex⟩:=z
   refine⟨⟨o,e,ex.1⟩,λa e2=>?_⟩
   cases e2
   exact⟨o,e,ex.2.1⟩
  ·obtain⟨o,_,_,_,e,ex,_⟩:=I.hok p _ hk
   refine⟨⟨o,e,ex.1⟩,λa e2=>?_⟩
   cases e2
   exact⟨o,e,ex.2.1⟩
 |_=>exact abq ty
def Lw(K:PySem.W.Frag)(T:String)(r:V->List V->Hp->VK->Prop)(to:TE):TE:=λσ H Q=>to σ H λx H1=>YJ K T x H1/\r x [] H1 Q
def Sd(K:PySem.W.Frag)(T:String)(r:V->List V->Hp->VK->Prop)(to:TE)(t:TA):TE:=λσ H Q=>to σ H λx H1=>YJ K T x H1/\t σ H1 λxs H2=>r x xs H2 Q
variable{o e:Expr}{es:List Expr}{to:TE}{t:TA}{name:Str}{apos cpos:Pos}{T id:String}{r:V->List V->Hp->VK->Prop}
theorem Ly(pa:PlainAttrs T)(slot:Slot T name id)(hty:typeOf (.builtin id)=pure (.type "method_descriptor"))(hm:MtR X id r)(ho:PE X o to)(hbase:attributeBase o name X.env (eval o X.env)=eval o X.env:=by rfl)(hline:(apos.endLine==cpos.line)=true:=by rfl):PE X (.Call (.Attribute o name apos) [] [] cpos) (Lw X.K T r to):=by
 intro pins s σ H Q I h
 refine wpAny_Call_method0_late hbase hline (aM (ho pins s σ H _ I h) λv s1 ⟨x,H1,I1,r1,ty,q1⟩=>?_)
 obtain⟨h1,h2⟩:=zV6 I1 r1 ty
 exact⟨T,id,pa,slot,hty,h1,h2,Calls.callWith_builtin rfl (PySem.evalArgs_none (hm pins s1 σ H1 x [] v [] Q I1 r1 .nil q1))⟩
theorem Jw(pa:PlainAttrs T)(slot:Slot T name id)(hty:typeOf (.builtin id)=pure (.type "method_descriptor"))(hm:MtR X id r)(ho:PE X o to)(ha:PA X (e::es) t)(hbase:attributeBase o name X.env (eval o X.env)=eval o X.env:=by rfl)(hfew:((backTo cpos (starEach (e::es) X.env)).all (λx=>!x.1)&&(backToKw cpos (keywordEach [] X.env)).all (λx=>x.1.isSome)
   && decide ((e::es).length+([]:List Keyword).length+(if([]:List Keyword).isEmpty then 0 else 1)<30))=true:=by rfl)(hline:(apos.endLine==cpos.line)=true:=by rfl)(hs:starEach (e::es) X.env=(false,eval e X.env)::starEach es X.env:=by rfl)(hplain:(backTo cpos (starEach es X.env)).any (·.1)=false:=by rfl) :
  PE X (.Call (.Attribute o name apos) (e::es) [] cpos) (Sd X.K T r to t):=by
 intro pins s σ H Q I h
 refine wpAny_Call_method_late hbase hfew hline rfl (aM (ho pins s σ H _ I h) λv s1 ⟨x,H1,I1,r1,ty,q1⟩=>?_)
 obtain⟨h1,h2⟩:=zV6 I1 r1 ty
 refine⟨T,id,pa,slot,hty,h1,h2,?_⟩
 have hA:=ha cpos pins s1 σ H1 _ I1 q1
 rw[hs] at hA ⊢
 refine Calls.callWith_builtin (by show(false||(backTo cpos (starEach es X.env)).any (·.1))=false;rw[hplain]<;>rfl) (Calls.evalArgs_plain ?_)
 exact aM hA λus s2 ⟨vs,H2,I2,r2,q2⟩=>hm pins s2 σ H2 x vs v us Q I2 r1 r2 q2
end
def Sh(X:Cx)(id:String)(r:V->List V->Hp->VK->Prop):Prop :=
 ∀(pins:List (Addr×Obj))(s:Shared)(σ:St)(H:Hp)(x:V)(xs:List V)(v:Value)(us:List Value)(Q:VK),Inv X pins σ H s->RelV x v->Vals xs us->r x xs H Q ->
  wpAny (model X.prog X.w) X.A (call (.builtin id) (v::us)) (EP X pins σ Q) X.xe s
theorem Vals.one:∀{x:V}{us:List Value},Vals [x] us->∃u,us=[u]/\RelV x u
 |_,_,.cons r .nil=>⟨_,rfl,r⟩
theorem Vals.two:∀{x y:V}{us:List Value},Vals [x,y] us->∃u v,us=[u,v]/\RelV x u/\RelV y v
 |_,_,_,.cons r (.cons q .nil)=>⟨_,_,rfl,r,q⟩
theorem Vals.zero:∀{us:List Value},Vals [] us->us=[]
 |_,.nil=>rfl
theorem Vals.dropLast(h:Vals xs us):Vals xs.dropLast us.dropLast:=by
 induction h with
 |nil=>exact .nil
 |cons r t ih =>
  cases t with
  |nil=>exact .nil
  |cons q t'=>exact .cons r ih
theorem Vals.eraseIdx:∀{xs:List V}{us:List Value}(i:Nat),Vals xs us->Vals (xs.eraseIdx i) (us.eraseIdx i)
 |_,_,_,.nil=>.nil
 |_,_,0,.cons _ t=>t
 |_,_,i+1,.cons r t=>.cons r (Vals.eraseIdx i t)
theorem Vals.reverse(h:Vals xs us):Vals xs.reverse us.reverse:=by
 induction h with
 |nil=>exact .nil
 |cons r t ih=>rw[List.reverse_cons,List.reverse_cons];exact Vals.append ih (.cons r .nil)
theorem zPk{α:Type}(l:List α):l.eraseIdx (l.length-1)=l.dropLast:=by
 induction l with
 |nil=>rfl
 |cons a r ih =>
  cases r with
  |nil=>rfl
  |cons b r =>
   have e:(a::b::r).length-1=((b::r).length-1)+1:=by
    have h1:(a::b::r).length=r.length+2:=rfl
    have h2:(b::r).length=r.length+1:=rfl
    omega
   rw[e,List.eraseIdx_cons_succ,ih]
   all_goals rfl
section
variable{X:Cx}{pins:List (Addr×Obj)}{σ:St}{H:Hp}{s:Shared}{l b:Addr}{xs ys zs:List V}
theorem Inv.Lz{its its':List Value}{f:Array Value->Array Value}(I:Inv X pins σ H s)(hH:H l=some (.lst xs))(e:s.heap.get? l=some { cls:=.type "list",data:=.seq its.toArray n })(hf:f its.toArray=its'.toArray)(hv:Vals ys its')(hz:ys.length<=sizeLine) :
  Inv X pins σ (upd H l (.lst ys)) { s with heap:=s.heap.update l (abz f),toks:=t' }:=by
 have q:=PySem.IsL.update e f
 rw[hf] at q
 refine I.write (x:=l) (e:=l) (by rw[hH];exact trivial) (.inl rfl) (λb' u hb hu=>(get?_update_other s.heap (abz f) (abv hb)).trans hu) ⟨_,q⟩ ?_
 exact⟨hz,its',_,hv,q⟩
theorem Inv.Gi(I:Inv X pins σ H s)(hH:H l=some (.lst xs)):xs.length<=sizeLine/\∃(its:List Value)(n:Nat),Vals xs its/\xs.length=its.length/\s.heap.get? l=some { cls:=.type "list",data:=.seq its.toArray n }:=by
 obtain⟨z,its,n,r,e⟩:=I.hok l _ hH
 exact⟨z,its,n,r,r.length,e⟩
theorem zUx(h:n<=sizeLine):ad3 n=false:=by
 unfold ad3
 exact decide_eq_false (by omega)
end
section
variable{X:Cx}
def zQv:V->List V->Hp->VK->Prop:=λx vs H Q=>∃l xs y,x=.ref l/\vs=[y]/\H l=some (.lst xs)/\xs.length<sizeLine/\Q .non (upd H l (.lst (xs++[y])))
theorem wE:Sh X "list.append" zQv:=by
 intro pins s σ H x vs v us Q I rx rv h
 obtain⟨l,xs,y,rfl,rfl,hH,hz,q⟩:=h
 cases rx
 obtain⟨u,rfl,ru⟩:=rv.one
 obtain⟨z,its,n,r,hl,e⟩:=I.Gi hH
 refine afl F.slot_list_append ⟨_,e,rfl⟩ F.entry_list_append (F.args_list_append_2 _ _) (PySem.list_append l its.toArray n u (by rw[size_toArray];omega)) ⟨e,?_⟩
 refine⟨.non,_,I.Lz (its':=its++[u]) hH e (by simp) (r.append (.cons ru .nil)) ?_,rfl,q⟩
 rw[length_append,length_singleton]
 omega
def YK:V->List V->Hp->VK->Prop:=λx vs H Q=>∃l b xs zs,x=.ref l/\vs=[.ref b]/\H l=some (.lst xs)/\H b=some (.lst zs)/\xs.length+zs.length<=sizeLine/\Q .non (upd H l (.lst (xs++zs)))
theorem zJy:Sh X "list.extend" YK:=by
 intro pins s σ H x vs v us Q I rx rv h
 obtain⟨l,b,xs,zs,rfl,rfl,hH,hB,hz,q⟩:=h
 cases rx
 obtain⟨u,rfl,ru⟩:=rv.one
 cases ru
 obtain⟨z,its,n,r,hl,e⟩:=I.Gi hH
 obtain⟨z2,its2,n2,r2,hl2,e2⟩:=I.Gi hB
 have hsz:its.toArray.size+its2.toArray.size<=sizeLine:=by rw[size_toArray,size_toArray];omega
 have Sq:¬(!its.toArray.isEmpty&&ad3 (its.toArray.size+its2.toArray.size))=true:=by
  rw[zUx hsz,ae6]
  exact aau
 refine afl F.slot_list_extend ⟨_,e,rfl⟩ F.entry_list_extend (F.args_list_extend_2 _ _)
  (AutoSeq1.list_extend_list_list_0 l its.toArray n b its2.toArray n2 Sq (by rw[size_toArray];omega) (by omega)) ⟨e,e2,?_⟩
 refine⟨.non,_,I.Lz (its':=its++its2) hH e (by simp) (r.append r2) ?_,rfl,q⟩
 rw[length_append]
 omega
def Ss:V->List V->Hp->VK->Prop:=λx vs H Q=>∃l xs y,x=.ref l/\vs=[]/\H l=some (.lst xs)/\xs[xs.length-1]?=some y/\Q y (upd H l (.lst xs.dropLast))
theorem LC:Sh X "list.pop" Ss:=by
 intro pins s σ H x vs v us Q I rx rv h
 obtain⟨l,xs,y,rfl,rfl,hH,hy,q⟩:=h
 cases rx
 have hus:=rv.zero
 subst hus
 obtain⟨z,its,n,r,hl,e⟩:=I.Gi hH
 obtain⟨u,hu,ru⟩:=r.get hy
 have hy':its.toArray[its.toArray.size-1]?=some u:=by
  show its.toArray[its.length-1]?=some u
  rw[<-getElem?_toList,<-hl]
  exact hu
 refine afl F.slot_list_pop ⟨_,e,rfl⟩ F.entry_list_pop (F.args_list_pop_1 _) (MeetsSeq.list_pop_last l its.toArray n u hy' (by rw[size_toArray];omega)) ⟨e,?_⟩
 refine⟨y,_,I.Lz (its':=its.dropLast) hH e ?_ r.dropLast ?_,ru,q⟩
 ·show its.toArray.eraseIdxIfInBounds (its.toArray.size-1)=its.dropLast.toArray
  rw[size_toArray,List.eraseIdxIfInBounds_toArray,zPk]
 ·rw[List.length_dropLast]
  omega
end
section
variable{prog:Program}{w:World}{A:Around}{E:Value->Shared->Prop}{s:Shared}
end
section
variable{X:Cx}
end
end L2
namespace Att
open PySem PySem.W PySem.Calls PyProof.Rows
theorem zFn:∀(ns:LI)(vs:List Value),WellAll P h vs (ns.map WData.int)->IntsAre vs ns:=by
 intro ns
 induction ns with
 |nil =>
  intro vs w
  rw[map_nil] at w
  cases w
  exact .nil
 |cons n ns ih =>
  intro vs w
  rw[map_cons] at w
  cases w with
  |cons a b =>
   cases a
   exact .cons _ _ (ih _ b)
theorem zQn{l:OpenLaw}(hn:l.most=some n)(hpre:l.row.toRowW.claim.pre args=true)(hwl:WellAll P h vals args) :
  ∃a vs ns,vals=[abj a]/\args=[WData.list (ns.map WData.int)]/\h.get? a=some { cls:=.type "list",data:=.seq vs.toArray }/\IntsAre vs ns/\ns.length<=n:=by
 have hsh:WShape.hasAll [] args [.list .int]=true:=(pre_splitW hpre).1
 have hc:l.pre.holds [] { args:=args }=true:=(pre_splitW hpre).2
 obtain⟨d,r,rfl,h1,h2⟩:=hasAllW_cons hsh
 obtain rfl:=hasAllW_nil h2
 obtain⟨xs,rfl,h3⟩:=hasW_list h1
 obtain⟨ns,rfl⟩:=items_int h3
 have hlen:ns.length<=n:=by
  unfold OpenLaw.pre at hc
  have h4:(WTm.not (.lt (.lit (.int (n:Int))) (.len (.arg 0)))).holds [] { args:=[.list (ns.map .int)] }=true:=by
   have h4:=(holds_andW hc).1
   rw[hn] at h4
   exact h4
  have h5:=condW_of h4 (w_not (w_lt w_lit (w_len_list (w_arg rfl))))
  rw[length_map] at h5
  refine Nat.le_of_not_lt λq=>?_
  have q':(n:Int)<((ns.length:Nat):Int):=by omega
  first
   | (rw[decide_eq_true q'] at h5;exact absurd h5 (by decide))
   | (simp at h5;omega)
 cases hwl with
 |cons w1 w2 =>
  cases w2
  cases w1 with
  |list ho hall=>exact⟨_,_,ns,rfl,rfl,ho,zFn ns _ hall,hlen⟩
theorem zQx(l:OpenLaw)(args:List WData):l.row.toRowW.claim.post args (.bool true) args=true :=
 postW_of (r:=l.row.toRowW) (X:=(true==true))
  (show WShape.has [] (.bool true) .bool=true by first|rfl|decide|simp[WShape.has,WShape.arms,WShape.armsAll])
  (show(WTm.eq .res (.lit (.bool true))).value [] { args:=args,res:=some (.bool true),after:=args }=some (.bool (true==true)) from w_eq_bool (w_res rfl) w_lit) rfl
theorem rB{l:OpenLaw}{YP:World->Heap->Prop}{d:DefRec}(hn:l.most=some n)(hdf:d.params.defaults=[])(call:∀(w:World) (s₀ s₁:Shared) (mg mb:Str->Option Value) (fa:Addr) (o:Obj) (pm cd doc:Value) (a:Addr) (vs:List Value) (ns:LI),
   Ground q loose [] XP w s₀ mg mb s₁.heap->YP w s₁.heap ->
   s₁.heap.get? fa=some o->o.data=.func (docDef d.name d.params d.body d.scope pm cd doc)->s₁.heap.CodeRec cd d.name->mg d.name=some (.ref fa) ->
   s₁.heap.get? a=some { cls:=.type "list",data:=.seq vs.toArray }->IntsAre vs ns->ns.length<=n->s₁.gens=#[] ->
   codeAny (model l.prog w) callerA (.call (.ref fa) ⟨[.ref a],[]⟩) (λr s'=>r=.ok (.ret (.bool true))/\OldK s₁.heap s'.heap/\s'.os=s₁.os/\AllBare s'.gens) s₁) :
  WalkO q loose XP YP l.row.toRowW d [] (λf vs=>PySem.call f vs):=by
 intro w s₀ s₁ mg mb G Y fa o pm cd doc dV kV ho hd hcd hD hmg hg args vals as hpre hlay hrd hwl hlo
 obtain rfl:dV=.none:=Dflts.none hD hdf
 obtain rfl:kV=.none:=Dflts.noKw hD
 obtain⟨a,vs,ns,rfl,rfl,hobj,hints,hlen⟩:=zQn hn hpre hwl
 refine enter_call (adw (call w s₀ s₁ mg mb fa o pm cd doc a vs ns G Y ho (fd_plain hd) hcd hmg hobj hints hlen hg) λr s' hq=>?_)
 obtain⟨rfl,h2,h3,h4⟩:=hq
 exact⟨.inl ⟨.bool true,.bool true,[],rfl,λ_=>rfl,.bool true,zQx l _,λ_=>⟨Pairwise.nil,λ_ hm=>(nomatch hm)⟩⟩,h2,h3,h4⟩
section
variable{prog:Program}{w:World}{A:Around}{E:Value->Shared->Prop}{s:Shared}{K:Frag}
end
end Att
namespace L2
open PySem PySem.Spec PyProof.Rows
theorem zI2:∀{vs:List Value}{ns:LI},IntsAre vs ns->Vals (ns.map V.int) vs
 |_,_,.nil=>.nil
 |_,_,.cons n t h=>.cons ⟨t,rfl⟩ (zI2 h)
def Only(H:Hp):Prop:=∀b,H b=none\/∃o xs,H b=some (.vh o (.lst xs))
theorem zU6{K:PySem.W.Frag}{s₁:Shared}{vs:List Value}(KX:K.In s₁.heap)(hns:s₁.heap.Ns abg mg)(hb:s₁.heap.Ns builtinsNs mb)(hbb:∀x:Str,x ≠ "__name__"->mb x=bootBuiltins x)(hlim:s₁.heap.NoLimit)(hg:s₁.gens=#[])(ha:s₁.heap.get? a=some { cls:=.type "list",data:=.seq vs.toArray })(hi:IntsAre vs ns)(hl:ns.length<=sizeLine)(hr:bT k callerA)(F:∀base:Heap,K.In base->base.Ns abg mg->aq P w K mg base CX k fa fd [x] sp)(hbind:∀(s:Shared) (u:Value),BindsTo s fd ⟨[u],[]⟩ [(x,u)])(hsp:∀H:Hp,Only H->bx K H a (ns.map V.int)->sp [.ref a] H (λv _=>v=.bl true) λ_ _ _=>False)(YL:∀H e s',CX [] H s₁ (λ_ _ _=>False) e s'->False) :
  codeAny (model P w) callerA (.call (.ref fa) ⟨[.ref a],[]⟩) (λr s'=>r=.ok (.ret (.bool true))/\OldK s₁.heap s'.heap/\s'.os=s₁.os/\AllBare s'.gens) s₁:=by
 have rv:=zI2 hi
 have lenV:=hi.length
 have core:∀H:Hp,Only H->bx K H a (ns.map V.int)->h_ P w H s₁.heap->(∀b,H b≠none->b=a)->(H a≠none->K.lookup a=none) ->
   codeAny (model P w) callerA (.call (.ref fa) ⟨[.ref a],[]⟩) (λr s'=>r=.ok (.ret (.bool true))/\OldK s₁.heap s'.heap/\s'.os=s₁.os/\AllBare s'.gens) s₁:=by
  intro H hO hS hok hA hK
  have vo:∀{b:Addr}{o:Obj},s₁.heap.get? b=some o->H b=none->(p7 s₁.heap H).get? b=some o:=λe n=>zVe e n
  have RX:∀{b:Addr}{o:Obj}{es:Array DictEntry}{ep:Nat},s₁.heap.get? b=some o->o.data=.dict es ep->H b=none:=λ{b o es ep} e d=>by
   cases q:H b with
   |none=>rfl
   |some u =>
    have e':b=a:=hA b (by rw[q];simp)
    subst e'
    rw[ha] at e;cases e
    have d':Data.seq vs.toArray _=Data.dict es ep:=d
    cases d'
  have Wf:∀{b:Addr}{m:Str->Option Value},s₁.heap.Ns b m->(p7 s₁.heap H).Ns b m:=λ{b m} ⟨o,es,ep,e,d,r⟩=>⟨o,es,ep,vo e (RX e d),d,r⟩
  have hKb:K.In (p7 s₁.heap H):=λb o e=>vo (KX b o e) (by
   cases q:H b with
   |none=>rfl
   |some u =>
    have e':b=a:=hA b (by rw[q];simp)
    subst e'
    rw[hK (by rw[q];simp)] at e;cases e)
  have hM:Mod K mg (p7 s₁.heap H):=⟨hKb,Wf hns,⟨mb,Wf hb,hbb⟩,let⟨mc,h1,h2⟩:=hlim;⟨mc,Wf h1,h2⟩⟩
  have e0:sV P w K mg (p7 s₁.heap H) callerA [] s₁ H:=⟨rfl,hM,λb o e=>Fg e,Nat.le_of_eq (zR8 _ _),trivial,λb hb=>absurd (show b∈([]:List Addr) from hb) (by simp),hok,.of_eq hg⟩
  refine adw ((F _ hKb (Wf hns)).run callerA [] s₁ H ⟨[.ref a],[]⟩ [.ref a] [.ref a] _ _ hr e0 (hbind s₁ (.ref a)) (.cons rfl .nil) (hsp H hO hS)) λr s' h=>?_
  cases r with
  |error e=>exact(YL H e s' h).elim
  |ok fl =>
   cases fl with
   |next=>exact abq h
   |brk=>exact abq h
   |cont=>exact abq h
   |ret u =>
    obtain⟨v,H',os,bare,un,hok',r',q⟩:=h
    have q':v=.bl true:=q
    subst q'
    obtain rfl:u=afk true:=r'
    refine⟨rfl,OldK.of_keep λb o e=>?_,os,bare⟩
    cases q:H b with
    |none=>exact un.keep b o e q (by intro z;exact absurd (show b∈([]:List Addr) from z) (by simp)) (by simp)
    |some u =>
     rcases hO b with z|⟨ob,xs,z⟩
     ·rw[q] at z;cases z
     ·have z2:=un.mJ b ob _ z
      obtain⟨e1,_⟩:=hok b _ z
      obtain⟨e2,_⟩:=hok' b _ z2
      rw[e] at e1;cases e1
      exact e2
 cases hk:K.lookup a with
 |some o =>
  have e:=KX a o hk
  rw[ha] at e
  cases e
  refine core (λ_=>none) (λ_=>.inl rfl) (.inr ⟨_,vs.toArray,_,hk,rfl,rfl,rfl,by rw[size_toArray,lenV];exact hl,by simpa using rv⟩) (λb u z=>by have z':(none:Option HO)=some u:=z;cases z') (λb z=>absurd rfl z) λz=>absurd rfl z
 |none =>
  refine core (λb=>if b=a then some (.vh { cls:=.type "list",data:=.seq vs.toArray } (.lst (ns.map V.int))) else none) (λb=>?_) (.inl (.inr ⟨{ cls:=.type "list",data:=.seq vs.toArray },if_pos rfl⟩)) (λb u z=>?_) (λb z=>?_) λ_=>hk
  ·by_cases hb:b=a
   ·exact .inr ⟨_,_,if_pos hb⟩
   ·exact .inl (if_neg hb)
  ·by_cases hb:b=a
   ·have z':=(if_pos hb).symm.trans z
    cases z'
    subst hb
    exact⟨ha,by rw[length_map];exact hl,vs,_,rv,ha⟩
   ·have z':=(if_neg hb).symm.trans z
    cases z'
  ·by_cases hb:b=a
   ·exact hb
   ·exact absurd (if_neg hb) z
theorem Gj{l:PySem.W.OpenLaw}{YP:World->Heap->Prop}{d:DefRec}{K:Params->PySem.W.Frag}{CX:World->yr}{sp:World->Sp}(hn:l.most=some n)(hn2:n<=sizeLine)(hdf:d.params.defaults=[])(hr:bT k callerA)(hY:∀(w:World) (h:Heap),YP w h->(K w.params).In h)(F:∀(w:World) (mg:Str->Option Value) (fa:Addr) (h:Heap),(K w.params).In h->h.Ns abg mg->mg d.name=some (.ref fa) ->
   ∃fd:FuncData,(∀(s:Shared) (u:Value),BindsTo s fd ⟨[u],[]⟩ [(x,u)]) /\
    ∀base:Heap,(K w.params).In base->base.Ns abg mg->aq l.prog w (K w.params) mg base (CX w) k fa fd [x] (sp w))(hsp:∀(w:World) (H:Hp) (a:Addr) (ns:LI),ns.length<=n->Only H->bx (K w.params) H a (ns.map V.int)->sp w [.ref a] H (λv _=>v=.bl true) λ_ _ _=>False)(YL:∀(w:World) (H:Hp) (s:Shared) (e:Value) (s':Shared),CX w [] H s (λ_ _ _=>False) e s'->False) :
  PySem.W.WalkO q loose XP YP l.row.toRowW d [] (λf vs=>PySem.call f vs):=by
 refine Att.rB hn hdf λw s₀ s₁ mg mb fa o pm cd doc a vs ns G Y ho hd hcd hmg hobj hints hlen hg=>?_
 have KX:=hY w _ Y
 obtain⟨fd,hb,hF⟩:=F w mg fa _ KX G.T.g hmg
 exact zU6 KX G.T.g G.T.b G.T.builtins G.T.nolimit hg hobj hints (aa4 hlen hn2) hr hF hb (λH hO hS=>hsp w H a ns hlen hO hS) λH e s'=>YL w H s₁ e s'
def xT(s:Stmt)(j:Nat):Stmt:=match s with
 |.ClassDef _ _ _ body _ _ _ _ _ _ _=>body.getD j (.Pass ⟨0,0,0,0⟩)
 |_=>.Pass ⟨0,0,0,0⟩
def uA(s:Stmt):Arguments:=match s with
 |.FunctionDef _ a _ _ _ _ _ _ _ _=>a
 |_=>{ posonlyargs:=[],args:=[],vararg:=none,kwonlyargs:=[],kw_defaults:=[],kwarg:=none,defaults:=[] }
def wQ(s:Stmt):List Stmt:=match s with
 |.FunctionDef _ _ b _ _ _ _ _ _ _=>b
 |_=>[]
def zJ(s:Stmt):Scope:=match s with
 |.FunctionDef _ _ _ _ _ _ sc _ _ _=>sc
 |_=>{ kind:=.function,names:=[],isGenerator:=false,isCoroutine:=false }
abbrev aP:yr:=λ_ _ _ _ _ _=>False
abbrev E0:XK:=λ_ _ _=>False
theorem vR:FT aP X E0:=λ_ _ _ _ _ _ _ h=>h.elim
structure aW(K:PySem.W.Frag)(x qual:Str)(st:Stmt)(f:Addr)(fd:FuncData):Prop where
 ex:∃(oc:Value)(od:Option Addr)(kV doc pm:Value)(an:Option Addr)(cdv ct:Value)(osl:Array (Option Value)),
  fd=fnOf x qual (uA st) (wQ st) (zJ st) .none kV doc pm an cdv ct/\K.lookup f=some ⟨oc,od,.func fd,osl⟩/\codeIn K cdv qual=true
 kp:keepIn K (.ref f)=true
section
variable{P:Program}{w:World}{K:PySem.W.Frag}{mg:Str->Option Value}{base:Heap}
theorem aW.ok{x qual:Str}{st:Stmt}{f:Addr}{fd:FuncData}{N ps:List Str}{k:Nat}{sp:Sp}(F:aW K x qual st f fd)(S:ak N ps (zJ st))(len:∀vs H Q E,sp vs H Q E->vs.length=ps.length)(hbody:∀(cdv:Value) (A:Around) (outer:List Env) (s:Shared) (H:Hp) (vs:List V) (Q:VK) (E:XK),bT k (A.deeper (envOfC qual (zJ st) s.heap.objs.size f cdv))->sp vs H Q E ->
   ∃t,qZ (qd aP P w K mg base N qual (zJ st) f cdv A outer s H E).Jl (wQ st) t/\t { nx:=λ_ H'=>Q .non H',rt:=Q } (start N vs) H):aq P w K mg base aP (k+1) f fd ps sp:=by
 obtain⟨oc,od,kV,doc,pm,an,cdv,ct,osl,rfl,lk,hcd⟩:=F.ex
 refine Js lk hcd S len λA outer s H vs Q E hr hsp=>?_
 obtain⟨t,h,q⟩:=hbody cdv A outer s H vs Q E hr hsp
 exact⟨t,h.Jl,q⟩
theorem aW.binds{x qual:Str}{st:Stmt}{f:Addr}{fd:FuncData}{ps:List Str}(F:aW K x qual st f fd)(h:∀(kV doc pm:Value) (an:Option Addr) (cdv ct:Value) (us:List Value),us.length=ps.length->bindArgs (fnOf x qual (uA st) (wQ st) (zJ st) .none kV doc pm an cdv ct) ⟨us,[]⟩=pure (ps.zip us)):Binds K fd ps []:=by
 obtain⟨oc,od,kV,doc,pm,an,cdv,ct,osl,rfl,lk,hcd⟩:=F.ex
 exact .all (h kV doc pm an cdv ct)
theorem mO{x qual:Str}{st:Stmt}{f:Addr}{oc:Value}{od an:Option Addr}{osl:Array (Option Value)}{kV doc pm cdv ct:Value}(l:K.lookup f=some ⟨oc,od,.func (fnOf x qual (uA st) (wQ st) (zJ st) .none kV doc pm an cdv ct),osl⟩)(c:codeIn K cdv qual=true)(k:keepIn K (.ref f)=true):aW K x qual st f (fnOf x qual (uA st) (wQ st) (zJ st) .none kV doc pm an cdv ct):=⟨⟨oc,od,kV,doc,pm,an,cdv,ct,osl,rfl,l,c⟩,k⟩
end
theorem Sv(hr:bT k A):A.units+1<cLine:=aa5 (Nat.add_le_add_left (by decide:1<=64) _) hr.units
theorem zI7(h:n<=1000):n<sizeLine:=aa5 h (by decide)
section
variable{X:Cx}
theorem pv(i:Nat)(hN:X.N[i]?=some x:=by rfl)(hv:Rr X.env.scope x:=by first|exact Or.inl rfl|exact Or.inr (Or.inl rfl)|exact Or.inr (Or.inr rfl))(hd:(x==("__debug__":Str))=false:=by decide)(hcd:(x==("__classdict__":Str))=false:=by decide):PE X (.Name x pos) (fY i):=KJ hN hv hd hcd
end
theorem oZ{A B:Prop}(h:B):if false=true then A else B:=by
 rw[if_neg aau]
 exact h
theorem o_{A B:Prop}(h:A):if true=true then A else B:=by
 rw[if_pos rfl]
 exact h
def Same(H H':Hp):Prop:=∀b o,H b=some o->H' b=some o
theorem Same.refl(H:Hp):Same H H:=λ_ _ h=>h
theorem Same.trans(a:Same H H1)(b:Same H1 H2):Same H H2:=λc o h=>b c o (a c o h)
theorem Same.free(e:Same H H')(h:H' l=ae8):H l=ae8:=by
 cases q:H l with
 |none=>rfl
 |some o =>
  rw[e l o q] at h
  cases h
theorem Same.seq{K:PySem.W.Frag}{H H':Hp}{a:Addr}{xs:List V}(e:Same H H')(h:bx K H a xs):bx K H' a xs:=by
 rcases h with(h|⟨o,h⟩)|h
 ·exact .inl (.inl (e _ _ h))
 ·exact .inl (.inr ⟨o,e _ _ h⟩)
 ·exact .inr h
section
variable{κ:Type}[DecidableEq κ]
end
open PySem
section
variable{prog:Program}{w:World}{A:Around}{R:Result->Shared->Prop}{s:Shared}
theorem uF{α:Type}{t:Sem α}{Q Q':α->Shared->Prop}(h:wpAny M A t Q (λ_ _=>False) s)(hQ:∀a s,Q a s->Q' a s):wpAny M A t Q' (notedBy M A env E) s :=
 acn h hQ λ_ _ z=>z.elim
theorem zKn(I:Nat->Shared->Prop)(turn:∀n s,I n s->wpAny (model prog w) A (pyNext it) (λr s₁=>match r with
   |none=>R (.ok .next) s₁
   |some v=>wpAny (model prog w) A (letOwnedTupleGo target it v) (λ_ s₂=>wpAny (model prog w) A (assign target env v) (λ_ s₃ =>
     wpAny (model prog w) A (forIn ifs true λc r=>if r=true then do let ok <-isTrue c env (eval c env);pure (acu ok) else pure (acu r)) (λok s₄ =>
      if ok=true then wpAny (model prog w) A (eval elt env) (λx s₅ =>
       wpAny (model prog w) A (call (.builtin "list.append") [acc,x]) (λ_ s₆=>∃m,m<n/\I m s₆) (λ_ _=>False) s₅) (λ_ _=>False) s₄
      else∃m,m<n/\I m s₄) (λ_ _=>False) s₃) (λ_ _=>False) s₂) (λ_ _=>False) s₁) (λ_ _=>False) s)(n:Nat)(h:I n s):codeAny (model prog w) A (.compLoop (.ListComp elt [⟨target,iter,ifs,0⟩] scope pos) 0 it acc env) R s:=by
 refine codeAny_loop rfl I (λn s hI=>?_) n h
 show wpAny _ A ((compTurn (.ListComp elt [⟨target,iter,ifs,0⟩] scope pos) 0 it acc env).onRaise (λx=>do noteFrame x env;theTreesLotGoes x)) _ _ s
 refine wpAny_noted ?_
 rw[compTurn_list]
 refine aar (afg (aar (uF (turn n s hI) λr s₁ h₁=>?_)))
 cases r with
 |none=>exact aat h₁
 |some v =>
  refine aar (uF h₁ λ_ s₂ h₂=>?_)
  refine aar (uF h₂ λ_ s₃ h₃=>aar (uF h₃ λok s₄ h₄=>?_))
  cases ok with
  |false=>exact aat ⟨rfl,h₄⟩
  |true =>
   exact aar (aar (uF h₄ λx s₅ h₅=>aar (uF h₅ λ_ s₆ h₆=>aat (aat ⟨rfl,h₆⟩))))
end
def pI(env:Env):List (Str×NameKind)->List (Str×Addr)->List (Str×Addr)
 |[],acc=>acc
 | (n,k)::r,acc=>if k==.free then pI env r ((n,(env.cells.lookup n).getD 0)::acc) else pI env r acc
theorem zDg{scope:Scope}{env:Env}(h:∀y∈scope.names,y.2=.free->∃c,env.cells.lookup y.1=some c):closureFor scope env=pure (pI env scope.names []):=by
 unfold closureFor
 generalize scope.names=l at h
 have go:∀(l:List (Str×NameKind))(acc:List (Str×Addr)),(∀y∈l,y.2=.free->∃c,env.cells.lookup y.1=some c) ->
    (forIn l acc (λ(x:Str×NameKind) (r:List (Str×Addr))=>match x with
    | (name,kind)=>if(kind==abe)=true then(do let __do_lift <-cellOf env name;pure (acu ((name,__do_lift)::r))) else pure (acu r)):Sem (List (Str×Addr)))=pure (pI env l acc):=by
  intro l
  induction l with
  |nil=>intro acc _;rfl
  |cons x r ih =>
   intro acc hl
   obtain⟨n,k⟩:=x
   rw[forIn_cons]
   unfold pI
   by_cases hk:(k==abe)=true
   ·obtain⟨c,hc⟩:=hl (n,k) mem_cons_self (acg hk)
    simp only[hk,if_true]
    have hc':env.cells.lookup n=some c:=hc
    unfold cellOf
    rw[hc']
    exact ih _ λy hy=>hl y (mem_cons_of_mem _ hy)
   ·simp only[hk,if_false]
    exact ih _ λy hy=>hl y (mem_cons_of_mem _ hy)
 have e:=go l [] h
 simp only[bind_pure]
 exact e
theorem YM{env:Env}:∀(l:List (Str×NameKind))(acc:List (Str×Addr)),(∀x c,acc.lookup x=some c->(env.cells.lookup x).getD 0=c)->∀x c,(pI env l acc).lookup x=some c->(env.cells.lookup x).getD 0=c
 |[],_,h,x,c,e=>h x c e
 | (n,k)::r,acc,h,x,c,e=>by
  unfold pI at e
  by_cases hk:(k==abe)=true
  ·rw[if_pos hk] at e
   refine YM r _ (λy d q=>?_) x c e
   cases hy:y==n with
   |true =>
    rw[lookup_cons,hy] at q
    cases q
    rw[acg hy]
   |false =>
    rw[lookup_cons,hy] at q
    exact h y d q
  ·rw[if_neg hk] at e
   exact YM r acc h x c e
theorem YQ:∀(l:List (Str×NameKind))(acc:List (Str×Addr))(x:Str)(c:Addr),(pI env l acc).lookup x=some c->(acc.lookup x).isSome=true\/(x,abe)∈l
 |[],_,x,c,e=>.inl (by unfold pI at e;rw[e];rfl)
 | (n,k)::r,acc,x,c,e=>by
  unfold pI at e
  by_cases hk:(k==abe)=true
  ·rw[if_pos hk] at e
   rcases YQ r _ x c e with h|h
   ·cases hy:x==n with
    |true =>
     have e1:=acg hy
     have e2:=acg hk
     subst e1;subst e2
     exact .inr mem_cons_self
    |false =>
     rw[lookup_cons,hy] at h
     exact .inl h
   ·exact .inr (mem_cons_of_mem _ h)
  ·rw[if_neg hk] at e
   rcases YQ r _ x c e with h|h
   ·exact .inl h
   ·exact .inr (mem_cons_of_mem _ h)
theorem Wg:∀(l:List (Str×NameKind))(acc:List (Str×Addr))(x:Str),((acc.lookup x).isSome=true\/(x,abe)∈l)->((pI env l acc).lookup x).isSome=true
 |[],_,x,h=>by
  rcases h with h|h
  ·exact h
  ·cases h
 | (n,k)::r,acc,x,h=>by
  unfold pI
  by_cases hk:(k==abe)=true
  ·rw[if_pos hk]
   refine Wg r _ x ?_
   rcases h with h|h
   ·refine .inl ?_
    rw[lookup_cons]
    cases hy:x==n with
    |true=>rfl
    |false=>exact h
   ·rcases mem_cons.mp h with h|h
    ·cases h
     refine .inl ?_
     rw[lookup_cons,beq_self_eq_true]
     rfl
    ·exact .inr h
  ·rw[if_neg hk]
   refine Wg r _ x ?_
   rcases h with h|h
   ·exact .inl h
   ·rcases mem_cons.mp h with h|h
    ·cases h
     exact absurd rfl hk
    ·exact .inr h
theorem zEa{env:Env}:∀{names:List (Str×NameKind)}{x:Str},names.lookup x=some .free ->
  (names.map λ(n,k)=>if(k==abe&&env.scope.kind==.function&&env.kindOf n==some .cell) then(n,ab6) else(n,k)).lookup x=some .cell \/
  (names.map λ(n,k)=>if(k==abe&&env.scope.kind==.function&&env.kindOf n==some .cell) then(n,ab6) else(n,k)).lookup x=some .free
 |[],_,h=>by simp at h
 | (n,k)::r,x,h=>by
  have ih:=@zEa env r x
  show ac6 x ((if(k==abe&&env.scope.kind==.function&&env.kindOf n==some .cell)=true then(n,ab6) else(n,k))::_)=_\/ac6 x ((if(k==abe&&env.scope.kind==.function&&env.kindOf n==some .cell)=true then(n,ab6) else(n,k))::_)=_
  cases hx:x==n with
  |true =>
   simp only[lookup_cons,hx] at h
   cases h
   by_cases hc:(abe==abe&&env.scope.kind==.function&&env.kindOf n==some .cell)=true
   ·rw[if_pos hc];left;simp only[lookup_cons,hx]
   ·rw[if_neg hc];right;simp only[lookup_cons,hx]
  |false =>
   simp only[lookup_cons,hx] at h
   by_cases hc:(k==abe&&env.scope.kind==.function&&env.kindOf n==some .cell)=true
   ·rw[if_pos hc];simp only[lookup_cons,hx];exact ih h
   ·rw[if_neg hc];simp only[lookup_cons,hx];exact ih h
theorem YS{env:Env}:∀{names:List (Str×NameKind)}{x:Str}{k:NameKind},(k=.cell\/k=.free) ->
  (names.map λ(n,k)=>if(k==abe&&env.scope.kind==.function&&env.kindOf n==some .cell) then(n,ab6) else(n,k)).lookup x=some k->(x,abe)∈names\/(x,ab6)∈names
 |[],_,_,_,h=>by simp at h
 | (n,k')::r,x,k,hk,h=>by
  have ih:=@YS env r x k hk
  have h':ac6 x ((if(k'==abe&&env.scope.kind==.function&&env.kindOf n==some .cell)=true then(n,ab6) else(n,k'))::(r.map λ(n,k)=>if(k==abe&&env.scope.kind==.function&&env.kindOf n==some .cell) then(n,ab6) else(n,k)))=some k:=h
  cases hx:x==n with
  |true =>
   have e:=acg hx
   subst e
   by_cases hd:(k'==abe&&env.scope.kind==.function&&env.kindOf x==some .cell)=true
   ·have e2:k'=.free:=by
     rw[aaz,aaz] at hd
     exact acg hd.1.1
    subst e2
    exact .inl mem_cons_self
   ·rw[if_neg hd] at h'
    simp only[lookup_cons,hx] at h'
    cases h'
    rcases hk with e|e
    ·subst e;exact .inr mem_cons_self
    ·subst e;exact .inl mem_cons_self
  |false =>
   have g:(x,abe)∈r\/(x,ab6)∈r:=by
    refine ih ?_
    by_cases hd:(k'==abe&&env.scope.kind==.function&&env.kindOf n==some .cell)=true
    ·rw[if_pos hd] at h';simp only[lookup_cons,hx] at h';exact h'
    ·rw[if_neg hd] at h';simp only[lookup_cons,hx] at h';exact h'
   rcases g with g|g
   ·exact .inl (mem_cons_of_mem _ g)
   ·exact .inr (mem_cons_of_mem _ g)
theorem wK:∀(l:List (Str×NameKind))(n:Nat)(acc:List (Str×Addr)),cellsFrom n l acc=cellsFrom n l []++acc
 |[],_,_=>rfl
 | (x,k)::r,n,acc=>by
  unfold cellsFrom
  split
  ·rw[wK r (n+1) ((x,n)::acc),wK r (n+1) [(x,n)]];simp
  ·exact wK r n acc
theorem YT:∀(l:List (Str×NameKind))(n:Nat)(x:Str)(c:Addr),(x,c)∈cellsFrom n l []->(x,ab6)∈l
 |[],_,_,_,h=>by cases h
 | (y,k)::r,n,x,c,h=>by
  unfold cellsFrom at h
  split at h
  ·rename_i hk
   rw[wK] at h
   rcases mem_append.mp h with h|h
   ·exact mem_cons_of_mem _ (YT r _ x c h)
   ·have e:(x,c)=(y,n):=by simpa using h
    cases e
    rw[acg hk]
    exact mem_cons_self
  ·exact mem_cons_of_mem _ (YT r _ x c h)
theorem zEh{s:Shared}{scope:Scope}{Q:Env->Shared->Prop}(hQ:∀h',h'.Ns s.heap.objs.size (λ_=>none)->(∀b o,s.heap.get? b=some o->h'.get? b=some o)->CellsOk h' (s.heap.objs.size+1) (cellsFrom (s.heap.objs.size+1) scope.names []) ->
   Q (newEnv scope s.heap.objs.size globals (cellsFrom (s.heap.objs.size+1) scope.names closure) qual none .none (some outer) builtinsNs) { s with heap:=h' }) :
  wpAny M A (newFunctionEnv scope globals closure [] qual none .none (some outer)) Q E s:=by
 simp only[newFunctionEnv,ad6,if_true]
 refine aar (wpAny_alloc ?_)
 refine aar (wpAny_layCells _ (λname kind cells=>by cases hkc:kind==ab6<;>simp[hkc]) _ _ _ _ ?_)
 have ok:=cellsFrom_ok scope.names (s.heap.push { cls:=.type "dict",data:=.dict #[] }) (s.heap.objs.size+1) [] ⟨λ_ _ hm=>(nomatch hm),Pairwise.nil⟩ (by rw[size_push];exact aav _)
 rw[size_push] at ok
 rw[show({ s with heap:=s.heap.push { cls:=.type "dict",data:=.dict #[] } }:Shared).heap.objs.size=s.heap.objs.size+1 from size_push ..]
 refine aar ?_
 rw[forIn_nil]
 exact aat (aat (hQ _ ((Heap.Ns.new s.heap (.type "dict")).keeps (pushCells_keeps _ _)) (λb o e=>pushCells_keeps _ _ b o (get?_push_of_some _ e)) ok))
theorem h_.track(x:h_ P w H h)(hn:H a=none)(new:bw P w (upd H a o) h a o):h_ P w (upd H a o) h:=λb u e=>by
 by_cases hb:b=a
 ·subst hb;rw[zT] at e;cases e;exact new
 ·rw[zX hb] at e
  exact(x b u e).stay (λc v _ q=>q) (λc q=>by rw[zX (zU q hn)];exact q) λc xs q=>by rw[zX (zU q hn)];exact q
theorem Un.track(u:Un fs ex H H' h h')(h0:h.get? a=none)(hn:H a=none):Un fs ex H (upd H' a o) h h' where
 keep:=u.keep
 slot:=u.slot
 free:=λb ob q n hx=>by
  rw[zX (λz=>by rw[z,h0] at q;cases q)];exact u.free b ob q n hx
 there:=u.there
 tups:=λb xs q=>by rw[zX (zU q hn)];exact u.tups b xs q
 mJ:=λb ob xs q=>by rw[zX (zU q hn)];exact u.mJ b ob xs q
 oX:=λb ps q=>by rw[zX (zU q hn)];exact u.oX b ps q
def nIn(N:List Str)(own:List Str)(ix:List Nat):List Str:=own++ix.map λj=>N.getD j aea
def pq(σ:St)(n:Nat)(ix:List Nat):St:=replicate n none++ix.map λj=>(σ[j]?).getD none
def dN(X:Cx)(scope:Scope)(own:List Str)(ix:List Nat)(C:Addr)(s:Shared)(H:Hp)(fp:List Addr):Cx :=
 { X with N:=nIn X.N own ix,s₀:=s,H₀:=H,env:=compEnvC scope (cellsFrom (C+1) scope.names (pI X.env scope.names [])) C X.env,outer:=X.stack,stack:=X.stack,ex:=fp,fn:=λx=>scope.names.lookup x==some .cell,pn:=[] }
def Wh(LK:Scope)(oN:List Str)(scope:Scope)(ix:List Nat):Bool :=
 scope.kind==.function &&
 (scope.names.all λy=>(y.2 != .cell||scope.names.lookup y.1==some .cell)&&(y.2 != .local||scope.names.lookup y.1==some .local)&&(y.2 != .free||(LK.names.lookup y.1==some .cell||LK.names.lookup y.1==some .free))) &&
 ix.all λj=>match oN[j]? with
  |some x=>scope.names.lookup x==some .free
  |none=>false
structure jL(LK:Scope)(oN:List Str)(scope:Scope)(ix:List Nat):Prop where
 kind:scope.kind=.function
 clk:∀y∈scope.names,y.2=.cell->scope.names.lookup y.1=some .cell
 nm:∀y∈scope.names,y.2=.local->scope.names.lookup y.1=some .local
 fr:∀y∈scope.names,y.2=.free->LK.names.lookup y.1=some .cell\/LK.names.lookup y.1=some .free
 ix:∀j∈ix,∃x,oN[j]?=some x/\scope.names.lookup x=some .free
theorem zKl(h:Wh LK oN scope ix=true):jL LK oN scope ix:=by
 unfold Wh at h
 rw[aaz,aaz,all_eq_true,all_eq_true] at h
 obtain⟨⟨h1,h2⟩,h3⟩:=h
 refine⟨acg h1,λy hy e=>?_,λy hy e=>?_,λy hy e=>?_,λj hj=>?_⟩
 ·have q:=h2 y hy
  rw[aaz,aaz] at q
  rcases acs _ _▸q.1.1 with z|z
  ·exact absurd e (bne_iff_ne.mp z)
  ·exact acg z
 ·have q:=h2 y hy
  rw[aaz,aaz] at q
  rcases acs _ _▸q.1.2 with z|z
  ·exact absurd e (bne_iff_ne.mp z)
  ·exact acg z
 ·have q:=h2 y hy
  rw[aaz,aaz] at q
  rcases acs _ _▸q.2 with z|z
  ·exact absurd e (bne_iff_ne.mp z)
  ·rcases acs _ _▸z with z|z
   ·exact .inl (acg z)
   ·exact .inr (acg z)
 ·have q:=h3 j hj
  cases e:oN[j]? with
  |none=>rw[e] at q;cases q
  |some x=>rw[e] at q;exact⟨x,rfl,acg q⟩
section
variable{X:Cx}{pins:List (Addr×Obj)}{σ:St}{H:Hp}{s:Shared}{scope:Scope}{own:List Str}{ix:List Nat}
theorem YW(I:Inv X pins σ H s)(sc:jL X.env.scope X.N scope ix):∀y∈scope.names,y.2=.free->∃c,X.env.cells.lookup y.1=some c:=λy hy e=>by
 rcases sc.fr y hy e with q|q
 ·exact I.ok.has y.1 (.inl q)
 ·exact I.ok.has y.1 (.inr q)
theorem zNo(I:Inv X pins σ H s)(sc:jL X.env.scope X.N scope ix)(e:(pI X.env scope.names []).lookup x=some c):X.env.cells.lookup x=some c:=by
 have h1:=YM (env:=X.env) scope.names [] (λx c q=>by simp at q) x c e
 rcases YQ (env:=X.env) scope.names [] x c e with q|q
 ·simp at q
 ·obtain⟨c',hc⟩:=YW I sc (x,.free) q rfl
  have hc':X.env.cells.lookup x=some c':=hc
  rw[hc'] at h1
  rw[hc']
  exact congrArg some h1
theorem zVr(I:Inv X pins σ H s)(sc:jL X.env.scope X.N scope ix)(hx:(x,abe)∈scope.names)(e:X.env.cells.lookup x=some c):(pI X.env scope.names []).lookup x=some c:=by
 have h1:=Wg (env:=X.env) scope.names [] x (.inr hx)
 obtain⟨c',hc⟩:=ab7.mp h1
 rw[hc]
 have:=zNo I sc hc
 rw[e] at this
 exact this.symm
theorem LQ(I:Inv X pins σ H s)(sc:jL X.env.scope X.N scope ix)(e:(cellsFrom (C+1) scope.names (pI X.env scope.names [])).lookup x=some c):(x,c)∈cellsFrom (C+1) scope.names []\/X.env.cells.lookup x=some c:=by
 rw[wK,lookup_append] at e
 cases h:(cellsFrom (C+1) scope.names []).lookup x with
 |some d=>rw[h] at e;cases e;exact .inl (aby h)
 |none=>rw[h] at e;exact .inr (zNo I sc e)
theorem BX(h:(pq σ n ix)[i]?=some (some v)):∃j,ix[i-n]?=some j/\σ[j]?=some (some v)/\n<=i:=by
 unfold pq at h
 by_cases hi:i<n
 ·rw[getElem?_append_left (by simpa using hi),getElem?_replicate] at h
  rw[if_pos hi] at h
  cases h
 ·rw[getElem?_append_right (by simpa using hi),List.length_replicate,getElem?_map] at h
  cases e:ix[i-n]? with
  |none=>rw[e] at h;cases h
  |some j =>
   rw[e] at h
   have h':(σ[j]?).getD none=some v:=aa3 h
   refine⟨j,rfl,?_,by omega⟩
   cases e2:σ[j]? with
   |none=>rw[e2] at h';cases h'
   |some o=>rw[e2] at h';exact congrArg some h'
theorem Inv.comp{h₁:Heap}(I:Inv X pins σ H s)(sc:jL X.env.scope X.N scope ix)(fo:∀b∈fp,lZ X pins H b)(Sw:∀b∈fp,b<s.heap.objs.size)(hC:s.heap.objs.size<=C)(hns:h₁.Ns C m₀)(hk:∀b o,s.heap.get? b=some o->h₁.get? b=some o)(co:CellsOk h₁ (C+1) (cellsFrom (C+1) scope.names [])):Inv (dN X scope own ix C s H fp) [] (pq σ own.length ix) H { s with heap:=h₁,toks:=t' }:=by
 have lt:∀{b:Addr},b<s.heap.objs.size->b≠C:=λ{b} hb=>aa0 (aa2 hb hC)
 have SJ:∀{x:Str}{c:Addr},X.env.cells.lookup x=some c->c<C+1:=λ{x c} e=>by
  obtain⟨v,q⟩:=I.cell x c e
  exact adn (aa2 q.lt hC)
 have cellK:∀{x:Str}{c:Addr},X.env.cells.lookup x=some c->∀v,s.heap.IsCell c v->h₁.IsCell c v:=λ{x c} _ v ⟨o,ho,hd⟩=>⟨o,hk _ _ ho,hd⟩
 refine⟨⟨I.ok.mod,sc.kind,I.ok.glob,I.ok.blt,hC,λx y c h1 h2=>?_,λx hx=>?_,λx c h e=>by
  have h':scope.names.lookup x=some .cell:=acg h
  have e':(cellsFrom (C+1) scope.names (pI X.env scope.names [])).lookup x=some c:=e
  rw[wK,lookup_append] at e'
  obtain⟨d,hd⟩:=ab7.mp (adp scope.names (C+1) [] (.inl h'))
  rw[hd] at e'
  cases e'
  exact aa4 hC (aes (co.empty _ _ (aby hd)).2),I.ok.hd,I.ok.frames,.inl rfl,λb hb=>?_,I.bs,aa4 I.ok.Fj I.sz,λb o e hb=>?_,λb hb z=>?_,I.stack,I.vm⟩,
  rfl,I.bare,Un.kept hk,⟨m₀,hns,λi x v h1 h2 h3=>?_⟩,λx c h=>?_,I.hok.fresh hC,λx c h=>?_,λp hp=>?_,I.hok.kept hk,?_⟩
 ·rcases LQ I sc h1 with q1|q1
  ·rcases LQ I sc h2 with q2|q2
   ·exact name_of_addr co.apart q1 q2
   ·exact absurd (aa2 (SJ q2) (co.empty _ _ q1).2) (abx _)
  ·rcases LQ I sc h2 with q2|q2
   ·exact absurd (aa2 (SJ q1) (co.empty _ _ q2).2) (abx _)
   ·exact I.ok.inj x y c q1 q2
 ·have hm:(x,abe)∈scope.names\/(x,ab6)∈scope.names:=by
   rcases hx with hx|hx
   ·exact YS (env:=X.env) (.inl rfl) hx
   ·exact YS (env:=X.env) (.inr rfl) hx
  refine ab7.mp ?_
  show((cellsFrom (C+1) scope.names (pI X.env scope.names [])).lookup x).isSome=true
  rcases hm with hm|hm
  ·exact adp _ _ _ (.inr (Wg (env:=X.env) scope.names [] x (.inr hm)))
  ·exact adp _ _ _ (.inl (sc.clk _ hm rfl))
 ·obtain⟨f0,f1,f2,f3,f4,f5⟩:=fo b hb
  refine⟨lt (Sw b hb),λx c h=>?_⟩
  rcases LQ I sc h with q|q
  ·exactλz=>absurd (aa2 (Sw b hb) (aa4 hC (aes (z▸(co.empty _ _ q).2)))) (abx _)
  ·exact f4 x c q
 ·obtain⟨f0,f1,f2,f3,f4,f5⟩:=fo b hb
  rcases f3 with z|z
  ·exact I.ok.Bk b o e z
  ·exact absurd (aa2 (lt_size e) (aa4 I.ok.Fj z)) (abx _)
 ·obtain⟨f0,f1,f2,f3,f4,f5⟩:=fo b hb
  rcases mem_cons.mp (I.p8 b z) with z|z
  ·exact f1 z
  ·exact f2 z
 ·obtain⟨j,hj,hv,hn⟩:=BX h2
  obtain⟨y,hy,hf⟩:=sc.ix j (mem_of_getElem? hj)
  have e:y=x:=by
   have h1':(nIn X.N own ix)[i]?=some x:=h1
   unfold nIn at h1'
   rw[getElem?_append_right hn,getElem?_map,hj] at h1'
   have SM:X.N.getD j aea=x:=aa3 h1'
   rw[getD_eq_getElem?_getD,hy] at SM
   exact SM
  subst e
  have hm:(y,abe)∈scope.names:=aby hf
  have vis:Rr X.env.scope y:=by
   rcases sc.fr _ hm rfl with q|q
   ·exact .inr (.inl q)
   ·exact .inr (.inr q)
  obtain⟨m,_,hl⟩:=I.loc
  obtain⟨u,r,l⟩:=hl j y v hy hv vis
  refine⟨u,r,?_⟩
  rcases l with⟨hk',_⟩|⟨_,c,hc,hcell⟩
  ·have hk'':X.env.scope.names.lookup y=some .local:=hk'
   rcases sc.fr _ hm rfl with q|q
   ·have q':X.env.scope.names.lookup y=some .cell:=q
    rw[hk''] at q';cases q'
   ·have q':X.env.scope.names.lookup y=some .free:=q
    rw[hk''] at q';cases q'
  ·refine .inr ⟨zEa (env:=X.env) hf,c,?_,cellK hc _ hcell⟩
   show(cellsFrom (C+1) scope.names (pI X.env scope.names [])).lookup y=some c
   rw[wK,lookup_append,zVr I sc hm hc]
   cases e:(cellsFrom (C+1) scope.names []).lookup y with
   |none=>rfl
   |some d =>
    have q:=sc.clk _ (YT _ _ _ _ (aby e)) rfl
    have q':scope.names.lookup y=some .cell:=q
    rw[hf] at q';cases q'
 ·rcases LQ I sc h with q|q
  ·exact⟨_,(co.empty _ _ q).1⟩
  ·obtain⟨v,z⟩:=I.cell x c q
   exact⟨v,cellK q v z⟩
 ·rcases LQ I sc h with q|q
  ·exact I.hok.fresh (aa4 hC (aes (co.empty _ _ q).2))
  ·exact I.ig x c q
 ·exact absurd (show p∈([]:List (Addr×Obj)) from hp) (by simp)
 ·show(pq σ own.length ix).length=(nIn X.N own ix).length
  unfold pq nIn
  simp
end
def BZ(X:Cx)(ifs:List Expr)(t:TT):Prop :=
 ∀(pins:List (Addr×Obj))(s:Shared)(σ:St)(H:Hp)(Q:Bool->Hp->Prop),Inv X pins σ H s->t σ H Q ->
  wpAny (model X.prog X.w) X.A (forIn ifs true λc r=>if r=true then do let ok <-isTrue c X.env (eval c X.env);pure (acu ok) else pure (acu r)) (TP X pins σ Q) X.xe s
def LR:TT:=λ_ H Q=>Q true H
theorem vK:BZ X [] LR:=λ_ _ _ H _ I h=>wpAny_tests_nil ⟨H,I,h⟩
theorem uU(h:PT X c t):BZ X [c] t:=λpins s σ H Q I q=>wpAny_tests_one (h pins s σ H Q I q)
def B_(n:Nat)(ix:List Nat)(g:TG)(tc:TT)(te:TE)(σ:St)(Q:VK)(J:It)(H1:Hp):Prop :=
 ∃W:Nat->Nat->List V->St->Hp->Prop,(∃m,W 0 m [] (pq σ n ix) H1)/\∀i m ys σ2 H2,W i m ys σ2 H2 ->
  (J.stop i H2/\ys.length<=sizeLine/\∀p,H2 p=none->Q (.ref p) (upd H2 p (.lst ys))) \/
  (J.go i H2/\ys.length<sizeLine/\∃N:List V->St->Hp->Prop,(∀ys' σ' H',N ys' σ' H'->∃m',m'<m/\W (i+1) m' ys' σ' H') /\
   ∀x H3,J.Qg i H2 x H3->g x σ2 H3 λσ4 H4=>tc σ4 H4 λb H5=>if b=true then te σ4 H5 λy H6=>N (ys++[y]) σ4 H6 else N ys σ4 H5)
def Ca(n:Nat)(ix:List Nat)(wi:TI)(g:TG)(tc:TT)(te:TE):TE:=λσ H Q=>wi σ H (B_ n ix g tc te σ Q)
def YX(X:Cx)(pins:List (Addr×Obj))(σ:St)(Q:VK)(acc:Value)(C:Addr)(s':Shared):Prop :=
 ∃p H',acc=.ref p/\Inv X pins σ H' s'/\(∃m,s'.heap.Ns C m)/\lZ X pins H' C/\Q (.ref p) H'
theorem YZ{X:Cx}{α:Type}{t:Sem α}{Q Q':α->Shared->Prop}(hx:X.xe=λ_ _=>False)(h:wpAny M A t Q X.xe s)(hQ:∀a s,Q a s->Q' a s):wpAny M A t Q' E s :=
 acn h hQ λe s' z=>by rw[hx] at z;exact z.elim
section
variable{X:Cx}{elt tg iter:Expr}{ifs:List Expr}{scope:Scope}{pos:Pos}{own:List Str}{ix:List Nat}{wi:TI}{g:TG}{tc:TT}{te:TE}
theorem zHa{RR:Value->Addr->Result->Shared->Prop}(hx:X.xe=λ_ _=>False)(hc:X.calm=true)(sc:jL X.env.scope X.N scope ix)(I:Inv X pins σ H s)(T:Turn X.prog X.w X.K tg J fp it tn)(st:tn 0 s.heap)(fo:∀b∈fp,lZ X pins H b)(hg:∀C s H fp,PG (dN X scope own ix C s H fp) tg g)(hif:∀C s H fp,BZ (dN X scope own ix C s H fp) ifs tc)(he:∀C s H fp,PE (dN X scope own ix C s H fp) elt te)(rd:B_ own.length ix g tc te σ Q J H)(hRR:∀acc C s',YX X pins σ Q acc C s'->RR acc C (.ok .next) s') :
  wpAny (model X.prog X.w) X.A (newList []) (λacc s₃=>wpAny (model X.prog X.w) X.A (newFunctionEnv scope X.env.globals (pI X.env scope.names []) [] X.env.qual none .none (some X.env)) (λcenv s₄ =>
   codeAny (model X.prog X.w) X.A (.compStart (.ListComp elt [⟨tg,iter,ifs,0⟩] scope pos) 0 (.ref it) acc { cenv with scope:=relabel scope X.env }) (RR acc cenv.locals) s₄) E s₃) E s:=by
 refine ac9 (zEh (λh₁ hns₁ hsb₁ co=>?_))
 dsimp only at hns₁ hsb₁ co ⊢
 generalize hD':s.heap.objs.size=D at hns₁ hsb₁ co ⊢
 generalize hH2:s.heap.push { cls:=.type "list",dict:=none,data:=.seq ([]:List Value).toArray }=G at hns₁ hsb₁ co ⊢
 generalize hC':G.objs.size=C at hns₁ hsb₁ co ⊢
 have hC:C=D+1:=by rw[<-hC',<-hH2,size_push,hD']
 have hDC:D≠C:=by rw[hC];exact aa0 (ac2 _)
 have hle:s.heap.objs.size<=C:=by rw[hC,hD'];exact ace _
 have old:∀b o,s.heap.get? b=some o->h₁.get? b=some o:=λb o e=>by
  exact hsb₁ b o (hH2▸get?_push_of_some _ e)
 have oD:h₁.get? D=some { cls:=.type "list",data:=.seq ([]:List Value).toArray 0 }:=by
  refine hsb₁ D _ ?_
  rw[<-hH2,<-hD']
  exact get?_push_size _ rfl
 have Sw:∀b∈fp,b<s.heap.objs.size:=λb hb=>by
  obtain⟨o,e,_⟩:=T.obj 0 _ st b hb
  exact lt_size e
 have nDf:∀b∈fp,b≠D:=λb hb=>by rw[<-hD'];exact aa0 (Sw b hb)
 have sD:s.heap.get? D=none:=by
  cases e:s.heap.get? D with
  |none=>rfl
  |some o=>exact absurd (lt_size e) (by rw[hD'];exact abx _)
 have hDn:H D=none:=I.hok.fresh (by rw[hD'];exact aav _)
 have I0:Inv (dN X scope own ix C s H fp) [] (pq σ own.length ix) H { s with heap:=h₁ }:=I.comp sc fo Sw hle hns₁ old co
 have st0:tn 0 h₁:=T.keep 0 _ _ st λb _ o e=>old b o e
 have hx':(dN X scope own ix C s H fp).xe=λ_ _=>False:=hx
 have SN:D≠(dN X scope own ix C s H fp).env.locals:=hDC
 have Dex:D∈(dN X scope own ix C s H fp).ex\/(dN X scope own ix C s H fp).s₀.heap.objs.size<=D:=.inr (by show s.heap.objs.size<=D;rw[hD'];exact aav _)
 have Dfs:D∉(dN X scope own ix C s H fp).fs:=I0.KD (a:=D) |> λk=>λz=>by
  have z':D∈frs X.stack:=z
  rcases mem_cons.mp (I.p8 D z') with q|q
  ·exact absurd (q▸I.lt) (by rw[hD'];exact abx _)
  ·exact I.KD (by rw[hD'];exact aav _) q
 have SQ:∀x c,(dN X scope own ix C s H fp).env.cells.lookup x=some c->c≠D:=λx c e z=>by
  rcases LQ I sc e with q|q
  ·have w1:=(co.empty _ _ q).2
   rw[z,hC] at w1
   omega
  ·obtain⟨v,q⟩:=I.cell x c q
   exact absurd (aa2 q.lt (by rw[z,hD'];exact aav _)) (abx _)
 have Y0:∀{H':Hp}{pl:List (Addr×Obj)},(∀b∈fp,H' b=none)->(∀p∈pl,p.1=D)->∀b∈fp,lZ (dN X scope own ix C s H fp) pl H' b:=λ{H' pl} hn hp b hb=>by
  obtain⟨f0,f1,f2,f3,f4,f5⟩:=fo b hb
  refine⟨hn b hb,(I0.ok.VL b hb).1,I0.ok.Bo b hb,.inl hb,(I0.ok.VL b hb).2,λp hp' z=>?_⟩
  rcases mem_append.mp hp' with q|q
  ·exact absurd (show p∈([]:List (Addr×Obj)) from q) (by simp)
  ·exact nDf b hb (by rw[<-z];exact hp p q)
 obtain⟨W,⟨m0,w0⟩,step⟩:=rd
 have loop:codeAny (model X.prog X.w) X.A (.compLoop (.ListComp elt [⟨tg,iter,ifs,0⟩] scope pos) 0 (.ref it) (.ref D) (dN X scope own ix C s H fp).env) (RR (.ref D) C) { s with heap:=h₁ }:=by
  refine zKn (λn s'=>∃i ys σ' H' its k,Inv (dN X scope own ix C s H fp) [] σ' H' s'/\tn i s'.heap/\(∀b∈fp,H' b=none)/\H' D=none/\s'.heap.get? D=some { cls:=.type "list",data:=.seq (toArray its) k }/\Vals ys its/\W i n ys σ' H') ?_ m0
   ⟨0,[],_,H,[],0,I0,st0,λb hb=>(fo b hb).1,hDn,oD,.nil,w0⟩
  rintro n s1 ⟨i,ys,σ1,H1,its,k,I1,tn1,fr1,D1,o1,L_,w1⟩
  have J1:Inv (dN X scope own ix C s H fp) [(D,{ cls:=.type "list",data:=.seq (toArray its) k })] σ1 H1 s1:=I1.jW λp hp=>by
   have e:p=(D,{ cls:=.type "list",data:=.seq (toArray its) k }):=by simpa using hp
   subst e
   exact⟨o1,D1,SN,Dfs,λv z=>by cases z⟩
  have single:∀p∈[((D,{ cls:=.type "list",data:=.seq (toArray its) k }):Addr×Obj)],p.1=D:=λp hp=>by
   have e:p=(D,{ cls:=.type "list",data:=.seq (toArray its) k }):=by simpa using hp
   rw[e]
  rcases step i n ys σ1 H1 w1 with⟨stop,hz,qn⟩|⟨go,hz,N,hN,stp⟩
  ·refine aM (T.done (dN X scope own ix C s H fp) rfl rfl rfl hc i _ s1 σ1 H1 _ J1 (Y0 fr1 single) tn1 stop) λr s2 ⟨hr,I2⟩=>?_
   subst hr
   obtain⟨e2,_⟩:=I2.pin (D,{ cls:=.type "list",data:=.seq (toArray its) k }) (mem_append_right _ (by simp))
   obtain⟨m2,Y4,_⟩:=I2.loc
   refine hRR _ _ _ ⟨D,upd H1 D (.lst ys),rfl,?_,⟨m2,Y4⟩,?_,qn D D1⟩
   ·refine I.call' (ch:=fp) I2.os (Un.track I2.base sD hDn) (I2.hok.track D1 ⟨hz,its,k,L_,e2⟩) I2.bare λb hb=>?_
    obtain⟨f0,f1,f2,f3,f4,f5⟩:=fo b hb
    exact⟨f3,f1,f4,f5⟩
   ·refine I.mL hle ?_
    rw[zX hDC.symm]
    exact I2.free
  ·refine aM (T.item (dN X scope own ix C s H fp) rfl rfl rfl hc i _ s1 σ1 H1 _ J1 (Y0 fr1 single) tn1 go) λr s2 ⟨u,hr,h2⟩=>?_
   subst hr
   refine aM h2 λ_ s3 ⟨x,H3,I3,rx,y3,Y5,V5⟩=>?_
   have I3':=I3.pinned (Y0 V5 single) (T.obj _ _ Y5)
   refine YZ hx' (hg C s H fp _ s3 σ1 H3 x u _ I3' rx (stp x H3 y3)) λ_ s4 ⟨σ4,H4,I4,q4⟩=>?_
   refine YZ hx' (hif C s H fp _ s4 σ4 H4 _ I4 q4) λb s5 ⟨H5,I5,q5⟩=>?_
   have back:∀{σ7:St}{H7:Hp}{s7:Shared},Inv (dN X scope own ix C s H fp) ([(D,{ cls:=.type "list",data:=.seq (toArray its) k })]++K5 fp s3.heap) σ7 H7 s7 ->
     tn (i+1) s7.heap/\(∀b∈fp,H7 b=none)/\H7 D=none/\s7.heap.get? D=some { cls:=.type "list",data:=.seq (toArray its) k }:=λ{σ7 H7 s7} I7=>by
    have SX:=I7.pin (D,{ cls:=.type "list",data:=.seq (toArray its) k }) (mem_append_right _ (mem_append_left _ (by simp)))
    refine⟨T.keep _ _ _ Y5 λb hb o e=>(I7.pin (b,o) (mem_append_right _ (mem_append_right _ (Qj hb e)))).1,λb hb=>?_,SX.2.1,SX.1⟩
    obtain⟨o,e,d⟩:=T.obj _ _ Y5 b hb
    exact(I7.pin (b,o) (mem_append_right _ (mem_append_right _ (Qj hb e)))).2.1
   cases b with
   |false =>
    obtain⟨m',hm,w'⟩:=hN _ _ _ (show N ys σ4 H5 from q5)
    obtain⟨b1,b2,b3,b4⟩:=back I5
    exact⟨m',hm,i+1,ys,σ4,H5,its,k,I5.jW (λp hp=>absurd hp (by simp)),b1,b2,b3,b4,L_,w'⟩
   |true =>
    rw[if_pos rfl]
    refine YZ hx' (he C s H fp _ s5 σ4 H5 _ I5 q5) λv s6 ⟨y,H6,I6,ry,q6⟩=>?_
    obtain⟨m',hm,w'⟩:=hN _ _ _ q6
    obtain⟨b1,b2,b3,b4⟩:=back I6
    have zl:its.length=ys.length:=L_.length.symm
    refine afl F.slot_list_append ⟨_,b4,rfl⟩ F.entry_list_append (F.args_list_append_2 _ _) (PySem.list_append D its.toArray k v (by rw[size_toArray];omega)) ⟨b4,?_⟩
    have q:=PySem.IsL.update b4 (λxs=>xs.push v)
    have keep:∀b o,b≠D->s6.heap.get? b=some o->(s6.heap.update D (abz λxs=>xs.push v)).get? b=some o:=λb o hb e=>(get?_update_other s6.heap _ (abv hb)).trans e
    refine⟨m',hm,i+1,ys++[y],σ4,H6,its++[v],(if(its.toArray.push v).size==its.toArray.size then k else k+1),?_,T.keep _ _ _ b1 (λb hb o e=>keep b o (nDf b hb) e),b2,b3,?_,L_.append (.cons ry .nil),w'⟩
    ·exact(I6.jW (Jh:=[]) λp hp=>absurd hp (by simp)).turned (t':=s6.toks) keep b3 SN Dex SQ λp hp=>absurd (show p∈([]:List (Addr×Obj)) from hp) (by simp)
    ·rw[show(its++[v]).toArray=its.toArray.push v by simp]
     exact q
 exact codeAny_compStart_list loop (T.self X.A 0 _ _ _ st0 loop)
theorem wW(hx:X.xe=λ_ _=>False)(hc:X.calm=true)(ho:Wh X.env.scope X.N scope ix=true)(hi:PI X tg iter wi)(hg:∀C s H fp,PG (dN X scope own ix C s H fp) tg g)(hif:∀C s H fp,BZ (dN X scope own ix C s H fp) ifs tc)(he:∀C s H fp,PE (dN X scope own ix C s H fp) elt te)(hs:∀x,foldedSetIterable iter X.env x=pure x:=by intro _;rfl):PE X (.ListComp elt [⟨tg,iter,ifs,0⟩] scope pos) (Ca own.length ix wi g tc te):=by
 intro pins s σ H Q I h
 have sc:=zKl ho
 rw[eval_ListComp]
 refine wpAny_comprehension_free (use:=none) rfl hs (zDg (YW I sc)) sc.kind sc.nm (aM (hi pins s σ H _ I h) λv s1 h1=>aM h1 λitv s2 h2=>?_)
 obtain⟨it,fp,tn,J,H2,e,I2,T,st2,f2,rd⟩:=h2
 subst e
 refine zHa (RR:=λacc C=>compPost (model X.prog X.w) X.A X.xe none (EP X pins σ Q) acc C) hx hc sc I2 T st2 f2 hg hif he rd ?_
 rintro acc C s' ⟨p,H',rfl,I',⟨m,hns⟩,fC,q⟩
 obtain⟨f0,f1,f2,f3,f4,f5⟩:=fC
 exact⟨m,hns,λh' hs'=>⟨.ref p,H',I'.turned (t':=s'.toks) (λb o hb e=>(hs'.2 b hb).trans e) f0 f1 f3 f4 f5,rfl,q⟩⟩
theorem Em{spos:Pos}(hN:X.N.Nodup)(hi':X.N[i]?=some x)(Y6:X.env.scope.names.lookup x=some .local)(hx:X.xe=λ_ _=>False)(hc:X.calm=true)(ho:Wh X.env.scope X.N scope ix=true)(hi:PI X tg iter wi)(hg:∀C s H fp,PG (dN X scope own ix C s H fp) tg g)(hif:∀C s H fp,BZ (dN X scope own ix C s H fp) ifs tc)(he:∀C s H fp,PE (dN X scope own ix C s H fp) elt te)(hsw:swapsWith (.ListComp elt [⟨tg,iter,ifs,0⟩] scope pos) (some (.Name x pos')) spos.line X.env=pure true:=by rfl)(hs:∀x,foldedSetIterable iter X.env x=pure x:=by intro _;rfl):PS X (.Assign [.Name x pos'] (.ListComp elt [⟨tg,iter,ifs,0⟩] scope pos) spos) (oY (Ca own.length ix wi g tc te) (yq i)):=by
 intro pins s σ H D I h
 have sc:=zKl ho
 rw[exec_Assign_Name_used _ _ _ _ hsw]
 refine aar (afg (aar ?_))
 show wpAny _ X.A (do let _ <-comprehension (.ListComp elt [⟨tg,iter,ifs,0⟩] scope pos) scope X.env _ (newList []) false (eval iter X.env) (some (assign (.Name x pos') X.env))) _ _ s
 refine aar (acn (wpAny_comprehension_free (use:=some (assign (.Name x pos') X.env)) (Q:=λ_ s'=>SP X pins D .next s') rfl hs (zDg (YW I sc)) sc.kind sc.nm
  (aM (hi pins s σ H _ I h) λv s1 h1=>aM h1 λitv s2 h2=>?_)) (λ_ s' hq=>aat (aat hq)) λ_ _ e=>e)
 obtain⟨it,fp,tn,J,H2,e,I2,T,st2,f2,rd⟩:=h2
 subst e
 refine zHa (RR:=λacc C=>compPost (model X.prog X.w) X.A X.xe (some (assign (.Name x pos') X.env)) (λ_ s'=>SP X pins D .next s') acc C) hx hc sc I2 T st2 f2 hg hif he rd ?_
 rintro acc C s' ⟨p,H',rfl,I',⟨m,hns⟩,fC,q⟩
 obtain⟨f0,f1,f2,f3,f4,f5⟩:=fC
 show wpAny _ X.A (assign (.Name x pos') X.env (.ref p)) _ _ _
 refine wpAny_assign_Name (zI5 (v:=.ref p) I' hN hi' (.inl Y6) rfl (λs'' I'' ⟨a,hsa,ha⟩=>?_) (.inr Y6))
 have haC:C≠a:=by
  rcases ha with ha|ha
  ·rw[ha];exact f1
  ·exact(f4 x a ha).symm
 exact⟨m,hns.sameBut hsa haC,λh' hs'=>⟨_,H',I''.turned (t':=s''.toks) (λb o hb e=>(hs'.2 b hb).trans e) f0 f1 f3 f4 f5,q⟩⟩
end
section
variable{n:Nat}{ix:List Nat}{g:TG}{tc:TT}{te:TE}{σ:St}{Q:VK}{H:Hp}
theorem zSy{K:PySem.W.Frag}{a:Addr}{xs:List V}(Pv:Nat->List V->St->Hp->Prop)(h0:Pv 0 [] (pq σ n ix) H)(hl:∀i ys σ H,i<=xs.length->Pv i ys σ H->bx K H a xs/\ys.length<=i)(hz:xs.length<sizeLine)(hs:∀i x ys σ H,xs[i]?=some x->Pv i ys σ H->g x σ H λσ4 H4=>tc σ4 H4 λb H5=>if b=true then te σ4 H5 λy H6=>Pv (i+1) (ys++[y]) σ4 H6 else Pv (i+1) ys σ4 H5)(hd:∀ys σ H,Pv xs.length ys σ H->∀p,H p=none->Q (.ref p) (upd H p (.lst ys))):B_ n ix g tc te σ Q (Qi K a) H:=by
 refine⟨λi m ys σ H=>m=xs.length-i/\i<=xs.length/\Pv i ys σ H,⟨xs.length,by simp,abk _,h0⟩,?_⟩
 rintro i m ys σ H ⟨rfl,hi,p⟩
 obtain⟨q,hy⟩:=hl i ys σ H hi p
 by_cases hlt:i<xs.length
 ·refine .inr ⟨⟨xs,xs[i],q,by simp[hlt]⟩,by omega,Pv (i+1),λys' σ' H' p'=>⟨xs.length-(i+1),by omega,rfl,hlt,p'⟩,λx H' y=>?_⟩
  obtain⟨e,y⟩:=y
  subst e
  exact hs i x ys σ _ (y xs q) p
 ·have e:i=xs.length:=by omega
  subst e
  exact .inl ⟨⟨xs,q,aav _⟩,by omega,hd ys σ H p⟩
end
def Ite(K:PySem.W.Frag)(a:Addr):It :=
 ⟨λi H=>∃xs x,bx K H a xs/\xs[i]?=some x,λi H v H'=>∃t x,v=.ref t/\H t=none/\H'=upd H t (.tup [.int i,x])/\∀xs,bx K H a xs->xs[i]?=some x,λi H=>∃xs,bx K H a xs/\xs.length<=i⟩
theorem zP5{P:Program}{w:World}{K:PySem.W.Frag}{elts:List Expr}{k:Nat}{tp:Pos}(a e it:Addr)(hne:e≠it) :
  Turn P w K (.Tuple elts k tp) (Ite K a) [e,it] e (λi h=>(∃old,IsEnum h e it ((i:Nat):Int) old)/\h.IsListIter it a i) where
 mem:=by simp
 obj:=λi h st b hb=>by
  obtain⟨⟨old,he⟩,o,ho,c,d⟩:=st
  have hb':b=e\/b=it:=by simpa using hb
  rcases hb' with rfl|rfl
  ·exact⟨_,he,λv z=>by
    have z':aft _=Data.cell v:=z
    cases z'⟩
  ·exact⟨o,ho,λv z=>by rw[d] at z;cases z⟩
 keep:=λi h h' st k=>⟨let⟨old,he⟩:=st.1;⟨old,k e (by simp) _ he⟩,st.2.at λo q=>k it (by simp) o q⟩
 item:=by
  intro X hP hw hK hc i pins s σ H E I hf st hg
  subst hP hw hK
  obtain⟨xs,x,hq,hx⟩:=hg
  obtain⟨its,rv,p,hz⟩:=I.list hq
  obtain⟨u,hu,ru⟩:=rv.get hx
  obtain⟨⟨old,he⟩,hit⟩:=st
  obtain⟨f0,f1,f2,f3,f4,f5⟩:=hf e (by simp)
  obtain⟨g0,g1,g2,g3,g4,g5⟩:=hf it (by simp)
  refine wpAny_pyNext_enum_item he hit p.isList (x:=u) (by simpa using hu) hne λh₁ heo hit₁ ht₁ hz₁ hk₁=>?_
  refine⟨_,rfl,wpAny_letOwnedTupleGo_enum (s:={ s with heap:=h₁,toks:=s.toks+1 }) heo λh₂ he₂ hs₂=>?_⟩
  replace hs₂:SameBut e h₁ h₂:=hs₂
  have hel:e<s.heap.objs.size:=lt_size he
  have nT:H s.heap.objs.size=none:=I.hok.fresh (aav _)
  have ht₂:h₂.get? s.heap.objs.size=some { cls:=.type "tuple",data:=.seq #[.int i s.toks,u] }:=(hs₂.2 _ (adu hel)).trans ht₁
  have kk:∀b o,b≠e->b≠it->s.heap.get? b=some o->h₂.get? b=some o:=λb o h1 h2 q=>(hs₂.2 b h1).trans (hk₁ b o h1 h2 q)
  have lt:∀b o,s.heap.get? b=some o->b≠s.heap.objs.size:=λb o q=>aa0 (lt_size q)
  have there:∀b o,s.heap.get? b=some o->b∉[e,it]->∃o',h₂.get? b=some o':=λb o q hx=>⟨o,kk b o (λz=>hx (by simp[z])) (λz=>hx (by simp[z])) q⟩
  have U:Un (frs X.stack) [e,it] H (upd H s.heap.objs.size (.tup [.int i,x])) s.heap h₂ :=
   ⟨λb o q _ _ hx=>kk b o (λz=>hx (by simp[z])) (λz=>hx (by simp[z])) q,λb o q _ _ hx=>⟨o.slots,kk b o (λz=>hx (by simp[z])) (λz=>hx (by simp[z])) q⟩,
    λb o q n _=>by rw[zX (lt b o q)];exact n,there,λb ys q=>by rw[zX (zU q nT)];exact q,λb o ys q=>by rw[zX (zU q nT)];exact q,λb ps q=>⟨#[],by rw[zX (zU q nT),q];simp⟩⟩
  have ok:h_ X.prog X.w (upd H s.heap.objs.size (.tup [.int i,x])) h₂:=λb o q=>by
   by_cases hb:b=s.heap.objs.size
   ·subst hb
    rw[zT] at q
    cases q
    exact⟨by show 2<=sizeLine;decide,[.int i s.toks,u],.cons ⟨_,rfl⟩ (.cons ru .nil),⟨_,ht₂,rfl,_,rfl⟩⟩
   ·rw[zX hb] at q
    refine(I.hok b o q).stay (λc v hc' z=>?_) (λc z=>by rw[zX (zU z nT)];exact z) λc ys z=>by rw[zX (zU z nT)];exact z
    have hcs:∃o',H c=some o':=by
     rcases hc' with rfl|hc'
     ·exact⟨o,q⟩
     ·exact⟨_,hc'⟩
    obtain⟨o',ho'⟩:=hcs
    exact kk c v (zU ho' f0) (zU ho' g0) z
  have I2:=I.call (h':=h₂) (g':=s.gens) (t':=s.toks+1) (d':=s.drawn) (ch:=[e,it]) U ok I.bare λb hb=>by
   have hb':b=e\/b=it:=by simpa using hb
   rcases hb' with rfl|rfl
   ·exact⟨f3,f1,f4,f5⟩
   ·exact⟨g3,g1,g4,g5⟩
  refine⟨.ref s.heap.objs.size,_,I2,rfl,⟨s.heap.objs.size,x,rfl,nT,rfl,λys hy=>by rw[I.q_ hy hq];exact hx⟩,⟨⟨_,by rw[show((i+1:Nat):Int)=(i:Int)+1 by push_cast;rfl];exact he₂⟩,hit₁.extBut hs₂.extBut hne.symm⟩,λb hb=>?_⟩
  have hb':b=e\/b=it:=by simpa using hb
  obtain⟨o2,ho2,_⟩:=hit
  rcases hb' with rfl|rfl
  ·rw[zX (aa0 hel)];exact f0
  ·rw[zX (aa0 (lt_size ho2))];exact g0
 done:=by
  intro X hP hw hK hc i pins s σ H E I hf st hg
  subst hP hw hK
  obtain⟨xs,hq,hx⟩:=hg
  obtain⟨its,rv,p,hz⟩:=I.list hq
  obtain⟨⟨old,he⟩,hit⟩:=st
  obtain⟨g0,g1,g2,g3,g4,g5⟩:=hf it (by simp)
  have hl:=rv.length
  exact wpAny_pyNext_enum_end (I.ok.hd hc) he hit p.isList (by simp;omega) λh' eb=>⟨rfl,I.turned (t':=s.toks) (λb o hb e=>eb b o hb e) g0 g1 g3 g4 g5⟩
 self:=λ_ _ _ _ _ st h=>let⟨⟨_,he⟩,_⟩:=st;wpAny_pyIter_enum he h
def Cd(K:PySem.W.Frag)(ta:TA):TI:=λσ H R=>ta σ H λvs H1=>∃a,vs=[.ref a]/\(∃xs,bx K H1 a xs)/\R (Ite K a) H1
theorem mj:bootBuiltins "enumerate" = some (.type "enumerate"):=by decide +kernel
theorem zQ2(hg:Gl X "enumerate")(hm:X.mg "enumerate" = none)(ha:PA X [a] ta)(hs:starEach [a] X.env=[(false,eval a X.env)]:=by rfl) :
  PI X (.Tuple elts k tp) (.Call (.Name "enumerate" p) [a] [] pos) (Cd X.K ta):=by
 intro pins s σ H R I h
 refine Call_ (A_ I hg hm mj (abl (aM (ha pos pins s σ H _ I h) λus s1 ⟨vs,H1,I1,r1,q1⟩=>?_) hs rfl))
 obtain⟨l,e,⟨xs,hq⟩,q⟩:=q1
 subst e
 cases r1 with
 |cons r rr =>
  cases rr
  cases r
  obtain⟨its,rv,p,hz⟩:=I1.list hq
  refine call_enumerate_list p.isList λh' hE hI hsz hk=>wpAny_pyIter_enum hE ?_
  have I2:Inv X pins σ H1 { s1 with heap:=h',toks:=s1.toks }:=I1.kept hk
  refine⟨s1.heap.objs.size+1,[s1.heap.objs.size+1,s1.heap.objs.size],_,_,H1,rfl,I2,zP5 l _ _ (Nat.succ_ne_self _),⟨⟨.none,hE⟩,hI⟩,λb hb=>?_,q⟩
  have hb':b=s1.heap.objs.size+1\/b=s1.heap.objs.size:=by simpa using hb
  rcases hb' with rfl|rfl
  ·exact I1.mL (ace _) (I1.hok.fresh (ace _))
  ·exact I1.mL (aav _) (I1.hok.fresh (aav _))
theorem zVh{K:PySem.W.Frag}{a:Addr}{xs:List V}{g:TG}{tb:TS}{D:Ends}{σ:St}{H:Hp}(Pv:Nat->St->Hp->Prop)(h0:Pv 0 σ H)(hl:∀i σ H,i<=xs.length->Pv i σ H->bx K H a xs)(hs:∀i x t σ H,xs[i]?=some x->H t=none->Pv i σ H->g (.ref t) σ (upd H t (.tup [.int i,x])) λσ2 H2=>tb { D with nx:=Pv (i+1),ct:=Pv (i+1),bk:=D.nx } σ2 H2)(hd:∀σ H,Pv xs.length σ H->D.nx σ H) :
  ∃W:Nat->Nat->St->Hp->Prop,(∃m,W 0 m σ H)/\∀i m σ H,W i m σ H ->
   ((Ite K a).stop i H/\D.nx σ H)\/((Ite K a).go i H/\∃N:St->Hp->Prop,(∀σ' H',N σ' H'->∃m',m'<m/\W (i+1) m' σ' H')/\∀x H',(Ite K a).Qg i H x H'->g x σ H' λσ2 H2=>tb { D with nx:=N,ct:=N,bk:=D.nx } σ2 H2):=by
 refine⟨λi m σ H=>m=xs.length-i/\i<=xs.length/\Pv i σ H,⟨xs.length,by simp,abk _,h0⟩,?_⟩
 rintro i m σ H ⟨rfl,hi,p⟩
 have q:=hl i σ H hi p
 by_cases hlt:i<xs.length
 ·refine .inr ⟨⟨xs,xs[i],q,by simp[hlt]⟩,Pv (i+1),λσ' H' p'=>⟨xs.length-(i+1),by omega,rfl,hlt,p'⟩,λx H' y=>?_⟩
  obtain⟨t,x',rfl,ht,rfl,y⟩:=y
  exact hs i x' t σ H (y xs q) ht p
 ·have e:i=xs.length:=by omega
  subst e
  exact .inl ⟨⟨xs,q,aav _⟩,hd σ H p⟩
def Y7(a:Str)(te:TE):TE:=λσ H Q=>te σ H λx H1=>(∃i,x=.int i/\i.natAbs.log2<1920/\Q (.str (a++ac8 (toString i))) H1)\/∃z,x=.str z/\z.length<=1000/\Q (.str (a++z)) H1
theorem zEy(x y:Str):(x++y).length=x.length+y.length:=by rw[<-strLen_append]
theorem Ce{a:Str}(he:PE X e te)(hl:a.length<=1000):PE X (.JoinedStr [.Constant (.str a) j p1,.FormattedValue e (-1) none p2] pos) (Y7 a te):=by
 intro pins s σ H Q I h
 refine JoinedStr_many (joinParts_cons (Calls.Constant_str ?_))
 have e0:(aea++a)=a:=by
  cases a with
  |mk c=>show Str.mk _=_;simp[aea]
 refine⟨by rw[e0];exact aa4 hl (by decide),?_⟩
 rw[e0]
 have I0:=I.tok (s.toks+1)
 refine joinParts_cons (FormattedValue_plain (aM (he pins _ σ H _ I0 h) λu s1 ⟨x,H1,I1,r1,q1⟩=>?_))
 rcases q1 with⟨i,rfl,hd,q⟩|⟨z,rfl,hz,q⟩
 ·obtain⟨t,rfl⟩:=r1
  refine formatField_int_small hd ?_
  have len:(a++ac8 (toString i)).length<=sizeLine:=by
   have:=int_text_len_1921 hd
   rw[zEy]
   exact aa4 (show a.length+(ac8 (toString i)).length<=4000 by omega) (by decide)
  refine⟨len,joinParts_nil ?_ len⟩
  exact⟨.str (a++ac8 (toString i)),H1,(I1.tok (s1.toks+1+1)).tok _,⟨_,rfl⟩,q⟩
 ·obtain⟨t,rfl⟩:=r1
  have len:(a++z).length<=sizeLine:=by
   rw[zEy]
   exact aa4 (show a.length+z.length<=4000 by omega) (by decide)
  refine formatField_str (λt' tk=>?_) (aa4 hz (by decide))
  refine⟨len,joinParts_nil ?_ len⟩
  exact⟨.str (a++z),H1,(I1.tok tk).tok _,⟨_,rfl⟩,q⟩
def Gk(K:PySem.W.Frag)(c:Value):List V->Hp->VK->Prop:=λxs H Q=>∃x y t b,xs=[x,y]/\RelV y c/\jX K H x t/\kitOne K t c=some b/\Q (.bl b) H
theorem zVu(hc:∀y u,RelV y c->RelV y u->u=c):sJ X (.builtin "isinstance") (Gk X.K c):=by
 intro pins s σ H xs us Q I r h
 obtain⟨x,y,t,b,rfl,ry,ty,e,q⟩:=h
 obtain⟨u,v,rfl,ru,rv⟩:=r.two
 obtain rfl:=hc y v ry rv
 exact zR4 I ru ty e λtk=>⟨.bl b,H,I.tok tk,rfl,q⟩
theorem Cg:∀y u,RelV y (.type n)->RelV y u->u=.type n:=λy u h1 h2=>by
 cases y<;>first
  | (cases h1;done)
  | (obtain⟨_,e⟩:=h1;cases e;done)
  | (cases h1;cases h2;rfl)
theorem wA:∀y u,RelV y (.ref a)->RelV y u->u=.ref a:=λy u h1 h2=>by
 cases y<;>first
  | (cases h1;done)
  | (obtain⟨_,e⟩:=h1;cases e;done)
  | (cases h1;cases h2;rfl)
theorem zU0{σ:St}{A B:St->Hp->Prop}(h:A (σ.set i (some x)) H):yq i x σ H (λσ4 H4=>LR σ4 H4 λb H5=>if b=true then A σ4 H5 else B σ4 H5):=by
 show if true=true then A (σ.set i (some x)) H else B (σ.set i (some x)) H
 rw[if_pos rfl]
 exact h
theorem zQ3{X:Cx}{K:PySem.W.Frag}(h:X.K=K){es:List Expr}{k:Nat}{t:Qe}{n:Nat}{pos:Pos}(hc:X.calm=true)(ht:RK X es t)(hn:(assignEach es X.env).length=n:=by rfl)(hst:(assignEach es X.env).findIdx? (·.1)=none:=by rfl):PG X (.Tuple es k pos) (KR K n t):=by
 subst h
 exact Jm hc ht hn hst
end L2
namespace Ts
open PySem L2
theorem aL(h:H p=none)(o:HO):Same H (upd H p o):=λb u q=>by rw[zX (zU q h)];exact q
theorem _root_.L2.Same.put(s:Same H H')(h:H p=none)(o:HO):Same H (upd H' p o):=λb u q=>by rw[zX (zU q h)];exact s b u q
def A2{α β:Type}(R:α->β->Prop):List α->List β->Prop
 |[],[]=>True
 |x::xs,y::ys=>R x y/\A2 R xs ys
 |_,_=>False
section
variable{α β:Type}{R R':α->β->Prop}
theorem A2.len:∀{xs:List α}{ys:List β},A2 R xs ys->xs.length=ys.length
 |[],[],_=>rfl
 |_::_,_::_,h=>congrArg (· + 1) (A2.len h.2)
 |[],_::_,h=>h.elim
 |_::_,[],h=>h.elim
theorem A2.imp(f:∀x y,R x y->R' x y):∀{xs:List α}{ys:List β},A2 R xs ys->A2 R' xs ys
 |[],[],_=>trivial
 |_::_,_::_,h=>⟨f _ _ h.1,A2.imp f h.2⟩
 |[],_::_,h=>h.elim
 |_::_,[],h=>h.elim
theorem A2.app:∀{xs:List α}{ys:List β}{xs':List α}{ys':List β},A2 R xs ys->A2 R xs' ys'->A2 R (xs++xs') (ys++ys')
 |[],[],_,_,_,h=>h
 |_::_,_::_,_,_,h,h'=>⟨h.1,A2.app h.2 h'⟩
 |[],_::_,_,_,h,_=>h.elim
 |_::_,[],_,_,h,_=>h.elim
theorem A2.snoc(h:A2 R xs ys)(r:R x y):A2 R (xs++[x]) (ys++[y]):=h.app ⟨r,trivial⟩
theorem A2.at1:∀{xs:List α}{ys:List β}{i:Nat}{x:α},A2 R xs ys->xs[i]?=some x->∃y,ys[i]?=some y/\R x y
 |[],_,_,_,_,e=>by simp at e
 |_::_,_::_,0,_,h,e=>by simp at e;subst e;exact⟨_,rfl,h.1⟩
 |_::_,_::_,i+1,_,h,e=>by
  obtain⟨y,h1,h2⟩:=A2.at1 (i:=i) h.2 (by simpa using e)
  exact⟨y,by simpa using h1,h2⟩
 |_::_,[],_,_,h,_=>h.elim
theorem A2.at2:∀{xs:List α}{ys:List β}{i:Nat}{y:β},A2 R xs ys->ys[i]?=some y->∃x,xs[i]?=some x/\R x y
 |_,[],_,_,_,e=>by simp at e
 |_::_,_::_,0,_,h,e=>by simp at e;subst e;exact⟨_,rfl,h.1⟩
 |_::_,_::_,i+1,_,h,e=>by
  obtain⟨y,h1,h2⟩:=A2.at2 (i:=i) h.2 (by simpa using e)
  exact⟨y,by simpa using h1,h2⟩
 |[],_::_,_,_,h,_=>h.elim
theorem A2.set(r:R x y):∀{xs:List α}{ys:List β}(i:Nat),A2 R xs ys->A2 R (xs.set i x) (ys.set i y)
 |[],[],_,_=>trivial
 |_::_,_::_,0,h=>⟨r,h.2⟩
 |_::_,_::_,i+1,h=>⟨h.1,A2.set r i h.2⟩
 |[],_::_,_,h=>h.elim
 |_::_,[],_,h=>h.elim
theorem A2.tk:∀{xs:List α}{ys:List β}(i:Nat),A2 R xs ys->A2 R (xs.take i) (ys.take i)
 |[],[],_,_=>by simp[A2]
 |_::_,_::_,0,h=>trivial
 |_::_,_::_,i+1,h=>⟨h.1,A2.tk i h.2⟩
 |[],_::_,_,h=>h.elim
 |_::_,[],_,h=>h.elim
theorem A2.dr:∀{xs:List α}{ys:List β}(i:Nat),A2 R xs ys->A2 R (xs.drop i) (ys.drop i)
 |[],[],_,_=>by simp[A2]
 |_::_,_::_,0,h=>h
 |_::_,_::_,i+1,h=>A2.dr i h.2
 |[],_::_,_,h=>h.elim
 |_::_,[],_,h=>h.elim
theorem A2.of_map{f:β->α}(h:∀y,R (f y) y):∀ys:List β,A2 R (ys.map f) ys
 |[]=>trivial
 |y::ys=>⟨h y,A2.of_map h ys⟩
end
class Rp (K:PySem.W.Frag) (α:Type) where
 rp:Hp->V->α->Prop
 mono:∀{F F':Hp}{v:V}{a:α},Same F F'->rp F v a->rp F' v a
abbrev rp(K:PySem.W.Frag){α:Type}[Rp K α]:Hp->V->α->Prop:=Rp.rp (K:=K)
class Nn (K:PySem.W.Frag) (α:Type) [Rp K α]:Prop where
 nn:∀{F:Hp}{v:V}{a:α},rp K F v a->v≠.non
class Sc (K:PySem.W.Frag) (α:Type) [Rp K α] where
 val:α->V
 is:∀{F:Hp}{v:V}{a:α},rp K F v a↔v=val a
 inj:∀{a b:α},val a=val b->a=b
section
variable{K:PySem.W.Frag}
instance:Rp K Int:=⟨λ_ v n=>v=.int n,λ_ h=>h⟩
instance:Rp K Bool:=⟨λ_ v n=>v=.bl n,λ_ h=>h⟩
instance:Rp K Str:=⟨λ_ v n=>v=.str n,λ_ h=>h⟩
instance:Rp K Unit:=⟨λ_ v _=>v=.non,λ_ h=>h⟩
instance{α:Type}[Rp K α]:Rp K (Option α):=⟨λF v a=>match a with
 |none=>v=.non
 |some x=>v≠.non/\rp K F v x,λ{F F' v a} s h=>match a,h with
 |none,h=>h
 |some x,h=>⟨h.1,Rp.mono s h.2⟩⟩
instance{α:Type}[Rp K α]:Rp K (List α):=⟨λF v xs=>∃p vs,v=.ref p/\F p=some (.lst vs)/\A2 (rp K F) vs xs,λs ⟨p,vs,h1,h2,h3⟩=>⟨p,vs,h1,s _ _ h2,h3.imp λ_ _=>Rp.mono s⟩⟩
instance{α β:Type}[Rp K α][Rp K β]:Rp K (α×β):=⟨λF v x=>∃p a b,v=.ref p/\F p=some (.tup [a,b])/\rp K F a x.1/\rp K F b x.2,λs ⟨p,a,b,h1,h2,h3,h4⟩=>⟨p,a,b,h1,s _ _ h2,Rp.mono s h3,Rp.mono s h4⟩⟩
structure yx where
 ns:LI
instance:Rp K yx:=⟨λF v x=>∃p,v=.ref p/\bx K F p (x.ns.map V.int),λs ⟨p,h1,h2⟩=>⟨p,h1,s.seq h2⟩⟩
instance:Nn K Int:=⟨λh=>by cases h;intro e;cases e⟩
instance:Nn K Bool:=⟨λh=>by cases h;intro e;cases e⟩
instance:Nn K Str:=⟨λh=>by cases h;intro e;cases e⟩
instance{α:Type}[Rp K α]:Nn K (List α):=⟨λ⟨_,_,h,_⟩=>by rw[h];intro e;cases e⟩
instance{α β:Type}[Rp K α][Rp K β]:Nn K (α×β):=⟨λ⟨_,_,_,h,_⟩=>by rw[h];intro e;cases e⟩
instance:Sc K Int:=⟨V.int,aem,λh=>by cases h;rfl⟩
instance:Sc K Bool:=⟨V.bl,aem,λh=>by cases h;rfl⟩
instance:Sc K Str:=⟨V.str,aem,λh=>by cases h;rfl⟩
instance{α:Type}[Rp K α][Sc K α][Nn K α]:Sc K (Option α):=⟨λa=>match a with
 |none=>.non
 |some x=>Sc.val K x,λ{F v a}=>match a with
 |none=>aem
 |some x=>⟨λh=>Sc.is.mp h.2,λh=>⟨Nn.nn (K:=K) (F:=F) (a:=x) (Sc.is.mpr h),Sc.is.mpr h⟩⟩,λ{a b} h=>match a,b,h with
 |none,none,_=>rfl
 |some x,some y,h=>by rw[Sc.inj (K:=K) (a:=x) (b:=y) h]
 |none,some y,h=>absurd h.symm (Nn.nn (K:=K) (F:=λ_=>none) (a:=y) (Sc.is.mpr rfl))
 |some x,none,h=>absurd h (Nn.nn (K:=K) (F:=λ_=>none) (a:=x) (Sc.is.mpr rfl))⟩
theorem Wi{α:Type}[Rp K α][Sc K α]{a:α}(h:rp K F v a):rp K F' v a:=Sc.is.mpr (Sc.is.mp h)
inductive Md|nw|fz|hp
def dif(H H0:Hp):Hp:=λb=>match H0 b with
 |none=>H b
 |some _=>none
def ext(Fa H0 H:Hp):Hp:=λb=>match H0 b with
 |none=>H b
 |some _=>Fa b
structure Bs where
 Fa:Hp
 H0:Hp
abbrev Own:=List (Addr×HO)
def reg(B:Bs)(F H:Hp):Md->Hp
 |.nw=>dif F B.H0
 |.fz=>F
 |.hp=>H
theorem aZ:Same (dif H H0) H:=λb o h=>by
 unfold dif at h
 cases e:H0 b with
 |none=>rw[e] at h;exact h
 |some u=>rw[e] at h;cases h
theorem vp(h:H0 b=none):dif H H0 b=H b:=by
 unfold dif
 rw[h]
theorem vJ(s:Same H H'):Same (dif H H0) (dif H' H0):=λb o h=>by
 unfold dif at h ⊢
 cases e:H0 b with
 |none=>rw[e] at h;exact s b o h
 |some u=>rw[e] at h;cases h
structure Ok(B:Bs)(F:Hp)(O:Own)(H:Hp):Prop where
 fh:Same F H
 h0:Same B.H0 H
 fa:∀b o,F b=some o->B.Fa b=some o\/B.H0 b=none
 fo:∀x∈O,F x.1=none/\B.H0 x.1=none/\H x.1=some x.2
 nd:(O.map (·.1)).Nodup
structure bN(B:Bs)(F H:Hp)(O:Own)(F' H':Hp):Prop where
 ff:Same F F'
 hh:Same H H'
 ok:Ok B F' O H'
 nw:∀b,F b=none->H b≠none->F' b=none
section
variable{B:Bs}{F H F' H' F2 H2:Hp}{O:Own}
theorem bN.refl(k:Ok B F O H):bN B F H O F H:=⟨.refl _,.refl _,k,λ_ h _=>h⟩
theorem bN.trans(a:bN B F H O F' H')(b:bN B F' H' O F2 H2):bN B F H O F2 H2 :=
 ⟨a.ff.trans b.ff,a.hh.trans b.hh,b.ok,λq h1 h2=>b.nw q (a.nw q h1 h2) λe=>h2 (a.hh.free e)⟩
theorem bN.new(k:Ok B F O H)(h:H p=none)(o:HO):bN B F H O (upd F p o) (upd H p o):=by
 have fp:=k.fh.free h
 refine⟨aL fp o,aL h o,⟨λb u e=>?_,k.h0.put (k.h0.free h) o,λb u e=>?_,λx hx=>?_,k.nd⟩,λb h1 h2=>?_⟩
 ·by_cases q:b=p
  ·subst q;rw[zT] at e ⊢;exact e
  ·rw[zX q] at e ⊢;exact k.fh b u e
 ·by_cases q:b=p
  ·subst q;exact .inr (k.h0.free h)
  ·rw[zX q] at e;exact k.fa b u e
 ·obtain⟨a1,a2,a3⟩:=k.fo x hx
  have q:x.1≠p:=zU a3 h
  exact⟨by rw[zX q];exact a1,a2,by rw[zX q];exact a3⟩
 ·rw[zX λe=>h2 (by rw[e];exact h)];exact h1
theorem xC(g:bN B F H O F' H')(md:Md):Same (reg B F H md) (reg B F' H' md):=match md with
 |.nw=>vJ g.ff
 |.fz=>g.ff
 |.hp=>g.hh
end
inductive Slot(K:PySem.W.Frag):Type 1
 |un
 |fz (n:Bool) {α:Type} [Rp K α] (a:α)
 |hs {α:Type} [Rp K α] (a:α)
 |nu {α:Type} [Rp K α] (a:α)
 |ow (n:Bool) {α:Type} [Rp K α] (xs:List α)
 |od {α:Type} [Rp K α] (kvs:List (Key×α))
abbrev SL(K:PySem.W.Frag):=List (Slot K)
abbrev jD:Bool->Md
 |true=>.nw
 |false=>.fz
def lo(F:Hp)(O:Own)(H:Hp):Hp:=λb=>if(F b).isSome||(O.any λx=>x.1==b) then none else H b
inductive ao(B:Bs)(F L H:Hp):SL K->St->Own->Prop
 |nil:ao B F L H [] [] []
 |un {sl:SL K} {σ:St} {O:Own} {x:Option V}:ao B F L H sl σ O->ao B F L H (.un::sl) (x::σ) O
 |fz {n:Bool} {α:Type} [Rp K α] {a:α} {sl:SL K} {σ:St} {O:Own} {v:V}:rp K (reg B F H (jD n)) v a->ao B F L H sl σ O->ao B F L H (.fz n a::sl) (some v::σ) O
 |hs {α:Type} [Rp K α] {a:α} {sl:SL K} {σ:St} {O:Own} {v:V}:rp K H v a->ao B F L H sl σ O->ao B F L H (.hs a::sl) (some v::σ) O
 |nu {α:Type} [Rp K α] {a:α} {sl:SL K} {σ:St} {O:Own} {v:V}:rp K (dif L B.H0) v a->ao B F L H sl σ O->ao B F L H (.nu a::sl) (some v::σ) O
 |ow {n:Bool} {α:Type} [Rp K α] {xs:List α} {sl:SL K} {σ:St} {O:Own} {p:Addr} {vs:List V}:A2 (rp K (reg B F H (jD n))) vs xs->ao B F L H sl σ O->ao B F L H (.ow n xs::sl) (some (.ref p)::σ) ((p,.lst vs)::O)
 |od {α:Type} [Rp K α] {kvs:List (Key×α)} {sl:SL K} {σ:St} {O:Own} {p:Addr} {ks:List (Key×V)}:A2 (λ(x:Key×V) (y:Key×α)=>x.1=y.1/\rp K F x.2 y.2) ks kvs->ao B F L H sl σ O->ao B F L H (.od kvs::sl) (some (.ref p)::σ) ((p,.dK ks)::O)
def At(B:Bs)(sl:SL K)(F:Hp)(O:Own)(H:Hp)(σ:St):Prop:=Ok B F O H/\ao B F (lo F O H) H sl σ O
abbrev mQ:Slot K->Bool
 |@Slot.ow _ _ _ _ _=>true
 |@Slot.od _ _ _ _=>true
 |_=>false
abbrev mR:Slot K->Bool
 |@Slot.hs _ _ _ _=>true
 |_=>false
section
variable{B:Bs}{F H F' H' L L':Hp}{O O':Own}{sl:SL K}{σ:St}
theorem Ci(n:Bool)(hF:Same F F'):Same (reg B F H (jD n)) (reg B F' H' (jD n)):=match n with
 |true=>vJ hF
 |false=>hF
theorem ao.mono(hF:Same F F')(hL:Same L L')(hH:Same H H')(h:ao B F L H sl σ O):ao B F' L' H' sl σ O:=by
 induction h with
 |nil=>exact .nil
 |un _ ih=>exact .un ih
 |fz r _ ih=>exact .fz (Rp.mono (Ci _ hF) r) ih
 |hs r _ ih=>exact .hs (Rp.mono hH r) ih
 |nu r _ ih=>exact .nu (Rp.mono (vJ hL) r) ih
 |ow r _ ih=>exact .ow (r.imp λ_ _=>Rp.mono (Ci _ hF)) ih
 |od r _ ih=>exact .od (r.imp λ_ _ z=>⟨z.1,Rp.mono hF z.2⟩) ih
theorem ao.mut(hL:Same L L')(h:ao B F L H sl σ O)(hn:sl.all (λs=>!mR s)=true):ao B F L' H' sl σ O:=by
 induction h with
 |nil=>exact .nil
 |un _ ih=>exact .un (ih (by rw[all_cons,aaz] at hn;exact hn.2))
 |fz r _ ih=>exact .fz (Rp.mono (Ci _ (.refl _)) r) (ih (by rw[all_cons,aaz] at hn;exact hn.2))
 |hs r _ ih=>rw[all_cons,aaz] at hn;exact absurd hn.1 (by simp)
 |nu r _ ih=>exact .nu (Rp.mono (vJ hL) r) (ih (by rw[all_cons,aaz] at hn;exact hn.2))
 |ow r _ ih=>exact .ow (r.imp λ_ _=>Rp.mono (Ci _ (.refl _))) (ih (by rw[all_cons,aaz] at hn;exact hn.2))
 |od r _ ih=>exact .od r (ih (by rw[all_cons,aaz] at hn;exact hn.2))
theorem zRu(g:bN B F H O F' H'):Same (lo F O H) (lo F' O H'):=λb o h=>by
 unfold lo at h ⊢
 cases e:(F b).isSome||(O.any λx=>x.1==b) with
 |true=>rw[e] at h;cases h
 |false =>
  rw[e] at h
  have hb:H b=some o:=h
  rw[Bool.or_eq_false_iff] at e
  have f':F' b=none:=g.nw b (by cases q:F b with|none=>rfl|some u=>rw[q] at e;cases e.1) (by rw[hb];intro z;cases z)
  rw[f',e.2]
  exact g.hh b o hb
theorem At.grow(h:At B sl F O H σ)(g:bN B F H O F' H'):At B sl F' O H' σ:=⟨g.ok,h.2.mono g.ff (zRu g) g.hh⟩
theorem ao.rC{α:Type}[Rp K α]{a:α}(h:ao B F L H sl σ O):∀{i:Nat},sl[i]?=some (.fz n a)->∃v,σ[i]?=some (some v)/\rp K (reg B F H (jD n)) v a:=by
 induction h with
 |nil=>intro i e;simp at e
 |fz r _ ih =>
  intro i e
  cases i with
  |zero=>simp only[getElem?_cons_zero] at e;cases e;exact⟨_,rfl,r⟩
  |succ i=>exact ih (by simpa using e)
 |_ =>
  rename_i ih
  intro i e
  cases i with
  |zero=>simp only[getElem?_cons_zero] at e;cases e
  |succ i=>exact ih (by simpa using e)
theorem ao.S5{α:Type}[Rp K α]{a:α}(h:ao B F L H sl σ O):∀{i:Nat},sl[i]?=some (.hs a)->∃v,σ[i]?=some (some v)/\rp K H v a:=by
 induction h with
 |nil=>intro i e;simp at e
 |hs r _ ih =>
  intro i e
  cases i with
  |zero=>simp only[getElem?_cons_zero] at e;cases e;exact⟨_,rfl,r⟩
  |succ i=>exact ih (by simpa using e)
 |_ =>
  rename_i ih
  intro i e
  cases i with
  |zero=>simp only[getElem?_cons_zero] at e;cases e
  |succ i=>exact ih (by simpa using e)
theorem ao.S6{α:Type}[Rp K α]{a:α}(h:ao B F L H sl σ O):∀{i:Nat},sl[i]?=some (.nu a)->∃v,σ[i]?=some (some v)/\rp K (dif L B.H0) v a:=by
 induction h with
 |nil=>intro i e;simp at e
 |nu r _ ih =>
  intro i e
  cases i with
  |zero=>simp only[getElem?_cons_zero] at e;cases e;exact⟨_,rfl,r⟩
  |succ i=>exact ih (by simpa using e)
 |_ =>
  rename_i ih
  intro i e
  cases i with
  |zero=>simp only[getElem?_cons_zero] at e;cases e
  |succ i=>exact ih (by simpa using e)
theorem ao.put(h:ao B F L H sl σ O)(new:∀(sl:SL K) (σ:St) (O:Own),ao B F L H sl σ O->ao B F L H (s'::sl) (x::σ) O):∀{i:Nat},sl[i]?=some s->mQ s=false->ao B F L H (sl.set i s') (σ.set i x) O:=by
 induction h with
 |nil=>intro i e;simp at e
 |un g ih =>
  intro i e o
  cases i with
  |zero=>exact new _ _ _ g
  |succ i=>exact .un (ih (by simpa using e) o)
 |fz r g ih =>
  intro i e o
  cases i with
  |zero=>exact new _ _ _ g
  |succ i=>exact .fz r (ih (by simpa using e) o)
 |hs r g ih =>
  intro i e o
  cases i with
  |zero=>exact new _ _ _ g
  |succ i=>exact .hs r (ih (by simpa using e) o)
 |nu r g ih =>
  intro i e o
  cases i with
  |zero=>exact new _ _ _ g
  |succ i=>exact .nu r (ih (by simpa using e) o)
 |ow r g ih =>
  intro i e o
  cases i with
  |zero=>simp only[getElem?_cons_zero] at e;cases e;cases o
  |succ i=>exact .ow r (ih (by simpa using e) o)
 |od r g ih =>
  intro i e o
  cases i with
  |zero=>simp only[getElem?_cons_zero] at e;cases e;cases o
  |succ i=>exact .od r (ih (by simpa using e) o)
theorem ao.own(h:ao B F L H sl σ O)(new:∀(sl:SL K) (σ:St) (O:Own),ao B F L H sl σ O->ao B F L H (s'::sl) (x::σ) (c::O)) :
  ∀{i:Nat},sl[i]?=some s->mQ s=false->∃O1 O2,O=O1++O2/\ao B F L H (sl.set i s') (σ.set i x) (O1++c::O2):=by
 induction h with
 |nil=>intro i e;simp at e
 |un g ih =>
  intro i e o
  cases i with
  |zero=>exact⟨[],_,rfl,new _ _ _ g⟩
  |succ i=>obtain⟨O1,O2,q,z⟩:=ih (by simpa using e) o;exact⟨O1,O2,q,.un z⟩
 |fz r g ih =>
  intro i e o
  cases i with
  |zero=>exact⟨[],_,rfl,new _ _ _ g⟩
  |succ i=>obtain⟨O1,O2,q,z⟩:=ih (by simpa using e) o;exact⟨O1,O2,q,.fz r z⟩
 |hs r g ih =>
  intro i e o
  cases i with
  |zero=>exact⟨[],_,rfl,new _ _ _ g⟩
  |succ i=>obtain⟨O1,O2,q,z⟩:=ih (by simpa using e) o;exact⟨O1,O2,q,.hs r z⟩
 |nu r g ih =>
  intro i e o
  cases i with
  |zero=>exact⟨[],_,rfl,new _ _ _ g⟩
  |succ i=>obtain⟨O1,O2,q,z⟩:=ih (by simpa using e) o;exact⟨O1,O2,q,.nu r z⟩
 |ow r g ih =>
  intro i e o
  cases i with
  |zero=>simp only[getElem?_cons_zero] at e;cases e;cases o
  |succ i=>obtain⟨O1,O2,q,z⟩:=ih (by simpa using e) o;exact⟨_::O1,O2,by rw[q]<;>rfl,.ow r z⟩
 |od r g ih =>
  intro i e o
  cases i with
  |zero=>simp only[getElem?_cons_zero] at e;cases e;cases o
  |succ i=>obtain⟨O1,O2,q,z⟩:=ih (by simpa using e) o;exact⟨_::O1,O2,by rw[q]<;>rfl,.od r z⟩
theorem ao.rD{α:Type}[Rp K α]{xs:List α}(h:ao B F L H sl σ O):∀{i:Nat},sl[i]?=some (.ow n xs) ->
  ∃O1 O2 p vs,O=O1++(p,.lst vs)::O2/\σ[i]?=some (some (.ref p))/\A2 (rp K (reg B F H (jD n))) vs xs /\
   (∀(s':Slot K)(x:Option V)(c:Addr×HO),(∀(sl:SL K)(σ:St)(O:Own),ao B F L H sl σ O->ao B F L H (s'::sl) (x::σ) (c::O))->ao B F L H (sl.set i s') (σ.set i x) (O1++c::O2)) /\
   (∀(s':Slot K)(x:Option V),(∀(sl:SL K)(σ:St)(O:Own),ao B F L H sl σ O->ao B F L H (s'::sl) (x::σ) O)->ao B F L H (sl.set i s') (σ.set i x) (O1++O2)):=by
 induction h with
 |nil=>intro i e;simp at e
 |un g ih =>
  intro i e
  cases i with
  |zero=>simp only[getElem?_cons_zero] at e;cases e
  |succ i=>obtain⟨O1,O2,p,vs,q,h1,h2,h3,h4⟩:=ih (by simpa using e);exact⟨O1,O2,p,vs,q,h1,h2,λs' x c z=>.un (h3 s' x c z),λs' x z=>.un (h4 s' x z)⟩
 |fz r g ih =>
  intro i e
  cases i with
  |zero=>simp only[getElem?_cons_zero] at e;cases e
  |succ i=>obtain⟨O1,O2,p,vs,q,h1,h2,h3,h4⟩:=ih (by simpa using e);exact⟨O1,O2,p,vs,q,h1,h2,λs' x c z=>.fz r (h3 s' x c z),λs' x z=>.fz r (h4 s' x z)⟩
 |hs r g ih =>
  intro i e
  cases i with
  |zero=>simp only[getElem?_cons_zero] at e;cases e
  |succ i=>obtain⟨O1,O2,p,vs,q,h1,h2,h3,h4⟩:=ih (by simpa using e);exact⟨O1,O2,p,vs,q,h1,h2,λs' x c z=>.hs r (h3 s' x c z),λs' x z=>.hs r (h4 s' x z)⟩
 |nu r g ih =>
  intro i e
  cases i with
  |zero=>simp only[getElem?_cons_zero] at e;cases e
  |succ i=>obtain⟨O1,O2,p,vs,q,h1,h2,h3,h4⟩:=ih (by simpa using e);exact⟨O1,O2,p,vs,q,h1,h2,λs' x c z=>.nu r (h3 s' x c z),λs' x z=>.nu r (h4 s' x z)⟩
 |ow r g ih =>
  intro i e
  cases i with
  |zero=>simp only[getElem?_cons_zero] at e;cases e;exact⟨[],_,_,_,rfl,rfl,r,λs' x c z=>z _ _ _ g,λs' x z=>z _ _ _ g⟩
  |succ i=>obtain⟨O1,O2,p,vs,q,h1,h2,h3,h4⟩:=ih (by simpa using e);exact⟨_::O1,O2,p,vs,by rw[q]<;>rfl,h1,h2,λs' x c z=>.ow r (h3 s' x c z),λs' x z=>.ow r (h4 s' x z)⟩
 |od r g ih =>
  intro i e
  cases i with
  |zero=>simp only[getElem?_cons_zero] at e;cases e
  |succ i=>obtain⟨O1,O2,p,vs,q,h1,h2,h3,h4⟩:=ih (by simpa using e);exact⟨_::O1,O2,p,vs,by rw[q]<;>rfl,h1,h2,λs' x c z=>.od r (h3 s' x c z),λs' x z=>.od r (h4 s' x z)⟩
theorem ao.Cj{α:Type}[Rp K α]{kvs:List (Key×α)}(h:ao B F L H sl σ O):∀{i:Nat},sl[i]?=some (.od kvs) ->
  ∃O1 O2 p ks,O=O1++(p,.dK ks)::O2/\σ[i]?=some (some (.ref p))/\A2 (λ(x:Key×V) (y:Key×α)=>x.1=y.1/\rp K F x.2 y.2) ks kvs /\
   (∀(s':Slot K)(x:Option V)(c:Addr×HO),(∀(sl:SL K)(σ:St)(O:Own),ao B F L H sl σ O->ao B F L H (s'::sl) (x::σ) (c::O))->ao B F L H (sl.set i s') (σ.set i x) (O1++c::O2)) /\
   (∀(s':Slot K)(x:Option V),(∀(sl:SL K)(σ:St)(O:Own),ao B F L H sl σ O->ao B F L H (s'::sl) (x::σ) O)->ao B F L H (sl.set i s') (σ.set i x) (O1++O2)):=by
 induction h with
 |nil=>intro i e;simp at e
 |un g ih =>
  intro i e
  cases i with
  |zero=>simp only[getElem?_cons_zero] at e;cases e
  |succ i=>obtain⟨O1,O2,p,vs,q,h1,h2,h3,h4⟩:=ih (by simpa using e);exact⟨O1,O2,p,vs,q,h1,h2,λs' x c z=>.un (h3 s' x c z),λs' x z=>.un (h4 s' x z)⟩
 |fz r g ih =>
  intro i e
  cases i with
  |zero=>simp only[getElem?_cons_zero] at e;cases e
  |succ i=>obtain⟨O1,O2,p,vs,q,h1,h2,h3,h4⟩:=ih (by simpa using e);exact⟨O1,O2,p,vs,q,h1,h2,λs' x c z=>.fz r (h3 s' x c z),λs' x z=>.fz r (h4 s' x z)⟩
 |hs r g ih =>
  intro i e
  cases i with
  |zero=>simp only[getElem?_cons_zero] at e;cases e
  |succ i=>obtain⟨O1,O2,p,vs,q,h1,h2,h3,h4⟩:=ih (by simpa using e);exact⟨O1,O2,p,vs,q,h1,h2,λs' x c z=>.hs r (h3 s' x c z),λs' x z=>.hs r (h4 s' x z)⟩
 |nu r g ih =>
  intro i e
  cases i with
  |zero=>simp only[getElem?_cons_zero] at e;cases e
  |succ i=>obtain⟨O1,O2,p,vs,q,h1,h2,h3,h4⟩:=ih (by simpa using e);exact⟨O1,O2,p,vs,q,h1,h2,λs' x c z=>.nu r (h3 s' x c z),λs' x z=>.nu r (h4 s' x z)⟩
 |od r g ih =>
  intro i e
  cases i with
  |zero=>simp only[getElem?_cons_zero] at e;cases e;exact⟨[],_,_,_,rfl,rfl,r,λs' x c z=>z _ _ _ g,λs' x z=>z _ _ _ g⟩
  |succ i=>obtain⟨O1,O2,p,vs,q,h1,h2,h3,h4⟩:=ih (by simpa using e);exact⟨_::O1,O2,p,vs,by rw[q]<;>rfl,h1,h2,λs' x c z=>.od r (h3 s' x c z),λs' x z=>.od r (h4 s' x z)⟩
 |ow r g ih =>
  intro i e
  cases i with
  |zero=>simp only[getElem?_cons_zero] at e;cases e
  |succ i=>obtain⟨O1,O2,p,vs,q,h1,h2,h3,h4⟩:=ih (by simpa using e);exact⟨_::O1,O2,p,vs,by rw[q]<;>rfl,h1,h2,λs' x c z=>.ow r (h3 s' x c z),λs' x z=>.ow r (h4 s' x z)⟩
end
end
section
variable{K:PySem.W.Frag}{B:Bs}{F H F' H' L L':Hp}{O O' O1 O2:Own}{sl:SL K}{σ:St}{p:Addr}{o o':HO}
theorem Y8{α:Type}{a b:List α}{x:α}:(a++x::b).Nodup↔(a++b).Nodup/\x∉a++b:=by
 have q:(a++x::b).Perm (x::(a++b)):=List.perm_middle
 rw[q.nodup_iff,nodup_cons]
 exact⟨λh=>⟨h.2,h.1⟩,λh=>⟨h.2,h.1⟩⟩
theorem Ok.add(k:Ok B F (O1++O2) H)(h:H p=none):Ok B F (O1++(p,o)::O2) (upd H p o):=by
 refine⟨λb u e=>?_,k.h0.put (k.h0.free h) o,k.fa,λx hx=>?_,?_⟩
 ·rw[zX (zU (k.fh b u e) h)];exact k.fh b u e
 ·have hx':x=(p,o)\/x∈O1++O2:=by
   rcases mem_append.mp hx with z|z
   ·exact .inr (mem_append.mpr (.inl z))
   ·rcases mem_cons.mp z with z|z
    ·exact .inl z
    ·exact .inr (mem_append.mpr (.inr z))
  rcases hx' with rfl|hx'
  ·exact⟨k.fh.free h,k.h0.free h,zT⟩
  ·obtain⟨a1,a2,a3⟩:=k.fo x hx'
   exact⟨a1,a2,by rw[zX (zU a3 h)];exact a3⟩
 ·rw[map_append,map_cons,Y8,<-map_append]
  refine⟨k.nd,λz=>?_⟩
  obtain⟨x,hx,e⟩:=mem_map.mp z
  obtain⟨_,_,a3⟩:=k.fo x hx
  have e':x.1=p:=e
  rw[e',h] at a3
  cases a3
theorem Ok.one(k:Ok B F (O1++(p,o)::O2) H):F p=none/\B.H0 p=none/\H p=some o:=k.fo (p,o) (mem_append.mpr (.inr mem_cons_self))
theorem Ok.ndp(k:Ok B F (O1++(p,o)::O2) H):∀x∈O1++O2,x.1≠p:=λx hx e=>by
 have q:=k.nd
 rw[map_append,map_cons,Y8,<-map_append] at q
 exact q.2 (mem_map.mpr ⟨x,hx,e⟩)
theorem Ok.drop(k:Ok B F (O1++(p,o)::O2) H):Ok B F (O1++O2) H:=by
 refine⟨k.fh,k.h0,k.fa,λx hx=>k.fo x ?_,?_⟩
 ·rcases mem_append.mp hx with z|z
  ·exact mem_append.mpr (.inl z)
  ·exact mem_append.mpr (.inr (mem_cons_of_mem _ z))
 ·have q:=k.nd
  rw[map_append,map_cons,Y8,<-map_append] at q
  exact q.1
theorem Ok.chg(k:Ok B F (O1++(p,o)::O2) H)(o':HO):Ok B F (O1++(p,o')::O2) (upd H p o'):=by
 obtain⟨a1,a2,a3⟩:=k.one
 refine⟨k.fh.put a1 o',k.h0.put a2 o',k.fa,λx hx=>?_,?_⟩
 ·have hx':x=(p,o')\/x∈O1++O2:=by
   rcases mem_append.mp hx with z|z
   ·exact .inr (mem_append.mpr (.inl z))
   ·rcases mem_cons.mp z with z|z
    ·exact .inl z
    ·exact .inr (mem_append.mpr (.inr z))
  rcases hx' with rfl|hx'
  ·exact⟨a1,a2,zT⟩
  ·obtain⟨b1,b2,b3⟩:=k.drop.fo x hx'
   exact⟨b1,b2,by rw[zX (k.ndp x hx')];exact b3⟩
 ·have q:=k.nd
  rw[map_append,map_cons] at q ⊢
  exact q
theorem Ok.freeze(k:Ok B F (O1++(p,o)::O2) H):Ok B (upd F p o) (O1++O2) H:=by
 obtain⟨a1,a2,a3⟩:=k.one
 refine⟨λb u e=>?_,k.h0,λb u e=>?_,λx hx=>?_,k.drop.nd⟩
 ·by_cases q:b=p
  ·subst q;rw[zT] at e;cases e;exact a3
  ·rw[zX q] at e;exact k.fh b u e
 ·by_cases q:b=p
  ·subst q;exact .inr a2
  ·rw[zX q] at e;exact k.fa b u e
 ·obtain⟨b1,b2,b3⟩:=k.drop.fo x hx
  exact⟨by rw[zX (k.ndp x hx)];exact b1,b2,b3⟩
theorem Y9(h:H p=none):Same (lo F (O1++O2) H) (lo F (O1++(p,o)::O2) (upd H p o)):=λb u e=>by
 unfold lo at e ⊢
 by_cases q:b=p
 ·subst q
  split at e
  ·cases e
  ·rw[h] at e;cases e
 ·rw[zX q]
  have z:((O1++(p,o)::O2).any λx=>x.1==b)=((O1++O2).any λx=>x.1==b):=by
   rw[any_append,any_append,any_cons]
   have:(p==b)=false:=by simp;exactλe=>q e.symm
   simp[this]
  rw[z]
  exact e
theorem zWj:Same (lo F (O1++(p,o)::O2) H) (lo F (O1++(p,o')::O2) (upd H p o')):=λb u e=>by
 unfold lo at e ⊢
 by_cases q:b=p
 ·subst q
  rw[any_append,any_cons] at e
  simp at e
 ·rw[zX q]
  have z:((O1++(p,o)::O2).any λx=>x.1==b)=((O1++(p,o')::O2).any λx=>x.1==b):=by
   rw[any_append,any_append,any_cons,any_cons]
  rw[<-z]
  exact e
theorem mG:Same (lo F (O1++(p,o)::O2) H) (lo F (O1++O2) H):=λb u e=>by
 unfold lo at e ⊢
 split at e
 ·cases e
 ·rename_i h
  rw[if_neg]
  ·exact e
  ·rw[any_append,any_cons] at h
   rw[any_append]
   simp at h ⊢
   exact⟨h.1,h.2.1,h.2.2.2⟩
theorem pJ:Same (lo F (O1++(p,o)::O2) H) (lo (upd F p o) (O1++O2) H):=λb u e=>by
 unfold lo at e ⊢
 split at e
 ·cases e
 ·rename_i h
  rw[any_append,any_cons] at h
  simp at h
  have q:b≠p:=λz=>h.2.2.1 z.symm
  rw[zX q,if_neg]
  ·exact e
  ·rw[any_append]
   simp
   exact⟨h.1,h.2.1,h.2.2.2⟩
theorem Ok.called(k:Ok B F O H)(s:Same H H'):bN B F H O (ext F H H') H':=by
 have e1:∀b o,ext F H H' b=some o->F b=some o\/H b=none:=λb o h=>by
  unfold ext at h
  cases q:H b with
  |none=>exact .inr rfl
  |some u=>rw[q] at h;exact .inl h
 refine⟨λb o h=>?_,s,⟨λb o h=>?_,k.h0.trans s,λb o h=>?_,λx hx=>?_,k.nd⟩,λb h1 h2=>?_⟩
 ·unfold ext
  rw[k.fh b o h]
  exact h
 ·unfold ext at h
  cases q:H b with
  |none=>rw[q] at h;exact h
  |some u=>rw[q] at h;rw[<-k.fh b o h];exact(s b u q).trans q.symm
 ·rcases e1 b o h with z|z
  ·exact k.fa b o z
  ·exact .inr (k.h0.free z)
 ·obtain⟨a1,a2,a3⟩:=k.fo x hx
  refine⟨?_,a2,s _ _ a3⟩
  unfold ext
  rw[a3]
  exact a1
 ·unfold ext
  cases q:H b with
  |none=>exact absurd q h2
  |some u=>exact h1
theorem Y_(h0:Same B.H0 H)(s:Same H H'):Same (dif H' H) (dif (ext F H H') B.H0):=λb o h=>by
 unfold dif at h
 cases q:H b with
 |none =>
  rw[q] at h
  rw[vp (h0.free q)]
  unfold ext
  rw[q]
  exact h
 |some u=>rw[q] at h;cases h
theorem zVj(s:Same H H'):Same (ext H H H') H':=λb o h=>by
 unfold ext at h
 cases q:H b with
 |none=>rw[q] at h;exact h
 |some u=>rw[q] at h;cases(show some u=some o from h);exact s b _ q
theorem Ma(h0:Same B.H0 H):Same (ext (dif F B.H0) H H') (dif (ext F H H') B.H0):=λb o h=>by
 unfold ext at h
 cases q:H b with
 |none =>
  rw[q] at h
  rw[vp (h0.free q)]
  unfold ext
  rw[q]
  exact h
 |some u =>
  rw[q] at h
  have z:B.H0 b=none:=by
   cases z:B.H0 b with
   |none=>rfl
   |some w =>
    unfold dif at h
    simp only[z] at h
    cases h
  rw[vp z] at h ⊢
  unfold ext
  rw[q]
  exact h
variable{md md1 md2:Md}{α β γ:Type}[Rp K α][Rp K β][Rp K γ]{t t1 t2:TE}{m:Option α}{m1:Option β}{m2:Option γ}
def Ex(B:Bs)(sl:SL K)(md:Md)(t:TE){α:Type}[Rp K α](m:Option α):Prop :=
 ∀a,m=some a->∀(F:Hp)(O:Own)(H:Hp)(σ:St)(Q:VK),At B sl F O H σ->(∀(v:V)(F' H':Hp),bN B F H O F' H'->rp K (reg B F' H' md) v a->Q v H')->t σ H Q
def Et(B:Bs)(sl:SL K)(t:TT)(m:Option Bool):Prop :=
 ∀a,m=some a->∀(F:Hp)(O:Own)(H:Hp)(σ:St)(Q:Bool->Hp->Prop),At B sl F O H σ->(∀(F' H':Hp),bN B F H O F' H'->Q a H')->t σ H Q
inductive Ar(R:Hp):SL K->List V->Prop
 |nil:Ar R [] []
 |cons {n:Bool} {α:Type} [Rp K α] {a:α} {v:V} {sl:SL K} {vs:List V}:rp K R v a->Ar R sl vs->Ar R (.fz n a::sl) (v::vs)
def Ea(B:Bs)(sl:SL K)(md:Md)(t:TA){A:Type}(as:A->SL K)(m:Option A):Prop :=
 ∀a,m=some a->∀(F:Hp)(O:Own)(H:Hp)(σ:St)(Q:List V->Hp->Prop),At B sl F O H σ->(∀(vs:List V)(F' H':Hp),bN B F H O F' H'->Ar (reg B F' H' md) (as a) vs->Q vs H')->t σ H Q
theorem Ex.sc[Sc K α](h:Ex B sl md t m):Ex B sl md1 t m:=λa ha F O H σ Q s k=>h a ha F O H σ Q s λv F' H' g r=>k v F' H' g (Wi r)
theorem Wj[Nn K α](h:Ex B sl md t m):Ex B sl md t (m.bind λa=>some (some a)):=λa ha F O H σ Q s k=>by
 cases m with
 |none=>cases ha
 |some a' =>
  cases(show some (some a')=some a from ha)
  exact h a' rfl F O H σ Q s λv F' H' g r=>k v F' H' g ⟨Nn.nn (K:=K) r,r⟩
theorem yN{n:Bool}{a:α}(i:Nat)(hs:sl[i]?=some (.fz n a)):Ex B sl (jD n) (fY i) (some a):=λa' ha F O H σ Q s k=>by
 cases ha
 obtain⟨v,h1,h2⟩:=s.2.rC hs
 exact⟨v,h1,k v F H (.refl s.1) h2⟩
theorem zE[Sc K α]{n:Bool}{a:α}(i:Nat)(hs:sl[i]?=some (.fz n a)):Ex B sl md (fY i) (some a):=(yN i hs).sc
theorem lo_le:Same (lo F O H) H:=λb o h=>by
 unfold lo at h
 split at h
 ·cases h
 ·exact h
theorem Gm(k:Ok B F O H)(n:Bool):Same (reg B F H (jD n)) H:=match n with
 |true=>aZ.trans k.fh
 |false=>k.fh
theorem zD{n:Bool}{a:α}(i:Nat)(hs:sl[i]?=some (.fz n a)):Ex B sl .hp (fY i) (some a):=λa' ha F O H σ Q s k=>by
 cases ha
 obtain⟨v,h1,h2⟩:=s.2.rC hs
 exact⟨v,h1,k v F H (.refl s.1) (Rp.mono (Gm s.1 n) h2)⟩
theorem Ck{n:Bool}{xs:List α}(i:Nat)(hs:sl[i]?=some (.ow n xs)):Ex B sl .hp (fY i) (some xs):=λa' ha F O H σ Q s k=>by
 cases ha
 obtain⟨O1,O2,p,vs,rfl,h1,h2,_⟩:=s.2.rD hs
 exact⟨_,h1,k _ F H (.refl s.1) ⟨p,vs,rfl,s.1.one.2.2,h2.imp λ_ _=>Rp.mono (Gm s.1 n)⟩⟩
theorem Mf[Sc K α](a:α):Ex B sl md (tC (Sc.val K a)) (some a):=λa' ha F O H σ Q s k=>by cases ha;exact k _ F H (.refl s.1) (Sc.is.mpr rfl)
theorem zK(i:Int):Ex B sl md (tC (.int i)) (some i):=Mf (K:=K) i
theorem vY(i:Bool):Ex B sl md (tC (.bl i)) (some i):=Mf (K:=K) i
theorem S7(i:Str):Ex B sl md (tC (.str i)) (some i):=Mf (K:=K) i
theorem Za:Ex B sl md (tC .non) (some (none:Option α)):=λa' ha F O H σ Q s k=>by cases ha;exact k _ F H (.refl s.1) rfl
theorem pL{f:β->γ->Option α}(h:(m1.bind λa=>m2.bind λb=>f a b)=some c):∃a b,m1=some a/\m2=some b/\f a b=some c:=by
 cases m1 with
 |none=>cases h
 |some a =>
  cases m2 with
  |none=>cases h
  |some b=>exact⟨a,b,rfl,rfl,h⟩
theorem za{f:β->γ->Option α}[Sc K α](hr:∀(a:β) (b:γ) (c:α) (v w:V) (H:Hp) (Q:VK),f a b=some c->rp K H v a->rp K H w b->Q (Sc.val K c) H->r v w H Q)(h1:Ex B sl .hp t1 m1)(h2:Ex B sl .hp t2 m2):Ex B sl md (gW r t1 t2) (m1.bind λa=>m2.bind λb=>f a b):=λc hc F O H σ Q s k=>by
 obtain⟨a,b,ha,hb,hf⟩:=pL hc
 refine h1 a ha F O H σ _ s λv F' H' g r1=>?_
 refine h2 b hb F' O H' σ _ (s.grow g) λw F2 H2 g2 r2=>?_
 exact hr a b c v w H2 Q hf (Rp.mono g2.hh r1) r2 (k _ F2 H2 (g.trans g2) (Sc.is.mpr rfl))
theorem yA(h:Ex B sl md t m'):Et B sl (Bu t) m':=λc hc F O H σ Q s k=>h c hc F O H σ _ s λv F' H' g r=>⟨c,r,k F' H' g⟩
theorem aR(h:Ex B sl md t m'):Et B sl (tB t) m':=λc hc F O H σ Q s k=>h c hc F O H σ _ s λv F' H' g r=>⟨c,r,k F' H' g⟩
theorem uR{t:TT}{n:Option Bool}(h:Et B sl t n):Et B sl (RB t) (n.bind λc=>some !c):=λc hc F O H σ Q s k=>by
 cases n with
 |none=>cases hc
 |some c' =>
  cases(show some (!c')=some c from hc)
  exact h c' rfl F O H σ _ s λF' H' g=>k F' H' g
theorem zWo(h:Ex B sl .hp t n):Ex B sl md (Jk t) (n.bind λc=>some !c):=λc hc F O H σ Q s k=>by
 cases n with
 |none=>cases hc
 |some c' =>
  cases(show some (!c')=some c from hc)
  refine h c' rfl F O H σ _ s λv F' H' g r=>?_
  cases r
  exact⟨c',rfl,k _ F' H' g rfl⟩
theorem Qo{t u:TT}{n n':Option Bool}(h:Et B sl t n)(h':Et B sl u n'):Et B sl (Ry t u) (n.bind λc=>if c=true then n' else some false):=λc hc F O H σ Q s k=>by
 cases n with
 |none=>cases hc
 |some c' =>
  refine h c' rfl F O H σ _ s λF' H' g=>?_
  cases c' with
  |true=>exact o_ (h' c (by simpa using hc) F' O H' σ _ (s.grow g) λF2 H2 g2=>k F2 H2 (g.trans g2))
  |false=>cases(show some false=some c from by simpa using hc);exact oZ (k F' H' g)
theorem zc{t u:TT}{n n':Option Bool}(h:Et B sl t n)(h':Et B sl u n'):Et B sl (tOr t u) (n.bind λc=>if c=true then some true else n'):=λc hc F O H σ Q s k=>by
 cases n with
 |none=>cases hc
 |some c' =>
  refine h c' rfl F O H σ _ s λF' H' g=>?_
  cases c' with
  |true=>cases(show some true=some c from by simpa using hc);exact o_ (k F' H' g)
  |false=>exact oZ (h' c (by simpa using hc) F' O H' σ _ (s.grow g) λF2 H2 g2=>k F2 H2 (g.trans g2))
theorem S8(h:Ex B sl .hp t1 n)(h':Ex B sl .hp t2 n'):Ex B sl md (Jj t1 t2) (n.bind λc=>if c=true then n' else some false):=λc hc F O H σ Q s k=>by
 cases n with
 |none=>cases hc
 |some c' =>
  refine h c' rfl F O H σ _ s λv F' H' g r=>?_
  cases r
  refine⟨c',rfl,?_⟩
  cases c' with
  |true=>exact o_ (h' c (by simpa using hc) F' O H' σ _ (s.grow g) λv F2 H2 g2 r2=>k v F2 H2 (g.trans g2) (Wi r2))
  |false=>cases(show some false=some c from by simpa using hc);exact oZ (k _ F' H' g rfl)
theorem zWp{t:TT}{n:Option Bool}{m m':Option α}(h:Et B sl t n)(h1:Ex B sl md t1 m)(h2:Ex B sl md t2 m'):Ex B sl md (tIf t t1 t2) (n.bind λc=>if c=true then m else m'):=λc hc F O H σ Q s k=>by
 cases n with
 |none=>cases hc
 |some c' =>
  refine h c' rfl F O H σ _ s λF' H' g=>?_
  cases c' with
  |true=>exact o_ (h1 c (by simpa using hc) F' O H' σ _ (s.grow g) λv F2 H2 g2 r2=>k v F2 H2 (g.trans g2) r2)
  |false=>exact oZ (h2 c (by simpa using hc) F' O H' σ _ (s.grow g) λv F2 H2 g2 r2=>k v F2 H2 (g.trans g2) r2)
theorem zQ:Ea B sl md bJ (λ_:Unit=>[]) (some ()):=λa ha F O H σ Q s k=>k [] F H (.refl s.1) .nil
theorem zF{A:Type}{as:A->SL K}{ma:Option A}(h1:Ex B sl md t m)(h2:Ea B sl md tr as ma):Ea B sl md (xS t tr) (λx:α×A=>.fz false x.1::as x.2) (m.bind λa=>ma.bind λb=>some (a,b)):=λc hc F O H σ Q s k=>by
 cases m with
 |none=>cases hc
 |some a =>
  cases ma with
  |none=>cases hc
  |some b =>
   cases(show some (a,b)=some c from hc)
   refine h1 a rfl F O H σ _ s λv F' H' g r1=>?_
   refine h2 b rfl F' O H' σ _ (s.grow g) λvs F2 H2 g2 r2=>?_
   exact k (v::vs) F2 H2 (g.trans g2) (.cons (Rp.mono (xC g2 md) r1) r2)
theorem S9(k:Ok B F O H)(h:H p=none)(md:Md):reg B (upd F p o) (upd H p o) md p=some o:=match md with
 |.nw=>by show dif (upd F p o) B.H0 p=_;rw[vp (k.h0.free h)];exact zT
 |.fz=>zT
 |.hp=>zT
def cap:Nat:=100000
theorem Mg(h:n<cap):n<sizeLine:=adt h (by decide)
theorem Mh(h:n<=cap):n<=sizeLine:=aa4 h (by decide)
def El(B:Bs)(sl:SL K)(md:Md)(t:TA){α:Type}[Rp K α](m:Option (List α)):Prop :=
 ∀a,m=some a->∀(F:Hp)(O:Own)(H:Hp)(σ:St)(Q:List V->Hp->Prop),At B sl F O H σ->(∀(vs:List V)(F' H':Hp),bN B F H O F' H'->A2 (rp K (reg B F' H' md)) vs a->Q vs H')->t σ H Q
theorem S_:El B sl md bJ (some ([]:List α)):=λa ha F O H σ Q s k=>by cases ha;exact k [] F H (.refl s.1) trivial
theorem vZ(h1:Ex B sl md t m)(h2:El B sl md tr ma):El B sl md (xS t tr) (m.bind λa=>ma.bind λb=>some (a::b)):=λc hc F O H σ Q s k=>by
 cases m with
 |none=>cases hc
 |some a =>
  cases ma with
  |none=>cases hc
  |some b =>
   cases(show some (a::b)=some c from hc)
   refine h1 a rfl F O H σ _ s λv F' H' g r1=>?_
   refine h2 b rfl F' O H' σ _ (s.grow g) λvs F2 H2 g2 r2=>?_
   exact k (v::vs) F2 H2 (g.trans g2) ⟨Rp.mono (xC g2 md) r1,r2⟩
def Eo(B:Bs)(sl:SL K)(md:Md)(t:TE){α:Type}[Rp K α](m:Option (List α)):Prop :=
 ∀a,m=some a->∀(F:Hp)(O:Own)(H:Hp)(σ:St)(Q:VK),At B sl F O H σ->(∀(p:Addr)(vs:List V)(F' H':Hp),bN B F H O F' H'->H' p=none->A2 (rp K (reg B F' H' md)) vs a->Q (.ref p) (upd H' p (.lst vs)))->t σ H Q
theorem Eo.ex{m:Option (List α)}(h:Eo B sl md t m):Ex B sl md t m:=λa ha F O H σ Q s k=>h a ha F O H σ Q s λp vs F' H' g hp r=>by
 have g2:=bN.new g.ok hp (.lst vs)
 exact k _ _ _ (g.trans g2) ⟨p,vs,rfl,S9 g.ok hp md,r.imp λ_ _=>Rp.mono (xC g2 md)⟩
theorem uS:Eo B sl md (Lg bJ) (some ([]:List α)):=λa ha F O H σ Q s k=>by
 cases ha
 exact⟨abk _,λp hp=>k p [] F H (.refl s.1) hp trivial⟩
theorem Tc{t:TA}{ma:Option (List α)}(h:El B sl md t ma)(hl:∀a,ma=some a->a.length<=cap):Eo B sl md (Lg t) ma:=λa ha F O H σ Q s k =>
 h a ha F O H σ _ s λvs F' H' g r=>⟨by rw[r.len];exact Mh (hl a ha),λp hp=>k p vs F' H' g hp r⟩
theorem Mi(h1:Ex B sl md t1 m1)(h2:Ex B sl md t2 m2):Ex B sl md (Bv (xS t1 (xS t2 bJ))) (m1.bind λa=>m2.bind λb=>some (a,b)):=λc hc F O H σ Q s kk=>by
 obtain⟨a,b,ha,hb,hf⟩:=pL hc
 cases hf
 refine h1 a ha F O H σ _ s λv F' H' g r1=>?_
 refine h2 b hb F' O H' σ _ (s.grow g) λw F2 H2 g2 r2=>?_
 refine⟨by show 2<=sizeLine;decide,λp hp=>?_⟩
 have g3:=bN.new g2.ok hp (.tup [v,w])
 exact kk _ _ _ (g.trans (g2.trans g3)) ⟨p,v,w,rfl,S9 g2.ok hp md,Rp.mono (xC (g2.trans g3) md) r1,Rp.mono (xC g3 md) r2⟩
def cu(K:PySem.W.Frag)(al:Bool){A β:Type}[Rp K β](as:A->SL K)(f:A->Option β):Sp:=λvs H Q _ =>
 ∃a b Fa,Same Fa H/\f a=some b/\Ar Fa (as a) vs/\∀v H',Same H H'->rp K (if al=true then ext Fa H H' else dif H' H) v b->Q v H'
theorem zM{A:Type}{as:A->SL K}{f:A->Option β}{ma:Option A}(h:Ea B sl .hp ta as ma):Ex B sl md (RV (cu K false as f) [] E0 ta) (ma.bind f):=λc hc F O H σ Q s kk=>by
 cases ma with
 |none=>cases hc
 |some a =>
  refine h a rfl F O H σ _ s λvs F' H' g r=>?_
  rw[append_nil]
  refine⟨a,c,H',.refl _,hc,r,λv H2 s2 r2=>?_⟩
  have g2:=g.ok.called s2
  refine kk v _ H2 (g.trans g2) ?_
  have r3:=Rp.mono (Y_ (F:=F') g.ok.h0 s2) r2
  exact match md with
  |.nw=>r3
  |.fz=>Rp.mono aZ r3
  |.hp=>Rp.mono (aZ.trans g2.ok.fh) r3
theorem zVm{A:Type}{as:A->SL K}{f:A->Option β}{ma:Option A}(h:Ea B sl md ta as ma):Ex B sl md (RV (cu K true as f) [] E0 ta) (ma.bind f):=λc hc F O H σ Q s kk=>by
 cases ma with
 |none=>cases hc
 |some a =>
  refine h a rfl F O H σ _ s λvs F' H' g r=>?_
  rw[append_nil]
  have hle:Same (reg B F' H' md) H':=match md with
   |.nw=>aZ.trans g.ok.fh
   |.fz=>g.ok.fh
   |.hp=>.refl _
  refine⟨a,c,reg B F' H' md,hle,hc,r,λv H2 s2 r2=>?_⟩
  have g2:=g.ok.called s2
  refine kk v _ H2 (g.trans g2) ?_
  exact match md,r2 with
  |.nw,r2=>Rp.mono (Ma g.ok.h0) r2
  |.fz,r2=>r2
  |.hp,r2=>Rp.mono (zVj s2) r2
end
def push{α:Type}(xs:List α)(a:α):Option (List α):=if xs.length<cap then some (xs++[a]) else none
def zf{α:Type}(xs:List α)(i:Int)(a:α):Option (List α):=(rA xs.length i).bind λj=>some (xs.set j a)
def vE(n:Int):Option LI:=if -(2^62)<=n/\n<2^62 then some ((aax n.toNat).map ac1) else none
def xK{S α:Type}(step:S->α->Option S):List α->S->Option S
 |[],s=>some s
 |x::xs,s=>(step s x).bind λs'=>xK step xs s'
inductive Out(S β:Type)|nx (s:S)|rt (b:β)
def uB{S α β:Type}(step:S->α->Option (Out S β)):List α->S->Option (Out S β)
 |[],s=>some (.nx s)
 |x::xs,s=>(step s x).bind λo=>match o with
  |.nx s'=>uB step xs s'
  |.rt b=>some (.rt b)
def Gn{S:Type}(c:S->Option Bool)(body:S->Option S):Nat->S->Option S
 |0,_=>none
 |k+1,s=>(c s).bind λb=>if b=true then(body s).bind λs'=>Gn c body k s' else some s
def wG{α β:Type}(c:α->Option Bool)(f:α->Option β):List α->Option (List β)
 |[]=>some []
 |x::xs=>(c x).bind λb=>if b=true then(f x).bind λy=>(wG c f xs).bind λys=>some (y::ys) else wG c f xs
def Out.els{S β:Type}(o:Out S β)(f:S->Option β):Option β:=match o with
 |.nx s=>f s
 |.rt b=>some b
def Out.aM{S S' β:Type}(o:Out S β)(f:S->Option (Out S' β)):Option (Out S' β):=match o with
 |.nx s=>f s
 |.rt b=>some (.rt b)
theorem Zb{S α:Type}(step:S->α->Option S):∀(xs ys:List α)(s:S),xK step (xs++ys) s=(xK step xs s).bind λs'=>xK step ys s'
 |[],ys,s=>rfl
 |x::xs,ys,s=>by
  show(step s x).bind _=((step s x).bind _).bind _
  cases step s x with
  |none=>rfl
  |some s'=>exact Zb step xs ys s'
theorem zG5{S α:Type}{step:S->α->Option S}{xs:List α}{s s1:S}(h:xK step xs s=some s1){x:α}(hx:xs[i]?=some x):∃a b,xK step (xs.take i) s=some a/\step a x=some b/\xK step (xs.take (i+1)) s=some b:=by
 have e:xs=xs.take (i+1)++xs.drop (i+1):=(take_append_drop _ _).symm
 have e2:xs.take (i+1)=xs.take i++[x]:=by rw[take_add_one,hx]<;>rfl
 rw[e,Zb] at h
 cases q:xK step (xs.take (i+1)) s with
 |none=>rw[q] at h;cases h
 |some b =>
  have q':=q
  rw[e2,Zb] at q'
  cases z:xK step (xs.take i) s with
  |none=>rw[z] at q';cases q'
  |some a =>
   rw[z] at q'
   have q2:(step a x).bind (λs'=>some s')=some b:=q'
   refine⟨a,b,rfl,?_,rfl⟩
   cases w:step a x with
   |none=>rw[w] at q2;cases q2
   |some c=>rw[w] at q2;exact q2
section
variable{K:PySem.W.Frag}{B:Bs}{F H F' H' G:Hp}{O:Own}{sl sl2:SL K}{σ:St}{md:Md}{α β γ:Type}[Rp K α][Rp K β][Rp K γ]{t u v:TS}{te:TE}{m:Option α}{S S':Type}{al:Bool}
def Sg(B:Bs)(G:Hp)(sl:SL K)(σ:St)(H:Hp):Prop:=∃F O,Same G F/\At B sl F O H σ
def Rt(K:PySem.W.Frag){β:Type}[Rp K β](B:Bs)(al:Bool)(b:β)(v:V)(H':Hp):Prop:=Same B.H0 H'/\rp K (if al=true then ext B.Fa B.H0 H' else dif H' B.H0) v b
def Sn(B:Bs)(sl:SL K)(t:TS){S:Type}(L:S->SL K)(m:Option S):Prop :=
 ∀a,m=some a->∀(G:Hp)(D:Ends)(σ:St)(H:Hp),Sg B G sl σ H->(∀σ' H',Sg B G (L a) σ' H'->D.nx σ' H')->t D σ H
def SB(B:Bs)(sl:SL K)(t:TS)(al:Bool){β:Type}[Rp K β](m:Option β):Prop :=
 ∀b,m=some b->∀(G:Hp)(D:Ends)(σ:St)(H:Hp),Sg B G sl σ H->(∀v H',Rt K B al b v H'->D.rt v H')->t D σ H
def XE(B:Bs)(G:Hp)(al:Bool)(L:S->SL K)(D:Ends)(o:Out S β):Prop:=match o with
 |.nx s=>∀σ' H',Sg B G (L s) σ' H'->D.nx σ' H'
 |.rt b=>∀v H',Rt K B al b v H'->D.rt v H'
def Sx(B:Bs)(sl:SL K)(t:TS)(al:Bool){S β:Type}[Rp K β](L:S->SL K)(m:Option (Out S β)):Prop :=
 ∀o,m=some o->∀(G:Hp)(D:Ends)(σ:St)(H:Hp),Sg B G sl σ H->XE B G al L D o->t D σ H
theorem SB.of(h:SB B sl t al m)(q:m=m'):SB B sl t al m':=q▸h
theorem Sn.of(h:Sn B sl t L m)(q:m=m'):Sn B sl t L m':=q▸h
inductive Le:SL K->SL K->Prop
 |nil:Le [] []
 |eq {s:Slot K} {a b:SL K}:Le a b->Le (s::a) (s::b)
 |un {s:Slot K} {a b:SL K}:Le a b->Le (s::a) (.un::b)
 |fr {n:Bool} {α:Type} [Rp K α] {xs:List α} {a b:SL K}:Le a b->Le (.ow n xs::a) (.fz n xs::b)
 |old {α:Type} [Rp K α] {x:α} {a b:SL K}:Le a b->Le (.fz true x::a) (.fz false x::b)
theorem ao.le(h:Le sl sl2):∀{F:Hp}{σ:St}{O:Own},Ok B F (P++O) H->ao B F (lo F (P++O) H) H sl σ O->∃F' O',Same F F'/\Ok B F' (P++O') H/\Same (lo F (P++O) H) (lo F' (P++O') H)/\ao B F' (lo F' (P++O') H) H sl2 σ O':=by
 induction h generalizing P with
 |nil=>intro F σ O k h;cases h;exact⟨F,[],.refl _,k,.refl _,.nil⟩
 |eq _ ih =>
  intro F σ O k h
  cases h with
  |un h=>obtain⟨F',O',a,b,c,d⟩:=ih k h;exact⟨F',O',a,b,c,.un d⟩
  |fz r h=>obtain⟨F',O',a,b,c,d⟩:=ih k h;exact⟨F',O',a,b,c,.fz (Rp.mono (Ci _ a) r) d⟩
  |hs r h=>obtain⟨F',O',a,b,c,d⟩:=ih k h;exact⟨F',O',a,b,c,.hs r d⟩
  |nu r h=>obtain⟨F',O',a,b,c,d⟩:=ih k h;exact⟨F',O',a,b,c,.nu (Rp.mono (vJ c) r) d⟩
  |@ow _ _ _ _ _ _ O p vs r h =>
   have e:P++(p,HO.lst vs)::O=(P++[(p,HO.lst vs)])++O:=by simp
   rw[e] at k h
   obtain⟨F',O',a,b,c,d⟩:=ih k h
   have e':(P++[(p,HO.lst vs)])++O'=P++(p,HO.lst vs)::O':=by simp
   rw[e'] at b c d
   rw[<-e] at c
   exact⟨F',_::O',a,b,c,.ow (r.imp λ_ _=>Rp.mono (Ci _ a)) d⟩
  |@od _ _ _ _ _ O p vs r h =>
   have e:P++(p,HO.dK vs)::O=(P++[(p,HO.dK vs)])++O:=by simp
   rw[e] at k h
   obtain⟨F',O',a,b,c,d⟩:=ih k h
   have e':(P++[(p,HO.dK vs)])++O'=P++(p,HO.dK vs)::O':=by simp
   rw[e'] at b c d
   rw[<-e] at c
   exact⟨F',_::O',a,b,c,.od (r.imp λ_ _ z=>⟨z.1,Rp.mono a z.2⟩) d⟩
 |un _ ih =>
  intro F σ O k h
  cases h with
  |un h=>obtain⟨F',O',a,b,c,d⟩:=ih k h;exact⟨F',O',a,b,c,.un d⟩
  |fz r h=>obtain⟨F',O',a,b,c,d⟩:=ih k h;exact⟨F',O',a,b,c,.un d⟩
  |hs r h=>obtain⟨F',O',a,b,c,d⟩:=ih k h;exact⟨F',O',a,b,c,.un d⟩
  |nu r h=>obtain⟨F',O',a,b,c,d⟩:=ih k h;exact⟨F',O',a,b,c,.un d⟩
  |ow r h=>obtain⟨F',O',a,b,c,d⟩:=ih k.drop (h.mono (.refl _) mG (.refl _));exact⟨F',O',a,b,mG.trans c,.un d⟩
  |od r h=>obtain⟨F',O',a,b,c,d⟩:=ih k.drop (h.mono (.refl _) mG (.refl _));exact⟨F',O',a,b,mG.trans c,.un d⟩
 |@fr n _ _ _ _ _ _ ih =>
  intro F σ O k h
  cases h with
  |@ow _ _ _ _ _ _ O p vs r h =>
   obtain⟨a1,a2,a3⟩:=k.one
   have sf:Same F (upd F p (.lst vs)):=aL a1 _
   obtain⟨F',O',a,b,c,d⟩:=ih k.freeze (h.mono sf pJ (.refl _))
   refine⟨F',O',sf.trans a,b,pJ.trans c,.fz ⟨p,vs,rfl,?_,r.imp λ_ _=>Rp.mono (Ci _ (sf.trans a))⟩ d⟩
   cases n with
   |true=>exact(vp a2).trans (a _ _ zT)
   |false=>exact a _ _ zT
 |old _ ih =>
  intro F σ O k h
  cases h with
  |fz r h=>obtain⟨F',O',a,b,c,d⟩:=ih k h;exact⟨F',O',a,b,c,.fz (Rp.mono (aZ.trans a) r) d⟩
theorem Sg.le(h:Sg B G sl σ H)(l:Le sl sl2):Sg B G sl2 σ H:=by
 obtain⟨F,O,g,k,s⟩:=h
 obtain⟨F',O',a,b,_,d⟩:=ao.le (P:=[]) l k s
 exact⟨F',O',g.trans a,b,d⟩
theorem Sg.grow(g:Same G F)(h:At B sl F O' H σ)(gr:bN B F H O' F' H'):Sg B G sl σ H':=⟨F',O',g.trans gr.ff,h.grow gr⟩
theorem zV(L:S->SL K)(s:S)(h:Le sl (L s)):Sn B sl RG L (some s):=λa ha G D σ H q k=>by cases ha;exact k σ H (q.le h)
theorem zN{f:S->Option S'}(h1:Sn B sl t L m1)(h2:∀s,Sn B (L s) u L' (f s)):Sn B sl (mK t u) L' (m1.bind f):=λa ha G D σ H q k=>by
 cases m1 with
 |none=>cases ha
 |some s=>exact h1 s rfl G _ σ H q λσ' H' q'=>h2 s a ha G D σ' H' q' k
theorem zO{f:S->Option β}(h1:Sn B sl t L m1)(h2:∀s,SB B (L s) u al (f s)):SB B sl (mK t u) al (m1.bind f):=λa ha G D σ H q k=>by
 cases m1 with
 |none=>cases ha
 |some s=>exact h1 s rfl G _ σ H q λσ' H' q'=>h2 s a ha G D σ' H' q' k
theorem Mj{f:S->Option β}(h1:Sx B sl t al L m1)(h2:∀s,SB B (L s) u al (f s)):SB B sl (mK t u) al (m1.bind λo=>o.els f):=λa ha G D σ H q k=>by
 cases m1 with
 |none=>cases ha
 |some o =>
  cases o with
  |nx s=>exact h1 _ rfl G _ σ H q λσ' H' q'=>h2 s a ha G D σ' H' q' k
  |rt b=>cases ha;exact h1 _ rfl G { D with nx:=u D } σ H q k
theorem zTw{f:S->Option (Out S' β)}(h1:Sx B sl t al L m1)(h2:∀s,Sx B (L s) u al L' (f s)):Sx B sl (mK t u) al L' (m1.bind λo=>o.aM f):=λa ha G D σ H q k=>by
 cases m1 with
 |none=>cases ha
 |some o =>
  cases o with
  |nx s=>exact h1 _ rfl G _ σ H q λσ' H' q'=>h2 s a ha G D σ' H' q' k
  |rt b=>cases ha;exact h1 _ rfl G { D with nx:=u D } σ H q k
theorem Gp(L:S->SL K)(s:S)(h:Le sl (L s)):Sx B sl RG al L (some (.nx s):Option (Out S β)):=λa ha G D σ H q k=>by cases ha;exact k σ H (q.le h)
theorem Cm(k:Ok B F' O H')(n:Bool){v:V}{b:β}(r:rp K (reg B F' H' (jD n)) v b)(hn:n=!al):Rt K B al b v H':=by
 refine⟨k.h0,?_⟩
 cases al with
 |false=>subst hn;exact Rp.mono (vJ k.fh) r
 |true =>
  subst hn
  refine Rp.mono (λb o h=>?_) r
  have h:F' b=some o:=h
  show ext B.Fa B.H0 H' b=some o
  unfold ext
  cases q:B.H0 b with
  |none=>exact k.fh b o h
  |some u =>
   rcases k.fa b o h with z|z
   ·exact z
   ·rw[q] at z;cases z
theorem zW(h:Ex B sl (jD !al) te m):SB B sl (mK (Bq te) u) al m:=λb hb G D σ H s k=>by
 obtain⟨F,O,g,a⟩:=s
 exact h b hb F O H σ _ a λv F' H' gr r=>k v H' (Cm gr.ok (!al) r rfl)
theorem Gq(h:F p=none):Same (dif F H0) (dif (upd F p o) H0):=vJ (aL h o)
theorem Ep{n:Bool}{xs:List α}(i:Nat)(hs:sl[i]?=some (.ow n xs))(hn:n=!al):SB B sl (mK (Bq (fY i)) u) al (some xs):=λb hb G D σ H s k=>by
 cases hb
 obtain⟨F,O,g,a⟩:=s
 obtain⟨O1,O2,p,vs,rfl,h1,h2,_⟩:=a.2.rD hs
 obtain⟨a1,a2,a3⟩:=a.1.one
 refine⟨_,h1,k _ H (Cm a.1.freeze n ⟨p,vs,rfl,?_,h2.imp λ_ _=>Rp.mono ?_⟩ hn)⟩
 ·cases n with
  |true=>exact(vp a2).trans zT
  |false=>exact zT
 ·cases n with
  |true=>exact Gq a1
  |false=>exact aL a1 _
theorem vH(hc:Et B sl c n)(h1:Sn B sl t L m1)(h2:Sn B sl u L m2):Sn B sl (Br c t u) L (n.bind λb=>if b=true then m1 else m2):=λa ha G D σ H s k=>by
 cases n with
 |none=>cases ha
 |some b =>
  obtain⟨F,O,g,z⟩:=s
  refine hc b rfl F O H σ _ z λF' H' gr=>?_
  cases b with
  |true=>exact o_ (h1 a (by simpa using ha) G D σ H' (Sg.grow g z gr) k)
  |false=>exact oZ (h2 a (by simpa using ha) G D σ H' (Sg.grow g z gr) k)
theorem Td{c:TT}{n:Option Bool}{L:S->SL K}{m1 m2:Option (Out S β)}(hc:Et B sl c n)(h1:Sx B sl t al L m1)(h2:Sx B sl u al L m2):Sx B sl (Br c t u) al L (n.bind λb=>if b=true then m1 else m2):=λa ha G D σ H s k=>by
 cases n with
 |none=>cases ha
 |some b =>
  obtain⟨F,O,g,z⟩:=s
  refine hc b rfl F O H σ _ z λF' H' gr=>?_
  cases b with
  |true=>exact o_ (h1 a (by simpa using ha) G D σ H' (Sg.grow g z gr) k)
  |false=>exact oZ (h2 a (by simpa using ha) G D σ H' (Sg.grow g z gr) k)
theorem wH{c:TT}{n:Option Bool}{m1 m2:Option β}(hc:Et B sl c n)(h1:SB B sl t al m1)(h2:SB B sl u al m2):SB B sl (mK (Br c t RG) u) al (n.bind λb=>if b=true then m1 else m2):=λa ha G D σ H s k=>by
 cases n with
 |none=>cases ha
 |some b =>
  obtain⟨F,O,g,z⟩:=s
  refine hc b rfl F O H σ _ z λF' H' gr=>?_
  cases b with
  |true=>exact o_ (h1 a (by simpa using ha) G _ σ H' (Sg.grow g z gr) k)
  |false=>exact oZ (h2 a (by simpa using ha) G D σ H' (Sg.grow g z gr) k)
theorem Er{c:TT}{n:Option Bool}{m1:Option β}{L:S->SL K}{m2:Option (Out S β)}(hc:Et B sl c n)(h1:SB B sl t al m1)(h2:Sx B sl u al L m2) :
  Sx B sl (mK (Br c t RG) u) al L (n.bind λb=>if b=true then m1.bind λb=>some (.rt b) else m2):=λa ha G D σ H s k=>by
 cases n with
 |none=>cases ha
 |some b =>
  obtain⟨F,O,g,z⟩:=s
  refine hc b rfl F O H σ _ z λF' H' gr=>?_
  cases b with
  |true =>
   have e:=(show(m1.bind λb=>some (Out.rt b))=some a by simpa using ha)
   cases m1 with
   |none=>cases e
   |some b=>cases e;exact o_ (h1 b rfl G _ σ H' (Sg.grow g z gr) k)
  |false=>exact oZ (h2 a (by simpa using ha) G D σ H' (Sg.grow g z gr) k)
theorem Sg.set{s:Slot K}{i:Nat}{n:Bool}{a:α}{v:V}{O:Own}(g:Same G F)(h:At B sl F O H σ)(hs:sl[i]?=some s)(ho:mQ s=false)(r:rp K (reg B F H (jD n)) v a):Sg B G (sl.set i (.fz n a)) (σ.set i (some v)) H :=
 ⟨F,O,g,h.1,h.2.put (λ_ _ _ z=>.fz r z) hs ho⟩
theorem yE(n:Bool)(i:Nat)(hs:sl[i]?=some s)(ho:mQ s=false)(h:Ex B sl (jD n) te m):Sn B sl (oY te (yq i)) (λa=>sl.set i (.fz n a)) m:=λa ha G D σ H s k=>by
 obtain⟨F,O,g,z⟩:=s
 exact h a ha F O H σ _ z λv F' H' gr r=>k _ _ (Sg.set (g.trans gr.ff) (z.grow gr) hs ho r)
theorem Qp(h:Ex B sl md te m):Sn B sl (RJ te) (λ_=>sl) m:=λa ha G D σ H s k=>by
 obtain⟨F,O,g,z⟩:=s
 exact h a ha F O H σ _ z λv F' H' gr r=>k _ _ (Sg.grow g z gr)
theorem At.own{s:Slot K}{i:Nat}{n:Bool}{xs:List α}{vs:List V}{p:Addr}(h:At B sl F O H σ)(hs:sl[i]?=some s)(ho:mQ s=false)(hp:H p=none)(r:A2 (rp K (reg B F H (jD n))) vs xs) :
  ∃O',At B (sl.set i (.ow n xs)) F O' (upd H p (.lst vs)) (σ.set i (some (.ref p))):=by
 obtain⟨k,z0⟩:=h
 obtain⟨O1,O2,rfl,z⟩:=z0.own (s':=.ow n xs) (x:=some (.ref p)) (c:=(p,.lst vs)) (λ_ _ _ z=>.ow r z) hs ho
 exact⟨_,k.add hp,z.mono (.refl _) (Y9 hp) (aL hp _)⟩
theorem uK{s:Slot K}{m:Option (List α)}(n:Bool)(i:Nat)(hs:sl[i]?=some s)(ho:mQ s=false)(h:Eo B sl (jD n) te m):Sn B sl (oY te (yq i)) (λa=>sl.set i (.ow n a)) m:=λa ha G D σ H s k=>by
 obtain⟨F,O,g,z⟩:=s
 refine h a ha F O H σ _ z λp vs F' H' gr hp r=>k _ _ ?_
 obtain⟨O',z'⟩:=(z.grow gr).own hs ho hp r
 exact⟨F',O',g.trans gr.ff,z'⟩
theorem Zc(i:Nat)(hs:sl[i]?=some s)(ho:mQ s=false):Sn B sl (oY zV8 (yq i)) (λ_=>sl.set i (.od ([]:List (Key×α)))) (some ()):=λa ha G D σ H s k=>by
 obtain⟨F,O,g,k0,z0⟩:=s
 intro p hp
 refine k _ _ ?_
 obtain⟨O1,O2,rfl,z'⟩:=z0.own (s':=.od ([]:List (Key×α))) (x:=some (.ref p)) (c:=(p,.dK [])) (λ_ _ _ z=>.od trivial z) hs ho
 exact⟨F,_,g,k0.add hp,z'.mono (.refl _) (Y9 hp) (aL hp _)⟩
theorem Zd{α:Type}:∀{l:List α}{i:Nat}{x:α},l[i]?=some x->l.set i x=l
 |[],_,_,h=>by simp at h
 |_::_,0,_,h=>by simp at h;subst h;rfl
 |_::l,i+1,_,h=>congrArg _ (Zd (l:=l) (i:=i) (by simpa using h))
theorem Ze{P:Slot K->Bool}(hs:P s=true):∀{l:SL K}{i:Nat},l.all P=true->(l.set i s).all P=true
 |[],_,h=>h
 |_::_,0,h=>by rw[all_cons,aaz] at h;rw[List.set_cons_zero,all_cons,aaz];exact⟨hs,h.2⟩
 |_::l,i+1,h=>by rw[all_cons,aaz] at h;rw[List.set_cons_succ,all_cons,aaz];exact⟨h.1,Ze hs h.2⟩
theorem At.chg{i:Nat}{n:Bool}{xs:List α}(h:At B sl F O H σ)(hs:sl[i]?=some (.ow n xs))(hh:sl.all (λs=>!mR s)=true):∃p vs,σ[i]?=some (some (.ref p))/\H p=some (.lst vs)/\A2 (rp K (reg B F H (jD n))) vs xs /\
  ∀(ws:List V)(ys:List α),A2 (rp K (reg B F H (jD n))) ws ys->∃O',At B (sl.set i (.ow n ys)) F O' (upd H p (.lst ws)) σ:=by
 obtain⟨k,z0⟩:=h
 obtain⟨O1,O2,p,vs,rfl,h1,h2,h3,_⟩:=z0.rD hs
 refine⟨p,vs,h1,k.one.2.2,h2,λws ys r=>⟨_,k.chg (.lst ws),?_⟩⟩
 have z:=h3 (.ow n ys) (some (.ref p)) (p,.lst ws) λ_ _ _ z=>.ow r z
 rw[Zd h1] at z
 exact z.mut zWj (Ze rfl hh)
theorem At.Gs(h:At B sl F O H σ)(hs:sl[i]?=some (.od kvs))(hh:sl.all (λs=>!mR s)=true):∃p ks,σ[i]?=some (some (.ref p))/\H p=some (.dK ks)/\A2 (λ(x:Key×V) (y:Key×α)=>x.1=y.1/\rp K F x.2 y.2) ks kvs /\
  ∀(ws:List (Key×V))(ys:List (Key×α)),A2 (λ(x:Key×V) (y:Key×α)=>x.1=y.1/\rp K F x.2 y.2) ws ys->∃O',At B (sl.set i (.od ys)) F O' (upd H p (.dK ws)) σ:=by
 obtain⟨k,z0⟩:=h
 obtain⟨O1,O2,p,vs,rfl,h1,h2,h3,_⟩:=z0.Cj hs
 refine⟨p,vs,h1,k.one.2.2,h2,λws ys r=>⟨_,k.chg (.dK ws),?_⟩⟩
 have z:=h3 (.od ys) (some (.ref p)) (p,.dK ws) λ_ _ _ z=>.od r z
 rw[Zd h1] at z
 exact z.mut zWj (Ze rfl hh)
theorem wM(i:Nat)(hs:sl[i]?=some (.ow n xs))(hh:sl.all (λs=>!mR s)=true)(h:Ex B sl (jD n) te m) :
  Sn B sl (RJ (Sd K "list" zQv (fY i) (xS te bJ))) (λys=>sl.set i (.ow n ys)) (m.bind λa=>push xs a):=λys ha G D σ H s k=>by
 cases m with
 |none=>cases ha
 |some a =>
  have ha':push xs a=some ys:=ha
  unfold push at ha'
  split at ha'
  case isFalse=>cases ha'
  rename_i hl
  cases ha'
  obtain⟨F,O,g,z⟩:=s
  obtain⟨p,vs,h1,h2,h3,_⟩:=z.chg hs hh
  refine⟨_,h1,.inl ⟨rfl,_,bx.of h2⟩,?_⟩
  refine h a rfl F O H σ _ z λv F' H' gr r=>?_
  obtain⟨p',vs',h1',h2',h3',h4'⟩:=(z.grow gr).chg hs hh
  have e:=h1.symm.trans h1'
  cases e
  obtain⟨O',z'⟩:=h4' (vs'++[v]) (xs++[a]) (h3'.snoc r)
  exact⟨p,vs',v,rfl,rfl,h2',Mg (by rw[h3'.len];exact hl),k _ _ ⟨F',O',g.trans gr.ff,z'⟩⟩
theorem Wm(i:Nat)(hs:sl[i]?=some (.ow n xs))(hh:sl.all (λs=>!mR s)=true)(hv:Ex B sl (jD n) te m)(hi:Ex B sl .hp ti mi) :
  Sn B sl (oY te (RM (fY i) ti BW)) (λys=>sl.set i (.ow n ys)) (m.bind λa=>mi.bind λk=>zf xs k a):=λys ha G D σ H s k=>by
 cases m with
 |none=>cases ha
 |some a =>
  cases mi with
  |none=>cases ha
  |some ix =>
   have ha':zf xs ix a=some ys:=ha
   obtain⟨F,O,g,z⟩:=s
   refine hv a rfl F O H σ _ z λv F' H' gr r=>?_
   obtain⟨p,vs,h1,h2,h3,_⟩:=(z.grow gr).chg hs hh
   refine⟨_,h1,?_⟩
   refine hi ix rfl F' O H' σ _ (z.grow gr) λw F2 H2 vq rw=>?_
   cases rw
   obtain⟨p',vs',h1',h2',h3',h4'⟩:=((z.grow gr).grow vq).chg hs hh
   have e:=h1.symm.trans h1'
   cases e
   unfold zf at ha'
   cases ej:rA xs.length ix with
   |none=>rw[ej] at ha';cases ha'
   |some jj =>
    rw[ej] at ha'
    cases ha'
    obtain⟨O',z'⟩:=h4' (vs'.set jj v) (xs.set jj a) (h3'.set (Rp.mono (xC vq (jD n)) r) jj)
    exact⟨p,vs',ix,jj,rfl,rfl,h2',by rw[h3'.len,ej],k _ _ ⟨F2,O',(g.trans gr.ff).trans vq.ff,z'⟩⟩
end
section
variable{K:PySem.W.Frag}{B:Bs}{F H F' H' G:Hp}{O:Own}{sl sl2:SL K}{σ:St}{md:Md}{α β γ:Type}[Rp K α][Rp K β][Rp K γ]{tb u v:TS}{te:TE}{m:Option α}{S S':Type}{al n:Bool}
theorem Wn{S α β:Type}(step:S->α->Option (Out S β)):∀(xs ys:List α)(s:S),uB step (xs++ys) s=(uB step xs s).bind λo=>o.aM λs'=>uB step ys s'
 |[],ys,s=>rfl
 |x::xs,ys,s=>by
  show(step s x).bind _=((step s x).bind _).bind _
  cases step s x with
  |none=>rfl
  |some o =>
   cases o with
   |nx s'=>exact Wn step xs ys s'
   |rt b=>rfl
theorem zPd{S α β:Type}{step:S->α->Option (Out S β)}{xs:List α}{s a:S}{x:α}(h:uB step (xs.take i) s=some (.nx a))(hx:xs[i]?=some x):uB step (xs.take (i+1)) s=step a x:=by
 have e2:xs.take (i+1)=xs.take i++[x]:=by rw[take_add_one,hx]<;>rfl
 rw[e2,Wn,h]
 show(step a x).bind _=step a x
 cases step a x with
 |none=>rfl
 |some o=>cases o<;>rfl
theorem zSd{S α β:Type}{step:S->α->Option (Out S β)}{xs:List α}{s:S}{o:Out S β}{b:β}(h:uB step xs s=some o)(hi:uB step (xs.take i) s=some (.rt b)):o=.rt b:=by
 rw[<-take_append_drop i xs,Wn,hi] at h
 cases h
 rfl
theorem zPe{S α β:Type}{step:S->α->Option (Out S β)}{xs:List α}{s:S}{o:Out S β}(i:Nat)(h:uB step xs s=some o):∃o',uB step (xs.take i) s=some o':=by
 rw[<-take_append_drop i xs,Wn] at h
 cases q:uB step (xs.take i) s with
 |none=>rw[q] at h;cases h
 |some o'=>exact⟨o',rfl⟩
def Yl(K:PySem.W.Frag)(B:Bs)(F':Hp)(n:Bool)(J:It){α:Type}[Rp K α](xs:List α):Prop:=∀(i:Nat)(F2:Hp)(O2:Own)(H2:Hp),Same F' F2->Ok B F2 O2 H2 ->
 (xs.length<=i->J.stop i H2)/\∀x,xs[i]?=some x->J.go i H2/\∀v H3,J.Qg i H2 v H3->∃F3,bN B F2 H2 O2 F3 H3/\rp K (reg B F3 H3 (jD n)) v x
def Ei(B:Bs)(sl:SL K)(n:Bool)(wi:TI){α:Type}[Rp K α](mi:Option (List α)):Prop :=
 ∀xs,mi=some xs->∀(F:Hp)(O:Own)(H:Hp)(σ:St)(R:It->Hp->Prop),At B sl F O H σ->(∀(J:It)(F' H':Hp),bN B F H O F' H'->Yl K B F' n J xs->R J H')->wi σ H R
def Tg(B:Bs)(sl:SL K)(n:Bool)(g:TG){α:Type}[Rp K α](L:α->SL K):Prop :=
 ∀(v:V)(x:α)(F:Hp)(O:Own)(H:Hp)(σ:St)(Q:St->Hp->Prop),At B sl F O H σ->rp K (reg B F H (jD n)) v x->(∀σ',At B (L x) F O H σ'->Q σ' H)->g v σ H Q
theorem zY(i:Nat)(hs:sl[i]?=some s)(ho:mQ s=false):Tg B sl n (yq i) (λx:α=>sl.set i (.fz n x)):=λv x F O H σ Q a r k=>k _ ⟨a.1,a.2.put (λ_ _ _ z=>.fz r z) hs ho⟩
theorem Gu(k:Ok B F O H)(h:reg B F H (jD n) p=some o):H p=some o:=Gm k n p o h
theorem Jx(i j:Nat)(hs:sl[i]?=some s)(ho:mQ s=false)(hs':∀x:Slot K,(sl.set i x)[j]?=some s')(ho':mQ s'=false) :
  Tg B sl n (KR K 2 (Bt (yq i) (Bt (yq j) RL))) (λx:α×β=>(sl.set i (.fz n x.1)).set j (.fz n x.2)):=λv x F O H σ Q a r k=>by
 obtain⟨p,w1,w2,rfl,h1,h2,h3⟩:=r
 refine⟨p,[w1,w2],rfl,.inl (.inl (Gu a.1 h1)),rfl,w1,[w2],rfl,w2,[],rfl,rfl,?_⟩
 exact k _ ⟨a.1,(a.2.put (s':=.fz n x.1) (λ_ _ _ z=>.fz h2 z) hs ho).put (λ_ _ _ z=>.fz h3 z) (hs' _) ho'⟩
theorem wL{L:S->SL K}{Lx:S->α->SL K}{step:S->α->Option S}(s0:S)(h0:Le sl (L s0))(hi:Ei B (L s0) n wi mi)(hg:∀s,Tg B (L s) n g (Lx s))(hb:∀s x,Sn B (Lx s x) tb L (step s x)) :
  Sn B sl (Fv wi g tb) L (mi.bind λxs=>xK step xs s0):=λs1 hs1 G D σ H q k=>by
 cases mi with
 |none=>cases hs1
 |some xs =>
  have hs1:xK step xs s0=some s1:=hs1
  obtain⟨F,O,g0,a⟩:=q.le h0
  refine hi xs rfl F O H σ _ a λJ F' H' gr yl=>?_
  refine⟨λi m σ H=>m=xs.length-i/\i<=xs.length/\∃s,xK step (xs.take i) s0=some s/\Sg B F' (L s) σ H,⟨xs.length,rfl,abk _,s0,rfl,F',O,.refl _,a.grow gr⟩,?_⟩
  rintro i m σ H ⟨rfl,hil,s,hs,F2,O2,sf,a2⟩
  obtain⟨y1,y2⟩:=yl i F2 O2 H sf a2.1
  by_cases hlt:i<xs.length
  ·obtain⟨go,y3⟩:=y2 xs[i] (aas hlt)
   obtain⟨s',s'',e1,e2,e3⟩:=zG5 hs1 (aas hlt)
   rw[hs] at e1
   cases e1
   refine .inr ⟨go,Sg B F' (L s''),λσ' H' z=>⟨xs.length-(i+1),by omega,rfl,hlt,s'',e3,z⟩,λv H3 yd=>?_⟩
   obtain⟨F3,g3,r3⟩:=y3 v H3 yd
   exact hg s v xs[i] F3 O2 H3 σ _ (a2.grow g3) r3 λσ' a'=>hb s xs[i] s'' e2 F' _ σ' H3 ⟨F3,O2,sf.trans g3.ff,a'⟩ λσ2 H2 z=>z
  ·have e:i=xs.length:=by omega
   subst e
   rw[take_length,hs1] at hs
   cases hs
   exact .inl ⟨y1 (aav _),k σ H ⟨F2,O2,(g0.trans gr.ff).trans sf,a2⟩⟩
theorem Ml{L:S->SL K}{Lx:S->α->SL K}{step:S->α->Option (Out S β)}(s0:S)(h0:Le sl (L s0))(hi:Ei B (L s0) n wi mi)(hg:∀s,Tg B (L s) n g (Lx s))(hb:∀s x,Sx B (Lx s x) tb al L (step s x)) :
  Sx B sl (Fv wi g tb) al L (mi.bind λxs=>uB step xs s0):=λo ho G D σ H q k=>by
 cases mi with
 |none=>cases ho
 |some xs =>
  have ho:uB step xs s0=some o:=ho
  obtain⟨F,O,g0,a⟩:=q.le h0
  refine hi xs rfl F O H σ _ a λJ F' H' gr yl=>?_
  refine⟨λi m σ H=>m=xs.length-i/\i<=xs.length/\∃s,uB step (xs.take i) s0=some (.nx s)/\Sg B F' (L s) σ H,⟨xs.length,rfl,abk _,s0,rfl,F',O,.refl _,a.grow gr⟩,?_⟩
  rintro i m σ H ⟨rfl,hil,s,hs,F2,O2,sf,a2⟩
  obtain⟨y1,y2⟩:=yl i F2 O2 H sf a2.1
  by_cases hlt:i<xs.length
  ·obtain⟨go,y3⟩:=y2 xs[i] (aas hlt)
   have e2:=zPd hs (aas hlt)
   obtain⟨o',e3⟩:=zPe (i+1) ho
   refine .inr ⟨go,λσ H=>∃s',o'=.nx s'/\Sg B F' (L s') σ H,λσ' H' ⟨s',e,z⟩=>⟨xs.length-(i+1),by omega,rfl,hlt,s',by rw[e3,e],z⟩,λv H3 yd=>?_⟩
   obtain⟨F3,g3,r3⟩:=y3 v H3 yd
   refine hg s v xs[i] F3 O2 H3 σ _ (a2.grow g3) r3 λσ' a'=>hb s xs[i] o' (by rw[<-e2,e3]) F' _ σ' H3 ⟨F3,O2,sf.trans g3.ff,a'⟩ ?_
   cases o' with
   |nx s'=>exactλσ2 H2 z=>⟨s',rfl,z⟩
   |rt b =>
    have:=zSd ho e3
    subst this
    exact k
  ·have e:i=xs.length:=by omega
   subst e
   rw[take_length,ho] at hs
   cases hs
   exact .inl ⟨y1 (aav _),k σ H ⟨F2,O2,(g0.trans gr.ff).trans sf,a2⟩⟩
theorem zMq{L:S->SL K}{cM:S->Option Bool}{bM:S->Option S}(fuel:Nat)(s0:S)(h0:Le sl (L s0))(hc:∀s,Et B (L s) c (cM s))(hb:∀s,Sn B (L s) tb L (bM s)):Sn B sl (zV7 c tb) L (Gn cM bM fuel s0):=λs1 hs1 G D σ H q k=>by
 refine⟨λm σ H=>∃s,Gn cM bM m s=some s1/\Sg B G (L s) σ H,⟨fuel,s0,hs1,q.le h0⟩,?_⟩
 rintro m σ H ⟨s,hs,F,O,g,a⟩
 cases m with
 |zero=>cases hs
 |succ m =>
  have hs:((cM s).bind λb=>if b=true then(bM s).bind λs'=>Gn cM bM m s' else some s)=some s1:=hs
  cases e:cM s with
  |none=>rw[e] at hs;cases hs
  |some b =>
   rw[e] at hs
   refine hc s b e F O H σ _ a λF' H' gr=>?_
   cases b with
   |true =>
    have hs:((bM s).bind λs'=>Gn cM bM m s')=some s1:=by simpa using hs
    cases e2:bM s with
    |none=>rw[e2] at hs;cases hs
    |some s' =>
     rw[e2] at hs
     exact o_ ⟨Sg B G (L s'),λσ' H' z=>⟨m,ac2 _,s',hs,z⟩,hb s s' e2 G _ σ H' (Sg.grow g a gr) λ_ _ z=>z⟩
   |false =>
    have hs:some s=some s1:=by simpa using hs
    cases hs
    exact oZ (k σ H' (Sg.grow g a gr))
theorem yL{mi:Option (List α)}(h:Ex B sl (jD n) te mi):Ei B sl n (V4 K te) mi:=λxs hx F O H σ R a k=>by
 refine h xs hx F O H σ _ a λv F' H' gr r=>?_
 obtain⟨p,vs,rfl,h1,h2⟩:=r
 refine⟨p,rfl,⟨vs,bx.of (Gm gr.ok n p _ h1)⟩,k _ F' H' gr λi F2 O2 H2 sf k2=>?_⟩
 have hq:bx K H2 p vs:=bx.of (k2.fh _ _ (sf _ _ (by cases n with|true=>exact aZ _ _ h1|false=>exact h1)))
 refine⟨λhl=>⟨vs,hq,by rw[h2.len];exact hl⟩,λx hx=>?_⟩
 obtain⟨w,hw,rw⟩:=h2.at2 hx
 refine⟨⟨vs,w,hq,hw⟩,λv H3 yd=>?_⟩
 obtain⟨e,y⟩:=yd
 subst e
 have:=(hw.symm.trans (y vs hq))
 cases this
 exact⟨F2,.refl k2,Rp.mono (Ci n sf) rw⟩
theorem Zf{k i:Nat}{x:Int}(h:((aax k).map ac1)[i]?=some x):i<k/\x=i:=by
 rw[getElem?_map] at h
 by_cases q:i<k
 ·rw[getElem?_range q] at h;cases h;exact⟨q,rfl⟩
 ·rw[ab3 (by rw[length_range];omega)] at h;cases h
theorem xZ(h:Ex B sl .hp te mi):Ei B sl n (Jp (xS te bJ)) (mi.bind vE):=λxs hx F O H σ R a k=>by
 cases mi with
 |none=>cases hx
 |some j =>
  have hx:vE j=some xs:=hx
  unfold vE at hx
  split at hx
  case isFalse=>cases hx
  rename_i hb
  cases hx
  refine h j rfl F O H σ _ a λv F' H' gr r=>?_
  cases r
  refine⟨j,rfl,hb.1,hb.2,k _ F' H' gr λi F2 O2 H2 sf k2=>⟨λhl=>?_,λx hx=>?_⟩⟩
  ·rw[length_map,length_range] at hl;exact hl
  ·obtain⟨h1,rfl⟩:=Zf hx
   refine⟨h1,λv H3 yd=>?_⟩
   obtain⟨rfl,rfl⟩:=yd
   exact⟨F2,.refl k2,by show V.int (0+(i:Int))=V.int i;rw[Int.zero_add]⟩
def Cp{α:Type}(xs:List α):List (Int×α):=((aax xs.length).map ac1).zip xs
theorem Zg{α:Type}{xs:List α}{i:Nat}{x:Int×α}(h:(Cp xs)[i]?=some x):x.1=i/\xs[i]?=some x.2:=by
 unfold Cp at h
 rw[getElem?_zip_eq_some] at h
 exact⟨(Zf h.1).2,h.2⟩
theorem zKg{α:Type}(xs:List α):(Cp xs).length=xs.length:=by unfold Cp;simp
theorem Zh{mi:Option (List α)}(h:Ex B sl (jD n) te mi):Ei B sl n (Cd K (xS te bJ)) (mi.bind λxs=>some (Cp xs)):=λxs hx F O H σ R a k=>by
 cases mi with
 |none=>cases hx
 |some zs =>
  cases(show some (Cp zs)=some xs from hx)
  refine h zs rfl F O H σ _ a λv F' H' gr r=>?_
  obtain⟨p,vs,rfl,h1,h2⟩:=r
  refine⟨p,rfl,⟨vs,bx.of (Gm gr.ok n p _ h1)⟩,k _ F' H' gr λi F2 O2 H2 sf k2=>?_⟩
  have hq:bx K H2 p vs:=bx.of (k2.fh _ _ (sf _ _ (by cases n with|true=>exact aZ _ _ h1|false=>exact h1)))
  refine⟨λhl=>⟨vs,hq,by rw[h2.len,<-zKg];exact hl⟩,λx hx=>?_⟩
  obtain⟨e1,e2⟩:=Zg hx
  obtain⟨w,hw,rw⟩:=h2.at2 e2
  refine⟨⟨vs,w,hq,hw⟩,λv H3 yd=>?_⟩
  obtain⟨t,x',rfl,ht,rfl,y⟩:=yd
  have:=(hw.symm.trans (y vs hq))
  cases this
  have g3:=bN.new k2 ht (.tup [.int i,w])
  refine⟨_,g3,t,.int i,w,rfl,?_,?_,Rp.mono (Ci n (sf.trans g3.ff)) rw⟩
  ·exact S9 k2 ht (jD n)
  ·rw[e1];rfl
def yX{α β:Type}(c:α->Option Bool)(f:α->Option β)(xs:List α):Option (List β):=if xs.length<cap then wG c f xs else none
theorem Wo{α β:Type}(c:α->Option Bool)(f:α->Option β):∀(xs ys:List α),wG c f (xs++ys)=(wG c f xs).bind λa=>(wG c f ys).bind λb=>some (a++b)
 |[],ys=>by
  rw[nil_append]
  show wG c f ys=(wG c f ys).bind λb=>some ([]++b)
  cases wG c f ys<;>rfl
 |x::xs,ys=>by
  show(c x).bind _=((c x).bind _).bind _
  cases c x with
  |none=>rfl
  |some b =>
   cases b with
   |true =>
    show(f x).bind _=((f x).bind _).bind _
    cases f x with
    |none=>rfl
    |some y =>
     show(wG c f (xs++ys)).bind _=((wG c f xs).bind _).bind _
     rw[Wo c f xs ys]
     cases wG c f xs with
     |none=>rfl
     |some a =>
      show((wG c f ys).bind _).bind _=(wG c f ys).bind _
      cases wG c f ys<;>rfl
   |false=>exact Wo c f xs ys
theorem Zi{α β:Type}(c:α->Option Bool)(f:α->Option β):∀{xs:List α}{ys:List β},wG c f xs=some ys->ys.length<=xs.length
 |[],ys,h=>by cases h;exact aav _
 |x::xs,ys,h=>by
  have h:((c x).bind λb=>if b=true then(f x).bind λy=>(wG c f xs).bind λys=>some (y::ys) else wG c f xs)=some ys:=h
  cases e:c x with
  |none=>rw[e] at h;cases h
  |some b =>
   rw[e] at h
   cases b with
   |true =>
    have h:((f x).bind λy=>(wG c f xs).bind λys=>some (y::ys))=some ys:=by simpa using h
    cases e2:f x with
    |none=>rw[e2] at h;cases h
    |some y =>
     rw[e2] at h
     cases e3:wG c f xs with
     |none=>rw[e3] at h;cases h
     |some zs =>
      rw[e3] at h
      cases h
      exact abp (Zi c f e3)
   |false =>
    have h:wG c f xs=some ys:=by simpa using h
    exact Nat.le_succ_of_le (Zi c f h)
theorem zPp{α β:Type}{c:α->Option Bool}{f:α->Option β}{xs:List α}{zs:List β}(i:Nat)(h:wG c f xs=some zs):∃ys,wG c f (xs.take i)=some ys:=by
 rw[<-take_append_drop i xs,Wo] at h
 cases q:wG c f (xs.take i) with
 |none=>rw[q] at h;cases h
 |some o'=>exact⟨o',rfl⟩
theorem zPq{α β:Type}{c:α->Option Bool}{f:α->Option β}{xs:List α}{zs ys:List β}{x:α}(h:wG c f (xs.take (i+1))=some zs)(hy:wG c f (xs.take i)=some ys)(hx:xs[i]?=some x) :
  (c x=some false/\zs=ys)\/∃y,c x=some true/\f x=some y/\zs=ys++[y]:=by
 have e2:xs.take (i+1)=xs.take i++[x]:=by rw[take_add_one,hx]<;>rfl
 rw[e2,Wo,hy] at h
 have h:(((c x).bind λb=>if b=true then(f x).bind λy=>some [y] else some []).bind λb=>some (ys++b))=some zs:=h
 cases e:c x with
 |none=>rw[e] at h;cases h
 |some b =>
  rw[e] at h
  cases b with
  |true =>
   have h:(((f x).bind λy=>some [y]).bind λb=>some (ys++b))=some zs:=by simpa using h
   cases e2:f x with
   |none=>rw[e2] at h;cases h
   |some y=>rw[e2] at h;cases h;exact .inr ⟨y,rfl,rfl,rfl⟩
  |false =>
   have h:some (ys++[])=some zs:=by simpa using h
   rw[append_nil] at h
   cases h
   exact .inl ⟨rfl,rfl⟩
abbrev Te:Slot K->Slot K
 |.un=>.un
 |@Slot.fz _ n _ i a=>@Slot.fz _ n _ i a
 |@Slot.hs _ _ i a=>@Slot.hs _ _ i a
 |@Slot.nu _ _ i a=>@Slot.hs _ _ i a
 |@Slot.ow _ _ _ i xs=>@Slot.hs _ _ _ xs
 |@Slot.od _ _ _ _=>.un
theorem bN.lift(k:Ok B F O H)(g:bN B F H [] F' H'):bN B F H O F' H' :=
 ⟨g.ff,g.hh,⟨g.ok.fh,g.ok.h0,g.ok.fa,λx hx=>by
  obtain⟨a1,a2,a3⟩:=k.fo x hx
  exact⟨g.nw _ a1 (by rw[a3];intro z;cases z),a2,g.hh _ _ a3⟩,k.nd⟩,g.nw⟩
theorem Ok.nil(k:Ok B F O H):Ok B F [] H:=⟨k.fh,k.h0,k.fa,λx hx=>(by cases hx),(by simp)⟩
theorem ao.one(a:At B sl F O H σ)(L:Hp)(j:Nat)(hs:sl[j]?=some s):∀{sl':SL K}{σ':St},ao B F L H sl' σ' []->ao B F L H (Te s::sl') ((σ[j]?).getD none::σ') []:=λ{sl' σ'} h=>by
 cases s with
 |un=>exact .un h
 |fz n b=>obtain⟨v,h1,h2⟩:=a.2.rC hs;rw[h1];exact .fz h2 h
 |hs b=>obtain⟨v,h1,h2⟩:=a.2.S5 hs;rw[h1];exact .hs h2 h
 |nu b=>obtain⟨v,h1,h2⟩:=a.2.S6 hs;rw[h1];exact .hs (Rp.mono (aZ.trans lo_le) h2) h
 |ow n xs =>
  obtain⟨k,z0⟩:=a
  obtain⟨O1,O2,p,vs,rfl,h1,h2,_⟩:=z0.rD hs
  rw[h1]
  exact .hs ⟨p,vs,rfl,k.one.2.2,h2.imp λ_ _=>Rp.mono (Gm k n)⟩ h
 |od kvs=>exact .un h
def Mp(sl:SL K)(n:Nat)(ix:List Nat):SL K:=replicate n .un++ix.map λj=>Te ((sl[j]?).getD .un)
theorem Gv(a:At B sl F O H σ)(L:Hp)(n:Nat):∀(ix:List Nat),(∀j∈ix,j<sl.length)->ao B F L H (Mp sl n ix) (pq σ n ix) []:=λix hix=>by
 unfold Mp pq
 induction n with
 |zero =>
  show ao B F L H ([]++_) ([]++_) []
  rw[nil_append,nil_append]
  induction ix with
  |nil=>exact .nil
  |cons j ix ih =>
   rw[map_cons,map_cons]
   have hl:=hix j mem_cons_self
   have hj:sl[j]?=some sl[j]:=aas hl
   have z:=ao.one a L j hj (ih λk hk=>hix k (mem_cons_of_mem _ hk))
   rw[show(sl[j]?).getD .un=sl[j] by rw[hj]<;>rfl]
   exact z
 |succ n ih=>exact .un ih
inductive sY:SL K->SL K->Prop
 |nil:sY [] []
 |eq {s:Slot K} {a b:SL K}:sY a b->sY (s::a) (s::b)
 |un {s:Slot K} {a b:SL K}:sY a b->sY (s::a) (.un::b)
theorem ao.le0(l:sY sl sl2):∀{σ:St},ao B F L H sl σ []->ao B F L H sl2 σ []:=by
 induction l with
 |nil=>intro σ h;exact h
 |eq _ ih =>
  intro σ h
  cases h with
  |un h=>exact .un (ih h)
  |fz r h=>exact .fz r (ih h)
  |hs r h=>exact .hs r (ih h)
  |nu r h=>exact .nu r (ih h)
 |un _ ih =>
  intro σ h
  cases h with
  |un h=>exact .un (ih h)
  |fz r h=>exact .un (ih h)
  |hs r h=>exact .un (ih h)
  |nu r h=>exact .un (ih h)
theorem xB{c:α->Option Bool}{f:α->Option β}{ix:List Nat}(hix:(ix.all λj=>decide (j<sl.length))=true)(hI:jE=Mp sl no ix)(hi:Ei B sl n wi mi)(hg:Tg B jE n g Lx)(hc:∀x,Et B (Lx x) tc (c x))(he:∀x,Ex B (Lx x) md te (f x))(hle:∀x,sY (Lx x) jE) :
  Eo B sl md (Ca no ix wi g tc te) (mi.bind λxs=>yX c f xs):=λzs hz F O H σ Q a k=>by
 cases mi with
 |none=>cases hz
 |some xs =>
  have hz:yX c f xs=some zs:=hz
  unfold yX at hz
  split at hz
  case isFalse=>cases hz
  rename_i hcap
  have hcl:=Mg hcap
  refine hi xs rfl F O H σ _ a λJ F' H' gr yl=>?_
  have a':=a.grow gr
  refine⟨λi m ys σ2 H2=>m=xs.length-i/\i<=xs.length/\∃(F2:Hp)(ws:List β),wG c f (xs.take i)=some ws/\bN B F' H' O F2 H2/\ao B F2 (lo F2 [] H2) H2 jE σ2 []/\A2 (rp K (reg B F2 H2 md)) ys ws,
   ⟨xs.length,rfl,abk _,F',[],rfl,.refl a'.1,?_,trivial⟩,?_⟩
  ·rw[hI]
   exact Gv a' _ no ix λj hj=>by simpa using(all_eq_true.mp hix) j hj
  rintro i m ys σ2 H2 ⟨rfl,hil,F2,ws,hw,g2,s2,r2⟩
  have hyl:ys.length<=xs.length:=by
   rw[r2.len]
   exact aa4 (Zi c f hw) (by rw[length_take];omega)
  obtain⟨y1,y2⟩:=yl i F2 O H2 g2.ff g2.ok
  by_cases hlt:i<xs.length
  ·obtain⟨go,y3⟩:=y2 xs[i] (aas hlt)
   obtain⟨ws',hw'⟩:=zPp (i+1) hz
   refine .inr ⟨go,by omega,λys σ2 H2=>∃(F2:Hp),bN B F' H' O F2 H2/\ao B F2 (lo F2 [] H2) H2 jE σ2 []/\A2 (rp K (reg B F2 H2 md)) ys ws',λys' σ' H' ⟨F3,z1,z2,z3⟩=>⟨xs.length-(i+1),by omega,rfl,hlt,F3,ws',hw',z1,z2,z3⟩,λv H3 yd=>?_⟩
   obtain⟨F3,g3,r3⟩:=y3 v H3 yd
   have g23:=g2.trans g3
   have at3:At B jE F3 [] H3 σ2:=⟨g3.ok.nil,s2.mono g3.ff (zRu ⟨g3.ff,g3.hh,g3.ok.nil,g3.nw⟩) g3.hh⟩
   refine hg v xs[i] F3 [] H3 σ2 _ at3 r3 λσ4 a4=>?_
   have back:∀{F5 H5:Hp},bN B F3 H3 [] F5 H5->bN B F' H' O F5 H5/\ao B F5 (lo F5 [] H5) H5 jE σ4 []:=λ{F5 H5} g5=>⟨g23.trans (bN.lift g3.ok g5),(a4.grow g5).2.le0 (hle xs[i])⟩
   rcases zPq hw' hw (aas hlt) with⟨e1,rfl⟩|⟨y,e1,e2,rfl⟩
   ·refine hc xs[i] false e1 F3 [] H3 σ4 _ a4 λF5 H5 g5=>oZ ?_
    obtain⟨z1,z2⟩:=back g5
    exact⟨F5,z1,z2,r2.imp λ_ _=>Rp.mono (xC (g3.trans (bN.lift g3.ok g5)) md)⟩
   ·refine hc xs[i] true e1 F3 [] H3 σ4 _ a4 λF5 H5 g5=>o_ ?_
    refine he xs[i] y e2 F5 [] H5 σ4 _ (a4.grow g5) λw F6 H6 g6 r6=>?_
    obtain⟨z1,z2⟩:=back (g5.trans g6)
    exact⟨F6,z1,z2,(r2.imp λ_ _=>Rp.mono (xC (g3.trans (bN.lift g3.ok (g5.trans g6))) md)).snoc r6⟩
  ·have e:i=xs.length:=by omega
   subst e
   rw[take_length,hz] at hw
   cases hw
   exact .inl ⟨y1 (aav _),by omega,λp hp=>k p ys F2 H2 (gr.trans g2) hp r2⟩
abbrev isF:Slot K->Bool
 |@Slot.fz _ false _ _ _=>true
 |_=>false
theorem zE0{as:SL K}(k:Nat)(hf:as.all isF=true)(r:Ar F as vs):ao ⟨F,H⟩ F L' H (as++replicate k .un) (vs.map some++replicate k none) []:=by
 induction r with
 |nil =>
  show ao _ _ _ _ ([]++_) ([]++_) []
  rw[nil_append,nil_append]
  induction k with
  |zero=>exact .nil
  |succ k ih=>exact .un ih
 |@cons n _ _ _ _ _ _ r _ ih =>
  rw[all_cons,aaz] at hf
  cases n with
  |false=>exact .fz r (ih hf.2)
  |true=>exact absurd hf.1 (by simp)
theorem Ar.len(r:Ar F as vs):vs.length=as.length:=by
 induction r with
 |nil=>rfl
 |cons _ _ ih=>rw[length_cons,length_cons,ih]
theorem zTz{A:Type}{as:A->SL K}{f:A->Option β}{N:List Str}(hf:∀a,(as a).all isF=true)(hl:∀a,(as a).length=np)(hb:∀Fa a,SB ⟨Fa,H⟩ (as a++replicate (N.length-np) .un) t al (f a))(h:cu K al as f vs H Q E):t { nx:=λ_ H'=>Q .non H',rt:=Q } (L2.start N vs) H:=by
 obtain⟨a,b,Fa,s,hfa,r,q⟩:=h
 have e:L2.start N vs=vs.map some++replicate (N.length-np) none:=by
  unfold L2.start
  rw[r.len,hl]
 rw[e]
 refine hb Fa a b hfa Fa _ _ H ⟨Fa,[],.refl _,⟨s,.refl _,λb o h=>.inl h,λx hx=>(by cases hx),(by simp)⟩,zE0 _ (hf a) r⟩ (λv H' z=>q v H' z.1 z.2)
theorem zV9{A:Type}{as:A->SL K}{f:A->Option β}(hl:∀a,(as a).length=np)(h:cu K al as f vs H Q E):vs.length=np:=by
 obtain⟨a,b,Fa,s,hfa,r,q⟩:=h
 rw[r.len,hl]
end
open PySem.SeqAt (EqAt RcAt RcNeAt)
class Eqv (K:PySem.W.Frag) (α:Type) [Rp K α] [DecidableEq α] where
 dep:Nat
 det:∀{H:Hp}{v:V}{a b:α},rp K H v a->rp K H v b->a=b
 Cq:∀{X:Cx}{pins:List (Addr×Obj)}{σ:St}{H:Hp}{s:Shared},Inv X pins σ H s->∀{A:Around},A.units+dep<cLine->∀{v w:V}{u u':Value}{a b:α},rp K H v a->rp K H w b->RelV v u->RelV w u'->EqAt A s u u' (decide (a=b))
 Mq:∀{X:Cx}{pins:List (Addr×Obj)}{σ:St}{H:Hp}{s:Shared},Inv X pins σ H s->∀{A:Around},A.units+dep<cLine->∀{v w:V}{u u':Value}{a b:α},rp K H v a->rp K H w b->RelV v u->RelV w u'->RcAt A s u u' (decide (a=b))
 Mr:∀{X:Cx}{pins:List (Addr×Obj)}{σ:St}{H:Hp}{s:Shared},Inv X pins σ H s->∀{A:Around},A.units+dep<cLine->∀{v w:V}{u u':Value}{a b:α},rp K H v a->rp K H w b->RelV v u->RelV w u'->RcNeAt A s u u' (!decide (a=b))
section
variable{K:PySem.W.Frag}
theorem iz{α:Type}[BEq α][LawfulBEq α][DecidableEq α](a b:α):(a==b)=decide (a=b):=by
 by_cases h:a=b
 ·subst h;simp
 ·simp[h]
instance:Eqv K Int where
 dep:=0
 det h1 h2:=by cases h1;cases h2;rfl
 Cq _ _ _ _ _ _ _ _ _ h1 h2 r1 r2:=by cases h1;cases h2;obtain⟨t,rfl⟩:=r1;obtain⟨t',rfl⟩:=r2;rw[<-iz];exact EqAt.int_int _ _ _ _
 Mq _ _ _ _ _ _ _ _ _ h1 h2 r1 r2:=by cases h1;cases h2;obtain⟨t,rfl⟩:=r1;obtain⟨t',rfl⟩:=r2;rw[<-iz];exact RcAt.int_int _ _ _ _
 Mr _ _ _ _ _ _ _ _ _ h1 h2 r1 r2:=by cases h1;cases h2;obtain⟨t,rfl⟩:=r1;obtain⟨t',rfl⟩:=r2;rw[<-iz];exact RcNeAt.int_int _ _ _ _
instance:Eqv K Str where
 dep:=0
 det h1 h2:=by cases h1;cases h2;rfl
 Cq _ _ _ _ _ _ _ _ _ h1 h2 r1 r2:=by cases h1;cases h2;obtain⟨t,rfl⟩:=r1;obtain⟨t',rfl⟩:=r2;rw[<-iz];exact EqAt.str_str _ _ _ _
 Mq _ _ _ _ _ _ _ _ _ h1 h2 r1 r2:=by cases h1;cases h2;obtain⟨t,rfl⟩:=r1;obtain⟨t',rfl⟩:=r2;rw[<-iz];exact RcAt.str_str _ _ _ _
 Mr _ _ _ _ _ _ _ _ _ h1 h2 r1 r2:=by cases h1;cases h2;obtain⟨t,rfl⟩:=r1;obtain⟨t',rfl⟩:=r2;rw[<-iz];exact RcNeAt.str_str _ _ _ _
instance:Eqv K Bool where
 dep:=0
 det h1 h2:=by cases h1;cases h2;rfl
 Cq _ _ _ _ _ _ _ _ _ h1 h2 r1 r2:=by cases h1;cases h2;cases r1;cases r2;rw[<-iz];exact EqAt.bool_bool _ _
 Mq _ _ _ _ _ _ _ _ _ h1 h2 r1 r2:=by cases h1;cases h2;cases r1;cases r2;rw[<-iz];exact RcAt.bool_bool _ _
 Mr _ _ _ _ _ _ _ _ _ h1 h2 r1 r2:=by cases h1;cases h2;cases r1;cases r2;rw[<-iz];exact RcNeAt.bool_bool _ _
theorem Zj{a b:Int}:decide (some a=some b)=decide (a=b):=by simp
instance:Eqv K (Option Int) where
 dep:=0
 det {H v a b} h1 h2:=by
  cases a with
  |none=>cases b with
   |none=>rfl
   |some y=>exact absurd h1 h2.1
  |some x=>cases b with
   |none=>exact absurd h2 h1.1
   |some y=>cases h1.2;cases h2.2;rfl
 Cq {X pins σ H s} _ {A} _ {v w u u' a b} h1 h2 r1 r2:=by
  cases a with
  |none =>
   cases h1;cases r1
   cases b with
   |none=>cases h2;cases r2;exact EqAt.same _
   |some y=>cases h2.2;obtain⟨t',rfl⟩:=r2;exact EqAt.none_int _ _
  |some x =>
   cases h1.2;obtain⟨t,rfl⟩:=r1
   cases b with
   |none=>cases h2;cases r2;exact EqAt.int_none _ _
   |some y=>cases h2.2;obtain⟨t',rfl⟩:=r2;rw[Zj,<-iz];exact EqAt.int_int _ _ _ _
 Mq {X pins σ H s} _ {A} _ {v w u u' a b} h1 h2 r1 r2:=by
  cases a with
  |none =>
   cases h1;cases r1
   cases b with
   |none=>cases h2;cases r2;exact RcAt.none_none
   |some y=>cases h2.2;obtain⟨t',rfl⟩:=r2;exact RcAt.none_int _ _
  |some x =>
   cases h1.2;obtain⟨t,rfl⟩:=r1
   cases b with
   |none=>cases h2;cases r2;exact RcAt.int_none _ _
   |some y=>cases h2.2;obtain⟨t',rfl⟩:=r2;rw[Zj,<-iz];exact RcAt.int_int _ _ _ _
 Mr {X pins σ H s} _ {A} _ {v w u u' a b} h1 h2 r1 r2:=by
  cases a with
  |none =>
   cases h1;cases r1
   cases b with
   |none=>cases h2;cases r2;exact RcNeAt.none_none
   |some y=>cases h2.2;obtain⟨t',rfl⟩:=r2;exact RcNeAt.none_int _ _
  |some x =>
   cases h1.2;obtain⟨t,rfl⟩:=r1
   cases b with
   |none=>cases h2;cases r2;exact RcNeAt.int_none _ _
   |some y=>cases h2.2;obtain⟨t',rfl⟩:=r2;rw[Zj,<-iz];exact RcNeAt.int_int _ _ _ _
theorem A2.det{α β:Type}{R:α->β->Prop}(h:∀x y z,R x y->R x z->y=z):∀{xs:List α}{ys zs:List β},A2 R xs ys->A2 R xs zs->ys=zs
 |[],[],[],_,_=>rfl
 |_::_,_::_,_::_,h1,h2=>by rw[h _ _ _ h1.1 h2.1,A2.det h h1.2 h2.2]
 |[],_::_,_,h1,_=>h1.elim
 |[],[],_::_,_,h2=>h2.elim
 |_::_,[],_,h1,_=>h1.elim
 |_::_,_::_,[],_,h2=>h2.elim
theorem Wq{α:Type}[DecidableEq α]:∀{xs ys:List α},xs.length=ys.length->((aax xs.length).all λj=>decide (xs[j]?=ys[j]?))=decide (xs=ys)
 |[],[],_=>by simp
 |x::xs,y::ys,h=>by
  have ih:=Wq (xs:=xs) (ys:=ys) (by simpa using h)
  rw[length_cons,range_succ_eq_map,all_cons,List.all_map]
  have e:((λj=>decide ((x::xs)[j]?=(y::ys)[j]?))∘Nat.succ)=λj=>decide (xs[j]?=ys[j]?):=by
   funext j
   simp
  rw[e,ih]
  by_cases h1:x=y<;>by_cases h2:xs=ys<;>simp[h1,h2]
 |[],_::_,h=>by simp at h
 |_::_,[],h=>by simp at h
theorem Qq{α:Type}[Rp K α]{xs:List α}(r:Vals vs us)(h:A2 (rp K H) vs xs)(j:Nat)(hj:j<us.toArray.size):∃v x,xs[j]?=some x/\rp K H v x/\RelV v us.toArray[j]:=by
 have l1:j<vs.length:=by rw[r.length];simpa using hj
 obtain⟨u,hu,ru⟩:=r.get (aas l1)
 obtain⟨x,hx,rx⟩:=h.at1 (aas l1)
 refine⟨vs[j],x,hx,rx,?_⟩
 have e1:us.toArray[j]=u:=by
  have:us[j]?=some u:=hu
  rw[aas (by simpa using hj)] at this
  simpa using this
 rw[e1]
 exact ru
theorem Tf{A:Around}:A.in1.units=A.units+1:=rfl
instance{α:Type}[Rp K α][DecidableEq α][Eqv K α]:Eqv K (List α) where
 dep:=Eqv.dep K α+1
 det {H v a b} h1 h2:=by
  obtain⟨p,vs,rfl,h1,r1⟩:=h1
  obtain⟨p',vs',e,h2,r2⟩:=h2
  cases e
  cases h1.symm.trans h2
  exact A2.det (R:=rp K H) (λ_ _ _ z1 z2=>Eqv.det (K:=K) z1 z2) r1 r2
 Mq {X pins σ H s} I {A} hu {v w u u' a b} h1 h2 q1 q2:=by
  obtain⟨p,vs,rfl,h1,r1⟩:=h1
  obtain⟨p',ws,rfl,h2,r2⟩:=h2
  cases q1;cases q2
  obtain⟨us,s1,p1,_⟩:=I.list (bx.of h1)
  obtain⟨us',s2,p2,_⟩:=I.list (bx.of h2)
  have n1:us.toArray.size=a.length:=by rw[size_toArray,<-r1.len];exact s1.length.symm
  have n2:us'.toArray.size=b.length:=by rw[size_toArray,<-r2.len];exact s2.length.symm
  by_cases hl:a.length=b.length
  ·have z:=RcAt.lists (e:=λj=>decide (a[j]?=b[j]?)) p1.isList p2.isList (by rw[n1,n2];exact hl) (aa5 (abn _ _) hu) (λj h1 h2=>by
    obtain⟨v,x,e1,e2,e3⟩:=Qq s1 r1 j h1
    obtain⟨w,y,f1,f2,f3⟩:=Qq s2 r2 j h2
    rw[e1,f1]
    have z:=Eqv.Cq (K:=K) I (A:=A.in1) (by rw[Tf];omega) e2 f2 e3 f3
    simpa using z)
   rw[n1,Wq hl] at z
   exact z
  ·rw[show decide (a=b)=false by simp;intro e;exact hl (by rw[e])]
   exact RcAt.lists_lengths p1.isList p2.isList (by rw[n1,n2];exact bne_iff_ne.mpr hl) (aa5 (abn _ _) hu)
 Mr {X pins σ H s} I {A} hu {v w u u' a b} h1 h2 q1 q2:=by
  obtain⟨p,vs,rfl,h1,r1⟩:=h1
  obtain⟨p',ws,rfl,h2,r2⟩:=h2
  cases q1;cases q2
  obtain⟨us,s1,p1,_⟩:=I.list (bx.of h1)
  obtain⟨us',s2,p2,_⟩:=I.list (bx.of h2)
  have n1:us.toArray.size=a.length:=by rw[size_toArray,<-r1.len];exact s1.length.symm
  have n2:us'.toArray.size=b.length:=by rw[size_toArray,<-r2.len];exact s2.length.symm
  by_cases hl:a.length=b.length
  ·have z:=RcNeAt.lists (e:=λj=>decide (a[j]?=b[j]?)) p1.isList p2.isList (by rw[n1,n2];exact hl) (aa5 (abn _ _) hu) (λj h1 h2=>by
    obtain⟨v,x,e1,e2,e3⟩:=Qq s1 r1 j h1
    obtain⟨w,y,f1,f2,f3⟩:=Qq s2 r2 j h2
    rw[e1,f1]
    have z:=Eqv.Cq (K:=K) I (A:=A.in1) (by rw[Tf];omega) e2 f2 e3 f3
    simpa using z)
   rw[n1,Wq hl] at z
   exact z
  ·rw[show decide (a=b)=false by simp;intro e;exact hl (by rw[e])]
   exact RcNeAt.lists_lengths p1.isList p2.isList (by rw[n1,n2];exact bne_iff_ne.mpr hl) (aa5 (abn _ _) hu)
 Cq {X pins σ H s} I {A} hu {v w u u' a b} h1 h2 q1 q2:=by
  obtain⟨p,vs,rfl,h1,r1⟩:=h1
  obtain⟨p',ws,rfl,h2,r2⟩:=h2
  cases q1;cases q2
  by_cases hp:p=p'
  ·subst hp
   cases h1.symm.trans h2
   rw[show a=b from A2.det (R:=rp K H) (λ_ _ _ z1 z2=>Eqv.det (K:=K) z1 z2) r1 r2]
   simp
   exact EqAt.same _
  ·refine EqAt.of_refs hp ?_
   obtain⟨us,s1,p1,_⟩:=I.list (bx.of h1)
   obtain⟨us',s2,p2,_⟩:=I.list (bx.of h2)
   have n1:us.toArray.size=a.length:=by rw[size_toArray,<-r1.len];exact s1.length.symm
   have n2:us'.toArray.size=b.length:=by rw[size_toArray,<-r2.len];exact s2.length.symm
   by_cases hl:a.length=b.length
   ·have z:=RcAt.lists (e:=λj=>decide (a[j]?=b[j]?)) p1.isList p2.isList (by rw[n1,n2];exact hl) (aa5 (abn _ _) hu) (λj h1 h2=>by
     obtain⟨v,x,e1,e2,e3⟩:=Qq s1 r1 j h1
     obtain⟨w,y,f1,f2,f3⟩:=Qq s2 r2 j h2
     rw[e1,f1]
     have z:=Eqv.Cq (K:=K) I (A:=A.in1) (by rw[Tf];omega) e2 f2 e3 f3
     simpa using z)
    rw[n1,Wq hl] at z
    exact z
   ·rw[show decide (a=b)=false by simp;intro e;exact hl (by rw[e])]
    exact RcAt.lists_lengths p1.isList p2.isList (by rw[n1,n2];exact bne_iff_ne.mpr hl) (aa5 (abn _ _) hu)
theorem zUm{α β:Type}[DecidableEq α][DecidableEq β](a b:α×β):((aax (min 2 2)).all (λj=>if j=0 then decide (a.1=b.1) else decide (a.2=b.2))&&((2:Nat)==2))=decide (a=b):=by
 obtain⟨a1,a2⟩:=a
 obtain⟨b1,b2⟩:=b
 by_cases h1:a1=b1<;>by_cases h2:a2=b2<;>simp[range_succ,h1,h2]
section
variable{α β:Type}[Rp K α][DecidableEq α][Eqv K α][Rp K β][DecidableEq β][Eqv K β]{X:Cx}{pins:List (Addr×Obj)}{σ:St}{H:Hp}{s:Shared}{A:Around}{a b:α×β}{p p':Addr}{v1 v2 w1 w2:V}
theorem zOr(I:Inv X pins σ H s)(hu:A.units+(Eqv.dep K α+Eqv.dep K β+1)<cLine)(r1:rp K H v1 a.1)(r2:rp K H v2 a.2)(z1:rp K H w1 b.1)(z2:rp K H w2 b.2)(a1:RelV v1 u1)(a2:RelV v2 u2)(b1:RelV w1 t1)(b2:RelV w2 t2) :
  ∀(j:Nat)(h1:j < #[u1,u2].size)(h2:j < #[t1,t2].size),EqAt A.in1 s #[u1,u2][j] #[t1,t2][j] (if j=0 then decide (a.1=b.1) else decide (a.2=b.2)):=by
 intro j h1 h2
 have hj:j=0\/j=1:=by
  have:j<2:=h1
  omega
 rcases hj with rfl|rfl
 ·exact Eqv.Cq (K:=K) I (A:=A.in1) (by rw[Tf];omega) r1 z1 a1 b1
 ·exact Eqv.Cq (K:=K) I (A:=A.in1) (by rw[Tf];omega) r2 z2 a2 b2
theorem Zk(I:Inv X pins σ H s)(hu:A.units+(Eqv.dep K α+Eqv.dep K β+1)<cLine)(h1:H p=some (.tup [v1,v2]))(h2:H p'=some (.tup [w1,w2]))(r1:rp K H v1 a.1)(r2:rp K H v2 a.2)(z1:rp K H w1 b.1)(z2:rp K H w2 b.2) :
  RcAt A s (.ref p) (.ref p') (decide (a=b))/\RcNeAt A s (.ref p) (.ref p') (!decide (a=b)):=by
 obtain⟨us,s1,p1,_⟩:=I.tuple (.inl (.inl h1))
 obtain⟨us',s2,p2,_⟩:=I.tuple (.inl (.inl h2))
 obtain⟨u1,u2,rfl,a1,a2⟩:=vals2 s1
 obtain⟨t1,t2,rfl,b1,b2⟩:=vals2 s2
 have he:=zOr (A:=A) I hu r1 r2 z1 z2 a1 a2 b1 b2
 have hu':A.units<cLine:=aa5 (abn _ _) hu
 have q1:=RcAt.tuples p1 p2 hu' he
 have q2:=RcNeAt.tuples p1 p2 hu' he
 rw[<-zUm]
 exact⟨q1,q2⟩
end
instance{α β:Type}[Rp K α][DecidableEq α][Eqv K α][Rp K β][DecidableEq β][Eqv K β]:Eqv K (α×β) where
 dep:=Eqv.dep K α+Eqv.dep K β+1
 det {H v a b} h1 h2:=by
  obtain⟨p,v1,v2,rfl,h1,r1,r2⟩:=h1
  obtain⟨p',w1,w2,e,h2,q1,q2⟩:=h2
  cases e
  cases h1.symm.trans h2
  exact Prod.ext (Eqv.det (K:=K) r1 q1) (Eqv.det (K:=K) r2 q2)
 Mq {X pins σ H s} I {A} hu {v w u u' a b} h1 h2 q1 q2:=by
  obtain⟨p,v1,v2,rfl,h1,r1,r2⟩:=h1
  obtain⟨p',w1,w2,rfl,h2,z1,z2⟩:=h2
  cases q1;cases q2
  exact(Zk I hu h1 h2 r1 r2 z1 z2).1
 Mr {X pins σ H s} I {A} hu {v w u u' a b} h1 h2 q1 q2:=by
  obtain⟨p,v1,v2,rfl,h1,r1,r2⟩:=h1
  obtain⟨p',w1,w2,rfl,h2,z1,z2⟩:=h2
  cases q1;cases q2
  exact(Zk I hu h1 h2 r1 r2 z1 z2).2
 Cq {X pins σ H s} I {A} hu {v w u u' a b} h1 h2 q1 q2:=by
  obtain⟨p,v1,v2,rfl,h1,r1,r2⟩:=h1
  obtain⟨p',w1,w2,rfl,h2,z1,z2⟩:=h2
  cases q1;cases q2
  by_cases hp:p=p'
  ·subst hp
   cases h1.symm.trans h2
   rw[show a=b from Prod.ext (Eqv.det (K:=K) r1 z1) (Eqv.det (K:=K) r2 z2)]
   simp
   exact EqAt.same _
  ·exact EqAt.of_refs hp (Zk I hu h1 h2 r1 r2 z1 z2).1
def Gw(K:PySem.W.Frag)(α:Type)[Rp K α][DecidableEq α](neg:Bool):R2:=λx y H Q=>∃a b:α,rp K H x a/\rp K H y b/\Q (.bl (if neg=true then !decide (a=b) else decide (a=b))) H
theorem uP(K:PySem.W.Frag)(α:Type)[Rp K α][DecidableEq α][Eqv K α]{X:Cx}(hr:bT k X.A)(hd:Eqv.dep K α<=64:=by exact Nat.le_of_ble_eq_true rfl):jr X (compareOp .Eq) (Gw K α false):=by
 intro pins s σ H x y v u Q I rx ry h
 obtain⟨a,b,h1,h2,q⟩:=h
 exact Eqv.Mq (K:=K) I (A:=X.A) (by have:=hr.units;omega) h1 h2 rx ry _ _ _ _ ⟨.bl (decide (a=b)),H,I,rfl,q⟩
theorem Ti(K:PySem.W.Frag)(α:Type)[Rp K α][DecidableEq α][Eqv K α]{X:Cx}(hr:bT k X.A)(hd:Eqv.dep K α<=64:=by exact Nat.le_of_ble_eq_true rfl):jr X (compareOp .NotEq) (Gw K α true):=by
 intro pins s σ H x y v u Q I rx ry h
 obtain⟨a,b,h1,h2,q⟩:=h
 exact Eqv.Mr (K:=K) I (A:=X.A) (by have:=hr.units;omega) h1 h2 rx ry _ _ _ _ ⟨.bl (!decide (a=b)),H,I,rfl,q⟩
variable{B:Bs}{sl:SL K}{md md1:Md}{α β:Type}[Rp K α][Rp K β]{t1 t2 t:TE}
theorem uQ[DecidableEq α]{m1 m2:Option α}(h1:Ex B sl .hp t1 m1)(h2:Ex B sl .hp t2 m2):Ex B sl md (gW (Gw K α false) t1 t2) (m1.bind λa=>m2.bind λb=>some (decide (a=b))) :=
 za (f:=λa b=>some (decide (a=b))) (λa b c v w H Q e r1 r2 q=>by cases e;exact⟨a,b,r1,r2,q⟩) h1 h2
theorem Tj[DecidableEq α]{m1 m2:Option α}(h1:Ex B sl .hp t1 m1)(h2:Ex B sl .hp t2 m2):Ex B sl md (gW (Gw K α true) t1 t2) (m1.bind λa=>m2.bind λb=>some (!decide (a=b))) :=
 za (f:=λa b=>some (!decide (a=b))) (λa b c v w H Q e r1 r2 q=>by cases e;exact⟨a,b,r1,r2,q⟩) h1 h2
section
variable{m1 m2:Option Int}
theorem Qs{g:Int->Int->V}{f:Int->Int->α}[Sc K α](hg:∀i j,g i j=Sc.val K (f i j))(h1:Ex B sl .hp t1 m1)(h2:Ex B sl .hp t2 m2):Ex B sl md (gW (qT g) t1 t2) (m1.bind λa=>m2.bind λb=>some (f a b)) :=
 za (f:=λa b=>some (f a b)) (λa b c v w H Q e r1 r2 q=>by cases e;cases r1;cases r2;exact⟨a,b,rfl,rfl,by rw[hg];exact q⟩) h1 h2
theorem wF(h1:Ex B sl .hp t1 m1)(h2:Ex B sl .hp t2 m2):Ex B sl md (gW (qT λi j=>.int (i+j)) t1 t2) (m1.bind λa=>m2.bind λb=>some (a+b)):=Qs (λ_ _=>rfl) h1 h2
theorem Zm(h1:Ex B sl .hp t1 m1)(h2:Ex B sl .hp t2 m2):Ex B sl md (gW (qT λi j=>.int (i-j)) t1 t2) (m1.bind λa=>m2.bind λb=>some (a-b)):=Qs (λ_ _=>rfl) h1 h2
theorem Jy(h1:Ex B sl .hp t1 m1)(h2:Ex B sl .hp t2 m2):Ex B sl md (gW (qT λi j=>.bl (decide (i<j))) t1 t2) (m1.bind λa=>m2.bind λb=>some (decide (a<b))):=Qs (λ_ _=>rfl) h1 h2
theorem Ms(h1:Ex B sl .hp t1 m1)(h2:Ex B sl .hp t2 m2):Ex B sl md (gW (qT λi j=>.bl (decide (j<i))) t1 t2) (m1.bind λa=>m2.bind λb=>some (decide (b<a))):=Qs (λ_ _=>rfl) h1 h2
theorem Jz(h1:Ex B sl .hp t1 m1)(h2:Ex B sl .hp t2 m2):Ex B sl md (gW (qT λi j=>.bl (decide (j<=i))) t1 t2) (m1.bind λa=>m2.bind λb=>some (decide (b<=a))):=Qs (λ_ _=>rfl) h1 h2
def mulM(a b:Int):Option Int:=if(-(2^64)<a/\a<2^64)\/(-(2^64)<b/\b<2^64) then some (a*b) else none
def cI(a b:Int):Option Int:=if 0<b then some (a%b) else none
def gY(a b:Int):Option Int:=if 0<b/\b<1073741824 then some (a/b) else none
def qg(a b:Int):Option Int:=if 0<=b/\b<=1000000/\a.natAbs<2^64 then some (a^b.toNat) else none
theorem Mt(h1:Ex B sl .hp t1 m1)(h2:Ex B sl .hp t2 m2):Ex B sl md (gW (rI Fz λi j=>.int (i*j)) t1 t2) (m1.bind λa=>m2.bind λb=>mulM a b) :=
 za (f:=mulM) (λa b c v w H Q e r1 r2 q=>by
  unfold mulM at e
  split at e
  case isFalse=>cases e
  rename_i hc
  cases e;cases r1;cases r2
  exact⟨a,b,rfl,rfl,hc,q⟩) h1 h2
theorem wT(h1:Ex B sl .hp t1 m1)(h2:Ex B sl .hp t2 m2):Ex B sl md (gW (rI (λ_ j=>0<j) λi j=>.int (i%j)) t1 t2) (m1.bind λa=>m2.bind λb=>cI a b) :=
 za (f:=cI) (λa b c v w H Q e r1 r2 q=>by
  unfold cI at e
  split at e
  case isFalse=>cases e
  rename_i hc
  cases e;cases r1;cases r2
  exact⟨a,b,rfl,rfl,hc,q⟩) h1 h2
theorem Ba(h1:Ex B sl .hp t1 m1)(h2:Ex B sl .hp t2 m2):Ex B sl md (gW (rI RQ λi j=>.int (i/j)) t1 t2) (m1.bind λa=>m2.bind λb=>gY a b) :=
 za (f:=gY) (λa b c v w H Q e r1 r2 q=>by
  unfold gY at e
  split at e
  case isFalse=>cases e
  rename_i hc
  cases e;cases r1;cases r2
  exact⟨a,b,rfl,rfl,hc,q⟩) h1 h2
theorem Zn(h1:Ex B sl .hp t1 m1)(h2:Ex B sl .hp t2 m2):Ex B sl md (gW (rI Fy λi j=>.int (i^j.toNat)) t1 t2) (m1.bind λa=>m2.bind λb=>qg a b) :=
 za (f:=qg) (λa b c v w H Q e r1 r2 q=>by
  unfold qg at e
  split at e
  case isFalse=>cases e
  rename_i hc
  cases e;cases r1;cases r2
  exact⟨a,b,rfl,rfl,hc,q⟩) h1 h2
end
theorem A2.aO(h:A2 R vs xs)(e:L2.aO xs i=some a):∃v,L2.aO vs i=some v/\R v a:=by
 unfold L2.aO at e ⊢
 rw[h.len]
 cases q:rA xs.length i with
 |none=>rw[q] at e;cases e
 |some j=>rw[q] at e;exact h.at2 e
theorem xA{m1:Option (List α)}{m2:Option Int}(h1:Ex B sl md t1 m1)(h2:Ex B sl .hp t2 m2):Ex B sl md (gW (yw K) t1 t2) (m1.bind λxs=>m2.bind λi=>L2.aO xs i):=λc hc F O H σ Q s k=>by
 obtain⟨xs,i,e1,e2,e3⟩:=pL hc
 refine h1 xs e1 F O H σ _ s λv F' H' g r1=>?_
 refine h2 i e2 F' O H' σ _ (s.grow g) λw F2 H2 g2 r2=>?_
 cases r2
 obtain⟨p,vs,rfl,z1,z2⟩:=r1
 obtain⟨u,y1,y2⟩:=z2.aO e3
 have hle:Same (reg B F' H' md) H2:=(match md with
  |.nw=>aZ.trans g.ok.fh
  |.fz=>g.ok.fh
  |.hp=>.refl _:Same (reg B F' H' md) H').trans g2.hh
 exact⟨p,vs,i,u,rfl,rfl,bx.of (hle _ _ z1),y1,k u F2 H2 (g.trans g2) (Rp.mono (xC g2 md) y2)⟩
theorem Mu{n:Bool}{xs:List α}{m2:Option Int}(i:Nat)(hs:sl[i]?=some (.ow n xs))(h2:Ex B sl .hp t2 m2):Ex B sl (jD n) (gW (yw K) (fY i) t2) (m2.bind λi=>L2.aO xs i):=λc hc F O H σ Q s k=>by
 cases m2 with
 |none=>cases hc
 |some j =>
  have hc:L2.aO xs j=some c:=hc
  obtain⟨O1,O2,p,vs,rfl,y1,y2,_⟩:=s.2.rD hs
  refine⟨_,y1,?_⟩
  refine h2 j rfl F _ H σ _ s λw F2 H2 g2 r2=>?_
  cases r2
  obtain⟨u,z1,z2⟩:=y2.aO hc
  exact⟨p,vs,j,u,rfl,rfl,bx.of (g2.hh _ _ s.1.one.2.2),z1,k u F2 H2 g2 (Rp.mono (xC g2 (jD n)) z2)⟩
theorem Zo{m:Option (α×β)}(h1:Ex B sl md t1 m)(h2:Ex B sl .hp t2 (some (0:Int))):Ex B sl md (gW (BR K) t1 t2) (m.bind λx=>some x.1):=λc hc F O H σ Q s k=>by
 cases m with
 |none=>cases hc
 |some x =>
  cases(show some x.1=some c from hc)
  refine h1 x rfl F O H σ _ s λv F' H' g r1=>?_
  refine h2 0 rfl F' O H' σ _ (s.grow g) λw F2 H2 g2 r2=>?_
  cases r2
  obtain⟨p,v1,v2,rfl,z1,z2,z3⟩:=r1
  have hle:Same (reg B F' H' md) H2:=(match md with
   |.nw=>aZ.trans g.ok.fh
   |.fz=>g.ok.fh
   |.hp=>.refl _:Same (reg B F' H' md) H').trans g2.hh
  exact⟨p,[v1,v2],0,v1,rfl,rfl,.inl (.inl (hle _ _ z1)),rfl,k v1 F2 H2 (g.trans g2) (Rp.mono (xC g2 md) z2)⟩
theorem Tn{m:Option (α×β)}(h1:Ex B sl md t1 m)(h2:Ex B sl .hp t2 (some (1:Int))):Ex B sl md (gW (BR K) t1 t2) (m.bind λx=>some x.2):=λc hc F O H σ Q s k=>by
 cases m with
 |none=>cases hc
 |some x =>
  cases(show some x.2=some c from hc)
  refine h1 x rfl F O H σ _ s λv F' H' g r1=>?_
  refine h2 1 rfl F' O H' σ _ (s.grow g) λw F2 H2 g2 r2=>?_
  cases r2
  obtain⟨p,v1,v2,rfl,z1,z2,z3⟩:=r1
  have hle:Same (reg B F' H' md) H2:=(match md with
   |.nw=>aZ.trans g.ok.fh
   |.fz=>g.ok.fh
   |.hp=>.refl _:Same (reg B F' H' md) H').trans g2.hh
  exact⟨p,[v1,v2],1,v2,rfl,rfl,.inl (.inl (hle _ _ z1)),rfl,k v2 F2 H2 (g.trans g2) (Rp.mono (xC g2 md) z3)⟩
abbrev Cr(K:PySem.W.Frag):List V->Hp->VK->Prop:=λxs H Q=>∃p ys,xs=[.ref p]/\(bx K H p ys\/kO K H p ys)/\Q (.int ys.length) H
theorem uC{m:Option (List α)}(h:Ex B sl .hp t m):Ex B sl md (sW (Cr K) (xS t bJ)) (m.bind λxs=>some (xs.length:Int)):=λc hc F O H σ Q s k=>by
 cases m with
 |none=>cases hc
 |some xs =>
  cases(show some (xs.length:Int)=some c from hc)
  refine h xs rfl F O H σ _ s λv F' H' g r1=>?_
  obtain⟨p,vs,rfl,z1,z2⟩:=r1
  exact⟨p,vs,rfl,.inl (bx.of z1),k _ F' H' g (by show V.int vs.length=V.int xs.length;rw[z2.len])⟩
abbrev JB(K:PySem.W.Frag):List V->Hp->VK->Prop:=λxs H Q=>∃p ys,xs=[V.ref p]/\(bx K H p ys\/kO K H p ys)/\∀l,H l=none->Q (.ref l) (upd H l (.lst ys))
theorem A2.sc{F F':Hp}[Sc K α]{vs:List V}{xs:List α}(h:A2 (rp K F) vs xs):A2 (rp K F') vs xs:=h.imp λ_ _=>Wi
theorem JC[Sc K α]{m:Option (List α)}(h:Ex B sl .hp t m):Eo B sl md (sW (JB K) (xS t bJ)) m:=λc hc F O H σ Q s k=>by
 refine h c hc F O H σ _ s λv F' H' g r1=>?_
 obtain⟨p,vs,rfl,z1,z2⟩:=r1
 exact⟨p,vs,rfl,.inl (bx.of z1),λl hl=>k l vs F' H' g hl z2.sc⟩
class Fl (K:PySem.W.Frag) (α:Type) [Rp K α] [Sc K α] [DecidableEq α]:Prop where
 flat:∀a:α,Ek (Sc.val K a)=true
 eq:∀a b:α,Gh (Sc.val K a) (Sc.val K b)=decide (a=b)
instance:Fl K Int:=⟨λ_=>rfl,λa b=>by show(a==b)=_;exact iz a b⟩
instance:Fl K Str:=⟨λ_=>rfl,λa b=>by show(a==b)=_;exact iz a b⟩
instance:Fl K Bool:=⟨λ_=>rfl,λa b=>by show(a==b)=_;exact iz a b⟩
instance:Fl K (Option Int):=⟨λa=>by cases a<;>rfl,λa b=>by
 cases a with
 |none=>cases b with
  |none=>rfl
  |some y=>rfl
 |some x=>cases b with
  |none=>rfl
  |some y=>show(x==y)=_;rw[iz];simp⟩
theorem A2.vals[Sc K α]:∀{vs:List V}{xs:List α},A2 (rp K F) vs xs->vs=xs.map (Sc.val K)
 |[],[],_=>rfl
 |_::_,_::_,h=>by rw[map_cons,Sc.is.mp h.1,A2.vals h.2]
 |[],_::_,h=>h.elim
 |_::_,[],h=>h.elim
theorem Tp[Sc K α][DecidableEq α][Fl K α](a:α):∀xs:List α,inV (Sc.val K a) (xs.map (Sc.val K))=decide (a∈xs)
 |[]=>by simp[inV]
 |x::xs=>by
  have ih:=Tp a xs
  unfold inV at ih ⊢
  rw[map_cons,any_cons,ih,Fl.eq]
  by_cases h1:x=a
  ·subst h1;simp
  ·by_cases h2:a∈xs<;>simp[h1,h2,abv h1]
theorem Wr[Sc K α][DecidableEq α][Fl K α](xs:List α):(xs.map (Sc.val K)).all Ek=true:=by
 rw[List.all_map,all_eq_true]
 intro x _
 exact Fl.flat x
theorem Ws[Sc K α][DecidableEq α][Fl K α]{m1:Option α}{m2:Option (List α)}(h1:Ex B sl .hp t1 m1)(h2:Ex B sl .hp t2 m2):Ex B sl md (gW (Jv K false) t1 t2) (m1.bind λa=>m2.bind λxs=>some (decide (a∈xs))) :=
 za (f:=λa xs=>some (decide (a∈xs))) (λa b c v w H Q e r1 r2 q=>by
  cases e
  obtain⟨p,vs,rfl,z1,z2⟩:=r2
  have ev:=Sc.is.mp r1
  have es:=z2.vals
  subst ev es
  refine⟨p,_,rfl,.inl (bx.of z1),Fl.flat a,Wr b,?_⟩
  have:=Tp (K:=K) a b
  simp only[aa1,if_false]
  rw[this]
  exact q) h1 h2
theorem Qt[Sc K α][DecidableEq α][Fl K α]{m1:Option α}{m2:Option (List α)}(h1:Ex B sl .hp t1 m1)(h2:Ex B sl .hp t2 m2):Ex B sl md (gW (Jv K true) t1 t2) (m1.bind λa=>m2.bind λxs=>some (!decide (a∈xs))) :=
 za (f:=λa xs=>some (!decide (a∈xs))) (λa b c v w H Q e r1 r2 q=>by
  cases e
  obtain⟨p,vs,rfl,z1,z2⟩:=r2
  have ev:=Sc.is.mp r1
  have es:=z2.vals
  subst ev es
  refine⟨p,_,rfl,.inl (bx.of z1),Fl.flat a,Wr b,?_⟩
  have:=Tp (K:=K) a b
  simp only[if_true]
  rw[this]
  exact q) h1 h2
theorem Qu{m:Option (Option α)}(h:Ex B sl .hp t m):Ex B sl md (Rx t) (m.bind λa=>some a.isNone):=λc hc F O H σ Q s k=>by
 cases m with
 |none=>cases hc
 |some a =>
  cases(show some a.isNone=some c from hc)
  refine h a rfl F O H σ _ s λv F' H' g r1=>?_
  cases a with
  |none=>cases r1;exact k _ F' H' g rfl
  |some x=>rw[decide_eq_false r1.1];exact k _ F' H' g rfl
theorem Gx{m:Option (Option α)}(h:Ex B sl .hp t m):Ex B sl md (Ji t) (m.bind λa=>some a.isSome):=λc hc F O H σ Q s k=>by
 cases m with
 |none=>cases hc
 |some a =>
  cases(show some a.isSome=some c from hc)
  refine h a rfl F O H σ _ s λv F' H' g r1=>?_
  cases a with
  |none=>cases r1;exact k _ F' H' g rfl
  |some x=>rw[decide_eq_false r1.1];exact k _ F' H' g rfl
theorem Tq{m:Option (Option α)}(h:Ex B sl md t m):Ex B sl md t (m.bind λa=>a):=λc hc F O H σ Q s k=>by
 cases m with
 |none=>cases hc
 |some a =>
  cases a with
  |none=>cases hc
  |some x =>
   have e:x=c:=aa3 hc
   subst e
   exact h (some x) rfl F O H σ _ s λv F' H' g r1=>k v F' H' g r1.2
theorem zSg{m:Option yx}(h:Ex B sl .hp t m):Ex B sl md (sW (Cr K) (xS t bJ)) (m.bind λxs=>some (xs.ns.length:Int)):=λc hc F O H σ Q s k=>by
 cases m with
 |none=>cases hc
 |some xs =>
  cases(show some (xs.ns.length:Int)=some c from hc)
  refine h xs rfl F O H σ _ s λv F' H' g r1=>?_
  obtain⟨p,rfl,z1⟩:=r1
  exact⟨p,_,rfl,.inl z1,k _ F' H' g (by show V.int (xs.ns.map V.int).length=V.int xs.ns.length;rw[length_map])⟩
theorem Gy(h:L2.aO ns i=some z):L2.aO (ns.map V.int) i=some (.int z):=by
 unfold L2.aO at h ⊢
 rw[length_map]
 cases q:rA ns.length i with
 |none=>rw[q] at h;cases h
 |some j =>
  rw[q] at h
  show(ns.map V.int)[j]?=_
  have h:ns[j]?=some z:=h
  rw[getElem?_map,h]<;>rfl
theorem Mv{m1:Option yx}{m2:Option Int}(h1:Ex B sl .hp t1 m1)(h2:Ex B sl .hp t2 m2):Ex B sl md (gW (yw K) t1 t2) (m1.bind λxs=>m2.bind λi=>L2.aO xs.ns i) :=
 za (f:=λ(xs:yx) (i:Int)=>L2.aO xs.ns i) (λa b c v w H Q e r1 r2 q=>by
  have r2:w=.int b:=r2
  subst r2
  obtain⟨p,rfl,z1⟩:=r1
  have q:Q (.int c) H:=q
  exact⟨p,a.ns.map V.int,b,.int c,rfl,rfl,z1,Gy e,q⟩) h1 h2
theorem Gz{m1 m2:Option Int}(h1:Ex B sl .hp t1 m1)(h2:Ex B sl .hp t2 m2):Ex B sl md (sW (λxs H Q=>∃i j,xs=[.int i,.int j]/\Q (.int (if j > i then j else i)) H) (xS t1 (xS t2 bJ))) (m1.bind λa=>m2.bind λb=>some (max a b)):=λc hc F O H σ Q s k=>by
 obtain⟨a,b,e1,e2,e3⟩:=pL hc
 cases e3
 refine h1 a e1 F O H σ _ s λv F' H' g r1=>?_
 refine h2 b e2 F' O H' σ _ (s.grow g) λw F2 H2 g2 r2=>?_
 cases r1;cases r2
 exact⟨a,b,rfl,by rw[show(if b > a then b else a)=max a b by split<;>omega];exact k _ F2 H2 (g.trans g2) rfl⟩
class Ty (K:PySem.W.Frag) (α:Type) [Rp K α] where
 ty:Value
 is:∀{H:Hp}{v:V}{a:α},rp K H v a->jX K H v ty
instance:Ty K Int:=⟨.type "int",λh=>by cases h;exact .int _⟩
instance:Ty K Bool:=⟨.type "bool",λh=>by cases h;exact .bl _⟩
instance:Ty K Str:=⟨.type "str",λh=>by cases h;exact .str _⟩
instance:Ty K (List α):=⟨.type "list",λ⟨p,vs,e,h,_⟩=>by rw[e];exact .lst h⟩
instance:Ty K (α×β):=⟨.type "tuple",λ⟨p,_,_,e,h,_⟩=>by rw[e];exact .tup h⟩
theorem Cu[Ty K α]{c:Value}{y:V}{b:Bool}{m:Option α}(hb:kitOne K (Ty.ty K α) c=some b)(hy:RelV y c)(h:Ex B sl .hp t m):Ex B sl md (sW (Gk K c) (xS t (xS (tC y) bJ))) (m.bind λ_=>some b):=λd hd F O H σ Q s k=>by
 cases m with
 |none=>cases hd
 |some a =>
  cases(show some b=some d from hd)
  refine h a rfl F O H σ _ s λv F' H' g r1=>?_
  exact⟨v,y,_,b,rfl,hy,Ty.is r1,hb,k _ F' H' g rfl⟩
end
def src(xss:List LI)(j:Nat):LI:=((aax xss.length).filter λk=>decide ((j:Int)∈xss.getD k [])).map ac1
theorem fH{α:Type}{p q:α->Bool}:∀{l:List α},(∀x∈l,p x=q x)->l.filter p=l.filter q
 |[],_=>rfl
 |a::l,h=>by
  rw[filter_cons,filter_cons,h a mem_cons_self,fH λx hx=>h x (mem_cons_of_mem _ hx)]
theorem zTy(xss:List LI)(xs:LI)(j:Nat):src (xss++[xs]) j=src xss j++(if(j:Int)∈xs then[(xss.length:Int)] else[]):=by
 unfold src
 rw[length_append,length_singleton,range_succ,List.filter_append,map_append]
 congr 1
 ·congr 1
  refine fH λk hk=>?_
  have hk':k<xss.length:=mem_range.mp hk
  rw[getD_eq_getElem?_getD,getD_eq_getElem?_getD,getElem?_append_left hk']
 ·rw[filter_cons,List.filter_nil,getD_eq_getElem?_getD,getElem?_append_right (aav _),afo]
  by_cases h:(j:Int)∈xs
  ·simp[h]
  ·simp[h]
theorem zTx{xss:List LI}{i:Nat}{xs:LI}(h:xss[i]?=some xs)(j:Nat):src (xss.take (i+1)) j=src (xss.take i) j++(if(j:Int)∈xs then[(i:Int)] else[]):=by
 have hi:i<xss.length:=(aa6.mp h).1
 rw[take_add_one,h]
 have e:(some xs:Option LI).toList=[xs]:=rfl
 rw[e,zTy,length_take,Nat.min_eq_left (aco hi)]
theorem GC(xss:List LI)(j:Nat):(src xss j).length<=xss.length:=by
 unfold src
 rw[length_map]
 exact aa4 (length_filter_le _ _) (by rw[length_range];exact aav _)
theorem int_at{ns:LI}{i:Nat}{y:V}(h:(ns.map V.int)[i]?=some y):∃z,y=.int z/\ns[i]?=some z:=by
 rw[getElem?_map] at h
 cases e:ns[i]? with
 |none=>rw[e] at h;cases h
 |some z=>rw[e] at h;exact⟨z,(aa3 h).symm,rfl⟩
theorem Mw{bs:List Addr}{i:Nat}{y:V}(h:(bs.map V.ref)[i]?=some y):∃b,y=.ref b/\bs[i]?=some b:=by
 rw[getElem?_map] at h
 cases e:bs[i]? with
 |none=>rw[e] at h;cases h
 |some z=>rw[e] at h;exact⟨z,(aa3 h).symm,rfl⟩
theorem GD{bs:List Addr}{i:Nat}{b:Addr}(h:bs[i]?=some b):(bs.map V.ref)[i]?=some (.ref b):=by rw[getElem?_map,h]<;>rfl
theorem xP{α:Type}{xs:List α}{x:α}(h:xs[i]?=some x):i<xs.length:=(aa6.mp h).1
theorem zRt{i:Nat}(h:i<1920):((i:Int)).natAbs.log2<1920:=by
 rw[Int.natAbs_natCast]
 exact aa5 (Nat.log2_le_self i) h
theorem zGw{ns:LI}(nd:ns.Nodup)(h:ns[i]?=some z):¬z∈ns.take i:=λhz=>by
 obtain⟨j,hj⟩:=mem_iff_getElem?.mp hz
 have hji:j<i:=by
  have:=xP hj
  rw[length_take] at this
  omega
 rw[getElem?_take_of_lt hji] at hj
 have hi:=xP h
 have hjl:=xP hj
 rw[aas hi] at h
 rw[aas hjl] at hj
 have e:ns[j]=ns[i]:=(aa3 hj).trans (aa3 h).symm
 have:=(getElem_inj nd).mp e
 omega
theorem Wt{α:Type}{ns:List α}{z x:α}(h:ns[i]?=some z):x∈ns.take (i+1)↔x∈ns.take i\/x=z:=by
 rw[take_add_one,h]
 simp
def rE(K:PySem.W.Frag)(H:Hp)(bs:List Addr)(xss:List LI):Prop:=bs.length=xss.length/\∀(i:Nat)(b:Addr),bs[i]?=some b->∃xs:LI,xss[i]?=some xs/\bx K H b (xs.map V.int)
theorem rE.same(r:rE K H bs xss)(s:Same H H'):rE K H' bs xss:=⟨r.1,λi b h=>let⟨xs,h1,h2⟩:=r.2 i b h;⟨xs,h1,s.seq h2⟩⟩
def Wu(n:Nat)(xss:List LI):Prop:=xss.length=n/\∀xs∈xss,xs≠[]/\xs.Nodup/\xs.length<=100/\∀z∈xs,0<=z/\z<(n:Int)
def rG(H:Hp)(cs:List Addr)(row:Nat->LI):Prop:=∀(j:Nat)(c:Addr),cs[j]?=some c->H c=some (.lst ((row j).map V.int))
structure Bl(K:PySem.W.Frag)(mg:Str->Option Value):Prop where
 len:mg "len" = none
 range:mg "range" = none
 jt:mg "isinstance" = none
 int:mg "int" = none
 bool:mg "bool" = none
 list:mg "list" = none
 enum:mg "enumerate" = none
 ii:kitOne K (.type "int") (.type "int")=some true
 ib:kitOne K (.type "int") (.type "bool")=some false
 ll:kitOne K (.type "list") (.type "list")=some true
theorem Tt:kitOne K (.type "int") (.type "int")=some true:=rfl
theorem Tv:kitOne K (.type "list") (.type "list")=some true:=rfl
theorem Tw:kitOne K (.type "int") (.type "bool")=some false:=by
 first|rfl|(unfold kitOne kitCls;decide +kernel)
theorem xN:bootBuiltins "isinstance" = some (.builtin "isinstance"):=by decide +kernel
theorem Zq:bootBuiltins "int" = some (.type "int"):=by decide +kernel
theorem Zr:bootBuiltins "bool" = some (.type "bool"):=by decide +kernel
theorem Es:bootBuiltins "list" = some (.type "list"):=by decide +kernel
structure News(H H':Hp)(cs:List Addr)(xss:List (List V)):Prop where
 len:cs.length=xss.length
 at_:∀(i:Nat)(c:Addr),cs[i]?=some c->∃xs,xss[i]?=some xs/\H' c=some (.lst xs)
 new:∀c∈cs,H c=none
 nd:cs.Nodup
theorem News.nil:News H H' [] []:=⟨rfl,λi c h=>(by simp at h),λc h=>(by cases h),nodup_nil⟩
theorem News.snoc(n:News H H1 cs xss)(s:Same H H1)(h:H1 l=none):News H (upd H1 l (.lst xs)) (cs++[l]) (xss++[xs]):=by
 have hl:∀c∈cs,c≠l:=λc hc e=>by
  obtain⟨i,hi⟩:=mem_iff_getElem?.mp hc
  obtain⟨ys,_,q⟩:=n.at_ i c hi
  rw[e,h] at q
  cases q
 refine⟨by rw[length_append,length_append,n.len]<;>rfl,λi c hc=>?_,λc hc=>?_,?_⟩
 ·by_cases hi:i<cs.length
  ·rw[getElem?_append_left hi] at hc
   obtain⟨ys,h1,h2⟩:=n.at_ i c hc
   refine⟨ys,?_,?_⟩
   ·rw[getElem?_append_left (by rw[<-n.len];exact hi)];exact h1
   ·rw[zX (hl c (mem_of_getElem? hc))];exact h2
  ·rw[getElem?_append_right (by omega)] at hc
   have hi2:i-cs.length=0:=by
    have:=xP hc
    simp at this
    omega
   rw[hi2] at hc
   have e:l=c:=aa3 hc
   subst e
   refine⟨xs,?_,zT⟩
   rw[getElem?_append_right (by rw[<-n.len];omega),<-n.len,hi2]<;>rfl
 ·rcases mem_append.mp hc with hc|hc
  ·exact n.new c hc
  ·rw[mem_singleton.mp hc];exact s.free h
 ·rw[nodup_append]
  refine⟨n.nd,by simp,λa ha b hb e=>?_⟩
  rw[mem_singleton.mp hb] at e
  exact hl a ha e
theorem News.Tz(n:News H H' cs xss)(h:H' r=none):r∉cs:=λhc=>by
 obtain⟨i,hi⟩:=mem_iff_getElem?.mp hc
 obtain⟨ys,_,q⟩:=n.at_ i r hi
 rw[h] at q
 cases q
structure aG(C:Addr) where
 steps:List LI
 marks:List (Str×LI)
 fair:List LI
 sources:List LI
def Zt:List Str:=["many","next_of","before","marked","fair_at","names_at"]
def srcs(xss:List LI):List LI:=(aax xss.length).map (src xss)
def hid(H:Hp)(p:Addr):Hp:=λb=>if b=p then none else H b
section
variable{K:PySem.W.Frag}{C:Addr}
instance:Rp K (aG C):=⟨λF v m=>∃p dx fs vS vM vF vB,v=.ref p/\F p=some (.ins C dx fs)/\fs.lookup ("steps":Str)=some vS/\rp K F vS m.steps/\fs.lookup ("marks":Str)=some vM/\rp K F vM m.marks/\fs.lookup ("fair":Str)=some vF/\rp K F vF m.fair /\
 fs.lookup ("sources":Str)=some vB/\rp K F vB m.sources/\∀g∈Zt,fs.lookup g=none,
 λs ⟨p,dx,fs,vS,vM,vF,vB,h1,h2,h3,h4,h5,h6,h7,h8,h9,h10,h11⟩=>⟨p,dx,fs,vS,vM,vF,vB,h1,s _ _ h2,h3,Rp.mono s h4,h5,Rp.mono s h6,h7,Rp.mono s h8,h9,Rp.mono s h10,h11⟩⟩
instance:Nn K (aG C):=⟨λ⟨_,_,_,_,_,_,_,h,_⟩=>by rw[h];intro e;cases e⟩
theorem JD(ns:LI):A2 (rp K F) (ns.map V.int) ns:=A2.of_map (R:=rp K F) (f:=V.int) (λ_=>rfl) ns
theorem zS8:∀{cs:List Addr}{xss:List LI},cs.length=xss.length->(∀(i:Nat)(c:Addr),cs[i]?=some c->∃xs,xss[i]?=some xs/\F c=some (.lst (xs.map V.int)))->A2 (rp K F) (cs.map V.ref) xss
 |[],[],_,_=>trivial
 |c::cs,xs::xss,hl,h=>by
  obtain⟨ys,e1,e2⟩:=h 0 c rfl
  cases e1
  exact⟨⟨c,_,rfl,e2,JD _⟩,zS8 (by simpa using hl) λi c' hc=>h (i+1) c' hc⟩
 |[],_::_,hl,_=>by simp at hl
 |_::_,[],hl,_=>by simp at hl
theorem zQg{xss:List LI}(h:i<xss.length):(srcs xss)[i]?=some (src xss i):=by
 unfold srcs
 rw[getElem?_map,getElem?_range h]
 rfl
theorem GF{cs:List Addr}{xss:List LI}(hl:cs.length=xss.length)(n:rG H' cs (src xss))(h:∀c∈cs,∀o,H' c=some o->D c=some o):A2 (rp K D) (cs.map V.ref) (srcs xss):=by
 refine zS8 (by rw[hl];unfold srcs;simp) λi c hc=>?_
 have hi:=xP hc
 exact⟨_,zQg (by omega),h c (mem_of_getElem? hc) _ (n i c hc)⟩
end
section
variable{K:PySem.W.Frag}{B:Bs}{F H F' H' G:Hp}{O:Own}{sl:SL K}{σ:St}{md:Md}{α β:Type}[Rp K α][Rp K β]{te ta:TE}{C:Addr}
theorem Wv{pr:aG C->α}(cl:Cls K C)(na:aY K C f)(hp:∀(R:Hp) (v:V) (x:aG C),rp K R v x->∃p dx fs w,v=.ref p/\R p=some (.ins C dx fs)/\fs.lookup f=some w/\rp K R w (pr x))(h:Ex B sl md ta m) :
  Ex B sl md (qb K ta f) (m.bind λx=>some (pr x)):=λc hc F O H σ Q s k=>by
 cases m with
 |none=>cases hc
 |some x =>
  cases(show some (pr x)=some c from hc)
  refine h x rfl F O H σ _ s λv F' H' g r=>?_
  obtain⟨p,dx,fs,w,rfl,h1,h2,h3⟩:=hp _ v x r
  have hle:Same (reg B F' H' md) H':=match md with
   |.nw=>aZ.trans g.ok.fh
   |.fz=>g.ok.fh
   |.hp=>.refl _
  exact⟨p,C,dx,fs,w,rfl,hle _ _ h1,cl,na,h2,k w F' H' g h3⟩
theorem zKb{m:Option (aG C)}(cl:Cls K C)(na:aY K C "steps")(h:Ex B sl md ta m):Ex B sl md (qb K ta "steps") (m.bind λx=>some x.steps) :=
 Wv cl na (λR v x ⟨p,dx,fs,vS,vM,vF,vB,h1,h2,h3,h4,_⟩=>⟨p,dx,fs,vS,h1,h2,h3,h4⟩) h
theorem zSk{m:Option (aG C)}(cl:Cls K C)(na:aY K C "marks")(h:Ex B sl md ta m):Ex B sl md (qb K ta "marks") (m.bind λx=>some x.marks) :=
 Wv cl na (λR v x ⟨p,dx,fs,vS,vM,vF,vB,h1,h2,_,_,h5,h6,_⟩=>⟨p,dx,fs,vM,h1,h2,h5,h6⟩) h
theorem zNh{m:Option (aG C)}(cl:Cls K C)(na:aY K C "fair")(h:Ex B sl md ta m):Ex B sl md (qb K ta "fair") (m.bind λx=>some x.fair) :=
 Wv cl na (λR v x ⟨p,dx,fs,vS,vM,vF,vB,h1,h2,_,_,_,_,h7,h8,_⟩=>⟨p,dx,fs,vF,h1,h2,h7,h8⟩) h
theorem zL5{m:Option (aG C)}(cl:Cls K C)(na:aY K C "sources")(h:Ex B sl md ta m):Ex B sl md (qb K ta "sources") (m.bind λx=>some x.sources) :=
 Wv cl na (λR v x ⟨p,dx,fs,vS,vM,vF,vB,h1,h2,_,_,_,_,_,_,h9,h10,_⟩=>⟨p,dx,fs,vB,h1,h2,h9,h10⟩) h
theorem GJ{A:Type}{as:A->SL K}{f:aG C×A->Option β}{ma:Option A}(hg:g∈Zt)(h0:Ex B sl .hp ta mm)(h:Ea B sl .hp t as ma) :
  Ex B sl md (RW C g (cu K false (λx:aG C×A=>.fz false x.1::as x.2) f) [] E0 ta t) (mm.bind λx=>ma.bind λa=>f (x,a)):=λc hc F O H σ Q s kk=>by
 cases mm with
 |none=>cases hc
 |some x =>
  cases ma with
  |none=>cases hc
  |some a =>
   have hc:f (x,a)=some c:=hc
   refine h0 x rfl F O H σ _ s λv F1 H1 g1 r1=>?_
   obtain⟨p,dx,fs,vS,vM,vF,vB,rfl,h2,h3,h4,h5,h6,h7,h8,h9,h10,h11⟩:=id r1
   refine⟨p,dx,fs,rfl,h2,h11 g hg,?_⟩
   refine h a rfl F1 O H1 σ _ (s.grow g1) λvs F' H' g2 r=>?_
   rw[append_nil]
   refine⟨(x,a),c,H',.refl _,hc,.cons (Rp.mono g2.hh r1) r,λv H2 s2 r2=>?_⟩
   have g3:=g2.ok.called s2
   refine kk v _ H2 (g1.trans (g2.trans g3)) ?_
   have r3:=Rp.mono (Y_ (F:=F') g2.ok.h0 s2) r2
   exact match md with
   |.nw=>r3
   |.fz=>Rp.mono aZ r3
   |.hp=>Rp.mono (aZ.trans g3.ok.fh) r3
def En(B:Bs)(sl:SL K)(t:TE){α:Type}[Rp K α](m:Option α):Prop :=
 ∀a,m=some a->∀(F:Hp)(O:Own)(H:Hp)(σ:St)(Q:VK),At B sl F O H σ->(∀(v:V)(F' H1 H2:Hp),bN B F H O F' H1->Same H1 H2->rp K (dif H2 H1) v a->Q v H2)->t σ H Q
theorem En.ex{m:Option α}(h:En B sl te m):Ex B sl md te m:=λc hc F O H σ Q s kk=>h c hc F O H σ Q s λv F' H1 H2 g s2 r2=>by
 have g2:=g.ok.called s2
 refine kk v _ H2 (g.trans g2) ?_
 have r3:=Rp.mono (Y_ (F:=F') g.ok.h0 s2) r2
 exact match md with
 |.nw=>r3
 |.fz=>Rp.mono aZ r3
 |.hp=>Rp.mono (aZ.trans g2.ok.fh) r3
structure TF where
 n:Unit
instance:Rp K TF:=⟨λF v _=>∃p vs,v=.ref p/\F p=some (.lst vs),λs ⟨p,vs,h1,h2⟩=>⟨p,vs,h1,s _ _ h2⟩⟩
class IsL (K:PySem.W.Frag) (α:Type) [Rp K α]:Prop where
 il:∀{F:Hp}{v:V}{a:α},rp K F v a->∃p vs,v=.ref p/\F p=some (.lst vs)
instance:IsL K (List α):=⟨λ⟨p,vs,h1,h2,_⟩=>⟨p,vs,h1,h2⟩⟩
instance:IsL K TF:=⟨λh=>h⟩
instance(n:Nat)(xss:List LI):Decidable (Wu n xss):=by unfold Wu;infer_instance
theorem zWa{s:Slot K}(i:Nat)(hs:sl[i]?=some (.fz n x))(h:Ex B sl .hp te m):Sn B sl (RN i te (V3 f)) (λa=>sl.set i (.fz true a)) (m.bind λy=>some (f x y)):=λa ha G D σ H s k=>by
 cases m with
 |none=>cases ha
 |some y =>
  cases(show some (f x y)=some a from ha)
  obtain⟨F,O,g,z⟩:=s
  obtain⟨v,h1,h2⟩:=z.2.rC hs
  have h2:v=.int x:=Sc.is.mp h2
  subst h2
  refine⟨_,h1,h y rfl F O H σ _ z λw F' H' gr r=>?_⟩
  cases r
  exact⟨x,y,rfl,rfl,k _ _ (Sg.set (n:=true) (a:=f x y) (g.trans gr.ff) (z.grow gr) hs rfl rfl)⟩
end
section
variable{K:PySem.W.Frag}{X:Cx}
theorem Qv(K:PySem.W.Frag)(h:X.K=K:=by rfl):jr X (compareOp .In) (Jv K false):=by subst h;exact zQ8
theorem Qw(K:PySem.W.Frag)(h:X.K=K:=by rfl):jr X (compareOp .NotIn) (Jv K true):=by subst h;exact zJm
theorem aQ(K:PySem.W.Frag)(h:X.K=K:=by rfl):R5 X (yw K):=by subst h;exact zR2
theorem kW(K:PySem.W.Frag)(h:X.K=K:=by rfl):R5 X (BR K):=by subst h;exact Lp
theorem vA(K:PySem.W.Frag)(h:X.K=K:=by rfl):sJ X (.builtin "len") (Cr K):=by subst h;exact zKp
theorem JF(K:PySem.W.Frag)(h:X.K=K:=by rfl):sJ X (.type "list") (JB K):=by subst h;exact zKo
theorem xM(K:PySem.W.Frag)(hc:∀y u,RelV y c->RelV y u->u=c)(h:X.K=K:=by rfl):sJ X (.builtin "isinstance") (Gk K c):=by subst h;exact zVu hc
theorem GK(K:PySem.W.Frag)(he:PE X e ta)(h:X.K=K:=by rfl)(hb:attributeBase e f X.env (eval e X.env)=eval e X.env:=by rfl):PE X (.Attribute e f pos) (qb K ta f):=by subst h;exact zWg he hb
theorem yK(K:PySem.W.Frag)(hl:PE X l tl)(h:X.K=K:=by rfl):PI X tg l (V4 K tl):=by subst h;exact Yk hl
theorem Zu(K:PySem.W.Frag)(hm:X.mg "enumerate" = none)(ha:PA X [a] ta)(h:X.K=K:=by rfl)(hg:Gl X "enumerate":=by rfl)(hs:starEach [a] X.env=[(false,eval a X.env)]:=by rfl) :
  PI X (.Tuple elts k tp) (.Call (.Name "enumerate" p) [a] [] pos) (Cd K ta):=by subst h;exact zQ2 hg hm ha hs
theorem v7(K:PySem.W.Frag){o e:Expr}{es:List Expr}{to:TE}{t:TA}{name:Str}{apos cpos:Pos}{T id:String}{r:V->List V->Hp->VK->Prop}(pa:PlainAttrs T)(slot:PySem.Slot T name id)(hty:typeOf (.builtin id)=pure (.type "method_descriptor"))(hm:Sh X id r)(ho:PE X o to)(ha:PA X (e::es) t)(h:X.K=K:=by rfl)(hbase:attributeBase o name X.env (eval o X.env)=eval o X.env:=by rfl)(hfew:((backTo cpos (starEach (e::es) X.env)).all (λx=>!x.1)&&(backToKw cpos (keywordEach [] X.env)).all (λx=>x.1.isSome)
   && decide ((e::es).length+([]:List Keyword).length+(if([]:List Keyword).isEmpty then 0 else 1)<30))=true:=by rfl)(hline:(apos.endLine==cpos.line)=true:=by rfl)(hs:starEach (e::es) X.env=(false,eval e X.env)::starEach es X.env:=by rfl)(hplain:(backTo cpos (starEach es X.env)).any (·.1)=false:=by rfl) :
  PE X (.Call (.Attribute o name apos) (e::es) [] cpos) (Sd K T r to t):=by subst h;exact Jw pa slot hty hm ho ha hbase hfew hline hs hplain
theorem Mx(K:PySem.W.Frag){o:Expr}{to:TE}{name:Str}{apos cpos:Pos}{T id:String}{r:V->List V->Hp->VK->Prop}(pa:PlainAttrs T)(slot:PySem.Slot T name id)(hty:typeOf (.builtin id)=pure (.type "method_descriptor"))(hm:Sh X id r)(ho:PE X o to)(h:X.K=K:=by rfl)(hbase:attributeBase o name X.env (eval o X.env)=eval o X.env:=by rfl)(hline:(apos.endLine==cpos.line)=true:=by rfl):PE X (.Call (.Attribute o name apos) [] [] cpos) (Lw K T r to):=by subst h;exact Ly pa slot hty hm ho hbase hline
theorem Mz:bootBuiltins "max" = some (.builtin "max"):=by decide +kernel
theorem MF:bootBuiltins "min" = some (.builtin "min"):=by decide +kernel
theorem MJ:bootBuiltins "all" = some (.builtin "all"):=by decide +kernel
theorem Zv:bootBuiltins "sorted" = some (.builtin "sorted"):=by decide +kernel
theorem v8:Et B sl LR (some true):=λa ha F O H σ Q s k=>by cases ha;exact k F H (.refl s.1)
theorem Zw{S:Type}{L:S->SL K}{m:Option S}(l:Le sl sl2)(h:Sn B sl2 t L m):Sn B sl t L m:=λa ha G D σ H q k=>h a ha G D σ H (q.le l) k
theorem MN{B:Bs}{sl sl2:SL K}{t:TS}{al:Bool}{β:Type}[Rp K β]{m:Option β}(l:Le sl sl2)(h:SB B sl2 t al m):SB B sl t al m:=λa ha G D σ H q k=>h a ha G D σ H (q.le l) k
theorem TJ{α:Type}:∀c:List α,some []=some c->c.length<=0:=λc h=>by cases h;exact aav _
theorem v9{α:Type}{m:Option α}{ma:Option (List α)}(h:∀b,ma=some b->b.length<=n):∀c,(m.bind λa=>ma.bind λb=>some (a::b))=some c->c.length<=n+1:=λc e=>by
 cases m with
 |none=>cases e
 |some a =>
  cases ma with
  |none=>cases e
  |some b=>cases e;exact abp (h b rfl)
theorem bnd{α β:Type}(a:α)(f:α->Option β):(some a).bind f=f a:=(λ(x:Option α) (e:x=some a)=>by subst e;rfl:∀x:Option α,x=some a->x.bind f=f a) _ rfl
def fuel:Nat:=100000
structure bH(P:Program)(w:World)(K:PySem.W.Frag)(mg:Str->Option Value)(base:Heap)(k:Nat)(x:Str)(ps:List Str)(sp:Sp):Prop where
 ex:∃f fd,aq P w K mg base aP k f fd ps sp/\Binds K fd ps []/\keepIn K (.ref f)=true/\mg x=some (.ref f)
structure gk(P:Program)(w:World)(K:PySem.W.Frag)(mg:Str->Option Value)(base:Heap)(k:Nat)(C:Addr)(m:Str)(ps:List Str)(sp:Sp):Prop where
 ex:∃f fd,aq P w K mg base aP k f fd ps sp/\Binds K fd ps []/\Meth K C m f
 cl:Cls K C
theorem bH.mono(c:bH P w K mg base j x ps sp)(h:j<=k):bH P w K mg base k x ps sp:=by
 obtain⟨f,fd,h1,h2⟩:=c.ex
 exact⟨f,fd,h1.mono h,h2⟩
theorem gk.mono(c:gk P w K mg base j C x ps sp)(h:j<=k):gk P w K mg base k C x ps sp:=by
 obtain⟨f,fd,h1,h2⟩:=c.ex
 exact⟨⟨f,fd,h1.mono h,h2⟩,c.cl⟩
theorem yC(c:bH X.prog X.w X.K X.mg X.base k x ps sp)(hr:bT k X.A)(ha:PA X (e::es) t)(hg:Gl X x:=by rfl)(hdb:(x==("__debug__":Str))=false:=by decide)(he:starEach (e::es) X.env=(false,eval e X.env)::starEach es X.env:=by rfl)(hpl:(backTo pos (starEach es X.env)).any (·.1)=false:=by rfl):PE X (.Call (.Name x p) (e::es) [] pos) (RV sp [] E0 t):=by
 obtain⟨f,fd,h1,h2,h3,h4⟩:=c.ex
 exact FW h1 hr hg h4 h3 h2 .nil vR ha hdb he hpl
theorem TQ(c:gk X.prog X.w X.K X.mg X.base k C m ps sp)(hr:bT k X.A)(he:PE X o ta)(ha:PA X (e::es) t)(hst:starEach (e::es) X.env=(false,eval e X.env)::starEach es X.env:=by rfl)(hpl:(backTo pos (starEach es X.env)).any (·.1)=false:=by rfl)(ht:eval (.Call (.Attribute o m apos) (e::es) [] pos) X.env=(do
   let ov <-eval o X.env
   standAt apos.atName
   let(f,first) <-holding [ov] (getMethod ov m pl)
   callWith pos f first (backTo pos (starEach (e::es) X.env)) (backToKw pos (keywordEach [] X.env))):=by rfl):PE X (.Call (.Attribute o m apos) (e::es) [] pos) (RW C m sp [] E0 ta t):=by
 obtain⟨f,fd,h1,h2,h3⟩:=c.ex
 exact FZ he c.cl h3 h1 hr h2 .nil vR ha hst hpl ht
theorem Ww(c:gk X.prog X.w X.K X.mg X.base k C m ps sp)(hr:bT k X.A)(he:PE X o ta)(ht:eval (.Call (.Attribute o m apos) [] [] pos) X.env=(do
   let ov <-eval o X.env
   standAt apos.atName
   let(f,first) <-holding [ov] (getMethod ov m pl)
   callWith pos f first (backTo pos (starEach [] X.env)) (backToKw pos (keywordEach [] X.env))):=by rfl):PE X (.Call (.Attribute o m apos) [] [] pos) (RW C m sp [] E0 ta bJ):=by
 obtain⟨f,fd,h1,h2,h3⟩:=c.ex
 exact zUj he c.cl h3 h1 hr h2 .nil vR ht
end
section
variable{P:Program}{w:World}{K:PySem.W.Frag}{mg:Str->Option Value}{base:Heap}
theorem yI{A β:Type}[Rp K β]{as:A->SL K}{fM:A->Option β}(F:aW K x qual st f fd)(S:ak N ps (zJ st))(hf:∀a,(as a).all isF=true)(hl:∀a,(as a).length=ps.length)(hb:∀(cdv:Value) (A:Around) (outer:List Env) (s:Shared) (H:Hp) (E:XK),bT k (A.deeper (ael qual (zJ st) s.heap.objs.size f cdv)) ->
   ∃t,qZ (qd aP P w K mg base N qual (zJ st) f cdv A outer s H E).Jl (wQ st) t/\∀Fa a,SB ⟨Fa,H⟩ (as a++replicate (N.length-ps.length) .un) t al (fM a)) :
  aq P w K mg base aP (k+1) f fd ps (cu K al as fM) :=
 F.ok S (λvs H Q E h=>zV9 hl h) λcdv A outer s H vs Q E hr h=>by
  obtain⟨t,p,q⟩:=hb cdv A outer s H E hr
  exact⟨t,p,zTz hf hl q h⟩
end
def W{α:Type}(m:Option α)(P:α->Prop):Prop:=∃a,m=some a/\P a
section
variable{α β S:Type}
theorem aj:W (some a) P↔P a:=⟨λ⟨_,e,h⟩=>by cases e;exact h,λh=>⟨a,rfl,h⟩⟩
theorem Bb:W (none:Option α) P↔False:=⟨λ⟨_,e,_⟩=>(by cases e),abq⟩
theorem zC{m:Option α}:W (m.bind f) Q↔W m λa=>W (f a) Q:=by
 cases m with
 |none=>exact⟨λ⟨_,e,_⟩=>(by cases e),λ⟨_,e,_⟩=>(by cases e)⟩
 |some a=>exact⟨λh=>⟨a,rfl,h⟩,λ⟨_,e,h⟩=>by cases e;exact h⟩
theorem M4:W ((Out.nx s:Out S β).els f) Q↔W (f s) Q:=aem
theorem JG{S':Type}{f:S->Option (Out S' β)}{Q:Out S' β->Prop}:W ((Out.nx s:Out S β).aM f) Q↔W (f s) Q:=aem
theorem W.imp{Q:α->Prop}(h:W m P)(f:∀a,P a->Q a):W m Q:=let⟨a,e,p⟩:=h;⟨a,e,f a p⟩
theorem qU:W (cI a b) Q↔0<b/\Q (a%b):=by
 unfold cI
 split
 ·rename_i h;rw[aj];exact⟨λq=>⟨h,q⟩,λq=>q.2⟩
 ·rename_i h;rw[Bb];exact⟨abq,λq=>h q.1⟩
theorem Bc:W (gY a b) Q↔(0<b/\b<1073741824)/\Q (a/b):=by
 unfold gY
 split
 ·rename_i h;rw[aj];exact⟨λq=>⟨h,q⟩,λq=>q.2⟩
 ·rename_i h;rw[Bb];exact⟨abq,λq=>h q.1⟩
theorem Wx:W (mulM a b) Q↔((-(2^64)<a/\a<2^64)\/(-(2^64)<b/\b<2^64))/\Q (a*b):=by
 unfold mulM
 split
 ·rename_i h;rw[aj];exact⟨λq=>⟨h,q⟩,λq=>q.2⟩
 ·rename_i h;rw[Bb];exact⟨abq,λq=>h q.1⟩
theorem Wy:W (qg a b) Q↔(0<=b/\b<=1000000/\a.natAbs<2^64)/\Q (a^b.toNat):=by
 unfold qg
 split
 ·rename_i h;rw[aj];exact⟨λq=>⟨h,q⟩,λq=>q.2⟩
 ·rename_i h;rw[Bb];exact⟨abq,λq=>h q.1⟩
theorem uW:W (push xs a) Q↔xs.length<cap/\Q (xs++[a]):=by
 unfold push
 split
 ·rename_i h;rw[aj];exact⟨λq=>⟨h,q⟩,λq=>q.2⟩
 ·rename_i h;rw[Bb];exact⟨abq,λq=>h q.1⟩
def rng(n:Int):LI:=(aax n.toNat).map ac1
theorem vL:W (vE n) Q↔(-(2^62)<=n/\n<2^62)/\Q (rng n):=by
 unfold vE rng
 split
 ·rename_i h;rw[aj];exact⟨λq=>⟨h,q⟩,λq=>q.2⟩
 ·rename_i h;rw[Bb];exact⟨abq,λq=>h q.1⟩
theorem wU(h:0<=n):((rng n).length:Int)=n:=by
 unfold rng
 rw[length_map,length_range]
 omega
theorem zj{n:Int}{i:Nat}{x:Int}(h:(rng n)[i]?=some x):x=i/\(i:Int)<n:=by
 obtain⟨a,b⟩:=Zf h
 exact⟨b,by omega⟩
theorem gq:x∈rng n↔0<=x/\x<n:=by
 unfold rng
 rw[mem_map]
 constructor
 ·rintro⟨a,h,rfl⟩
  rw[mem_range] at h
  exact⟨adg _,by show(a:Int)<n;omega⟩
 ·intro⟨h1,h2⟩
  exact⟨x.toNat,mem_range.mpr (by omega),by show((x.toNat:Nat):Int)=x;omega⟩
theorem M5(h:0<=i):L2.aO xs i=xs[i.toNat]?:=by
 unfold L2.aO rA
 rw[if_pos h]
 by_cases q:i<xs.length
 ·rw[if_pos q];rfl
 ·rw[if_neg q,ab3 (by omega)];rfl
theorem cG(h0:0<=i):W (L2.aO xs i) Q↔∃a,xs[i.toNat]?=some a/\Q a:=by
 rw[M5 h0]
 exact aem
theorem zT6{xs:List α}{i:Int}{a:α}(h0:0<=i)(h1:i<xs.length):zf xs i a=some (xs.set i.toNat a):=by
 unfold zf rA
 rw[if_pos h0,if_pos h1]
 rfl
theorem TV{xs:List α}{i:Int}{a:α}{Q:List α->Prop}(h0:0<=i)(h1:i<xs.length):W (zf xs i a) Q↔Q (xs.set i.toNat a):=by
 rw[zT6 h0 h1,aj]
theorem xQ{step:S->α->Option S}{Q:S->Prop}(I:Nat->S->Prop)(h0:I 0 s)(hs:∀i x s,xs[i]?=some x->I i s->W (step s x) (I (i+1)))(hd:∀s,I xs.length s->Q s):W (xK step xs s) Q:=by
 have key:∀(ys:List α)(i:Nat)(s:S),(∀j x,ys[j]?=some x->xs[i+j]?=some x)->i+ys.length=xs.length->I i s->W (xK step ys s) Q:=by
  intro ys
  induction ys with
  |nil=>intro i s _ hl h;exact⟨s,rfl,hd s ((show i=xs.length from hl)▸h)⟩
  |cons y ys ih =>
   intro i s hy hl h
   show W ((step s y).bind λs'=>xK step ys s') Q
   rw[zC]
   refine(hs i y s (hy 0 y rfl) h).imp λs' h'=>ih (i+1) s' (λj x hx=>?_) (by rw[length_cons] at hl;omega) h'
   have:=hy (j+1) x (by simpa using hx)
   rw[show i+1+j=i+(j+1) by omega]
   exact this
 exact key xs 0 s (λj x h=>by rw[ac7];exact h) (ac7 _) h0
theorem zG4{step:S->α->Option (Out S β)}:uB step (x::xs) s=(step s x).bind λo=>o.aM λs'=>uB step xs s':=by
 rw[uB]
 congr 1
theorem TX{step:S->α->Option (Out S β)}{Q:Out S β->Prop}(I:Nat->S->Prop)(h0:I 0 s)(hs:∀i x s,xs[i]?=some x->I i s->W (step s x) λo=>∃s',o=.nx s'/\I (i+1) s')(hd:∀s,I xs.length s->Q (.nx s)):W (uB step xs s) Q:=by
 have key:∀(ys:List α)(i:Nat)(s:S),(∀j x,ys[j]?=some x->xs[i+j]?=some x)->i+ys.length=xs.length->I i s->W (uB step ys s) Q:=by
  intro ys
  induction ys with
  |nil=>intro i s _ hl h;exact⟨.nx s,rfl,hd s ((show i=xs.length from hl)▸h)⟩
  |cons y ys ih =>
   intro i s hy hl h
   rw[zG4,zC]
   refine(hs i y s (hy 0 y rfl) h).imp ?_
   rintro o ⟨s',rfl,h'⟩
   refine ih (i+1) s' (λj x hx=>?_) (by rw[length_cons] at hl;omega) h'
   have:=hy (j+1) x (by simpa using hx)
   rw[show i+1+j=i+(j+1) by omega]
   exact this
 exact key xs 0 s (λj x h=>by rw[ac7];exact h) (ac7 _) h0
theorem zS9{c:S->Option Bool}{body:S->Option S}(I:S->Prop)(μ:S->Nat)(h0:I s)(hk:μ s<k)(hs:∀s,I s->W (c s) λb=>if b=true then W (body s) λs'=>I s'/\μ s'<μ s else Q s):W (Gn c body k s) Q:=by
 induction k generalizing s with
 |zero=>omega
 |succ k ih =>
  show W ((c s).bind λb=>if b=true then(body s).bind λs'=>Gn c body k s' else some s) Q
  rw[zC]
  refine(hs s h0).imp λb h=>?_
  cases b with
  |true =>
   have h:W (body s) λs'=>I s'/\μ s'<μ s:=by simpa using h
   simp only[if_true]
   rw[zC]
   exact h.imp λs' ⟨h1,h2⟩=>ih h1 (by omega)
  |false=>simpa[aj] using h
theorem zKm(c:α->Bool)(f:α->β):∀xs:List α,wG (λx=>some (c x)) (λx=>some (f x)) xs=some ((xs.filter c).map f)
 |[]=>rfl
 |x::xs=>by
  have ih:=zKm c f xs
  show(some (c x)).bind _=_
  cases h:c x with
  |true =>
   show((some (f x)).bind λy=>(wG _ _ xs).bind λys=>some (y::ys))=_
   rw[ih,filter_cons,if_pos h]
   rfl
  |false =>
   show wG _ _ xs=_
   rw[ih,filter_cons,if_neg (by rw[h];decide)]
theorem Wz(c:α->Bool)(f:α->β):W (yX (λx=>some (c x)) (λx=>some (f x)) xs) Q↔xs.length<cap/\Q ((xs.filter c).map f):=by
 unfold yX
 split
 ·rename_i h;rw[zKm,aj];exact⟨λq=>⟨h,q⟩,λq=>q.2⟩
 ·rename_i h;rw[Bb];exact⟨abq,λq=>h q.1⟩
theorem zSe(xs:List α):xs.filter (λ_=>true)=xs:=filter_eq_self.mpr λ_ _=>rfl
theorem M6(f:α->β):W (yX (λ_=>some true) (λx=>some (f x)) xs) Q↔xs.length<cap/\Q (xs.map f):=by
 rw[Wz (λ_=>true) f,zSe]
theorem Bd[Decidable c]:W (if c then a else b) Q↔(c->W a Q)/\(¬c->W b Q):=by
 by_cases h:c
 ·rw[if_pos h];exact⟨λq=>⟨λ_=>q,λn=>absurd h n⟩,λq=>q.1 h⟩
 ·rw[if_neg h];exact⟨λq=>⟨λn=>absurd n h,λ_=>q⟩,λq=>q.2 h⟩
theorem yH(h:n<=1000):n<cap:=aa5 h (by decide)
def bI(n:Int)(xs:LI):Prop:=xs.Pairwise (· < ·)/\∀x∈xs,0<=x/\x<n
theorem bI.nodup(h:bI n xs):xs.Nodup:=h.1.imp λq=>Int.ne_of_lt q
theorem Zx:bI n []:=⟨.nil,λx h=>by cases h⟩
theorem Zy(h:bI k xs)(h0:0<=k)(hk:k<n):bI n (xs++[k]):=by
 refine⟨List.pairwise_append.mpr ⟨h.1,by simp,λx hx y hy=>?_⟩,λx hx=>?_⟩
 ·rw[mem_singleton.mp hy];exact(h.2 x hx).2
 ·rcases mem_append.mp hx with q|q
  ·have:=h.2 x q;omega
  ·rw[mem_singleton.mp q];omega
theorem Zz(h:bI n xs)(l:n<=m):bI m xs:=⟨h.1,λx hx=>by have:=h.2 x hx;omega⟩
theorem wS:∀{n:Nat}{xs:LI},xs.Nodup->(∀x∈xs,0<=x/\x<(n:Int))->xs.length<=n
 |0,xs,_,h=>by
  cases xs with
  |nil=>exact aav _
  |cons x xs=>have:=h x mem_cons_self;omega
 |n+1,xs,nd,h=>by
  by_cases q:(n:Int)∈xs
  ·have l:=List.length_erase_of_mem q
   have ih:=wS (n:=n) (xs:=xs.erase (n:Int)) (nd.erase _) λx hx=>by
    have h1:=h x (List.mem_of_mem_erase hx)
    have h2:x≠(n:Int):=λe=>by rw[e] at hx;exact(List.Nodup.not_mem_erase nd) hx
    omega
   omega
  ·have ih:=wS (n:=n) nd λx hx=>by
    have h1:=h x hx
    have h2:x≠(n:Int):=λe=>q (e▸hx)
    omega
   omega
end
end Ts
namespace L2
open PySem PySem.Spec PyProof.Rows
theorem WD:∀{ns:LI}{its:List Value},Vals (ns.map V.int) its->IntsAre its ns
 |[],[],_=>.nil
 |n::ns,_::its,h=>by
  cases h with
  |cons r t =>
   obtain⟨k,rfl⟩:=r
   exact .cons n k (WD t)
theorem WK:∀{ns:LI}{its:List Value},IntsAre its ns->Vals (ns.map V.int) its
 |_,_,.nil=>.nil
 |_,_,.cons n t h=>.cons ⟨t,rfl⟩ (WK h)
section
variable{X:Cx}
def JH(K:PySem.W.Frag)(R:Int->Int->Prop):List V->Hp->VK->Prop:=λxs H Q=>∃(p:Addr)(ns:LI),xs=[.ref p]/\bx K H p (ns.map V.int)/\ns≠[]/\∀M,M∈ns->(∀a∈ns,R M a)->Q (.int M) H
theorem zVv{arr:Array (Int×Tok)}(hns:ns=arr.toList.map (·.1))(j:Nat)(hj:j<arr.size):numAt arr j∈ns:=by
 have e:=numAt_eq arr j
 rw[e,hns]
 refine PySem.getD_mem ?_
 rw[length_map,length_toList]
 exact hj
theorem zSz(K:PySem.W.Frag)(hc:X.calm=true)(hK:X.K=K:=by rfl):sJ X (.builtin "min") (JH K (· <= ·)):=by
 subst hK
 intro pins s σ H xs us Q I r h
 obtain⟨p,ns,rfl,hq,hne,q⟩:=h
 obtain⟨u,rfl,rx⟩:=Jr r
 cases rx
 obtain⟨its,r',pl,hz⟩:=I.list hq
 have hi:=WD r'
 obtain⟨arr,e⟩:=hi.allInts.items
 have hns:ns=arr.toList.map (·.1):=(hi.numsOf.symm.trans (congrArg numsOf (show its=(intItems arr).toList by rw[<-e]))).trans (nums_intItems arr)
 have hsz:0<arr.size:=by
  cases z:arr.size with
  |zero =>
   exfalso
   apply hne
   rw[hns,Array.eq_empty_of_size_eq_zero z]
   rfl
  |succ k=>omega
 have hl:=pl.isList
 rw[e] at hl
 refine min_intList (I.ok.hd hc) hl hsz λv h' tk hv hk=>?_
 obtain⟨t,rfl⟩:=intItems_at hv
 obtain⟨b1,b2⟩:=argBest_lt (numAt arr) (arr.size-1)
 refine⟨.int (numAt arr (argBest (λi j=>decide (numAt arr i<numAt arr j)) (arr.size-1))),H,I.kept hk,⟨t,rfl⟩,q _ (zVv hns _ (by omega)) λa ha=>?_⟩
 rw[hns] at ha
 obtain⟨j,hj,rfl⟩:=PySem.mem_getD ha
 rw[length_map,length_toList] at hj
 have z:=b2 j (by omega)
 rw[numAt_eq arr j] at z
 exact z
def JK(K:PySem.W.Frag):List V->Hp->VK->Prop:=λxs H Q=>∃(p:Addr)(ns:LI),xs=[.ref p]/\bx K H p (ns.map V.int)/\ns.length<64/\∀(l:Addr)(ns':LI),H l=none->ns'.Perm ns->ns'.Pairwise (· <= ·)->Q (.ref l) (upd H l (.lst (ns'.map V.int)))
theorem ZC(K:PySem.W.Frag)(hK:X.K=K:=by rfl):sJ X (.builtin "sorted") (JK K):=by
 subst hK
 intro pins s σ H xs us Q I r h
 obtain⟨p,ns,rfl,hq,h64,q⟩:=h
 obtain⟨u,rfl,rx⟩:=Jr r
 cases rx
 obtain⟨its,r',pl,hz⟩:=I.list hq
 have hl:=r'.length
 rw[length_map] at hl
 refine sorted_ints pl.isList (WD r') (by omega) λout ns' a1 a2 a3=>?_
 obtain⟨e,he⟩:=sortedAll_at s.heap its out
 have fr:H (s.heap.objs.size+1)=none:=I.hok.fresh (ace _)
 refine⟨.ref (s.heap.objs.size+1),_,I.laid (t':=s.toks) (o:=.lst (ns'.map V.int)) (λb ob w=>sortedAll_old w) (ace _) ?_,rfl,q _ ns' fr a2 a3⟩
 refine⟨?_,out.toList,e,WK a1,?_⟩
 ·rw[length_map,a2.length_eq]
  exact aco (adt h64 (by decide))
 ·rw[toArray_toList]
  exact he
theorem zK6{bs:List Bool}(r:Vals (bs.map V.bl) its):TruthOf prog w A (λi v=>its.toArray[i]?=some v) (λi=>bs.getD i false):=by
 intro i v s Q E hv hq
 have hv:its[i]?=some v:=by simpa using hv
 have hi:i<bs.length:=by
  have:=(aa6.mp hv).1
  rw[<-r.length,length_map] at this
  exact this
 obtain⟨u,h1,h2⟩:=r.get (i:=i) (x:=.bl bs[i]) (by rw[getElem?_map,aas hi]<;>rfl)
 rw[hv] at h1
 cases h1
 cases h2
 have hq:Q (bs.getD i false) s:=hq
 rw[getD_eq_getElem?_getD,aas hi] at hq
 exact ab1 hq
theorem zQu{bs:List Bool}:((aax bs.length).all λi=>bs.getD i false)=bs.all id:=by
 rw[abw,all_eq_true,all_eq_true]
 constructor
 ·intro h x hx
  obtain⟨i,hi,e⟩:=getElem_of_mem hx
  have z:=h i (mem_range.mpr hi)
  rw[getD_eq_getElem?_getD,aas hi,e] at z
  exact z
 ·intro h i hi
  have hi:=mem_range.mp hi
  rw[getD_eq_getElem?_getD,aas hi]
  exact h _ (getElem_mem hi)
def zWd(K:PySem.W.Frag)(f:List Bool->Bool):List V->Hp->VK->Prop:=λxs H Q=>∃(p:Addr)(bs:List Bool),xs=[.ref p]/\bx K H p (bs.map V.bl)/\Q (.bl (f bs)) H
theorem TY{s:Shared}{h':Heap}(hk:∀b o,b∉[s.heap.objs.size]->(s.heap.push { cls:=.type "list_iterator",data:=.fields #[.ref l,.int 0 0] }).get? b=some o->h'.get? b=some o) :
  ∀b o,s.heap.get? b=some o->h'.get? b=some o:=λb o e=>hk b o (λm=>abx _ (mem_singleton.mp m▸lt_size e)) (get?_push_of_some _ e)
theorem zS3(K:PySem.W.Frag)(hc:X.calm=true)(hK:X.K=K:=by rfl):sJ X (.builtin "all") (zWd K λbs=>bs.all id):=by
 subst hK
 intro pins s σ H xs us Q I r h
 obtain⟨p,bs,rfl,hq,q⟩:=h
 obtain⟨u,rfl,rx⟩:=Jr r
 cases rx
 obtain⟨its,r',pl,hz⟩:=I.list hq
 have hl:=pl.isList
 have hlt:p<s.heap.objs.size:=by obtain⟨_,e,_⟩:=hl;exact lt_size e
 refine call_all_walk (aew hl ?_)
 refine⟨_,_,_,_,_,_,_,rfl,Walks.list (A:=X.A.in1) (I.ok.hd hc) s.heap.objs.size p (aa0 hlt) its.toArray,⟨⟨_,get?_push_size _ rfl,rfl,rfl⟩,hl.push _⟩,zK6 r',λh' tk hk=>?_⟩
 have hn:its.toArray.size=bs.length:=by
  rw[size_toArray,<-r'.length,length_map]
 rw[hn,zQu]
 exact⟨.bl (bs.all id),H,I.kept (TY hk),rfl,q⟩
end
section
variable{prog:Program}{w:World}{A:Around}{R:Result->Shared->Prop}{It:Addr}{fp wr:List Addr}{n:Nat}{P:Nat->Value->Prop}{St:Nat->Heap->Prop}{kw:List (Str×Value)}
end
section
variable{X:Cx}{e e2:Expr}{te td:TE}{p pos kpos:Pos}
end
end L2
namespace Ts
open PySem L2
def ZD:LI->Int
 |[]=>0
 |[x]=>x
 |x::xs=>max x (ZD xs)
def ju:LI->Int
 |[]=>0
 |[x]=>x
 |x::xs=>min x (ju xs)
theorem WL:∀{ns:LI}{a:Int},a∈ns->ju ns<=a
 |[x],a,h=>by rw[mem_singleton.mp h];exact aeg _
 |x::y::ns,a,h=>by
  show min x (ju (y::ns))<=a
  rcases mem_cons.mp h with rfl|h
  ·omega
  ·have:=WL h;omega
theorem M7:∀{ns:LI},ns≠[]->ju ns∈ns
 |[x],_=>by simp[ju]
 |x::y::ns,_=>by
  show min x (ju (y::ns))∈_
  have:=M7 (ns:=y::ns) (by simp)
  by_cases q:x<=ju (y::ns)
  ·rw[show min x (ju (y::ns))=x by omega];exact mem_cons_self
  ·rw[show min x (ju (y::ns))=ju (y::ns) by omega];exact mem_cons_of_mem _ this
def zm(ns:LI):Option Int:=if ns=[] then none else some (ju ns)
def WM(ns:LI):LI:=ns.mergeSort (λa b=>decide (a<=b))
def GP(ns:LI):Option LI:=if ns.length<64 then some (WM ns) else none
theorem uG(ns:LI):(WM ns).Perm ns:=List.mergeSort_perm _ _
theorem zEd(ns:LI):(WM ns).Pairwise (· <= ·):=by
 have:=List.pairwise_mergeSort (le:=λa b:Int=>decide (a<=b)) (λa b c h1 h2=>by simp at *;omega) (λa b=>by simp;omega) ns
 exact this.imp λh=>by simpa using h
theorem zEz:∀{xs ys:LI},xs.Perm ys->xs.Pairwise (· <= ·)->ys.Pairwise (· <= ·)->xs=ys
 |[],ys,p,_,_=>(Perm.nil_eq p)
 |x::xs,[],p,_,_=>by have:=p.length_eq;simp at this
 |x::xs,y::ys,p,h1,h2=>by
  have a1:=pairwise_cons.mp h1
  have a2:=pairwise_cons.mp h2
  have e:x=y:=by
   have q1:x∈y::ys:=p.subset mem_cons_self
   have q2:y∈x::xs:=p.symm.subset mem_cons_self
   rcases mem_cons.mp q1 with q1|q1
   ·exact q1
   ·rcases mem_cons.mp q2 with q2|q2
    ·exact q2.symm
    ·have:=a1.1 y q2;have:=a2.1 x q1;omega
  subst e
  rw[zEz (Perm.cons_inv p) a1.2 a2.2]
section
variable{K:PySem.W.Frag}{B:Bs}{sl:SL K}{md:Md}{t t1 t2:TE}{n:Bool}
theorem GQ(h:Ex B sl .hp t m):Ex B sl md (sW (JH K (· <= ·)) (xS t bJ)) (m.bind zm):=λc hc F O H σ Q s k=>by
 cases m with
 |none=>cases hc
 |some ns =>
  have hc:zm ns=some c:=hc
  unfold zm at hc
  split at hc
  ·cases hc
  rename_i hne
  cases hc
  refine h ns rfl F O H σ _ s λv F' H' g r1=>?_
  obtain⟨p,vs,rfl,z1,z2⟩:=r1
  have z3:vs=ns.map V.int:=z2.vals
  subst z3
  refine⟨p,ns,rfl,bx.of z1,hne,λM m1 m2=>?_⟩
  have e:M=ju ns:=by have:=WL m1;have:=m2 _ (M7 hne);omega
  rw[e]
  exact k _ F' H' g rfl
theorem ZF(h:Ex B sl .hp t m):Eo B sl md (sW (JK K) (xS t bJ)) (m.bind GP):=λc hc F O H σ Q s k=>by
 cases m with
 |none=>cases hc
 |some ns =>
  have hc:GP ns=some c:=hc
  unfold GP at hc
  split at hc
  case isFalse=>cases hc
  rename_i hl
  cases hc
  refine h ns rfl F O H σ _ s λv F' H' g r1=>?_
  obtain⟨p,vs,rfl,z1,z2⟩:=r1
  have z3:vs=ns.map V.int:=z2.vals
  subst z3
  refine⟨p,ns,rfl,bx.of z1,hl,λl ns' hn p1 p2=>?_⟩
  rw[zEz (p1.trans (uG ns).symm) p2 (zEd ns)]
  exact k l _ F' H' g hn (JD _)
theorem zVn(h:Ex B sl .hp t m):Ex B sl md (sW (zWd K f) (xS t bJ)) (m.bind λbs=>some (f bs)):=λc hc F O H σ Q s k=>by
 cases m with
 |none=>cases hc
 |some bs =>
  cases(show some (f bs)=some c from hc)
  refine h bs rfl F O H σ _ s λv F' H' g r1=>?_
  obtain⟨p,vs,rfl,z1,z2⟩:=r1
  have z3:vs=bs.map V.bl:=z2.vals
  subst z3
  exact⟨p,bs,rfl,bx.of z1,k _ F' H' g rfl⟩
theorem M8(h:Ex B sl .hp t m):Ex B sl md (tUn (rU λi=>.int (-i)) t) (m.bind λa=>some (-a)):=λc hc F O H σ Q s k=>by
 cases m with
 |none=>cases hc
 |some a =>
  cases(show some (-a)=some c from hc)
  refine h a rfl F O H σ _ s λv F' H' g r1=>?_
  cases r1
  exact⟨a,rfl,k _ F' H' g rfl⟩
end
section
variable{β:Type}
def gK(kvs:List (Key×β))(k:Key):Option β:=(kvs.find? λkv=>decide (kv.1=k)).map (·.2)
def pK(kvs:List (Key×β))(k:Key)(v:β):List (Key×β):=if(kvs.any λkv=>decide (kv.1=k))=true then kvs.map (λkv=>if kv.1=k then(kv.1,v) else kv) else kvs++[(k,v)]
abbrev dO(kvs:List (Key×β))(k:Int):Option β:=gK kvs (abm k)
def dput(kvs:List (Key×β))(k:Int)(v:β):Option (List (Key×β)):=if kvs.length<cap then some (pK kvs (abm k) v) else none
theorem zSc:∀{kvs:List (Key×β)}{k:Key},(kvs.any λkv=>decide (kv.1=k))=(gK kvs k).isSome
 |[],_=>rfl
 |x::kvs,k=>by
  unfold gK
  rw[any_cons,find?_cons]
  by_cases e:x.1=k
  ·rw[decide_eq_true e];rfl
  ·rw[decide_eq_false e,aef];exact zSc
theorem zWm:∀(kvs:List (Key×β))(k j:Key)(v:β),gK (pK kvs k v) j=if j=k then some v else gK kvs j:=λkvs k j v=>by
 unfold pK
 cases a:(kvs.any λkv=>decide (kv.1=k)) with
 |true =>
  rw[if_pos rfl]
  induction kvs with
  |nil=>cases a
  |cons x kvs ih =>
   unfold gK at ih ⊢
   rw[map_cons,find?_cons,find?_cons]
   by_cases e:x.1=k
   ·rw[if_pos e]
    by_cases f:j=k
    ·subst f
     rw[decide_eq_true (show(x.1,v).1=j from e),if_pos rfl];rfl
    ·rw[decide_eq_false (show¬(x.1,v).1=j fromλz=>f (z.symm.trans e)),if_neg f]
     show Option.map (λx=>x.2) (List.find? (λkv=>decide (kv.1=j)) (List.map (λkv=>if kv.1=k then(kv.1,v) else kv) kvs))=Option.map (λx=>x.2) (List.find? (λkv=>decide (kv.1=j)) kvs)
     clear ih a
     induction kvs with
     |nil=>rfl
     |cons y kvs ih =>
      rw[map_cons,find?_cons,find?_cons]
      by_cases g:y.1=k
      ·rw[if_pos g,decide_eq_false (show¬(y.1,v).1=j fromλz=>f (z.symm.trans g))];exact ih
      ·rw[if_neg g]
       by_cases h:y.1=j
       ·rw[decide_eq_true h]
       ·rw[decide_eq_false h];exact ih
   ·rw[if_neg e]
    have a':(kvs.any λkv=>decide (kv.1=k))=true:=by rw[any_cons,decide_eq_false e,aef] at a;exact a
    by_cases f:x.1=j
    ·rw[decide_eq_true f,if_neg λz=>e (f.trans z)]
    ·rw[decide_eq_false f];exact ih a'
 |false =>
  rw[if_neg (by decide)]
  unfold gK
  rw[List.find?_append]
  have hn:kvs.find? (λkv=>decide (kv.1=k))=none:=by
   rw[List.find?_eq_none]
   intro x hx
   have:=any_eq_false.mp a x hx
   exact this
  by_cases f:j=k
  ·subst f;rw[hn,if_pos rfl];simp
  ·rw[if_neg f]
   cases kvs.find? (λkv=>decide (kv.1=j)) with
   |none=>simp[abv f]
   |some y=>rfl
theorem zWh(kvs:List (Key×β))(k:Key)(v:β):(pK kvs k v).length<=kvs.length+1:=by
 unfold pK
 split
 ·rw[length_map];omega
 ·rw[length_append];exact aav _
end
section
variable{K:PySem.W.Frag}{α:Type}[Rp K α]
abbrev DR(K:PySem.W.Frag){α:Type}[Rp K α](F:Hp):Key×V->Key×α->Prop:=λx y=>x.1=y.1/\rp K F x.2 y.2
theorem A2.any:∀{ks:List (Key×V)}{kvs:List (Key×α)},A2 (DR K F) ks kvs->(ks.any λkv=>decide (kv.1=k))=(kvs.any λkv=>decide (kv.1=k))
 |[],[],_=>rfl
 |_::_,_::_,h=>by rw[any_cons,any_cons,h.1.1,A2.any h.2]
 |[],_::_,h=>h.elim
 |_::_,[],h=>h.elim
theorem A2.val:∀{ks:List (Key×V)}{kvs:List (Key×α)},A2 (DR K F) ks kvs->(gK kvs k=none/\iy ks k=none)\/∃a v,gK kvs k=some a/\iy ks k=some v/\rp K F v a
 |[],[],_=>.inl ⟨rfl,rfl⟩
 |x::ks,y::kvs,h=>by
  unfold gK iy
  rw[find?_cons,find?_cons,h.1.1]
  by_cases e:y.1=k
  ·rw[decide_eq_true e];exact .inr ⟨y.2,x.2,rfl,rfl,h.1.2⟩
  ·rw[decide_eq_false e];exact A2.val h.2
 |[],_::_,h=>h.elim
 |_::_,[],h=>h.elim
theorem A2.T3(r:rp K F v a):∀{ks:List (Key×V)}{kvs:List (Key×α)},A2 (DR K F) ks kvs->A2 (DR K F) (ks.map λkv=>if kv.1=k then(kv.1,v) else kv) (kvs.map λkv=>if kv.1=k then(kv.1,a) else kv)
 |[],[],_=>trivial
 |x::ks,y::kvs,h=>by
  rw[map_cons,map_cons]
  refine⟨?_,A2.T3 r h.2⟩
  by_cases e:x.1=k
  ·rw[if_pos e,if_pos (h.1.1▸e)];exact⟨h.1.1,r⟩
  ·rw[if_neg e,if_neg (h.1.1▸e)];exact h.1
 |[],_::_,h=>h.elim
 |_::_,[],h=>h.elim
theorem A2.put{F:Hp}{k:Key}{v:V}{a:α}(r:rp K F v a){ks:List (Key×V)}{kvs:List (Key×α)}(h:A2 (DR K F) ks kvs):A2 (DR K F) (putK ks k v) (pK kvs k a):=by
 unfold putK pK
 rw[h.any]
 split
 ·exact h.T3 r
 ·exact h.snoc ⟨rfl,r⟩
structure Dc(α:Type) where
 kv:List (Key×α)
instance:Rp K (Dc α):=⟨λF v d=>∃p ks,v=.ref p/\F p=some (.dK ks)/\A2 (DR K F) ks d.kv,λs ⟨p,ks,h1,h2,h3⟩=>⟨p,ks,h1,s _ _ h2,h3.imp λ_ _ z=>⟨z.1,Rp.mono s z.2⟩⟩⟩
instance:Nn K (Dc α):=⟨λ⟨_,_,h,_⟩=>by rw[h];intro e;cases e⟩
variable{B:Bs}{sl:SL K}{md:Md}{t t2:TE}{F H G:Hp}{O:Own}{σ:St}{u:TS}{al:Bool}
theorem WQ{kvs:List (Key×α)}(i:Nat)(hs:sl[i]?=some (.od kvs)):Ex B sl .hp (fY i) (some (Dc.mk kvs)):=λa' ha F O H σ Q s k=>by
 cases ha
 obtain⟨k0,z0⟩:=s
 obtain⟨O1,O2,p,ks,rfl,h1,h2,_⟩:=z0.Cj hs
 exact⟨_,h1,k _ F H (.refl k0) ⟨p,ks,rfl,k0.one.2.2,h2.imp λ_ _ z=>⟨z.1,Rp.mono k0.fh z.2⟩⟩⟩
theorem T4{m:Option Int}{m2:Option (Dc α)}(h:Ex B sl .hp t m)(h2:Ex B sl .hp t2 m2):Ex B sl md (Lk t t2) (m.bind λk=>m2.bind λd=>some (dO d.kv k).isSome):=λc hc F O H σ Q s kk=>by
 obtain⟨k,d,e1,e2,e3⟩:=pL hc
 cases e3
 refine h k e1 F O H σ _ s λv F' H' g r1=>?_
 refine h2 d e2 F' O H' σ _ (s.grow g) λw F2 H2 g2 r2=>?_
 cases r1
 obtain⟨p,ks,rfl,z1,z2⟩:=r2
 refine⟨p,_,rfl,qe.k (k:=abm k) z1,?_⟩
 have e:(iy ks (abm k:Key)).isSome=(dO d.kv k).isSome:=by
  rcases z2.val (k:=abm k) with⟨q1,q2⟩|⟨a,v,q1,q2,_⟩
  ·show _=(gK d.kv (abm k)).isSome;rw[q1,q2];rfl
  ·show _=(gK d.kv (abm k)).isSome;rw[q1,q2];rfl
 rw[e]
 exact kk _ F2 H2 (g.trans g2) rfl
theorem zKc{m:Option Int}{m2:Option (Dc α)}(h:Ex B sl .hp t m)(h2:Ex B sl .hp t2 m2):Ex B sl md (zQc t t2) (m.bind λk=>m2.bind λd=>some !(dO d.kv k).isSome):=λc hc F O H σ Q s kk=>by
 obtain⟨k,d,e1,e2,e3⟩:=pL hc
 cases e3
 refine h k e1 F O H σ _ s λv F' H' g r1=>?_
 refine h2 d e2 F' O H' σ _ (s.grow g) λw F2 H2 g2 r2=>?_
 cases r1
 obtain⟨p,ks,rfl,z1,z2⟩:=r2
 refine⟨p,_,rfl,qe.k (k:=abm k) z1,?_⟩
 have e:(iy ks (abm k:Key)).isSome=(dO d.kv k).isSome:=by
  rcases z2.val (k:=abm k) with⟨q1,q2⟩|⟨a,v,q1,q2,_⟩
  ·show _=(gK d.kv (abm k)).isSome;rw[q1,q2];rfl
  ·show _=(gK d.kv (abm k)).isSome;rw[q1,q2];rfl
 rw[e]
 exact kk _ F2 H2 (g.trans g2) rfl
theorem ZG{kvs:List (Key×α)}{m:Option α}{mi:Option Int}{te ti:TE}(i:Nat)(hs:sl[i]?=some (.od kvs))(hh:sl.all (λs=>!mR s)=true)(hv:Ex B sl .fz te m)(hi:Ex B sl .hp ti mi) :
  Sn B sl (BJ (fY i) ti te) (λys=>sl.set i (.od ys)) (m.bind λa=>mi.bind λk=>dput kvs k a):=λys ha G D σ H s k=>by
 obtain⟨a,ix,e1,e2,e3⟩:=pL ha
 unfold dput at e3
 split at e3
 case isFalse=>cases e3
 rename_i hl
 cases e3
 obtain⟨F,O,g,z⟩:=s
 refine hv a e1 F O H σ _ z λv F' H' gr r=>?_
 obtain⟨p,ks,h1,h2,h3,_⟩:=(z.grow gr).Gs hs hh
 refine⟨_,h1,?_⟩
 refine hi ix e2 F' O H' σ _ (z.grow gr) λw F2 H2 vq rw=>?_
 cases rw
 obtain⟨p',ks',h1',h2',h3',h4'⟩:=((z.grow gr).grow vq).Gs hs hh
 have e:=h1.symm.trans h1'
 cases e
 obtain⟨O',z'⟩:=h4' (putK ks' (abm ix) v) (pK kvs (abm ix) a) (h3'.put (Rp.mono vq.ff r))
 exact⟨p,_,rfl,yt.k (k:=abm ix) h2' (Mg (by rw[h3'.len];exact hl)),k _ _ ⟨F2,O',(g.trans gr.ff).trans vq.ff,z'⟩⟩
theorem GR[Sc K α]{kvs:List (Key×α)}(i:Nat)(hs:sl[i]?=some (.od kvs)):SB B sl (mK (Bq (fY i)) u) al (some (Dc.mk kvs)):=λb hb G D σ H s k=>by
 cases hb
 obtain⟨F,O,g,k0,z0⟩:=s
 obtain⟨O1,O2,p,ks,rfl,h1,h2,_⟩:=z0.Cj hs
 obtain⟨a1,a2,a3⟩:=k0.one
 refine⟨_,h1,k _ H (Cm (al:=al) k0.freeze (!al) ⟨p,ks,rfl,?_,h2.imp λ_ _ z=>⟨z.1,Wi z.2⟩⟩ rfl)⟩
 cases al with
 |false=>exact(vp a2).trans zT
 |true=>exact zT
end
end Ts
namespace L2
open PySem PySem.Spec PyProof.Rows
def ZJ(lo:Int)(n:Nat):It:=⟨λi _=>i<n,λi H x H'=>H'=H/\x=.int (lo-i),λi _=>n<=i⟩
theorem zP6{P:Program}{w:World}{K:PySem.W.Frag}{tg:Expr}(it:Addr)(lo:Int)(n:Nat):Turn P w K tg (ZJ lo n) [it] it (λi h=>IsRangeIter h it (lo+(i:Nat)*(-1)) ((n:Int)-(i:Nat)) (-1)) where
 mem:=mem_singleton.mpr rfl
 obj:=λi h st b hb=>by
  have e:b=it:=mem_singleton.mp hb
  subst e
  refine⟨_,st,λv z=>?_⟩
  have z':aft _=Data.cell v:=z
  cases z'
 keep:=λi h h' st k=>k it (mem_singleton.mpr rfl) _ st
 item:=by
  intro X hP hw hK hc i pins s σ H E I hf st hg
  subst hP hw hK
  obtain⟨f0,f1,f2,f3,f4,f5⟩:=hf it (mem_singleton.mpr rfl)
  have Wk:=Walks.range (prog:=X.prog) (w:=X.w) (I.ok.hd hc) it lo (-1) n
  refine Wk.item i s _ _ hg st λv h' tk hv st' kk=>?_
  obtain⟨t,rfl⟩:=hv
  have I1:Inv X pins σ H { s with heap:=h',toks:=tk }:=I.turned (λb o hb e=>kk b o (λz=>hb (mem_singleton.mp z)) e) f0 f1 f3 f4 f5
  refine⟨_,rfl,Qh (s:={ s with heap:=h',toks:=tk }) (n:="range_iterator") st' rfl rfl (by decide) ⟨.int (lo-i),H,I1,⟨t,?_⟩,⟨rfl,rfl⟩,st',λb hb=>(hf b hb).1⟩⟩
  rw[show lo+(i:Int)*(-1)=lo-i by omega]
 done:=by
  intro X hP hw hK hc i pins s σ H E I hf st hg
  subst hP hw hK
  obtain⟨f0,f1,f2,f3,f4,f5⟩:=hf it (mem_singleton.mpr rfl)
  refine wpAny_pyNext_range_end (I.ok.hd hc) st ?_ λh' eb=>⟨rfl,I.turned (t':=s.toks) (λb o hb e=>eb b o hb e) f0 f1 f3 f4 f5⟩
  have:n<=i:=hg
  omega
 self:=λ_ _ _ _ _ st h=>wpAny_pyIter_rangeiter st h
section
variable{X:Cx}{tg:Expr}
theorem GX{pins:List (Addr×Obj)}{σ:St}{H:Hp}{s:Shared}{R:It->Hp->Prop}{E:Value->Shared->Prop}{lo hi:Int}{t u v:Tok}{tk:Nat}(I:Inv X pins σ H s)(hs:Builtin.Range.small lo hi (-1)=true)(hz:acp lo hi (-1)=(((lo-hi).toNat:Nat):Int))(q:R (ZJ lo (lo-hi).toNat) H):wpAny (model X.prog X.w) X.A (pyIter (.ref s.heap.objs.size)) (PIE X pins σ tg R) E { s with heap:=s.heap.push { cls:=.type "range",data:=.fields #[.int lo t,.int hi u,.int (-1) v] },toks:=tk }:=by
 refine wpAny_pyIter_range (afu ..) hs ?_
 have I1:Inv X pins σ H { s with heap:=s.heap.push { cls:=.type "range",data:=.fields #[.int lo t,.int hi u,.int (-1) v] },toks:=tk }:=I.kept λb o e=>get?_push_of_some _ e
 generalize hg:s.heap.push { cls:=.type "range",data:=.fields #[.int lo t,.int hi u,.int (-1) v] }=g at I1
 refine⟨g.objs.size,[g.objs.size],_,_,H,rfl,I1.kept (t':=tk) λb o e=>get?_push_of_some _ e,zP6 _ lo (lo-hi).toNat,?_,λb hb=>?_,q⟩
 ·show IsRangeIter _ _ (lo+((0:Nat):Int)*(-1)) ((((lo-hi).toNat:Nat):Int)-((0:Nat):Int)) (-1)
  rw[show lo+((0:Nat):Int)*(-1)=lo by omega,show(((lo-hi).toNat:Nat):Int)-((0:Nat):Int)=acp lo hi (-1) by rw[hz];omega]
  exact get?_push_size _ rfl
 ·have e:b=g.objs.size:=mem_singleton.mp hb
  subst e
  exact I1.mL (aav _) (I1.hok.fresh (aav _))
theorem zJa(a b:Int):acp a b (-1)=(((a-b).toNat:Nat):Int):=by
 unfold acp
 rw[if_neg (by decide)]
 show(if a > b then(a-b-1)/1+1 else 0)=_
 rw[Int.ediv_one]
 split<;>omega
theorem zOg(h1:-(2^61)<=a)(h2:a<2^61)(h3:-(2^61)<=b)(h4:b<2^61):Builtin.Range.small a b (-1)=true:=by
 unfold Builtin.Range.small
 rw[zJa]
 simp only[Builtin.Range.rangeFitsLong,aaz,acs,decide_eq_true_eq,beq_iff_eq,show¬((-1:Int) > 0) by decide,if_false]
 omega
def JL(ta:TA):TI:=λσ H R=>ta σ H λvs H1=>∃i j:Int,vs=[.int i,.int j,.int (-1)]/\(-(2^61)<=i/\i<2^61 /\ -(2^61)<=j/\j<2^61)/\R (ZJ i (i-j).toNat) H1
theorem GZ(hg:Gl X "range")(hm:X.mg "range" = none)(ha:PA X [a,b,c] ta)(hs:starEach [a,b,c] X.env=[(false,eval a X.env),(false,eval b X.env),(false,eval c X.env)]:=by rfl)(hs2:starEach [b,c] X.env=[(false,eval b X.env),(false,eval c X.env)]:=by rfl) :
  PI X tg (.Call (.Name "range" p) [a,b,c] [] pos) (JL ta):=by
 intro pins s σ H R I h
 refine Call_ (A_ I hg hm boot_range (abl (aM (ha pos pins s σ H _ I h) λus s1 ⟨vs,H1,I1,r1,q1⟩=>?_) (by rw[hs,hs2]) (by rw[hs2];rfl)))
 obtain⟨i,j,e,⟨q1,q2,q3,q4⟩,q⟩:=q1
 subst e
 cases r1 with
 |cons r rr =>
  cases rr with
  |cons r' rr =>
   cases rr with
   |cons r'' rr =>
    cases rr
    obtain⟨t,rfl⟩:=r
    obtain⟨t',rfl⟩:=r'
    obtain⟨t'',rfl⟩:=r''
    exact call_range_3 (by decide) (GX I1 (zOg q1 q2 q3 q4) (zJa i j) q) (.inl (PyProof.noPylong_small (by decide)))
end
end L2
namespace Ts
open PySem L2
def T5(i j:Int):Option LI:=if -(2^61)<=i/\i<2^61 /\ -(2^61)<=j/\j<2^61 then some ((aax (i-j).toNat).map λk=>i-ac1 k) else none
theorem M9:W (T5 i j) Q↔(-(2^61)<=i/\i<2^61 /\ -(2^61)<=j/\j<2^61)/\Q ((aax (i-j).toNat).map λk=>i-ac1 k):=by
 unfold T5
 split
 ·rename_i h;rw[aj];exact⟨λq=>⟨h,q⟩,λq=>q.2⟩
 ·rename_i h;rw[Bb];exact⟨abq,λq=>h q.1⟩
section
variable{K:PySem.W.Frag}{B:Bs}{sl:SL K}{t1 t2 t3:TE}{n:Bool}
theorem zSr(h:((aax k).map λj=>a-ac1 j)[i]?=some x):i<k/\x=a-i:=by
 rw[getElem?_map] at h
 by_cases q:i<k
 ·rw[getElem?_range q] at h;cases h;exact⟨q,rfl⟩
 ·rw[ab3 (by rw[length_range];omega)] at h;cases h
theorem G3(h1:Ex B sl .hp t1 m1)(h2:Ex B sl .hp t2 m2)(h3:Ex B sl .hp t3 (some (-1:Int))):Ei B sl n (JL (xS t1 (xS t2 (xS t3 bJ)))) (m1.bind λa=>m2.bind λb=>T5 a b):=λxs hx F O H σ R a k=>by
 obtain⟨i,j,e1,e2,e3⟩:=pL hx
 unfold T5 at e3
 split at e3
 case isFalse=>cases e3
 rename_i hb
 cases e3
 refine h1 i e1 F O H σ _ a λv F' H' gr r=>?_
 refine h2 j e2 F' O H' σ _ (a.grow gr) λw F2 H2 g2 r2=>?_
 refine h3 (-1) rfl F2 O H2 σ _ ((a.grow gr).grow g2) λw3 F3 H3 g3 r3=>?_
 cases r
 cases r2
 cases r3
 refine⟨i,j,rfl,hb,k _ F3 H3 (gr.trans (g2.trans g3)) λq F4 O4 H4 sf k4=>⟨λhl=>?_,λx hx=>?_⟩⟩
 ·rw[length_map,length_range] at hl;exact hl
 ·obtain⟨h1,rfl⟩:=zSr hx
  refine⟨h1,λv H5 yd=>?_⟩
  obtain⟨rfl,rfl⟩:=yd
  exact⟨F4,.refl k4,rfl⟩
end
section
variable{K:PySem.W.Frag}{B:Bs}{sl:SL K}{md:Md}{t:TE}{u:TS}{al:Bool}{α:Type}[Rp K α]
abbrev T6:List V->Hp->VK->Prop:=λxs H Q=>(∃i,xs=[.int i]/\Q (.int i) H)\/∃k,xs=[.bl k]/\Q (.int (if k then 1 else 0)) H
theorem G4(h:Ex B sl .hp t m):Ex B sl md (sW T6 (xS t bJ)) (m.bind λb=>some (if b=true then(1:Int) else 0)):=λc hc F O H σ Q s k=>by
 cases m with
 |none=>cases hc
 |some b =>
  cases(show some (if b=true then(1:Int) else 0)=some c from hc)
  refine h b rfl F O H σ _ s λv F' H' g r1=>?_
  cases r1
  exact .inr ⟨b,rfl,k _ F' H' g rfl⟩
theorem zT9{n:Bool}{xs:List α}(i:Nat)(hs:sl[i]?=some (.ow n xs))(hn:n=!al):SB B sl (mK (Bq (fY i)) u) al (some (some xs)):=λb hb G D σ H s k=>by
 cases hb
 exact Ep (u:=u) i hs hn xs rfl G { D with rt:=D.rt } σ H s λv H' r=>k v H' ⟨r.1,Nn.nn (K:=K) r.2,r.2⟩
end
end Ts
namespace L2
open PySem PySem.Spec PyProof.Rows
section
variable{X:Cx}
end
end L2
namespace Ts
open PySem L2
section
variable{K:PySem.W.Frag}{B:Bs}{sl:SL K}{md:Md}{t:TE}{α:Type}[Rp K α]
theorem zT3(i j:Nat)(hj:sl[j]?=some (.fz n x))(hs:sl[i]?=some s)(ho:mQ s=false):Sn B sl (oY (BK [(fY j,tC (.bl b))]) (yq i)) (λkvs=>sl.set i (.od kvs)) (some [((abm x:Key),b)]):=λa ha G D σ H s k=>by
 cases ha
 obtain⟨F,O,g,k0,z0⟩:=s
 obtain⟨v,hv,rv⟩:=z0.rC hj
 cases rv
 intro p hp
 refine⟨_,hv,?_⟩
 refine⟨zT,[(abm x,.bl b)],rfl,by show 1<=15;omega,k _ _ ?_⟩
 obtain⟨O1,O2,rfl,z'⟩:=z0.own (s':=.od [((abm x:Key),b)]) (x:=some (.ref p)) (c:=(p,.dK [(abm x,.bl b)])) (λ_ _ _ z=>.od ⟨⟨rfl,rfl⟩,trivial⟩ z) hs ho
 rw[show upd (upd H p (.dK [])) p (.dK (Qn [] [(abm x,V.bl b)]))=upd H p (.dK [(abm x,V.bl b)]) from Fe]
 exact⟨F,_,g,k0.add hp,z'.mono (.refl _) (Y9 hp) (aL hp _)⟩
variable{S:Type}{n:Bool}{tb:TS}
def EiC(B:Bs)(sl sl2:SL K)(n:Bool)(wi:TI){α:Type}[Rp K α](mi:Option (List α)):Prop :=
 ∀xs,mi=some xs->∀(F:Hp)(O:Own)(H:Hp)(σ:St)(R:It->Hp->Prop),At B sl F O H σ->(∀(J:It)(F':Hp)(O':Own)(H':Hp),Same F F'->At B sl2 F' O' H' σ->Yl K B F' n J xs->R J H')->wi σ H R
theorem zVp{n:Bool}{ws:LI}{mE:Option (List (List α))}{te:TE}(i:Nat)(hs:sl[i]?=some (.ow n ws))(hh:sl.all (λs=>!mR s)=true)(h1:Ex B sl (jD false) te mE) :
  EiC B sl (sl.set i (.ow n ws.dropLast)) false (V4 K (gW (yw K) te (Lw K "list" Ss (fY i)))) (mE.bind λE=>ws.getLast?.bind λy=>L2.aO E y):=λxs hx F O H σ R a k=>by
 cases mE with
 |none=>cases hx
 |some E =>
  cases e2:ws.getLast? with
  |none=>simp[e2] at hx
  |some y =>
   have hx:L2.aO E y=some xs:=by simpa[e2] using hx
   refine h1 E rfl F O H σ _ a λv F' H' gr r1=>?_
   have a1:=a.grow gr
   obtain⟨p,vs,z1,z2,z3,z4⟩:=a1.chg hs hh
   have z5:vs=ws.map V.int:=z3.vals
   subst z5
   obtain⟨O',a2⟩:=z4 (ws.map V.int).dropLast ws.dropLast (by rw[<-List.map_dropLast];exact JD _)
   obtain⟨q,us,rfl,y1,y2⟩:=r1
   obtain⟨u,w1,w2⟩:=y2.aO hx
   obtain⟨l,ts,rfl,t1,t2⟩:=w2
   refine⟨_,z1,.inl ⟨rfl,_,bx.of z2⟩,p,ws.map V.int,V.int y,rfl,rfl,z2,?_,?_⟩
   ·rw[length_map,getElem?_map,<-List.getLast?_eq_getElem?,e2];rfl
   refine⟨q,us,y,.ref l,rfl,rfl,bx.of (a2.1.fh _ _ y1),w1,l,rfl,⟨ts,bx.of (a2.1.fh _ _ t1)⟩,k _ F' O' _ gr.ff a2 λi F2 O2 H2 sf k2=>?_⟩
   have hq:bx K H2 l ts:=bx.of (k2.fh _ _ (sf _ _ t1))
   refine⟨λhl=>⟨ts,hq,by rw[t2.len];exact hl⟩,λx hx=>?_⟩
   obtain⟨w,hw,rw⟩:=t2.at2 hx
   refine⟨⟨ts,w,hq,hw⟩,λv H3 yd=>?_⟩
   obtain⟨e,y⟩:=yd
   subst e
   have:=(hw.symm.trans (y ts hq))
   cases this
   exact⟨F2,.refl k2,Rp.mono (Ci false sf) rw⟩
theorem G5{L:S->SL K}{Lx:S->α->SL K}{step:S->α->Option S}(s0:S)(h0:Le sl sl0)(hi:EiC B sl0 (L s0) n wi mi)(hg:∀s,Tg B (L s) n g (Lx s))(hb:∀s x,Sn B (Lx s x) tb L (step s x)) :
  Sn B sl (Fv wi g tb) L (mi.bind λxs=>xK step xs s0):=λs1 hs1 G D σ H q k=>by
 cases mi with
 |none=>cases hs1
 |some xs =>
  have hs1:xK step xs s0=some s1:=hs1
  obtain⟨F,O,g0,a⟩:=q.le h0
  refine hi xs rfl F O H σ _ a λJ F' O' H' gr a' yl=>?_
  refine⟨λi m σ H=>m=xs.length-i/\i<=xs.length/\∃s,xK step (xs.take i) s0=some s/\Sg B F' (L s) σ H,⟨xs.length,rfl,abk _,s0,rfl,F',O',.refl _,a'⟩,?_⟩
  rintro i m σ H ⟨rfl,hil,s,hs,F2,O2,sf,a2⟩
  obtain⟨y1,y2⟩:=yl i F2 O2 H sf a2.1
  by_cases hlt:i<xs.length
  ·obtain⟨go,y3⟩:=y2 xs[i] (aas hlt)
   obtain⟨s',s'',e1,e2,e3⟩:=zG5 hs1 (aas hlt)
   rw[hs] at e1
   cases e1
   refine .inr ⟨go,Sg B F' (L s''),λσ' H' z=>⟨xs.length-(i+1),by omega,rfl,hlt,s'',e3,z⟩,λv H3 yd=>?_⟩
   obtain⟨F3,g3,r3⟩:=y3 v H3 yd
   exact hg s v xs[i] F3 O2 H3 σ _ (a2.grow g3) r3 λσ' a'=>hb s xs[i] s'' e2 F' _ σ' H3 ⟨F3,O2,sf.trans g3.ff,a'⟩ λσ2 H2 z=>z
  ·have e:i=xs.length:=by omega
   subst e
   rw[take_length,hs1] at hs
   cases hs
   exact .inl ⟨y1 (aav _),k σ H ⟨F2,O2,(g0.trans gr).trans sf,a2⟩⟩
end
end Ts
namespace L2
open PySem
theorem zUl(hk:PE X k tk)(hv:PE X v tv):PE X (.Dict [some k] [v] pos) (BK [(tk,tv)]):=Gd (zUi hk hv Gb) rfl rfl (by simp) (by show 1<=15;omega)
open PySem PySem.Spec PyProof.Rows
def Its(x:Str):It:=⟨λi _=>i<x.cps.size,λi H v H'=>H'=H/\∃c,x.cps[i]?=some c/\v=.str ⟨#[c]⟩,λi _=>x.cps.size<=i⟩
theorem zOd{P:Program}{w:World}{K:PySem.W.Frag}{tg:Expr}(it:Addr)(x:Str)(t:Tok):Turn P w K tg (Its x) [it] it (λi h=>h.IsStrIter it "str_ascii_iterator" x t i) where
 mem:=mem_singleton.mpr rfl
 obj:=λi h st b hb=>by
  have e:b=it:=mem_singleton.mp hb
  subst e
  obtain⟨o,ho,hc,hd⟩:=st
  refine⟨o,ho,λv z=>?_⟩
  rw[hd] at z
  cases z
 keep:=λi h h' st k=>by
  obtain⟨o,ho,r⟩:=st
  exact⟨o,k it (mem_singleton.mpr rfl) _ ho,r⟩
 item:=by
  intro X hP hw hK hc i pins s σ H E I hf st hg
  subst hP hw hK
  obtain⟨f0,f1,f2,f3,f4,f5⟩:=hf it (mem_singleton.mpr rfl)
  refine(Walks.strAscii (prog:=X.prog) (w:=X.w) (I.ok.hd hc) it x t).item i s _ _ hg st λv h' tk hv st' kk=>?_
  obtain⟨c,u,hx,rfl⟩:=hv
  have I1:Inv X pins σ H { s with heap:=h',toks:=tk }:=I.turned (λb o hb e=>kk b o (λz=>hb (mem_singleton.mp z)) e) f0 f1 f3 f4 f5
  obtain⟨o,ho,hc,hd⟩:=id st'
  exact⟨_,rfl,Qh (s:={ s with heap:=h',toks:=tk }) (n:="str_ascii_iterator") ho hc hd (by decide) ⟨.str ⟨#[c]⟩,H,I1,⟨u,rfl⟩,⟨rfl,c,hx,rfl⟩,st',λb hb=>(hf b hb).1⟩⟩
 done:=by
  intro X hP hw hK hc i pins s σ H E I hf st hg
  subst hP hw hK
  obtain⟨f0,f1,f2,f3,f4,f5⟩:=hf it (mem_singleton.mpr rfl)
  exact wpAny_pyNext_ascii_end (I.ok.hd hc) st (abf hg) λh' eb=>⟨rfl,I.turned (t':=s.toks) (λb o hb e=>eb b o hb e) f0 f1 f3 f4 f5⟩
 self:=λ_ _ _ _ _ st h=>wpAny_pyIter_striter_ascii st h
theorem zP3{P:Program}{w:World}{K:PySem.W.Frag}{tg:Expr}(it:Addr)(x:Str)(t:Tok):Turn P w K tg (Its x) [it] it (λi h=>h.IsStrIter it "str_iterator" x t i) where
 mem:=mem_singleton.mpr rfl
 obj:=λi h st b hb=>by
  have e:b=it:=mem_singleton.mp hb
  subst e
  obtain⟨o,ho,hc,hd⟩:=st
  refine⟨o,ho,λv z=>?_⟩
  rw[hd] at z
  cases z
 keep:=λi h h' st k=>by
  obtain⟨o,ho,r⟩:=st
  exact⟨o,k it (mem_singleton.mpr rfl) _ ho,r⟩
 item:=by
  intro X hP hw hK hc i pins s σ H E I hf st hg
  subst hP hw hK
  obtain⟨f0,f1,f2,f3,f4,f5⟩:=hf it (mem_singleton.mpr rfl)
  refine(Walks.strWide (prog:=X.prog) (w:=X.w) (I.ok.hd hc) it x t).item i s _ _ hg st λv h' tk hv st' kk=>?_
  obtain⟨c,u,hx,rfl⟩:=hv
  have I1:Inv X pins σ H { s with heap:=h',toks:=tk }:=I.turned (λb o hb e=>kk b o (λz=>hb (mem_singleton.mp z)) e) f0 f1 f3 f4 f5
  obtain⟨o,ho,hc,hd⟩:=id st'
  exact⟨_,rfl,Qh (s:={ s with heap:=h',toks:=tk }) (n:="str_iterator") ho hc hd (by decide) ⟨.str ⟨#[c]⟩,H,I1,⟨u,rfl⟩,⟨rfl,c,hx,rfl⟩,st',λb hb=>(hf b hb).1⟩⟩
 done:=by
  intro X hP hw hK hc i pins s σ H E I hf st hg
  subst hP hw hK
  obtain⟨f0,f1,f2,f3,f4,f5⟩:=hf it (mem_singleton.mpr rfl)
  exact wpAny_pyNext_wide_end (I.ok.hd hc) st (abf hg) λh' eb=>⟨rfl,I.turned (t':=s.toks) (λb o hb e=>eb b o hb e) f0 f1 f3 f4 f5⟩
 self:=λ_ _ _ _ _ st h=>wpAny_pyIter_striter_wide st h
section
variable{X:Cx}{tg:Expr}
def T7(tl:TE):TI:=λσ H R=>tl σ H λx H1=>∃y,x=.str y/\R (Its y) H1
theorem M_(hl:PE X l tl):PI X tg l (T7 tl):=by
 intro pins s σ H R I h
 refine aM (hl pins s σ H _ I h) λv s1 ⟨x,H1,I1,r1,q1⟩=>?_
 obtain⟨y,e,q⟩:=q1
 subst e
 obtain⟨t,rfl⟩:=r1
 have fp:∀b∈[s1.heap.objs.size],lZ X pins H1 b:=λb hb=>by
  have e:b=s1.heap.objs.size:=mem_singleton.mp hb
  subst e
  exact I1.mL (aav _) (I1.hok.fresh (aav _))
 cases ha:y.cps.all (· < 128)
 ·exact wpAny_pyIter_wide ha ⟨s1.heap.objs.size,[s1.heap.objs.size],_,_,H1,rfl,I1.kept (t':=s1.toks) λb o e=>get?_push_of_some _ e,zP3 _ y t,⟨_,get?_push_size _ rfl,rfl,rfl⟩,fp,q⟩
 ·exact wpAny_pyIter_ascii ha ⟨s1.heap.objs.size,[s1.heap.objs.size],_,_,H1,rfl,I1.kept (t':=s1.toks) λb o e=>get?_push_of_some _ e,zOd _ y t,⟨_,get?_push_size _ rfl,rfl,rfl⟩,fp,q⟩
end
end L2
namespace Ts
open PySem L2
section
variable{K:PySem.W.Frag}{B:Bs}{sl:SL K}{md:Md}{t ta tb tc:TE}{n:Bool}
def JM(x:Str):List Str:=x.cps.toList.map λc=>(⟨#[c]⟩:Str)
theorem Nb(h:Ex B sl .hp t mi):Ei B sl n (T7 t) (mi.bind λx=>some (JM x)):=λxs hx F O H σ R a k=>by
 cases mi with
 |none=>cases hx
 |some x =>
  cases(show some (JM x)=some xs from hx)
  refine h x rfl F O H σ _ a λv F' H' gr r=>?_
  cases r
  refine⟨x,rfl,k _ F' H' gr λi F2 O2 H2 sf k2=>⟨λhl=>?_,λy hy=>?_⟩⟩
  ·show x.cps.size<=i
   unfold JM at hl
   rw[length_map,length_toList] at hl
   exact hl
  ·unfold JM at hy
   rw[getElem?_map,getElem?_toList] at hy
   cases e:x.cps[i]? with
   |none=>rw[e] at hy;cases hy
   |some c =>
    rw[e] at hy
    cases hy
    have hi:i<x.cps.size:=(Array.getElem?_eq_some_iff.mp e).1
    refine⟨hi,λv H3 yd=>?_⟩
    obtain⟨rfl,c',e',rfl⟩:=yd
    rw[e] at e'
    cases e'
    exact⟨F2,.refl k2,rfl⟩
theorem ZK{f g:Int->Int->Bool}(h1:Ex B sl .hp ta m1)(h2:Ex B sl .hp tb m2)(h3:Ex B sl .hp tc m3) :
  Ex B sl md (Yr (qT λi j=>.bl (f i j)) (qT λi j=>.bl (g i j)) ta tb tc) (m1.bind λa=>m2.bind λb=>if f a b=true then m3.bind λc=>some (g b c) else some false):=λd hd F O H σ Q s k=>by
 obtain⟨a,b,e1,e2,e3⟩:=pL hd
 refine h1 a e1 F O H σ _ s λv F' H' g1 r1=>?_
 refine h2 b e2 F' O H' σ _ (s.grow g1) λw F2 H2 g2 r2=>?_
 cases r1
 cases r2
 refine⟨a,b,rfl,rfl,_,rfl,?_⟩
 by_cases q:f a b=true
 ·rw[if_pos q] at e3 ⊢
  cases m3 with
  |none=>cases e3
  |some c =>
   cases(show some (g b c)=some d from e3)
   refine h3 c rfl F2 O H2 σ _ ((s.grow g1).grow g2) λu F3 H3 g3 r3=>?_
   cases r3
   exact⟨b,c,rfl,rfl,k _ F3 H3 ((g1.trans g2).trans g3) rfl⟩
 ·rw[if_neg q] at e3 ⊢
  cases e3
  exact k _ F2 H2 (g1.trans g2) rfl
def JN:List V->Hp->VK->Prop:=λxs H Q=>∃x:Str,xs=[.str x]/\x.length<cap/\Q (.int x.length) H
theorem zS1:sJ X (.builtin "len") JN:=by
 intro pins s σ H xs us Q I r h
 obtain⟨x,rfl,hl,q⟩:=h
 exact zVt pins s σ H _ us Q I r ⟨_,_,rfl,⟨aco (Mg hl),rfl⟩,q⟩
def Cv(x:Str):Option Int:=if x.length<cap then some (x.length:Int) else none
theorem G6(h:Ex B sl .hp t m):Ex B sl md (sW JN (xS t bJ)) (m.bind Cv):=λc hc F O H σ Q s k=>by
 cases m with
 |none=>cases hc
 |some x =>
  have hc:Cv x=some c:=hc
  unfold Cv at hc
  split at hc
  case isFalse=>cases hc
  rename_i hl
  cases hc
  refine h x rfl F O H σ _ s λv F' H' g r1=>?_
  cases r1
  exact⟨x,rfl,hl,k _ F' H' g rfl⟩
def WR(i j:Str):Bool:=!(ad8 j i 0 j.length 1).isEmpty
abbrev ZL:R2:=λx y H Q=>∃i j,x=.str i/\y=.str j/\Q (.bl (!(ad8 j i 0 j.length 1).isEmpty)) H
theorem Nf(h1:Ex B sl .hp ta m1)(h2:Ex B sl .hp tb m2):Ex B sl md (gW ZL ta tb) (m1.bind λa=>m2.bind λb=>some (WR a b)) :=
 za (f:=λa b=>some (WR a b)) (λa b c v w H Q e r1 r2 q=>by
  cases e
  cases r1
  cases r2
  exact⟨a,b,rfl,rfl,q⟩) h1 h2
theorem Ng{ws:List Str}(hT:∀H,kO K H p (ws.map V.str))(h:Ex B sl .hp t m):Ex B sl md (gW (Jv K false) t (tC (.ref p))) (m.bind λx=>some (decide (x∈ws))):=λc hc F O H σ Q s k=>by
 cases m with
 |none=>cases hc
 |some x =>
  cases(show some (decide (x∈ws))=some c from hc)
  refine h x rfl F O H σ _ s λv F' H' g r1=>?_
  cases r1
  refine⟨p,_,rfl,.inr (hT H'),Fl.flat (K:=K) x,Wr (K:=K) ws,?_⟩
  have:=Tp (K:=K) x ws
  simp only[aa1,if_false]
  rw[show inV (V.str x) (ws.map V.str)=decide (x∈ws) from this]
  exact k _ F' H' g rfl
end
section
variable{P:Program}{w:World}{K:PySem.W.Frag}{mg:Str->Option Value}{base:Heap}{B:Bs}{sl:SL K}{al:Bool}{S β:Type}[Rp K β]
theorem xU:Sn B sl Yg L none:=λa ha=>by cases ha
theorem zMu:SB B sl Yg al (none:Option β):=λa ha=>by cases ha
theorem WT{A:Type}{as:A->SL K}{fM:A->Option Unit}(F:aW K x qual st f fd)(S:ak N ps (zJ st))(hf:∀a,(as a).all isF=true)(hl:∀a,(as a).length=ps.length)(hb:∀(cdv:Value) (A:Around) (outer:List Env) (s:Shared) (H:Hp) (E:XK),bT k (A.deeper (ael qual (zJ st) s.heap.objs.size f cdv)) ->
   ∃t,qZ (qd aP P w K mg base N qual (zJ st) f cdv A outer s H E).Jl (wQ st) t/\∀Fa a,∃L:Unit->SL K,Sn ⟨Fa,H⟩ (as a++replicate (N.length-ps.length) .un) t L (fM a)) :
  aq P w K mg base aP (k+1) f fd ps (cu K al as fM) :=
 F.ok S (λvs H Q E h=>zV9 hl h) λcdv A outer s H vs Q E hr h=>by
  obtain⟨t,p,q⟩:=hb cdv A outer s H E hr
  refine⟨t,p,?_⟩
  obtain⟨a,b,Fa,s,hfa,r,kk⟩:=h
  have e:L2.start N vs=vs.map some++replicate (N.length-ps.length) none:=by
   unfold L2.start
   rw[r.len,hl]
  rw[e]
  obtain⟨L,q⟩:=q Fa a
  exact q b hfa Fa _ _ H ⟨Fa,[],.refl _,⟨s,.refl _,λb o h=>.inl h,λx hx=>(by cases hx),(by simp)⟩,zE0 _ (hf a) r⟩ λσ' H' ⟨F',O',g,a'⟩=>kk .non H' a'.1.h0 rfl
def Nh(a:Str)(i:Int):Option Str:=if i.natAbs.log2<1920 then some (a++ac8 (toString i)) else none
def Qx(a z:Str):Option Str:=if z.length<=1000 then some (a++z) else none
theorem zWq(a:Str)(h:Ex B sl .hp t m):Ex B sl md (Y7 a t) (m.bind (Nh a)):=λc hc F O H σ Q s k=>by
 cases m with
 |none=>cases hc
 |some i =>
  have hc:Nh a i=some c:=hc
  unfold Nh at hc
  split at hc
  case isFalse=>cases hc
  rename_i hl
  cases hc
  refine h i rfl F O H σ _ s λv F' H' g r1=>?_
  cases r1
  exact .inl ⟨i,rfl,hl,k _ F' H' g rfl⟩
theorem Ni(a:Str)(h:Ex B sl .hp t m):Ex B sl md (Y7 a t) (m.bind (Qx a)):=λc hc F O H σ Q s k=>by
 cases m with
 |none=>cases hc
 |some i =>
  have hc:Qx a i=some c:=hc
  unfold Qx at hc
  split at hc
  case isFalse=>cases hc
  rename_i hl
  cases hc
  refine h i rfl F O H σ _ s λv F' H' g r1=>?_
  cases r1
  exact .inr ⟨i,rfl,hl,k _ F' H' g rfl⟩
theorem JQ:kitOne K (.type "str") (.type "str")=some true:=rfl
theorem zWv:bootBuiltins "str" = some (.type "str"):=by decide +kernel
end
section
variable{β:Type}
abbrev JR(kvs:List (Key×β))(k:Str):Option β:=gK kvs (ab8 k)
def T8(kvs:List (Key×β))(k:Str)(v:β):Option (List (Key×β)):=if kvs.length<cap then some (pK kvs (ab8 k) v) else none
end
section
variable{K:PySem.W.Frag}{α:Type}[Rp K α]
variable{B:Bs}{sl:SL K}{md:Md}{t t2:TE}{F H G:Hp}{O:Own}{σ:St}{u:TS}{al:Bool}
theorem G7{m:Option Str}{m2:Option (Dc α)}(h:Ex B sl .hp t m)(h2:Ex B sl .hp t2 m2):Ex B sl md (Lk t t2) (m.bind λk=>m2.bind λd=>some (JR d.kv k).isSome):=λc hc F O H σ Q s kk=>by
 obtain⟨k,d,e1,e2,e3⟩:=pL hc
 cases e3
 refine h k e1 F O H σ _ s λv F' H' g r1=>?_
 refine h2 d e2 F' O H' σ _ (s.grow g) λw F2 H2 g2 r2=>?_
 cases r1
 obtain⟨p,ks,rfl,z1,z2⟩:=r2
 refine⟨p,_,rfl,qe.k (k:=ab8 k) z1,?_⟩
 have e:(iy ks (ab8 k:Key)).isSome=(JR d.kv k).isSome:=by
  rcases z2.val (k:=ab8 k) with⟨q1,q2⟩|⟨a,v,q1,q2,_⟩
  ·show _=(gK d.kv (ab8 k)).isSome;rw[q1,q2];rfl
  ·show _=(gK d.kv (ab8 k)).isSome;rw[q1,q2];rfl
 rw[e]
 exact kk _ F2 H2 (g.trans g2) rfl
theorem zT2{kvs:List (Key×α)}{m:Option α}{mi:Option Str}{te ti:TE}(i:Nat)(hs:sl[i]?=some (.od kvs))(hh:sl.all (λs=>!mR s)=true)(hv:Ex B sl .fz te m)(hi:Ex B sl .hp ti mi) :
  Sn B sl (BJ (fY i) ti te) (λys=>sl.set i (.od ys)) (m.bind λa=>mi.bind λk=>T8 kvs k a):=λys ha G D σ H s k=>by
 obtain⟨a,ix,e1,e2,e3⟩:=pL ha
 unfold T8 at e3
 split at e3
 case isFalse=>cases e3
 rename_i hl
 cases e3
 obtain⟨F,O,g,z⟩:=s
 refine hv a e1 F O H σ _ z λv F' H' gr r=>?_
 obtain⟨p,ks,h1,h2,h3,_⟩:=(z.grow gr).Gs hs hh
 refine⟨_,h1,?_⟩
 refine hi ix e2 F' O H' σ _ (z.grow gr) λw F2 H2 vq rw=>?_
 cases rw
 obtain⟨p',ks',h1',h2',h3',h4'⟩:=((z.grow gr).grow vq).Gs hs hh
 have e:=h1.symm.trans h1'
 cases e
 obtain⟨O',z'⟩:=h4' (putK ks' (ab8 ix) v) (pK kvs (ab8 ix) a) (h3'.put (Rp.mono vq.ff r))
 exact⟨p,_,rfl,yt.k (k:=ab8 ix) h2' (Mg (by rw[h3'.len];exact hl)),k _ _ ⟨F2,O',(g.trans gr.ff).trans vq.ff,z'⟩⟩
end
abbrev LLI:=List LI
abbrev Eu:=List (Str×LI)
structure iB(p:Addr) where
 u:Unit
def WW(C:Addr)(fS:LLI->Option Unit)(fM:Eu->Int->Option Unit)(fF:LLI->Int->Option Unit)(fC fO:LLI->Option LLI)(xss:LLI)(mo:Option Eu)(fo:Option LLI):Option (aG C) :=
 (fS xss).bind λ_=>(fM (mo.getD []) (xss.length:Int)).bind λ_=>(fF (fo.getD []) (xss.length:Int)).bind λ_=>(fC xss).bind λa=>(yX (λ_=>some true) (λx:Str×LI=>some (x.1,x.2)) (mo.getD [])).bind λb =>
  (fC (fo.getD [])).bind λc=>(fO a).bind λd=>some ⟨a,b,c,d⟩
theorem Ew{α β:Type}{m:Option α}{f:α->Option β}{b:β}(h:m.bind f=some b):∃a,m=some a/\f a=some b:=by
 cases m with
 |none=>cases h
 |some a=>exact⟨a,rfl,h⟩
section
variable{K:PySem.W.Frag}{C:Addr}{B:Bs}{sl:SL K}{F H:Hp}{O:Own}{σ:St}
instance:Rp K (iB p):=⟨λ_ v _=>v=.ref p,λ_ h=>h⟩
def T9(K:PySem.W.Frag)(C:Addr)(mk:LLI->Option Eu->Option LLI->Option (aG C)):Sp:=λvs H Q _=>∃(p dx:Addr)(vS vM vF:V)(xss:LLI)(mo:Option Eu)(fo:Option LLI)(M:aG C),vs=[.ref p,vS,vM,vF]/\H p=some (.ins C dx []) /\
 rp K (hid H p) vS xss/\rp K (hid H p) vM mo/\rp K (hid H p) vF fo/\mk xss mo fo=some M/\∀H':Hp,(∀b o,b≠p->H b=some o->H' b=some o)->rp K (dif H' (hid H p)) (.ref p) M->Q .non H'
variable{mk:LLI->Option Eu->Option LLI->Option (aG C)}
theorem zT0{H1:Hp}{x dx:Addr}(nx:H1 x=none)(ndx:H1 dx=none){vS vM vF:V}{xss:LLI}{mo:Option Eu}{fo:Option LLI}{c:aG C}(rS:rp K H1 vS xss)(rM:rp K H1 vM mo)(rF:rp K H1 vF fo)(hc:mk xss mo fo=some c){Q:VK}{E:XK}(k:∀H2:Hp,Same H1 H2->rp K (dif H2 H1) (.ref x) c->Q (.ref x) H2):T9 K C mk [.ref x,vS,vM,vF] (upd (upd H1 dx (.own x)) x (.ins C dx [])) (λv H2=>v=.non/\Q (.ref x) H2) E:=by
 have sG:Same H1 (upd (upd H1 dx (.own x)) x (.ins C dx [])):=λb o e=>by rw[zX (zU e nx),zX (zU e ndx)];exact e
 have sh:Same H1 (hid (upd (upd H1 dx (.own x)) x (.ins C dx [])) x):=λb o e=>by
  unfold hid
  rw[if_neg (zU e nx)]
  exact sG b o e
 refine⟨x,dx,vS,vM,vF,xss,mo,fo,c,rfl,zT,Rp.mono sh rS,Rp.mono sh rM,Rp.mono sh rF,hc,λH2 kp r2=>⟨rfl,?_⟩⟩
 refine k H2 (λb o e=>kp b o (zU e nx) (sG b o e)) (Rp.mono (λb o e=>?_) r2)
 have hb:H1 b=none:=by
  cases q:H1 b with
  |none=>rfl
  |some u =>
   have:hid (upd (upd H1 dx (.own x)) x (.ins C dx [])) x b=some u:=sh b u q
   unfold dif at e
   rw[this] at e
   cases e
 rw[vp hb]
 exact aZ _ _ e
theorem zSo(h1:Ex B sl .hp t1 m1)(h2:Ex B sl .hp t2 m2)(h3:Ex B sl .hp t3 m3) :
  En B sl (Lh C (T9 K C mk) [] E0 (xS t1 (xS t2 (xS t3 bJ)))) (m1.bind λa=>m2.bind λb=>m3.bind λc=>mk a (some b) (some c)):=λc hc F O H σ Q s kk=>by
 obtain⟨a,rfl,hc⟩:=Ew (m:=m1) hc
 obtain⟨b,rfl,hc⟩:=Ew (m:=m2) hc
 obtain⟨d,rfl,hc⟩:=Ew (m:=m3) hc
 refine h1 a rfl F O H σ _ s λv1 F1 H1 g1 r1=>?_
 refine h2 b rfl F1 O H1 σ _ (s.grow g1) λv2 F2 H2 g2 r2=>?_
 refine h3 d rfl F2 O H2 σ _ ((s.grow g1).grow g2) λv3 F3 H3 g3 r3=>?_
 intro x dx nx ndx nex
 have r2':rp K H2 v2 b:=r2
 have r3':rp K H3 v3 d:=r3
 exact zT0 nx ndx (Rp.mono (g2.hh.trans g3.hh) r1) (show rp K H3 v2 (some b) from⟨Nn.nn (K:=K) r2',Rp.mono g3.hh r2⟩) (show rp K H3 v3 (some d) from⟨Nn.nn (K:=K) r3',r3⟩) hc λH4 s4 r4=>kk _ F3 H3 H4 (g1.trans (g2.trans g3)) s4 r4
theorem Nj(h:b≠p):hid H p b=H b:=by unfold hid;rw[if_neg h]
theorem Qy:hid H p p=none:=by unfold hid;rw[if_pos rfl]
theorem T_:Same (hid H p) H:=λb o e=>by
 by_cases q:b=p
 ·subst q;rw[Qy] at e;cases e
 ·rw[Nj q] at e;exact e
theorem Qz(s:Same H H'):Same (hid H p) (hid H' p):=λb o e=>by
 by_cases q:b=p
 ·subst q;rw[Qy] at e;cases e
 ·rw[Nj q] at e ⊢;exact s b o e
theorem JT:hid (upd H p o) p=hid H p:=by
 funext b
 by_cases q:b=p
 ·subst q;rw[Qy,Qy]
 ·rw[Nj q,Nj q,zX q]
theorem WX(kp:∀b o,b≠p->H b=some o->Hi b=some o)(hp:Hi p≠none):Same (dif H' Hi) (dif (hid H' p) (hid H p)):=λb o e=>by
 have hb:Hi b=none:=by
  cases q:Hi b with
  |none=>rfl
  |some u=>unfold dif at e;rw[q] at e;cases e
 have nb:b≠p:=λq=>hp (by rw[<-q];exact hb)
 rw[vp hb] at e
 have h0:hid H p b=none:=by
  rw[Nj nb]
  cases q:H b with
  |none=>rfl
  |some u=>rw[kp b u nb q] at hb;cases hb
 rw[vp h0,Nj nb]
 exact e
theorem zWy(hs:ao (K:=K) ⟨hid Hi p,Hi⟩ (hid Hi p) (lo (hid Hi p) [] Hi) Hi sl σ []):At (K:=K) ⟨hid Hi p,Hi⟩ sl (hid Hi p) [] Hi σ :=
 ⟨⟨T_,.refl _,λb o h=>.inl h,λx hx=>(by cases hx),by simp⟩,hs⟩
end
end Ts
namespace rH
open PySem
def Rz(xs:Array Nat):Prop:=∀i k a b:Nat,i<k->xs[i]?=some a->xs[k]?=some b->a<b
theorem ZM(hr:Rz xs):∀(fuel lo hi:Nat),hi-lo<=fuel->lo<=hi->hi<=xs.size->(∀i a,i<lo->xs[i]?=some a->a<j)->(∀i a,hi<=i->xs[i]?=some a->j<=a) ->
  (below.go xs j fuel lo hi)<=xs.size/\(∀i a,i<below.go xs j fuel lo hi->xs[i]?=some a->a<j)/\(∀i a,below.go xs j fuel lo hi<=i->xs[i]?=some a->j<=a)
 |0,lo,hi,hf,hl,hz,h1,h2=>by
  have e:lo=hi:=by omega
  subst e
  unfold below.go
  exact⟨hz,h1,h2⟩
 |fuel+1,lo,hi,hf,hl,hz,h1,h2=>by
  unfold below.go
  by_cases hlt:lo<hi
  ·rw[if_pos hlt]
   have hm:(lo+hi)/2<hi:=by omega
   have hm0:lo<=(lo+hi)/2:=by omega
   have hms:(lo+hi)/2<xs.size:=by omega
   have e:xs.getD ((lo+hi)/2) j=xs[(lo+hi)/2]:=by simp[Array.getD,hms]
   dsimp only
   rw[e]
   by_cases hc:xs[(lo+hi)/2]<j
   ·rw[if_pos hc]
    refine ZM hr fuel _ hi (by omega) (by omega) hz (λi a hi' ha=>?_) h2
    by_cases hi2:i=(lo+hi)/2
    ·subst hi2
     rw[aaw hms] at ha
     cases ha
     exact hc
    ·exact adt (hr i ((lo+hi)/2) a _ (by omega) ha (aaw hms)) hc
   ·rw[if_neg hc]
    refine ZM hr fuel lo _ (by omega) (by omega) (by omega) h1 (λi a hi' ha=>?_)
    by_cases hi2:i=(lo+hi)/2
    ·subst hi2
     rw[aaw hms] at ha
     cases ha
     omega
    ·have:=hr ((lo+hi)/2) i _ a (by omega) (aaw hms) ha
     omega
  ·rw[if_neg hlt]
   have e:lo=hi:=by omega
   subst e
   exact⟨hz,h1,h2⟩
theorem ZP(hr:Rz xs)(j:Nat):below xs j<=xs.size/\(∀i a,i<below xs j->xs[i]?=some a->a<j)/\(∀i a,below xs j<=i->xs[i]?=some a->j<=a) :=
 ZM hr xs.size 0 xs.size (by omega) (abk _) (aav _) (λi a h=>absurd h (aej _)) (λi a h1 h2=>by
  rw[abf h1] at h2
  cases h2)
theorem Nk{α:Type}(xs:Array α)(p:Nat)(x:α)(hp:p<=xs.size)(i:Nat):(insertAt xs p x)[i]?=if i<p then xs[i]? else if i=p then some x else xs[i-1]?:=by
 have e:insertAt xs p x=(xs.toList.take p++x::xs.toList.drop p).toArray:=by
  unfold insertAt
  apply Array.ext'
  simp
  rw[List.take_of_length_le (by rw[length_drop,length_toList];exact aav _)]
 rw[e,getElem?_toArray]
 have hl:p<=xs.toList.length:=by simpa using hp
 by_cases h1:i<p
 ·rw[if_pos h1,getElem?_append_left (by rw[length_take];omega),getElem?_take_of_lt h1,getElem?_toList]
 ·rw[if_neg h1,getElem?_append_right (by rw[length_take];omega),length_take,Nat.min_eq_left hl]
  by_cases h2:i=p
  ·subst h2;simp
  ·rw[if_neg h2]
   obtain⟨k,rfl⟩:∃k,i=p+1+k:=⟨i-(p+1),by omega⟩
   rw[show p+1+k-p=k+1 by omega,List.getElem?_cons_succ,List.getElem?_drop,getElem?_toList]
   congr 1
   omega
theorem Nm(hr:Rz xs)(hn:xs[below xs j]?≠some j):Rz (insertAt xs (below xs j) j):=by
 obtain⟨b1,b2,b3⟩:=ZP hr j
 intro i k a b hik ha hb
 rw[Nk _ _ _ b1] at ha hb
 generalize below xs j=p at *
 have up:∀m c,p<=m->xs[m]?=some c->j<c:=λm c hm hc=>by
  have h1:=b3 m c hm hc
  by_cases e:m=p
  ·subst e
   have:c≠j:=λz=>hn (by rw[hc,z])
   omega
  ·have hp:p<xs.size:=by
    have:m<xs.size:=by
     by_cases z:m<xs.size
     ·exact z
     ·rw[abf (by omega)] at hc;cases hc
    omega
   have h2:=hr p m _ c (by omega) (aaw hp) hc
   have h3:=b3 p _ (aav _) (aaw hp)
   omega
 by_cases i1:i<p
 ·rw[if_pos i1] at ha
  have ja:=b2 i a i1 ha
  by_cases k1:k<p
  ·rw[if_pos k1] at hb;exact hr i k a b hik ha hb
  ·rw[if_neg k1] at hb
   by_cases k2:k=p
   ·rw[if_pos k2] at hb;cases hb;exact ja
   ·rw[if_neg k2] at hb
    exact adt ja (up (k-1) b (by omega) hb)
 ·rw[if_neg i1] at ha
  have k1:¬k<p:=by omega
  have k2:¬k=p:=by omega
  rw[if_neg k1,if_neg k2] at hb
  by_cases i2:i=p
  ·rw[if_pos i2] at ha;cases ha;exact up (k-1) b (by omega) hb
  ·rw[if_neg i2] at ha
   exact hr (i-1) (k-1) a b (by omega) ha hb
def Free(t:SetTable)(j:Nat):Prop:=t.place[below t.place j]?≠some j
theorem zI8{t:SetTable}(h:∀i,t.slot j≠.live i):Free t j:=λe=>by
 refine h (below t.place j) ?_
 unfold SetTable.slot
 simp[e]
theorem ZQ:∀(fuel:Nat)(p:SetTable.Probe)(j:Nat)(d:Option Nat),(∀d,p.dummy=some d->Free t d)->probe.go t f h fuel p=some (.empty j d)->Free t j/\∀e,d=some e->Free t e
 |0,p,j,d,hd,e=>by unfold probe.go at e;cases e
 |fuel+1,p,j,d,hd,e=>by
  have adv:∀q:SetTable.Probe,(t.advance q).dummy=q.dummy:=λq=>by
   unfold SetTable.advance
   split
   ·rfl
   ·rfl
  unfold probe.go at e
  cases hs:t.slot p.j with
  |empty =>
   rw[hs] at e
   cases e
   exact⟨zI8 (λi z=>by rw[hs] at z;cases z),hd⟩
  |dummy =>
   rw[hs] at e
   refine ZQ fuel _ j d (λd' h'=>?_) e
   rw[adv] at h'
   cases h'
   exact zI8 λi z=>by rw[hs] at z;cases z
  |live i =>
   rw[hs] at e
   dsimp only at e
   split at e
   ·cases e
   ·exact ZQ fuel _ j d (λd' h'=>hd d' (by rw[adv] at h';exact h')) e
theorem zIk{t:SetTable}(e:t.freeSlot h=some (j,b)):Free t j:=by
 unfold SetTable.freeSlot at e
 split at e
 ·rename_i j' d hp
  cases e
  have q:=ZQ (t:=t) _ _ j' d (λd h'=>by cases h') hp
  cases d with
  |none=>exact q.1
  |some d=>exact q.2 d rfl
 ·cases e
structure Tb(led:Bool)(t:SetTable):Prop where
 led:t.led=led
 rz:t.plain=true->Rz t.place
theorem WY(h:Tb led t)(n:Nat):Tb led (t.standIn n):=⟨h.led,λz=>by cases z⟩
theorem Ua(h:Tb led t)(n:Nat):Tb led (t.orStandIn n):=by
 unfold SetTable.orStandIn
 split
 ·exact h
 ·exact WY h n
theorem Np(hb:Tb led t)(es:Array (Int×Value))(h:Int)(x:Value):Tb led (layNew t es h x).2.1:=by
 unfold layNew
 cases e:t.freeSlot h with
 |none=>exact WY hb _
 |some q =>
  obtain⟨j,b⟩:=q
  dsimp only
  refine Ua (t:=(t.put j).1) ⟨hb.led,λz=>?_⟩ _
  exact Nm (hb.rz z) (zIk e)
theorem zJg(f:Nat->Option Nat)(n:Nat):Rz (((aax n).filterMap λj=>(f j).map (j,·)).map (·.1)).toArray:=by
 have hp:(((aax n).filterMap λj=>(f j).map (j,·)).map (·.1)).Pairwise (· < ·):=by
  rw[List.pairwise_map]
  refine Pairwise.filterMap _ ?_ (List.pairwise_lt_range (n:=n))
  intro a b hab x hx y hy
  cases ea:f a with
  |none=>rw[ea] at hx;cases hx
  |some u =>
   cases eb:f b with
   |none=>rw[eb] at hy;cases hy
   |some v =>
    rw[ea] at hx
    rw[eb] at hy
    cases hx
    cases hy
    exact hab
 intro i k a b hik ha hb
 rw[getElem?_toArray] at ha hb
 obtain⟨h1,e1⟩:=aa6.mp ha
 obtain⟨h2,e2⟩:=aa6.mp hb
 rw[<-e1,<-e2]
 exact List.pairwise_iff_getElem.mp hp i k h1 h2 hik
theorem zTu(hb:Tb led t)(es:Array (Int×Value))(n:Nat):Tb led (relayAll t es n).2.1:=by
 unfold relayAll
 cases e:t.relaid (es.map (·.1)) n with
 |none=>exact WY hb _
 |some q =>
  obtain⟨t',order⟩:=q
  dsimp only
  split
  ·unfold SetTable.relaid SetTable.laid at e
   cases e2:SetTable.layClean (SetTable.sizeAbove n-1) (es.map (·.1)) with
   |none=>rw[e2] at e;cases e
   |some owner =>
    rw[e2] at e
    cases e
    exact⟨hb.led,λ_=>zJg _ _⟩
  ·exact WY hb _
theorem zTv(led:Bool):Tb led (.fresh 0 0 led):=⟨rfl,λ_=>λi k a b _ h _=>by
 have:(#[]:Array Nat)[i]?=some a:=h
 simp at this⟩
section
variable{prog:Program}{w:World}{κ:Type}[DecidableEq κ](knd:KeyKind prog w κ)(dec:Value->κ)
def Good(led:Bool)(h:Heap)(a:Addr)(ks:List κ):Prop :=
 ∃o es ep t,h.get? a=some o/\o.ExactSet/\o.data=.set es ep t/\ElemsOf knd es.toList/\(es.toList.map λe=>dec e.2).Perm ks/\ks.Nodup/\es.size<scanBound/\t.fits es.size=true/\Tb led t
variable{knd}{dec}{led:Bool}{A:Around}{E:Value->Shared->Prop}{s:Shared}
theorem Good.len(g:Good knd dec led h a ks):ks.length<scanBound:=by
 obtain⟨o,es,ep,t,_,_,_,_,p,_,hb,_⟩:=g
 rw[<-p.length_eq,length_map,length_toList]
 exact hb
theorem Good.keep{h':Heap}(g:Good knd dec led h a ks)(k:∀o,h.get? a=some o->h'.get? a=some o):Good knd dec led h' a ks:=by
 obtain⟨o,es,ep,t,h1,rest⟩:=g
 exact⟨o,es,ep,t,k _ h1,rest⟩
theorem zJ5(hdec:∀k v,knd.is k v=true->dec v=k)(hel:ElemsOf knd es)(k:κ):es.findIdx? (λe=>knd.is k e.2)=none↔k∉es.map λe=>dec e.2:=by
 rw[List.findIdx?_eq_none_iff]
 constructor
 ·intro h hm
  obtain⟨e,he,rfl⟩:=mem_map.mp hm
  obtain⟨⟨k',hk,_⟩,_⟩:=hel e he
  have:=h e he
  rw[hdec k' _ hk,hk] at this
  cases this
 ·intro h e he
  cases q:knd.is k e.2 with
  |false=>rfl
  |true=>exact absurd (mem_map.mpr ⟨e,he,hdec _ _ q⟩) h
theorem JV{h:Heap}(ho:h.get? a=some o)(hd:o.data=.set es ep t):(h.update a (afj es' t')).get? a=some { o with data:=.set es' (ep+1) t' }:=by
 have q:=get?_update_self (afj es' t') ho (by rw[putSet_of es' t' hd];rfl)
 rw[putSet_of es' t' hd] at q
 exact q
theorem ZR{Q:Unit->Shared->Prop}(h:Q () s1):wpAny (model prog w) A (match b with|true=>rule "set.scan.the-table-gave-way" | false=>pure ()) Q E s1:=by
 cases b
 ·exact aat h
 ·exact ad7 h
theorem zNt{g:Bool->Sem Unit}(hg:∀(b:Bool) (s₁:Shared) (Q':Unit->Shared->Prop),Q' () s₁->wpAny (model prog w) A (g b) Q' E s₁){es1:Array (Int×Value)}{t2:SetTable}{R:Option Bool->Shared->Prop}(ho:s.heap.get? a=some o)(hx:o.ExactSet)(hd:o.data=.set es ep t)(hel:ElemsOf knd es1.toList)(hp:(es1.toList.map λe=>dec e.2).Perm ks)(nd:ks.Nodup)(hb:es1.size<scanBound)(hf:t2.fits es1.size=true)(tb:Tb led t2)(h:∀h',SameBut a s.heap h'->Good knd dec led h' a ks->R (some true) { s with heap:=h' }) :
  wpAny (model prog w) A (storeSet a es1 t2 >>= λ_=>if(!Ub&&t2.tooFull)=true then(g (relayAll t2 es1 (grown es1.size)).2.2 >>= λ_=>storeSet a (relayAll t2 es1 (grown es1.size)).1 (relayAll t2 es1 (grown es1.size)).2.1 >>= λ_=>pure (some true)) else pure (some true)) R E s:=by
 refine aar (acr ho hd ?_ (acq hb))
 have o1:=JV (es':=es1) (t':=t2) ho hd
 have sb:=SameBut.update s.heap a (afj es1 t2)
 split
 ·have rp:=relayAll_perm t2 es1 (grown es1.size)
  have rf:=relayAll_fits t2 es1 (grown es1.size)
  have rt:=zTu tb es1 (grown es1.size)
  generalize relayAll t2 es1 (grown es1.size)=L at rp rf rt ⊢
  obtain⟨es2,t3,gv⟩:=L
  dsimp only at rp rf rt ⊢
  have sz:es2.size=es1.size:=by rw[<-length_toList,rp.length_eq,length_toList]
  refine aar (hg _ _ _ (aar (acr o1 rfl (aat (h _ (sb.trans (SameBut.update _ a _)) ⟨_,es2,_,t3,JV (es':=es2) (t':=t3) o1 rfl,hx,rfl,hel.perm rp,(rp.map _).trans hp,nd,by rw[sz];exact hb,rf,rt⟩)) (acq (by rw[sz];exact hb)))))
 ·exact aat (h _ sb ⟨_,es1,_,t2,o1,hx,rfl,hel,hp,nd,hb,hf,tb⟩)
theorem Nq(h:Tb led t):Tb led { t with plain:=false }:=⟨h.led,λz=>by cases z⟩
theorem ZS(hdec:∀k v,knd.is k v=true->dec v=k){Q:Bool->Shared->Prop}(hk:knd.is k x=true)(hs:x.scannable=true)(g:Good knd dec led s.heap a ks)(room:ks.length+1<scanBound)(h:∀(h':Heap) (b:Bool),SameBut a s.heap h'->Good knd dec led h' a (if k∈ks then ks else k::ks)->Q b { s with heap:=h' }) :
  wpAny (model prog w) A (setAddHashed a x (knd.hash k)) Q E s:=by
 obtain⟨o,es,ep,t,ho,hx,hd,hel,hp,nd,hb,hf,tb⟩:=g
 have n:es.size=ks.length:=by rw[<-hp.length_eq,length_map,length_toList]
 unfold setAddHashed setAddHashedIn
 refine abo (aar (abd ho hd hf ?_))
 dsimp only
 rw[byScan_of hs hb hel]
 simp only[↓reduceIte]
 unfold setAddByScan
 refine aar (aar (ad7 (aar (wpAny_setScan_of hk ho hd hf hel ?_))))
 have fi:=zJ5 hdec hel k
 cases hr:List.findIdx? (λe=>knd.is k e.2) es.toList with
 |some j =>
  have hm:k∈ks:=by
   refine hp.mem_iff.mp (Classical.byContradiction λz=>?_)
   rw[fi.mpr z] at hr
   cases hr
  dsimp only
  refine aat (aat ?_)
  have q:=h s.heap false (SameBut.refl a s.heap)
  rw[if_pos hm] at q
  exact q ⟨o,es,ep,t,ho,hx,hd,hel,hp,nd,hb,hf,tb⟩
 |none =>
  have hm:k∉ks:=λz=>fi.mp hr (hp.mem_iff.mpr z)
  dsimp only
  have lp:=layNew_perm t es (knd.hash k) x
  have lf:=layNew_fits t es (knd.hash k) x
  have lt:=Np tb es (knd.hash k) x
  generalize layNew t es (knd.hash k) x=L at lp lf lt ⊢
  obtain⟨es1,t1,Ub,gave⟩:=L
  dsimp only at lp lf lt ⊢
  rw[toList_push] at lp
  have sz:es1.size=es.size+1:=by rw[<-length_toList,lp.length_eq,length_append,length_toList];rfl
  have hp1:(es1.toList.map λe=>dec e.2).Perm (k::ks):=by
   refine(lp.map _).trans ?_
   rw[map_append]
   show(_++[dec x]).Perm _
   rw[hdec k x hk]
   exact Perm.trans (l₂:=k::es.toList.map λ(e:Int×Value)=>dec e.2) List.perm_append_comm (hp.cons k)
  have fin:∀h',SameBut a s.heap h'->Good knd dec led h' a (k::ks)->Q true { s with heap:=h' }:=λh' sb g'=>by
   have q:=h h' true sb
   rw[if_neg hm] at q
   exact q g'
  have nd1:(k::ks).Nodup:=nodup_cons.mpr ⟨hm,nd⟩
  refine aar (ZR ?_)
  split
  ·refine aar ?_
   rw[hashByValue_scannable 8 hs]
   refine aat ?_
   refine zNt (led:=led) (Ub:=Ub) (λb s₁ Q' hq=>ZR hq) ho hx hd ((hel.push hk hs).perm lp) hp1 nd1 (by rw[sz,n];exact room) ?_ ?_ λh' sb g'=>?_
   ·split
    ·exact lf
    ·exact SetTable.fits_plain_off lf
   ·split
    ·exact lt
    ·exact Nq lt
   ·exact aat (fin h' sb g')
  ·refine aar (aat ?_)
   simp only[↓reduceIte]
   refine zNt (led:=led) (Ub:=Ub) (λb s₁ Q' hq=>ZR hq) ho hx hd ((hel.push hk hs).perm lp) hp1 nd1 (by rw[sz,n];exact room) lf lt λh' sb g'=>?_
   exact aat (fin h' sb g')
end
open PySem PySem.Spec PyProof.Rows
section
variable{κ:Type}[DecidableEq κ]
def met(val:Nat->κ):Nat->List κ
 |0=>[]
 |i+1=>if val i∈met val i then met val i else val i::met val i
theorem zRo(val:Nat->κ):∀i,(met val i).length<=i
 |0=>aav _
 |i+1=>by
  have ih:=zRo val i
  unfold met
  split
  ·omega
  ·rw[length_cons];omega
theorem zRp(val:Nat->κ)(k:κ):∀i,k∈met val i↔∃j,j<i/\val j=k
 |0=>by simp[met]
 |i+1=>by
  have ih:=zRp val k i
  have lt:(∃j,j<i+1/\val j=k)↔(∃j,j<i/\val j=k)\/val i=k:=by
   constructor
   ·rintro⟨j,hj,e⟩
    by_cases q:j=i
    ·subst q;exact .inr e
    ·exact .inl ⟨j,by omega,e⟩
   ·rintro(⟨j,hj,e⟩|e)
    ·exact⟨j,by omega,e⟩
    ·exact⟨i,by omega,e⟩
  rw[lt,<-ih]
  show k∈(if val i∈met val i then met val i else val i::met val i)↔_
  split
  ·rename_i hm
   exact⟨.inl,λh=>h.elim id λe=>e▸hm⟩
  ·rw[mem_cons]
   exact⟨λh=>h.elim (λe=>.inr e.symm) .inl,λh=>h.elim .inr λe=>.inl e.symm⟩
variable{prog:Program}{w:World}{knd:KeyKind prog w κ}{dec:Value->κ}{led:Bool}{A:Around}{R:Result->Shared->Prop}{I:Addr}{fp wr:List Addr}{G:Array GenState->Array GenState->Prop}{n:Nat}{P:Nat->Value->Prop}{St:Nat->Shared->Prop}
theorem G8(hdec:∀k v,knd.is k v=true->dec v=k)(W:WalksS prog w A.in1 I fp wr G n P St)(S:Addr)(off:S∉fp)(val:Nat->κ)(hval:∀i v,P i v->knd.is (val i) v=true/\v.scannable=true)(hb:n+1<scanBound) :
  ∀(k i:Nat)(s:Shared),n-i=k->i<=n->St i s->Good knd dec led s.heap S (met val i)->(∀s',Moved (S::wr) G s s'->Good knd dec led s'.heap S (met val n)->R (.ok (.ret .none)) s')->codeAny (model prog w) A (.builtin "set.update.loop" ⟨[.ref S,.ref I],[]⟩) R s:=by
 have Uc:S∉wr:=λh=>off (W.sub _ h)
 have sub:∀b∈wr,b∈S::wr:=λb hb=>mem_cons_of_mem _ hb
 intro k
 induction k with
 |zero =>
  intro i s hk hi st g fin
  have e:i=n:=by omega
  subst e
  refine acy F.entry_set_update_loop ?_
  rw[ab9 ad9 _]
  refine aar (m:=pyNext (.ref I)) (W.done s _ _ st λs' hm=>?_)
  exact aat (fin s' (hm.mono sub) (g.keep λo h=>hm.heap S o Uc h))
 |succ k ih =>
  intro i s hk hi st g fin
  have lt:i<n:=by omega
  refine acy F.entry_set_update_loop ?_
  rw[ab9 ad9 _]
  refine aar (m:=pyNext (.ref I)) (W.item i s _ _ lt st λv s' hP st' hm=>?_)
  obtain⟨his,hsc⟩:=hval i v hP
  refine aar (m:=holding [v] (setAdd S v)) (abo ?_)
  unfold setAdd
  refine abo (aar (knd.pyHash (k:=val i) his ?_))
  refine ZS (led:=led) (s:={ s' with toks:=s'.toks+1 }) hdec his hsc (g.keep λo h=>hm.heap S o Uc h) (by have:=zRo val i;omega) λh' b sb g'=>?_
  refine aat ⟨adl ad9 _,ih (i+1) _ (by omega) lt (W.frame _ s' _ _ st' (ace _) λb hb o e=>?_) g' λs'' hm'' g''=>?_⟩
  ·rw[sb.2 b (λh:b=S=>off (by rw[<-h];exact hb))];exact e
  ·refine fin s'' (Moved.trans W.gtrans ((hm.mono sub).then_heap (ace _) λb o hb e=>?_) hm'') g''
   rw[sb.2 b (λh:b=S=>hb (h▸mem_cons_self))];exact e
end
section
variable{prog:Program}{w:World}{A:Around}{E:Value->Shared->Prop}{s:Shared}
def yF(w:World):Bool:=!w.params.followText "set-order"
theorem zUz(a:Value){Q₁:Value->Shared->Prop}(h:Q₁ (.ref s.heap.objs.size) { s with heap:=s.heap.push { cls:=.type "set",dict:=none,data:=.set #[] 0 (.fresh 0 0 (yF w)) } }) :
  codeAny (model prog w) A (.call (.builtin "set.__new__") ⟨[.type "set",a],[]⟩) (wants Q₁ E) s:=by
 refine codeAny_of_tree (aar (m:=checkBuiltinCall "set.__new__" ⟨[.type "set",a],[]⟩) (wpAny_of_eq (F.newCall_set_1 a) (aat ⟨adl F.plain_set_new _,acy F.entry_set_new ?_⟩)))
 rw[ab9 F.plain_set_new _]
 unfold Builtin.«set.__new__» Builtin.Frozenset.newClass
 have sub:=ae3
 obtain⟨hp,g,d,tk,os⟩:=s
 dsimp only
 wp_walk
 refine adx (aat ?_)
 dsimp only
 simp only[newObj]
 exact aar (wpAny_alloc (aat (aat h)))
theorem Ud{κ:Type}[DecidableEq κ]{knd:KeyKind prog w κ}{dec:Value->κ}{h:Heap}(e:h.get? a=some { cls:=.type "set",dict:=none,data:=.set #[] 0 (.fresh 0 0 led) }):Good knd dec led h a [] :=
 ⟨_,#[],0,.fresh 0 0 led,e,⟨rfl,rfl,rfl⟩,rfl,λx hx=>by simp at hx,by simp,nodup_nil,by show 0<4096;decide,by cases led<;>rfl,zTv led⟩
set_option maxHeartbeats 4000000 in
theorem zVs{κ:Type}[DecidableEq κ]{knd:KeyKind prog w κ}{dec:Value->κ}(hdec:∀k v,knd.is k v=true->dec v=k){Q:Value->Shared->Prop}(val:Nat->κ)(hh:A.handled=none)(hl:s.heap.IsList l items)(hi:∀(i:Nat) (v:Value),items[i]?=some v->knd.is (val i) v=true/\v.scannable=true)(hb:items.size+1<scanBound)(h:∀(h':Heap) (tk:Nat),Good knd dec (yF w) h' s.heap.objs.size (met val items.size)->(∀b o,b<s.heap.objs.size->s.heap.get? b=some o->h'.get? b=some o)->Q (.ref s.heap.objs.size) { s with heap:=h',toks:=tk }) :
  wpAny (model prog w) A (call (.type "set") [.ref l]) Q E s:=by
 obtain⟨c,tl,hmro⟩:=F.called_set.mro
 have hmade:=F.called_set.made
 have hsub:=F.called_set.sub
 refine wpAny_call (codeAny_of_tree (aat ⟨Code.quiet_builtin _ (by decide +kernel),acy F.entry_type_call ?_⟩))
 rw[Around.under_plain (weight_type_call_type "set" [.ref l] []) rfl]
 have h1:=F.called_set.notType
 have h2:=F.called_set.canCreate
 have hct:=F.typeCall_set_1 (.ref l)
 repeat(any_goals (first|assumption|wp_step))
 refine adw (zUz (.ref l) (E:=E) (Q₁:=λobj s₁=>obj=.ref s.heap.objs.size/\s₁={ s with heap:=s.heap.push { cls:=.type "set",dict:=none,data:=.set #[] 0 (.fresh 0 0 (yF w)) } }) ⟨rfl,rfl⟩) λr s₁ hr=>?_
 cases r with
 |error e=>exact hr
 |ok fl =>
  cases fl with
  |ret obj =>
   obtain⟨rfl,rfl⟩:=hr
   have hS:(s.heap.push { cls:=.type "set",dict:=none,data:=.set #[] 0 (.fresh 0 0 (yF w)) }).get? s.heap.objs.size=some { cls:=.type "set",dict:=none,data:=.set #[] 0 (.fresh 0 0 (yF w)) }:=get?_push_size _ rfl
   have hT:Shared.TypeIs { s with heap:=s.heap.push { cls:=.type "set",dict:=none,data:=.set #[] 0 (.fresh 0 0 (yF w)) } } (.ref s.heap.objs.size) "set":=⟨_,hS,rfl⟩
   have hli:=F.called_set.init.lookup
   have hbi:=F.called_set.init.bind (.ref s.heap.objs.size)
   repeat(any_goals (first|assumption|wp_step))
   refine adw (codeAny_call_builtin (R:=wants (λr s₂=>r=.none/\∃h' tk,s₂={ s with heap:=h',toks:=tk }/\Good knd dec (yF w) h' s.heap.objs.size (met val items.size)/\(∀b o,b<s.heap.objs.size->s.heap.get? b=some o->h'.get? b=some o)) E)
    F.called_set.init.plain F.entry_set_init (check_set_init_1 hT ?_)) λr₂ s₂ hr₂=>?_
   ·obtain⟨ol,hol,hcl,nl,hdl⟩:=hl
    obtain⟨ocls,odict,odata,oslots⟩:=ol
    simp only at hcl hdl
    subst hcl
    subst hdl
    have hol':(s.heap.push { cls:=.type "set",dict:=none,data:=.set #[] 0 (.fresh 0 0 (yF w)) }).get? l=some { cls:=.type "list",dict:=odict,data:=.seq items nl,slots:=oslots }:=get?_push_of_some _ hol
    have hsls:=F.sub_list_set
    have hslf:=F.sub_list_frozenset
    have hne:(ac3 "list" == ac3 "dict")=false:=by decide
    have hl1:(s.heap.push { cls:=.type "set",dict:=none,data:=.set #[] 0 (.fresh 0 0 (yF w)) }).IsList l items:=⟨_,hol',rfl,nl,rfl⟩
    unfold Builtin.«set.__init__» noKeywords Builtin.Frozenset.updateFrom
    generalize hPI:pyIter=PI
    wp_walk
    subst hPI
    refine aew hl1 (aar (wpAny_runValue ?_))
    have hlS:l<s.heap.objs.size:=lt_size hol
    have sz:(s.heap.push { cls:=.type "set",dict:=none,data:=.set #[] 0 (.fresh 0 0 (yF w)) }).objs.size=s.heap.objs.size+1:=size_push ..
    have hneI:l≠(s.heap.push { cls:=.type "set",dict:=none,data:=.set #[] 0 (.fresh 0 0 (yF w)) }).objs.size:=by rw[sz];exact aa0 (adn hlS)
    refine G8 (led:=yF w) hdec ((Walks.list (by simp[hh]) _ l hneI items).toS) s.heap.objs.size (by
     rw[sz]
     intro z
     rcases mem_cons.mp z with z|z
     ·exact absurd z (aa0 (ac2 _))
     ·exact absurd (mem_singleton.mp z) (adu hlS)) val hi hb (items.size-0) 0 _ (by omega) (abk _) ⟨⟨_,get?_push_size _ rfl,rfl,rfl⟩,hl1.push _⟩ (Ud (get?_push_of_some _ hS)) λs' hm g'=>?_
    obtain⟨h',g1,d1,tk',os1⟩:=s'
    have eg:g1=s.gens:=hm.gens
    have ed:d1=s.drawn:=hm.drawn
    have eo:os1=s.os:=hm.os
    subst eg ed eo
    refine aat ?_
    refine aat ⟨rfl,h',tk',rfl,g',λb o hb e=>hm.heap b o (λz=>?_) (get?_push_of_some _ (get?_push_of_some _ e))⟩
    rcases mem_cons.mp z with z|z
    ·exact absurd z (aa0 hb)
    ·have z:=mem_singleton.mp z
     rw[sz] at z
     exact absurd z (aa0 (adn hb))
   ·cases r₂ with
    |error e=>exact hr₂
    |ok fl₂ =>
     cases fl₂ with
     |ret r =>
      obtain⟨rfl,h',tk,rfl,hS',hk'⟩:=hr₂
      repeat(any_goals (first|assumption|wp_step))
      exact h _ _ hS' hk'
     |_=>exact hr₂.elim
  |_=>exact hr.elim
end
set_option maxRecDepth 100000
theorem zMr:Manifest.owners.lookup (String.ofList ['r','o','t','a','r','e','t','i','_','t','e','s'].reverse)=some Manifest.sig_set_iterator:=by kernel_rfl
theorem jY:Slot "set_iterator" "__next__" "set_iterator.__next__":=.of (owner:="set_iterator") (n:="__next__") (by rw[ad4,ac4];kernel_rfl) (by decide +kernel) (by decide +kernel) (by decide +kernel) (by first|exact .inl (by decide +kernel)|exact .inr (by decide +kernel)) (by rw[isSubtype_type];kernel_rfl)
theorem zHu:entryFor table "set_iterator.__next__" = some Builtin.«set_iterator.__next__»:=entryFor_of_tree (by kernel_rfl)
theorem zJc(a:Value):argsOk "set_iterator.__next__" ⟨[a],[]⟩:=by unfold argsOk;rw[signature?_of (id:="set_iterator.__next__") (n:=['_','_','t','x','e','n','_','_']) (o:=['r','o','t','a','r','e','t','i','_','t','e','s']) (by kernel_rfl) zMr];kernel_rfl
theorem zQl:Slot "set_iterator" "__iter__" "set_iterator.__iter__":=.of (owner:="set_iterator") (n:="__iter__") (by rw[ad4,ac4];kernel_rfl) (by decide +kernel) (by decide +kernel) (by decide +kernel) (by first|exact .inl (by decide +kernel)|exact .inr (by decide +kernel)) (by rw[isSubtype_type];kernel_rfl)
theorem zHv:entryFor table "set_iterator.__iter__" = some Builtin.«dict_keyiterator.__iter__»:=aeo (id':="dict_keyiterator.__iter__") (by kernel_rfl) rfl (by decide +kernel) (by kernel_rfl)
theorem zJd(a:Value):argsOk "set_iterator.__iter__" ⟨[a],[]⟩:=by unfold argsOk;rw[signature?_of (id:="set_iterator.__iter__") (n:=['_','_','r','e','t','i','_','_']) (o:=['r','o','t','a','r','e','t','i','_','t','e','s']) (by kernel_rfl) zMr];kernel_rfl
theorem zGf:entryFor table "set.__iter__" = some Builtin.«frozenset.__iter__»:=aeo (id':="frozenset.__iter__") (by kernel_rfl) rfl (by decide +kernel) (by kernel_rfl)
theorem qj:typeLookup (.type "set") "__len__" = pure (some (.builtin "set.__len__")):=by rw[ad4,ac4];kernel_rfl
set_option maxRecDepth 100000
section
variable{prog:Program}{w:World}{A:Around}{E:Value->Shared->Prop}{s:Shared}
theorem W0{α:Type}:∀{l:List α}{i:Nat}(h:i<l.length),(l[i]::l.eraseIdx i).Perm l
 |x::l,0,h=>.refl _
 |x::l,i+1,h=>by
  have hi:i<l.length:=by simpa using h
  have ih:=W0 (l:=l) (i:=i) hi
  show(l[i]::x::l.eraseIdx i).Perm (x::l)
  exact(Perm.swap _ _ _).trans (ih.cons x)
theorem zPt{Q:Nat->Shared->Prop}(hn:0<n)(h:∀i d,i<n->Q i { s with drawn:=d }):wpAny (model prog w) A (choose src n) Q E s :=
 λ_ _ _=>⟨adu hn,h _ _ (afh _ hn)⟩
theorem zSp{α:Type}:∀(n:Nat)(xs:List α)(s:Shared)(Q:List α->Shared->Prop),xs.length=n->(∀ys d,ys.Perm xs->Q ys { s with drawn:=d })->wpAny (model prog w) A (drawOrder n xs) Q E s
 |0,xs,s,Q,hl,h=>by
  have e:xs=[]:=length_eq_zero_iff.mp hl
  subst e
  unfold drawOrder
  exact aat (h [] s.drawn (.refl _))
 |n+1,[],s,Q,hl,h=>by simp at hl
 |n+1,x::xs,s,Q,hl,h=>by
  unfold drawOrder
  refine aar (zPt (by rw[hl];omega) λi d hi=>?_)
  have e:(x::xs)[i]?=some (x::xs)[i]:=aas hi
  rw[e]
  refine aar (zSp n _ _ _ (by rw[length_eraseIdx,if_pos hi,hl];rfl) λys d' p=>?_)
  exact aat (h _ d' ((p.cons _).trans (W0 hi)))
theorem zQ1{α:Type}(next:Nat->Nat):∀(fuel k:Nat)(left:List α)(out:Array α),left.length=fuel->(afq next fuel k left out).toList.Perm (out.toList++left)
 |0,k,left,out,hl=>by
  have e:left=[]:=length_eq_zero_iff.mp hl
  subst e
  unfold afq
  rw[append_nil]
 |fuel+1,k,left,out,hl=>by
  have hi:next k%left.length<left.length:=afh _ (by omega)
  unfold afq
  rw[aas hi]
  dsimp only
  refine(zQ1 next fuel (k+1) _ _ (by rw[length_eraseIdx,if_pos hi,hl];rfl)).trans ?_
  rw[toList_push,append_assoc]
  exact Perm.append_left _ (W0 hi)
theorem QB{α:Type}(next:Nat->Nat)(xs:Array α):(pickOrder next xs).toList.Perm xs.toList:=by
 have q:=zQ1 next xs.size 0 xs.toList #[] (by simp)
 have e:(#[]:Array α).toList++xs.toList=xs.toList:=rfl
 rw[e] at q
 exact q
variable{a it T:Addr}{o:Obj}{es:Array (Int×Value)}{ep:Nat}{t:SetTable}
theorem Nr{Q:Bool->Shared->Prop}(h:Q (w.params.followText "set-order") s):wpAny (model prog w) A setsByText Q E s:=by
 unfold setsByText
 exact aar (adx (aat h))
theorem zVq{Q:Bool->Shared->Prop}(ho:s.heap.get? a=some o)(hd:o.data=.set es ep t)(hf:t.fits es.size=true)(h:Q (!w.params.followText "set-order" && (!t.plain&&decide (es.size > 1))) s):wpAny (model prog w) A (setDrawn a) Q E s:=by
 unfold setDrawn
 refine aar (abd ho hd hf ?_)
 exact aar (Nr (aat h))
theorem W2{Q:Array (Int×Value)->Shared->Prop}(ho:s.heap.get? a=some o)(hd:o.data=.set es ep t)(hf:t.fits es.size=true)(h:Q es s):wpAny (model prog w) A (setEntries a) Q E s:=by
 unfold setEntries
 exact aar (abd ho hd hf (aat h))
theorem zJx{Q:Option (Value×Nat)->Shared->Prop}(ho:s.heap.get? a=some o)(hd:o.data=.set es ep t)(hf:t.fits es.size=true)(hb:w.params.followText "set-order" = true)(h:Q (((pickOrder (w.params.setOrder a ep) es)[i]?).map λe=>(e.2,slot)) s):wpAny (model prog w) A (setNext a slot i ep) Q E s:=by
 unfold setNext
 refine aar (abd ho hd hf ?_)
 refine aar (Nr ?_)
 rw[hb]
 simp only[↓reduceIte,bne_self_eq_false,aa1]
 refine aar ?_
 unfold setWalk
 refine aar (abd ho hd hf ?_)
 refine aar (Nr ?_)
 rw[hb]
 simp only[↓reduceIte]
 refine aar (adx (aat ?_))
 exact aat h
theorem zGx{Q:Option (Value×Nat)->Shared->Prop}(ho:s.heap.get? a=some o)(hd:o.data=.set es ep t)(hf:t.fits es.size=true)(hb:w.params.followText "set-order" = false)(hl:t.led=true)(hn:(!t.plain&&decide (es.size > 1))=false)(h:Q (match es[below t.place slot]?,t.place[below t.place slot]? with|some (_,x),some j=>some (x,j+1)|_,_=>none) s):wpAny (model prog w) A (setNext a slot i ep) Q E s:=by
 unfold setNext
 refine aar (abd ho hd hf ?_)
 refine aar (Nr ?_)
 rw[hb]
 simp only[↓reduceIte,aa1]
 show wpAny _ _ (if(!t.plain&&decide (es.size > 1))=true then _ else _) _ _ _
 rw[if_neg (by rw[hn];exact aau)]
 refine aar ?_
 show wpAny _ _ (if(!t.led&&!es.isEmpty)=true then _ else pure ()) _ _ _
 rw[if_neg (by rw[hl];exact aau)]
 exact aat (aat h)
theorem zO3{Q:Value->Shared->Prop}(ho:s.heap.get? a=some o)(hd:o.data=.set es ep t)(hf:t.fits es.size=true)(hx:es[place]?=some x)(h:Q x.2 s):wpAny (model prog w) A (setNextDrawn a place ep) Q E s:=by
 unfold setNextDrawn
 refine aar (abd ho hd hf ?_)
 simp only[bne_self_eq_false,aa1,↓reduceIte,hx]
 exact aat h
def pA(first:Value)(i:Nat)(a:Addr)(n ep:Nat):Obj:={ cls:=.type "set_iterator",data:=.fields #[first,.int i 0,.ref a,.int n 0,.int ep 0] }
theorem zU8{Q:Value->Shared->Prop}(ho:s.heap.get? a=some o)(hx:o.ExactSet)(hd:o.data=.set es ep t)(hf:t.fits es.size=true)(h1:(!w.params.followText "set-order" && (!t.plain&&decide (es.size > 1)))=false->Q (.ref s.heap.objs.size) { s with heap:=s.heap.push (pA (.int 0 0) 0 a es.size ep) })(h2:(!w.params.followText "set-order" && (!t.plain&&decide (es.size > 1)))=true->es.size<=sizeLine/\∀(d:Drawn) (ps:List Nat),ps.Perm (aax es.size)->Q (.ref (s.heap.objs.size+1)) { s with drawn:=d,heap:=(s.heap.push { cls:=.type "tuple",data:=.seq (ps.map λ(i:Nat)=>acf i 0).toArray }).push (pA (.ref s.heap.objs.size) 0 a es.size ep) }) :
  wpAny (model prog w) A (pyIter (.ref a)) Q E s:=by
 have hT:s.TypeIs (.ref a) "set":=⟨o,ho,hx.1⟩
 refine wpAny_pyIter_slot hT F.slot_set_iter (acj F.slot_set_iter hT zGf ?_ (F.args_set_iter_1 _))
 unfold Builtin.«frozenset.__iter__»
 refine aar (aat ?_)
 refine aar ?_
 unfold ad2
 refine aar (W2 ho hd hf (aat ?_))
 refine aar (zVq ho hd hf ?_)
 cases hc:(!w.params.followText "set-order" && (!t.plain&&decide (es.size > 1))) with
 |false =>
  simp only[aa1,↓reduceIte]
  refine aar (aat ?_)
  refine aar (ach ho hd hf ?_)
  exact aar (ac9 (aat ⟨_,rfl,"set_iterator",_,⟨_,get?_push_size _ rfl,rfl⟩,jY.lookup,h1 hc⟩))
 |true =>
  obtain⟨hz,h2⟩:=h2 hc
  simp only[↓reduceIte]
  refine aar (zSp _ _ _ _ (by simp) λps d hp=>?_)
  refine aar (wpAny_newTuple ?_ (by rw[length_map,hp.length_eq,length_range];exact hz))
  have ho':=get?_push_of_some ({ cls:=.type "tuple",data:=.seq (ps.map λ(i:Nat)=>rawInt i).toArray }:Obj) ho
  refine aar (ach (s:={ s with drawn:=d,heap:=_ }) ho' hd hf ?_)
  refine aar (ac9 (aat ⟨_,rfl,"set_iterator",_,⟨_,get?_push_size _ rfl,rfl⟩,jY.lookup,?_⟩))
  have q:=h2 d ps hp
  have sz:(s.heap.push ({ cls:=.type "tuple",data:=.seq (ps.map λ(i:Nat)=>acf i 0).toArray }:Obj)).objs.size=s.heap.objs.size+1:=size_push ..
  rw[<-sz] at q
  exact q
end
set_option maxRecDepth 100000
section
variable{prog:Program}{w:World}{A:Around}{E:Value->Shared->Prop}{s:Shared}{a it T:Addr}{o:Obj}{es:Array (Int×Value)}{ep:Nat}{t:SetTable}{i:Nat}{first:Value}
theorem W3{Q:Option Value->Shared->Prop}(hi:s.heap.get? it=some (pA first i a es.size ep))(ho:s.heap.get? a=some o)(hd:o.data=.set es ep t)(hf:t.fits es.size=true)(h:wpAny (model prog w) A.in1 (if let .int slot _:=first then do
    match <-setNext a slot.toNat (i:Int).toNat (ep:Int).toNat with
    |some (x,next) =>
     setField (.ref it) 0 (rawInt next)
     setField (.ref it) 1 (rawInt ((i:Int)+1))
     ret x
    |none=>setField (.ref it) 2 .none;raiseNew (<-newExc (.type "StopIteration") [])
   else do
    let some places <-seqItems? first|unsupported "internal:set_iterator"
    match places[(i:Int).toNat]? with
    |some (.int place _) =>
     let x <-setNextDrawn a place.toNat (ep:Int).toNat
     setField (.ref it) 1 (rawInt ((i:Int)+1))
     ret x
    |some _=>unsupported "internal:set_iterator"
    |none=>setField (.ref it) 0 (rawInt 0);setField (.ref it) 2 .none;raiseNew (<-newExc (.type "StopIteration") []))
   (λfin s'=>∃v,fin=.done (.ret v)/\Q (some v) s')
   (λe s'=>s'.TypeIs e "StopIteration" /\ Q none s') s):wpAny (model prog w) A (pyNext (.ref it)) Q E s:=by
 have hT:s.TypeIs (.ref it) "set_iterator":=⟨_,hi,rfl⟩
 unfold pyNext
 refine aar (afe (aeb (name:=ac8 "__next__") hT jY (acj jY hT zHu ?_ (zJc _))))
 unfold Builtin.«set_iterator.__next__»
 refine aar (aat ?_)
 refine aar (wpAny_fieldsOf hi rfl ?_)
 dsimp only
 refine aar (W2 ho hd hf ?_)
 rw[if_neg (by simp)]
 exact acn h (λfin s' ⟨v,e,q⟩=>⟨v,e,aat q⟩) λe s' ⟨ty,q⟩=>aar (adz (T:="StopIteration") (b:=true) ty isSubtype_stop (aat q))
theorem zQf{α:Type}{Q:α->Shared->Prop}{E':Value->Shared->Prop}(hh:A.handled=none)(h:∀(e:Value) (h':Heap),(∀b u,s.heap.get? b=some u->h'.get? b=some u)->({ s with heap:=h' }:Shared).TypeIs e "StopIteration"->E' e { s with heap:=h' }) :
  wpAny (model prog w) A (newExc (.type "StopIteration") [] >>= λe=>(raiseNew e:Sem α)) Q E' s:=by
 refine aar ?_
 simp only[newExc,newTuple]
 refine aar (ac9 (aar (m:=firstArgMember _ _) (wpAny_of_eq (a:=adb) (by first|rfl|(simp only[firstArgMember];rfl)) (ac9 ?_ (by size_fits)))) (by size_fits))
 simp only[raiseNew]
 refine aar (wpAny_handled ?_)
 rw[hh]
 refine aar (aat (wpAny_throw ?_))
 refine h _ _ (λb u e=>get?_push_of_some _ (get?_push_of_some _ e)) ?_
 exact⟨_,get?_push_size _ rfl,rfl⟩
theorem W4{f:Obj->Obj}(hi:s.heap.get? it=some u)(hn:(f u).isFreed=false):(s.heap.update it f).get? it=some (f u):=get?_update_self f hi hn
theorem QC(hb:b≠it)(e:s.heap.get? b=some u):(s.heap.update it f).get? b=some u:=(get?_update_other _ _ (abv hb)).trans e
theorem zGz{Q:Option Value->Shared->Prop}{slot next:Nat}{tk:Tok}{x:Value}(hi:s.heap.get? it=some (pA (.int slot tk) i a es.size ep))(ho:s.heap.get? a=some o)(hd:o.data=.set es ep t)(hf:t.fits es.size=true)(hs:∀(R:Option (Value×Nat)->Shared->Prop) (E':Value->Shared->Prop),R (some (x,next)) s->wpAny (model prog w) A.in1 (setNext a slot i ep) R E' s)(h:∀h',h'.get? it=some (pA (.int next 0) (i+1) a es.size ep)->(∀b u,b≠it->s.heap.get? b=some u->h'.get? b=some u)->Q (some x) { s with heap:=h' }):wpAny (model prog w) A (pyNext (.ref it)) Q E s:=by
 refine W3 hi ho hd hf ?_
 dsimp only
 refine aar (hs _ _ ?_)
 dsimp only
 refine aar (adq hi rfl (by simp) ?_)
 have h1:=W4 (f:=aex (·.setIfInBounds 0 (rawInt next))) hi rfl
 refine aar (adq (s:={ s with heap:=_ }) h1 rfl (by simp) ?_)
 have h2:=W4 (s:={ s with heap:=_ }) (f:=aex (·.setIfInBounds 1 (rawInt ((i:Int)+1)))) h1 rfl
 exact aat ⟨x,rfl,h _ h2 λb u hb e=>QC (s:={ s with heap:=_ }) hb (QC hb e)⟩
theorem zKh{Q:Option Value->Shared->Prop}{slot:Nat}{tk:Tok}(hh:A.handled=none)(hi:s.heap.get? it=some (pA (.int slot tk) i a es.size ep))(ho:s.heap.get? a=some o)(hd:o.data=.set es ep t)(hf:t.fits es.size=true)(hs:∀(R:Option (Value×Nat)->Shared->Prop) (E':Value->Shared->Prop),R none s->wpAny (model prog w) A.in1 (setNext a slot i ep) R E' s)(h:∀h',(∀b u,b≠it->s.heap.get? b=some u->h'.get? b=some u)->Q none { s with heap:=h' }):wpAny (model prog w) A (pyNext (.ref it)) Q E s:=by
 refine W3 hi ho hd hf ?_
 dsimp only
 refine aar (hs _ _ ?_)
 dsimp only
 refine aar (adq hi rfl (by simp) ?_)
 exact zQf (s:={ s with heap:=_ }) (by simp[hh]) λe h' k ty=>⟨ty,h h' λb u hb e=>k b u (QC hb e)⟩
theorem zO8{Q:Option Value->Shared->Prop}{ps:List Nat}(hi:s.heap.get? it=some (pA (.ref T) i a es.size ep))(ho:s.heap.get? a=some o)(hd:o.data=.set es ep t)(hf:t.fits es.size=true)(hT:s.heap.get? T=some { cls:=.type "tuple",data:=.seq (ps.map λ(i:Nat)=>acf i 0).toArray })(hp:ps[i]?=some place)(hx:es[place]?=some x)(h:∀h',h'.get? it=some (pA (.ref T) (i+1) a es.size ep)->(∀b u,b≠it->s.heap.get? b=some u->h'.get? b=some u)->Q (some x.2) { s with heap:=h' }):wpAny (model prog w) A (pyNext (.ref it)) Q E s:=by
 refine W3 hi ho hd hf ?_
 dsimp only
 refine aar (aee hT rfl ?_)
 have e:((ps.map λ(i:Nat)=>acf i 0).toArray)[(i:Int).toNat]?=some (.int (place:Nat) 0):=by
  rw[abr,getElem?_toArray,getElem?_map,hp]
  rfl
 dsimp only
 rw[e]
 dsimp only
 refine aar (zO3 ho hd hf (x:=x) (by rw[abr];exact hx) ?_)
 refine aar (adq hi rfl (by simp) ?_)
 have h1:=W4 (f:=aex (·.setIfInBounds 1 (rawInt ((i:Int)+1)))) hi rfl
 exact aat ⟨x.2,rfl,h _ h1 λb u hb e=>QC hb e⟩
theorem zSn{Q:Option Value->Shared->Prop}{ps:List Nat}(hh:A.handled=none)(hi:s.heap.get? it=some (pA (.ref T) i a es.size ep))(ho:s.heap.get? a=some o)(hd:o.data=.set es ep t)(hf:t.fits es.size=true)(hT:s.heap.get? T=some { cls:=.type "tuple",data:=.seq (ps.map λ(i:Nat)=>acf i 0).toArray })(hp:ps[i]?=none)(h:∀h',(∀b u,b≠it->s.heap.get? b=some u->h'.get? b=some u)->Q none { s with heap:=h' }):wpAny (model prog w) A (pyNext (.ref it)) Q E s:=by
 refine W3 hi ho hd hf ?_
 dsimp only
 refine aar (aee hT rfl ?_)
 have e:((ps.map λ(i:Nat)=>acf i 0).toArray)[(i:Int).toNat]?=none:=by
  rw[abr,getElem?_toArray,getElem?_map,hp]
  rfl
 dsimp only
 rw[e]
 dsimp only
 refine aar (adq hi rfl (by simp) ?_)
 have h1:=W4 (f:=aex (·.setIfInBounds 0 (rawInt 0))) hi rfl
 refine aar (adq (s:={ s with heap:=_ }) h1 rfl (by simp) ?_)
 exact zQf (s:={ s with heap:=_ }) (by simp[hh]) λe h' k ty=>⟨ty,h h' λb u hb e=>k b u (QC (s:={ s with heap:=_ }) hb (QC hb e))⟩
end
set_option maxRecDepth 100000
section
variable{prog:Program}{w:World}{A:Around}{E:Value->Shared->Prop}{s:Shared}{a it T:Addr}{o:Obj}{es:Array (Int×Value)}{ep:Nat}{t:SetTable}
theorem ZV{Q:Value->Shared->Prop}(hi:s.heap.get? it=some (pA first i a n ep))(h:Q (.ref it) s):wpAny (model prog w) A (pyIter (.ref it)) Q E s:=by
 have hT:s.TypeIs (.ref it) "set_iterator":=⟨_,hi,rfl⟩
 refine wpAny_pyIter_slot hT zQl (acj zQl hT zHv ?_ (zJd _))
 refine aar (aat ?_)
 exact aat ⟨_,rfl,"set_iterator",_,hT,jY.lookup,h⟩
theorem ZW(hf:t.fits es.size=true):t.place.size=es.size:=by
 unfold fits at hf
 rw[aaz] at hf
 exact acg hf.1
theorem zPr(hr:Rz xs):below xs 0=0:=by
 obtain⟨b1,b2,b3⟩:=ZP hr 0
 cases e:below xs 0 with
 |zero=>rfl
 |succ k =>
  rw[e] at b1 b2
  have h0:0<xs.size:=by omega
  exact absurd (b2 0 _ (aen k) (aaw h0)) (aej _)
theorem zPs(hr:Rz xs)(h:xs[i]?=some j):below xs (j+1)=i+1:=by
 obtain⟨b1,b2,b3⟩:=ZP hr (j+1)
 generalize below xs (j+1)=p at *
 have hi:i<xs.size:=by
  by_cases z:i<xs.size
  ·exact z
  ·rw[abf (by omega)] at h;cases h
 have h1:i<p:=by
  by_cases z:i<p
  ·exact z
  ·have:=b3 i j (by omega) h;omega
 by_cases z:p=i+1
 ·exact z
 ·have hp:i+1<xs.size:=by omega
  have q1:=b2 (i+1) _ (by omega) (aaw hp)
  have q2:=hr i (i+1) j _ (by omega) h (aaw hp)
  omega
theorem zUa{xs:Array Nat}(h:xs.size<=1):Rz xs:=λi k a b hik ha hb=>by
 rw[abf (by omega)] at hb
 cases hb
theorem zN2(hh:A.handled=none)(hne:a≠it)(hd:o.data=.set es ep t)(hf:t.fits es.size=true)(hb:w.params.followText "set-order" = false)(hl:t.led=true)(hn:(!t.plain&&decide (es.size > 1))=false)(hr:Rz t.place) :
  Walks prog w A it [it,a] [it] es.size (λi v=>(es.toList.map (·.2))[i]?=some v) (λi h=>h.get? a=some o/\∃(slot:Nat)(tk:Tok),h.get? it=some (pA (.int slot tk) i a es.size ep)/\below t.place slot=i) where
 sub:=λb hb=>by simp at hb;simp[hb]
 frame:=λi h h' ⟨h1,slot,tk,h2,h3⟩ k=>⟨k a (by simp) _ h1,slot,tk,k it (by simp) _ h2,h3⟩
 item:=λi s Q E hi ⟨h1,slot,tk,h2,h3⟩ hQ=>by
  have hp:i<t.place.size:=by rw[ZW hf];exact hi
  refine zGz (x:=es[i].2) (next:=t.place[i]+1) h2 h1 hd hf (λR E' hR=>zGx h1 hd hf hb hl hn ?_) λh' hi' k=>?_
  ·rw[h3,aaw hi,aaw hp]
   exact hR
  ·refine hQ _ h' s.toks (by simp[hi]) ⟨k a o hne h1,_,_,hi',zPs hr (aaw hp)⟩ λb u hb e=>k b u (λz=>hb (by simp[z])) e
 done:=λs Q E ⟨h1,slot,tk,h2,h3⟩ hQ=>by
  refine zKh hh h2 h1 hd hf (λR E' hR=>zGx h1 hd hf hb hl hn ?_) λh' k=>hQ h' s.toks λb u hb e=>k b u (λz=>hb (by simp[z])) e
  rw[h3,abf (aav _)]
  exact hR
 self:=λi s Q E ⟨h1,slot,tk,h2,h3⟩ hQ=>ZV h2 hQ
theorem zPv(hh:A.handled=none)(hne:a≠it)(hd:o.data=.set es ep t)(hf:t.fits es.size=true)(hb:w.params.followText "set-order" = true) :
  Walks prog w A it [it,a] [it] es.size (λi v=>((pickOrder (w.params.setOrder a ep) es).toList.map (·.2))[i]?=some v) (λi h=>h.get? a=some o/\∃(slot:Nat)(tk:Tok),h.get? it=some (pA (.int slot tk) i a es.size ep)) where
 sub:=λb hb=>by simp at hb;simp[hb]
 frame:=λi h h' ⟨h1,slot,tk,h2⟩ k=>⟨k a (by simp) _ h1,slot,tk,k it (by simp) _ h2⟩
 item:=λi s Q E hi ⟨h1,slot,tk,h2⟩ hQ=>by
  have hz:i<(pickOrder (w.params.setOrder a ep) es).size:=by rw[<-length_toList,(QB _ es).length_eq,length_toList];exact hi
  refine zGz (x:=(pickOrder (w.params.setOrder a ep) es)[i].2) (next:=slot) h2 h1 hd hf (λR E' hR=>zJx h1 hd hf hb ?_) λh' hi' k=>?_
  ·rw[aaw hz]
   exact hR
  ·refine hQ _ h' s.toks (by simp[hz]) ⟨k a o hne h1,_,_,hi'⟩ λb u hb e=>k b u (λz=>hb (by simp[z])) e
 done:=λs Q E ⟨h1,slot,tk,h2⟩ hQ=>by
  have hz:(pickOrder (w.params.setOrder a ep) es).size=es.size:=by rw[<-length_toList,(QB _ es).length_eq,length_toList]
  refine zKh hh h2 h1 hd hf (λR E' hR=>zJx h1 hd hf hb ?_) λh' k=>hQ h' s.toks λb u hb e=>k b u (λz=>hb (by simp[z])) e
  rw[abf (by rw[hz];exact aav _)]
  exact hR
 self:=λi s Q E ⟨h1,slot,tk,h2⟩ hQ=>ZV h2 hQ
theorem zN3{ps:List Nat}(hh:A.handled=none)(hne:a≠it)(hnT:T≠it)(hd:o.data=.set es ep t)(hf:t.fits es.size=true)(hp:ps.Perm (aax es.size)) :
  Walks prog w A it [it,a,T] [it] es.size (λi v=>(ps.map λp=>((es[p]?).map (·.2)).getD .none)[i]?=some v)
   (λi h=>h.get? a=some o/\h.get? T=some { cls:=.type "tuple",data:=.seq (ps.map λ(i:Nat)=>acf i 0).toArray }/\h.get? it=some (pA (.ref T) i a es.size ep)) where
 sub:=λb hb=>by simp at hb;simp[hb]
 frame:=λi h h' ⟨h1,h2,h3⟩ k=>⟨k a (by simp) _ h1,k T (by simp) _ h2,k it (by simp) _ h3⟩
 item:=λi s Q E hi ⟨h1,h2,h3⟩ hQ=>by
  have hl:ps.length=es.size:=by rw[hp.length_eq,length_range]
  have hi':i<ps.length:=by omega
  have hm:ps[i]<es.size:=mem_range.mp (hp.mem_iff.mp (getElem_mem hi'))
  refine zO8 (place:=ps[i]) (x:=es[ps[i]]) h3 h1 hd hf h2 (aas hi') (aaw hm) λh' hi' k=>?_
  refine hQ _ h' s.toks ?_ ⟨k a o hne h1,k T _ hnT h2,hi'⟩ λb u hb e=>k b u (λz=>hb (by simp[z])) e
  rw[getElem?_map,aas (by omega),Option.map_some,aaw hm]
  rfl
 done:=λs Q E ⟨h1,h2,h3⟩ hQ=>by
  have hl:ps.length=es.size:=by rw[hp.length_eq,length_range]
  exact zSn hh h3 h1 hd hf h2 (ab3 (by omega)) λh' k=>hQ h' s.toks λb u hb e=>k b u (λz=>hb (by simp[z])) e
 self:=λi s Q E ⟨h1,h2,h3⟩ hQ=>ZV h3 hQ
end
set_option maxRecDepth 100000
section
variable{prog:Program}{w:World}{A:Around}{E:Value->Shared->Prop}{s:Shared}{a it T:Addr}{o:Obj}{es:Array (Int×Value)}{ep:Nat}{t:SetTable}
theorem zVd{Q:Bool->Shared->Prop}(hT:s.TypeIs (.ref a) "set")(h:Q false s):wpAny (model prog w) A (ac0 (.ref a)) Q E s:=by
 unfold ac0
 refine aar (ae5 hT F.slot_set_len.lookup ?_)
 generalize hid:("set.__len__":String)=id0
 wp_delta
 rw[show splitId id0=some ("set","__len__") from by subst hid;decide +kernel]
 subst hid
 refine aar (adz (T:="set") (b:=true) hT ae3 (ae4 (λhab=>absurd hab (by decide)) λ_=>ae4 (λ_=>aar (afs hT (aat h))) λhab=>absurd (by decide +kernel) hab))
theorem zRr{R:Result->Shared->Prop}{P:Nat->Value->Prop}{St:Nat->Heap->Prop}(W:Walks prog w A.in1 it fp [it] n P St)(hn:n<=sizeLine)(off:S∉fp)(st:St 0 s.heap)(hS:s.heap.get? S=some { cls:=.type "list",data:=.seq #[] c₁ })(hR:∀h' tk acc c',(∀b u,b≠S->b≠it->s.heap.get? b=some u->h'.get? b=some u)->h'.get? S=some { cls:=.type "list",dict:=none,data:=.seq acc c',slots:=#[] }->ItemsOf P acc n->R (.ok (.ret res)) { s with heap:=h',toks:=tk }) :
  codeAny (model prog w) A (.builtin "list.extend.loop" ⟨[.ref S,.ref it,res],[]⟩) R s:=by
 refine codeAny_extend_loopS W.toS hn S off res n 0 _ #[] c₁ rfl (abk _) st hS (ItemsOf.nil _) λs' acc c' hm hS' hacc=>?_
 rw[Moved.eq_with hm]
 refine hR s'.heap s'.toks acc c' (λb u h1 h2 e=>hm.heap b u (λz=>?_) e) hS' hacc
 rcases mem_cons.mp z with z|z
 ·exact h1 z
 ·exact h2 (mem_singleton.mp z)
theorem ZX{R:Result->Shared->Prop}{P:Nat->Value->Prop}{St:Nat->Heap->Prop}(W:Walks prog w A.in1 it fp [it] n P St)(hn:n<=sizeLine)(off:S∉fp)(hT:s.TypeIs (.ref a) "set")(st:St 0 s.heap)(hS:s.heap.get? S=some { cls:=.type "list",data:=.seq #[] c₀ })(hR:∀h' tk acc c',(∀b u,b≠S->b≠it->s.heap.get? b=some u->h'.get? b=some u)->h'.get? S=some { cls:=.type "list",dict:=none,data:=.seq acc c',slots:=#[] }->ItemsOf P acc n->R (.ok (.ret res)) { s with heap:=h',toks:=tk }) :
  wpAny (model prog w) A.in1 (holding [.ref it] (ac0 (.ref a)) >>= λroom=>if(room||b)=true then(rule "list.extend.makes-room" >>= λ_=>Builtin.List.listTouch (.ref S) >>= λ_=>again (.builtin "list.extend.loop" ⟨[.ref S,.ref it,res],[]⟩)) else again (.builtin "list.extend.loop" ⟨[.ref S,.ref it,res],[]⟩))
   (λfin s'=>match fin with|.done f=>R (.ok f) s'|.again c'=>c'.quiet=true/\codeAny (model prog w) A c' R s') (λe s'=>R (.error e) s') s:=by
 refine aar (abo (zVd hT ?_))
 refine ae4 (λ_=>?_) λ_=>aat ⟨adl acz _,zRr W hn off st hS hR⟩
 refine aar (ad7 ?_)
 refine aar ?_
 show wpAny _ _ (updateSeq S (·.push .none) >>= λ_=>updateSeq S (·.pop)) _ _ _
 refine aar (adh hS rfl ?_)
 have hS2:=get?_update_self (abz (·.push adb)) hS rfl
 refine adh (hz:=by seq_fits) hS2 rfl ?_
 have hS3:=get?_update_self (abz (·.pop)) hS2 rfl
 have keep:∀c u,c≠S->s.heap.get? c=some u->((s.heap.update S (abz (·.push adb))).update S (abz (·.pop))).get? c=some u:=λc u hc e=>(get?_update_other _ _ (abv hc)).trans ((get?_update_other _ _ (abv hc)).trans e)
 refine aat ⟨adl acz _,zRr (s:={ s with heap:=_ }) W hn off (W.frame 0 _ _ st λc hc u e=>keep c u (λz=>off (z▸hc)) e) hS3 λh' tk acc c' k h1 h2=>hR h' tk acc c' (λc u n1 n2 e=>k c u n1 n2 (keep c u n1 e)) h1 h2⟩
theorem Z0(h:ItemsOf (λi v=>ord[i]?=some v) acc n)(hl:ord.length=n):acc.toList=ord:=by
 apply List.ext_getElem?
 intro i
 rw[getElem?_toList]
 by_cases hi:i<acc.size
 ·rw[aaw hi]
  exact(h.2 i _ (aaw hi)).symm
 ·rw[abf (by omega),ab3 (by rw[hl,<-h.1];omega)]
theorem zOp(es:Array (Int×Value)):(aax es.size).map (λp=>((es[p]?).map (·.2)).getD adb)=es.toList.map (·.2):=by
 apply List.ext_getElem (by simp)
 intro i h1 h2
 have hi:i<es.size:=by simpa using h1
 simp[hi]
theorem zPh{R:Result->Shared->Prop}(hh:A.handled=none)(ho:s.heap.get? a=some o)(hx:o.ExactSet)(hd:o.data=.set es ep t)(hf:t.fits es.size=true)(tb:Tb (yF w) t)(hz:es.size<=sizeLine)(Z1:S≠a)(hS:s.heap.get? S=some { cls:=.type "list",data:=.seq #[] c₀ })(hR:∀h' tk d acc c',(∀b u,b≠S->s.heap.get? b=some u->h'.get? b=some u)->h'.get? S=some { cls:=.type "list",dict:=none,data:=.seq acc c',slots:=#[] }->acc.toList.Perm (es.toList.map (·.2))->R (.ok (.ret res)) { s with heap:=h',toks:=tk,drawn:=d }) :
  wpAny (model prog w) A.in1 (ab0 (.ref S) (.ref a) res)
   (λfin s'=>match fin with|.done f=>R (.ok f) s'|.again c'=>c'.quiet=true/\codeAny (model prog w) A c' R s') (λe s'=>R (.error e) s') s:=by
 have hT:s.TypeIs (.ref a) "set":=⟨o,ho,hx.1⟩
 have lta:a<s.heap.objs.size:=lt_size ho
 have ltS:S<s.heap.objs.size:=lt_size hS
 have hi:A.in1.handled=none:=by simp[hh]
 unfold ab0
 refine aar (afs hT ?_)
 have h1:ada (.ref S) (.ref a)=false:=by simp[ada,Z1]
 simp only[h1,show(ac3 "set" == ac3 "list")=false by decide,show(ac3 "set" == ac3 "tuple")=false by decide,Bool.or_false,aa1,if_false]
 have old:∀{b:Addr}{u:Obj}{n:Nat},s.heap.get? b=some u->s.heap.objs.size<=n->b≠n:=λe hn z=>absurd (lt_size e) (by rw[z];exact Nat.not_lt_of_le hn)
 refine aar (zU8 ho hx hd hf (λhc=>?_) λhc=>⟨hz,λd ps hp=>?_⟩)
 ·have hS':=get?_push_of_some (pA (.int 0 0) 0 a es.size ep) hS
  have ho':=get?_push_of_some (pA (.int 0 0) 0 a es.size ep) ho
  have hI:(s.heap.push (pA (.int 0 0) 0 a es.size ep)).get? s.heap.objs.size=some (pA (.int 0 0) 0 a es.size ep):=get?_push_size _ rfl
  have off:S∉[s.heap.objs.size,a]:=λz=>by
   rcases mem_cons.mp z with z|z
   ·exact old hS (aav _) z
   ·exact Z1 (mem_singleton.mp z)
  have hne:a≠s.heap.objs.size:=old ho (aav _)
  cases hb:w.params.followText "set-order" with
  |true =>
   refine ZX (s:={ s with heap:=_ }) (zPv hi hne hd hf hb) hz off ⟨o,ho',hx.1⟩ ⟨ho',0,0,hI⟩ hS' λh' tk acc c' k h2 h3=>?_
   refine hR h' tk s.drawn acc c' (λb u n e=>k b u n (old e (aav _)) (get?_push_of_some _ e)) h2 ?_
   rw[Z0 h3 (by rw[length_map,(QB _ es).length_eq,length_toList])]
   exact(QB _ es).map _
  |false =>
   have hl:t.led=true:=by rw[tb.led];unfold yF;rw[hb];rfl
   have hn:(!t.plain&&decide (es.size > 1))=false:=by rw[hb] at hc;exact hc
   have hr:Rz t.place:=by
    cases hp:t.plain with
    |true=>exact tb.rz hp
    |false =>
     rw[hp] at hn
     refine zUa ?_
     rw[ZW hf]
     have:¬es.size > 1:=of_decide_eq_false (by simpa using hn)
     omega
   refine ZX (s:={ s with heap:=_ }) (zN2 hi hne hd hf hb hl hn hr) hz off ⟨o,ho',hx.1⟩ ⟨ho',0,0,hI,zPr hr⟩ hS' λh' tk acc c' k h2 h3=>?_
   refine hR h' tk s.drawn acc c' (λb u n e=>k b u n (old e (aav _)) (get?_push_of_some _ e)) h2 ?_
   rw[Z0 h3 (by rw[length_map,length_toList])]
 ·have e0:∀{b:Addr}{u:Obj},s.heap.get? b=some u->((s.heap.push { cls:=.type "tuple",data:=.seq (ps.map λ(i:Nat)=>acf i 0).toArray }).push (pA (.ref s.heap.objs.size) 0 a es.size ep)).get? b=some u:=λe=>get?_push_of_some _ (get?_push_of_some _ e)
  have sz:(s.heap.push ({ cls:=.type "tuple",data:=.seq (ps.map λ(i:Nat)=>acf i 0).toArray }:Obj)).objs.size=s.heap.objs.size+1:=size_push ..
  have hI:((s.heap.push { cls:=.type "tuple",data:=.seq (ps.map λ(i:Nat)=>acf i 0).toArray }).push (pA (.ref s.heap.objs.size) 0 a es.size ep)).get? (s.heap.objs.size+1)=some (pA (.ref s.heap.objs.size) 0 a es.size ep):=by
   rw[<-sz];exact get?_push_size _ rfl
  have hTT:((s.heap.push { cls:=.type "tuple",data:=.seq (ps.map λ(i:Nat)=>acf i 0).toArray }).push (pA (.ref s.heap.objs.size) 0 a es.size ep)).get? s.heap.objs.size=some { cls:=.type "tuple",data:=.seq (ps.map λ(i:Nat)=>acf i 0).toArray }:=get?_push_of_some _ (get?_push_size _ rfl)
  have off:S∉[s.heap.objs.size+1,a,s.heap.objs.size]:=λz=>by
   rcases mem_cons.mp z with z|z
   ·exact old hS (ace _) z
   ·rcases mem_cons.mp z with z|z
    ·exact Z1 z
    ·exact old hS (aav _) (mem_singleton.mp z)
  refine ZX (s:={ s with drawn:=d,heap:=_ }) (zN3 hi (old ho (ace _)) (aa0 (ac2 _)) hd hf hp) hz off ⟨o,e0 ho,hx.1⟩ ⟨e0 ho,hTT,hI⟩ (e0 hS) λh' tk acc c' k h2 h3=>?_
  refine hR h' tk d acc c' (λb u n e=>k b u n (old e (ace _)) (e0 e)) h2 ?_
  rw[Z0 h3 (by rw[length_map,hp.length_eq,length_range])]
  have e1:=zOp es
  rw[<-e1]
  exact hp.map _
theorem zMb{R:List Value->Shared->Prop}(hh:A.handled=none)(ho:s.heap.get? a=some o)(hx:o.ExactSet)(hd:o.data=.set es ep t)(hf:t.fits es.size=true)(tb:Tb (yF w) t)(hz:es.size<=sizeLine)(h:∀h' tk d (acc:List Value),(∀b u,s.heap.get? b=some u->h'.get? b=some u)->acc.Perm (es.toList.map (·.2))->R acc { s with heap:=h',toks:=tk,drawn:=d }) :
  wpAny (model prog w) A (collect (.ref a)) R E s:=by
 have lt:a<s.heap.objs.size:=lt_size ho
 unfold collect
 refine aar (wpAny_runValue (acy entry_proto_collect' ?_))
 rw[ab9 F.plain_proto_collect _]
 refine aar (m:=newList []) (ac9 (aat ⟨adl F.plain_list_iadd _,acy entry_list_iadd' ?_⟩))
 rw[ab9 F.plain_list_iadd _]
 have hS:(s.heap.push { cls:=.type "list",data:=.seq ([]:List Value).toArray }).get? s.heap.objs.size=some { cls:=.type "list",data:=.seq #[] }:=get?_push_size _ rfl
 have key:=zPh (prog:=prog) (A:=A) (S:=s.heap.objs.size) (res:=.ref s.heap.objs.size) (s:={ s with heap:=s.heap.push { cls:=.type "list",data:=.seq ([]:List Value).toArray } })
  (R:=λ(q:Result) (s':Shared)=>∃(h':Heap)(tk:Nat)(d:Drawn)(acc:Array Value)(c':Nat),q=.ok (.ret (.ref s.heap.objs.size))/\s'={ s with heap:=h',toks:=tk,drawn:=d }/\(∀b u,s.heap.get? b=some u->h'.get? b=some u) /\
   h'.get? s.heap.objs.size=some { cls:=.type "list",dict:=none,data:=.seq acc c',slots:=#[] }/\acc.toList.Perm (es.toList.map (·.2)))
  hh (get?_push_of_some _ ho) hx hd hf tb hz (adu lt) hS λh' tk d acc c' k h1 h2=>⟨h',tk,d,acc,c',rfl,rfl,λb u e=>k b u (aa0 (lt_size e)) (get?_push_of_some _ e),h1,h2⟩
 refine acn key (λfin s' x=>?_) λe s' x=>?_
 ·cases fin with
  |done f =>
   obtain⟨h',tk,d,acc,c',e,rfl,k,h1,h2⟩:=x
   cases e
   refine aar (m:=load s.heap.objs.size) (wpAny_load h1 ?_)
   exact aat (h h' tk d acc.toList k h2)
  |again c1 =>
   refine⟨x.1,adw x.2 λq s2 y=>?_⟩
   obtain⟨h',tk,d,acc,c',rfl,rfl,k,h1,h2⟩:=y
   refine aar (m:=load s.heap.objs.size) (wpAny_load h1 ?_)
   exact aat (h h' tk d acc.toList k h2)
 ·obtain⟨_,_,_,_,_,e',_⟩:=x
  cases e'
end
end rH
namespace L2
open PySem PySem.Spec PyProof.Rows rH
def rJ:Value->Int
 |.int k _=>k
 |_=>0
theorem Z2:∀k v,(intKind P w).is k v=true->rJ v=k:=λk v h=>by
 obtain⟨t,rfl⟩:=ado h
 rfl
theorem Inv.drew(I:Inv X pins σ H s)(d:Drawn):Inv X pins σ H { s with drawn:=d }:=⟨I.ok,I.os,I.bare,I.base,I.loc,I.cell,I.free,I.ig,I.pin,I.hok,I.len⟩
abbrev Nt:=St->Hp->(LI->Hp->Prop)->Prop
def StP(X:Cx)(pins:List (Addr×Obj))(σ:St)(Q:LI->Hp->Prop)(v:Value)(s':Shared):Prop :=
 ∃(a:Addr)(ks:LI)(H':Hp),v=.ref a/\Inv X pins σ H' s'/\Good (intKind X.prog X.w) rJ (yF X.w) s'.heap a ks/\lZ X pins H' a/\Q ks H'
def JW(X:Cx)(e:Expr)(t:Nt):Prop:=∀(pins:List (Addr×Obj))(s:Shared)(σ:St)(H:Hp)(Q:LI->Hp->Prop),Inv X pins σ H s->t σ H Q->wpAny (model X.prog X.w) X.A (eval e X.env) (StP X pins σ Q) X.xe s
section
variable{X:Cx}
theorem zWz:∀{ns:LI}{its:List Value},IntsAre its ns->∀{i:Nat}{v:Value},its[i]?=some v->∃t,v=.int (ns.getD i 0) t
 |_,_,.nil,i,v,h=>by simp at h
 |_,_,.cons n t r,0,v,h=>by simp at h;subst h;exact⟨t,rfl⟩
 |_,_,.cons n t r,i+1,v,h=>by
  obtain⟨t',e⟩:=zWz r (by simpa using h)
  exact⟨t',e⟩
theorem zS6:∀{ns:LI}{its:List Value},IntsAre its ns->its.length=ns.length
 |_,_,.nil=>rfl
 |_,_,.cons n t r=>congrArg (· + 1) (zS6 r)
def QD(K:PySem.W.Frag)(te:TE):Nt:=λσ H Q=>xS te bJ σ H λvs H1=>∃(p:Addr)(ns:LI),vs=[.ref p]/\bx K H1 p (ns.map V.int)/\ns.length<4000/\∀ks:LI,ks.Nodup->(∀z,z∈ks↔z∈ns)->Q ks H1
theorem Nu:bootBuiltins "set" = some (.type "set"):=by decide +kernel
theorem Ue(K:PySem.W.Frag)(hc:X.calm=true)(hm:X.mg "set" = none)(he:PE X e te)(hK:X.K=K:=by rfl)(hg:Gl X "set":=by rfl)(hs:starEach [e] X.env=[(false,eval e X.env)]:=by rfl):JW X (.Call (.Name "set" p) [e] [] pos) (QD K te):=by
 subst hK
 intro pins s σ H Q I h
 refine abt (A_ I hg hm Nu ?_)
 have ha:PA X [e] (xS te bJ):=zA he zI hs
 refine abl (aM (ha pos pins s σ H _ I h) λus s1 ⟨vs,H1,I1,r1,q1⟩=>?_) hs rfl
 obtain⟨l,ns,e1,hq,h4,q⟩:=q1
 subst e1
 cases r1 with
 |cons r rr =>
  cases rr
  cases r
  obtain⟨its,rv,pl,hz⟩:=I1.list hq
  have hi:IntsAre its ns:=WD rv
  have hl:=zS6 hi
  refine zVs (knd:=intKind X.prog X.w) (dec:=rJ) Z2 (λi=>ns.getD i 0) (I1.ok.hd hc) pl.isList (λi v hv=>?_) (by rw[size_toArray,hl];show ns.length+1<4096;omega) λh' tk g k=>?_
  ·obtain⟨t,rfl⟩:=zWz hi (by rw[getElem?_toArray] at hv;exact hv)
   exact⟨intKind_is _ _ _ _,rfl⟩
  ·have I2:=I1.kept (h':=h') (t':=tk) λb o e=>k b o (lt_size e) e
   obtain⟨_,_,_,_,_,_,_,_,_,nd,_⟩:=id g
   refine⟨_,_,H1,rfl,I2,g,I1.mL (aav _) (I1.hok.fresh (aav _)),q _ nd λz=>?_⟩
   rw[zRp,size_toArray,hl]
   constructor
   ·rintro⟨j,hj,rfl⟩
    rw[getD_eq_getElem?_getD,aas hj]
    exact getElem_mem hj
   ·intro hz
    obtain⟨j,hj,e⟩:=getElem_of_mem hz
    exact⟨j,hj,by rw[getD_eq_getElem?_getD,aas hj];exact e⟩
def W5(ts:Nt):TE:=λσ H Q=>ts σ H λks H1=>ks.length<64/\∀(l:Addr)(ms:LI),H1 l=none->ms.Perm ks->ms.Pairwise (· <= ·)->Q (.ref l) (upd H1 l (.lst (ms.map V.int)))
theorem zNd:∀{vs:List Value},(∀v∈vs,∃k,(intKind P w).is k v=true)->IntsAre vs (vs.map rJ)
 |[],_=>.nil
 |v::vs,h=>by
  obtain⟨k,hk⟩:=h v mem_cons_self
  obtain⟨t,rfl⟩:=ado hk
  exact .cons k t (zNd (P:=P) (w:=w) λu hu=>h u (mem_cons_of_mem _ hu))
theorem zT1(hc:X.calm=true)(I:Inv X pins σ H s)(g:Good (intKind X.prog X.w) rJ (yF X.w) s.heap a ks)(h64:ks.length<64)(q:∀(l:Addr) (ms:LI),H l=none->ms.Perm ks->ms.Pairwise (· <= ·)->Q (.ref l) (upd H l (.lst (ms.map V.int)))):wpAny (model X.prog X.w) X.A (call (.builtin "sorted") [.ref a]) (EP X pins σ Q) X.xe s:=by
 obtain⟨o,es,ep,t,ho,hx,hd,hel,hp,nd,hb,hf,tb⟩:=g
 have hsz:es.size=ks.length:=by rw[<-hp.length_eq,length_map,length_toList]
 refine PySem.Calls.call_function_entry kind_sorted plain_sorted entry_sorted (args_sorted1 _) ?_
 unfold Builtin.«sorted»
 refine aar (m:=checkCount "sorted" 1 1 _) (aat ?_)
 refine aar (zMb (A:=X.A.in1) (I.ok.hd hc) ho hx hd hf tb (acq hb) λh' tk d acc hkeep hacc=>?_)
 have I':Inv X pins σ H { s with heap:=h',toks:=tk,drawn:=d }:=(I.kept (h':=h') (t':=tk) hkeep).drew d
 have hI:IntsAre acc (acc.map rJ):=zNd (P:=X.prog) (w:=X.w) λv hv=>by
  obtain⟨e,he,rfl⟩:=mem_map.mp (hacc.mem_iff.mp hv)
  obtain⟨⟨k,hk,_⟩,_⟩:=hel e he
  exact⟨k,hk⟩
 have hpk:(acc.map rJ).Perm ks:=by
  refine(hacc.map rJ).trans ?_
  rw[map_map]
  exact hp
 have hal:acc.length=ks.length:=by rw[<-hpk.length_eq,length_map]
 have hsl:acc.length<=sizeLine:=by rw[hal];exact aco (adt h64 (by decide))
 refine aar (wpAny_newList ?_ hsl)
 have hoL:(h'.push (seqObj "list" acc.toArray 0)).get? h'.objs.size=some (seqObj "list" acc.toArray 0):=get?_push_size _ rfl
 refine aar (abo (acj slot_list_sort ⟨_,hoL,rfl⟩ entry_list_sort (list_sort_tree hoL hI (by omega) λout ns' a1 a2 a3=>⟨_,rfl,?_⟩) (args_list_sort _)))
 refine aat ⟨_,rfl,?_⟩
 obtain⟨e,he⟩:=sortedHeap_at (out:=out) hoL
 refine⟨.ref h'.objs.size,_,I'.laid (t':=tk) (o:=.lst (ns'.map V.int)) (λb ob w=>?_) (aav _) ?_,rfl,q _ ns' (I'.hok.fresh (aav _)) (a2.trans hpk) a3⟩
 ·have hb:h'.get? b=some ob:=w
  have hlt:=lt_size hb
  rw[sortedHeap_old (aa0 hlt) (by rw[size_push'];exact adn hlt),Heap.get?_push_ne _ _ _ (aa0 hlt)]
  exact hb
 ·refine⟨?_,out.toList,e,WK a1,?_⟩
  ·rw[length_map,a2.length_eq,length_map];exact hsl
  ·rw[toArray_toList];exact he
theorem Z4(hc:X.calm=true)(hm:X.mg "sorted" = none)(he:JW X e ts)(hg:Gl X "sorted":=by rfl)(hs:starEach [e] X.env=[(false,eval e X.env)]:=by rfl):PE X (.Call (.Name "sorted" p) [e] [] pos) (W5 ts):=by
 intro pins s σ H Q I h
 refine abt (A_ I hg hm (by decide +kernel:bootBuiltins "sorted" = some (.builtin "sorted")) ?_)
 refine PyProof.Rows.callWith_builtin1 (Q:=_) ?_ hs rfl
 rw[hs]
 show wpAny _ _ (spliced ((false,eval e X.env)::backTo pos [])) _ _ s
 refine ad5 (aM (he pins s σ H _ I h) λu s1 ⟨a,ks,H1,e1,I1,g,fo,h64,q⟩=>?_)
 subst e1
 refine aec ?_
 exact zT1 hc I1 g h64 q
end
end L2
namespace Ts
open PySem L2
def ql(z:Int):LI->LI
 |[]=>[z]
 |y::ys=>if z<y then z::y::ys else if z=y then y::ys else y::ql z ys
def uT(ns:LI):LI:=ns.foldr ql []
def QF(ns:LI):Option LI:=if ns.length<64 then some (uT ns) else none
theorem mU:∀{ys:LI},x∈ql z ys↔x=z\/x∈ys
 |[]=>by simp[ql]
 |y::ys=>by
  unfold ql
  split
  ·simp
  ·split
   ·rename_i h;subst h;simp
   ·rw[mem_cons,mU,mem_cons]
    exact⟨λh=>h.elim (λh=>.inr (.inl h)) λh=>h.elim .inl λh=>.inr (.inr h),λh=>h.elim (λh=>.inr (.inl h)) λh=>h.elim .inl λh=>.inr (.inr h)⟩
theorem zR6:∀{ys:LI},ys.Pairwise (· < ·)->(ql z ys).Pairwise (· < ·)
 |[],_=>by simp[ql]
 |y::ys,h=>by
  have h1:=pairwise_cons.mp h
  unfold ql
  split
  ·rename_i hz
   refine pairwise_cons.mpr ⟨λx hx=>?_,h⟩
   rcases mem_cons.mp hx with e|e
   ·rw[e];exact hz
   ·exact Int.lt_trans hz (h1.1 x e)
  ·split
   ·exact h
   ·refine pairwise_cons.mpr ⟨λx hx=>?_,zR6 h1.2⟩
    rcases mU.mp hx with e|e
    ·rw[e];omega
    ·exact h1.1 x e
theorem cX:∀{ns:LI},x∈uT ns↔x∈ns
 |[]=>by simp[uT]
 |n::ns=>by
  show x∈ql n (uT ns)↔_
  rw[mU,cX,mem_cons]
theorem QG:∀ns:LI,(uT ns).Pairwise (· < ·)
 |[]=>.nil
 |n::ns=>zR6 (QG ns)
theorem QH:∀{xs ys:LI},xs.Pairwise (· < ·)->ys.Pairwise (· < ·)->(∀s,s∈xs↔s∈ys)->xs=ys
 |[],[],_,_,_=>rfl
 |[],y::ys,_,_,h=>absurd ((h y).mpr mem_cons_self) (by simp)
 |x::xs,[],_,_,h=>absurd ((h x).mp mem_cons_self) (by simp)
 |x::xs,y::ys,hx,hy,h=>by
  have h1:=pairwise_cons.mp hx
  have h2:=pairwise_cons.mp hy
  have e:x=y:=by
   rcases mem_cons.mp ((h x).mp mem_cons_self) with e|e
   ·exact e
   ·rcases mem_cons.mp ((h y).mpr mem_cons_self) with e'|e'
    ·exact e'.symm
    ·have a1:=h2.1 x e
     have a2:=h1.1 y e'
     omega
  subst e
  rw[QH h1.2 h2.2 λs=>?_]
  constructor
  ·intro hs
   rcases mem_cons.mp ((h s).mp (mem_cons_of_mem _ hs)) with e|e
   ·have:=h1.1 s hs;omega
   ·exact e
  ·intro hs
   rcases mem_cons.mp ((h s).mpr (mem_cons_of_mem _ hs)) with e|e
   ·have:=h2.1 s hs;omega
   ·exact e
theorem QJ:∀{ks ns:LI},ks.Nodup->(∀z∈ks,z∈ns)->ks.length<=ns.length
 |[],_,_,_=>abk _
 |k::ks,ns,nd,h=>by
  obtain⟨a,b,e⟩:=List.append_of_mem (h k mem_cons_self)
  have nd':=nodup_cons.mp nd
  have q:=QJ (ks:=ks) (ns:=a++b) nd'.2 λz hz=>by
   have hm:=h z (mem_cons_of_mem _ hz)
   rw[e] at hm
   rcases mem_append.mp hm with m|m
   ·exact mem_append.mpr (.inl m)
   ·rcases mem_cons.mp m with m|m
    ·exact absurd (m▸hz) nd'.1
    ·exact mem_append.mpr (.inr m)
  rw[e,length_append,length_cons,length_cons]
  rw[length_append] at q
  omega
theorem Ug:∀{ms:LI},ms.Pairwise (· <= ·)->ms.Nodup->ms.Pairwise (· < ·)
 |[],_,_=>.nil
 |m::ms,h,nd=>by
  have h1:=pairwise_cons.mp h
  have n1:=nodup_cons.mp nd
  refine pairwise_cons.mpr ⟨λx hx=>?_,Ug h1.2 n1.2⟩
  have a:=h1.1 x hx
  have b:m≠x:=λe=>n1.1 (e▸hx)
  omega
section
variable{K:PySem.W.Frag}{B:Bs}{sl:SL K}{md:Md}{t:TE}
theorem zPm(h:Ex B sl .hp t m):Eo B sl md (W5 (QD K t)) (m.bind QF):=λc hc F O H σ Q s k=>by
 cases m with
 |none=>cases hc
 |some ns =>
  have hc:QF ns=some c:=hc
  unfold QF at hc
  split at hc
  case isFalse=>cases hc
  rename_i hl
  cases hc
  refine h ns rfl F O H σ _ s λv F' H' g r1=>?_
  obtain⟨p,vs,rfl,z1,z2⟩:=r1
  have z3:vs=ns.map V.int:=z2.vals
  subst z3
  refine⟨p,ns,rfl,bx.of z1,by omega,λks nd hm=>⟨aa5 (QJ nd λz hz=>(hm z).mp hz) hl,λl ms hn p1 p2=>?_⟩⟩
  have e:ms=uT ns:=QH (Ug p2 (p1.nodup_iff.mpr nd)) (QG ns) λz=>by rw[p1.mem_iff,hm,cX]
  subst e
  exact k l _ F' H' g hn (JD _)
end
end Ts
namespace rH
open PySem PySem.Spec PyProof.Rows
set_option maxRecDepth 100000
theorem zHz:entryFor table "set.__and__" = some Builtin.«frozenset.__and__»:=aeo (id':="frozenset.__and__") (by kernel_rfl) rfl (by decide +kernel) (by kernel_rfl)
section
variable{prog:Program}{w:World}{κ:Type}[DecidableEq κ]{knd:KeyKind prog w κ}{dec:Value->κ}{led:Bool}{A:Around}{E:Value->Shared->Prop}{s:Shared}
theorem Good.setOf(hdec:∀k v,knd.is k v=true->dec v=k)(g:Good knd dec led h a ks):h.SetOf knd a (λk=>decide (k∈ks)) ks.length:=by
 obtain⟨o,es,ep,t,h1,h2,h3,hel,hp,nd,hb,hf,tb⟩:=g
 refine⟨o,es,ep,t,h1,h2,h3,hel,λk=>?_,hb,hf,by rw[<-hp.length_eq,length_map,length_toList]⟩
 rw[decide_eq_true_iff,<-hp.mem_iff,mem_map]
 constructor
 ·rintro⟨e,he,rfl⟩
  obtain⟨⟨k',hk,_⟩,_⟩:=hel e he
  exact⟨e,he,by rw[hdec k' _ hk];exact hk⟩
 ·rintro⟨e,he,hk⟩
  exact⟨e,he,hdec _ _ hk⟩
theorem Good.size(g:Good knd dec led h a ks):∃o es ep t,h.get? a=some o/\o.ExactSet/\o.data=.set es ep t/\t.fits es.size=true/\es.size=ks.length/\Tb led t/\ElemsOf knd es.toList/\(es.toList.map λe=>dec e.2).Perm ks:=by
 obtain⟨o,es,ep,t,h1,h2,h3,hel,hp,nd,hb,hf,tb⟩:=g
 exact⟨o,es,ep,t,h1,h2,h3,hf,by rw[<-hp.length_eq,length_map,length_toList],tb,hel,hp⟩
theorem Good.type{s:Shared}(g:Good knd dec led s.heap a ks):s.TypeIs (.ref a) "set":=by
 obtain⟨o,_,_,_,h1,h2,_⟩:=g
 exact⟨o,h1,h2.1⟩
theorem Nv{Q:Bool->Shared->Prop}(hT:s.TypeIs (.ref a) "set")(h:Q true s):wpAny (model prog w) A (Builtin.Frozenset.isAnySet (.ref a)) Q E s:=by
 unfold Builtin.Frozenset.isAnySet
 refine aar (adz (T:="set") (b:=true) hT ae3 ?_)
 exact aat h
theorem QK{Q:Nat->Shared->Prop}(g:Good knd dec led s.heap a ks)(h:Q ks.length s):wpAny (model prog w) A (ad2 a) Q E s:=by
 obtain⟨o,es,ep,t,h1,h2,h3,hf,hl,_⟩:=g.size
 unfold ad2
 refine aar (W2 h1 h3 hf (aat ?_))
 rw[hl]
 exact h
theorem zM0(sets:List Addr)(hs:∀a∈sets,∃ks:List κ,Good knd dec led s.heap a ks)(hn:∀k v,knd.is k v=true->∀b,v≠.ref b){Q:Bool->Shared->Prop}(h:Q true s):wpAny (model prog w) A (setsQuiet sets) Q E s:=by
 unfold setsQuiet
 refine aar (acn (ady (β:=Option Bool×Unit) _ (λl b s'=>s'=s/\b=(none,())/\∀a∈l,∃ks:List κ,Good knd dec led s.heap a ks) (λb s'=>s'=s/\b=(none,())) ?turn (λb s' hI=>⟨hI.1,hI.2.1⟩) sets _ ⟨rfl,rfl,hs⟩) ?post (λ_ _ h=>h))
 case post =>
  rintro b s' ⟨rfl,rfl⟩
  exact aat h
 case turn =>
  rintro a rest b s' ⟨rfl,rfl,hg⟩
  obtain⟨ks,g⟩:=hg a mem_cons_self
  obtain⟨o,es,ep,t,h1,h2,h3,hf,hl,tb,hel,hp⟩:=g.size
  refine aar (W2 h1 h3 hf ?_)
  rw[<-forIn_toList]
  refine aar (acn (ady (β:=Option Bool×Unit) _ (λl b s''=>s''=s'/\b=(none,())/\∀e∈l,∀c,e.2≠.ref c) (λb s''=>s''=s'/\b=(none,())) ?t2 (λb s' hI=>⟨hI.1,hI.2.1⟩) es.toList _ ⟨rfl,rfl,?p0⟩) ?p2 (λ_ _ h=>h))
  case p0 =>
   intro e he c z
   obtain⟨⟨k,hk,_⟩,_⟩:=hel e he
   exact hn k _ hk c z
  case p2 =>
   rintro b s'' ⟨rfl,rfl⟩
   exact aat ⟨rfl,rfl,λa ha=>hg a (mem_cons_of_mem _ ha)⟩
  case t2 =>
   rintro⟨hh,x⟩ l b s'' ⟨rfl,rfl,hl⟩
   have hx:=hl _ mem_cons_self
   dsimp only at hx ⊢
   split
   ·exact absurd rfl (hx _)
   ·exact aat ⟨rfl,rfl,λe he=>hl e (mem_cons_of_mem _ he)⟩
theorem zPw(g:Good knd dec (yF w) s.heap a ks)(hq:w.params.followText "set-order" = false->∀o es ep t,s.heap.get? a=some o->o.data=.set es ep t->(!t.plain&&decide (es.size > 1))=false){Q:Array (Int×Value)->Shared->Prop}(h:∀es:Array (Int×Value),ElemsOf knd es.toList->(es.toList.map λe=>dec e.2).Perm ks->Q es s):wpAny (model prog w) A (setWalk a) Q E s:=by
 obtain⟨o,es,ep,t,h1,h2,h3,hf,hl,tb,hel,hp⟩:=g.size
 unfold setWalk
 refine aar (abd h1 h3 hf ?_)
 dsimp only
 refine aar (Nr ?_)
 cases hb:w.params.followText "set-order" with
 |true =>
  simp only[↓reduceIte]
  refine aar (adx (aat ?_))
  exact h _ (hel.perm (QB _ es)) (((QB _ es).map _).trans hp)
 |false =>
  have q:=hq hb o es ep t h1 h3
  have Z5:t.led=true:=by rw[tb.led];unfold yF;rw[hb];rfl
  simp only[aa1,↓reduceIte]
  show wpAny _ _ (if(!t.plain&&decide (es.size > 1))=true then _ else _) _ _ _
  rw[if_neg (by rw[q];exact aau)]
  refine aar ?_
  show wpAny _ _ (if(!t.led&&decide (es.size > 1))=true then _ else pure ()) _ _ _
  rw[if_neg (by rw[Z5];exact aau)]
  exact aat (aat (h es hel hp))
theorem zI4(g:Good knd dec (yF w) s.heap a ks)(gf:Good knd dec (yF w) s.heap f kf)(hs:∀b∈others,∃ks:List κ,Good knd dec (yF w) s.heap b ks)(hn:∀k v,knd.is k v=true->∀b,v≠.ref b){Q:Array (Int×Value)->Shared->Prop}(h:∀(es:Array (Int×Value)) (h':Heap),ElemsOf knd es.toList->(es.toList.map λe=>dec e.2).Perm ks->SameBut f s.heap h'->Good knd dec (yF w) h' f kf->Q es { s with heap:=h' }):wpAny (model prog w) A (setWalkUnseen a others (some f)) Q E s:=by
 obtain⟨o,es,ep,t,h1,h2,h3,hf,hl,tb,hel,hp⟩:=g.size
 unfold setWalkUnseen
 refine aar (abd h1 h3 hf ?_)
 dsimp only
 refine aar (Nr ?_)
 split
 ·rename_i c
  refine zPw g (λhb o' es' ep' t' h1' h3'=>?_) λes' qm hp'=>h es' s.heap qm hp' (SameBut.refl f s.heap) gf
  rw[h1] at h1'
  cases h1'
  rw[h3] at h3'
  cases h3'
  rw[hb] at c
  simp only[aef,acs,aaz,decide_eq_true_eq] at c
  rcases c with⟨_,c⟩|c
  ·rw[c];rfl
  ·rw[decide_eq_false (by omega),ae6]
 ·refine aar (zM0 (knd:=knd) (dec:=dec) (led:=yF w) (a::others) (λb hb=>(mem_cons.mp hb).elim (λe=>e▸⟨ks,g⟩) (hs b)) hn ?_)
  simp only[ab4,aa1,↓reduceIte]
  refine aar (ad7 ?_)
  obtain⟨of,ef,epf,tf,f1,f2,f3,ff,fl,tbf,Z6,fp⟩:=gf.size
  refine aar (abd f1 f3 ff ?_)
  dsimp only
  split
  ·have gl:=gf.len
   refine aar (acr f1 f3 ?_ (acq (by rw[fl];exact gl)))
   obtain⟨_,_,_,_,e1,_,_,_,_,nd,hb,_,_⟩:=gf
   refine aat (h es _ hel hp (SameBut.update _ f _) ⟨_,ef,_,_,JV (es':=ef) (t':=_) f1 f3,f2,rfl,Z6,fp,nd,?_,?_,?_⟩)
   ·rw[fl];exact gl
   ·exact ff
   ·refine⟨?_,λz=>?_⟩
    ·show(tf.led&&t.led)=_
     rw[tbf.led,tb.led,afb]
    ·exact tbf.rz (Bool.and_eq_true_iff.mp z).1
  ·exact aat (h es s.heap hel hp (SameBut.refl f s.heap) gf)
theorem zG1(hdec:∀k v,knd.is k v=true->dec v=k)(id:String)(hn:∀k v,knd.is k v=true->∀b,v≠.ref b)(Z7:x≠r)(W6:y≠r)(gx:Good knd dec (yF w) s.heap x ka)(gy:Good knd dec (yF w) s.heap y ky)(gr:Good knd dec (yF w) s.heap r []){Q:Unit->Shared->Prop}(h:∀(h':Heap) (kr:List κ),SameBut r s.heap h'->Good knd dec (yF w) h' r kr->(∀k,k∈kr↔k∈ka/\k∈ky)->Q () { s with heap:=h' }) :
  wpAny (model prog w) A (do
   let was <-setEpoch y
   for (h,x') in <-setWalkUnseen y [x,r] (some r) do
    holding [x'] do
     if(<-setFind x x' h).isSome then
      let _ <-setAddHashed r x' h
    abu id y was) Q E s:=by
 obtain⟨o,es,ep,t,h1,h2,h3,hf,hl,tb,hel,hp⟩:=gy.size
 refine aar (ach h1 h3 hf ?_)
 refine aar (zI4 gy gr (λb hb=>(mem_cons.mp hb).elim (λe=>e▸⟨ka,gx⟩) λe=>(mem_singleton.mp e)▸⟨[],gr⟩) hn λes' h' qm hp' sb Z8=>?_)
 rw[<-forIn_toList]
 have ln:es'.toList.length=ky.length:=by rw[<-hp'.length_eq,length_map]
 refine aar (acn (ady (β:=Unit) _ (λl _ s'=>∃h2 kr,s'={ s with heap:=h2 }/\SameBut r s.heap h2/\Good knd dec (yF w) h2 r kr/\ElemsOf knd l/\kr.length+l.length<=ky.length/\∀k,(k∈kr\/(k∈ka/\k∈l.map λe=>dec e.2))↔(k∈ka/\k∈ky)) (λ_ s'=>∃h2 kr,s'={ s with heap:=h2 }/\SameBut r s.heap h2/\Good knd dec (yF w) h2 r kr/\∀k,k∈kr↔k∈ka/\k∈ky) ?turn ?fin es'.toList () ⟨h',[],rfl,sb,Z8,qm,by rw[ln,length_nil];omega,λk=>?_⟩) ?post (λ_ _ h=>h))
 case turn =>
  rintro⟨hs,v⟩ l b s' ⟨h2,kr,rfl,mV,g2,hl2,hlen,hm⟩
  obtain⟨⟨k,hk,hh⟩,hsc⟩:=hl2 _ mem_cons_self
  dsimp only at hk hh hsc ⊢
  subst hh
  have kx:∀o,s.heap.get? x=some o->h2.get? x=some o:=λo e=>by rw[mV.2 x Z7];exact e
  have ky':∀o,s.heap.get? y=some o->h2.get? y=some o:=λo e=>by rw[mV.2 y W6];exact e
  have Z9:=gx.keep kx
  have dv:dec v=k:=hdec k v hk
  rw[length_cons] at hlen
  have cont:∀(h3':Heap)(Cw:List κ),SameBut r s.heap h3'->Good knd dec (yF w) h3' r Cw->Cw.length+l.length<=ky.length->(∀c,(c∈Cw\/(c∈ka/\c∈l.map λe=>dec e.2))↔(c∈ka/\c∈ky)) ->
    wpAny (model prog w) A (abu id y ep) (λ_ s''=>wpAny (model prog w) A (pure (acu ())) (λq s''=>match q with|.yield _=>∃h2 kr,s''={ s with heap:=h2 }/\SameBut r s.heap h2/\Good knd dec (yF w) h2 r kr/\ElemsOf knd l/\kr.length+l.length<=ky.length/\∀k,(k∈kr\/(k∈ka/\k∈l.map λe=>dec e.2))↔(k∈ka/\k∈ky)|.done _=>∃h2 kr,s''={ s with heap:=h2 }/\SameBut r s.heap h2/\Good knd dec (yF w) h2 r kr/\∀k,k∈kr↔k∈ka/\k∈ky) E s'') E { s with heap:=h3' }:=λh3' Cw wg g3 l3 m3=>by
   unfold abu
   refine aar (ach (s:={ s with heap:=h3' }) (by show h3'.get? y=_;rw[wg.2 y W6];exact h1) h3 hf ?_)
   simp only[bne_self_eq_false,aa1,↓reduceIte]
   exact aat (aat ⟨h3',Cw,rfl,wg,g3,λe he=>hl2 e (mem_cons_of_mem _ he),l3,m3⟩)
  refine aar (abo (aar (wpAny_setFind_of (s:={ s with heap:=h2 }) hk hsc (Z9.setOf hdec) λq hq=>?_)))
  cases q with
  |none =>
   have nk:k∉ka:=by simpa using hq.symm
   simp only[Option.isSome_none,aa1,↓reduceIte]
   refine aat (aar (cont h2 kr mV g2 (by omega) λc=>?_))
   rw[<-hm c,map_cons,mem_cons]
   show _↔(c∈kr\/c∈ka/\(c=dec v\/_))
   rw[dv]
   constructor
   ·rintro(z|⟨z1,z2⟩)
    ·exact .inl z
    ·exact .inr ⟨z1,.inr z2⟩
   ·rintro(z|⟨z1,z2|z2⟩)
    ·exact .inl z
    ·exact absurd (z2▸z1) nk
    ·exact .inr ⟨z1,z2⟩
  |some j =>
   have mk:k∈ka:=by simpa using hq.symm
   simp only[ad6,↓reduceIte]
   refine aar (ZS (led:=yF w) (s:={ s with heap:=h2 }) hdec hk hsc g2 (by have:=gy.len;omega) λh3' b' wg g3=>?_)
   refine aat (aar (cont h3' _ (mV.trans wg) g3 ?_ λc=>?_))
   ·split
    ·omega
    ·rw[length_cons];omega
   ·rw[<-hm c,map_cons,mem_cons]
    show _↔(c∈kr\/c∈ka/\(c=dec v\/_))
    rw[dv]
    have e:c∈(if k∈kr then kr else k::kr)↔c=k\/c∈kr:=by
     split
     ·rename_i z
      exact⟨.inr,λq=>q.elim (λq=>q▸z) λq=>q⟩
     ·exact mem_cons
    rw[e]
    constructor
    ·rintro((z|z)|⟨z1,z2⟩)
     ·exact .inr ⟨z▸mk,.inl z⟩
     ·exact .inl z
     ·exact .inr ⟨z1,.inr z2⟩
    ·rintro(z|⟨z1,z2|z2⟩)
     ·exact .inl (.inr z)
     ·exact .inl (.inl z2)
     ·exact .inr ⟨z1,z2⟩
 case fin =>
  rintro b s' ⟨h2,kr,rfl,mV,g2,_,_,hm⟩
  refine⟨h2,kr,rfl,mV,g2,λk=>?_⟩
  rw[<-hm k]
  simp
 case post =>
  rintro b s' ⟨h2,kr,rfl,mV,g2,hm⟩
  exact aat (h h2 kr mV g2 hm)
 ·rw[hp'.mem_iff]
  simp
theorem Z_(hT:s.TypeIs (.ref a) "set"){Q:Value->Shared->Prop}(h:Q (.type "set") s):wpAny (model prog w) A (Builtin.Frozenset.baseOf a) Q E s:=by
 unfold Builtin.Frozenset.baseOf
 refine aar (adz (T:="set") (b:=true) hT ae3 ?_)
 exact aat h
theorem zFi{Q:Value->Shared->Prop}(h:Q (.ref s.heap.objs.size) { s with heap:=s.heap.push { cls:=.type "set",dict:=none,data:=.set #[] 0 (.fresh 0 0 (yF w)) } }):wpAny (model prog w) A (newSet (.type "set")) Q E s:=by
 unfold newSet setsByText
 refine aar (aar (adx (aat ?_)))
 dsimp only
 simp only[newObj]
 exact aar (wpAny_alloc (aat h))
theorem zVa(hdec:∀k v,knd.is k v=true->dec v=k)(id:String)(hn:∀k v,knd.is k v=true->∀b,v≠.ref b)(hab:b≠a)(ga:Good knd dec (yF w) s.heap a ka)(gb:Good knd dec (yF w) s.heap b kb){Q:Value->Shared->Prop}(h:∀(h':Heap) (kr:List κ),Good knd dec (yF w) h' s.heap.objs.size kr->(∀k,k∈kr↔k∈ka/\k∈kb)->(∀c o,c<s.heap.objs.size->s.heap.get? c=some o->h'.get? c=some o)->Q (.ref s.heap.objs.size) { s with heap:=h' }) :
  wpAny (model prog w) A (Builtin.Frozenset.intersection id a (.ref b)) Q E s:=by
 have la:a<s.heap.objs.size:=by obtain⟨o,_,_,_,h1,_⟩:=ga;exact lt_size h1
 have lb:b<s.heap.objs.size:=by obtain⟨o,_,_,_,h1,_⟩:=gb;exact lt_size h1
 unfold Builtin.Frozenset.intersection
 rw[if_neg (λe=>hab (afd (acg e)))]
 refine aar (Z_ ga.type (aar (zFi ?_)))
 refine aar (aat ?_)
 have up:∀c o,s.heap.get? c=some o->(s.heap.push { cls:=.type "set",dict:=none,data:=.set #[] 0 (.fresh 0 0 (yF w)) }).get? c=some o:=λc o e=>get?_push_of_some _ e
 have JX:=ga.keep (up a)
 have JZ:=gb.keep (up b)
 have QL:Good knd dec (yF w) (s.heap.push { cls:=.type "set",dict:=none,data:=.set #[] 0 (.fresh 0 0 (yF w)) }) s.heap.objs.size []:=Ud (get?_push_size _ rfl)
 generalize hp:s.heap.push { cls:=.type "set",dict:=none,data:=.set #[] 0 (.fresh 0 0 (yF w)) }=hq at up JX JZ QL ⊢
 have fin:∀(h':Heap)(kr:List κ),SameBut s.heap.objs.size hq h'->Good knd dec (yF w) h' s.heap.objs.size kr->(∀k,k∈kr↔k∈ka/\k∈kb)->Q (.ref s.heap.objs.size) { s with heap:=h' }:=λh' kr sb g m =>
  h h' kr g m λc o hc e=>by rw[sb.2 c (aa0 hc)];exact up c o e
 refine aar (abo (aar (Nv (s:={ s with heap:=hq }) (Good.type (s:={ s with heap:=hq }) JZ) ?_)))
 simp only[↓reduceIte]
 refine aar (aat ?_)
 refine aar (QK (s:={ s with heap:=hq }) JZ (aar (QK (s:={ s with heap:=hq }) JX ?_)))
 split
 ·exact zG1 (s:={ s with heap:=hq }) hdec id hn (aa0 lb) (aa0 la) JZ JX QL λh' kr sb g m=>aat (fin h' kr sb g λk=>by rw[m k,and_comm])
 ·exact zG1 (s:={ s with heap:=hq }) hdec id hn (aa0 la) (aa0 lb) JX JZ QL λh' kr sb g m=>aat (fin h' kr sb g m)
theorem Nx(hdec:∀k v,knd.is k v=true->dec v=k)(hn:∀k v,knd.is k v=true->∀b,v≠.ref b)(hab:b≠a)(ga:Good knd dec (yF w) s.heap a ka)(gb:Good knd dec (yF w) s.heap b kb){Q:Value->Shared->Prop}(h:∀(h':Heap) (kr:List κ),Good knd dec (yF w) h' s.heap.objs.size kr->(∀k,k∈kr↔k∈ka/\k∈kb)->(∀c o,c<s.heap.objs.size->s.heap.get? c=some o->h'.get? c=some o)->Q (.ref s.heap.objs.size) { s with heap:=h' }) :
  wpAny (model prog w) A (binaryOp .BitAnd (.ref a) (.ref b)) Q E s:=by
 refine wpAny_binaryOp_same (op:=.BitAnd) (T:="set") ga.type gb.type F.fills_set_and F.slot_set_and (acj F.slot_set_and ga.type zHz ?_ (F.args_set_and_2 _ _))
 refine aar (m:=ade "__and__" ⟨[.ref a,.ref b],[]⟩) ?_
 unfold ade slotArgs
 refine aat ?_
 dsimp only
 refine aar (aar (Nv ga.type ?_))
 refine Nv gb.type ?_
 simp only[ab4,aa1,↓reduceIte]
 refine aar (aat (aar (zVa hdec _ hn hab ga gb λh' kr g m k=>aat ⟨.ref s.heap.objs.size,rfl,?_,h h' kr g m k⟩)))
 exactλz=>Value.noConfusion z
end
end rH
namespace L2
open PySem PySem.Spec PyProof.Rows rH
section
variable{X:Cx}
def J0(ta tb:Nt):Nt:=λσ H Q=>ta σ H λks H1=>tb σ H1 λjs H2=>∀rs:LI,rs.Nodup->(∀z,z∈rs↔z∈ks/\z∈js)->Q rs H2
theorem G9(ha:JW X a ta)(hb:JW X b tb):JW X (.BinOp a .BitAnd b pos) (J0 ta tb):=by
 intro pins s σ H Q I h
 refine wpAny_BinOp (aM (ha pins s σ H _ I h) λu s1 ⟨p,ks,H1,e,I1,g,fo,h1⟩=>?_)
 subst e
 obtain⟨o,es,ep,t,go,gx,gd,_⟩:=id g
 have I1':=I1.pinned (fp:=[p]) (λb hb=>by rw[mem_singleton.mp hb];exact fo) (λb hb=>by
  rw[mem_singleton.mp hb]
  exact⟨o,go,λv z=>by rw[gd] at z;cases z⟩)
 refine aM (hb _ s1 σ H1 _ I1' h1) λu2 s2 ⟨p2,js,H2,e2,I2,g2,fo2,q2⟩=>?_
 subst e2
 have pm:(p,o)∈X.pn++(pins++K5 [p] s1.heap):=mem_append_right _ (mem_append_right _ (Qj (mem_singleton.mpr rfl) go))
 have kp:s2.heap.get? p=some o:=(I2.pin (p,o) pm).1
 have g1:=g.keep (h':=s2.heap) λo' e'=>by rw[go] at e';cases e';exact kp
 have ne:p2≠p:=abv (fo2.2.2.2.2.2 (p,o) pm)
 have I3:=I2.iw
 refine Nx Z2 (λk v hk b z=>?_) ne g1 g2 λh' kr g3 m k=>?_
 ·obtain⟨t,rfl⟩:=ado hk
  cases z
 ·have I4:=I3.kept (h':=h') (t':=s2.toks) λb o e=>k b o (lt_size e) e
  obtain⟨_,_,_,_,_,_,_,_,_,nd,_⟩:=id g3
  exact⟨_,kr,H2,rfl,I4,g3,I3.mL (aav _) (I3.hok.fresh (aav _)),q2 kr nd m⟩
end
end L2
namespace Ts
open PySem L2
def W7(ns ms:LI):Option LI:=if(ns.length<64\/ms.length<64)/\ns.length<4000/\ms.length<4000 then some (uT (ns.filter λz=>decide (z∈ms))) else none
section
variable{K:PySem.W.Frag}{B:Bs}{sl:SL K}{md:Md}{t1 t2:TE}
theorem zPn(h1:Ex B sl .hp t1 m1)(h2:Ex B sl .hp t2 m2):Eo B sl md (W5 (J0 (QD K t1) (QD K t2))) (m1.bind λa=>m2.bind λb=>W7 a b):=λc hc F O H σ Q s k=>by
 obtain⟨ns,ms,ha,hb,hf⟩:=pL hc
 unfold W7 at hf
 split at hf
 case isFalse=>cases hf
 rename_i hl
 cases hf
 refine h1 ns ha F O H σ _ s λv F' H' g r1=>?_
 obtain⟨p,vs,rfl,z1,z2⟩:=r1
 have z3:vs=ns.map V.int:=z2.vals
 subst z3
 refine⟨p,ns,rfl,bx.of z1,hl.2.1,λks nd hm=>?_⟩
 refine h2 ms hb F' O H' σ _ (s.grow g) λw F2 H2 g2 r2=>?_
 obtain⟨p',vs',rfl,y1,y2⟩:=r2
 have y3:vs'=ms.map V.int:=y2.vals
 subst y3
 refine⟨p',ms,rfl,bx.of y1,hl.2.2,λjs jd hj rs rd hr=>⟨hl.1.elim (aa5 (QJ rd λz hz=>(hm z).mp ((hr z).mp hz).1)) (aa5 (QJ rd λz hz=>(hj z).mp ((hr z).mp hz).2)),λl us hn p1 p2=>?_⟩⟩
 have e:us=uT (ns.filter λz=>decide (z∈ms)):=QH (Ug p2 (p1.nodup_iff.mpr rd)) (QG _) λz=>by rw[p1.mem_iff,hr,hm,hj,cX,mem_filter,decide_eq_true_iff]
 subst e
 exact k l _ F2 H2 (g.trans g2) hn (JD _)
end
end Ts
namespace L2
open PySem PySem.Spec PyProof.Rows
section
variable{X:Cx}
theorem J2:V1 X .BitOr (V3 λi j=>adi i j):=by
 intro pins s σ H x y v u Q I r1 r2 h
 obtain⟨i,j,e1,e2,q⟩:=h
 subst e1;subst e2
 obtain⟨t,rfl⟩:=r1
 obtain⟨t',rfl⟩:=r2
 exact ior_int ⟨.int _,H,I.tok _,⟨_,rfl⟩,q⟩
def J3(K:PySem.W.Frag):V->V->Hp->VK->Prop:=λx y H Q=>∃p xs i v,x=.ref p/\y=.int i/\0<=i/\bx K H p xs/\aO xs i=some v/\Q v H
theorem zSb(K:PySem.W.Frag)(h:X.K=K:=by rfl):RP X (J3 K):=by
 subst h
 intro pins s σ H o i ov iv Q I rx ry h
 obtain⟨p,xs,i,z,rfl,rfl,h0,hq,he,q⟩:=h
 cases rx
 obtain⟨t,rfl⟩:=ry
 obtain⟨its,r,pl,hz⟩:=I.list hq
 obtain⟨j,h1,h2,h3,h4,h5⟩:=YH he
 obtain⟨w,ew,R7⟩:=r.get h2
 have hl:=r.length
 have hn:=Ld
 have hj:i.toNat=j:=by
  rw[afa h0 h5] at h1
  exact aa3 h1
 exact wpAny_getItem_list pl.isList h0 (by omega) (by rw[hj];simpa using ew) ⟨z,H,I,R7,q⟩
theorem zE9(K:PySem.W.Frag)(ha:PE X a ta)(hK:X.K=K:=by rfl)(he:∀whole,isTrue a X.env whole=(do let v <-whole;standAt a.pos;holding [v] (truthy v)):=by intro _;rfl) :
  PT X a (λσ H Q=>ta σ H λx H'=>∃k,FJ K x H' k/\Q k H'):=by
 subst hK
 exact zUg ha he
def tLR(ta:TA):TE:=λσ H Q=>ta σ H λvs H1=>∃j:Int,vs=[.int j] /\ -(2^62)<=j/\j<1000000/\∀l,H1 l=none->Q (.ref l) (upd H1 l (.lst (((aax j.toNat).map ac1).map V.int)))
theorem G_{acc:List Value}:∀{ns:LI},acc.length=ns.length->(∀(i:Nat)(v:Value),acc[i]?=some v->∃t:Tok,v=acf (ns.getD i 0) t)->IntsAre acc ns:=by
 induction acc with
 |nil =>
  intro ns h _
  cases ns with
  |nil=>exact .nil
  |cons n ns=>simp at h
 |cons v acc ih =>
  intro ns h g
  cases ns with
  |nil=>simp at h
  |cons n ns =>
   obtain⟨t,e⟩:=g 0 v rfl
   subst e
   exact .cons n t (ih (by simpa using h) λi v hv=>g (i+1) v hv)
theorem W8(hc:X.calm=true)(hg:Gl X "list")(hm:X.mg "list" = none)(hg2:Gl X "range")(hm2:X.mg "range" = none)(ha:PA X [a] ta)(hs:starEach [a] X.env=[(false,eval a X.env)]:=by rfl)(hs2:starEach [Expr.Call (.Name "range" p2) [a] [] pos2] X.env=[(false,eval (Expr.Call (.Name "range" p2) [a] [] pos2) X.env)]:=by rfl):PE X (.Call (.Name "list" p) [.Call (.Name "range" p2) [a] [] pos2] [] pos) (tLR ta):=by
 intro pins s σ H Q I h
 refine abt (A_ I hg hm (by decide +kernel:bootBuiltins "list" = some (.type "list")) ?_)
 refine abl ?_ hs2 rfl
 rw[hs2]
 show wpAny _ _ (spliced ((false,eval (Expr.Call (.Name "range" p2) [a] [] pos2) X.env)::backTo pos [])) _ _ s
 refine ad5 (abt (A_ I hg2 hm2 boot_range (abl (aM (ha pos2 pins s σ H _ I h) λus s1 ⟨vs,H1,I1,r1,q1⟩=>?_) hs rfl)))
 obtain⟨j,e,q1,q2,q⟩:=q1
 subst e
 cases r1 with
 |cons r rr =>
  cases rr
  obtain⟨t,rfl⟩:=r
  refine call_range_1 (aec ?_)
  have I2:Inv X pins σ H1 { s1 with heap:=s1.heap.push { cls:=.type "range",data:=.fields #[.int 0 s1.toks,.int j t,.int 1 (s1.toks+1)] },toks:=s1.toks+1+1 }:=I1.kept λb o e=>get?_push_of_some _ e
  refine call_list_range (n:=j.toNat) (I2.ok.hd hc) (afu ..) (small_one (by omega) (by omega) q1 (by omega)) (by rw[rangeSize_one];split<;>omega) (by omega) λh' tk acc' c' hk hS hacc=>?_
  have hI:IntsAre acc'.toList ((aax j.toNat).map ac1):=G_ (by rw[length_toList,hacc.1,length_map,length_range]) λi v hv=>by
   rw[getElem?_toList] at hv
   obtain⟨t',rfl⟩:=hacc.2 i v hv
   have hi:i<j.toNat:=by
    have:=(Array.getElem?_eq_some_iff.mp hv).1
    rw[hacc.1] at this
    exact this
   refine⟨t',?_⟩
   have e:((aax j.toNat).map ac1).getD i 0=(i:Int):=by
    rw[getD_eq_getElem?_getD,getElem?_map,getElem?_range hi]
    rfl
   rw[e]
   simp
  refine⟨.ref _,_,I2.laid (h':=h') (t':=tk) (o:=.lst (((aax j.toNat).map ac1).map V.int)) (λb ob w=>hk b ob w) (aav _) ?_,rfl,q _ (I2.hok.fresh (aav _))⟩
  refine⟨?_,acc'.toList,c',WK hI,?_⟩
  ·rw[length_map,length_map,length_range]
   exact aa4 (show j.toNat<=1000000 by omega) (by decide)
  ·rw[toArray_toList];exact hS
end
end L2
namespace Ts
open PySem L2
def zp(a b:Int):Option Int:=if 0<=b/\b<=1000000/\a.natAbs<2^64 then some (a*2^b.toNat) else none
def jM(a b:Int):Option Int:=if 0<=b then some (a/2^b.toNat) else none
section
variable{K:PySem.W.Frag}{B:Bs}{sl:SL K}{md:Md}{t t1 t2 te:TE}{m1 m2:Option Int}
theorem Uh(h1:Ex B sl .hp t1 m1)(h2:Ex B sl .hp t2 m2):Ex B sl md (gW (qT λi j=>.int (abh i j)) t1 t2) (m1.bind λa=>m2.bind λb=>some (abh a b)):=Qs (λ_ _=>rfl) h1 h2
theorem Ny(h1:Ex B sl .hp t1 m1)(h2:Ex B sl .hp t2 m2):Ex B sl md (gW (rI Fy λi j=>.int (i*2^j.toNat)) t1 t2) (m1.bind λa=>m2.bind λb=>zp a b) :=
 za (f:=zp) (λa b c v w H Q e r1 r2 q=>by
  unfold zp at e
  split at e
  case isFalse=>cases e
  rename_i hc
  cases e;cases r1;cases r2
  exact⟨a,b,rfl,rfl,hc,q⟩) h1 h2
theorem W9(h1:Ex B sl .hp t1 m1)(h2:Ex B sl .hp t2 m2):Ex B sl md (gW (rI (λ_ j=>0<=j) λi j=>.int (i/2^j.toNat)) t1 t2) (m1.bind λa=>m2.bind λb=>jM a b) :=
 za (f:=jM) (λa b c v w H Q e r1 r2 q=>by
  unfold jM at e
  split at e
  case isFalse=>cases e
  rename_i hc
  cases e;cases r1;cases r2
  exact⟨a,b,rfl,rfl,hc,q⟩) h1 h2
theorem zSm{m:Option Int}(h:Ex B sl .hp t m):Et B sl (λσ H Q=>t σ H λx H'=>∃k,FJ K x H' k/\Q k H') (m.bind λi=>some (i != 0)):=λc hc F O H σ Q s k=>by
 cases m with
 |none=>cases hc
 |some i =>
  cases(show some (i != 0)=some c from hc)
  refine h i rfl F O H σ _ s λv F' H' g r=>?_
  cases r
  exact⟨_,rfl,k F' H' g⟩
def sZ(n:Int):Option LI:=if -(2^62)<=n/\n<1000000 then some ((aax n.toNat).map ac1) else none
theorem W_(h:Ex B sl .hp t m):Eo B sl md (tLR (xS t bJ)) (m.bind sZ):=λc hc F O H σ Q s k=>by
 cases m with
 |none=>cases hc
 |some n =>
  have hc:sZ n=some c:=hc
  unfold sZ at hc
  split at hc
  case isFalse=>cases hc
  rename_i hl
  cases hc
  refine h n rfl F O H σ _ s λv F' H' g r1=>?_
  cases r1
  exact⟨n,rfl,hl.1,hl.2,λl hn=>k l _ F' H' g hn (JD _)⟩
def Cy(xs ys:LI):Option LI:=if xs.length+ys.length<cap then some (xs++ys) else none
theorem zQk(i:Nat)(hs:sl[i]?=some (.ow n xs))(hh:sl.all (λs=>!mR s)=true)(h:Ex B sl .hp te m) :
  Sn B sl (RJ (Sd K "list" YK (fY i) (xS te bJ))) (λys=>sl.set i (.ow n ys)) (m.bind λa=>Cy xs a):=λys ha G D σ H s k=>by
 cases m with
 |none=>cases ha
 |some a =>
  have ha':Cy xs a=some ys:=ha
  unfold Cy at ha'
  split at ha'
  case isFalse=>cases ha'
  rename_i hl
  cases ha'
  obtain⟨F,O,g,z⟩:=s
  obtain⟨p,vs,h1,h2,h3,_⟩:=z.chg hs hh
  refine⟨_,h1,.inl ⟨rfl,_,bx.of h2⟩,?_⟩
  refine h a rfl F O H σ _ z λv F' H' gr r=>?_
  obtain⟨p',vs',h1',h2',h3',h4'⟩:=(z.grow gr).chg hs hh
  have e:=h1.symm.trans h1'
  cases e
  obtain⟨q,us,rfl,z1,z2⟩:=r
  have z3:us=a.map V.int:=z2.vals
  subst z3
  have e3:vs'=xs.map V.int:=h3'.vals
  subst e3
  obtain⟨O',z'⟩:=h4' (xs.map V.int++a.map V.int) (xs++a) (by rw[<-map_append];exact JD _)
  exact⟨p,q,_,_,rfl,rfl,h2',z1,by rw[length_map,length_map];exact aco (Mg hl),k _ _ ⟨F',O',g.trans gr.ff,z'⟩⟩
def Hf(f:Int->Int->Int)(xs:LI)(ix:Int)(y:Int):Option LI:=if 0<=ix then(L2.aO xs ix).bind λx=>zf xs ix (f x y) else none
theorem zT4(i:Nat)(hs:sl[i]?=some (.ow n xs))(hh:sl.all (λs=>!mR s)=true)(hi:Ex B sl .hp ti mi)(hv:Ex B sl .hp te m) :
  Sn B sl (Jo (fY i) ti te (J3 K) (V3 f) BW) (λys=>sl.set i (.ow n ys)) (mi.bind λk=>m.bind λa=>Hf f xs k a):=λys ha G D σ H s k=>by
 obtain⟨ix,a,e1,e2,ha'⟩:=pL ha
 unfold Hf at ha'
 split at ha'
 case isFalse=>cases ha'
 rename_i h0
 obtain⟨x,ex,ha'⟩:=Option.bind_eq_some_iff.mp ha'
 obtain⟨F,O,g,z⟩:=s
 obtain⟨p,vs,h1,h2,h3,_⟩:=z.chg hs hh
 refine⟨_,h1,?_⟩
 refine hi ix e1 F O H σ _ z λv F' H' gr r=>?_
 cases r
 obtain⟨p',vs',h1',h2',h3',h4'⟩:=(z.grow gr).chg hs hh
 have e:=h1.symm.trans h1'
 cases e
 obtain⟨xv,exv,rx⟩:=h3'.aO ex
 have rx:xv=.int x:=Sc.is.mp rx
 subst rx
 refine⟨p,vs',ix,_,rfl,rfl,h0,bx.of h2',exv,?_⟩
 refine hv a e2 F' O H' σ _ (z.grow gr) λw F2 H2 vq rw=>?_
 cases rw
 obtain⟨p2,vs2,y1,y2,y3,y4⟩:=((z.grow gr).grow vq).chg hs hh
 have e:=h1.symm.trans y1
 cases e
 refine⟨x,a,rfl,rfl,?_⟩
 unfold zf at ha'
 cases ej:rA xs.length ix with
 |none=>rw[ej] at ha';cases ha'
 |some jj =>
  rw[ej] at ha'
  cases ha'
  obtain⟨O',z'⟩:=y4 (vs2.set jj (.int (f x a))) (xs.set jj (f x a)) (y3.set (Sc.is.mpr rfl) jj)
  exact⟨p,vs2,ix,jj,rfl,rfl,y2,by rw[y3.len,ej],k _ _ ⟨F2,O',(g.trans gr.ff).trans vq.ff,z'⟩⟩
end
section
variable{K:PySem.W.Frag}{B:Bs}{sl:SL K}{F H H2:Hp}{O:Own}{σ:St}{te:TE}
end
section
variable{K:PySem.W.Frag}{B:Bs}{sl sl2:SL K}{G F H:Hp}{O:Own}{σ:St}{te:TE}
theorem zQi{α β:Type}[Rp K α][Rp K β]{m:Option (α×β)}{L:α×β->SL K}(h:Ex B sl (jD n) te m)(hg:Tg B sl n g L):Sn B sl (oY te g) L m:=λa ha G D σ H s k=>by
 obtain⟨F,O,g0,z⟩:=s
 exact h a ha F O H σ _ z λv F' H' gr r=>hg v a F' O H' σ _ (z.grow gr) r λσ' z'=>k _ _ ⟨F',O,g0.trans gr.ff,z'⟩
inductive LeD{α:Type}[Rp K α](kvs:List (Key×α)):SL K->SL K->Prop
 |here {a:SL K}:LeD kvs (.od kvs::a) (.fz false (Dc.mk kvs)::a)
 |skip {s:Slot K} {a b:SL K}:LeD kvs a b->LeD kvs (s::a) (s::b)
end
section
variable{K:PySem.W.Frag}{B:Bs}{sl:SL K}{md:Md}{t t2:TE}{α β:Type}[Rp K α][Rp K β]
theorem J4:kitOne K (.type "tuple") (.type "tuple")=some true:=by
 first|rfl|(unfold kitOne kitCls;decide +kernel)
theorem zNq:bootBuiltins "tuple" = some (.type "tuple"):=by decide +kernel
theorem Hg{m:Option (α×β)}(h:Ex B sl .hp t m):Ex B sl md (sW (Cr K) (xS t bJ)) (m.bind λ_=>some (2:Int)):=λd hd F O H σ Q s k=>by
 cases m with
 |none=>cases hd
 |some a =>
  cases(show some (2:Int)=some d from hd)
  refine h a rfl F O H σ _ s λv F' H' g r1=>?_
  obtain⟨p,w1,w2,rfl,h1,h2,h3⟩:=r1
  exact⟨p,[w1,w2],rfl,.inr (.inl (.inl h1)),k _ F' H' g rfl⟩
end
def tu{α:Type}(xs:List α)(lo hi:Option Int):List α:=(xs.drop (HT.pH xs.length 0 lo)).take (HT.pH xs.length xs.length hi-HT.pH xs.length 0 lo)
section
variable{P:Program}{w:World}{K:PySem.W.Frag}{mg:Str->Option Value}{base:Heap}{B:Bs}{sl:SL K}{md:Md}{α β:Type}[Rp K α][Rp K β]{tA:Addr}{tO:HO}{te t1 t2:TE}
theorem A2.cut(h:A2 R vs xs)(lo hi:Option Int):A2 R (yu vs lo hi) (tu xs lo hi):=by
 unfold yu tu
 rw[h.len]
 exact(h.dr _).tk _
theorem zVo[Sc K α]{m:Option (List α)}{mi:Option Int}{ti:TE}(h:Ex B sl .hp te m)(hi:Ex B sl .hp ti mi):Eo B sl md (YG (Lr K) te YF (BP ti)) (m.bind λxs=>mi.bind λi=>some (tu xs none (some i))):=λc hc F O H σ Q s k=>by
 obtain⟨xs,i,hx,hi',hc⟩:=pL hc
 cases hc
 refine h xs hx F O H σ _ s λv F' H' g r=>?_
 refine hi i hi' F' O H' σ _ (s.grow g) λu F2 H2 g2 r2=>?_
 have r2:u=.int i:=r2
 obtain⟨p,vs,rfl,z1,z2⟩:=r
 exact⟨i,r2,p,vs,rfl,bx.of (g2.hh _ _ z1),λl hl=>k l _ F2 H2 (g.trans g2) hl (z2.cut _ _).sc⟩
theorem aac(K:PySem.W.Frag){X:Cx}(h:X.K=K:=by rfl):Wd X (Lr K):=by subst h;exact Gg
end
section
variable{X:Cx}{pos pos':Pos}{x:Str}{e:Expr}{te:TE}
theorem yP(i:Nat)(hN:X.N.Nodup)(he:PE X e te)(hi:X.N[i]?=some x:=by rfl)(hx:Loc X.env.scope x:=by first|exact .inl rfl|exact .inr rfl)(hs:swapsWith e (some (.Name x pos')) pos.line X.env=pure false:=by rfl)(hf:X.fn x=true\/X.env.scope.names.lookup x=some .local:=by first|exact .inl rfl|exact .inr rfl|assumption):PS X (.Assign [.Name x pos'] e pos) (oY te (yq i)):=Yh hN hi hx he hs hf
theorem bC(i:Nat)(hN:X.N.Nodup)(hi:X.N[i]?=some x:=by rfl)(hx:Loc X.env.scope x:=by first|exact .inl rfl|exact .inr rfl)(hf:X.fn x=true\/X.env.scope.names.lookup x=some .local:=by first|exact .inl rfl|exact .inr rfl|assumption):PG X (.Name x pos) (yq i):=yQ hN hi hx hf
end
theorem esc{K:PySem.W.Frag}{B:Bs}{sl:SL K}{md:Md}{α:Type}[Rp K α][Sc K α]{t:TE}{m:Option α}(h:Ex B sl .hp t m):Ex B sl md t m:=h.sc
theorem fsc{N P:List Str}{s:Scope}(h1:s.kind=.function:=by rfl)(h2:s.isCoroutine=false:=by rfl)(h3:s.isGenerator=false:=by rfl)(h4:N.Nodup:=by decide +kernel)(h5:N.take P.length=P:=by rfl)(h6:∀x∈P,s.names.lookup x=some .local\/s.names.lookup x=some .cell:=by decide +kernel)(h7:∀y∈s.names,y.2≠.free:=by decide +kernel):ak N P s:=⟨h1,h2,h3,h4,h5,h6,h7⟩
section
variable{K:PySem.W.Frag}{x y:Str}{st:Stmt}{f:Addr}{fd:FuncData}{p0 p1 p2 p3 p4:Str}
theorem zq(F:aW K x y st f fd)(h:∀kV dc pm an cd ct u0,bindArgs (fnOf x y (uA st) (wQ st) (zJ st) .none kV dc pm an cd ct) ⟨[u0],[]⟩=pure [(p0,u0)]:=by intros;rfl):Binds K fd [p0] []:=F.binds λa b c d e g us hl=>match us,hl with|[u0],_=>h a b c d e g u0
theorem jg(F:aW K x y st f fd)(h:∀kV dc pm an cd ct u0 u1,bindArgs (fnOf x y (uA st) (wQ st) (zJ st) .none kV dc pm an cd ct) ⟨[u0,u1],[]⟩=pure [(p0,u0),(p1,u1)]:=by intros;rfl):Binds K fd [p0,p1] []:=F.binds λa b c d e g us hl=>match us,hl with|[u0,u1],_=>h a b c d e g u0 u1
theorem sE(F:aW K x y st f fd)(h:∀kV dc pm an cd ct u0 u1 u2,bindArgs (fnOf x y (uA st) (wQ st) (zJ st) .none kV dc pm an cd ct) ⟨[u0,u1,u2],[]⟩=pure [(p0,u0),(p1,u1),(p2,u2)]:=by intros;rfl):Binds K fd [p0,p1,p2] []:=F.binds λa b c d e g us hl=>match us,hl with|[u0,u1,u2],_=>h a b c d e g u0 u1 u2
theorem Ui(F:aW K x y st f fd)(h:∀kV dc pm an cd ct u0 u1 u2 u3,bindArgs (fnOf x y (uA st) (wQ st) (zJ st) .none kV dc pm an cd ct) ⟨[u0,u1,u2,u3],[]⟩=pure [(p0,u0),(p1,u1),(p2,u2),(p3,u3)]:=by intros;rfl):Binds K fd [p0,p1,p2,p3] []:=F.binds λa b c d e g us hl=>match us,hl with|[u0,u1,u2,u3],_=>h a b c d e g u0 u1 u2 u3
theorem bi5(F:aW K x y st f fd)(h:∀kV dc pm an cd ct u0 u1 u2 u3 u4,bindArgs (fnOf x y (uA st) (wQ st) (zJ st) .none kV dc pm an cd ct) ⟨[u0,u1,u2,u3,u4],[]⟩=pure [(p0,u0),(p1,u1),(p2,u2),(p3,u3),(p4,u4)]:=by intros;rfl):Binds K fd [p0,p1,p2,p3,p4] []:=F.binds λa b c d e g us hl=>match us,hl with|[u0,u1,u2,u3,u4],_=>h a b c d e g u0 u1 u2 u3 u4
end
theorem aK{K:PySem.W.Frag}{a b:SL K}(h:Le a b:=by repeat(first|exact Le.nil|refine Le.eq ?_|refine Le.un ?_|refine Le.fr ?_)):Le a b:=h
theorem dJ{K:PySem.W.Frag}{a b:SL K}(h:sY a b:=by repeat(first|exact sY.nil|refine sY.eq ?_|refine sY.un ?_)):sY a b:=h
abbrev Slot.z{α:Type}[Rp K α](a:α):Slot K:=.fz false a
abbrev Slot.y{α:Type}[Rp K α](a:α):Slot K:=.fz true a
end Ts
namespace rH
open PySem PySem.SetTable
set_option maxRecDepth 100000
def Xa(m:Nat):Nat->Nat->Nat
 |0,i=>i
 |t+1,i=>Xa m t ((i*5+1)%m)
def seen(m:Nat):Nat->Nat->Nat->Nat
 |0,_,acc=>acc
 |t+1,i,acc=>seen m t ((i*5+1)%m) (acc|||1 <<< i)
theorem zMt(m j:Nat):∀(t i acc:Nat),(seen m t i acc).testBit j=true->acc.testBit j=true\/∃u,u<t/\Xa m u i=j
 |0,i,acc,h=>.inl h
 |t+1,i,acc,h=>by
  rcases zMt m j t _ _ h with z|⟨u,hu,e⟩
  ·rw[Nat.testBit_or,acs] at z
   rcases z with z|z
   ·exact .inl z
   ·rw[Nat.testBit_shiftLeft,aaz,decide_eq_true_eq] at z
    obtain⟨z1,z2⟩:=z
    have:j-i=0:=by
     cases q:j-i with
     |zero=>rfl
     |succ n =>
      rw[q] at z2
      have:(1:Nat).testBit (n+1)=false:=Nat.testBit_lt_two_pow (aa2 (by decide) (Nat.pow_le_pow_right (by decide) (abp (abk n))))
      rw[this] at z2
      cases z2
    exact .inr ⟨0,aen _,by show i=j;omega⟩
  ·exact .inr ⟨u+1,Nat.succ_lt_succ hu,e⟩
def zu(m:Nat):Bool:=(aax m).all λi=>seen m m i 0==2^m-1
theorem Hh(h:zu m=true)(hi:i<m)(hj:j<m):∃u,u<m/\Xa m u i=j:=by
 have q:=all_eq_true.mp h i (mem_range.mpr hi)
 have e:seen m m i 0=2^m-1:=by simpa using q
 have t:(seen m m i 0).testBit j=true:=by rw[e,Nat.testBit_two_pow_sub_one];simpa using hj
 rcases zMt m j m i 0 t with z|z
 ·rw[Nat.zero_testBit] at z;cases z
 ·exact z
theorem Uj:zu 8=true:=by decide +kernel
theorem Uk:zu 16=true:=by decide +kernel
theorem Um:zu 32=true:=by decide +kernel
theorem Uo:zu 64=true:=by decide +kernel
theorem Nz:zu 128=true:=by decide +kernel
theorem NK:zu 256=true:=by decide +kernel
theorem Uq{owner:Array (Option Nat)}{mask i:Nat}(h:owner.getD i (some 0)=none):(aax (runEnd mask i+1-i)).find? (λk=>(owner.getD (i+k) (some 0)).isNone)≠none:=λe=>by
 have q:=List.find?_eq_none.mp e 0 (mem_range.mpr (by unfold runEnd;split<;>omega))
 apply q
 show(owner.getD (i+0) (some 0)).isNone=true
 rw[Nat.add_zero,h];rfl
theorem zJ3{owner:Array (Option Nat)}{mask:Nat}:∀(fuel i p j:Nat),layClean.free mask owner fuel i p=some j->owner.getD j (some 0)=none
 |0,_,_,_,h=>by cases h
 |fuel+1,i,p,j,h=>by
  unfold layClean.free at h
  split at h
  ·rename_i k hk
   cases h
   have:=List.find?_some hk
   simpa using this
  ·exact zJ3 fuel _ _ j h
theorem zJ4{owner:Array (Option Nat)}{mask j:Nat}(hj:owner.getD j (some 0)=none):∀(fuel u i:Nat),u<fuel->Xa (mask+1) u i=j->layClean.free mask owner fuel i 0≠none
 |0,u,i,h,_=>absurd h (aej _)
 |fuel+1,0,i,_,e=>by
  have e':i=j:=e
  subst e'
  unfold layClean.free
  cases q:(aax (runEnd mask i+1-i)).find? λk=>(owner.getD (i+k) (some 0)).isNone with
  |none=>exact absurd q (Uq hj)
  |some k=>exactλz=>by cases z
 |fuel+1,u+1,i,h,e=>by
  unfold layClean.free
  cases q:(aax (runEnd mask i+1-i)).find? λk=>(owner.getD (i+k) (some 0)).isNone with
  |none=>exact zJ4 hj fuel u _ (Nat.lt_of_succ_lt_succ h) e
  |some k=>exactλz=>by cases z
theorem zNe{owner:Array (Option Nat)}{mask:Nat}(fuel:Nat)(h0:∀i,i<=mask->layClean.free mask owner fuel i 0≠none):∀(d i p:Nat),i<=mask->p<32^d->layClean.free mask owner (fuel+d) i p≠none
 |0,i,p,hi,hp=>by
  have e:p=0:=by rw[Nat.pow_zero] at hp;omega
  subst e
  exact h0 i hi
 |d+1,i,p,hi,hp=>by
  show layClean.free mask owner (fuel+d+1) i p≠none
  unfold layClean.free
  cases q:(aax (runEnd mask i+1-i)).find? λk=>(owner.getD (i+k) (some 0)).isNone with
  |none=>exact zNe fuel h0 d _ _ (aer (afh _ (aen _))) (by rw[Nat.pow_succ] at hp;show p/32<_;omega)
  |some k=>exactλz=>by cases z
theorem Hj{owner:Array (Option Nat)}{mask j:Nat}(hc:zu (mask+1)=true)(hs:j<=mask)(hj:owner.getD j (some 0)=none)(h:Int):∃k,layClean.free mask owner (turns mask) (bits h%(mask+1)) (bits h)=some k/\owner.getD k (some 0)=none:=by
 have q:layClean.free mask owner (mask+2+13) (bits h%(mask+1)) (bits h)≠none:=zNe (mask+2) (λi hi=>by
  obtain⟨u,hu,e⟩:=Hh hc (Nat.lt_succ_of_le hi) (Nat.lt_succ_of_le hs)
  exact zJ4 hj _ u i (by omega) e) 13 _ _ (aer (afh _ (aen _))) (by unfold bits;have:=aci h (b:=2^64) (by decide);have:=acv h (b:=2^64) (by decide);omega)
 unfold turns
 cases e:layClean.free mask owner (mask+15) (bits h%(mask+1)) (bits h) with
 |none=>exact absurd e q
 |some k=>exact⟨k,rfl,zJ3 _ _ _ _ e⟩
theorem zHy{α:Type}(v:α):∀(l:List (Option α))(j:Nat),l[j]?=some none->((l.set j (some v)).filterMap id).Perm (v::l.filterMap id)
 |[],j,h=>by simp at h
 |x::l,0,h=>by
  have e:x=none:=by simpa using h
  subst e
  exact .refl _
 |none::l,j+1,h=>by
  show((l.set j (some v)).filterMap id).Perm (v::l.filterMap id)
  exact zHy v l j (by simpa using h)
 |some x::l,j+1,h=>by
  show(x::(l.set j (some v)).filterMap id).Perm (v::x::l.filterMap id)
  exact((zHy v l j (by simpa using h)).cons x).trans (.swap _ _ _)
theorem zI6:∀(l:List (Option Nat)),(l.filterMap id).length<l.length->∃j,j<l.length/\l[j]?=some none
 |[],h=>by simp at h
 |none::l,_=>⟨0,by simp,rfl⟩
 |some x::l,h=>by
  obtain⟨j,hj,e⟩:=zI6 l (by simpa using h)
  exact⟨j+1,by simpa using hj,e⟩
theorem getD_none{owner:Array (Option Nat)}:owner.getD j (some 0)=none↔owner.toList[j]?=some none:=by
 rw[Array.getD_eq_getD_getElem?,getElem?_toList]
 cases owner[j]? with
 |none=>simp
 |some x=>simp
theorem zWk{mask:Nat}(hc:zu (mask+1)=true):∀(hs:LI)(owner:Array (Option Nat))(k:Nat),owner.size=mask+1->(owner.toList.filterMap id).Perm (aax k)->k+hs.length<=mask ->
  ∃tD,hs.foldl (λacc h=>do
   let(owner,k) <-acc
   let j <-layClean.free mask owner (turns mask) (bits h%(mask+1)) (bits h)
   pure (owner.setIfInBounds j (some k),k+1)) (some (owner,k))=some (tD,k+hs.length)/\tD.size=mask+1/\(tD.toList.filterMap id).Perm (aax (k+hs.length))
 |[],owner,k,h1,h2,h3=>⟨owner,rfl,h1,h2⟩
 |h::hs,owner,k,h1,h2,h3=>by
  obtain⟨j,hj,ej⟩:=zI6 owner.toList (by rw[h2.length_eq,length_range,length_toList,h1];rw[length_cons] at h3;omega)
  obtain⟨i,ei,fi⟩:=Hj hc (owner:=owner) (j:=j) (by rw[length_toList,h1] at hj;omega) (getD_none.mpr ej) h
  have q:=zWk hc hs (owner.setIfInBounds i (some k)) (k+1) (by rw[Array.size_setIfInBounds];exact h1) ?_ (by rw[length_cons] at h3;omega)
  ·obtain⟨o',e,z1,z2⟩:=q
   have ek:k+(h::hs).length=k+1+hs.length:=by rw[length_cons];omega
   refine⟨o',?_,z1,by rw[ek];exact z2⟩
   rw[ek,List.foldl_cons,<-e]
   refine congrArg (λz=>List.foldl _ z hs) ?_
   show(layClean.free mask owner (turns mask) (bits h%(mask+1)) (bits h)).bind _=_
   rw[ei]
   rfl
  ·rw[Array.toList_setIfInBounds,range_succ]
   exact((zHy k owner.toList i (getD_none.mp fi)).trans (h2.cons k)).trans (List.perm_append_singleton k _).symm
theorem zJh:∀(l:List (Option Nat)),(aax l.length).filterMap (λj=>(l[j]?).getD none)=l.filterMap id
 |[]=>rfl
 |x::l=>by
  rw[length_cons,range_succ_eq_map,filterMap_cons,List.filterMap_map]
  have e:((λj=>((x::l)[j]?).getD none)∘Nat.succ)=λj=>(l[j]?).getD none:=rfl
  rw[e,zJh l]
  cases x<;>rfl
theorem zRy{mask:Nat}(hc:zu (mask+1)=true)(finger moves:Nat)(led plain:Bool)(hs:Array Int)(hn:hs.size<=mask) :
  ∃t order,laid mask finger moves led plain hs=some (t,order)/\order.toList.Perm (aax hs.size)/\t.place.size=hs.size/\t.dummies=#[]/\t.mask=mask/\t.led=led/\t.plain=plain/\Rz t.place:=by
 obtain⟨o',e,z1,z2⟩:=zWk hc hs.toList (Array.replicate (mask+1) none) 0 (by rw[Array.size_replicate]) (by rw[Array.toList_replicate,List.filterMap_replicate_of_none rfl];exact .refl _) (by rw[ac7,length_toList];exact hn)
 rw[ac7,length_toList] at z2
 have el:layClean mask hs=some o':=by
  unfold layClean
  rw[<-Array.foldl_toList,e]
  rfl
 have eo:((aax (mask+1)).filterMap λj=>(o'.getD j none).map λk=>(j,k)).map (·.2)=o'.toList.filterMap id:=by
  rw[<-zJh o'.toList,length_toList,z1,List.map_filterMap]
  refine congrArg (λf=>filterMap f _) (funext λj=>?_)
  rw[Array.getD_eq_getD_getElem?,getElem?_toList]
  cases(o'[j]?).getD none<;>rfl
 refine⟨_,_,by unfold laid;rw[el];rfl,?_,?_,rfl,rfl,rfl,rfl,zJg (λj=>o'.getD j none) _⟩
 ·show((aax (mask+1)).filterMap λj=>(o'.getD j none).map λk=>(j,k)).map (·.2) |>.Perm _
  rw[eo]
  exact z2
 ·show(((aax (mask+1)).filterMap λj=>(o'.getD j none).map λk=>(j,k)).map (·.1)).length=_
  rw[length_map,<-length_map (f:=(·.2)),eo,z2.length_eq,length_range]
def small(n:Nat):Prop:=n<=255
theorem zVy(h:n<=255):∃m,sizeAbove n=m+1/\n<=m/\zu (m+1)=true/\m<=255:=by
 by_cases h1:n<8
 ·exact⟨7,by unfold sizeAbove;unfold sizeAbove.go;rw[if_neg (by omega)],by omega,Uj,by omega⟩
 by_cases h2:n<16
 ·exact⟨15,by unfold sizeAbove;unfold sizeAbove.go;rw[if_pos (by omega)];unfold sizeAbove.go;rw[if_neg (by omega)],by omega,Uk,by omega⟩
 by_cases h3:n<32
 ·exact⟨31,by unfold sizeAbove;unfold sizeAbove.go;rw[if_pos (by omega)];unfold sizeAbove.go;rw[if_pos (by omega)];unfold sizeAbove.go;rw[if_neg (by omega)],by omega,Um,by omega⟩
 by_cases h4:n<64
 ·exact⟨63,by unfold sizeAbove;unfold sizeAbove.go;rw[if_pos (by omega)];unfold sizeAbove.go;rw[if_pos (by omega)];unfold sizeAbove.go;rw[if_pos (by omega)];unfold sizeAbove.go;rw[if_neg (by omega)],by omega,Uo,by omega⟩
 by_cases h5:n<128
 ·exact⟨127,by unfold sizeAbove;unfold sizeAbove.go;rw[if_pos (by omega)];unfold sizeAbove.go;rw[if_pos (by omega)];unfold sizeAbove.go;rw[if_pos (by omega)];unfold sizeAbove.go;rw[if_pos (by omega)];unfold sizeAbove.go;rw[if_neg (by omega)],by omega,Nz,by omega⟩
 ·exact⟨255,by unfold sizeAbove;unfold sizeAbove.go;rw[if_pos (by omega)];unfold sizeAbove.go;rw[if_pos (by omega)];unfold sizeAbove.go;rw[if_pos (by omega)];unfold sizeAbove.go;rw[if_pos (by omega)];unfold sizeAbove.go;rw[if_pos (by omega)];unfold sizeAbove.go;rw[if_neg (by omega)],by omega,NK,by omega⟩
open PySem PySem.Spec PyProof.Rows
set_option maxRecDepth 100000
section
variable{prog:Program}{w:World}{κ:Type}[DecidableEq κ]{knd:KeyKind prog w κ}{dec:Value->κ}{led:Bool}{A:Around}{E:Value->Shared->Prop}{s:Shared}
theorem zGu{α:Type}(es:Array α)(order:Array Nat)(h:order.toList.Perm (aax es.size)):(order.filterMap (es[·]?)).toList.Perm es.toList:=by
 rw[Array.toList_filterMap]
 refine(h.filterMap _).trans ?_
 have e:(aax es.size).filterMap (es[·]?)=es.toList:=by
  have:∀l:List α,(aax l.length).filterMap (λj=>l[j]?)=l:=λl=>by
   induction l with
   |nil=>rfl
   |cons x l ih =>
    rw[length_cons,range_succ_eq_map,filterMap_cons,List.filterMap_map]
    show x::filterMap (λj=>l[j]?) _=_
    rw[ih]
  have q:=this es.toList
  rw[length_toList] at q
  rw[<-q]
  refine congrArg (λf=>filterMap f _) (funext λj=>?_)
  rw[getElem?_toList]
 rw[e]
theorem zMz{Q:Unit->Shared->Prop}(ho:s.heap.get? a=some o)(hd:o.data=.set es ep t)(hf:t.fits es.size=true)(hw:wanted<=255)(hn:es.size<=wanted)(h:∀(es':Array (Int×Value)) (t':SetTable),es'.toList.Perm es.toList->t'.place.size=es.size->t'.dummies=#[]->wanted<=t'.mask->zu (t'.mask+1)=true->t'.led=t.led->Rz t'.place->Q () { s with heap:=s.heap.update a (afj es' t') }):wpAny (model prog w) A (setRelay a wanted) Q E s:=by
 obtain⟨m,e1,e2,e3,e4⟩:=zVy hw
 unfold setRelay
 refine aar (abd ho hd hf ?_)
 dsimp only
 rw[if_neg (by rw[e1];show¬m+1 > 2^24;omega)]
 obtain⟨t',order,q1,q2,q3,q4,q5,q6,q7,q8⟩:=zRy (mask:=m) e3 t.finger (t.movedTo m) t.led t.plain (es.map (·.1)) (by rw[size_map];omega)
 rw[size_map] at q2 q3
 have er:t.relaid (es.map (·.1)) wanted=some (t',order):=by
  unfold SetTable.relaid
  rw[e1]
  exact q1
 rw[er]
 have p:=zGu es order q2
 have sz:(order.filterMap (es[·]?)).size=es.size:=by rw[<-length_toList,p.length_eq,length_toList]
 refine aar (m:=(if((order.filterMap (es[·]?)).size != es.size)=true then unsupported "internal:set-table-lost-an-element" else pure (order.filterMap (es[·]?),t'))) ?_
 rw[if_neg (by rw[sz];simp)]
 refine aat ?_
 exact acr ho hd (h _ t' p q3 q4 (by rw[q5];exact e2) (by rw[q5];exact e3) q6 q8) (by rw[sz];show es.size<=2^24;omega)
theorem zD2{t':SetTable}(h1:t'.place.size=n)(h2:t'.dummies=#[])(h3:wanted<=t'.mask)(h4:n<=wanted):t'.fits n=true:=by
 unfold fits aez
 rw[h1,h2]
 simp
 omega
theorem zUe{Q:Unit->Shared->Prop}(g:Good knd dec led s.heap a ks)(hw:wanted<=255)(hn:ks.length<=wanted)(h:∀h',SameBut a s.heap h'->Good knd dec led h' a ks->Q () { s with heap:=h' }):wpAny (model prog w) A (setRelay a wanted) Q E s:=by
 obtain⟨o,es,ep,t,ho,hx,hd,hel,hp,nd,hb,hf,tb⟩:=g
 have ln:es.size=ks.length:=by rw[<-hp.length_eq,length_map,length_toList]
 refine zMz ho hd hf hw (by rw[ln];exact hn) λes' t' p q3 q4 q5 q6 q7 q8=>h _ (SameBut.update _ a _) ?_
 have sz:es'.size=es.size:=by rw[<-length_toList,p.length_eq,length_toList]
 exact⟨_,es',_,t',JV (es':=es') (t':=t') ho hd,hx,rfl,hel.perm p,(p.map _).trans hp,nd,by rw[sz];exact hb,by rw[sz];exact zD2 q3 q4 q5 (by rw[ln];exact hn),⟨q7.trans tb.led,λ_=>q8⟩⟩
theorem zL0{Q:Unit->Shared->Prop}(hr:s.heap.get? r=some { cls:=.type "set",dict:=none,data:=.set #[] 0 (.fresh 0 0 (yF w)) })(hne:r≠o)(g:Good knd dec (yF w) s.heap o ks)(hl:ks.length<=127)(h:∀h',SameBut r s.heap h'->Good knd dec (yF w) h' r ks->Q () { s with heap:=h' }):wpAny (model prog w) A (setMerge r o each) Q E s:=by
 obtain⟨ob,es,ep,t,ho,hx,hd,hel,hp,nd,hb,hf,tb⟩:=id g
 have ln:es.size=ks.length:=by rw[<-hp.length_eq,length_map,length_toList]
 unfold setMerge
 rw[if_neg (by simpa using hne)]
 refine aar (abd ho hd hf ?_)
 dsimp only
 by_cases hemp:es.isEmpty=true
 ·rw[if_pos hemp]
  have e0:es.size=0:=by simpa[Array.isEmpty] using hemp
  have k0:ks=[]:=length_eq_zero_iff.mp (by rw[<-ln];exact e0)
  subst k0
  exact aat (h _ (SameBut.refl r s.heap) (Ud hr))
 rw[if_neg hemp]
 refine aar (acn (Q:=λ_ s'=>∃(h1:Heap)(o1:Obj)(ep1:Nat)(t1:SetTable),s'={ s with heap:=h1 }/\SameBut r s.heap h1/\h1.get? r=some o1/\o1.ExactSet/\o1.data=.set #[] ep1 t1/\t1.place.size=0/\t1.dummies=#[]/\t1.led=yF w/\zu (t1.mask+1)=true/\es.size<=t1.mask) ?first ?post (λ_ _ h=>h))
 case post =>
  rintro _ _ ⟨h1,o1,ep1,t1,rfl,sb,g1,x1,d1,pl,du,le,cy,rm⟩
  refine aar (abd (s:={ s with heap:=h1 }) g1 d1 (by show t1.fits 0=true;exact zD2 pl du (abk _) (aav 0)) ?_)
  dsimp only
  have hfill:t1.fill=0:=by unfold aez;rw[pl,du];rfl
  unfold SetTable.road
  rw[hfill]
  rw[if_neg (by simp)]
  by_cases hsl:(t1.mask==t.mask&&t.dummies.isEmpty)=true
  ·rw[if_pos hsl]
   refine acr (s:={ s with heap:=h1 }) g1 d1 (h _ (sb.trans (SameBut.update _ r _)) ⟨_,es,_,_,JV (es':=es) (t':=_) g1 d1,x1,rfl,hel,hp,nd,hb,hf,⟨?_,λz=>tb.rz (Bool.and_eq_true_iff.mp z).2⟩⟩) (acq hb)
   show(t1.led&&t.led)=_
   rw[le,tb.led,afb]
  ·rw[if_neg hsl]
   obtain⟨t',order,q1,q2,q3,q4,q5,q6,q7,q8⟩:=zRy (mask:=t1.mask) cy t1.finger t1.moves (t1.led&&t.led) (t1.plain&&t.plain) (es.map (·.1)) (by rw[size_map];exact rm)
   rw[size_map] at q2 q3
   dsimp only
   rw[q1]
   have p:=zGu es order q2
   have sz:(order.filterMap (es[·]?)).size=es.size:=by rw[<-length_toList,p.length_eq,length_toList]
   refine aar (m:=(if((order.filterMap (es[·]?)).size != es.size)=true then unsupported "internal:set-table-lost-an-element" else pure (order.filterMap (es[·]?),t'))) ?_
   rw[if_neg (by rw[sz];simp)]
   refine aat ?_
   refine acr (s:={ s with heap:=h1 }) g1 d1 (h _ (sb.trans (SameBut.update _ r _)) ⟨_,_,_,t',JV (es':=order.filterMap (es[·]?)) (t':=t') g1 d1,x1,rfl,hel.perm p,(p.map _).trans hp,nd,by rw[sz];exact hb,by rw[sz];exact zD2 q3 q4 (by rw[q5];exact rm) (aav _),⟨?_,λ_=>q8⟩⟩) (acq (by rw[sz];exact hb))
   rw[q6,le,tb.led,afb]
 case first =>
  unfold setRoomFor
  refine aar (abd hr rfl rfl ?_)
  dsimp only
  have e1:(SetTable.fresh 0 0 (yF w)).roomFor es.size=if(es.size*5 ≥ 21) then some (es.size*2) else none:=by
   unfold SetTable.roomFor aez SetTable.fresh
   simp
  rw[e1]
  by_cases c:es.size*5 ≥ 21
  ·rw[if_pos c]
   refine zMz hr rfl rfl (by omega) (abk _) λes' t' p q3 q4 q5 q6 q7 q8=>?_
   have ee:es'=#[]:=by
    have:=p.length_eq
    rw[length_toList] at this
    exact Array.eq_empty_of_size_eq_zero this
   subst ee
   exact⟨_,_,_,t',rfl,SameBut.update _ r _,JV (es':=#[]) (t':=t') hr rfl,⟨rfl,rfl,rfl⟩,rfl,q3,q4,q7,q6,by omega⟩
  ·rw[if_neg c]
   exact aat ⟨s.heap,_,0,_,rfl,SameBut.refl r s.heap,hr,⟨rfl,rfl,rfl⟩,rfl,rfl,rfl,rfl,Uj,by show es.size<=7;omega⟩
end
set_option maxRecDepth 100000
section
variable{prog:Program}{w:World}{κ:Type}[DecidableEq κ]{knd:KeyKind prog w κ}{dec:Value->κ}{led:Bool}{A:Around}{E:Value->Shared->Prop}{s:Shared}
theorem Hl{Q:Value->Shared->Prop}(g:Good knd dec (yF w) s.heap a ks)(hl:ks.length<=127)(h:∀(h':Heap),Good knd dec (yF w) h' s.heap.objs.size ks->(∀c o,c<s.heap.objs.size->s.heap.get? c=some o->h'.get? c=some o)->(ks=[]->h'=s.heap.push { cls:=.type "set",dict:=none,data:=.set #[] 0 (.fresh 0 0 (yF w)) })->Q (.ref s.heap.objs.size) { s with heap:=h' }) :
  wpAny (model prog w) A (Builtin.Frozenset.copyOf a) Q E s:=by
 have la:a<s.heap.objs.size:=by obtain⟨o,_,_,_,h1,_⟩:=g;exact lt_size h1
 have up:∀c o,s.heap.get? c=some o->(s.heap.push { cls:=.type "set",dict:=none,data:=.set #[] 0 (.fresh 0 0 (yF w)) }).get? c=some o:=λc o e=>get?_push_of_some _ e
 have g1:=g.keep (up a)
 unfold Builtin.Frozenset.copyOf
 refine aar (Z_ g.type (aar (zFi ?_)))
 refine aar (aat ?_)
 cases ks with
 |nil =>
  obtain⟨o,es,ep,t,ho,hx,hd,hel,hp,nd,hb,hf,tb⟩:=g1
  have e0:es.size=0:=by rw[<-length_toList];have:=hp.length_eq;rw[length_map] at this;exact this
  unfold setMerge
  rw[if_neg (by simpa using(adu la))]
  refine aar (aar (abd (s:={ s with heap:=_ }) ho hd hf ?_))
  dsimp only
  rw[if_pos (by simpa[Array.isEmpty] using e0)]
  refine aat (aat (h _ (Ud (get?_push_size _ rfl)) (λc o _ e=>up c o e) λ_=>rfl))
 |cons k0 ks0 =>
  refine aar (zL0 (s:={ s with heap:=_ }) (get?_push_size _ rfl) (adu la) g1 hl λh' sb g'=>?_)
  exact aat (h h' g' (λc o hc e=>by rw[sb.2 c (aa0 hc)];exact up c o e) λz=>by cases z)
theorem Ur{α:Type}(xs:Array α)(p:Nat):(eraseAt xs p).toList=xs.toList.eraseIdx p:=by
 unfold eraseAt
 rw[Array.toList_append,List.eraseIdx_eq_take_drop_succ,Array.toList_extract,Array.toList_extract]
 simp[List.extract_eq_take_drop]
 exact List.take_of_length_le (by rw[length_drop,length_toList];omega)
theorem zVb{α:Type}(xs:Array α)(p:Nat)(x:α):(insertAt xs p x).size=xs.size+1:=by
 unfold insertAt
 simp
 omega
theorem Us(hr:Rz xs)(p:Nat):Rz (eraseAt xs p):=by
 intro i k a b hik ha hb
 rw[<-getElem?_toList,Ur,List.getElem?_eraseIdx] at ha hb
 have q:∀j,xs.toList[j]?=xs[j]?:=λj=>getElem?_toList
 split at ha<;>split at hb
 ·exact hr i k a b hik (by rw[<-q];exact ha) (by rw[<-q];exact hb)
 ·exact hr i (k+1) a b (by omega) (by rw[<-q];exact ha) (by rw[<-q];exact hb)
 ·omega
 ·exact hr (i+1) (k+1) a b (by omega) (by rw[<-q];exact ha) (by rw[<-q];exact hb)
theorem zPo(hdec:∀k v,knd.is k v=true->dec v=k){Q:Bool->Shared->Prop}(hk:knd.is k x=true)(hs:x.scannable=true)(g:Good knd dec led s.heap a ks)(h:∀(h':Heap) (b:Bool),SameBut a s.heap h'->Good knd dec led h' a (ks.erase k)->Q b { s with heap:=h' }) :
  wpAny (model prog w) A (setDiscardHashed a x (knd.hash k)) Q E s:=by
 obtain⟨o,es,ep,t,ho,hx,hd,hel,hp,nd,hb,hf,tb⟩:=id g
 unfold setDiscardHashed
 refine aar ?_
 unfold setFind setFindIn
 refine aar (abd ho hd hf ?_)
 dsimp only
 rw[byScan_of hs hb hel]
 simp only[↓reduceIte]
 refine aar (ad7 (aar (wpAny_setScan_of hk ho hd hf hel ?_)))
 have fi:=zJ5 hdec hel k
 cases hr:List.findIdx? (λe=>knd.is k e.2) es.toList with
 |none =>
  have hm:k∉ks:=λz=>fi.mp hr (hp.mem_iff.mpr z)
  dsimp only
  refine aat (aat ?_)
  have q:=h s.heap false (SameBut.refl a s.heap)
  rw[List.erase_of_not_mem hm] at q
  exact q g
 |some j =>
  obtain⟨hj,hpj,_⟩:=List.findIdx?_eq_some_iff_getElem.mp hr
  dsimp only
  rw[ac7]
  refine aat (aar (abd ho hd hf ?_))
  dsimp only
  have pl:t.place.size=es.size:=ZW hf
  have hj':j<t.place.size:=by rw[pl,<-length_toList];exact hj
  have sz:(eraseAt es j).size=es.size-1:=by rw[<-length_toList,Ur,length_eraseIdx,if_pos hj,length_toList]
  have ed:t.drop j={ t with place:=eraseAt t.place j,dummies:=insertAt t.dummies (below t.dummies t.place[j]) t.place[j] }:=by
   unfold SetTable.drop
   rw[aaw hj']
  have jz:j<es.size:=by rw[<-length_toList];exact hj
  have ft:(t.drop j).fits (eraseAt es j).size=true:=by
   rw[ed]
   unfold fits aez at hf ⊢
   have e1:(eraseAt t.place j).size=es.size-1:=by rw[<-length_toList,Ur,length_eraseIdx,length_toList,if_pos hj',pl]
   dsimp only
   rw[e1,zVb,sz]
   rw[aaz,decide_eq_true_eq] at hf
   rw[aaz,decide_eq_true_eq]
   refine⟨by simp,?_⟩
   have:=hf.2
   omega
  have tb':Tb led (t.drop j):=by
   rw[ed]
   exact⟨tb.led,λz=>Us (tb.rz z) j⟩
  have hp':((eraseAt es j).toList.map λe=>dec e.2).Perm (ks.erase k):=by
   rw[Ur]
   have p1:=((W0 hj).map λe=>dec e.2).trans hp
   rw[map_cons,hdec k _ hpj] at p1
   have p2:=p1.erase k
   rw[List.erase_cons_head] at p2
   exact p2
  refine aar (acr ho hd (aar (wpAny_point (aat (h _ true (SameBut.update _ a _) ⟨_,_,_,_,JV (es':=eraseAt es j) (t':=t.drop j) ho hd,hx,rfl,λe he=>?_,hp',nd.erase k,by rw[sz];omega,ft,tb'⟩)))) (acq (by rw[sz];omega)))
  rw[Ur] at he
  exact hel e (List.mem_of_mem_eraseIdx he)
theorem Ho{Q:Unit->Shared->Prop}(g:Good knd dec led s.heap a ks)(hw:ks.length<=63)(h:∀h',SameBut a s.heap h'->Good knd dec led h' a ks->Q () { s with heap:=h' }):wpAny (model prog w) A (setTidy a) Q E s:=by
 obtain⟨o,es,ep,t,ho,hx,hd,hel,hp,nd,hb,hf,tb⟩:=id g
 have ln:es.size=ks.length:=by rw[<-hp.length_eq,length_map,length_toList]
 unfold setTidy
 refine aar (abd ho hd hf ?_)
 dsimp only
 split
 ·have e:grown es.size=ks.length*4:=by unfold grown;rw[if_neg (by omega),ln]
  rw[e]
  exact zUe g (by omega) (by omega) h
 ·exact aat (h _ (SameBut.refl a s.heap) g)
theorem zN9(g:Good knd dec (yF w) s.heap a ks)(hs:∀b∈others,∃ks:List κ,Good knd dec (yF w) s.heap b ks)(hn:∀k v,knd.is k v=true->∀b,v≠.ref b){Q:Array (Int×Value)->Shared->Prop}(h:∀(es:Array (Int×Value)),ElemsOf knd es.toList->(es.toList.map λe=>dec e.2).Perm ks->Q es s):wpAny (model prog w) A (setWalkUnseen a others none) Q E s:=by
 obtain⟨o,es,ep,t,h1,h2,h3,hf,hl,tb,hel,hp⟩:=g.size
 unfold setWalkUnseen
 refine aar (abd h1 h3 hf ?_)
 dsimp only
 refine aar (Nr ?_)
 split
 ·rename_i c
  refine zPw g (λhb o' es' ep' t' h1' h3'=>?_) λes' qm hp'=>h es' qm hp'
  rw[h1] at h1'
  cases h1'
  rw[h3] at h3'
  cases h3'
  rw[hb] at c
  simp only[aef,acs,aaz,decide_eq_true_eq] at c
  rcases c with⟨_,c⟩|c
  ·rw[c];rfl
  ·rw[decide_eq_false (by omega),ae6]
 ·refine aar (zM0 (knd:=knd) (dec:=dec) (led:=yF w) (a::others) (λb hb=>(mem_cons.mp hb).elim (λe=>e▸⟨ks,g⟩) (hs b)) hn ?_)
  simp only[ab4,aa1,↓reduceIte]
  exact aar (ad7 (aat (h es hel hp)))
theorem Hq(hdec:∀k v,knd.is k v=true->dec v=k)(id:String)(hn:∀k v,knd.is k v=true->∀b,v≠.ref b)(hab:b≠r)(ga:Good knd dec (yF w) s.heap r ka)(gb:Good knd dec (yF w) s.heap b kb)(hl:ka.length<=63)(hs:¬kb.length/8 > ka.length){Q:Unit->Shared->Prop}(h:∀(h':Heap) (kr:List κ),SameBut r s.heap h'->Good knd dec (yF w) h' r kr->(∀k,k∈kr↔k∈ka/\k∉kb)->Q () { s with heap:=h' }) :
  wpAny (model prog w) A (Builtin.Frozenset.differenceUpdate id r (.ref b)) Q E s:=by
 obtain⟨o,es,ep,t,h1,h2,h3,hf,hlb,tb,hel,hp⟩:=gb.size
 have nda:ka.Nodup:=by obtain⟨_,_,_,_,_,_,_,_,_,nd,_⟩:=ga;exact nd
 unfold Builtin.Frozenset.differenceUpdate
 rw[if_neg (λe=>hab (afd (acg e)))]
 refine aar (Nv gb.type ?_)
 simp only[↓reduceIte]
 refine aar (aat ?_)
 refine aar (QK gb (aar (QK ga ?_)))
 rw[if_neg hs]
 refine aar (ach h1 h3 hf ?_)
 refine aar (abo (aar (zN9 gb (λc hc=>(mem_singleton.mp hc)▸⟨ka,ga⟩) hn λes' qm hp'=>?_)))
 rw[<-forIn_toList]
 refine aar (acn (ady (β:=Unit) _ (λl _ s'=>∃h2 kr,s'={ s with heap:=h2 }/\SameBut r s.heap h2/\Good knd dec (yF w) h2 r kr/\ElemsOf knd l/\kr.length<=63/\∀k,(k∈kr/\k∉l.map λe=>dec e.2)↔(k∈ka/\k∉kb)) (λ_ s'=>∃h2 kr,s'={ s with heap:=h2 }/\SameBut r s.heap h2/\Good knd dec (yF w) h2 r kr/\kr.length<=63/\∀k,k∈kr↔k∈ka/\k∉kb) ?turn ?fin es'.toList () ⟨s.heap,ka,rfl,SameBut.refl r s.heap,ga,qm,hl,λk=>?_⟩) ?post (λ_ _ h=>h))
 case turn =>
  rintro⟨hs',v⟩ l b' s' ⟨h2',kr,rfl,mV,g2,hl2,hlen,hm⟩
  obtain⟨⟨k,hk,hh⟩,hsc⟩:=hl2 _ mem_cons_self
  dsimp only at hk hh hsc ⊢
  subst hh
  have dv:dec v=k:=hdec k v hk
  have ndr:kr.Nodup:=by obtain⟨_,_,_,_,_,_,_,_,_,nd,_⟩:=g2;exact nd
  refine aar (abo (zPo (led:=yF w) (s:={ s with heap:=h2' }) hdec hk hsc g2 λh3' b'' wg g3=>?_))
  refine aar ?_
  unfold abu
  refine aar (ach (s:={ s with heap:=h3' }) (by show h3'.get? b=_;rw[wg.2 b hab];show h2'.get? b=_;rw[mV.2 b hab];exact h1) h3 hf ?_)
  simp only[bne_self_eq_false,aa1,↓reduceIte]
  refine aat (aat ⟨h3',kr.erase k,rfl,mV.trans wg,g3,λe he=>hl2 e (mem_cons_of_mem _ he),?_,λc=>?_⟩)
  ·have:=List.length_erase_le (a:=k) (l:=kr)
   omega
  ·rw[<-hm c,map_cons,mem_cons]
   show _↔(c∈kr/\¬(c=dec v\/_))
   rw[dv,ndr.mem_erase_iff]
   constructor
   ·rintro⟨⟨z1,z2⟩,z3⟩
    exact⟨z2,λq=>q.elim z1 z3⟩
   ·rintro⟨z1,z2⟩
    exact⟨⟨λq=>z2 (.inl q),z1⟩,λq=>z2 (.inr q)⟩
 case fin =>
  rintro b' s' ⟨h2',kr,rfl,mV,g2,_,hlen,hm⟩
  refine⟨h2',kr,rfl,mV,g2,hlen,λk=>?_⟩
  rw[<-hm k]
  simp
 case post =>
  rintro b' s' ⟨h2',kr,rfl,mV,g2,hlen,hm⟩
  refine aat ?_
  exact Ho (s:={ s with heap:=h2' }) g2 hlen λh3' wg g3=>h h3' kr (mV.trans wg) g3 hm
 ·rw[hp'.mem_iff]
end
set_option maxRecDepth 100000
theorem zHw:entryFor table "set.__sub__" = some Builtin.«frozenset.__sub__»:=aeo (id':="frozenset.__sub__") (by kernel_rfl) rfl (by decide +kernel) (by kernel_rfl)
section
variable{prog:Program}{w:World}{κ:Type}[DecidableEq κ]{knd:KeyKind prog w κ}{dec:Value->κ}{led:Bool}{A:Around}{E:Value->Shared->Prop}{s:Shared}
theorem zSt(hdec:∀k v,knd.is k v=true->dec v=k)(id:String)(hn:∀k v,knd.is k v=true->∀b,v≠.ref b)(Z7:x≠r)(W6:y≠r)(gx:Good knd dec (yF w) s.heap x kx)(gy:Good knd dec (yF w) s.heap y ky)(gr:Good knd dec (yF w) s.heap r [])(hep:∀o es e t,s.heap.get? y=some o->o.data=.set es e t->e=ep){Q:Unit->Shared->Prop}(h:∀(h':Heap) (kr:List κ),SameBut r s.heap h'->Good knd dec (yF w) h' r kr->(∀k,k∈kr↔k∈ky/\k∉kx)->Q () { s with heap:=h' }) :
  wpAny (model prog w) A (do
   for (h,x') in <-setWalkUnseen y [x,r] (some r) do
    holding [x'] do
     let there <-pure (<-setFind x x' h).isSome
     if !there then
      let _ <-setAddHashed r x' h
    abu id y ep) Q E s:=by
 obtain⟨o,es,ep',t,h1,h2,h3,hf,hl,tb,hel,hp⟩:=gy.size
 have e1:=hep o es ep' t h1 h3
 subst e1
 refine aar (zI4 gy gr (λb hb=>(mem_cons.mp hb).elim (λe=>e▸⟨kx,gx⟩) λe=>(mem_singleton.mp e)▸⟨[],gr⟩) hn λes' h' qm hp' sb Z8=>?_)
 rw[<-forIn_toList]
 have ln:es'.toList.length=ky.length:=by rw[<-hp'.length_eq,length_map]
 refine aar (acn (ady (β:=Unit) _ (λl _ s'=>∃h2 kr,s'={ s with heap:=h2 }/\SameBut r s.heap h2/\Good knd dec (yF w) h2 r kr/\ElemsOf knd l/\kr.length+l.length<=ky.length/\∀k,(k∈kr\/(k∉kx/\k∈l.map λe=>dec e.2))↔(k∈ky/\k∉kx)) (λ_ s'=>∃h2 kr,s'={ s with heap:=h2 }/\SameBut r s.heap h2/\Good knd dec (yF w) h2 r kr/\∀k,k∈kr↔k∈ky/\k∉kx) ?turn ?fin es'.toList () ⟨h',[],rfl,sb,Z8,qm,by rw[ln,length_nil];omega,λk=>?_⟩) ?post (λ_ _ h=>h))
 case turn =>
  rintro⟨hs,v⟩ l b s' ⟨h2,kr,rfl,mV,g2,hl2,hlen,hm⟩
  obtain⟨⟨k,hk,hh⟩,hsc⟩:=hl2 _ mem_cons_self
  dsimp only at hk hh hsc ⊢
  subst hh
  have kx':∀o,s.heap.get? x=some o->h2.get? x=some o:=λo e=>by rw[mV.2 x Z7];exact e
  have Z9:=gx.keep kx'
  have dv:dec v=k:=hdec k v hk
  rw[length_cons] at hlen
  have cont:∀(h3':Heap)(Cw:List κ),SameBut r s.heap h3'->Good knd dec (yF w) h3' r Cw->Cw.length+l.length<=ky.length->(∀c,(c∈Cw\/(c∉kx/\c∈l.map λe=>dec e.2))↔(c∈ky/\c∉kx)) ->
    wpAny (model prog w) A (abu id y ep') (λ_ s''=>wpAny (model prog w) A (pure (acu ())) (λq s''=>match q with|.yield _=>∃h2 kr,s''={ s with heap:=h2 }/\SameBut r s.heap h2/\Good knd dec (yF w) h2 r kr/\ElemsOf knd l/\kr.length+l.length<=ky.length/\∀k,(k∈kr\/(k∉kx/\k∈l.map λe=>dec e.2))↔(k∈ky/\k∉kx)|.done _=>∃h2 kr,s''={ s with heap:=h2 }/\SameBut r s.heap h2/\Good knd dec (yF w) h2 r kr/\∀k,k∈kr↔k∈ky/\k∉kx) E s'') E { s with heap:=h3' }:=λh3' Cw wg g3 l3 m3=>by
   unfold abu
   refine aar (ach (s:={ s with heap:=h3' }) (by show h3'.get? y=_;rw[wg.2 y W6];exact h1) h3 hf ?_)
   simp only[bne_self_eq_false,aa1,↓reduceIte]
   exact aat (aat ⟨h3',Cw,rfl,wg,g3,λe he=>hl2 e (mem_cons_of_mem _ he),l3,m3⟩)
  refine aar (abo (aar (wpAny_setFind_of (s:={ s with heap:=h2 }) hk hsc (Z9.setOf hdec) λq hq=>aar (aat ?_))))
  cases q with
  |some j =>
   have nk:k∈kx:=by simpa using hq.symm
   simp only[ad6,ab4,aa1,↓reduceIte]
   refine aat (aar (cont h2 kr mV g2 (by omega) λc=>?_))
   rw[<-hm c,map_cons,mem_cons]
   show _↔(c∈kr\/c∉kx/\(c=dec v\/_))
   rw[dv]
   constructor
   ·rintro(z|⟨z1,z2⟩)
    ·exact .inl z
    ·exact .inr ⟨z1,.inr z2⟩
   ·rintro(z|⟨z1,z2|z2⟩)
    ·exact .inl z
    ·exact absurd nk (z2▸z1)
    ·exact .inr ⟨z1,z2⟩
  |none =>
   have mk:k∉kx:=by simpa using hq.symm
   simp only[Option.isSome_none,ae7,↓reduceIte]
   refine aar (ZS (led:=yF w) (s:={ s with heap:=h2 }) hdec hk hsc g2 (by have:=gy.len;omega) λh3' b' wg g3=>?_)
   refine aat (aar (cont h3' _ (mV.trans wg) g3 ?_ λc=>?_))
   ·split
    ·omega
    ·rw[length_cons];omega
   ·rw[<-hm c,map_cons,mem_cons]
    show _↔(c∈kr\/c∉kx/\(c=dec v\/_))
    rw[dv]
    have e:c∈(if k∈kr then kr else k::kr)↔c=k\/c∈kr:=by
     split
     ·rename_i z
      exact⟨.inr,λq=>q.elim (λq=>q▸z) λq=>q⟩
     ·exact mem_cons
    rw[e]
    constructor
    ·rintro((z|z)|⟨z1,z2⟩)
     ·exact .inr ⟨z▸mk,.inl z⟩
     ·exact .inl z
     ·exact .inr ⟨z1,.inr z2⟩
    ·rintro(z|⟨z1,z2|z2⟩)
     ·exact .inl (.inr z)
     ·exact .inl (.inl z2)
     ·exact .inr ⟨z1,z2⟩
 case fin =>
  rintro b s' ⟨h2,kr,rfl,mV,g2,_,_,hm⟩
  refine⟨h2,kr,rfl,mV,g2,λk=>?_⟩
  rw[<-hm k]
  simp
 case post =>
  rintro b s' ⟨h2,kr,rfl,mV,g2,hm⟩
  exact aat (h h2 kr mV g2 hm)
 ·rw[hp'.mem_iff]
  constructor
  ·rintro(z|⟨z1,z2⟩)
   ·cases z
   ·exact⟨z2,z1⟩
  ·exactλ⟨z1,z2⟩=>.inr ⟨z2,z1⟩
theorem Hr(hdec:∀k v,knd.is k v=true->dec v=k)(id:String)(hn:∀k v,knd.is k v=true->∀b,v≠.ref b)(hab:b≠a)(ga:Good knd dec (yF w) s.heap a ka)(gb:Good knd dec (yF w) s.heap b kb)(hl:ka.length<=63){Q:Value->Shared->Prop}(h:∀(h':Heap) (kr:List κ),Good knd dec (yF w) h' s.heap.objs.size kr->(∀k,k∈kr↔k∈ka/\k∉kb)->(∀c o,c<s.heap.objs.size->s.heap.get? c=some o->h'.get? c=some o)->Q (.ref s.heap.objs.size) { s with heap:=h' }) :
  wpAny (model prog w) A (Builtin.Frozenset.difference id a (.ref b)) Q E s:=by
 have la:a<s.heap.objs.size:=by obtain⟨o,_,_,_,h1,_⟩:=ga;exact lt_size h1
 have lb:b<s.heap.objs.size:=by obtain⟨o,_,_,_,h1,_⟩:=gb;exact lt_size h1
 unfold Builtin.Frozenset.difference
 refine aar (Nv gb.type ?_)
 simp only[ab4,aa1,Bool.false_and,↓reduceIte]
 refine aar (aat ?_)
 refine aar (QK gb (aar (QK ga ?_)))
 split
 ·rename_i c
  refine aar (ad7 (aar (Hl ga (by omega) λh' g' k' _=>?_)))
  refine aar (aat ?_)
  refine aar (abo (Hq (s:={ s with heap:=h' }) hdec id hn (aa0 lb) g' (gb.keep λo e=>k' b o lb e) hl (by omega) λh2 kr sb g2 m=>aat (h h2 kr g2 m λc o hc e=>?_)))
  rw[sb.2 c (aa0 hc)]
  exact k' c o hc e
 ·refine aar (Z_ ga.type (aar (zFi ?_)))
  refine aar (aat ?_)
  have up:∀c o,s.heap.get? c=some o->(s.heap.push { cls:=.type "set",dict:=none,data:=.set #[] 0 (.fresh 0 0 (yF w)) }).get? c=some o:=λc o e=>get?_push_of_some _ e
  have JX:=ga.keep (up a)
  have JZ:=gb.keep (up b)
  have QL:Good knd dec (yF w) (s.heap.push { cls:=.type "set",dict:=none,data:=.set #[] 0 (.fresh 0 0 (yF w)) }) s.heap.objs.size []:=Ud (get?_push_size _ rfl)
  generalize hp:s.heap.push { cls:=.type "set",dict:=none,data:=.set #[] 0 (.fresh 0 0 (yF w)) }=hq at up JX JZ QL ⊢
  obtain⟨o,es,ep,t,h1,h2,h3,hf,hl,tb,hel,hpp⟩:=JX.size
  refine aar (ach (s:={ s with heap:=hq }) h1 h3 hf ?_)
  refine aar (abo (zSt (s:={ s with heap:=hq }) hdec id hn (aa0 lb) (aa0 la) JZ JX QL (λo' es' e' t' z1 z2=>?_) λh' kr sb g m=>aat (h h' kr g m λc o hc e=>?_)))
  ·have z1':hq.get? a=some o':=z1
   rw[h1] at z1'
   cases z1'
   rw[h3] at z2
   cases z2
   rfl
  ·rw[sb.2 c (aa0 hc)];exact up c o e
theorem NP(hdec:∀k v,knd.is k v=true->dec v=k)(hn:∀k v,knd.is k v=true->∀b,v≠.ref b)(hab:b≠a)(ga:Good knd dec (yF w) s.heap a ka)(gb:Good knd dec (yF w) s.heap b kb)(hl:ka.length<=63){Q:Value->Shared->Prop}(h:∀(h':Heap) (kr:List κ),Good knd dec (yF w) h' s.heap.objs.size kr->(∀k,k∈kr↔k∈ka/\k∉kb)->(∀c o,c<s.heap.objs.size->s.heap.get? c=some o->h'.get? c=some o)->Q (.ref s.heap.objs.size) { s with heap:=h' }) :
  wpAny (model prog w) A (binaryOp .Sub (.ref a) (.ref b)) Q E s:=by
 refine wpAny_binaryOp_same (op:=.Sub) (T:="set") ga.type gb.type F.fills_set_sub F.slot_set_sub (acj F.slot_set_sub ga.type zHw ?_ (F.args_set_sub_2 _ _))
 refine aar (m:=ade "__sub__" ⟨[.ref a,.ref b],[]⟩) ?_
 unfold ade slotArgs
 refine aat ?_
 dsimp only
 refine aar (aar (Nv ga.type ?_))
 refine Nv gb.type ?_
 simp only[ab4,aa1,↓reduceIte]
 refine aar (aat (aar (Hr hdec _ hn hab ga gb hl λh' kr g m k=>aat ⟨.ref s.heap.objs.size,rfl,?_,h h' kr g m k⟩)))
 exactλz=>Value.noConfusion z
end
set_option maxRecDepth 100000
section
variable{prog:Program}{w:World}{κ:Type}[DecidableEq κ]{knd:KeyKind prog w κ}{dec:Value->κ}{led:Bool}{A:Around}{E:Value->Shared->Prop}{s:Shared}
end
end rH
namespace L2
open PySem PySem.Spec PyProof.Rows rH
section
variable{X:Cx}
def J5(ta tb:Nt):Nt:=λσ H Q=>ta σ H λks H1=>ks.length<64/\tb σ H1 λjs H2=>∀rs:LI,rs.Nodup->(∀z,z∈rs↔z∈ks/\z∉js)->Q rs H2
theorem Hs(ha:JW X a ta)(hb:JW X b tb):JW X (.BinOp a .Sub b pos) (J5 ta tb):=by
 intro pins s σ H Q I h
 refine wpAny_BinOp (aM (ha pins s σ H _ I h) λu s1 ⟨p,ks,H1,e,I1,g,fo,hl,h1⟩=>?_)
 subst e
 obtain⟨o,es,ep,t,go,gx,gd,_⟩:=id g
 have I1':=I1.pinned (fp:=[p]) (λb hb=>by rw[mem_singleton.mp hb];exact fo) (λb hb=>by
  rw[mem_singleton.mp hb]
  exact⟨o,go,λv z=>by rw[gd] at z;cases z⟩)
 refine aM (hb _ s1 σ H1 _ I1' h1) λu2 s2 ⟨p2,js,H2,e2,I2,g2,fo2,q2⟩=>?_
 subst e2
 have pm:(p,o)∈X.pn++(pins++K5 [p] s1.heap):=mem_append_right _ (mem_append_right _ (Qj (mem_singleton.mpr rfl) go))
 have kp:s2.heap.get? p=some o:=(I2.pin (p,o) pm).1
 have g1:=g.keep (h':=s2.heap) λo' e'=>by rw[go] at e';cases e';exact kp
 have ne:p2≠p:=abv (fo2.2.2.2.2.2 (p,o) pm)
 have I3:=I2.iw
 refine NP Z2 (λk v hk b z=>?_) ne g1 g2 (aer hl) λh' kr g3 m k=>?_
 ·obtain⟨t,rfl⟩:=ado hk
  cases z
 ·have I4:=I3.kept (h':=h') (t':=s2.toks) λb o e=>k b o (lt_size e) e
  obtain⟨_,_,_,_,_,_,_,_,_,nd,_⟩:=id g3
  exact⟨_,kr,H2,rfl,I4,g3,I3.mL (aav _) (I3.hok.fresh (aav _)),q2 kr nd m⟩
end
end L2
namespace Ts
open PySem L2
def QM(ns ms:LI):Option LI:=if ns.length<64/\ms.length<4000 then some (uT (ns.filter λz=>!decide (z∈ms))) else none
section
variable{K:PySem.W.Frag}{B:Bs}{sl:SL K}{md:Md}{t1 t2:TE}
theorem zPl(h1:Ex B sl .hp t1 m1)(h2:Ex B sl .hp t2 m2):Eo B sl md (W5 (J5 (QD K t1) (QD K t2))) (m1.bind λa=>m2.bind λb=>QM a b):=λc hc F O H σ Q s k=>by
 obtain⟨ns,ms,ha,hb,hf⟩:=pL hc
 unfold QM at hf
 split at hf
 case isFalse=>cases hf
 rename_i hl
 cases hf
 refine h1 ns ha F O H σ _ s λv F' H' g r1=>?_
 obtain⟨p,vs,rfl,z1,z2⟩:=r1
 have z3:vs=ns.map V.int:=z2.vals
 subst z3
 refine⟨p,ns,rfl,bx.of z1,aa2 hl.1 (by decide),λks nd hm=>⟨aa5 (QJ nd λz hz=>(hm z).mp hz) hl.1,?_⟩⟩
 refine h2 ms hb F' O H' σ _ (s.grow g) λw F2 H2 g2 r2=>?_
 obtain⟨p',vs',rfl,y1,y2⟩:=r2
 have y3:vs'=ms.map V.int:=y2.vals
 subst y3
 refine⟨p',ms,rfl,bx.of y1,hl.2,λjs jd hj rs rd hr=>⟨aa5 (QJ rd λz hz=>(hm z).mp ((hr z).mp hz).1) hl.1,λl us hn p1 p2=>?_⟩⟩
 have e:us=uT (ns.filter λz=>!decide (z∈ms)):=QH (Ug p2 (p1.nodup_iff.mpr rd)) (QG _) λz=>by rw[p1.mem_iff,hr,hm,hj,cX,mem_filter,Bool.not_eq_true',decide_eq_false_iff_not]
 subst e
 exact k l _ F2 H2 (g.trans g2) hn (JD _)
end
end Ts
namespace L2
open PySem PySem.Spec PyProof.Rows
theorem zx:bootBuiltins "zip" = some (.type "zip"):=by decide +kernel
structure qW(K:PySem.W.Frag)(C:Addr)(m:Str)(f:Addr):Prop where
 sp:specialIn K (.ref C) "__getattribute__" = some (some (.builtin "type.__getattribute__"))
 rd:PySem.W.readsIn K C (.type "type")=true
 at_:PySem.W.findCls K (.ref C) (.type "type") m=some (.val (.ref f))
 kp:keepIn K (.ref f)=true
section
variable{X:Cx}{CX:yr}{k:Nat}{f C:Addr}{fd:FuncData}{ps:List Str}{sp:Sp}{lR:List V}{ds:List Value}{E:XK}{x m:Str}{p pos apos:Pos}{e o:Expr}{es:List Expr}{ta:TE}{t:TA}
theorem tE(hg:Gl X x)(hm:X.mg x=some (.ref C))(c:qW X.K C m f)(F:aq X.prog X.w X.K X.mg X.base CX k f fd ps sp)(hr:bT k X.A)(hb:Binds X.K fd ps ds)(hd:Vals lR ds)(hx:FT CX X E)(ha:PA X (e::es) t)(hdb:(x==("__debug__":Str))=false:=by decide)(hst:starEach (e::es) X.env=(false,eval e X.env)::starEach es X.env:=by rfl)(hpl:(backTo pos (starEach es X.env)).any (·.1)=false:=by rfl)(ht:eval (.Call (.Attribute (.Name x p) m apos) (e::es) [] pos) X.env=(do
   let ov <-eval (.Name x p) X.env
   standAt apos.atName
   let(f,first) <-holding [ov] (getMethod ov m pl)
   callWith pos f first (backTo pos (starEach (e::es) X.env)) (backToKw pos (keywordEach [] X.env))):=by rfl) :
  PE X (.Call (.Attribute (.Name x p) m apos) (e::es) [] pos) (RV sp lR E t):=by
 intro pins s σ H Q I h
 refine ae0 (pl:=pl) (Rw I hg hm ?_ hdb) ht
 refine PySem.W.method_cls I.jV c.sp (PySem.W.cls_value I.jV c.rd c.at_ rfl ?_)
 have I':=I.tok (s.toks+1)
 refine ae2 (first:=[]) (h₀:=X.base) I.ok.mod.Qc c.kp (aM (ha pos pins _ σ H _ I' h) λus s1 ⟨vs,H1,I1,r,q⟩=>⟨I1.jV,?_⟩) hst hpl
 exact V9 F hr hb hd hx I1 r q
end
end L2
namespace Sy
open PySem L2
inductive Tr where
 |all
 |mark (x:Str)
 |one (i:Fin 7) (t:Tr)
 |two (i:Fin 4) (l r:Tr)
def w1(i:Fin 7):Str:=(["not","somenext","eachnext","somealways","eachalways","someever","eachever"]:List Str).getD i.val aea
def w2(i:Fin 4):Str:=(["both","either","sometill","eachtill"]:List Str).getD i.val aea
def Tr.depth:Tr->Nat
 |.all=>0
 |.mark _=>0
 |.one _ t=>t.depth+1
 |.two _ l r=>max l.depth r.depth+1
def Kp(p:Addr)(H H':Hp):Prop:=∀b o,b≠p->H b=some o->H' b=some o
theorem Kp.of(s:Same H H'):Kp p H H':=λb o _ e=>s b o e
theorem Kp.trans(a:Kp p H H1)(b:Kp p H1 H2):Kp p H H2:=λc o n e=>b c o n (a c o n e)
theorem Kp.put(p:Addr)(H:Hp)(o:HO):Kp p H (upd H p o):=λb u n e=>by rw[zX n];exact e
theorem aL(h:H p=none)(o:HO):Same H (upd H p o):=λb u q=>by rw[zX (zU q h)];exact q
def Bg(w:V)(q:Addr):List (Str×V):=aF "parts" (.ref q) (aF "word" w [])
def zy(w v:V)(q:Addr):List (Str×V):=aF "part" v (Bg w q)
def z_(w v u:V)(q:Addr):List (Str×V):=aF "right" u (aF "left" v (Bg w q))
def QS(x:V)(q:Addr):List (Str×V):=aF "name" x (Bg x q)
theorem bV(f:Str)(v:V):∀fs:List (Str×V),(aF f v fs).length<=fs.length+1
 |[]=>aav _
 | (g,x)::r=>by
  unfold aF
  split
  ·exact ace _
  ·exact abp (bV f v r)
theorem Xb(w:V)(q:Addr):(Bg w q).length<=2:=by
 have a1:=bV "parts" (V.ref q) (aF "word" w [])
 have a2:=bV "word" w []
 have a3:([]:List (Str×V)).length=0:=rfl
 show(aF "parts" (V.ref q) (aF "word" w [])).length<=2
 omega
structure gZ(K:PySem.W.Frag)(C:Addr):Prop where
 cl:Cls K C
 nW:aY K C "word"
 nP:aY K C "parts"
 n1:aY K C "part"
 nL:aY K C "left"
 nR:aY K C "right"
 nN:aY K C "name"
inductive Hd where
 |all
 |mark
 |one (i:Fin 7)
 |two (i:Fin 4)
def spS(K:PySem.W.Frag):Sp:=λvs H Q _=>∃(p C dx:Addr)(x y:V),vs=[.ref p,x,y]/\H p=some (.ins C dx [])/\gZ K C/\∀H':Hp,Kp p H H'->H' p=some (.ins C dx (aF "parts" y (aF "word" x [])))->Q .non H'
def rK(K:PySem.W.Frag):Sp:=λvs H Q _=>∃(p C dx:Addr)(x v:V),vs=[.ref p,x,v]/\H p=some (.ins C dx [])/\gZ K C/\∀(q:Addr)(H':Hp),Kp p H H'->H q=none->H' q=some (.tup [v])->H' p=some (.ins C dx (zy x v q))->Q .non H'
def Cz(K:PySem.W.Frag):Sp:=λvs H Q _=>∃(p C dx:Addr)(x v u:V),vs=[.ref p,x,v,u]/\H p=some (.ins C dx [])/\gZ K C/\∀(q:Addr)(H':Hp),Kp p H H'->H q=none->H' q=some (.tup [v,u])->H' p=some (.ins C dx (z_ x v u q))->Q .non H'
def NQ(C:Addr):Sp:=λvs H Q _=>∃(p dx:Addr),vs=[.ref p]/\H p=some (.ins C dx [])/\∀(q:Addr)(H':Hp),Kp p H H'->H q=none->H' q=some (.tup [])->H' p=some (.ins C dx (Bg (.str "all") q))->Q .non H'
def NT(C:Addr):Sp:=λvs H Q _=>∃(p dx:Addr)(x:V),vs=[.ref p,x]/\H p=some (.ins C dx [])/\∀(q:Addr)(H':Hp),Kp p H H'->H q=none->H' q=some (.tup [])->H' p=some (.ins C dx (QS x q))->Q .non H'
def qp(C:Addr)(w:Str):Sp:=λvs H Q _=>∃(p dx:Addr)(v:V),vs=[.ref p,v]/\H p=some (.ins C dx [])/\∀(q:Addr)(H':Hp),Kp p H H'->H q=none->H' q=some (.tup [v])->H' p=some (.ins C dx (zy (.str w) v q))->Q .non H'
def Aa(C:Addr)(w:Str):Sp:=λvs H Q _=>∃(p dx:Addr)(v u:V),vs=[.ref p,v,u]/\H p=some (.ins C dx [])/\∀(q:Addr)(H':Hp),Kp p H H'->H q=none->H' q=some (.tup [v,u])->H' p=some (.ins C dx (z_ (.str w) v u q))->Q .non H'
inductive dW(cl:Hd->Addr)(H:Hp):Addr->Tr->Prop where
 |all {p q dx:Addr}:H p=some (.ins (cl .all) dx (Bg (.str "all") q))->H q=some (.tup [])->dW cl H p .all
 |mark {p q dx:Addr} {x:Str}:H p=some (.ins (cl .mark) dx (QS (.str x) q))->H q=some (.tup [])->dW cl H p (.mark x)
 |one {p q dx c:Addr} {i:Fin 7} {t:Tr}:H p=some (.ins (cl (.one i)) dx (zy (.str (w1 i)) (.ref c) q))->H q=some (.tup [.ref c])->dW cl H c t->dW cl H p (.one i t)
 |two {p q dx c d:Addr} {i:Fin 4} {l r:Tr}:H p=some (.ins (cl (.two i)) dx (z_ (.str (w2 i)) (.ref c) (.ref d) q))->H q=some (.tup [.ref c,.ref d])->dW cl H c l->dW cl H d r->dW cl H p (.two i l r)
theorem dW.same(h:dW cl H p t)(s:Same H H'):dW cl H' p t:=by
 induction h with
 |all h1 h2=>exact .all (s _ _ h1) (s _ _ h2)
 |mark h1 h2=>exact .mark (s _ _ h1) (s _ _ h2)
 |one h1 h2 _ ih=>exact .one (s _ _ h1) (s _ _ h2) ih
 |two h1 h2 _ _ ih1 ih2=>exact .two (s _ _ h1) (s _ _ h2) ih1 ih2
def hd:Tr->Hd
 |.all=>.all
 |.mark _=>.mark
 |.one i _=>.one i
 |.two i _ _=>.two i
def hw:Tr->Str
 |.all=>"all"
 |.mark x=>x
 |.one i _=>w1 i
 |.two i _ _=>w2 i
def pts:Tr->List Tr
 |.all=>[]
 |.mark _=>[]
 |.one _ t=>[t]
 |.two _ l r=>[l,r]
theorem kw1:¬(("word":Str) = "parts"):=by decide +kernel
theorem kw2:¬(("word":Str) = "part"):=by decide +kernel
theorem kw3:¬(("word":Str) = "left"):=by decide +kernel
theorem kw4:¬(("word":Str) = "right"):=by decide +kernel
theorem kw5:¬(("word":Str) = "name"):=by decide +kernel
theorem kp2:¬(("parts":Str) = "part"):=by decide +kernel
theorem kp3:¬(("parts":Str) = "left"):=by decide +kernel
theorem kp4:¬(("parts":Str) = "right"):=by decide +kernel
theorem kp5:¬(("parts":Str) = "name"):=by decide +kernel
theorem Xc(w:V)(q:Addr):(Bg w q).lookup ("word":Str)=some w:=by unfold Bg;rw[zR,if_neg kw1,zR,if_pos rfl]
theorem Xd(w:V)(q:Addr):(Bg w q).lookup ("parts":Str)=some (.ref q):=by unfold Bg;rw[zR,if_pos rfl]
theorem Xe(w:V)(q:Addr){m:Str}(h1:¬m = "parts")(h2:¬m = "word"):(Bg w q).lookup m=none:=by
 unfold Bg
 rw[zR,if_neg h1,zR,if_neg h2]
 rfl
theorem dW.look(h:dW cl H p t):∃(dx q:Addr)(fs:List (Str×V))(cs:List Addr),H p=some (.ins (cl (hd t)) dx fs)/\fs.lookup ("word":Str)=some (.str (hw t))/\fs.lookup ("parts":Str)=some (.ref q) /\
  (∀m:Str,¬m = "word"->¬m = "parts"->¬m = "part"->¬m = "left"->¬m = "right"->¬m = "name"->fs.lookup m=none)/\H q=some (.tup (cs.map V.ref))/\Paired (dW cl H) cs (pts t):=by
 cases h with
 |all h1 h2=>exact⟨_,_,_,[],h1,Xc _ _,Xd _ _,λm a b _ _ _ _=>Xe _ _ b a,h2,.nil⟩
 |mark h1 h2 =>
  refine⟨_,_,_,[],h1,?_,?_,λm a b _ _ _ f=>?_,h2,.nil⟩
  ·unfold QS;rw[zR,if_neg kw5];exact Xc _ _
  ·unfold QS;rw[zR,if_neg kp5];exact Xd _ _
  ·unfold QS;rw[zR,if_neg f];exact Xe _ _ b a
 |one h1 h2 h3 =>
  refine⟨_,_,_,[_],h1,?_,?_,λm a b c _ _ _=>?_,h2,.cons h3 .nil⟩
  ·unfold zy;rw[zR,if_neg kw2];exact Xc _ _
  ·unfold zy;rw[zR,if_neg kp2];exact Xd _ _
  ·unfold zy;rw[zR,if_neg c];exact Xe _ _ b a
 |two h1 h2 h3 h4 =>
  refine⟨_,_,_,[_,_],h1,?_,?_,λm a b _ c d _=>?_,h2,.cons h3 (.cons h4 .nil)⟩
  ·unfold z_;rw[zR,if_neg kw4,zR,if_neg kw3];exact Xc _ _
  ·unfold z_;rw[zR,if_neg kp4,zR,if_neg kp3];exact Xd _ _
  ·unfold z_;rw[zR,if_neg d,zR,if_neg c];exact Xe _ _ b a
def n1(i:Fin 7):Str:=(["Not","SomeNext","EachNext","SomeAlways","EachAlways","SomeEver","EachEver"]:List Str).getD i.val aea
def n2(i:Fin 4):Str:=(["Both","Either","SomeTill","EachTill"]:List Str).getD i.val aea
structure Ini(P:Program)(w:World)(K:PySem.W.Frag)(mg:Str->Option Value)(base:Heap)(k:Nat)(cl fi:Hd->Addr)(di:Hd->FuncData):Prop where
 made:∀h,Mk K (cl h) (fi h)
 iA:aq P w K mg base aP k (fi .all) (di .all) ["self"] (NQ (cl .all))
 bA:Binds K (di .all) ["self"] []
 iM:aq P w K mg base aP k (fi .mark) (di .mark) ["self","name"] (NT (cl .mark))
 bM:Binds K (di .mark) ["self","name"] []
 i1:∀i,aq P w K mg base aP k (fi (.one i)) (di (.one i)) ["self","part"] (qp (cl (.one i)) (w1 i))
 b1:∀i,Binds K (di (.one i)) ["self","part"] []
 i2:∀i,aq P w K mg base aP k (fi (.two i)) (di (.two i)) ["self","left","right"] (Aa (cl (.two i)) (w2 i))
 b2:∀i,Binds K (di (.two i)) ["self","left","right"] []
 mA:mg "All" = some (.ref (cl .all))
 mM:mg "Mark" = some (.ref (cl .mark))
 m1:∀i,mg (n1 i)=some (.ref (cl (.one i)))
 m2:∀i,mg (n2 i)=some (.ref (cl (.two i)))
theorem zRq(nx:H x=none)(nd:H dx=none):Same H (upd (upd H dx (.own x)) x (.ins C dx [])):=λb o e=>by
 rw[zX (zU e nx),zX (zU e nd)]
 exact e
theorem Xf(nx:H x=none)(nd:H dx=none)(k:Kp x (upd (upd H dx (.own x)) x (.ins C dx [])) H'):Same H H':=λb o e=>k b o (zU e nx) (zRq nx nd b o e)
end Sy
namespace Ts
open PySem L2 Sy
structure bh(cl:Hd->Addr) where
 t:Tr
def dX:Hd->Tr->Bool
 |.all,.all=>true
 |.mark,.mark _=>true
 |.one i,.one j _=>decide (j=i)
 |.two i,.two j _ _=>decide (j=i)
 |_,_=>false
def bh.parts(x:bh cl):List (bh cl):=(pts x.t).map bh.mk
def bh.name(x:bh cl):Option Str:=match x.t with
 |.mark s=>some s
 |_=>none
structure mq(P:Program)(w:World)(K:PySem.W.Frag)(mg:Str->Option Value)(base:Heap)(k:Nat)(cl fi:Hd->Addr)(di:Hd->FuncData):Prop where
 ini:Ini P w K mg base k cl fi di
 kd:∀h,gZ K (cl h)
 jt:∀h h':Hd,∀t:Tr,hd t=h->kitOne K (.ref (cl h)) (.ref (cl h'))=some (dX h' t)
 c1:∀h,findIn K (.ref (cl h)) "__class__" = some (some (.builtin "object.__class__"))
 c2:specialIn K (.builtin "object.__class__") "__get__" = some (some (.builtin "getset_descriptor.__get__"))
 c3:takesIn K (.builtin "object.__class__")=some true
 c4:∀h,mroIn K (cl h) (.type "object")=some true
section
variable{K:PySem.W.Frag}{cl:Hd->Addr}
instance:Rp K (bh cl):=⟨λF v x=>∃p,v=.ref p/\dW cl F p x.t,λs ⟨p,h1,h2⟩=>⟨p,h1,h2.same s⟩⟩
instance:Nn K (bh cl):=⟨λ⟨_,h,_⟩=>by rw[h];intro e;cases e⟩
end
section
variable{K:PySem.W.Frag}{B:Bs}{F H H2:Hp}{O:Own}
theorem Ey(k:Ok B F O H)(s:Same H H2)(hx:H x=none)(e:H2 x=some o):∀md:Md,reg B (ext F H H2) H2 md x=some o
 |.hp=>e
 |.fz=>by
  show ext F H H2 x=some o
  unfold ext
  rw[hx]
  exact e
 |.nw=>by
  show dif (ext F H H2) B.H0 x=some o
  rw[vp (k.h0.free hx)]
  unfold ext
  rw[hx]
  exact e
end
section
variable{P:Program}{w:World}{K:PySem.W.Frag}{mg:Str->Option Value}{base:Heap}{B:Bs}{sl:SL K}{md:Md}{te t1 t2:TE}{cl fi:Hd->Addr}{di:Hd->FuncData}{k:Nat}
theorem Xg(h:upd (upd H dx o1) x o2 q=none):H q=none:=by
 by_cases e1:q=x
 ·subst e1;rw[zT] at h;cases h
 ·rw[zX e1] at h
  by_cases e2:q=dx
  ·subst e2;rw[zT] at h;cases h
  ·rw[zX e2] at h;exact h
theorem Ht:Ex B sl md (Lh (cl .all) (NQ (cl .all)) [] E0 bJ) (some (bh.mk (cl:=cl) .all)):=λc hc F O H σ Q s kk=>by
 cases hc
 intro x dx nx nd ne
 refine⟨x,dx,rfl,zT,λq H2 k1 f0 e1 e2=>⟨rfl,?_⟩⟩
 have s2:=Xf nx nd k1
 have g:=s.1.called s2
 exact kk (.ref x) _ H2 g ⟨x,rfl,.all (Ey s.1 s2 nx e2 md) (Ey s.1 s2 (Xg f0) e1 md)⟩
theorem Xh(h:Ex B sl md te m):Ex B sl md (Lh (cl .mark) (NT (cl .mark)) [] E0 (xS te bJ)) (m.bind λa=>some (bh.mk (cl:=cl) (.mark a))):=λc hc F O H σ Q s kk=>by
 cases m with
 |none=>cases hc
 |some a =>
  cases hc
  refine h a rfl F O H σ _ s λv F' H' g r1=>?_
  cases r1
  intro x dx nx nd ne
  refine⟨x,dx,.str a,rfl,zT,λq H2 k1 f0 e1 e2=>⟨rfl,?_⟩⟩
  have s2:=Xf nx nd k1
  have g2:=g.ok.called s2
  exact kk (.ref x) _ H2 (g.trans g2) ⟨x,rfl,.mark (Ey g.ok s2 nx e2 md) (Ey g.ok s2 (Xg f0) e1 md)⟩
theorem Xi(i:Fin 7){m:Option (bh cl)}(h:Ex B sl md te m):Ex B sl md (Lh (cl (.one i)) (qp (cl (.one i)) (w1 i)) [] E0 (xS te bJ)) (m.bind λa=>some (bh.mk (cl:=cl) (.one i a.t))):=λc hc F O H σ Q s kk=>by
 cases m with
 |none=>cases hc
 |some a =>
  cases hc
  refine h a rfl F O H σ _ s λv F' H' g r1=>?_
  obtain⟨p,rfl,sa⟩:=r1
  intro x dx nx nd ne
  refine⟨x,dx,.ref p,rfl,zT,λq H2 k1 f0 e1 e2=>⟨rfl,?_⟩⟩
  have s2:=Xf nx nd k1
  have g2:=g.ok.called s2
  exact kk (.ref x) _ H2 (g.trans g2) ⟨x,rfl,.one (Ey g.ok s2 nx e2 md) (Ey g.ok s2 (Xg f0) e1 md) (sa.same (xC g2 md))⟩
theorem Hu(i:Fin 4){m1 m2:Option (bh cl)}(h1:Ex B sl md t1 m1)(h2:Ex B sl md t2 m2):Ex B sl md (Lh (cl (.two i)) (Aa (cl (.two i)) (w2 i)) [] E0 (xS t1 (xS t2 bJ))) (m1.bind λa=>m2.bind λb=>some (bh.mk (cl:=cl) (.two i a.t b.t))):=λc hc F O H σ Q s kk=>by
 obtain⟨a,b,ha,hb,hf⟩:=pL hc
 cases hf
 refine h1 a ha F O H σ _ s λv F' H' g r1=>?_
 refine h2 b hb F' O H' σ _ (s.grow g) λw F2 H2' g2 r2=>?_
 obtain⟨p,rfl,sa⟩:=r1
 obtain⟨p2,rfl,sb⟩:=r2
 intro x dx nx nd ne
 refine⟨x,dx,.ref p,.ref p2,rfl,zT,λq H2 k1 f0 e1 e2=>⟨rfl,?_⟩⟩
 have s2:=Xf nx nd k1
 have g3:=g2.ok.called s2
 exact kk (.ref x) _ H2 (g.trans (g2.trans g3)) ⟨x,rfl,.two (Ey g2.ok s2 nx e2 md) (Ey g2.ok s2 (Xg f0) e1 md) (sa.same (xC (g2.trans g3) md)) (sb.same (xC g3 md))⟩
theorem xD(I:mq P w K mg base k cl fi di)(hh:Hd){m:Option (bh cl)}(h:Ex B sl .hp te m):Ex B sl md (sW (Gk K (.ref (cl hh))) (xS te (xS (tC (.ref (cl hh))) bJ))) (m.bind λa=>some (dX hh a.t)):=λc hc F O H σ Q s kk=>by
 cases m with
 |none=>cases hc
 |some a =>
  cases hc
  refine h a rfl F O H σ _ s λv F' H' g r1=>?_
  obtain⟨p,rfl,sa⟩:=r1
  obtain⟨dx,q,fs,cs,l1,_⟩:=sa.look
  exact⟨.ref p,.ref (cl hh),_,_,rfl,rfl,.ins l1 (I.kd (hd a.t)).cl (I.c1 _) I.c2 I.c3 (I.c4 _),I.jt (hd a.t) hh a.t rfl,kk _ F' H' g rfl⟩
theorem zPi(I:mq P w K mg base k cl fi di){m:Option (bh cl)}(h:Ex B sl .hp te m):Ex B sl md (qb K te "name") (m.bind λa=>a.name):=λc hc F O H σ Q s kk=>by
 cases m with
 |none=>cases hc
 |some a =>
  obtain⟨t⟩:=a
  cases t with
  |mark x =>
   cases hc
   refine h _ rfl F O H σ _ s λv F' H' g r1=>?_
   obtain⟨p,rfl,sa⟩:=r1
   cases sa with
   |mark e1 e2=>exact⟨p,_,_,_,_,rfl,e1,(I.kd .mark).cl,(I.kd .mark).nN,by unfold QS;rw[zR,if_pos rfl],kk _ F' H' g rfl⟩
  |_=>cases hc
theorem J6:∀{cs:List Addr}{ts:List Tr},Paired (dW cl F) cs ts->A2 (rp K F) (cs.map V.ref) (ts.map (bh.mk (cl:=cl)))
 |_,_,.nil=>trivial
 |_,_,.cons h r=>⟨⟨_,rfl,h⟩,J6 r⟩
theorem zNj{n:Bool}(I:mq P w K mg base k cl fi di){mi:Option (bh cl)}(h:Ex B sl (jD n) te mi):Ei B sl n (K3 K (qb K te "parts")) (mi.bind λa=>some a.parts):=λxs hx F O H σ R a kk=>by
 cases mi with
 |none=>cases hx
 |some y =>
  cases hx
  refine h y rfl F O H σ _ a λv F' H' gr r=>?_
  obtain⟨p,rfl,sa⟩:=r
  obtain⟨dx,q,fs,cs,l1,l2,l3,l4,l5,l6⟩:=sa.look
  have h2:A2 (rp K (reg B F' H' (jD n))) (cs.map V.ref) y.parts:=J6 l6
  have e1:=Gm gr.ok n p _ l1
  refine⟨p,_,dx,fs,.ref q,rfl,e1,(I.kd _).cl,(I.kd _).nP,l3,q,rfl,⟨_,kO.of (Gm gr.ok n q _ l5)⟩,kk _ F' H' gr λi F2 O2 H2 sf k2=>?_⟩
  have hq:kO K H2 q (cs.map V.ref):=kO.of (k2.fh _ _ (sf _ _ (by cases n with|true=>exact aZ _ _ l5|false=>exact l5)))
  refine⟨λhl=>⟨_,hq,by rw[h2.len];exact hl⟩,λx hx=>?_⟩
  obtain⟨w,hw,rw⟩:=h2.at2 hx
  refine⟨⟨_,w,hq,hw⟩,λv H3 yd=>?_⟩
  obtain⟨e,y'⟩:=yd
  subst e
  have:=(hw.symm.trans (y' _ hq))
  cases this
  exact⟨F2,.refl k2,Rp.mono (Ci n sf) rw⟩
end
theorem zWl(K:PySem.W.Frag)(hl:PE X l tl)(h:X.K=K:=by rfl):PI X tg l (K3 K tl):=by subst h;exact K4 hl
section
variable{K:PySem.W.Frag}{B:Bs}{sl:SL K}{md:Md}{te:TE}{α:Type}[Rp K α]
def CG{α:Type}(xs ys:List α):Option (List α):=if xs.length+ys.length<cap then some (xs++ys) else none
theorem zOf{n:Bool}{xs:List α}{m:Option (List α)}(i:Nat)(hs:sl[i]?=some (.ow n xs))(hh:sl.all (λs=>!mR s)=true)(h:Ex B sl (jD n) te m) :
  Sn B sl (RJ (Sd K "list" YK (fY i) (xS te bJ))) (λys=>sl.set i (.ow n ys)) (m.bind λa=>CG xs a):=λys ha G D σ H s k=>by
 cases m with
 |none=>cases ha
 |some a =>
  have ha':CG xs a=some ys:=ha
  unfold CG at ha'
  split at ha'
  case isFalse=>cases ha'
  rename_i hl
  cases ha'
  obtain⟨F,O,g,z⟩:=s
  obtain⟨p,vs,h1,h2,h3,_⟩:=z.chg hs hh
  refine⟨_,h1,.inl ⟨rfl,_,bx.of h2⟩,?_⟩
  refine h a rfl F O H σ _ z λv F' H' gr r=>?_
  obtain⟨p',vs',h1',h2',h3',h4'⟩:=(z.grow gr).chg hs hh
  have e:=h1.symm.trans h1'
  cases e
  obtain⟨q,us,rfl,z1,z2⟩:=r
  obtain⟨O',z'⟩:=h4' (vs'++us) (xs++a) (h3'.app z2)
  exact⟨p,q,_,_,rfl,rfl,h2',Gm gr.ok n q _ z1,by rw[h3'.len,z2.len];exact aco (Mg hl),k _ _ ⟨F',O',g.trans gr.ff,z'⟩⟩
end
end Ts
namespace Ut
open PySem PySem.Spec PyProof.Rows
set_option maxRecDepth 100000
section
variable{prog:Program}{w:World}{A:Around}{E:Value->Shared->Prop}{s:Shared}
theorem zVx{Q:Option Obj->Shared->Prop}(h:Q (s.heap.get? a) s):wpAny (model prog w) A (loadIfAlive a) Q E s:=λ_ _ _=>h
abbrev qt(h:Heap)(z TI TO T:Addr)(b:Bool):Prop :=
 h.get? z=some { cls:=.type "zip",dict:=none,data:=.fields #[rawInt T,.bool b,.bool false,.ref TI,.ref TO],slots:=#[] }
theorem zR9{Q:Bool->Shared->Prop}(hz:qt s.heap z TI TO T b)(hT:s.heap.get? T=some o)(h:∀h',qt h' z TI TO T true->SameBut z s.heap h'->Q false { s with heap:=h' }) :
  wpAny (model prog w) A (ab5 (.ref z)) Q E s:=by
 unfold ab5
 refine aar (aeh hz rfl (x:=rawInt T) rfl ?_)
 show wpAny _ _ (loadIfAlive ((T:Int)).toNat >>= λo=>if o.isNone=true then pure true else(field (.ref z) 1 >>= λx=>if(x != .bool true)=true then(setField (.ref z) 1 (.bool true) >>= λ_=>pure false) else pure false)) _ _ _
 refine aar (zVx ?_)
 rw[abr,hT]
 simp only[Option.isNone_some,aa1,↓reduceIte]
 refine aar (aeh hz rfl (x:=.bool b) rfl ?_)
 cases b with
 |true =>
  rw[if_neg (by decide)]
  exact aat (h s.heap hz (SameBut.refl z s.heap))
 |false =>
  rw[if_pos (by decide)]
  exact aar (wpAny_setField_rec hz (by simp) λh₁ hz₁ hs₁=>aat (h h₁ hz₁ hs₁))
theorem zO2{Q:Value->Shared->Prop}(D:ZipApart z TI TO i1 i2 l1 l2)(hz:qt s.heap z TI TO T bb)(hT:s.heap.get? T=some o)(hTI:IsPair s.heap TI (.ref i1) (.ref i2))(h1:s.heap.IsListIter i1 l1 k1)(h2:s.heap.IsListIter i2 l2 k2)(hl1:s.heap.IsList l1 xs)(hl2:s.heap.IsList l2 ys)(hx:xs[k1]?=some x)(hy:ys[k2]?=some y)(hQ:∀h',qt h' z TI TO T true->h'.IsListIter i1 l1 (k1+1)->h'.IsListIter i2 l2 (k2+1)->IsPair h' s.heap.objs.size x y->h'.objs.size=s.heap.objs.size+1 ->
   (∀c o,c≠z->c≠i1->c≠i2->s.heap.get? c=some o->h'.get? c=some o)->Q (.ref s.heap.objs.size) { s with heap:=h' }) :
  wpAny (model prog w) A (Builtin.«zip.__next__» ⟨[.ref z],[]⟩) (λfin s'=>∃v,fin=.done (.ret v)/\Q v s') E s:=by
 show wpAny _ _ (field (.ref z) 2 >>= _) _ _ _
 refine aar (aeh hz rfl (x:=.bool false) rfl ?_)
 show wpAny _ _ (field (.ref z) 3 >>= _) _ _ _
 refine aar (aeh hz rfl (x:=.ref TI) rfl ?_)
 refine aar (aee hTI rfl ?_)
 show wpAny _ _ (ab5 (.ref z) >>= _) _ _ _
 refine aar (zR9 hz hT λh₁ hz₁ hs₁=>?_)
 simp only[aa1,↓reduceIte]
 rw[<-forIn_toList]
 refine aar ?_
 simp only[forIn_cons,forIn_nil]
 refine aar (aar (abo ?_))
 show wpAny _ _ (ad0 (.ref i1) >>= _) _ _ _
 refine aar (wpAny_nextOf_list_item (h1.extBut hs₁.extBut D.i1z) (hl1.extBut hs₁.extBut D.l1z) hx λh₂ h1₂ hs₂=>aat ?_)
 refine aat ?_
 refine aar (aar (abo ?_))
 show wpAny _ _ (ad0 (.ref i2) >>= _) _ _ _
 refine aar (wpAny_nextOf_list_item ((h2.extBut hs₁.extBut D.i2z).extBut hs₂.extBut D.i12.symm) ((hl2.extBut hs₁.extBut D.l2z).extBut hs₂.extBut D.l2i1) hy λh₄ h2₄ hs₄=>aat ?_)
 refine aat (aat ?_)
 refine aar (wpAny_newTuple ?_ (by show 2<=sizeLine;decide))
 have hsz:h₄.objs.size=s.heap.objs.size:=by rw[hs₄.1,hs₂.1,hs₁.1]
 have hz₄:qt h₄ z TI TO T true:=hs₄.extBut _ _ D.i2z.symm (hs₂.extBut _ _ D.i1z.symm hz₁)
 refine aat ⟨_,rfl,?_⟩
 show Q (.ref h₄.objs.size) _
 rw[hsz]
 refine hQ _ (get?_push_of_some _ hz₄) ((h1₂.extBut hs₄.extBut D.i12).at λo e=>get?_push_of_some _ e) (h2₄.at λo e=>get?_push_of_some _ e) ?_ (by rw[size_push,hsz]) λc o c1 c3 c4 e=>get?_push_of_some _ (hs₄.extBut _ _ c4 (hs₂.extBut _ _ c3 (hs₁.extBut _ _ c1 e)))
 rw[<-hsz]
 exact get?_push_size _ rfl
theorem zRl(hh:A.handled=none)(D:ZipApart z TI TO i1 i2 l1 l2)(hz:qt s.heap z TI TO T bb)(hT:s.heap.get? T=some o)(hTI:IsPair s.heap TI (.ref i1) (.ref i2))(h1:s.heap.IsListIter i1 l1 k1)(hl1:s.heap.IsList l1 xs)(hend:xs[k1]?=none)(hE:∀h' e,(∀c o,c≠z->c≠i1->s.heap.get? c=some o->h'.get? c=some o)->(∃o,h'.get? e=some o/\o.cls=.type "StopIteration")->E (.ref e) { s with heap:=h' }) :
  wpAny (model prog w) A (Builtin.«zip.__next__» ⟨[.ref z],[]⟩) Q E s:=by
 show wpAny _ _ (field (.ref z) 2 >>= _) _ _ _
 refine aar (aeh hz rfl (x:=.bool false) rfl ?_)
 show wpAny _ _ (field (.ref z) 3 >>= _) _ _ _
 refine aar (aeh hz rfl (x:=.ref TI) rfl ?_)
 refine aar (aee hTI rfl ?_)
 show wpAny _ _ (ab5 (.ref z) >>= _) _ _ _
 refine aar (zR9 hz hT λh₁ hz₁ hs₁=>?_)
 simp only[aa1,↓reduceIte]
 rw[<-forIn_toList]
 refine aar ?_
 simp only[forIn_cons,forIn_nil]
 refine aar (aar (abo ?_))
 show wpAny _ _ (ad0 (.ref i1) >>= _) _ _ _
 refine aar (wpAny_nextOf_list_end hh (h1.extBut hs₁.extBut D.i1z) (hl1.extBut hs₁.extBut D.l1z) hend λh₂ e hs₂ he=>?_)
 exact hE h₂ e (λc o c1 c3 x=>hs₂ _ _ c3 (hs₁.extBut _ _ c1 x)) he
structure Uu(h:Heap)(S z TI TO i1 i2 l1 l2 N i:Nat)(xs ys acc:Array Value):Prop where
 sz:h.objs.size=N+i
 zz:(i=0/\IsZip h z TI TO .none/\∃a b,IsPair h TO a b)\/(0<i/\∃b,qt h z TI TO N b)
 ti:IsPair h TI (.ref i1) (.ref i2)
 h1:h.IsListIter i1 l1 i
 h2:h.IsListIter i2 l2 i
 q1:h.IsList l1 xs
 q2:h.IsList l2 ys
 ls:∃c,h.get? S=some { cls:=.type "list",dict:=none,data:=.seq acc c,slots:=#[] }
 al:acc.toList=(aax i).map λj=>abj (N+j)
 tp:∀j x y,j<i->xs[j]?=some x->ys[j]?=some y->IsPair h (N+j) x y
theorem Uu.fr{h':Heap}(Z:Uu h S z TI TO i1 i2 l1 l2 N i xs ys acc)(hne:∀b∈[z,TI,TO,i1,i2,l1,l2],b≠S)(hN:S<N)(hs:h'.objs.size=h.objs.size)(ot:∀b o,b≠S->h.get? b=some o->h'.get? b=some o)(hS:h'.get? S=some { cls:=.type "list",dict:=none,data:=.seq acc c,slots:=#[] }):Uu h' S z TI TO i1 i2 l1 l2 N i xs ys acc:=by
 obtain⟨sz,zz,ti,h1,h2,q1,q2,_,al,tp⟩:=Z
 refine⟨by rw[hs];exact sz,?_,ot _ _ (hne _ (by simp)) ti,h1.at λo e=>ot _ o (hne _ (by simp)) e,h2.at λo e=>ot _ o (hne _ (by simp)) e,q1.at λo e=>ot _ o (hne _ (by simp)) e,q2.at λo e=>ot _ o (hne _ (by simp)) e,⟨_,hS⟩,al,λj x y hj a b=>ot _ _ (by omega) (tp j x y hj a b)⟩
 rcases zz with⟨z0,z1,a,b,z2⟩|⟨z0,b,z1⟩
 ·exact .inl ⟨z0,ot _ _ (hne _ (by simp)) z1,a,b,ot _ _ (hne _ (by simp)) z2⟩
 ·exact .inr ⟨z0,b,ot _ _ (hne _ (by simp)) z1⟩
variable{R:Result->Shared->Prop}
theorem zU3{S z TI TO i1 i2 l1 l2 N n:Nat}{xs ys:Array Value}{res:Value}(hh:A.handled=none)(D:ZipApart z TI TO i1 i2 l1 l2)(hne:∀b∈[z,TI,TO,i1,i2,l1,l2],b≠S)(hlt:∀b∈[S,z,TI,TO,i1,i2,l1,l2],b<N)(hx:xs.size=n)(hy:ys.size=n)(hn:n<=1000) :
  ∀(k i:Nat)(s:Shared)(acc:Array Value),n-i=k->i<=n->Uu s.heap S z TI TO i1 i2 l1 l2 N i xs ys acc ->
  (∀h' c,(∀b o,b∉[S,z,TI,TO,i1,i2]->s.heap.get? b=some o->h'.get? b=some o)->h'.get? S=some { cls:=.type "list",dict:=none,data:=.seq ((aax n).map λj=>abj (N+j)).toArray c,slots:=#[] } ->
   (∀j x y,j<n->xs[j]?=some x->ys[j]?=some y->IsPair h' (N+j) x y)->R (.ok (.ret res)) { s with heap:=h' }) ->
  codeAny (model prog w) A (.builtin "list.extend.loop" ⟨[.ref S,.ref z,res],[]⟩) R s:=by
 have lt:∀{b:Nat},b∈[S,z,TI,TO,i1,i2,l1,l2]->∀j,N+j≠b:=λhb j e=>by have:=hlt _ hb;omega
 intro k
 induction k with
 |zero =>
  intro i s acc hk hi Z hR
  have hin:i=n:=by omega
  subst hin
  obtain⟨sz,zz,ti,h1,h2,q1,q2,⟨c,ls⟩,al,tp⟩:=Z
  refine acy F.entry_extend_loop ?_
  rw[ab9 acz _]
  show wpAny _ A.in1 (pyNext (.ref z) >>= _) _ _ s
  have ea:acc=((aax i).map λj=>abj (N+j)).toArray:=Array.toList_inj.mp al
  rcases zz with⟨z0,z1,a,b,z2⟩|⟨z0,b,z1⟩
  ·refine aar (wpAny_pyNext_zip_end (by simp[hh]) D z1 ti z2 h1 h2 q1 q2 (.inl (by rw[abf];omega)) λh' kk=>aat (hR h' c (λb o hb e=>kk b o (λz=>hb (by simp[z])) (λz=>hb (by simp[z])) (λz=>hb (by simp[z])) (λz=>hb (by simp[z])) e) ?_ λj x y hj=>by omega))
   rw[<-ea]
   exact kk _ _ (abv (hne z (by simp))) (abv (hne TO (by simp))) (abv (hne i1 (by simp))) (abv (hne i2 (by simp))) ls
  ·have hT:∃o,s.heap.get? N=some o:=by
    have x0:xs[0]?=some xs[0]:=aaw (by omega)
    have y0:ys[0]?=some ys[0]:=aaw (by omega)
    exact⟨_,tp 0 _ _ z0 x0 y0⟩
   obtain⟨oT,hT⟩:=hT
   have ty:s.TypeIs (.ref z) "zip":=⟨_,z1,rfl⟩
   refine aar ?_
   unfold pyNext
   refine aar (afe (aeb (name:=ac8 "__next__") ty aei
    (acj aei ty F.entry_zip_next (zRl (by simp[hh]) D z1 hT ti h1 q1 (by rw[abf];omega) λh' e kk he=>?_) (F.args_zip_next_1 _))))
   obtain⟨o,ho,hc⟩:=he
   refine aar (adz (T:="StopIteration") (b:=true) ⟨o,ho,hc⟩ isSubtype_stop (aat (aat (hR h' c (λb o hb e=>kk b o (λz=>hb (by simp[z])) (λz=>hb (by simp[z])) e) ?_ λj x y hj a b=>kk _ _ (lt (by simp) j) (lt (by simp) j) (tp j x y hj a b)))))
   rw[<-ea]
   exact kk _ _ (abv (hne z (by simp))) (abv (hne i1 (by simp))) ls
 |succ k ih =>
  intro i s acc hk hi Z hR
  have hl:i<n:=by omega
  obtain⟨sz,zz,ti,h1,h2,q1,q2,⟨c,ls⟩,al,tp⟩:=Z
  refine acy F.entry_extend_loop ?_
  rw[ab9 acz _]
  show wpAny _ A.in1 (pyNext (.ref z) >>= _) _ _ s
  have xi:xs[i]?=some xs[i]:=aaw (by omega)
  have yi:ys[i]?=some ys[i]:=aaw (by omega)
  have asz:acc.size=i:=by rw[<-length_toList,al];simp
  have big:1000<=sizeLine:=by decide
  have szl:acc.size<=sizeLine:=by omega
  have go:∀h',(qt h' z TI TO N true\/qt h' z TI TO N false)->h'.IsListIter i1 l1 (i+1)->h'.IsListIter i2 l2 (i+1)->IsPair h' s.heap.objs.size xs[i] ys[i]->h'.objs.size=s.heap.objs.size+1 ->
    (∀c o,c≠z->c≠TO->c≠i1->c≠i2->s.heap.get? c=some o->h'.get? c=some o)->wpAny (model prog w) A.in1 (updateSeq S (·.push (.ref s.heap.objs.size)) >>= λ_=>again (.builtin "list.extend.loop" ⟨[.ref S,.ref z,res],[]⟩)) (λfin s'=>match fin with|.done f=>R (.ok f) s'|.again c'=>c'.quiet=true/\codeAny (model prog w) A c' R s') (λe s'=>R (.error e) s') { s with heap:=h' }:=λh' hz a1 a2 a3 a4 kk=>by
   have lS:h'.get? S=some { cls:=.type "list",dict:=none,data:=.seq acc c,slots:=#[] }:=kk _ _ (abv (hne z (by simp))) (abv (hne TO (by simp))) (abv (hne i1 (by simp))) (abv (hne i2 (by simp))) ls
   have ot:∀b o,b≠S->h'.get? b=some o->(h'.update S (abz (·.push (abj s.heap.objs.size)))).get? b=some o:=λb o n e=>(get?_update_other _ _ (abv n)).trans e
   have kL:∀b o,b≠S->b≠z->b≠TO->b≠i1->b≠i2->s.heap.get? b=some o->(h'.update S (abz (·.push (abj s.heap.objs.size)))).get? b=some o:=λb o n0 n1 n2 n3 n4 e=>ot b o n0 (kk b o n1 n2 n3 n4 e)
   refine aar (adh (s:={ s with heap:=h' }) lS rfl (aat ⟨adl acz _,ih (i+1) _ (acc.push (.ref s.heap.objs.size)) (by omega) hl ⟨?_,.inr ⟨aen _,?_⟩,kL _ _ (hne _ (by simp)) D.TIz D.TITO D.TIi1 D.TIi2 ti,a1.at λo e=>ot _ o (hne _ (by simp)) e,a2.at λo e=>ot _ o (hne _ (by simp)) e,q1.at λo e=>kL _ o (hne _ (by simp)) D.l1z D.l1TO D.l1i1 D.l1i2 e,q2.at λo e=>kL _ o (hne _ (by simp)) D.l2z D.l2TO D.l2i1 D.l2i2 e,⟨_,get?_update_self _ lS rfl⟩,?_,λj x y hj a b=>?_⟩ λh2' c2 k2 e2 p2=>hR h2' c2 (λb o hb e=>k2 b o hb ?_) e2 p2⟩) szl)
   ·show(h'.update S _).objs.size=_
    rw[size_update,a4,sz];omega
   ·rcases hz with hz|hz
    ·exact⟨true,ot _ _ (hne _ (by simp)) hz⟩
    ·exact⟨false,ot _ _ (hne _ (by simp)) hz⟩
   ·rw[toList_push,al,range_succ,map_append,sz];rfl
   ·by_cases hji:j=i
    ·subst hji
     rw[xi] at a
     rw[yi] at b
     cases a
     cases b
     rw[<-sz]
     exact ot _ _ (by rw[sz];exact lt (by simp) j) a3
    ·exact kL _ _ (lt (by simp) j) (lt (by simp) j) (lt (by simp) j) (lt (by simp) j) (lt (by simp) j) (tp j x y (by omega) a b)
   ·exact kL b o (λz=>hb (by simp[z])) (λz=>hb (by simp[z])) (λz=>hb (by simp[z])) (λz=>hb (by simp[z])) (λz=>hb (by simp[z])) e
  rcases zz with⟨z0,z1,a,b,z2⟩|⟨z0,b,z1⟩
  ·refine aar (wpAny_pyNext_zip_item D z1 ti z2 h1 h2 q1 q2 xi yi λh' b1 b2 b3 b4 b5 b6 b7=>go h' (.inr ?_) b3 b4 b5 b6 b7)
   have e0:s.heap.objs.size=N:=by rw[sz,z0,Nat.add_zero]
   rw[e0] at b1
   exact b1
  ·have hT:∃o,s.heap.get? N=some o:=by
    have x0:xs[0]?=some xs[0]:=aaw (by omega)
    have y0:ys[0]?=some ys[0]:=aaw (by omega)
    exact⟨_,tp 0 _ _ z0 x0 y0⟩
   obtain⟨oT,hT⟩:=hT
   have ty:s.TypeIs (.ref z) "zip":=⟨_,z1,rfl⟩
   refine aar ?_
   unfold pyNext
   exact aar (afe (aeb (name:=ac8 "__next__") ty aei
    (acj aei ty F.entry_zip_next
     (zO2 D z1 hT ti h1 h2 q1 q2 xi yi λh' b1 b3 b4 b5 b6 b7=>aat (go h' (.inl b1) b3 b4 b5 b6 λc o c1 _ c3 c4 e=>b7 c o c1 c3 c4 e)) (F.args_zip_next_1 _))))
theorem zN0:typeLookup (.type "zip") "__len__" = pure none:=by rw[ad4,ac4];kernel_rfl
theorem zK3:typeLookup (.type "zip") "__length_hint__" = pure none:=by rw[ad4,ac4];kernel_rfl
theorem zPg{xs ys:Array Value}(hh:A.handled=none)(D:ZipApart z TI TO i1 i2 l1 l2)(hne:∀b∈[z,TI,TO,i1,i2,l1,l2],b≠S)(hlt:∀b∈[S,z,TI,TO,i1,i2,l1,l2],b<N)(hx:xs.size=n)(hy:ys.size=n)(hn:n<=1000)(hz:IsZip s.heap z TI TO .none)(hS:s.heap.get? S=some { cls:=.type "list",data:=.seq #[] c₀ })(Z:Uu s.heap S z TI TO i1 i2 l1 l2 N 0 xs ys #[])(hR:∀h' c,(∀b o,b∉[S,z,TI,TO,i1,i2]->s.heap.get? b=some o->h'.get? b=some o)->h'.get? S=some { cls:=.type "list",dict:=none,data:=.seq ((aax n).map λj=>abj (N+j)).toArray c,slots:=#[] } ->
   (∀j x y,j<n->xs[j]?=some x->ys[j]?=some y->IsPair h' (N+j) x y)->R (.ok (.ret res)) { s with heap:=h' }) :
  wpAny (model prog w) A.in1 (ab0 (.ref S) (.ref z) res)
   (λfin s'=>match fin with|.done f=>R (.ok f) s'|.again c'=>c'.quiet=true/\codeAny (model prog w) A c' R s') (λe s'=>R (.error e) s') s:=by
 have hT:s.TypeIs (.ref z) "zip":=⟨_,hz,rfl⟩
 have hSI:S≠z:=abv (hne z (by simp))
 unfold ab0
 refine aar (afs hT ?_)
 have h1:ada (.ref S) (.ref z)=false:=by simp[ada,hSI]
 have h2:(ac3 "zip" == ac3 "list")=false:=by decide
 have h3:(ac3 "zip" == ac3 "tuple")=false:=by decide
 simp only[h1,h2,h3,Bool.or_false,aa1,if_false]
 refine aar (wpAny_pyIter_zip hz ?_)
 refine aar (abo ?_)
 unfold ac0
 refine aar (ae5 hT zN0 ?_)
 show wpAny _ A.in1 (specialOf (abj z) (ac8 "__length_hint__") >>= _) _ _ _
 refine aar (ae5 hT zK3 ?_)
 refine aat ?_
 show wpAny _ A.in1 (rule "list.extend.makes-room" >>= λ_=>Builtin.List.listTouch (.ref S) >>= λ_ =>
  again (.builtin "list.extend.loop" ⟨[.ref S,.ref z,res],[]⟩)) _ _ _
 refine aar (ad7 ?_)
 refine aar ?_
 show wpAny _ A.in1 (updateSeq S (·.push .none) >>= λ_=>updateSeq S (·.pop)) _ _ _
 refine aar (adh hS rfl ?_)
 have hS₂:=get?_update_self (abz (·.push adb)) hS rfl
 refine adh (hz:=by seq_fits) hS₂ rfl ?_
 have hS₃:=get?_update_self (abz (·.pop)) hS₂ rfl
 have oth:∀b o,b≠S->s.heap.get? b=some o->((s.heap.update S (abz (·.push adb))).update S (abz (·.pop))).get? b=some o :=
  λb o hb e=>(get?_update_other _ _ (abv hb)).trans ((get?_update_other _ _ (abv hb)).trans e)
 refine aat ⟨adl acz _,zU3 hh D hne hlt hx hy hn n 0 _ #[] rfl (abk _) (Z.fr hne (hlt S (by simp)) (by rw[size_update,size_update]) oth hS₃) λh' c k e p=>?_⟩
 exact hR h' c (λb o hb e=>k b o hb (oth b o (λz=>hb (by simp[z])) e)) e p
end
section
variable{prog:Program}{w:World}{A:Around}{E:Value->Shared->Prop}{s:Shared}
theorem zIu{xs ys:Array Value}{Q:Value->Shared->Prop}(hh:A.handled=none)(D:ZipApart z TI TO i1 i2 l1 l2)(hlt:∀b∈[z,TI,TO,i1,i2,l1,l2],b<s.heap.objs.size)(hx:xs.size=n)(hy:ys.size=n)(hn:n<=1000)(hz:IsZip s.heap z TI TO .none)(hTI:IsPair s.heap TI (.ref i1) (.ref i2))(hTO:IsPair s.heap TO a b)(h1:s.heap.IsListIter i1 l1 0)(h2:s.heap.IsListIter i2 l2 0)(q1:s.heap.IsList l1 xs)(q2:s.heap.IsList l2 ys)(h:∀h' c,(∀b o,b∉[z,TI,TO,i1,i2]->s.heap.get? b=some o->h'.get? b=some o)->h'.get? s.heap.objs.size=some { cls:=.type "list",dict:=none,data:=.seq ((aax n).map λj=>abj (s.heap.objs.size+1+j)).toArray c,slots:=#[] } ->
   (∀j x y,j<n->xs[j]?=some x->ys[j]?=some y->IsPair h' (s.heap.objs.size+1+j) x y)->Q (.ref s.heap.objs.size) { s with heap:=h' }) :
  wpAny (model prog w) A (call (.type "list") [.ref z]) Q E s:=by
 refine callType_codes (Q₁:=λobj s₁=>obj=.ref s.heap.objs.size/\s₁={ s with heap:=s.heap.push { cls:=.type "list",data:=.seq #[] } }) F.called_list (F.typeCall_list_1 _) F.entry_list_init
  (code_list_new _ ⟨rfl,rfl⟩) λobj s₁ h₁=>?_
 obtain⟨rfl,rfl⟩:=h₁
 have hS:(s.heap.push { cls:=.type "list",data:=.seq #[] }).get? s.heap.objs.size=some { cls:=.type "list",data:=.seq #[] }:=get?_push_size _ rfl
 refine⟨⟨_,hS,rfl⟩,F.args_list_init_2 _ _,?_⟩
 have up:∀c o,s.heap.get? c=some o->(s.heap.push { cls:=.type "list",data:=.seq #[] }).get? c=some o:=λc o e=>get?_push_of_some _ e
 generalize hS0:s.heap.objs.size=S at *
 have sz1:(s.heap.push { cls:=.type "list",data:=.seq #[] }).objs.size=S+1:=by rw[size_push,hS0]
 generalize hpp:s.heap.push { cls:=.type "list",data:=.seq #[] }=hp at *
 show wpAny _ A.in1.in1 (do let old <-Builtin.List.listItems (.ref S);Builtin.List.listUpdate (.ref S) (λ_=>#[]);letGo old.toList.reverse;ab0 (.ref S) (.ref z) .none) _ _ _
 refine aar ?_
 unfold Builtin.List.listItems
 refine aar (aee (s:={ s with heap:=hp }) hS rfl (aat ?_))
 show wpAny _ A.in1.in1 (updateSeq S (λ_=>#[]) >>= λ_=>letGo (#[]:Array Value).toList.reverse >>= λ_=>ab0 (.ref S) (.ref z) .none) _ _ _
 refine aar (adh (s:={ s with heap:=hp }) hS rfl ?_)
 have hS₂:=get?_update_self (abz (λ_=>(#[]:Array Value))) hS rfl
 have oth:∀b o,b≠S->hp.get? b=some o->(hp.update S (abz (λ_=>(#[]:Array Value)))).get? b=some o:=λb o hb e=>(get?_update_other _ _ (abv hb)).trans e
 have J7:∀b o,b∈[z,TI,TO,i1,i2,l1,l2]->s.heap.get? b=some o->(hp.update S (abz (λ_=>(#[]:Array Value)))).get? b=some o:=λb o hb e=>oth b o (aa0 (hlt b hb)) (up b o e)
 refine aar (wpAny_letGo ?_)
 have hne:∀b∈[z,TI,TO,i1,i2,l1,l2],b≠S:=λb hb=>aa0 (hlt b hb)
 refine zPg (s:={ s with heap:=_ }) (N:=S+1) (by simp[hh]) D hne (λb hb=>?_) hx hy hn (J7 _ _ (by simp) hz) hS₂ ⟨by rw[size_update,sz1],.inl ⟨rfl,J7 _ _ (by simp) hz,a,b,J7 _ _ (by simp) hTO⟩,J7 _ _ (by simp) hTI,h1.at λo e=>J7 _ o (by simp) e,h2.at λo e=>J7 _ o (by simp) e,q1.at λo e=>J7 _ o (by simp) e,q2.at λo e=>J7 _ o (by simp) e,⟨_,hS₂⟩,rfl,λj x y hj=>absurd hj (aej _)⟩ λh' c k e p=>⟨rfl,h h' c (λb o hb e=>?_) e p⟩
 ·rcases mem_cons.mp hb with rfl|hb
  ·exact ac2 _
  ·exact adn (hlt b hb)
 ·have hbS:b≠S:=by rw[<-hS0];exact aa0 (lt_size e)
  exact k b o (λz=>(mem_cons.mp z).elim hbS hb) (oth b o hbS (up b o e))
end
end Ut
namespace L2
open PySem PySem.Spec PyProof.Rows Ut
theorem Inv.CJ{h':Heap}(I:Inv X pins σ H s)(k:∀b u,s.heap.get? b=some u->h'.get? b=some u)(hH:∀b,b<s.heap.objs.size->H' b=H b)(sm:Same H H')(new:∀b o,H' b=some o->s.heap.objs.size<=b->bw X.prog X.w H' h' b o):Inv X pins σ H' { s with heap:=h',toks:=t' }:=by
 have U:Un (frs X.stack) [] H H' s.heap h' :=
  ⟨λb o q _ _ _=>k b o q,λb o q _ _ _=>⟨o.slots,k b o q⟩,λb o q n _=>by rw[hH b (lt_size q)];exact n,λb o q _=>⟨o,k b o q⟩,
   λb ys q=>sm _ _ q,λb o ys q=>sm _ _ q,λb ps q=>⟨#[],by rw[sm _ _ q];simp⟩⟩
 have ok:h_ X.prog X.w H' h':=λb o q=>by
  by_cases hb:b<s.heap.objs.size
  ·rw[hH b hb] at q
   exact(I.hok b o q).stay (λc v _ z=>k c v z) (λc z=>sm _ _ z) λc ys z=>sm _ _ z
  ·exact new b o q (Nat.le_of_not_lt hb)
 exact I.call (h':=h') (g':=s.gens) (t':=t') (d':=s.drawn) (ch:=[]) U ok I.bare λb hb=>by cases hb
def zMp(K:PySem.W.Frag)(ta:TA):TE:=λσ H Q=>ta σ H λvs H1=>∃(a b:Addr)(xs ys:List V),vs=[.ref a,.ref b]/\bx K H1 a xs/\bx K H1 b ys/\xs.length=ys.length/\xs.length<=1000 /\
 ∀(l:Addr)(ts:List Addr)(H2:Hp),H1 l=none->Same H1 H2->H2 l=some (.lst (ts.map V.ref))->ts.length=xs.length->(∀(i:Nat) t x y,ts[i]?=some t->xs[i]?=some x->ys[i]?=some y->H1 t=none/\H2 t=some (.tup [x,y]))->Q (.ref l) H2
def mW(H:Hp)(S:Nat)(xs ys:List V)(b:Nat):Option HO:=if b=S then some (.lst ((aax xs.length).map λj=>V.ref (S+1+j))) else if S<b/\b<=S+xs.length then some (.tup [xs.getD (b-S-1) .non,ys.getD (b-S-1) .non]) else H b
theorem Hv(H:Hp)(S:Nat)(xs ys:List V)(j:Nat)(hj:j<xs.length):mW H S xs ys (S+1+j)=some (.tup [xs.getD j .non,ys.getD j .non]):=by
 have e:S+1+j-S-1=j:=by omega
 unfold mW
 rw[if_neg (by omega),if_pos (by omega),e]
theorem NZ(H:Hp)(S:Nat)(xs ys:List V):mW H S xs ys S=some (.lst ((aax xs.length).map λj=>V.ref (S+1+j))):=by unfold mW;rw[if_pos rfl]
theorem Hw(H:Hp)(S:Nat)(xs ys:List V)(b:Nat)(hb:b<S):mW H S xs ys b=H b:=by
 unfold mW
 rw[if_neg (by omega),if_neg (by omega)]
theorem zN1(H:Hp)(S:Nat)(xs ys:List V)(b:Nat)(o:HO)(e:mW H S xs ys b=some o):(b=S/\o=.lst ((aax xs.length).map λj=>V.ref (S+1+j)))\/(∃j,j<xs.length/\b=S+1+j/\o=.tup [xs.getD j .non,ys.getD j .non])\/H b=some o:=by
 unfold mW at e
 split at e
 ·rename_i h;exact .inl ⟨h,(aa3 e).symm⟩
 ·split at e
  ·rename_i h1 h2
   exact .inr (.inl ⟨b-S-1,by omega,by omega,(aa3 e).symm⟩)
  ·exact .inr (.inr e)
theorem zGo(S:Nat):∀(l:List Nat),Vals (l.map λj=>V.ref (S+1+j)) (l.map λj=>abj (S+1+j))
 |[]=>.nil
 |j::l=>.cons rfl (zGo S l)
theorem tH:bootBuiltins "list" = some (.type "list"):=by decide +kernel
theorem zOq{X:Cx}(K:PySem.W.Frag)(hc:X.calm=true)(hm:X.mg "list" = none)(hmz:X.mg "zip" = none)(ha:PA X [a,b] ta)(hK:X.K=K:=by rfl)(hg:Gl X "list":=by rfl)(hgz:Gl X "zip":=by rfl)(hs0:starEach [.Call (.Name "zip" p2) [a,b] [] pos2] X.env=[(false,eval (.Call (.Name "zip" p2) [a,b] [] pos2) X.env)]:=by rfl)(hs:starEach [a,b] X.env=[(false,eval a X.env),(false,eval b X.env)]:=by rfl)(hs2:starEach [b] X.env=[(false,eval b X.env)]:=by rfl) :
  PE X (.Call (.Name "list" p) [.Call (.Name "zip" p2) [a,b] [] pos2] [] pos) (zMp K ta):=by
 subst hK
 intro pins s σ H Q I h
 refine abt (A_ I hg hm tH ?_)
 refine abl ?_ hs0 rfl
 rw[hs0]
 show wpAny _ _ (spliced ((false,eval (.Call (.Name "zip" p2) [a,b] [] pos2) X.env)::backTo pos [])) _ _ s
 refine ad5 ?_
 refine abt (A_ I hgz hmz zx ?_)
 refine abl (aM (ha pos2 pins s σ H _ I h) λus s1 ⟨vs,H1,I1,r1,q1⟩=>?_) (by rw[hs,hs2]) (by rw[hs2];rfl)
 obtain⟨l1,l2,xs,ys,e,hq1,hq2,hlen,Uv,q⟩:=q1
 subst e
 obtain⟨u,v,rfl,ru,rv⟩:=r1.two
 cases ru
 cases rv
 obtain⟨us,L_,p1,z1⟩:=I1.list hq1
 obtain⟨vs,rv2,p2',z2⟩:=I1.list hq2
 have ln1:=L_.length
 have ln2:=rv2.length
 have lt1:l1<s1.heap.objs.size:=by obtain⟨o,_,e,_⟩:=p1;exact lt_size e
 have lt2:l2<s1.heap.objs.size:=by obtain⟨o,_,e,_⟩:=p2';exact lt_size e
 refine call_zip_2 p1.isList p2'.isList λh1 hz hTI hTO hi1 hi2 hsz hk=>?_
 refine aec ?_
 refine zIu (s:={ s1 with heap:=h1 }) (n:=xs.length) (I1.ok.hd hc) (zipApart_new lt1 lt2) (λb hb=>?_) (by rw[size_toArray,<-ln1]) (by rw[size_toArray,<-ln2,hlen]) Uv hz hTI hTO hi1 hi2 (p1.isList.at λo e=>hk l1 o e) (p2'.isList.at λo e=>hk l2 o e) λh2 c k2 e2 t2=>?_
 ·show b<h1.objs.size
  rw[hsz]
  simp only[mem_cons,ae1,or_false] at hb
  rcases hb with e|e|e|e|e|e|e<;>rw[e]
  ·exact ad1 (by decide) _
  ·exact ad1 (by decide) _
  ·exact ad1 (by decide) _
  ·exact Nat.lt_add_of_pos_right (by decide)
  ·exact ad1 (by decide) _
  ·exact aa2 lt1 (abn _ _)
  ·exact aa2 lt2 (abn _ _)
 ·generalize hS:h1.objs.size=S at *
  have hSs:s1.heap.objs.size<S:=by omega
  have kk:∀b u,s1.heap.get? b=some u->h2.get? b=some u:=λb u e=>k2 b u (λhb=>by
   have lb:=lt_size e
   simp only[mem_cons,ae1,or_false] at hb
   rcases hb with e|e|e|e|e<;>rw[e] at lb
   ·exact absurd lb (afi.mpr (abn _ _))
   ·exact absurd lb (afi.mpr (abn _ _))
   ·exact absurd lb (afi.mpr (abn _ _))
   ·exact absurd lb (abx _)
   ·exact absurd lb (afi.mpr (abn _ _))) (hk b u e)
  have fr:∀b,s1.heap.objs.size<=b->H1 b=none:=λb hb=>I1.hok.fresh hb
  have lo:∀b:Nat,b<s1.heap.objs.size->mW H1 S xs ys b=H1 b:=λb hb=>Hw H1 S xs ys b (adt hb hSs)
  have sm:Same H1 (mW H1 S xs ys):=λb o e=>by
   have:b<s1.heap.objs.size:=Nat.lt_of_not_le λz=>by rw[fr b z] at e;cases e
   rw[lo b this]
   exact e
  have I2:=I1.CJ (H':=mW H1 S xs ys) (h':=h2) (t':=s1.toks) kk lo sm (λb o e hb=>by
   rcases zN1 H1 S xs ys b o e with⟨rfl,rfl⟩|⟨j,hj,rfl,rfl⟩|e
   ·exact⟨by rw[length_map,length_range];exact aa4 Uv (by decide),_,c,zGo b (aax xs.length),e2⟩
   ·have x1:xs[j]?=some (xs.getD j .non):=by rw[getD_eq_getElem?_getD,aas hj];rfl
    have y1:ys[j]?=some (ys.getD j .non):=by rw[getD_eq_getElem?_getD,aas (by rw[<-hlen];exact hj)];rfl
    obtain⟨u,hu,ru⟩:=L_.get x1
    obtain⟨v,hv,rv⟩:=rv2.get y1
    have tt:=t2 j u v hj (by rw[getElem?_toArray];exact hu) (by rw[getElem?_toArray];exact hv)
    exact⟨by show 2<=sizeLine;decide,[u,v],.cons ru (.cons rv .nil),⟨_,tt,rfl,_,rfl⟩⟩
   ·rw[fr b hb] at e;cases e)
  refine⟨.ref S,_,I2,rfl,q S ((aax xs.length).map λj=>S+1+j) _ (fr S (aco hSs)) sm (by rw[NZ,map_map];rfl) (by rw[length_map,length_range]) λi t x y ht hx hy=>?_⟩
  have hi:i<xs.length:=(aa6.mp hx).1
  rw[getElem?_map,getElem?_range hi] at ht
  cases ht
  have x1:xs.getD i .non=x:=by rw[getD_eq_getElem?_getD,hx];rfl
  have y1:ys.getD i .non=y:=by rw[getD_eq_getElem?_getD,hy];rfl
  refine⟨fr _ (aa4 (aco hSs) (aa4 (ace S) (abn _ _))),?_⟩
  have q1:=Hv H1 S xs ys i hi
  rw[x1,y1] at q1
  exact q1
end L2
namespace Ts
open PySem L2
section
variable{K:PySem.W.Frag}{B:Bs}{sl:SL K}{md:Md}{t1 t2:TE}{α β:Type}[Rp K α][Rp K β]
def CK{α β:Type}(xs:List α)(ys:List β):Option (List (α×β)):=if xs.length=ys.length/\xs.length<=1000 then some (xs.zip ys) else none
theorem zW1:∀{ts:List Addr}{vs us:List V}{xs:List α}{ys:List β},A2 (rp K F) vs xs->A2 (rp K F) us ys->xs.length=ys.length->ts.length=vs.length->(∀(i:Nat) t x y,ts[i]?=some t->vs[i]?=some x->us[i]?=some y->F t=some (.tup [x,y]))->A2 (rp K F) (ts.map V.ref) (xs.zip ys)
 |[],[],[],[],[],_,_,_,_,_=>trivial
 |t::ts,v::vs,u::us,x::xs,y::ys,h1,h2,hl,ht,h=>⟨⟨t,v,u,rfl,h 0 t v u rfl rfl rfl,h1.1,h2.1⟩,zW1 h1.2 h2.2 (by simpa using hl) (by simpa using ht) λi t' x' y' e1 e2 e3=>h (i+1) t' x' y' e1 e2 e3⟩
 |_,[],_,_::_,_,h,_,_,_,_=>h.elim
 |_,_::_,_,[],_,h,_,_,_,_=>h.elim
 |_,_,[],_,_::_,_,h,_,_,_=>h.elim
 |_,_,_::_,_,[],_,h,_,_,_=>h.elim
 |[],_::_,_,_,_,_,_,_,h,_=>by simp at h
 |_::_,[],_,_,_,_,_,_,h,_=>by simp at h
 |_,[],_::_,[],_::_,_,_,h,_,_=>by simp at h
 |_,_::_,[],_::_,[],_,_,h,_,_=>by simp at h
theorem zPj{m1:Option (List α)}{m2:Option (List β)}(h1:Ex B sl md t1 m1)(h2:Ex B sl md t2 m2):Ex B sl md (zMp K (xS t1 (xS t2 bJ))) (m1.bind λa=>m2.bind λb=>CK a b):=λc hc F O H σ Q s kk=>by
 obtain⟨xs,ys,ha,hb,hf⟩:=pL hc
 unfold CK at hf
 split at hf
 case isFalse=>cases hf
 rename_i hl
 cases hf
 refine h1 xs ha F O H σ _ s λv F' H' g r1=>?_
 refine h2 ys hb F' O H' σ _ (s.grow g) λw F2 H2 g2 r2=>?_
 have r1':=Rp.mono (xC g2 md) r1
 obtain⟨p,vs,rfl,z1,z2⟩:=r1'
 obtain⟨p',us,rfl,y1,y2⟩:=r2
 have hle:Same (reg B F2 H2 md) H2:=match md with
  |.nw=>aZ.trans g2.ok.fh
  |.fz=>g2.ok.fh
  |.hp=>.refl _
 refine⟨p,p',vs,us,rfl,bx.of (hle _ _ z1),bx.of (hle _ _ y1),by rw[z2.len,y2.len];exact hl.1,by rw[z2.len];exact hl.2,λl ts H3 hn sm hl3 hts htu=>?_⟩
 have g3:=g2.ok.called sm
 refine kk (.ref l) _ H3 (g.trans (g2.trans g3)) ⟨l,ts.map V.ref,rfl,Ey g2.ok sm hn hl3 md,zW1 (z2.imp λ_ _=>Rp.mono (xC g3 md)) (y2.imp λ_ _=>Rp.mono (xC g3 md)) hl.1 hts λi t x y e1 e2 e3=>?_⟩
 obtain⟨n1,n2⟩:=htu i t x y e1 e2 e3
 exact Ey g2.ok sm n1 n2 md
end
open PySem L2 Sy
inductive cO where
 |none
 |step (n:Int)
 |shut
 |walk (xs:LI)
 |out
 |loop (xs ys:LI)
 |rank (n:Int) (o:Option Int)
 |here
 |dead
 |plain
def cO.word:cO->Str
 |.none=>"none"
 |.step _=>"step"
 |.shut=>"shut"
 |.walk _=>"walk"
 |.out=>"out"
 |.loop _ _=>"loop"
 |.rank _ _=>"rank"
 |.here=>"here"
 |.dead=>"dead"
 |.plain=>"plain"
def cO.len:cO->Int
 |.step _=>2
 |.walk _=>2
 |.loop _ _=>3
 |.rank _ _=>3
 |_=>1
def cO.at1:cO->Option Int
 |.step n=>some n
 |.rank n _=>some n
 |_=>ae8
def cO.tK:cO->Option LI
 |.walk xs=>some xs
 |.loop xs _=>some xs
 |_=>ae8
section
variable{K:PySem.W.Frag}
def cO.rest(K:PySem.W.Frag)(F:Hp):cO->List V->Prop
 |.step n,vs=>vs=[.int n]
 |.walk xs,vs=>∃a,vs=[a]/\rp K F a xs
 |.loop xs ys,vs=>∃a b,vs=[a,b]/\rp K F a xs/\rp K F b ys
 |.rank n o,vs=>∃b,vs=[.int n,b]/\rp K F b o
 |_,vs=>vs=[]
theorem cO.Ab(s:Same F F'):∀{r:cO}{vs:List V},r.rest K F vs->r.rest K F' vs
 |.step _,_,h=>h
 |.walk _,_,⟨a,h1,h2⟩=>⟨a,h1,Rp.mono s h2⟩
 |.loop _ _,_,⟨a,b,h1,h2,h3⟩=>⟨a,b,h1,Rp.mono s h2,Rp.mono s h3⟩
 |.rank _ _,_,⟨b,h1,h2⟩=>⟨b,h1,Rp.mono s h2⟩
 |.none,_,h=>h
 |.shut,_,h=>h
 |.out,_,h=>h
 |.here,_,h=>h
 |.dead,_,h=>h
 |.plain,_,h=>h
theorem cO.rN:∀{r:cO}{vs:List V},r.rest K F vs->((vs.length+1:Nat):Int)=r.len
 |.step _,_,h=>by cases h;rfl
 |.walk _,_,⟨a,h1,h2⟩=>by cases h1;rfl
 |.loop _ _,_,⟨a,b,h1,h2,h3⟩=>by cases h1;rfl
 |.rank _ _,_,⟨b,h1,h2⟩=>by cases h1;rfl
 |.none,_,h=>by cases h;rfl
 |.shut,_,h=>by cases h;rfl
 |.out,_,h=>by cases h;rfl
 |.here,_,h=>by cases h;rfl
 |.dead,_,h=>by cases h;rfl
 |.plain,_,h=>by cases h;rfl
instance:Rp K cO:=⟨λF v r=>∃p vs,v=.ref p/\F p=some (.tup (.str r.word::vs))/\r.rest K F vs,λs ⟨p,vs,h1,h2,h3⟩=>⟨p,vs,h1,s _ _ h2,cO.Ab s h3⟩⟩
instance:Nn K cO:=⟨λ⟨_,_,h,_⟩=>by rw[h];intro e;cases e⟩
instance:Ty K cO:=⟨.type "tuple",λ⟨p,_,e,h,_⟩=>by rw[e];exact .tup h⟩
end
section
variable{K:PySem.W.Frag}{B:Bs}{sl:SL K}{md:Md}{te t1 t2:TE}
theorem zWn(r:cO)(hr:∀F:Hp,r.rest K F []):Ex B sl md (Bv (xS (tC (.str r.word)) bJ)) (some r):=λc hc F O H σ Q s kk=>by
 cases hc
 refine⟨by show 1<=sizeLine;decide,λp hp=>?_⟩
 have g3:=bN.new s.1 hp (.tup [.str r.word])
 exact kk _ _ _ g3 ⟨p,[],rfl,S9 s.1 hp md,hr _⟩
theorem zSh(h:Ex B sl md te m):Ex B sl md (Bv (xS (tC (.str "walk")) (xS te bJ))) (m.bind λn=>some (cO.walk n)):=λc hc F O H σ Q s kk=>by
 cases m with
 |none=>cases hc
 |some a =>
  cases hc
  refine h a rfl F O H σ _ s λv F' H' g r1=>?_
  refine⟨by show 2<=sizeLine;decide,λp hp=>?_⟩
  have g3:=bN.new g.ok hp (.tup [.str "walk",v])
  exact kk _ _ _ (g.trans g3) ⟨p,_,rfl,S9 g.ok hp md,v,rfl,Rp.mono (xC g3 md) r1⟩
theorem Uw{α:Type}[Rp K α]{f:cO->Option α}(i:Int)(hf:∀(F:Hp) (r:cO) (vs:List V) (a:α),r.rest K F vs->f r=some a->∃v,aO (V.str r.word::vs) i=some v/\rp K F v a)(h:Ex B sl md te m)(h2:Ex B sl .hp t2 (some i)):Ex B sl md (gW (BR K) te t2) (m.bind f):=λc hc F O H σ Q s k=>by
 cases m with
 |none=>cases hc
 |some x =>
  have hc':f x=some c:=hc
  refine h x rfl F O H σ _ s λv F' H' g r1=>?_
  refine h2 i rfl F' O H' σ _ (s.grow g) λw F2 H2 g2 r2=>?_
  cases r2
  obtain⟨p,vs,rfl,z1,z2⟩:=r1
  have hle:Same (reg B F' H' md) H2:=(match md with
   |.nw=>aZ.trans g.ok.fh
   |.fz=>g.ok.fh
   |.hp=>.refl _:Same (reg B F' H' md) H').trans g2.hh
  obtain⟨u,e1,e2⟩:=hf _ x vs c z2 hc'
  exact⟨p,_,i,u,rfl,rfl,.inl (.inl (hle _ _ z1)),e1,k u F2 H2 (g.trans g2) (Rp.mono (xC g2 md) e2)⟩
theorem zQq:∀(F:Hp)(r:cO)(vs:List V)(a:Str),r.rest K F vs->some r.word=some a->∃v,aO (V.str r.word::vs) 0=some v/\rp K F v a:=λF r vs a _ e=>by
 cases e
 exact⟨_,by simp[aO,rA],rfl⟩
theorem zLe:∀(F:Hp)(r:cO)(vs:List V)(a:LI),r.rest K F vs->r.tK=some a->∃v,aO (V.str r.word::vs) 1=some v/\rp K F v a
 |F,.walk xs,vs,a,⟨b,h,h2⟩,e=>by cases h;cases e;exact⟨_,rfl,h2⟩
 |F,.loop xs ys,vs,a,⟨b,c,h,h2,h3⟩,e=>by cases h;cases e;exact⟨_,rfl,h2⟩
 |F,.step n,_,_,_,e=>by cases e
 |F,.rank n o,_,_,_,e=>by cases e
 |F,.none,_,_,_,e=>by cases e
 |F,.shut,_,_,_,e=>by cases e
 |F,.out,_,_,_,e=>by cases e
 |F,.here,_,_,_,e=>by cases e
 |F,.dead,_,_,_,e=>by cases e
 |F,.plain,_,_,_,e=>by cases e
theorem zNg{m:Option cO}(h:Ex B sl .hp te m):Ex B sl md (sW (Cr K) (xS te bJ)) (m.bind λr=>some r.len):=λd hd F O H σ Q s k=>by
 cases m with
 |none=>cases hd
 |some a =>
  cases(show some a.len=some d from hd)
  refine h a rfl F O H σ _ s λv F' H' g r1=>?_
  obtain⟨p,vs,rfl,h1,h2⟩:=r1
  refine⟨p,_,rfl,.inr (.inl (.inl h1)),k _ F' H' g ?_⟩
  rw[length_cons,cO.rN h2]
  rfl
end
end Ts
namespace L2
open PySem PySem.Spec PyProof.Rows
section
variable{X:Cx}
def Ux:V->Option Int->Option Int->Hp->VK->Prop:=λx lo hi H Q=>∃z j,x=.str z/\lo=none/\hi=some j/\z.length<=sizeLine/\Q (.str (Txt.slice z none (some j))) H
theorem N5:Wd X Ux:=by
 intro pins s σ H x v vl vu lo hi sl Q I rx hs pl pu h
 obtain⟨z,j,rfl,rfl,rfl,hz,q⟩:=h
 obtain⟨t,rfl⟩:=rx
 cases pl
 cases pu with
 |int _ tk =>
  refine⟨"str",_,PySem.F.slot_str_getitem.lookup,typeIs_str _ _ _,?_⟩
  exact wpAny_getItem_str_slice (l:=none) (u:=some (j,tk)) (st:=none) hs rfl (post_val_or_str ⟨aa4 (Txt.slice_le z _ _) hz,λt' k=>⟨.str _,H,I.tok k,⟨t',rfl⟩,q⟩⟩)
def J8:R2:=λx y H Q=>∃i j,x=.str i/\y=.str j/\i.length+j.length<=sizeLine/\Q (.str (i++j)) H
theorem zQ9:jr X (binaryOp .Add) J8:=zOs
def J9:R2:=λx y H Q=>∃z i c,x=.str z/\y=.int i/\0<=i/\i<2^63/\i<z.length/\z.cps[i.toNat]?=some c/\Q (.str ⟨#[c]⟩) H
theorem N6(ha:PE X a ta)(hb:PE X b tb)(hs:zNz b):PE X (.Subscript a b pos) (gW J9 ta tb):=zLk ha hb hs
end
end L2
namespace Ts
open PySem L2
section
variable{K:PySem.W.Frag}{B:Bs}{sl:SL K}{md:Md}{t t1 t2:TE}
def rO(a b:Str):Option Str:=if a.length+b.length<=1000 then some (a++b) else none
theorem zSl(h1:Ex B sl .hp t1 m1)(h2:Ex B sl .hp t2 m2):Ex B sl md (gW J8 t1 t2) (m1.bind λa=>m2.bind λb=>rO a b):=λc hc F O H σ Q s k=>by
 obtain⟨a,b,ha,hb,hf⟩:=pL hc
 unfold rO at hf
 split at hf
 case isFalse=>cases hf
 rename_i hl
 cases hf
 refine h1 a ha F O H σ _ s λv F' H' g r1=>?_
 refine h2 b hb F' O H' σ _ (s.grow g) λw F2 H2 g2 r2=>?_
 cases r1
 cases r2
 exact⟨a,b,rfl,rfl,aa4 hl (by decide),k _ F2 H2 (g.trans g2) rfl⟩
def QT(z:Str)(i:Int):Option Str:=if 0<=i/\i<2^63/\i<z.length then(z.cps[i.toNat]?).map λc=>⟨#[c]⟩ else none
theorem N7(h1:Ex B sl .hp t1 m1)(h2:Ex B sl .hp t2 m2):Ex B sl md (gW J9 t1 t2) (m1.bind λa=>m2.bind λb=>QT a b):=λc hc F O H σ Q s k=>by
 obtain⟨a,b,ha,hb,hf⟩:=pL hc
 unfold QT at hf
 split at hf
 case isFalse=>cases hf
 rename_i hl
 cases e:a.cps[b.toNat]? with
 |none=>rw[e] at hf;cases hf
 |some z =>
  rw[e] at hf
  cases hf
  refine h1 a ha F O H σ _ s λv F' H' g r1=>?_
  refine h2 b hb F' O H' σ _ (s.grow g) λw F2 H2 g2 r2=>?_
  cases r1
  cases r2
  exact⟨a,b,z,rfl,rfl,hl.1,hl.2.1,hl.2.2,e,k _ F2 H2 (g.trans g2) rfl⟩
def CN(z:Str)(j:Int):Option Str:=if z.length<=1000 then some (Txt.slice z none (some j)) else none
theorem Hx(h1:Ex B sl .hp t1 m1)(h2:Ex B sl .hp t2 m2):Ex B sl md (YG Ux t1 YF (BP t2)) (m1.bind λa=>m2.bind λb=>CN a b):=λc hc F O H σ Q s k=>by
 obtain⟨a,b,ha,hb,hf⟩:=pL hc
 unfold CN at hf
 split at hf
 case isFalse=>cases hf
 rename_i hl
 cases hf
 refine h1 a ha F O H σ _ s λv F' H' g r1=>?_
 refine h2 b hb F' O H' σ _ (s.grow g) λw F2 H2 g2 r2=>?_
 cases r1
 cases r2
 exact⟨b,rfl,a,b,rfl,rfl,rfl,aa4 hl (by decide),k _ F2 H2 (g.trans g2) rfl⟩
def CP:List Str->TA
 |[]=>bJ
 |w::ws=>xS (tC (.str w)) (CP ws)
theorem zRw:∀(ws:List Str)(σ:St)(H:Hp)(Q:List V->Hp->Prop),Q (ws.map V.str) H->CP ws σ H Q
 |[],_,_,_,h=>h
 |_::ws,σ,H,_,h=>zRw ws σ H _ h
theorem zVk(ws:List Str)(hw:ws.length<=1000)(h:Ex B sl .hp t m):Ex B sl md (gW (Jv K false) t (Bv (CP ws))) (m.bind λx=>some (decide (x∈ws))):=λc hc F O H σ Q s k=>by
 cases m with
 |none=>cases hc
 |some x =>
  cases(show some (decide (x∈ws))=some c from hc)
  refine h x rfl F O H σ _ s λv F' H' g r1=>?_
  cases r1
  refine zRw ws σ H' _ ⟨by rw[length_map];exact aa4 hw (by decide),λp hp=>?_⟩
  have g2:=bN.new g.ok hp (.tup (ws.map V.str))
  refine⟨p,_,rfl,.inr (kO.of zT),Fl.flat (K:=K) x,Wr (K:=K) ws,?_⟩
  have:=Tp (K:=K) x ws
  simp only[aa1,if_false]
  rw[show inV (V.str x) (ws.map V.str)=decide (x∈ws) from this]
  exact k _ _ _ (g.trans g2) rfl
end
theorem Uy:kitOne K (.type "bool") (.type "bool")=some true:=rfl
section
variable{K:PySem.W.Frag}{B:Bs}{sl:SL K}{F H H' L L':Hp}{O:Own}{σ:St}{α:Type}[Rp K α]
end
open PySem L2 Sy
open PySem.SeqAt (EqAt RcAt RcNeAt)
section
variable{K:PySem.W.Frag}
def J_(K:PySem.W.Frag):R2:=λx y H Q=>∃a:cO,rp K H x a/\rp K H y cO.shut/\Q (.bl (!decide (a.word = "shut"))) H
theorem cO.CQ:∀{r:cO},r.word = "shut"->r.len=1
 |.shut,_=>rfl
 |.none,h=>absurd h (by decide)
 |.step _,h=>absurd (show("step":Str) = "shut" from h) (by decide)
 |.walk _,h=>absurd (show("walk":Str) = "shut" from h) (by decide)
 |.out,h=>absurd h (by decide)
 |.loop _ _,h=>absurd (show("loop":Str) = "shut" from h) (by decide)
 |.rank _ _,h=>absurd (show("rank":Str) = "shut" from h) (by decide)
 |.here,h=>absurd h (by decide)
 |.dead,h=>absurd h (by decide)
 |.plain,h=>absurd h (by decide)
theorem Hy(K:PySem.W.Frag){X:Cx}(hr:bT k X.A):jr X (compareOp .NotEq) (J_ K):=by
 intro pins s σ H x y v u Q I rx ry h
 obtain⟨a,⟨p,vs,rfl,h1,r1⟩,⟨p',ws,rfl,h2,r2⟩,q⟩:=h
 cases rx;cases ry
 have r2:ws=[]:=r2
 subst r2
 obtain⟨us,s1,p1,_⟩:=I.tuple (.inl (.inl h1))
 obtain⟨us',s2,p2,_⟩:=I.tuple (.inl (.inl h2))
 have l1:=cO.rN r1
 have n1:us.length=vs.length+1:=s1.length.symm
 cases s1 with
 |cons a1 s1 =>
  cases s2 with
  |cons b1 s2 =>
   cases s2
   obtain⟨t1,rfl⟩:=a1
   obtain⟨t2,rfl⟩:=b1
   have z:=RcNeAt.tuples (A:=X.A) (e:=λ_=>decide (a.word = "shut")) p1 p2 (by have:=hr.units;omega) (λj g1 g2=>by
    have g2:j<1:=g2
    have e:j=0:=by omega
    subst e
    rw[<-iz]
    exact EqAt.str_str _ _ _ _)
   rename_i us
   have e:(!((aax (min (adk a.word t1::us).toArray.size [adk cO.shut.word t2].toArray.size)).all (λ_=>decide (a.word = "shut"))&&(adk a.word t1::us).toArray.size==[adk cO.shut.word t2].toArray.size))=!decide (a.word = "shut"):=by
    have m:min (adk a.word t1::us).toArray.size [adk cO.shut.word t2].toArray.size=1:=by simp
    rw[m]
    by_cases w:a.word = "shut"
    ·have l:=cO.CQ w
     have:us=[]:=by
      cases us with
      |nil=>rfl
      |cons c r=>rw[length_cons,length_cons] at n1;omega
     subst this
     simp[w]
    ·simp[w]
   rw[e] at z
   exact z _ _ _ _ ⟨.bl (!decide (a.word = "shut")),H,I,rfl,q⟩
variable{B:Bs}{sl:SL K}{md:Md}{t1 t2:TE}
theorem Hz{m1:Option cO}(h1:Ex B sl .hp t1 m1)(h2:Ex B sl .hp t2 (some cO.shut)):Ex B sl md (gW (J_ K) t1 t2) (m1.bind λa=>some (!decide (a.word = "shut"))):=by
 refineλc hc F O H σ Q s k=>?_
 cases m1 with
 |none=>cases hc
 |some a =>
  cases(show some (!decide (a.word = "shut"))=some c from hc)
  refine h1 a rfl F O H σ _ s λv F' H' g r1=>?_
  refine h2 _ rfl F' O H' σ _ (s.grow g) λw F2 H2 g2 r2=>?_
  exact⟨a,Rp.mono g2.hh r1,r2,k _ F2 H2 (g.trans g2) rfl⟩
end
theorem bi6(F:aW K x y st f fd)(h:∀kV dc pm an cd ct u0 u1 u2 u3 u4 u5,bindArgs (fnOf x y (uA st) (wQ st) (zJ st) .none kV dc pm an cd ct) ⟨[u0,u1,u2,u3,u4,u5],[]⟩=pure [(p0,u0),(p1,u1),(p2,u2),(p3,u3),(p4,u4),(p5,u5)]:=by intros;rfl):Binds K fd [p0,p1,p2,p3,p4,p5] []:=F.binds λa b c d e g us hl=>match us,hl with|[u0,u1,u2,u3,u4,u5],_=>h a b c d e g u0 u1 u2 u3 u4 u5
theorem wj{β:Type}[Rp K β]{m:Option β}(sl2:SL K)(h:SB B sl2 t al m)(e:sl=sl2:=by rfl):SB B sl t al m:=e▸h
def top(i:Nat):Stmt:=PySem.Challenge.pw_treesay_k52_walks_told.main.body.getD i (.Pass ⟨0,0,0,0⟩)
abbrev gw:Stmt:=top 2
abbrev qu:Stmt:=top 3
abbrev mX:Stmt:=top 4
abbrev mY:Stmt:=top 5
abbrev kY:Stmt:=top 7
abbrev iC:Stmt:=top 9
abbrev jN:Stmt:=top 10
abbrev iD:Stmt:=top 13
abbrev kZ:Stmt:=top 17
abbrev fJ:Stmt:=top 18
abbrev qw:Stmt:=top 19
abbrev iG:Stmt:=top 20
abbrev gA:Stmt:=top 21
abbrev mZ:Stmt:=top 22
abbrev tL:Stmt:=top 23
abbrev s_alive:Stmt:=top 24
abbrev jZ:Stmt:=xT (top 30) 0
abbrev lg:Stmt:=xT (top 31) 0
abbrev lq:Stmt:=xT (top 32) 0
abbrev m5:Stmt:=xT (top 33) 0
abbrev mz:Stmt:=xT (top 34) 0
abbrev m6:Stmt:=xT (top 35) 0
abbrev mC:Stmt:=xT (top 36) 0
abbrev j4:Stmt:=xT (top 37) 0
abbrev jw:Stmt:=xT (top 38) 0
abbrev jx:Stmt:=xT (top 39) 0
abbrev jy:Stmt:=xT (top 40) 0
abbrev jA:Stmt:=xT (top 41) 0
abbrev g8:Stmt:=xT (top 42) 0
abbrev g_:Stmt:=xT (top 43) 0
abbrev jB:Stmt:=xT (top 44) 0
abbrev jC:Stmt:=xT (top 45) 0
abbrev iH:Stmt:=top 48
abbrev bW:Stmt:=top 51
abbrev lu:Stmt:=top 52
abbrev fK:Stmt:=top 53
abbrev qx:Stmt:=top 54
abbrev qy:Stmt:=top 55
abbrev fL:Stmt:=top 59
abbrev dY:Stmt:=top 60
abbrev lA:Stmt:=top 65
abbrev tM:Stmt:=top 66
abbrev jO:Stmt:=top 77
abbrev dZ:Stmt:=top 78
abbrev fP:Stmt:=top 79
abbrev lB:Stmt:=top 80
abbrev fQ:Stmt:=top 81
abbrev gB:Stmt:=top 82
abbrev m7:Stmt:=top 83
abbrev Xj:Stmt:=top 84
abbrev CT:Stmt:=xT (top 85) 0
abbrev d_:Stmt:=xT (top 85) 1
abbrev cP:Stmt:=xT (top 85) 2
abbrev cY:Stmt:=xT (top 85) 3
abbrev cZ:Stmt:=xT (top 85) 4
abbrev cQ:Stmt:=xT (top 85) 6
abbrev iI:Stmt:=top 87
abbrev lC:Stmt:=top 88
abbrev qz:Stmt:=top 89
abbrev gC:Stmt:=top 90
abbrev jP:Stmt:=top 91
abbrev iJ:Stmt:=top 92
abbrev gD:Stmt:=top 93
abbrev lD:Stmt:=top 94
abbrev iK:Stmt:=top 95
abbrev lE:Stmt:=top 96
abbrev iQ:Stmt:=top 97
abbrev lF:Stmt:=top 98
abbrev m8:Stmt:=top 99
abbrev jQ:Stmt:=top 100
abbrev m9:Stmt:=top 101
abbrev m_:Stmt:=top 102
abbrev pN:Stmt:=top 103
section
variable{P:Program}{w:World}{K:PySem.W.Frag}{mg:Str->Option Value}{base:Heap}
def aad(K:PySem.W.Frag):Sp:=λvs H Q _=>∃(a:Addr)(bs:List Addr)(xss:List LI),vs=[.ref a]/\bx K H a (bs.map V.ref)/\rE K H bs xss/\xss.length<=60/\Wu xss.length xss /\
 ∀(r:Addr)(cs:List Addr)(H':Hp),Same H H'->H r=none->H' r=some (.lst (cs.map V.ref))->cs.length=xss.length->rG H' cs (src xss)->(∀c∈cs,H c=none)->Q (.ref r) H'
theorem CV:ak ["steps","sources","stand","targets","target"] ["steps"] (zJ Xj):=⟨rfl,rfl,rfl,by decide +kernel,rfl,by decide +kernel,by decide +kernel⟩
theorem aae:(["stand"]:List Str).Nodup:=by decide +kernel
theorem N8{cs:List Addr}(nd:cs.Nodup){i j:Nat}{c:Addr}(h1:cs[i]?=some c)(h2:cs[j]?=some c):i=j:=by
 obtain⟨k1,e1⟩:=aa6.mp h1
 obtain⟨k2,e2⟩:=aa6.mp h2
 exact(getElem_inj nd).mp (e1.trans e2.symm)
theorem rG.put{N_:Nat->LI}(r:rG H cs row)(nd:cs.Nodup)(hc:cs[j]?=some c)(e:N_ j=xs)(e':∀k,k≠j->N_ k=row k):rG (upd H c (.lst (xs.map V.int))) cs N_:=λk d hd=>by
 by_cases hk:k=j
 ·subst hk
  rw[hc] at hd
  cases hd
  rw[zT,e]
 ·rw[zX (λz=>hk (N8 nd hd (by rw[z];exact hc))),e' k hk]
  exact r k d hd
theorem Uz(F:aW K "sources_of" "sources_of" Xj f fd)(B:Bl K mg):aq P w K mg base aP 1 f fd ["steps"] (aad K):=by
 refine F.ok CV (λvs H Q E h=>?_) (λcdv A outer s H vs Q E hr h=>?_)
 ·obtain⟨a,bs,xss,rfl,_⟩:=h
  rfl
 obtain⟨a,bs,xss,rfl,hS,hR,qX,hV,q⟩:=h
 have hbl:(bs.map V.ref).length=xss.length:=by rw[length_map];exact hR.1
 refine⟨_,zB (Em (i:=1) (own:=["stand"]) (ix:=[]) CV.nd rfl rfl rfl rfl rfl (Yk (pv 0)) (λC s H fp=>yQ (i:=0) aae rfl (Or.inl rfl)) (λC s H fp=>vK) (λC s H fp=>wV zI))
  (zB (yZ aay rfl (zQ2 rfl B.enum (zA (pv 0) zI)) (Jm rfl (xO (yQ (i:=2) CV.nd rfl (Or.inl rfl)) (xO (yQ (i:=3) CV.nd rfl (Or.inl rfl)) Fq)))
   (wB (yZ aay rfl (Yk (pv 3)) (yQ (i:=4) CV.nd rfl (Or.inl rfl))
    (wB (yJ (Jw aa7 aa9 abb wE (yM zR2 (pv 1) (pv 4) (λ_ _=>rfl)) (zA (pv 2) zI)))))))
  (wB (zS (pv 1)))),?_⟩
 refine⟨_,rfl,a,rfl,⟨_,hS⟩,zSy (K:=K) (a:=a) (xs:=bs.map V.ref) (λi ys σ H2=>∃(cs:List Addr)(v:Option V),ys=cs.map V.ref/\σ=[v]/\Same H H2/\News H H2 cs (replicate i [])/\cs.length=i)
  ⟨[],none,rfl,rfl,Same.refl H,News.nil,rfl⟩ (λi ys σ H2 _ ⟨cs,v,e,_,s2,_,hi⟩=>⟨s2.seq hS,by rw[e,length_map,hi];exact aav _⟩) (zI7 (by omega)) ?_ ?_⟩
 ·rintro i y ys σ H2 hi ⟨cs,v,rfl,rfl,s2,hN,hci⟩
  refine zU0 ?_
  refine⟨(by show 0<=sizeLine;decide),λl hl'=>?_⟩
  refine⟨cs++[l],_,by rw[map_append]<;>rfl,rfl,s2.trans (aL hl' _),?_,by rw[length_append,hci]<;>rfl⟩
  have e:replicate (i+1) ([]:List V)=replicate i []++[[]]:=List.replicate_succ'
  rw[e]
  exact hN.snoc s2 hl'
 rintro ys σ H2 ⟨cs,v,rfl,rfl,s2,hN,hci⟩ r hr0
 have hcl:cs.length=xss.length:=by rw[hci,hbl]
 have s3:Same H (upd H2 r (.lst (cs.map V.ref))):=s2.trans (aL hr0 _)
 have hrH:H r=none:=s2.free hr0
 have nrc:r∉cs:=hN.Tz hr0
 have R0:rG (upd H2 r (.lst (cs.map V.ref))) cs (src (xss.take 0)):=λj c hc=>by
  obtain⟨xs,h1,h2⟩:=hN.at_ j c hc
  have e:xs=[]:=by
   rw[getElem?_replicate] at h1
   split at h1
   ·exact(aa3 h1).symm
   ·cases h1
  subst e
  rw[zX (λz=>nrc (by rw[<-z];exact mem_of_getElem? hc)),h2]
  rfl
 refine⟨_,rfl,a,rfl,⟨_,s3.seq hS⟩,zVh (K:=K) (a:=a) (xs:=bs.map V.ref) (λi σ H4=>∃u v t,σ=[some (.ref a),some (.ref r),u,v,t]/\Same H H4/\H4 r=some (.lst (cs.map V.ref))/\rG H4 cs (src (xss.take i)))
  ⟨none,none,none,rfl,s3,zT,R0⟩ (λi σ H4 _ ⟨_,_,_,_,s4,_⟩=>s4.seq hS) ?_ ?_⟩
 ·rintro i x t σ H4 hi ht ⟨u,v,t',rfl,s4,hr4,R4⟩
  obtain⟨b,rfl,hb⟩:=Mw hi
  obtain⟨xs,hx,hsq⟩:=hR.2 i b hb
  obtain⟨ne,nd,len,vr⟩:=hV.2 xs (mem_of_getElem? hx)
  have il:=xP hx
  have st:Same H4 (upd H4 t (.tup [.int i,.ref b])):=aL ht _
  have s5:=s4.trans st
  refine⟨t,_,rfl,kO.of zT,rfl,_,_,rfl,_,_,rfl,rfl,?_⟩
  refine⟨_,rfl,b,rfl,⟨_,s5.seq hsq⟩,zVg (K:=K) (a:=b) (xs:=xs.map V.int) (λm σ H6=>∃tt,σ=[some (.ref a),some (.ref r),some (.int i),some (.ref b),tt]/\Same H H6/\H6 r=some (.lst (cs.map V.ref)) /\
   rG H6 cs λj=>src (xss.take i) j++(if(j:Int)∈xs.take m then[(i:Int)] else[])) ⟨t',rfl,s5,st _ _ hr4,λj c hc=>?_⟩ (λm σ H6 _ ⟨_,_,s6,_⟩=>s6.seq hsq) ?_ ?_⟩
  ·rw[st _ _ (R4 j c hc)]
   simp
  ·rintro m y σ H6 hm ⟨tt,rfl,s6,Xk,R6⟩
   obtain⟨z,rfl,hz⟩:=int_at hm
   obtain⟨z0,z1⟩:=vr z (mem_of_getElem? hz)
   have zl:z.toNat<cs.length:=by rw[hcl];omega
   have hc:cs[z.toNat]?=some cs[z.toNat]:=aas zl
   have hz':((z.toNat:Nat):Int)=z:=by omega
   have hrow:=R6 z.toNat _ hc
   have hno:¬z∈xs.take m:=zGw nd hz
   simp only[hz',if_neg hno,append_nil] at hrow
   have hix:aO (cs.map V.ref) z=some (.ref cs[z.toNat]):=by
    have:=Ge (GD hc)
    rw[hz'] at this
    exact this
   refine⟨_,rfl,_,rfl,r,_,z,_,rfl,rfl,bx.of Xk,hix,.inl ⟨rfl,_,bx.of hrow⟩,_,rfl,_,_,_,rfl,rfl,hrow,?_,?_⟩
   ·have:=GC (xss.take i) z.toNat
    rw[length_take] at this
    refine zI7 ?_
    rw[length_map]
    omega
   ·have cH:H cs[z.toNat]=none:=hN.new _ (mem_of_getElem? hc)
    have cr:r≠cs[z.toNat]:=λe=>nrc (by rw[e];exact mem_of_getElem? hc)
    refine⟨_,rfl,s6.put cH _,by rw[zX cr];exact Xk,?_⟩
    have em:(src (xss.take i) z.toNat).map V.int++[V.int i]=(src (xss.take i) z.toNat++[(i:Int)]).map V.int:=by rw[map_append]<;>rfl
    rw[em]
    refine R6.put hN.nd hc ?_ λk hk=>?_
    ·rw[hz',if_pos ((Wt hz).mpr (.inr rfl))]
    ·have hk':((k:Int)∈xs.take (m+1))=((k:Int)∈xs.take m):=by
      rw[Wt hz]
      refine propext ⟨λh=>h.elim id λe=>absurd (by omega) hk,.inl⟩
     simp only[hk']
  ·rintro σ H6 ⟨tt,rfl,s6,Xk,R6⟩
   refine⟨_,_,_,rfl,s6,Xk,λj c hc=>?_⟩
   rw[R6 j c hc,zTx hx j,length_map,take_length]
 ·rintro σ H4 ⟨u,v,t,rfl,s4,hr4,R4⟩
  refine⟨_,rfl,?_⟩
  have e:xss.take (bs.map V.ref).length=xss:=by rw[hbl];exact take_length
  rw[e] at R4
  exact q r cs H4 s4 hrH hr4 hcl R4 hN.new
end
structure CW(K:PySem.W.Frag)(x qual:Str)(st:Stmt)(dV:Value)(f:Addr)(fd:FuncData):Prop where
 ex:∃(oc:Value)(od:Option Addr)(kV doc pm:Value)(an:Option Addr)(cdv ct:Value)(osl:Array (Option Value)),
  fd=fnOf x qual (uA st) (wQ st) (zJ st) dV kV doc pm an cdv ct/\K.lookup f=some ⟨oc,od,.func fd,osl⟩/\codeIn K cdv qual=true
 kp:keepIn K (.ref f)=true
section
variable{P:Program}{w:World}{K:PySem.W.Frag}{mg:Str->Option Value}{base:Heap}
theorem CW.ok(F:CW K x qual st dV f fd)(S:ak N ps (zJ st))(len:∀vs H Q E,sp vs H Q E->vs.length=ps.length)(hbody:∀(cdv:Value) (A:Around) (outer:List Env) (s:Shared) (H:Hp) (vs:List V) (Q:VK) (E:XK),bT k (A.deeper (ael qual (zJ st) s.heap.objs.size f cdv))->sp vs H Q E ->
   ∃t,qZ (qd aP P w K mg base N qual (zJ st) f cdv A outer s H E).Jl (wQ st) t/\t { nx:=λ_ H'=>Q .non H',rt:=Q } (start N vs) H):aq P w K mg base aP (k+1) f fd ps sp:=by
 obtain⟨oc,od,kV,doc,pm,an,cdv,ct,osl,rfl,lk,hcd⟩:=F.ex
 refine Js lk hcd S len λA outer s H vs Q E hr hsp=>?_
 obtain⟨t,h,q⟩:=hbody cdv A outer s H vs Q E hr hsp
 exact⟨t,h.Jl,q⟩
structure Cl(K:PySem.W.Frag)(mg:Str->Option Value)(C:Addr):Prop where
 cl:Cls K C
 nS:aY K C "steps"
 nM:aY K C "marks"
 nF:aY K C "fair"
 nB:aY K C "sources"
 mgC:mg "Machine" = some (.ref C)
theorem Oa:ak ["self","steps","marks","fair","given_marks","given_fair"] ["self","steps","marks","fair"] (zJ CT):=⟨rfl,rfl,rfl,by decide +kernel,rfl,by decide +kernel,by decide +kernel⟩
theorem UG:(["name","stands"]:List Str).Nodup:=by decide +kernel
theorem bV(f:Str)(v:V):∀fs:List (Str×V),(aF f v fs).length<=fs.length+1
 |[]=>aav _
 | (g,x)::r=>by
  unfold aF
  split
  ·exact ace _
  ·exact abp (bV f v r)
theorem zQr:∀{vs:List V}{xss:List LI},A2 (rp K R) vs xss->∃bs:List Addr,vs=bs.map V.ref/\rE K R bs xss
 |[],[],_=>⟨[],rfl,rfl,λi b h=>by simp at h⟩
 |v::vs,xs::xss,h=>by
  obtain⟨bs,e,h1,h2⟩:=zQr h.2
  obtain⟨p,ws,rfl,h3,h4⟩:=h.1
  have h5:ws=xs.map V.int:=h4.vals
  refine⟨p::bs,by rw[e,map_cons],by rw[length_cons,length_cons,h1],λi b hb=>?_⟩
  cases i with
  |zero=>simp at hb;subst hb;exact⟨xs,rfl,bx.of (by rw[h3,h5])⟩
  |succ i=>exact h2 i b (by simpa using hb)
 |[],_::_,h=>h.elim
 |_::_,[],h=>h.elim
def QV(xss:LLI):Option LLI:=if xss.length<=60/\Wu xss.length xss then some (srcs xss) else none
theorem Ob(F:aW K "sources_of" "sources_of" Xj f fd)(B:Bl K mg):aq P w K mg base aP 1 f fd ["steps"] (cu K false (λa:LLI×Unit=>([.fz false a.1]:SL K)) λa=>QV a.1):=by
 refine(Uz F B).imp λvs H Q E h=>?_
 obtain⟨⟨xss,⟨⟩⟩,b,Fa,s,hb,r,q⟩:=h
 have hb:QV xss=some b:=hb
 unfold QV at hb
 split at hb
 case isFalse=>cases hb
 rename_i hv
 cases hb
 cases r with
 |cons r1 r2 =>
  cases r2
  obtain⟨a,ws,rfl,h1,h2⟩:=r1
  obtain⟨bs,rfl,h3⟩:=zQr (K:=K) h2
  refine⟨a,bs,xss,rfl,bx.of (s _ _ h1),h3.same s,hv.1,hv.2,λrr cs H' s' hr e l R N=>q _ _ s' ?_⟩
  refine⟨rr,_,rfl,by show dif H' H rr=_;rw[vp hr];exact e,?_⟩
  exact GF (K:=K) l R λc hc o e=>by show dif H' H c=_;rw[vp (N c hc)];exact e
theorem Oc{fS:LLI->Option Unit}{fM:Eu->Int->Option Unit}{fF:LLI->Int->Option Unit}{fC fO:LLI->Option LLI}(F:CW K "__init__" "Machine.__init__" CT dV f fd)(T:Cl K mg C)(B:Bl K mg)(CS:bH P w K mg base k "check_steps" ["steps"] (cu K false (λa:LLI×Unit=>([.fz false a.1]:SL K)) λa=>fS a.1))(CM:bH P w K mg base k "check_marks" ["marks","many"] (cu K false (λa:Eu×Int×Unit=>([.fz false a.1,.fz false a.2.1]:SL K)) λa=>fM a.1 a.2.1))(CF:bH P w K mg base k "check_fair" ["fair","many"] (cu K false (λa:LLI×Int×Unit=>([.fz false a.1,.fz false a.2.1]:SL K)) λa=>fF a.1 a.2.1))(CC:bH P w K mg base k "copied" ["lists"] (cu K false (λa:LLI×Unit=>([.fz false a.1]:SL K)) λa=>fC a.1))(CO:bH P w K mg base k "sources_of" ["steps"] (cu K false (λa:LLI×Unit=>([.fz false a.1]:SL K)) λa=>fO a.1)) :
  aq P w K mg base aP (k+1) f fd ["self","steps","marks","fair"] (T9 K C (WW C fS fM fF fC fO)):=by
 refine F.ok Oa (λvs H Q E h=>?_) (λcdv A outer s H vs Q E hr h=>?_)
 ·obtain⟨p,dx,vS,vM,vF,xss,mo,fo,M,rfl,_⟩:=h
  rfl
 obtain⟨p,dx,vS,vM,vF,xss,mo,fo,M,rfl,hp,rS,rM,rF,hm,q⟩:=h
 unfold WW at hm
 obtain⟨⟨⟩,e1,hm⟩:=Ew hm
 obtain⟨⟨⟩,e2,hm⟩:=Ew hm
 obtain⟨⟨⟩,e3,hm⟩:=Ew hm
 obtain⟨a,e4,hm⟩:=Ew hm
 obtain⟨b,e5,hm⟩:=Ew hm
 obtain⟨c,e6,hm⟩:=Ew hm
 obtain⟨d,e7,hm⟩:=Ew hm
 cases hm
 refine⟨_,zB (Yh (i:=4) Oa.nd rfl (Or.inl rfl) (zM6 (sI (Qd (pv 2))) (wV zI) (pv 2)))
  (zB (Yh (i:=5) Oa.nd rfl (Or.inl rfl) (zM6 (sI (Qd (pv 3))) (wV zI) (pv 3)))
  (zB (yJ (yC CS hr (zA (pv 1) zI)))
  (zB (yJ (yC CM hr (zA (pv 4) (zA (zP (vA K) rfl B.len aa8 (zA (pv 1) zI)) zI))))
  (zB (yJ (yC CF hr (zA (pv 5) (zA (zP (vA K) rfl B.len aa8 (zA (pv 1) zI)) zI))))
  (zB (Eh (pv 0) (yC CC hr (zA (pv 1) zI)) rfl)
  (zB (Eh (pv 0) (wW (own:=["name","stands"]) (ix:=[]) rfl rfl rfl (yK K (pv 4)) (λC s H fp=>zQ3 (K:=K) (n:=2) rfl rfl (xO (yQ (i:=0) UG rfl (Or.inl rfl)) (xO (yQ (i:=1) UG rfl (Or.inl rfl)) Fq))) (λC s H fp=>vK)
   (λC s H fp=>sS (zA (pv 0) (zA (vQ (JF K) rfl B.list Es (zA (pv 1) zI)) zI)))) rfl)
  (zB (Eh (pv 0) (yC CC hr (zA (pv 5) zI)) rfl)
  (wB (Eh (pv 0) (yC CO hr (zA (zWg (pv 0) rfl) zI)) rfl))))))))),?_⟩
 have sg0:Sg (K:=K) ⟨hid H p,H⟩ (hid H p) [.fz false (iB.mk ():iB p),.fz false xss,.fz false mo,.fz false fo,.un,.un] [some (.ref p),some vS,some vM,some vF,none,none] H :=
  ⟨hid H p,[],.refl _,zWy (.fz (show rp K _ _ (iB.mk ():iB p) from rfl) (.fz rS (.fz rM (.fz rF (.un (.un .nil))))))⟩
 refine(Sn.of (yE false 4 rfl rfl (zWp (aR (md:=.hp) (Qu (zD 2 rfl))) (Eo.ex (uS (α:=Str×LI))) (Tq (yN 2 rfl)))) (show _=some (mo.getD []) by cases mo<;>rfl)) _ rfl (hid H p) _ _ H sg0 λσ1 H1 sg1=>?_
 refine(Sn.of (yE false 5 rfl rfl (zWp (aR (md:=.hp) (Qu (zD 3 rfl))) (Eo.ex (uS (α:=LI))) (Tq (yN 3 rfl)))) (show _=some (fo.getD []) by cases fo<;>rfl)) _ rfl (hid H p) _ _ H1 sg1 λσ2 H2 sg2=>?_
 refine(Sn.of (Qp (md:=.hp) (zM (f:=λa:LLI×Unit=>fS a.1) (zF (zD 1 rfl) zQ))) (show _=fS xss from rfl)) () e1 (hid H p) _ _ H2 sg2 λσ3 H3 sg3=>?_
 refine(Sn.of (Qp (md:=.hp) (zM (f:=λa:Eu×Int×Unit=>fM a.1 a.2.1) (zF (zD 4 rfl) (zF (Ex.sc (md:=.hp) (uC (zD 1 rfl))) zQ)))) (show _=fM (mo.getD []) (xss.length:Int) from rfl)) () e2 (hid H p) _ _ H3 sg3 λσ4 H4 sg4=>?_
 refine(Sn.of (Qp (md:=.hp) (zM (f:=λa:LLI×Int×Unit=>fF a.1 a.2.1) (zF (zD 5 rfl) (zF (Ex.sc (md:=.hp) (uC (zD 1 rfl))) zQ)))) (show _=fF (fo.getD []) (xss.length:Int) from rfl)) () e3 (hid H p) _ _ H4 sg4 λσ5 H5 sg5=>?_
 obtain⟨F5,O5,g5,k5,s5⟩:=sg5
 have s5:ao (K:=K) ⟨hid H p,H⟩ F5 (lo F5 O5 H5) H5 [.fz false (iB.mk ():iB p),.fz false xss,.fz false mo,.fz false fo,.fz false (mo.getD []),.fz false (fo.getD [])] σ5 O5:=s5
 cases s5 with|fz r0 s5 =>
 cases s5 with|fz r1 s5 =>
 cases s5 with|fz r2 s5 =>
 cases s5 with|fz r3 s5 =>
 cases s5 with|fz r4 s5 =>
 cases s5 with|fz r5 s5 =>
 cases s5
 rename_i v0 v1 v2 v3 v4 v5
 have r0:v0=.ref p:=r0
 subst r0
 have hF:Same F5 (hid H5 p):=λb o e=>by
  by_cases z:b=p
  ·subst z
   rcases k5.fa b o e with z|z
   ·have z:hid H b b=some o:=z
    rw[Qy] at z
    cases z
   ·have z:H b=none:=z
    rw[hp] at z
    cases z
  ·rw[Nj z];exact k5.fh b o e
 have r1:rp K (hid H5 p) v1 xss:=Rp.mono hF r1
 have r2:rp K (hid H5 p) v2 mo:=Rp.mono hF r2
 have r3:rp K (hid H5 p) v3 fo:=Rp.mono hF r3
 have r4:rp K (hid H5 p) v4 (mo.getD []):=Rp.mono hF r4
 have r5:rp K (hid H5 p) v5 (fo.getD []):=Rp.mono hF r5
 have s05:Same H H5:=k5.h0
 have hp5:H5 p=some (.ins C dx []):=s05 _ _ hp
 refine⟨_,rfl,(xss,()),a,H5,.refl _,e4,.cons (Rp.mono T_ r1) .nil,λy1 H6 s6 t1=>?_⟩
 have t1:rp K (dif H6 H5) y1 a:=t1
 have hp6:=s6 _ _ hp5
 refine⟨_,rfl,p,C,dx,[],rfl,hp6,T.cl,T.nS,(by show 0<1000;decide),?_⟩
 have f1:=Rp.mono (WX (H:=H) (p:=p) (λb o _ e=>s05 b o e) (by rw[hp5];intro z;cases z)) t1
 have kp6:∀b o,b≠p->H b=some o->(upd H6 p (.ins C dx (aF "steps" y1 []))) b=some o:=λb o n e=>by rw[zX n];exact s6 _ _ (s05 _ _ e)
 have h6:Same (hid H5 p) (hid (upd H6 p (.ins C dx (aF "steps" y1 []))) p):=by rw[JT];exact Qz s6
 have E2:Ex (K:=K) ⟨hid (upd H6 p (.ins C dx (aF "steps" y1 []))) p,upd H6 p (.ins C dx (aF "steps" y1 []))⟩ [.fz false (iB.mk ():iB p),.fz false xss,.fz false mo,.fz false fo,.fz false (mo.getD []),.fz false (fo.getD [])] .nw _ _ :=
  (xB (n:=false) (jE:=[.un,.un]) (no:=2) (ix:=[]) rfl rfl (yL (yN 4 rfl)) (Jx 0 1 rfl rfl (λ_=>rfl) rfl) (λx=>v8) (λx=>Mi (zE 0 rfl) (JC (zD 1 rfl)).ex) (λx=>sY.un (sY.un sY.nil))).ex
 refine E2 b e5 (hid (upd H6 p (.ins C dx (aF "steps" y1 []))) p) [] _ _ _ (zWy (.fz (show rp K _ _ (iB.mk ():iB p) from rfl) (.fz (Rp.mono h6 r1) (.fz (Rp.mono h6 r2) (.fz (Rp.mono h6 r3) (.fz (Rp.mono h6 r4) (.fz (Rp.mono h6 r5) .nil))))))) λy2 F7 H7 g7 t2=>?_
 have s7:=g7.hh
 have t2:rp K (dif H7 (upd H6 p (.ins C dx (aF "steps" y1 [])))) y2 b:=Rp.mono (vJ g7.ok.fh) t2
 have hp7:H7 p=some (.ins C dx (aF "steps" y1 [])):=s7 _ _ zT
 refine⟨_,rfl,p,C,dx,_,rfl,hp7,T.cl,T.nM,(by show 1<1000;decide),?_⟩
 have f2:=Rp.mono (WX (H:=H) (p:=p) kp6 (by rw[zT];intro z;cases z)) t2
 have kp7:∀b o,b≠p->H b=some o->(upd H7 p (.ins C dx (aF "marks" y2 (aF "steps" y1 [])))) b=some o:=λb o n e=>by rw[zX n];exact s7 _ _ (kp6 _ _ n e)
 have h7:Same (hid (upd H6 p (.ins C dx (aF "steps" y1 []))) p) (hid (upd H7 p (.ins C dx (aF "marks" y2 (aF "steps" y1 [])))) p):=by rw[JT (H:=H7)];exact Qz s7
 refine⟨_,rfl,(fo.getD [],()),c,_,.refl _,e6,.cons (Rp.mono (h6.trans (h7.trans T_)) r5) .nil,λy3 H8 s8 t3=>?_⟩
 have t3:rp K (dif H8 (upd H7 p (.ins C dx (aF "marks" y2 (aF "steps" y1 []))))) y3 c:=t3
 have hp8:H8 p=some (.ins C dx (aF "marks" y2 (aF "steps" y1 []))):=s8 _ _ zT
 have l2:(aF "marks" y2 (aF "steps" y1 [])).length<1000:=by
  have a1:=bV "marks" y2 (aF "steps" y1 [])
  have a2:=bV "steps" y1 []
  have a3:([]:List (Str×V)).length=0:=rfl
  omega
 refine⟨_,rfl,p,C,dx,_,rfl,hp8,T.cl,T.nF,l2,?_⟩
 have f3:=Rp.mono (WX (H:=H) (p:=p) kp7 (by rw[zT];intro z;cases z)) t3
 have kp8:∀b o,b≠p->H b=some o->(upd H8 p (.ins C dx (aF "fair" y3 (aF "marks" y2 (aF "steps" y1 []))))) b=some o:=λb o n e=>by rw[zX n];exact s8 _ _ (kp7 _ _ n e)
 have h8:Same (hid (upd H7 p (.ins C dx (aF "marks" y2 (aF "steps" y1 [])))) p) (hid (upd H8 p (.ins C dx (aF "fair" y3 (aF "marks" y2 (aF "steps" y1 []))))) p):=by rw[JT (H:=H8)];exact Qz s8
 have lk:(aF "fair" y3 (aF "marks" y2 (aF "steps" y1 []))).lookup ("steps":Str)=some y1:=by
  rw[zR,if_neg (by decide +kernel),zR,if_neg (by decide +kernel),zR,if_pos rfl]
 have d1:Same (dif (hid H6 p) (hid H p)) (hid (upd H8 p (.ins C dx (aF "fair" y3 (aF "marks" y2 (aF "steps" y1 []))))) p):=aZ.trans ((by rw[JT];exact .refl _:Same (hid H6 p) (hid (upd H6 p (.ins C dx (aF "steps" y1 []))) p)).trans (h7.trans h8))
 refine⟨_,rfl,p,C,dx,_,_,rfl,zT,T.cl,T.nS,lk,(a,()),d,_,.refl _,e7,.cons (Rp.mono (d1.trans T_) f1) .nil,λy4 H9 s9 t4=>?_⟩
 have t4:rp K (dif H9 (upd H8 p (.ins C dx (aF "fair" y3 (aF "marks" y2 (aF "steps" y1 [])))))) y4 d:=t4
 have hp9:H9 p=some (.ins C dx (aF "fair" y3 (aF "marks" y2 (aF "steps" y1 [])))):=s9 _ _ zT
 have l3:(aF "fair" y3 (aF "marks" y2 (aF "steps" y1 []))).length<1000:=by
  have a0:=bV "fair" y3 (aF "marks" y2 (aF "steps" y1 []))
  have a1:=bV "marks" y2 (aF "steps" y1 [])
  have a2:=bV "steps" y1 []
  have a3:([]:List (Str×V)).length=0:=rfl
  omega
 refine⟨_,rfl,p,C,dx,_,rfl,hp9,T.cl,T.nB,l3,?_⟩
 have f4:=Rp.mono (WX (H:=H) (p:=p) kp8 (by rw[zT];intro z;cases z)) t4
 have kp9:∀b o,b≠p->H b=some o->(upd H9 p (.ins C dx (aF "sources" y4 (aF "fair" y3 (aF "marks" y2 (aF "steps" y1 [])))))) b=some o:=λb o n e=>by rw[zX n];exact s9 _ _ (kp8 _ _ n e)
 have u9:Same (hid H9 p) (upd H9 p (.ins C dx (aF "sources" y4 (aF "fair" y3 (aF "marks" y2 (aF "steps" y1 [])))))):=(by rw[JT];exact .refl _:Same (hid H9 p) (hid (upd H9 p (.ins C dx (aF "sources" y4 (aF "fair" y3 (aF "marks" y2 (aF "steps" y1 [])))))) p)).trans T_
 have u8:Same (hid H8 p) (hid H9 p):=(by rw[JT];exact .refl _:Same (hid H8 p) (hid (upd H8 p (.ins C dx (aF "fair" y3 (aF "marks" y2 (aF "steps" y1 []))))) p)).trans (Qz s9)
 have u7:Same (hid H7 p) (hid H8 p):=(by rw[JT];exact .refl _:Same (hid H7 p) (hid (upd H7 p (.ins C dx (aF "marks" y2 (aF "steps" y1 [])))) p)).trans (Qz s8)
 have u6:Same (hid H6 p) (hid H7 p):=(by rw[JT];exact .refl _:Same (hid H6 p) (hid (upd H6 p (.ins C dx (aF "steps" y1 []))) p)).trans (Qz s7)
 refine q _ kp9 ⟨p,dx,aF "sources" y4 (aF "fair" y3 (aF "marks" y2 (aF "steps" y1 []))),y1,y2,y3,y4,rfl,?_,?_,Rp.mono (vJ (u6.trans (u7.trans (u8.trans u9)))) f1,?_,Rp.mono (vJ (u7.trans (u8.trans u9))) f2,?_,Rp.mono (vJ (u8.trans u9)) f3,?_,Rp.mono (vJ u9) f4,?_⟩
 ·rw[vp Qy];exact zT
 ·rw[zR,if_neg (by decide +kernel)];exact lk
 ·rw[zR,if_neg (by decide +kernel),zR,if_neg (by decide +kernel),zR,if_pos rfl]
 ·rw[zR,if_neg (by decide +kernel),zR,if_pos rfl]
 ·rw[zR,if_pos rfl]
 ·intro g hg
  simp only[Zt,mem_cons,ae1,or_false] at hg
  rcases hg with rfl|rfl|rfl|rfl|rfl|rfl<;>(rw[zR,if_neg (by decide +kernel),zR,if_neg (by decide +kernel),zR,if_neg (by decide +kernel),zR,if_neg (by decide +kernel)];rfl)
end
end Ts
namespace Sy
open PySem L2
abbrev zLc:Stmt:=Ts.jZ
abbrev zQp:Stmt:=Ts.lg
abbrev zQo:Stmt:=Ts.lq
abbrev Od:Stmt:=Ts.m5
abbrev CZ:Stmt:=Ts.mz
abbrev Oe:Stmt:=Ts.m6
abbrev zE2:Stmt:=Ts.jw
abbrev zE5:Stmt:=Ts.jx
abbrev zCl:Stmt:=Ts.g8
abbrev zCm:Stmt:=Ts.g_
abbrev zE3:Stmt:=Ts.jB
abbrev zE6:Stmt:=Ts.jC
abbrev C_:Stmt:=Ts.mC
abbrev zLd:Stmt:=Ts.j4
abbrev zE1:Stmt:=Ts.jy
abbrev zE4:Stmt:=Ts.jA
section
variable{P:Program}{w:World}{K:PySem.W.Frag}{mg:Str->Option Value}{base:Heap}
theorem zT7:ak ["self","word","parts"] ["self","word","parts"] (zJ zLc):=⟨rfl,rfl,rfl,by decide +kernel,rfl,by decide +kernel,by decide +kernel⟩
theorem zRh(F:aW K "__init__" "Saying.__init__" zLc f fd):aq P w K mg base aP 1 f fd ["self","word","parts"] (spS K):=by
 refine F.ok zT7 (λvs H Q E h=>?_) (λcdv A outer s H vs Q E hr h=>?_)
 ·obtain⟨p,C,dx,x,y,rfl,_⟩:=h
  rfl
 obtain⟨p,C,dx,x,y,rfl,hp,T,q⟩:=h
 refine⟨_,zB (Eh (pv 0) (pv 1) rfl) (wB (Eh (pv 0) (pv 2) rfl)),?_⟩
 refine⟨_,rfl,_,rfl,p,C,dx,[],rfl,hp,T.cl,T.nW,(by show 0<1000;decide),_,rfl,_,rfl,p,C,dx,_,rfl,zT,T.cl,T.nP,(by show 1<1000;decide),?_⟩
 exact q _ ((Kp.put p H _).trans (Kp.put p _ _)) zT
theorem HB:ak ["self","word","part"] ["self","word","part"] (zJ zQp):=⟨rfl,rfl,rfl,by decide +kernel,rfl,by decide +kernel,by decide +kernel⟩
theorem zUw(F:aW K "__init__" "OfOne.__init__" zQp f fd)(mD:mg "Saying" = some (.ref D))(cD:qW K D "__init__" g)(G:aq P w K mg base aP 1 g gd ["self","word","parts"] (spS K))(bG:Binds K gd ["self","word","parts"] []) :
  aq P w K mg base aP 2 f fd ["self","word","part"] (rK K):=by
 refine F.ok HB (λvs H Q E h=>?_) (λcdv A outer s H vs Q E hr h=>?_)
 ·obtain⟨p,C,dx,x,v,rfl,_⟩:=h
  rfl
 obtain⟨p,C,dx,x,v,rfl,hp,T,q⟩:=h
 refine⟨_,zB (yJ (tE rfl mD cD G hr bG .nil vR (zA (pv 0) (zA (pv 1) (zA (sS (zA (pv 2) zI)) zI))))) (wB (Eh (pv 0) (pv 2) rfl)),?_⟩
 refine⟨_,rfl,_,rfl,_,rfl,(by show 1<=sizeLine;decide),λt ht=>?_⟩
 have hp1:=aL ht (.tup [v]) _ _ hp
 refine⟨p,C,dx,_,_,rfl,hp1,T,λH' k1 e1=>?_⟩
 have pt:t≠p:=(zU hp ht).symm
 refine⟨_,rfl,_,rfl,p,C,dx,_,rfl,e1,T.cl,T.n1,aa5 (Xb x t) (by decide),?_⟩
 exact q t _ (((Kp.of (aL ht _)).trans k1).trans (Kp.put p _ _)) ht (by rw[zX pt];exact k1 _ _ pt zT) zT
theorem HD:ak ["self","word","left","right"] ["self","word","left","right"] (zJ zQo):=⟨rfl,rfl,rfl,by decide +kernel,rfl,by decide +kernel,by decide +kernel⟩
theorem zUv(F:aW K "__init__" "OfTwo.__init__" zQo f fd)(mD:mg "Saying" = some (.ref D))(cD:qW K D "__init__" g)(G:aq P w K mg base aP 1 g gd ["self","word","parts"] (spS K))(bG:Binds K gd ["self","word","parts"] []) :
  aq P w K mg base aP 2 f fd ["self","word","left","right"] (Cz K):=by
 refine F.ok HD (λvs H Q E h=>?_) (λcdv A outer s H vs Q E hr h=>?_)
 ·obtain⟨p,C,dx,x,v,u,rfl,_⟩:=h
  rfl
 obtain⟨p,C,dx,x,v,u,rfl,hp,T,q⟩:=h
 refine⟨_,zB (yJ (tE rfl mD cD G hr bG .nil vR (zA (pv 0) (zA (pv 1) (zA (sS (zA (pv 2) (zA (pv 3) zI))) zI))))) (zB (Eh (pv 0) (pv 2) rfl) (wB (Eh (pv 0) (pv 3) rfl))),?_⟩
 refine⟨_,rfl,_,rfl,_,rfl,_,rfl,(by show 2<=sizeLine;decide),λt ht=>?_⟩
 have hp1:=aL ht (.tup [v,u]) _ _ hp
 refine⟨p,C,dx,_,_,rfl,hp1,T,λH' k1 e1=>?_⟩
 have pt:t≠p:=(zU hp ht).symm
 refine⟨_,rfl,_,rfl,p,C,dx,_,rfl,e1,T.cl,T.nL,aa5 (Xb x t) (by decide),?_⟩
 refine⟨_,rfl,_,rfl,p,C,dx,_,rfl,zT,T.cl,T.nR,aa5 (aa4 (bV "left" v _) (abp (Xb x t))) (by decide),?_⟩
 exact q t _ ((((Kp.of (aL ht _)).trans k1).trans (Kp.put p _ _)).trans (Kp.put p _ _)) ht (by rw[zX pt,zX pt];exact k1 _ _ pt zT) zT
theorem UJ:ak ["self"] ["self"] (zJ Od):=⟨rfl,rfl,rfl,by decide +kernel,rfl,by decide +kernel,by decide +kernel⟩
theorem Og(F:aW K "__init__" "All.__init__" Od f fd)(T:gZ K C)(mD:mg "Saying" = some (.ref D))(cD:qW K D "__init__" g)(G:aq P w K mg base aP 1 g gd ["self","word","parts"] (spS K))(bG:Binds K gd ["self","word","parts"] []) :
  aq P w K mg base aP 2 f fd ["self"] (NQ C):=by
 refine F.ok UJ (λvs H Q E h=>?_) (λcdv A outer s H vs Q E hr h=>?_)
 ·obtain⟨p,dx,rfl,_⟩:=h
  rfl
 obtain⟨p,dx,rfl,hp,q⟩:=h
 refine⟨_,wB (yJ (tE rfl mD cD G hr bG .nil vR (zA (pv 0) (zA xV (zA (sS zI) zI))))),?_⟩
 refine⟨_,rfl,(by show 0<=sizeLine;decide),λt ht=>?_⟩
 have hp1:=aL ht (.tup []) _ _ hp
 have pt:t≠p:=(zU hp ht).symm
 exact⟨p,C,dx,_,_,rfl,hp1,T,λH' k1 e1=>q t H' ((Kp.of (aL ht _)).trans k1) ht (k1 _ _ pt zT) e1⟩
theorem Oh:ak ["self","name"] ["self","name"] (zJ CZ):=⟨rfl,rfl,rfl,by decide +kernel,rfl,by decide +kernel,by decide +kernel⟩
theorem HF(F:aW K "__init__" "Mark.__init__" CZ f fd)(T:gZ K C)(mD:mg "Saying" = some (.ref D))(cD:qW K D "__init__" g)(G:aq P w K mg base aP 1 g gd ["self","word","parts"] (spS K))(bG:Binds K gd ["self","word","parts"] []) :
  aq P w K mg base aP 2 f fd ["self","name"] (NT C):=by
 refine F.ok Oh (λvs H Q E h=>?_) (λcdv A outer s H vs Q E hr h=>?_)
 ·obtain⟨p,dx,x,rfl,_⟩:=h
  rfl
 obtain⟨p,dx,x,rfl,hp,q⟩:=h
 refine⟨_,zB (yJ (tE rfl mD cD G hr bG .nil vR (zA (pv 0) (zA (pv 1) (zA (sS zI) zI))))) (wB (Eh (pv 0) (pv 1) rfl)),?_⟩
 refine⟨_,rfl,_,rfl,(by show 0<=sizeLine;decide),λt ht=>?_⟩
 have hp1:=aL ht (.tup []) _ _ hp
 have pt:t≠p:=(zU hp ht).symm
 refine⟨p,C,dx,_,_,rfl,hp1,T,λH' k1 e1=>?_⟩
 refine⟨_,rfl,_,rfl,p,C,dx,_,rfl,e1,T.cl,T.nN,aa5 (Xb x t) (by decide),?_⟩
 exact q t _ (((Kp.of (aL ht _)).trans k1).trans (Kp.put p _ _)) ht (by rw[zX pt];exact k1 _ _ pt zT) zT
end
section
variable{P:Program}{w:World}{K:PySem.W.Frag}{mg:Str->Option Value}{base:Heap}
theorem UL:ak ["self","part"] ["self","part"] (zJ Oe):=⟨rfl,rfl,rfl,by decide +kernel,rfl,by decide +kernel,by decide +kernel⟩
theorem Oi(F:aW K "__init__" "Not.__init__" Oe f fd)(T:gZ K C)(mD:mg "OfOne" = some (.ref D))(cD:qW K D "__init__" g)(G:aq P w K mg base aP 2 g gd ["self","word","part"] (rK K))(bG:Binds K gd ["self","word","part"] []) :
  aq P w K mg base aP 3 f fd ["self","part"] (qp C "not"):=by
 refine F.ok UL (λvs H Q E h=>?_) (λcdv A outer s H vs Q E hr h=>?_)
 ·obtain⟨p,dx,c,rfl,_⟩:=h
  rfl
 obtain⟨p,dx,c,rfl,hp,q⟩:=h
 refine⟨_,wB (yJ (tE rfl mD cD G hr bG .nil vR (zA (pv 0) (zA xV (zA (pv 1) zI))))),?_⟩
 exact⟨_,rfl,_,rfl,p,C,dx,_,_,rfl,hp,T,λq0 H' k1 f0 e1 e2=>q q0 H' k1 f0 e1 e2⟩
theorem zOk:ak ["self","part"] ["self","part"] (zJ zE2):=⟨rfl,rfl,rfl,by decide +kernel,rfl,by decide +kernel,by decide +kernel⟩
theorem zLs(F:aW K "__init__" "SomeNext.__init__" zE2 f fd)(T:gZ K C)(mD:mg "OfOne" = some (.ref D))(cD:qW K D "__init__" g)(G:aq P w K mg base aP 2 g gd ["self","word","part"] (rK K))(bG:Binds K gd ["self","word","part"] []) :
  aq P w K mg base aP 3 f fd ["self","part"] (qp C "somenext"):=by
 refine F.ok zOk (λvs H Q E h=>?_) (λcdv A outer s H vs Q E hr h=>?_)
 ·obtain⟨p,dx,c,rfl,_⟩:=h
  rfl
 obtain⟨p,dx,c,rfl,hp,q⟩:=h
 refine⟨_,wB (yJ (tE rfl mD cD G hr bG .nil vR (zA (pv 0) (zA xV (zA (pv 1) zI))))),?_⟩
 exact⟨_,rfl,_,rfl,p,C,dx,_,_,rfl,hp,T,λq0 H' k1 f0 e1 e2=>q q0 H' k1 f0 e1 e2⟩
theorem zOn:ak ["self","part"] ["self","part"] (zJ zE5):=⟨rfl,rfl,rfl,by decide +kernel,rfl,by decide +kernel,by decide +kernel⟩
theorem zLv(F:aW K "__init__" "EachNext.__init__" zE5 f fd)(T:gZ K C)(mD:mg "OfOne" = some (.ref D))(cD:qW K D "__init__" g)(G:aq P w K mg base aP 2 g gd ["self","word","part"] (rK K))(bG:Binds K gd ["self","word","part"] []) :
  aq P w K mg base aP 3 f fd ["self","part"] (qp C "eachnext"):=by
 refine F.ok zOn (λvs H Q E h=>?_) (λcdv A outer s H vs Q E hr h=>?_)
 ·obtain⟨p,dx,c,rfl,_⟩:=h
  rfl
 obtain⟨p,dx,c,rfl,hp,q⟩:=h
 refine⟨_,wB (yJ (tE rfl mD cD G hr bG .nil vR (zA (pv 0) (zA xV (zA (pv 1) zI))))),?_⟩
 exact⟨_,rfl,_,rfl,p,C,dx,_,_,rfl,hp,T,λq0 H' k1 f0 e1 e2=>q q0 H' k1 f0 e1 e2⟩
theorem zJe:ak ["self","part"] ["self","part"] (zJ zCl):=⟨rfl,rfl,rfl,by decide +kernel,rfl,by decide +kernel,by decide +kernel⟩
theorem zIc(F:aW K "__init__" "SomeAlways.__init__" zCl f fd)(T:gZ K C)(mD:mg "OfOne" = some (.ref D))(cD:qW K D "__init__" g)(G:aq P w K mg base aP 2 g gd ["self","word","part"] (rK K))(bG:Binds K gd ["self","word","part"] []) :
  aq P w K mg base aP 3 f fd ["self","part"] (qp C "somealways"):=by
 refine F.ok zJe (λvs H Q E h=>?_) (λcdv A outer s H vs Q E hr h=>?_)
 ·obtain⟨p,dx,c,rfl,_⟩:=h
  rfl
 obtain⟨p,dx,c,rfl,hp,q⟩:=h
 refine⟨_,wB (yJ (tE rfl mD cD G hr bG .nil vR (zA (pv 0) (zA xV (zA (pv 1) zI))))),?_⟩
 exact⟨_,rfl,_,rfl,p,C,dx,_,_,rfl,hp,T,λq0 H' k1 f0 e1 e2=>q q0 H' k1 f0 e1 e2⟩
theorem zJf:ak ["self","part"] ["self","part"] (zJ zCm):=⟨rfl,rfl,rfl,by decide +kernel,rfl,by decide +kernel,by decide +kernel⟩
theorem zId(F:aW K "__init__" "EachAlways.__init__" zCm f fd)(T:gZ K C)(mD:mg "OfOne" = some (.ref D))(cD:qW K D "__init__" g)(G:aq P w K mg base aP 2 g gd ["self","word","part"] (rK K))(bG:Binds K gd ["self","word","part"] []) :
  aq P w K mg base aP 3 f fd ["self","part"] (qp C "eachalways"):=by
 refine F.ok zJf (λvs H Q E h=>?_) (λcdv A outer s H vs Q E hr h=>?_)
 ·obtain⟨p,dx,c,rfl,_⟩:=h
  rfl
 obtain⟨p,dx,c,rfl,hp,q⟩:=h
 refine⟨_,wB (yJ (tE rfl mD cD G hr bG .nil vR (zA (pv 0) (zA xV (zA (pv 1) zI))))),?_⟩
 exact⟨_,rfl,_,rfl,p,C,dx,_,_,rfl,hp,T,λq0 H' k1 f0 e1 e2=>q q0 H' k1 f0 e1 e2⟩
theorem zOl:ak ["self","part"] ["self","part"] (zJ zE3):=⟨rfl,rfl,rfl,by decide +kernel,rfl,by decide +kernel,by decide +kernel⟩
theorem zLt(F:aW K "__init__" "SomeEver.__init__" zE3 f fd)(T:gZ K C)(mD:mg "OfOne" = some (.ref D))(cD:qW K D "__init__" g)(G:aq P w K mg base aP 2 g gd ["self","word","part"] (rK K))(bG:Binds K gd ["self","word","part"] []) :
  aq P w K mg base aP 3 f fd ["self","part"] (qp C "someever"):=by
 refine F.ok zOl (λvs H Q E h=>?_) (λcdv A outer s H vs Q E hr h=>?_)
 ·obtain⟨p,dx,c,rfl,_⟩:=h
  rfl
 obtain⟨p,dx,c,rfl,hp,q⟩:=h
 refine⟨_,wB (yJ (tE rfl mD cD G hr bG .nil vR (zA (pv 0) (zA xV (zA (pv 1) zI))))),?_⟩
 exact⟨_,rfl,_,rfl,p,C,dx,_,_,rfl,hp,T,λq0 H' k1 f0 e1 e2=>q q0 H' k1 f0 e1 e2⟩
theorem zOo:ak ["self","part"] ["self","part"] (zJ zE6):=⟨rfl,rfl,rfl,by decide +kernel,rfl,by decide +kernel,by decide +kernel⟩
theorem zLw(F:aW K "__init__" "EachEver.__init__" zE6 f fd)(T:gZ K C)(mD:mg "OfOne" = some (.ref D))(cD:qW K D "__init__" g)(G:aq P w K mg base aP 2 g gd ["self","word","part"] (rK K))(bG:Binds K gd ["self","word","part"] []) :
  aq P w K mg base aP 3 f fd ["self","part"] (qp C "eachever"):=by
 refine F.ok zOo (λvs H Q E h=>?_) (λcdv A outer s H vs Q E hr h=>?_)
 ·obtain⟨p,dx,c,rfl,_⟩:=h
  rfl
 obtain⟨p,dx,c,rfl,hp,q⟩:=h
 refine⟨_,wB (yJ (tE rfl mD cD G hr bG .nil vR (zA (pv 0) (zA xV (zA (pv 1) zI))))),?_⟩
 exact⟨_,rfl,_,rfl,p,C,dx,_,_,rfl,hp,T,λq0 H' k1 f0 e1 e2=>q q0 H' k1 f0 e1 e2⟩
theorem Oj:ak ["self","left","right"] ["self","left","right"] (zJ C_):=⟨rfl,rfl,rfl,by decide +kernel,rfl,by decide +kernel,by decide +kernel⟩
theorem HJ(F:aW K "__init__" "Both.__init__" C_ f fd)(T:gZ K C)(mD:mg "OfTwo" = some (.ref D))(cD:qW K D "__init__" g)(G:aq P w K mg base aP 2 g gd ["self","word","left","right"] (Cz K))(bG:Binds K gd ["self","word","left","right"] []) :
  aq P w K mg base aP 3 f fd ["self","left","right"] (Aa C "both"):=by
 refine F.ok Oj (λvs H Q E h=>?_) (λcdv A outer s H vs Q E hr h=>?_)
 ·obtain⟨p,dx,c,d,rfl,_⟩:=h
  rfl
 obtain⟨p,dx,c,d,rfl,hp,q⟩:=h
 refine⟨_,wB (yJ (tE rfl mD cD G hr bG .nil vR (zA (pv 0) (zA xV (zA (pv 1) (zA (pv 2) zI)))))),?_⟩
 exact⟨_,rfl,_,rfl,_,rfl,p,C,dx,_,_,_,rfl,hp,T,λq0 H' k1 f0 e1 e2=>q q0 H' k1 f0 e1 e2⟩
theorem zT8:ak ["self","left","right"] ["self","left","right"] (zJ zLd):=⟨rfl,rfl,rfl,by decide +kernel,rfl,by decide +kernel,by decide +kernel⟩
theorem zRi(F:aW K "__init__" "Either.__init__" zLd f fd)(T:gZ K C)(mD:mg "OfTwo" = some (.ref D))(cD:qW K D "__init__" g)(G:aq P w K mg base aP 2 g gd ["self","word","left","right"] (Cz K))(bG:Binds K gd ["self","word","left","right"] []) :
  aq P w K mg base aP 3 f fd ["self","left","right"] (Aa C "either"):=by
 refine F.ok zT8 (λvs H Q E h=>?_) (λcdv A outer s H vs Q E hr h=>?_)
 ·obtain⟨p,dx,c,d,rfl,_⟩:=h
  rfl
 obtain⟨p,dx,c,d,rfl,hp,q⟩:=h
 refine⟨_,wB (yJ (tE rfl mD cD G hr bG .nil vR (zA (pv 0) (zA xV (zA (pv 1) (zA (pv 2) zI)))))),?_⟩
 exact⟨_,rfl,_,rfl,_,rfl,p,C,dx,_,_,_,rfl,hp,T,λq0 H' k1 f0 e1 e2=>q q0 H' k1 f0 e1 e2⟩
theorem zOj:ak ["self","left","right"] ["self","left","right"] (zJ zE1):=⟨rfl,rfl,rfl,by decide +kernel,rfl,by decide +kernel,by decide +kernel⟩
theorem zLr(F:aW K "__init__" "SomeTill.__init__" zE1 f fd)(T:gZ K C)(mD:mg "OfTwo" = some (.ref D))(cD:qW K D "__init__" g)(G:aq P w K mg base aP 2 g gd ["self","word","left","right"] (Cz K))(bG:Binds K gd ["self","word","left","right"] []) :
  aq P w K mg base aP 3 f fd ["self","left","right"] (Aa C "sometill"):=by
 refine F.ok zOj (λvs H Q E h=>?_) (λcdv A outer s H vs Q E hr h=>?_)
 ·obtain⟨p,dx,c,d,rfl,_⟩:=h
  rfl
 obtain⟨p,dx,c,d,rfl,hp,q⟩:=h
 refine⟨_,wB (yJ (tE rfl mD cD G hr bG .nil vR (zA (pv 0) (zA xV (zA (pv 1) (zA (pv 2) zI)))))),?_⟩
 exact⟨_,rfl,_,rfl,_,rfl,p,C,dx,_,_,_,rfl,hp,T,λq0 H' k1 f0 e1 e2=>q q0 H' k1 f0 e1 e2⟩
theorem zOm:ak ["self","left","right"] ["self","left","right"] (zJ zE4):=⟨rfl,rfl,rfl,by decide +kernel,rfl,by decide +kernel,by decide +kernel⟩
theorem zLu(F:aW K "__init__" "EachTill.__init__" zE4 f fd)(T:gZ K C)(mD:mg "OfTwo" = some (.ref D))(cD:qW K D "__init__" g)(G:aq P w K mg base aP 2 g gd ["self","word","left","right"] (Cz K))(bG:Binds K gd ["self","word","left","right"] []) :
  aq P w K mg base aP 3 f fd ["self","left","right"] (Aa C "eachtill"):=by
 refine F.ok zOm (λvs H Q E h=>?_) (λcdv A outer s H vs Q E hr h=>?_)
 ·obtain⟨p,dx,c,d,rfl,_⟩:=h
  rfl
 obtain⟨p,dx,c,d,rfl,hp,q⟩:=h
 refine⟨_,wB (yJ (tE rfl mD cD G hr bG .nil vR (zA (pv 0) (zA xV (zA (pv 1) (zA (pv 2) zI)))))),?_⟩
 exact⟨_,rfl,_,rfl,_,rfl,p,C,dx,_,_,_,rfl,hp,T,λq0 H' k1 f0 e1 e2=>q q0 H' k1 f0 e1 e2⟩
end
end Sy
set_option maxHeartbeats 40000000
namespace Ts
open PySem L2 Sy
section
variable{P:Program}{w:World}{K:PySem.W.Frag}{mg:Str->Option Value}{base:Heap}
def UW(q0:Int)(q1:Int):Option Bool:=if true=true then if(!false)=true then if decide ((0:Int)<=q0)=true then some (decide (q0<q1)) else some false else some false else some false
theorem lU:ak ["thing","many"] ["thing","many"] (zJ jO):=fsc
abbrev zHf(K:PySem.W.Frag):Sp:=cu K false (λa:Int×Int×Unit=>([.z a.1,.z a.2.1]:SL K)) (λa=>UW a.1 a.2.1)
theorem zLp(F:aW K "is_stand" "is_stand" jO f fd)(B:Bl K mg):aq P w K mg base aP (k+1) f fd ["thing","many"] (zHf K):=by
 refine yI F lU (λ_=>rfl) (λ_=>rfl) λcdv A outer s H E hr=>?_
 have nd:=lU.nd
 refine⟨_,(zB (zS (RD (zP (xM K (Cg (n:="int"))) rfl B.jt xN (zA (pv 0) (zA (Bp (v:=.ty "int") rfl B.int Zq rfl) zI))) (RD (zWf (zP (xM K (Cg (n:="bool"))) rfl B.jt xN (zA (pv 0) (zA (Bp (v:=.ty "bool") rfl B.bool Zr rfl) zI)))) (VR (zM7 V7 Ef zL (pv 0) (pv 1)))))) zH),?_⟩
 rintro Fa ⟨q0,q1,⟨⟩⟩
 exact SB.of (zW (esc (S8 (Cu B.ii rfl (zE 0 rfl)) (S8 (zWo (Cu B.ib rfl (zE 0 rfl))) (ZK (f:=(λi j=>decide (i<=j))) (g:=(λi j=>decide (i<j))) (zK 0) (zE 0 rfl) (zE 1 rfl)))))) (by unfold UW;simp only[bnd])
def xY(q0:LI)(q1:Int)(q2:Str):Option Unit:=(some ()).bind λtQ=>((some q0).bind λxs=>xK (λ(s2:List (Key×Bool)) (x4:Int)=>(((UW x4 q1).bind λa5=>some (!a5)).bind λb=>if b=true then none else some ()).bind λs6=>(if((dO (Dc.mk s2).kv x4).isSome)=true then none else some ()).bind λs8=>(dput s2 x4 true).bind λgF=>some gF) xs (([]:List (Key×Bool)))).bind λs3=>some ()
theorem gQ:ak ["stands","many","where","ahead","stand"] ["stands","many","where"] (zJ dZ):=fsc
abbrev uJ(K:PySem.W.Frag):Sp:=cu K false (λa:LI×Int×Str×Unit=>([.z a.1,.z a.2.1,.z a.2.2.1]:SL K)) (λa=>xY a.1 a.2.1 a.2.2.1)
theorem zFg(F:aW K "check_stands" "check_stands" dZ f fd)(B:Bl K mg)(jR:bH P w K mg base k "is_stand" ["thing","many"] (zHf K)):aq P w K mg base aP (k+1) f fd ["stands","many","where"] (uJ K):=by
 refine WT F gQ (λ_=>rfl) (λ_=>rfl) λcdv A outer s H E hr=>?_
 have nd:=gQ.nd
 have hu:=Sv hr
 refine⟨_,(zB (yP 3 nd YC) (zB (yZ aay rfl (yK K (pv 0)) (bC 4 nd) (zB (yO (uL (yW (yC jR hr (zA (pv 4) (zA (pv 1) zI))))) yT zH) (zB (yO (sI (Qm hu (pv 4) (pv 3))) yT zH) (zB (Wb hu (pv 3) (pv 4) vP rfl) zH)))) zH)),?_⟩
 rintro Fa ⟨q0,q1,q2,⟨⟩⟩
 exact⟨_,Sn.of (zN (Zc (α:=Bool) 3 rfl rfl) (λtQ=>(zN (wL (n:=false) (L:=(λs2:List (Key×Bool)=>([.z q0,.z q1,.z q2,.od (s2:List (Key×Bool)),.un]:SL K))) (([]:List (Key×Bool))) aK (yL (yN 0 rfl)) (λs2=>(zY 4 rfl rfl)) (λs2 x4=>(zN (vH (uR (aR (md:=.hp) (zM (zF (esc (zE 4 rfl)) (zF (esc (zE 1 rfl)) zQ))))) xU (zV (λs7:Unit=>([.z q0,.z q1,.z q2,.od (s2:List (Key×Bool)),.z x4]:SL K)) () aK)) (λs6=>(zN (vH (aR (md:=.hp) (T4 (zE 4 rfl) (WQ 3 rfl))) xU (zV (λs9:Unit=>([.z q0,.z q1,.z q2,.od (s2:List (Key×Bool)),.z x4]:SL K)) () aK)) (λs8=>(zN (ZG 3 rfl rfl (esc (vY true)) (zE 4 rfl)) (λgF=>(zV (λs2:List (Key×Bool)=>([.z q0,.z q1,.z q2,.od (s2:List (Key×Bool)),.un]:SL K)) gF aK))))))))) (λs3=>(zV (λ_:Unit=>([.un,.un,.un,.un,.un]:SL K)) () aK))))) (by unfold xY;simp only[bnd])⟩
def vW(q0:List LI):Option Unit:=(some (q0.length:Int)).bind λmany1=>((if(decide (many1<(1:Int)))=true then some true else some (decide ((60:Int)<many1))).bind λb=>if b=true then none else some ()).bind λs2=>((some (Cp q0)).bind λxs=>xK (λ(s4:Unit) (x6:Int×LI)=>(((((Nh "steps of stand " x6.1).bind λa8=>some ((a8,()))).bind λb9=>some (many1,b9)).bind λb10=>some (x6.2,b10)).bind λz7=>xY z7.1 z7.2.1 z7.2.2.1).bind λu11=>(if(decide ((x6.2.length:Int)=(0:Int)))=true then none else some ()).bind λs12=>some ()) xs ()).bind λs5=>some ()
theorem iR:ak ["steps","many","stand","targets"] ["steps"] (zJ fP):=fsc
abbrev zI0(K:PySem.W.Frag):Sp:=cu K false (λa:((List LI))×Unit=>([.z a.1]:SL K)) (λa=>vW a.1)
theorem zGk(F:aW K "check_steps" "check_steps" fP f fd)(B:Bl K mg)(pB:mg "MOST_STANDS" = some (.int 60 pC))(aN:bH P w K mg base k "check_stands" ["stands","many","where"] (uJ K)):aq P w K mg base aP (k+1) f fd ["steps"] (zI0 K):=by
 refine WT F iR (λ_=>rfl) (λ_=>rfl) λcdv A outer s H E hr=>?_
 have nd:=iR.nd
 refine⟨_,(zB (yP 1 nd (zP (vA K) rfl B.len aa8 (zA (pv 0) zI))) (zB (yO (PW.pt (pw_or (yB Ef (pv 1) zL (aH _)) (pw_or1 (yB Lb (pv 1) (xH (v:=.int 60) rfl pB ⟨_,rfl⟩) (aH _))))) yT zH) (zB (yZ aay rfl (Zu K B.enum (zA (pv 0) zI)) (Jm rfl (xO (bC 2 nd) (xO (bC 3 nd) Fq))) (zB (yJ (yC aN hr (zA (pv 3) (zA (pv 1) (zA (Ce (pv 2) (by decide)) zI))))) (zB (yO (yB (uP K Int hr) (zP (vA K) rfl B.len aa8 (zA (pv 3) zI)) zL (aH _)) yT zH) zH))) zH))),?_⟩
 rintro Fa ⟨q0,⟨⟩⟩
 exact⟨_,Sn.of (zN (yE true 1 rfl rfl (esc (uC (zD 0 rfl)))) (λmany1=>(zN (vH (zc (yA (md:=.hp) (Jy (zE 1 rfl) (zK 1))) (yA (md:=.hp) (Ms (zE 1 rfl) (zK 60)))) xU (zV (λs3:Unit=>([.z q0,.y many1,.un,.un]:SL K)) () aK)) (λs2=>(zN (wL (n:=false) (L:=(λs4:Unit=>([.z q0,.y many1,.un,.un]:SL K))) () aK (Zh (yN 0 rfl)) (λs4=>(Jx 2 3 rfl rfl (λ_=>rfl) rfl)) (λs4 x6=>(zN (Qp (md:=.hp) (zM (zF (zD 3 rfl) (zF (esc (zE 1 rfl)) (zF (esc (zWq "steps of stand " (zE 2 rfl))) zQ))))) (λu11=>(zN (vH (yA (md:=.hp) (uQ (uC (zD 3 rfl)) (zK 0))) xU (zV (λoW:Unit=>([.z q0,.y many1,.z x6.1,.z x6.2]:SL K)) () aK)) (λs12=>(zV (λs4:Unit=>([.z q0,.y many1,.un,.un]:SL K)) () aK))))))) (λs5=>(zV (λ_:Unit=>([.un,.un,.un,.un]:SL K)) () aK))))))) (by unfold vW;simp only[bnd])⟩
def Ol(q0:Str):Option Bool:=(if(!true)=true then some true else some (decide (q0∈(["all","not","both","either","somenext","eachnext","sometill","eachtill","someever","eachever"]:List Str)))).bind λb=>if b=true then some false else((Cv q0).bind λb1=>if decide ((1:Int)<=b1)=true then some (decide (b1<=(8:Int))) else some false).bind λc4=>if c4=true then((some (JM q0)).bind λxs=>yX (λ(x2:Str)=>some true) (λ(x2:Str)=>some (WR x2 ("abcdefghijklmnopqrstuvwxyz":Str))) xs).bind λa3=>some (a3.all id) else some false
theorem ni:ak ["name"] ["name"] (zJ lB):=fsc
abbrev zK0(K:PySem.W.Frag):Sp:=cu K false (λa:Str×Unit=>([.z a.1]:SL K)) (λa=>Ol a.1)
theorem zO0(F:aW K "is_name" "is_name" lB f fd)(B:Bl K mg)(Ac:mg "LETTERS" = some (.str "abcdefghijklmnopqrstuvwxyz" Ad))(nj:mg "LONGEST_NAME" = some (.int 8 nq))(nA:mg "SAYING_WORDS" = some (.ref bY))(eE:∀H,kO K H bY ((["all","not","both","either","somenext","eachnext","sometill","eachtill","someever","eachever"]:List Str).map V.str))(Om:mg "all" = none)(Dd:mg "str" = none):aq P w K mg base aP (k+1) f fd ["name"] (zK0 K):=by
 refine yI F ni (λ_=>rfl) (λ_=>rfl) λcdv A outer s H E hr=>?_
 have nd:=ni.nd
 refine⟨_,(zB (yO (PW.pt (pw_or (uL (yW (zP (xM K (Cg (n:="str"))) rfl B.jt xN (zA (pv 0) (zA (Bp (v:=.ty "str") rfl Dd zWv rfl) zI))))) (pw_or1 (yB (Qv K) (pv 0) (xH (v:=.ref bY) rfl nA rfl) (by with_unfolding_all rfl))))) (zB (zS vP) zH) zH) (zB (zS (RD (zM7 V7 V7 zL (zP zS1 rfl B.len aa8 (zA (pv 0) zI)) (xH (v:=.int 8) rfl nj ⟨_,rfl⟩)) (VR (zP (zS3 K rfl) rfl Om MJ (zA (wW (own:=["sign"]) (ix:=[]) rfl rfl rfl (M_ (pv 0)) (λC s H fp=>yQ (i:=0) (show(["sign"]:List Str).Nodup from by decide +kernel) rfl (Or.inl rfl)) (λC s H fp=>vK) (λC s H fp=>(Ql zQ7 (pv 0) (xH (v:=.str "abcdefghijklmnopqrstuvwxyz") rfl Ac ⟨_,rfl⟩) (by with_unfolding_all rfl)))) zI))))) zH)),?_⟩
 rintro Fa ⟨q0,⟨⟩⟩
 exact SB.of (wH (zc (uR (aR (md:=.hp) (Cu JQ rfl (zE 0 rfl)))) (yA (md:=.hp) (Ng eE (zE 0 rfl)))) (zW (esc (vY false))) (zW (esc (S8 (ZK (f:=(λi j=>decide (i<=j))) (g:=(λi j=>decide (i<=j))) (zK 1) (G6 (zE 0 rfl)) (zK 8)) (zVn (xB (n:=true) (jE:=[.un]) (no:=1) (ix:=[]) rfl rfl (Nb (zE 0 rfl)) (zY 0 rfl rfl) (λx2=>v8) (λx2=>(esc (Nf (zE 0 rfl) (S7 "abcdefghijklmnopqrstuvwxyz")))) (λx2=>dJ)).ex))))) (by unfold Ol;simp only[bnd])
def vX(q0:List (Str×LI))(q1:Int):Option Unit:=(some ()).bind λtQ=>((some q0).bind λxs=>xK (λ(s2:List (Key×Bool)) (x4:Str×LI)=>(((Ol x4.1).bind λa5=>some (!a5)).bind λb=>if b=true then none else some ()).bind λs6=>(if((JR (Dc.mk s2).kv x4.1).isSome)=true then none else some ()).bind λs8=>(T8 s2 x4.1 true).bind λgF=>(((((Qx "mark " x4.1).bind λa12=>some ((a12,()))).bind λb13=>some (q1,b13)).bind λb14=>some (x4.2,b14)).bind λz11=>xY z11.1 z11.2.1 z11.2.2.1).bind λu15=>some gF) xs (([]:List (Key×Bool)))).bind λs3=>some ()
theorem iT:ak ["marks","many","ahead","name","stands"] ["marks","many"] (zJ fQ):=fsc
abbrev zI1(K:PySem.W.Frag):Sp:=cu K false (λa:((List (Str×LI)))×Int×Unit=>([.z a.1,.z a.2.1]:SL K)) (λa=>vX a.1 a.2.1)
theorem zGl(F:aW K "check_marks" "check_marks" fQ f fd)(B:Bl K mg)(aN:bH P w K mg base k "check_stands" ["stands","many","where"] (uJ K))(lG:bH P w K mg base k "is_name" ["name"] (zK0 K)):aq P w K mg base aP (k+1) f fd ["marks","many"] (zI1 K):=by
 refine WT F iT (λ_=>rfl) (λ_=>rfl) λcdv A outer s H E hr=>?_
 have nd:=iT.nd
 have hu:=Sv hr
 refine⟨_,(zB (yP 2 nd YC) (zB (yZ aay rfl (yK K (pv 0)) (Jm rfl (xO (bC 3 nd) (xO (bC 4 nd) Fq))) (zB (yO (uL (yW (yC lG hr (zA (pv 3) zI)))) yT zH) (zB (yO (sI (Qm hu (pv 3) (pv 2))) yT zH) (zB (Wb hu (pv 2) (pv 3) vP rfl) (zB (yJ (yC aN hr (zA (pv 4) (zA (pv 1) (zA (Ce (pv 3) (by decide)) zI))))) zH))))) zH)),?_⟩
 rintro Fa ⟨q0,q1,⟨⟩⟩
 exact⟨_,Sn.of (zN (Zc (α:=Bool) 2 rfl rfl) (λtQ=>(zN (wL (n:=false) (L:=(λs2:List (Key×Bool)=>([.z q0,.z q1,.od (s2:List (Key×Bool)),.un,.un]:SL K))) (([]:List (Key×Bool))) aK (yL (yN 0 rfl)) (λs2=>(Jx 3 4 rfl rfl (λ_=>rfl) rfl)) (λs2 x4=>(zN (vH (uR (aR (md:=.hp) (zM (zF (esc (zE 3 rfl)) zQ)))) xU (zV (λs7:Unit=>([.z q0,.z q1,.od (s2:List (Key×Bool)),.z x4.1,.z x4.2]:SL K)) () aK)) (λs6=>(zN (vH (aR (md:=.hp) (G7 (zE 3 rfl) (WQ 2 rfl))) xU (zV (λs9:Unit=>([.z q0,.z q1,.od (s2:List (Key×Bool)),.z x4.1,.z x4.2]:SL K)) () aK)) (λs8=>(zN (zT2 2 rfl rfl (esc (vY true)) (zE 3 rfl)) (λgF=>(zN (Qp (md:=.hp) (zM (zF (zD 4 rfl) (zF (esc (zE 1 rfl)) (zF (esc (Ni "mark " (zE 3 rfl))) zQ))))) (λu15=>(zV (λs2:List (Key×Bool)=>([.z q0,.z q1,.od (s2:List (Key×Bool)),.un,.un]:SL K)) gF aK))))))))))) (λs3=>(zV (λ_:Unit=>([.un,.un,.un,.un,.un]:SL K)) () aK))))) (by unfold vX;simp only[bnd])⟩
def uO(q0:List LI)(q1:Int):Option Unit:=((some (Cp q0)).bind λxs=>xK (λ(s1:Unit) (x3:Int×LI)=>(((((Nh "fair set " x3.1).bind λa5=>some ((a5,()))).bind λb6=>some (q1,b6)).bind λb7=>some (x3.2,b7)).bind λz4=>xY z4.1 z4.2.1 z4.2.2.1).bind λu8=>some ()) xs ()).bind λs2=>some ()
theorem jF:ak ["fair","many","number","stands"] ["fair","many"] (zJ gB):=fsc
abbrev zK1(K:PySem.W.Frag):Sp:=cu K false (λa:((List LI))×Int×Unit=>([.z a.1,.z a.2.1]:SL K)) (λa=>uO a.1 a.2.1)
theorem zIb(F:aW K "check_fair" "check_fair" gB f fd)(B:Bl K mg)(aN:bH P w K mg base k "check_stands" ["stands","many","where"] (uJ K)):aq P w K mg base aP (k+1) f fd ["fair","many"] (zK1 K):=by
 refine WT F jF (λ_=>rfl) (λ_=>rfl) λcdv A outer s H E hr=>?_
 have nd:=jF.nd
 refine⟨_,(zB (yZ aay rfl (Zu K B.enum (zA (pv 0) zI)) (Jm rfl (xO (bC 2 nd) (xO (bC 3 nd) Fq))) (zB (yJ (yC aN hr (zA (pv 3) (zA (pv 1) (zA (Ce (pv 2) (by decide)) zI))))) zH)) zH),?_⟩
 rintro Fa ⟨q0,q1,⟨⟩⟩
 exact⟨_,Sn.of (zN (wL (n:=false) (L:=(λs1:Unit=>([.z q0,.z q1,.un,.un]:SL K))) () aK (Zh (yN 0 rfl)) (λs1=>(Jx 2 3 rfl rfl (λ_=>rfl) rfl)) (λs1 x3=>(zN (Qp (md:=.hp) (zM (zF (zD 3 rfl) (zF (esc (zE 1 rfl)) (zF (esc (zWq "fair set " (zE 2 rfl))) zQ))))) (λu8=>(zV (λs1:Unit=>([.z q0,.z q1,.un,.un]:SL K)) () aK))))) (λs2=>(zV (λ_:Unit=>([.un,.un,.un,.un]:SL K)) () aK))) (by unfold uO;simp only[bnd])⟩
def QW(q0:List LI):Option (List LI):=(some q0).bind λxs=>yX (λ(x1:LI)=>some true) (λ(x1:LI)=>some x1) xs
theorem pO:ak ["lists"] ["lists"] (zJ m7):=fsc
abbrev zV3(K:PySem.W.Frag):Sp:=cu K false (λa:((List LI))×Unit=>([.z a.1]:SL K)) (λa=>QW a.1)
theorem zRg(F:aW K "copied" "copied" m7 f fd)(B:Bl K mg):aq P w K mg base aP (k+1) f fd ["lists"] (zV3 K):=by
 refine yI F pO (λ_=>rfl) (λ_=>rfl) λcdv A outer s H E hr=>?_
 have nd:=pO.nd
 refine⟨_,(zB (zS (wW (own:=["things"]) (ix:=[]) rfl rfl rfl (yK K (pv 0)) (λC s H fp=>yQ (i:=0) (show(["things"]:List Str).Nodup from by decide +kernel) rfl (Or.inl rfl)) (λC s H fp=>vK) (λC s H fp=>(vQ (JF K) rfl B.list Es (zA (pv 0) zI))))) zH),?_⟩
 rintro Fa ⟨q0,⟨⟩⟩
 exact SB.of (zW (xB (n:=false) (jE:=[.un]) (no:=1) (ix:=[]) rfl rfl (yL (yN 0 rfl)) (zY 0 rfl rfl) (λx1=>v8) (λx1=>(JC (zD 0 rfl)).ex) (λx1=>dJ)).ex) (by unfold QW;simp only[bnd])
end
abbrev U0(C:Addr):=WW C vW vX uO QW QV
section
variable{P:Program}{w:World}{K:PySem.W.Frag}{mg:Str->Option Value}{base:Heap}
def xI(q0:aG C):Option Int:=some (q0.steps.length:Int)
theorem gR:ak ["self"] ["self"] (zJ d_):=fsc
abbrev vI(K:PySem.W.Frag)(C:Addr):Sp:=cu K false (λa:(aG C)×Unit=>([.z a.1]:SL K)) (λa=>xI a.1)
theorem zFh(F:aW K "many" "Machine.many" d_ f fd)(B:Bl K mg)(T:Cl K mg C):aq P w K mg base aP (k+1) f fd ["self"] (vI K C):=by
 refine yI F gR (λ_=>rfl) (λ_=>rfl) λcdv A outer s H E hr=>?_
 have nd:=gR.nd
 refine⟨_,(zB (zS (zP (vA K) rfl B.len aa8 (zA (GK K (pv 0)) zI))) zH),?_⟩
 rintro Fa ⟨q0,⟨⟩⟩
 exact SB.of (zW (esc (uC (zKb T.cl T.nS (zD 0 rfl))))) (by unfold xI;simp only[bnd])
def xJ(q0:aG C)(q1:Int):Option LI:=(aO q0.steps q1).bind λa1=>GP a1
theorem eF:ak ["self","stand"] ["self","stand"] (zJ cP):=fsc
abbrev uH(K:PySem.W.Frag)(C:Addr):Sp:=cu K false (λa:(aG C)×Int×Unit=>([.z a.1,.z a.2.1]:SL K)) (λa=>xJ a.1 a.2.1)
theorem zC5(F:aW K "next_of" "Machine.next_of" cP f fd)(B:Bl K mg)(T:Cl K mg C)(cj:mg "sorted" = none):aq P w K mg base aP (k+1) f fd ["self","stand"] (uH K C):=by
 refine yI F eF (λ_=>rfl) (λ_=>rfl) λcdv A outer s H E hr=>?_
 have nd:=eF.nd
 refine⟨_,(zB (zS (zP (ZC K) rfl cj Zv (zA (yM (aQ K) (GK K (pv 0)) (pv 1) (λ_ _=>rfl)) zI))) zH),?_⟩
 rintro Fa ⟨q0,q1,⟨⟩⟩
 exact SB.of (zW (ZF (xA (zKb T.cl T.nS (zD 0 rfl)) (zE 1 rfl))).ex) (by unfold xJ;simp only[bnd])
def wO(q0:aG C)(q1:Int):Option LI:=aO q0.sources q1
theorem fj:ak ["self","stand"] ["self","stand"] (zJ cY):=fsc
abbrev zBt(K:PySem.W.Frag)(C:Addr):Sp:=cu K false (λa:(aG C)×Int×Unit=>([.z a.1,.z a.2.1]:SL K)) (λa=>wO a.1 a.2.1)
theorem zDz(F:aW K "before" "Machine.before" cY f fd)(B:Bl K mg)(T:Cl K mg C):aq P w K mg base aP (k+1) f fd ["self","stand"] (zBt K C):=by
 refine yI F fj (λ_=>rfl) (λ_=>rfl) λcdv A outer s H E hr=>?_
 have nd:=fj.nd
 refine⟨_,(zB (zS (vQ (JF K) rfl B.list Es (zA (yM (aQ K) (GK K (pv 0)) (pv 1) (λ_ _=>rfl)) zI))) zH),?_⟩
 rintro Fa ⟨q0,q1,⟨⟩⟩
 exact SB.of (zW (JC (xA (zL5 T.cl T.nB (zD 0 rfl)) (zE 1 rfl))).ex) (by unfold wO;simp only[bnd])
def xE(q0:aG C)(q1:Str):Option LI:=((some q0.marks).bind λxs=>uB (λ(s1:Unit) (x3:Str×LI)=>if(decide (x3.1=q1))=true then(GP x3.2).bind λb=>some (.rt b) else some (.nx ())) xs ()).bind λo=>o.els λs2=>some ([]:LI)
theorem fu:ak ["self","name","known","stands"] ["self","name"] (zJ cZ):=fsc
abbrev zBs(K:PySem.W.Frag)(C:Addr):Sp:=cu K false (λa:(aG C)×Str×Unit=>([.z a.1,.z a.2.1]:SL K)) (λa=>xE a.1 a.2.1)
theorem zDy(F:aW K "marked" "Machine.marked" cZ f fd)(B:Bl K mg)(T:Cl K mg C)(cj:mg "sorted" = none):aq P w K mg base aP (k+1) f fd ["self","name"] (zBs K C):=by
 refine yI F fu (λ_=>rfl) (λ_=>rfl) λcdv A outer s H E hr=>?_
 have nd:=fu.nd
 refine⟨_,(zB (yZ aay rfl (yK K (GK K (pv 0))) (Jm rfl (xO (bC 2 nd) (xO (bC 3 nd) Fq))) (zB (yO (yB (uP K Str hr) (pv 2) (pv 1) (aH _)) (zB (zS (zP (ZC K) rfl cj Zv (zA (pv 3) zI))) zH) zH) zH)) (zB (zS (wV zI)) zH)),?_⟩
 rintro Fa ⟨q0,q1,⟨⟩⟩
 exact SB.of (Mj (Ml (n:=false) (L:=(λs1:Unit=>([.z q0,.z q1,.un,.un]:SL K))) () aK (yL (zSk T.cl T.nM (yN 0 rfl))) (λs1=>(Jx 2 3 rfl rfl (λ_=>rfl) rfl)) (λs1 x3=>(Er (yA (md:=.hp) (uQ (zE 2 rfl) (zE 1 rfl))) (zW (ZF (zD 3 rfl)).ex) (Gp (λs1:Unit=>([.z q0,.z q1,.un,.un]:SL K)) () aK)))) (λs2=>(zW (uS (α:=Int)).ex))) (by unfold xE;simp only[bnd])
def wC(q0:aG C)(q1:Int):Option LI:=(aO q0.fair q1).bind λa1=>GP a1
theorem eN:ak ["self","number"] ["self","number"] (zJ cQ):=fsc
abbrev zBg(K:PySem.W.Frag)(C:Addr):Sp:=cu K false (λa:(aG C)×Int×Unit=>([.z a.1,.z a.2.1]:SL K)) (λa=>wC a.1 a.2.1)
theorem zC6(F:aW K "fair_at" "Machine.fair_at" cQ f fd)(B:Bl K mg)(T:Cl K mg C)(cj:mg "sorted" = none):aq P w K mg base aP (k+1) f fd ["self","number"] (zBg K C):=by
 refine yI F eN (λ_=>rfl) (λ_=>rfl) λcdv A outer s H E hr=>?_
 have nd:=eN.nd
 refine⟨_,(zB (zS (zP (ZC K) rfl cj Zv (zA (yM (aQ K) (GK K (pv 0)) (pv 1) (λ_ _=>rfl)) zI))) zH),?_⟩
 rintro Fa ⟨q0,q1,⟨⟩⟩
 exact SB.of (zW (ZF (xA (zNh T.cl T.nF (zD 0 rfl)) (zE 1 rfl))).ex) (by unfold wC;simp only[bnd])
def yR(q0:aG C):Option LI:=(xI q0).bind λa1=>sZ a1
theorem jG:ak ["machine"] ["machine"] (zJ gw):=fsc
abbrev vC(K:PySem.W.Frag)(C:Addr):Sp:=cu K false (λa:(aG C)×Unit=>([.z a.1]:SL K)) (λa=>yR a.1)
theorem zIa(F:aW K "everywhere" "everywhere" gw f fd)(B:Bl K mg)(aJ:gk P w K mg base k C "many" ["self"] (vI K C)):aq P w K mg base aP (k+1) f fd ["machine"] (vC K C):=by
 refine yI F jG (λ_=>rfl) (λ_=>rfl) λcdv A outer s H E hr=>?_
 have nd:=jG.nd
 refine⟨_,(zB (zS (W8 rfl rfl B.list rfl B.range (zA (Ww aJ hr (pv 0)) zI))) zH),?_⟩
 rintro Fa ⟨q0,⟨⟩⟩
 exact SB.of (zW (W_ (GJ (by decide +kernel) (zD 0 rfl) zQ)).ex) (by unfold yR;simp only[bnd])
def Oo(q0:aG C)(q1:LI):Option (List Bool):=(((xI q0).bind λa2=>vE a2).bind λxs=>yX (λ(x3:Int)=>some true) (λ(x3:Int)=>some false) xs).bind λeO=>((some q1).bind λxs=>xK (λ(s4:List Bool) (x6:Int)=>(zf s4 x6 true).bind λDf=>some Df) xs eO).bind λs5=>some s5
theorem rP:ak ["machine","stands","told","stand"] ["machine","stands"] (zJ qu):=fsc
abbrev zMi(K:PySem.W.Frag)(C:Addr):Sp:=cu K false (λa:(aG C)×LI×Unit=>([.z a.1,.z a.2.1]:SL K)) (λa=>Oo a.1 a.2.1)
theorem zUt(F:aW K "flags" "flags" qu f fd)(B:Bl K mg)(aJ:gk P w K mg base k C "many" ["self"] (vI K C)):aq P w K mg base aP (k+1) f fd ["machine","stands"] (zMi K C):=by
 refine yI F rP (λ_=>rfl) (λ_=>rfl) λcdv A outer s H E hr=>?_
 have nd:=rP.nd
 refine⟨_,(zB (Em (i:=2) (own:=["stand"]) (ix:=[]) nd rfl rfl rfl rfl rfl (xG rfl B.range (zA (Ww aJ hr (pv 0)) zI)) (λC s H fp=>yQ (i:=0) (show(["stand"]:List Str).Nodup from by decide +kernel) rfl (Or.inl rfl)) (λC s H fp=>vK) (λC s H fp=>vP)) (zB (yZ aay rfl (yK K (pv 1)) (bC 3 nd) (zB (Qf vP (V2 (pv 2) (pv 3) R8)) zH)) (zB (zS (pv 2)) zH))),?_⟩
 rintro Fa ⟨q0,q1,⟨⟩⟩
 exact SB.of (zO (uK true 2 rfl rfl (xB (n:=true) (jE:=[.un]) (no:=1) (ix:=[]) rfl rfl (xZ (GJ (by decide +kernel) (zD 0 rfl) zQ)) (zY 0 rfl rfl) (λx3=>v8) (λx3=>(esc (vY false))) (λx3=>dJ))) (λeO=>(zO (wL (n:=false) (L:=(λs4:List Bool=>([.z q0,.z q1,.ow true s4,.un]:SL K))) eO aK (yL (yN 1 rfl)) (λs4=>(zY 3 rfl rfl)) (λs4 x6=>(zN (Wm 2 rfl rfl (esc (vY true)) (zE 3 rfl)) (λDf=>(zV (λs4:List Bool=>([.z q0,.z q1,.ow true s4,.un]:SL K)) Df aK))))) (λs5=>(Ep 2 rfl rfl))))) (by unfold Oo;simp only[bnd])
def Oq(q0:LI)(q1:LI):Option LI:=QM q0 q1
theorem nD:ak ["one","other"] ["one","other"] (zJ kY):=fsc
abbrev zF7(K:PySem.W.Frag):Sp:=cu K false (λa:LI×LI×Unit=>([.z a.1,.z a.2.1]:SL K)) (λa=>Oq a.1 a.2.1)
theorem zOt(F:aW K "without" "without" kY f fd)(B:Bl K mg)(cj:mg "sorted" = none)(qC:mg "set" = none):aq P w K mg base aP (k+1) f fd ["one","other"] (zF7 K):=by
 refine yI F nD (λ_=>rfl) (λ_=>rfl) λcdv A outer s H E hr=>?_
 have nd:=nD.nd
 refine⟨_,(zB (zS (Z4 rfl cj (Hs (Ue K rfl qC (pv 0)) (Ue K rfl qC (pv 1))))) zH),?_⟩
 rintro Fa ⟨q0,q1,⟨⟩⟩
 exact SB.of (zW (zPl (zD 0 rfl) (zD 1 rfl)).ex) (by unfold Oq;simp only[bnd])
def vT(q0:aG C)(q1:LI):Option LI:=((yR q0).bind λa2=>some ((a2,(q1,())))).bind λz1=>Oq z1.1 z1.2.1
theorem pP:ak ["machine","stands"] ["machine","stands"] (zJ mX):=fsc
abbrev zIy(K:PySem.W.Frag)(C:Addr):Sp:=cu K false (λa:(aG C)×LI×Unit=>([.z a.1,.z a.2.1]:SL K)) (λa=>vT a.1 a.2.1)
theorem zRb(F:aW K "others" "others" mX f fd)(B:Bl K mg)(au:bH P w K mg base k "everywhere" ["machine"] (vC K C))(dR:bH P w K mg base k "without" ["one","other"] (zF7 K)):aq P w K mg base aP (k+1) f fd ["machine","stands"] (zIy K C):=by
 refine yI F pP (λ_=>rfl) (λ_=>rfl) λcdv A outer s H E hr=>?_
 have nd:=pP.nd
 refine⟨_,(zB (zS (yC dR hr (zA (yC au hr (zA (pv 0) zI)) (zA (pv 1) zI)))) zH),?_⟩
 rintro Fa ⟨q0,q1,⟨⟩⟩
 exact SB.of (zW (zM (zF (zM (zF (zD 0 rfl) zQ)) (zF (zD 1 rfl) zQ)))) (by unfold vT;simp only[bnd])
def vD(q0:LI)(q1:LI):Option LI:=W7 q0 q1
theorem pQ:ak ["one","other"] ["one","other"] (zJ mY):=fsc
abbrev Xl(K:PySem.W.Frag):Sp:=cu K false (λa:LI×LI×Unit=>([.z a.1,.z a.2.1]:SL K)) (λa=>vD a.1 a.2.1)
theorem zRa(F:aW K "shared" "shared" mY f fd)(B:Bl K mg)(cj:mg "sorted" = none)(qC:mg "set" = none):aq P w K mg base aP (k+1) f fd ["one","other"] (Xl K):=by
 refine yI F pQ (λ_=>rfl) (λ_=>rfl) λcdv A outer s H E hr=>?_
 have nd:=pQ.nd
 refine⟨_,(zB (zS (Z4 rfl cj (G9 (Ue K rfl qC (pv 0)) (Ue K rfl qC (pv 1))))) zH),?_⟩
 rintro Fa ⟨q0,q1,⟨⟩⟩
 exact SB.of (zW (zPn (zD 0 rfl) (zD 1 rfl)).ex) (by unfold vD;simp only[bnd])
def xL(q0:aG C)(q1:LI)(q2:LI):Option (List (Option Int)):=(Oo q0 q1).bind λbL=>(((xI q0).bind λa3=>vE a3).bind λxs=>yX (λ(x4:Int)=>some true) (λ(x4:Int)=>some (none:Option Int)) xs).bind λnG=>((some q2).bind λxs=>xK (λ(s5:List (Option Int)) (x7:Int)=>(zf s5 x7 (some (0:Int))).bind λDg=>some Dg) xs nG).bind λs6=>(some q2).bind λOt=>(some (0:Int)).bind λqD=>(Gn (λcF:(List (Option Int))×LI×Int=>some (decide (cF.2.2<(cF.2.1.length:Int)))) (λcF:(List (Option Int))×LI×Int=>(aO cF.2.1 cF.2.2).bind λgG=>((wO q0 gG).bind λxs=>xK (λ(j5:(List (Option Int))×LI) (rQ:Int)=>(((aO bL rQ).bind λc18=>if c18=true then(aO j5.1 rQ).bind λa17=>some a17.isNone else some false).bind λb=>if b=true then(((((aO j5.1 gG).bind λa22=>a22).bind λa23=>some (a23+(1:Int))).bind λa24=>some (some a24)).bind λa25=>zf j5.1 rQ a25).bind λgH=>(push j5.2 rQ).bind λDh=>some (gH,Dh) else some (j5.1,j5.2)).bind λwu=>some (wu.1,wu.2)) xs (cF.1,cF.2.1)).bind λEz=>(some (cF.2.2+(1:Int))).bind λqF=>some (Ez.1,Ez.2,qF)) fuel (s6,Ot,qD)).bind λs12=>some s12.1
theorem j6:ak ["machine","through","goal","passable","told","stand","row","place","source"] ["machine","through","goal"] (zJ iC):=fsc
abbrev zCu(K:PySem.W.Frag)(C:Addr):Sp:=cu K false (λa:(aG C)×LI×LI×Unit=>([.z a.1,.z a.2.1,.z a.2.2.1]:SL K)) (λa=>xL a.1 a.2.1 a.2.2.1)
theorem zJw(F:aW K "distances" "distances" iC f fd)(B:Bl K mg)(dh:gk P w K mg base k C "before" ["self","stand"] (zBt K C))(aJ:gk P w K mg base k C "many" ["self"] (vI K C))(jh:bH P w K mg base k "flags" ["machine","stands"] (zMi K C)):aq P w K mg base aP (k+1) f fd ["machine","through","goal"] (zCu K C):=by
 refine yI F j6 (λ_=>rfl) (λ_=>rfl) λcdv A outer s H E hr=>?_
 have nd:=j6.nd
 refine⟨_,(zB (yP 3 nd (yC jh hr (zA (pv 0) (zA (pv 1) zI)))) (zB (Em (i:=4) (own:=["stand"]) (ix:=[]) nd rfl rfl rfl rfl rfl (xG rfl B.range (zA (Ww aJ hr (pv 0)) zI)) (λC s H fp=>yQ (i:=0) (show(["stand"]:List Str).Nodup from by decide +kernel) rfl (Or.inl rfl)) (λC s H fp=>vK) (λC s H fp=>Yd)) (zB (yZ aay rfl (yK K (pv 2)) (bC 5 nd) (zB (Qf zL (V2 (pv 4) (pv 5) R8)) zH)) (zB (yP 6 nd (vQ (JF K) rfl B.list Es (zA (pv 2) zI))) (zB (yP 7 nd zL) (zB (zM1 aay (yB Ef (pv 7) (zP (vA K) rfl B.len aa8 (zA (pv 6) zI)) (aH _)) (zB (yP 5 nd (yM (aQ K) (pv 6) (pv 7) (λ_ _=>rfl))) (zB (yZ aay rfl (yK K (TQ dh hr (pv 0) (zA (pv 5) zI))) (bC 8 nd) (zB (yO (PW.pt (pw_and (yW (yM (aQ K) (pv 3) (pv 8) (λ_ _=>rfl))) (pw_and1 (sI (Qd (yM (aQ K) (pv 4) (pv 8) (λ_ _=>rfl))))))) (zB (Qf (yD wD (yM (aQ K) (pv 4) (pv 5) (λ_ _=>rfl)) zL) (V2 (pv 4) (pv 8) R8)) (zB (yJ (v7 K aa7 aa9 abb wE (pv 6) (zA (pv 8) zI))) zH)) zH) zH)) (zB (zWe (i:=7) nd rfl (by first|exact .inl rfl|exact .inr rfl) zL K1) zH)))) (zB (zS (pv 4)) zH))))))),?_⟩
 rintro Fa ⟨q0,q1,q2,⟨⟩⟩
 exact SB.of (zO (yE true 3 rfl rfl (zM (zF (zD 0 rfl) (zF (zD 1 rfl) zQ)))) (λbL=>(zO (uK true 4 rfl rfl (xB (n:=true) (jE:=[.un]) (no:=1) (ix:=[]) rfl rfl (xZ (GJ (by decide +kernel) (zD 0 rfl) zQ)) (zY 0 rfl rfl) (λx4=>v8) (λx4=>(esc (Za (α:=Int)))) (λx4=>dJ))) (λnG=>(zO (wL (n:=false) (L:=(λs5:List (Option Int)=>([.z q0,.z q1,.z q2,.y bL,.ow true s5,.un,.un,.un,.un]:SL K))) nG aK (yL (yN 2 rfl)) (λs5=>(zY 5 rfl rfl)) (λs5 x7=>(zN (Wm 4 rfl rfl (esc (Wj (zK 0))) (zE 5 rfl)) (λDg=>(zV (λs5:List (Option Int)=>([.z q0,.z q1,.z q2,.y bL,.ow true s5,.un,.un,.un,.un]:SL K)) Dg aK))))) (λs6=>(zO (uK true 6 rfl rfl (JC (zD 2 rfl))) (λOt=>(zO (yE true 7 rfl rfl (esc (zK 0))) (λqD=>(zO (zMq (L:=(λcF:(List (Option Int))×LI×Int=>([.z q0,.z q1,.z q2,.y bL,.ow true cF.1,.un,.ow true cF.2.1,.y cF.2.2,.un]:SL K))) fuel (s6,Ot,qD) aK (λcF=>(yA (md:=.hp) (Jy (zE 7 rfl) (uC (Ck 6 rfl))))) (λcF=>(zN (yE true 5 rfl rfl (esc (esc (xA (Ck 6 rfl) (zE 7 rfl))))) (λgG=>(zN (wL (n:=true) (L:=(λj5:(List (Option Int))×LI=>([.z q0,.z q1,.z q2,.y bL,.ow true j5.1,.y gG,.ow true j5.2,.y cF.2.2,.un]:SL K))) (cF.1,cF.2.1) aK (yL (GJ (by decide +kernel) (zD 0 rfl) (zF (esc (zE 5 rfl)) zQ))) (λj5=>(zY 8 rfl rfl)) (λj5 rQ=>(zN (vH (Qo (aR (md:=.hp) (esc (xA (zD 3 rfl) (zE 8 rfl)))) (aR (md:=.hp) (Qu (esc (xA (Ck 4 rfl) (zE 8 rfl)))))) (zN (Wm 4 rfl rfl (esc (Wj (wF (Tq (esc (xA (Ck 4 rfl) (zE 5 rfl)))) (zK 1)))) (zE 8 rfl)) (λgH=>(zN (wM 6 rfl rfl (esc (zE 8 rfl))) (λDh=>(zV (λAe:(List (Option Int))×LI=>([.z q0,.z q1,.z q2,.y bL,.ow true Ae.1,.y gG,.ow true Ae.2,.y cF.2.2,.y rQ]:SL K)) (gH,Dh) aK))))) (zV (λAe:(List (Option Int))×LI=>([.z q0,.z q1,.z q2,.y bL,.ow true Ae.1,.y gG,.ow true Ae.2,.y cF.2.2,.y rQ]:SL K)) (j5.1,j5.2) aK)) (λwu=>(zV (λj5:(List (Option Int))×LI=>([.z q0,.z q1,.z q2,.y bL,.ow true j5.1,.y gG,.ow true j5.2,.y cF.2.2,.un]:SL K)) (wu.1,wu.2) aK))))) (λEz=>(zN (zWa (s:=.un) 7 rfl (zK 1)) (λqF=>(zV (λcF:(List (Option Int))×LI×Int=>([.z q0,.z q1,.z q2,.y bL,.ow true cF.1,.un,.ow true cF.2.1,.y cF.2.2,.un]:SL K)) (Ez.1,Ez.2,qF) aK))))))))) (λs12=>(Ep 4 rfl rfl))))))))))))) (by unfold xL;simp only[bnd])
def wP(q0:aG C)(q1:LI)(q2:LI):Option LI:=(xL q0 q1 q2).bind λpR=>(some (Cp pR)).bind λxs=>yX (λ(x2:Int×(Option Int))=>some x2.2.isSome) (λ(x2:Int×(Option Int))=>some x2.1) xs
theorem lV:ak ["machine","through","goal","away"] ["machine","through","goal"] (zJ jN):=fsc
abbrev zD8(K:PySem.W.Frag)(C:Addr):Sp:=cu K false (λa:(aG C)×LI×LI×Unit=>([.z a.1,.z a.2.1,.z a.2.2.1]:SL K)) (λa=>wP a.1 a.2.1 a.2.2.1)
theorem zLq(F:aW K "comes_to" "comes_to" jN f fd)(B:Bl K mg)(cN:bH P w K mg base k "distances" ["machine","through","goal"] (zCu K C)):aq P w K mg base aP (k+1) f fd ["machine","through","goal"] (zD8 K C):=by
 refine yI F lV (λ_=>rfl) (λ_=>rfl) λcdv A outer s H E hr=>?_
 have nd:=lV.nd
 refine⟨_,(zB (yP 3 nd (yC cN hr (zA (pv 0) (zA (pv 1) (zA (pv 2) zI))))) (zB (zS (wW (own:=["stand","steps"]) (ix:=[]) rfl rfl rfl (Zu K B.enum (zA (pv 3) zI)) (λC s H fp=>zQ3 (K:=K) (n:=2) rfl rfl (xO (yQ (i:=0) (show(["stand","steps"]:List Str).Nodup from by decide +kernel) rfl (Or.inl rfl)) (xO (yQ (i:=1) (show(["stand","steps"]:List Str).Nodup from by decide +kernel) rfl (Or.inl rfl)) Fq))) (λC s H fp=>uU (sI (Fp (pv 1)))) (λC s H fp=>(pv 0)))) zH)),?_⟩
 rintro Fa ⟨q0,q1,q2,⟨⟩⟩
 exact SB.of (zO (yE true 3 rfl rfl (zM (zF (zD 0 rfl) (zF (zD 1 rfl) (zF (zD 2 rfl) zQ))))) (λpR=>(zW (xB (n:=true) (jE:=[.un,.un]) (no:=2) (ix:=[]) rfl rfl (Zh (yN 3 rfl)) (Jx 0 1 rfl rfl (λ_=>rfl) rfl) (λx2=>(aR (md:=.hp) (Gx (zE 1 rfl)))) (λx2=>(esc (zE 0 rfl))) (λx2=>dJ)).ex))) (by unfold wP;simp only[bnd])
def U3(q0:aG C)(q1:List (Option Int))(q2:Int):Option (Option LI):=((aO q1 q2).bind λa1=>some a1.isNone).bind λb=>if b=true then some ((none:Option LI)) else(some ([q2])).bind λnG=>(((((aO q1 q2).bind λa6=>a6).bind λa7=>some (a7-(1:Int))).bind λa8=>T5 a8 (-(1:Int))).bind λxs=>xK (λ(s3:LI) (x5:Int)=>((((((aO s3 (-(1:Int))).bind λa11=>some ((a11,()))).bind λOu=>xJ q0 Ou.1).bind λxs=>yX (λ(x12:Int)=>(aO q1 x12).bind λa13=>some (decide (a13=(some x5)))) (λ(x12:Int)=>some x12) xs).bind λa14=>zm a14).bind λa15=>push s3 a15).bind λDi=>some Di) xs nG).bind λs4=>some (some s4)
theorem j7:ak ["machine","away","stand","told","rest"] ["machine","away","stand"] (zJ iD):=fsc
abbrev zF8(K:PySem.W.Frag)(C:Addr):Sp:=cu K false (λa:(aG C)×((List (Option Int)))×Int×Unit=>([.z a.1,.z a.2.1,.z a.2.2.1]:SL K)) (λa=>U3 a.1 a.2.1 a.2.2.1)
theorem zJp(F:aW K "walk_down" "walk_down" iD f fd)(B:Bl K mg)(Ov:mg "min" = none)(aV:gk P w K mg base k C "next_of" ["self","stand"] (uH K C)):aq P w K mg base aP (k+1) f fd ["machine","away","stand"] (zF8 K C):=by
 refine yI F j7 (λ_=>rfl) (λ_=>rfl) λcdv A outer s H E hr=>?_
 have nd:=j7.nd
 refine⟨_,(zB (yO (sI (Qd (yM (aQ K) (pv 1) (pv 2) (λ_ _=>rfl)))) (zB (zS Yd) zH) zH) (zB (yP 3 nd (wV (zA (pv 2) zI))) (zB (yZ aay rfl (GZ rfl B.range (zA (yD Yp (yM (aQ K) (pv 1) (pv 2) (λ_ _=>rfl)) zL) (zA (K6 K_ zL) (zA (K6 K_ zL) zI)))) (bC 4 nd) (zB (yJ (v7 K aa7 aa9 abb wE (pv 3) (zA (zP (zSz K rfl) rfl Ov MF (zA (wW (own:=["after"]) (ix:=[1,4]) rfl rfl rfl (yK K (TQ aV hr (pv 0) (zA (yM (aQ K) (pv 3) (K6 K_ zL) (λ_ _=>rfl)) zI))) (λC s H fp=>yQ (i:=0) (show(["after","away","rest"]:List Str).Nodup from by decide +kernel) rfl (Or.inl rfl)) (λC s H fp=>uU (yB (uP K (Option Int) hr) (yM (aQ K) (pv 1) (pv 0) (λ_ _=>rfl)) (pv 2) (aH _))) (λC s H fp=>(pv 0))) zI)) zI))) zH)) (zB (zS (pv 3)) zH)))),?_⟩
 rintro Fa ⟨q0,q1,q2,⟨⟩⟩
 exact SB.of (wH (aR (md:=.hp) (Qu (esc (xA (zD 1 rfl) (zE 2 rfl))))) (zW (Za (α:=LI))) (zO (uK true 3 rfl rfl (Tc (vZ (esc (zE 2 rfl)) S_) (λa h=>aa4 ((v9 TJ) a h) (by decide)))) (λnG=>(zO (wL (n:=true) (L:=(λs3:LI=>([.z q0,.z q1,.z q2,.ow true s3,.un]:SL K))) nG aK (G3 (Zm (Tq (esc (xA (zD 1 rfl) (zE 2 rfl)))) (zK 1)) (M8 (zK 1)) (M8 (zK 1))) (λs3=>(zY 4 rfl rfl)) (λs3 x5=>(zN (wM 3 rfl rfl (esc (GQ (xB (n:=true) (jE:=[.un,.z q1,.y x5]) (no:=1) (ix:=[1,4]) rfl rfl (yL (GJ (by decide +kernel) (zD 0 rfl) (zF (esc (esc (xA (Ck 3 rfl) (M8 (zK 1))))) zQ))) (zY 0 rfl rfl) (λx12=>(yA (md:=.hp) (uQ (esc (xA (zD 1 rfl) (zE 0 rfl))) (Wj (zE 2 rfl))))) (λx12=>(esc (zE 0 rfl))) (λx12=>dJ)).ex))) (λDi=>(zV (λs3:LI=>([.z q0,.z q1,.z q2,.ow true s3,.un]:SL K)) Di aK))))) (λs4=>(zT9 3 rfl rfl)))))) (by unfold U3;simp only[bnd])
def QX(q0:LI):Option Int:=(some (0:Int)).bind λeO=>((some q0).bind λxs=>xK (λ(s2:Int) (x4:Int)=>((zp (1:Int) x4).bind λa6=>some (adi s2 a6)).bind λnH=>some nH) xs eO).bind λs3=>some s3
theorem nJ:ak ["stands","told","stand"] ["stands"] (zJ kZ):=fsc
abbrev zK2(K:PySem.W.Frag):Sp:=cu K false (λa:LI×Unit=>([.z a.1]:SL K)) (λa=>QX a.1)
theorem zO1(F:aW K "bits_of" "bits_of" kZ f fd)(B:Bl K mg):aq P w K mg base aP (k+1) f fd ["stands"] (zK2 K):=by
 refine yI F nJ (λ_=>rfl) (λ_=>rfl) λcdv A outer s H E hr=>?_
 have nd:=nJ.nd
 refine⟨_,(zB (yP 1 nd zL) (zB (yZ aay rfl (yK K (pv 0)) (bC 2 nd) (zB (zWe (i:=1) nd rfl (by first|exact .inl rfl|exact .inr rfl) (yD K9 zL (pv 2)) J2) zH)) (zB (zS (pv 1)) zH))),?_⟩
 rintro Fa ⟨q0,⟨⟩⟩
 exact SB.of (zO (yE true 1 rfl rfl (esc (zK 0))) (λeO=>(zO (wL (n:=false) (L:=(λs2:Int=>([.z q0,.y s2,.un]:SL K))) eO aK (yL (yN 0 rfl)) (λs2=>(zY 2 rfl rfl)) (λs2 x4=>(zN (zWa (s:=.un) 1 rfl (Ny (zK 1) (zE 2 rfl))) (λnH=>(zV (λs2:Int=>([.z q0,.y s2,.un]:SL K)) nH aK))))) (λs3=>(zW (esc (zE 1 rfl))))))) (by unfold QX;simp only[bnd])
def vV(q0:aG C)(q1:LI):Option LI:=(QX q1).bind λdz=>(((xI q0).bind λa3=>vE a3).bind λxs=>yX (λ(x4:Int)=>some true) (λ(x4:Int)=>some (0:Int)) xs).bind λeU=>((some q1).bind λxs=>xK (λ(s5:LI) (x7:Int)=>(((((xJ q0 x7).bind λa10=>some ((a10,()))).bind λz9=>QX z9.1).bind λa11=>some (abh a11 dz)).bind λa12=>zf s5 x7 a12).bind λDj=>some Dj) xs eU).bind λs6=>((some q1).bind λxs=>xK (λ(oW:LI) (EY:Int)=>((some q1).bind λxs=>xK (λ(tR:LI) (x18:Int)=>(((((aO tR x18).bind λa19=>jM a19 EY).bind λa20=>some (abh a20 (1:Int))).bind λa21=>some (a21 != 0)).bind λb=>if b=true then((aO tR EY).bind λb25=>Hf (λi j=>adi i j) tR x18 b25).bind λtV=>some tV else some tR).bind λDk=>some Dk) xs oW).bind λs17=>some s17) xs s6).bind λj5=>some j5
theorem iU:ak ["machine","within","inside","rows","stand","middle"] ["machine","within"] (zJ fJ):=fsc
abbrev zDm(K:PySem.W.Frag)(C:Addr):Sp:=cu K false (λa:(aG C)×LI×Unit=>([.z a.1,.z a.2.1]:SL K)) (λa=>vV a.1 a.2.1)
theorem zGj(F:aW K "onward_bits" "onward_bits" fJ f fd)(B:Bl K mg)(aJ:gk P w K mg base k C "many" ["self"] (vI K C))(aV:gk P w K mg base k C "next_of" ["self","stand"] (uH K C))(ji:bH P w K mg base k "bits_of" ["stands"] (zK2 K)):aq P w K mg base aP (k+1) f fd ["machine","within"] (zDm K C):=by
 refine yI F iU (λ_=>rfl) (λ_=>rfl) λcdv A outer s H E hr=>?_
 have nd:=iU.nd
 refine⟨_,(zB (yP 2 nd (yC ji hr (zA (pv 1) zI))) (zB (Em (i:=3) (own:=["stand"]) (ix:=[]) nd rfl rfl rfl rfl rfl (xG rfl B.range (zA (Ww aJ hr (pv 0)) zI)) (λC s H fp=>yQ (i:=0) (show(["stand"]:List Str).Nodup from by decide +kernel) rfl (Or.inl rfl)) (λC s H fp=>vK) (λC s H fp=>zL)) (zB (yZ aay rfl (yK K (pv 1)) (bC 4 nd) (zB (Qf (yD RT (yC ji hr (zA (TQ aV hr (pv 0) (zA (pv 4) zI)) zI)) (pv 2)) (V2 (pv 3) (pv 4) R8)) zH)) (zB (yZ aay rfl (yK K (pv 1)) (bC 5 nd) (zB (yZ aay rfl (yK K (pv 1)) (bC 4 nd) (zB (yO (zE9 K (yD RT (yD V6 (yM (aQ K) (pv 3) (pv 4) (λ_ _=>rfl)) (pv 5)) zL)) (zB (Ft (pv 3) (pv 4) (zSb K) (yM (aQ K) (pv 3) (pv 5) (λ_ _=>rfl)) J2 R8) zH) zH) zH)) zH)) (zB (zS (pv 3)) zH))))),?_⟩
 rintro Fa ⟨q0,q1,⟨⟩⟩
 exact SB.of (zO (yE true 2 rfl rfl (esc (zM (zF (zD 1 rfl) zQ)))) (λdz=>(zO (uK true 3 rfl rfl (xB (n:=true) (jE:=[.un]) (no:=1) (ix:=[]) rfl rfl (xZ (GJ (by decide +kernel) (zD 0 rfl) zQ)) (zY 0 rfl rfl) (λx4=>v8) (λx4=>(esc (zK 0))) (λx4=>dJ))) (λeU=>(zO (wL (n:=false) (L:=(λs5:LI=>([.z q0,.z q1,.y dz,.ow true s5,.un,.un]:SL K))) eU aK (yL (yN 1 rfl)) (λs5=>(zY 4 rfl rfl)) (λs5 x7=>(zN (Wm 3 rfl rfl (esc (Uh (zM (zF (GJ (by decide +kernel) (zD 0 rfl) (zF (esc (zE 4 rfl)) zQ)) zQ)) (zE 2 rfl))) (zE 4 rfl)) (λDj=>(zV (λs5:LI=>([.z q0,.z q1,.y dz,.ow true s5,.un,.un]:SL K)) Dj aK))))) (λs6=>(zO (wL (n:=false) (L:=(λoW:LI=>([.z q0,.z q1,.y dz,.ow true oW,.un,.un]:SL K))) s6 aK (yL (yN 1 rfl)) (λoW=>(zY 5 rfl rfl)) (λoW EY=>(zN (wL (n:=false) (L:=(λtR:LI=>([.z q0,.z q1,.y dz,.ow true tR,.un,.z EY]:SL K))) oW aK (yL (yN 1 rfl)) (λtR=>(zY 4 rfl rfl)) (λtR x18=>(zN (vH (zSm (Uh (W9 (esc (xA (Ck 3 rfl) (zE 4 rfl))) (zE 5 rfl)) (zK 1))) (zN (zT4 3 rfl rfl (zE 4 rfl) (esc (xA (Ck 3 rfl) (zE 5 rfl)))) (λtV=>(zV (λOw:LI=>([.z q0,.z q1,.y dz,.ow true Ow,.z x18,.z EY]:SL K)) tV aK))) (zV (λOw:LI=>([.z q0,.z q1,.y dz,.ow true Ow,.z x18,.z EY]:SL K)) tR aK)) (λDk=>(zV (λtR:LI=>([.z q0,.z q1,.y dz,.ow true tR,.un,.z EY]:SL K)) Dk aK))))) (λs17=>(zV (λoW:LI=>([.z q0,.z q1,.y dz,.ow true oW,.un,.un]:SL K)) s17 aK))))) (λj5=>(Ep 3 rfl rfl))))))))) (by unfold vV;simp only[bnd])
def U4(q0:aG C)(q1:LI):Option (List LI):=(QF q1).bind λdF=>(vV q0 dF).bind λeU=>(some (([]:List LI))).bind λDl=>(some ()).bind λU5=>((some dF).bind λxs=>xK (λ(s5:(List LI)×(List (Key×Bool))) (x7:Int)=>((if(!(dO (Dc.mk s5.2).kv x7).isSome)=true then(((aO eU x7).bind λa8=>jM a8 x7).bind λa9=>some (abh a9 (1:Int))).bind λa10=>some (a10 != 0) else some false).bind λb=>if b=true then((some dF).bind λxs=>yX (λ(wz:Int)=>((((aO eU x7).bind λa15=>jM a15 wz).bind λa17=>((aO eU wz).bind λa16=>jM a16 x7).bind λHN=>some (abh a17 HN)).bind λa19=>some (abh a19 (1:Int))).bind λa20=>some (a20 != 0)) (λ(wz:Int)=>some wz) xs).bind λnO=>(push s5.1 nO).bind λgH=>((some nO).bind λxs=>xK (λ(Dk:List (Key×Bool)) (x24:Int)=>(dput Dk x24 true).bind λtW=>some tW) xs s5.2).bind λOw=>some (gH,Ow) else some (s5.1,s5.2)).bind λcF=>some (cF.1,cF.2)) xs ((Dl,([]:List (Key×Bool))))).bind λs6=>some s6.1
theorem rR:ak ["machine","within","stands","rows","told","done","stand","ring","other"] ["machine","within"] (zJ qw):=fsc
abbrev zTf(K:PySem.W.Frag)(C:Addr):Sp:=cu K false (λa:(aG C)×LI×Unit=>([.z a.1,.z a.2.1]:SL K)) (λa=>U4 a.1 a.2.1)
theorem zUq(F:aW K "rings" "rings" qw f fd)(B:Bl K mg)(cj:mg "sorted" = none)(qC:mg "set" = none)(fU:bH P w K mg base k "onward_bits" ["machine","within"] (zDm K C)):aq P w K mg base aP (k+1) f fd ["machine","within"] (zTf K C):=by
 refine yI F rR (λ_=>rfl) (λ_=>rfl) λcdv A outer s H E hr=>?_
 have nd:=rR.nd
 have hu:=Sv hr
 refine⟨_,(zB (yP 2 nd (Z4 rfl cj (Ue K rfl qC (pv 1)))) (zB (yP 3 nd (yC fU hr (zA (pv 0) (zA (pv 2) zI)))) (zB (yP 4 nd (wV zI)) (zB (yP 5 nd YC) (zB (yZ aay rfl (yK K (pv 2)) (bC 6 nd) (zB (yO (PW.pt (pw_and (sI (zJj hu (pv 6) (pv 5))) (pw_and1 (zE9 K (yD RT (yD V6 (yM (aQ K) (pv 3) (pv 6) (λ_ _=>rfl)) (pv 6)) zL))))) (zB (Em (i:=7) (own:=["other"]) (ix:=[3,6]) nd rfl rfl rfl rfl rfl (yK K (pv 2)) (λC s H fp=>yQ (i:=0) (show(["other","rows","stand"]:List Str).Nodup from by decide +kernel) rfl (Or.inl rfl)) (λC s H fp=>uU (zE9 K (yD RT (yD RT (yD V6 (yM (aQ K) (pv 1) (pv 2) (λ_ _=>rfl)) (pv 0)) (yD V6 (yM (aQ K) (pv 1) (pv 0) (λ_ _=>rfl)) (pv 2))) zL))) (λC s H fp=>(pv 0))) (zB (yJ (v7 K aa7 aa9 abb wE (pv 4) (zA (pv 7) zI))) (zB (yZ aay rfl (yK K (pv 7)) (bC 8 nd) (zB (Wb hu (pv 5) (pv 8) vP rfl) zH)) zH))) zH) zH)) (zB (zS (pv 4)) zH)))))),?_⟩
 rintro Fa ⟨q0,q1,⟨⟩⟩
 exact SB.of (zO (yE true 2 rfl rfl (zPm (zD 1 rfl)).ex) (λdF=>(zO (yE true 3 rfl rfl (zM (zF (zD 0 rfl) (zF (zD 2 rfl) zQ)))) (λeU=>(zO (uK true 4 rfl rfl (uS (α:=LI))) (λDl=>(zO (Zc (α:=Bool) 5 rfl rfl) (λU5=>(zO (wL (n:=true) (L:=(λs5:(List LI)×(List (Key×Bool))=>([.z q0,.z q1,.y dF,.y eU,.ow true s5.1,.od (s5.2:List (Key×Bool)),.un,.un,.un]:SL K))) ((Dl,([]:List (Key×Bool)))) aK (yL (yN 2 rfl)) (λs5=>(zY 6 rfl rfl)) (λs5 x7=>(zN (vH (Qo (aR (md:=.hp) (zKc (zE 6 rfl) (WQ 5 rfl))) (zSm (Uh (W9 (esc (xA (zD 3 rfl) (zE 6 rfl))) (zE 6 rfl)) (zK 1)))) (zN (yE true 7 rfl rfl (xB (n:=true) (jE:=[.un,.y eU,.y x7]) (no:=1) (ix:=[3,6]) rfl rfl (yL (yN 2 rfl)) (zY 0 rfl rfl) (λwz=>(zSm (Uh (Uh (W9 (esc (xA (zD 1 rfl) (zE 2 rfl))) (zE 0 rfl)) (W9 (esc (xA (zD 1 rfl) (zE 0 rfl))) (zE 2 rfl))) (zK 1)))) (λwz=>(esc (zE 0 rfl))) (λwz=>dJ)).ex) (λnO=>(zN (wM 4 rfl rfl (yN 7 rfl)) (λgH=>(zN (wL (n:=true) (L:=(λDk:List (Key×Bool)=>([.z q0,.z q1,.y dF,.y eU,.ow true gH,.od (Dk:List (Key×Bool)),.y x7,.y nO,.un]:SL K))) s5.2 aK (yL (yN 7 rfl)) (λDk=>(zY 8 rfl rfl)) (λDk x24=>(zN (ZG 5 rfl rfl (esc (vY true)) (zE 8 rfl)) (λtW=>(zV (λDk:List (Key×Bool)=>([.z q0,.z q1,.y dF,.y eU,.ow true gH,.od (Dk:List (Key×Bool)),.y x7,.y nO,.un]:SL K)) tW aK))))) (λOw=>(zV (λs12:(List LI)×(List (Key×Bool))=>([.z q0,.z q1,.y dF,.y eU,.ow true s12.1,.od (s12.2:List (Key×Bool)),.y x7,.un,.un]:SL K)) (gH,Ow) aK))))))) (zV (λs12:(List LI)×(List (Key×Bool))=>([.z q0,.z q1,.y dF,.y eU,.ow true s12.1,.od (s12.2:List (Key×Bool)),.y x7,.un,.un]:SL K)) (s5.1,s5.2) aK)) (λcF=>(zV (λs5:(List LI)×(List (Key×Bool))=>([.z q0,.z q1,.y dF,.y eU,.ow true s5.1,.od (s5.2:List (Key×Bool)),.un,.un,.un]:SL K)) (cF.1,cF.2) aK))))) (λs6=>(Ep 4 rfl rfl))))))))))) (by unfold U4;simp only[bnd])
def U6(q0:aG C)(q1:LI):Option (Option Int):=((vE (q0.fair.length:Int)).bind λxs=>uB (λ(s1:Unit) (x3:Int)=>((((((wC q0 x3).bind λa5=>some ((a5,()))).bind λb6=>some (q1,b6)).bind λz4=>vD z4.1 z4.2.1).bind λa7=>some (a7.length:Int)).bind λa8=>some (decide (a8=(0:Int)))).bind λb=>if b=true then(some (some x3)).bind λb=>some (.rt b) else some (.nx ())) xs ()).bind λo=>o.els λs2=>some (none:Option Int)
theorem j8:ak ["machine","ring","number"] ["machine","ring"] (zJ iG):=fsc
abbrev zGa(K:PySem.W.Frag)(C:Addr):Sp:=cu K false (λa:(aG C)×LI×Unit=>([.z a.1,.z a.2.1]:SL K)) (λa=>U6 a.1 a.2.1)
theorem zJr(F:aW K "missed_by" "missed_by" iG f fd)(B:Bl K mg)(T:Cl K mg C)(cR:gk P w K mg base k C "fair_at" ["self","number"] (zBg K C))(cJ:bH P w K mg base k "shared" ["one","other"] (Xl K)):aq P w K mg base aP (k+1) f fd ["machine","ring"] (zGa K C):=by
 refine yI F j8 (λ_=>rfl) (λ_=>rfl) λcdv A outer s H E hr=>?_
 have nd:=j8.nd
 refine⟨_,(zB (yZ aay rfl (xG rfl B.range (zA (zP (vA K) rfl B.len aa8 (zA (GK K (pv 0)) zI)) zI)) (bC 2 nd) (zB (yO (yB (uP K Int hr) (zP (vA K) rfl B.len aa8 (zA (yC cJ hr (zA (pv 1) (zA (TQ cR hr (pv 0) (zA (pv 2) zI)) zI))) zI)) zL (aH _)) (zB (zS (pv 2)) zH) zH) zH)) (zB (zS Yd) zH)),?_⟩
 rintro Fa ⟨q0,q1,⟨⟩⟩
 exact SB.of (Mj (Ml (n:=true) (L:=(λs1:Unit=>([.z q0,.z q1,.un]:SL K))) () aK (xZ (uC (zNh T.cl T.nF (zD 0 rfl)))) (λs1=>(zY 2 rfl rfl)) (λs1 x3=>(Er (yA (md:=.hp) (uQ (uC (zM (zF (zD 1 rfl) (zF (GJ (by decide +kernel) (zD 0 rfl) (zF (esc (zE 2 rfl)) zQ)) zQ)))) (zK 0))) (zW (esc (Wj (zE 2 rfl)))) (Gp (λs1:Unit=>([.z q0,.z q1,.un]:SL K)) () aK)))) (λs2=>(zW (esc (Za (α:=Int)))))) (by unfold U6;simp only[bnd])
def vN(q0:aG C)(q1:LI):Option (List LI):=(U4 q0 q1).bind λxs=>yX (λ(x1:LI)=>(U6 q0 x1).bind λa2=>some a2.isNone) (λ(x1:LI)=>some x1) xs
theorem jH:ak ["machine","within"] ["machine","within"] (zJ gA):=fsc
abbrev zEg(K:PySem.W.Frag)(C:Addr):Sp:=cu K false (λa:(aG C)×LI×Unit=>([.z a.1,.z a.2.1]:SL K)) (λa=>vN a.1 a.2.1)
theorem zH9(F:aW K "fair_rings" "fair_rings" gA f fd)(B:Bl K mg)(iV:bH P w K mg base k "missed_by" ["machine","ring"] (zGa K C))(qG:bH P w K mg base k "rings" ["machine","within"] (zTf K C)):aq P w K mg base aP (k+1) f fd ["machine","within"] (zEg K C):=by
 refine yI F jH (λ_=>rfl) (λ_=>rfl) λcdv A outer s H E hr=>?_
 have nd:=jH.nd
 refine⟨_,(zB (zS (wW (own:=["ring"]) (ix:=[0]) rfl rfl rfl (yK K (yC qG hr (zA (pv 0) (zA (pv 1) zI)))) (λC s H fp=>yQ (i:=0) (show(["ring","machine"]:List Str).Nodup from by decide +kernel) rfl (Or.inl rfl)) (λC s H fp=>uU (sI (Qd (yC iV hr (zA (pv 1) (zA (pv 0) zI)))))) (λC s H fp=>(pv 0)))) zH),?_⟩
 rintro Fa ⟨q0,q1,⟨⟩⟩
 exact SB.of (zW (xB (n:=true) (jE:=[.un,.z q0]) (no:=1) (ix:=[0]) rfl rfl (yL (zM (zF (zD 0 rfl) (zF (zD 1 rfl) zQ)))) (zY 0 rfl rfl) (λx1=>(aR (md:=.hp) (Qu (zM (zF (zD 1 rfl) (zF (zD 0 rfl) zQ)))))) (λx1=>(yN 0 rfl)) (λx1=>dJ)).ex) (by unfold vN;simp only[bnd])
def Ox(q0:List LI):Option LI:=(some ([]:LI)).bind λeO=>((some q0).bind λxs=>xK (λ(s2:LI) (x4:LI)=>(Cy s2 x4).bind λnH=>some nH) xs eO).bind λs3=>some s3
theorem pU:ak ["lists","told","things"] ["lists"] (zJ mZ):=fsc
abbrev zNy(K:PySem.W.Frag):Sp:=cu K false (λa:((List LI))×Unit=>([.z a.1]:SL K)) (λa=>Ox a.1)
theorem zRf(F:aW K "joined" "joined" mZ f fd)(B:Bl K mg):aq P w K mg base aP (k+1) f fd ["lists"] (zNy K):=by
 refine yI F pU (λ_=>rfl) (λ_=>rfl) λcdv A outer s H E hr=>?_
 have nd:=pU.nd
 refine⟨_,(zB (yP 1 nd (wV zI)) (zB (yZ aay rfl (yK K (pv 0)) (bC 2 nd) (zB (yJ (v7 K aa7 PySem.F.slot_list_extend PySem.F.type_list_extend zJy (pv 1) (zA (pv 2) zI))) zH)) (zB (zS (pv 1)) zH))),?_⟩
 rintro Fa ⟨q0,⟨⟩⟩
 exact SB.of (zO (uK true 1 rfl rfl (uS (α:=Int))) (λeO=>(zO (wL (n:=false) (L:=(λs2:LI=>([.z q0,.ow true s2,.un]:SL K))) eO aK (yL (yN 0 rfl)) (λs2=>(zY 2 rfl rfl)) (λs2 x4=>(zN (zQk 1 rfl rfl (zD 2 rfl)) (λnH=>(zV (λs2:LI=>([.z q0,.ow true s2,.un]:SL K)) nH aK))))) (λs3=>(Ep 1 rfl rfl))))) (by unfold Ox;simp only[bnd])
def U7(q0:aG C)(q1:LI):Option LI:=((((((vN q0 q1).bind λa2=>some ((a2,()))).bind λz1=>Ox z1.1).bind λa4=>some ((a4,()))).bind λb5=>some (q1,b5)).bind λb6=>some (q0,b6)).bind λz3=>wP z3.1 z3.2.1 z3.2.2.1
theorem w5:ak ["machine","within"] ["machine","within"] (zJ tL):=fsc
abbrev zW5(K:PySem.W.Frag)(C:Addr):Sp:=cu K false (λa:(aG C)×LI×Unit=>([.z a.1,.z a.2.1]:SL K)) (λa=>U7 a.1 a.2.1)
theorem HS(F:aW K "core" "core" tL f fd)(B:Bl K mg)(dj:bH P w K mg base k "comes_to" ["machine","through","goal"] (zD8 K C))(gJ:bH P w K mg base k "fair_rings" ["machine","within"] (zEg K C))(nQ:bH P w K mg base k "joined" ["lists"] (zNy K)):aq P w K mg base aP (k+1) f fd ["machine","within"] (zW5 K C):=by
 refine yI F w5 (λ_=>rfl) (λ_=>rfl) λcdv A outer s H E hr=>?_
 have nd:=w5.nd
 refine⟨_,(zB (zS (yC dj hr (zA (pv 0) (zA (pv 1) (zA (yC nQ hr (zA (yC gJ hr (zA (pv 0) (zA (pv 1) zI))) zI)) zI))))) zH),?_⟩
 rintro Fa ⟨q0,q1,⟨⟩⟩
 exact SB.of (zW (zM (zF (zD 0 rfl) (zF (zD 1 rfl) (zF (zM (zF (zM (zF (zD 0 rfl) (zF (zD 1 rfl) zQ))) zQ)) zQ))))) (by unfold U7;simp only[bnd])
def QZ(q0:aG C):Option LI:=(((yR q0).bind λa2=>some ((a2,()))).bind λb3=>some (q0,b3)).bind λz1=>U7 z1.1 z1.2.1
theorem rT:ak ["machine"] ["machine"] (zJ s_alive):=fsc
abbrev zMj(K:PySem.W.Frag)(C:Addr):Sp:=cu K false (λa:(aG C)×Unit=>([.z a.1]:SL K)) (λa=>QZ a.1)
theorem zUu(F:aW K "alive" "alive" s_alive f fd)(B:Bl K mg)(tX:bH P w K mg base k "core" ["machine","within"] (zW5 K C))(au:bH P w K mg base k "everywhere" ["machine"] (vC K C)):aq P w K mg base aP (k+1) f fd ["machine"] (zMj K C):=by
 refine yI F rT (λ_=>rfl) (λ_=>rfl) λcdv A outer s H E hr=>?_
 have nd:=rT.nd
 refine⟨_,(zB (zS (yC tX hr (zA (pv 0) (zA (yC au hr (zA (pv 0) zI)) zI)))) zH),?_⟩
 rintro Fa ⟨q0,⟨⟩⟩
 exact SB.of (zW (zM (zF (zD 0 rfl) (zF (zM (zF (zD 0 rfl) zQ)) zQ)))) (by unfold QZ;simp only[bnd])
def xW(q0:aG C)(q1:LI)(q2:LI)(q3:LI):Option LI:=((((vD q1 q3).bind λa2=>some ((a2,()))).bind λb3=>some (q2,b3)).bind λb4=>some (q0,b4)).bind λz1=>wP z1.1 z1.2.1 z1.2.2.1
theorem j9:ak ["machine","living","left","right"] ["machine","living","left","right"] (zJ iH):=fsc
abbrev zF9(K:PySem.W.Frag)(C:Addr):Sp:=cu K false (λa:(aG C)×LI×LI×LI×Unit=>([.z a.1,.z a.2.1,.z a.2.2.1,.z a.2.2.2.1]:SL K)) (λa=>xW a.1 a.2.1 a.2.2.1 a.2.2.2.1)
theorem zJq(F:aW K "some_till" "some_till" iH f fd)(B:Bl K mg)(dj:bH P w K mg base k "comes_to" ["machine","through","goal"] (zD8 K C))(cJ:bH P w K mg base k "shared" ["one","other"] (Xl K)):aq P w K mg base aP (k+1) f fd ["machine","living","left","right"] (zF9 K C):=by
 refine yI F j9 (λ_=>rfl) (λ_=>rfl) λcdv A outer s H E hr=>?_
 have nd:=j9.nd
 refine⟨_,(zB (zS (yC dj hr (zA (pv 0) (zA (pv 2) (zA (yC cJ hr (zA (pv 1) (zA (pv 3) zI))) zI))))) zH),?_⟩
 rintro Fa ⟨q0,q1,q2,q3,⟨⟩⟩
 exact SB.of (zW (zM (zF (zD 0 rfl) (zF (zD 2 rfl) (zF (zM (zF (zD 1 rfl) (zF (zD 3 rfl) zQ))) zQ))))) (by unfold xW;simp only[bnd])
def yU(q0:aG C)(q1:LI)(q2:bh cl)(q3:List LI):Option LI:=(if(dX (.one 1) q2.t)=true then none else some ()).bind λs1=>(if(dX (.one 2) q2.t)=true then none else some ()).bind λs3=>if(dX (.two 2) q2.t)=true then((((aO q3 (0:Int)).bind λa7=>((aO q3 (1:Int)).bind λa6=>some ((a6,()))).bind λb8=>some (a7,b8)).bind λb9=>some (q1,b9)).bind λb10=>some (q0,b10)).bind λz5=>xW z5.1 z5.2.1 z5.2.2.1 z5.2.2.2.1 else(if(dX (.two 3) q2.t)=true then none else some ()).bind λcF=>(if(dX (.one 3) q2.t)=true then none else some ()).bind λoW=>if(dX (.one 4) q2.t)=true then(((((((yR q0).bind λa20=>(((((aO q3 (0:Int)).bind λa16=>some ((a16,()))).bind λOz=>some (q0,Oz)).bind λz15=>vT z15.1 z15.2.1).bind λa19=>some ((a19,()))).bind λb21=>some (a20,b21)).bind λOD=>some (q1,OD)).bind λHW=>some (q0,HW)).bind λXm=>xW Xm.1 Xm.2.1 Xm.2.2.1 Xm.2.2.2.1).bind λa25=>some ((a25,()))).bind λb26=>some (q0,b26)).bind λQ_=>vT Q_.1 Q_.2.1 else if(dX (.one 5) q2.t)=true then((((yR q0).bind λa29=>((aO q3 (0:Int)).bind λa28=>some ((a28,()))).bind λb30=>some (a29,b30)).bind λU8=>some (q1,U8)).bind λb32=>some (q0,b32)).bind λXn=>xW Xn.1 Xn.2.1 Xn.2.2.1 Xn.2.2.2.1 else none
theorem cW:ak ["machine","living","saying","sets"] ["machine","living","saying","sets"] (zJ bW):=fsc
abbrev uX(K:PySem.W.Frag)(C:Addr)(cl:Hd->Addr):Sp:=cu K false (λa:(aG C)×LI×(bh cl)×((List LI))×Unit=>([.z a.1,.z a.2.1,.z a.2.2.1,.z a.2.2.2.1]:SL K)) (λa=>yU a.1 a.2.1 a.2.2.1 a.2.2.2.1)
theorem zB3(F:aW K "meaning_over_walks" "meaning_over_walks" bW f fd)(B:Bl K mg)(I:mq P w K mg base kS cl fi di)(au:bH P w K mg base k "everywhere" ["machine"] (vC K C))(eV:bH P w K mg base k "others" ["machine","stands"] (zIy K C))(dH:bH P w K mg base k "some_till" ["machine","living","left","right"] (zF9 K C)):aq P w K mg base aP (k+1) f fd ["machine","living","saying","sets"] (uX K C cl):=by
 refine yI F cW (λ_=>rfl) (λ_=>rfl) λcdv A outer s H E hr=>?_
 have nd:=cW.nd
 refine⟨_,(zB (yO (yW (zP (xM K (wA (a:=cl (.one 1)))) rfl B.jt xN (zA (pv 2) (zA (xH (v:=.ref (cl (.one 1))) rfl (I.ini.m1 1) rfl) zI)))) yT zH) (zB (yO (yW (zP (xM K (wA (a:=cl (.one 2)))) rfl B.jt xN (zA (pv 2) (zA (xH (v:=.ref (cl (.one 2))) rfl (I.ini.m1 2) rfl) zI)))) yT zH) (zB (yO (yW (zP (xM K (wA (a:=cl (.two 2)))) rfl B.jt xN (zA (pv 2) (zA (xH (v:=.ref (cl (.two 2))) rfl (I.ini.m2 2) rfl) zI)))) (zB (zS (yC dH hr (zA (pv 0) (zA (pv 1) (zA (yM (aQ K) (pv 3) zL (λ_ _=>rfl)) (zA (yM (aQ K) (pv 3) zL (λ_ _=>rfl)) zI)))))) zH) zH) (zB (yO (yW (zP (xM K (wA (a:=cl (.two 3)))) rfl B.jt xN (zA (pv 2) (zA (xH (v:=.ref (cl (.two 3))) rfl (I.ini.m2 3) rfl) zI)))) yT zH) (zB (yO (yW (zP (xM K (wA (a:=cl (.one 3)))) rfl B.jt xN (zA (pv 2) (zA (xH (v:=.ref (cl (.one 3))) rfl (I.ini.m1 3) rfl) zI)))) yT zH) (zB (yO (yW (zP (xM K (wA (a:=cl (.one 4)))) rfl B.jt xN (zA (pv 2) (zA (xH (v:=.ref (cl (.one 4))) rfl (I.ini.m1 4) rfl) zI)))) (zB (zS (yC eV hr (zA (pv 0) (zA (yC dH hr (zA (pv 0) (zA (pv 1) (zA (yC au hr (zA (pv 0) zI)) (zA (yC eV hr (zA (pv 0) (zA (yM (aQ K) (pv 3) zL (λ_ _=>rfl)) zI))) zI))))) zI)))) zH) zH) (zB (yO (yW (zP (xM K (wA (a:=cl (.one 5)))) rfl B.jt xN (zA (pv 2) (zA (xH (v:=.ref (cl (.one 5))) rfl (I.ini.m1 5) rfl) zI)))) (zB (zS (yC dH hr (zA (pv 0) (zA (pv 1) (zA (yC au hr (zA (pv 0) zI)) (zA (yM (aQ K) (pv 3) zL (λ_ _=>rfl)) zI)))))) zH) zH) yT))))))),?_⟩
 rintro Fa ⟨q0,q1,q2,q3,⟨⟩⟩
 exact SB.of (zO (vH (aR (md:=.hp) (xD I (.one 1) (zD 2 rfl))) xU (zV (λs2:Unit=>([.z q0,.z q1,.z q2,.z q3]:SL K)) () aK)) (λs1=>(zO (vH (aR (md:=.hp) (xD I (.one 2) (zD 2 rfl))) xU (zV (λs4:Unit=>([.z q0,.z q1,.z q2,.z q3]:SL K)) () aK)) (λs3=>(wH (aR (md:=.hp) (xD I (.two 2) (zD 2 rfl))) (zW (zM (zF (zD 0 rfl) (zF (zD 1 rfl) (zF (xA (zD 3 rfl) (zK 0)) (zF (xA (zD 3 rfl) (zK 1)) zQ)))))) (zO (vH (aR (md:=.hp) (xD I (.two 3) (zD 2 rfl))) xU (zV (λs12:Unit=>([.z q0,.z q1,.z q2,.z q3]:SL K)) () aK)) (λcF=>(zO (vH (aR (md:=.hp) (xD I (.one 3) (zD 2 rfl))) xU (zV (λj5:Unit=>([.z q0,.z q1,.z q2,.z q3]:SL K)) () aK)) (λoW=>(wH (aR (md:=.hp) (xD I (.one 4) (zD 2 rfl))) (zW (zM (zF (zD 0 rfl) (zF (zM (zF (zD 0 rfl) (zF (zD 1 rfl) (zF (zM (zF (zD 0 rfl) zQ)) (zF (zM (zF (zD 0 rfl) (zF (xA (zD 3 rfl) (zK 0)) zQ))) zQ))))) zQ)))) (wH (aR (md:=.hp) (xD I (.one 5) (zD 2 rfl))) (zW (zM (zF (zD 0 rfl) (zF (zD 1 rfl) (zF (zM (zF (zD 0 rfl) zQ)) (zF (xA (zD 3 rfl) (zK 0)) zQ)))))) zMu))))))))))) (by unfold yU;simp only[bnd])
def wN(q0:aG C)(q1:LI)(q2:bh cl)(q3:List LI):Option LI:=if(dX .all q2.t)=true then yR q0 else if(dX .mark q2.t)=true then(q2.name.bind λa2=>some ((a2,()))).bind λz1=>xE q0 z1.1 else if(dX (.one 0) q2.t)=true then(((aO q3 (0:Int)).bind λa4=>some ((a4,()))).bind λb5=>some (q0,b5)).bind λz3=>vT z3.1 z3.2.1 else(if(dX (.two 0) q2.t)=true then none else some ()).bind λs6=>(if(dX (.two 1) q2.t)=true then none else some ()).bind λs8=>yU q0 q1 q2 q3
theorem nU:ak ["machine","living","saying","sets"] ["machine","living","saying","sets"] (zJ lu):=fsc
abbrev zGb(K:PySem.W.Frag)(C:Addr)(cl:Hd->Addr):Sp:=cu K false (λa:(aG C)×LI×(bh cl)×((List LI))×Unit=>([.z a.1,.z a.2.1,.z a.2.2.1,.z a.2.2.2.1]:SL K)) (λa=>wN a.1 a.2.1 a.2.2.1 a.2.2.2.1)
theorem zOv(F:aW K "meaning" "meaning" lu f fd)(B:Bl K mg)(I:mq P w K mg base kS cl fi di)(dw:gk P w K mg base k C "marked" ["self","name"] (zBs K C))(au:bH P w K mg base k "everywhere" ["machine"] (vC K C))(bZ:bH P w K mg base k "meaning_over_walks" ["machine","living","saying","sets"] (uX K C cl))(eV:bH P w K mg base k "others" ["machine","stands"] (zIy K C)):aq P w K mg base aP (k+1) f fd ["machine","living","saying","sets"] (zGb K C cl):=by
 refine yI F nU (λ_=>rfl) (λ_=>rfl) λcdv A outer s H E hr=>?_
 have nd:=nU.nd
 refine⟨_,(zB (yO (yW (zP (xM K (wA (a:=cl .all))) rfl B.jt xN (zA (pv 2) (zA (xH (v:=.ref (cl .all)) rfl I.ini.mA rfl) zI)))) (zB (zS (yC au hr (zA (pv 0) zI))) zH) zH) (zB (yO (yW (zP (xM K (wA (a:=cl .mark))) rfl B.jt xN (zA (pv 2) (zA (xH (v:=.ref (cl .mark)) rfl I.ini.mM rfl) zI)))) (zB (zS (TQ dw hr (pv 0) (zA (GK K (pv 2)) zI))) zH) zH) (zB (yO (yW (zP (xM K (wA (a:=cl (.one 0)))) rfl B.jt xN (zA (pv 2) (zA (xH (v:=.ref (cl (.one 0))) rfl (I.ini.m1 0) rfl) zI)))) (zB (zS (yC eV hr (zA (pv 0) (zA (yM (aQ K) (pv 3) zL (λ_ _=>rfl)) zI)))) zH) zH) (zB (yO (yW (zP (xM K (wA (a:=cl (.two 0)))) rfl B.jt xN (zA (pv 2) (zA (xH (v:=.ref (cl (.two 0))) rfl (I.ini.m2 0) rfl) zI)))) yT zH) (zB (yO (yW (zP (xM K (wA (a:=cl (.two 1)))) rfl B.jt xN (zA (pv 2) (zA (xH (v:=.ref (cl (.two 1))) rfl (I.ini.m2 1) rfl) zI)))) yT zH) (zB (zS (yC bZ hr (zA (pv 0) (zA (pv 1) (zA (pv 2) (zA (pv 3) zI)))))) zH)))))),?_⟩
 rintro Fa ⟨q0,q1,q2,q3,⟨⟩⟩
 exact SB.of (wH (aR (md:=.hp) (xD I .all (zD 2 rfl))) (zW (zM (zF (zD 0 rfl) zQ))) (wH (aR (md:=.hp) (xD I .mark (zD 2 rfl))) (zW (GJ (by decide +kernel) (zD 0 rfl) (zF (esc (esc (zPi I (zD 2 rfl)))) zQ))) (wH (aR (md:=.hp) (xD I (.one 0) (zD 2 rfl))) (zW (zM (zF (zD 0 rfl) (zF (xA (zD 3 rfl) (zK 0)) zQ)))) (zO (vH (aR (md:=.hp) (xD I (.two 0) (zD 2 rfl))) xU (zV (λs7:Unit=>([.z q0,.z q1,.z q2,.z q3]:SL K)) () aK)) (λs6=>(zO (vH (aR (md:=.hp) (xD I (.two 1) (zD 2 rfl))) xU (zV (λs9:Unit=>([.z q0,.z q1,.z q2,.z q3]:SL K)) () aK)) (λs8=>(zW (zM (zF (zD 0 rfl) (zF (zD 1 rfl) (zF (zD 2 rfl) (zF (zD 3 rfl) zQ))))))))))))) (by unfold wN;simp only[bnd])
def yS(rec:(aG C)->LI->(bh cl)->Option (List LI))(q0:aG C)(q1:LI)(q2:bh cl):Option (List LI):=(some (([]:List LI))).bind λeO=>(some (([]:List LI))).bind λnY=>((some q2.parts).bind λxs=>xK (λ(s3:(List LI)×(List LI)) (x5:bh cl)=>((rec q0 q1 x5).bind λa7=>CG s3.1 a7).bind λw6=>((aO w6 (-(1:Int))).bind λa9=>push s3.2 a9).bind λDm=>some (w6,Dm)) xs (eO,nY)).bind λs4=>((wN q0 q1 q2 s4.2).bind λa11=>push s4.1 a11).bind λDn=>some Dn
def yY:Nat->(aG C)->LI->(bh cl)->Option (List LI)
 |0=>λ_ _ _=>none
 |n+1=>yS (yY n)
theorem iW:ak ["machine","living","saying","told","sets","part"] ["machine","living","saying"] (zJ fK):=fsc
abbrev Xo(K:PySem.W.Frag)(C:Addr)(cl:Hd->Addr)(rec:(aG C)->LI->(bh cl)->Option (List LI)):Sp:=cu K false (λa:(aG C)×LI×(bh cl)×Unit=>([.z a.1,.z a.2.1,.z a.2.2.1]:SL K)) (λa=>rec a.1 a.2.1 a.2.2.1)
abbrev zDl(K:PySem.W.Frag)(C:Addr)(cl:Hd->Addr):Sp:=Xo K C cl (yY 6 )
theorem zGi(F:aW K "table_among" "table_among" fK f fd)(B:Bl K mg)(I:mq P w K mg base kS cl fi di)(dU:bH P w K mg base k "meaning" ["machine","living","saying","sets"] (zGb K C cl))(cL:bH P w K mg base k "table_among" ["machine","living","saying"] (Xo K C cl rec)):aq P w K mg base aP (k+1) f fd ["machine","living","saying"] (Xo K C cl (yS rec)):=by
 refine yI F iW (λ_=>rfl) (λ_=>rfl) λcdv A outer s H E hr=>?_
 have nd:=iW.nd
 refine⟨_,(zB (yP 3 nd (wV zI)) (zB (yP 4 nd (wV zI)) (zB (yZ aay rfl (zWl K (GK K (pv 2))) (bC 5 nd) (zB (yJ (v7 K aa7 PySem.F.slot_list_extend PySem.F.type_list_extend zJy (pv 3) (zA (yC cL hr (zA (pv 0) (zA (pv 1) (zA (pv 5) zI)))) zI))) (zB (yJ (v7 K aa7 aa9 abb wE (pv 4) (zA (yM (aQ K) (pv 3) (K6 K_ zL) (λ_ _=>rfl)) zI))) zH))) (zB (yJ (v7 K aa7 aa9 abb wE (pv 3) (zA (yC dU hr (zA (pv 0) (zA (pv 1) (zA (pv 2) (zA (pv 4) zI))))) zI))) (zB (zS (pv 3)) zH))))),?_⟩
 rintro Fa ⟨q0,q1,q2,⟨⟩⟩
 exact SB.of (zO (uK true 3 rfl rfl (uS (α:=LI))) (λeO=>(zO (uK true 4 rfl rfl (uS (α:=LI))) (λnY=>(zO (wL (n:=false) (L:=(λs3:(List LI)×(List LI)=>([.z q0,.z q1,.z q2,.ow true s3.1,.ow true s3.2,.un]:SL K))) (eO,nY) aK (zNj I (yN 2 rfl)) (λs3=>(zY 5 rfl rfl)) (λs3 x5=>(zN (zOf 3 rfl rfl (zM (zF (zD 0 rfl) (zF (zD 1 rfl) (zF (zD 5 rfl) zQ))))) (λw6=>(zN (wM 4 rfl rfl (Mu 3 rfl (M8 (zK 1)))) (λDm=>(zV (λs3:(List LI)×(List LI)=>([.z q0,.z q1,.z q2,.ow true s3.1,.ow true s3.2,.un]:SL K)) (w6,Dm) aK))))))) (λs4=>(zO (wM 3 rfl rfl (zM (zF (zD 0 rfl) (zF (zD 1 rfl) (zF (zD 2 rfl) (zF (Ck 4 rfl) zQ)))))) (λDn=>(Ep 3 rfl rfl))))))))) (by unfold yS;simp only[bnd])
def Xp(q0:aG C)(q1:bh cl):Option (List LI):=(((QZ q0).bind λa2=>some ((a2,(q1,())))).bind λb3=>some (q0,b3)).bind λz1=>yY 6 z1.1 z1.2.1 z1.2.2.1
theorem rW:ak ["machine","saying"] ["machine","saying"] (zJ qx):=fsc
abbrev zTe(K:PySem.W.Frag)(C:Addr)(cl:Hd->Addr):Sp:=cu K false (λa:(aG C)×(bh cl)×Unit=>([.z a.1,.z a.2.1]:SL K)) (λa=>Xp a.1 a.2.1)
theorem zUp(F:aW K "table" "table" qx f fd)(B:Bl K mg)(jk:bH P w K mg base k "alive" ["machine"] (zMj K C))(cL:bH P w K mg base k "table_among" ["machine","living","saying"] (zDl K C cl)):aq P w K mg base aP (k+1) f fd ["machine","saying"] (zTe K C cl):=by
 refine yI F rW (λ_=>rfl) (λ_=>rfl) λcdv A outer s H E hr=>?_
 have nd:=rW.nd
 refine⟨_,(zB (zS (yC cL hr (zA (pv 0) (zA (yC jk hr (zA (pv 0) zI)) (zA (pv 1) zI))))) zH),?_⟩
 rintro Fa ⟨q0,q1,⟨⟩⟩
 exact SB.of (zW (zM (zF (zD 0 rfl) (zF (zM (zF (zD 0 rfl) zQ)) (zF (zD 1 rfl) zQ))))) (by unfold Xp;simp only[bnd])
def Ka(q0:aG C)(q1:bh cl):Option LI:=(Xp q0 q1).bind λa1=>aO a1 (-(1:Int))
theorem rY:ak ["machine","saying"] ["machine","saying"] (zJ qy):=fsc
abbrev zTg(K:PySem.W.Frag)(C:Addr)(cl:Hd->Addr):Sp:=cu K false (λa:(aG C)×(bh cl)×Unit=>([.z a.1,.z a.2.1]:SL K)) (λa=>Ka a.1 a.2.1)
theorem zUs(F:aW K "holds" "holds" qy f fd)(B:Bl K mg)(qH:bH P w K mg base k "table" ["machine","saying"] (zTe K C cl)):aq P w K mg base aP (k+1) f fd ["machine","saying"] (zTg K C cl):=by
 refine yI F rY (λ_=>rfl) (λ_=>rfl) λcdv A outer s H E hr=>?_
 have nd:=rY.nd
 refine⟨_,(zB (zS (yM (aQ K) (yC qH hr (zA (pv 0) (zA (pv 1) zI))) (K6 K_ zL) (λ_ _=>rfl))) zH),?_⟩
 rintro Fa ⟨q0,q1,⟨⟩⟩
 exact SB.of (zW (xA (zM (zF (zD 0 rfl) (zF (zD 1 rfl) zQ))) (M8 (zK 1)))) (by unfold Ka;simp only[bnd])
def uZ(q0:Option LI):Option cO:=if q0.isNone=true then some cO.shut else q0.bind λa1=>some (cO.walk a1)
theorem iY:ak ["walk"] ["walk"] (zJ fL):=fsc
abbrev zDk(K:PySem.W.Frag):Sp:=cu K true (λa:((Option LI))×Unit=>([.z a.1]:SL K)) (λa=>uZ a.1)
theorem zGh(F:aW K "walk_reason" "walk_reason" fL f fd)(B:Bl K mg):aq P w K mg base aP (k+1) f fd ["walk"] (zDk K):=by
 refine yI F iY (λ_=>rfl) (λ_=>rfl) λcdv A outer s H E hr=>?_
 have nd:=iY.nd
 refine⟨_,(zB (yO (sI (Qd (pv 0))) (zB (zS (sS (zA xV zI))) zH) zH) (zB (zS (sS (zA xV (zA (pv 0) zI)))) zH)),?_⟩
 rintro Fa ⟨q0,⟨⟩⟩
 exact SB.of (wH (aR (md:=.hp) (Qu (zD 0 rfl))) (zW (zWn .shut (λ_=>rfl))) (zW (zSh (Tq (yN 0 rfl))))) (by unfold uZ;simp only[bnd])
def zZ(q0:aG C)(q1:LI)(q2:LI):Option (List cO):=(xL q0 q1 q2).bind λpR=>(yR q0).bind λxs=>yX (λ(x2:Int)=>some true) (λ(x2:Int)=>((U3 q0 pR x2).bind λa4=>some ((a4,()))).bind λz3=>uZ z3.1) xs
theorem gU:ak ["machine","through","goal","away"] ["machine","through","goal"] (zJ dY):=fsc
abbrev zCj(K:PySem.W.Frag)(C:Addr):Sp:=cu K false (λa:(aG C)×LI×LI×Unit=>([.z a.1,.z a.2.1,.z a.2.2.1]:SL K)) (λa=>zZ a.1 a.2.1 a.2.2.1)
theorem zFf(F:aW K "walk_reasons" "walk_reasons" dY f fd)(B:Bl K mg)(cN:bH P w K mg base k "distances" ["machine","through","goal"] (zCu K C))(au:bH P w K mg base k "everywhere" ["machine"] (vC K C))(iZ:bH P w K mg base k "walk_down" ["machine","away","stand"] (zF8 K C))(fV:bH P w K mg base k "walk_reason" ["walk"] (zDk K)):aq P w K mg base aP (k+1) f fd ["machine","through","goal"] (zCj K C):=by
 refine yI F gU (λ_=>rfl) (λ_=>rfl) λcdv A outer s H E hr=>?_
 have nd:=gU.nd
 refine⟨_,(zB (yP 3 nd (yC cN hr (zA (pv 0) (zA (pv 1) (zA (pv 2) zI))))) (zB (zS (wW (own:=["stand"]) (ix:=[0,3]) rfl rfl rfl (yK K (yC au hr (zA (pv 0) zI))) (λC s H fp=>yQ (i:=0) (show(["stand","machine","away"]:List Str).Nodup from by decide +kernel) rfl (Or.inl rfl)) (λC s H fp=>vK) (λC s H fp=>(yC fV hr (zA (yC iZ hr (zA (pv 1) (zA (pv 2) (zA (pv 0) zI)))) zI))))) zH)),?_⟩
 rintro Fa ⟨q0,q1,q2,⟨⟩⟩
 exact SB.of (zO (yE true 3 rfl rfl (zM (zF (zD 0 rfl) (zF (zD 1 rfl) (zF (zD 2 rfl) zQ))))) (λpR=>(zW (xB (n:=true) (jE:=[.un,.z q0,.y pR]) (no:=1) (ix:=[0,3]) rfl rfl (yL (zM (zF (zD 0 rfl) zQ))) (zY 0 rfl rfl) (λx2=>v8) (λx2=>(zVm (zF (zM (zF (zD 1 rfl) (zF (zD 2 rfl) (zF (esc (zE 0 rfl)) zQ)))) zQ))) (λx2=>dJ)).ex))) (by unfold zZ;simp only[bnd])
def wX(q0:aG C)(q1:LI)(q2:bh cl)(q3:List LI)(q4:LI):Option (List cO):=(if(dX (.one 1) q2.t)=true then none else some ()).bind λs1=>(if(dX (.one 2) q2.t)=true then none else some ()).bind λs3=>if(dX (.two 2) q2.t)=true then(((aO q3 (0:Int)).bind λa10=>(((((aO q3 (1:Int)).bind λa6=>some ((a6,()))).bind λb7=>some (q1,b7)).bind λz5=>vD z5.1 z5.2.1).bind λa9=>some ((a9,()))).bind λb11=>some (a10,b11)).bind λOJ=>some (q0,OJ)).bind λz8=>zZ z8.1 z8.2.1 z8.2.2.1 else if(dX (.one 5) q2.t)=true then(((yR q0).bind λa18=>(((((aO q3 (0:Int)).bind λa14=>some ((a14,()))).bind λO6=>some (q1,O6)).bind λU9=>vD U9.1 U9.2.1).bind λa17=>some ((a17,()))).bind λO7=>some (a18,O7)).bind λb20=>some (q0,b20)).bind λz16=>zZ z16.1 z16.2.1 z16.2.2.1 else if(dX (.one 4) q2.t)=true then(((yR q0).bind λa26=>(((((aO q3 (0:Int)).bind λa22=>some ((a22,()))).bind λHW=>some (q1,HW)).bind λz21=>Oq z21.1 z21.2.1).bind λa25=>some ((a25,()))).bind λU_=>some (a26,U_)).bind λb28=>some (q0,b28)).bind λQ_=>zZ Q_.1 Q_.2.1 Q_.2.2.1 else(if(dX (.one 3) q2.t)=true then none else some ()).bind λVa=>(if(dX (.two 3) q2.t)=true then none else some ()).bind λs31=>(if(dX (.one 6) q2.t)=true then none else some ()).bind λs33=>none
theorem nZ:ak ["machine","living","saying","sets","holding"] ["machine","living","saying","sets","holding"] (zJ lA):=fsc
abbrev zKv(K:PySem.W.Frag)(C:Addr)(cl:Hd->Addr):Sp:=cu K false (λa:(aG C)×LI×(bh cl)×((List LI))×LI×Unit=>([.z a.1,.z a.2.1,.z a.2.2.1,.z a.2.2.2.1,.z a.2.2.2.2.1]:SL K)) (λa=>wX a.1 a.2.1 a.2.2.1 a.2.2.2.1 a.2.2.2.2.1)
theorem zOu(F:aW K "reasons" "reasons" lA f fd)(B:Bl K mg)(I:mq P w K mg base kS cl fi di)(au:bH P w K mg base k "everywhere" ["machine"] (vC K C))(cJ:bH P w K mg base k "shared" ["one","other"] (Xl K))(b_:bH P w K mg base k "walk_reasons" ["machine","through","goal"] (zCj K C))(dR:bH P w K mg base k "without" ["one","other"] (zF7 K)):aq P w K mg base aP (k+1) f fd ["machine","living","saying","sets","holding"] (zKv K C cl):=by
 refine yI F nZ (λ_=>rfl) (λ_=>rfl) λcdv A outer s H E hr=>?_
 have nd:=nZ.nd
 refine⟨_,(zB (yO (yW (zP (xM K (wA (a:=cl (.one 1)))) rfl B.jt xN (zA (pv 2) (zA (xH (v:=.ref (cl (.one 1))) rfl (I.ini.m1 1) rfl) zI)))) yT zH) (zB (yO (yW (zP (xM K (wA (a:=cl (.one 2)))) rfl B.jt xN (zA (pv 2) (zA (xH (v:=.ref (cl (.one 2))) rfl (I.ini.m1 2) rfl) zI)))) yT zH) (zB (yO (yW (zP (xM K (wA (a:=cl (.two 2)))) rfl B.jt xN (zA (pv 2) (zA (xH (v:=.ref (cl (.two 2))) rfl (I.ini.m2 2) rfl) zI)))) (zB (zS (yC b_ hr (zA (pv 0) (zA (yM (aQ K) (pv 3) zL (λ_ _=>rfl)) (zA (yC cJ hr (zA (pv 1) (zA (yM (aQ K) (pv 3) zL (λ_ _=>rfl)) zI))) zI))))) zH) zH) (zB (yO (yW (zP (xM K (wA (a:=cl (.one 5)))) rfl B.jt xN (zA (pv 2) (zA (xH (v:=.ref (cl (.one 5))) rfl (I.ini.m1 5) rfl) zI)))) (zB (zS (yC b_ hr (zA (pv 0) (zA (yC au hr (zA (pv 0) zI)) (zA (yC cJ hr (zA (pv 1) (zA (yM (aQ K) (pv 3) zL (λ_ _=>rfl)) zI))) zI))))) zH) zH) (zB (yO (yW (zP (xM K (wA (a:=cl (.one 4)))) rfl B.jt xN (zA (pv 2) (zA (xH (v:=.ref (cl (.one 4))) rfl (I.ini.m1 4) rfl) zI)))) (zB (zS (yC b_ hr (zA (pv 0) (zA (yC au hr (zA (pv 0) zI)) (zA (yC dR hr (zA (pv 1) (zA (yM (aQ K) (pv 3) zL (λ_ _=>rfl)) zI))) zI))))) zH) zH) (zB (yO (yW (zP (xM K (wA (a:=cl (.one 3)))) rfl B.jt xN (zA (pv 2) (zA (xH (v:=.ref (cl (.one 3))) rfl (I.ini.m1 3) rfl) zI)))) yT zH) (zB (yO (yW (zP (xM K (wA (a:=cl (.two 3)))) rfl B.jt xN (zA (pv 2) (zA (xH (v:=.ref (cl (.two 3))) rfl (I.ini.m2 3) rfl) zI)))) yT zH) (zB (yO (yW (zP (xM K (wA (a:=cl (.one 6)))) rfl B.jt xN (zA (pv 2) (zA (xH (v:=.ref (cl (.one 6))) rfl (I.ini.m1 6) rfl) zI)))) yT zH) yT)))))))),?_⟩
 rintro Fa ⟨q0,q1,q2,q3,q4,⟨⟩⟩
 exact SB.of (zO (vH (aR (md:=.hp) (xD I (.one 1) (zD 2 rfl))) xU (zV (λs2:Unit=>([.z q0,.z q1,.z q2,.z q3,.z q4]:SL K)) () aK)) (λs1=>(zO (vH (aR (md:=.hp) (xD I (.one 2) (zD 2 rfl))) xU (zV (λs4:Unit=>([.z q0,.z q1,.z q2,.z q3,.z q4]:SL K)) () aK)) (λs3=>(wH (aR (md:=.hp) (xD I (.two 2) (zD 2 rfl))) (zW (zM (zF (zD 0 rfl) (zF (xA (zD 3 rfl) (zK 0)) (zF (zM (zF (zD 1 rfl) (zF (xA (zD 3 rfl) (zK 1)) zQ))) zQ))))) (wH (aR (md:=.hp) (xD I (.one 5) (zD 2 rfl))) (zW (zM (zF (zD 0 rfl) (zF (zM (zF (zD 0 rfl) zQ)) (zF (zM (zF (zD 1 rfl) (zF (xA (zD 3 rfl) (zK 0)) zQ))) zQ))))) (wH (aR (md:=.hp) (xD I (.one 4) (zD 2 rfl))) (zW (zM (zF (zD 0 rfl) (zF (zM (zF (zD 0 rfl) zQ)) (zF (zM (zF (zD 1 rfl) (zF (xA (zD 3 rfl) (zK 0)) zQ))) zQ))))) (zO (vH (aR (md:=.hp) (xD I (.one 3) (zD 2 rfl))) xU (zV (λXq:Unit=>([.z q0,.z q1,.z q2,.z q3,.z q4]:SL K)) () aK)) (λVa=>(zO (vH (aR (md:=.hp) (xD I (.two 3) (zD 2 rfl))) xU (zV (λs32:Unit=>([.z q0,.z q1,.z q2,.z q3,.z q4]:SL K)) () aK)) (λs31=>(zO (vH (aR (md:=.hp) (xD I (.one 6) (zD 2 rfl))) xU (zV (λs34:Unit=>([.z q0,.z q1,.z q2,.z q3,.z q4]:SL K)) () aK)) (λs33=>zMu))))))))))))) (by unfold wX;simp only[bnd])
def Dp(q0:aG C)(q1:bh cl):Option (List (Bool×cO)):=(QZ q0).bind λqI=>((some q1.parts).bind λxs=>yX (λ(x3:bh cl)=>some true) (λ(x3:bh cl)=>Ka q0 x3) xs).bind λnY=>(wN q0 qI q1 nY).bind λn8=>(Oo q0 n8).bind λa5=>(wX q0 qI q1 nY n8).bind λb6=>CK a5 b6
theorem xg:ak ["machine","saying","living","sets","holding"] ["machine","saying"] (zJ tM):=fsc
abbrev zW4(K:PySem.W.Frag)(C:Addr)(cl:Hd->Addr):Sp:=cu K false (λa:(aG C)×(bh cl)×Unit=>([.z a.1,.z a.2.1]:SL K)) (λa=>Dp a.1 a.2.1)
theorem HX(F:aW K "whys" "whys" tM f fd)(B:Bl K mg)(I:mq P w K mg base kS cl fi di)(O8:mg "zip" = none)(jk:bH P w K mg base k "alive" ["machine"] (zMj K C))(jh:bH P w K mg base k "flags" ["machine","stands"] (zMi K C))(qJ:bH P w K mg base k "holds" ["machine","saying"] (zTg K C cl))(dU:bH P w K mg base k "meaning" ["machine","living","saying","sets"] (zGb K C cl))(lH:bH P w K mg base k "reasons" ["machine","living","saying","sets","holding"] (zKv K C cl)):aq P w K mg base aP (k+1) f fd ["machine","saying"] (zW4 K C cl):=by
 refine yI F xg (λ_=>rfl) (λ_=>rfl) λcdv A outer s H E hr=>?_
 have nd:=xg.nd
 refine⟨_,(zB (yP 2 nd (yC jk hr (zA (pv 0) zI))) (zB (Em (i:=3) (own:=["part"]) (ix:=[0]) nd rfl rfl rfl rfl rfl (zWl K (GK K (pv 1))) (λC s H fp=>yQ (i:=0) (show(["part","machine"]:List Str).Nodup from by decide +kernel) rfl (Or.inl rfl)) (λC s H fp=>vK) (λC s H fp=>(yC qJ hr (zA (pv 1) (zA (pv 0) zI))))) (zB (yP 4 nd (yC dU hr (zA (pv 0) (zA (pv 2) (zA (pv 1) (zA (pv 3) zI)))))) (zB (zS (zOq K rfl B.list O8 (zA (yC jh hr (zA (pv 0) (zA (pv 4) zI))) (zA (yC lH hr (zA (pv 0) (zA (pv 2) (zA (pv 1) (zA (pv 3) (zA (pv 4) zI)))))) zI)))) zH)))),?_⟩
 rintro Fa ⟨q0,q1,⟨⟩⟩
 exact SB.of (zO (yE true 2 rfl rfl (zM (zF (zD 0 rfl) zQ))) (λqI=>(zO (yE true 3 rfl rfl (xB (n:=false) (jE:=[.un,.z q0]) (no:=1) (ix:=[0]) rfl rfl (zNj I (yN 1 rfl)) (zY 0 rfl rfl) (λx3=>v8) (λx3=>(zM (zF (zD 1 rfl) (zF (zD 0 rfl) zQ)))) (λx3=>dJ)).ex) (λnY=>(zO (yE true 4 rfl rfl (zM (zF (zD 0 rfl) (zF (zD 2 rfl) (zF (zD 1 rfl) (zF (zD 3 rfl) zQ)))))) (λn8=>(zW (zPj (zM (zF (zD 0 rfl) (zF (zD 4 rfl) zQ))) (zM (zF (zD 0 rfl) (zF (zD 2 rfl) (zF (zD 1 rfl) (zF (zD 3 rfl) (zF (zD 4 rfl) zQ)))))))))))))) (by unfold Dp;simp only[bnd])
def xX(q0:yx)(q1:Int):Option Int:=if(decide (q1<(q0.ns.length:Int)))=true then aO q0.ns q1 else some (0:Int)
theorem j_:ak ["_law_script","_law_k"] ["_law_script","_law_k"] (zJ iI):=fsc
abbrev zCt(K:PySem.W.Frag):Sp:=cu K false (λa:yx×Int×Unit=>([.z a.1,.z a.2.1]:SL K)) (λa=>xX a.1 a.2.1)
theorem zJv(F:aW K "_law_cell_at" "_law_cell_at" iI f fd)(B:Bl K mg):aq P w K mg base aP (k+1) f fd ["_law_script","_law_k"] (zCt K):=by
 refine yI F j_ (λ_=>rfl) (λ_=>rfl) λcdv A outer s H E hr=>?_
 have nd:=j_.nd
 refine⟨_,(zB (yO (yB Ef (pv 1) (zP (vA K) rfl B.len aa8 (zA (pv 0) zI)) (aH _)) (zB (zS (yM (aQ K) (pv 0) (pv 1) (λ_ _=>rfl))) zH) zH) (zB (zS zL) zH)),?_⟩
 rintro Fa ⟨q0,q1,⟨⟩⟩
 exact SB.of (wH (yA (md:=.hp) (Jy (zE 1 rfl) (zSg (zD 0 rfl)))) (zW (esc (Mv (zD 0 rfl) (zE 1 rfl)))) (zW (esc (zK 0)))) (by unfold xX;simp only[bnd])
def Vb(q0:Int):Option Bool:=if true=true then some (!false) else some false
theorem n_:ak ["_law_found"] ["_law_found"] (zJ lC):=fsc
abbrev zKw(K:PySem.W.Frag):Sp:=cu K false (λa:Int×Unit=>([.z a.1]:SL K)) (λa=>Vb a.1)
theorem zOw(F:aW K "_law_whole" "_law_whole" lC f fd)(B:Bl K mg):aq P w K mg base aP (k+1) f fd ["_law_found"] (zKw K):=by
 refine yI F n_ (λ_=>rfl) (λ_=>rfl) λcdv A outer s H E hr=>?_
 have nd:=n_.nd
 refine⟨_,(zB (zS (RD (zP (xM K (Cg (n:="int"))) rfl B.jt xN (zA (pv 0) (zA (Bp (v:=.ty "int") rfl B.int Zq rfl) zI))) (VR (zWf (zP (xM K (Cg (n:="bool"))) rfl B.jt xN (zA (pv 0) (zA (Bp (v:=.ty "bool") rfl B.bool Zr rfl) zI))))))) zH),?_⟩
 rintro Fa ⟨q0,⟨⟩⟩
 exact SB.of (zW (esc (S8 (Cu B.ii rfl (zE 0 rfl)) (zWo (Cu B.ib rfl (zE 0 rfl)))))) (by unfold Vb;simp only[bnd])
def uE(q0:Int)(q1:Int):Option Int:=((((((mulM (2:Int) q1).bind λb2=>some ((48271:Int)+b2)).bind λb3=>mulM q0 b3).bind λa4=>(mulM (7919:Int) q1).bind λb5=>some (a4+b5)).bind λa6=>some (a6+(5:Int))).bind λa7=>cI a7 (99991:Int)).bind λO9=>(mulM O9 ((O9+(3:Int))+q1)).bind λa8=>cI a8 (99989:Int)
theorem rZ:ak ["_law_cell","_law_k","_law_one"] ["_law_cell","_law_k"] (zJ qz):=fsc
abbrev Xr(K:PySem.W.Frag):Sp:=cu K false (λa:Int×Int×Unit=>([.z a.1,.z a.2.1]:SL K)) (λa=>uE a.1 a.2.1)
theorem zUr(F:aW K "_law_mix" "_law_mix" qz f fd)(B:Bl K mg):aq P w K mg base aP (k+1) f fd ["_law_cell","_law_k"] (Xr K):=by
 refine yI F rZ (λ_=>rfl) (λ_=>rfl) λcdv A outer s H E hr=>?_
 have nd:=rZ.nd
 refine⟨_,(zB (yP 2 nd (yD wR (yD wD (yD wD (yD K8 (pv 0) (yD wD zL (yD K8 zL (pv 1)))) (yD K8 zL (pv 1))) zL) zL)) (zB (zS (yD wR (yD K8 (pv 2) (yD wD (yD wD (pv 2) zL) (pv 1))) zL)) zH)),?_⟩
 rintro Fa ⟨q0,q1,⟨⟩⟩
 exact SB.of (zO (yE true 2 rfl rfl (esc (wT (wF (wF (Mt (zE 0 rfl) (wF (zK 48271) (Mt (zK 2) (zE 1 rfl)))) (Mt (zK 7919) (zE 1 rfl))) (zK 5)) (zK 99991)))) (λO9=>(zW (esc (wT (Mt (zE 2 rfl) (wF (wF (zE 2 rfl) (zK 3)) (zE 1 rfl))) (zK 99989)))))) (by unfold uE;simp only[bnd])
def uM(q0:yx)(q1:Int):Option (List LI):=(some (([]:List LI))).bind λtY=>((vE q1).bind λxs=>xK (λ(s2:List LI) (x4:Int)=>(((((cI x4 (max (1:Int) ((q0.ns.length:Int)-(4:Int)))).bind λb6=>some ((4:Int)+b6)).bind λa8=>some ((a8,()))).bind λb9=>some (q0,b9)).bind λz7=>xX z7.1 z7.2.1).bind λi_=>(some ([]:LI)).bind λDq=>(((((uE i_ x4).bind λa14=>cI a14 (3:Int)).bind λO6=>some ((1:Int)+O6)).bind λa16=>vE a16).bind λxs=>xK (λ(cF:LI) (sH:Int)=>(((((((mulM (70:Int) sH).bind λHN=>some (x4+HN)).bind λa19=>some (a19+(70:Int))).bind λa21=>some ((a21,()))).bind λOD=>some (i_+sH,OD)).bind λE_=>uE E_.1 E_.2.1).bind λa23=>cI a23 q1).bind λqK=>((((uE i_ (((300:Int)+x4)+sH)).bind λa24=>cI a24 (3:Int)).bind λa25=>some (decide (a25=(0:Int)))).bind λb=>if b=true then(cI (x4+(1:Int)) q1).bind λqL=>some qL else some qK).bind λVc=>(if(!decide (Vc∈cF))=true then(push cF Vc).bind λDr=>some Dr else some cF).bind λVa=>some Va) xs Dq).bind λs12=>(push s2 s12).bind λqM=>some qM) xs tY).bind λs3=>some s3
theorem jJ:ak ["_law_script","_law_many","_law_steps","_law_stand","_law_cell","_law_row","_law_k","_law_other"] ["_law_script","_law_many"] (zJ gC):=fsc
abbrev zEe(K:PySem.W.Frag):Sp:=cu K false (λa:yx×Int×Unit=>([.z a.1,.z a.2.1]:SL K)) (λa=>uM a.1 a.2.1)
theorem zH7(F:aW K "_law_steps_by" "_law_steps_by" gC f fd)(B:Bl K mg)(O_:mg "max" = none)(aX:bH P w K mg base k "_law_cell_at" ["_law_script","_law_k"] (zCt K))(bQ:bH P w K mg base k "_law_mix" ["_law_cell","_law_k"] (Xr K)):aq P w K mg base aP (k+1) f fd ["_law_script","_law_many"] (zEe K):=by
 refine yI F jJ (λ_=>rfl) (λ_=>rfl) λcdv A outer s H E hr=>?_
 have nd:=jJ.nd
 refine⟨_,(zB (yP 2 nd (wV zI)) (zB (yZ aay rfl (xG rfl B.range (zA (pv 1) zI)) (bC 3 nd) (zB (yP 4 nd (yC aX hr (zA (pv 0) (zA (yD wD zL (yD wR (pv 3) (zP (zS0 rfl) rfl O_ Mz (zA zL (zA (yD Yp (zP (vA K) rfl B.len aa8 (zA (pv 0) zI)) zL) zI))))) zI)))) (zB (yP 5 nd (wV zI)) (zB (yZ aay rfl (xG rfl B.range (zA (yD wD zL (yD wR (yC bQ hr (zA (pv 4) (zA (pv 3) zI))) zL)) zI)) (bC 6 nd) (zB (yP 7 nd (yD wR (yC bQ hr (zA (yD wD (pv 4) (pv 6)) (zA (yD wD (yD wD (pv 3) (yD K8 zL (pv 6))) zL) zI))) (pv 1))) (zB (yO (yB (uP K Int hr) (yD wR (yC bQ hr (zA (pv 4) (zA (yD wD (yD wD zL (pv 3)) (pv 6)) zI))) zL) zL (aH _)) (zB (yP 7 nd (yD wR (yD wD (pv 3) zL) (pv 1))) zH) zH) (zB (yO (yB (Qw K) (pv 7) (pv 5) (by with_unfolding_all rfl)) (zB (yJ (v7 K aa7 aa9 abb wE (pv 5) (zA (pv 7) zI))) zH) zH) zH)))) (zB (yJ (v7 K aa7 aa9 abb wE (pv 2) (zA (pv 5) zI))) zH))))) (zB (zS (pv 2)) zH))),?_⟩
 rintro Fa ⟨q0,q1,⟨⟩⟩
 exact SB.of (zO (uK true 2 rfl rfl (uS (α:=LI))) (λtY=>(zO (wL (n:=true) (L:=(λs2:List LI=>([.z q0,.z q1,.ow true s2,.un,.un,.un,.un,.un]:SL K))) tY aK (xZ (zE 1 rfl)) (λs2=>(zY 3 rfl rfl)) (λs2 x4=>(zN (yE true 4 rfl rfl (esc (zM (zF (zD 0 rfl) (zF (esc (wF (zK 4) (wT (zE 3 rfl) (Gz (zK 1) (Zm (zSg (zD 0 rfl)) (zK 4)))))) zQ))))) (λi_=>(zN (uK true 5 rfl rfl (uS (α:=Int))) (λDq=>(zN (wL (n:=true) (L:=(λcF:LI=>([.z q0,.z q1,.ow true s2,.y x4,.y i_,.ow true cF,.un,.un]:SL K))) Dq aK (xZ (wF (zK 1) (wT (zM (zF (esc (zE 4 rfl)) (zF (esc (zE 3 rfl)) zQ))) (zK 3)))) (λcF=>(zY 6 rfl rfl)) (λcF sH=>(zN (yE true 7 rfl rfl (esc (wT (zM (zF (esc (wF (zE 4 rfl) (zE 6 rfl))) (zF (esc (wF (wF (zE 3 rfl) (Mt (zK 70) (zE 6 rfl))) (zK 70))) zQ))) (zE 1 rfl)))) (λqK=>(zN (vH (yA (md:=.hp) (uQ (wT (zM (zF (esc (zE 4 rfl)) (zF (esc (wF (wF (zK 300) (zE 3 rfl)) (zE 6 rfl))) zQ))) (zK 3)) (zK 0))) (zN (yE true 7 rfl rfl (esc (wT (wF (zE 3 rfl) (zK 1)) (zE 1 rfl)))) (λqL=>(zV (λPa:Int=>([.z q0,.z q1,.ow true s2,.y x4,.y i_,.ow true cF,.y sH,.y Pa]:SL K)) qL aK))) (zV (λPa:Int=>([.z q0,.z q1,.ow true s2,.y x4,.y i_,.ow true cF,.y sH,.y Pa]:SL K)) qK aK)) (λVc=>(zN (vH (yA (md:=.hp) (Qt (zE 7 rfl) (Ck 5 rfl))) (zN (wM 5 rfl rfl (esc (zE 7 rfl))) (λDr=>(zV (λXq:LI=>([.z q0,.z q1,.ow true s2,.y x4,.y i_,.ow true Xq,.y sH,.y Vc]:SL K)) Dr aK))) (zV (λXq:LI=>([.z q0,.z q1,.ow true s2,.y x4,.y i_,.ow true Xq,.y sH,.y Vc]:SL K)) cF aK)) (λVa=>(zV (λcF:LI=>([.z q0,.z q1,.ow true s2,.y x4,.y i_,.ow true cF,.un,.un]:SL K)) Va aK))))))))) (λs12=>(zN (Zw (sl2:=[.z q0,.z q1,.ow true s2,.y x4,.y i_,.y s12,.un,.un]) aK (wM 2 rfl rfl (yN 5 rfl))) (λqM=>(zV (λs2:List LI=>([.z q0,.z q1,.ow true s2,.un,.un,.un,.un,.un]:SL K)) qM aK))))))))))) (λs3=>(Ep 2 rfl rfl))))) (by unfold uM;simp only[bnd])
def Ra(q0:Int)(q1:Int)(q2:Int):Option LI:=(some ([]:LI)).bind λcT=>(gY q0 (216:Int)).bind λkh=>(((cI q0 (2:Int)).bind λa3=>some (decide (a3=(1:Int)))).bind λb=>if b=true then((vE q1).bind λxs=>xK (λ(s6:Int) (x8:Int)=>(gY s6 (6:Int)).bind λDs=>some Ds) xs kh).bind λs7=>some s7 else some kh).bind λs4=>((vE q1).bind λxs=>xK (λ(qN:LI×Int) (x12:Int)=>(uE q0 (x12+(1:Int))).bind λDt=>(((qg (10:Int) (18:Int)).bind λb14=>some (decide (b14<=q0))).bind λb=>if b=true then(some qN.2).bind λDu=>some Du else some Dt).bind λEz=>(((cI Ez (6:Int)).bind λa18=>some (decide (a18<q2))).bind λb=>if b=true then(push qN.1 x12).bind λtZ=>some tZ else some qN.1).bind λwu=>(gY qN.2 (6:Int)).bind λt_=>some (wu,t_)) xs (cT,s4)).bind λcF=>some cF.1
theorem lW:ak ["_law_cell","_law_many","_law_way","_law_some","_law_rest","_law_stand","_law_one"] ["_law_cell","_law_many","_law_way"] (zJ jP):=fsc
abbrev zHe(K:PySem.W.Frag):Sp:=cu K false (λa:Int×Int×Int×Unit=>([.z a.1,.z a.2.1,.z a.2.2.1]:SL K)) (λa=>Ra a.1 a.2.1 a.2.2.1)
theorem zLo(F:aW K "_law_set_by" "_law_set_by" jP f fd)(B:Bl K mg)(bQ:bH P w K mg base k "_law_mix" ["_law_cell","_law_k"] (Xr K)):aq P w K mg base aP (k+1) f fd ["_law_cell","_law_many","_law_way"] (zHe K):=by
 refine yI F lW (λ_=>rfl) (λ_=>rfl) λcdv A outer s H E hr=>?_
 have nd:=lW.nd
 refine⟨_,(zB (yP 3 nd (wV zI)) (zB (yP 4 nd (yD uV (pv 0) zL)) (zB (yO (yB (uP K Int hr) (yD wR (pv 0) zL) zL (aH _)) (zB (yZ aay rfl (xG rfl B.range (zA (pv 1) zI)) (bC 5 nd) (zB (yP 4 nd (yD uV (pv 4) zL)) zH)) zH) zH) (zB (yZ aay rfl (xG rfl B.range (zA (pv 1) zI)) (bC 5 nd) (zB (yP 6 nd (yC bQ hr (zA (pv 0) (zA (yD wD (pv 5) zL) zI)))) (zB (yO (yB Jq (pv 0) (yD Yq zL zL) (aH _)) (zB (yP 6 nd (pv 4)) zH) zH) (zB (yO (yB Ef (yD wR (pv 6) zL) (pv 2) (aH _)) (zB (yJ (v7 K aa7 aa9 abb wE (pv 3) (zA (pv 5) zI))) zH) zH) (zB (yP 4 nd (yD uV (pv 4) zL)) zH))))) (zB (zS (pv 3)) zH))))),?_⟩
 rintro Fa ⟨q0,q1,q2,⟨⟩⟩
 exact SB.of (zO (uK true 3 rfl rfl (uS (α:=Int))) (λcT=>(zO (yE true 4 rfl rfl (esc (Ba (zE 0 rfl) (zK 216)))) (λkh=>(zO (vH (yA (md:=.hp) (uQ (wT (zE 0 rfl) (zK 2)) (zK 1))) (zN (wL (n:=true) (L:=(λs6:Int=>([.z q0,.z q1,.z q2,.ow true cT,.y s6,.un,.un]:SL K))) kh aK (xZ (zE 1 rfl)) (λs6=>(zY 5 rfl rfl)) (λs6 x8=>(zN (yE true 4 rfl rfl (esc (Ba (zE 4 rfl) (zK 6)))) (λDs=>(zV (λs6:Int=>([.z q0,.z q1,.z q2,.ow true cT,.y s6,.un,.un]:SL K)) Ds aK))))) (λs7=>(zV (λs5:Int=>([.z q0,.z q1,.z q2,.ow true cT,.y s5,.un,.un]:SL K)) s7 aK))) (zV (λs5:Int=>([.z q0,.z q1,.z q2,.ow true cT,.y s5,.un,.un]:SL K)) kh aK)) (λs4=>(zO (wL (n:=true) (L:=(λqN:LI×Int=>([.z q0,.z q1,.z q2,.ow true qN.1,.y qN.2,.un,.un]:SL K))) (cT,s4) aK (xZ (zE 1 rfl)) (λqN=>(zY 5 rfl rfl)) (λqN x12=>(zN (yE true 6 rfl rfl (esc (zM (zF (esc (zE 0 rfl)) (zF (esc (wF (zE 5 rfl) (zK 1))) zQ))))) (λDt=>(zN (vH (yA (md:=.hp) (Jz (zE 0 rfl) (Zn (zK 10) (zK 18)))) (zN (yE true 6 rfl rfl (esc (zE 4 rfl))) (λDu=>(zV (λtR:Int=>([.z q0,.z q1,.z q2,.ow true qN.1,.y qN.2,.y x12,.y tR]:SL K)) Du aK))) (zV (λtR:Int=>([.z q0,.z q1,.z q2,.ow true qN.1,.y qN.2,.y x12,.y tR]:SL K)) Dt aK)) (λEz=>(zN (vH (yA (md:=.hp) (Jy (wT (zE 6 rfl) (zK 6)) (zE 2 rfl))) (zN (wM 3 rfl rfl (esc (zE 5 rfl))) (λtZ=>(zV (λAe:LI=>([.z q0,.z q1,.z q2,.ow true Ae,.y qN.2,.y x12,.y Ez]:SL K)) tZ aK))) (zV (λAe:LI=>([.z q0,.z q1,.z q2,.ow true Ae,.y qN.2,.y x12,.y Ez]:SL K)) qN.1 aK)) (λwu=>(zN (yE true 4 rfl rfl (esc (Ba (zE 4 rfl) (zK 6)))) (λt_=>(zV (λqN:LI×Int=>([.z q0,.z q1,.z q2,.ow true qN.1,.y qN.2,.un,.un]:SL K)) (wu,t_) aK))))))))))) (λcF=>(Ep 3 rfl rfl))))))))) (by unfold Ra;simp only[bnd])
def Vd(q0:Int)(q1:Int):Option (List LI):=(some (([]:List LI))).bind λDv=>(gY q0 (4:Int)).bind λkh=>(((cI q0 (4:Int)).bind λa6=>vE a6).bind λxs=>xK (λ(s3:Int×(List LI)) (x5:Int)=>(some ([]:LI)).bind λDw=>(((uE q0 ((400:Int)+x5)).bind λa9=>cI a9 (5:Int)).bind λb10=>aO ([(1:Int),(2:Int),(2:Int),(3:Int),(6:Int)]) b10).bind λmF=>((vE q1).bind λxs=>xK (λ(cF:LI×Int) (sH:Int)=>(((((((((mulM (61:Int) x5).bind λO6=>some ((500:Int)+O6)).bind λa16=>some (a16+sH)).bind λa18=>some ((a18,()))).bind λO7=>some (q0,O7)).bind λz17=>uE z17.1 z17.2.1).bind λa20=>cI a20 (6:Int)).bind λa21=>some (decide (a21<mF))).bind λa22=>some (if a22=true then(1:Int) else 0)).bind λDy=>(((qg (10:Int) (18:Int)).bind λHW=>some (decide (HW<=q0))).bind λb=>if b=true then(cI cF.2 (2:Int)).bind λDz=>some Dz else some Dy).bind λKc=>(if(decide (Kc=(1:Int)))=true then(push cF.1 sH).bind λuc=>some uc else some cF.1).bind λPa=>(gY cF.2 (2:Int)).bind λud=>some (Pa,ud)) xs (Dw,s3.1)).bind λs12=>((if(decide (s12.1=([]:LI)))=true then((qg (10:Int) (18:Int)).bind λU8=>some (decide (q0<U8))).bind λc34=>if c34=true then((uE q0 ((450:Int)+x5)).bind λa32=>cI a32 (8:Int)).bind λa33=>some (decide ((0:Int)<a33)) else some false else some false).bind λb=>if b=true then(((uE q0 ((460:Int)+x5)).bind λa38=>cI a38 q1).bind λa39=>some (a39::([]))).bind λug=>some ug else some s12.1).bind λs35=>(push s3.2 s35).bind λuh=>some (s12.2,uh)) xs (kh,Dv)).bind λs4=>some s4.2
theorem kj:ak ["_law_cell","_law_many","_law_fair","_law_rest","_law_k","_law_some","_law_way","_law_stand","_law_one"] ["_law_cell","_law_many"] (zJ iJ):=fsc
abbrev zGe(K:PySem.W.Frag):Sp:=cu K false (λa:Int×Int×Unit=>([.z a.1,.z a.2.1]:SL K)) (λa=>Vd a.1 a.2.1)
theorem zJu(F:aW K "_law_fair_by" "_law_fair_by" iJ f fd)(B:Bl K mg)(bQ:bH P w K mg base k "_law_mix" ["_law_cell","_law_k"] (Xr K)):aq P w K mg base aP (k+1) f fd ["_law_cell","_law_many"] (zGe K):=by
 refine yI F kj (λ_=>rfl) (λ_=>rfl) λcdv A outer s H E hr=>?_
 have nd:=kj.nd
 refine⟨_,(zB (yP 2 nd (wV zI)) (zB (yP 3 nd (yD uV (pv 0) zL)) (zB (yZ aay rfl (xG rfl B.range (zA (yD wR (pv 0) zL) zI)) (bC 4 nd) (zB (yP 5 nd (wV zI)) (zB (yP 6 nd (yM (aQ K) (wV (zA zL (zA zL (zA zL (zA zL (zA zL zI)))))) (yD wR (yC bQ hr (zA (pv 0) (zA (yD wD zL (pv 4)) zI))) zL) (λ_ _=>rfl))) (zB (yZ aay rfl (xG rfl B.range (zA (pv 1) zI)) (bC 7 nd) (zB (yP 8 nd (vQ zS2 rfl B.int Zq (zA (Ql Ef (yD wR (yC bQ hr (zA (pv 0) (zA (yD wD (yD wD zL (yD K8 zL (pv 4))) (pv 7)) zI))) zL) (pv 6) (aH _)) zI))) (zB (yO (yB Jq (pv 0) (yD Yq zL zL) (aH _)) (zB (yP 8 nd (yD wR (pv 3) zL)) zH) zH) (zB (yO (yB (uP K Int hr) (pv 8) zL (aH _)) (zB (yJ (v7 K aa7 aa9 abb wE (pv 5) (zA (pv 7) zI))) zH) zH) (zB (yP 3 nd (yD uV (pv 3) zL)) zH))))) (zB (yO (PW.pt (pw_and (yB (uP K LI hr) (pv 5) (wV zI) (aH _)) (pw_and (yB Ef (pv 0) (yD Yq zL zL) (aH _)) (pw_and1 (yB Lb (yD wR (yC bQ hr (zA (pv 0) (zA (yD wD zL (pv 4)) zI))) zL) zL (aH _)))))) (zB (yP 5 nd (wV (zA (yD wR (yC bQ hr (zA (pv 0) (zA (yD wD zL (pv 4)) zI))) (pv 1)) zI))) zH) zH) (zB (yJ (v7 K aa7 aa9 abb wE (pv 2) (zA (pv 5) zI))) zH)))))) (zB (zS (pv 2)) zH)))),?_⟩
 rintro Fa ⟨q0,q1,⟨⟩⟩
 exact SB.of (zO (uK true 2 rfl rfl (uS (α:=LI))) (λDv=>(zO (yE true 3 rfl rfl (esc (Ba (zE 0 rfl) (zK 4)))) (λkh=>(zO (wL (n:=true) (L:=(λs3:Int×(List LI)=>([.z q0,.z q1,.ow true s3.2,.y s3.1,.un,.un,.un,.un,.un]:SL K))) (kh,Dv) aK (xZ (wT (zE 0 rfl) (zK 4))) (λs3=>(zY 4 rfl rfl)) (λs3 x5=>(zN (uK true 5 rfl rfl (uS (α:=Int))) (λDw=>(zN (yE true 6 rfl rfl (esc (esc (xA (Tc (vZ (esc (zK 1)) (vZ (esc (zK 2)) (vZ (esc (zK 2)) (vZ (esc (zK 3)) (vZ (esc (zK 6)) S_))))) (λa h=>aa4 ((v9 (v9 (v9 (v9 (v9 TJ))))) a h) (by decide))).ex (wT (zM (zF (esc (zE 0 rfl)) (zF (esc (wF (zK 400) (zE 4 rfl))) zQ))) (zK 5)))))) (λmF=>(zN (wL (n:=true) (L:=(λcF:LI×Int=>([.z q0,.z q1,.ow true s3.2,.y cF.2,.y x5,.ow true cF.1,.y mF,.un,.un]:SL K))) (Dw,s3.1) aK (xZ (zE 1 rfl)) (λcF=>(zY 7 rfl rfl)) (λcF sH=>(zN (yE true 8 rfl rfl (esc (G4 (Jy (wT (zM (zF (esc (zE 0 rfl)) (zF (esc (wF (wF (zK 500) (Mt (zK 61) (zE 4 rfl))) (zE 7 rfl))) zQ))) (zK 6)) (zE 6 rfl))))) (λDy=>(zN (vH (yA (md:=.hp) (Jz (zE 0 rfl) (Zn (zK 10) (zK 18)))) (zN (yE true 8 rfl rfl (esc (wT (zE 3 rfl) (zK 2)))) (λDz=>(zV (λPb:Int=>([.z q0,.z q1,.ow true s3.2,.y cF.2,.y x5,.ow true cF.1,.y mF,.y sH,.y Pb]:SL K)) Dz aK))) (zV (λPb:Int=>([.z q0,.z q1,.ow true s3.2,.y cF.2,.y x5,.ow true cF.1,.y mF,.y sH,.y Pb]:SL K)) Dy aK)) (λKc=>(zN (vH (yA (md:=.hp) (uQ (zE 8 rfl) (zK 1))) (zN (wM 5 rfl rfl (esc (zE 7 rfl))) (λuc=>(zV (λs28:LI=>([.z q0,.z q1,.ow true s3.2,.y cF.2,.y x5,.ow true s28,.y mF,.y sH,.y Kc]:SL K)) uc aK))) (zV (λs28:LI=>([.z q0,.z q1,.ow true s3.2,.y cF.2,.y x5,.ow true s28,.y mF,.y sH,.y Kc]:SL K)) cF.1 aK)) (λPa=>(zN (yE true 3 rfl rfl (esc (Ba (zE 3 rfl) (zK 2)))) (λud=>(zV (λcF:LI×Int=>([.z q0,.z q1,.ow true s3.2,.y cF.2,.y x5,.ow true cF.1,.y mF,.un,.un]:SL K)) (Pa,ud) aK))))))))))) (λs12=>(zN (vH (Qo (yA (md:=.hp) (uQ (Ck 5 rfl) (uS (α:=Int)).ex)) (Qo (yA (md:=.hp) (Jy (zE 0 rfl) (Zn (zK 10) (zK 18)))) (yA (md:=.hp) (Ms (wT (zM (zF (esc (zE 0 rfl)) (zF (esc (wF (zK 450) (zE 4 rfl))) zQ))) (zK 8)) (zK 0))))) (zN (Zw (sl2:=[.z q0,.z q1,.ow true s3.2,.y s12.2,.y x5,.un,.y mF,.un,.un]) aK (uK true 5 rfl rfl (Tc (vZ (esc (wT (zM (zF (esc (zE 0 rfl)) (zF (esc (wF (zK 460) (zE 4 rfl))) zQ))) (zE 1 rfl))) S_) (λa h=>aa4 ((v9 TJ) a h) (by decide))))) (λug=>(zV (λs36:LI=>([.z q0,.z q1,.ow true s3.2,.y s12.2,.y x5,.ow true s36,.y mF,.un,.un]:SL K)) ug aK))) (zV (λs36:LI=>([.z q0,.z q1,.ow true s3.2,.y s12.2,.y x5,.ow true s36,.y mF,.un,.un]:SL K)) s12.1 aK)) (λs35=>(zN (Zw (sl2:=[.z q0,.z q1,.ow true s3.2,.y s12.2,.y x5,.y s35,.y mF,.un,.un]) aK (wM 2 rfl rfl (yN 5 rfl))) (λuh=>(zV (λs3:Int×(List LI)=>([.z q0,.z q1,.ow true s3.2,.y s3.1,.un,.un,.un,.un,.un]:SL K)) (s12.2,uh) aK))))))))))))) (λs4=>(Ep 2 rfl rfl))))))) (by unfold Vd;simp only[bnd])
def uN(q0:Int):Option Int:=((cI q0 (8:Int)).bind λa1=>some (decide (a1=(5:Int)))).bind λb=>if b=true then((gY q0 (8:Int)).bind λa2=>cI a2 (12:Int)).bind λb3=>some ((1:Int)+b3) else((gY q0 (8:Int)).bind λa4=>cI a4 (8:Int)).bind λb5=>some ((1:Int)+b5)
theorem jK:ak ["_law_cell"] ["_law_cell"] (zJ gD):=fsc
abbrev zEf(K:PySem.W.Frag):Sp:=cu K false (λa:Int×Unit=>([.z a.1]:SL K)) (λa=>uN a.1)
theorem zH8(F:aW K "_law_small_by" "_law_small_by" gD f fd)(B:Bl K mg):aq P w K mg base aP (k+1) f fd ["_law_cell"] (zEf K):=by
 refine yI F jK (λ_=>rfl) (λ_=>rfl) λcdv A outer s H E hr=>?_
 have nd:=jK.nd
 refine⟨_,(zB (yO (yB (uP K Int hr) (yD wR (pv 0) zL) zL (aH _)) (zB (zS (yD wD zL (yD wR (yD uV (pv 0) zL) zL))) zH) zH) (zB (zS (yD wD zL (yD wR (yD uV (pv 0) zL) zL))) zH)),?_⟩
 rintro Fa ⟨q0,⟨⟩⟩
 exact SB.of (wH (yA (md:=.hp) (uQ (wT (zE 0 rfl) (zK 8)) (zK 5))) (zW (esc (wF (zK 1) (wT (Ba (zE 0 rfl) (zK 8)) (zK 12))))) (zW (esc (wF (zK 1) (wT (Ba (zE 0 rfl) (zK 8)) (zK 8)))))) (by unfold uN;simp only[bnd])
def Rb(q0:List LI)(q1:LI)(q2:Int):Option (Dc Bool):=(some [((abm q2:Key),true)]).bind λuo=>(some ([q2])).bind λoh=>(Gn (λs3:(List (Key×Bool))×LI=>some (!decide (s3.2=([]:LI)))) (λs3:(List (Key×Bool))×LI=>((s3.2.getLast?.bind λy=>aO q0 y).bind λxs=>xK (λ(s5:(List (Key×Bool))×LI) (x7:Int)=>((if(decide (x7∈q1))=true then some (!(dO (Dc.mk s5.1).kv x7).isSome) else some false).bind λb=>if b=true then(dput s5.1 x7 true).bind λqO=>(push s5.2 x7).bind λlJ=>some (qO,lJ) else some (s5.1,s5.2)).bind λs8=>some (s8.1,s8.2)) xs (s3.1,s3.2.dropLast)).bind λs6=>some (s6.1,s6.2)) fuel (uo,oh)).bind λs4=>some (Dc.mk s4.1)
theorem ou:ak ["_law_steps","_law_keys","_law_stand","_law_found","_law_waiting","_law_other"] ["_law_steps","_law_keys","_law_stand"] (zJ lD):=fsc
abbrev zKx(K:PySem.W.Frag):Sp:=cu K false (λa:((List LI))×LI×Int×Unit=>([.z a.1,.z a.2.1,.z a.2.2.1]:SL K)) (λa=>Rb a.1 a.2.1 a.2.2.1)
theorem zOx(F:aW K "_law_reach" "_law_reach" lD f fd)(B:Bl K mg):aq P w K mg base aP (k+1) f fd ["_law_steps","_law_keys","_law_stand"] (zKx K):=by
 refine yI F ou (λ_=>rfl) (λ_=>rfl) λcdv A outer s H E hr=>?_
 have nd:=ou.nd
 have hu:=Sv hr
 refine⟨_,(zB (yP 3 nd (zUl (pv 2) vP)) (zB (yP 4 nd (wV (zA (pv 2) zI))) (zB (zM1 aay (yB (Ti K LI hr) (pv 4) (wV zI) (aH _)) (zB (yZ aay rfl (yK K (yM (aQ K) (pv 0) (Mx K aa7 PySem.F.slot_list_pop PySem.F.type_list_pop LC (pv 4)) (λ_ _=>rfl))) (bC 5 nd) (zB (yO (PW.pt (pw_and (yB (Qv K) (pv 5) (pv 1) (by with_unfolding_all rfl)) (pw_and1 (sI (zJj hu (pv 5) (pv 3)))))) (zB (Wb hu (pv 3) (pv 5) vP rfl) (zB (yJ (v7 K aa7 aa9 abb wE (pv 4) (zA (pv 5) zI))) zH)) zH) zH)) zH)) (zB (zS (pv 3)) zH)))),?_⟩
 rintro Fa ⟨q0,q1,q2,⟨⟩⟩
 exact SB.of (zO (zT3 3 2 rfl rfl rfl) (λuo=>(zO (uK true 4 rfl rfl (Tc (vZ (esc (zE 2 rfl)) S_) (λa h=>aa4 ((v9 TJ) a h) (by decide)))) (λoh=>(zO (zMq (L:=(λs3:(List (Key×Bool))×LI=>([.z q0,.z q1,.z q2,.od (s3.1:List (Key×Bool)),.ow true s3.2,.un]:SL K))) fuel (uo,oh) aK (λs3=>(yA (md:=.hp) (Tj (Ck 4 rfl) (uS (α:=Int)).ex))) (λs3=>(zN (G5 (n:=false) (L:=(λs5:(List (Key×Bool))×LI=>([.z q0,.z q1,.z q2,.od (s5.1:List (Key×Bool)),.ow true s5.2,.un]:SL K))) (s3.1,s3.2.dropLast) (Le.eq (Le.eq (Le.eq (Le.eq (Le.eq (Le.un Le.nil)))))) (zVp 4 rfl rfl (yN 0 rfl)) (λs5=>(zY 5 rfl rfl)) (λs5 x7=>(zN (vH (Qo (yA (md:=.hp) (Ws (zE 5 rfl) (zD 1 rfl))) (aR (md:=.hp) (zKc (zE 5 rfl) (WQ 3 rfl)))) (zN (ZG 3 rfl rfl (esc (vY true)) (zE 5 rfl)) (λqO=>(zN (wM 4 rfl rfl (esc (zE 5 rfl))) (λlJ=>(zV (λs9:(List (Key×Bool))×LI=>([.z q0,.z q1,.z q2,.od (s9.1:List (Key×Bool)),.ow true s9.2,.z x7]:SL K)) (qO,lJ) aK))))) (zV (λs9:(List (Key×Bool))×LI=>([.z q0,.z q1,.z q2,.od (s9.1:List (Key×Bool)),.ow true s9.2,.z x7]:SL K)) (s5.1,s5.2) aK)) (λs8=>(zV (λs5:(List (Key×Bool))×LI=>([.z q0,.z q1,.z q2,.od (s5.1:List (Key×Bool)),.ow true s5.2,.un]:SL K)) (s8.1,s8.2) aK))))) (λs6=>(zV (λs3:(List (Key×Bool))×LI=>([.z q0,.z q1,.z q2,.od (s3.1:List (Key×Bool)),.ow true s3.2,.un]:SL K)) (s6.1,s6.2) aK))))) (λs4=>(GR 3 rfl))))))) (by unfold Rb;simp only[bnd])
def Ve(q0:Int)(q1:Int):Option Str:=(some ("abcdefghijklmnopqrstuvwxyz":Str)).bind λcT=>((cI q0 (8:Int)).bind λb3=>some ((1:Int)+b3)).bind λkE=>(some ("":Str)).bind λDG=>((vE kE).bind λxs=>xK (λ(s5:Str) (x7:Int)=>((gY q0 (64:Int)).bind λa9=>(mulM x7 x7).bind λb10=>some (a9+b10)).bind λXu=>((((gY q0 (8:Int)).bind λa11=>cI a11 kE).bind λOJ=>some (decide (x7=OJ))).bind λb=>if b=true then(some (Xu+q1)).bind λPg=>some Pg else some Xu).bind λoW=>(((cI oW (26:Int)).bind λOz=>QT cT Oz).bind λHN=>rO s5 HN).bind λoE=>some oE) xs DG).bind λs6=>(if(decide (s6∈(["all","not","both","either","somenext","eachnext","sometill","eachtill","someever","eachever"]:List Str)))=true then((CN s6 (1:Int)).bind λa22=>rO a22 ("q":Str)).bind λoF=>some oF else some s6).bind λwu=>some wu
theorem kI:ak ["_law_cell","_law_k","_law_some","_law_size","_law_word","_law_place","_law_at"] ["_law_cell","_law_k"] (zJ iK):=fsc
abbrev zGc(K:PySem.W.Frag):Sp:=cu K false (λa:Int×Int×Unit=>([.z a.1,.z a.2.1]:SL K)) (λa=>Ve a.1 a.2.1)
theorem zJs(F:aW K "_law_word_by" "_law_word_by" iK f fd)(B:Bl K mg):aq P w K mg base aP (k+1) f fd ["_law_cell","_law_k"] (zGc K):=by
 refine yI F kI (λ_=>rfl) (λ_=>rfl) λcdv A outer s H E hr=>?_
 have nd:=kI.nd
 refine⟨_,(zB (yP 2 nd xV) (zB (yP 3 nd (yD wD zL (yD wR (pv 0) zL))) (zB (yP 4 nd xV) (zB (yZ aay rfl (xG rfl B.range (zA (pv 3) zI)) (bC 5 nd) (zB (yP 6 nd (yD wD (yD uV (pv 0) zL) (yD K8 (pv 5) (pv 5)))) (zB (yO (yB (uP K Int hr) (pv 5) (yD wR (yD uV (pv 0) zL) (pv 3)) (aH _)) (zB (yP 6 nd (yD wD (pv 6) (pv 1))) zH) zH) (zB (yP 4 nd (yD zQ9 (pv 4) (N6 (pv 2) (yD wR (pv 6) zL) (λ_ _=>rfl)))) zH)))) (zB (yO (yB (Qv K) (pv 4) (sS (zA xV (zA xV (zA xV (zA xV (zA xV (zA xV (zA xV (zA xV (zA xV (zA xV zI))))))))))) (by with_unfolding_all rfl)) (zB (yP 4 nd (yD zQ9 (zM4 N5 (pv 4) zQz (zQy zL)) xV)) zH) zH) (zB (zS (pv 4)) zH)))))),?_⟩
 rintro Fa ⟨q0,q1,⟨⟩⟩
 exact SB.of (zO (yE true 2 rfl rfl (esc (S7 "abcdefghijklmnopqrstuvwxyz"))) (λcT=>(zO (yE true 3 rfl rfl (esc (wF (zK 1) (wT (zE 0 rfl) (zK 8))))) (λkE=>(zO (yE true 4 rfl rfl (esc (S7 ""))) (λDG=>(zO (wL (n:=true) (L:=(λs5:Str=>([.z q0,.z q1,.y cT,.y kE,.y s5,.un,.un]:SL K))) DG aK (xZ (zE 3 rfl)) (λs5=>(zY 5 rfl rfl)) (λs5 x7=>(zN (yE true 6 rfl rfl (esc (wF (Ba (zE 0 rfl) (zK 64)) (Mt (zE 5 rfl) (zE 5 rfl))))) (λXu=>(zN (vH (yA (md:=.hp) (uQ (zE 5 rfl) (wT (Ba (zE 0 rfl) (zK 8)) (zE 3 rfl)))) (zN (yE true 6 rfl rfl (esc (wF (zE 6 rfl) (zE 1 rfl)))) (λPg=>(zV (λj5:Int=>([.z q0,.z q1,.y cT,.y kE,.y s5,.y x7,.y j5]:SL K)) Pg aK))) (zV (λj5:Int=>([.z q0,.z q1,.y cT,.y kE,.y s5,.y x7,.y j5]:SL K)) Xu aK)) (λoW=>(zN (yE true 4 rfl rfl (esc (zSl (zE 4 rfl) (esc (N7 (zE 2 rfl) (wT (zE 6 rfl) (zK 26))))))) (λoE=>(zV (λs5:Str=>([.z q0,.z q1,.y cT,.y kE,.y s5,.un,.un]:SL K)) oE aK))))))))) (λs6=>(zO (vH (yA (md:=.hp) (zVk (["all","not","both","either","somenext","eachnext","sometill","eachtill","someever","eachever"]:List Str) (by decide) (zE 4 rfl))) (zN (yE true 4 rfl rfl (esc (zSl (esc (Hx (zE 4 rfl) (zK 1))) (S7 "q")))) (λoF=>(zV (λAe:Str=>([.z q0,.z q1,.y cT,.y kE,.y Ae,.un,.un]:SL K)) oF aK))) (zV (λAe:Str=>([.z q0,.z q1,.y cT,.y kE,.y Ae,.un,.un]:SL K)) s6 aK)) (λwu=>(zW (esc (zE 4 rfl))))))))))))) (by unfold Ve;simp only[bnd])
def Vf(q0:List LI)(q1:List LI):Option LI:=(sZ (q0.length:Int)).bind λbO=>((some bO).bind λxs=>yX (λ(x3:Int)=>some true) (λ(x3:Int)=>Rb q0 bO x3) xs).bind λcg=>(some ([]:LI)).bind λuq=>((some bO).bind λxs=>xK (λ(s5:LI) (x7:Int)=>((((aO q0 x7).bind λxs=>yX (λ(x9:Int)=>(aO cg x9).bind λb10=>some ((dO b10.kv x7).isSome)) (λ(x9:Int)=>some x9) xs).bind λa11=>some (a11.length:Int)).bind λa12=>some (decide ((0:Int)<a12))).bind λDK=>((some q1).bind λxs=>xK (λ(oW:Bool) (EY:LI)=>((some EY).bind λxs=>yX (λ(x17:Int)=>(aO cg x7).bind λHN=>some ((dO HN.kv x17).isSome)) (λ(x17:Int)=>some x17) xs).bind λKd=>(if oW=true then(((some Kd).bind λxs=>yX (λ(x20:Int)=>(aO cg x20).bind λb21=>some ((dO b21.kv x7).isSome)) (λ(x20:Int)=>some x20) xs).bind λa22=>some (a22.length:Int)).bind λa23=>some (decide ((0:Int)<a23)) else some false).bind λuw=>some uw) xs DK).bind λj5=>(if j5=true then(push s5 x7).bind λqP=>some qP else some s5).bind λKc=>some Kc) xs uq).bind λs6=>(some bO).bind λxs=>yX (λ(x27:Int)=>(((some s6).bind λxs=>yX (λ(x28:Int)=>(aO cg x27).bind λb29=>some ((dO b29.kv x28).isSome)) (λ(x28:Int)=>some x28) xs).bind λa30=>some (a30.length:Int)).bind λa31=>some (decide ((0:Int)<a31))) (λ(x27:Int)=>some x27) xs
theorem oG:ak ["_law_steps","_law_fair","_law_every","_law_comes","_law_bases","_law_stand","_law_good","_law_some","_law_met"] ["_law_steps","_law_fair"] (zJ lE):=fsc
abbrev zKz(K:PySem.W.Frag):Sp:=cu K false (λa:((List LI))×((List LI))×Unit=>([.z a.1,.z a.2.1]:SL K)) (λa=>Vf a.1 a.2.1)
theorem zOz(F:aW K "_law_alive" "_law_alive" lE f fd)(B:Bl K mg)(lK:bH P w K mg base k "_law_reach" ["_law_steps","_law_keys","_law_stand"] (zKx K)):aq P w K mg base aP (k+1) f fd ["_law_steps","_law_fair"] (zKz K):=by
 refine yI F oG (λ_=>rfl) (λ_=>rfl) λcdv A outer s H E hr=>?_
 have nd:=oG.nd
 have hu:=Sv hr
 refine⟨_,(zB (yP 2 nd (W8 rfl rfl B.list rfl B.range (zA (zP (vA K) rfl B.len aa8 (zA (pv 0) zI)) zI))) (zB (yP 3 nd (wW (own:=["_law_stand"]) (ix:=[0,2]) rfl rfl rfl (yK K (pv 2)) (λC s H fp=>yQ (i:=0) (show(["_law_stand","_law_steps","_law_every"]:List Str).Nodup from by decide +kernel) rfl (Or.inl rfl)) (λC s H fp=>vK) (λC s H fp=>(yC lK hr (zA (pv 1) (zA (pv 2) (zA (pv 0) zI))))))) (zB (yP 4 nd (wV zI)) (zB (yZ aay rfl (yK K (pv 2)) (bC 5 nd) (zB (yP 6 nd (Ql Lb (zP (vA K) rfl B.len aa8 (zA (wW (own:=["_law_other"]) (ix:=[5,3]) rfl rfl rfl (yK K (yM (aQ K) (pv 0) (pv 5) (λ_ _=>rfl))) (λC s H fp=>yQ (i:=0) (show(["_law_other","_law_stand","_law_comes"]:List Str).Nodup from by decide +kernel) rfl (Or.inl rfl)) (λC s H fp=>uU (sI (Qm hu (pv 1) (yM (aQ K) (pv 2) (pv 0) (λ_ _=>rfl))))) (λC s H fp=>(pv 0))) zI)) zL (aH _))) (zB (yZ aay rfl (yK K (pv 1)) (bC 7 nd) (zB (Em (i:=8) (own:=["_law_other"]) (ix:=[3,5]) nd rfl rfl rfl rfl rfl (yK K (pv 7)) (λC s H fp=>yQ (i:=0) (show(["_law_other","_law_comes","_law_stand"]:List Str).Nodup from by decide +kernel) rfl (Or.inl rfl)) (λC s H fp=>uU (sI (Qm hu (pv 0) (yM (aQ K) (pv 1) (pv 2) (λ_ _=>rfl))))) (λC s H fp=>(pv 0))) (zB (yP 6 nd (RD (pv 6) (VR (Ql Lb (zP (vA K) rfl B.len aa8 (zA (wW (own:=["_law_other"]) (ix:=[5,3]) rfl rfl rfl (yK K (pv 8)) (λC s H fp=>yQ (i:=0) (show(["_law_other","_law_stand","_law_comes"]:List Str).Nodup from by decide +kernel) rfl (Or.inl rfl)) (λC s H fp=>uU (sI (Qm hu (pv 1) (yM (aQ K) (pv 2) (pv 0) (λ_ _=>rfl))))) (λC s H fp=>(pv 0))) zI)) zL (aH _))))) zH))) (zB (yO (yW (pv 6)) (zB (yJ (v7 K aa7 aa9 abb wE (pv 4) (zA (pv 5) zI))) zH) zH) zH)))) (zB (zS (wW (own:=["_law_stand"]) (ix:=[4,3]) rfl rfl rfl (yK K (pv 2)) (λC s H fp=>yQ (i:=0) (show(["_law_stand","_law_bases","_law_comes"]:List Str).Nodup from by decide +kernel) rfl (Or.inr rfl)) (λC s H fp=>uU (yB Lb (zP (vA K) rfl B.len aa8 (zA (wW (own:=["_law_base"]) (ix:=[2,0]) rfl rfl rfl (yK K (pv 1)) (λC s H fp=>yQ (i:=0) (show(["_law_base","_law_comes","_law_stand"]:List Str).Nodup from by decide +kernel) rfl (Or.inl rfl)) (λC s H fp=>uU (sI (Qm hu (pv 0) (yM (aQ K) (pv 1) (pv 2) (λ_ _=>rfl))))) (λC s H fp=>(pv 0))) zI)) zL (aH _))) (λC s H fp=>(pv 0)))) zH))))),?_⟩
 rintro Fa ⟨q0,q1,⟨⟩⟩
 exact SB.of (zO (yE true 2 rfl rfl (W_ (uC (zD 0 rfl))).ex) (λbO=>(zO (yE true 3 rfl rfl (xB (n:=true) (jE:=[.un,.z q0,.y bO]) (no:=1) (ix:=[0,2]) rfl rfl (yL (yN 2 rfl)) (zY 0 rfl rfl) (λx3=>v8) (λx3=>(zM (zF (zD 1 rfl) (zF (zD 2 rfl) (zF (esc (zE 0 rfl)) zQ))))) (λx3=>dJ)).ex) (λcg=>(zO (uK true 4 rfl rfl (uS (α:=Int))) (λuq=>(zO (wL (n:=true) (L:=(λs5:LI=>([.z q0,.z q1,.y bO,.y cg,.ow true s5,.un,.un,.un,.un]:SL K))) uq aK (yL (yN 2 rfl)) (λs5=>(zY 5 rfl rfl)) (λs5 x7=>(zN (yE true 6 rfl rfl (esc (Ms (uC (xB (n:=false) (jE:=[.un,.y x7,.y cg]) (no:=1) (ix:=[5,3]) rfl rfl (yL (xA (yN 0 rfl) (zE 5 rfl))) (zY 0 rfl rfl) (λx9=>(aR (md:=.hp) (T4 (zE 1 rfl) (xA (zD 2 rfl) (zE 0 rfl))))) (λx9=>(esc (zE 0 rfl))) (λx9=>dJ)).ex) (zK 0)))) (λDK=>(zN (wL (n:=false) (L:=(λoW:Bool=>([.z q0,.z q1,.y bO,.y cg,.ow true s5,.y x7,.y oW,.un,.un]:SL K))) DK aK (yL (yN 1 rfl)) (λoW=>(zY 7 rfl rfl)) (λoW EY=>(zN (yE true 8 rfl rfl (xB (n:=false) (jE:=[.un,.y cg,.y x7]) (no:=1) (ix:=[3,5]) rfl rfl (yL (yN 7 rfl)) (zY 0 rfl rfl) (λx17=>(aR (md:=.hp) (T4 (zE 0 rfl) (xA (zD 1 rfl) (zE 2 rfl))))) (λx17=>(esc (zE 0 rfl))) (λx17=>dJ)).ex) (λKd=>(zN (yE true 6 rfl rfl (esc (S8 (zE 6 rfl) (Ms (uC (xB (n:=true) (jE:=[.un,.y x7,.y cg]) (no:=1) (ix:=[5,3]) rfl rfl (yL (yN 8 rfl)) (zY 0 rfl rfl) (λx20=>(aR (md:=.hp) (T4 (zE 1 rfl) (xA (zD 2 rfl) (zE 0 rfl))))) (λx20=>(esc (zE 0 rfl))) (λx20=>dJ)).ex) (zK 0))))) (λuw=>(zV (λoW:Bool=>([.z q0,.z q1,.y bO,.y cg,.ow true s5,.y x7,.y oW,.un,.un]:SL K)) uw aK))))))) (λj5=>(zN (vH (aR (md:=.hp) (zE 6 rfl)) (zN (wM 4 rfl rfl (esc (zE 5 rfl))) (λqP=>(zV (λPb:LI=>([.z q0,.z q1,.y bO,.y cg,.ow true Pb,.y x7,.y j5,.un,.un]:SL K)) qP aK))) (zV (λPb:LI=>([.z q0,.z q1,.y bO,.y cg,.ow true Pb,.y x7,.y j5,.un,.un]:SL K)) s5 aK)) (λKc=>(zV (λs5:LI=>([.z q0,.z q1,.y bO,.y cg,.ow true s5,.un,.un,.un,.un]:SL K)) Kc aK))))))))) (λs6=>(MN (sl2:=[.z q0,.z q1,.y bO,.y cg,.y s6,.un,.un,.un,.un]) aK (zW (xB (n:=true) (jE:=[.un,.y s6,.y cg]) (no:=1) (ix:=[4,3]) rfl rfl (yL (yN 2 rfl)) (zY 0 rfl rfl) (λx27=>(yA (md:=.hp) (Ms (uC (xB (n:=true) (jE:=[.un,.y cg,.y x27]) (no:=1) (ix:=[2,0]) rfl rfl (yL (yN 1 rfl)) (zY 0 rfl rfl) (λx28=>(aR (md:=.hp) (T4 (zE 0 rfl) (xA (zD 1 rfl) (zE 2 rfl))))) (λx28=>(esc (zE 0 rfl))) (λx28=>dJ)).ex) (zK 0)))) (λx27=>(esc (zE 0 rfl))) (λx27=>dJ)).ex)))))))))) (by unfold Vf;simp only[bnd])
def wY(cl:Hd->Addr)(q0:Int)(q1:List Str)(q2:List LI)(q3:Int):Option ((bh cl)×LI):=(sZ q3).bind λbO=>(cI q0 (9:Int)).bind λAf=>if(decide (Af=(0:Int)))=true then some (((bh.mk .all:bh cl),bO)) else if(decide (Af=(7:Int)))=true then((aO q1 (2:Int)).bind λa3=>some ((bh.mk (.mark a3):bh cl))).bind λa4=>some ((a4,([]:LI))) else if(decide (Af=(8:Int)))=true then(((aO q1 (2:Int)).bind λa5=>some ((bh.mk (.mark a5):bh cl))).bind λa6=>some ((bh.mk (.one 0 a6.t):bh cl))).bind λa7=>some (a7,bO) else(cI Af (2:Int)).bind λAg=>if(decide (Af<(5:Int)))=true then((aO q1 Ag).bind λa9=>some ((bh.mk (.mark a9):bh cl))).bind λa10=>(aO q2 Ag).bind λb11=>some (a10,b11) else(((aO q1 Ag).bind λa12=>some ((bh.mk (.mark a12):bh cl))).bind λa13=>some ((bh.mk (.one 0 a13.t):bh cl))).bind λa16=>((some bO).bind λxs=>yX (λ(wz:Int)=>(aO q2 Ag).bind λO6=>some (!decide (wz∈O6))) (λ(wz:Int)=>some wz) xs).bind λOz=>some (a16,Oz)
theorem kJ:ak ["_law_cell","_law_names","_law_sets","_law_many","_law_every","_law_way","_law_one"] ["_law_cell","_law_names","_law_sets","_law_many"] (zJ iQ):=fsc
abbrev zGd(K:PySem.W.Frag)(cl:Hd->Addr):Sp:=cu K false (λa:Int×(List Str)×((List LI))×Int×Unit=>([.z a.1,.z a.2.1,.z a.2.2.1,.z a.2.2.2.1]:SL K)) (λa=>wY cl a.1 a.2.1 a.2.2.1 a.2.2.2.1)
theorem zJt(F:aW K "_law_part_by" "_law_part_by" iQ f fd)(B:Bl K mg)(I:mq P w K mg base kS cl fi di)(hS:kS+1<=k):aq P w K mg base aP (k+1) f fd ["_law_cell","_law_names","_law_sets","_law_many"] (zGd K cl):=by
 refine yI F kJ (λ_=>rfl) (λ_=>rfl) λcdv A outer s H E hr=>?_
 have nd:=kJ.nd
 refine⟨_,(zB (yP 4 nd (W8 rfl rfl B.list rfl B.range (zA (pv 3) zI))) (zB (yP 5 nd (yD wR (pv 0) zL)) (zB (yO (yB (uP K Int hr) (pv 5) zL (aH _)) (zB (zS (sS (zA (zUk (I.ini.made .all) I.ini.iA (hr.mono hS) rfl I.ini.mA I.ini.bA .nil vR) (zA (pv 4) zI)))) zH) zH) (zB (yO (yB (uP K Int hr) (pv 5) zL (aH _)) (zB (zS (sS (zA (Ej (I.ini.made .mark) I.ini.iM (hr.mono hS) rfl I.ini.mM I.ini.bM .nil vR (zA (yM (aQ K) (pv 1) zL (λ_ _=>rfl)) zI)) (zA (wV zI) zI)))) zH) zH) (zB (yO (yB (uP K Int hr) (pv 5) zL (aH _)) (zB (zS (sS (zA (Ej (I.ini.made (.one 0)) (I.ini.i1 0) (hr.mono hS) rfl (I.ini.m1 0) (I.ini.b1 0) .nil vR (zA (Ej (I.ini.made .mark) I.ini.iM (hr.mono hS) rfl I.ini.mM I.ini.bM .nil vR (zA (yM (aQ K) (pv 1) zL (λ_ _=>rfl)) zI)) zI)) (zA (pv 4) zI)))) zH) zH) (zB (yP 6 nd (yD wR (pv 5) zL)) (zB (yO (yB Ef (pv 5) zL (aH _)) (zB (zS (sS (zA (Ej (I.ini.made .mark) I.ini.iM (hr.mono hS) rfl I.ini.mM I.ini.bM .nil vR (zA (yM (aQ K) (pv 1) (pv 6) (λ_ _=>rfl)) zI)) (zA (vQ (JF K) rfl B.list Es (zA (yM (aQ K) (pv 2) (pv 6) (λ_ _=>rfl)) zI)) zI)))) zH) zH) (zB (zS (sS (zA (Ej (I.ini.made (.one 0)) (I.ini.i1 0) (hr.mono hS) rfl (I.ini.m1 0) (I.ini.b1 0) .nil vR (zA (Ej (I.ini.made .mark) I.ini.iM (hr.mono hS) rfl I.ini.mM I.ini.bM .nil vR (zA (yM (aQ K) (pv 1) (pv 6) (λ_ _=>rfl)) zI)) zI)) (zA (wW (own:=["_law_stand"]) (ix:=[2,6]) rfl rfl rfl (yK K (pv 4)) (λC s H fp=>yQ (i:=0) (show(["_law_stand","_law_sets","_law_one"]:List Str).Nodup from by decide +kernel) rfl (Or.inl rfl)) (λC s H fp=>uU (yB (Qw K) (pv 0) (yM (aQ K) (pv 1) (pv 2) (λ_ _=>rfl)) (by with_unfolding_all rfl))) (λC s H fp=>(pv 0))) zI)))) zH)))))))),?_⟩
 rintro Fa ⟨q0,q1,q2,q3,⟨⟩⟩
 exact SB.of (zO (yE true 4 rfl rfl (W_ (zE 3 rfl)).ex) (λbO=>(zO (yE true 5 rfl rfl (esc (wT (zE 0 rfl) (zK 9)))) (λAf=>(wH (yA (md:=.hp) (uQ (zE 5 rfl) (zK 0))) (zW (Mi (Ht (cl:=cl)) (yN 4 rfl))) (wH (yA (md:=.hp) (uQ (zE 5 rfl) (zK 7))) (zW (Mi (Xh (cl:=cl) (esc (esc (xA (zD 1 rfl) (zK 2))))) (uS (α:=Int)).ex)) (wH (yA (md:=.hp) (uQ (zE 5 rfl) (zK 8))) (zW (Mi (Xi 0 (Xh (cl:=cl) (esc (esc (xA (zD 1 rfl) (zK 2)))))) (yN 4 rfl))) (zO (yE true 6 rfl rfl (esc (wT (zE 5 rfl) (zK 2)))) (λAg=>(wH (yA (md:=.hp) (Jy (zE 5 rfl) (zK 5))) (zW (Mi (Xh (cl:=cl) (esc (esc (xA (zD 1 rfl) (zE 6 rfl))))) (JC (xA (zD 2 rfl) (zE 6 rfl))).ex)) (zW (Mi (Xi 0 (Xh (cl:=cl) (esc (esc (xA (zD 1 rfl) (zE 6 rfl)))))) (xB (n:=true) (jE:=[.un,.z q2,.y Ag]) (no:=1) (ix:=[2,6]) rfl rfl (yL (yN 4 rfl)) (zY 0 rfl rfl) (λwz=>(yA (md:=.hp) (Qt (zE 0 rfl) (xA (zD 1 rfl) (zE 2 rfl))))) (λwz=>(esc (zE 0 rfl))) (λwz=>dJ)).ex)))))))))))) (by unfold wY;simp only[bnd])
def Vg(q0:List (Bool×cO))(q1:Int):Option Bool:=(if(!true)=true then some true else some (!decide ((q0.length:Int)=q1))).bind λb=>if b=true then some false else((some q0).bind λxs=>uB (λ(s1:Unit) (x3:Bool×cO)=>(if(!true)=true then some true else if(!decide ((2:Int)=(2:Int)))=true then some true else some (!true)).bind λb=>if b=true then(some false).bind λb=>some (.rt b) else(if(!true)=true then some true else if(decide (x3.2.len<(1:Int)))=true then some true else some (!true)).bind λb=>if b=true then(some false).bind λb=>some (.rt b) else some (.nx ())) xs ()).bind λo=>o.els λs2=>some true
theorem oH:ak ["_law_found","_law_many","_law_pair"] ["_law_found","_law_many"] (zJ lF):=fsc
abbrev zKy(K:PySem.W.Frag):Sp:=cu K false (λa:((List (Bool×cO)))×Int×Unit=>([.z a.1,.z a.2.1]:SL K)) (λa=>Vg a.1 a.2.1)
theorem zOy(F:aW K "_law_pairs" "_law_pairs" lF f fd)(B:Bl K mg)(Dd:mg "str" = none)(qQ:mg "tuple" = none):aq P w K mg base aP (k+1) f fd ["_law_found","_law_many"] (zKy K):=by
 refine yI F oH (λ_=>rfl) (λ_=>rfl) λcdv A outer s H E hr=>?_
 have nd:=oH.nd
 refine⟨_,(zB (yO (PW.pt (pw_or (uL (yW (zP (xM K (Cg (n:="list"))) rfl B.jt xN (zA (pv 0) (zA (Bp (v:=.ty "list") rfl B.list Es rfl) zI))))) (pw_or1 (yB (Ti K Int hr) (zP (vA K) rfl B.len aa8 (zA (pv 0) zI)) (pv 1) (aH _))))) (zB (zS vP) zH) zH) (zB (yZ aay rfl (yK K (pv 0)) (bC 2 nd) (zB (yO (PW.pt (pw_or (uL (yW (zP (xM K (Cg (n:="tuple"))) rfl B.jt xN (zA (pv 2) (zA (Bp (v:=.ty "tuple") rfl qQ zNq rfl) zI))))) (pw_or (yB (Ti K Int hr) (zP (vA K) rfl B.len aa8 (zA (pv 2) zI)) zL (aH _)) (pw_or1 (uL (yW (zP (xM K (Cg (n:="bool"))) rfl B.jt xN (zA (yM (kW K) (pv 2) zL (λ_ _=>rfl)) (zA (Bp (v:=.ty "bool") rfl B.bool Zr rfl) zI))))))))) (zB (zS vP) zH) zH) (zB (yO (PW.pt (pw_or (uL (yW (zP (xM K (Cg (n:="tuple"))) rfl B.jt xN (zA (yM (kW K) (pv 2) zL (λ_ _=>rfl)) (zA (Bp (v:=.ty "tuple") rfl qQ zNq rfl) zI))))) (pw_or (yB Ef (zP (vA K) rfl B.len aa8 (zA (yM (kW K) (pv 2) zL (λ_ _=>rfl)) zI)) zL (aH _)) (pw_or1 (uL (yW (zP (xM K (Cg (n:="str"))) rfl B.jt xN (zA (yM (kW K) (yM (kW K) (pv 2) zL (λ_ _=>rfl)) zL (λ_ _=>rfl)) (zA (Bp (v:=.ty "str") rfl Dd zWv rfl) zI))))))))) (zB (zS vP) zH) zH) zH))) (zB (zS vP) zH))),?_⟩
 rintro Fa ⟨q0,q1,⟨⟩⟩
 exact SB.of (wH (zc (uR (aR (md:=.hp) (Cu B.ll rfl (zD 0 rfl)))) (yA (md:=.hp) (Tj (uC (zD 0 rfl)) (zE 1 rfl)))) (zW (esc (vY false))) (Mj (Ml (n:=false) (L:=(λs1:Unit=>([.z q0,.z q1,.un]:SL K))) () aK (yL (yN 0 rfl)) (λs1=>(zY 2 rfl rfl)) (λs1 x3=>(Er (zc (uR (aR (md:=.hp) (Cu J4 rfl (zD 2 rfl)))) (zc (yA (md:=.hp) (Tj (Hg (zD 2 rfl)) (zK 2))) (uR (aR (md:=.hp) (Cu Uy rfl (esc (Zo (zD 2 rfl) (zK 0)))))))) (zW (esc (vY false))) (Er (zc (uR (aR (md:=.hp) (Cu J4 rfl (Tn (zD 2 rfl) (zK 1))))) (zc (yA (md:=.hp) (Jy (zNg (Tn (zD 2 rfl) (zK 1))) (zK 1))) (uR (aR (md:=.hp) (Cu JQ rfl (esc (Uw (f:=λr=>some r.word) 0 zQq (Tn (zD 2 rfl) (zK 1)) (zK 0)))))))) (zW (esc (vY false))) (Gp (λs1:Unit=>([.z q0,.z q1,.un]:SL K)) () aK))))) (λs2=>(zW (esc (vY true)))))) (by unfold Vg;simp only[bnd])
def Ph(q0:LI)(q1:List LI)(q2:Int):Option Bool:=(if(!true)=true then some true else if(decide (q0=([]:LI)))=true then some true else some (decide ((600:Int)<(q0.length:Int)))).bind λb=>if b=true then some false else((vE (q0.length:Int)).bind λxs=>uB (λ(s1:Unit) (x3:Int)=>(((((aO q0 x3).bind λa5=>some ((a5,()))).bind λz4=>Vb z4.1).bind λa6=>some (!a6)).bind λc9=>if c9=true then some true else((aO q0 x3).bind λb7=>if decide ((0:Int)<=b7)=true then some (decide (b7<(q1.length:Int))) else some false).bind λa8=>some (!a8)).bind λb=>if b=true then(some false).bind λb=>some (.rt b) else(if(decide ((0:Int)<x3))=true then(aO q0 x3).bind λa11=>((aO q0 (x3-(1:Int))).bind λb10=>aO q1 b10).bind λOJ=>some (!decide (a11∈OJ)) else some false).bind λb=>if b=true then(some false).bind λb=>some (.rt b) else some (.nx ())) xs ()).bind λo=>o.els λs2=>(aO q0 (0:Int)).bind λa13=>some (decide (a13=q2))
theorem pW:ak ["_law_row","_law_steps","_law_start","_law_k"] ["_law_row","_law_steps","_law_start"] (zJ m8):=fsc
abbrev zNv(K:PySem.W.Frag):Sp:=cu K false (λa:LI×((List LI))×Int×Unit=>([.z a.1,.z a.2.1,.z a.2.2.1]:SL K)) (λa=>Ph a.1 a.2.1 a.2.2.1)
theorem zRc(F:aW K "_law_walk" "_law_walk" m8 f fd)(B:Bl K mg)(lM:bH P w K mg base k "_law_whole" ["_law_found"] (zKw K)):aq P w K mg base aP (k+1) f fd ["_law_row","_law_steps","_law_start"] (zNv K):=by
 refine yI F pW (λ_=>rfl) (λ_=>rfl) λcdv A outer s H E hr=>?_
 have nd:=pW.nd
 refine⟨_,(zB (yO (PW.pt (pw_or (uL (yW (zP (xM K (Cg (n:="list"))) rfl B.jt xN (zA (pv 0) (zA (Bp (v:=.ty "list") rfl B.list Es rfl) zI))))) (pw_or (yB (uP K LI hr) (pv 0) (wV zI) (aH _)) (pw_or1 (yB Lb (zP (vA K) rfl B.len aa8 (zA (pv 0) zI)) zL (aH _)))))) (zB (zS vP) zH) zH) (zB (yZ aay rfl (xG rfl B.range (zA (zP (vA K) rfl B.len aa8 (zA (pv 0) zI)) zI)) (bC 3 nd) (zB (yO (PW.pt (pw_or (uL (yW (yC lM hr (zA (yM (aQ K) (pv 0) (pv 3) (λ_ _=>rfl)) zI)))) (pw_or1 (uL (zUh V7 Ef zL (yM (aQ K) (pv 0) (pv 3) (λ_ _=>rfl)) (zP (vA K) rfl B.len aa8 (zA (pv 1) zI))))))) (zB (zS vP) zH) zH) (zB (yO (PW.pt (pw_and (yB Lb (pv 3) zL (aH _)) (pw_and1 (yB (Qw K) (yM (aQ K) (pv 0) (pv 3) (λ_ _=>rfl)) (yM (aQ K) (pv 1) (yM (aQ K) (pv 0) (yD Yp (pv 3) zL) (λ_ _=>rfl)) (λ_ _=>rfl)) (by with_unfolding_all rfl))))) (zB (zS vP) zH) zH) zH))) (zB (zS (Ql (uP K Int hr) (yM (aQ K) (pv 0) zL (λ_ _=>rfl)) (pv 2) (aH _))) zH))),?_⟩
 rintro Fa ⟨q0,q1,q2,⟨⟩⟩
 exact SB.of (wH (zc (uR (aR (md:=.hp) (Cu B.ll rfl (zD 0 rfl)))) (zc (yA (md:=.hp) (uQ (zD 0 rfl) (uS (α:=Int)).ex)) (yA (md:=.hp) (Ms (uC (zD 0 rfl)) (zK 600))))) (zW (esc (vY false))) (Mj (Ml (n:=true) (L:=(λs1:Unit=>([.z q0,.z q1,.z q2,.un]:SL K))) () aK (xZ (uC (zD 0 rfl))) (λs1=>(zY 3 rfl rfl)) (λs1 x3=>(Er (zc (uR (aR (md:=.hp) (zM (zF (esc (esc (xA (zD 0 rfl) (zE 3 rfl)))) zQ)))) (uR (yA (md:=.hp) (ZK (f:=(λi j=>decide (i<=j))) (g:=(λi j=>decide (i<j))) (zK 0) (esc (xA (zD 0 rfl) (zE 3 rfl))) (uC (zD 1 rfl)))))) (zW (esc (vY false))) (Er (Qo (yA (md:=.hp) (Ms (zE 3 rfl) (zK 0))) (yA (md:=.hp) (Qt (esc (xA (zD 0 rfl) (zE 3 rfl))) (xA (zD 1 rfl) (esc (xA (zD 0 rfl) (Zm (zE 3 rfl) (zK 1)))))))) (zW (esc (vY false))) (Gp (λs1:Unit=>([.z q0,.z q1,.z q2,.un]:SL K)) () aK))))) (λs2=>(zW (esc (uQ (esc (xA (zD 0 rfl) (zK 0))) (zE 2 rfl))))))) (by unfold Ph;simp only[bnd])
def uD(q0:cO)(q1:List LI)(q2:Int)(q3:LI)(q4:LI):Option Bool:=(if(!decide (q0.word=("walk":Str)))=true then some true else if(!decide (q0.len=(2:Int)))=true then some true else(((cO.tK q0).bind λa2=>some ((a2,(q1,(q2,()))))).bind λz1=>Ph z1.1 z1.2.1 z1.2.2.1).bind λa3=>some (!a3)).bind λb=>if b=true then some false else(((cO.tK q0).bind λa7=>some (tu a7 none (some (-(1:Int))))).bind λxs=>uB (λ(s4:Unit) (x6:Int)=>if(!decide (x6∈q3))=true then(some false).bind λb=>some (.rt b) else some (.nx ())) xs ()).bind λo=>o.els λs5=>((cO.tK q0).bind λa8=>aO a8 (-(1:Int))).bind λa9=>some (decide (a9∈q4))
theorem lX:ak ["_law_reason","_law_steps","_law_stand","_law_through","_law_goal","_law_other"] ["_law_reason","_law_steps","_law_stand","_law_through","_law_goal"] (zJ jQ):=fsc
abbrev zHd(K:PySem.W.Frag):Sp:=cu K false (λa:cO×((List LI))×Int×LI×LI×Unit=>([.z a.1,.z a.2.1,.z a.2.2.1,.z a.2.2.2.1,.z a.2.2.2.2.1]:SL K)) (λa=>uD a.1 a.2.1 a.2.2.1 a.2.2.2.1 a.2.2.2.2.1)
theorem zLn(F:aW K "_law_walked" "_law_walked" jQ f fd)(B:Bl K mg)(oJ:bH P w K mg base k "_law_walk" ["_law_row","_law_steps","_law_start"] (zNv K)):aq P w K mg base aP (k+1) f fd ["_law_reason","_law_steps","_law_stand","_law_through","_law_goal"] (zHd K):=by
 refine yI F lX (λ_=>rfl) (λ_=>rfl) λcdv A outer s H E hr=>?_
 have nd:=lX.nd
 refine⟨_,(zB (yO (PW.pt (pw_or (yB (Ti K Str hr) (yM (kW K) (pv 0) zL (λ_ _=>rfl)) xV (aH _)) (pw_or (yB (Ti K Int hr) (zP (vA K) rfl B.len aa8 (zA (pv 0) zI)) zL (aH _)) (pw_or1 (uL (yW (yC oJ hr (zA (yM (kW K) (pv 0) zL (λ_ _=>rfl)) (zA (pv 1) (zA (pv 2) zI)))))))))) (zB (zS vP) zH) zH) (zB (yZ aay rfl (yK K (zM4 (aac K) (yM (kW K) (pv 0) zL (λ_ _=>rfl)) zQz (zQy (K6 K_ zL)))) (bC 5 nd) (zB (yO (yB (Qw K) (pv 5) (pv 3) (by with_unfolding_all rfl)) (zB (zS vP) zH) zH) zH)) (zB (zS (Ql (Qv K) (yM (aQ K) (yM (kW K) (pv 0) zL (λ_ _=>rfl)) (K6 K_ zL) (λ_ _=>rfl)) (pv 4) (by with_unfolding_all rfl))) zH))),?_⟩
 rintro Fa ⟨q0,q1,q2,q3,q4,⟨⟩⟩
 exact SB.of (wH (zc (yA (md:=.hp) (Tj (esc (Uw (f:=λr=>some r.word) 0 zQq (zD 0 rfl) (zK 0))) (S7 "walk"))) (zc (yA (md:=.hp) (Tj (zNg (zD 0 rfl)) (zK 2))) (uR (aR (md:=.hp) (zM (zF (Uw (f:=cO.tK) 1 zLe (zD 0 rfl) (zK 1)) (zF (zD 1 rfl) (zF (esc (zE 2 rfl)) zQ)))))))) (zW (esc (vY false))) (Mj (Ml (n:=true) (L:=(λs4:Unit=>([.z q0,.z q1,.z q2,.z q3,.z q4,.un]:SL K))) () aK (yL (zVo (Uw (f:=cO.tK) 1 zLe (zD 0 rfl) (zK 1)) (M8 (zK 1))).ex) (λs4=>(zY 5 rfl rfl)) (λs4 x6=>(Er (yA (md:=.hp) (Qt (zE 5 rfl) (zD 3 rfl))) (zW (esc (vY false))) (Gp (λs4:Unit=>([.z q0,.z q1,.z q2,.z q3,.z q4,.un]:SL K)) () aK)))) (λs5=>(zW (esc (Ws (esc (xA (Uw (f:=cO.tK) 1 zLe (zD 0 rfl) (zK 1)) (M8 (zK 1)))) (zD 4 rfl))))))) (by unfold uD;simp only[bnd])
def Vh(q0:List (Bool×cO))(q1:List LI)(q2:Int)(q3:LI)(q4:LI)(q5:Bool):Option Bool:=((((aO q0 q2).bind λa1=>some a1.2).bind λa2=>some (!decide (a2.word = "shut"))).bind λc3=>if c3=true then some true else some (decide (q2∈q4))).bind λb=>if b=true then some false else if(!decide (q2∈q3))=true then some true else((aO q1 q2).bind λxs=>uB (λ(s4:Unit) (x6:Int)=>(((aO q0 x6).bind λa7=>some a7.1).bind λa8=>some (decide (a8=q5))).bind λb=>if b=true then(some false).bind λb=>some (.rt b) else some (.nx ())) xs ()).bind λo=>o.els λs5=>some true
theorem pX:ak ["_law_found","_law_steps","_law_stand","_law_through","_law_goal","_law_some","_law_other"] ["_law_found","_law_steps","_law_stand","_law_through","_law_goal","_law_some"] (zJ m9):=fsc
abbrev zNx(K:PySem.W.Frag):Sp:=cu K false (λa:((List (Bool×cO)))×((List LI))×Int×LI×LI×Bool×Unit=>([.z a.1,.z a.2.1,.z a.2.2.1,.z a.2.2.2.1,.z a.2.2.2.2.1,.z a.2.2.2.2.2.1]:SL K)) (λa=>Vh a.1 a.2.1 a.2.2.1 a.2.2.2.1 a.2.2.2.2.1 a.2.2.2.2.2.1)
theorem zRe(F:aW K "_law_shut" "_law_shut" m9 f fd)(B:Bl K mg):aq P w K mg base aP (k+1) f fd ["_law_found","_law_steps","_law_stand","_law_through","_law_goal","_law_some"] (zNx K):=by
 refine yI F pX (λ_=>rfl) (λ_=>rfl) λcdv A outer s H E hr=>?_
 have nd:=pX.nd
 refine⟨_,(zB (yO (PW.pt (pw_or (yB (Hy K hr) (yM (kW K) (yM (aQ K) (pv 0) (pv 2) (λ_ _=>rfl)) zL (λ_ _=>rfl)) (sS (zA xV zI)) (aH _)) (pw_or1 (yB (Qv K) (pv 2) (pv 4) (by with_unfolding_all rfl))))) (zB (zS vP) zH) zH) (zB (yO (yB (Qw K) (pv 2) (pv 3) (by with_unfolding_all rfl)) (zB (zS vP) zH) zH) (zB (yZ aay rfl (yK K (yM (aQ K) (pv 1) (pv 2) (λ_ _=>rfl))) (bC 6 nd) (zB (yO (yB (uP K Bool hr) (yM (kW K) (yM (aQ K) (pv 0) (pv 6) (λ_ _=>rfl)) zL (λ_ _=>rfl)) (pv 5) (aH _)) (zB (zS vP) zH) zH) zH)) (zB (zS vP) zH)))),?_⟩
 rintro Fa ⟨q0,q1,q2,q3,q4,q5,⟨⟩⟩
 exact SB.of (wH (zc (yA (md:=.hp) (Hz (Tn (xA (zD 0 rfl) (zE 2 rfl)) (zK 1)) (zWn .shut (λ_=>rfl)))) (yA (md:=.hp) (Ws (zE 2 rfl) (zD 4 rfl)))) (zW (esc (vY false))) (wH (yA (md:=.hp) (Qt (zE 2 rfl) (zD 3 rfl))) (zW (esc (vY true))) (Mj (Ml (n:=false) (L:=(λs4:Unit=>([.z q0,.z q1,.z q2,.z q3,.z q4,.z q5,.un]:SL K))) () aK (yL (xA (yN 1 rfl) (zE 2 rfl))) (λs4=>(zY 6 rfl rfl)) (λs4 x6=>(Er (yA (md:=.hp) (uQ (esc (Zo (xA (zD 0 rfl) (zE 6 rfl)) (zK 0))) (zE 5 rfl))) (zW (esc (vY false))) (Gp (λs4:Unit=>([.z q0,.z q1,.z q2,.z q3,.z q4,.z q5,.un]:SL K)) () aK)))) (λs5=>(zW (esc (vY true))))))) (by unfold Vh;simp only[bnd])
def Pj(q0:List (Bool×cO))(q1:List LI)(q2:LI)(q3:LI)(q4:Bool):Option Bool:=((Vg q0 (q1.length:Int)).bind λa1=>some (!a1)).bind λb=>if b=true then some false else((vE (q1.length:Int)).bind λxs=>uB (λ(s2:Unit) (x4:Int)=>(((((aO q0 x4).bind λa5=>some a5.1).bind λa6=>some (decide (a6=q4))).bind λb=>if b=true then(((((aO q0 x4).bind λa9=>some a9.2).bind λa11=>some ((a11,(q1,(x4,(q2,(q3,()))))))).bind λOu=>uD Ou.1 Ou.2.1 Ou.2.2.1 Ou.2.2.2.1 Ou.2.2.2.2.1).bind λa12=>some (!a12)).bind λb=>if b=true then(some false).bind λb=>some (.rt b) else some (.nx ()) else((Vh q0 q1 x4 q2 q3 q4).bind λa13=>some (!a13)).bind λb=>if b=true then(some false).bind λb=>some (.rt b) else some (.nx ())):Option (Out Unit Bool)).bind λo=>o.aM λs7=>some (.nx ())) xs ()).bind λo=>o.els λs3=>some true
theorem pY:ak ["_law_found","_law_steps","_law_through","_law_goal","_law_some","_law_stand"] ["_law_found","_law_steps","_law_through","_law_goal","_law_some"] (zJ m_):=fsc
abbrev zNw(K:PySem.W.Frag):Sp:=cu K false (λa:((List (Bool×cO)))×((List LI))×LI×LI×Bool×Unit=>([.z a.1,.z a.2.1,.z a.2.2.1,.z a.2.2.2.1,.z a.2.2.2.2.1]:SL K)) (λa=>Pj a.1 a.2.1 a.2.2.1 a.2.2.2.1 a.2.2.2.2.1)
theorem zRd(F:aW K "_law_told" "_law_told" m_ f fd)(B:Bl K mg)(lN:bH P w K mg base k "_law_pairs" ["_law_found","_law_many"] (zKy K))(oK:bH P w K mg base k "_law_shut" ["_law_found","_law_steps","_law_stand","_law_through","_law_goal","_law_some"] (zNx K))(jT:bH P w K mg base k "_law_walked" ["_law_reason","_law_steps","_law_stand","_law_through","_law_goal"] (zHd K)):aq P w K mg base aP (k+1) f fd ["_law_found","_law_steps","_law_through","_law_goal","_law_some"] (zNw K):=by
 refine yI F pY (λ_=>rfl) (λ_=>rfl) λcdv A outer s H E hr=>?_
 have nd:=pY.nd
 refine⟨_,(zB (yO (uL (yW (yC lN hr (zA (pv 0) (zA (zP (vA K) rfl B.len aa8 (zA (pv 1) zI)) zI))))) (zB (zS vP) zH) zH) (zB (yZ aay rfl (xG rfl B.range (zA (zP (vA K) rfl B.len aa8 (zA (pv 1) zI)) zI)) (bC 5 nd) (zB (yO (yB (uP K Bool hr) (yM (kW K) (yM (aQ K) (pv 0) (pv 5) (λ_ _=>rfl)) zL (λ_ _=>rfl)) (pv 4) (aH _)) (zB (yO (uL (yW (yC jT hr (zA (yM (kW K) (yM (aQ K) (pv 0) (pv 5) (λ_ _=>rfl)) zL (λ_ _=>rfl)) (zA (pv 1) (zA (pv 5) (zA (pv 2) (zA (pv 3) zI)))))))) (zB (zS vP) zH) zH) zH) (zB (yO (uL (yW (yC oK hr (zA (pv 0) (zA (pv 1) (zA (pv 5) (zA (pv 2) (zA (pv 3) (zA (pv 4) zI))))))))) (zB (zS vP) zH) zH) zH)) zH)) (zB (zS vP) zH))),?_⟩
 rintro Fa ⟨q0,q1,q2,q3,q4,⟨⟩⟩
 exact SB.of (wH (uR (aR (md:=.hp) (zM (zF (zD 0 rfl) (zF (esc (uC (zD 1 rfl))) zQ))))) (zW (esc (vY false))) (Mj (Ml (n:=true) (L:=(λs2:Unit=>([.z q0,.z q1,.z q2,.z q3,.z q4,.un]:SL K))) () aK (xZ (uC (zD 1 rfl))) (λs2=>(zY 5 rfl rfl)) (λs2 x4=>(zTw (Td (yA (md:=.hp) (uQ (esc (Zo (xA (zD 0 rfl) (zE 5 rfl)) (zK 0))) (zE 4 rfl))) (Er (uR (aR (md:=.hp) (zM (zF (Tn (xA (zD 0 rfl) (zE 5 rfl)) (zK 1)) (zF (zD 1 rfl) (zF (esc (zE 5 rfl)) (zF (zD 2 rfl) (zF (zD 3 rfl) zQ)))))))) (zW (esc (vY false))) (Gp (λs8:Unit=>([.z q0,.z q1,.z q2,.z q3,.z q4,.y x4]:SL K)) () aK)) (Er (uR (aR (md:=.hp) (zM (zF (zD 0 rfl) (zF (zD 1 rfl) (zF (esc (zE 5 rfl)) (zF (zD 2 rfl) (zF (zD 3 rfl) (zF (esc (zE 4 rfl)) zQ))))))))) (zW (esc (vY false))) (Gp (λs8:Unit=>([.z q0,.z q1,.z q2,.z q3,.z q4,.y x4]:SL K)) () aK))) (λs7=>(Gp (λs2:Unit=>([.z q0,.z q1,.z q2,.z q3,.z q4,.un]:SL K)) () aK))))) (λs3=>(zW (esc (vY true)))))) (by unfold Pj;simp only[bnd])
end
end Ts
set_option maxHeartbeats 40000000
namespace Ts
open PySem L2 Sy
section
variable{P:Program}{w:World}{K:PySem.W.Frag}{mg:Str->Option Value}{base:Heap}
def Xv(C:Addr)(cl:Hd->Addr)(q0:yx):Option Bool:=(((xX q0 (0:Int)).bind λa3=>some ((a3,()))).bind λz2=>uN z2.1).bind λmany1=>(uM q0 many1).bind λbK=>(((xX q0 (1:Int)).bind λa7=>some ((a7,(many1,())))).bind λz6=>Vd z6.1 z6.2.1).bind λeX=>(xX q0 (2:Int)).bind λdI=>((vE (3:Int)).bind λxs=>yX (λ(x10:Int)=>some true) (λ(x10:Int)=>((gY dI (36:Int)).bind λa14=>some ((a14,(x10,())))).bind λU9=>Ve U9.1 U9.2.1) xs).bind λnames9=>((vE (2:Int)).bind λxs=>yX (λ(rQ:Int)=>some true) (λ(rQ:Int)=>(((((((gY dI (6:Int)).bind λa17=>some (a17+rQ)).bind λa18=>cI a18 (6:Int)).bind λO7=>aO ([(3:Int),(5:Int),(1:Int),(4:Int),(2:Int),(6:Int)]) O7).bind λa21=>some ((a21,()))).bind λOD=>some (many1,OD)).bind λHW=>some (dI+rQ,HW)).bind λE_=>Ra E_.1 E_.2.1 E_.2.2.1) xs).bind λcU=>((vE (2:Int)).bind λxs=>yX (λ(x25:Int)=>some true) (λ(x25:Int)=>(aO names9 x25).bind λa26=>(aO cU x25).bind λU_=>some (a26,U_)) xs).bind λdG=>(((some bK).bind λxs=>yX (λ(x29:LI)=>some true) (λ(x29:LI)=>some x29) xs).bind λa31=>((some eX).bind λxs=>yX (λ(x30:LI)=>some true) (λ(x30:LI)=>some x30) xs).bind λa32=>U0 C a31 (some dG) (some a32)).bind λbF=>(((xX q0 (3:Int)).bind λa35=>some ((a35,(names9,(cU,(many1,())))))).bind λXw=>wY cl Xw.1 Xw.2.1 Xw.2.2.1 Xw.2.2.2.1).bind λux=>((((xX q0 (3:Int)).bind λa37=>gY a37 (9:Int)).bind λa39=>some ((a39,(names9,(cU,(many1,())))))).bind λXx=>wY cl Xx.1 Xx.2.1 Xx.2.2.1 Xx.2.2.2.1).bind λqY=>(Vf bK eX).bind λeY=>((some eY).bind λxs=>yX (λ(x42:Int)=>some (decide (x42∈qY.2))) (λ(x42:Int)=>some x42) xs).bind λlO=>((some eY).bind λxs=>yX (λ(x44:Int)=>some (!decide (x44∈qY.2))) (λ(x44:Int)=>some x44) xs).bind λxq=>((((Dp bF ((bh.mk (.two 2 ux.1.t qY.1.t):bh cl))).bind λa46=>some ((a46,(bK,(ux.2,(lO,(true,()))))))).bind λVi=>Pj Vi.1 Vi.2.1 Vi.2.2.1 Vi.2.2.2.1 Vi.2.2.2.2.1).bind λa47=>some (!a47)).bind λb=>if b=true then some false else(sZ many1).bind λmH=>((((Dp bF ((bh.mk (.one 5 qY.1.t):bh cl))).bind λa50=>some ((a50,(bK,(mH,(lO,(true,()))))))).bind λVj=>Pj Vj.1 Vj.2.1 Vj.2.2.1 Vj.2.2.2.1 Vj.2.2.2.2.1).bind λa51=>some (!a51)).bind λb=>if b=true then some false else((Dp bF ((bh.mk (.one 4 qY.1.t):bh cl))).bind λa53=>some ((a53,(bK,(mH,(xq,(false,()))))))).bind λVk=>Pj Vk.1 Vk.2.1 Vk.2.2.1 Vk.2.2.2.1 Vk.2.2.2.2.1
theorem DN:ak ["_law_script","_law_many","_law_steps","_law_fair","_law_cell","_law_names","_law_sets","_law_marks","_law_machine","_law_left","_law_through","_law_right","_law_within","_law_living","_law_good","_law_bad","_law_every"] ["_law_script"] (zJ pN):=fsc
abbrev Vl(K:PySem.W.Frag)(C:Addr)(cl:Hd->Addr):Sp:=cu K false (λa:yx×Unit=>([.z a.1]:SL K)) (λa=>Xv C cl a.1)
theorem Pk(F:aW K "law" "law" pN f fd)(B:Bl K mg)(T:Cl K mg C)(I:mq P w K mg base kS cl fi di)(hS:kS+1<=k0+1)(MK:Mk K C fI)(GI:aq P w K mg base aP k0 fI Xy ["self","steps","marks","fair"] (T9 K C (U0 C)))(bI0:Binds K Xy ["self","steps","marks","fair"] [])(lQ:bH P w K mg base (k0+1) "_law_alive" ["_law_steps","_law_fair"] (zKz K))(aX:bH P w K mg base (k0+1) "_law_cell_at" ["_law_script","_law_k"] (zCt K))(jc:bH P w K mg base (k0+1) "_law_fair_by" ["_law_cell","_law_many"] (zGe K))(fG:bH P w K mg base (k0+1) "_law_part_by" ["_law_cell","_law_names","_law_sets","_law_many"] (zGd K cl))(jU:bH P w K mg base (k0+1) "_law_set_by" ["_law_cell","_law_many","_law_way"] (zHe K))(gM:bH P w K mg base (k0+1) "_law_small_by" ["_law_cell"] (zEf K))(gO:bH P w K mg base (k0+1) "_law_steps_by" ["_law_script","_law_many"] (zEe K))(je:bH P w K mg base (k0+1) "_law_told" ["_law_found","_law_steps","_law_through","_law_goal","_law_some"] (zNw K))(jf:bH P w K mg base (k0+1) "_law_word_by" ["_law_cell","_law_k"] (zGc K))(oM:bH P w K mg base (k0+1) "whys" ["machine","saying"] (zW4 K C cl)):aq P w K mg base aP ((k0+1)+1) f fd ["_law_script"] (Vl K C cl):=by
 refine yI F DN (λ_=>rfl) (λ_=>rfl) λcdv A outer s H E hr=>?_
 have nd:=DN.nd
 refine⟨_,(zB (yP 1 nd (yC gM hr (zA (yC aX hr (zA (pv 0) (zA zL zI))) zI))) (zB (yP 2 nd (yC gO hr (zA (pv 0) (zA (pv 1) zI)))) (zB (yP 3 nd (yC jc hr (zA (yC aX hr (zA (pv 0) (zA zL zI))) (zA (pv 1) zI)))) (zB (yP 4 nd (yC aX hr (zA (pv 0) (zA zL zI)))) (zB (yP 5 nd (wW (own:=["_law_k"]) (ix:=[4]) rfl rfl rfl (xG rfl B.range (zA zL zI)) (λC s H fp=>yQ (i:=0) (show(["_law_k","_law_cell"]:List Str).Nodup from by decide +kernel) rfl (Or.inl rfl)) (λC s H fp=>vK) (λC s H fp=>(yC jf hr (zA (yD uV (pv 1) zL) (zA (pv 0) zI)))))) (zB (yP 6 nd (wW (own:=["_law_k"]) (ix:=[4,1]) rfl rfl rfl (xG rfl B.range (zA zL zI)) (λC s H fp=>yQ (i:=0) (show(["_law_k","_law_cell","_law_many"]:List Str).Nodup from by decide +kernel) rfl (Or.inl rfl)) (λC s H fp=>vK) (λC s H fp=>(yC jU hr (zA (yD wD (pv 1) (pv 0)) (zA (pv 2) (zA (yM (aQ K) (wV (zA zL (zA zL (zA zL (zA zL (zA zL (zA zL zI))))))) (yD wR (yD wD (yD uV (pv 1) zL) (pv 0)) zL) (λ_ _=>rfl)) zI))))))) (zB (Em (i:=7) (own:=["_law_k"]) (ix:=[5,6]) nd rfl rfl rfl rfl rfl (xG rfl B.range (zA zL zI)) (λC s H fp=>yQ (i:=0) (show(["_law_k","_law_names","_law_sets"]:List Str).Nodup from by decide +kernel) rfl (Or.inl rfl)) (λC s H fp=>vK) (λC s H fp=>(sS (zA (yM (aQ K) (pv 1) (pv 0) (λ_ _=>rfl)) (zA (vQ (JF K) rfl B.list Es (zA (yM (aQ K) (pv 2) (pv 0) (λ_ _=>rfl)) zI)) zI))))) (zB (yP 8 nd (Ej MK GI hr rfl T.mgC bI0 .nil vR (zA (wW (own:=["_law_row"]) (ix:=[]) rfl rfl rfl (yK K (pv 2)) (λC s H fp=>yQ (i:=0) (show(["_law_row"]:List Str).Nodup from by decide +kernel) rfl (Or.inl rfl)) (λC s H fp=>vK) (λC s H fp=>(vQ (JF K) rfl B.list Es (zA (pv 0) zI)))) (zA (pv 7) (zA (wW (own:=["_law_some"]) (ix:=[]) rfl rfl rfl (yK K (pv 3)) (λC s H fp=>yQ (i:=0) (show(["_law_some"]:List Str).Nodup from by decide +kernel) rfl (Or.inl rfl)) (λC s H fp=>vK) (λC s H fp=>(vQ (JF K) rfl B.list Es (zA (pv 0) zI)))) zI))))) (zB (Qf (yC fG hr (zA (yC aX hr (zA (pv 0) (zA zL zI))) (zA (pv 5) (zA (pv 6) (zA (pv 1) zI))))) (Jm rfl (xO (bC 9 nd) (xO (bC 10 nd) Fq)))) (zB (Qf (yC fG hr (zA (yD uV (yC aX hr (zA (pv 0) (zA zL zI))) zL) (zA (pv 5) (zA (pv 6) (zA (pv 1) zI))))) (Jm rfl (xO (bC 11 nd) (xO (bC 12 nd) Fq)))) (zB (yP 13 nd (yC lQ hr (zA (pv 2) (zA (pv 3) zI)))) (zB (Em (i:=14) (own:=["_law_stand"]) (ix:=[12]) nd rfl rfl rfl rfl rfl (yK K (pv 13)) (λC s H fp=>yQ (i:=0) (show(["_law_stand","_law_within"]:List Str).Nodup from by decide +kernel) rfl (Or.inl rfl)) (λC s H fp=>uU (yB (Qv K) (pv 0) (pv 1) (by with_unfolding_all rfl))) (λC s H fp=>(pv 0))) (zB (Em (i:=15) (own:=["_law_stand"]) (ix:=[12]) nd rfl rfl rfl rfl rfl (yK K (pv 13)) (λC s H fp=>yQ (i:=0) (show(["_law_stand","_law_within"]:List Str).Nodup from by decide +kernel) rfl (Or.inl rfl)) (λC s H fp=>uU (yB (Qw K) (pv 0) (pv 1) (by with_unfolding_all rfl))) (λC s H fp=>(pv 0))) (zB (yO (uL (yW (yC je hr (zA (yC oM hr (zA (pv 8) (zA (Ej (I.ini.made (.two 2)) (I.ini.i2 2) (hr.mono hS) rfl (I.ini.m2 2) (I.ini.b2 2) .nil vR (zA (pv 9) (zA (pv 11) zI))) zI))) (zA (pv 2) (zA (pv 10) (zA (pv 14) (zA vP zI)))))))) (zB (zS vP) zH) zH) (zB (yP 16 nd (W8 rfl rfl B.list rfl B.range (zA (pv 1) zI))) (zB (yO (uL (yW (yC je hr (zA (yC oM hr (zA (pv 8) (zA (Ej (I.ini.made (.one 5)) (I.ini.i1 5) (hr.mono hS) rfl (I.ini.m1 5) (I.ini.b1 5) .nil vR (zA (pv 11) zI)) zI))) (zA (pv 2) (zA (pv 16) (zA (pv 14) (zA vP zI)))))))) (zB (zS vP) zH) zH) (zB (zS (yC je hr (zA (yC oM hr (zA (pv 8) (zA (Ej (I.ini.made (.one 4)) (I.ini.i1 4) (hr.mono hS) rfl (I.ini.m1 4) (I.ini.b1 4) .nil vR (zA (pv 11) zI)) zI))) (zA (pv 2) (zA (pv 16) (zA (pv 15) (zA vP zI))))))) zH))))))))))))))))),?_⟩
 rintro Fa ⟨q0,⟨⟩⟩
 exact SB.of (zO (yE true 1 rfl rfl (esc (zM (zF (esc (zM (zF (zD 0 rfl) (zF (esc (zK 0)) zQ)))) zQ)))) (λmany1=>(wj [.z q0,.y many1,.un,.un,.un,.un,.un,.un,.un,.un,.un,.un,.un,.un,.un,.un,.un] (zO (yE true 2 rfl rfl (zM (zF (zD 0 rfl) (zF (esc (zE 1 rfl)) zQ)))) (λbK=>(wj [.z q0,.y many1,.y bK,.un,.un,.un,.un,.un,.un,.un,.un,.un,.un,.un,.un,.un,.un] (zO (yE true 3 rfl rfl (zM (zF (esc (zM (zF (zD 0 rfl) (zF (esc (zK 1)) zQ)))) (zF (esc (zE 1 rfl)) zQ)))) (λeX=>(wj [.z q0,.y many1,.y bK,.y eX,.un,.un,.un,.un,.un,.un,.un,.un,.un,.un,.un,.un,.un] (zO (yE true 4 rfl rfl (esc (zM (zF (zD 0 rfl) (zF (esc (zK 2)) zQ))))) (λdI=>(wj [.z q0,.y many1,.y bK,.y eX,.y dI,.un,.un,.un,.un,.un,.un,.un,.un,.un,.un,.un,.un] (zO (yE true 5 rfl rfl (xB (n:=true) (jE:=[.un,.y dI]) (no:=1) (ix:=[4]) rfl rfl (xZ (zK 3)) (zY 0 rfl rfl) (λx10=>v8) (λx10=>(esc (zM (zF (esc (Ba (zE 1 rfl) (zK 36))) (zF (esc (zE 0 rfl)) zQ))))) (λx10=>dJ)).ex) (λnames9=>(wj [.z q0,.y many1,.y bK,.y eX,.y dI,.y names9,.un,.un,.un,.un,.un,.un,.un,.un,.un,.un,.un] (zO (yE true 6 rfl rfl (xB (n:=true) (jE:=[.un,.y dI,.y many1]) (no:=1) (ix:=[4,1]) rfl rfl (xZ (zK 2)) (zY 0 rfl rfl) (λrQ=>v8) (λrQ=>(zM (zF (esc (wF (zE 1 rfl) (zE 0 rfl))) (zF (esc (zE 2 rfl)) (zF (esc (esc (xA (Tc (vZ (esc (zK 3)) (vZ (esc (zK 5)) (vZ (esc (zK 1)) (vZ (esc (zK 4)) (vZ (esc (zK 2)) (vZ (esc (zK 6)) S_)))))) (λa h=>aa4 ((v9 (v9 (v9 (v9 (v9 (v9 TJ)))))) a h) (by decide))).ex (wT (wF (Ba (zE 1 rfl) (zK 6)) (zE 0 rfl)) (zK 6))))) zQ))))) (λrQ=>dJ)).ex) (λcU=>(wj [.z q0,.y many1,.y bK,.y eX,.y dI,.y names9,.y cU,.un,.un,.un,.un,.un,.un,.un,.un,.un,.un] (zO (yE true 7 rfl rfl (xB (n:=true) (jE:=[.un,.y names9,.y cU]) (no:=1) (ix:=[5,6]) rfl rfl (xZ (zK 2)) (zY 0 rfl rfl) (λx25=>v8) (λx25=>(Mi (esc (xA (zD 1 rfl) (zE 0 rfl))) (JC (xA (zD 2 rfl) (zE 0 rfl))).ex)) (λx25=>dJ)).ex) (λdG=>(wj [.z q0,.y many1,.y bK,.y eX,.y dI,.y names9,.y cU,.y dG,.un,.un,.un,.un,.un,.un,.un,.un,.un] (zO (yE true 8 rfl rfl (zSo (xB (n:=true) (jE:=[.un]) (no:=1) (ix:=[]) rfl rfl (yL (yN 2 rfl)) (zY 0 rfl rfl) (λx29=>v8) (λx29=>(JC (zD 0 rfl)).ex) (λx29=>dJ)).ex (zD 7 rfl) (xB (n:=true) (jE:=[.un]) (no:=1) (ix:=[]) rfl rfl (yL (yN 3 rfl)) (zY 0 rfl rfl) (λx30=>v8) (λx30=>(JC (zD 0 rfl)).ex) (λx30=>dJ)).ex).ex) (λbF=>(wj [.z q0,.y many1,.y bK,.y eX,.y dI,.y names9,.y cU,.y dG,.y bF,.un,.un,.un,.un,.un,.un,.un,.un] (zO (zQi (n:=true) (zM (zF (esc (zM (zF (zD 0 rfl) (zF (esc (zK 3)) zQ)))) (zF (zD 5 rfl) (zF (zD 6 rfl) (zF (esc (zE 1 rfl)) zQ))))) (Jx 9 10 rfl rfl (λ_=>rfl) rfl)) (λux=>(wj [.z q0,.y many1,.y bK,.y eX,.y dI,.y names9,.y cU,.y dG,.y bF,.y ux.1,.y ux.2,.un,.un,.un,.un,.un,.un] (zO (zQi (n:=true) (zM (zF (esc (Ba (zM (zF (zD 0 rfl) (zF (esc (zK 3)) zQ))) (zK 9))) (zF (zD 5 rfl) (zF (zD 6 rfl) (zF (esc (zE 1 rfl)) zQ))))) (Jx 11 12 rfl rfl (λ_=>rfl) rfl)) (λqY=>(wj [.z q0,.y many1,.y bK,.y eX,.y dI,.y names9,.y cU,.y dG,.y bF,.y ux.1,.y ux.2,.y qY.1,.y qY.2,.un,.un,.un,.un] (zO (yE true 13 rfl rfl (zM (zF (zD 2 rfl) (zF (zD 3 rfl) zQ)))) (λeY=>(wj [.z q0,.y many1,.y bK,.y eX,.y dI,.y names9,.y cU,.y dG,.y bF,.y ux.1,.y ux.2,.y qY.1,.y qY.2,.y eY,.un,.un,.un] (zO (yE true 14 rfl rfl (xB (n:=true) (jE:=[.un,.y qY.2]) (no:=1) (ix:=[12]) rfl rfl (yL (yN 13 rfl)) (zY 0 rfl rfl) (λx42=>(yA (md:=.hp) (Ws (zE 0 rfl) (zD 1 rfl)))) (λx42=>(esc (zE 0 rfl))) (λx42=>dJ)).ex) (λlO=>(wj [.z q0,.y many1,.y bK,.y eX,.y dI,.y names9,.y cU,.y dG,.y bF,.y ux.1,.y ux.2,.y qY.1,.y qY.2,.y eY,.y lO,.un,.un] (zO (yE true 15 rfl rfl (xB (n:=true) (jE:=[.un,.y qY.2]) (no:=1) (ix:=[12]) rfl rfl (yL (yN 13 rfl)) (zY 0 rfl rfl) (λx44=>(yA (md:=.hp) (Qt (zE 0 rfl) (zD 1 rfl)))) (λx44=>(esc (zE 0 rfl))) (λx44=>dJ)).ex) (λxq=>(wj [.z q0,.y many1,.y bK,.y eX,.y dI,.y names9,.y cU,.y dG,.y bF,.y ux.1,.y ux.2,.y qY.1,.y qY.2,.y eY,.y lO,.y xq,.un] (wH (uR (aR (md:=.hp) (zM (zF (zM (zF (zD 8 rfl) (zF (Hu 2 (zD 9 rfl) (zD 11 rfl)) zQ))) (zF (zD 2 rfl) (zF (zD 10 rfl) (zF (zD 14 rfl) (zF (esc (vY true)) zQ)))))))) (zW (esc (vY false))) (zO (yE true 16 rfl rfl (W_ (zE 1 rfl)).ex) (λmH=>(wj [.z q0,.y many1,.y bK,.y eX,.y dI,.y names9,.y cU,.y dG,.y bF,.y ux.1,.y ux.2,.y qY.1,.y qY.2,.y eY,.y lO,.y xq,.y mH] (wH (uR (aR (md:=.hp) (zM (zF (zM (zF (zD 8 rfl) (zF (Xi 5 (zD 11 rfl)) zQ))) (zF (zD 2 rfl) (zF (zD 16 rfl) (zF (zD 14 rfl) (zF (esc (vY true)) zQ)))))))) (zW (esc (vY false))) (zW (esc (zM (zF (zM (zF (zD 8 rfl) (zF (Xi 4 (zD 11 rfl)) zQ))) (zF (zD 2 rfl) (zF (zD 16 rfl) (zF (zD 15 rfl) (zF (esc (vY false)) zQ)))))))))))))))))))))))))))))))))))))))))))))))))))) (by unfold Xv;simp only[bnd])
end
open PySem L2
theorem Rf(xu:yx)(h:0<=k):W (xX xu k) λ_=>True:=by
 unfold xX
 rw[Bd]
 refine⟨λq=>?_,λ_=>aj.mpr trivial⟩
 have q:k<(xu.ns.length:Int):=by simpa using q
 rw[cG h]
 exact⟨_,aas (by omega),trivial⟩
theorem HY(c:Int)(h0:0<=k)(h1:k<=1000000):W (uE c k) λr=>0<=r/\r<99989:=by
 unfold uE
 simp only[zC,Wx,qU,aj]
 refine⟨.inl ⟨by decide,by decide⟩,.inr ⟨by omega,by omega⟩,.inl ⟨by decide,by decide⟩,by decide,.inl ⟨?_,?_⟩,by decide,?_,?_⟩
 ·have:=acv (c*(48271+2*k)+7919*k+5) (show(99991:Int)≠0 by decide)
  omega
 ·have:=aci (c*(48271+2*k)+7919*k+5) (show(0:Int)<99991 by decide)
  omega
 ·exact acv _ (by decide)
 ·exact aci _ (by decide)
theorem Vm(c:Int)(w:Int)(h0:0<=n)(h1:n<=60):W (Ra c n w) (bI n):=by
 unfold Ra
 simp only[zC,qU,Bc,aj,Bd]
 refine⟨⟨by decide,by decide⟩,by decide,λ_=>?_,λ_=>?_⟩
 all_goals simp only[vL]
 ·refine⟨⟨by omega,by omega⟩,xQ (λ_ _=>True) trivial (λi x s _ _=>?_) λs _=>?_⟩
  ·simp only[zC,Bc,aj]
   exact⟨⟨by decide,by decide⟩,trivial⟩
  ·refine⟨⟨by omega,by omega⟩,xQ (λi s=>bI i s.1/\s.1.length<=i) ⟨Zx,aav _⟩ (λi x s hi hI=>?_) λs hI=>?_⟩
   ·obtain⟨rfl,hx⟩:=zj hi
    simp only[zC,Bc,Wy,qU,aj,Bd,uW]
    refine(HY c (by omega) (by omega)).imp λr _=>⟨⟨by decide,by decide,by decide⟩,λ_=>?_,λ_=>?_⟩
    all_goals exact⟨by decide,λ_=>⟨yH (by omega),⟨by decide,by decide⟩,Zy hI.1 (by omega) (by omega),by rw[length_append];exact abp hI.2⟩,λ_=>⟨⟨by decide,by decide⟩,Zz hI.1 (by omega),by omega⟩⟩
   ·have e:=wU h0
    rw[e] at hI
    exact hI.1
 ·refine⟨⟨by omega,by omega⟩,xQ (λi s=>bI i s.1/\s.1.length<=i) ⟨Zx,aav _⟩ (λi x s hi hI=>?_) λs hI=>?_⟩
  ·obtain⟨rfl,hx⟩:=zj hi
   simp only[zC,Bc,Wy,qU,aj,Bd,uW]
   refine(HY c (by omega) (by omega)).imp λr _=>⟨⟨by decide,by decide,by decide⟩,λ_=>?_,λ_=>?_⟩
   all_goals exact⟨by decide,λ_=>⟨yH (by omega),⟨by decide,by decide⟩,Zy hI.1 (by omega) (by omega),by rw[length_append];exact abp hI.2⟩,λ_=>⟨⟨by decide,by decide⟩,Zz hI.1 (by omega),by omega⟩⟩
  ·have e:=wU h0
   rw[e] at hI
   exact hI.1
def Vn(n:Int)(xs:LI):Prop:=xs≠[]/\xs.Nodup/\xs.length<=3/\∀z∈xs,0<=z/\z<n
theorem H_(xu:yx)(h0:1<=n)(h1:n<=60):W (uM xu n) λxss=>(xss.length:Int)=n/\∀xs∈xss,Vn n xs:=by
 unfold uM
 simp only[zC,aj,vL]
 refine⟨⟨by omega,by omega⟩,xQ (λi s=>s.length=i/\∀xs∈s,Vn n xs) ⟨rfl,λxs h=>by cases h⟩ (λi x s hi hI=>?_) λs hI=>?_⟩
 ·obtain⟨rfl,hx⟩:=zj hi
  simp only[zC,aj,vL,qU,uW]
  refine⟨by omega,?_⟩
  have hm:=acv (i:Int) (show max (1:Int) ((xu.ns.length:Int)-4)≠0 by omega)
  refine(Rf xu (by omega)).imp λcell _=>(HY cell (by omega) (by omega)).imp λr hr=>?_
  refine⟨by decide,⟨by omega,by omega⟩,xQ (λj row=>(j=0->row=[])/\(0<j->row≠[])/\row.Nodup/\row.length<=j/\∀z∈row,0<=z/\z<n) ⟨λ_=>rfl,λh=>by omega,nodup_nil,aav _,λz h=>by cases h⟩ (λj y row hj yc=>?_) λrow yc=>?_⟩
  ·obtain⟨rfl,hy⟩:=zj hj
   simp only[zC,aj,qU,Wx,Bd,uW]
   refine⟨.inl ⟨by decide,by decide⟩,(HY _ (by omega) (by omega)).imp λo _=>⟨by omega,(HY _ (by omega) (by omega)).imp λr2 _=>⟨by decide,λ_=>?_,λ_=>?_⟩⟩⟩
   ·have z0:=acv ((i:Int)+1) (show n≠0 by omega)
    have z1:=aci ((i:Int)+1) (show 0<n by omega)
    refine⟨by omega,λq=>⟨yH (by omega),by omega,λ_=>by simp,?_,by rw[length_append];exact abp yc.2.2.2.1,?_⟩,λq=>?_⟩
    ·rw[nodup_append]
     refine⟨yc.2.2.1,by simp,λa ha b hb e=>?_⟩
     rw[mem_singleton.mp hb] at e
     subst e
     simp at q
     exact q ha
    ·intro z hz
     rcases mem_append.mp hz with hz|hz
     ·exact yc.2.2.2.2 z hz
     ·rw[mem_singleton.mp hz];exact⟨z0,z1⟩
    ·simp at q
     exact⟨by omega,λ_ e=>(by rw[e] at q;cases q),yc.2.2.1,by omega,yc.2.2.2.2⟩
   ·have z0:=acv o (show n≠0 by omega)
    have z1:=aci o (show 0<n by omega)
    refine⟨λq=>⟨yH (by omega),by omega,λ_=>by simp,?_,by rw[length_append];exact abp yc.2.2.2.1,?_⟩,λq=>?_⟩
    ·rw[nodup_append]
     refine⟨yc.2.2.1,by simp,λa ha b hb e=>?_⟩
     rw[mem_singleton.mp hb] at e
     subst e
     simp at q
     exact q ha
    ·intro z hz
     rcases mem_append.mp hz with hz|hz
     ·exact yc.2.2.2.2 z hz
     ·rw[mem_singleton.mp hz];exact⟨z0,z1⟩
    ·simp at q
     exact⟨by omega,λ_ e=>(by rw[e] at q;cases q),yc.2.2.1,by omega,yc.2.2.2.2⟩
  ·have e:((rng (1+r%3)).length:Int)=1+r%3:=wU (by omega)
   refine⟨yH (by omega),by rw[length_append,hI.1]<;>rfl,λxs hxs=>?_⟩
   rcases mem_append.mp hxs with q|q
   ·exact hI.2 xs q
   ·rw[mem_singleton.mp q]
    exact⟨yc.2.1 (by omega),yc.2.2.1,by omega,yc.2.2.2.2⟩
 ·have e:=wU (n:=n) (by omega)
  exact⟨by rw[hI.1];exact e,hI.2⟩
structure Gr{C:Addr}(m:aG C)(n:Int):Prop where
 len:(m.steps.length:Int)=n
 pos:1<=n
 few:n<=60
 row:∀xs∈m.steps,xs≠[]/\xs.Nodup/\∀z∈xs,0<=z/\z<n
 src:m.sources=srcs m.steps
def nxt(xss:List LI)(s:Int):LI:=xss.getD s.toNat []
theorem Ia:x∈src xss j↔0<=x/\x<(xss.length:Int)/\(j:Int)∈nxt xss x:=by
 unfold src nxt
 rw[mem_map]
 constructor
 ·rintro⟨k,h,rfl⟩
  rw[mem_filter,mem_range] at h
  have h2:=of_decide_eq_true h.2
  exact⟨adg _,by show(k:Int)<_;omega,h2⟩
 ·intro⟨h0,h1,h2⟩
  refine⟨x.toNat,?_,by show((x.toNat:Nat):Int)=x;omega⟩
  rw[mem_filter,mem_range]
  exact⟨by omega,decide_eq_true h2⟩
theorem Xz{C:Addr}{m:aG C}(g:Gr m n):xI m=some n:=by
 unfold xI
 rw[g.len]
theorem zTr{C:Addr}{m:aG C}(g:Gr m n)(h0:0<=s)(h1:s<n):W (wO m s) λxs=>∀x,x∈xs↔0<=x/\x<n/\s∈nxt m.steps x:=by
 unfold wO
 rw[cG h0,g.src]
 have hl:=g.len
 refine⟨_,zQg (by omega),λx=>?_⟩
 rw[Ia,hl,show((s.toNat:Nat):Int)=s by omega]
theorem Vo{α:Type}{xs:List α}{a d:α}(h:i<xs.length):(xs.set i a).getD j d=if j=i then a else xs.getD j d:=by
 rw[getD_eq_getElem?_getD,getD_eq_getElem?_getD,List.getElem?_set]
 by_cases e:i=j
 ·subst e;simp[h]
 ·rw[if_neg e,if_neg (abv e)]
theorem zP0{C:Addr}{m:aG C}(g:Gr m n)(hx:∀x∈xs,0<=x/\x<n):W (Oo m xs) λfl=>(fl.length:Int)=n/\∀s:Int,0<=s->s<n->fl.getD s.toNat false=decide (s∈xs):=by
 unfold Oo
 have hp:=g.pos
 have hf:=g.few
 simp only[zC,aj,Xz g,vL]
 refine⟨⟨by omega,by omega⟩,?_⟩
 rw[M6 (λ_=>false)]
 have e:=wU (n:=n) (by omega)
 refine⟨yH (by omega),xQ (λi fl=>(fl.length:Int)=n/\∀s:Int,0<=s->s<n->fl.getD s.toNat false=decide (s∈xs.take i)) ⟨by rw[length_map];exact e,λs _ _=>?_⟩ (λi x fl hi hI=>?_) λfl hI=>?_⟩
 ·rw[getD_eq_getElem?_getD,getElem?_map]
  cases(rng n)[s.toNat]?<;>simp
 ·have hxx:=hx x (mem_of_getElem? hi)
  simp only[zC,aj]
  rw[TV hxx.1 (by omega)]
  refine⟨by rw[length_set];exact hI.1,λs s0 s1=>?_⟩
  rw[Vo (by omega)]
  have tk:xs.take (i+1)=xs.take i++[x]:=by rw[take_add_one,hi]<;>rfl
  by_cases q:s.toNat=x.toNat
  ·have:s=x:=by omega
   subst this
   rw[if_pos rfl,tk];simp
  ·have:s≠x:=λz=>q (by rw[z])
   rw[if_neg q,hI.2 s s0 s1,tk]
   simp[this]
 ·rw[take_length] at hI
  exact hI
abbrev dg(d:List (Option Int))(s:Int):Option Int:=d.getD s.toNat none
structure cV(xss:List LI)(through goal:LI)(n:Int)(d:List (Option Int)):Prop where
 len:(d.length:Int)=n
 pos:∀s k,0<=s->s<n->dg d s=some k->0<=k/\k<n
 zero:∀s,0<=s->s<n->(dg d s=some 0↔s∈goal)
 via:∀s k,0<=s->s<n->dg d s=some k->s∉goal->s∈through/\∃t∈nxt xss s,0<=t/\t<n/\dg d t=some (k-1)
 near:∀s t k,0<=s->s<n->0<=t->t<n->s∈through->t∈nxt xss s->dg d t=some k->∃j,dg d s=some j/\j<=k+1
structure Bf(xss:List LI)(pass:Int->Prop)(goal:LI)(n:Int)(d:List (Option Int))(row:LI)(place:Nat):Prop where
 len:(d.length:Int)=n
 rng:∀s∈row,0<=s/\s<n
 nd:row.Nodup
 iff:∀s:Int,0<=s->s<n->((dg d s).isSome=true↔s∈row)
 idx:∀(i:Nat)(s:Int),row[i]?=some s->∃k:Int,dg d s=some k/\0<=k/\k<=i
 mono:∀(i j:Nat)(s t k l:Int),i<=j->row[i]?=some s->row[j]?=some t->dg d s=some k->dg d t=some l->k<=l
 top:∀(j:Nat)(s t k l:Int),row[place]?=some s->row[j]?=some t->dg d s=some k->dg d t=some l->l<=k+1
 zero:∀s:Int,0<=s->s<n->(dg d s=some 0↔s∈goal)
 via:∀(s k:Int),s∈row->dg d s=some k->s∉goal->pass s/\∃t∈nxt xss s,0<=t/\t<n/\dg d t=some (k-1)
 done:∀(i:Nat)(s t k:Int),i<place->row[i]?=some t->dg d t=some k->0<=s->s<n->pass s->t∈nxt xss s->∃j,dg d s=some j/\j<=k+1
theorem zSu{d:List (Option Int)}(hl:(d.length:Int)=n)(h0:0<=s)(h1:s<n)(t0:0<=t):dg (d.set s.toNat v) t=if t=s then v else dg d t:=by
 show(d.set s.toNat v).getD t.toNat none=_
 rw[Vo (by omega)]
 by_cases e:t=s
 ·rw[if_pos e,if_pos (by rw[e])]
 ·rw[if_neg e,if_neg (by omega)]
theorem Rg{row:LI}{i:Nat}{s x:Int}(h:(row++[x])[i]?=some s):row[i]?=some s\/(i=row.length/\s=x):=by
 by_cases q:i<row.length
 ·rw[getElem?_append_left q] at h;exact .inl h
 ·rw[getElem?_append_right (by omega)] at h
  have:i-row.length=0:=by
   have:=xP h
   simp at this
   omega
  rw[this] at h
  exact .inr ⟨by omega,(aa3 h).symm⟩
structure Bm(xss:List LI)(pass:Int->Prop)(goal:LI)(n:Int)(d:List (Option Int))(row:LI)(place:Nat)(t k:Int)(seen:LI):Prop where
 bf:Bf xss pass goal n d row place
 at_:row[place]?=some t
 k_:dg d t=some k
 yg:∀s∈seen,pass s->∃j,dg d s=some j/\j<=k+1
theorem Bm.put(b:Bm xss pass goal n d row place t k seen)(hx0:0<=x)(hx1:x<n)(hp:pass x)(hn:dg d x=none)(ht:t∈nxt xss x) :
  Bm xss pass goal n (d.set x.toNat (some (k+1))) (row++[x]) place t k (seen++[x]):=by
 have B:=b.bf
 have tr:=B.rng t (mem_of_getElem? b.at_)
 have xr:x∉row:=λh=>by have:=(B.iff x hx0 hx1).mpr h;rw[hn] at this;cases this
 have tx:t≠x:=λe=>xr (e▸mem_of_getElem? b.at_)
 obtain⟨k',e1,k0,kp⟩:=B.idx place t b.at_
 rw[b.k_] at e1
 cases e1
 have pl:=xP b.at_
 have old:∀s:Int,0<=s->s≠x->dg (d.set x.toNat (some (k+1))) s=dg d s:=λs s0 q=>by rw[zSu B.len hx0 hx1 s0,if_neg q]
 have new:dg (d.set x.toNat (some (k+1))) x=some (k+1):=by rw[zSu B.len hx0 hx1 hx0,if_pos rfl]
 have inr:∀{i:Nat}{s:Int},row[i]?=some s->0<=s/\s<n/\s≠x:=λh=>by
  have:=B.rng _ (mem_of_getElem? h)
  exact⟨this.1,this.2,λe=>xr (e▸mem_of_getElem? h)⟩
 refine⟨⟨by rw[length_set];exact B.len,λs hs=>?_,?_,λs s0 s1=>?_,λi s h=>?_,λi j s u a l ij h1 h2 h3 h4=>?_,λj s u a l h1 h2 h3 h4=>?_,λs s0 s1=>?_,λs a hs h1 h2=>?_,λi s u a hi h1 h2 s0 s1 ps hu=>?_⟩,?_,?_,λs hs ps=>?_⟩
 ·rcases mem_append.mp hs with q|q
  ·exact B.rng s q
  ·rw[mem_singleton.mp q];exact⟨hx0,hx1⟩
 ·rw[nodup_append]
  exact⟨B.nd,by simp,λa ha c hc e=>by rw[mem_singleton.mp hc] at e;exact xr (e▸ha)⟩
 ·by_cases e:s=x
  ·subst e;rw[new];simp
  ·rw[old s s0 e,B.iff s s0 s1];simp[e]
 ·rcases Rg h with h|⟨rfl,rfl⟩
  ·obtain⟨a1,a2,a3⟩:=inr h
   rw[old s a1 a3];exact B.idx i s h
  ·exact⟨k+1,new,by omega,by omega⟩
 ·rcases Rg h1 with g1|⟨rfl,rfl⟩
  ·obtain⟨a1,a2,a3⟩:=inr g1
   rw[old s a1 a3] at h3
   rcases Rg h2 with g2|⟨rfl,rfl⟩
   ·obtain⟨b1,b2,b3⟩:=inr g2
    rw[old u b1 b3] at h4
    exact B.mono i j s u a l ij g1 g2 h3 h4
   ·rw[new] at h4
    cases h4
    exact B.top i t s k a b.at_ g1 b.k_ h3
  ·rcases Rg h2 with h2|⟨rfl,rfl⟩
   ·have:=xP h2;omega
   ·rw[h3] at h4;cases h4;exact aeg _
 ·have h1':s=t:=by
   rcases Rg h1 with h1|⟨e,_⟩
   ·rw[b.at_] at h1;exact(aa3 h1).symm
   ·omega
  subst h1'
  rw[old s tr.1 tx,b.k_] at h3
  cases h3
  rcases Rg h2 with h2|⟨rfl,rfl⟩
  ·obtain⟨b1,b2,b3⟩:=inr h2
   rw[old u b1 b3] at h4
   exact B.top j s u k l b.at_ h2 b.k_ h4
  ·rw[new] at h4;cases h4;exact aeg _
 ·by_cases e:s=x
  ·subst e
   rw[new]
   constructor
   ·intro q;have q:=aa3 q;omega
   ·intro q;have:=(B.zero s s0 s1).mpr q;rw[hn] at this;cases this
  ·rw[old s s0 e];exact B.zero s s0 s1
 ·rcases mem_append.mp hs with q|q
  ·have sr:=B.rng s q
   have sx:s≠x:=λe=>xr (e▸q)
   rw[old s sr.1 sx] at h1
   obtain⟨p1,u,u1,u2,u3,u4⟩:=B.via s a q h1 h2
   refine⟨p1,u,u1,u2,u3,?_⟩
   rw[old u u2 λe=>by rw[e,hn] at u4;cases u4]
   exact u4
  ·have:=mem_singleton.mp q
   subst this
   rw[new] at h1
   cases h1
   exact⟨hp,t,ht,tr.1,tr.2,by rw[old t tr.1 tx,b.k_,show k+1-1=k by omega]⟩
 ·have h1':row[i]?=some u:=by rw[getElem?_append_left (by omega)] at h1;exact h1
  obtain⟨b1,b2,b3⟩:=inr h1'
  rw[old u b1 b3] at h2
  obtain⟨j,q1,q2⟩:=B.done i s u a hi h1' h2 s0 s1 ps hu
  by_cases e:s=x
  ·subst e;rw[hn] at q1;cases q1
  ·exact⟨j,by rw[old s s0 e];exact q1,q2⟩
 ·rw[getElem?_append_left pl];exact b.at_
 ·rw[old t tr.1 tx];exact b.k_
 ·rcases mem_append.mp hs with q|q
  ·obtain⟨j,q1,q2⟩:=b.yg s q ps
   by_cases e:s=x
   ·subst e;rw[hn] at q1;cases q1
   ·by_cases s0:0<=s
    ·exact⟨j,by rw[old s s0 e];exact q1,q2⟩
    ·refine⟨j,?_,q2⟩
     show(d.set x.toNat (some (k+1))).getD s.toNat none=some j
     have z:s.toNat=0:=by omega
     rw[Vo (by have:=B.len;omega)]
     by_cases w:s.toNat=x.toNat
     ·have xz:x=0:=by omega
      have q1':d.getD s.toNat none=some j:=q1
      have hn':d.getD x.toNat none=none:=hn
      rw[w] at q1'
      rw[q1'] at hn'
      cases hn'
     ·rw[if_neg w];exact q1
  ·rw[mem_singleton.mp q];exact⟨k+1,new,aeg _⟩
theorem zEv{C:Addr}{m:aG C}(g:Gr m n){goal:LI}(ht:∀x∈through,0<=x/\x<n)(hg:goal.Nodup/\∀x∈goal,0<=x/\x<n):W (xL m through goal) (cV m.steps through goal n):=by
 unfold xL
 have hp:=g.pos
 have hf:=g.few
 simp only[zC,aj,Xz g,vL]
 refine(zP0 g ht).imp λfl ⟨fl1,fl2⟩=>⟨⟨by omega,by omega⟩,?_⟩
 rw[M6 (λ_=>(none:Option Int))]
 have e:=wU (n:=n) (by omega)
 refine⟨yH (by omega),xQ (λi (d:List (Option Int))=>(d.length:Int)=n/\∀s:Int,0<=s->s<n->dg d s=if s∈goal.take i then some 0 else none) ⟨by rw[length_map];exact e,λs _ _=>?_⟩ (λi x d hi hI=>?_) λd hd=>?_⟩
 ·show(List.map (λ_=>(none:Option Int)) (rng n)).getD s.toNat none=_
  rw[getD_eq_getElem?_getD,getElem?_map]
  cases(rng n)[s.toNat]?<;>simp
 ·have hx:=hg.2 x (mem_of_getElem? hi)
  simp only[zC,aj]
  rw[TV hx.1 (by omega)]
  refine⟨by rw[length_set];exact hI.1,λs s0 s1=>?_⟩
  have tk:goal.take (i+1)=goal.take i++[x]:=by rw[take_add_one,hi]<;>rfl
  rw[zSu hI.1 hx.1 hx.2 s0,hI.2 s s0 s1,tk]
  by_cases q:s=x<;>simp[q]
 rw[take_length] at hd
 have base:Bf m.steps (· ∈ through) goal n d goal 0:=by
  have z:∀s:Int,0<=s->s<n->∀k,dg d s=some k->k=0/\s∈goal:=λs s0 s1 k h=>by
   rw[hd.2 s s0 s1] at h
   split at h
   ·rename_i q;cases h;exact⟨rfl,q⟩
   ·cases h
  refine⟨hd.1,hg.2,hg.1,λs s0 s1=>?_,λi s h=>?_,λi j s t k l _ h1 h2 h3 h4=>?_,λj s t k l h1 h2 h3 h4=>?_,λs s0 s1=>?_,λs k hs h1 h2=>absurd hs h2,λi s t k hi=>by omega⟩
  ·rw[hd.2 s s0 s1];by_cases q:s∈goal<;>simp[q]
  ·have hs:=mem_of_getElem? h
   have:=hg.2 s hs
   exact⟨0,by rw[hd.2 s this.1 this.2,if_pos hs],aeg _,by omega⟩
  ·have a1:=hg.2 s (mem_of_getElem? h1)
   have a2:=hg.2 t (mem_of_getElem? h2)
   have:=(z s a1.1 a1.2 k h3).1
   have:=(z t a2.1 a2.2 l h4).1
   omega
  ·have a1:=hg.2 s (mem_of_getElem? h1)
   have a2:=hg.2 t (mem_of_getElem? h2)
   have:=(z s a1.1 a1.2 k h3).1
   have:=(z t a2.1 a2.2 l h4).1
   omega
  ·rw[hd.2 s s0 s1];by_cases q:s∈goal<;>simp[q]
 have aaf:n.toNat<=60:=by omega
 refine zS9 (λs=>∃pl:Nat,s.2.2=(pl:Int)/\Bf m.steps (· ∈ through) goal n s.1 s.2.1 pl) (λs=>n.toNat-s.2.2.toNat) ⟨0,rfl,base⟩ (show n.toNat-(0:Int).toNat<fuel from aa5 (Nat.sub_le _ _) (aa5 aaf (by decide))) λs ⟨pl,hpl,B⟩=>?_
 rw[aj]
 have rl:s.2.1.length<=n.toNat:=wS B.nd λx hx=>by have:=B.rng x hx;omega
 by_cases lt:s.2.2<(s.2.1.length:Int)
 ·rw[decide_eq_true lt,if_pos rfl]
  simp only[zC,aj]
  rw[cG (by omega)]
  have pll:pl<s.2.1.length:=by omega
  have e1:s.2.2.toNat=pl:=by omega
  rw[e1]
  refine⟨_,aas pll,?_⟩
  have hat:s.2.1[pl]?=some s.2.1[pl]:=aas pll
  generalize s.2.1[pl]=t at hat
  have tr:=B.rng t (mem_of_getElem? hat)
  obtain⟨k,hk,k0,k1⟩:=B.idx pl t hat
  refine(zTr g tr.1 tr.2).imp λxs hxs=>?_
  refine xQ (λi (r:List (Option Int)×LI)=>Bm m.steps (· ∈ through) goal n r.1 r.2 pl t k (xs.take i)) ⟨B,hat,hk,λs hs=>by cases hs⟩ (λi x r hi b=>?_) λr b=>?_
  ·have hx:=(hxs x).mp (mem_of_getElem? hi)
   have tk:xs.take (i+1)=xs.take i++[x]:=by rw[take_add_one,hi]<;>rfl
   rw[tk]
   simp only[zC,aj]
   rw[cG hx.1]
   have fx:=fl2 x hx.1 hx.2.1
   have fl3:x.toNat<fl.length:=by omega
   refine⟨_,aas fl3,?_⟩
   rw[getD_eq_getElem?_getD,aas fl3] at fx
   have fx:fl[x.toNat]=decide (x∈through):=fx
   rw[fx]
   have dl:x.toNat<r.1.length:=by have:=b.bf.len;omega
   have dx:dg r.1 x=r.1[x.toNat]:=by show r.1.getD x.toNat none=_;rw[getD_eq_getElem?_getD,aas dl];rfl
   by_cases px:x∈through
   ·rw[decide_eq_true px,if_pos rfl,zC,cG hx.1]
    refine⟨_,aas dl,?_⟩
    rw[<-dx,aj]
    cases hdx:dg r.1 x with
    |none =>
     simp only[Option.isNone_none,if_true,zC,aj]
     have tr':t.toNat<r.1.length:=by have:=b.bf.len;omega
     rw[cG tr.1]
     refine⟨_,aas tr',?_⟩
     have ek:r.1[t.toNat]=some k:=by
      have:=b.k_
      have z:r.1.getD t.toNat none=some k:=this
      rw[getD_eq_getElem?_getD,aas tr'] at z
      exact z
     rw[ek,aj,TV hx.1 (by have:=b.bf.len;omega),uW]
     have rl2:r.2.length<=n.toNat:=wS b.bf.nd λx hx=>by have:=b.bf.rng x hx;omega
     exact⟨yH (by omega),b.put hx.1 hx.2.1 px hdx hx.2.2⟩
    |some j =>
     simp only[Option.isNone_some,aa1,if_false,aj]
     refine⟨b.bf,b.at_,b.k_,λs hs ps=>?_⟩
     rcases mem_append.mp hs with q|q
     ·exact b.yg s q ps
     ·rw[mem_singleton.mp q]
      have hin:x∈r.2:=(b.bf.iff x hx.1 hx.2.1).mp (by rw[hdx];rfl)
      obtain⟨ii,hii⟩:=mem_iff_getElem?.mp hin
      exact⟨j,hdx,b.bf.top ii t x k j b.at_ hii b.k_ hdx⟩
   ·rw[decide_eq_false px,if_neg (by decide),aj]
    simp only[aa1,if_false,aj]
    refine⟨b.bf,b.at_,b.k_,λs hs ps=>?_⟩
    rcases mem_append.mp hs with q|q
    ·exact b.yg s q ps
    ·rw[mem_singleton.mp q] at ps;exact absurd ps px
  ·rw[take_length] at b
   refine⟨⟨pl+1,by show s.2.2+1=_;omega,?_⟩,?_⟩
   ·have B':=b.bf
    refine⟨B'.len,B'.rng,B'.nd,B'.iff,B'.idx,B'.mono,λj u v a l h1 h2 h3 h4=>?_,B'.zero,B'.via,λi u v a hi h1 h2 u0 u1 pu hu=>?_⟩
    ·have q1:=B'.mono pl (pl+1) t u k a (by omega) b.at_ h1 b.k_ h3
     have q2:=B'.top j t v k l b.at_ h2 b.k_ h4
     omega
    ·by_cases q:i=pl
     ·subst q
      rw[b.at_] at h1
      cases h1
      rw[b.k_] at h2
      cases h2
      exact b.yg u ((hxs u).mpr ⟨u0,u1,hu⟩) pu
     ·exact B'.done i u v a (by omega) h1 h2 u0 u1 pu hu
   ·show n.toNat-(s.2.2+1).toNat<n.toNat-pl
    omega
 ·rw[decide_eq_false lt,if_neg (by decide)]
  have all:∀t∈s.2.1,∃i,i<pl/\s.2.1[i]?=some t:=λt h=>by
   obtain⟨i,hi⟩:=mem_iff_getElem?.mp h
   exact⟨i,by have:=xP hi;omega,hi⟩
  refine⟨B.len,λu k u0 u1 h=>?_,B.zero,λu k u0 u1 h hu=>?_,λu t k u0 u1 t0 t1 hu ht hk=>?_⟩
  ·have hin:=(B.iff u u0 u1).mp (by rw[h];rfl)
   obtain⟨i,hi⟩:=mem_iff_getElem?.mp hin
   obtain⟨k',e1,e2,e3⟩:=B.idx i u hi
   rw[h] at e1
   cases e1
   have:=xP hi
   exact⟨e2,by omega⟩
  ·exact B.via u k ((B.iff u u0 u1).mp (by rw[h];rfl)) h hu
  ·obtain⟨i,h1,h2⟩:=all t ((B.iff t t0 t1).mp (by rw[hk];rfl))
   exact B.done i u t k h1 h2 hk u0 u1 hu ht
theorem DP{d:List (Option Int)}(hl:(d.length:Int)=n)(h0:0<=s)(h1:s<n):d[s.toNat]?=some (dg d s):=by
 have:s.toNat<d.length:=by omega
 show _=some (d.getD s.toNat none)
 rw[getD_eq_getElem?_getD,aas this]
 rfl
theorem Ib{xss:List LI}(hl:(xss.length:Int)=n)(h0:0<=s)(h1:s<n):xss[s.toNat]?=some (nxt xss s):=by
 have:s.toNat<xss.length:=by omega
 unfold nxt
 rw[getD_eq_getElem?_getD,aas this]
 rfl
theorem zQs(n:Int):(rng n).Pairwise (· < ·):=by
 unfold rng
 rw[List.pairwise_map]
 exact List.pairwise_lt_range.imp λh=>by show(_:Int)<_;simpa using h
def pick(n:Int)(p:Int->Bool):LI:=(rng n).filter p
theorem eZ:s∈pick n p↔0<=s/\s<n/\p s=true:=by
 unfold pick
 rw[mem_filter,gq,and_assoc]
theorem Rh(n:Int)(p:Int->Bool):bI n (pick n p):=⟨(zQs n).filter p,λx hx=>by have:=eZ.mp hx;omega⟩
theorem zM2(p:Int->Bool)(h:n<=60):(pick n p).length<=60:=by
 unfold pick
 refine aa4 (length_filter_le _ _) ?_
 unfold rng
 rw[length_map,length_range]
 omega
theorem zNi{d:List (Option Int)}(hl:(d.length:Int)=n):Cp d=(rng n).map λs=>(s,dg d s):=by
 refine List.ext_getElem? λi=>?_
 have e:n.toNat=d.length:=by omega
 by_cases q:i<d.length
 ·have h1:(rng n)[i]?=some (i:Int):=by unfold rng;rw[getElem?_map,getElem?_range (by omega)];rfl
  rw[getElem?_map,h1]
  unfold Cp
  rw[getElem?_zip_eq_some (z:=((i:Int),dg d i))|>.mpr ⟨?_,?_⟩]
  ·rfl
  ·rw[getElem?_map,getElem?_range q];rfl
  ·show d[i]?=some (d.getD ((i:Int).toNat) none)
   rw[abr,getD_eq_getElem?_getD,aas q];rfl
 ·rw[ab3 (by rw[zKg];omega),ab3 (by rw[length_map];unfold rng;rw[length_map,length_range];omega)]
theorem Ie:W (dput kvs k v) Q↔kvs.length<cap/\Q (pK kvs (abm k) v):=by
 unfold dput
 rw[Bd]
 constructor
 ·intro⟨h1,h2⟩
  by_cases h:kvs.length<cap
  ·exact⟨h,aj.mp (h1 h)⟩
  ·exact absurd (h2 h) (by rw[Bb];exact id)
 ·intro⟨h,q⟩
  exact⟨λ_=>aj.mpr q,λz=>absurd h z⟩
theorem zV1:W (T8 kvs k v) Q↔kvs.length<cap/\Q (pK kvs (ab8 k) v):=by
 unfold T8
 rw[Bd]
 constructor
 ·intro⟨h1,h2⟩
  by_cases h:kvs.length<cap
  ·exact⟨h,aj.mp (h1 h)⟩
  ·exact absurd (h2 h) (by rw[Bb];exact id)
 ·intro⟨h,q⟩
  exact⟨λ_=>aj.mpr q,λz=>absurd h z⟩
def yh(n:Int)(xs:LI):Prop:=xs.Nodup/\xs.length<=100/\∀z∈xs,0<=z/\z<n
theorem zPz(h:0<=z/\z<n):UW z n=some true:=by
 unfold UW
 rw[if_pos rfl,if_pos (show(!false)=true from rfl),decide_eq_true h.1,if_pos rfl,decide_eq_true h.2]
theorem zCk(h:yh n xs)(x:Str):W (xY xs n x) λ_=>True:=by
 unfold xY
 rw[zC,aj,zC,zC,aj]
 refine xQ (λi s=>s.length<=i/\∀z,(dO s z).isSome=true->z∈xs.take i) ⟨abk _,λz hz=>by cases hz⟩ (λi y s hi hI=>?_) λs _=>aj.mpr trivial
 have il:=xP hi
 rw[zPz (h.2.2 y (mem_of_getElem? hi)),zC,zC,zC,aj,aj,ab4,if_neg (by decide),aj,zC]
 have hn:(dO s y).isSome=false:=by
  cases q:(dO s y).isSome with
  |false=>rfl
  |true=>exact absurd (hI.2 y q) (zGw h.1 hi)
 have hn':(dO (Dc.mk s).kv y).isSome=false:=hn
 rw[hn',if_neg (by decide),aj,zC,Ie]
 have l1:=h.2.1
 refine⟨yH (by omega),?_⟩
 rw[aj]
 have l2:=zWh s (abm y) true
 refine⟨by omega,λz hz=>?_⟩
 rw[Wt hi]
 have e:dO (pK s (abm y) true) z=if(abm z:Key)=abm y then some true else dO s z:=zWm s (abm y) (abm z) true
 rw[e] at hz
 by_cases q:(abm z:Key)=abm y
 ·exact .inr (afv q)
 ·rw[if_neg q] at hz
  exact .inl (hI.2 z hz)
theorem Ke(a:Str){i:Nat}(h:i<1000):W (Nh a (i:Int)) λ_=>True:=by
 unfold Nh
 rw[if_pos (zRt (by omega)),aj]
 trivial
theorem zN6{xss:List LI}(hl:(xss.length:Int)=n)(h0:1<=n)(h1:n<=60)(h:∀xs∈xss,xs≠[]/\yh n xs):W (vW xss) λ_=>True:=by
 unfold vW
 rw[zC,aj,zC,zC,hl,decide_eq_false (by omega),if_neg (by decide),aj,decide_eq_false (by omega),if_neg (by decide),aj,zC,zC,aj]
 refine xQ (λ_ _=>True) trivial (λi y s hi _=>?_) λs _=>aj.mpr trivial
 obtain⟨e1,e2⟩:=Zg hi
 have il:=xP e2
 obtain⟨ne,ok⟩:=h y.2 (mem_of_getElem? e2)
 rw[e1]
 simp only[zC]
 refine(Ke "steps of stand " (i:=i) (by omega)).imp λt _=>?_
 rw[aj,aj,aj]
 refine(zCk ok t).imp λ_ _=>?_
 rw[decide_eq_false (λz=>ne (length_eq_zero_iff.mp (by omega))),if_neg (by decide),aj,aj]
 trivial
theorem zP1{xss:List LI}(hl:xss.length<=100)(h:∀xs∈xss,yh n xs):W (uO xss n) λ_=>True:=by
 unfold uO
 rw[zC,zC,aj]
 refine xQ (λ_ _=>True) trivial (λi y s hi _=>?_) λs _=>aj.mpr trivial
 obtain⟨e1,e2⟩:=Zg hi
 have il:=xP e2
 rw[e1]
 simp only[zC]
 refine(Ke "fair set " (i:=i) (by omega)).imp λt _=>?_
 rw[aj,aj,aj]
 refine(zCk (h y.2 (mem_of_getElem? e2)) t).imp λ_ _=>?_
 rw[aj]
 trivial
def zTi(n:Int)(ms:List (Str×LI)):Prop:=(ms.map (·.1)).Nodup/\ms.length<=100/\∀m∈ms,Ol m.1=some true/\m.1.length<=1000/\yh n m.2
theorem zN7(h:zTi n ms):W (vX ms n) λ_=>True:=by
 unfold vX
 rw[zC,aj,zC,zC,aj]
 refine xQ (λi s=>s.length<=i/\∀z,(JR s z).isSome=true->z∈(ms.map (·.1)).take i) ⟨abk _,λz hz=>by cases hz⟩ (λi y s hi hI=>?_) λs _=>aj.mpr trivial
 have il:=xP hi
 have hi':(ms.map (·.1))[i]?=some y.1:=by rw[getElem?_map,hi];rfl
 obtain⟨nm,ln,ok⟩:=h.2.2 y (mem_of_getElem? hi)
 have nin:y.1∉(ms.map (·.1)).take i:=λhz=>by
  obtain⟨j,hj⟩:=mem_iff_getElem?.mp hz
  have hji:j<i:=by
   have:=xP hj
   rw[length_take] at this
   omega
  rw[getElem?_take_of_lt hji] at hj
  have a1:=xP hi'
  have a2:=xP hj
  rw[aas a1] at hi'
  rw[aas a2] at hj
  have e:(ms.map (·.1))[j]=(ms.map (·.1))[i]:=(aa3 hj).trans (aa3 hi').symm
  have:=(getElem_inj h.1).mp e
  omega
 rw[nm,zC,zC,zC,aj,aj,ab4,if_neg (by decide),aj,zC]
 have hn:(JR (Dc.mk s).kv y.1).isSome=false:=by
  cases q:(JR s y.1).isSome with
  |false=>rfl
  |true=>exact absurd (hI.2 y.1 q) nin
 rw[hn,if_neg (by decide),aj,zC,zV1]
 have l1:=h.2.1
 refine⟨yH (by omega),?_⟩
 simp only[zC]
 have fs:W (Qx "mark " y.1) λ_=>True:=by
  unfold Qx
  rw[if_pos ln,aj]
  trivial
 refine fs.imp λt _=>?_
 rw[aj,aj,aj]
 refine(zCk ok t).imp λ_ _=>?_
 rw[aj]
 have l2:=zWh s (ab8 y.1) true
 refine⟨by omega,λz hz=>?_⟩
 rw[Wt hi']
 have e:JR (pK s (ab8 y.1) true) z=if(ab8 z:Key)=ab8 y.1 then some true else JR s z:=zWm s (ab8 y.1) (ab8 z) true
 rw[e] at hz
 by_cases q:(ab8 z:Key)=ab8 y.1
 ·exact .inr (Sum.inr.inj q)
 ·rw[if_neg q] at hz
  exact .inl (hI.2 z hz)
theorem zMn{xss:List LI}(h:xss.length<=100):QW xss=some xss:=by
 have q:W (QW xss) (· = xss):=by
  unfold QW
  rw[zC,aj,M6 (λx=>x),map_id']
  exact⟨yH (by omega),rfl⟩
 obtain⟨a,e,rfl⟩:=q
 exact e
theorem Vp(C:Addr){xss:List LI}{mo:Option Eu}{fo:Option LLI}(hl:(xss.length:Int)=n)(h0:1<=n)(h1:n<=60)(h:∀xs∈xss,xs≠[]/\yh n xs)(hm:zTi n (mo.getD []))(hf:(fo.getD []).length<=100/\∀xs∈fo.getD [],yh n xs) :
  W (U0 C xss mo fo) λm=>Gr m n/\m.steps=xss/\m.marks=mo.getD []/\m.fair=fo.getD []:=by
 unfold U0 WW
 rw[zC]
 refine(zN6 hl h0 h1 h).imp λ_ _=>?_
 rw[zC,hl]
 refine(zN7 hm).imp λ_ _=>?_
 rw[zC]
 refine(zP1 hf.1 hf.2).imp λ_ _=>?_
 have m1:=hm.2.1
 rw[zMn (by omega),zC,aj,zC,M6 (λx:Str×LI=>(x.1,x.2))]
 refine⟨yH (by omega),?_⟩
 have e:(mo.getD []).map (λx:Str×LI=>(x.1,x.2))=mo.getD []:=map_id' _
 rw[zMn hf.1,zC,aj,zC]
 have hv:QV xss=some (srcs xss):=by
  unfold QV
  rw[if_pos ⟨by omega,rfl,λxs hx=>by obtain⟨a,b,c,d⟩:=h xs hx;exact⟨a,b,c,λz hz=>by have:=d z hz;omega⟩⟩]
 rw[hv,aj,aj,e]
 exact⟨⟨hl,h0,h1,λxs hx=>by obtain⟨a,b,c,d⟩:=h xs hx;exact⟨a,b,d⟩,rfl⟩,rfl,rfl,rfl⟩
theorem zH0(h:bI n xs)(qX:n<=60):yh n xs:=⟨h.nodup,by
 by_cases hn:0<=n
 ·have:=wS (n:=n.toNat) h.nodup λx hx=>by have:=h.2 x hx;omega
  omega
 ·cases xs with
  |nil=>exact abk _
  |cons x xs=>have:=h.2 x mem_cons_self;omega,h.2⟩
theorem Ig(h:Vn n xs):xs≠[]/\yh n xs:=⟨h.1,h.2.1,by have:=h.2.2.1;omega,h.2.2.2⟩
theorem zF2(hx:0<=x)(hy:0<=y):abh x y=((x.toNat&&&y.toNat:Nat):Int):=by
 unfold abh
 rw[decide_eq_true hx,decide_eq_true hy]
theorem zNs(hx:0<=x)(hy:0<=y):adi x y=((x.toNat|||y.toNat:Nat):Int):=by
 have h1:¬0<=adf x:=by unfold adf;omega
 have h2:¬0<=adf y:=by unfold adf;omega
 have nn:∀z:Int,adf (adf z)=z:=λz=>by unfold adf;omega
 unfold adi abh
 rw[decide_eq_false h1,decide_eq_false h2]
 dsimp only
 rw[nn,nn,nn]
def bt(x t:Int):Bool:=x.toNat.testBit t.toNat
theorem Kf(hx:0<=x)(hy:0<=y)(t:Int):bt (adi x y) t=(bt x t||bt y t):=by
 unfold bt
 rw[zNs hx hy,abr,Nat.testBit_or]
theorem zWx(hx:0<=x)(hy:0<=y)(t:Int):bt (abh x y) t=(bt x t&&bt y t):=by
 unfold bt
 rw[zF2 hx hy,abr,Nat.testBit_and]
theorem Kg(hx:0<=x)(hy:0<=y):0<=adi x y:=by rw[zNs hx hy];exact adg _
theorem zW0(hx:0<=x)(hy:0<=y):0<=abh x y:=by rw[zF2 hx hy];exact adg _
theorem Ih(t:Int):bt 0 t=false:=by unfold bt;simp
theorem Pn(ht:0<=t)(hu:0<=u):bt (1*2^t.toNat) u=decide (u=t):=by
 unfold bt
 rw[Int.one_mul,show((2:Int)^t.toNat).toNat=2^t.toNat by
  rw[show((2:Int)^t.toNat)=((2^t.toNat:Nat):Int) by simp]
  exact abr _,Nat.testBit_two_pow]
 rw[abw,decide_eq_true_iff,decide_eq_true_iff]
 omega
theorem zQm{x:Int}(hx:0<=x)(k:Nat):0<=x/2^k:=Int.ediv_nonneg hx (Int.le_of_lt (Int.pow_pos (by decide)))
theorem Ii{x:Int}(hx:0<=x)(k:Nat):(x/2^k).toNat=x.toNat>>>k:=by
 obtain⟨m,rfl⟩:=Int.eq_ofNat_of_zero_le hx
 rw[Nat.shiftRight_eq_div_pow,abr]
 have:((m:Int)/2^k)=((m/2^k:Nat):Int):=by simp
 rw[this,abr]
theorem zS4{t:Int}(hx:0<=x):bt (x/2^t.toNat) 0=bt x t:=by
 unfold bt
 rw[Ii hx,Int.toNat_zero,Nat.testBit_shiftRight]
 rfl
theorem zWw(hx:0<=x):(abh x 1 != 0)=bt x 0:=by
 rw[zF2 hx (by decide)]
 unfold bt
 rw[Nat.testBit]
 simp only[Int.toNat_zero,Nat.shiftRight_zero,show(1:Int).toNat=1 from rfl]
 rw[Nat.and_comm]
 rw[abw]
 simp only[bne_iff_ne,ne_eq]
 omega
theorem zV5(h:∀x∈xs,0<=x/\x<n)(qX:n<=60):W (QX xs) λb=>0<=b/\∀t:Int,0<=t->bt b t=decide (t∈xs):=by
 unfold QX
 rw[zC,aj,zC,zC,aj]
 refine xQ (λi s=>0<=s/\∀t:Int,0<=t->bt s t=decide (t∈xs.take i)) ⟨by decide,λt _=>by rw[Ih];simp⟩ (λi x s hi hI=>?_) λs hI=>?_
 ·obtain⟨h0,hb⟩:=hI
  have xb:=h x (mem_of_getElem? hi)
  have e:zp 1 x=some (1*2^x.toNat):=by unfold zp;rw[if_pos ⟨xb.1,by omega,by decide⟩]
  have tk:xs.take (i+1)=xs.take i++[x]:=by rw[take_add_one,hi]<;>rfl
  have p0:(0:Int)<=1*2^x.toNat:=by rw[Int.one_mul];exact Int.le_of_lt (Int.pow_pos (by decide))
  rw[zC,zC,e,aj,aj,aj]
  refine⟨Kg h0 p0,λt ht=>?_⟩
  rw[Kf h0 p0,hb t ht,Pn xb.1 ht,tk,abw]
  simp
 ·rw[aj]
  rw[take_length] at hI
  exact hI
def rb(rows:LI)(s t:Int):Bool:=bt (rows.getD s.toNat 0) t
theorem Vq{rows:LI}(hl:(rows.length:Int)=n)(h0:0<=s)(h1:s<n):L2.aO rows s=some (rows.getD s.toNat 0):=by
 rw[M5 h0,getD_eq_getElem?_getD,aas (by omega)]
 rfl
def Kh(rows:LI):Prop:=∀i:Nat,0<=rows.getD i 0
theorem zNr{rows:LI}{n s t:Int}(hl:(rows.length:Int)=n)(nn:Kh rows)(h0:0<=s)(h1:s<n)(t0:0<=t) :
  ((((L2.aO rows s).bind λa=>jM a t).bind λa=>some (abh a 1)).bind λa=>some (a != 0))=some (rb rows s t):=by
 rw[Vq hl h0 h1]
 show(((jM _ t).bind _).bind _)=_
 unfold jM
 rw[if_pos t0]
 show some (abh (rows.getD s.toNat 0/2^t.toNat) 1 != 0)=_
 rw[zWw (zQm (nn _) _),zS4 (nn _)]
 rfl
theorem zTt{rows:LI}{n s t:Int}(hl:(rows.length:Int)=n)(nn:Kh rows)(h0:0<=s)(h1:s<n)(t0:0<=t)(t1:t<n) :
  (((((L2.aO rows s).bind λa=>jM a t).bind λa=>((L2.aO rows t).bind λb=>jM b s).bind λb=>some (abh a b)).bind λa=>some (abh a 1)).bind λa=>some (a != 0))=some (rb rows s t&&rb rows t s):=by
 rw[Vq hl h0 h1,Vq hl t0 t1]
 show((((jM _ t).bind λa=>(jM _ s).bind _).bind _).bind _)=_
 unfold jM
 rw[if_pos t0,if_pos h0]
 show some (abh (abh (rows.getD s.toNat 0/2^t.toNat) (rows.getD t.toNat 0/2^s.toNat)) 1 != 0)=_
 have a1:=zQm (nn s.toNat) t.toNat
 have a2:=zQm (nn t.toNat) s.toNat
 rw[zWw (zW0 a1 a2),zWx a1 a2,zS4 (nn _),zS4 (nn _)]
 rfl
theorem zWc{rows:LI}(hl:(rows.length:Int)=n)(x0:0<=x)(x1:x<n)(s0:0<=s):rb (rows.set x.toNat v) s t=if s=x then bt v t else rb rows s t:=by
 unfold rb
 rw[Vo (by omega)]
 by_cases e:s=x
 ·subst e;rw[if_pos rfl,if_pos rfl]
 ·rw[if_neg (by omega),if_neg e]
theorem zWi{rows:LI}(hl:(rows.length:Int)=n)(x0:0<=x)(x1:x<n)(nn:Kh rows)(hv:0<=v):Kh (rows.set x.toNat v):=λi=>by
 rw[Vo (by omega)]
 split
 ·exact hv
 ·exact nn i
inductive jm(xss:List LI)(U:LI):Int->Int->Prop
 |one {s t:Int}:t∈nxt xss s->t∈U->jm xss U s t
 |step {s u t:Int}:u∈nxt xss s->u∈U->jm xss U u t->jm xss U s t
theorem jm.trans(h:jm xss U s t)(k:jm xss U t u):jm xss U s u:=by
 induction h with
 |one a b=>exact .step a b k
 |step a b _ ih=>exact .step a b (ih k)
theorem jm.mem(h:jm xss U s t):t∈U:=by
 induction h with
 |one _ b=>exact b
 |step _ _ _ ih=>exact ih
theorem jm.mono{xss:List LI}{U V:LI}{s t:Int}(h:jm xss U s t)(k:∀x∈U,x∈V):jm xss V s t:=by
 induction h with
 |one a b=>exact .one a (k _ b)
 |step a b _ ih=>exact .step a (k _ b) ih
structure oO(xss:List LI)(U rows:LI):Prop where
 nn:Kh rows
 edge:∀s∈U,∀t∈U,t∈nxt xss s->rb rows s t=true
 sound:∀s∈U,∀t:Int,0<=t->rb rows s t=true->jm xss U s t
 trans:∀s∈U,∀u∈U,∀t:Int,0<=t->rb rows s u=true->rb rows u t=true->rb rows s t=true
theorem zNn{α β:Type}{c:α->Option Bool}{f:α->Option β}{p:α->Bool}{g:α->β}:∀{xs:List α},(∀x∈xs,c x=some (p x))->(∀x∈xs,f x=some (g x))->wG c f xs=some ((xs.filter p).map g)
 |[],_,_=>rfl
 |x::xs,hc,hf=>by
  have ih:=zNn (xs:=xs) (λy hy=>hc y (mem_cons_of_mem _ hy)) λy hy=>hf y (mem_cons_of_mem _ hy)
  show((c x).bind λb=>if b=true then(f x).bind λy=>(wG c f xs).bind λys=>some (y::ys) else wG c f xs)=_
  rw[hc x mem_cons_self,bnd,hf x mem_cons_self,ih,filter_cons]
  cases p x with
  |true=>rw[if_pos rfl,if_pos rfl];rfl
  |false=>rw[if_neg (by decide),if_neg (by decide)]
theorem wJ{α β:Type}{c:α->Option Bool}{f:α->Option β}{p:α->Bool}{g:α->β}{xs:List α}(hl:xs.length<cap)(hc:∀x∈xs,c x=some (p x))(hf:∀x∈xs,f x=some (g x)):yX c f xs=some ((xs.filter p).map g):=by
 unfold yX
 rw[if_pos hl]
 exact zNn hc hf
theorem zWb{C:Addr}{m:aG C}(g:Gr m n)(h0:0<=s)(h1:s<n):nxt m.steps s∈m.steps:=mem_of_getElem? (Ib g.len h0 h1)
theorem zMl{C:Addr}{m:aG C}(g:Gr m n)(h0:0<=s)(h1:s<n):W (xJ m s) λxs=>xs.length<=60/\∀x,x∈xs↔x∈nxt m.steps s:=by
 unfold xJ
 have f:=g.few
 obtain⟨_,nd,rg⟩:=g.row _ (zWb g h0 h1)
 have l:=wS (n:=n.toNat) nd λx hx=>by have:=rg x hx;omega
 rw[zC,cG h0]
 refine⟨_,Ib g.len h0 h1,?_⟩
 unfold GP
 rw[if_pos (by omega),aj]
 refine⟨by rw[(uG _).length_eq];omega,λx=>(uG _).mem_iff⟩
def dl(xs:LI):List (Key×Bool):=xs.map λx=>((abm x:Key),true)
theorem Vr:∀(xs:LI)(x:Int),(dO (dl xs) x).isSome=decide (x∈xs)
 |[],x=>by simp[dl,dO,gK]
 |y::xs,x=>by
  have ih:=Vr xs x
  unfold dO gK dl at ih ⊢
  rw[map_cons,find?_cons]
  by_cases e:y=x
  ·subst e;simp
  ·rw[decide_eq_false (show¬((abm y:Key),true).1=(abm x:Key) fromλz=>e (afv z))]
   rw[ih,abw,decide_eq_true_eq,decide_eq_true_eq,mem_cons]
   exact⟨.inr,λh=>h.resolve_left λz=>e z.symm⟩
theorem zWs(h:x∉xs):pK (dl xs) (abm x) true=dl (xs++[x]):=by
 unfold pK
 have:((dl xs).any λkv=>decide (kv.1=(abm x:Key)))=false:=by
  rw[zSc]
  have:=Vr xs x
  rw[decide_eq_false h] at this
  exact this
 rw[if_neg (by rw[this];decide)]
 unfold dl
 rw[map_append]
 rfl
theorem XC(xs:LI):(dl xs).length=xs.length:=length_map ..
theorem zW2:W (dput kvs k v) Q↔kvs.length<cap/\Q (pK kvs (abm k) v):=by
 unfold dput
 split
 ·rename_i h;rw[aj];exact⟨λq=>⟨h,q⟩,λq=>q.2⟩
 ·rename_i h;rw[Bb];exact⟨abq,λq=>h q.1⟩
section
variable{S α β:Type}
theorem zTc{step:S->α->Option (Out S β)}{Q:Out S β->Prop}(I:Nat->S->Prop)(h0:I 0 s)(hs:∀i x s,xs[i]?=some x->I i s->W (step s x) λo=>(∃s',o=.nx s'/\I (i+1) s')\/∃b,o=.rt b/\Q (.rt b))(hd:∀s,I xs.length s->Q (.nx s)):W (uB step xs s) Q:=by
 have key:∀(ys:List α)(i:Nat)(s:S),(∀j x,ys[j]?=some x->xs[i+j]?=some x)->i+ys.length=xs.length->I i s->W (uB step ys s) Q:=by
  intro ys
  induction ys with
  |nil=>intro i s _ hl h;exact⟨.nx s,rfl,hd s ((show i=xs.length from hl)▸h)⟩
  |cons y ys ih =>
   intro i s hy hl h
   rw[zG4,zC]
   refine(hs i y s (hy 0 y rfl) h).imp ?_
   rintro o (⟨s',rfl,h'⟩|⟨b,rfl,h'⟩)
   ·refine ih (i+1) s' (λj x hx=>?_) (by rw[length_cons] at hl;omega) h'
    have:=hy (j+1) x (by simpa using hx)
    rw[show i+1+j=i+(j+1) by omega]
    exact this
   ·exact⟨.rt b,rfl,h'⟩
 exact key xs 0 s (λj x h=>by rw[ac7];exact h) (ac7 _) h0
end
theorem Vs{α:Type}{xs:List α}{x:α}(h:xs[i]?=some x):xs.take (i+1)=xs.take i++[x]:=by rw[take_add_one,h]<;>rfl
theorem Kl{xs:LI}{i:Nat}{x s:Int}(h:xs[i]?=some x):s∈xs.take (i+1)↔s∈xs.take i\/s=x:=by rw[Vs h,mem_append,mem_singleton]
theorem Pq{C:Addr}{m:aG C}(g:Gr m n)(h0:0<=s)(h1:s<n):∀x∈nxt m.steps s,0<=x/\x<n:=(g.row _ (zWb g h0 h1)).2.2
theorem zTk{C:Addr}{m:aG C}(g:Gr m n)(hU:∀x∈U,0<=x/\x<n):W (vV m U) λrows=>(rows.length:Int)=n/\oO m.steps U rows:=by
 unfold vV
 have few:=g.few
 have pos:=g.pos
 rw[zC]
 refine(zV5 hU few).imp λinside ⟨i0,ib⟩=>?_
 rw[zC,zC,zC,Xz g,aj,vL]
 refine⟨⟨by omega,by omega⟩,?_⟩
 have rl:=wU (n:=n) (by omega)
 rw[M6 (λ_=>(0:Int))]
 refine⟨yH (by omega),?_⟩
 rw[zC,zC,aj]
 refine xQ (λi rows=>(rows.length:Int)=n/\Kh rows/\∀s∈U.take i,∀t:Int,0<=t->rb rows s t=decide (t∈nxt m.steps s/\t∈U)) ⟨by rw[length_map];exact rl,λi=>?_,λs hs=>by simp at hs⟩ (λi x rows hi hI=>?_) λrows hI=>?_
 ·rw[getD_eq_getElem?_getD,getElem?_map]
  cases(rng n)[i]?<;>exact aeg 0
 ·obtain⟨hl,nn,hb⟩:=hI
  have xb:=hU x (mem_of_getElem? hi)
  rw[zC,zC,zC,zC,zC]
  refine(zMl g xb.1 xb.2).imp λns ⟨_,hns⟩=>?_
  rw[aj]
  refine(zV5 (xs:=ns) (λy hy=>Pq g xb.1 xb.2 y ((hns y).mp hy)) few).imp λb ⟨b0,bb⟩=>?_
  rw[aj,TV xb.1 (by omega),aj]
  refine⟨by rw[length_set];exact hl,zWi hl xb.1 xb.2 nn (zW0 b0 i0),λs hs t ht=>?_⟩
  rw[Kl hi] at hs
  have s0:0<=s:=hs.elim (λh=>(hU s (List.mem_of_mem_take h)).1) λh=>h▸xb.1
  rw[zWc hl xb.1 xb.2 s0]
  by_cases e:s=x
  ·subst e
   rw[if_pos rfl,zWx b0 i0,bb t ht,ib t ht,abw]
   simp[hns]
  ·rw[if_neg e]
   exact hb s (hs.resolve_right e) t ht
 ·obtain⟨hl,nn,hb⟩:=hI
  rw[take_length] at hb
  rw[zC,zC,aj]
  refine xQ (λi rows=>(rows.length:Int)=n/\Kh rows/\(∀s∈U,∀t∈U,t∈nxt m.steps s->rb rows s t=true)/\(∀s∈U,∀t:Int,0<=t->rb rows s t=true->jm m.steps U s t)/\∀u∈U.take i,∀s∈U,∀t:Int,0<=t->rb rows s u=true->rb rows u t=true->rb rows s t=true)
   ⟨hl,nn,λs hs t ht h=>by rw[hb s hs t (hU t ht).1];exact decide_eq_true ⟨h,ht⟩,λs hs t ht h=>by
    rw[hb s hs t ht] at h
    have:=of_decide_eq_true h
    exact .one this.1 this.2,λu hu=>by simp at hu⟩ (λi u R0 hi hI=>?_) λrows hI=>?_
  ·obtain⟨hl0,nn0,ed0,so0,tr0⟩:=hI
   have um:=mem_of_getElem? hi
   have ub:=hU u um
   rw[zC,zC,aj]
   refine xQ (λj rows=>(rows.length:Int)=n/\Kh rows/\∀s∈U,∀t:Int,0<=t->rb rows s t=(rb R0 s t||(decide (s∈U.take j)&&(rb R0 s u&&rb R0 u t)))) ⟨hl0,nn0,λs _ t _=>by simp⟩ (λj x rows hj hJ=>?_) λrows hJ=>?_
   ·obtain⟨hl1,DQ,hb1⟩:=hJ
    have xm:=mem_of_getElem? hj
    have xb:=hU x xm
    have ex:rb rows x u=rb R0 x u:=by
     rw[hb1 x xm u ub.1]
     cases rb R0 x u<;>simp
    have eu:∀t:Int,0<=t->rb rows u t=rb R0 u t:=λt ht=>by
     rw[hb1 u um t ht]
     cases rb R0 u t<;>simp
    rw[zNr hl1 DQ xb.1 xb.2 ub.1,zC,zC,aj,ex]
    by_cases c:rb R0 x u=true
    ·rw[c,if_pos rfl,zC,zC,Vq hl1 ub.1 ub.2,aj]
     unfold Hf
     rw[if_pos xb.1,Vq hl1 xb.1 xb.2]
     show W (zf rows x _) _
     rw[TV xb.1 (by omega),aj,aj]
     refine⟨by rw[length_set];exact hl1,zWi hl1 xb.1 xb.2 DQ (Kg (DQ _) (DQ _)),λs hs t ht=>?_⟩
     rw[zWc hl1 xb.1 xb.2 (hU s hs).1]
     by_cases e:s=x
     ·subst e
      rw[if_pos rfl,Kf (DQ _) (DQ _)]
      show(rb rows s t||rb rows u t)=_
      rw[hb1 s hs t ht,eu t ht,c,decide_eq_true ((Kl hj).mpr (.inr rfl))]
      cases rb R0 s t<;>cases rb R0 u t<;>simp
     ·rw[if_neg e,hb1 s hs t ht]
      have:decide (s∈U.take (j+1))=decide (s∈U.take j):=by
       rw[abw,decide_eq_true_iff,decide_eq_true_iff,Kl hj]
       exact⟨λh=>h.resolve_right e,.inl⟩
      rw[this]
    ·have c:rb R0 x u=false:=by simpa using c
     rw[c,if_neg (by decide),aj,aj]
     refine⟨hl1,DQ,λs hs t ht=>?_⟩
     rw[hb1 s hs t ht]
     by_cases e:s=x
     ·subst e
      rw[c]
      simp
     ·have:decide (s∈U.take (j+1))=decide (s∈U.take j):=by
       rw[abw,decide_eq_true_iff,decide_eq_true_iff,Kl hj]
       exact⟨λh=>h.resolve_right e,.inl⟩
      rw[this]
   ·obtain⟨hl1,DQ,hb1⟩:=hJ
    rw[take_length] at hb1
    have nw:∀s∈U,∀t:Int,0<=t->(rb rows s t=true↔rb R0 s t=true\/(rb R0 s u=true/\rb R0 u t=true)):=λs hs t ht=>by
     rw[hb1 s hs t ht,decide_eq_true hs]
     simp
    rw[aj]
    refine⟨hl1,DQ,λs hs t ht h=>(nw s hs t (hU t ht).1).mpr (.inl (ed0 s hs t ht h)),λs hs t ht h=>?_,λv hv s hs t ht h1 h2=>?_⟩
    ·rcases(nw s hs t ht).mp h with h|⟨h,k⟩
     ·exact so0 s hs t ht h
     ·exact(so0 s hs u ub.1 h).trans (so0 u um t ht k)
    ·rw[Kl hi] at hv
     refine(nw s hs t ht).mpr ?_
     rcases hv with hv|rfl
     ·have vU:=List.mem_of_mem_take hv
      have v0:=(hU v vU).1
      have T:=tr0 v hv
      rcases(nw s hs v v0).mp h1 with a|⟨a,b⟩<;>rcases(nw v vU t ht).mp h2 with c|⟨c,d⟩
      ·exact .inl (T s hs t ht a c)
      ·exact .inr ⟨T s hs u ub.1 a c,d⟩
      ·exact .inr ⟨a,T u um t ht b c⟩
      ·exact .inr ⟨a,d⟩
     ·have a:rb R0 s v=true:=((nw s hs v ub.1).mp h1).elim id And.left
      have b:rb R0 v t=true:=((nw v um t ht).mp h2).elim id And.right
      exact .inr ⟨a,b⟩
  ·obtain⟨hl1,DQ,ed,so,tr⟩:=hI
   rw[take_length] at tr
   rw[aj]
   exact⟨hl1,DQ,ed,so,λs hs u hu t ht=>tr u hu s hs t ht⟩
def ring(rows U:LI)(s:Int):LI:=U.filter λt=>rb rows s t&&rb rows t s
theorem aU:t∈ring rows U s↔t∈U/\rb rows s t=true/\rb rows t s=true:=by
 unfold ring
 rw[mem_filter,aaz]
structure uy(xss:List LI)(U G:LI):Prop where
 sub:∀s∈G,s∈U
 nd:G.Nodup
 go:∀s∈G,∀t∈G,jm xss G s t
theorem oO.full(R:oO xss U rows)(h0:∀x∈U,0<=x)(h:jm xss U s t):s∈U->rb rows s t=true:=by
 induction h with
 |one a b=>exactλhs=>R.edge _ hs _ b a
 |step a b p ih=>exactλhs=>R.trans _ hs _ b _ (h0 _ p.mem) (R.edge _ hs _ b a) (ih b)
theorem zQt(R:oO xss U rows)(h0:∀x∈U,0<=x)(nd:U.Nodup)(ho:o∈U):uy xss U (ring rows U o):=by
 have key:∀{s t:Int},jm xss U s t->s∈ring rows U o->t∈ring rows U o->jm xss (ring rows U o) s t:=by
  intro s t h
  induction h with
  |one a b=>exactλ_ ht=>.one a ht
  |@step s u t a b p ih =>
   intro hs ht
   obtain⟨sU,s1,s2⟩:=aU.mp hs
   obtain⟨tU,t1,t2⟩:=aU.mp ht
   have u1:rb rows o u=true:=R.trans o ho s sU u (h0 u b) s1 (R.edge s sU u b a)
   have u2:rb rows u o=true:=R.trans u b t tU o (h0 o ho) (R.full h0 p b) t2
   have hu:=aU.mpr ⟨b,u1,u2⟩
   exact .step a hu (ih hu ht)
 refine⟨λs hs=>(aU.mp hs).1,nd.filter _,λs hs t ht=>?_⟩
 obtain⟨sU,s1,s2⟩:=aU.mp hs
 obtain⟨tU,t1,t2⟩:=aU.mp ht
 exact key (R.sound s sU t (h0 t tU) (R.trans s sU o ho t (h0 t tU) s2 t1)) hs ht
structure Ij(rows U:LI)(told:List LI):Prop where
 are:∀G∈told,∃s∈U,rb rows s s=true/\G=ring rows U s
 nd:told.flatten.Nodup
 all:∀s∈U,rb rows s s=true->s∈told.flatten
theorem zPx(h:∀x∈xs,0<=x/\x<n)(hl:xs.length<64):QF xs=some (uT xs)/\bI n (uT xs):=by
 unfold QF
 rw[if_pos hl]
 exact⟨rfl,QG xs,λx hx=>h x (cX.mp hx)⟩
theorem Ik{C:Addr}{m:aG C}(g:Gr m n)(hx:∀x∈xs,0<=x/\x<n)(hl:xs.length<64):W (U4 m xs) λtold=>∃rows,oO m.steps (uT xs) rows/\Ij rows (uT xs) told:=by
 obtain⟨e,hR⟩:=zPx hx hl
 have few:=g.few
 have pos:=g.pos
 unfold U4
 rw[e,zC,aj,zC]
 generalize uT xs=U at hR ⊢
 have h0:∀x∈U,0<=x:=λx hx=>(hR.2 x hx).1
 have Ul:U.length<=n.toNat:=wS hR.nodup λx hx=>by have:=hR.2 x hx;omega
 refine(zTk g hR.2).imp λrows ⟨rl,R⟩=>?_
 rw[zC,aj,zC,aj,zC,zC,aj]
 refine xQ (λi z=>∃told:List LI,z=(told,dl told.flatten)/\(∀G∈told,∃s∈U,rb rows s s=true/\G=ring rows U s)/\told.flatten.Nodup/\(∀s∈U.take i,rb rows s s=true->s∈told.flatten)/\told.length<=i) ⟨[],rfl,λG hG=>(by cases hG),by simp,λs hs=>(by simp at hs),aav _⟩ (λi x z hi hI=>?_) λz hI=>?_
 ·obtain⟨told,rfl,are,nd,all,tl⟩:=hI
  have xm:=mem_of_getElem? hi
  have xb:=hR.2 x xm
  have sub:∀t∈told.flatten,t∈U:=λt ht=>by
   obtain⟨G,hG,tG⟩:=mem_flatten.mp ht
   obtain⟨s,_,_,rfl⟩:=are G hG
   exact(aU.mp tG).1
  have il:i<U.length:=(aa6.mp hi).1
  rw[zC,zC]
  show W (if(!(dO (dl told.flatten) x).isSome)=true then _ else _) _
  rw[Vr]
  by_cases xf:x∈told.flatten
  ·rw[decide_eq_true xf,ab4,if_neg (by decide),aj,if_neg (by decide),aj,aj]
   exact⟨told,rfl,are,nd,λs hs h=>((Kl hi).mp hs).elim (λq=>all s q h) λq=>q▸xf,by omega⟩
  ·rw[decide_eq_false xf,ae7,if_pos rfl,zNr rl R.nn xb.1 xb.2 xb.1,aj]
   by_cases c:rb rows x x=true
   ·have dis:∀t∈ring rows U x,t∉told.flatten:=λt ht tf=>by
     obtain⟨G,hG,tG⟩:=mem_flatten.mp tf
     obtain⟨s,sU,_,rfl⟩:=are G hG
     obtain⟨tU,t1,t2⟩:=aU.mp ht
     obtain⟨_,t3,t4⟩:=aU.mp tG
     exact xf (mem_flatten.mpr ⟨_,hG,aU.mpr ⟨xm,R.trans s sU t tU x xb.1 t3 t2,R.trans x xm t tU s (h0 s sU) t1 t4⟩⟩)
    have rn:(ring rows U x).Nodup:=hR.nodup.filter _
    have Fb:(told.flatten++ring rows U x).Nodup:=by
     rw[nodup_append]
     exact⟨nd,rn,λa ha b hb e=>dis b hb (e▸ha)⟩
    have ln:(told.flatten++ring rows U x).length<=n.toNat:=wS Fb λy hy=>by
     have:y∈U:=(mem_append.mp hy).elim (sub y) λq=>(aU.mp q).1
     have:=hR.2 y this
     omega
    rw[c,if_pos rfl,zC,zC,aj,wJ (p:=λt=>rb rows x t&&rb rows t x) (g:=λt=>t) (yH (by omega)) (λt ht=>zTt rl R.nn xb.1 xb.2 (hR.2 t ht).1 (hR.2 t ht).2) (λt _=>rfl),aj,map_id']
    show W ((push told (ring rows U x)).bind _) _
    rw[zC,uW]
    refine⟨yH (by omega),?_⟩
    rw[zC,zC,aj]
    refine xQ (λk d=>d=dl (told.flatten++(ring rows U x).take k)) (by rw[List.take_zero,append_nil]) (λk y d hk hd=>?_) λd hd=>?_
    ·subst hd
     have hk:(ring rows U x)[k]?=some y:=hk
     have ym:=mem_of_getElem? hk
     have kl:=(aa6.mp hk).1
     have yn:y∉told.flatten++(ring rows U x).take k:=λq=>by
      rcases mem_append.mp q with q|q
      ·exact dis y ym q
      ·obtain⟨j,hj,e⟩:=getElem_of_mem q
       rw[List.getElem_take] at e
       rw[length_take] at hj
       have e2:=(aa6.mp hk).2
       have:=(List.nodup_iff_pairwise_ne.mp rn)
       have ne:=List.pairwise_iff_getElem.mp this j k (by omega) kl (by omega)
       exact ne (e.trans e2.symm)
     rw[zC,zW2,zWs yn,XC]
     refine⟨yH ?_,?_⟩
     ·rw[length_append] at ln ⊢
      rw[length_take]
      omega
     ·rw[aj,Vs hk,append_assoc]
    ·subst hd
     rw[show(ring rows U x).take (U.filter λt=>rb rows x t&&rb rows t x).length=ring rows U x from take_length,aj,aj]
     refine⟨told++[ring rows U x],by rw[flatten_append,flatten_singleton],λG hG=>?_,by rw[flatten_append,flatten_singleton];exact Fb,λs hs h=>?_,by rw[length_append];exact abp tl⟩
     ·rcases mem_append.mp hG with q|q
      ·exact are G q
      ·exact⟨x,xm,c,mem_singleton.mp q⟩
     ·rw[flatten_append,flatten_singleton,mem_append]
      exact((Kl hi).mp hs).elim (λq=>.inl (all s q h)) λq=>.inr (by rw[q];exact aU.mpr ⟨xm,c,c⟩)
   ·have c':rb rows x x=false:=by simpa using c
    rw[c',if_neg (by decide),aj,aj]
    exact⟨told,rfl,are,nd,λs hs h=>((Kl hi).mp hs).elim (λq=>all s q h) λq=>absurd (q▸h) c,by omega⟩
 ·obtain⟨told,rfl,are,nd,all,_⟩:=hI
  rw[take_length] at all
  rw[aj]
  exact⟨rows,R,are,nd,all⟩
def Ah(n:Int)(fair:List LI):Prop:=fair.length<=100/\∀F∈fair,yh n F
def wZ(fair:List LI)(G:LI):Bool:=fair.all λF=>G.any λx=>decide (x∈F)
theorem qj(h:yh n xs)(qX:n<=60)(h0:0<=n):xs.length<=60:=by
 have:=wS (n:=n.toNat) h.1 λx hx=>by have:=h.2.2 x hx;omega
 omega
theorem zTp{C:Addr}{m:aG C}{n:Int}(g:Gr m n)(hf:Ah n m.fair){i:Nat}{F:LI}(hi:m.fair[i]?=some F):W (wC m (i:Int)) λxs=>xs.length<=60/\∀x,x∈xs↔x∈F:=by
 unfold wC
 have few:=g.few
 have pos:=g.pos
 have l:=qj (hf.2 F (mem_of_getElem? hi)) few (by omega)
 rw[zC,cG (by omega)]
 refine⟨F,by rw[abr];exact hi,?_⟩
 unfold GP
 rw[if_pos (by omega),aj]
 exact⟨by rw[(uG _).length_eq];exact l,λx=>(uG _).mem_iff⟩
theorem zPy{xs ys:LI}(h:xs.length<64\/ys.length<64)(h1:xs.length<4000)(h2:ys.length<4000):vD xs ys=some (uT (xs.filter λz=>decide (z∈ys))):=by
 unfold vD W7
 rw[if_pos ⟨h,h1,h2⟩]
theorem zMk{xs ys:LI}(h1:xs.length<64)(h2:ys.length<4000):vD xs ys=some (uT (xs.filter λz=>decide (z∈ys))):=zPy (.inl h1) (by omega) h2
theorem pZ:(uT xs).length=0↔xs=[]:=by
 rw[length_eq_zero_iff]
 constructor
 ·intro h
  cases xs with
  |nil=>rfl
  |cons x xs =>
   have:=(cX (x:=x) (ns:=x::xs)).mpr mem_cons_self
   rw[h] at this
   cases this
 ·intro h;subst h;rfl
theorem zTl{C:Addr}{m:aG C}(g:Gr m n)(hf:Ah n m.fair){G:LI}(hG:G.length<64):W (U6 m G) λo=>o.isNone=wZ m.fair G:=by
 unfold U6
 have hl:=hf.1
 rw[zC,zC,vL]
 refine⟨⟨by omega,by omega⟩,zTc (λi _=>∀F∈m.fair.take i,(G.any λx=>decide (x∈F))=true) (λF hF=>by simp at hF) (λi x s hi hI=>?_) λs hI=>?_⟩
 ·obtain⟨rfl,hx⟩:=zj hi
  have il:i<m.fair.length:=by omega
  have hF:m.fair[i]?=some m.fair[i]:=aas il
  rw[zC,zC,zC,zC,zC,zC]
  refine(zTp g hf hF).imp λys ⟨yl,ym⟩=>?_
  rw[aj,aj]
  show W (vD G ys) _
  rw[zMk hG (by omega),aj,aj,aj]
  by_cases e:G.filter (λz=>decide (z∈ys))=[]
  ·rw[decide_eq_true (show((uT (G.filter λz=>decide (z∈ys))).length:Int)=0 by have:=pZ.mpr e;omega),if_pos rfl,zC,aj,aj]
   refine .inr ⟨_,rfl,?_⟩
   show W (some (some (i:Int))) _
   rw[aj]
   symm
   show wZ m.fair G=false
   have:(G.any λx=>decide (x∈m.fair[i]))=false:=by
    rw[any_eq_false]
    intro x hx q
    have q:=of_decide_eq_true q
    have:x∈G.filter (λz=>decide (z∈ys)):=mem_filter.mpr ⟨hx,decide_eq_true ((ym x).mpr q)⟩
    rw[e] at this
    cases this
   unfold wZ
   rw[List.all_eq_false]
   exact⟨_,getElem_mem il,by rw[this];decide⟩
  ·rw[decide_eq_false (λz=>e (pZ.mp (by omega))),if_neg (by decide),aj]
   refine .inl ⟨(),rfl,λF hF'=>?_⟩
   rw[Vs hF,mem_append,mem_singleton] at hF'
   rcases hF' with q|q
   ·exact hI F q
   ·subst q
    obtain⟨x,hx⟩:=List.exists_mem_of_ne_nil _ e
    rw[mem_filter] at hx
    exact any_eq_true.mpr ⟨x,hx.1,decide_eq_true ((ym x).mp (of_decide_eq_true hx.2))⟩
 ·have e:(rng (m.fair.length:Int)).length=m.fair.length:=by have:=wU (n:=(m.fair.length:Int)) (by omega);omega
  rw[e,take_length] at hI
  rw[M4,aj]
  symm
  show wZ m.fair G=true
  exact all_eq_true.mpr hI
theorem zUc{U:LI}(h:U.length<=k):(ring rows U s).length<=k:=aa4 (length_filter_le ..) h
structure uz(xss:List LI)(fair:List LI)(U goal:LI):Prop where
 nd:goal.Nodup
 sub:∀s∈goal,s∈U
 of:∀s∈goal,∃G:LI,uy xss U G/\s∈G/\wZ fair G=true/\∀t∈G,t∈goal
 all:∀s∈U,∀G:LI,(∀t,t∈G↔t∈U/\jm xss U s t/\jm xss U t s)->jm xss U s s->wZ fair G=true->s∈goal
theorem zJz(h:∀t,t∈G↔t∈G'):wZ fair G=wZ fair G':=by
 unfold wZ
 congr 1
 funext F
 rw[abw,any_eq_true,any_eq_true]
 exact⟨λ⟨x,a,b⟩=>⟨x,(h x).mp a,b⟩,λ⟨x,a,b⟩=>⟨x,(h x).mpr a,b⟩⟩
theorem Il{C:Addr}{m:aG C}(g:Gr m n)(hf:Ah n m.fair)(hx:∀x∈xs,0<=x/\x<n)(hl:xs.length<64) :
  W (vN m xs) λa=>a.length<=60/\(∀G∈a,uy m.steps (uT xs) G/\wZ m.fair G=true)/\W (Ox a) λgoal=>goal=a.flatten/\uz m.steps m.fair (uT xs) goal:=by
 have few:=g.few
 have pos:=g.pos
 have hR:=(zPx hx hl).2
 have h0:∀x∈uT xs,0<=x:=λx hx=>(hR.2 x hx).1
 have Ul:(uT xs).length<=n.toNat:=wS hR.nodup λx hx=>by have:=hR.2 x hx;omega
 unfold vN
 rw[zC]
 refine(Ik g hx hl).imp λtold ⟨rows,R,T⟩=>?_
 have tl:told.length<=60/\told.flatten.length<=60:=by
  have f:told.flatten.length<=n.toNat:=wS T.nd λy hy=>by
   obtain⟨G,hG,yG⟩:=mem_flatten.mp hy
   obtain⟨s,_,_,rfl⟩:=T.are G hG
   have:=hR.2 y (aU.mp yG).1
   omega
  refine⟨?_,by omega⟩
  have ne:∀G∈told,1<=G.length:=λG hG=>by
   obtain⟨s,sU,c,rfl⟩:=T.are G hG
   exact length_pos_of_mem (aU.mpr ⟨sU,c,c⟩)
  have:∀l:List LI,(∀G∈l,1<=G.length)->l.length<=l.flatten.length:=λl=>by
   induction l with
   |nil=>intro _;exact abk _
   |cons G l ih =>
    intro h
    rw[flatten_cons,length_append,length_cons]
    have a:=ih λG' hG'=>h G' (mem_cons_of_mem _ hG')
    have b:=h G mem_cons_self
    omega
  have:=this told ne
  omega
 have gl:∀G∈told,G.length<64:=λG hG=>by
  obtain⟨s,_,_,rfl⟩:=T.are G hG
  have:=zUc (rows:=rows) (s:=s) Ul
  omega
 rw[wJ (p:=wZ m.fair) (g:=λG=>G) (yH (by omega)) (λG hG=>by
  obtain⟨o,e,q⟩:=zTl g hf (gl G hG)
  rw[e]
  exact congrArg some q) (λ_ _=>rfl),aj,map_id']
 have fl:∀l:List LI,(l.filter (wZ m.fair)).flatten.Sublist l.flatten:=λl=>by
  induction l with
  |nil=>exact List.Sublist.refl _
  |cons G l ih =>
   rw[filter_cons]
   split
   ·rw[flatten_cons,flatten_cons];exact(List.Sublist.refl _).append ih
   ·rw[flatten_cons];exact ih.trans (List.sublist_append_right ..)
 have js:W (Ox (told.filter (wZ m.fair))) (· = (told.filter (wZ m.fair)).flatten):=by
  unfold Ox
  rw[zC,aj,zC,zC,aj]
  refine xQ (λi s=>s=((told.filter (wZ m.fair)).take i).flatten) (by rw[List.take_zero];rfl) (λi G s hi hI=>?_) λs hI=>?_
  ·subst hI
   unfold Cy
   have e:((told.filter (wZ m.fair)).take i).flatten++G=((told.filter (wZ m.fair)).take (i+1)).flatten:=by rw[Vs hi,flatten_append,flatten_singleton]
   have l:(((told.filter (wZ m.fair)).take i).flatten++G).length<=60:=by
    rw[e]
    have a:((told.filter (wZ m.fair)).take (i+1)).flatten.Sublist (told.filter (wZ m.fair)).flatten:=by
     have e2:(told.filter (wZ m.fair)).flatten=((told.filter (wZ m.fair)).take (i+1)).flatten++((told.filter (wZ m.fair)).drop (i+1)).flatten:=by rw[<-flatten_append,take_append_drop]
     rw[e2]
     exact List.sublist_append_left ..
    have:=(a.trans (fl told)).length_le
    omega
   rw[length_append] at l
   rw[if_pos (yH (by omega)),zC,aj,aj,e]
  ·subst hI
   rw[take_length,aj]
 refine⟨aa4 (length_filter_le ..) tl.1,λG hG=>?_,js.imp λgoal e=>⟨e,?_⟩⟩
 ·obtain⟨o,oU,_,rfl⟩:=T.are G (mem_filter.mp hG).1
  exact⟨zQt R h0 hR.nodup oU,(mem_filter.mp hG).2⟩
 subst e
 refine⟨T.nd.sublist (fl told),λs hs=>?_,λs hs=>?_,λs sU G hG p q=>?_⟩
 ·obtain⟨G,hG,sG⟩:=mem_flatten.mp hs
  obtain⟨o,_,_,rfl⟩:=T.are G (mem_filter.mp hG).1
  exact(aU.mp sG).1
 ·obtain⟨G,hG,sG⟩:=mem_flatten.mp hs
  obtain⟨o,oU,_,rfl⟩:=T.are G (mem_filter.mp hG).1
  exact⟨_,zQt R h0 hR.nodup oU,sG,(mem_filter.mp hG).2,λt ht=>mem_flatten.mpr ⟨_,hG,ht⟩⟩
 ·obtain⟨G',hG',sG⟩:=mem_flatten.mp (T.all s sU (R.full h0 p sU))
  obtain⟨o,oU,oo,rfl⟩:=T.are G' hG'
  obtain⟨_,s1,s2⟩:=aU.mp sG
  refine mem_flatten.mpr ⟨_,mem_filter.mpr ⟨hG',?_⟩,sG⟩
  rw[<-q]
  refine zJz λt=>?_
  rw[hG t,aU]
  constructor
  ·rintro⟨tU,t1,t2⟩
   exact⟨tU,R.sound s sU t (h0 t tU) (R.trans s sU o oU t (h0 t tU) s2 t1),R.sound t tU s (h0 s sU) (R.trans t tU o oU s (h0 s sU) t2 s1)⟩
  ·rintro⟨tU,t1,t2⟩
   exact⟨tU,R.trans o oU s sU t (h0 t tU) s1 (R.full h0 t1 sU),R.trans t tU s sU o (h0 o oU) (R.full h0 t2 tU) s2⟩
theorem Pr{C:Addr}{m:aG C}(g:Gr m n)(hf:Ah n m.fair)(hx:∀x∈xs,0<=x/\x<n)(hl:xs.length<64) :
  W ((vN m xs).bind λa=>Ox a) (uz m.steps m.fair (uT xs)):=by
 rw[zC]
 exact(Il g hf hx hl).imp λa ⟨_,_,h⟩=>h.imp λ_ q=>q.2
theorem Im{C:Addr}{m:aG C}(g:Gr m n){goal:LI}(ht:∀x∈through,0<=x/\x<n)(hg:goal.Nodup/\∀x∈goal,0<=x/\x<n):W (wP m through goal) λR=>∃d,cV m.steps through goal n d/\R=pick n λs=>(dg d s).isSome:=by
 unfold wP
 have few:=g.few
 have pos:=g.pos
 rw[zC]
 refine(zEv g ht hg).imp λd D=>?_
 have rl:=wU (n:=n) (by omega)
 rw[zC,aj,zNi D.len]
 have e:yX (λx:Int×Option Int=>some x.2.isSome) (λx:Int×Option Int=>some x.1) ((rng n).map λs=>(s,dg d s))=some (pick n λs=>(dg d s).isSome):=by
  rw[wJ (p:=λx:Int×Option Int=>x.2.isSome) (g:=λx:Int×Option Int=>x.1) (yH (by rw[length_map];omega)) (λ_ _=>rfl) (λ_ _=>rfl)]
  congr 1
  rw[List.filter_map,map_map]
  exact map_id' _
 rw[e,aj]
 exact⟨d,D,rfl⟩
structure aag(xss fair:List LI)(n:Int)(U R:LI):Prop where
 rise:bI n R
 sub:∀s∈R,s∈U
 go:∀s∈R,∃t∈nxt xss s,t∈R
 come:∀s∈R,∀F∈fair,∃x∈F,x=s\/jm xss R s x
theorem Io(c:Int):W (uN c) λn=>1<=n/\n<=12:=by
 unfold uN
 simp only[zC,qU,Bc,aj,Bd]
 refine⟨by decide,λ_=>⟨⟨by decide,by decide⟩,by decide,by omega⟩,λ_=>⟨⟨by decide,by decide⟩,by decide,by omega⟩⟩
theorem zTo(c:Int)(h0:1<=n)(h1:n<=60):W (Vd c n) (Ah n):=by
 unfold Vd
 rw[zC,aj,zC,Bc]
 refine⟨⟨by decide,by decide⟩,?_⟩
 rw[zC,zC,zC,qU]
 refine⟨by decide,?_⟩
 have c4:0<=c%4/\c%4<4:=by omega
 rw[vL]
 refine⟨⟨by omega,by omega⟩,?_⟩
 have rl:=wU (n:=c%4) c4.1
 refine xQ (λi z=>z.2.length<=i/\∀F∈z.2,yh n F) ⟨aav _,λF hF=>by cases hF⟩ (λi x z hi hI=>?_) λz hI=>?_
 ·obtain⟨rfl,hx⟩:=zj hi
  obtain⟨rest,fair⟩:=z
  obtain⟨fl,fo⟩:=hI
  dsimp only at fl fo
  rw[zC,aj,zC,zC,zC]
  refine(HY c (k:=400+(i:Int)) (by omega) (by omega)).imp λr hr=>?_
  rw[qU]
  refine⟨by decide,?_⟩
  have r5:0<=r%5/\r%5<5:=by omega
  rw[cG r5.1]
  refine⟨_,aas (by simp;omega),?_⟩
  generalize([(1:Int),2,2,3,6])[(r%5).toNat]'_=way
  rw[zC,zC,vL]
  refine⟨⟨by omega,by omega⟩,?_⟩
  have rn:=wU (n:=n) (by omega)
  refine xQ (λj z=>bI j z.1/\z.1.length<=j) ⟨Zx,aav _⟩ (λj y z hj hJ=>?_) λz hJ=>?_
  ·obtain⟨rfl,hy⟩:=zj hj
   simp only[zC,Bc,Wy,qU,Wx,aj,Bd,uW]
   refine⟨.inl ⟨by decide,by decide⟩,(HY c (by omega) (by omega)).imp λr2 _=>⟨by decide,⟨by decide,by decide,by decide⟩,λ_=>⟨by decide,?_⟩,λ_=>?_⟩⟩
   all_goals exact⟨λ_=>⟨yH (by omega),⟨by decide,by decide⟩,Zy hJ.1 (by omega) (by omega),by rw[length_append];exact abp hJ.2⟩,λ_=>⟨⟨by decide,by decide⟩,Zz hJ.1 (by omega),by omega⟩⟩
  ·obtain⟨cT,Vt⟩:=z
   obtain⟨sr,_⟩:=hJ
   rw[rn] at sr
   have s1:yh n cT:=zH0 sr h1
   have Km:∀F:LI,yh n F->W ((push fair F).bind λf=>some (Vt,f)) λz=>z.2.length<=i+1/\∀F∈z.2,yh n F:=λF hF=>by
    rw[zC,uW]
    refine⟨yH (by omega),?_⟩
    rw[aj]
    refine⟨by show(fair++[F]).length<=_;rw[length_append];exact abp fl,λF' hF'=>?_⟩
    rcases mem_append.mp hF' with q|q
    ·exact fo F' q
    ·exact(mem_singleton.mp q)▸hF
   rw[zC,zC]
   have cond:W (if(decide (cT=([]:LI)))=true then((qg ((10:Int)) ((18:Int))).bind λU8=>some (decide ((c)<(U8)))).bind λc34=>if c34=true then((uE (c) (((450:Int))+((i:Int)))).bind λa32=>cI (a32) ((8:Int))).bind λa33=>some (decide (((0:Int))<(a33))) else some false else some false) λ_=>True:=by
    rw[Bd]
    refine⟨λ_=>?_,λ_=>aj.mpr trivial⟩
    rw[zC,zC,Wy]
    refine⟨⟨by decide,by decide,by decide⟩,?_⟩
    rw[aj,Bd]
    refine⟨λ_=>?_,λ_=>aj.mpr trivial⟩
    rw[zC,zC]
    refine(HY c (k:=450+(i:Int)) (by omega) (by omega)).imp λr2 _=>?_
    rw[qU]
    exact⟨by decide,aj.mpr trivial⟩
   refine cond.imp λb _=>?_
   rw[Bd]
   refine⟨λ_=>?_,λ_=>?_⟩
   ·rw[zC,zC,zC]
    refine(HY c (k:=460+(i:Int)) (by omega) (by omega)).imp λr2 hr2=>?_
    rw[qU]
    refine⟨by omega,?_⟩
    rw[aj,aj]
    refine Km _ ⟨by simp,by simp,λz hz=>?_⟩
    rw[mem_singleton.mp hz]
    exact⟨acv _ (by omega),aci _ (by omega)⟩
   ·rw[aj]
    exact Km _ s1
 ·rw[aj]
  exact⟨by omega,hI.2⟩
theorem zHb{α β:Type}{c c':α->Option Bool}{f f':α->Option β}:∀{xs:List α},(∀x∈xs,c x=c' x)->(∀x∈xs,f x=f' x)->wG c f xs=wG c' f' xs
 |[],_,_=>rfl
 |x::xs,h1,h2=>by
  show(c x).bind _=(c' x).bind _
  rw[h1 x mem_cons_self,h2 x mem_cons_self,zHb (λy hy=>h1 y (mem_cons_of_mem _ hy)) λy hy=>h2 y (mem_cons_of_mem _ hy)]
theorem Ip{α β:Type}{c:α->Option Bool}{f:α->Option β}(c':α->Bool)(f':α->β){xs:List α}{Q:List β->Prop}(h1:∀x∈xs,c x=some (c' x))(h2:∀x∈xs,f x=some (f' x)):W (yX c f xs) Q↔xs.length<cap/\Q ((xs.filter c').map f'):=by
 have e:yX c f xs=yX (λx=>some (c' x)) (λx=>some (f' x)) xs:=by
  unfold yX
  rw[zHb h1 h2]
 rw[e,Wz]
theorem zU4(h:∀x,x∈xs↔x∈ys)(hx:xs≠[]):ju xs=ju ys:=by
 have hy:ys≠[]:=λe=>by
  have:=(h _).mp (M7 hx)
  rw[e] at this
  cases this
 have a:=WL ((h _).mp (M7 hx))
 have b:=WL ((h _).mpr (M7 hy))
 omega
theorem Vu:W (zm ns) Q↔ns≠[]/\Q (ju ns):=by
 unfold zm
 split
 ·rename_i h;rw[Bb];exact⟨abq,λq=>q.1 h⟩
 ·rename_i h;rw[aj];exact⟨λq=>⟨h,q⟩,λq=>q.2⟩
theorem zRx{α:Type}{pre:List α}{x:α}:L2.aO (pre++[x]) (-1)=some x:=by
 unfold L2.aO rA
 rw[if_neg (by decide),length_append,if_pos (by simp;omega)]
 show(pre++[x])[((-1:Int)+((pre.length+[x].length:Nat):Int)).toNat]?=some x
 rw[show((-1:Int)+((pre.length+[x].length:Nat):Int)).toNat=pre.length by simp;omega]
 rw[getElem?_append_right (aav _),afo]
 rfl
section
variable{xss:List LI}{through goal:LI}{n:Int}{d:List (Option Int)}
def u_(xss:List LI)(d:List (Option Int))(k:Int)(t:Int):Int:=ju ((nxt xss t).filter λo=>decide (dg d o=some k))
def cw(xss:List LI)(d:List (Option Int)):Nat->Int->LI
 |0,t=>[t]
 |k+1,t=>t::cw xss d k (u_ xss d k t)
theorem cw_len:∀(k:Nat)(t:Int),(cw xss d k t).length=k+1
 |0,_=>rfl
 |k+1,t=>by show(cw xss d k _).length+1=_;rw[cw_len k]
theorem zLh(D:cV xss through goal n d){t:Int}{k:Nat}(t0:0<=t)(t1:t<n)(h:dg d t=some ((k:Int)+1)):(nxt xss t).filter (λo=>decide (dg d o=some (k:Int)))≠[]/\t∈through:=by
 have tg:t∉goal:=λq=>by
  rw[(D.zero t t0 t1).mpr q] at h
  have:=aa3 h
  omega
 obtain⟨q1,u,q2,q3,q4,q5⟩:=D.via t _ t0 t1 h tg
 refine⟨λe=>?_,q1⟩
 have:u∈(nxt xss t).filter (λo=>decide (dg d o=some (k:Int))):=mem_filter.mpr ⟨q2,decide_eq_true (by rw[q5];congr 1;omega)⟩
 rw[e] at this
 cases this
theorem zQ0(D:cV xss through goal n d){t:Int}{k:Nat}(t0:0<=t)(t1:t<n)(h:dg d t=some ((k:Int)+1)):u_ xss d k t∈nxt xss t/\dg d (u_ xss d k t)=some (k:Int):=by
 have:=mem_filter.mp (M7 (zLh D t0 t1 h).1)
 exact⟨this.1,of_decide_eq_true this.2⟩
structure Wa(xss:List LI)(d:List (Option Int))(n:Int)(all:LI)(walk:LI)(j:Nat):Prop where
 ex:∃pre t,walk=pre++[t]/\pre++cw xss d j t=all/\0<=t/\t<n/\dg d t=some (j:Int)
theorem Wa.done(w:Wa xss d n all walk 0):walk=all:=by
 obtain⟨pre,t,h1,h2,_⟩:=w.ex
 rw[h1,<-h2]
 rfl
theorem Wa.next(D:cV xss through goal n d)(hr:∀s t:Int,0<=s->s<n->t∈nxt xss s->0<=t/\t<n)(h2:pre++cw xss d (j+1) t=all)(t0:0<=t)(t1:t<n)(h:dg d t=some ((j:Int)+1)):Wa xss d n all ((pre++[t])++[u_ xss d j t]) j:=by
 obtain⟨p1,p2⟩:=zQ0 D t0 t1 h
 have:=hr t _ t0 t1 p1
 exact⟨pre++[t],_,rfl,by rw[<-h2,append_assoc];rfl,this.1,this.2,p2⟩
theorem Wa.len(w:Wa xss d n all walk j):walk.length<=all.length:=by
 obtain⟨pre,t,h1,h2,_⟩:=w.ex
 rw[h1,<-h2,length_append,length_append,cw_len]
 simp
end
theorem zN5{C:Addr}{m:aG C}(g:Gr m n)(D:cV m.steps through goal n d)(h0:0<=s)(h1:s<n) :
  W (U3 m d s) λr=>r=(dg d s).map λk=>cw m.steps d k.toNat s:=by
 have hr:∀s t:Int,0<=s->s<n->t∈nxt m.steps s->0<=t/\t<n:=λs t s0 s1 ht=>(g.row _ (mem_of_getElem? (Ib g.len s0 s1))).2.2 t ht
 have hf:=g.few
 unfold U3
 rw[zC,zC,cG h0]
 refine⟨_,DP D.len h0 h1,?_⟩
 rw[aj]
 cases hk:dg d s with
 |none=>rw[show(none:Option Int).isNone=true from rfl,if_pos rfl,aj];rfl
 |some k =>
  have hkp:=D.pos s k h0 h1 hk
  rw[show(some k).isNone=false from rfl,if_neg (by decide),zC,aj,zC,zC,zC,zC,zC,cG h0]
  refine⟨_,DP D.len h0 h1,?_⟩
  rw[hk,aj,aj,M9]
  refine⟨⟨by omega,by omega,by decide,by decide⟩,xQ (λi walk=>i<=k.toNat/\Wa m.steps d n (cw m.steps d k.toNat s) walk (k.toNat-i)) ⟨abk _,⟨[],s,rfl,rfl,h0,h1,by rw[hk];congr 1;omega⟩⟩ (λi x walk hi hI=>?_) λwalk hI=>?_⟩
  ·obtain⟨hx1,rfl⟩:=zSr hi
   obtain⟨hle,⟨pre,t,rfl,e2,t0,t1,e3⟩⟩:=hI
   have hj:∃j:Nat,k.toNat-i=j+1/\k-1-(i:Int)=(j:Int):=⟨k.toNat-i-1,by omega,by omega⟩
   obtain⟨j,j1,j2⟩:=hj
   rw[j1] at e2 e3
   have e3:dg d t=some ((j:Int)+1):=by rw[e3];rfl
   rw[zC,zC,zC,zC,zC,zC,zRx,aj,aj]
   refine(zMl g t0 t1).imp λxs ⟨Y6,hxs⟩=>?_
   rw[Ip (λx=>decide (dg d x=some (j:Int))) (λx=>x) (λx hx=>?_) λx _=>rfl]
   ·refine⟨yH (by omega),?_⟩
    rw[map_id',Vu]
    have mem:∀y,y∈xs.filter (λx=>decide (dg d x=some (j:Int)))↔y∈(nxt m.steps t).filter (λo=>decide (dg d o=some (j:Int))):=λy=>by rw[mem_filter,mem_filter,hxs]
    have ne:xs.filter (λx=>decide (dg d x=some (j:Int)))≠[]:=λe=>by
     have:=(mem _).mpr (M7 (zLh D t0 t1 e3).1)
     rw[e] at this
     cases this
    refine⟨ne,?_⟩
    rw[zU4 mem ne,uW,aj]
    have w2:Wa m.steps d n (cw m.steps d k.toNat s) ((pre++[t])++[u_ m.steps d j t]) j:=Wa.next D hr e2 t0 t1 e3
    have hlen:=w2.len
    rw[cw_len,length_append] at hlen
    have hl1:([u_ m.steps d j t]:LI).length=1:=rfl
    refine⟨yH (by omega),by omega,?_⟩
    rw[show k.toNat-(i+1)=j by omega]
    exact w2
   ·have:=hr t x t0 t1 ((hxs x).mp hx)
    rw[M5 this.1,DP D.len this.1 this.2,j2]
    rfl
  ·rw[aj]
   obtain⟨_,hw⟩:=hI
   have e:k.toNat-((aax (k-1 - -1).toNat).map λj=>k-1-ac1 j).length=0:=by rw[length_map,length_range];omega
   rw[e] at hw
   rw[hw.done]
   rfl
theorem XD(h:bI n U):uT U=U:=QH (QG U) h.1 λ_=>cX
inductive Rc(xss:List LI)(U:LI)(s:Int):Int->Prop
 |here:Rc xss U s s
 |on {t u:Int}:Rc xss U s t->u∈nxt xss t->u∈U->Rc xss U s u
theorem Rc.mem(h:Rc xss U s t)(hs:s∈U):t∈U:=by
 cases h with
 |here=>exact hs
 |on _ _ h=>exact h
theorem Rc.trans(h:Rc xss U s t)(k:Rc xss U t u):Rc xss U s u:=by
 induction k with
 |here=>exact h
 |on _ a b ih=>exact .on ih a b
theorem Rc.pth(h:Rc xss U s t):t=s\/jm xss U s t:=by
 induction h with
 |here=>exact .inl rfl
 |@on t u _ a b ih =>
  rcases ih with rfl|ih
  ·exact .inr (.one a b)
  ·exact .inr (ih.trans (.one a b))
theorem jm.rc(h:jm xss U s t):Rc xss U s t:=by
 induction h with
 |one a b=>exact .on .here a b
 |step a b _ ih=>exact(Rc.on .here a b).trans ih
def zW3(xss:List LI)(U:LI)(s:Int)(D:Dc Bool):Prop:=∃seen:LI,D=Dc.mk (dl seen)/\∀t,t∈seen↔Rc xss U s t
theorem zTm{xss:List LI}(hl:(xss.length:Int)=n)(qX:n<=60)(sf:s∈found)(hb:∀x∈found,0<=x/\x<n):W (Rb xss found s) (zW3 xss found s):=by
 unfold Rb
 have Pu:∀{row:LI},row.Nodup->(∀x∈row,x∈found/\Rc xss found s x)->row.length<=n.toNat:=λnd sub=>wS nd λx hx=>by have:=hb x (sub x hx).1;omega
 rw[zC,aj,zC,aj,zC]
 refine zS9 (λst=>∃seen:LI,st.1=dl seen/\seen.Nodup/\(∀x∈seen,x∈found/\Rc xss found s x)/\(∀x∈st.2,x∈seen)/\s∈seen/\st.2.length<=seen.length/\∀x∈seen,x∈st.2\/∀u∈nxt xss x,u∈found->u∈seen) (λst=>2*(100-st.1.length)+st.2.length)
  ⟨[s],rfl,by simp,λx hx=>by rw[mem_singleton.mp hx];exact⟨sf,.here⟩,λx hx=>hx,by simp,aav _,λx hx=>.inl hx⟩ (show 2*(100-1)+1<fuel by decide) λst hst=>?_
 obtain⟨st1,wt⟩:=st
 obtain⟨seen,rfl,nd,sub,Vv,ss,wl,cl⟩:=hst
 rw[aj]
 by_cases we:wt=[]
 ·subst we
  rw[show(!decide (((dl seen,([]:LI)):(List (Key×Bool))×LI).2=([]:LI)))=false from rfl,if_neg (by decide),aj]
  refine⟨seen,rfl,λt=>⟨λh=>(sub t h).2,λh=>?_⟩⟩
  induction h with
  |here=>exact ss
  |on _ a b ih=>exact((cl _ ih).resolve_left (λz=>by cases z)) _ a b
 ·obtain⟨pre,y,rfl⟩:∃pre y,wt=pre++[y]:=⟨_,_,(List.dropLast_concat_getLast we).symm⟩
  rw[show(!decide (((dl seen,pre++[y]):(List (Key×Bool))×LI).2=([]:LI)))=true by
   show(!decide (pre++[y]=[]))=true
   rw[decide_eq_false we];rfl,if_pos rfl]
  have ys:y∈seen:=Vv y (by simp)
  have yb:=hb y (sub y ys).1
  show W (((((pre++[y]).getLast?.bind λy=>L2.aO xss y)).bind λxs=>_).bind _) _
  rw[List.getLast?_concat,zC,zC,zC,aj,cG yb.1]
  refine⟨_,Ib hl yb.1 yb.2,?_⟩
  refine xQ (λi z=>∃(dM DW:LI),z=(dl dM,DW)/\dM.Nodup/\(∀x∈dM,x∈found/\Rc xss found s x)/\(∀x∈DW,x∈dM)/\seen <+: dM/\pre <+: DW/\(∀x∈dM,x∈seen\/x∈DW)/\(∀u∈(nxt xss y).take i,u∈found->u∈dM)/\dM.length+pre.length=DW.length+seen.length)
   ⟨seen,pre,by show(dl seen,(pre++[y]).dropLast)=_;rw[List.dropLast_concat],nd,sub,λx hx=>Vv x (mem_append.mpr (.inl hx)),List.prefix_rfl,List.prefix_rfl,λx hx=>.inl hx,λu hu=>by simp at hu,by omega⟩ (λi u z hi hI=>?_) λz hI=>?_
  ·obtain⟨dM,DW,rfl,Fb,vd,Vw,pr2,pw2,new2,cl2,len2⟩:=hI
   have tk:(nxt xss y).take (i+1)=(nxt xss y).take i++[u]:=by rw[take_add_one,hi]<;>rfl
   have old:∀v∈(nxt xss y).take i++[u],v∈found->v∈dM\/v=u:=λv hv vu=>by
    rcases mem_append.mp hv with a|a
    ·exact .inl (cl2 v a vu)
    ·exact .inr (mem_singleton.mp a)
   rw[zC,zC]
   by_cases uf:u∈found
   ·rw[decide_eq_true uf,if_pos rfl,aj]
    show W (if(!(dO (dl dM) u).isSome)=true then _ else _) _
    rw[Vr]
    by_cases ur:u∈dM
    ·rw[decide_eq_true ur,ab4,if_neg (by decide),aj,aj]
     exact⟨dM,DW,rfl,Fb,vd,Vw,pr2,pw2,new2,λv hv vu=>by
      rw[tk] at hv
      exact(old v hv vu).elim id λe=>e▸ur,len2⟩
    ·rw[decide_eq_false ur,ae7,if_pos rfl,zC,zW2,zWs ur,XC]
     have l2:=Pu Fb vd
     have l1:=Pu nd sub
     have pl:pre.length+1<=seen.length:=by have:(pre++[y]).length<=seen.length:=wl;rw[length_append] at this;exact this
     refine⟨yH (by omega),?_⟩
     rw[zC,uW]
     refine⟨yH (show DW.length<=1000 by omega),?_⟩
     rw[aj,aj]
     refine⟨dM++[u],DW++[u],rfl,?_,λx hx=>?_,λx hx=>?_,pr2.trans (List.prefix_append ..),pw2.trans (List.prefix_append ..),λx hx=>?_,λv hv vu=>?_,by rw[length_append,length_append];simp;omega⟩
     ·rw[nodup_append]
      exact⟨Fb,by simp,λa ha b hb e=>ur (by rw[mem_singleton.mp hb] at e;exact e▸ha)⟩
     ·rcases mem_append.mp hx with a|a
      ·exact vd x a
      ·rw[mem_singleton.mp a];exact⟨uf,.on (sub y ys).2 (mem_of_getElem? hi) uf⟩
     ·rw[mem_append] at hx ⊢
      exact hx.imp (Vw x) id
     ·rw[mem_append] at hx
      rw[mem_append]
      rcases hx with a|a
      ·exact(new2 x a).imp id .inl
      ·exact .inr (.inr a)
     ·rw[tk] at hv
      rw[mem_append,mem_singleton]
      exact old v hv vu
   ·rw[decide_eq_false uf,if_neg (by decide),aj,if_neg (by decide),aj,aj]
    exact⟨dM,DW,rfl,Fb,vd,Vw,pr2,pw2,new2,λv hv vu=>by
     rw[tk] at hv
     exact(old v hv vu).elim id λe=>absurd (e▸vu) uf,len2⟩
  ·obtain⟨dM,DW,rfl,Fb,vd,Vw,⟨tl,rfl⟩,⟨tw,rfl⟩,new2,cl2,len2⟩:=hI
   rw[take_length] at cl2
   rw[aj]
   have l2:=Pu Fb vd
   have pl:pre.length+1<=seen.length:=by have:(pre++[y]).length<=seen.length:=wl;rw[length_append] at this;exact this
   refine⟨⟨seen++tl,rfl,Fb,vd,Vw,mem_append.mpr (.inl ss),by show(pre++tw).length<=_;omega,λx hx=>?_⟩,?_⟩
   ·rcases new2 x hx with a|a
    ·rcases cl x a with b|b
     ·rcases mem_append.mp b with b|b
      ·exact .inl (mem_append.mpr (.inl b))
      ·rw[mem_singleton.mp b];exact .inr cl2
     ·exact .inr λu hu uf=>mem_append.mpr (.inl (b u hu uf))
    ·exact .inl a
   ·show 2*(100-(dl (seen++tl)).length)+(pre++tw).length<2*(100-(dl seen).length)+(pre++[y]).length
    rw[XC,XC]
    rw[length_append] at len2 l2 ⊢
    rw[length_append] at len2
    simp only[length_append,length_singleton] at len2 l2 ⊢
    omega
theorem cls(P:Int->Prop):∃p:Int->Bool,∀x,p x=true↔P x:=⟨λx=>@decide _ (acd (P x)),λx=>by
 constructor
 ·intro h;exact@of_decide_eq_true _ (acd _) h
 ·intro h;exact@decide_eq_true _ (acd _) h⟩
def Ri(xss fair:List LI)(U:LI)(b:Int):Prop:=jm xss U b b/\∀F∈fair,∃x∈F,Rc xss U b x/\Rc xss U x b
theorem zVi{U:LI}{p:Int->Bool}{i:Nat}{x:Int}(h:U[i]?=some x):(U.take (i+1)).filter p=(U.take i).filter p++(if p x=true then[x] else[]):=by
 rw[Vs h,List.filter_append]
 congr 1
 by_cases c:p x=true<;>simp[c]
theorem Ir(D:cV xss U goal n d)(G:uz xss fair U goal)(hU:∀x∈U,0<=x/\x<n)(s:Int):s∈pick n (λs=>(dg d s).isSome)↔s∈U/\∃b∈U,Ri xss fair U b/\Rc xss U s b:=by
 have base:∀b∈U,(b∈goal↔Ri xss fair U b):=λb bU=>by
  constructor
  ·intro h
   obtain⟨R,RO,bR,met,_⟩:=G.of b h
   have up:∀{x y:Int},x∈R->y∈R->jm xss U x y:=λhx hy=>(RO.go _ hx _ hy).mono RO.sub
   refine⟨up bR bR,λF hF=>?_⟩
   obtain⟨x,xR,xF⟩:=any_eq_true.mp (all_eq_true.mp met F hF)
   exact⟨x,of_decide_eq_true xF,(up bR xR).rc,(up xR bR).rc⟩
  ·rintro⟨p,m⟩
   obtain⟨f,hf⟩:=cls λt=>jm xss U b t/\jm xss U t b
   refine G.all b bU (U.filter f) (λt=>by rw[mem_filter,hf t]) p ?_
   refine all_eq_true.mpr λF hF=>?_
   obtain⟨x,xF,r1,r2⟩:=m F hF
   have p1:jm xss U b x:=r1.pth.elim (λe=>e▸p) id
   have p2:jm xss U x b:=r2.pth.elim (λe=>by rw[<-e];exact e▸p) id
   exact any_eq_true.mpr ⟨x,mem_filter.mpr ⟨p1.mem,(hf x).mpr ⟨p1,p2⟩⟩,decide_eq_true xF⟩
 have key:∀(k:Nat)(s:Int),0<=s->s<n->dg d s=some (k:Int)->s∈U/\∃b∈goal,Rc xss U s b:=by
  intro k
  induction k with
  |zero =>
   intro s s0 s1 e
   have hg:=(D.zero s s0 s1).mp e
   exact⟨G.sub s hg,s,hg,.here⟩
  |succ k ih =>
   intro s s0 s1 e
   have ng:s∉goal:=λhg=>by
    have:=(D.zero s s0 s1).mpr hg
    rw[e] at this
    have:=aa3 this
    omega
   obtain⟨sU,t,tn,t0,t1,e2⟩:=D.via s _ s0 s1 e ng
   obtain⟨tU,b,bg,r⟩:=ih t t0 t1 (by rw[e2];congr 1;omega)
   exact⟨sU,b,bg,(Rc.on .here tn tU).trans r⟩
 have back:∀{s t:Int},Rc xss U s t->s∈U->(dg d t).isSome=true->(dg d s).isSome=true:=λh=>by
  induction h with
  |here=>exactλ_ q=>q
  |@on t u r a b ih =>
   intro sU q
   have tU:=r.mem sU
   obtain⟨k,e⟩:=ab7.mp q
   obtain⟨j,ej,_⟩:=D.near t u k (hU t tU).1 (hU t tU).2 (hU u b).1 (hU u b).2 tU a e
   exact ih sU (by rw[ej];rfl)
 rw[eZ]
 constructor
 ·rintro⟨s0,s1,q⟩
  obtain⟨k,e⟩:=ab7.mp q
  have kp:=D.pos s k s0 s1 e
  obtain⟨sU,b,bg,r⟩:=key k.toNat s s0 s1 (by rw[e];congr 1;omega)
  exact⟨sU,b,G.sub b bg,(base b (G.sub b bg)).mp bg,r⟩
 ·rintro⟨sU,b,bU,bB,r⟩
  refine⟨(hU s sU).1,(hU s sU).2,back r sU ?_⟩
  rw[(D.zero b (hU b bU).1 (hU b bU).2).mpr ((base b bU).mpr bB)]
  rfl
theorem Iu{C:Addr}{m:aG C}(g:Gr m n)(hf:Ah n m.fair)(hU:bI n U):W (U7 m U) λR=>bI n R/\∀s,s∈R↔s∈U/\∃b∈U,Ri m.steps m.fair U b/\Rc m.steps U s b:=by
 unfold U7
 have few:=g.few
 have Ul:U.length<=n.toNat:=wS hU.nodup λx hx=>by have:=hU.2 x hx;omega
 have q:=Pr g hf hU.2 (by omega)
 rw[XD hU,zC] at q
 rw[zC,zC,zC,zC,zC,zC]
 refine q.imp λa qa=>?_
 rw[aj]
 refine qa.imp λgoal G=>?_
 rw[aj,aj,aj]
 show W (wP m U goal) _
 refine(Im g hU.2 ⟨G.nd,λx h=>hU.2 x (G.sub x h)⟩).imp λR ⟨d,D,e⟩=>?_
 subst e
 exact⟨Rh n _,Ir D G hU.2⟩
theorem Ko{C:Addr}{m:aG C}(g:Gr m n):yR m=some (rng n):=by
 unfold yR
 rw[Xz g]
 have:=g.pos
 have:=g.few
 show sZ n=_
 unfold sZ
 rw[if_pos ⟨by omega,by omega⟩]
 rfl
theorem XF(h:n<=60)(h0:0<=n):(rng n).length<=60:=by have:=wU (n:=n) h0;omega
theorem zHj{C:Addr}{m:aG C}(g:Gr m n){xs:LI}(hl:xs.length<4000):vT m xs=some (pick n λz=>!decide (z∈xs)):=by
 unfold vT
 rw[Ko g]
 have r:=XF g.few (by have:=g.pos;omega)
 show QM (rng n) xs=_
 unfold QM
 rw[if_pos ⟨by omega,hl⟩]
 exact congrArg some (XD (Rh n _))
theorem Kq(h:bI n xs)(qX:n<=60):xs.length<=60:=by
 by_cases h0:0<=n
 ·have:=wS (n:=n.toNat) h.nodup λx hx=>by have:=h.2 x hx;omega
  omega
 ·cases xs with
  |nil=>exact abk _
  |cons a l=>have:=h.2 a mem_cons_self;omega
theorem zEu{ys:LI}(hx:bI n xs)(qX:n<=60)(hy:ys.length<4000):vD xs ys=some (xs.filter λz=>decide (z∈ys)):=by
 rw[zMk (by have:=Kq hx qX;omega) hy]
 exact congrArg some (XD (n:=n) ⟨hx.1.filter _,λx h=>hx.2 x (mem_filter.mp h).1⟩)
theorem zN4{ys:LI}(hx:bI n xs)(qX:n<=60)(hy:ys.length<4000):Oq xs ys=some (xs.filter λz=>!decide (z∈ys)):=by
 unfold Oq QM
 rw[if_pos ⟨by have:=Kq hx qX;omega,hy⟩]
 exact congrArg some (XD (n:=n) ⟨hx.1.filter _,λx h=>hx.2 x (mem_filter.mp h).1⟩)
def Rj(xss fair:List LI)(n:Int)(L:LI):Prop:=bI n L/\∀s,s∈L↔s∈rng n/\∃b∈rng n,Ri xss fair (rng n) b/\Rc xss (rng n) s b
theorem XH(n:Int):bI n (rng n):=⟨zQs n,λx hx=>gq.mp hx⟩
theorem XJ{C:Addr}{m:aG C}(g:Gr m n)(hf:Ah n m.fair):W (QZ m) (Rj m.steps m.fair n):=by
 unfold QZ
 rw[Ko g]
 exact Iu g hf (XH n)
theorem gj{α:Type}{m:Option α}{a:α}(h:W m (· = a)):m=some a:=by obtain⟨b,e,rfl⟩:=h;exact e
theorem zTb{α β:Type}{f:α->Option β}{R:α->β->Prop}:∀{xs:List α},(∀x∈xs,W (f x) (R x))->∃ys:List β,ys.length=xs.length/\wG (λ_=>some true) f xs=some ys/\∀(i:Nat) x,xs[i]?=some x->∃y,ys[i]?=some y/\R x y
 |[],_=>⟨[],rfl,rfl,λi x e=>by simp at e⟩
 |x::xs,h=>by
  obtain⟨y,ey,ry⟩:=h x mem_cons_self
  obtain⟨ys,l,e,r⟩:=zTb (xs:=xs) λz hz=>h z (mem_cons_of_mem _ hz)
  refine⟨y::ys,by rw[length_cons,length_cons,l],?_,λi z hz=>?_⟩
  ·unfold wG
   show(f x).bind (λy=>(wG (λ_=>some true) f xs).bind λys=>some (y::ys))=_
   rw[ey]
   show(wG (λ_=>some true) f xs).bind _=_
   rw[e]
   rfl
  ·cases i with
   |zero=>simp at hz;subst hz;exact⟨y,rfl,ry⟩
   |succ i=>exact r i z (by simpa using hz)
theorem su{α:Type}{pre:List α}{x:α}:L2.aO (pre++[x]) (-(1:Int))=some x:=by
 unfold L2.aO rA
 rw[if_neg (by decide),if_pos (by rw[length_append,length_singleton];omega)]
 show(pre++[x])[((-(1:Int))+((pre++[x]).length:Nat)).toNat]?=some x
 have e:((-(1:Int))+((pre++[x]).length:Nat)).toNat=pre.length:=by rw[length_append,length_singleton];omega
 rw[e,getElem?_append_right (aav _),afo]
 rfl
theorem zO9(h:bI n xs):WM xs=xs :=
 QH (Ug (zEd xs) ((uG xs).nodup_iff.mpr h.nodup)) h.1 λs=>(uG xs).mem_iff
theorem zMm{C:Addr}{m:aG C}(qX:n<=60)(hs:∀mk∈m.marks,bI n mk.2)(x:Str):W (xE m x) λS=>(∃mk∈m.marks,mk.1=x/\S=mk.2)\/((∀mk∈m.marks,mk.1≠x)/\S=[]):=by
 unfold xE
 rw[zC,zC,aj]
 refine zTc (λi _=>∀mk∈m.marks.take i,mk.1≠x) (λmk h=>by simp at h) (λi mk _ hi hI=>?_) λ_ hI=>?_
 ·have mm:=mem_of_getElem? hi
  by_cases c:mk.1=x
  ·rw[decide_eq_true c,if_pos rfl,zC]
   have r:=Kq (hs mk mm) qX
   unfold GP
   rw[if_pos (by omega),aj,aj,zO9 (hs mk mm)]
   refine .inr ⟨_,rfl,?_⟩
   show W (some mk.2) _
   rw[aj]
   exact .inl ⟨mk,mm,c,rfl⟩
  ·rw[decide_eq_false c,if_neg (by decide),aj]
   refine .inl ⟨(),rfl,λmk' h=>?_⟩
   rw[take_add_one,hi,mem_append] at h
   rcases h with h|h
   ·exact hI mk' h
   ·have e:mk'=mk:=by simpa using h
    rw[e];exact c
 ·rw[take_length] at hI
  rw[M4,aj]
  exact .inr ⟨hI,rfl⟩
inductive Pl{C:Addr}(m:aG C)(n:Int):Tr->LI->Prop
 |all:Pl m n .all (rng n)
 |mark {mk:Str×LI}:mk∈m.marks->Pl m n (.mark mk.1) mk.2
 |aH {x:Str}:(∀mk∈m.marks,mk.1≠x)->Pl m n (.mark x) []
 |no {t:Tr} {S:LI}:Pl m n t S->Pl m n (.one 0 t) (pick n λz=>!decide (z∈S))
theorem Pl.rise{C:Addr}{m:aG C}(hs:∀mk∈m.marks,bI n mk.2)(h:Pl m n t S):bI n S:=by
 cases h with
 |all=>exact XH n
 |mark h=>exact hs _ h
 |aH _=>exact⟨.nil,λx h=>by cases h⟩
 |no _=>exact Rh n _
theorem zP2{ms:List (Str×LI)}(nd:(ms.map (·.1)).Nodup)(ha:a∈ms)(hb:b∈ms)(e:a.1=b.1):a=b:=by
 induction ms with
 |nil=>cases ha
 |cons x l ih =>
  rw[map_cons,nodup_cons] at nd
  rcases mem_cons.mp ha with rfl|ha'
  ·rcases mem_cons.mp hb with rfl|hb'
   ·rfl
   ·exact absurd (mem_map.mpr ⟨b,hb',e.symm⟩) nd.1
  ·rcases mem_cons.mp hb with rfl|hb'
   ·exact absurd (mem_map.mpr ⟨a,ha',e⟩) nd.1
   ·exact ih nd.2 ha' hb'
theorem Iv{C:Addr}{m:aG C}(g:Gr m n)(nd:(m.marks.map (·.1)).Nodup)(hs:∀mk∈m.marks,bI n mk.2)(L:LI)(h:Pl m n t S):∀k,t.depth<k->k<=100->W (yY k m L (bh.mk (cl:=cl) t)) λT=>∃pre,T=pre++[S]/\T.length<=k:=by
 induction h with
 |all =>
  intro k hk h100
  obtain⟨k,rfl⟩:∃j,k=j+1:=⟨k-1,by omega⟩
  show W (yS (yY k) m L _) _
  unfold yS
  rw[zC,aj,zC,aj,zC,zC,aj]
  show W (xK _ [] _) _
  refine xQ (λ_ z=>z=([],[])) rfl (λi x z hi=>by simp at hi) λz hz=>?_
  subst hz
  rw[zC,zC]
  show W (yR m) _
  rw[Ko g,aj,uW]
  refine⟨yH (by simp),?_⟩
  rw[aj]
  exact⟨[],rfl,by simp⟩
 |mark hm =>
  intro k hk h100
  obtain⟨k,rfl⟩:∃j,k=j+1:=⟨k-1,by omega⟩
  show W (yS (yY k) m L _) _
  unfold yS
  rw[zC,aj,zC,aj,zC,zC,aj]
  show W (xK _ [] _) _
  refine xQ (λ_ z=>z=([],[])) rfl (λi x z hi=>by simp at hi) λz hz=>?_
  subst hz
  rw[zC,zC]
  show W (xE m _) _
  refine(zMm g.few hs _).imp λS hS=>?_
  rw[uW]
  refine⟨yH (by simp),?_⟩
  rw[aj]
  rcases hS with⟨mk,h1,h2,rfl⟩|⟨h1,_⟩
  ·rw[zP2 nd h1 hm h2]
   exact⟨[],rfl,by simp⟩
  ·exact absurd rfl (h1 _ hm)
 |aH hm =>
  intro k hk h100
  obtain⟨k,rfl⟩:∃j,k=j+1:=⟨k-1,by omega⟩
  show W (yS (yY k) m L _) _
  unfold yS
  rw[zC,aj,zC,aj,zC,zC,aj]
  show W (xK _ [] _) _
  refine xQ (λ_ z=>z=([],[])) rfl (λi x z hi=>by simp at hi) λz hz=>?_
  subst hz
  rw[zC,zC]
  show W (xE m _) _
  refine(zMm g.few hs _).imp λS hS=>?_
  rw[uW]
  refine⟨yH (by simp),?_⟩
  rw[aj]
  rcases hS with⟨mk,h1,h2,rfl⟩|⟨_,rfl⟩
  ·exact absurd h2 (hm mk h1)
  ·exact⟨[],rfl,by simp⟩
 |@no t S hp ih =>
  intro k hk h100
  obtain⟨k,rfl⟩:∃j,k=j+1:=⟨k-1,by omega⟩
  have hk':t.depth<k:=by
   have:(Tr.one 0 t).depth=t.depth+1:=rfl
   omega
  show W (yS (yY k) m L _) _
  unfold yS
  rw[zC,aj,zC,aj,zC,zC,aj]
  show W (xK _ [bh.mk t] _) _
  refine xQ (λi z=>(i=0/\z=([],[]))\/(i=1/\z.2=[S]/\z.1.length<=k)) (.inl ⟨rfl,rfl⟩) (λi x z hi hz=>?_) λz hz=>?_
  ·have hi0:i=0/\x=bh.mk t:=by
    cases i with
    |zero=>simp at hi;exact⟨rfl,hi.symm⟩
    |succ i=>simp at hi
   obtain⟨rfl,rfl⟩:=hi0
   rcases hz with⟨_,rfl⟩|⟨z1,_⟩
   ·rw[zC,zC]
    refine(ih k hk' (by omega)).imp λT ⟨pre,e,hl⟩=>?_
    subst e
    unfold CG
    rw[if_pos (yH (by show 0+_<=1000;omega)),aj,zC,zC]
    show W (L2.aO (pre++[S]) (-(1:Int))) _
    rw[su,aj,uW]
    refine⟨yH (by simp),?_⟩
    rw[aj]
    exact .inr ⟨rfl,rfl,hl⟩
   ·cases z1
  ·obtain⟨told,sets⟩:=z
   rcases hz with⟨z1,_⟩|⟨_,z2,z3⟩
   ·cases z1
   ·have z2':sets=[S]:=z2
    subst z2'
    have z3':told.length<=k:=z3
    rw[zC,zC]
    show W (((((L2.aO [S] (0:Int)).bind λa4=>some ((a4,()))).bind λb5=>some (m,b5)).bind λz3=>vT z3.1 z3.2.1)) _
    rw[zC,zC,zC,cG (by decide)]
    refine⟨S,rfl,?_⟩
    rw[aj,aj]
    show W (vT m S) _
    rw[zHj g (by have:=Kq (hp.rise hs) g.few;omega),aj,uW]
    refine⟨yH (by show told.length<=1000;omega),?_⟩
    rw[aj]
    exact⟨told,rfl,by show(told++[_]).length<=_;rw[length_append];exact abp z3'⟩
theorem XM{C:Addr}{m:aG C}(g:Gr m n)(hf:Ah n m.fair)(nd:(m.marks.map (·.1)).Nodup)(hs:∀mk∈m.marks,bI n mk.2)(h:Pl m n t S)(hd:t.depth<6):Ka m (bh.mk (cl:=cl) t)=some S:=by
 apply gj
 unfold Ka Xp
 rw[zC,zC,zC,zC]
 refine(XJ g hf).imp λL _=>?_
 rw[aj,aj]
 show W (yY 6 m L (bh.mk t)) _
 refine(Iv g nd hs L h 6 hd (by decide)).imp λT ⟨pre,e,_⟩=>?_
 subst e
 rw[su,aj]
theorem zTn{xss:List LI}(hl:(xss.length:Int)=n)(h1:1<=n)(qX:n<=60)(hr:∀xs∈xss,Vn n xs)(hf:Ah n fair):W (Vf xss fair) (Rj xss fair n):=by
 have rl:=XF qX (by omega)
 have hrl:=wU (n:=n) (by omega)
 obtain⟨rc,Iw⟩:∃rc:Int->Int->Bool,∀x y,rc x y=true↔Rc xss (rng n) x y:=⟨λx y=>@decide _ (acd (Rc xss (rng n) x y)),λx y=>⟨λh=>@of_decide_eq_true _ (acd _) h,λh=>@decide_eq_true _ (acd _) h⟩⟩
 unfold Vf
 have el:sZ (xss.length:Int)=some (rng n):=by
  unfold sZ
  rw[if_pos ⟨by omega,by omega⟩,hl]
  rfl
 rw[zC,el,aj,zC,zC,aj]
 obtain⟨cs,cl,ce,cq⟩:=zTb (f:=λ(x3:Int)=>Rb xss (rng n) x3) (R:=λs D=>zW3 xss (rng n) s D) (xs:=rng n) λx hx=>zTm hl qX hx λy hy=>gq.mp hy
 unfold yX
 rw[if_pos (yH (by omega)),ce,aj]
 have XQ:∀x y:Int,0<=x->x<n->((L2.aO cs x).bind λb=>some ((dO b.kv y).isSome))=some (rc x y):=λx y x0 x1=>by
  apply gj
  have hx:(rng n)[x.toNat]?=some x:=by
   have q:(rng n)[x.toNat]?=some (rng n)[x.toNat]:=aas (by omega)
   have e:=(zj q).1
   rw[q]
   exact congrArg some (by omega)
  obtain⟨D,e,seen,rfl,hs⟩:=cq x.toNat x hx
  rw[zC,cG x0]
  refine⟨_,e,?_⟩
  rw[aj]
  show(dO (dl seen) y).isSome=_
  rw[Vr,abw,decide_eq_true_iff,hs,Iw]
 have nb:∀s,0<=s->s<n->∀t∈nxt xss s,0<=t/\t<n:=λs s0 s1 t ht=>(hr _ (mem_of_getElem? (Ib hl s0 s1))).2.2.2 t ht
 obtain⟨p,hp⟩:=cls (Ri xss fair (rng n))
 have inR:∀{t:Int},0<=t->t<n->t∈rng n:=λa b=>gq.mpr ⟨a,b⟩
 rw[zC,aj,zC,zC,aj]
 refine xQ (λi s=>s=((rng n).take i).filter p) (by simp) (λi x s hi hI=>?_) λs hI=>?_
 ·subst hI
  obtain⟨rfl,hx⟩:=zj hi
  have x0:(0:Int)<=(i:Int):=by omega
  have row:=Ib hl x0 (by omega)
  have rlen:=(hr _ (mem_of_getElem? row)).2.2.1
  rw[zC,zC,zC,zC,cG x0]
  refine⟨_,row,?_⟩
  show W (yX _ _ _) _
  rw[wJ (p:=λt=>rc t (i:Int)) (g:=λt=>t) (yH (by omega)) (λt ht=>XQ t _ (nb _ x0 (by omega) t ht).1 (nb _ x0 (by omega) t ht).2) (λ_ _=>rfl),map_id',aj,aj,aj]
  have again:(0:Int)<(((nxt xss (i:Int)).filter λt=>rc t (i:Int)).length:Int)↔jm xss (rng n) (i:Int) (i:Int):=by
   constructor
   ·intro h
    obtain⟨t,ht⟩:=exists_mem_of_length_pos (show 0<((nxt xss (i:Int)).filter λt=>rc t (i:Int)).length by omega)
    obtain⟨t1,t2⟩:=mem_filter.mp ht
    have tb:=nb _ x0 (by omega) t t1
    rcases((Iw _ _).mp t2).pth with q|q
    ·rw[<-q] at t1
     exact .one t1 (inR x0 (by omega))
    ·exact .step t1 (inR tb.1 tb.2) q
   ·intro q
    have:∃t,t∈nxt xss (i:Int)/\Rc xss (rng n) t (i:Int):=by
     cases q with
     |one a b=>exact⟨_,a,.here⟩
     |step a b r=>exact⟨_,a,r.rc⟩
    obtain⟨t,t1,t2⟩:=this
    have:=length_pos_of_mem (mem_filter.mpr ⟨t1,(Iw _ _).mpr t2⟩:t∈(nxt xss (i:Int)).filter λt=>rc t (i:Int))
    omega
  rw[zC,zC,aj]
  obtain⟨b0,hb0⟩:∃b0:Bool,b0=decide ((0:Int)<(((nxt xss (i:Int)).filter λt=>rc t (i:Int)).length:Int)):=⟨_,rfl⟩
  rw[<-hb0]
  have aah:b0=true↔jm xss (rng n) (i:Int) (i:Int):=by rw[hb0,decide_eq_true_iff];exact again
  refine xQ (λj b=>b=true↔(jm xss (rng n) (i:Int) (i:Int)/\∀F∈fair.take j,∃x∈F,Rc xss (rng n) (i:Int) x/\Rc xss (rng n) x (i:Int))) (by rw[aah];simp) (λj F b hj hJ=>?_) λb hJ=>?_
  ·have Fm:=mem_of_getElem? hj
   have Fo:=hf.2 F Fm
   have Fl:=qj Fo qX (by omega)
   rw[zC,zC,aj]
   show W (yX _ _ F) _
   rw[wJ (p:=λt=>rc (i:Int) t) (g:=λt=>t) (yH (by omega)) (λt _=>XQ _ t x0 (by omega)) (λ_ _=>rfl),map_id',aj,zC]
   have tk:fair.take (j+1)=fair.take j++[F]:=by rw[take_add_one,hj]<;>rfl
   cases b with
   |false =>
    rw[if_neg (by decide),aj,aj]
    refine⟨λz=>(by cases z),λz=>?_⟩
    have:=hJ.mpr ⟨z.1,λF' hF'=>z.2 F' (by rw[tk];exact mem_append.mpr (.inl hF'))⟩
    cases this
   |true =>
    obtain⟨j1,j2⟩:=hJ.mp rfl
    rw[if_pos rfl,zC,zC,zC,aj]
    show W (yX _ _ (F.filter λt=>rc (i:Int) t)) _
    have fl2:=length_filter_le (λt=>rc (i:Int) t) F
    rw[wJ (p:=λt=>rc t (i:Int)) (g:=λt=>t) (yH (by omega)) (λt ht=>XQ t _ (Fo.2.2 t (mem_filter.mp ht).1).1 (Fo.2.2 t (mem_filter.mp ht).1).2) (λ_ _=>rfl),map_id',aj,aj,aj,aj,decide_eq_true_iff]
    constructor
    ·intro h
     obtain⟨t,ht⟩:=exists_mem_of_length_pos (show 0<((F.filter λt=>rc (i:Int) t).filter λt=>rc t (i:Int)).length by omega)
     obtain⟨t1,t2⟩:=mem_filter.mp ht
     obtain⟨t3,t4⟩:=mem_filter.mp t1
     refine⟨j1,λF' hF'=>?_⟩
     rw[tk] at hF'
     rcases mem_append.mp hF' with z|z
     ·exact j2 F' z
     ·rw[mem_singleton.mp z]
      exact⟨t,t3,(Iw _ _).mp t4,(Iw _ _).mp t2⟩
    ·intro h
     obtain⟨t,t1,t2,t3⟩:=h.2 F (by rw[tk];exact mem_append.mpr (.inr (by simp)))
     have:=length_pos_of_mem (mem_filter.mpr ⟨mem_filter.mpr ⟨t1,(Iw _ _).mpr t2⟩,(Iw _ _).mpr t3⟩:t∈(F.filter λt=>rc (i:Int) t).filter λt=>rc t (i:Int))
     omega
  ·rw[take_length] at hJ
   have fl:(((rng n).take i).filter p).length<=1000:=by
    have:=length_filter_le p ((rng n).take i)
    rw[length_take] at this
    omega
   rw[zC,zVi hi]
   by_cases c:b=true
   ·rw[if_pos c,zC,uW]
    refine⟨yH fl,?_⟩
    rw[aj,aj,if_pos ((hp _).mpr (hJ.mp c))]
   ·rw[if_neg c,aj,aj,if_neg (λz=>c (hJ.mpr ((hp _).mp z))),append_nil]
 ·subst hI
  rw[take_length]
  have bl:=length_filter_le p (rng n)
  obtain⟨q,hq⟩:=cls λs=>∃b∈rng n,Ri xss fair (rng n) b/\Rc xss (rng n) s b
  rw[zC,aj]
  show W (yX _ _ (rng n)) _
  rw[wJ (p:=q) (g:=λx=>x) (yH (by omega)) (λx hx=>?_) (λ_ _=>rfl),map_id',aj]
  ·refine⟨⟨(zQs n).filter q,λx hx=>gq.mp (mem_filter.mp hx).1⟩,λs=>?_⟩
   rw[mem_filter,hq s]
  ·obtain⟨x0,x1⟩:=gq.mp hx
   apply gj
   rw[zC,zC,zC,aj]
   show W (yX _ _ ((rng n).filter p)) _
   rw[wJ (p:=λy=>rc x y) (g:=λy=>y) (yH (by omega)) (λy _=>XQ x y x0 x1) (λ_ _=>rfl),map_id',aj,aj,aj,abw,decide_eq_true_iff,hq x]
   constructor
   ·intro h
    obtain⟨b,hb⟩:=exists_mem_of_length_pos (show 0<(((rng n).filter p).filter λy=>rc x y).length by omega)
    obtain⟨b1,b2⟩:=mem_filter.mp hb
    obtain⟨b3,b4⟩:=mem_filter.mp b1
    exact⟨b,b3,(hp b).mp b4,(Iw _ _).mp b2⟩
   ·rintro⟨b,bU,bB,r⟩
    have:=length_pos_of_mem (mem_filter.mpr ⟨mem_filter.mpr ⟨bU,(hp b).mpr bB⟩,(Iw _ _).mpr r⟩:b∈((rng n).filter p).filter λy=>rc x y)
    omega
def resv:List Str:=["all","not","both","either","somenext","eachnext","sometill","eachtill","someever","eachever"]
def Rk(w:Str):Str:=⟨#[w.cps.getD 0 0,113]⟩
theorem zT5:∀w∈resv,((CN w (1:Int)).bind λa22=>rO a22 ("q":Str))=some (Rk w):=by decide +kernel
theorem zOh:∀w∈resv,Ol (Rk w)=some true:=by decide +kernel
theorem zMy:∀w∈resv,3<=w.cps.size:=by decide +kernel
def ham(w v:Str):Nat:=((aax 8).filter λj=>decide (w.cps[j]?≠v.cps[j]?)).length
theorem zUd:∀w∈resv,∀v∈resv,w=v\/w.cps.size≠v.cps.size\/2<=ham w v:=by decide +kernel
theorem Iz:∀i,i<26->(("abcdefghijklmnopqrstuvwxyz":Str).cps)[i]?=some (97+i):=by decide +kernel
theorem IK:∀i,i<26->WR ⟨#[97+i]⟩ ("abcdefghijklmnopqrstuvwxyz":Str)=true:=by decide +kernel
theorem zVw:("abcdefghijklmnopqrstuvwxyz":Str).length=26:=by decide +kernel
theorem zU7(x:Int):QT ("abcdefghijklmnopqrstuvwxyz":Str) (x%26)=some ⟨#[97+(x%26).toNat]⟩:=by
 have h0:0<=x%26/\x%26<26:=by omega
 unfold QT
 rw[if_pos ⟨h0.1,by omega,by rw[zVw];exact h0.2⟩,Iz _ (by omega)]
 rfl
def idx(c k size:Int)(j:Nat):Nat:=97+((if(j:Int)=c/8%size then c/64+(j:Int)*(j:Int)+k else c/64+(j:Int)*(j:Int))%26).toNat
def vO(c k size:Int):Str:=⟨((aax size.toNat).map (idx c k size)).toArray⟩
theorem IV(a b:Str):(a++b).cps=a.cps++b.cps:=by
 first
  |rfl
  | (show(Str.append a b).cps=_;unfold Str.append;rfl)
theorem Px(c k size:Int)(j:Nat):∃i,i<26/\idx c k size j=97+i:=⟨_,by
 have:∀x:Int,(x%26).toNat<26:=λx=>by omega
 exact this _,rfl⟩
theorem Py(c:Int):W (Ve c k) λs=>s=(if vO c k (1+c%8)∈resv then Rk (vO c k (1+c%8)) else vO c k (1+c%8)):=by
 have h8:0<=c%8/\c%8<8:=by omega
 unfold Ve
 rw[zC,aj,zC,zC,qU]
 refine⟨by decide,?_⟩
 rw[aj]
 generalize hsz:1+c%8=size
 have s1:1<=size/\size<=8:=by omega
 rw[zC,aj,zC,zC,vL]
 refine⟨⟨by omega,by omega⟩,?_⟩
 have rl:=wU (n:=size) (by omega)
 refine xQ (λi s=>s=⟨((aax i).map (idx c k size)).toArray⟩) rfl (λi x s hi hI=>?_) λs hI=>?_
 ·subst hI
  obtain⟨rfl,hx⟩:=zj hi
  rw[zC,zC,Bc]
  refine⟨⟨by decide,by decide⟩,?_⟩
  rw[zC,Wx]
  refine⟨.inl ⟨by omega,by omega⟩,?_⟩
  rw[aj,zC,zC,zC,zC,Bc]
  refine⟨⟨by decide,by decide⟩,?_⟩
  rw[qU]
  refine⟨by omega,?_⟩
  rw[aj]
  have fin:∀z:Int,97+(z%26).toNat=idx c k size i->W ((((cI z (26:Int)).bind λOz=>QT ("abcdefghijklmnopqrstuvwxyz":Str) Oz).bind λHN=>rO ⟨((aax i).map (idx c k size)).toArray⟩ HN).bind λoE=>some oE) λs=>s=⟨((aax (i+1)).map (idx c k size)).toArray⟩:=λz hz=>by
   rw[zC,zC,zC,qU]
   refine⟨by decide,?_⟩
   rw[zU7,aj]
   unfold rO
   have la:(⟨((aax i).map (idx c k size)).toArray⟩:Str).length=i:=by
    show((aax i).map (idx c k size)).toArray.size=i
    rw[size_toArray,length_map,length_range]
   have lb:(⟨#[97+(z%26).toNat]⟩:Str).length=1:=rfl
   rw[if_pos (by rw[la,lb];omega),aj,aj]
   have e:((⟨((aax i).map (idx c k size)).toArray⟩:Str)++(⟨#[97+(z%26).toNat]⟩:Str)).cps=((aax (i+1)).map (idx c k size)).toArray:=by
    rw[IV,range_succ,map_append,hz]
    simp
   generalize((⟨((aax i).map (idx c k size)).toArray⟩:Str)++(⟨#[97+(z%26).toNat]⟩:Str))=y at e ⊢
   obtain⟨cps⟩:=y
   dsimp only at e
   rw[e]
  by_cases cc:(i:Int)=c/8%size
  ·rw[decide_eq_true cc,if_pos rfl,zC,aj,aj]
   exact fin _ (by unfold idx;rw[if_pos cc])
  ·rw[decide_eq_false cc,if_neg (by decide),aj]
   exact fin _ (by unfold idx;rw[if_neg cc])
 ·subst hI
  have el:(rng size).length=size.toNat:=by omega
  rw[el]
  show W (((if(decide (vO c k size∈resv))=true then((CN (vO c k size) (1:Int)).bind λa22=>rO a22 ("q":Str)).bind λoF=>some oF else some (vO c k size))).bind λwu=>some wu) _
  rw[zC]
  by_cases cc:vO c k size∈resv
  ·rw[decide_eq_true cc,if_pos rfl,zC,zT5 _ cc,aj,aj,aj,if_pos cc]
  ·rw[decide_eq_false cc,if_neg (by decide),aj,aj,if_neg cc]
theorem uI:(vO c k size).cps.size=size.toNat:=by
 show((aax size.toNat).map (idx c k size)).toArray.size=_
 rw[size_toArray,length_map,length_range]
theorem XR{size:Int}(h:j<size.toNat):(vO c k size).cps[j]?=some (idx c k size j):=by
 show((aax size.toNat).map (idx c k size)).toArray[j]?=_
 rw[getElem?_toArray,getElem?_map,getElem?_range h]
 rfl
def yj(c k:Int):Str:=if vO c k (1+c%8)∈resv then Rk (vO c k (1+c%8)) else vO c k (1+c%8)
theorem zRn(c k:Int):Ol (yj c k)=some true/\(yj c k).length<=1000:=by
 have h8:0<=c%8/\c%8<8:=by omega
 unfold yj
 by_cases cc:vO c k (1+c%8)∈resv
 ·rw[if_pos cc]
  exact⟨zOh _ cc,by show 2<=1000;decide⟩
 ·rw[if_neg cc]
  have ln:(vO c k (1+c%8)).length=(1+c%8).toNat:=uI
  refine⟨?_,by rw[ln];omega⟩
  have cc':=cc
  unfold resv at cc'
  apply gj
  unfold Ol
  rw[zC,if_neg (by decide),aj,if_neg (λz=>cc' (of_decide_eq_true z)),zC,zC]
  unfold Cv
  rw[if_pos (yH (by rw[ln];omega)),aj,decide_eq_true (by rw[ln];omega),if_pos rfl,aj,decide_eq_true (by rw[ln];omega),if_pos rfl,zC,zC,aj]
  have lsg:(JM (vO c k (1+c%8))).length<=1000:=by
   unfold JM
   rw[length_map,length_toList,uI]
   omega
  rw[wJ (p:=λ_=>true) (g:=λ_=>true) (yH lsg) (λ_ _=>rfl) (λx hx=>?_),aj,aj]
  ·rw[all_eq_true]
   intro x hx
   obtain⟨y,_,rfl⟩:=mem_map.mp hx
   rfl
  ·unfold JM at hx
   obtain⟨y,hy,rfl⟩:=mem_map.mp hx
   have hy':y∈(aax (1+c%8).toNat).map (idx c k (1+c%8)):=hy
   obtain⟨j,_,rfl⟩:=mem_map.mp hy'
   obtain⟨i,hi,e⟩:=Px c k (1+c%8) j
   rw[e,IK i hi]
theorem zLx(c:Int)(h0:0<=k)(h2:k<=2)(h0':0<=k')(h2':k'<=2)(hk:k≠k'):yj c k≠yj c k':=by
 have h8:0<=c%8/\c%8<8:=by omega
 unfold yj
 generalize hsz:1+c%8=size
 have s1:1<=size/\size<=8:=by omega
 have j0:0<=c/8%size/\c/8%size<size:=⟨acv _ (by omega),aci _ (by omega)⟩
 have same:∀j:Nat,(j:Int)≠c/8%size->idx c k size j=idx c k' size j:=λj hj=>by unfold idx;rw[if_neg hj,if_neg hj]
 have diff:idx c k size (c/8%size).toNat≠idx c k' size (c/8%size).toNat:=λe=>by
  unfold idx at e
  have ej:(((c/8%size).toNat:Nat):Int)=c/8%size:=by omega
  rw[if_pos ej,if_pos ej,ej] at e
  generalize c/64+c/8%size*(c/8%size)=z at e
  omega
 have ne:vO c k size≠vO c k' size:=λe=>by
  have a:=XR (c:=c) (k:=k) (size:=size) (j:=(c/8%size).toNat) (by omega)
  rw[e,XR (by omega)] at a
  exact diff (aa3 a).symm
 by_cases a:vO c k size∈resv
 ·rw[if_pos a]
  by_cases b:vO c k' size∈resv
  ·rw[if_pos b]
   exfalso
   rcases zUd _ a _ b with q|q|q
   ·exact ne q
   ·exact q (by rw[uI,uI])
   ·have:ham (vO c k size) (vO c k' size)<=1:=by
     unfold ham
     have sub:∀j∈(aax 8).filter λj=>decide ((vO c k size).cps[j]?≠(vO c k' size).cps[j]?),j=(c/8%size).toNat:=λj hj=>by
      obtain⟨_,h⟩:=mem_filter.mp hj
      have h':=of_decide_eq_true h
      refine Classical.byContradiction λz=>h' ?_
      by_cases jl:j<size.toNat
      ·rw[XR jl,XR jl,same j (by omega)]
      ·rw[abf (by rw[uI];omega),abf (by rw[uI];omega)]
     have nd:((aax 8).filter λj=>decide ((vO c k size).cps[j]?≠(vO c k' size).cps[j]?)).Nodup:=List.nodup_range.filter _
     generalize(aax 8).filter (λj=>decide ((vO c k size).cps[j]?≠(vO c k' size).cps[j]?))=l at sub nd ⊢
     match l,sub,nd with
     |[],_,_=>exact abk _
     |[_],_,_=>exact aav _
     |x::y::l,sub,nd =>
      have e1:=sub x (by simp)
      have e2:=sub y (by simp)
      rw[nodup_cons] at nd
      exact absurd (by rw[e1,<-e2];simp) nd.1
    omega
  ·rw[if_neg b]
   intro e
   have l1:(Rk (vO c k size)).cps.size=2:=rfl
   rw[e,uI] at l1
   have:=zMy _ a
   rw[uI] at this
   omega
 ·rw[if_neg a]
  by_cases b:vO c k' size∈resv
  ·rw[if_pos b]
   intro e
   have l1:(Rk (vO c k' size)).cps.size=2:=rfl
   rw[<-e,uI] at l1
   have:=zMy _ b
   rw[uI] at this
   omega
  ·rw[if_neg b]
   exact ne
theorem yV{α:Type}[Decidable c]{a b:Option α}{Q:α->Prop}(h:¬c)(q:W b Q):W (if c then a else b) Q:=by rw[if_neg h];exact q
theorem DX{α:Type}[Decidable c]{a b:Option α}{Q:α->Prop}(h:c)(q:W a Q):W (if c then a else b) Q:=by rw[if_pos h];exact q
def Bh(xss:List LI)(d:List (Option Int))(s:Int):cO:=match dg d s with
 |none=>.shut
 |some k=>.walk (cw xss d k.toNat s)
def Vx(xss:List LI)(U G:LI)(n:Int)(b:Bool)(R:List (Bool×cO)):Prop:=∃d,cV xss U G n d/\(R.length:Int)=n/\∀s:Int,0<=s->s<n->R[s.toNat]?=some (decide ((dg d s).isSome=b),Bh xss d s)
theorem IW(s0:0<=s)(s1:s<n):(rng n)[s.toNat]?=some s:=by
 have hl:=wU (n:=n) (by omega)
 have:(rng n)[s.toNat]?=some (rng n)[s.toNat]:=aas (by omega)
 rw[this]
 have:=zj this
 congr 1
 omega
section
variable{C:Addr}{cl:Hd->Addr}{m:aG C}{n:Int}{U G:LI}{d:List (Option Int)}
theorem uY(g:Gr m n)(ed:xL m U G=some d)(D:cV m.steps U G n d):zZ m U G=some ((rng n).map (Bh m.steps d)):=by
 apply gj
 unfold zZ
 have r:=XF g.few (by have:=g.pos;omega)
 rw[zC,ed,aj,zC,Ko g,aj,wJ (p:=λ_=>true) (g:=Bh m.steps d) (yH (by omega)) (λ_ _=>rfl) (λx hx=>?_),aj]
 ·rw[filter_eq_self.mpr λ_ _=>rfl]
 ·obtain⟨x0,x1⟩:=gq.mp hx
  apply gj
  rw[zC,zC]
  refine(zN5 g D x0 x1).imp λr hr=>?_
  subst hr
  rw[aj]
  unfold uZ Bh
  cases dg d x with
  |none=>exact DX rfl (by rw[aj])
  |some k=>exact yV aau (by rw[zC];exact⟨_,rfl,_,rfl,rfl⟩)
theorem zK5(g:Gr m n)(ed:xL m U G=some d)(D:cV m.steps U G n d)(hh:bI n hold)(ht:∀s,0<=s->s<n->(s∈hold↔(dg d s).isSome=b)):W ((Oo m hold).bind λa5=>(zZ m U G).bind λb6=>CK a5 b6) (Vx m.steps U G n b):=by
 rw[zC]
 refine(zP0 g hh.2).imp λfl ⟨l1,h1⟩=>?_
 rw[zC,uY g ed D,aj]
 have few:=g.few
 have pos:=g.pos
 have rl:=wU (n:=n) (by omega)
 have hl:fl.length=((rng n).map (Bh m.steps d)).length:=by rw[length_map];omega
 unfold CK
 rw[if_pos ⟨hl,by omega⟩,aj]
 refine⟨d,D,by rw[List.length_zip,<-hl,Nat.min_self];exact l1,λs s0 s1=>?_⟩
 have e1:fl[s.toNat]?=some (decide ((dg d s).isSome=b)):=by
  have q1:=h1 s s0 s1
  rw[getD_eq_getElem?_getD,aas (by omega)] at q1
  rw[aas (by omega)]
  have q2:fl[s.toNat]'(by omega)=decide (s∈hold):=q1
  rw[q2,decide_eq_decide.mpr (ht s s0 s1)]
 rw[getElem?_zip_eq_some]
 exact⟨e1,by rw[getElem?_map,IW s0 s1];rfl⟩
theorem zTq(g:Gr m n)(ed:xL m U G=some d)(D:cV m.steps U G n d):wP m U G=some (pick n λs=>(dg d s).isSome):=by
 have few:=g.few
 have pos:=g.pos
 have rl:=wU (n:=n) (by omega)
 apply gj
 unfold wP
 rw[zC,ed,aj,zC,aj,zNi D.len]
 rw[wJ (p:=λx:Int×Option Int=>x.2.isSome) (g:=λx:Int×Option Int=>x.1) (yH (by rw[length_map];omega)) (λ_ _=>rfl) (λ_ _=>rfl),aj]
 rw[List.filter_map,map_map]
 exact map_id' _
theorem zDo(g:Gr m n){S:LI}(hL:bI n L)(hS:S.length<4000)(ed:xL m U (L.filter λz=>decide (z∈S))=some d)(D:cV m.steps U (L.filter λz=>decide (z∈S)) n d):xW m L U S=some (pick n λs=>(dg d s).isSome):=by
 apply gj
 unfold xW
 rw[zC,zC,zC,zC,zEu hL g.few hS,aj,aj,aj,aj]
 show W (wP m U _) _
 rw[zTq g ed D,aj]
theorem zL8(g:Gr m n)(hU:bI n U)(hG:bI n G):∃d,xL m U G=some d/\cV m.steps U G n d:=by
 obtain⟨d,e,D⟩:=zEv g (through:=U) (goal:=G) hU.2 ⟨(hG.1.imp λh=>by omega),hG.2⟩
 exact⟨d,e,D⟩
theorem zCn(hL:bI n L)(p:Int->Bool):bI n (L.filter p):=⟨hL.1.filter p,λx hx=>hL.2 x (mem_filter.mp hx).1⟩
variable{t t':Tr}{S S':LI}
theorem I8(g:Gr m n)(hf:Ah n m.fair)(nd:(m.marks.map (·.1)).Nodup)(hs:∀mk∈m.marks,bI n mk.2)(h:Pl m n t S)(hd:t.depth<6)(h':Pl m n t' S')(hd':t'.depth<6):W (Dp m (bh.mk (cl:=cl) (.two 2 t t'))) λR=>∃L,Rj m.steps m.fair n L/\Vx m.steps S (L.filter λz=>decide (z∈S')) n true R:=by
 have rS:=h.rise hs
 have rS':=h'.rise hs
 have lS':=Kq rS' g.few
 unfold Dp
 rw[zC]
 refine(XJ g hf).imp λL hL=>?_
 rw[zC,zC,aj]
 show W (yX _ _ [bh.mk t,bh.mk t']) _
 have ec:yX (λ(_:bh cl)=>some true) (λ(x3:bh cl)=>Ka m x3) [bh.mk t,bh.mk t']=some [S,S']:=by
  unfold yX
  rw[if_pos (yH (by show 2<=1000;decide))]
  show(some true).bind _=_
  rw[bnd,if_pos rfl]
  show(Ka m (bh.mk t)).bind _=_
  rw[XM g hf nd hs h hd,bnd]
  show((some true).bind _).bind _=_
  rw[bnd,if_pos rfl]
  show((Ka m (bh.mk t')).bind _).bind _=_
  rw[XM g hf nd hs h' hd',bnd]
  rfl
 rw[ec,aj]
 obtain⟨d,ed,D⟩:=zL8 g rS (zCn hL.1 λz=>decide (z∈S'))
 have em:wN m L (bh.mk (cl:=cl) (.two 2 t t')) [S,S']=some (pick n λs=>(dg d s).isSome):=by
  apply gj
  unfold wN yU
  refine yV aau (yV aau (yV aau ?_))
  rw[zC]
  refine yV (by show¬decide ((2:Fin 4)=0)=true;decide) ?_
  rw[aj,zC]
  refine yV (by show¬decide ((2:Fin 4)=1)=true;decide) ?_
  rw[aj,zC]
  refine yV aau ?_
  rw[aj,zC]
  refine yV aau ?_
  rw[aj]
  refine DX rfl ?_
  rw[zC,zC,zC,zC,cG (by decide)]
  refine⟨S,rfl,?_⟩
  rw[zC,zC,cG (by decide)]
  refine⟨S',rfl,?_⟩
  rw[aj,aj,aj,aj]
  show W (xW m L S S') _
  rw[zDo g hL.1 (by omega) ed D,aj]
 rw[zC,em,aj]
 have q:=zK5 g (b:=true) ed D (Rh n _) λs s0 s1=>by rw[eZ];exact⟨λz=>z.2.2,λz=>⟨s0,s1,z⟩⟩
 rw[zC] at q ⊢
 refine W.imp q λfl q1=>?_
 rw[zC] at q1 ⊢
 have er:wX m L (bh.mk (cl:=cl) (.two 2 t t')) [S,S'] (pick n λs=>(dg d s).isSome)=zZ m S (L.filter λz=>decide (z∈S')):=by
  obtain⟨rs,e1⟩:∃rs,zZ m S (L.filter λz=>decide (z∈S'))=some rs:=⟨_,uY g ed D⟩
  rw[e1]
  apply gj
  unfold wX
  rw[zC]
  refine yV aau ?_
  rw[aj,zC]
  refine yV aau ?_
  rw[aj]
  refine DX rfl ?_
  rw[zC,zC,zC,cG (by decide)]
  refine⟨S,rfl,?_⟩
  rw[zC,zC,zC,zC,zC,cG (by decide)]
  refine⟨S',rfl,?_⟩
  rw[aj,aj]
  show W (vD L S') _
  rw[zEu hL.1 g.few (by omega),aj,aj,aj,aj]
  show W (zZ m S _) _
  rw[e1,aj]
 rw[er]
 exact W.imp q1 λrs q2=>W.imp q2 λR hR=>⟨L,hL,hR⟩
theorem I9(g:Gr m n)(hf:Ah n m.fair)(nd:(m.marks.map (·.1)).Nodup)(hs:∀mk∈m.marks,bI n mk.2)(h:Pl m n t S)(hd:t.depth<6):W (Dp m (bh.mk (cl:=cl) (.one 5 t))) λR=>∃L,Rj m.steps m.fair n L/\Vx m.steps (rng n) (L.filter λz=>decide (z∈S)) n true R:=by
 have rS:=h.rise hs
 have lS:=Kq rS g.few
 unfold Dp
 rw[zC]
 refine(XJ g hf).imp λL hL=>?_
 rw[zC,zC,aj]
 show W (yX _ _ [bh.mk t]) _
 rw[wJ (p:=λ_=>true) (g:=λ_=>S) (yH (by simp)) (λ_ _=>rfl) (λx hx=>by rw[mem_singleton.mp hx];exact XM g hf nd hs h hd),aj]
 show W ((wN m L (bh.mk (.one 5 t)) [S]).bind _) _
 obtain⟨d,ed,D⟩:=zL8 g (XH n) (zCn hL.1 λz=>decide (z∈S))
 have em:wN m L (bh.mk (cl:=cl) (.one 5 t)) [S]=some (pick n λs=>(dg d s).isSome):=by
  apply gj
  unfold wN yU
  refine yV aau (yV aau (yV (by show¬decide ((5:Fin 7)=0)=true;decide) ?_))
  rw[zC]
  refine yV aau ?_
  rw[aj,zC]
  refine yV aau ?_
  rw[aj,zC]
  refine yV (by show¬decide ((5:Fin 7)=1)=true;decide) ?_
  rw[aj,zC]
  refine yV (by show¬decide ((5:Fin 7)=2)=true;decide) ?_
  rw[aj]
  refine yV aau ?_
  rw[zC]
  refine yV aau ?_
  rw[aj,zC]
  refine yV (by show¬decide ((5:Fin 7)=3)=true;decide) ?_
  rw[aj]
  refine yV (by show¬decide ((5:Fin 7)=4)=true;decide) (DX rfl ?_)
  rw[zC,zC,zC,zC,Ko g,aj,zC,zC,cG (by decide)]
  refine⟨S,rfl,?_⟩
  rw[aj,aj,aj,aj]
  show W (xW m L (rng n) S) _
  rw[zDo g hL.1 (by omega) ed D,aj]
 rw[zC,em,aj]
 have q:=zK5 g (b:=true) ed D (Rh n _) λs s0 s1=>by rw[eZ];exact⟨λz=>z.2.2,λz=>⟨s0,s1,z⟩⟩
 rw[zC] at q ⊢
 refine W.imp q λfl q1=>?_
 rw[zC] at q1 ⊢
 have er:wX m L (bh.mk (cl:=cl) (.one 5 t)) [S] (pick n λs=>(dg d s).isSome)=zZ m (rng n) (L.filter λz=>decide (z∈S)):=by
  obtain⟨rs,e1⟩:∃rs,zZ m (rng n) (L.filter λz=>decide (z∈S))=some rs:=⟨_,uY g ed D⟩
  rw[e1]
  apply gj
  unfold wX
  rw[zC]
  refine yV (by show¬decide ((5:Fin 7)=1)=true;decide) ?_
  rw[aj,zC]
  refine yV (by show¬decide ((5:Fin 7)=2)=true;decide) ?_
  rw[aj]
  refine yV aau (DX rfl ?_)
  rw[zC,zC,zC,Ko g,aj,zC,zC,zC,zC,zC,cG (by decide)]
  refine⟨S,rfl,?_⟩
  rw[aj,aj]
  show W (vD L S) _
  rw[zEu hL.1 g.few (by omega),aj,aj,aj,aj]
  show W (zZ m (rng n) _) _
  rw[e1,aj]
 show W (wX m L (bh.mk (.one 5 t)) [S] _) _
 rw[er]
 exact W.imp q1 λrs q2=>W.imp q2 λR hR=>⟨L,hL,hR⟩
theorem I_(g:Gr m n)(hf:Ah n m.fair)(nd:(m.marks.map (·.1)).Nodup)(hs:∀mk∈m.marks,bI n mk.2)(h:Pl m n t S)(hd:t.depth<6):W (Dp m (bh.mk (cl:=cl) (.one 4 t))) λR=>∃L,Rj m.steps m.fair n L/\Vx m.steps (rng n) (L.filter λz=>!decide (z∈S)) n false R:=by
 have rS:=h.rise hs
 have lS:=Kq rS g.few
 unfold Dp
 rw[zC]
 refine(XJ g hf).imp λL hL=>?_
 have eG:(L.filter λz=>decide (z∈pick n λz=>!decide (z∈S)))=L.filter λz=>!decide (z∈S):=by
  refine fH λz hz=>?_
  have zb:=hL.1.2 z hz
  rw[abw,decide_eq_true_iff,eZ]
  exact⟨λq=>q.2.2,λq=>⟨zb.1,zb.2,q⟩⟩
 rw[zC,zC,aj]
 show W (yX _ _ [bh.mk t]) _
 rw[wJ (p:=λ_=>true) (g:=λ_=>S) (yH (by simp)) (λ_ _=>rfl) (λx hx=>by rw[mem_singleton.mp hx];exact XM g hf nd hs h hd),aj]
 show W ((wN m L (bh.mk (.one 4 t)) [S]).bind _) _
 obtain⟨d,ed,D⟩:=zL8 g (XH n) (zCn hL.1 λz=>!decide (z∈S))
 have em:wN m L (bh.mk (cl:=cl) (.one 4 t)) [S]=some (pick n λz=>!decide (z∈pick n λs=>(dg d s).isSome)):=by
  apply gj
  unfold wN yU
  refine yV aau (yV aau (yV (by show¬decide ((4:Fin 7)=0)=true;decide) ?_))
  rw[zC]
  refine yV aau ?_
  rw[aj,zC]
  refine yV aau ?_
  rw[aj,zC]
  refine yV (by show¬decide ((4:Fin 7)=1)=true;decide) ?_
  rw[aj,zC]
  refine yV (by show¬decide ((4:Fin 7)=2)=true;decide) ?_
  rw[aj]
  refine yV aau ?_
  rw[zC]
  refine yV aau ?_
  rw[aj,zC]
  refine yV (by show¬decide ((4:Fin 7)=3)=true;decide) ?_
  rw[aj]
  refine DX rfl ?_
  rw[zC,zC,zC,zC,zC,zC,zC,Ko g,aj,zC,zC,zC,zC,zC,cG (by decide)]
  refine⟨S,rfl,?_⟩
  rw[aj,aj]
  show W (vT m S) _
  rw[zHj g (by omega),aj,aj,aj,aj,aj]
  show W (xW m L (rng n) (pick n λz=>!decide (z∈S))) _
  rw[zDo g (d:=d) hL.1 (by have:=zM2 (n:=n) (λz=>!decide (z∈S)) g.few;omega) (by rw[eG];exact ed) (by rw[eG];exact D),aj,aj,aj]
  show W (vT m (pick n λs=>(dg d s).isSome)) _
  rw[zHj g (by have:=zM2 (n:=n) (λs=>(dg d s).isSome) g.few;omega),aj]
 rw[zC,em,aj]
 have q:=zK5 g (b:=false) ed D (Rh n λz=>!decide (z∈pick n λs=>(dg d s).isSome)) λs s0 s1=>by
  rw[eZ,Bool.not_eq_true',decide_eq_false_iff_not,eZ]
  exact⟨λz=>by
   cases c:(dg d s).isSome with
   |false=>rfl
   |true=>exact absurd ⟨s0,s1,c⟩ z.2.2,λz=>⟨s0,s1,λy=>by rw[z] at y;exact aau y.2.2⟩⟩
 rw[zC] at q ⊢
 refine W.imp q λfl q1=>?_
 rw[zC] at q1 ⊢
 have er:wX m L (bh.mk (cl:=cl) (.one 4 t)) [S] (pick n λz=>!decide (z∈pick n λs=>(dg d s).isSome))=zZ m (rng n) (L.filter λz=>!decide (z∈S)):=by
  obtain⟨rs,e1⟩:∃rs,zZ m (rng n) (L.filter λz=>!decide (z∈S))=some rs:=⟨_,uY g ed D⟩
  rw[e1]
  apply gj
  unfold wX
  rw[zC]
  refine yV (by show¬decide ((4:Fin 7)=1)=true;decide) ?_
  rw[aj,zC]
  refine yV (by show¬decide ((4:Fin 7)=2)=true;decide) ?_
  rw[aj]
  refine yV aau (yV (by show¬decide ((4:Fin 7)=5)=true;decide) (DX rfl ?_))
  rw[zC,zC,zC,Ko g,aj,zC,zC,zC,zC,zC,cG (by decide)]
  refine⟨S,rfl,?_⟩
  rw[aj,aj]
  show W (Oq L S) _
  rw[zN4 hL.1 g.few (by omega),aj,aj,aj,aj]
  show W (zZ m (rng n) _) _
  rw[e1,aj]
 show W (wX m L (bh.mk (.one 4 t)) [S] _) _
 rw[er]
 exact W.imp q1 λrs q2=>W.imp q2 λR hR=>⟨L,hL,hR⟩
end
structure Pz(xss:List LI)(U G:LI)(n s:Int)(w:LI):Prop where
 hd:w[0]?=some s
 rg:∀(i:Nat) a,w[i]?=some a->0<=a/\a<n
 st:∀(i:Nat) a b,w[i]?=some a->w[i+1]?=some b->b∈nxt xss a
 en:∃pre z,w=pre++[z]/\z∈G/\∀x∈pre,x∈U
theorem zWu:∀x b:Bool,decide (decide (x=b)=b)=x:=by decide
section
variable{xss:List LI}{U G:LI}{n:Int}{d:List (Option Int)}
theorem cw_wk(D:cV xss U G n d)(hr:∀s t:Int,0<=s->s<n->t∈nxt xss s->0<=t/\t<n):∀(k:Nat)(t:Int),0<=t->t<n->dg d t=some (k:Int)->Pz xss U G n t (cw xss d k t)
 |0,t,t0,t1,h=>by
  refine⟨rfl,λi a e=>?_,λi a b e f=>?_,[],t,rfl,(D.zero t t0 t1).mp h,λx hx=>by cases hx⟩
  ·cases i with
   |zero=>cases e;exact⟨t0,t1⟩
   |succ i=>cases e
  ·cases f
 |k+1,t,t0,t1,h=>by
  have h:dg d t=some ((k:Int)+1):=h
  obtain⟨p1,p2⟩:=zQ0 D t0 t1 h
  obtain⟨b0,b1⟩:=hr t _ t0 t1 p1
  have ih:=cw_wk D hr k _ b0 b1 p2
  refine⟨rfl,λi a e=>?_,λi a b e f=>?_,?_⟩
  ·cases i with
   |zero=>cases e;exact⟨t0,t1⟩
   |succ i=>exact ih.rg i a e
  ·cases i with
   |zero =>
    cases e
    have f:(cw xss d k (u_ xss d k t))[0]?=some b:=f
    rw[ih.hd] at f
    cases f
    exact p1
   |succ i=>exact ih.st i a b e f
  ·obtain⟨pre,z,e,zG,hp⟩:=ih.en
   refine⟨t::pre,z,?_,zG,λx hx=>?_⟩
   ·show t::cw xss d k _=_
    rw[e]
    rfl
   ·rcases mem_cons.mp hx with rfl|hx
    ·exact(zLh D t0 t1 h).2
    ·exact hp x hx
theorem Ja(hl:(xss.length:Int)=n)(k:Pz xss U G n s w)(h6:w.length<=600):Ph w xss s=some true:=by
 apply gj
 have ne:w≠[]:=λe=>by
  have:=k.hd
  rw[e] at this
  cases this
 unfold Ph
 rw[zC]
 refine yV aau (yV (λq=>ne (of_decide_eq_true q)) ?_)
 rw[aj,decide_eq_false (by omega)]
 refine yV aau ?_
 rw[zC,zC,vL]
 refine⟨⟨by omega,by omega⟩,?_⟩
 refine TX (λ_ _=>True) trivial (λi x _ hi _=>?_) λ_ _=>?_
 ·obtain⟨rfl,hx⟩:=zj hi
  have hi':i<w.length:=by omega
  have e:w[i]?=some w[i]:=aas hi'
  have ea:L2.aO w (i:Int)=some w[i]:=by rw[M5 (by omega),abr];exact e
  obtain⟨b0,b1⟩:=k.rg i _ e
  rw[zC,zC,zC,zC,zC,ea,aj,aj]
  show W (Vb w[i]) _
  rw[show Vb w[i]=some true from rfl,aj,aj]
  refine yV aau ?_
  rw[zC,zC,aj]
  refine DX (decide_eq_true b0) ?_
  rw[aj,aj,decide_eq_true (show w[i]<(xss.length:Int) by omega)]
  refine yV aau ?_
  rw[zC]
  have q:W (if(decide ((0:Int)<(i:Int)))=true then(L2.aO w (i:Int)).bind λa11=>((L2.aO w ((i:Int)-(1:Int))).bind λb10=>L2.aO xss b10).bind λOJ=>some (!decide (a11∈OJ)) else some false) (· = false):=by
   by_cases c:(0:Int)<(i:Int)
   ·refine DX (decide_eq_true c) ?_
    have e1:w[i-1]?=some w[i-1]:=aas (by omega)
    obtain⟨c0,c1⟩:=k.rg _ _ e1
    have ea1:L2.aO w ((i:Int)-1)=some w[i-1]:=by
     rw[M5 (by omega),show((i:Int)-1).toNat=i-1 by omega]
     exact e1
    have es:w[i]∈nxt xss w[i-1]:=k.st (i-1) _ _ e1 (by rw[show i-1+1=i by omega];exact e)
    rw[zC,ea,aj,zC,zC,ea1,aj,cG c0]
    refine⟨_,Ib hl c0 c1,?_⟩
    rw[aj,decide_eq_true es]
    rfl
   ·exact yV (by rw[decide_eq_false c];exact aau) (by rw[aj])
  rw[ea] at q
  refine q.imp λb hb=>?_
  subst hb
  refine yV aau ?_
  rw[aj]
  exact⟨(),rfl,trivial⟩
 ·rw[M4,zC,cG (by decide)]
  refine⟨s,k.hd,?_⟩
  rw[aj,decide_eq_true rfl]
theorem zSx(pre:LI)(t:Int):tu (pre++[t]) none (some (-(1:Int)))=pre:=by
 have e1:HT.pH (pre++[t]).length (pre++[t]).length (some (-(1:Int)))=pre.length:=by
  show(if(-(1:Int))<0 then(-(1:Int)+((pre++[t]).length:Int)).toNat else min (-(1:Int)).toNat (pre++[t]).length)=_
  rw[if_pos (by decide),length_append]
  simp
  omega
 unfold tu
 rw[e1,HT.BL]
 simp
theorem zTj(hl:(xss.length:Int)=n)(k:Pz xss U G n s w)(h6:w.length<=600)(hU:∀x,x∈U->x∈U')(hG:∀x,x∈G->x∈G'):uD (.walk w) xss s U' G'=some true:=by
 apply gj
 obtain⟨pre,z,rfl,zG,hp⟩:=k.en
 unfold uD
 rw[zC]
 refine yV (by show¬(!decide (("walk":Str) = "walk"))=true;decide +kernel) (yV (by show¬(!decide ((2:Int)=2))=true;decide) ?_)
 show W ((((some (pre++[z])).bind λa2=>some ((a2,(xss,(s,()))))).bind λz1=>Ph z1.1 z1.2.1 z1.2.2.1).bind λa3=>some (!a3)) _
 rw[zC,zC,zC,aj,aj]
 show W (Ph (pre++[z]) xss s) _
 rw[Ja hl k h6,aj,aj]
 refine yV aau ?_
 show W ((((some (pre++[z])).bind λa7=>some (tu a7 none (some (-(1:Int))))).bind λxs=>_).bind _) _
 rw[zC,zC,zC,aj,aj,zSx]
 refine TX (λ_ _=>True) trivial (λi x _ hi _=>?_) λ_ _=>?_
 ·refine yV (by rw[decide_eq_true (hU x (hp x (mem_of_getElem? hi)))];exact aau) ?_
  rw[aj]
  exact⟨(),rfl,trivial⟩
 ·rw[M4]
  show W (((some (pre++[z])).bind λa8=>L2.aO a8 (-(1:Int))).bind _) _
  rw[zC,zC,aj,zRx,aj,aj,decide_eq_true (hG z zG)]
theorem zK4(hl:(xss.length:Int)=n)(h1:1<=n)(qX:n<=60)(hr:∀xs∈xss,Vn n xs)(hU:∀x,x∈U↔x∈U')(hG:∀x,x∈G↔x∈G')(h:Vx xss U G n b R):W (Pj R xss U' G' b) (· = true):=by
 obtain⟨d,D,l,hR⟩:=h
 have hr':∀s t:Int,0<=s->s<n->t∈nxt xss s->0<=t/\t<n:=λs t s0 s1 ht=>(hr _ (mem_of_getElem? (Ib hl s0 s1))).2.2.2 t ht
 unfold Pj
 have ep:Vg R (xss.length:Int)=some true:=by
  apply gj
  unfold Vg
  rw[zC]
  rw[if_neg (by decide),aj,decide_eq_true (show(R.length:Int)=(xss.length:Int) by omega),ab4,if_neg (by decide),zC,zC,aj]
  refine TX (λ_ _=>True) trivial (λi x _ hi _=>?_) λ_ _=>by rw[M4,aj]
  have ln:¬x.2.len<1:=by
   cases x.2<;>simp[cO.len]
  rw[zC,if_neg (by decide),if_neg (by decide),aj,if_neg (by decide),zC,if_neg (by decide),decide_eq_false ln,if_neg (by decide),aj,if_neg (by decide),aj]
  exact⟨(),rfl,trivial⟩
 rw[zC,zC,ep,aj,aj,ab4,if_neg (by decide),zC,zC,vL]
 refine⟨⟨by omega,by omega⟩,?_⟩
 refine TX (λ_ _=>True) trivial (λi x _ hi _=>?_) λ_ _=>by rw[M4,aj]
 obtain⟨rfl,hx⟩:=zj hi
 have e:=hR (i:Int) (by omega) (by omega)
 have ea:L2.aO R (i:Int)=some (decide ((dg d (i:Int)).isSome=b),Bh xss d (i:Int)):=by rw[M5 (by omega)];exact e
 rw[zC,zC,zC,zC,ea,aj,aj,aj,zWu]
 cases hk:dg d (i:Int) with
 |some k =>
  have kp:=D.pos (i:Int) k (by omega) (by omega) hk
  have wk:=cw_wk D hr' k.toNat (i:Int) (by omega) (by omega) (by rw[hk];congr 1;omega)
  have es:Bh xss d (i:Int)=.walk (cw xss d k.toNat (i:Int)):=by
   unfold Bh
   rw[hk]
  have ew:=zTj hl wk (by rw[cw_len];omega) (λx=>(hU x).mp) (λx=>(hG x).mp)
  refine DX rfl ?_
  rw[zC,zC,zC,zC,zC,aj,aj,aj]
  show W (uD (Bh xss d (i:Int)) xss (i:Int) U' G') _
  rw[es]
  show W (uD (.walk (cw xss d k.toNat (i:Int))) xss (i:Int) U' G') _
  rw[ew,aj,aj]
  refine yV aau ?_
  rw[aj,JG,aj]
  exact⟨(),rfl,trivial⟩
 |none =>
  refine yV aau ?_
  have eh:Vh R xss (i:Int) U' G' b=some true:=by
   apply gj
   unfold Vh
   have es:Bh xss d (i:Int)=.shut:=by
    unfold Bh
    rw[hk]
   have gn:(i:Int)∉G':=λq=>by
    have:=(D.zero (i:Int) (by omega) (by omega)).mpr ((hG _).mpr q)
    rw[hk] at this
    cases this
   rw[zC,zC,zC,zC,ea,aj,aj,es,aj]
   refine yV (by show¬(!decide (("shut":Str) = "shut"))=true;decide +kernel) ?_
   rw[aj,decide_eq_false gn]
   refine yV aau ?_
   by_cases u:(i:Int)∈U'
   ·refine yV (by rw[decide_eq_true u];exact aau) ?_
    rw[zC,zC,cG (by omega)]
    refine⟨_,Ib hl (by omega) (by omega),?_⟩
    refine TX (λ_ _=>True) trivial (λj x _ hj _=>?_) λ_ _=>by rw[M4,aj]
    have hx2:=mem_of_getElem? hj
    obtain⟨x0,x1⟩:=hr' (i:Int) x (by omega) (by omega) hx2
    have en:dg d x=none:=by
     cases q:dg d x with
     |none=>rfl
     |some k =>
      obtain⟨j,e,_⟩:=D.near (i:Int) x k (by omega) (by omega) x0 x1 ((hU _).mpr u) hx2 q
      rw[hk] at e
      cases e
    have ea2:L2.aO R x=some (decide ((dg d x).isSome=b),Bh xss d x):=by rw[M5 x0];exact hR x x0 x1
    rw[zC,zC,zC,ea2,aj,aj,aj,zWu,en]
    refine yV aau ?_
    rw[aj]
    exact⟨(),rfl,trivial⟩
   ·refine DX (by rw[decide_eq_false u];rfl) ?_
    rw[aj]
  rw[zC,zC,eh,aj,aj]
  refine yV aau ?_
  rw[aj,JG,aj]
  exact⟨(),rfl,trivial⟩
end
theorem zV4{C:Addr}{m:aG C}(h1:1<=n)(qX:n<=60)(c:Int)(hm:m.marks=[(N0,S0),(N1,S1)])(n0:N0≠N2)(n1:N1≠N2):W (wY cl c [N0,N1,N2] [S0,S1] n) λv=>Pl m n v.1.t v.2/\v.1.t.depth<6:=by
 have rl:=XF qX (by omega)
 have el:sZ n=some (rng n):=by
  unfold sZ
  rw[if_pos ⟨by omega,by omega⟩]
  rfl
 have m0:(N0,S0)∈m.marks:=by rw[hm];simp
 have m1:(N1,S1)∈m.marks:=by rw[hm];simp
 have m2:∀mk∈m.marks,mk.1≠N2:=λmk h=>by
  rw[hm] at h
  simp at h
  rcases h with rfl|rfl
  ·exact n0
  ·exact n1
 unfold wY
 rw[zC,el,aj,zC,qU]
 refine⟨by decide,?_⟩
 generalize hw:c%9=way
 have wb:0<=way/\way<9:=by omega
 by_cases c0:way=0
 ·rw[decide_eq_true c0,if_pos rfl,aj]
  exact⟨.all,by show 0<6;decide⟩
 rw[decide_eq_false c0,if_neg (by decide)]
 by_cases c7:way=7
 ·rw[decide_eq_true c7,if_pos rfl,zC,zC,cG (by decide)]
  refine⟨N2,rfl,?_⟩
  rw[aj,aj]
  exact⟨.aH m2,by show 0<6;decide⟩
 rw[decide_eq_false c7,if_neg (by decide)]
 by_cases c8:way=8
 ·rw[decide_eq_true c8,if_pos rfl,zC,zC,zC,cG (by decide)]
  refine⟨N2,rfl,?_⟩
  rw[aj,aj,aj]
  refine⟨?_,by show 0+1<6;decide⟩
  have e:rng n=pick n λz=>!decide (z∈([]:LI)):=by
   unfold pick
   rw[filter_eq_self.mpr]
   intro a _
   simp
  show Pl m n (.one 0 (.mark N2)) (rng n)
  rw[e]
  exact .no (.aH m2)
 rw[decide_eq_false c8,if_neg (by decide),zC,qU]
 refine⟨by decide,?_⟩
 have two:∃(N:Str)(S:LI),[N0,N1,N2][(way%2).toNat]?=some N/\[S0,S1][(way%2).toNat]?=some S/\(N,S)∈m.marks:=by
  rcases(show way%2=0\/way%2=1 by omega) with q|q
  ·rw[q];exact⟨N0,S0,rfl,rfl,m0⟩
  ·rw[q];exact⟨N1,S1,rfl,rfl,m1⟩
 obtain⟨N,S,e1,e2,mm⟩:=two
 have p2:0<=way%2:=by omega
 by_cases c5:way<5
 ·rw[decide_eq_true c5,if_pos rfl,zC,zC,cG p2]
  refine⟨N,e1,?_⟩
  rw[aj,zC,cG p2]
  refine⟨S,e2,?_⟩
  rw[aj]
  exact⟨.mark (mk:=(N,S)) mm,by show 0<6;decide⟩
 ·rw[decide_eq_false c5,if_neg (by decide),zC,zC,zC,cG p2]
  refine⟨N,e1,?_⟩
  rw[aj,aj,zC,zC,aj]
  have at2:L2.aO [S0,S1] (way%2)=some S:=by
   have q:W (L2.aO [S0,S1] (way%2)) (· = S):=by
    rw[cG p2]
    exact⟨S,e2,rfl⟩
   exact gj q
  rw[wJ (p:=λz=>!decide (z∈S)) (g:=λz=>z) (yH (by omega)) (λz _=>by rw[at2];rfl) (λ_ _=>rfl),map_id',aj,aj]
  exact⟨.no (.mark (mk:=(N,S)) mm),by show 0+1<6;decide⟩
theorem aai:rng 3=[0,1,2]:=by decide
theorem Vy:rng 2=[0,1]:=by decide
theorem zU5(C:Addr)(cl:Hd->Addr)(xu:yx):W (Xv C cl xu) (· = true):=by
 unfold Xv
 rw[zC,zC,zC]
 refine(Rf xu (by decide)).imp λc0 _=>?_
 rw[aj]
 refine(Io c0).imp λn ⟨n1,n12⟩=>?_
 have Ai:n<=60:=by omega
 rw[zC]
 refine(H_ xu n1 Ai).imp λxss ⟨hl,hr⟩=>?_
 rw[zC,zC,zC]
 refine(Rf xu (by decide)).imp λc1 _=>?_
 rw[aj]
 refine(zTo c1 n1 Ai).imp λfair hf=>?_
 have xl:xss.length<=60:=by omega
 have fl:=hf.1
 rw[zC]
 refine(Rf xu (by decide)).imp λc2 _=>?_
 rw[zC,zC,vL]
 refine⟨⟨by decide,by decide⟩,?_⟩
 rw[aai,wJ (p:=λ_=>true) (g:=λx=>yj (c2/36) x) (yH (by decide)) (λ_ _=>rfl) (λx _=>by
  apply gj
  rw[zC,zC,Bc]
  refine⟨⟨by decide,by decide⟩,?_⟩
  rw[aj]
  exact Py (c2/36)),aj]
 show W (((vE (2:Int)).bind _).bind _) _
 rw[zC,zC,vL]
 refine⟨⟨by decide,by decide⟩,?_⟩
 rw[Vy]
 obtain⟨ss,sl,se,sq⟩:=zTb (f:=λ(rQ:Int)=>(((((((gY c2 (6:Int)).bind λa17=>some (a17+rQ)).bind λa18=>cI a18 (6:Int)).bind λO7=>L2.aO ([(3:Int),(5:Int),(1:Int),(4:Int),(2:Int),(6:Int)]) O7).bind λa21=>some ((a21,()))).bind λOD=>some (n,OD)).bind λHW=>some (c2+rQ,HW)).bind λE_=>Ra E_.1 E_.2.1 E_.2.2.1) (R:=λ_ S=>bI n S) (xs:=[(0:Int),1]) λx _=>by
  rw[zC,zC,zC,zC,zC,zC,zC,Bc]
  refine⟨⟨by decide,by decide⟩,?_⟩
  rw[aj,qU]
  refine⟨by decide,?_⟩
  have b6:0<=(c2/6+x)%6/\(c2/6+x)%6<6:=by omega
  rw[cG b6.1]
  refine⟨_,aas (by simp;omega),?_⟩
  rw[aj,aj,aj]
  exact Vm (c2+x) (n:=n) _ (show 0<=n by omega) Ai
 unfold yX
 rw[if_pos (yH (by decide)),se,aj]
 obtain⟨S0,e0,r0⟩:=sq 0 0 rfl
 obtain⟨S1,e1,r1⟩:=sq 1 1 rfl
 have ess:ss=[S0,S1]:=by
  match ss,sl,e0,e1 with
  |[a,b],_,e0,e1 =>
   have q0:a=S0:=by simpa using e0
   have q1:b=S1:=by simpa using e1
   rw[q0,q1]
 subst ess
 have enm:((([(0:Int),1,2]).filter λ_=>true).map λx=>yj (c2/36) x)=[yj (c2/36) 0,yj (c2/36) 1,yj (c2/36) 2]:=rfl
 rw[enm]
 have k0:=zRn (c2/36) 0
 have k1:=zRn (c2/36) 1
 have XS:=zLx (c2/36) (k:=0) (k':=1) (by decide) (by decide) (by decide) (by decide) (by decide)
 have X3:=zLx (c2/36) (k:=0) (k':=2) (by decide) (by decide) (by decide) (by decide) (by decide)
 have Rm:=zLx (c2/36) (k:=1) (k':=2) (by decide) (by decide) (by decide) (by decide) (by decide)
 generalize yj (c2/36) 0=N0 at k0 XS X3 ⊢
 generalize yj (c2/36) 1=N1 at k1 XS Rm ⊢
 generalize yj (c2/36) 2=N2 at X3 Rm ⊢
 rw[zC,zC,vL]
 refine⟨⟨by decide,by decide⟩,?_⟩
 rw[Vy]
 have em:wG (λ(x25:Int)=>some true) (λ(x25:Int)=>(L2.aO [N0,N1,N2] x25).bind λa26=>(L2.aO [S0,S1] x25).bind λU_=>some (a26,U_)) [0,1]=some [(N0,S0),(N1,S1)]:=rfl
 rw[if_pos (yH (by decide)),em,aj]
 rw[zC,zC,zC,aj]
 show W (yX (λ(x29:LI)=>some true) (λ(x29:LI)=>some x29) xss) _
 rw[M6 (λx=>x),map_id']
 refine⟨yH (show xss.length<=1000 by omega),?_⟩
 rw[zC,zC,aj]
 show W (yX (λ(x29:LI)=>some true) (λ(x29:LI)=>some x29) fair) _
 rw[M6 (λx=>x),map_id']
 refine⟨yH (show fair.length<=1000 by omega),?_⟩
 refine(Vp C (mo:=some [(N0,S0),(N1,S1)]) (fo:=some fair) hl n1 Ai (λxs hx=>Ig (hr xs hx)) ⟨by simp[XS],by simp,λmk hm=>?_⟩ hf).imp λm ⟨g,es,em',ef⟩=>?_
 ·have hm':mk=(N0,S0)\/mk=(N1,S1):=by simpa using hm
  rcases hm' with rfl|rfl
  ·exact⟨k0.1,k0.2,zH0 r0 Ai⟩
  ·exact⟨k1.1,k1.2,zH0 r1 Ai⟩
 have X4:m.marks=[(N0,S0),(N1,S1)]:=em'
 have ef2:m.fair=fair:=ef
 have hf':Ah n m.fair:=by rw[ef2];exact hf
 have nd:(m.marks.map (·.1)).Nodup:=by rw[X4];simp[XS]
 have hs:∀mk∈m.marks,bI n mk.2:=λmk h=>by
  rw[X4] at h
  have h':mk=(N0,S0)\/mk=(N1,S1):=by simpa using h
  rcases h' with rfl|rfl
  ·exact r0
  ·exact r1
 have rs0:=λ(t:Tr) (S:LI) (h:Pl m n t S)=>h.rise hs
 rw[zC,zC,zC]
 refine(Rf xu (by decide)).imp λc3 _=>?_
 rw[aj]
 show W (wY cl c3 [N0,N1,N2] [S0,S1] n) _
 refine(zV4 (m:=m) n1 Ai c3 X4 X3 Rm).imp λv ⟨hP,hd⟩=>?_
 obtain⟨⟨t⟩,S⟩:=v
 dsimp only at hP hd
 have rS:=hP.rise hs
 rw[zC,zC,zC,zC]
 refine(Rf xu (by decide)).imp λc4 _=>?_
 rw[Bc]
 refine⟨⟨by decide,by decide⟩,?_⟩
 rw[aj]
 show W (wY cl (c4/9) [N0,N1,N2] [S0,S1] n) _
 refine(zV4 (m:=m) n1 Ai (c4/9) X4 X3 Rm).imp λv' ⟨hP',hd'⟩=>?_
 obtain⟨⟨t'⟩,S'⟩:=v'
 dsimp only at hP' hd'
 have rS':=hP'.rise hs
 rw[zC]
 refine(zTn hl n1 Ai hr hf).imp λL hL=>?_
 have lL:=Kq hL.1 Ai
 rw[zC,zC,aj]
 show W (yX (λ(x38:Int)=>some (decide (x38∈S'))) (λ(x38:Int)=>some x38) L) _
 rw[Wz (λx=>decide (x∈S')) (λx=>x),map_id']
 refine⟨yH (by omega),?_⟩
 rw[zC,zC,aj]
 show W (yX (λ(x38:Int)=>some (!decide (x38∈S'))) (λ(x38:Int)=>some x38) L) _
 rw[Wz (λx=>!decide (x∈S')) (λx=>x),map_id']
 refine⟨yH (by omega),?_⟩
 have sm:∀L2:LI,Rj m.steps m.fair n L2->∀x,x∈L2↔x∈L:=λL2 h x=>by rw[h.2 x,hL.2 x,es,ef2]
 have el:sZ n=some (rng n):=by
  unfold sZ
  rw[if_pos ⟨by omega,by omega⟩]
  rfl
 rw[zC,zC,zC,zC]
 refine(I8 (cl:=cl) g hf' nd hs hP hd hP' hd').imp λR ⟨L1,hL1,hR⟩=>?_
 rw[es] at hR
 rw[aj]
 refine(zK4 hl n1 Ai hr (U':=S) (G':=L.filter λx=>decide (x∈S')) (λ_=>aem) (λx=>?_) hR).imp λb hb=>?_
 ·rw[mem_filter,mem_filter,sm L1 hL1]
 subst hb
 rw[aj]
 refine yV aau ?_
 rw[zC,el,aj,zC,zC,zC,zC]
 refine(I9 (cl:=cl) g hf' nd hs hP' hd').imp λR ⟨L1,hL1,hR⟩=>?_
 rw[es] at hR
 rw[aj]
 refine(zK4 hl n1 Ai hr (U':=rng n) (G':=L.filter λx=>decide (x∈S')) (λ_=>aem) (λx=>?_) hR).imp λb hb=>?_
 ·rw[mem_filter,mem_filter,sm L1 hL1]
 subst hb
 rw[aj]
 refine yV aau ?_
 rw[zC,zC]
 refine(I_ (cl:=cl) g hf' nd hs hP' hd').imp λR ⟨L1,hL1,hR⟩=>?_
 rw[es] at hR
 rw[aj]
 refine(zK4 hl n1 Ai hr (U':=rng n) (G':=L.filter λx=>!decide (x∈S')) (λ_=>aem) (λx=>?_) hR).imp λb hb=>hb
 rw[mem_filter,mem_filter,sm L1 hL1]
end Ts
namespace Sy
open PySem L2
section
variable{K:PySem.W.Frag}{C D:Addr}
theorem Jb(hc:isClsIn K D=true)(ht:typeIn K (.ref D)=some (.type "type"))(hm:mroIn K C (.ref D)=some true):kitOne K (.ref C) (.ref D)=some true:=by
 unfold kitOne
 split
 ·rfl
 ·unfold kitCls PySem.W.subIn
  dsimp only
  rw[ht,hm,show(PySem.W.clsIn K D).isSome=true from hc]
  rfl
theorem PB(hc:isClsIn K D=true)(ht:typeIn K (.ref D)=some (.type "type"))(hm:mroIn K C (.ref D)=some false)(hs:mroIn K C (.ref C)=some true):kitOne K (.ref C) (.ref D)=some false:=by
 have ne:C≠D:=λe=>by
  subst e
  rw[hm] at hs
  cases hs
 unfold kitOne
 rw[if_neg (λe=>ne (afd (acg e)))]
 unfold kitCls PySem.W.subIn
 dsimp only
 rw[ht,hm,show(PySem.W.clsIn K D).isSome=true from hc]
 rfl
def X5(K:PySem.W.Frag)(C:Addr):List Addr->Prop
 |[]=>True
 |D::r=>mroIn K C (.ref D)=some false/\X5 K C r
def DY(K:PySem.W.Frag):List Addr->List Addr->Prop
 |_,[]=>True
 |p,C::r=>mroIn K C (.ref C)=some true/\X5 K C p/\X5 K C r/\DY K (C::p) r
theorem zNb(h:X5 K C ds)(m:D∈ds):mroIn K C (.ref D)=some false:=by
 induction ds with
 |nil=>cases m
 |cons E r ih =>
  cases m with
  |head=>exact h.1
  |tail _ m=>exact ih h.2 m
theorem Vz:∀{p:List Addr},DY K p r->∀{i:Nat},r[i]?=some C->mroIn K C (.ref C)=some true/\(D∈p->mroIn K C (.ref D)=some false)/\∀{j:Nat},r[j]?=some D->j≠i->mroIn K C (.ref D)=some false:=by
 induction r with
 |nil=>intro p _ i e;cases e
 |cons E r ih =>
  intro p h i e
  cases i with
  |zero =>
   cases e
   refine⟨h.1,zNb h.2.1,λ{j} f n=>?_⟩
   cases j with
   |zero=>exact absurd rfl n
   |succ j=>exact zNb h.2.2.1 (mem_of_getElem? f)
  |succ i =>
   obtain⟨a,b,c⟩:=ih h.2.2.2 e
   refine⟨a,λm=>b (.tail _ m),λ{j} f n=>?_⟩
   cases j with
   |zero=>cases f;exact b (.head _)
   |succ j=>exact c f λq=>n (congrArg _ q)
end
def hix:Hd->Nat
 |.all=>0
 |.mark=>1
 |.one i=>i.val+2
 |.two i=>i.val+9
theorem Jc(h:Hd)(t:Tr):Ts.dX h t=decide (hix h=hix (hd t)):=by
 cases h<;>cases t
 case one.one i j _=>exact decide_eq_decide.2 ⟨λe=>by subst e;rfl,λe=>Fin.ext (by have e:i.val+2=j.val+2:=e;omega)⟩
 case two.two i j _ _=>exact decide_eq_decide.2 ⟨λe=>by subst e;rfl,λe=>Fin.ext (by have e:i.val+9=j.val+9:=e;omega)⟩
 all_goals first|rfl|(symm;apply decide_eq_false;intro e;simp only[hix,hd] at e;omega)
theorem Jd:∀i:Fin 7,i=0\/i=1\/i=2\/i=3\/i=4\/i=5\/i=6:=by decide
theorem Je:∀i:Fin 4,i=0\/i=1\/i=2\/i=3:=by decide
abbrev HdR(K:PySem.W.Frag)(C:Addr):Prop:=findIn K (.ref C) "__class__" = some (some (.builtin "object.__class__"))/\mroIn K C (.type "object")=some true/\isClsIn K C=true/\typeIn K (.ref C)=some (.type "type")
abbrev vf(K:PySem.W.Frag)(C:Addr)(x y:Str)(st:Stmt):Prop:=nsIn K abg x=some (some (.ref C))/\(∃f fd,Mk K C f/\aW K "__init__" y st f fd)/\Cls K C/\(findIn K (.ref C) "word" = some none/\findIn K (.ref C) "parts" = some none/\findIn K (.ref C) "part" = some none/\findIn K (.ref C) "left" = some none/\findIn K (.ref C) "right" = some none/\findIn K (.ref C) "name" = some none)/\HdR K C
abbrev X6(K:PySem.W.Frag)(C:Addr)(x y:Str)(st:Stmt):Prop:=nsIn K abg x=some (some (.ref C))/\∃f fd,qW K C "__init__" f/\aW K "__init__" y st f fd
def HdQ(K:PySem.W.Frag)(C f:Addr):Prop:=Mk K C f/\gZ K C/\HdR K C
section
variable{K:PySem.W.Frag}{h:Heap}{mg:Str->Option Value}{C:Addr}{x y:Str}{st:Stmt}
theorem PJ(a:nsIn K abg x=some (some (.ref C)))(c:qW K C "__init__" f)(F:aW K "__init__" y st f fd):X6 K C x y st:=⟨a,f,fd,c,F⟩
theorem PK(a:nsIn K abg x=some (some (.ref C)))(m:Mk K C f)(F:aW K "__init__" y st f fd)(c:Cls K C)(n:(findIn K (.ref C) "word" = some none/\findIn K (.ref C) "parts" = some none/\findIn K (.ref C) "part" = some none/\findIn K (.ref C) "left" = some none/\findIn K (.ref C) "right" = some none/\findIn K (.ref C) "name" = some none)/\HdR K C):vf K C x y st:=⟨a,⟨f,fd,m,F⟩,c,n⟩
theorem Aj(X:K.In h)(G:h.Ns abg mg)(p:vf K C x y st):mg x=some (.ref C)/\∃f fd,aW K "__init__" y st f fd/\HdQ K C f:=by
 obtain⟨a,⟨f,fd,m,F⟩,c,⟨n1,n2,n3,n4,n5,n6⟩,r⟩:=p
 exact⟨mg_of X G a,f,fd,F,m,⟨c,n1,n2,n3,n4,n5,n6⟩,r⟩
end
set_option maxHeartbeats 8000000 in
theorem PL{l:PySem.W.OpenLaw}{K:PySem.W.Frag}(X:K.In h)(G:h.Ns abg mg)(bA:X6 K CA "Saying" "Saying.__init__" zLc)(bB:X6 K CB "OfOne" "OfOne.__init__" zQp)(bD:X6 K CD "OfTwo" "OfTwo.__init__" zQo)(h0:vf K C0 "All" "All.__init__" Od)(h1:vf K C1 "Mark" "Mark.__init__" CZ)(h2:vf K C2 "Not" "Not.__init__" Oe)(h3:vf K C3 "SomeNext" "SomeNext.__init__" zE2)(h4:vf K C4 "EachNext" "EachNext.__init__" zE5)(h5:vf K C5 "SomeAlways" "SomeAlways.__init__" zCl)(h6:vf K C6 "EachAlways" "EachAlways.__init__" zCm)(h7:vf K C7 "SomeEver" "SomeEver.__init__" zE3)(h8:vf K C8 "EachEver" "EachEver.__init__" zE6)(h9:vf K C9 "Both" "Both.__init__" C_)(h10:vf K C10 "Either" "Either.__init__" zLd)(h11:vf K C11 "SomeTill" "SomeTill.__init__" zE1)(h12:vf K C12 "EachTill" "EachTill.__init__" zE4)(m:DY K [] [C0,C1,C2,C3,C4,C5,C6,C7,C8,C9,C10,C11,C12])(hn:specialIn K (.builtin "object.__class__") "__get__" = some (some (.builtin "getset_descriptor.__get__")))(ht:takesIn K (.builtin "object.__class__")=some true)
   :∃(cl fi:Hd->Addr)(di:Hd->FuncData),∀base:Heap,Ts.mq l.prog w K mg base 3 cl fi di:=by
 obtain⟨aA,fA,dA,cA,FA⟩:=bA
 have aA:=mg_of X G aA
 obtain⟨aB,fB,dB,cB,FB⟩:=bB
 have aB:=mg_of X G aB
 obtain⟨aD,fD,dD,cD,FD⟩:=bD
 have aD:=mg_of X G aD
 obtain⟨a0,f0,d0,F0,Q0⟩:=Aj X G h0
 obtain⟨a1,f1,d1,F1,Q1⟩:=Aj X G h1
 obtain⟨a2,f2,d2,F2,Q2⟩:=Aj X G h2
 obtain⟨a3,f3,d3,F3,Q3⟩:=Aj X G h3
 obtain⟨a4,f4,d4,F4,Q4⟩:=Aj X G h4
 obtain⟨a5,f5,d5,F5,Q5⟩:=Aj X G h5
 obtain⟨a6,f6,d6,F6,Q6⟩:=Aj X G h6
 obtain⟨a7,f7,d7,F7,Q7⟩:=Aj X G h7
 obtain⟨a8,f8,d8,F8,Q8⟩:=Aj X G h8
 obtain⟨a9,f9,d9,F9,Q9⟩:=Aj X G h9
 obtain⟨a10,f10,d10,F10,Q10⟩:=Aj X G h10
 obtain⟨a11,f11,d11,F11,Q11⟩:=Aj X G h11
 obtain⟨a12,f12,Rm,F12,Q12⟩:=Aj X G h12
 refine⟨λh=>([C0,C1,C2,C3,C4,C5,C6,C7,C8,C9,C10,C11,C12]:List Addr).getD (hix h) 0,λh=>([f0,f1,f2,f3,f4,f5,f6,f7,f8,f9,f10,f11,f12]:List Addr).getD (hix h) 0,λh=>([d0,d1,d2,d3,d4,d5,d6,d7,d8,d9,d10,d11,Rm]:List FuncData).getD (hix h) d0,λbase=>?_⟩
 have Z:∀h,HdQ K (([C0,C1,C2,C3,C4,C5,C6,C7,C8,C9,C10,C11,C12]:List Addr).getD (hix h) 0) (([f0,f1,f2,f3,f4,f5,f6,f7,f8,f9,f10,f11,f12]:List Addr).getD (hix h) 0)/\([C0,C1,C2,C3,C4,C5,C6,C7,C8,C9,C10,C11,C12]:List Addr)[hix h]?=some (([C0,C1,C2,C3,C4,C5,C6,C7,C8,C9,C10,C11,C12]:List Addr).getD (hix h) 0):=λh=>by
  rcases h with _|_|i|i
  ·exact⟨Q0,rfl⟩
  ·exact⟨Q1,rfl⟩
  ·rcases Jd i with rfl|rfl|rfl|rfl|rfl|rfl|rfl<;>exact⟨by assumption,rfl⟩
  ·rcases Je i with rfl|rfl|rfl|rfl<;>exact⟨by assumption,rfl⟩
 have oA:=zRh (P:=l.prog) (w:=w) (mg:=mg) (base:=base) FA
 have bA:=Ts.sE (p0:="self") (p1:="word") (p2:="parts") FA
 have oB:=zUw FB aA cA oA bA
 have bB:=Ts.sE (p0:="self") (p1:="word") (p2:="part") FB
 have oD:=zUv FD aA cA oA bA
 have bD:=Ts.Ui (p0:="self") (p1:="word") (p2:="left") (p3:="right") FD
 have o0:=Og F0 Q0.2.1 aA cA oA bA
 have o1:=HF F1 Q1.2.1 aA cA oA bA
 have o2:=Oi F2 Q2.2.1 aB cB oB bB
 have o3:=zLs F3 Q3.2.1 aB cB oB bB
 have o4:=zLv F4 Q4.2.1 aB cB oB bB
 have o5:=zIc F5 Q5.2.1 aB cB oB bB
 have o6:=zId F6 Q6.2.1 aB cB oB bB
 have o7:=zLt F7 Q7.2.1 aB cB oB bB
 have o8:=zLw F8 Q8.2.1 aB cB oB bB
 have o9:=HJ F9 Q9.2.1 aD cD oD bD
 have o10:=zRi F10 Q10.2.1 aD cD oD bD
 have o11:=zLr F11 Q11.2.1 aD cD oD bD
 have o12:=zLu F12 Q12.2.1 aD cD oD bD
 refine⟨⟨λh=>(Z h).1.1,o0.mono (by decide),Ts.zq F0,o1.mono (by decide),Ts.jg F1,λi=>by rcases Jd i with rfl|rfl|rfl|rfl|rfl|rfl|rfl<;>assumption,λi=>by rcases Jd i with rfl|rfl|rfl|rfl|rfl|rfl|rfl<;>(first|exact Ts.jg F2|exact Ts.jg F3|exact Ts.jg F4|exact Ts.jg F5|exact Ts.jg F6|exact Ts.jg F7|exact Ts.jg F8),λi=>by rcases Je i with rfl|rfl|rfl|rfl<;>assumption,λi=>by rcases Je i with rfl|rfl|rfl|rfl<;>(first|exact Ts.sE F9|exact Ts.sE F10|exact Ts.sE F11|exact Ts.sE F12),a0,a1,λi=>by rcases Jd i with rfl|rfl|rfl|rfl|rfl|rfl|rfl<;>assumption,λi=>by rcases Je i with rfl|rfl|rfl|rfl<;>assumption⟩,λh=>(Z h).1.2.1,λh h' t e=>?_,λh=>(Z h).1.2.2.1,hn,ht,λh=>(Z h).1.2.2.2.1⟩
 subst e
 rw[Jc]
 obtain⟨x,_,y⟩:=Vz (D:=_) m (Z (hd t)).2
 by_cases e:hix h'=hix (hd t)
 ·rw[decide_eq_true e]
  exact Jb (Z h').1.2.2.2.2.1 (Z h').1.2.2.2.2.2 (by rw[e];exact x)
 ·rw[decide_eq_false e]
  exact PB (Z h').1.2.2.2.2.1 (Z h').1.2.2.2.2.2 (y (Z h').2 e) x
end Sy
namespace Ts
open PySem L2 Sy
def D_(K:PySem.W.Frag):Sp:=λvs H Q _=>∃(a:Addr)(ns:LI),vs=[.ref a]/\bx K H a (ns.map V.int)/\ns.length<=63/\∀H',Q (.bl true) H'
section
variable{P:Program}{w:World}{K:PySem.W.Frag}{mg:Str->Option Value}{base h:Heap}{j k:Nat}{f C:Addr}{fd:FuncData}{ps:List Str}{sp:Sp}{x y:Str}{st:Stmt}
theorem aaj(no:∀vs H Q E,¬sp vs H Q E):aq P w K mg base aP k f fd ps sp :=
 ⟨λvs H Q E h=>absurd h (no vs H Q E),λA outer s H args us vs Q E _ _ _ _ h=>absurd h (no vs H Q E)⟩
abbrev FP(K:PySem.W.Frag)(x:Str)(st:Stmt):Prop:=∃f fd,nsIn K abg x=some (some (.ref f))/\aW K x x st f fd
abbrev MP(K:PySem.W.Frag)(C:Addr)(x y:Str)(st:Stmt):Prop:=∃f fd,Meth K C x f/\aW K x y st f fd
def Kr(K:PySem.W.Frag):List Str->Prop
 |[]=>True
 |x::r=>nsIn K abg x=some none/\Kr K r
theorem VB(a:nsIn K abg x=some (some (.ref f)))(F:aW K x x st f fd):FP K x st:=⟨f,fd,a,F⟩
theorem VD(a:Meth K C x f)(F:aW K x y st f fd):MP K C x y st:=⟨f,fd,a,F⟩
theorem Jf{dV oc kV doc pm cdv ct:Value}{od an:Option Addr}{osl:Array (Option Value)}(l:K.lookup f=some ⟨oc,od,.func (fnOf x y (uA st) (wQ st) (zJ st) dV kV doc pm an cdv ct),osl⟩)(c:codeIn K cdv y=true)(k:keepIn K (.ref f)=true):CW K x y st dV f (fnOf x y (uA st) (wQ st) (zJ st) dV kV doc pm an cdv ct):=⟨⟨oc,od,kV,doc,pm,an,cdv,ct,osl,rfl,l,c⟩,k⟩
theorem PN(X:K.In h)(G:h.Ns abg mg)(p:FP K x st)(t:∀f fd,aW K x x st f fd->aq P w K mg base aP k f fd ps sp/\Binds K fd ps []):bH P w K mg base k x ps sp:=by
 obtain⟨f,fd,a,F⟩:=p
 exact⟨f,fd,(t f fd F).1,(t f fd F).2,F.kp,mg_of X G a⟩
theorem Jg(c:Cls K C)(p:MP K C x y st)(t:∀f fd,aW K x y st f fd->aq P w K mg base aP k f fd ps sp/\Binds K fd ps []):gk P w K mg base k C x ps sp:=by
 obtain⟨f,fd,a,F⟩:=p
 exact⟨⟨f,fd,(t f fd F).1,(t f fd F).2,a⟩,c⟩
theorem bH.m(c:bH P w K mg base j x ps sp)(h:j<=k:=by decide):bH P w K mg base k x ps sp:=c.mono h
theorem gk.m(c:gk P w K mg base j C x ps sp)(h:j<=k:=by decide):gk P w K mg base k C x ps sp:=c.mono h
end
set_option maxHeartbeats 8000000 in
theorem all_mk{l:PySem.W.OpenLaw}{K:PySem.W.Frag}(X:K.In h)(G:h.Ns abg mg)(hfa:mg "law" = some (.ref fa))(SY:∃(cl fi:Hd->Addr) (di:Hd->FuncData),∀base:Heap,mq l.prog w K mg base 3 cl fi di)(h1:FP K "sources_of" Xj)(h2:FP K "is_stand" jO)(h3:FP K "check_stands" dZ)(h4:FP K "check_steps" fP)(h5:FP K "is_name" lB)(h6:FP K "check_marks" fQ)(h7:FP K "check_fair" gB)(h8:FP K "copied" m7)(h9:FP K "everywhere" gw)(h10:FP K "flags" qu)(h11:FP K "without" kY)(h12:FP K "others" mX)(h13:FP K "shared" mY)(h14:FP K "distances" iC)(h15:FP K "comes_to" jN)(h16:FP K "walk_down" iD)(h17:FP K "bits_of" kZ)(h18:FP K "onward_bits" fJ)(h19:FP K "rings" qw)(h20:FP K "missed_by" iG)(h21:FP K "fair_rings" gA)(h22:FP K "joined" mZ)(h23:FP K "core" tL)(h24:FP K "alive" s_alive)(h25:FP K "some_till" iH)(h26:FP K "meaning_over_walks" bW)(h27:FP K "meaning" lu)(h28:FP K "table_among" fK)(h29:FP K "table" qx)(h30:FP K "holds" qy)(h31:FP K "walk_reason" fL)(h32:FP K "walk_reasons" dY)(h33:FP K "reasons" lA)(h34:FP K "whys" tM)(h35:FP K "_law_cell_at" iI)(h36:FP K "_law_whole" lC)(h37:FP K "_law_mix" qz)(h38:FP K "_law_steps_by" gC)(h39:FP K "_law_set_by" jP)(h40:FP K "_law_fair_by" iJ)(h41:FP K "_law_small_by" gD)(h42:FP K "_law_reach" lD)(h43:FP K "_law_word_by" iK)(h44:FP K "_law_alive" lE)(h45:FP K "_law_part_by" iQ)(h46:FP K "_law_pairs" lF)(h47:FP K "_law_walk" m8)(h48:FP K "_law_walked" jQ)(h49:FP K "_law_shut" m9)(h50:FP K "_law_told" m_)(h51:FP K "law" pN)(aC:nsIn K abg "Machine" = some (some (.ref C)))(mk:Mk K C fI)(FI:CW K "__init__" "Machine.__init__" CT (.ref TD) fI Xy)(lT:K.lookup TD=some ⟨ocT,odT,.seq #[.none,.none] nT,slT⟩)(m0:MP K C "many" "Machine.many" d_)(m1:MP K C "next_of" "Machine.next_of" cP)(m2:MP K C "before" "Machine.before" cY)(m3:MP K C "marked" "Machine.marked" cZ)(m4:MP K C "fair_at" "Machine.fair_at" cQ)(cC:Cls K C)(nC:findIn K (.ref C) "steps" = some none/\findIn K (.ref C) "marks" = some none/\findIn K (.ref C) "fair" = some none/\findIn K (.ref C) "sources" = some none)(oR:nsIn K abg "LETTERS" = some (some (.str "abcdefghijklmnopqrstuvwxyz" Ad)))(fW:nsIn K abg "LONGEST_NAME" = some (some (.int 8 nq)))(gP:nsIn K abg "MOST_STANDS" = some (some (.int 60 pC)))(fX:nsIn K abg "SAYING_WORDS" = some (some (.ref bY)))(pD:K.lookup bY=some ⟨.type "tuple",none,.seq #[.str "all" Ak,.str "not" Al,.str "both" Am,.str "either" Ao,.str "somenext" Aq,.str "eachnext" Av,.str "sometill" Aw,.str "eachtill" Ax,.str "someever" Ay,.str "eachever" Az] Eb,Bj⟩)(z:Kr K ["len","range","isinstance","int","bool","list","enumerate","max","min","all","sorted","str","set","tuple","zip"]) :
  ∃fd:FuncData,(∀(s:Shared)(v:Value),BindsTo s fd ⟨[v],[]⟩ [("_law_script",v)])/\∀base:Heap,K.In base->base.Ns abg mg->aq l.prog w K mg base aP 17 fa fd ["_law_script"] (D_ K):=by
 obtain⟨f,fd,a,⟨oc,od,kV,dc,pm,an,cd,ct,sl,rfl,lk,ck⟩,kp⟩:=h51
 have e:=hfa.symm.trans (mg_of X G a)
 cases e
 obtain⟨cl,fi,di,I0⟩:=SY
 obtain⟨aak,PX,sy,aal,VF,VG,vg,O_,Ov,Om,cj,Dd,qC,qQ,O8,_⟩:=z
 obtain⟨nS,nM,nF,nB⟩:=nC
 have N:∀{x:Str},nsIn K abg x=some none->mg x=none:=λe=>PySem.W.mg_none_of X G e
 have B:Bl K mg:=⟨N aak,N PX,N sy,N aal,N VF,N VG,N vg,Tt,Tw,Tv⟩
 have aam:=N O_
 have aan:=N Ov
 have aao:=N Om
 have jo:=N cj
 have VH:=N Dd
 have P0:=N qC
 have P_:=N qQ
 have aap:=N O8
 have oR:=mg_of X G oR
 have fW:=mg_of X G fW
 have gP:=mg_of X G gP
 have fX:=mg_of X G fX
 have T:Cl K mg C:=⟨cC,nS,nM,nF,nB,mg_of X G aC⟩
 have bI0:Binds K Xy ["self","steps","marks","fair"] []:=λs us KX hl=>by
  obtain⟨_,_,_,_,_,_,_,_,_,rfl,_⟩:=FI.ex
  have h2:us.length=4:=by
   rw[length_append] at hl
   have:([]:List Value).length=0:=rfl
   have h4:(["self","steps","marks","fair"]:List Str).length=4:=rfl
   omega
  match us,h2 with
  |[u0,u1,u2,u3],_=>exact BindsTo.of_defaults rfl (KX _ _ lT) rfl rfl rfl
 refine⟨fnOf "law" "law" (uA pN) (wQ pN) (zJ pN) .none kV dc pm an cd ct,λs v=>.of_eq rfl,λbase _ _=>?_⟩
 have cal:∀{k:Nat}{x:Str}{st:Stmt}{ps:List Str}{sp:Sp},FP K x st->(∀f fd,aW K x x st f fd->aq l.prog w K mg base aP k f fd ps sp/\Binds K fd ps [])->bH l.prog w K mg base k x ps sp:=λh t=>PN X G h t
 have Ec:∀{k:Nat}{x y:Str}{st:Stmt}{ps:List Str}{sp:Sp},MP K C x y st->(∀f fd,aW K x y st f fd->aq l.prog w K mg base aP k f fd ps sp/\Binds K fd ps [])->gk l.prog w K mg base k C x ps sp:=λh t=>Jg cC h t
 have I:=I0 base
 have eE:∀H:Hp,kO K H bY ((["all","not","both","either","somenext","eachnext","sometill","eachtill","someever","eachever"]:List Str).map V.str):=λH=>.inr ⟨_,_,_,pD,rfl,rfl,(by show 10<=sizeLine;decide),by repeat(first|exact Paired.nil|refine Paired.cons ⟨_,rfl⟩ ?_)⟩
 have jR:=cal h2 λ_ _ F=>⟨zLp (k:=0) F B,jg F⟩
 have aN:=cal h3 λ_ _ F=>⟨zFg (k:=1) F B jR.m,sE F⟩
 have pF:=cal h4 λ_ _ F=>⟨zGk (k:=2) F B gP aN.m,zq F⟩
 have lG:=cal h5 λ_ _ F=>⟨zO0 (k:=0) F B oR fW fX eE aao VH,zq F⟩
 have pG:=cal h6 λ_ _ F=>⟨zGl (k:=2) F B aN.m lG.m,jg F⟩
 have qR:=cal h7 λ_ _ F=>⟨zIb (k:=2) F B aN.m,jg F⟩
 have Ed:=cal h8 λ_ _ F=>⟨zRg (k:=0) F B,zq F⟩
 have aaq:=cal h1 λ_ _ F=>⟨Ob F B,zq F⟩
 have OI:aq l.prog w K mg base aP 4 fI Xy ["self","steps","marks","fair"] (T9 K C (U0 C)):=Oc (k:=3) FI T B pF.m pG.m qR.m Ed.m aaq.m
 have aJ:=Ec m0 λ_ _ F=>⟨zFh (k:=0) (C:=C) F B T,zq F⟩
 have aV:=Ec m1 λ_ _ F=>⟨zC5 (k:=0) (C:=C) F B T jo,jg F⟩
 have dh:=Ec m2 λ_ _ F=>⟨zDz (k:=0) (C:=C) F B T,jg F⟩
 have dw:=Ec m3 λ_ _ F=>⟨zDy (k:=0) (C:=C) F B T jo,jg F⟩
 have cR:=Ec m4 λ_ _ F=>⟨zC6 (k:=0) (C:=C) F B T jo,jg F⟩
 have au:=cal h9 λ_ _ F=>⟨zIa (k:=1) (C:=C) F B aJ.m,zq F⟩
 have jh:=cal h10 λ_ _ F=>⟨zUt (k:=1) (C:=C) F B aJ.m,jg F⟩
 have dR:=cal h11 λ_ _ F=>⟨zOt (k:=0) F B jo P0,jg F⟩
 have eV:=cal h12 λ_ _ F=>⟨zRb (k:=2) (C:=C) F B au.m dR.m,jg F⟩
 have cJ:=cal h13 λ_ _ F=>⟨zRa (k:=0) F B jo P0,jg F⟩
 have cN:=cal h14 λ_ _ F=>⟨zJw (k:=2) (C:=C) F B dh.m aJ.m jh.m,sE F⟩
 have dj:=cal h15 λ_ _ F=>⟨zLq (k:=3) (C:=C) F B cN.m,sE F⟩
 have iZ:=cal h16 λ_ _ F=>⟨zJp (k:=1) (C:=C) F B aan aV.m,sE F⟩
 have ji:=cal h17 λ_ _ F=>⟨zO1 (k:=0) F B,zq F⟩
 have fU:=cal h18 λ_ _ F=>⟨zGj (k:=1) (C:=C) F B aJ.m aV.m ji.m,jg F⟩
 have qG:=cal h19 λ_ _ F=>⟨zUq (k:=2) (C:=C) F B jo P0 fU.m,jg F⟩
 have iV:=cal h20 λ_ _ F=>⟨zJr (k:=1) (C:=C) F B T cR.m cJ.m,jg F⟩
 have gJ:=cal h21 λ_ _ F=>⟨zH9 (k:=3) (C:=C) F B iV.m qG.m,jg F⟩
 have nQ:=cal h22 λ_ _ F=>⟨zRf (k:=0) F B,zq F⟩
 have tX:=cal h23 λ_ _ F=>⟨HS (k:=4) (C:=C) F B dj.m gJ.m nQ.m,jg F⟩
 have jk:=cal h24 λ_ _ F=>⟨zUu (k:=5) (C:=C) F B tX.m au.m,zq F⟩
 have dH:=cal h25 λ_ _ F=>⟨zJq (k:=4) (C:=C) F B dj.m cJ.m,Ui F⟩
 have bZ:=cal h26 λ_ _ F=>⟨zB3 (k:=5) (C:=C) (cl:=cl) F B I au.m eV.m dH.m,Ui F⟩
 have dU:=cal h27 λ_ _ F=>⟨zOv (k:=6) (C:=C) (cl:=cl) F B I dw.m au.m bZ.m eV.m,Ui F⟩
 have oV:∀n:Nat,bH l.prog w K mg base (7+n) "table_among" ["machine","living","saying"] (Xo K C cl (yY n)):=λn=>by
  induction n with
  |zero=>exact cal h28 λ_ _ F=>⟨aaj (λvs H Q E ⟨_,_,_,_,z,_⟩=>by cases z),sE F⟩
  |succ n ih=>exact cal h28 λ_ _ F=>⟨zGi (k:=7+n) F B I (dU.mono (aa4 (by decide) (abn 7 n))) ih,sE F⟩
 have cL:bH l.prog w K mg base 13 "table_among" ["machine","living","saying"] (zDl K C cl):=oV 6
 have qH:=cal h29 λ_ _ F=>⟨zUp (k:=13) (C:=C) (cl:=cl) F B jk.m cL.m,jg F⟩
 have qJ:=cal h30 λ_ _ F=>⟨zUs (k:=14) (C:=C) (cl:=cl) F B qH.m,jg F⟩
 have fV:=cal h31 λ_ _ F=>⟨zGh (k:=0) F B,zq F⟩
 have b_:=cal h32 λ_ _ F=>⟨zFf (k:=3) (C:=C) F B cN.m au.m iZ.m fV.m,sE F⟩
 have lH:=cal h33 λ_ _ F=>⟨zOu (k:=4) (C:=C) (cl:=cl) F B I au.m cJ.m b_.m dR.m,bi5 F⟩
 have oM:=cal h34 λ_ _ F=>⟨HX (k:=15) (C:=C) (cl:=cl) F B I aap jk.m jh.m qJ.m dU.m lH.m,jg F⟩
 have aX:=cal h35 λ_ _ F=>⟨zJv (k:=0) F B,jg F⟩
 have lM:=cal h36 λ_ _ F=>⟨zOw (k:=0) F B,zq F⟩
 have bQ:=cal h37 λ_ _ F=>⟨zUr (k:=0) F B,jg F⟩
 have gO:=cal h38 λ_ _ F=>⟨zH7 (k:=1) F B aam aX.m bQ.m,jg F⟩
 have jU:=cal h39 λ_ _ F=>⟨zLo (k:=1) F B bQ.m,sE F⟩
 have jc:=cal h40 λ_ _ F=>⟨zJu (k:=1) F B bQ.m,jg F⟩
 have gM:=cal h41 λ_ _ F=>⟨zH8 (k:=0) F B,zq F⟩
 have lK:=cal h42 λ_ _ F=>⟨zOx (k:=0) F B,sE F⟩
 have jf:=cal h43 λ_ _ F=>⟨zJs (k:=0) F B,jg F⟩
 have lQ:=cal h44 λ_ _ F=>⟨zOz (k:=1) F B lK.m,jg F⟩
 have fG:=cal h45 λ_ _ F=>⟨zJt (k:=4) (cl:=cl) F B I (by decide),Ui F⟩
 have lN:=cal h46 λ_ _ F=>⟨zOy (k:=0) F B VH P_,jg F⟩
 have oJ:=cal h47 λ_ _ F=>⟨zRc (k:=1) F B lM.m,sE F⟩
 have jT:=cal h48 λ_ _ F=>⟨zLn (k:=2) F B oJ.m,bi5 F⟩
 have oK:=cal h49 λ_ _ F=>⟨zRe (k:=0) F B,bi6 F⟩
 have je:=cal h50 λ_ _ F=>⟨zRd (k:=3) F B lN.m oK.m jT.m,bi5 F⟩
 refine aq.imp (Pk (k0:=15) (C:=C) (cl:=cl) (mO lk ck kp) B T I (by decide) mk (OI.mono (by decide)) bI0 lQ.m aX.m jc.m fG.m jU.m gM.m gO.m je.m jf.m oM.m) λvs H Q E h=>?_
 obtain⟨a,ns,rfl,hS,h63,hQ⟩:=h
 obtain⟨b,e1,e2⟩:=zU5 C cl ⟨ns⟩
 subst e2
 exact⟨(⟨ns⟩,()),true,H,.refl _,e1,.cons ⟨a,rfl,hS⟩ .nil,λv H' _ r=>by cases r;exact hQ H'⟩
theorem walk{l:PySem.W.OpenLaw}{YP:World->Heap->Prop}{d:DefRec}{K:Params->PySem.W.Frag}(hn:l.most=some 63)(hdf:d.params.defaults=[])(hY:∀(w:World) (h:Heap),YP w h->(K w.params).In h)(F:∀(w:World) (mg:Str->Option Value) (fa:Addr) (h:Heap),(K w.params).In h->h.Ns abg mg->mg d.name=some (.ref fa) ->
   ∃fd:FuncData,(∀(s:Shared) (u:Value),BindsTo s fd ⟨[u],[]⟩ [("_law_script",u)])/\∀base:Heap,(K w.params).In base->base.Ns abg mg->aq l.prog w (K w.params) mg base aP 17 fa fd ["_law_script"] (D_ (K w.params))) :
  PySem.W.WalkO q loose XP YP l.row.toRowW d [] (λf vs=>PySem.call f vs) :=
 L2.Gj (n:=63) (k:=17) (x:="_law_script") (CX:=λ_=>aP) (sp:=λw=>D_ (K w.params)) hn (by decide) hdf ⟨rfl,by decide,by decide⟩ hY F (λ_ _ a ns hl _ hS=>⟨a,ns,rfl,hS,hl,λ_=>rfl⟩) λ_ _ _ _ _ z=>z
end Ts
namespace PySem.W.Fast
def tw15869992354107855811:=0
def tw7041909156363006255:=0
def tw9469704668729840941:=0
def tw3478877402211496173:=0
def tw16394235224887483406:=0
def tw17708456464035949765:=0
def tw3087341388112185344:=0
def tw11907008254391100248:=0
def tw12755622633198653759:=0
def tw17906340498046936605:=0
def tw5778189820633021402:=0
def tw16680168239317266536:=0
def tw16092080422359274218:=0
def tw10400047053146270162:=0
def tw1337736635666017779:=0
def tw12911940038047305515:=0
def tw12822111415665446129:=0
def tw3513044030182624568:=0
def tw17337423889870932559:=0
def tw17768775595829486751:=0
def tw6450352284139256553:=0
def tw4628653488574312081:=0
def tw5894505056616743869:=0
def tw10236546187178026166:=0
def tw5049399005608144403:=0
def tw17864161162538060075:=0
def tw13417903513810218405:=0
def tw12304409622721328814:=0
def tw11583515827043011362:=0
def tw2451757939806655363:=0
def tw14373493680675096817:=0
def tw14834521000552794819:=0
def tw226069106980398253:=0
def tw14571758526074298033:=0
def tw15070749056729518870:=0
def tw13183794775375728237:=0
def tw10967957785981163566:=0
def tw13740998599979892423:=0
def tw5148253181827116693:=0
def tw3760353929878245156:=0
def tw7285610600387467941:=0
def tw1284646480791459193:=0
def tw629462063586415788:=0
def tw6426397245163746973:=0
def tw4915674471301550203:=0
def tw14543677904431856660:=0
def tw17012885975164092040:=0
def tw8152158740666836723:=0
def tw11280487028375316215:=0
def tw15995848783218126677:=0
def tw11033032016526203188:=0
def tw1880151968293743450:=0
def tw16901357575182260418:=0
def tw15344309085273379217:=0
def tw6491592853468343546:=0
def tw15042747977906373192:=0
def tw619057146012134390:=0
def tw15395725755210546169:=0
def tw8666759335368447055:=0
def tw8940798187178724996:=0
def tw9113259129584235924:=0
def tw6154363281628294200:=0
def tw13362895444348983674:=0
def tw17099438131157760052:=0
def tw12681278956941618552:=0
def tw16034903392346046558:=0
def tw3171197551565962539:=0
def tw4392732098842916897:=0
def tw2247382018536017870:=0
def tw6291718755977659175:=0
def tw9649329892297821967:=0
def tw5808774426943725144:=0
def tw7654083850474003889:=0
def tw3281758031194097969:=0
def tw8992757864614683213:=0
def tw16997014123764471681:=0
def tw7257463359061541112:=0
def tw4576024474222409782:=0
def tw13303026898709526027:=0
def tw207535285681142149:=0
def tw9673168232127250128:=0
def tw1462809121905528185:=0
def tw10766584315711336900:=0
def tw12022387886466215494:=0
def tw13270638492308263703:=0
def tw5816070560789088280:=0
def tw217539134201598670:=0
def tw14691336326210885940:=0
def tw10248905990265647180:=0
def tw17724027102808377736:=0
def tw14902333555454804410:=0
def tw14870472793428169161:=0
def tw13627257813298963179:=0
def tw12498888057070568211:=0
def tw16922055110310762480:=0
def tw528723864206142952:=0
def tw14571280106959769164:=0
def tw3482815801132461201:=0
def tw2068092998071097227:=0
def tw6291849483205631934:=0
def tw5805104619061603003:=0
def tw16827587027072080110:=0
def tw5878611363246130910:=0
def tw1196180597488581119:=0
def tw3620333893002760008:=0
def tw453069831174599206:=0
def tw9164676794802928034:=0
def tw18441809958689232384:=0
def tw16492388580437838200:=0
def tw2130755061289108081:=0
def tw14451530627102661675:=0
def tw14726181439391729994:=0
def tw6947128860485801911:=0
def tw16275924903943465080:=0
def tw16157945710657663928:=0
def tw8166614731305949758:=0
def tw929894464385585710:=0
def tw3841799103174143677:=0
def tw17906765630024896217:=0
def tw17754736967230728009:=0
def tw4935750802487683546:=0
def tw951878667453828162:=0
def tw13358835682388294242:=0
def tw6984129560223168878:=0
def tw10075120095629817355:=0
def tw7999643773818410395:=0
def tw5270163133167217075:=0
def tw3276647685929664672:=0
def tw190068843528721781:=0
def tw10663663971407105888:=0
def tw16412084799023351052:=0
def tw12513094051164781252:=0
def tw6109845487278012911:=0
def tw2984506527681522875:=0
def tw6926519526101203814:=0
def tw14479564931248953322:=0
def tw1158518336780532329:=0
def tw11454744729269517042:=0
def tw15150140631066657607:=0
def tw12698300827082906153:=0
def tw1857478434396808237:=0
def tw12491122939795931627:=0
def tw5327110171171671651:=0
def tw3908658309626573330:=0
def tw15113516381947693688:=0
def tw7732871750780594694:=0
def tw17312441910264613686:=0
def tw553969593202651922:=0
def tw2232206989397577341:=0
def tw9410440651766243508:=0
def tw9812842700654923118:=0
def tw6951098962850156083:=0
def tw15516762694977102117:=0
def tw14911847184027914222:=0
def tw3255805400553963543:=0
def tw11852351465824130270:=0
def tw15259433001484390369:=0
def tw14142691836569591964:=0
def tw6120199408999256329:=0
def tw12138565946116875482:=0
def tw896052550028488222:=0
def tw11588466240908964523:=0
def tw10519013910441105959:=0
def tw16160309609058684543:=0
def tw15205817384007554725:=0
def tw4360416412183866317:=0
def tw6152702264437458622:=0
def tw4358632586678450823:=0
def tw11549462290669107310:=0
def tw4141898737887133287:=0
def tw1967127448965944722:=0
def tw1562739606778892209:=0
def tw11674653154700221315:=0
def tw6660614886464645336:=0
def tw15674757528423205863:=0
def tw5023351464097618549:=0
def tw8820410241273415598:=0
def tw9416861787953047566:=0
def tw11780857992615128176:=0
def tw3071411304300613825:=0
def tw13469789025700785546:=0
def tw8381169569287524231:=0
def tw11785756632039860159:=0
def tw9150421409823084475:=0
def tw10861955963972942949:=0
def tw17384968054487839038:=0
def tw6460492904652640778:=0
def tw16948597244935503350:=0
def tw13249778411264800277:=0
def tw8153174893745150683:=0
def tw10920922404741261514:=0
def tw7363086519569685706:=0
def tw12156176394779752878:=0
def tw3463227552823152365:=0
def tw8653101792752717243:=0
def tw17382694650831343140:=0
def tw4227582982568395021:=0
def tw16238352862510649543:=0
def tw3924923842725808467:=0
def tw1721991936901084132:=0
def tw14304557870740686081:=0
def tw8142890861102527476:=0
def tw18054839829536713823:=0
def tw6233702129772737761:=0
def tw13738638888778285342:=0
def tw4983387723555389737:=0
def tw17743241708723687948:=0
def tw2780424049867468963:=0
def tw5364399094705763553:=0
def tw5495209168059218718:=0
def tw2932089409521156640:=0
def tw8910144848622884421:=0
def tw11844196418986604947:=0
def tw13322965455468071449:=0
def tw4251303963592195421:=0
def tw14334034211345366971:=0
def tw3257041593736509554:=0
def tw328089685111167324:=0
def tw3725935985838548332:=0
def tw15582081000107612635:=0
def tw5934044648421202630:=0
def tw4324998812434594975:=0
def tw1791544368990165673:=0
def tw7027749678627144878:=0
def tw17715984660407132352:=0
def tw844849202671991253:=0
def tw11806026904794154363:=0
def tw11933119169454077366:=0
def tw11378645323474619121:=0
def tw13014215871703686781:=0
def tw16174999960129708935:=0
def tw5255951258050703611:=0
def tw9280016667543673738:=0
def tw17208779870364481488:=0
def tw15935435810993863876:=0
def tw16889068516581069464:=0
def tw12344524604430124335:=0
def tw9689692243964604016:=0
def tw14711746220870147623:=0
def tw3114667547047277108:=0
def tw11286857749441624482:=0
def tw18441516342984422612:=0
def tw3819869447613555437:=0
def tw5239486904197818870:=0
def tw12958313540030729585:=0
def tw7015697891479385279:=0
def tw17818352823526800736:=0
def tw3788051181986384377:=0
def tw5992383437803473182:=0
def tw3150322487464265401:=0
def tw9080614526152440878:=0
def tw15206592840310843584:=0
def tw17662246001798419419:=0
def tw14908958943965238222:=0
def tw12800568269785965763:=0
def tw1820563830230497158:=0
def tw1461729531360836736:=0
def tw10847485261418035061:=0
def tw6002271313113592600:=0
def tw9785945362820440948:=0
def tw2278315422227374028:=0
def tw7793150783290214042:=0
def tw3720676266675891651:=0
def tw5121912479965913343:=0
def tw15041712130419235655:=0
def tw12931967319678841974:=0
def tw12046788323886221845:=0
def tw2546381073922850061:=0
def tw13156464147266077409:=0
def tw6480595588220542863:=0
def tw15751007277506030479:=0
def tw638553844653960313:=0
def tw13282793912240749928:=0
def tw12754699983620771450:=0
def tw1213193463086112737:=0
def tw4413197938522174889:=0
def tw9681945289499366571:=0
def tw7444636644738143145:=0
def tw1471983851995240895:=0
def tw1272826164904557096:=0
def tw15913145175421158038:=0
def tw2208616217274986613:=0
def tw2549412156755888242:=0
def tw14516313421891160440:=0
def tw15917523586269636306:=0
def tw13310199052618090463:=0
def tw12789057306295675696:=0
def tw11607247663027865388:=0
def tw12297427706224888677:=0
def tw5517051944302734678:=0
def tw11708029162676698641:=0
def tw13231013252103670734:=0
def tw1247029605814854667:=0
def tw15045888979286672269:=0
def tw3018039056896813701:=0
def tw15488420494273542660:=0
def tw2558619219698206732:=0
def tw5474149800840074458:=0
def tw9141252364078620890:=0
def tw17380191853051427160:=0
end PySem.W.Fast
open PySem PySem.W PyProof.Rows
set_option maxRecDepth 100000 in
set_option maxHeartbeats 0 in
theorem PySem.Challenge.cw_treesay_k52_walks_told_holds : PySem.Challenge.rw_treesay_k52_walks_told.Holds := by
 w_on; o_law; k_head; (case hw=>w_witness2)
 k_fill
 refine Ts.walk (l:=PySem.Challenge.rw_treesay_k52_walks_told) rfl rfl (fun w h Y=>by first | exact PySem.W.kIn_of Y | exact PySem.W.km_in_of Y) ?F
 case F =>
  intro w mg fa h KX G hmg
  refine' Ts.all_mk KX G hmg (Sy.PL KX G ?_ ?_ ?_ ?_ ?_ ?_ ?_ ?_ ?_ ?_ ?_ ?_ ?_ ?_ ?_ ?_ ?_ ?_ ?_) ?_ ?_ ?_ ?_ ?_ ?_ ?_ ?_ ?_ ?_ ?_ ?_ ?_ ?_ ?_ ?_ ?_ ?_ ?_ ?_ ?_ ?_ ?_ ?_ ?_ ?_ ?_ ?_ ?_ ?_ ?_ ?_ ?_ ?_ ?_ ?_ ?_ ?_ ?_ ?_ ?_ ?_ ?_ ?_ ?_ ?_ ?_ ?_ ?_ ?_ ?_ ?_ ?_ ?_ ?_ ?_ ?_ ?_ ?_ ?_ ?_ ?_ ?_ ?_ ?_ ?_ ?_ ?_
  all_goals first | refine' Sy.PK ?_ ⟨?_,?_,?_,?_⟩ (L2.mO ?_ ?_ ?_) ⟨?_,?_,?_,?_⟩ ?_ | refine' Sy.PJ ?_ ⟨?_,?_,?_,?_⟩ (L2.mO ?_ ?_ ?_) | refine' Ts.VD ⟨?_,?_,?_⟩ (L2.mO ?_ ?_ ?_) | refine' Ts.VB ?_ (L2.mO ?_ ?_ ?_) | refine' Ts.Jf ?_ ?_ ?_ | refine' ⟨?_,?_,?_,?_⟩ | skip
  all_goals repeat' first | refine' And.intro ?_ ?_ | exact True.intro
  all_goals first | k_is | skip
  all_goals first | k_is | skip
