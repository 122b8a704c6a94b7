import PyProof.Rows.All
import Wide.All
import OpenK.AllK
import Wide.FinOn
import Lean
import PyProof.EqAt
import PyProof.EqKinds
import PyProof.TupleCall
import PyProof.NeKinds
import PyProof.EnumStmt
import PyProof.EnumMake
import PyProof.CompFree
import PyProof.Rows.FStr
import PySem.Challenge.RW_treesay_k48_fair_sets_turned
open PySem renaming wpAny_bind->aaw,wpAny_pure->aax,wpAny_setState_of->abd,mainGlobals->abl,boot_len->abp,wpAny_holding->abu,Spec->ab0,wpAny_newObj_type->ab3,mem_of_lookup->ab5,wpAny_setEpoch_of->ab6,wpAny_Call_Name_kw->ab8,wpAny_call_entry->acn,wpAny_mono->aco,wpAny_truthy_bool->acp,fits_of_scanBound->acz,wpAny_storeSet_of->ac0,wpAny_of_eq->ac3,codeAny_builtin->ac7,wpAny_passesOwn->ac8,wpAny_forIn_list->adk,wpAny_setField->adz,codeAny_mono->ad1,wpAny_askSetting->ad2,plainId_quiet->aea,wpAny_rule->aee,entryFor_alias->aem,wpAny_pyIter_list->aeo,wpAny_pyIter_rangeiter->aep,builtinLookup_eq_fast->aer,wpAny_isInstance->aeu,wpAny_field->aex,wpAny_execs_nil->aey,wpAny_binaryOp_same->aez,tupleKind_room_in1->ae0,call_meets->afg,sub_set_self->afh,codeAny_of_tree->afi,typeLookup_type->afj,wpAny_ite_split->afk,isSubtype_type->afm,seqIndex_of->afo,sizeLine_eq->afp,wpAny_BinOp->afq,wpAny_standAt->afv,Within->af4,call_range_1->af5,seqIndex_neg->af7,wpAny_typeOf->af8
open Bool renaming false_ne_true->aay,and_eq_true->aa1,false_eq_true->aa9,eq_iff_iff->abv,not_true->ab9,or_eq_true->acd,false_or->aev,and_false->afl,and_self->afs
open List renaming getElem?_eq_getElem->aaz,getElem?_eq_some_iff->abb,range->abg,getElem?_eq_none->abq,getElem?_set->ac9,lookup->ada
open Nat renaming le_refl->aa0,lt_of_lt_of_le->aa3,ne_of_lt->aa5,lt_of_le_of_lt->aa7,le_trans->aa8,zero_le->abj,lt_irrefl->ab2,le_of_lt->acf,succ_le_succ->aci,le_succ->acq,not_lt_zero->acr,le_add_right->acu,lt_succ_self->acv,pow_le_pow_right->acy,zero_add->adb,ne_of_gt->adn,le_of_lt_succ->adw,lt_succ_of_lt->aej,lt_trans->aek,le_of_succ_le->ae3,pow_succ->afc,succ_pos->afd,mod_lt->afw
open Option.some renaming inj->aa2
open PySem.Builtin.Range renaming rangeSize->aa4,rangeFitsLong->abt
open Array renaming getElem?_eq_getElem->aa6,getElem?_eq_none->aby
open PySem.PassesOwn renaming never->abe
open PySem.F renaming plainAttrs_list->abf,slot_list_append->abm,type_list_append->abn,slot_list_extend->ad8,type_list_extend->ad9
open PySem.NameKind renaming free->abh,cell->ace
open PyProof.Rows renaming callWith_type1->abk,envOfC->ad4,Constant_none->aft
open PySem.Builtin renaming bitAnd->abo,bitNot->adh,bitOr->adq
open PySem.Builtin.Frozenset renaming unchanged->abr,slot1->ach,updateFrom->adp,copyOf->ad5,sizeOf->ad6
open Sum renaming inl->abw,inr->acg
open PySem.Value renaming ref->abx,int->acj,none->ac4,isInt_shape->ade,type->aed,noConfusion->ae6,str->afr,builtin->afu,bool->afy,float->agc
open Option renaming isSome_iff_exists->abz,isSome_some->aec,map_eq_some_iff->ael,isSome_map->ae4
open Int renaming toNat_natCast->ab1,emod_lt_of_pos->acs,emod_nonneg->ac6,ofNat->adi,natCast_nonneg->adl,le_refl->ae2
open False renaming elim->ab4
open LawfulBEq renaming eq_of_beq->ab7
open PySem.Around renaming under_plainId->acw,under->af0
open ForInStep renaming yield->ac1
open Ne renaming symm->ac2
open PySem.Builtin.Slice renaming slicePlaces->ac5,sliceAdjust->ad3
open PySem.Builtin.Tuple renaming tupleExact->adf
open True renaming intro->adg
open PySem.Obj renaming mapSeq->ado,mapFields->ae7,putSet->afx
open PySem.Str renaming empty->adt,ofString->ad0
open PySem.Builtin.List renaming listLengthHint->adu,listFitsIndex->adx,listTooLong->ad7
open PySem.W renaming cellsFrom_some->ady,kia_one->aen,methodCall_KW->afa,callWith_K->afe,plainGet_of->afn
open PySem.Calls renaming spliced_cons->aeb,spliced_nil->aei
open PySem.Builtin.Str renaming occurrences->aef
open Classical renaming propDecidable->aeg
open PyProof.Rows.F renaming plain_set_update_loop->aeh
open PySem.SeqAt renaming EqAt->aes
open PySem.SetTable renaming fill->aew
open PySem.Data renaming fields->ae1,cell->afb
open Prod.mk renaming inj->ae5
open PySem.Paired renaming length->ae8,snoc->aga
open PySem.Value.ref renaming inj->ae9
open PySem.Walks renaming list->afz
open PySem.Code renaming isFrame->af2
open Iff renaming rfl->af3
open PySem.pickOrder renaming go->af6
open PySem.IsRange renaming new->af9
open Sum.inl renaming inj->agb
open PySem.W (instObj methodObj lookIn plainGet hasDictIn findIn plainGet_of isFn takerIn typeIn emptyDict specialIn keepIn takesIn mroIn kitOne kia_one callWith_K methodCall_KW cellsFrom_some fnOf codeIn kitCls isClsIn nsIn mg_of)
open List (getElem?_eq_none_iff mem_filter mem_range filterMap_cons mem_cons_self mem_cons_of_mem mem_cons mem_append mem_append_left getElem_inj mem_append_right size_toArray any_eq_false length_cons map_cons length_map append_nil nodup_cons of_mem_zip replicate length_take getElem?_append_right getElem?_replicate getElem?_append_left getElem?_map getElem?_take_of_lt mem_of_getElem? length_append find?_cons any_cons length_nil filterMap_map length_drop length_set all_cons reverse_cons length_singleton Pairwise lookup_cons all_eq_true lookup_append getD_eq_getElem?_getD toArray getElem?_cons_zero map_append mem_map any_append take_append_drop take_add_one take_length getElem?_range length_range getElem?_zip_eq_some nil_append range_succ_eq_map filter_cons length_filter_le mem_iff_getElem? nodup_nil mem_singleton nodup_append filter_eq_self any_eq_true getElem_mem getElem_of_mem Perm pairwise_cons take_of_length_le getElem?_toArray pairwise_map length_eq_zero_iff length_eraseIdx append_assoc ext_getElem? filterMap set_set length_reverse flatMap_append map_id' mem_of_mem_take mem_flatten flatten_append flatten_singleton flatten_cons eq_nil_iff_forall_not_mem)
open PySem.Heap (lt_size SameBut get?_push_of_some get?_push_size size_push get?_update_self get?_update_other)
open Array (length_toList getElem?_toList toArray_toList forIn_toList size_map isEmpty)
open PySem.SetTable (below insertAt probe grown eraseAt)
set_option Elab.async false
set_option linter.all false
set_option maxRecDepth 100000
abbrev LI:=List Int
namespace L2
open PySem PySem.Spec PyProof.Rows
abbrev Key:=Sum Int Str
def Ow:Key->Value->Bool
 |.inl k,v=>Value.isInt k v
 |.inr x,v=>Value.isStrOf x v
def Xk(w:World):Key->Int
 |.inl k=>hashInt k
 |.inr x=>hashStr w x
theorem xN:∀{k:Key}{v:Value},Ow k v=true->(∃i t,k=abw i/\v=acj i t)\/(∃x t,k=acg x/\v=afr x t)
 |.inl i,v,h=>by
  obtain⟨t,e⟩:=ade (k:=i) (v:=v) h
  exact .inl ⟨i,t,rfl,e⟩
 |.inr x,v,h=>by
  obtain⟨t,e⟩:=Value.isStrOf_shape (x:=x) (v:=v) h
  exact .inr ⟨x,t,rfl,e⟩
theorem zQ1(i:Int)(t:Tok):Ow (.inl i) (.int i t)=true:=by simp[Ow,Value.isInt]
theorem zQ0(x:Str)(t:Tok):Ow (.inr x) (.str x t)=true:=by simp[Ow,Value.isStrOf]
theorem Jv(a b:Int):decide ((abw a:Key)=abw b)=(a==b):=by
 by_cases e:a=b
 ·subst e;simp
 ·have h:¬(abw a:Key)=abw b:=λq=>e (agb q)
  rw[decide_eq_false h]
  exact(beq_eq_false_iff_ne.mpr e).symm
theorem Jw(a b:Str):decide ((acg a:Key)=acg b)=decide (a=b):=by
 by_cases e:a=b
 ·subst e;simp
 ·have h:¬(acg a:Key)=acg b:=λq=>e (Sum.inr.inj q)
  rw[decide_eq_false h,decide_eq_false e]
theorem Jx(a:Int)(b:Str):decide ((abw a:Key)=acg b)=false:=decide_eq_false (λq=>nomatch q)
theorem Jy(a:Str)(b:Int):decide ((acg a:Key)=abw b)=false:=decide_eq_false (λq=>nomatch q)
def vC(prog:Program)(w:World):PySem.KeyKind prog w Key where
 is:=Ow
 hash:=Xk w
 inj:=λv a b ha hb=>by
  rcases xN ha with⟨i,t,rfl,rfl⟩|⟨x,t,rfl,rfl⟩
  ·rcases xN hb with⟨j,u,rfl,e⟩|⟨y,u,rfl,e⟩
   ·injection e with e1 _;rw[e1]
   ·exact nomatch e
  ·rcases xN hb with⟨j,u,rfl,e⟩|⟨y,u,rfl,e⟩
   ·exact nomatch e
   ·injection e with e1 _;rw[e1]
 byValue:=λk v h=>by
  rcases xN h with⟨i,t,rfl,rfl⟩|⟨x,t,rfl,rfl⟩<;>rfl
 pyHash:=λhv h=>by
  rcases xN hv with⟨i,t,rfl,rfl⟩|⟨x,t,rfl,rfl⟩
  ·exact wpAny_pyHash_int h
  ·exact wpAny_pyHash_str h
 eqBool:=λhu hv h=>by
  rcases xN hu with⟨i,t,rfl,rfl⟩|⟨x,t,rfl,rfl⟩
  ·rcases xN hv with⟨j,u,rfl,rfl⟩|⟨y,u,rfl,rfl⟩
   ·rw[Jv] at h;exact wpAny_eqBool_int h
   ·rw[Jx] at h;exact SeqAt.EqAt.int_str i t y u _ _ _ _ h
  ·rcases xN hv with⟨j,u,rfl,rfl⟩|⟨y,u,rfl,rfl⟩
   ·rw[Jy] at h;exact SeqAt.EqAt.str_int x t j u _ _ _ _ h
   ·rw[Jw] at h;exact wpAny_eqBool_str h
 «strs»:=λk x t v h=>by
  rcases xN h with⟨i,u,rfl,e⟩|⟨y,u,rfl,e⟩
  ·exact nomatch e
  ·injection e with e1 _
   subst e1
   cases v<;>rfl
theorem zKp(prog:Program)(w:World)(i:Int)(t:Tok):(vC prog w).is (.inl i) (.int i t)=true:=zQ1 i t
theorem zKo(prog:Program)(w:World)(x:Str)(t:Tok):(vC prog w).is (.inr x) (.str x t)=true:=zQ0 x t
inductive V where
 |non|bl (b:Bool)|int (i:Int)|str (x:Str)|rH (b:Array UInt8)|flt (b:UInt64)|ref (a:Addr)|ty (n:String)
 deriving DecidableEq
def RelV:V->Value->Prop
 |.non,u=>u=ac4
 |.bl b,u=>u=afy b
 |.int i,u=>∃t,u=acj i t
 |.str x,u=>∃t,u=afr x t
 |.rH b,u=>∃t,u=Value.bytes b t
 |.flt b,u=>∃t,u=agc b t
 |.ref a,u=>u=abx a
 |.ty n,u=>u=aed n
abbrev Vals:List V->List Value->Prop:=Paired RelV
theorem Vals.length(r:Vals xs us):xs.length=us.length:=ae8 r
theorem Vals.get:∀{xs:List V}{us:List Value}{i:Nat}{x:V},Vals xs us->xs[i]?=some x->∃u,us[i]?=some u/\RelV x u
 |_,_,_,_,.nil,e=>by simp at e
 |_,_,0,_,.cons r _,e=>by simp at e;subst e;exact⟨_,rfl,r⟩
 |_,_,i+1,x,.cons _ t,e=>by
  obtain⟨u,h1,h2⟩:=Vals.get (i:=i) (x:=x) t (by simpa using e)
  exact⟨u,by simpa using h1,h2⟩
theorem Vals.set(r:RelV x u):∀{xs:List V}{us:List Value}(i:Nat),Vals xs us->Vals (xs.set i x) (us.set i u)
 |_,_,_,.nil=>.nil
 |_,_,0,.cons _ t=>.cons r t
 |_,_,i+1,.cons q t=>.cons q (Vals.set r i t)
theorem Vals.append:∀{xs ys:List V}{us ws:List Value},Vals xs us->Vals ys ws->Vals (xs++ys) (us++ws)
 |_,_,_,_,.nil,s=>s
 |_,_,_,_,.cons r t,s=>.cons r (Vals.append t s)
theorem Vals.take:∀{xs:List V}{us:List Value}(n:Nat),Vals xs us->Vals (xs.take n) (us.take n)
 |_,_,0,_=>.nil
 |_,_,_+1,.nil=>.nil
 |_,_,n+1,.cons r t=>.cons r (Vals.take n t)
theorem Vals.drop:∀{xs:List V}{us:List Value}(n:Nat),Vals xs us->Vals (xs.drop n) (us.drop n)
 |_,_,0,r=>r
 |_,_,_+1,.nil=>.nil
 |_,_,n+1,.cons _ t=>Vals.drop n t
theorem Vals.none_of:∀{xs:List V}{us:List Value}{i:Nat},Vals xs us->xs[i]?=none->us[i]?=none:=λ{xs us i} r e=>by
 have h1:=r.length
 have h2:xs.length<=i:=getElem?_eq_none_iff.mp e
 exact getElem?_eq_none_iff.mpr (by omega)
def iY:Option V->Option Value->Prop
 |some v,some u=>RelV v u
 |none,none=>True
 |_,_=>False
def KV{κ:Type}:List (κ×V)->List (κ×Value)->Prop:=Paired λ(p:κ×V) (q:κ×Value)=>p.1=q.1/\RelV p.2 q.2
def kV:Key->V
 |.inl i=>.int i
 |.inr x=>.str x
inductive HO where
 |lst (xs:List V)
 |tup (xs:List V)
 |dK (kvs:List (Key×V))|dT (kvs:List (List Key×V))
 |set (S:Int->Bool) (n:Nat)
 |ins (C dx:Addr) (fs:List (Str×V))
 |own (x:Addr)
 |xd (fs:List (Str×V))
 |met (f x:Addr)
 |rng (lo hi:Int)
 |sY (o:Obj) (u:HO)
 |Jz (ps:Array Value)
 |ext (φ:Heap->Prop)
abbrev Hp:=Addr->Option HO
def upd(H:Hp)(a:Addr)(o:HO):Hp:=λb=>if b=a then some o else H b
theorem zJ:upd H a o a=some o:=by unfold upd;rw[if_pos rfl]
theorem zP(h:b≠a):upd H a o b=H b:=by unfold upd;rw[if_neg h]
theorem Hq{H:Hp}{a b:Addr}{o u:HO}(h:H a=some o)(h':H b=some u)(d:o≠u):a≠b:=by
 intro e;subst e;rw[h] at h';exact d (aa2 h')
theorem zL{H:Hp}{a b:Addr}{o:HO}(h:H a=some o)(h':H b=none):a≠b:=by
 intro e;subst e;rw[h] at h';cases h'
section
variable(P:Program)(w:World)
def bI(H:Hp)(h:Heap)(a:Addr):HO->Prop
 |.lst xs=>xs.length<=sizeLine/\∃(its:List Value)(n:Nat),Vals xs its/\h.get? a=some { cls:=.type "list",data:=.seq its.toArray n }
 |.tup xs=>xs.length<=sizeLine/\∃its:List Value,Vals xs its/\IsTup h a its.toArray
 |.dK kvs=>kvs.length<=sizeLine/\(a==sysModules)=false/\∃vs,KV kvs vs/\h.DictOf (vC P w) a vs
 |.dT kvs=>kvs.length<=sizeLine/\(a==sysModules)=false/\∃xs:List (List Key×Addr×Value),
   Paired (λ(p:List Key×V) (q:List Key×Addr×Value)=>p.1=q.1/\H q.2.1=some (.tup (p.1.map kV))/\RelV p.2 q.2.2) kvs xs /\
   ∃o es ep,h.get? a=some o/\o.ExactDict/\o.data=.dict es ep/\es.toList=xs.map (entryOfKey (tupleKind (vC P w)))/\(xs.map (·.1)).Nodup
 |.set S n=>h.SetOf (intKind P w) a S n
 |.ins C dx fs=>H dx=some (.own a)/\fs.length<=1000/\dx≠a/\h.get? a=some (instObj C dx) /\
   ∃mA,h.Ns1 dx mA/\(∀f,iY (fs.lookup f) (mA f))/\af4 mA (fs.map (·.1))
 |.own _=>∃o,h.get? a=some o
 |.xd fs=>∃mA,h.Ns1 a mA/\∀f,iY (fs.lookup f) (mA f)
 |.rng lo hi=>∃t u v,h.get? a=some { cls:=.type "range",data:=.fields #[.int lo t,.int hi u,.int 1 v] }
 |.sY o u=>h.get? a=some o/\bI H h a u
 |.Jz ps=>h.get? a=some { cls:=.none,data:=.fields ps }
 |.met f x=>h.get? a=some (methodObj (.ref f) (.ref x))
 |.ext φ=>φ h/\(∃o,h.get? a=some o)/\∀h1 h2:Heap,φ h1->(∀o,h1.get? a=some o->h2.get? a=some o)->φ h2
def gQ(H:Hp)(h:Heap):Prop:=∀a o,H a=some o->bI P w H h a o
end
section
variable{P:Program}{w:World}{H H':Hp}{h h':Heap}{a:Addr}{o:HO}
theorem bI.lt(x:bI P w H h a o):a<h.objs.size:=by
 cases o with
 |lst xs=>obtain⟨_,_,_,_,e⟩:=x;exact lt_size e
 |tup xs=>obtain⟨_,_,_,p⟩:=x;exact p.lt
 |dK kvs=>obtain⟨_,_,_,_,o,_,_,e,_⟩:=x;exact lt_size e
 |dT kvs=>obtain⟨_,_,_,_,o,_,_,e,_⟩:=x;exact lt_size e
 |set S n=>obtain⟨o,_,_,_,e,_⟩:=x;exact lt_size e
 |ins C dx fs=>obtain⟨_,_,_,e,_⟩:=x;exact lt_size e
 |own y=>obtain⟨_,e⟩:=x;exact lt_size e
 |xd fs=>obtain⟨_,⟨_,_,_,e,_⟩,_⟩:=x;exact lt_size e
 |rng lo hi=>obtain⟨_,_,_,e⟩:=x;exact lt_size e
 |sY ob u=>obtain⟨e,_⟩:=x;exact lt_size e
 |Jz ps=>exact lt_size (show h.get? a=some _ from x)
 |met f y=>exact lt_size (show h.get? a=some _ from x)
 |ext φ=>obtain⟨_,⟨_,e⟩,_⟩:=x;exact lt_size e
theorem Paired.JB{α β:Type}{F G:α->β->Prop}:∀{l₁:List α}{l₂:List β},Paired F l₁ l₂->(∀a b,F a b->G a b)->Paired G l₁ l₂
 |_,_,.nil,_=>.nil
 |_,_,.cons r t,f=>.cons (f _ _ r) (Paired.JB t f)
theorem bI.stay(x:bI P w H h a o)(k:∀b u,(b=a\/H b=some (.own a))->h.get? b=some u->h'.get? b=some u)(ho:∀b,H b=some (.own a)->H' b=some (.own a))(ht:∀b xs,H b=some (.tup xs)->H' b=some (.tup xs)):bI P w H' h' a o:=by
 induction o with
 |lst xs=>obtain⟨z,its,n,r,e⟩:=x;exact⟨z,its,n,r,k _ _ (.inl rfl) e⟩
 |tup xs=>obtain⟨z,its,r,ob,e,c⟩:=x;exact⟨z,its,r,ob,k _ _ (.inl rfl) e,c⟩
 |dK kvs=>obtain⟨z,y,vs,r,ob,es,ep,e,c⟩:=x;exact⟨z,y,vs,r,ob,es,ep,k _ _ (.inl rfl) e,c⟩
 |dT kvs =>
  obtain⟨z,y,xs,r,ob,es,ep,e,c⟩:=x
  exact⟨z,y,xs,Paired.JB r λp q z=>⟨z.1,ht _ _ z.2.1,z.2.2⟩,ob,es,ep,k _ _ (.inl rfl) e,c⟩
 |set S n=>obtain⟨ob,es,ep,t,e,c⟩:=x;exact⟨ob,es,ep,t,k _ _ (.inl rfl) e,c⟩
 |ins C dx fs =>
  obtain⟨d,z,ne,e,mA,⟨od,es,ep,e2,c⟩,r⟩:=x
  exact⟨ho _ d,z,ne,k _ _ (.inl rfl) e,mA,⟨od,es,ep,k _ _ (.inr d) e2,c⟩,r⟩
 |own y=>obtain⟨ob,e⟩:=x;exact⟨ob,k _ _ (.inl rfl) e⟩
 |xd fs=>obtain⟨mA,⟨od,es,ep,e,c⟩,r⟩:=x;exact⟨mA,⟨od,es,ep,k _ _ (.inl rfl) e,c⟩,r⟩
 |rng lo hi=>obtain⟨t,u,v,e⟩:=x;exact⟨t,u,v,k _ _ (.inl rfl) e⟩
 |sY ob u ih=>obtain⟨e,q⟩:=x;exact⟨k _ _ (.inl rfl) e,ih q⟩
 |Jz ps =>
  have e:h.get? a=some { cls:=.none,data:=.fields ps }:=x
  show h'.get? a=some { cls:=.none,data:=.fields ps }
  exact k a _ (.inl rfl) e
 |met f y =>
  have e:h.get? a=some (methodObj (.ref f) (.ref y)):=x
  show h'.get? a=some (methodObj (.ref f) (.ref y))
  exact k a _ (.inl rfl) e
 |ext φ=>obtain⟨p,⟨o,e⟩,st⟩:=x;exact⟨st _ _ p λo q=>k _ _ (.inl rfl) q,⟨o,k _ _ (.inl rfl) e⟩,st⟩
theorem gQ.lt(x:gQ P w H h)(e:H a=some o):a<h.objs.size:=(x a o e).lt
theorem gQ.fresh(x:gQ P w H h)(e:h.objs.size<=a):H a=none:=by
 cases q:H a with
 |none=>rfl
 |some u=>exact absurd (aa3 (x.lt q) e) (ab2 _)
theorem gQ.kept(x:gQ P w H h)(k:∀b u,h.get? b=some u->h'.get? b=some u):gQ P w H h':=λa o e =>
 (x a o e).stay (λb u _ q=>k b u q) (λ_ q=>q) λ_ _ q=>q
theorem gQ.laid(x:gQ P w H h)(k:∀b u,h.get? b=some u->h'.get? b=some u)(hp:h.objs.size<=a)(new:bI P w (upd H a o) h' a o):gQ P w (upd H a o) h':=λb u e=>by
 have hn:=x.fresh hp
 by_cases hb:b=a
 ·subst hb;rw[zJ] at e;cases e;exact new
 ·rw[zP hb] at e
  exact(x b u e).stay (λc v _ q=>k c v q) (λc q=>by rw[zP (zL q hn)];exact q) λc xs q=>by rw[zP (zL q hn)];exact q
end
def Rd(H:Hp)(a:Addr)(u:HO):Prop:=H a=some u\/∃o,H a=some (.sY o u)
theorem Rd.ok(r:Rd H a u)(x:gQ P w H h):bI P w H h a u:=by
 rcases r with r|⟨o,r⟩
 ·exact x a u r
 ·obtain⟨_,q⟩:=x a _ r
  exact q
def Qt:Option HO->Prop
 |some (.lst _)=>True
 |some (.dK _)=>True
 |some (.dT _)=>True
 |some (.set _ _)=>True
 |some (.ins _ _ _)=>True
 |some (.ext _)=>True
 |_=>False
section
variable{P:Program}{w:World}{H:Hp}{h h':Heap}{x e:Addr}{o':HO}
theorem gQ.write(ok:gQ P w H h)(mu:Qt (H x))(he:e=x\/H e=some (.own x))(k:∀b u,b≠e->h.get? b=some u->h'.get? b=some u)(heo:∃u,h'.get? e=some u)(new:bI P w (upd H x o') h' x o'):gQ P w (upd H x o') h':=λb u q=>by
 have Qu:∀c y,H c=some (.own y)->c≠x:=λc y r z=>by subst z;rw[r] at mu;exact mu
 have Xl:∀c xs,H c=some (.tup xs)->c≠x:=λc xs r z=>by subst z;rw[r] at mu;exact mu
 by_cases hb:b=x
 ·subst hb;rw[zJ] at q;cases q;exact new
 ·rw[zP hb] at q
  by_cases hbe:b=e
  ·have q':H b=some (.own x):=by
    rcases he with z|z
    ·exact absurd (hbe.trans z) hb
    ·rw[hbe];exact z
   rw[q] at q';cases q'
   obtain⟨v,hv⟩:=heo
   exact⟨v,by rw[hbe];exact hv⟩
  ·refine(ok b u q).stay (λc v hc r=>k c v ?_ r) (λc r=>by rw[zP (Qu c b r)];exact r) λc xs r=>by rw[zP (Xl c xs r)];exact r
   rcases hc with rfl|hc
   ·exact hbe
   ·rintro rfl
    rcases he with z|z
    ·exact Qu c b hc z
    ·rw[hc] at z;cases z;exact hb rfl
end
structure Un(fs ex:List Addr)(H H':Hp)(h h':Heap):Prop where
 keep:∀b o,h.get? b=some o->H b=none->b∉fs->b∉ex->h'.get? b=some o
 slot:∀b o,h.get? b=some o->H b=none->b∈fs->b∉ex->∃sl,h'.get? b=some { o with slots:=sl }
 free:∀b o,h.get? b=some o->H b=none->b∉ex->H' b=none
 there:∀b o,h.get? b=some o->b∉ex->∃o',h'.get? b=some o'
 tups:∀b xs,H b=some (.tup xs)->H' b=some (.tup xs)
 mK:∀b o u,H b=some (.sY o u)->H' b=some (.sY o u)
 oK:∀b ps,H b=some (.Jz ps)->∃more,H' b=some (.Jz (ps++more))
section
variable{fs fs' ex ex':List Addr}{H H1 H2:Hp}{h h1 h2 h':Heap}{a x e:Addr}{o:HO}
theorem Un.any(u:Un fs ex H H1 h h1)(q:h.get? b=some ob)(n:H b=none)(hx:b∉ex):∃sl,h1.get? b=some { ob with slots:=sl }:=by
 by_cases hb:b∈fs
 ·exact u.slot b ob q n hb hx
 ·exact⟨ob.slots,u.keep b ob q n hb hx⟩
theorem Un.kept(k:∀b u,h.get? b=some u->h'.get? b=some u):Un fs ex H H h h' :=
 ⟨λb ob q _ _ _=>k b ob q,λb ob q _ _ _=>⟨ob.slots,k b ob q⟩,λ_ _ _ n _=>n,λb ob q _=>⟨ob,k b ob q⟩,λ_ _ q=>q,λ_ _ _ q=>q,λ_ ps q=>⟨#[],by rw[q];simp⟩⟩
theorem Un.refl:Un fs ex H H h h:=Un.kept λ_ _ q=>q
theorem Un.laid(k:∀b u,h.get? b=some u->h'.get? b=some u)(hp:h.objs.size<=a)(hn:H a=none):Un fs ex H (upd H a o) h h' where
 keep:=λb u q _ _ _=>k b u q
 slot:=λb u q _ _ _=>⟨u.slots,k b u q⟩
 free:=λb u q n _=>by rw[zP (aa5 (aa3 (lt_size q) hp))];exact n
 there:=λb u q _=>⟨u,k b u q⟩
 tups:=λb xs q=>by rw[zP (zL q hn)];exact q
 mK:=λb u xs q=>by rw[zP (zL q hn)];exact q
 oK:=λb ps q=>⟨#[],by rw[zP (zL q hn),q];simp⟩
theorem Un.write(mu:Qt (H x))(he:e=x\/H e=some (.own x))(k:∀b u,b≠e->h.get? b=some u->h'.get? b=some u)(heo:∃u,h'.get? e=some u):Un fs ex H (upd H x o) h h':=by
 have hx:∀b,H b=none->b≠x:=λb n z=>by subst z;rw[n] at mu;exact mu
 have hb:∀b,H b=none->b≠e:=λb n z=>by
  subst z
  rcases he with r|r
  ·exact hx b n r
  ·rw[n] at r;cases r
 have hm:∀b u,H b=some u->¬Qt (some u)->b≠x:=λb u q nm z=>by subst z;rw[q] at mu;exact nm mu
 refine⟨λb u q n _ _=>k b u (hb b n) q,λb u q n _ _=>⟨u.slots,k b u (hb b n) q⟩,λb u q n _=>by rw[zP (hx b n)];exact n,λb u q _=>?_,
  λb xs q=>by rw[zP (hm b _ q λz=>z)];exact q,λb u xs q=>by rw[zP (hm b _ q λz=>z)];exact q,λb ps q=>⟨#[],by rw[zP (hm b _ q λz=>z),q];simp⟩⟩
 by_cases hbe:b=e
 ·subst hbe;exact heo
 ·exact⟨u,k b u hbe q⟩
end
def Vf(h:Heap)(H:Hp):List Addr:=(abg h.objs.size).filter λa=>(H a).isSome
def pU(h:Heap)(H:Hp):Heap:=PySem.W.hideAll h (Vf h H)
theorem zQ8(h:Heap)(H:Hp):(pU h H).objs.size=h.objs.size:=PySem.W.hideAll_size _ _
theorem zUl{h:Heap}(e:h.get? b=some o)(n:H b=none):(pU h H).get? b=some o :=
 PySem.W.hideAll_get _ e λhm=>by
  have q:(H b).isSome=true:=(mem_filter.mp hm).2
  rw[n] at q;simp at q
theorem CZ(e:(pU h H).get? b=some o):h.get? b=some o/\H b=none:=by
 have e':h.get? b=some o:=PySem.W.of_hideAll (Vf h H) e
 refine⟨e',?_⟩
 cases q:H b with
 |none=>rfl
 |some x =>
  have hm:b∈Vf h H:=mem_filter.mpr ⟨mem_range.mpr (lt_size e'),by simp[q]⟩
  have z:(pU h H).get? b=none:=PySem.W.hideAll_none (Vf h H) hm
  rw[z] at e;cases e
def C_(g h:Heap)(L:Addr):List (Addr×Obj):=(abg h.objs.size).filterMap λa=>if a=L\/(g.get? a).isSome=true then none else(h.get? a).map λo=>(a,o)
def rest(g h:Heap)(L d:Addr):List (Addr×Obj):=(C_ g h L).filter λp=>decide (p.1≠d)
structure Mod(K:PySem.W.Frag)(mg:Str->Option Value)(base:Heap):Prop where
 Ox:K.In base
 glob:base.Ns abl mg
 blt:∃mb,base.Ns builtinsNs mb/\∀x:Str,x ≠ "__name__"->mb x=bootBuiltins x
 nolimit:base.NoLimit
structure Cx where
 prog:Program
 w:World
 K:PySem.W.Frag
 mg:Str->Option Value
 base:Heap
 A:Around
 N:List Str
 s₀:Shared
 H₀:Hp
 env:Env
 outer:List Env
 stack:List Env
 ex:List Addr
 fn:Str->Bool
 calm:Bool
 pn:List (Addr×Obj)
 xe:Value->Shared->Prop
def frs(l:List Env):List Addr:=l.filterMap (·.frame)
abbrev Cx.fs(X:Cx):List Addr:=frs X.outer
def Qv(sc:Scope)(x:Str):Prop:=sc.names.lookup x=some .local\/sc.names.lookup x=some .cell\/sc.names.lookup x=some .free
def Loc(sc:Scope)(x:Str):Prop:=sc.names.lookup x=some .local\/sc.names.lookup x=some .cell
def Look(env:Env)(h:Heap)(m:Str->Option Value)(x:Str)(u:Value):Prop :=
 (env.kindOf x=some .local/\m x=some u)\/((env.kindOf x=some .cell\/env.kindOf x=some .free)/\∃c,env.cells.lookup x=some c/\h.IsCell c (some u))
structure Cx.Ok(X:Cx):Prop where
 mod:Mod X.K X.mg X.base
 kind:X.env.scope.kind=.function
 glob:X.env.globals=abl
 blt:X.env.builtins=builtinsNs
 above:X.s₀.heap.objs.size<=X.env.locals
 inj:∀x y c,X.env.cells.lookup x=some c->X.env.cells.lookup y=some c->x=y
 has:∀x,(X.env.kindOf x=some .cell\/X.env.kindOf x=some .free)->∃c,X.env.cells.lookup x=some c
 cab:∀x c,X.fn x=true->X.env.cells.lookup x=some c->X.s₀.heap.objs.size<=c
 hd:X.calm=true->X.A.handled=none
 frames:X.A.frames=some X.stack
 stk:X.stack=X.outer\/(X.stack=X.env::X.outer/\X.env.frame=some X.env.locals)
 Vg:∀b∈X.ex,b≠X.env.locals/\∀x c,X.env.cells.lookup x=some c->c≠b
 bs:∀b o,X.base.get? b=some o->X.s₀.heap.get? b=some o/\X.H₀ b=none
 Dd:X.base.objs.size<=X.s₀.heap.objs.size
 zf:∀b o,X.base.get? b=some o->b∉X.ex
 zj:∀b∈X.ex,b∉X.fs
 lQ:X.s₀.heap.FunFrames X.base X.outer
 JC:∀b∈X.fs,X.H₀ b=none
structure Inv(X:Cx)(pins:List (Addr×Obj))(σ:List (Option V))(H:Hp)(s:Shared):Prop where
 ok:X.Ok
 os:s.os=X.s₀.os
 bare:AllBare s.gens
 base:Un X.fs X.ex X.H₀ H X.s₀.heap s.heap
 loc:∃m,s.heap.Ns X.env.locals m/\∀(i:Nat)(x:Str)(v:V),X.N[i]?=some x->σ[i]?=some (some v)->Qv X.env.scope x->∃u,RelV v u/\Look X.env s.heap m x u
 cell:∀x c,X.env.cells.lookup x=some c->∃v,s.heap.IsCell c v
 free:H X.env.locals=none
 gZ:∀x c,X.env.cells.lookup x=some c->H c=none
 pin:∀p∈X.pn++pins,s.heap.get? p.1=some p.2/\H p.1=none/\p.1≠X.env.locals/\p.1∉X.fs/\∀v,p.2.data≠.cell v
 hok:gQ X.prog X.w H s.heap
 len:σ.length=X.N.length
section
variable{X:Cx}{pins:List (Addr×Obj)}{σ:List (Option V)}{H H':Hp}{s:Shared}{h':Heap}
theorem Cx.Ok.Xm(ok:X.Ok)(e:X.base.get? b=some o):b∉X.fs:=λhb=>by
 have:=(ok.lQ.mem hb).1
 rw[e] at this;cases this
theorem Inv.bs(I:Inv X pins σ H s):∀b o,X.base.get? b=some o->s.heap.get? b=some o/\H b=none:=λb o e =>
 ⟨I.base.keep b o (I.ok.bs b o e).1 (I.ok.bs b o e).2 (I.ok.Xm e) (I.ok.zf b o e),I.base.free b o (I.ok.bs b o e).1 (I.ok.bs b o e).2 (I.ok.zf b o e)⟩
theorem Inv.bk(I:Inv X pins σ H s):∀b o,X.base.get? b=some o->s.heap.get? b=some o:=λb o e=>(I.bs b o e).1
theorem Inv.mod(I:Inv X pins σ H s):Mod X.K X.mg X.base:=I.ok.mod
theorem Inv.jO(I:Inv X pins σ H s):X.K.In s.heap:=I.ok.mod.Ox.keeps I.bk
theorem Inv.nolimit(I:Inv X pins σ H s):s.heap.NoLimit:=I.ok.mod.nolimit.keeps I.bk
theorem Inv.lt(I:Inv X pins σ H s):X.env.locals<s.heap.objs.size:=let⟨_,hn,_⟩:=I.loc;hn.lt
theorem Inv.sz(I:Inv X pins σ H s):X.s₀.heap.objs.size<=s.heap.objs.size:=aa8 I.ok.above (acf I.lt)
theorem Inv.JD(I:Inv X pins σ H s)(h:s.heap.objs.size<=a):a∉X.fs:=λhb=>by
 obtain⟨_,o,ho,_⟩:=I.ok.lQ.mem hb
 exact absurd (aa3 (lt_size ho) (aa8 I.sz h)) (ab2 _)
theorem Inv.JF(I:Inv X pins σ H s):∀x c,X.env.cells.lookup x=some c->c≠X.env.locals:=λx c e z=>by
 obtain⟨v,o,ho,hd⟩:=I.cell x c e
 obtain⟨m,⟨o',es,ep,ho',hd',_⟩,_⟩:=I.loc
 rw[z,ho'] at ho;cases ho;rw[hd'] at hd;cases hd
theorem Inv.lQ(I:Inv X pins σ H s):s.heap.FunFrames X.base X.outer:=by
 have all:∀(l:List Env),(∀b∈frs l,b∈X.fs)->X.s₀.heap.FunFrames X.base l->s.heap.FunFrames X.base l:=by
  intro l
  induction l with
  |nil=>intro _ _;trivial
  |cons env r ih =>
   intro hs hl
   obtain⟨hk,⟨L,o,hf,hn,ho,hd⟩,hr⟩:=hl
   have hL:L∈X.fs:=hs L (by unfold frs;rw[filterMap_cons,hf];exact mem_cons_self)
   obtain⟨sl,e⟩:=I.base.slot L o ho (I.ok.JC L hL) hL λz=>I.ok.zj L z hL
   exact⟨hk,⟨L,_,hf,hn,e,hd⟩,ih (λb hb=>hs b (by unfold frs;rw[filterMap_cons,hf];exact mem_cons_of_mem _ hb)) hr⟩
 exact all X.outer (λ_ hb=>hb) I.ok.lQ
theorem Inv.stack(I:Inv X pins σ H s):s.heap.FunFrames X.base X.stack:=by
 rcases I.ok.stk with e|⟨e,hf⟩
 ·rw[e];exact I.lQ
 ·rw[e]
  obtain⟨m,hn,_⟩:=I.loc
  refine .cons (by rw[I.ok.kind];decide) hf hn ?_ I.lQ
  exact Heap.get?_none_of_le (aa8 I.ok.Dd I.ok.above)
theorem Inv.pW(I:Inv X pins σ H s):∀b∈frs X.stack,b∈X.env.locals::X.fs:=λb hb=>by
 rcases I.ok.stk with e|⟨e,hf⟩
 ·rw[e] at hb;exact mem_cons_of_mem _ hb
 ·rw[e] at hb
  unfold frs at hb
  rw[filterMap_cons,hf] at hb
  exact hb
theorem Inv.sZ(I:Inv X pins σ H s):∀b∈frs X.stack,H b=none:=λb hb=>by
 rcases mem_cons.mp (I.pW b hb) with e|hb
 ·rw[e];exact I.free
 ·obtain⟨_,o,ho,_⟩:=I.ok.lQ.mem hb
  exact I.base.free b o ho (I.ok.JC b hb) λz=>I.ok.zj b z hb
theorem Inv.step{g':Array GenState}{t':Nat}{d':Drawn}{ch:List Addr}(I:Inv X pins σ H s)(hch:∀b∈ch,(b∈X.ex\/X.s₀.heap.objs.size<=b)/\b≠X.env.locals/\(∀x c,X.env.cells.lookup x=some c->c≠b)/\∀p∈X.pn++pins,p.1≠b)(keep:∀b o,b≠X.env.locals->b∉X.fs->b∉ch->s.heap.get? b=some o->H b=none->h'.get? b=some o)(slot:∀b o,b≠X.env.locals->b∈X.fs->b∉ch->s.heap.get? b=some o->H b=none->∃sl,h'.get? b=some { o with slots:=sl })(free:∀b o,b∉ch->s.heap.get? b=some o->H b=none->H' b=none)(there:∀b o,b∉ch->s.heap.get? b=some o->∃o',h'.get? b=some o')(tups:∀b xs,H b=some (.tup xs)->H' b=some (.tup xs))(mK:∀b o u,H b=some (.sY o u)->H' b=some (.sY o u))(oK:∀b ps,H b=some (.Jz ps)->∃more,H' b=some (.Jz (ps++more)))(ns:∀m,s.heap.Ns X.env.locals m->h'.Ns X.env.locals m)(hok:gQ X.prog X.w H' h')(hg:AllBare g') :
  Inv X pins σ H' { s with heap:=h',gens:=g',drawn:=d',toks:=t' }:=by
 have neL:∀b o,X.s₀.heap.get? b=some o->b≠X.env.locals:=λb o e=>aa5 (aa3 (lt_size e) I.ok.above)
 have Vh:∀b o,X.s₀.heap.get? b=some o->b∉X.ex->b∉ch:=λb o e hx hb=>by
  rcases(hch b hb).1 with z|z
  ·exact hx z
  ·exact absurd (aa3 (lt_size e) z) (ab2 _)
 have cellK:∀x c,X.env.cells.lookup x=some c->∀v,s.heap.IsCell c v->h'.IsCell c v:=λx c e v ⟨o,ho,hd⟩=>by
  have Qw:c∉ch:=λz=>(hch c z).2.2.1 x c e rfl
  by_cases hc:c∈X.fs
  ·obtain⟨sl,q⟩:=slot c o (I.JF x c e) hc Qw ho (I.gZ x c e)
   exact⟨_,q,hd⟩
  ·exact⟨o,keep c o (I.JF x c e) hc Qw ho (I.gZ x c e),hd⟩
 refine⟨I.ok,I.os,hg,⟨λb o e n hb hx=>?_,λb o e n hb hx=>?_,λb o e n hx=>?_,λb o e hx=>?_,λb xs e=>tups b xs (I.base.tups b xs e),λb o xs e=>mK b o xs (I.base.mK b o xs e),λb ps e=>?_⟩,?_,λx c e=>?_,?_,λx c e=>?_,λp hp=>?_,hok,I.len⟩
 ·exact keep b o (neL b o e) hb (Vh b o e hx) (I.base.keep b o e n hb hx) (I.base.free b o e n hx)
 ·obtain⟨sl,e1⟩:=I.base.slot b o e n hb hx
  obtain⟨sl',e2⟩:=slot b _ (neL b o e) hb (Vh b o e hx) e1 (I.base.free b o e n hx)
  exact⟨sl',e2⟩
 ·obtain⟨o',e1⟩:=I.base.there b o e hx
  exact free b o' (Vh b o e hx) e1 (I.base.free b o e n hx)
 ·obtain⟨o',e1⟩:=I.base.there b o e hx
  exact there b o' (Vh b o e hx) e1
 ·obtain⟨m1,e1⟩:=I.base.oK b ps e
  obtain⟨m2,e2⟩:=oK b _ e1
  exact⟨m1++m2,by rw[e2,Array.append_assoc]⟩
 ·obtain⟨m,hn,hl⟩:=I.loc
  refine⟨m,ns m hn,λi x v e1 e2 e3=>?_⟩
  obtain⟨u,r,l⟩:=hl i x v e1 e2 e3
  refine⟨u,r,?_⟩
  rcases l with l|⟨k,c,e,z⟩
  ·exact .inl l
  ·exact .inr ⟨k,c,e,cellK x c e _ z⟩
 ·obtain⟨v,z⟩:=I.cell x c e
  exact⟨v,cellK x c e v z⟩
 ·obtain⟨m,⟨o,_,_,ho,_⟩,_⟩:=I.loc
  exact free _ o (λz=>(hch _ z).2.1 rfl) ho I.free
 ·obtain⟨v,o,ho,hd⟩:=I.cell x c e
  exact free c o (λz=>(hch c z).2.2.1 x c e rfl) ho (I.gZ x c e)
 ·obtain⟨e,n,ne,nf,d⟩:=I.pin p hp
  have Qw:p.1∉ch:=λz=>(hch p.1 z).2.2.2 p hp rfl
  exact⟨keep p.1 p.2 ne nf Qw e n,free p.1 p.2 Qw e n,ne,nf,d⟩
theorem Inv.un(I:Inv X pins σ H s)(u:Un X.fs [] H H' s.heap h')(hok:gQ X.prog X.w H' h'):Inv X pins σ H' { s with heap:=h',toks:=t' }:=by
 obtain⟨m,⟨o,es,ep,ho,r⟩,_⟩:=id I.loc
 obtain⟨sl,hL⟩:=u.any ho I.free (by simp)
 exact I.step (g':=s.gens) (d':=s.drawn) (ch:=[]) (λ_ z=>nomatch z) (λb o _ hb _ e n=>u.keep b o e n hb (by simp)) (λb o _ hb _ e n=>u.slot b o e n hb (by simp)) (λb o _ e n=>u.free b o e n (by simp)) (λb o _ e=>u.there b o e (by simp)) u.tups u.mK u.oK (λm' hm=>by
  obtain⟨o',es',ep',ho',r'⟩:=hm
  rw[ho] at ho';cases ho'
  exact⟨_,es',ep',hL,r'⟩) hok I.bare
theorem Inv.call(I:Inv X pins σ H s)(u:Un (frs X.stack) ch H H' s.heap h')(hok:gQ X.prog X.w H' h')(hg:AllBare g')(hch:∀b∈ch,(b∈X.ex\/X.s₀.heap.objs.size<=b)/\b≠X.env.locals/\(∀x c,X.env.cells.lookup x=some c->c≠b)/\∀p∈X.pn++pins,p.1≠b) :
  Inv X pins σ H' { s with heap:=h',gens:=g',drawn:=d',toks:=t' }:=by
 obtain⟨m,⟨o,es,ep,ho,r⟩,_⟩:=id I.loc
 obtain⟨sl,hL⟩:=u.any ho I.free λz=>(hch _ z).2.1 rfl
 exact I.step (ch:=ch) hch (λb o hL hb hc e n=>u.keep b o e n (λz=>(mem_cons.mp (I.pW b z)).elim hL hb) hc) (λb o _ _ hc e n=>u.any e n hc) (λb o hc e n=>u.free b o e n hc) (λb o hc e=>u.there b o e hc) u.tups u.mK u.oK (λm' hm=>by
  obtain⟨o',es',ep',ho',r'⟩:=hm
  rw[ho] at ho';cases ho'
  exact⟨_,es',ep',hL,r'⟩) hok hg
theorem Inv.turned(I:Inv X pins σ H s)(k:∀b o,b≠it->s.heap.get? b=some o->h'.get? b=some o)(hn:H it=none)(hL:it≠X.env.locals)(h1:it∈X.ex\/X.s₀.heap.objs.size<=it)(h2:∀x c,X.env.cells.lookup x=some c->c≠it)(h3:∀p∈X.pn++pins,p.1≠it):Inv X pins σ H { s with heap:=h',toks:=t' }:=by
 have nit:∀b u,H b=some u->b≠it:=λb u e z=>by rw[z,hn] at e;cases e
 refine I.step (g':=s.gens) (d':=s.drawn) (ch:=[it]) (λb hb=>?_) (λb o _ _ hc e _=>k b o (λz=>hc (by simp[z])) e) (λb o _ _ hc e _=>⟨o.slots,k b o (λz=>hc (by simp[z])) e⟩) (λ_ _ _ _ n=>n)
  (λb o hc e=>⟨o,k b o (λz=>hc (by simp[z])) e⟩) (λ_ _ e=>e) (λ_ _ _ e=>e) (λb ps e=>⟨#[],by rw[e];simp⟩) (λm hm=>?_) (λb u e=>?_) I.bare
 ·have e:b=it:=by simpa using hb
  subst e
  exact⟨h1,hL,h2,h3⟩
 ·obtain⟨o,es,ep,ho,r⟩:=hm
  exact⟨o,es,ep,k _ o (ac2 hL) ho,r⟩
 ·refine(I.hok b u e).stay (λc v hc q=>k c v ?_ q) (λ_ q=>q) λ_ _ q=>q
  rcases hc with z|z
  ·rw[z];exact nit b u e
  ·exact nit c _ z
theorem Inv.tok(I:Inv X pins σ H s)(t:Nat):Inv X pins σ H { s with toks:=t }:=I.un (h':=s.heap) (t':=t) Un.refl I.hok
theorem Inv.kept(I:Inv X pins σ H s)(k:∀b u,s.heap.get? b=some u->h'.get? b=some u):Inv X pins σ H { s with heap:=h',toks:=t' }:=I.un (Un.kept k) (I.hok.kept k)
theorem Inv.laid(I:Inv X pins σ H s)(k:∀b u,s.heap.get? b=some u->h'.get? b=some u)(hp:s.heap.objs.size<=a)(new:bI X.prog X.w (upd H a o) h' a o) :
  Inv X pins σ (upd H a o) { s with heap:=h',toks:=t' }:=I.un (Un.laid k hp (I.hok.fresh hp)) (I.hok.laid k hp new)
theorem Inv.write(I:Inv X pins σ H s)(mu:Qt (H x))(he:e=x\/H e=some (.own x))(k:∀b u,b≠e->s.heap.get? b=some u->h'.get? b=some u)(heo:∃u,h'.get? e=some u)(new:bI X.prog X.w (upd H x o) h' x o):Inv X pins σ (upd H x o) { s with heap:=h',toks:=t' }:=I.un (Un.write mu he k heo) (I.hok.write mu he k heo new)
theorem Inv.jP(I:Inv X pins σ H s)(h:∀p∈Hr,s.heap.get? p.1=some p.2/\H p.1=none/\p.1≠X.env.locals/\p.1∉X.fs/\∀v,p.2.data≠.cell v):Inv X Hr σ H s :=
 ⟨I.ok,I.os,I.bare,I.base,I.loc,I.cell,I.free,I.gZ,λp hp=>(mem_append.mp hp).elim (λz=>I.pin p (mem_append_left _ z)) (h p),I.hok,I.len⟩
theorem zL0{N:List Str}(hN:N.Nodup){i j:Nat}{x:Str}(a:N[i]?=some x)(b:N[j]?=some x):i=j:=by
 obtain⟨h1,e1⟩:=abb.mp a
 obtain⟨h2,e2⟩:=abb.mp b
 exact(getElem_inj hN).mp (e1.trans e2.symm)
theorem zH8{Q:Unit->Shared->Prop}(I:Inv X pins σ H s)(hN:X.N.Nodup)(hi:X.N[i]?=some x)(hx:Loc X.env.scope x)(r:RelV v u)(h:∀s',Inv X pins (σ.set i (some v)) H s'->(∃a,SameBut a s.heap s'.heap/\(a=X.env.locals\/X.env.cells.lookup x=some a))->Q () s')(hf:X.fn x=true\/X.env.scope.names.lookup x=some .local:=by first|exact .inl rfl|exact .inr rfl|assumption):wpAny M A (storeName X.env x u) Q E s:=by
 obtain⟨m,hn,hl⟩:=id I.loc
 have hcls:(X.env.scope.kind==.class||(X.env.scope.kind==.module&&X.env.locals != X.env.globals))=false:=by rw[I.ok.kind];rfl
 have Qx:i<σ.length:=by rw[I.len];exact(abb.mp hi).1
 have JF:=I.JF
 have tracked:∀{a:Addr}{h':Heap},(∃o,s.heap.get? a=some o/\H a=none)->SameBut a s.heap h'->gQ X.prog X.w H h':=λ{a h'} ha hs b ob e=>by
  obtain⟨_,_,hfree⟩:=ha
  refine(I.hok b ob e).stay (λc w' hc q=>(hs.2 c ?_).trans q) (λ_ q=>q) λ_ _ q=>q
  rintro rfl
  rcases hc with rfl|hc
  ·rw[hfree] at e;cases e
  ·rw[hfree] at hc;cases hc
 rcases hx with hk|hk
 ·refine wpAny_storeName_local hk hn (λh' hn' hs=>?_) hcls
  obtain⟨oL,_,_,hoL,_⟩:=id hn
  refine h _ ⟨I.ok,I.os,I.bare,⟨λb o e n hb hx=>?_,λb o e n hb hx=>?_,I.base.free,λb o e hx=>?_,I.base.tups,I.base.mK,I.base.oK⟩,⟨_,hn',λj y v' e1 e2 e3=>?_⟩,λy c e=>?_,I.free,I.gZ,λp hp=>?_,tracked ⟨oL,hoL,I.free⟩ hs,by simpa using I.len⟩ ⟨_,hs,.inl rfl⟩
  ·exact(hs.2 b (aa5 (aa3 (lt_size e) I.ok.above))).trans (I.base.keep b o e n hb hx)
  ·obtain⟨sl,e1⟩:=I.base.slot b o e n hb hx
   exact⟨sl,(hs.2 b (aa5 (aa3 (lt_size e) I.ok.above))).trans e1⟩
  ·obtain⟨o',e1⟩:=I.base.there b o e hx
   exact⟨o',(hs.2 b (aa5 (aa3 (lt_size e) I.ok.above))).trans e1⟩
  ·by_cases hj:j=i
   ·subst hj
    rw[hi] at e1;cases e1
    rw[List.getElem?_set_self Qx] at e2
    cases e2
    exact⟨u,r,.inl ⟨hk,by simp⟩⟩
   ·rw[List.getElem?_set_ne (ac2 hj)] at e2
    obtain⟨u',r',q⟩:=hl j y v' e1 e2 e3
    refine⟨u',r',?_⟩
    rcases q with⟨k,e⟩|⟨k,c,e,z⟩
    ·refine .inl ⟨k,?_⟩
     have:y≠x:=λe=>hj (zL0 hN e1 (e▸hi))
     simp[this,e]
    ·exact .inr ⟨k,c,e,z.sameBut hs (JF y c e)⟩
  ·obtain⟨w',z⟩:=I.cell y c e
   exact⟨w',z.sameBut hs (JF y c e)⟩
  ·obtain⟨e,n,ne,nf,d⟩:=I.pin p hp
   exact⟨(hs.2 p.1 ne).trans e,n,ne,nf,d⟩
 ·have hfn:X.fn x=true:=by
   rcases hf with z|z
   ·exact z
   ·rw[z] at hk;cases hk
  obtain⟨c,hc⟩:=I.ok.has x (.inl hk)
  obtain⟨w',z⟩:=I.cell x c hc
  refine wpAny_storeName_cell I.ok.kind hk hc z (λh' hc' hs=>?_)
  obtain⟨oc,hoc,Xn⟩:=id z
  refine h { s with heap:=h' } ⟨I.ok,I.os,I.bare,⟨λb o e n hb hx=>?_,λb o e n hb hx=>?_,I.base.free,λb o e hx=>?_,I.base.tups,I.base.mK,I.base.oK⟩,⟨m,hn.sameBut hs (ac2 (JF x c hc)),λj y v' e1 e2 e3=>?_⟩,λy c' e=>?_,I.free,I.gZ,λp hp=>?_,tracked ⟨oc,hoc,I.gZ x c hc⟩ hs,by simpa using I.len⟩ ⟨c,hs,.inr hc⟩
  ·exact(hs.2 b (aa5 (aa3 (lt_size e) (I.ok.cab x c hfn hc)))).trans (I.base.keep b o e n hb hx)
  ·obtain⟨sl,e1⟩:=I.base.slot b o e n hb hx
   exact⟨sl,(hs.2 b (aa5 (aa3 (lt_size e) (I.ok.cab x c hfn hc)))).trans e1⟩
  ·obtain⟨o',e1⟩:=I.base.there b o e hx
   exact⟨o',(hs.2 b (aa5 (aa3 (lt_size e) (I.ok.cab x c hfn hc)))).trans e1⟩
  ·by_cases hj:j=i
   ·subst hj
    rw[hi] at e1;cases e1
    rw[List.getElem?_set_self Qx] at e2
    cases e2
    exact⟨u,r,.inr ⟨.inl hk,c,hc,hc'⟩⟩
   ·rw[List.getElem?_set_ne (ac2 hj)] at e2
    obtain⟨u',r',q⟩:=hl j y v' e1 e2 e3
    refine⟨u',r',?_⟩
    rcases q with q|⟨k,c',e,z'⟩
    ·exact .inl q
    ·refine .inr ⟨k,c',e,z'.sameBut hs ?_⟩
     rintro rfl
     exact hj (zL0 hN e1 (I.ok.inj _ _ _ e hc▸hi))
  ·by_cases hcc:c'=c
   ·subst hcc;exact⟨_,hc'⟩
   ·obtain⟨w2,z2⟩:=I.cell y c' e
    exact⟨w2,z2.sameBut hs hcc⟩
  ·obtain⟨e,n,ne,nf,d⟩:=I.pin p hp
   refine⟨(hs.2 p.1 ?_).trans e,n,ne,nf,d⟩
   intro q
   rw[q,hoc] at e
   have q':oc=p.2:=aa2 e
   exact d w' (by rw[<-q'];exact Xn)
theorem Xo{Q:Unit->Shared->Prop}(I:Inv X pins σ H s)(hN:X.N.Nodup)(hi:X.N[i]?=some x)(hx:Loc X.env.scope x)(r:RelV v u)(h:∀s',Inv X pins (σ.set i (some v)) H s'->Q () s')(hf:X.fn x=true\/X.env.scope.names.lookup x=some .local:=by first|exact .inl rfl|exact .inr rfl|assumption):wpAny M A (storeName X.env x u) Q E s :=
 zH8 I hN hi hx r (λs' I' _=>h s' I') hf
theorem Inv.call'{s':Shared}(I:Inv X pins σ H s)(ho:s'.os=s.os)(u:Un (frs X.stack) ch H H' s.heap s'.heap)(hok:gQ X.prog X.w H' s'.heap)(hg:AllBare s'.gens)(hch:∀b∈ch,(b∈X.ex\/X.s₀.heap.objs.size<=b)/\b≠X.env.locals/\(∀x c,X.env.cells.lookup x=some c->c≠b)/\∀p∈X.pn++pins,p.1≠b):Inv X pins σ H' s':=by
 obtain⟨h',g',d',t',o'⟩:=s'
 have e:o'=s.os:=ho
 subst e
 exact I.call (g':=g') (t':=t') (d':=d') u hok hg hch
end
abbrev XK:=Value->Option Addr->Hp->Prop
abbrev St:=List (Option V)
abbrev VK:=V->Hp->Prop
abbrev TE:=St->Hp->VK->Prop
abbrev TT:=St->Hp->(Bool->Hp->Prop)->Prop
abbrev TA:=St->Hp->(List V->Hp->Prop)->Prop
structure Ends where
 nx:St->Hp->Prop
 rt:VK
 bk:St->Hp->Prop:=λ_ _=>False
 ct:St->Hp->Prop:=λ_ _=>False
abbrev TS:=Ends->St->Hp->Prop
def EP(X:Cx)(pins:List (Addr×Obj))(σ:St)(Q:VK)(u:Value)(s':Shared):Prop:=∃v H',Inv X pins σ H' s'/\RelV v u/\Q v H'
def TP(X:Cx)(pins:List (Addr×Obj))(σ:St)(Q:Bool->Hp->Prop)(b:Bool)(s':Shared):Prop:=∃H',Inv X pins σ H' s'/\Q b H'
def AP(X:Cx)(pins:List (Addr×Obj))(σ:St)(Q:List V->Hp->Prop)(us:List Value)(s':Shared):Prop:=∃vs H',Inv X pins σ H' s'/\Vals vs us/\Q vs H'
def SP(X:Cx)(pins:List (Addr×Obj))(D:Ends)(f:Flow)(s':Shared):Prop :=
 match f with
 |.next=>∃σ' H',Inv X pins σ' H' s'/\D.nx σ' H'
 |.brk=>∃σ' H',Inv X pins σ' H' s'/\D.bk σ' H'
 |.cont=>∃σ' H',Inv X pins σ' H' s'/\D.ct σ' H'
 |.ret u=>∃v σ' H',Inv X pins σ' H' s'/\RelV v u/\D.rt v H'
def PE(X:Cx)(e:Expr)(t:TE):Prop :=
 ∀(pins:List (Addr×Obj))(s:Shared)(σ:St)(H:Hp)(Q:VK),Inv X pins σ H s->t σ H Q->wpAny (model X.prog X.w) X.A (eval e X.env) (EP X pins σ Q) X.xe s
def PT(X:Cx)(e:Expr)(t:TT):Prop :=
 ∀(pins:List (Addr×Obj))(s:Shared)(σ:St)(H:Hp)(Q:Bool->Hp->Prop),Inv X pins σ H s->t σ H Q->wpAny (model X.prog X.w) X.A (isTrue e X.env (eval e X.env)) (TP X pins σ Q) X.xe s
def PW(X:Cx)(e:Expr)(t:TT):Prop :=
 ∀(whole:Sem Value)(pins:List (Addr×Obj))(s:Shared)(σ:St)(H:Hp)(Q:Bool->Hp->Prop),Inv X pins σ H s->t σ H Q->wpAny (model X.prog X.w) X.A (isTrue e X.env whole) (TP X pins σ Q) X.xe s
theorem PW.pt(h:PW X e t):PT X e t:=h _
def PA(X:Cx)(es:List Expr)(t:TA):Prop :=
 ∀(pos:Pos)(pins:List (Addr×Obj))(s:Shared)(σ:St)(H:Hp)(Q:List V->Hp->Prop),Inv X pins σ H s->t σ H Q->wpAny (model X.prog X.w) X.A (spliced (backTo pos (starEach es X.env))) (AP X pins σ Q) X.xe s
def PS(X:Cx)(st:Stmt)(t:TS):Prop :=
 ∀(pins:List (Addr×Obj))(s:Shared)(σ:St)(H:Hp)(D:Ends),Inv X pins σ H s->t D σ H->wpAny (model X.prog X.w) X.A (exec st X.env) (SP X pins D) X.xe s
def qz(X:Cx)(st:List Stmt)(t:TS):Prop :=
 ∀(pins:List (Addr×Obj))(s:Shared)(σ:St)(H:Hp)(D:Ends),Inv X pins σ H s->t D σ H->wpAny (model X.prog X.w) X.A (execs st X.env) (SP X pins D) X.xe s
theorem aP{α:Type}{t:Sem α}{Q Q':α->Shared->Prop}(h:wpAny M A t Q E s)(hQ:∀a s,Q a s->Q' a s):wpAny M A t Q' E s:=aco h hQ λ_ _ x=>x
section
variable{X:Cx}
def bT(i:Nat):TE:=λσ H Q=>∃v,σ[i]?=some (some v)/\Q v H
def tC(v:V):TE:=λ_ H Q=>Q v H
theorem JG(hN:X.N[i]?=some x)(hv:Qv X.env.scope x)(hd:(x==("__debug__":Str))=false:=by decide)(hcd:(x==("__classdict__":Str))=false:=by decide):PE X (.Name x pos) (bT i):=by
 intro pins s σ H Q I h
 obtain⟨v,e,h⟩:=h
 obtain⟨m,hn,hl⟩:=I.loc
 obtain⟨u,r,l⟩:=hl i x v hN e hv
 have fin:EP X pins σ Q u s:=⟨v,H,I,r,h⟩
 rcases l with⟨hk,hm⟩|⟨hk,c,hc,hcell⟩
 ·exact wpAny_Name (wpAny_loadName_local I.ok.kind hk hn hm fin) hd
 ·rcases hk with hk|hk
  ·exact wpAny_Name (wpAny_loadName_cell I.ok.kind hk hc hcell fin) hd
  ·exact wpAny_Name (wpAny_loadName_free I.ok.kind hk hc hcell fin hcd) hd
theorem zK{i j pos}:PE X (.Constant (.int i) j pos) (tC (.int i)):=λ_ _ _ H _ I h=>wpAny_Constant_int ⟨.int i,H,I.tok _,⟨_,rfl⟩,h⟩
theorem zp{b j pos}:PE X (.Constant (.bool b) j pos) (tC (.bl b)):=λ_ _ _ H _ I h=>Constant_bool ⟨.bl b,H,I,rfl,h⟩
theorem zVu{j pos}:PE X (.Constant .none j pos) (tC .non):=λ_ _ _ H _ I h=>aft ⟨.non,H,I,rfl,h⟩
theorem yE{x j pos}:PE X (.Constant (.str x) j pos) (tC (.str x)):=λ_ _ _ H _ I h=>Calls.Constant_str ⟨.str x,H,I.tok _,⟨_,rfl⟩,h⟩
def Gl(X:Cx)(x:Str):Prop:=X.env.kindOf x=some .globalImplicit
theorem Qy{Q:Value->Shared->Prop}(I:Inv X pins σ H s)(hg:Gl X x)(hm:X.mg x=some u)(h:Q u s)(hd:(x==("__debug__":Str))=false:=by decide):wpAny (model X.prog X.w) X.A (eval (.Name x pos) X.env) Q E s :=
 Calls.Name_function_global I.ok.kind hg (Calls.loadGlobal_global (by rw[I.ok.glob];exact I.mod.glob.keeps I.bk) hm h) hd
theorem uc{Q:Value->Shared->Prop}(I:Inv X pins σ H s)(hg:Gl X x)(hm:X.mg x=none)(hv:bootBuiltins x=some u)(h:Q u s)(hn:x ≠ "__name__":=by decide)(hd:(x==("__debug__":Str))=false:=by decide):wpAny (model X.prog X.w) X.A (eval (.Name x pos) X.env) Q E s:=by
 obtain⟨mb,h1,h2⟩:=I.mod.blt
 exact Calls.Name_function_global I.ok.kind hg (Calls.loadGlobal_builtin (by rw[I.ok.glob];exact I.mod.glob.keeps I.bk) hm (by rw[I.ok.blt];exact h1.keeps I.bk) ((h2 x hn).trans hv) h) hd
theorem wH(hg:Gl X x)(hm:X.mg x=some u)(r:RelV v u)(hd:(x==("__debug__":Str))=false:=by decide):PE X (.Name x pos) (tC v) :=
 λ_ _ _ H _ I h=>Qy I hg hm ⟨v,H,I,r,h⟩ hd
theorem Qz(hg:Gl X x)(hm:X.mg x=none)(hv:bootBuiltins x=some u)(r:RelV v u)(hn:x ≠ "__name__":=by decide)(hd:(x==("__debug__":Str))=false:=by decide):PE X (.Name x pos) (tC v) :=
 λ_ _ _ H _ I h=>uc I hg hm hv ⟨v,H,I,r,h⟩ hn hd
variable{a b:Expr}{ta tb:TE}{pos:Pos}
def PC(X:Cx)(op:CmpOp)(a b:Expr)(t:TE):Prop :=
 ∀(pins:List (Addr×Obj))(s:Shared)(σ:St)(H:Hp)(Q:VK),Inv X pins σ H s->t σ H Q ->
  wpAny (model X.prog X.w) X.A (eval a X.env) (λv s₁=>wpAny (model X.prog X.w) X.A (eval b X.env) (λu s₂=>wpAny (model X.prog X.w) X.A (compareOp op v u) (EP X pins σ Q) X.xe s₂) X.xe s₁) X.xe s
theorem zT7(b:Expr)(h:op≠.In)(h2:op≠.NotIn):behindInMarks op b=false:=by
 have e1:(op==CmpOp.In)=false:=by cases op<;>first|rfl|exact absurd rfl h
 have e2:(op==CmpOp.NotIn)=false:=by cases op<;>first|rfl|exact absurd rfl h2
 cases b<;>simp[behindInMarks,e1,e2]
def QB(ta:TE):TE:=λσ H Q=>ta σ H λx H1=>Q (.bl (decide (x=.non))) H1
def Hs(ta:TE):TE:=λσ H Q=>ta σ H λx H1=>Q (.bl (!decide (x=.non))) H1
theorem RelV.qG(r:RelV x v):(v==ac4)=decide (x=.non):=by
 cases x with
 |non=>cases r;rfl
 |bl _=>cases r;rfl
 |int _=>obtain⟨t,rfl⟩:=r;rfl
 |str _=>obtain⟨t,rfl⟩:=r;rfl
 |rH _=>obtain⟨t,rfl⟩:=r;rfl
 |flt _=>obtain⟨t,rfl⟩:=r;rfl
 |ref _=>cases r;rfl
 |ty _=>cases r;rfl
theorem Vi{j pos'}(ha:PE X a ta):PC X .Is a (.Constant .none j pos') (QB ta):=by
 intro pins s σ H Q I h
 refine aP (ha pins s σ H _ I h) λv s1 ⟨x,H1,I1,r1,q1⟩=>?_
 exact aft (is_none_gen ⟨.bl _,H1,I1,by rw[r1.qG];rfl,q1⟩)
theorem Df{j pos'}(ha:PE X a ta):PC X .IsNot a (.Constant .none j pos') (Hs ta):=by
 intro pins s σ H Q I h
 refine aP (ha pins s σ H _ I h) λv s1 ⟨x,H1,I1,r1,q1⟩=>?_
 exact aft (isnot_none_gen ⟨.bl _,H1,I1,by rw[r1.qG];rfl,q1⟩)
def tB(t:TE):TT:=λσ H Q=>t σ H λx H1=>∃c,x=.bl c/\Q c H1
theorem Ht(h:PC X op a b t)(h1:behindInMarks op b=false:=by first|exact zT7 _ (by decide) (by decide)|rfl):PT X (.Compare a [op] [b] pos) (tB t):=by
 intro pins s σ H Q I hw
 refine wpAny_isTrue_Compare1 (aP (h pins s σ H _ I hw) λv s1 h1=>aP h1 λu s2 h2=>aP h2 λc s3 ⟨x,H1,I1,r1,q1⟩=>?_) h1
 obtain⟨d,rfl,q⟩:=q1
 cases r1
 exact acp ⟨H1,I1,q⟩
theorem wU(h:PE X e t)(he:∀whole,isTrue e X.env whole=(do let v <-whole;standAt e.pos;holding [v] (truthy v)):=by intro _;rfl):PT X e (tB t):=by
 intro pins s σ H Q I hw
 refine isTrue_plain (aP (h pins s σ H _ I hw) λv s1 ⟨x,H1,I1,r1,q1⟩=>?_) (he _)
 obtain⟨d,rfl,q⟩:=q1
 cases r1
 exact acp ⟨H1,I1,q⟩
variable{tA Vj:TT}{rest:List Expr}
def QC(t u:TT):TT:=λσ H Q=>t σ H λc H1=>if c=true then u σ H1 Q else Q false H1
def Xp(t u:TT):TT:=λσ H Q=>t σ H λc H1=>if c=true then Q true H1 else u σ H1 Q
def QD(t:TT):TT:=λσ H Q=>t σ H λc H1=>Q (!c) H1
theorem pw_and1(ha:PT X a tA):PW X (.BoolOp .And [a] pos) tA:=by
 intro wh pins s σ H Q I h
 refine isTrue_and (aP (ha pins s σ H Q I h) λc s1 e=>?_)
 cases c with
 |true=>exact isTrue_and_nil e
 |false=>exact e
theorem pw_or1(ha:PT X a tA):PW X (.BoolOp .Or [a] pos) tA:=by
 intro wh pins s σ H Q I h
 refine isTrue_or (aP (ha pins s σ H Q I h) λc s1 e=>?_)
 cases c with
 |false=>exact isTrue_or_nil e
 |true=>exact e
theorem pw_and(ha:PT X a tA)(hb:PW X (.BoolOp .And (b::rest) pos) Vj):PW X (.BoolOp .And (a::b::rest) pos) (QC tA Vj):=by
 intro wh pins s σ H Q I h
 refine isTrue_and (aP (ha pins s σ H _ I h) λc s1 ⟨H1,I1,q1⟩=>?_)
 cases c with
 |true=>exact hb wh pins s1 σ H1 Q I1 q1
 |false=>exact⟨H1,I1,q1⟩
theorem pw_or(ha:PT X a tA)(hb:PW X (.BoolOp .Or (b::rest) pos) Vj):PW X (.BoolOp .Or (a::b::rest) pos) (Xp tA Vj):=by
 intro wh pins s σ H Q I h
 refine isTrue_or (aP (ha pins s σ H _ I h) λc s1 ⟨H1,I1,q1⟩=>?_)
 cases c with
 |true=>exact⟨H1,I1,q1⟩
 |false=>exact hb wh pins s1 σ H1 Q I1 q1
theorem QF(ha:PT X a tA):PT X (.UnaryOp .Not a pos) (QD tA):=by
 intro pins s σ H Q I h
 exact isTrue_not (ha pins s σ H (λc H1=>Q (!c) H1) I h)
def Hu(ta tb:TE):TE:=λσ H Q=>ta σ H λx H1=>∃c,x=.bl c/\if c=true then tb σ H1 Q else Q (.bl false) H1
def Hv(ta:TE):TE:=λσ H Q=>ta σ H λx H1=>∃c,x=.bl c/\Q (.bl (!c)) H1
theorem zVt{op}(h:PE X a t):PE X (.BoolOp op [a] pos) t:=λpins s σ H Q I hw=>BoolOp_one (h pins s σ H Q I hw)
theorem Xq(ha:PE X a ta)(hb:PE X (.BoolOp .And (b::rest) pos) tb):PE X (.BoolOp .And (a::b::rest) pos) (Hu ta tb):=by
 intro pins s σ H Q I h
 refine BoolOp_and (aP (ha pins s σ H _ I h) λv s1 ⟨x,H1,I1,r1,q1⟩=>?_)
 obtain⟨c,rfl,q1⟩:=q1
 cases r1
 refine acp ?_
 cases c with
 |true=>exact hb pins s1 σ H1 Q I1 q1
 |false=>exact⟨.bl false,H1,I1,rfl,q1⟩
theorem JH(ha:PE X a ta):PE X (.UnaryOp .Not a pos) (Hv ta):=by
 intro pins s σ H Q I h
 refine UnaryOp_ (aP (ha pins s σ H _ I h) λv s1 ⟨x,H1,I1,r1,q1⟩=>?_)
 obtain⟨c,rfl,q1⟩:=q1
 cases r1
 exact not_of (acp ⟨.bl (!c),H1,I1,rfl,q1⟩)
def tIf(t:TT)(ta tb:TE):TE:=λσ H Q=>t σ H λc H1=>if c=true then ta σ H1 Q else tb σ H1 Q
theorem zLv(hc:PT X c tA)(ha:PE X a ta)(hb:PE X b tb):PE X (.IfExp c a b pos) (tIf tA ta tb):=by
 intro pins s σ H Q I h
 refine wpAny_IfExp (aP (hc pins s σ H _ I h) λd s1 ⟨H1,I1,q1⟩=>?_)
 cases d with
 |true=>exact ha pins s1 σ H1 Q I1 q1
 |false=>exact hb pins s1 σ H1 Q I1 q1
end
def aO(K:PySem.W.Frag)(H:Hp)(a:Addr)(xs:List V):Prop :=
 Rd H a (.lst xs) \/
  ∃(o:Obj)(its:Array Value)(n:Nat),K.lookup a=some o/\o.cls=.type "list" /\ o.dict=none/\o.data=.seq its n/\its.size<=sizeLine/\Vals xs its.toList
def cu(K:PySem.W.Frag)(H:Hp)(a:Addr)(xs:List V):Prop :=
 Rd H a (.tup xs) \/
  ∃(o:Obj)(its:Array Value)(n:Nat),K.lookup a=some o/\o.cls=.type "tuple" /\ o.data=.seq its n/\its.size<=sizeLine/\Vals xs its.toList
def Xr:Value->Option V
 |.none=>some .non
 |.bool b=>some (.bl b)
 |.int i _=>some (.int i)
 |.str x _=>some (.str x)
 |.bytes b _=>some (.rH b)
 |.float b _=>some (.flt b)
 |.ref a=>some (.ref a)
 |.type n=>some (.ty n)
 |_=>none
theorem RelV.abs(r:RelV x u):Xr u=some x:=by
 cases x with
 |non=>cases r;rfl
 |bl _=>cases r;rfl
 |int _=>obtain⟨t,rfl⟩:=r;rfl
 |str _=>obtain⟨t,rfl⟩:=r;rfl
 |rH _=>obtain⟨t,rfl⟩:=r;rfl
 |flt _=>obtain⟨t,rfl⟩:=r;rfl
 |ref _=>cases r;rfl
 |ty _=>cases r;rfl
theorem RelV.inj(r:RelV x u)(q:RelV y u):x=y:=aa2 (r.abs.symm.trans q.abs)
theorem Vals.inj:∀{xs ys:List V}{us:List Value},Vals xs us->Vals ys us->xs=ys
 |_,_,_,.nil,.nil=>rfl
 |_,_,_,.cons r t,.cons r' t'=>by rw[r.inj r',Vals.inj t t']
section
variable{X:Cx}{pins:List (Addr×Obj)}{σ:St}{H:Hp}{s:Shared}{a:Addr}{xs ys:List V}
theorem aO.of{K:PySem.W.Frag}(h:H a=some (.lst xs)):aO K H a xs:=.inl (.inl h)
theorem cu.of{K:PySem.W.Frag}(h:H a=some (.tup xs)):cu K H a xs:=.inl (.inl h)
theorem Inv.list(I:Inv X pins σ H s)(h:aO X.K H a xs):∃its:List Value,Vals xs its/\PlainL s.heap a its.toArray/\xs.length<=sizeLine:=by
 rcases h with h|⟨o,its,n,hk,hc,hd,hs,hz,r⟩
 ·obtain⟨z,its,n,r,e⟩:=h.ok I.hok
  exact⟨its,r,⟨_,n,e,rfl,rfl,rfl⟩,z⟩
 ·refine⟨its.toList,r,⟨o,n,I.jO a o hk,hc,hd,by simpa using hs⟩,?_⟩
  have e:=r.length
  simp only[length_toList] at e
  omega
theorem Inv.tuple(I:Inv X pins σ H s)(h:cu X.K H a xs):∃its:List Value,Vals xs its/\IsTup s.heap a its.toArray/\xs.length<=sizeLine:=by
 rcases h with h|⟨o,its,n,hk,hc,hs,hz,r⟩
 ·obtain⟨z,its,r,p⟩:=h.ok I.hok
  exact⟨its,r,p,z⟩
 ·refine⟨its.toList,r,⟨o,I.jO a o hk,hc,n,by simpa using hs⟩,?_⟩
  have e:=r.length
  simp only[length_toList] at e
  omega
theorem Inv.g8(I:Inv X pins σ H s)(h:aO X.K H a xs)(h':aO X.K H a ys):xs=ys:=by
 obtain⟨its,r,⟨o,n,e,_,_,d⟩,_⟩:=I.list h
 obtain⟨its',r',⟨o',n',e',_,_,d'⟩,_⟩:=I.list h'
 rw[e] at e';cases e'
 rw[d] at d'
 injection d' with d1 _
 have:its=its':=by simpa using congrArg Array.toList d1
 subst this
 exact r.inj r'
theorem Inv.ud(I:Inv X pins σ H s)(h:cu X.K H a xs)(h':cu X.K H a ys):xs=ys:=by
 obtain⟨its,r,⟨o,e,_,n,d⟩,_⟩:=I.tuple h
 obtain⟨its',r',⟨o',e',_,n',d'⟩,_⟩:=I.tuple h'
 rw[e] at e';cases e'
 rw[d] at d'
 injection d' with d1 _
 have:its=its':=by simpa using congrArg Array.toList d1
 subst this
 exact r.inj r'
end
abbrev Cx.wish(X:Cx)(E:Value->Shared->Prop):Cx:={ X with xe:=E }
abbrev Cx.Dg(X:Cx):Cx:=X.wish λ_ _=>False
theorem Cx.Ok.wish{X:Cx}(ok:X.Ok)(E:Value->Shared->Prop):(X.wish E).Ok :=
 ⟨ok.mod,ok.kind,ok.glob,ok.blt,ok.above,ok.inj,ok.has,ok.cab,ok.hd,ok.frames,ok.stk,ok.Vg,ok.bs,ok.Dd,ok.zf,ok.zj,ok.lQ,ok.JC⟩
theorem Cx.Ok.g_{X:Cx}(ok:(X.wish E).Ok):X.Ok :=
 ⟨ok.mod,ok.kind,ok.glob,ok.blt,ok.above,ok.inj,ok.has,ok.cab,ok.hd,ok.frames,ok.stk,ok.Vg,ok.bs,ok.Dd,ok.zf,ok.zj,ok.lQ,ok.JC⟩
section
variable{X:Cx}{pins:List (Addr×Obj)}{σ:St}{H:Hp}{s:Shared}{E:Value->Shared->Prop}
theorem Inv.wish(I:Inv X pins σ H s)(E:Value->Shared->Prop):Inv (X.wish E) pins σ H s:=⟨I.ok.wish E,I.os,I.bare,I.base,I.loc,I.cell,I.free,I.gZ,I.pin,I.hok,I.len⟩
theorem Inv.g_(I:Inv (X.wish E) pins σ H s):Inv X pins σ H s:=⟨I.ok.g_,I.os,I.bare,I.base,I.loc,I.cell,I.free,I.gZ,I.pin,I.hok,I.len⟩
theorem SP.g_(h:SP (X.wish E) pins D f s'):SP X pins D f s':=by
 cases f with
 |next=>obtain⟨σ',H',I,q⟩:=h;exact⟨σ',H',I.g_,q⟩
 |brk=>obtain⟨σ',H',I,q⟩:=h;exact⟨σ',H',I.g_,q⟩
 |cont=>obtain⟨σ',H',I,q⟩:=h;exact⟨σ',H',I.g_,q⟩
 |ret u=>obtain⟨v,σ',H',I,r,q⟩:=h;exact⟨v,σ',H',I.g_,r,q⟩
theorem qz.Dg{st:List Stmt}{t:TS}(h:qz X.Dg st t):qz X st t:=λpins s σ H D I hw =>
 aco (h pins s σ H D (I.wish _) hw) (λ_ _ q=>q.g_) λ_ _ z=>ab4 z
end
section
variable{X:Cx}{st:Stmt}{rest:List Stmt}{t u:TS}{e:Expr}{te:TE}{pos:Pos}
def JK:TS:=λD σ H=>D.nx σ H
def iZ(t u:TS):TS:=λD σ H=>t { D with nx:=u D } σ H
theorem zG:qz X [] JK:=λ_ _ σ H _ I h=>aey ⟨σ,H,I,h⟩
theorem zB(h1:PS X st t)(h2:qz X rest u):qz X (st::rest) (iZ t u):=by
 intro pins s σ H D I h
 refine wpAny_execs_cons (aP (h1 pins s σ H { D with nx:=u D } I h) λf s1 q=>?_)
 cases f with
 |next =>
  obtain⟨σ',H',I',q⟩:=q
  exact h2 pins s1 σ' H' D I' q
 |ret v=>exact q
 |brk=>exact q
 |cont=>exact q
theorem zX(h1:PS X st t):qz X [st] t:=by
 intro pins s σ H D I h
 refine wpAny_execs_cons (aP (h1 pins s σ H D I h) λf s1 q=>?_)
 cases f with
 |next=>exact aey q
 |ret v=>exact q
 |brk=>exact q
 |cont=>exact q
theorem Inv.quiet(I:Inv X pins σ H s):interactive X.env=false:=by simp[interactive,I.ok.kind]
def JL(te:TE):TS:=λD σ H=>te σ H λ_ H1=>D.nx σ H1
theorem yD(he:PE X e te)(hs:swapsWith e none pos.line X.env=pure false:=by rfl):PS X (.Expr e pos) (JL te):=by
 intro pins s σ H D I h
 exact wpAny_Expr_any (aP (he pins s σ H _ I h) λv s1 ⟨x,H1,I1,r1,q1⟩=>⟨σ,H1,I1,q1⟩) I.quiet hs
def rJ(te:TE):TS:=λD σ H=>te σ H D.rt
theorem zQ(he:PE X e te):PS X (.Return (some e) pos) (rJ te):=by
 intro pins s σ H D I h
 exact wpAny_Return_some (aP (he pins s σ H _ I h) λv s1 ⟨x,H1,I1,r1,q1⟩=>⟨x,σ,H1,I1,r1,q1⟩)
def uf(c:TT)(t u:TS):TS:=λD σ H=>c σ H λb H1=>if b=true then t D σ H1 else u D σ H1
theorem yT(hc:PT X c tc)(ha:qz X a t)(hb:qz X b u):PS X (.If c a b pos) (uf tc t u):=by
 intro pins s σ H D I h
 refine wpAny_If (aP (hc pins s σ H _ I h) λd s1 ⟨H1,I1,q1⟩=>?_)
 cases d with
 |true=>exact ha pins s1 σ H1 D I1 q1
 |false=>exact hb pins s1 σ H1 D I1 q1
def zVh:TS:=λ_ _ _=>False
theorem Oz:qz X sts zVh:=λ_ _ _ _ _ _ h=>h.elim
end
abbrev TG:=V->St->Hp->(St->Hp->Prop)->Prop
abbrev OD:=List V->St->Hp->(St->Hp->Prop)->Prop
def PG(X:Cx)(target:Expr)(t:TG):Prop :=
 ∀(pins:List (Addr×Obj))(s:Shared)(σ:St)(H:Hp)(v:V)(u:Value)(Q:St->Hp->Prop),Inv X pins σ H s->RelV v u->t v σ H Q ->
  wpAny (model X.prog X.w) X.A (assign target X.env u) (λ_ s'=>∃σ' H',Inv X pins σ' H' s'/\Q σ' H') X.xe s
def QG(X:Cx)(ts:List Expr)(t:OD):Prop :=
 ∀(pins:List (Addr×Obj))(s:Shared)(σ:St)(H:Hp)(vs:List V)(us:List Value)(Q:St->Hp->Prop),Inv X pins σ H s->Vals vs us->t vs σ H Q ->
  wpAny (model X.prog X.w) X.A (assignInOrder ((assignEach ts X.env).map (·.2)) us) (λ_ s'=>∃σ' H',Inv X pins σ' H' s'/\Q σ' H') X.xe s
abbrev JM:=V->V->V->Hp->(Hp->Prop)->Prop
def JN(X:Cx)(t:JM):Prop :=
 ∀(pins:List (Addr×Obj))(s:Shared)(σ:St)(H:Hp)(o i v:V)(ov iv u:Value)(Q:Hp->Prop),Inv X pins σ H s->RelV o ov->RelV i iv->RelV v u->t o i v H Q ->
  wpAny (model X.prog X.w) X.A (setItem ov iv u) (λ_ s'=>∃H',Inv X pins σ H' s'/\Q H') X.xe s
abbrev Vk:=V->V->Hp->VK->Prop
def Vl(X:Cx)(op:Operator)(t:Vk):Prop :=
 ∀(pins:List (Addr×Obj))(s:Shared)(σ:St)(H:Hp)(x y:V)(v u:Value)(Q:VK),Inv X pins σ H s->RelV x v->RelV y u->t x y H Q ->
  wpAny (model X.prog X.w) X.A (inplaceOp op v u) (EP X pins σ Q) X.xe s
section
variable{X:Cx}{pos:Pos}
def uV(i:Nat):TG:=λv σ H Q=>Q (σ.set i (some v)) H
theorem yS(hN:X.N.Nodup)(hi:X.N[i]?=some x)(hx:Loc X.env.scope x)(hf:X.fn x=true\/X.env.scope.names.lookup x=some .local:=by first|exact .inl rfl|exact .inr rfl|assumption):PG X (.Name x pos) (uV i):=by
 intro pins s σ H v u Q I r h
 exact wpAny_assign_Name (Xo I hN hi hx r (λs' I'=>⟨_,H,I',h⟩) hf)
def JQ:OD:=λvs σ H Q=>vs=[]/\Q σ H
def OJ(t:TG)(u:OD):OD:=λvs σ H Q=>∃v r,vs=v::r/\t v σ H λσ' H'=>u r σ' H' Q
theorem Dh:QG X [] JQ:=by
 intro pins s σ H vs us Q I r h
 obtain⟨e,h⟩:=h
 subst e
 cases r
 exact assignInOrder_nil ⟨σ,H,I,h⟩
theorem yV(h1:PG X e t)(h2:QG X es u)(hs:(assignEach (e::es) X.env).map (·.2)=assign e X.env::(assignEach es X.env).map (·.2):=by rfl):QG X (e::es) (OJ t u):=by
 intro pins s σ H vs us Q I r h
 obtain⟨v,vr,e1,h⟩:=h
 subst e1
 cases r with
 |cons r rr =>
  rw[hs]
  refine assignInOrder_cons (aP (h1 pins s σ H _ _ _ I r h) λ_ s1 ⟨σ1,H1,I1,q1⟩=>?_)
  exact h2 pins s1 σ1 H1 _ _ Q I1 rr q1
def Di(K:PySem.W.Frag)(n:Nat)(t:OD):TG:=λv σ H Q=>∃a xs,v=.ref a/\cu K H a xs/\xs.length=n/\t xs σ H Q
theorem Hw(hc:X.calm=true)(h:QG X es t)(hn:(assignEach es X.env).length=n:=by rfl)(hst:(assignEach es X.env).findIdx? (·.1)=none:=by rfl):PG X (.Tuple es k pos) (Di X.K n t):=by
 intro pins s σ H v u Q I r hw
 obtain⟨a,xs,e1,hq,hl,hw⟩:=hw
 subst e1
 cases r
 obtain⟨its,rv,ht,hz⟩:=I.tuple hq
 refine assign_Tuple_tuple (I.ok.hd hc) ht (by simp[hn,<-hl,rv.length]) hst λh' hx=>?_
 have I1:Inv X pins σ H { s with heap:=h' }:=I.kept (t':=s.toks) λb o e=>hx b o (aa5 (lt_size e)) e
 exact h pins _ σ H xs _ Q I1 (by simpa using rv) hw
def QH(to ti:TE)(t:JM):TG:=λv σ H Q=>to σ H λo H1=>ti σ H1 λi H2=>t o i v H2 λH3=>Q σ H3
theorem QJ(ho:PE X o to)(hi:PE X i ti)(hs:JN X t)(ha:∀v,assign (.Subscript o i pos) X.env v=(do
   let ov <-holding [v] (eval o X.env)
   let iv <-holding [v,ov] (eval i X.env)
   standAt pos
   holding [v,ov,iv] (setItem ov iv v)
   release [v,ov,iv] []):=by intro _;rfl):PG X (.Subscript o i pos) (QH to ti t):=by
 intro pins s σ H v u Q I r h
 rw[ha]
 refine aaw (abu (aP (ho pins s σ H _ I h) λov s1 ⟨x,H1,I1,r1,q1⟩=>?_))
 refine aaw (abu (aP (hi pins s1 σ H1 _ I1 q1) λiv s2 ⟨y,H2,I2,r2,q2⟩=>?_))
 refine aaw (afv (aaw (abu (aP (hs pins s2 σ H2 x y v ov iv u _ I2 r1 r2 r q2) λ_ s3 ⟨H3,I3,q3⟩=>?_))))
 exact wpAny_release ⟨σ,H3,I3,q3⟩
def lR(te:TE)(g:TG):TS:=λD σ H=>te σ H λx H1=>g x σ H1 D.nx
theorem O6(he:PE X e te)(hg:PG X tg g)(hs:swapsWithSole [tg] e pos.line X.env=pure false:=by rfl)(hw:swappedStores [tg] e X.env=pure none:=by rfl)(h1:(assignEach [tg] X.env).map (·.2)=[assign tg X.env]:=by rfl):PS X (.Assign [tg] e pos) (lR te g):=by
 intro pins s σ H D I h
 refine wpAny_Assign_stores (aP (he pins s σ H _ I h) λv s1 ⟨x,H1,I1,r1,q1⟩=>?_) hs hw
 rw[h1]
 exact aP (hg pins s1 σ H1 x v _ I1 r1 q1) λ_ s2 q=>q
theorem Dj(hN:X.N.Nodup)(hi:X.N[i]?=some x)(hx:Loc X.env.scope x)(he:PE X e te)(hs:swapsWith e (some (.Name x pos')) pos.line X.env=pure false:=by rfl)(hf:X.fn x=true\/X.env.scope.names.lookup x=some .local:=by first|exact .inl rfl|exact .inr rfl|assumption) :
  PS X (.Assign [.Name x pos'] e pos) (lR te (uV i)):=by
 intro pins s σ H D I h
 refine wpAny_Assign_Name (aP (he pins s σ H _ I h) λv s1 ⟨y,H1,I1,r1,q1⟩=>?_) hs
 exact Xo I1 hN hi hx r1 (λs2 I2=>⟨_,H1,I2,q1⟩) hf
def QK(i:Nat)(te:TE)(ti:Vk):TS:=λD σ H=>∃x,σ[i]?=some (some x)/\te σ H λy H1=>ti x y H1 λz H2=>D.nx (σ.set i (some z)) H2
theorem zVs(hN:X.N.Nodup)(hi:X.N[i]?=some x)(hx:Loc X.env.scope x)(he:PE X e te)(ho:Vl X op ti)(hf:X.fn x=true\/X.env.scope.names.lookup x=some .local:=by first|exact .inl rfl|exact .inr rfl|assumption) :
  PS X (.AugAssign (.Name x pos') op e pos) (QK i te ti):=by
 intro pins s σ H D I h
 obtain⟨v,e1,h⟩:=h
 obtain⟨m,hn,hl⟩:=I.loc
 have vis:Qv X.env.scope x:=by rcases hx with k|k;exact .inl k;exact .inr (.inl k)
 obtain⟨u,r,l⟩:=hl i x v hi e1 vis
 refine wpAny_AugAssign_Name ?_
 have go:wpAny (model X.prog X.w) X.A (eval e X.env) (λw s₂=>wpAny (model X.prog X.w) X.A (inplaceOp op u w) (λr s₃=>wpAny (model X.prog X.w) X.A (storeName X.env x r) (λ_=>SP X pins D .next) X.xe s₃) X.xe s₂) X.xe s:=by
  refine aP (he pins s σ H _ I h) λw s1 ⟨y,H1,I1,r1,q1⟩=>?_
  refine aP (ho pins s1 σ H1 v y u w _ I1 r r1 q1) λz s2 ⟨zv,H2,I2,r2,q2⟩=>?_
  exact Xo I2 hN hi hx r2 (λs3 I3=>⟨_,H2,I3,q2⟩) hf
 rcases l with⟨hk,hm⟩|⟨hk,c,hc,hcell⟩
 ·exact wpAny_loadName_local I.ok.kind hk hn hm go
 ·rcases hk with hk|hk
  ·exact wpAny_loadName_cell I.ok.kind hk hc hcell go
  ·rcases hx with k|k
   ·have:X.env.scope.names.lookup x=some .free:=hk
    rw[k] at this;cases this
   ·have:X.env.scope.names.lookup x=some .free:=hk
    rw[k] at this;cases this
def Hx(to ti te:TE)(JR:V->V->Hp->VK->Prop)(Xu:Vk)(JT:JM):TS:=λD σ H=>to σ H λo H1=>ti σ H1 λi H2=>JR o i H2 λx H3=>te σ H3 λy H4=>Xu x y H4 λz H5=>JT o i z H5 λH6=>D.nx σ H6
def QL(X:Cx)(t:V->V->Hp->VK->Prop):Prop :=
 ∀(pins:List (Addr×Obj))(s:Shared)(σ:St)(H:Hp)(o i:V)(ov iv:Value)(Q:VK),Inv X pins σ H s->RelV o ov->RelV i iv->t o i H Q ->
  wpAny (model X.prog X.w) X.A (getItem ov iv) (EP X pins σ Q) X.xe s
theorem Dk(ho:PE X o to)(hi:PE X i ti)(hg:QL X JR)(he:PE X e te)(hp:Vl X op Xu)(hs:JN X JT)(ha:∀ov iv new,augStore i ov iv new=(do holding [new,ov,iv] (setItem ov iv new);release [new,ov,iv] [];pure .next):=by intros;rfl):PS X (.AugAssign (.Subscript o i tpos) op e pos) (Hx to ti te JR Xu JT):=by
 intro pins s σ H D I h
 refine wpAny_AugAssign_SubscriptAny (aP (ho pins s σ H _ I h) λov s1 ⟨x1,H1,I1,r1,q1⟩=>?_) ha
 refine aP (hi pins s1 σ H1 _ I1 q1) λiv s2 ⟨x2,H2,I2,r2,q2⟩=>?_
 refine aP (hg pins s2 σ H2 x1 x2 ov iv _ I2 r1 r2 q2) λold s3 ⟨x3,H3,I3,r3,q3⟩=>?_
 refine aP (he pins s3 σ H3 _ I3 q3) λv s4 ⟨x4,H4,I4,r4,q4⟩=>?_
 refine aP (hp pins s4 σ H4 x3 x4 old v _ I4 r3 r4 q4) λnew s5 ⟨x5,H5,I5,r5,q5⟩=>?_
 exact aP (hs pins s5 σ H5 x1 x2 x5 ov iv new _ I5 r1 r2 r5 q5) λ_ s6 ⟨H6,I6,q6⟩=>⟨σ,H6,I6,q6⟩
def Vm(f:Int->Int->Int):Vk:=λx y H Q=>∃i j,x=.int i/\y=.int j/\Q (.int (f i j)) H
theorem JV:Vl X .Add (Vm λi j=>i+j):=by
 intro pins s σ H x y v u Q I r1 r2 h
 obtain⟨i,j,e1,e2,q⟩:=h
 subst e1;subst e2
 obtain⟨t,rfl⟩:=r1
 obtain⟨t',rfl⟩:=r2
 exact iadd_int ⟨.int _,H,I.tok _,⟨_,rfl⟩,q⟩
end
section
variable{X:Cx}{pos:Pos}
def zVg(c:TT)(tb:TS):TS:=λD σ H=>∃W:Nat->St->Hp->Prop,(∃m,W m σ H)/\∀m σ H,W m σ H ->
 c σ H λb H1=>if b=true then∃N:St->Hp->Prop,(∀σ' H',N σ' H'->∃m',m'<m/\W m' σ' H')/\tb { D with nx:=N,ct:=N,bk:=D.nx } σ H1 else D.nx σ H1
theorem zTt(hp:PassesOwn (model X.prog X.w) X.A X.env X.xe)(hc:PT X c tc)(hb:qz X body tb):PS X (.While c body [] pos) (zVg tc tb):=by
 intro pins s σ H D I h
 obtain⟨W,⟨m0,w0⟩,turn⟩:=h
 refine wpAny_While (codeAny_whileLoop (λn s'=>∃σ' H',Inv X pins σ' H' s'/\W n σ' H') ?_ m0 ⟨σ,H,I,w0⟩)
 rintro n s1 ⟨σ1,H1,I1,w1⟩
 refine ac8 hp (aP (hc pins s1 σ1 H1 _ I1 (turn n σ1 H1 w1)) λb s2 ⟨H2,I2,q2⟩=>?_)
 cases b with
 |true =>
  obtain⟨N,hN,q2⟩:=q2
  rw[if_pos rfl]
  refine ac8 hp (aP (hb pins s2 σ1 H2 _ I2 q2) λf s3 q3=>?_)
  cases f with
  |next =>
   obtain⟨σ3,H3,I3,n3⟩:=q3
   obtain⟨m',hm,w3⟩:=hN σ3 H3 n3
   exact⟨m',hm,σ3,H3,I3,w3⟩
  |cont =>
   obtain⟨σ3,H3,I3,n3⟩:=q3
   obtain⟨m',hm,w3⟩:=hN σ3 H3 n3
   exact⟨m',hm,σ3,H3,I3,w3⟩
  |brk=>exact q3
  |ret v=>exact q3
 |false =>
  rw[if_neg aay]
  exact aey ⟨σ1,H2,I2,q2⟩
end
structure It where
 go:Nat->Hp->Prop
 JW:Nat->Hp->V->Hp->Prop
 stop:Nat->Hp->Prop
def kE(X:Cx)(pins:List (Addr×Obj))(H:Hp)(b:Addr):Prop :=
 H b=none/\b≠X.env.locals/\b∉X.fs/\(b∈X.ex\/X.s₀.heap.objs.size<=b)/\(∀x c,X.env.cells.lookup x=some c->c≠b)/\∀p∈X.pn++pins,p.1≠b
theorem Inv.jQ(I:Inv X pins σ H s)(hb:s.heap.objs.size<=b)(hn:H' b=none):kE X pins H' b:=by
 refine⟨hn,adn (aa3 I.lt hb),I.JD hb,.inr (aa8 I.sz hb),λx c e z=>?_,λp hp z=>?_⟩
 ·obtain⟨v,q⟩:=I.cell x c e
  exact absurd (aa3 q.lt (by rw[z];exact hb)) (ab2 _)
 ·exact absurd (aa3 (lt_size (I.pin p hp).1) (by rw[z];exact hb)) (ab2 _)
structure Turn(P:Program)(w:World)(K:PySem.W.Frag)(tg:Expr)(J:It)(fp:List Addr)(it:Addr)(tn:Nat->Heap->Prop):Prop where
 mem:it∈fp
 obj:∀i h,tn i h->∀b∈fp,∃o,h.get? b=some o/\∀v,o.data≠.cell v
 keep:∀i h h',tn i h->(∀b∈fp,∀o,h.get? b=some o->h'.get? b=some o)->tn i h'
 item:∀(X:Cx),X.prog=P->X.w=w->X.K=K->X.calm=true->∀(i:Nat)(pins:List (Addr×Obj))(s:Shared)(σ:St)(H:Hp)(E:Value->Shared->Prop),Inv X pins σ H s->(∀b∈fp,kE X pins H b)->tn i s.heap->J.go i H ->
  wpAny (model P w) X.A (pyNext (.ref it)) (λr s1=>∃u,r=some u /\
   wpAny (model P w) X.A (letOwnedTupleGo tg (.ref it) u) (λ_ s2=>∃x H',Inv X pins σ H' s2/\RelV x u/\J.JW i H x H'/\tn (i+1) s2.heap/\∀b∈fp,H' b=none) E s1) E s
 done:∀(X:Cx),X.prog=P->X.w=w->X.K=K->X.calm=true->∀(i:Nat)(pins:List (Addr×Obj))(s:Shared)(σ:St)(H:Hp)(E:Value->Shared->Prop),Inv X pins σ H s->(∀b∈fp,kE X pins H b)->tn i s.heap->J.stop i H ->
  wpAny (model P w) X.A (pyNext (.ref it)) (λr s1=>r=none/\Inv X pins σ H s1) E s
 self:∀(A:Around)(i:Nat)(s:Shared)(Q:Value->Shared->Prop)(E:Value->Shared->Prop),tn i s.heap->Q (.ref it) s->wpAny (model P w) A (pyIter (.ref it)) Q E s
abbrev TI:=St->Hp->(It->Hp->Prop)->Prop
def PIE(X:Cx)(pins:List (Addr×Obj))(σ:St)(tg:Expr)(R:It->Hp->Prop)(itv:Value)(s2:Shared):Prop :=
 ∃(it:Addr)(fp:List Addr)(tn:Nat->Heap->Prop)(J:It)(H':Hp),itv=.ref it/\Inv X pins σ H' s2/\Turn X.prog X.w X.K tg J fp it tn/\tn 0 s2.heap/\(∀b∈fp,kE X pins H' b)/\R J H'
def PI(X:Cx)(tg iter:Expr)(wi:TI):Prop :=
 ∀(pins:List (Addr×Obj))(s:Shared)(σ:St)(H:Hp)(R:It->Hp->Prop),Inv X pins σ H s->wi σ H R ->
  wpAny (model X.prog X.w) X.A (eval iter X.env) (λv s1=>wpAny (model X.prog X.w) X.A (pyIter v) (PIE X pins σ tg R) X.xe s1) X.xe s
theorem JX{s:Shared}{Q:Unit->Shared->Prop}(ho:s.heap.get? it=some o)(hc:o.cls=.type n)(hd:o.data=.fields vs)(hn:["enumerate","zip","dict_itemiterator","dict_reverseitemiterator","odict_iterator","itertools.zip_longest","itertools.pairwise"].contains n=false)(hQ:Q () s):wpAny M A (letOwnedTupleGo tg (.ref it) u) Q E s:=by
 unfold letOwnedTupleGo
 cases tg<;>first
  |exact aax hQ
  | (cases u<;>first
    |exact aax hQ
    | (refine aaw (wpAny_load ho ?_)
       rw[hc,hd]
       show wpAny M A (if(["enumerate","zip","dict_itemiterator","dict_reverseitemiterator","odict_iterator","itertools.zip_longest","itertools.pairwise"].contains n&&vs[0]?==some (rawInt _))=true then _ else _) Q E s
       rw[if_neg (by intro h;rw[hn,Bool.false_and] at h;cases h)]
       exact aax hQ))
def O7(K:PySem.W.Frag)(a:Addr):It :=
 ⟨λi H=>∃xs x,aO K H a xs/\xs[i]?=some x,λi H x H'=>H'=H/\∀xs,aO K H a xs->xs[i]?=some x,λi H=>∃xs,aO K H a xs/\xs.length<=i⟩
def JZ(K:PySem.W.Frag)(a:Addr):It :=
 ⟨λi H=>∃xs x,cu K H a xs/\xs[i]?=some x,λi H x H'=>H'=H/\∀xs,cu K H a xs->xs[i]?=some x,λi H=>∃xs,cu K H a xs/\xs.length<=i⟩
def Xv(lo:Int)(n:Nat):It:=⟨λi _=>i<n,λi H x H'=>H'=H/\x=.int (lo+i),λi _=>n<=i⟩
theorem zO1{P:Program}{w:World}{K:PySem.W.Frag}{tg:Expr}(a it:Addr):Turn P w K tg (O7 K a) [it] it (λi h=>h.IsListIter it a i) where
 mem:=by simp
 obj:=λi h st b hb=>by
  have e:b=it:=by simpa using hb
  subst e
  obtain⟨o,e,c,d⟩:=st
  exact⟨o,e,λv z=>by rw[d] at z;cases z⟩
 keep:=λi h h' st k=>st.at λo e=>k it (by simp) o e
 item:=by
  intro X hP hw hK hc i pins s σ H E I hf st hg
  subst hP hw hK
  obtain⟨xs,x,hq,hx⟩:=hg
  obtain⟨its,rv,p,hz⟩:=I.list hq
  obtain⟨u,hu,ru⟩:=rv.get hx
  obtain⟨f0,f1,f2,f3,f4,f5⟩:=hf it (by simp)
  refine wpAny_pyNext_list_item st p.isList (x:=u) (by simpa using hu) λh' st' sb=>?_
  have I1:Inv X pins σ H { s with heap:=h' }:=I.turned (t':=s.toks) (λb o hb e=>(sb.2 b hb).trans e) f0 f1 f3 f4 f5
  obtain⟨o,e,c,d⟩:=id st'
  exact⟨u,rfl,JX (s:={ s with heap:=h' }) e c d (by decide) ⟨x,H,I1,ru,⟨rfl,λys hy=>by rw[I.g8 hy hq];exact hx⟩,st',λb hb=>(hf b hb).1⟩⟩
 done:=by
  intro X hP hw hK hc i pins s σ H E I hf st hg
  subst hP hw hK
  obtain⟨xs,hq,hx⟩:=hg
  obtain⟨its,rv,p,hz⟩:=I.list hq
  obtain⟨f0,f1,f2,f3,f4,f5⟩:=hf it (by simp)
  have hl:=rv.length
  exact wpAny_pyNext_list_end (I.ok.hd hc) st p.isList (by simp;omega) λh' eb=>⟨rfl,I.turned (t':=s.toks) (λb o hb e=>eb b o hb e) f0 f1 f3 f4 f5⟩
 self:=λ_ _ _ _ _ st h=>wpAny_pyIter_listiter st h
theorem zM8{P:Program}{w:World}{K:PySem.W.Frag}{tg:Expr}(a it:Addr):Turn P w K tg (JZ K a) [it] it (λi h=>h.IsTupleIter it a i) where
 mem:=by simp
 obj:=λi h st b hb=>by
  have e:b=it:=by simpa using hb
  subst e
  obtain⟨o,e,c,d⟩:=st
  exact⟨o,e,λv z=>by rw[d] at z;cases z⟩
 keep:=λi h h' st k=>st.at λo e=>k it (by simp) o e
 item:=by
  intro X hP hw hK hc i pins s σ H E I hf st hg
  subst hP hw hK
  obtain⟨xs,x,hq,hx⟩:=hg
  obtain⟨its,rv,p,hz⟩:=I.tuple hq
  obtain⟨u,hu,ru⟩:=rv.get hx
  obtain⟨f0,f1,f2,f3,f4,f5⟩:=hf it (by simp)
  refine wpAny_pyNext_tuple_item st (show s.heap.IsTuple a its.toArray from p) (x:=u) (by simpa using hu) λh' st' sb=>?_
  have I1:Inv X pins σ H { s with heap:=h' }:=I.turned (t':=s.toks) (λb o hb e=>(sb.2 b hb).trans e) f0 f1 f3 f4 f5
  obtain⟨o,e,c,d⟩:=id st'
  exact⟨u,rfl,JX (s:={ s with heap:=h' }) e c d (by decide) ⟨x,H,I1,ru,⟨rfl,λys hy=>by rw[I.ud hy hq];exact hx⟩,st',λb hb=>(hf b hb).1⟩⟩
 done:=by
  intro X hP hw hK hc i pins s σ H E I hf st hg
  subst hP hw hK
  obtain⟨xs,hq,hx⟩:=hg
  obtain⟨its,rv,p,hz⟩:=I.tuple hq
  obtain⟨f0,f1,f2,f3,f4,f5⟩:=hf it (by simp)
  have hl:=rv.length
  exact wpAny_pyNext_tuple_end (I.ok.hd hc) st (show s.heap.IsTuple a its.toArray from p) (by simp;omega) λh' eb=>⟨rfl,I.turned (t':=s.toks) (λb o hb e=>eb b o hb e) f0 f1 f3 f4 f5⟩
 self:=λ_ _ _ _ _ st h=>wpAny_pyIter_tupleiter st h
theorem zM9{P:Program}{w:World}{K:PySem.W.Frag}{tg:Expr}(it:Addr)(lo:Int)(n:Nat):Turn P w K tg (Xv lo n) [it] it (λi h=>IsRangeIter h it (lo+(i:Nat)*1) ((n:Int)-(i:Nat)) 1) where
 mem:=by simp
 obj:=λi h st b hb=>by
  have e:b=it:=by simpa using hb
  subst e
  exact⟨_,st,λv z=>by
   have z':ae1 _=afb v:=z
   cases z'⟩
 keep:=λi h h' st k=>k it (by simp) _ st
 item:=by
  intro X hP hw hK hc i pins s σ H E I hf st hg
  subst hP hw hK
  obtain⟨f0,f1,f2,f3,f4,f5⟩:=hf it (by simp)
  have W:=Walks.range (prog:=X.prog) (w:=X.w) (I.ok.hd hc) it lo 1 n
  refine W.item i s _ _ hg st λv h' tk hv st' kk=>?_
  obtain⟨t,rfl⟩:=hv
  have I1:Inv X pins σ H { s with heap:=h',toks:=tk }:=I.turned (λb o hb e=>kk b o (by simpa using hb) e) f0 f1 f3 f4 f5
  refine⟨_,rfl,JX (s:={ s with heap:=h',toks:=tk }) (n:="range_iterator") st' rfl rfl (by decide) ⟨.int (lo+i),H,I1,⟨t,?_⟩,⟨rfl,rfl⟩,st',λb hb=>(hf b hb).1⟩⟩
  rw[Int.mul_one]
 done:=by
  intro X hP hw hK hc i pins s σ H E I hf st hg
  subst hP hw hK
  obtain⟨f0,f1,f2,f3,f4,f5⟩:=hf it (by simp)
  exact wpAny_pyNext_range_end (I.ok.hd hc) st (by have:n<=i:=hg;omega) λh' eb=>⟨rfl,I.turned (t':=s.toks) (λb o hb e=>eb b o hb e) f0 f1 f3 f4 f5⟩
 self:=λ_ _ _ _ _ st h=>aep st h
section
variable{X:Cx}{tg:Expr}
def zq(K:PySem.W.Frag)(tl:TE):TI:=λσ H R=>tl σ H λx H1=>∃a,x=.ref a/\(∃xs,aO K H1 a xs)/\R (O7 K a) H1
def J0(K:PySem.W.Frag)(tl:TE):TI:=λσ H R=>tl σ H λx H1=>∃a,x=.ref a/\(∃xs,cu K H1 a xs)/\R (JZ K a) H1
theorem Xw(hl:PE X l tl):PI X tg l (zq X.K tl):=by
 intro pins s σ H R I h
 refine aP (hl pins s σ H _ I h) λv s1 ⟨x,H1,I1,r1,q1⟩=>?_
 obtain⟨a,e,⟨xs,hq⟩,q⟩:=q1
 subst e
 cases r1
 obtain⟨its,rv,p,hz⟩:=I1.list hq
 refine aeo p.isList ?_
 refine⟨s1.heap.objs.size,[s1.heap.objs.size],_,_,H1,rfl,I1.kept (t':=s1.toks) λb o e=>get?_push_of_some _ e,zO1 a _,⟨_,get?_push_size _ rfl,rfl,rfl⟩,λb hb=>?_,q⟩
 have e:b=s1.heap.objs.size:=by simpa using hb
 subst e
 exact I1.jQ (aa0 _) (I1.hok.fresh (aa0 _))
theorem Xx(hl:PE X l tl):PI X tg l (J0 X.K tl):=by
 intro pins s σ H R I h
 refine aP (hl pins s σ H _ I h) λv s1 ⟨x,H1,I1,r1,q1⟩=>?_
 obtain⟨a,e,⟨xs,hq⟩,q⟩:=q1
 subst e
 cases r1
 obtain⟨its,rv,p,hz⟩:=I1.tuple hq
 refine wpAny_pyIter_tuple (show s1.heap.IsTuple a its.toArray from p) ?_
 refine⟨s1.heap.objs.size,[s1.heap.objs.size],_,_,H1,rfl,I1.kept (t':=s1.toks) λb o e=>get?_push_of_some _ e,zM8 a _,⟨_,get?_push_size _ rfl,rfl,rfl⟩,λb hb=>?_,q⟩
 have e:b=s1.heap.objs.size:=by simpa using hb
 subst e
 exact I1.jQ (aa0 _) (I1.hok.fresh (aa0 _))
theorem zTr{pins:List (Addr×Obj)}{σ:St}{H:Hp}{s:Shared}{R:It->Hp->Prop}{E:Value->Shared->Prop}{lo hi:Int}{t u v:Tok}{tk:Nat}(I:Inv X pins σ H s)(h1:-(2^62)<=lo)(h2:lo<2^62)(h3:-(2^62)<=hi)(h4:hi<2^62)(q:R (Xv lo (hi-lo).toNat) H):wpAny (model X.prog X.w) X.A (pyIter (.ref s.heap.objs.size)) (PIE X pins σ tg R) E { s with heap:=s.heap.push { cls:=.type "range",data:=.fields #[.int lo t,.int hi u,.int 1 v] },toks:=tk }:=by
 refine wpAny_pyIter_range (af9 ..) (small_one h1 h2 h3 h4) ?_
 have I1:Inv X pins σ H { s with heap:=s.heap.push { cls:=.type "range",data:=.fields #[.int lo t,.int hi u,.int 1 v] },toks:=tk }:=I.kept λb o e=>get?_push_of_some _ e
 refine⟨(s.heap.push { cls:=.type "range",data:=.fields #[.int lo t,.int hi u,.int 1 v] }).objs.size,[(s.heap.push { cls:=.type "range",data:=.fields #[.int lo t,.int hi u,.int 1 v] }).objs.size],_,_,H,rfl,
  I1.kept (t':=tk) λb o e=>get?_push_of_some _ e,zM9 _ lo (hi-lo).toNat,?_,λb hb=>?_,q⟩
 ·have e1:lo+((0:Nat):Int)*1=lo:=by simp
  have e2:(((hi-lo).toNat:Nat):Int)-((0:Nat):Int)=aa4 lo hi 1:=by rw[rangeSize_one];split<;>omega
  show IsRangeIter _ _ (lo+((0:Nat):Int)*1) ((((hi-lo).toNat:Nat):Int)-((0:Nat):Int)) 1
  rw[e1,e2]
  exact get?_push_size _ rfl
 ·have e:b=(s.heap.push { cls:=.type "range",data:=.fields #[.int lo t,.int hi u,.int 1 v] }).objs.size:=by simpa using hb
  subst e
  exact I1.jQ (aa0 _) (I1.hok.fresh (aa0 _))
def Hy(ta:TA):TI:=λσ H R=>ta σ H λvs H1=>∃j:Int,vs=[.int j] /\ -(2^62)<=j/\j<2^62/\R (Xv 0 j.toNat) H1
theorem wW(hg:Gl X "range")(hm:X.mg "range" = none)(ha:PA X [a] ta)(hs:starEach [a] X.env=[(false,eval a X.env)]:=by rfl):PI X tg (.Call (.Name "range" p) [a] [] pos) (Hy ta):=by
 intro pins s σ H R I h
 refine Call_ (uc I hg hm boot_range (abk (aP (ha pos pins s σ H _ I h) λus s1 ⟨vs,H1,I1,r1,q1⟩=>?_) hs rfl))
 obtain⟨j,e,q1,q2,q⟩:=q1
 subst e
 cases r1 with
 |cons r rr =>
  cases rr
  obtain⟨t,rfl⟩:=r
  exact af5 (zTr I1 (by omega) (by omega) q1 q2 (by simpa using q))
def J2(wi:TI)(g:TG)(tb:TS):TS:=λD σ H=>wi σ H λJ H1=>∃W:Nat->Nat->St->Hp->Prop,(∃m,W 0 m σ H1)/\∀i m σ H,W i m σ H ->
 (J.stop i H/\D.nx σ H)\/(J.go i H/\∃N:St->Hp->Prop,(∀σ' H',N σ' H'->∃m',m'<m/\W (i+1) m' σ' H')/\∀x H',J.JW i H x H'->g x σ H' λσ2 H2=>tb { D with nx:=N,ct:=N,bk:=D.nx } σ2 H2)
def Hz(fp:List Addr)(h:Heap):List (Addr×Obj):=fp.filterMap λb=>(h.get? b).map λo=>(b,o)
theorem vJ{h:Heap}(hb:b∈fp)(e:h.get? b=some o):(b,o)∈Hz fp h:=List.mem_filterMap.mpr ⟨b,hb,by rw[e];rfl⟩
theorem zQo(hp:p∈Hz fp h):p.1∈fp/\h.get? p.1=some p.2:=by
 obtain⟨b,hb,e⟩:=List.mem_filterMap.mp hp
 cases q:h.get? b with
 |none=>rw[q] at e;cases e
 |some o =>
  rw[q] at e
  have e':(b,o)=p:=aa2 e
  subst e'
  exact⟨hb,q⟩
theorem Inv.pinned(I:Inv X pins σ H s)(hf:∀b∈fp,kE X pins H b)(ho:∀b∈fp,∃o,s.heap.get? b=some o/\∀v,o.data≠.cell v):Inv X (pins++Hz fp s.heap) σ H s :=
 I.jP λp hp=>(mem_append.mp hp).elim (λz=>I.pin p (mem_append_right _ z)) λz=>by
  obtain⟨hb,e⟩:=zQo z
  obtain⟨f0,f1,f2,_⟩:=hf p.1 hb
  obtain⟨o,e',d⟩:=ho p.1 hb
  rw[e] at e';cases e'
  exact⟨e,f0,f1,f2,d⟩
theorem Inv.fU(I:Inv X (pins++pl) σ H s):Inv X pins σ H s:=I.jP λp hp=>I.pin p (mem_append_right _ (mem_append_left _ hp))
theorem xQ(hp:PassesOwn (model X.prog X.w) X.A X.env X.xe)(hc:X.calm=true)(hi:PI X tg iter wi)(hg:PG X tg g)(hb:qz X body tb)(hs:∀x,foldedSetIterable iter X.env x=pure x:=by intro _;rfl):PS X (.For tg iter body [] pos) (J2 wi g tb):=by
 intro pins s σ H D I h
 refine wpAny_For (aP (hi pins s σ H _ I h) λv s1 h1=>aP h1 λitv s2 h2=>?_) hs
 obtain⟨it,fp,tn,J,H2,e,I2,T,st2,f2,W,⟨m0,w0⟩,turn⟩:=h2
 subst e
 have stat:∀{H':Hp},(∀b∈fp,H' b=none)->∀b∈fp,kE X pins H' b:=λhn b hb=>⟨hn b hb,(f2 b hb).2⟩
 refine codeAny_forLoop_any (λn s'=>∃i σ' H',Inv X pins σ' H' s'/\tn i s'.heap/\(∀b∈fp,H' b=none)/\W i n σ' H') ?_ m0 ⟨0,σ,H2,I2,st2,λb hb=>(f2 b hb).1,w0⟩
 rintro n s3 ⟨i,σ3,H3,I3,st3,Vn,w3⟩
 rcases turn i n σ3 H3 w3 with⟨stop,qn⟩|⟨go,N,hN,step⟩
 ·refine ac8 hp (aP (T.done X rfl rfl rfl hc i pins s3 σ3 H3 X.xe I3 (stat Vn) st3 stop) λr s4 ⟨hr,I4⟩=>?_)
  subst hr
  exact aey ⟨σ3,H3,I4,qn⟩
 ·refine ac8 hp (aP (T.item X rfl rfl rfl hc i pins s3 σ3 H3 X.xe I3 (stat Vn) st3 go) λr s4 ⟨u,hr,h4⟩=>?_)
  subst hr
  refine ac8 hp (aP h4 λ_ s5 ⟨x,H5,I5,r5,y5,Xy,fr5⟩=>?_)
  have I5':=I5.pinned (stat fr5) (T.obj _ _ Xy)
  refine ac8 hp (aP (hg _ s5 σ3 H5 x u _ I5' r5 (step x H5 y5)) λ_ s6 ⟨σ6,H6,I6,q6⟩=>?_)
  refine ac8 hp (aP (hb _ s6 σ6 H6 _ I6 q6) λf s7 q7=>?_)
  have again:∀{σ7:St}{H7:Hp},Inv X (pins++Hz fp s5.heap) σ7 H7 s7->N σ7 H7->∃m,m<n/\∃i σ' H',Inv X pins σ' H' s7/\tn i s7.heap/\(∀b∈fp,H' b=none)/\W i m σ' H':=λ{σ7 H7} I7 n7=>by
   obtain⟨m',hm,w7⟩:=hN σ7 H7 n7
   refine⟨m',hm,i+1,σ7,H7,I7.fU,T.keep _ _ _ Xy λb hb o e=>(I7.pin (b,o) (mem_append_right _ (mem_append_right _ (vJ hb e)))).1,λb hb=>?_,w7⟩
   obtain⟨o,e,d⟩:=T.obj _ _ Xy b hb
   exact(I7.pin (b,o) (mem_append_right _ (mem_append_right _ (vJ hb e)))).2.1
  cases f with
  |next=>obtain⟨σ7,H7,I7,n7⟩:=q7;exact again I7 n7
  |cont=>obtain⟨σ7,H7,I7,n7⟩:=q7;exact again I7 n7
  |brk=>obtain⟨σ7,H7,I7,q7⟩:=q7;exact⟨σ7,H7,I7.fU,q7⟩
  |ret v=>obtain⟨x7,σ7,H7,I7,r7,q7⟩:=q7;exact⟨x7,σ7,H7,I7.fU,r7,q7⟩
end
theorem zUo{K:PySem.W.Frag}{a:Addr}{xs:List V}{g:TG}{tb:TS}{D:Ends}{σ:St}{H:Hp}(Pv:Nat->St->Hp->Prop)(h0:Pv 0 σ H)(hl:∀i σ H,i<=xs.length->Pv i σ H->aO K H a xs)(hs:∀i x σ H,xs[i]?=some x->Pv i σ H->g x σ H λσ2 H2=>tb { D with nx:=Pv (i+1),ct:=Pv (i+1),bk:=D.nx } σ2 H2)(hd:∀σ H,Pv xs.length σ H->D.nx σ H) :
  ∃W:Nat->Nat->St->Hp->Prop,(∃m,W 0 m σ H)/\∀i m σ H,W i m σ H ->
   ((O7 K a).stop i H/\D.nx σ H)\/((O7 K a).go i H/\∃N:St->Hp->Prop,(∀σ' H',N σ' H'->∃m',m'<m/\W (i+1) m' σ' H')/\∀x H',(O7 K a).JW i H x H'->g x σ H' λσ2 H2=>tb { D with nx:=N,ct:=N,bk:=D.nx } σ2 H2):=by
 refine⟨λi m σ H=>m=xs.length-i/\i<=xs.length/\Pv i σ H,⟨xs.length,by simp,abj _,h0⟩,?_⟩
 rintro i m σ H ⟨rfl,hi,p⟩
 have q:=hl i σ H hi p
 by_cases hlt:i<xs.length
 ·refine .inr ⟨⟨xs,xs[i],q,by simp[hlt]⟩,Pv (i+1),λσ' H' p'=>⟨xs.length-(i+1),by omega,rfl,hlt,p'⟩,λx H' y=>?_⟩
  obtain⟨e,y⟩:=y
  subst e
  exact hs i x σ _ (y xs q) p
 ·have e:i=xs.length:=by omega
  subst e
  exact .inl ⟨⟨xs,q,aa0 _⟩,hd σ H p⟩
theorem Dl{K:PySem.W.Frag}{a:Addr}{xs:List V}{g:TG}{tb:TS}{D:Ends}{σ:St}{H:Hp}(Pv:Nat->St->Hp->Prop)(h0:Pv 0 σ H)(hl:∀i σ H,i<=xs.length->Pv i σ H->cu K H a xs)(hs:∀i x σ H,xs[i]?=some x->Pv i σ H->g x σ H λσ2 H2=>tb { D with nx:=Pv (i+1),ct:=Pv (i+1),bk:=D.nx } σ2 H2)(hd:∀σ H,Pv xs.length σ H->D.nx σ H) :
  ∃W:Nat->Nat->St->Hp->Prop,(∃m,W 0 m σ H)/\∀i m σ H,W i m σ H ->
   ((JZ K a).stop i H/\D.nx σ H)\/((JZ K a).go i H/\∃N:St->Hp->Prop,(∀σ' H',N σ' H'->∃m',m'<m/\W (i+1) m' σ' H')/\∀x H',(JZ K a).JW i H x H'->g x σ H' λσ2 H2=>tb { D with nx:=N,ct:=N,bk:=D.nx } σ2 H2):=by
 refine⟨λi m σ H=>m=xs.length-i/\i<=xs.length/\Pv i σ H,⟨xs.length,by simp,abj _,h0⟩,?_⟩
 rintro i m σ H ⟨rfl,hi,p⟩
 have q:=hl i σ H hi p
 by_cases hlt:i<xs.length
 ·refine .inr ⟨⟨xs,xs[i],q,by simp[hlt]⟩,Pv (i+1),λσ' H' p'=>⟨xs.length-(i+1),by omega,rfl,hlt,p'⟩,λx H' y=>?_⟩
  obtain⟨e,y⟩:=y
  subst e
  exact hs i x σ _ (y xs q) p
 ·have e:i=xs.length:=by omega
  subst e
  exact .inl ⟨⟨xs,q,aa0 _⟩,hd σ H p⟩
abbrev R2:=V->V->Hp->VK->Prop
def lH(X:Cx)(f:Value->Value->Sem Value)(r:R2):Prop :=
 ∀(pins:List (Addr×Obj))(s:Shared)(σ:St)(H:Hp)(x y:V)(v u:Value)(Q:VK),Inv X pins σ H s->RelV x v->RelV y u->r x y H Q ->
  wpAny (model X.prog X.w) X.A (f v u) (EP X pins σ Q) X.xe s
def Xz(X:Cx)(f:Value->Sem Value)(r:V->Hp->VK->Prop):Prop :=
 ∀(pins:List (Addr×Obj))(s:Shared)(σ:St)(H:Hp)(x:V)(v:Value)(Q:VK),Inv X pins σ H s->RelV x v->r x H Q ->
  wpAny (model X.prog X.w) X.A (f v) (EP X pins σ Q) X.xe s
def rK(X:Cx)(f:Value)(r:List V->Hp->VK->Prop):Prop :=
 ∀(pins:List (Addr×Obj))(s:Shared)(σ:St)(H:Hp)(xs:List V)(us:List Value)(Q:VK),Inv X pins σ H s->Vals xs us->r xs H Q ->
  wpAny (model X.prog X.w) X.A (call f us) (EP X pins σ Q) X.xe s
def XC(X:Cx)(r:V->Hp->(Bool->Hp->Prop)->Prop):Prop :=
 ∀(pins:List (Addr×Obj))(s:Shared)(σ:St)(H:Hp)(x:V)(v:Value)(Q:Bool->Hp->Prop),Inv X pins σ H s->RelV x v->r x H Q ->
  wpAny (model X.prog X.w) X.A (truthy v) (TP X pins σ Q) X.xe s
def jR(r:R2)(ta tb:TE):TE:=λσ H Q=>ta σ H λx H1=>tb σ H1 λy H2=>r x y H2 Q
def tUn(r:V->Hp->VK->Prop)(ta:TE):TE:=λσ H Q=>ta σ H λx H1=>r x H1 Q
def rI(C:Int->Int->Prop)(g:Int->Int->V):R2:=λx y H Q=>∃i j,x=.int i/\y=.int j/\C i j/\Q (g i j) H
def rN(g:Int->Int->V):R2:=λx y H Q=>∃i j,x=.int i/\y=.int j/\Q (g i j) H
def rU(g:Int->V):V->Hp->VK->Prop:=λx H Q=>∃i,x=.int i/\Q (g i) H
section
variable{X:Cx}{a b c:Expr}{ta tb tc:TE}{pos:Pos}
theorem J3(ha:PE X a ta)(hb:PE X b tb){R:V->V->Hp->Prop}(I:Inv X pins σ H s)(h:ta σ H λx H1=>tb σ H1 λy H2=>R x y H2){f:Value->Value->Sem Value}(hf:∀v u s2 x y H2,Inv X pins σ H2 s2->RelV x v->RelV y u->R x y H2->wpAny (model X.prog X.w) X.A (f v u) Q X.xe s2) :
  wpAny (model X.prog X.w) X.A (eval a X.env) (λv s₁=>wpAny (model X.prog X.w) X.A (eval b X.env) (λu s₂=>wpAny (model X.prog X.w) X.A (f v u) Q X.xe s₂) X.xe s₁) X.xe s:=by
 refine aP (ha pins s σ H _ I h) λv s1 ⟨x,H1,I1,r1,q1⟩=>?_
 refine aP (hb pins s1 σ H1 _ I1 q1) λu s2 ⟨y,H2,I2,r2,q2⟩=>?_
 exact hf v u s2 x y H2 I2 r1 r2 q2
theorem xC(ho:lH X (binaryOp op) r)(ha:PE X a ta)(hb:PE X b tb):PE X (.BinOp a op b pos) (jR r ta tb):=by
 intro pins s σ H Q I h
 exact afq (J3 ha hb I h λv u s2 x y H2 I2 rx ry q=>ho pins s2 σ H2 x y v u Q I2 rx ry q)
theorem zu(ho:Xz X (unaryOp op) r)(ha:PE X a ta):PE X (.UnaryOp op a pos) (tUn r ta):=by
 intro pins s σ H Q I h
 exact UnaryOp_ (aP (ha pins s σ H _ I h) λv s1 ⟨x,H1,I1,r1,q1⟩=>ho pins s1 σ H1 x v Q I1 r1 q1)
theorem Vo{f:Value->Value->Sem Value}{C:Int->Int->Prop}{g:Int->Int->Int}(rule:∀(i j:Int) (t u:Tok) (s:Shared) (Q:Value->Shared->Prop) (E:Value->Shared->Prop),C i j->Q (.int (g i j) s.toks) { s with toks:=s.toks+1 }->wpAny (model X.prog X.w) X.A (f (.int i t) (.int j u)) Q E s) :
  lH X f (rI C λi j=>.int (g i j)):=by
 intro pins s σ H x y v u Q I rx ry h
 obtain⟨i,j,rfl,rfl,hc,q⟩:=h
 obtain⟨t,rfl⟩:=rx
 obtain⟨t',rfl⟩:=ry
 exact rule i j t t' s _ _ hc ⟨.int (g i j),H,I.tok _,⟨_,rfl⟩,q⟩
theorem J4{f:Value->Value->Sem Value}{g:Int->Int->Int}(rule:∀(i j:Int) (t u:Tok) (s:Shared) (Q:Value->Shared->Prop) (E:Value->Shared->Prop),Q (.int (g i j) s.toks) { s with toks:=s.toks+1 }->wpAny (model X.prog X.w) X.A (f (.int i t) (.int j u)) Q E s) :
  lH X f (rN λi j=>.int (g i j)):=by
 intro pins s σ H x y v u Q I rx ry h
 obtain⟨i,j,rfl,rfl,q⟩:=h
 obtain⟨t,rfl⟩:=rx
 obtain⟨t',rfl⟩:=ry
 exact rule i j t t' s _ _ ⟨.int (g i j),H,I.tok _,⟨_,rfl⟩,q⟩
theorem J5{f:Value->Value->Sem Value}{g:Int->Int->Bool}(rule:∀(i j:Int) (t u:Tok) (s:Shared) (Q:Value->Shared->Prop) (E:Value->Shared->Prop),Q (.bool (g i j)) s->wpAny (model X.prog X.w) X.A (f (.int i t) (.int j u)) Q E s) :
  lH X f (rN λi j=>.bl (g i j)):=by
 intro pins s σ H x y v u Q I rx ry h
 obtain⟨i,j,rfl,rfl,q⟩:=h
 obtain⟨t,rfl⟩:=rx
 obtain⟨t',rfl⟩:=ry
 exact rule i j t t' s _ _ ⟨.bl (g i j),H,I,rfl,q⟩
def J6(i j:Int):Prop:=0<j/\j<1073741824
def QM(i j:Int):Prop:=0<=j/\j<=1000000/\i.natAbs<2^64
theorem zM7(k:Nat):(0:Int)<=2^k:=by
 rw[two_pow_cast]
 exact adl _
theorem QS:lH X (binaryOp .Add) (rN λi j=>.int (i+j)):=J4 λ_ _ _ _ _ _ _ q=>add_int q
theorem XD:lH X (binaryOp .Sub) (rN λi j=>.int (i-j)):=J4 λ_ _ _ _ _ _ _ q=>sub_int q
theorem Dm:lH X (binaryOp .FloorDiv) (rI J6 λi j=>.int (i/j)):=Vo λi j _ _ _ _ _ hc q=>by
 have h1:(0:Int)<j:=hc.1
 have h2:j<1073741824:=hc.2
 exact floordiv_int (by omega) (by rw[Int.fdiv_eq_ediv_of_nonneg i (by omega)];exact q) (.inl (PyProof.noPylong_small (by omega)))
theorem ug:lH X (binaryOp .Mod) (rI (λ_ j=>0<j) λi j=>.int (i%j)):=Vo λi j _ _ _ _ _ hc q=>by
 have h1:(0:Int)<j:=hc
 exact mod_int' (by omega) (by rw[Int.fmod_eq_emod_of_nonneg i (by omega)];exact q)
theorem J7:lH X (binaryOp .LShift) (rI QM λi j=>.int (i*2^j.toNat)):=Vo λ_ _ _ _ _ _ _ hc q=>lshift_int_small hc.1 hc.2.1 hc.2.2 q
theorem Vp:lH X (binaryOp .RShift) (rI (λ_ j=>0<=j) λi j=>.int (i/2^j.toNat)):=Vo λi j _ _ _ _ _ hc q =>
 rshift_int hc (by rw[Int.fdiv_eq_ediv_of_nonneg i (zM7 _)];exact q)
theorem QT:lH X (binaryOp .BitAnd) (rN λi j=>.int (abo i j)):=J4 λ_ _ _ _ _ _ _ q=>and_int q
theorem unI{f:Value->Sem Value}{g:Int->Int}(rule:∀(i:Int) (t:Tok) (s:Shared) (Q:Value->Shared->Prop) (E:Value->Shared->Prop),Q (.int (g i) s.toks) { s with toks:=s.toks+1 }->wpAny (model X.prog X.w) X.A (f (.int i t)) Q E s) :
  Xz X f (rU λi=>.int (g i)):=by
 intro pins s σ H x v Q I rx h
 obtain⟨i,rfl,q⟩:=h
 obtain⟨t,rfl⟩:=rx
 exact rule i t s _ _ ⟨.int (g i),H,I.tok _,⟨_,rfl⟩,q⟩
theorem XF:Xz X (unaryOp .USub) (rU λi=>.int (-i)):=unI λ_ _ _ _ _ q=>neg_int q
end
def XH:V->V->Bool
 |.non,.non=>true|.non,.int _=>true|.int _,.non=>true|.non,.bl _=>true|.bl _,.non=>true|.non,.str _=>true|.str _,.non=>true
 |.int _,.int _=>true|.bl _,.bl _=>true|.str _,.str _=>true|.rH _,.rH _=>true
 |.int _,.str _=>true|.str _,.int _=>true|.bl _,.str _=>true|.str _,.bl _=>true
 |_,_=>false
def XJ:R2:=λx y H Q=>XH x y=true/\Q (.bl (decide (x=y))) H
theorem Dn:decide (V.int i=V.int j)=(i==j):=by
 rw[abv]
 simp
theorem J8:decide (V.bl i=V.bl j)=(i==j):=by
 rw[abv]
 simp
theorem Dp:decide (V.str i=V.str j)=(i==j):=by
 rw[abv]
 simp
theorem Dq:decide (V.rH i=V.rH j)=(i.toList==j.toList):=by
 rw[abv]
 cases i
 cases j
 simp
section
variable{X:Cx}{a b c:Expr}{ta tb tc:TE}{pos:Pos}
theorem uC(I:Inv X pins σ H s)(q:Q (.bl k) H)(e:k=k'):EP X pins σ Q (.bool k') s:=by
 subst e
 exact⟨.bl k,H,I,rfl,q⟩
theorem qH:lH X (compareOp .Eq) XJ:=by
 intro pins s σ H x y v u Q I rx ry h
 obtain⟨hs,q⟩:=h
 cases x with
 |non =>
  cases rx
  cases y with
  |non=>cases ry;exact PySem.EqNone.eq_none_none (uC I q (by simp))
  |bl j=>cases ry;exact PySem.EqNone.eq_none_bool (uC I q (by simp))
  |int j=>obtain⟨t',rfl⟩:=ry;exact PySem.EqNone.eq_none_int (uC I q (by simp))
  |str j=>obtain⟨t',rfl⟩:=ry;exact PySem.EqNone.eq_none_str (uC I q (by simp))
  |_=>exact absurd (show false=true from hs) aay
 |bl i =>
  cases rx
  cases y with
  |non=>cases ry;exact PySem.EqNone.eq_bool_none (uC I q (by simp))
  |bl j=>cases ry;exact eq_bool (uC I q J8)
  |str j=>obtain⟨t',rfl⟩:=ry;exact PySem.EqMixed.eq_bool_str (uC I q (by simp))
  |_=>exact absurd (show false=true from hs) aay
 |int i =>
  obtain⟨t,rfl⟩:=rx
  cases y with
  |non=>cases ry;exact PySem.EqNone.eq_int_none (uC I q (by simp))
  |int j=>obtain⟨t',rfl⟩:=ry;exact eq_int (uC I q Dn)
  |str j=>obtain⟨t',rfl⟩:=ry;exact PySem.EqMixed.eq_int_str (uC I q (by simp))
  |_=>exact absurd (show false=true from hs) aay
 |str i =>
  obtain⟨t,rfl⟩:=rx
  cases y with
  |non=>cases ry;exact PySem.EqNone.eq_str_none (uC I q (by simp))
  |bl j=>cases ry;exact PySem.EqMixed.eq_str_bool (uC I q (by simp))
  |int j=>obtain⟨t',rfl⟩:=ry;exact PySem.EqMixed.eq_str_int (uC I q (by simp))
  |str j=>obtain⟨t',rfl⟩:=ry;exact eq_str (uC I q Dp)
  |_=>exact absurd (show false=true from hs) aay
 |rH i =>
  obtain⟨t,rfl⟩:=rx
  cases y with
  |rH j=>obtain⟨t',rfl⟩:=ry;exact PySem.W.eq_bytes (uC I q Dq)
  |_=>exact absurd (show false=true from hs) aay
 |_=>cases y<;>exact absurd (show false=true from hs) aay
theorem QV:lH X (compareOp .Lt) (rN λi j=>.bl (decide (i<j))):=J5 λ_ _ _ _ _ _ _ q=>lt_int q
theorem zx:lH X (compareOp .LtE) (rN λi j=>.bl (decide (i<=j))):=J5 λ_ _ _ _ _ _ _ q=>le_int q
theorem zy:lH X (compareOp .Gt) (rN λi j=>.bl (decide (j<i))):=J5 λ_ _ _ _ _ _ _ q=>gt_int q
theorem zQb:lH X (compareOp .In) (λx y H Q=>∃i j,x=.str i/\y=.str j/\Q (.bl (!(aef j i 0 j.length 1).isEmpty)) H):=by
 intro pins s σ H x y v u Q I rx ry h
 obtain⟨i,j,rfl,rfl,q⟩:=h
 obtain⟨t,rfl⟩:=rx
 obtain⟨t',rfl⟩:=ry
 exact in_str (uC I q rfl)
theorem yI(b:Expr)(h:op≠.In:=by decide)(h2:op≠.NotIn:=by decide):behindInMarks op b=false:=by
 have e1:(op==CmpOp.In)=false:=by cases op<;>first|rfl|exact absurd rfl h
 have e2:(op==CmpOp.NotIn)=false:=by cases op<;>first|rfl|exact absurd rfl h2
 cases b<;>simp[behindInMarks,e1,e2]
theorem zP5(ho:lH X (compareOp op) r)(ha:PE X a ta)(hb:PE X b tb)(hm:behindInMarks op b=false):PE X (.Compare a [op] [b] pos) (jR r ta tb):=by
 intro pins s σ H Q I h
 exact wpAny_Compare1 (J3 ha hb I h λv u s2 x y H2 I2 rx ry q=>ho pins s2 σ H2 x y v u Q I2 rx ry q) hm
def Vq(t:TE):TT:=λσ H Q=>t σ H λx H'=>∃k,x=.bl k/\Q k H'
theorem zZ(ho:lH X (compareOp op) r)(ha:PE X a ta)(hb:PE X b tb)(hm:behindInMarks op b=false):PT X (.Compare a [op] [b] pos) (Vq (jR r ta tb)):=by
 intro pins s σ H Q I h
 refine wpAny_isTrue_Compare1 (aP (ha pins s σ H _ I h) λv s1 ⟨x,H1,I1,r1,q1⟩=>aP (hb pins s1 σ H1 _ I1 q1) λu s2 ⟨y,H2,I2,r2,q2⟩ =>
  aP (ho pins s2 σ H2 x y v u _ I2 r1 r2 q2) λc s3 ⟨z,H3,I3,r3,k,e,q3⟩=>?_) hm
 subst e
 cases r3
 exact acp ⟨H3,I3,q3⟩
def zVj(r r':R2)(ta tb tc:TE):TE:=λσ H Q=>ta σ H λx H1=>tb σ H1 λy H2=>r x y H2 λz H3=>∃k,z=.bl k /\
 (if k=true then tc σ H3 λw' H4=>r' y w' H4 Q else Q (.bl false) H3)
theorem zLw(ho:lH X (compareOp op) r)(ho':lH X (compareOp op') r')(ha:PE X a ta)(hb:PE X b tb)(hc:PE X c tc)(hm:lastMarks [op,op'] [b,c]=false:=by with_unfolding_all rfl):PE X (.Compare a [op,op'] [b,c] pos) (zVj r r' ta tb tc):=by
 intro pins s σ H Q I h
 refine Compare_chain (aP (ha pins s σ H _ I h) λv s1 ⟨x,H1,I1,r1,q1⟩=>chain_link (aP (hb pins s1 σ H1 _ I1 q1) λu s2 ⟨y,H2,I2,r2,q2⟩ =>
  aP (ho pins s2 σ H2 x y v u _ I2 r1 r2 q2) λd s3 ⟨z,H3,I3,r3,k,e,q3⟩=>?_)) hm
 subst e
 cases r3
 refine acp ?_
 cases k with
 |false=>exact ite_ff ⟨.bl false,H3,I3,rfl,q3⟩
 |true=>exact ite_tt (chain_last (aP (hc pins s3 σ H3 _ I3 q3) λw' s4 ⟨z',H4,I4,r4,q4⟩=>ho' pins s4 σ H4 y z' u w' Q I4 r2 r4 q4))
def Dr(K:PySem.W.Frag)(x:V)(H:Hp)(k:Bool):Prop :=
 match x with
 |.non=>k=false
 |.bl b=>k=b
 |.int i=>k=(i != 0)
 |.str y=>y.length<=sizeLine/\k=((y.length:Int) != 0)
 |.rH y=>y.size<=sizeLine/\k=((y.size:Int) != 0)
 |.ref p=>(∃xs,aO K H p xs/\k=!xs.isEmpty)\/(∃xs,cu K H p xs/\k=!xs.isEmpty)\/∃kvs,H p=some (.dK kvs)/\k=!kvs.isEmpty
 |_=>False
theorem zN0{κ:Type}{kvs:List (κ×V)}{vs:List (κ×Value)}(r:KV kvs vs):(!vs.isEmpty)=!kvs.isEmpty:=by
 cases r<;>rfl
theorem zGl(r:Vals xs its):(!its.toArray.isEmpty)=!xs.isEmpty:=by
 cases r<;>simp
theorem J9:(sizeLine:Nat)<2^63:=by rw[afp];decide
theorem J_:XC X (λx H Q=>∃k,Dr X.K x H k/\Q k H):=by
 intro pins s σ H x v Q I rx h
 obtain⟨k,e,q⟩:=h
 have hl:=J9
 have hs:sizeLine=16777216:=afp
 cases x with
 |non =>
  cases rx
  have e':k=false:=e
  subst e'
  exact truthy_none ⟨H,I,q⟩
 |bl b =>
  cases rx
  have e':k=b:=e
  subst e'
  exact acp ⟨H,I,q⟩
 |int i =>
  obtain⟨t,rfl⟩:=rx
  have e':k=(i != 0):=e
  subst e'
  exact PySem.P.truthy_int ⟨H,I,q⟩
 |str y =>
  obtain⟨t,rfl⟩:=rx
  obtain⟨hy,e'⟩:y.length<=sizeLine/\k=((y.length:Int) != 0):=e
  subst e'
  exact PySem.P.truthy_str (by omega) ⟨H,I.tok _,q⟩
 |rH y =>
  obtain⟨t,rfl⟩:=rx
  obtain⟨hy,e'⟩:y.size<=sizeLine/\k=((y.size:Int) != 0):=e
  subst e'
  exact PySem.W.truthy_bytes (by omega) ⟨H,I.tok _,q⟩
 |ref p =>
  cases rx
  have e':(∃xs,aO X.K H p xs/\k=!xs.isEmpty)\/(∃xs,cu X.K H p xs/\k=!xs.isEmpty)\/∃kvs,H p=some (.dK kvs)/\k=!kvs.isEmpty:=e
  rcases e' with⟨xs,hx,e'⟩|⟨xs,hx,e'⟩|⟨kvs,hx,e'⟩
  ·subst e'
   obtain⟨its,r,pl,hz⟩:=I.list hx
   have hlen:=r.length
   exact wpAny_truthy_list pl.isList (by simp only[size_toArray];omega) ⟨H,I.tok _,by rw[zGl r];exact q⟩
  ·subst e'
   obtain⟨its,r,pl,hz⟩:=I.tuple hx
   have hlen:=r.length
   exact truthy_tuple pl (by simp only[size_toArray];omega) ⟨H,I.tok _,by rw[zGl r];exact q⟩
  ·subst e'
   obtain⟨hz,hS,vs,r,m⟩:kvs.length<=sizeLine/\(p==sysModules)=false/\∃vs,KV kvs vs/\s.heap.DictOf (vC X.prog X.w) p vs:=I.hok p _ hx
   have hlen:kvs.length=vs.length:=ae8 r
   exact wpAny_truthy_dict hS m (by omega) ⟨H,I.tok _,by rw[zN0 r];exact q⟩
 |_=>exact(show False from e).elim
theorem zTs(ha:PE X a ta)(he:∀whole,isTrue a X.env whole=(do let v <-whole;standAt a.pos;holding [v] (truthy v))) :
  PT X a (λσ H Q=>ta σ H λx H'=>∃k,Dr X.K x H' k/\Q k H'):=by
 intro pins s σ H Q I h
 exact isTrue_plain (aP (ha pins s σ H _ I h) λv s1 ⟨x,H1,I1,r1,q1⟩=>J_ pins s1 σ H1 x v Q I1 r1 q1) (he _)
theorem Ds(r:Vals [x] us):∃u,us=[u]/\RelV x u:=by
 cases r with
 |cons r1 r2=>cases r2;exact⟨_,rfl,r1⟩
theorem zSc:rK X (.type "int") (λxs H Q=>(∃i,xs=[.int i]/\Q (.int i) H)\/∃k,xs=[.bl k]/\Q (.int (if k then 1 else 0)) H):=by
 intro pins s σ H xs us Q I r h
 rcases h with⟨i,rfl,q⟩|⟨k,rfl,q⟩
 ·obtain⟨u,rfl,t,rfl⟩:=Ds r
  exact call_int_int ⟨.int i,H,I,⟨_,rfl⟩,q⟩
 ·obtain⟨u,rfl,r1⟩:=Ds r
  cases r1
  exact call_int_bool ⟨.int (if k then 1 else 0),H,I.tok _,⟨_,rfl⟩,q⟩
def XM(K:PySem.W.Frag)(x:V)(H:Hp)(n:Nat):Prop :=
 match x with
 |.str y=>y.length<=sizeLine/\n=y.length
 |.rH y=>y.size<=sizeLine/\n=y.size
 |.ref p=>(∃xs,aO K H p xs/\n=xs.length)\/∃xs,cu K H p xs/\n=xs.length
 |_=>False
theorem zU2:rK X (.builtin "len") (λxs H Q=>∃x n,xs=[x]/\XM X.K x H n/\Q (.int n) H):=by
 intro pins s σ H xs us Q I r h
 obtain⟨x,n,rfl,e,q⟩:=h
 obtain⟨u,rfl,rx⟩:=Ds r
 have hl:=J9
 have hs:sizeLine=16777216:=afp
 cases x with
 |str y =>
  obtain⟨t,rfl⟩:=rx
  obtain⟨hy,e'⟩:y.length<=sizeLine/\n=y.length:=e
  subst e'
  exact len_str (by omega) ⟨.int _,H,I.tok _,⟨_,rfl⟩,q⟩
 |rH y =>
  obtain⟨t,rfl⟩:=rx
  obtain⟨hy,e'⟩:y.size<=sizeLine/\n=y.size:=e
  subst e'
  exact PySem.W.len_bytes (by omega) ⟨.int _,H,I.tok _,⟨_,rfl⟩,q⟩
 |ref p =>
  cases rx
  have e':(∃xs,aO X.K H p xs/\n=xs.length)\/∃xs,cu X.K H p xs/\n=xs.length:=e
  rcases e' with⟨xs,hx,e'⟩|⟨xs,hx,e'⟩
  ·subst e'
   obtain⟨its,r',pl,hz⟩:=I.list hx
   have hlen:=r'.length
   exact Calls.call_len_list pl.isList (by simp only[size_toArray];omega) ⟨.int xs.length,H,I.tok _,⟨_,by simp only[size_toArray];rw[hlen]⟩,q⟩
  ·subst e'
   obtain⟨its,r',pl,hz⟩:=I.tuple hx
   have hlen:=r'.length
   exact len_tuple pl (by simp only[size_toArray];omega) ⟨.int xs.length,H,I.tok _,⟨_,by simp only[size_toArray];rw[hlen]⟩,q⟩
 |_=>exact(show False from e).elim
end
structure rO(h:Heap)(x dx C:Addr)(mA:Str->Option Value):Prop where
 obj:h.get? x=some (instObj C dx)
 ns:h.Ns1 dx mA
 ne:dx≠x
theorem zQw{h:Heap}(n:h.Ns1 dx mA):∃od,h.get? dx=some od/\∀name,lookIn name od=some (mA name):=by
 obtain⟨o,es,ep,ho,hd,hk,_,hm⟩:=n
 refine⟨o,ho,λname=>?_⟩
 have e:=hm name
 unfold nsFind findBy at e
 rw[<-Array.find?_toList] at e
 unfold lookIn
 rw[hd]
 dsimp only
 split
 ·rename_i y q
  rw[q] at e
  exact congrArg some e
 ·rename_i q
  rw[q] at e
  have a:es.toList.any (·.refKey)=false:=by
   rw[any_eq_false]
   intro y hy
   obtain⟨z,t,hkey⟩:=hk y (Array.mem_toList_iff.mp hy)
   simp[DictEntry.refKey,hkey]
  have a':¬es.toList.any (·.refKey)=true:=by rw[a];exact aay
  rw[if_neg a']
  exact congrArg some e
theorem rO.look(I:rO h x dx C mA):∃od,PySem.W.InstAt h x (instObj C dx) C (some od)/\∀name,lookIn name od=some (mA name) :=
 let⟨od,ho,hl⟩:=zQw I.ns
 ⟨od,⟨I.obj,rfl,rfl,ho⟩,hl⟩
section
variable{prog:Program}{w:World}{A:Around}{E:Value->Shared->Prop}{s:Shared}{K:PySem.W.Frag}{x dx C f:Addr}{mA:Str->Option Value}{name:Str}{v:Value}
theorem get_map{Q:Value->Shared->Prop}(X:K.In s.heap)(I:rO s.heap x dx C mA)(hg:plainGet K C name=true)(hh:hasDictIn K C=true)(ha:findIn K (.ref C) name=some none)(hv:mA name=some v)(hv':PySem.W.handedIn v=true)(h:Q v { s with toks:=s.toks+1 }) :
  wpAny (model prog w) A (getAttr (.ref x) name expr) Q E s:=by
 obtain⟨od,J,hl⟩:=I.look
 exact PySem.W.get_value X J (afn hg).1 (PySem.W.findObj_own hh ha rfl (by rw[hl,hv])) hv' h
theorem zUn{Q:Value×List Value->Shared->Prop}(X:K.In s.heap)(I:rO s.heap x dx C mA)(hg:plainGet K C name=true)(hf:findIn K (.ref C) name=some (some (.ref f)))(ht:isFn K (.ref f)=true)(hv:mA name=none)(h:Q (.ref f,[.ref x]) s) :
  wpAny (model prog w) A (getMethod (.ref x) name pl) Q E s:=by
 obtain⟨od,J,hl⟩:=I.look
 exact PySem.W.method_fn X J (afn hg).1 (afn hg).2 hf (beq_iff_eq.mp ht) (by show(lookIn name od).map (·.isSome)=some false;rw[hl,hv];rfl) h
theorem Dt{Q:Unit->Shared->Prop}(X:K.In s.heap)(I:rO s.heap x dx C mA)(hs:findIn K (.ref C) "__setattr__" = some (some (.builtin "object.__setattr__")))(hp:PySem.W.plainOver K C=true)(ht:takerIn K C name=some none)(hh:hasDictIn K C=true)(hw:af4 mA ns)(hsz:ns.length<=sizeLine)(h:∀h',rO h' x dx C (λy=>if y=name then some v else mA y)->SameBut dx s.heap h'->Q () { s with heap:=h',toks:=s.toks+2 }) :
  wpAny (model prog w) A (setAttr (.ref x) name v) Q E s:=by
 obtain⟨od,J,hl⟩:=I.look
 refine PySem.W.set_plain X J hs (PySem.W.osa_open (s:={ s with toks:=s.toks+1 }) (r:=none) X J hp ht λb=>?_)
 obtain⟨cd,hc,hd'⟩:=PySem.W.any_some hh
 have hx:s.heap.get? x=some ⟨.ref C,some dx,.plain,#[]⟩:=I.obj
 refine aaw (aax (aaw (aaw (wpAny_loadPart hx (aaw (PySem.W.Looks.here (s:={ s with toks:=s.toks+1 }) (PySem.W.looks_clsIn X hc) ?_))))))
 rw[hd']
 refine aax (a:=some dx) (aaw (aax (aaw ?_)))
 refine wpAny_nsSet1 (s:={ s with toks:=s.toks+1 }) I.ns λh' hn2 hs2=>?_
 obtain⟨oD,esD,epD,hoD,hdD,hcD⟩:=hn2.count (PySem.Within.cons name v hw)
 refine aaw (wpAny_lookBehind hoD (by rw[hdD];exact pastItsLine_dict (aa8 hcD (by rw[length_cons];omega))) ?_)
 exact aax (h _ ⟨(hs2.2 _ (ac2 I.ne)).trans I.obj,hn2,I.ne⟩ hs2)
theorem zUb(X:K.In s.heap)(hm:PySem.W.makesIn K C=true)(hi:findIn K (.ref C) "__init__" = some (some (.ref f)))(hf:typeIn K (.ref f)=some (.type "function"))(h:codeAny (model prog w) (A.under (.builtin "type.__call__" ⟨.ref C::vs,kw⟩)) (.call (.ref f) ⟨.ref (s.heap.objs.size+1)::vs,kw⟩) (PySem.W.InitBack (s.heap.objs.size+1) R)
   { s with heap:=(s.heap.push emptyDict).push (instObj C s.heap.objs.size) }) :
  codeAny (model prog w) A (.call (.ref C) ⟨vs,kw⟩) R s:=by
 obtain⟨hh,g,d,t,os⟩:=s
 exact PySem.W.make_core (PySem.W.makes_of X hm) (PySem.W.looks_findIn X hi) (λself=>PySem.W.bind_fn X self hf) (.inl rfl) h
end
def aH(f:Str)(v:V):List (Str×V)->List (Str×V)
 |[]=>[(f,v)]
 | (g,x)::r=>if g=f then(g,v)::r else(g,x)::aH f v r
theorem zN(f g:Str)(v:V):∀fs:List (Str×V),(aH f v fs).lookup g=if g=f then some v else fs.lookup g
 |[]=>by
  show ada g [(f,v)]=_
  by_cases h:g=f
  ·have hb:(g==f)=true:=beq_iff_eq.mpr h
   simp only[ada,hb,if_pos h]
  ·have hb:(g==f)=false:=beq_eq_false_iff_ne.mpr h
   simp only[ada,hb,if_neg h]
 | (k,x)::r=>by
  have ih:=zN f g v r
  rw[show aH f v ((k,x)::r)=(if k=f then(k,v)::r else(k,x)::aH f v r) from rfl]
  by_cases hk:k=f
  ·rw[if_pos hk]
   by_cases h:g=k
   ·have hb:(g==k)=true:=beq_iff_eq.mpr h
    simp only[ada,hb,if_pos (h.trans hk)]
   ·have hb:(g==k)=false:=beq_eq_false_iff_ne.mpr h
    simp only[ada,hb,if_neg (λe:g=f=>h (e.trans hk.symm))]
  ·rw[if_neg hk]
   by_cases h:g=k
   ·have hb:(g==k)=true:=beq_iff_eq.mpr h
    simp only[ada,hb,if_neg (λe:g=f=>hk (h.symm.trans e))]
   ·have hb:(g==k)=false:=beq_eq_false_iff_ne.mpr h
    simp only[ada,hb]
    exact ih
theorem XQ(f:Str)(v:V):∀fs:List (Str×V),f∈(aH f v fs).map (·.1)/\∀g,g∈fs.map (·.1)->g∈(aH f v fs).map (·.1)
 |[]=>⟨by simp[aH],λg h=>by simp at h⟩
 | (k,x)::r=>by
  obtain⟨i1,i2⟩:=XQ f v r
  rw[show aH f v ((k,x)::r)=(if k=f then(k,v)::r else(k,x)::aH f v r) from rfl]
  by_cases hk:k=f
  ·rw[if_pos hk]
   subst hk
   exact⟨by simp,λg h=>by simpa using h⟩
  ·rw[if_neg hk]
   refine⟨?_,λg h=>?_⟩
   ·rw[map_cons]
    exact mem_cons_of_mem _ i1
   ·rw[map_cons] at h ⊢
    rcases mem_cons.mp h with e|e
    ·exact mem_cons.mpr (.inl e)
    ·exact mem_cons_of_mem _ (i2 g e)
theorem zFc(f:Str)(v:V):∀fs:List (Str×V),(aH f v fs).length<=fs.length+1
 |[]=>by simp[aH]
 | (k,x)::r=>by
  have ih:=zFc f v r
  rw[show aH f v ((k,x)::r)=(if k=f then(k,v)::r else(k,x)::aH f v r) from rfl]
  by_cases hk:k=f
  ·rw[if_pos hk,length_cons,length_cons];omega
  ·rw[if_neg hk,length_cons,length_cons];omega
theorem iY.some_of(r:iY (some v) o):∃u,o=some u/\RelV v u:=by
 cases o with
 |none=>exact(show False from r).elim
 |some u=>exact⟨u,rfl,r⟩
theorem iY.none_of(r:iY none o):o=none:=by
 cases o with
 |none=>rfl
 |some u=>exact(show False from r).elim
theorem zQ9(r:RelV v u):PySem.W.handedIn u=true:=by
 cases v with
 |non=>cases(show u=ac4 from r);rfl
 |bl b=>cases(show u=afy b from r);rfl
 |int i=>obtain⟨t,e⟩:=(show∃t,u=acj i t from r);cases e;rfl
 |str x=>obtain⟨t,e⟩:=(show∃t,u=afr x t from r);cases e;rfl
 |rH b=>obtain⟨t,e⟩:=(show∃t,u=Value.bytes b t from r);cases e;rfl
 |flt b=>obtain⟨t,e⟩:=(show∃t,u=agc b t from r);cases e;rfl
 |ref a=>cases(show u=abx a from r);rfl
 |ty n=>cases(show u=aed n from r);rfl
section
variable{P:Program}{w:World}{H H':Hp}{h h':Heap}{a C dx:Addr}{fs fs':List (Str×V)}
theorem Vr(hok:gQ P w H h)(e:H a=some (.ins C dx fs)):∃mA,rO h a dx C mA/\(∀f,iY (fs.lookup f) (mA f))/\af4 mA (fs.map (·.1))/\fs.length<=1000/\H dx=some (.own a):=by
 obtain⟨d,z,ne,ob,mA,n,r,q⟩:=(show bI P w H h a (.ins C dx fs) from hok a _ e)
 exact⟨mA,⟨ob,n,ne⟩,r,q,z,d⟩
end
structure Cls(K:PySem.W.Frag)(C:Addr):Prop where
 pg:plainGet K C adt=true
 hd:hasDictIn K C=true
 po:PySem.W.plainOver K C=true
 sa:findIn K (.ref C) "__setattr__" = some (some (.builtin "object.__setattr__"))
theorem Cls.get{K:PySem.W.Frag}{C:Addr}(c:Cls K C)(f:Str):plainGet K C f=true:=c.pg
def bx(K:PySem.W.Frag)(C:Addr)(f:Str):Prop:=findIn K (.ref C) f=some none
theorem bx.taker{K:PySem.W.Frag}{C:Addr}{f:Str}(n:bx K C f):takerIn K C f=some none:=by
 unfold takerIn
 rw[show findIn K (.ref C) f=some none from n]
 rfl
structure Con(K:PySem.W.Frag)(C:Addr)(f:Str)(v:V)(u:Value):Prop where
 at_:findIn K (.ref C) f=some (some u)
 rel:RelV v u
 get:specialIn K u "__get__" = some none
 cp:PySem.W.copiedNames.contains f=false
structure Meth(K:PySem.W.Frag)(C:Addr)(m:Str)(f:Addr):Prop where
 at_:findIn K (.ref C) m=some (some (.ref f))
 fn:isFn K (.ref f)=true
 kp:keepIn K (.ref f)=true
section
variable{X:Cx}{pins:List (Addr×Obj)}{σ:St}{H:Hp}{s:Shared}{a C dx:Addr}{fs:List (Str×V)}{f:Str}{v:V}{A:Around}{E:Value->Shared->Prop}
theorem zN1{Q:Value->Shared->Prop}(I:Inv X pins σ H s)(e:H a=some (.ins C dx fs))(c:Cls X.K C)(n:bx X.K C f)(l:fs.lookup f=some v)(h:∀u s',Inv X pins σ H s'->RelV v u->Q u s'):wpAny (model X.prog X.w) A (getAttr (.ref a) f b) Q E s:=by
 obtain⟨mA,O,r,_,_,_⟩:=Vr I.hok e
 obtain⟨u,hu,ru⟩:=iY.some_of (v:=v) (o:=mA f) (by rw[<-l];exact r f)
 exact get_map I.jO O (c.get f) c.hd n hu (zQ9 ru) (h u _ (I.tok _) ru)
theorem zGo{Q:Value×List Value->Shared->Prop}(I:Inv X pins σ H s)(e:H a=some (.ins C dx fs))(c:Cls X.K C)(k:Meth X.K C m g)(l:fs.lookup m=none)(h:Q (.ref g,[.ref a]) s):wpAny (model X.prog X.w) A (getMethod (.ref a) m pl) Q E s:=by
 obtain⟨mA,O,r,_,_,_⟩:=Vr I.hok e
 have hn:mA m=none:=iY.none_of (by rw[<-l];exact r m)
 exact zUn I.jO O (c.get m) k.at_ k.fn hn h
theorem zNe{Q:Unit->Shared->Prop}(I:Inv X pins σ H s)(e:H a=some (.ins C dx fs))(c:Cls X.K C)(n:bx X.K C f)(hl:fs.length<1000)(ry:RelV y u)(h:∀s',Inv X pins σ (upd H a (.ins C dx (aH f y fs))) s'->Q () s'):wpAny (model X.prog X.w) A (setAttr (.ref a) f u) Q E s:=by
 obtain⟨mA,O,r,wi,_,ho⟩:=Vr I.hok e
 have hz:(fs.map (·.1)).length<=sizeLine:=by rw[length_map,afp];omega
 refine Dt I.jO O c.sa c.po n.taker c.hd wi hz λh' O' sb=>h _ ?_
 have hd:∃o,h'.get? dx=some o:=let⟨o,_,_,e',_⟩:=O'.ns;⟨o,e'⟩
 refine I.write (x:=a) (e:=dx) (by rw[e];exact adg) (.inr ho) (λb q hb z=>(sb.2 b hb).trans z) hd ?_
 refine⟨by rw[zP O.ne];exact ho,?_,O.ne,O'.obj,_,O'.ns,λg=>?_,λg hg=>?_⟩
 ·have:=zFc f y fs;omega
 ·show iY ((aH f y fs).lookup g) (if g=f then some u else mA g)
  rw[zN]
  by_cases q:g=f
  ·rw[if_pos q,if_pos q];exact ry
  ·rw[if_neg q,if_neg q];exact r g
 ·by_cases q:g=f
  ·rw[q];exact(XQ f y fs).1
  ·refine(XQ f y fs).2 g (wi g λz=>hg ?_)
   show(if g=f then some u else mA g)=none
   rw[if_neg q];exact z
theorem Inv.made(I:Inv X pins σ H s):Inv X pins σ (upd (upd H s.heap.objs.size (.own (s.heap.objs.size+1))) (s.heap.objs.size+1) (.ins C s.heap.objs.size []))
  { s with heap:=(s.heap.push emptyDict).push (instObj C s.heap.objs.size) }:=by
 have e1:(s.heap.push emptyDict).get? s.heap.objs.size=some emptyDict:=get?_push_size s.heap rfl
 have e2:((s.heap.push emptyDict).push (instObj C s.heap.objs.size)).get? (s.heap.objs.size+1)=some (instObj C s.heap.objs.size):=by
  have:=get?_push_size (s.heap.push emptyDict) (o:=instObj C s.heap.objs.size) rfl
  rwa [size_push] at this
 have e3:(s.heap.push emptyDict).Ns s.heap.objs.size (λ_=>none):=⟨emptyDict,#[],_,e1,rfl,(λe he=>absurd he (by simp)),λ_=>rfl⟩
 have I1:=I.laid (a:=s.heap.objs.size) (o:=.own (s.heap.objs.size+1)) (h':=s.heap.push emptyDict) (t':=s.toks) (λb u q=>get?_push_of_some _ q) (aa0 _) ⟨_,e1⟩
 refine I1.laid (a:=s.heap.objs.size+1) (o:=.ins C s.heap.objs.size []) (t':=s.toks) (λb u q=>get?_push_of_some _ q) (Nat.le_of_eq (size_push _ _)) ?_
 have ne:s.heap.objs.size≠s.heap.objs.size+1:=aa5 (acv _)
 refine⟨by rw[zP ne,zJ],abj _,ne,e2,λ_=>none,(Heap.Ns1.of_empty e3).at λo q=>get?_push_of_some _ q,λ_=>adg,λy hy=>absurd rfl hy⟩
theorem Du(hb:attributeBase e f env (eval e env)=eval e env)(h:wpAny (model prog w) A (eval e env) (λo s₁=>wpAny (model prog w) A (getAttr o f true) Q E s₁) E s):wpAny (model prog w) A (eval (.Attribute e f pos) env) Q E s :=
 Attribute_any_ h (by rw[arm_eval_Attribute,hb])
end
def pX(K:PySem.W.Frag)(ta:TE)(f:Str):TE:=λσ H Q=>ta σ H λx H1=>∃a C dx fs v,x=.ref a/\H1 a=some (.ins C dx fs)/\Cls K C/\bx K C f/\fs.lookup f=some v/\Q v H1
def XR(K:PySem.W.Frag)(ta tv:TE)(f:Str):TS:=λD σ H=>tv σ H λy H1=>ta σ H1 λx H2=>∃a C dx fs,x=.ref a/\H2 a=some (.ins C dx fs)/\Cls K C/\bx K C f/\fs.length<1000 /\
 D.nx σ (upd H2 a (.ins C dx (aH f y fs)))
section
variable{X:Cx}{o e value:Expr}{f:Str}{pos pos' tpos:Pos}{ta tv:TE}
theorem zVv(he:PE X e ta)(hb:attributeBase e f X.env (eval e X.env)=eval e X.env):PE X (.Attribute e f pos) (pX X.K ta f):=by
 intro pins s σ H Q I h
 refine Du hb (aP (he pins s σ H _ I h) λu s1 ⟨x,H1,I1,rx,a,C,dx,fs,v,ex,ea,c,n,l,q⟩=>?_)
 subst ex
 obtain rfl:u=abx a:=rx
 exact zN1 I1 ea c n l λu' s2 I2 ru=>⟨v,H1,I2,ru,q⟩
theorem Ci(ha:PE X o ta)(hv:PE X value tv)(hs:swapsWith value (some (.Attribute o f pos')) pos.line X.env=pure false):PS X (.Assign [.Attribute o f pos'] value pos) (XR X.K ta tv f):=by
 intro pins s σ H D I h
 refine plainObj_wpAny_Assign_Attribute (aP (hv pins s σ H _ I h) λu s1 ⟨y,H1,I1,ry,q⟩=>aP (ha pins s1 σ H1 _ I1 q) λov s2 ⟨x,H2,I2,rx,a,C,dx,fs,ex,ea,c,n,l,q2⟩=>?_) hs
 subst ex
 obtain rfl:ov=abx a:=rx
 exact zNe I2 ea c n l ry λs3 I3=>⟨σ,_,I3,q2⟩
end
section
variable{X:Cx}{pins:List (Addr×Obj)}{σ:St}{H:Hp}{s:Shared}{A:Around}{E:Value->Shared->Prop}{Q:Value->Shared->Prop}{c:Value}{b:Bool}
inductive jT(K:PySem.W.Frag)(H:Hp):V->Value->Prop where
 |non:jT K H .non (.type "NoneType")
 |bl (x:Bool):jT K H (.bl x) (.type "bool")
 |int (i:Int):jT K H (.int i) (.type "int")
 |str (x:Str):jT K H (.str x) (.type "str")
 |flt (x:UInt64):jT K H (.flt x) (.type "float")
 |lst {a:Addr} {xs:List V} (e:H a=some (.lst xs)):jT K H (.ref a) (.type "list")
 |sY {a:Addr} {o:Obj} {xs:List V} (e:H a=some (.sY o (.lst xs))):jT K H (.ref a) (.type "list")
 |tup {a:Addr} {xs:List V} (e:H a=some (.tup xs)):jT K H (.ref a) (.type "tuple")
 |dK {a:Addr} {kvs:List (Key×V)} (e:H a=some (.dK kvs)):jT K H (.ref a) (.type "dict")
 |dT {a:Addr} {kvs:List (List Key×V)} (e:H a=some (.dT kvs)):jT K H (.ref a) (.type "dict")
 |ins {a C dx:Addr} {fs:List (Str×V)} (e:H a=some (.ins C dx fs)) (cl:Cls K C) (ha:findIn K (.ref C) "__class__" = some (some (.builtin "object.__class__")))
   (hn:specialIn K (.builtin "object.__class__") "__get__" = some (some (.builtin "getset_descriptor.__get__"))) (htk:takesIn K (.builtin "object.__class__")=some true)
   (hm:mroIn K C (.type "object")=some true):jT K H (.ref a) (.ref C)
theorem zQ4(I:Inv X pins σ H s)(rx:RelV x u)(ty:jT X.K H x t)(e:kitOne X.K t c=some b)(h:∀tk,Q (.bool b) { s with toks:=tk }) :
  wpAny (model X.prog X.w) A (call (.builtin "isinstance") [u,c]) Q E s:=by
 cases ty with
 |non=>cases(show u=ac4 from rx);exact aen PySem.W.kitx_none I.jO adg e (λz=>nomatch z) h
 |bl y=>cases(show u=afy y from rx);exact aen PySem.W.kitx_bool I.jO adg e (λz=>nomatch z) h
 |int i=>obtain⟨t,q⟩:=(show∃t,u=acj i t from rx);cases q;exact aen PySem.W.kitx_int I.jO adg e (λz=>nomatch z) h
 |str y=>obtain⟨t,q⟩:=(show∃t,u=afr y t from rx);cases q;exact aen PySem.W.kitx_str I.jO adg e (λz=>nomatch z) h
 |flt y=>obtain⟨t,q⟩:=(show∃t,u=agc y t from rx);cases q;exact aen PySem.W.kitx_float I.jO adg e (λz=>nomatch z) h
 |@lst a xs ea =>
  cases(show u=abx a from rx)
  obtain⟨_,_,n,_,h1⟩:=(show bI X.prog X.w H s.heap a (.lst xs) from I.hok a _ ea)
  exact aen PySem.W.kitx_list I.jO ⟨_,h1,rfl⟩ e (λz=>nomatch z) h
 |@sY a ob xs ea =>
  cases(show u=abx a from rx)
  obtain⟨_,_,_,n,_,h1⟩:=(show bI X.prog X.w H s.heap a (.sY ob (.lst xs)) from I.hok a _ ea)
  exact aen PySem.W.kitx_list I.jO ⟨_,h1,rfl⟩ e (λz=>nomatch z) h
 |@tup a xs ea =>
  cases(show u=abx a from rx)
  obtain⟨_,_,_,p⟩:=(show bI X.prog X.w H s.heap a (.tup xs) from I.hok a _ ea)
  obtain⟨o,h1,h2,_⟩:=p
  exact aen PySem.W.kitx_tuple I.jO ⟨o,h1,h2⟩ e (λz=>nomatch z) h
 |@dK a kvs ea =>
  cases(show u=abx a from rx)
  obtain⟨_,_,vs,_,p⟩:=(show bI X.prog X.w H s.heap a (.dK kvs) from I.hok a _ ea)
  obtain⟨o,es,ep,h1,h2,_⟩:=p
  exact aen PySem.W.kitx_dict I.jO ⟨o,h1,h2.1⟩ e (λz=>nomatch z) h
 |@dT a kvs ea =>
  cases(show u=abx a from rx)
  obtain⟨_,_,xs,_,o,es,ep,h1,h2,_⟩:=(show bI X.prog X.w H s.heap a (.dT kvs) from I.hok a _ ea)
  exact aen PySem.W.kitx_dict I.jO ⟨o,h1,h2.1⟩ e (λz=>nomatch z) h
 |@ins a C dx fs ea cl ha hn htk hm =>
  cases(show u=abx a from rx)
  obtain⟨mA,O,_⟩:=Vr I.hok ea
  obtain⟨od,J,_⟩:=O.look
  exact aen (PySem.W.kitx_own (cl.get _) cl.hd ha hn htk hm) I.jO J e (λz=>nomatch z) h
end
structure bQ(k:Nat)(A:Around):Prop where
 hd:A.handled=none
 dp:A.depth+3*k+5<recursionLimit
 un:A.units+16*k+200<cLine
theorem bQ.mono(r:bQ k A)(h:j<=k):bQ j A:=⟨r.hd,by have:=r.dp;omega,by have:=r.un;omega⟩
theorem bQ.deeper(r:bQ (k+1) A)(env:Env):bQ k (A.deeper env) :=
 ⟨r.hd,by have:=r.dp;show A.depth+1+3*k+5<_;omega,by have:=r.un;show A.units+3+16*k+200<_;omega⟩
theorem zNw{A:Around}:(A.under (.builtin "type.__call__" ⟨.ref C::us,kw⟩)).depth=A.depth+1:=by
 first|rfl|simp[af0,Code.weight,Code.isCreation,Code.isGuard,Code.isCaller,Code.frames,af2,guardIds]
theorem zNv{A:Around}:(A.under (.builtin "type.__call__" ⟨.ref C::us,kw⟩)).units=A.units+1:=by
 first|rfl|simp[af0,Code.cUnits,Code.frames,af2]
theorem bQ.make(r:bQ (k+1) A)(C:Addr)(us:List Value)(kw:List (Str×Value)):bQ k (A.under (.builtin "type.__call__" ⟨.ref C::us,kw⟩)) :=
 ⟨r.hd,by have:=r.dp;rw[zNw];omega,by have:=r.un;rw[zNv];omega⟩
theorem bQ.depth(r:bQ k A):A.depth<recursionLimit:=by have:=r.dp;omega
theorem bQ.units(r:bQ k A):A.units+64<cLine:=by have:=r.un;omega
def bh:TA:=λ_ H Q=>Q [] H
def yJ(ta:TE)(tr:TA):TA:=λσ H Q=>ta σ H λx H1=>tr σ H1 λxs H2=>Q (x::xs) H2
section
variable{X:Cx}{e:Expr}{es:List Expr}{te:TE}{t:TA}{pos:Pos}
theorem zE:PA X [] bh:=λ_ _ _ _ H Q I h=>aei ⟨[],H,I,.nil,h⟩
theorem zA(ha:PE X e te)(hr:PA X es t)(hs:starEach (e::es) X.env=(false,eval e X.env)::starEach es X.env:=by rfl):PA X (e::es) (yJ te t):=by
 intro pos pins s σ H Q I h
 rw[hs]
 show wpAny _ _ (spliced ((false,eval e X.env)::backTo pos (starEach es X.env))) _ _ s
 refine aeb (aP (ha pins s σ H _ I h) λu s1 ⟨x,H1,I1,r1,q1⟩=>?_)
 exact aP (hr pos pins s1 σ H1 _ I1 q1) λus s2 ⟨xs,H2,I2,r2,q2⟩=>⟨x::xs,H2,I2,.cons r1 r2,q2⟩
def uh(t:TA):TE:=λσ H Q=>t σ H λxs H1=>xs.length<=sizeLine/\∀p,H1 p=none->Q (.ref p) (upd H1 p (.tup xs))
def Ka(t:TA):TE:=λσ H Q=>t σ H λxs H1=>xs.length<=sizeLine/\∀p,H1 p=none->Q (.ref p) (upd H1 p (.lst xs))
theorem z_{x1}(h:PA X es t):PE X (.Tuple es x1 pos) (uh t):=by
 intro pins s σ H Q I hq
 refine wpAny_Tuple_spliced (aP (h pos pins s σ H _ I hq) λus s1 ⟨xs,H1,I1,r,z,q⟩=>⟨by rw[<-r.length];exact z,?_⟩)
 have hf:H1 s1.heap.objs.size=none:=I1.hok.fresh (aa0 _)
 refine⟨.ref s1.heap.objs.size,upd H1 s1.heap.objs.size (.tup xs),I1.laid (t':=s1.toks) (λb u e=>get?_push_of_some _ e) (aa0 _) ?_,rfl,q _ hf⟩
 exact⟨z,us,r,⟨_,get?_push_size _ rfl,rfl,_,rfl⟩⟩
theorem xV(h:PA X es t):PE X (.List es pos) (Ka t):=by
 intro pins s σ H Q I hq
 refine wpAny_List_spliced (aP (h pos pins s σ H _ I hq) λus s1 ⟨xs,H1,I1,r,z,q⟩=>⟨by rw[<-r.length];exact z,?_⟩)
 have hf:H1 s1.heap.objs.size=none:=I1.hok.fresh (aa0 _)
 refine⟨.ref s1.heap.objs.size,upd H1 s1.heap.objs.size (.lst xs),I1.laid (t':=s1.toks) (λb u e=>get?_push_of_some _ e) (aa0 _) ?_,rfl,q _ hf⟩
 exact⟨z,us,0,r,get?_push_size _ rfl⟩
end
abbrev Sp:=List V->Hp->VK->XK->Prop
abbrev uo:=List Env->Hp->Shared->XK->Value->Shared->Prop
structure rP(P:Program)(w:World)(K:PySem.W.Frag)(mg:Str->Option Value)(base:Heap)(A:Around)(outer:List Env)(s:Shared)(H:Hp):Prop where
 frames:A.frames=some outer
 mod:Mod K mg base
 bs:∀b o,base.get? b=some o->s.heap.get? b=some o/\H b=none
 Dd:base.objs.size<=s.heap.objs.size
 lQ:s.heap.FunFrames base outer
 JC:∀b∈frs outer,H b=none
 hok:gQ P w H s.heap
 bare:AllBare s.gens
def CE(outer:List Env)(P:Program)(w:World)(H:Hp)(s:Shared)(Q:VK)(u:Value)(s':Shared):Prop :=
 ∃v H',s'.os=s.os/\AllBare s'.gens/\Un (frs outer) [] H H' s.heap s'.heap/\gQ P w H' s'.heap/\RelV v u/\Q v H'
def CR(CX:uo)(outer:List Env)(P:Program)(w:World)(H:Hp)(s:Shared)(Q:VK)(E:XK)(r:Result)(s':Shared):Prop :=
 match r with
 |.ok (.ret u)=>CE outer P w H s Q u s'
 |.ok _=>False
 |.error e=>CX outer H s E e s'
structure aq(P:Program)(w:World)(K:PySem.W.Frag)(mg:Str->Option Value)(base:Heap)(CX:uo)(k:Nat)(f:Addr)(fd:FuncData)(ps:List Str)(sp:Sp):Prop where
 len:∀vs H Q E,sp vs H Q E->vs.length=ps.length
 run:∀(A:Around)(outer:List Env)(s:Shared)(H:Hp)(args:Args)(us:List Value)(vs:List V)(Q:VK)(E:XK),bQ k A->rP P w K mg base A outer s H->BindsTo s fd args (ps.zip us)->Vals vs us->sp vs H Q E ->
  codeAny (model P w) A (.call (.ref f) args) (CR CX outer P w H s Q E) s
theorem aq.mono{P:Program}{w:World}{K:PySem.W.Frag}{mg:Str->Option Value}{base:Heap}{CX:uo}{j k:Nat}{f:Addr}{fd:FuncData}{ps:List Str}{sp:Sp}(F:aq P w K mg base CX j f fd ps sp)(h:j<=k) :
  aq P w K mg base CX k f fd ps sp:=⟨F.len,λA outer s H args us vs Q E hr=>F.run A outer s H args us vs Q E (hr.mono h)⟩
theorem aq.imp{P:Program}{w:World}{K:PySem.W.Frag}{mg:Str->Option Value}{base:Heap}{CX:uo}{k:Nat}{f:Addr}{fd:FuncData}{ps:List Str}{sp sp':Sp}(F:aq P w K mg base CX k f fd ps sp)(h:∀vs H Q E,sp' vs H Q E->sp vs H Q E):aq P w K mg base CX k f fd ps sp' :=
 ⟨λvs H Q E q=>F.len vs H Q E (h _ _ _ _ q),λA outer s H args us vs Q E hr he hb hv hs=>F.run A outer s H args us vs Q E hr he hb hv (h _ _ _ _ hs)⟩
theorem rP.make{P:Program}{w:World}{K:PySem.W.Frag}{mg:Str->Option Value}{base:Heap}{A:Around}{outer:List Env}{s:Shared}{H:Hp}(e:rP P w K mg base A outer s H)(C:Addr)(us:List Value)(kw:List (Str×Value)) :
  rP P w K mg base (A.under (.builtin "type.__call__" ⟨.ref C::us,kw⟩)) outer s H:=⟨by first|exact e.frames|(simpa[af0,Code.envs,af2,pushEnvs] using e.frames),e.mod,e.bs,e.Dd,e.lQ,e.JC,e.hok,e.bare⟩
section
variable{X:Cx}{pins:List (Addr×Obj)}{σ:St}{H:Hp}{s s':Shared}
theorem Inv.env0(I:Inv X pins σ H s):rP X.prog X.w X.K X.mg X.base X.A X.stack s H :=
 ⟨I.ok.frames,I.ok.mod,I.bs,aa8 I.ok.Dd I.sz,I.stack,I.sZ,I.hok,I.bare⟩
theorem Inv.after(I:Inv X pins σ H s)(h:CE X.stack X.prog X.w H s Q u s'):EP X pins σ Q u s':=by
 obtain⟨v,H',os,bare,un,hok,r,q⟩:=h
 obtain⟨hh,g,d,t,os'⟩:=s'
 obtain rfl:os'=s.os:=os
 exact⟨v,H',I.call (h':=hh) (g':=g) (d':=d) (t':=t) (ch:=[]) un hok bare (λb z=>absurd z (by simp)),r,q⟩
end
def Cj(sp:Sp)(lJ:List V)(E:XK)(t:TA):TE:=λσ H Q=>t σ H λvs H1=>sp (vs++lJ) H1 Q E
def QW(C:Addr)(m:Str)(sp:Sp)(lJ:List V)(E:XK)(ta:TE)(t:TA):TE:=λσ H Q=>ta σ H λx H1=>∃a dx fs,x=.ref a/\H1 a=some (.ins C dx fs)/\fs.lookup m=none /\
 t σ H1 λvs H2=>sp (x::(vs++lJ)) H2 Q E
def QX(C:Addr)(sp:Sp)(lJ:List V)(E:XK)(t:TA):TE:=λσ H Q=>t σ H λvs H1=>∀x dx,H1 x=none->H1 dx=none->dx≠x ->
 sp (.ref x::(vs++lJ)) (upd (upd H1 dx (.own x)) x (.ins C dx [])) (λv H2=>v=.non/\Q (.ref x) H2) E
def Binds(K:PySem.W.Frag)(fd:FuncData)(ps:List Str)(ds:List Value):Prop :=
 ∀(s:Shared)(us:List Value),K.In s.heap->(us++ds).length=ps.length->BindsTo s fd ⟨us,[]⟩ (ps.zip (us++ds))
theorem Binds.all{K:PySem.W.Frag}{fd:FuncData}{ps:List Str}(h:∀us:List Value,us.length=ps.length->bindArgs fd ⟨us,[]⟩=pure (ps.zip us)):Binds K fd ps []:=λs us _ hl=>by
 rw[append_nil] at hl ⊢
 exact .of_eq (h us hl)
def Dv(CX:uo)(X:Cx)(E:XK):Prop:=∀(pins:List (Addr×Obj))(σ:St)(H:Hp)(s:Shared)(e:Value)(s':Shared),Inv X pins σ H s->CX X.stack H s E e s'->X.xe e s'
section
variable{X:Cx}{CX:uo}{k:Nat}{f C:Addr}{fd:FuncData}{ps:List Str}{sp:Sp}{lJ:List V}{ds:List Value}{E:XK}{x m:Str}{p pos apos:Pos}{e o:Expr}{es:List Expr}{ta:TE}{t:TA}
theorem Vs(F:aq X.prog X.w X.K X.mg X.base CX k f fd ps sp)(hr:bQ k X.A)(hb:Binds X.K fd ps ds)(hd:Vals lJ ds)(hx:Dv CX X E)(I:Inv X pins σ H s)(r:Vals vs us)(h:sp (vs++lJ) H Q E):wpAny (model X.prog X.w) X.A (call (.ref f) us) (EP X pins σ Q) X.xe s:=by
 have r2:Vals (vs++lJ) (us++ds):=r.append hd
 have hl:(us++ds).length=ps.length:=by rw[<-r2.length];exact F.len _ _ _ _ h
 refine wpAny_call (ad1 (F.run X.A X.stack s H ⟨us,[]⟩ (us++ds) (vs++lJ) Q E hr I.env0 (hb s us I.jO hl) r2 h) λr s' hq=>?_)
 cases r with
 |error e=>exact hx pins σ H s e s' I hq
 |ok fl =>
  cases fl with
  |ret u=>exact I.after hq
  |next=>exact ab4 hq
  |brk=>exact ab4 hq
  |cont=>exact ab4 hq
theorem HB(F:aq X.prog X.w X.K X.mg X.base CX k f fd ps sp)(hr:bQ k X.A)(hg:Gl X x)(hm:X.mg x=some (.ref f))(hk:keepIn X.K (.ref f)=true)(hb:Binds X.K fd ps ds)(hd:Vals lJ ds)(hx:Dv CX X E)(ha:PA X (e::es) t)(hdb:(x==("__debug__":Str))=false:=by decide)(he:starEach (e::es) X.env=(false,eval e X.env)::starEach es X.env:=by rfl)(hpl:(backTo pos (starEach es X.env)).any (·.1)=false:=by rfl) :
  PE X (.Call (.Name x p) (e::es) [] pos) (Cj sp lJ E t):=by
 intro pins s σ H Q I h
 refine ab8 (Qy I hg hm ?_ hdb)
 refine afe (h₀:=X.base) I.ok.mod.Ox hk (aP (ha pos pins s σ H _ I h) λus s1 ⟨vs,H1,I1,r,q⟩=>⟨I1.jO,?_⟩) he hpl
 exact Vs F hr hb hd hx I1 r q
theorem Dw(he:PE X o ta)(c:Cls X.K C)(hm:Meth X.K C m f)(F:aq X.prog X.w X.K X.mg X.base CX k f fd ps sp)(hr:bQ k X.A)(hb:Binds X.K fd ps ds)(hd:Vals lJ ds)(hx:Dv CX X E)(ha:PA X (e::es) t)(hst:starEach (e::es) X.env=(false,eval e X.env)::starEach es X.env:=by rfl)(hpl:(backTo pos (starEach es X.env)).any (·.1)=false:=by rfl)(ht:eval (.Call (.Attribute o m apos) (e::es) [] pos) X.env=(do
   let ov <-eval o X.env
   standAt apos.atName
   let(f,first) <-holding [ov] (getMethod ov m pl)
   callWith pos f first (backTo pos (starEach (e::es) X.env)) (backToKw pos (keywordEach [] X.env))):=by rfl) :
  PE X (.Call (.Attribute o m apos) (e::es) [] pos) (QW C m sp lJ E ta t):=by
 intro pins s σ H Q I h
 refine afa (pl:=pl) (aP (he pins s σ H _ I h) λu s1 ⟨x,H1,I1,rx,a,dx,fs,ex,ea,l,q⟩=>?_) ht
 subst ex
 obtain rfl:u=abx a:=rx
 refine zGo I1 ea c hm l ?_
 refine afe (first:=[.ref a]) (h₀:=X.base) I.ok.mod.Ox hm.kp (aP (ha pos pins s1 σ H1 _ I1 q) λus s2 ⟨vs,H2,I2,r,q2⟩=>⟨I2.jO,?_⟩) hst hpl
 exact Vs (us:=.ref a::us) (vs:=.ref a::vs) F hr hb hd hx I2 (.cons rfl r) q2
theorem zTw(he:PE X o ta)(c:Cls X.K C)(hm:Meth X.K C m f)(F:aq X.prog X.w X.K X.mg X.base CX k f fd ps sp)(hr:bQ k X.A)(hb:Binds X.K fd ps ds)(hd:Vals lJ ds)(hx:Dv CX X E)(ht:eval (.Call (.Attribute o m apos) [] [] pos) X.env=(do
   let ov <-eval o X.env
   standAt apos.atName
   let(f,first) <-holding [ov] (getMethod ov m pl)
   callWith pos f first (backTo pos (starEach [] X.env)) (backToKw pos (keywordEach [] X.env))):=by rfl) :
  PE X (.Call (.Attribute o m apos) [] [] pos) (QW C m sp lJ E ta bh):=by
 intro pins s σ H Q I h
 refine afa (pl:=pl) (aP (he pins s σ H _ I h) λu s1 ⟨x,H1,I1,rx,a,dx,fs,ex,ea,l,q⟩=>?_) ht
 subst ex
 obtain rfl:u=abx a:=rx
 refine zGo I1 ea c hm l ?_
 exact PySem.W.callWith_K0 (first:=[.ref a]) I1.jO hm.kp (Vs (us:=[.ref a]) (vs:=[.ref a]) F hr hb hd hx I1 (.cons rfl .nil) q)
structure Mk(K:PySem.W.Frag)(C f:Addr):Prop where
 makes:PySem.W.makesIn K C=true
 init:findIn K (.ref C) "__init__" = some (some (.ref f))
 fn:isFn K (.ref f)=true
 kp:keepIn K (.ref C)=true
theorem zLp(M:Mk X.K C f)(F:aq X.prog X.w X.K X.mg X.base CX k f fd ps sp)(hr:bQ (k+1) X.A)(hb:Binds X.K fd ps ds)(hd:Vals lJ ds)(hx:Dv CX X E)(I:Inv X pins σ H s)(r:Vals vs us)(h:∀x dx,H x=none->H dx=none->dx≠x->sp (.ref x::(vs++lJ)) (upd (upd H dx (.own x)) x (.ins C dx [])) (λv H2=>v=.non/\Q (.ref x) H2) E) :
  wpAny (model X.prog X.w) X.A (call (.ref C) us) (EP X pins σ Q) X.xe s:=by
 have hq:=h (s.heap.objs.size+1) s.heap.objs.size (I.hok.fresh (acq _)) (I.hok.fresh (aa0 _)) (aa5 (acv _))
 have I2:=Inv.made (C:=C) I
 have r2:Vals (V.ref (s.heap.objs.size+1)::(vs++lJ)) (abx (s.heap.objs.size+1)::(us++ds)):=.cons rfl (r.append hd)
 have hl:(abx (s.heap.objs.size+1)::us++ds).length=ps.length:=by
  have e:=r2.length
  rw[F.len _ _ _ _ hq] at e
  exact e.symm
 refine wpAny_call (zUb (f:=f) I.jO M.makes M.init (beq_iff_eq.mp M.fn) (ad1 (F.run _ X.stack _ _ ⟨abx (s.heap.objs.size+1)::us,[]⟩ (abx (s.heap.objs.size+1)::(us++ds)) _ _ E (hr.make C us [])
  (I2.env0.make C us []) (hb _ (abx (s.heap.objs.size+1)::us) I2.jO hl) r2 hq) λr s' hq'=>?_))
 cases r with
 |error e=>exact hx pins σ _ _ e s' I2 hq'
 |ok fl =>
  cases fl with
  |ret u =>
   obtain⟨v,H',I3,rv,ev,q3⟩:=I2.after hq'
   subst ev
   exact⟨rv,⟨V.ref (s.heap.objs.size+1),H',I3,rfl,q3⟩⟩
  |next=>exact ab4 hq'
  |brk=>exact ab4 hq'
  |cont=>exact ab4 hq'
theorem wM(M:Mk X.K C f)(F:aq X.prog X.w X.K X.mg X.base CX k f fd ps sp)(hr:bQ (k+1) X.A)(hg:Gl X x)(hm:X.mg x=some (.ref C))(hb:Binds X.K fd ps ds)(hd:Vals lJ ds)(hx:Dv CX X E)(ha:PA X (e::es) t)(hdb:(x==("__debug__":Str))=false:=by decide)(he:starEach (e::es) X.env=(false,eval e X.env)::starEach es X.env:=by rfl)(hpl:(backTo pos (starEach es X.env)).any (·.1)=false:=by rfl) :
  PE X (.Call (.Name x p) (e::es) [] pos) (QX C sp lJ E t):=by
 intro pins s σ H Q I h
 refine ab8 (Qy I hg hm ?_ hdb)
 refine afe (h₀:=X.base) I.ok.mod.Ox M.kp (aP (ha pos pins s σ H _ I h) λus s1 ⟨vs,H1,I1,r,q⟩=>⟨I1.jO,?_⟩) he hpl
 exact zLp M F hr hb hd hx I1 r q
theorem zTx(M:Mk X.K C f)(F:aq X.prog X.w X.K X.mg X.base CX k f fd ps sp)(hr:bQ (k+1) X.A)(hg:Gl X x)(hm:X.mg x=some (.ref C))(hb:Binds X.K fd ps ds)(hd:Vals lJ ds)(hx:Dv CX X E)(hdb:(x==("__debug__":Str))=false:=by decide):PE X (.Call (.Name x p) [] [] pos) (QX C sp lJ E bh):=by
 intro pins s σ H Q I h
 refine ab8 (Qy I hg hm ?_ hdb)
 exact PySem.W.callWith_K0 I.jO M.kp (zLp (us:=[]) M F hr hb hd hx I .nil h)
end
section
variable{X:Cx}{CX:uo}{k:Nat}{f C:Addr}{fd:FuncData}{ps ks:List Str}{sp:Sp}{E:XK}{x m:Str}{p pos apos kpos:Pos}{e o:Expr}{es:List Expr}{kws:List Keyword}{te ta:TE}{t tk:TA}{nm:Option Str}
structure XS(K:PySem.W.Frag)(fd:FuncData)(ps ks:List Str)(g:List Value->List Value->List Value)(gV:List V->List V->List V):Prop where
 to:∀(s:Shared)(us ws:List Value),K.In s.heap->(g us ws).length=ps.length->BindsTo s fd ⟨us,ks.zip ws⟩ (ps.zip (g us ws))
 rel:∀{vs:List V}{us:List Value}{zs:List V}{ws:List Value},Vals vs us->Vals zs ws->Vals (gV vs zs) (g us ws)
variable{g:List Value->List Value->List Value}{gV:List V->List V->List V}
end
structure ao(N P:List Str)(sc:Scope):Prop where
 kind:sc.kind=.function
 co:sc.isCoroutine=false
 gen:sc.isGenerator=false
 nd:N.Nodup
 pre:N.take P.length=P
 par:∀x∈P,sc.names.lookup x=some .local\/sc.names.lookup x=some .cell
 Kc:∀y∈sc.names,y.2≠.free
theorem zJk{kindOf:Str->Option NameKind}{x:Str}:∀{binds:List (Str×Value)}{m:Str->Option Value},(∀v,(x,v)∉binds)->bindL kindOf binds m x=m x
 |[],_,_=>rfl
 | (n,v)::r,m,h=>by
  unfold bindL
  rw[zJk λw hw=>h w (mem_cons_of_mem _ hw)]
  split
  ·have:x≠n:=by rintro rfl;exact h v mem_cons_self
   simp[this]
  ·rfl
theorem zJm{kindOf:Str->Option NameKind}{x:Str}:∀{binds:List (Str×Value)}{m:Str->Option Value},(∀v,(x,v)∉binds)->bindC kindOf binds m x=m x
 |[],_,_=>rfl
 | (n,v)::r,m,h=>by
  unfold bindC
  rw[zJm λw hw=>h w (mem_cons_of_mem _ hw)]
  split
  ·rfl
  ·have:x≠n:=by rintro rfl;exact h v mem_cons_self
   simp[this]
theorem zJl{kindOf:Str->Option NameKind}:∀{P:List Str}{vs:List Value}{i:Nat}{m:Str->Option Value},P.Nodup->P[i]?=some x->vs[i]?=some v->kindOf x=some .local ->
  bindL kindOf (P.zip vs) m x=some v
 |[],_,_,_,_,h,_,_=>by simp at h
 |_::_,[],_,_,_,_,h,_=>by simp at h
 |p::P,w::vs,0,m,nd,h1,h2,hk=>by
  simp at h1 h2;subst h1;subst h2
  show bindL kindOf ((p,w)::P.zip vs) m p=_
  unfold bindL
  rw[zJk λv hv=>(nodup_cons.mp nd).1 (of_mem_zip hv).1,if_pos hk]
  simp
 |p::P,w::vs,i+1,m,nd,h1,h2,hk=>by
  show bindL kindOf ((p,w)::P.zip vs) m x=_
  unfold bindL
  exact zJl (i:=i) (nodup_cons.mp nd).2 (by simpa using h1) (by simpa using h2) hk
theorem zJn{kindOf:Str->Option NameKind}:∀{P:List Str}{vs:List Value}{i:Nat}{m:Str->Option Value},P.Nodup->P[i]?=some x->vs[i]?=some v->kindOf x≠some .local ->
  bindC kindOf (P.zip vs) m x=some v
 |[],_,_,_,_,h,_,_=>by simp at h
 |_::_,[],_,_,_,_,h,_=>by simp at h
 |p::P,w::vs,0,m,nd,h1,h2,hk=>by
  simp at h1 h2;subst h1;subst h2
  show bindC kindOf ((p,w)::P.zip vs) m p=_
  unfold bindC
  rw[zJm λv hv=>(nodup_cons.mp nd).1 (of_mem_zip hv).1,if_neg hk]
  simp
 |p::P,w::vs,i+1,m,nd,h1,h2,hk=>by
  show bindC kindOf ((p,w)::P.zip vs) m x=_
  unfold bindC
  exact zJn (i:=i) (nodup_cons.mp nd).2 (by simpa using h1) (by simpa using h2) hk
def start(N:List Str)(vs:List V):St:=vs.map some++replicate (N.length-vs.length) none
def oM(CX:uo)(P:Program)(w:World)(K:PySem.W.Frag)(mg:Str->Option Value)(base:Heap)(N:List Str)(qual:Str)(scope:Scope)(f:Addr)(cd:Value)(A:Around)(outer:List Env)(s:Shared)(H:Hp)(E:XK):Cx where
 prog:=P
 w:=w
 K:=K
 mg:=mg
 base:=base
 A:=A.deeper (envOfC qual scope s.heap.objs.size f cd)
 N:=N
 s₀:=s
 H₀:=H
 env:=envOfC qual scope s.heap.objs.size f cd
 outer:=outer
 stack:=envOfC qual scope s.heap.objs.size f cd::outer
 ex:=[]
 calm:=true
 fn:=λ_=>true
 pn:=[]
 xe:=λe s'=>wpAny (model P w) (A.deeper (envOfC qual scope s.heap.objs.size f cd)) (leaving (envOfC qual scope s.heap.objs.size f cd) e) (λ_ s''=>CX outer H s E e s'') (λe' s''=>CX outer H s E e' s'') s'
theorem zMp{sc:Scope}(h:sc.names.lookup x=some .cell):∃c,(cellsFrom n sc.names []).lookup x=some c:=by
 have q:=ady sc.names n [] (.inl h)
 exact abz.mp q
theorem zQ5{CX:uo}{P:Program}{w:World}{K:PySem.W.Frag}{mg:Str->Option Value}{base:Heap}{N ps:List Str}{qual:Str}{scope:Scope}{f:Addr}{cd:Value}{A:Around}{outer:List Env}{s s1:Shared}{H:Hp}{E:XK}{us:List Value}{vs:List V}(S:ao N ps scope)(hd:A.handled=none)(e0:rP P w K mg base A outer s H)(hl:vs.length=ps.length)(r:Vals vs us)(x:InCallC s s.heap.objs.size (bindL (envOfC qual scope s.heap.objs.size f cd).kindOf (ps.zip us) λ_=>none) (cellsFrom (s.heap.objs.size+1) scope.names []) (bindC (envOfC qual scope s.heap.objs.size f cd).kindOf (ps.zip us) λ_=>none) s1) :
  Inv (oM CX P w K mg base N qual scope f cd A outer s H E) [] (start N vs) H s1:=by
 have hpl:ps.length<=N.length:=by have:=congrArg List.length S.pre;rw[length_take] at this;omega
 obtain⟨h1,tk,rfl,hk⟩:=x.done
 have QZ:∀b:Addr,b∉(oM CX P w K mg base N qual scope f cd A outer s H E).ex:=λb z=>absurd (show b∈([]:List Addr) from z) (by simp)
 refine⟨⟨e0.mod,S.kind,rfl,rfl,aa0 _,λy z c h1 h2=>?_,λy hy=>?_,λy c _ h=>?_,λ_=>hd,Around.frames_deeper e0.frames,.inr ⟨rfl,rfl⟩,λb z=>absurd z (QZ b),e0.bs,e0.Dd,λb _ _=>QZ b,λb z=>absurd z (QZ b),e0.lQ,e0.JC⟩,
  rfl,e0.bare,Un.kept hk,⟨_,x.toInCall.ns,λi y v h1 h2 h3=>?_⟩,λy c h=>⟨_,x.cell y c h⟩,e0.hok.fresh (aa0 _),λy c h=>?_,λp hp=>absurd (show p∈([]:List (Addr×Obj)) from hp) (by simp),e0.hok.kept hk,?_⟩
 ·exact name_of_addr x.apart (ab5 h1) (ab5 h2)
 ·have hy:scope.names.lookup y=some .cell\/scope.names.lookup y=some .free:=hy
  rcases hy with hy|hy
  ·exact zMp hy
  ·exact absurd rfl (S.Kc _ (ab5 hy))
 ·exact acf (x.above y c (ab5 h))
 ·have hi:i<vs.length:=by
   unfold start at h2
   by_cases hi:i<vs.length
   ·exact hi
   ·rw[getElem?_append_right (by simpa using hi)] at h2
    rw[getElem?_replicate] at h2
    split at h2<;>cases h2
  have ha:vs[i]?=some v:=by
   unfold start at h2
   rw[getElem?_append_left (by simpa using hi),getElem?_map] at h2
   cases e:vs[i]? with
   |none=>rw[e] at h2;cases h2
   |some a=>rw[e] at h2;cases h2;rfl
  obtain⟨u,hu,rv⟩:=r.get ha
  have hp:ps[i]?=some y:=by
   rw[<-S.pre,getElem?_take_of_lt (by omega)];exact h1
  have ndP:ps.Nodup:=by rw[<-S.pre];exact S.nd.sublist (List.take_sublist _ _)
  refine⟨u,rv,?_⟩
  rcases S.par y (mem_of_getElem? hp) with k|k
  ·exact .inl ⟨k,zJl ndP hp hu k⟩
  ·obtain⟨c,e⟩:=zMp (n:=s.heap.objs.size+1) k
   refine .inr ⟨.inl k,c,e,?_⟩
   have q:=x.cell y c e
   rw[zJn ndP hp hu (by show scope.names.lookup y≠_;rw[k];decide)] at q
   exact q
 ·exact e0.hok.fresh (acf (x.above y c (ab5 h)))
 ·unfold start
  show _=N.length
  rw[length_append,length_map,List.length_replicate]
  omega
theorem HD{CX:uo}{P:Program}{w:World}{K:PySem.W.Frag}{mg:Str->Option Value}{base:Heap}{k:Nat}{f:Addr}{name qual:Str}{params:Arguments}{body:List Stmt}{scope:Scope}{dV kV doc pm cdv ct oc:Value}{an od:Option Addr}{osl:Array (Option Value)}{N ps:List Str}{sp:Sp}(lk:K.lookup f=some ⟨oc,od,.func (fnOf name qual params body scope dV kV doc pm an cdv ct),osl⟩)(hcd:codeIn K cdv qual=true)(S:ao N ps scope)(len:∀vs H Q E,sp vs H Q E->vs.length=ps.length)(hbody:∀(A:Around) (outer:List Env) (s:Shared) (H:Hp) (vs:List V) (Q:VK) (E:XK),bQ k (A.deeper (envOfC qual scope s.heap.objs.size f cdv))->sp vs H Q E ->
   ∃t,qz (oM CX P w K mg base N qual scope f cdv A outer s H E) body t/\t { nx:=λ_ H'=>Q .non H',rt:=Q } (start N vs) H) :
  aq P w K mg base CX (k+1) f (fnOf name qual params body scope dV kV doc pm an cdv ct) ps sp:=by
 refine⟨len,λA outer s H args us vs Q E hr e0 hb r hsp=>?_⟩
 have hl:=len _ _ _ _ hsp
 have KX:K.In s.heap:=e0.mod.Ox.keeps λb o e=>(e0.bs b o e).1
 have lim:s.heap.NoLimit:=e0.mod.nolimit.keeps λb o e=>(e0.bs b o e).1
 have hkind:∀y∈ps.zip us,scope.names.lookup y.1=some .local\/(scope.names.lookup y.1=some .cell/\((cellsFrom (s.heap.objs.size+1) scope.names []).lookup y.1).isSome=true):=λ⟨n,v⟩ hy=>by
  rcases S.par n (of_mem_zip hy).1 with q|q
  ·exact .inl q
  ·exact .inr ⟨q,ady _ _ _ (.inl q)⟩
 refine codeAny_call_function hr.depth (KX _ _ lk) rfl S.co S.gen rfl (PySem.W.codeRec_of KX hcd) (hb _ _ _ _ ?_)
 refine wpAny_newFunctionEnv_cells S.kind hkind λenv he s1 x=>?_
 subst he
 refine⟨lim.keeps x.toInCall.keep,codeAny_func ?_⟩
 obtain⟨t,ht,hq⟩:=hbody A outer s H vs Q E (hr.deeper _) hsp
 have I:Inv (oM CX P w K mg base N qual scope f cdv A outer s H E) [] (start N vs) H s1:=zQ5 S hr.hd e0 hl r x
 refine aco (ht [] s1 (start N vs) H _ I hq) (λfl s' hs=>?_) λe s' hs=>hs
 have fin:∀{σ':St}{H':Hp}{v:V}{u:Value},Inv (oM CX P w K mg base N qual scope f cdv A outer s H E) [] σ' H' s'->RelV v u->Q v H'->CE outer P w H s Q u s' :=
  λ{σ' H' v u} J rv q=>⟨v,H',J.os,J.bare,J.base,J.hok,rv,q⟩
 cases fl with
 |ret u =>
  obtain⟨v,σ',H',J,rv,q⟩:=hs
  exact fin J rv q
 |next =>
  obtain⟨σ',H',J,q⟩:=hs
  exact fin (v:=V.non) (u:=ac4) J rfl q
 |brk =>
  obtain⟨_,_,_,q⟩:=hs
  exact ab4 q
 |cont =>
  obtain⟨_,_,_,q⟩:=hs
  exact ab4 q
section
variable{X:Cx}{x:Str}{p pos:Pos}{e:Expr}{es:List Expr}{t:TA}{id T:String}{r:List V->Hp->VK->Prop}
def tu(r:List V->Hp->VK->Prop)(t:TA):TE:=λσ H Q=>t σ H λvs H1=>r vs H1 Q
theorem zR(hc:rK X (.builtin id) r)(hg:Gl X x)(hm:X.mg x=none)(hv:bootBuiltins x=some (.builtin id))(ha:PA X (e::es) t)(hn:x ≠ "__name__":=by decide)(hdb:(x==("__debug__":Str))=false:=by decide)(he:starEach (e::es) X.env=(false,eval e X.env)::starEach es X.env:=by rfl)(hpl:(backTo pos (starEach es X.env)).any (·.1)=false:=by rfl):PE X (.Call (.Name x p) (e::es) [] pos) (tu r t):=by
 intro pins s σ H Q I h
 refine ab8 (uc I hg hm hv ?_ hn hdb)
 exact PyProof.Rows.callWith_builtin1 (aP (ha pos pins s σ H _ I h) λus s1 ⟨vs,H1,I1,r1,q1⟩=>hc pins s1 σ H1 vs us Q I1 r1 q1) he hpl
theorem O8(hc:rK X (.type T) r)(hg:Gl X x)(hm:X.mg x=none)(hv:bootBuiltins x=some (.type T))(ha:PA X (e::es) t)(hn:x ≠ "__name__":=by decide)(hdb:(x==("__debug__":Str))=false:=by decide)(he:starEach (e::es) X.env=(false,eval e X.env)::starEach es X.env:=by rfl)(hpl:(backTo pos (starEach es X.env)).any (·.1)=false:=by rfl):PE X (.Call (.Name x p) (e::es) [] pos) (tu r t):=by
 intro pins s σ H Q I h
 refine ab8 (uc I hg hm hv ?_ hn hdb)
 exact abk (aP (ha pos pins s σ H _ I h) λus s1 ⟨vs,H1,I1,r1,q1⟩=>hc pins s1 σ H1 vs us Q I1 r1 q1) he hpl
end
section
variable{κ:Type}[DecidableEq κ]
def h_(kvs:List (κ×V))(k:κ):Option V:=(kvs.find? λkv=>decide (kv.1=k)).map (·.2)
def putK(kvs:List (κ×V))(k:κ)(v:V):List (κ×V) :=
 if(kvs.any λkv=>decide (kv.1=k))=true then kvs.map (λkv=>if kv.1=k then(kv.1,v) else kv) else kvs++[(k,v)]
theorem X3{p:κ×V}{r:List (κ×V)}{k:κ}(e:p.1=k):h_ (p::r) k=some p.2:=by simp[h_,find?_cons,e]
theorem X4{p:κ×V}{r:List (κ×V)}{k:κ}(e:¬p.1=k):h_ (p::r) k=h_ r k:=by simp[h_,find?_cons,e]
theorem zLh(k:κ):∀kvs:List (κ×V),(kvs.any λkv=>decide (kv.1=k))=(h_ kvs k).isSome
 |[]=>rfl
 |p::r=>by
  rw[any_cons]
  by_cases e:p.1=k
  ·simp only[X3 e,decide_eq_true e,Bool.true_or,aec]
  ·rw[X4 e,decide_eq_false e,aev];exact zLh k r
theorem zFb(kvs:List (κ×V))(k:κ)(v:V):(putK kvs k v).length<=kvs.length+1:=by
 unfold putK
 split
 ·rw[length_map];omega
 ·rw[length_append,length_cons,length_nil];omega
theorem iY.fV(r:iY o u):o.isSome=u.isSome:=by
 cases o with
 |none=>cases u with
  |none=>rfl
  |some _=>exact(show False from r).elim
 |some _=>cases u with
  |none=>exact(show False from r).elim
  |some _=>rfl
theorem iY.getD(r:iY o u)(rd:RelV d d'):RelV (o.getD d) (u.getD d'):=by
 cases o with
 |none=>cases u with
  |none=>exact rd
  |some _=>exact(show False from r).elim
 |some _=>cases u with
  |none=>exact(show False from r).elim
  |some _=>exact r
theorem KV.val(r:KV kvs vs)(k:κ):iY (h_ kvs k) (valueAt vs k):=by
 unfold KV at r
 induction r with
 |nil=>exact adg
 |@cons p q ps qs h t ih =>
  obtain⟨h1,h2⟩:=h
  by_cases e:p.1=k
  ·have e':q.1=k:=h1.symm.trans e
   have b:valueAt (q::qs) k=some q.2:=by simp[valueAt,find?_cons,e']
   rw[X3 e,b];exact h2
  ·have e':¬q.1=k:=λz=>e (h1.trans z)
   have b:valueAt (q::qs) k=valueAt qs k:=by simp[valueAt,find?_cons,e']
   rw[X4 e,b];exact ih
theorem KV.any(r:KV kvs vs)(k:κ):(kvs.any λkv=>decide (kv.1=k))=vs.any λkv=>decide (kv.1=k):=by
 unfold KV at r
 induction r with
 |nil=>rfl
 |cons h t ih=>rw[any_cons,any_cons,ih,h.1]
theorem KV.repl(r:KV kvs vs)(k:κ)(ry:RelV y u) :
  KV (kvs.map λkv=>if kv.1=k then(kv.1,y) else kv) (vs.map λkv=>if kv.1=k then(kv.1,u) else kv):=by
 unfold KV at r ⊢
 induction r with
 |nil=>exact .nil
 |@cons p q ps qs h t ih =>
  rw[map_cons,map_cons]
  refine .cons ?_ ih
  obtain⟨h1,h2⟩:=h
  by_cases e:p.1=k
  ·rw[if_pos e,if_pos (h1.symm.trans e)];exact⟨h1,ry⟩
  ·rw[if_neg e,if_neg (λz=>e (h1.trans z))];exact⟨h1,h2⟩
theorem KV.put(r:KV kvs vs)(k:κ)(ry:RelV y u):KV (putK kvs k y) (stored vs k u):=by
 unfold putK stored
 rw[r.any k]
 by_cases e:(vs.any λkv=>decide (kv.1=k))=true
 ·rw[if_pos e,if_pos e];exact r.repl k ry
 ·rw[if_neg e,if_neg e];exact aga r ⟨rfl,ry⟩
theorem KV.length(r:KV kvs vs):kvs.length=vs.length:=ae8 r
end
theorem Vt(r:RelV (kV k) u):(vC P w).is k u=true:=by
 cases k with
 |inl i=>obtain⟨t,e⟩:=(show∃t,u=acj i t from r);subst e;exact zKp P w i t
 |inr x=>obtain⟨t,e⟩:=(show∃t,u=afr x t from r);subst e;exact zKo P w x t
theorem zI1:∀{ks:List Key}{us:List Value},Vals (ks.map kV) us->ItemsAre (vC P w) ks us
 |[],_,r=>by rw[List.map_nil] at r;cases r;exact .nil
 |k::ks,_,r=>by
  rw[map_cons] at r
  cases r with
  |cons h t=>exact .cons (Vt h) (zI1 t)
abbrev KT(H:Hp):List (List Key×V)->List (List Key×Addr×Value)->Prop:=Paired λp q=>p.1=q.1/\H q.2.1=some (.tup (p.1.map kV))/\RelV p.2 q.2.2
theorem KT.val(r:KT H kvs xs)(k:List Key):iY (h_ kvs k) ((atKey xs k).map (·.2)):=by
 induction r with
 |nil=>exact adg
 |@cons p q ps qs h t ih =>
  obtain⟨h1,_,h2⟩:=h
  by_cases e:p.1=k
  ·have e':q.1=k:=h1.symm.trans e
   have b:atKey (q::qs) k=some q.2:=by simp[atKey,find?_cons,e']
   rw[X3 e,b];exact h2
  ·have e':¬q.1=k:=λz=>e (h1.trans z)
   have b:atKey (q::qs) k=atKey qs k:=by simp[atKey,find?_cons,e']
   rw[X4 e,b];exact ih
theorem KT.repl(r:KT H kvs xs)(k:List Key)(ry:RelV y u) :
  KT H (kvs.map λkv=>if kv.1=k then(kv.1,y) else kv) (xs.map (putAt k u)):=by
 induction r with
 |nil=>exact .nil
 |@cons p q ps qs h t ih =>
  rw[map_cons,map_cons]
  refine .cons ?_ ih
  obtain⟨h1,h2,h3⟩:=h
  unfold putAt
  by_cases e:p.1=k
  ·rw[if_pos e,if_pos (h1.symm.trans e)];exact⟨h1,h2,ry⟩
  ·rw[if_neg e,if_neg (λz=>e (h1.trans z))];exact⟨h1,h2,h3⟩
theorem KT.put(r:KT H kvs xs)(k:List Key)(hb:H b=some (.tup (k.map kV)))(ry:RelV y u) :
  KT H (putK kvs k y) (storedH xs k b u):=by
 have e:(kvs.any λkv=>decide (kv.1=k))=(atKey xs k).isSome:=by
  rw[zLh,(r.val k).fV,ae4]
 unfold putK storedH
 rw[e]
 by_cases q:(atKey xs k).isSome=true
 ·rw[if_pos q,if_pos q];exact r.repl k ry
 ·rw[if_neg q,if_neg q];exact aga r ⟨rfl,hb,ry⟩
theorem KT.keeps(r:KT H kvs xs)(ht:∀b ys,H b=some (.tup ys)->H' b=some (.tup ys)):KT H' kvs xs :=
 Paired.JB r λ_ _ z=>⟨z.1,ht _ _ z.2.1,z.2.2⟩
section
variable{P:Program}{w:World}{H:Hp}{h:Heap}{a:Addr}
theorem HF(ok:gQ P w H h)(e:Rd H a u):bI P w H h a u:=e.ok ok
theorem Aa(ok:gQ P w H h)(e:Rd H a (.dK kvs)):kvs.length<=sizeLine/\(a==sysModules)=false/\∃vs,KV kvs vs/\h.DictOf (vC P w) a vs :=
 show bI P w H h a (.dK kvs) from HF ok e
theorem Q_(ok:gQ P w H h)(e:H a=some (.dK kvs)):kvs.length<=sizeLine/\(a==sysModules)=false/\∃vs,KV kvs vs/\h.DictOf (vC P w) a vs:=Aa ok (.inl e)
theorem Vu{ks:List Key}(ok:gQ P w H h)(e:H a=some (.tup (ks.map kV))):(tupleKind (vC P w)).is h ks a:=by
 obtain⟨_,its,r,o,h1,h2,n,h3⟩:=(show bI P w H h a (.tup (ks.map kV)) from ok a _ e)
 exact⟨o,its.toArray,n,h1,h2,h3,by simpa using zI1 r⟩
theorem Ab(ok:gQ P w H h)(e:Rd H a (.dT kvs)):kvs.length<=sizeLine/\(a==sysModules)=false /\
  ∃xs,KT H kvs xs/\h.DictOfH (tupleKind (vC P w)) a xs:=by
 obtain⟨z,y,xs,r,o,es,ep,h1,h2,h3,h4,h5⟩:=(show bI P w H h a (.dT kvs) from HF ok e)
 refine⟨z,y,xs,r,o,es,ep,h1,h2,h3,h4,λx hx=>?_,h5⟩
 have all:∀{l:List (List Key×V)}{m:List (List Key×Addr×Value)},KT H l m->∀x∈m,(tupleKind (vC P w)).is h x.1 x.2.1:=by
  intro l m q
  induction q with
  |nil=>intro x hx;exact nomatch hx
  |@cons p q ps qs hq t ih =>
   intro x hx
   rcases mem_cons.mp hx with e|hx
   ·subst e
    exact Vu ok (by rw[<-hq.1];exact hq.2.1)
   ·exact ih x hx
 exact all r x hx
theorem Ra(ok:gQ P w H h)(e:H a=some (.dT kvs)):kvs.length<=sizeLine/\(a==sysModules)=false /\
  ∃xs,KT H kvs xs/\h.DictOfH (tupleKind (vC P w)) a xs:=Ab ok (.inl e)
end
def pY(H:Hp)(a:Addr)(y:V)(r:Option V):Prop :=
 (∃kvs k,Rd H a (.dK kvs)/\y=kV k/\r=h_ kvs k)\/∃kvs k b,Rd H a (.dT kvs)/\y=.ref b/\H b=some (.tup (k.map kV))/\r=h_ kvs k
def uq(H:Hp)(a:Addr)(y v:V)(H':Hp):Prop :=
 (∃kvs k,H a=some (.dK kvs)/\y=kV k/\kvs.length<sizeLine/\H'=upd H a (.dK (putK kvs k v))) \/
 ∃kvs k b,H a=some (.dT kvs)/\y=.ref b/\H b=some (.tup (k.map kV))/\kvs.length<sizeLine/\H'=upd H a (.dT (putK kvs k v))
theorem pY.k{H:Hp}{a:Addr}{kvs:List (Key×V)}{k:Key}(e:H a=some (.dK kvs)):pY H a (kV k) (h_ kvs k):=.inl ⟨kvs,k,.inl e,rfl,rfl⟩
theorem uq.k{H:Hp}{a:Addr}{kvs:List (Key×V)}{k:Key}{v:V}(e:H a=some (.dK kvs))(hl:kvs.length<sizeLine):uq H a (kV k) v (upd H a (.dK (putK kvs k v))):=.inl ⟨kvs,k,e,rfl,hl,rfl⟩
section
variable{X:Cx}{pins:List (Addr×Obj)}{σ:St}{H:Hp}{s:Shared}{a:Addr}{y v:V}{u r:Value}{o:Option V}{A:Around}{E:Value->Shared->Prop}
theorem Inv.big(I:Inv X pins σ H s):sysModules<s.heap.objs.size:=by
 have h:abl<s.heap.objs.size:=(I.mod.glob.keeps I.bk).lt
 exact aek (by decide) h
theorem X5{Q:Value->Shared->Prop}(hu:A.units+1<cLine)(I:Inv X pins σ H s)(g:pY H a y o)(ry:RelV y u)(h:∀s',Inv X pins σ H s'->Q (.bool o.isSome) s') :
  wpAny (model X.prog X.w) A (compareOp .In u (.ref a)) Q E s:=by
 rcases g with⟨kvs,k,e,ey,l⟩|⟨kvs,k,b,e,ey,eb,l⟩
 ·subst ey
  obtain⟨z,hd,vs,rel,dd⟩:=Aa I.hok e
  refine wpAny_in_of (Vt ry) hd dd.mapOf ?_
  rw[<-(rel.val k).fV,<-l]
  exact h _ (I.tok _)
 ·subst ey
  cases(show u=abx b from ry)
  obtain⟨z,hd,xs,rel,dd⟩:=Ab I.hok e
  refine wpAny_in_heap (ae0 hu) (Vu I.hok eb) hd dd ?_
  have q:=(rel.val k).fV
  rw[ae4] at q
  rw[<-q,<-l]
  exact h _ (I.tok _)
theorem Dy{Q:Value->Shared->Prop}(hu:A.units+1<cLine)(I:Inv X pins σ H s)(g:pY H a y o)(ry:RelV y u)(h:∀s',Inv X pins σ H s'->Q (.bool (!o.isSome)) s') :
  wpAny (model X.prog X.w) A (compareOp .NotIn u (.ref a)) Q E s:=by
 rcases g with⟨kvs,k,e,ey,l⟩|⟨kvs,k,b,e,ey,eb,l⟩
 ·subst ey
  obtain⟨z,hd,vs,rel,dd⟩:=Aa I.hok e
  refine wpAny_notIn_of (Vt ry) hd dd.mapOf ?_
  rw[<-(rel.val k).fV,<-l]
  exact h _ (I.tok _)
 ·subst ey
  cases(show u=abx b from ry)
  obtain⟨z,hd,xs,rel,dd⟩:=Ab I.hok e
  refine wpAny_notIn_heap (ae0 hu) (Vu I.hok eb) hd dd ?_
  have q:=(rel.val k).fV
  rw[ae4] at q
  rw[<-q,<-l]
  exact h _ (I.tok _)
theorem zR0(I:Inv X pins σ H s)(mu:Qt (H a))(hs:SameBut a s.heap h')(he:∃q,h'.get? a=some q)(new:bI X.prog X.w (upd H a ob) h' a ob) :
  Inv X pins σ (upd H a ob) { s with heap:=h',toks:=t' } :=
 I.write (x:=a) (e:=a) mu (.inl rfl) (λb q hb z=>(hs.2 b hb).trans z) he new
theorem Kd{h':Heap}{kvs:List (Key×V)}(z:kvs.length<=sizeLine)(hd:(a==sysModules)=false)(rel:KV kvs vs)(dd:h'.DictOf (vC P w) a vs) :
  bI P w H' h' a (.dK kvs):=⟨z,hd,vs,rel,dd⟩
theorem zR1{Q:Unit->Shared->Prop}(hu:A.units+1<cLine)(I:Inv X pins σ H s)(g:uq H a y v H')(ry:RelV y u)(rv:RelV v r)(h:∀s',Inv X pins σ H' s'->Q () s') :
  wpAny (model X.prog X.w) A (setItem (.ref a) u r) Q E s:=by
 rcases g with⟨kvs,k,e,ey,l,eH⟩|⟨kvs,k,b,e,ey,eb,l,eH⟩
 ·subst ey eH
  obtain⟨z,hd,vs,rel,dd⟩:=Q_ I.hok e
  have hz:vs.length<=sizeLine:=by rw[<-rel.length];exact z
  have hl:(putK kvs k v).length<=sizeLine:=by have:=zFb kvs k v;omega
  refine wpAny_setItem_pairs (hsz:=hz) (Vt ry) dd λh' Vv hs=>h _ ?_
  have he:∃q,h'.get? a=some q:=let⟨q,_,_,hq,_⟩:=Vv;⟨q,hq⟩
  exact zR0 I (by rw[e];exact adg) hs he (Kd hl hd (rel.put k rv) Vv)
 ·subst ey eH
  cases(show u=abx b from ry)
  obtain⟨z,hd,xs,rel,dd⟩:=Ra I.hok e
  have hz:xs.length<=sizeLine:=by rw[<-ae8 rel];exact z
  have hl:(putK kvs k v).length<=sizeLine:=by have:=zFb kvs k v;omega
  refine wpAny_setItem_heap (hsz:=hz) (ae0 hu) (Vu I.hok eb) dd λh' Vv hs=>h _ ?_
  obtain⟨q,es,ep,hq,h2,h3,h4,_,h5⟩:=Vv
  refine zR0 I (by rw[e];exact adg) hs ⟨q,hq⟩ ⟨hl,hd,_,(rel.put k eb rv).keeps λc ys ec=>?_,q,es,ep,hq,h2,h3,h4,h5⟩
  rw[zP (Hq ec e (λz=>nomatch z))]
  exact ec
end
section
variable{X:Cx}{pins:List (Addr×Obj)}{σ:St}{H:Hp}{s:Shared}{a:Addr}{kvs:List (Key×V)}{k:Key}{u:Value}{A:Around}{E:Value->Shared->Prop}
end
def Ke(ty td:TE):TE:=λσ H Q=>ty σ H λy H1=>td σ H1 λx H2=>∃a o,x=.ref a/\pY H2 a y o/\Q (.bl o.isSome) H2
def zO7(ty td:TE):TE:=λσ H Q=>ty σ H λy H1=>td σ H1 λx H2=>∃a o,x=.ref a/\pY H2 a y o/\Q (.bl (!o.isSome)) H2
def Ac(td ty tv:TE):TS:=λD σ H=>tv σ H λv H1=>td σ H1 λx H2=>ty σ H2 λy H3=>∃a H4,x=.ref a/\uq H3 a y v H4/\D.nx σ H4
section
variable{X:Cx}{o i e value:Expr}{pos pos' tpos:Pos}{td ty tv:TE}
theorem zVw(hu:X.A.units+1<cLine)(hi:PE X i ty)(ho:PE X o td):PC X .In i o (Ke ty td):=by
 intro pins s σ H Q I h
 refine aP (hi pins s σ H _ I h) λiv s1 ⟨y,H1,I1,ry,q1⟩=>aP (ho pins s1 σ H1 _ I1 q1) λu s2 ⟨x,H2,I2,rx,a,ov,ex,g,q2⟩=>?_
 subst ex
 obtain rfl:u=abx a:=rx
 exact X5 hu I2 g ry λs3 I3=>⟨.bl ov.isSome,H2,I3,rfl,q2⟩
theorem zP7(hu:X.A.units+1<cLine)(hi:PE X i ty)(ho:PE X o td):PC X .NotIn i o (zO7 ty td):=by
 intro pins s σ H Q I h
 refine aP (hi pins s σ H _ I h) λiv s1 ⟨y,H1,I1,ry,q1⟩=>aP (ho pins s1 σ H1 _ I1 q1) λu s2 ⟨x,H2,I2,rx,a,ov,ex,g,q2⟩=>?_
 subst ex
 obtain rfl:u=abx a:=rx
 exact Dy hu I2 g ry λs3 I3=>⟨.bl (!ov.isSome),H2,I3,rfl,q2⟩
theorem X6(hu:X.A.units+1<cLine)(ho:PE X o td)(hi:PE X i ty)(hv:PE X value tv)(hs:swapsWith value (some (.Subscript o i pos')) pos.line X.env=pure false) :
  PS X (.Assign [.Subscript o i pos'] value pos) (Ac td ty tv):=by
 intro pins s σ H D I h
 refine wpAny_Assign_Subscript (aP (hv pins s σ H _ I h) λr s1 ⟨v,H1,I1,rv,q1⟩=>aP (ho pins s1 σ H1 _ I1 q1) λu s2 ⟨x,H2,I2,rx,q2⟩=>aP (hi pins s2 σ H2 _ I2 q2) λiv s3 ⟨y,H3,I3,ry,a,H4,ex,g,q3⟩=>?_) hs
 subst ex
 obtain rfl:u=abx a:=rx
 exact zR1 hu I3 g ry rv λs4 I4=>⟨σ,H4,I4,q3⟩
end
theorem zUw(h:Heap)(hb:sysModules<h.objs.size):bI P w H (h.push { cls:=.type "dict",data:=.dict #[] }) h.objs.size (.dK []) :=
 ⟨abj _,beq_eq_false_iff_ne.mpr (ac2 (aa5 hb)),[],.nil,Heap.DictOf.new h⟩
def zVi:TE:=λ_ H Q=>∀p,H p=none->Q (.ref p) (upd H p (.dK []))
section
variable{X:Cx}{pos:Pos}
theorem X7:PE X (.Dict [] [] pos) zVi:=λpins s σ H Q I h =>
 wpAny_Dict_empty ⟨.ref s.heap.objs.size,_,I.laid (a:=s.heap.objs.size) (o:=.dK []) (t':=s.toks) (λ_ _ q=>get?_push_of_some _ q) (aa0 _) (zUw s.heap I.big),rfl,h _ (I.hok.fresh (aa0 _))⟩
end
structure M1(X:Cx)(o:Expr)(m:Str)(apos:Pos)(e:Expr)(cpos:Pos):Prop where
 base:attributeBase o m X.env (eval o X.env)=eval o X.env
 few:((backTo cpos (starEach [e] X.env)).all (λx=>!x.1)&&(backToKw cpos (keywordEach [] X.env)).all (λx=>x.1.isSome)
  && decide (([e]:List Expr).length+([]:List Keyword).length+(if([]:List Keyword).isEmpty then 0 else 1)<30))=true
 line:(apos.endLine==cpos.line)=true
 trees:backTo cpos (starEach [e] X.env)=[(false,eval e X.env)]
structure M2(X:Cx)(o:Expr)(m:Str)(apos:Pos)(e f:Expr)(cpos:Pos):Prop where
 base:attributeBase o m X.env (eval o X.env)=eval o X.env
 few:((backTo cpos (starEach [e,f] X.env)).all (λx=>!x.1)&&(backToKw cpos (keywordEach [] X.env)).all (λx=>x.1.isSome)
  && decide (([e,f]:List Expr).length+([]:List Keyword).length+(if([]:List Keyword).isEmpty then 0 else 1)<30))=true
 line:(apos.endLine==cpos.line)=true
 trees:backTo cpos (starEach [e,f] X.env)=[(false,eval e X.env),(false,eval f X.env)]
section
variable{X:Cx}{pins:List (Addr×Obj)}{σ:St}{H:Hp}{s:Shared}{a:Addr}{y d:V}{u r:Value}{o:Option V}{A:Around}{E:Value->Shared->Prop}
end
section
variable{X:Cx}{o e f:Expr}{apos cpos:Pos}{td ty tx:TE}
end
section
variable{X:Cx}{pins:List (Addr×Obj)}{σ:St}{H:Hp}{s:Shared}{a:Addr}{kvs:List (Key×V)}{A:Around}{E:Value->Shared->Prop}
end
section
variable{X:Cx}{pins:List (Addr×Obj)}{σ:St}{H:Hp}{s:Shared}{a:Addr}{y:V}{u:Value}{A:Around}{E:Value->Shared->Prop}
end
end L2
namespace HT
open PySem PyProof.Rows
section
open PySem.SeqAt
open PySem.AutoSeq1 (wpAny_loadPart')
open PySem.MeetsSeq PySem.MeetsSeq2 PySem.MeetsSeq3
end
section
variable{prog:Program}{w:World}{A:Around}{E:Value->Shared->Prop}{s:Shared}
def cL(n d:Nat):Option Int->Nat
 |none=>d
 |some v=>if v<0 then(v+(n:Int)).toNat else min v.toNat n
theorem Dz(n d k:Nat):cL n d (some (k:Int))=min k n:=by
 show(if(k:Int)<0 then((k:Int)+(n:Int)).toNat else min (k:Int).toNat n)=min k n
 rw[if_neg (by omega),ab1]
theorem Kf(n d:Nat)(hd:d<=n)(o:Option Int):cL n d o<=n:=by
 cases o with
 |none=>exact hd
 |some v =>
  show(if v<0 then(v+(n:Int)).toNat else min v.toNat n)<=n
  by_cases hv:v<0
  ·rw[if_pos hv];omega
  ·rw[if_neg hv];exact Nat.min_le_right _ _
theorem zR9(v:Int)(n d:Nat):(if v<0 then max (v+(n:Int)) 0 else min v (n:Int))=((cL n d (some v):Nat):Int):=by
 show(if v<0 then max (v+(n:Int)) 0 else min v (n:Int))=(((if v<0 then(v+(n:Int)).toNat else min v.toNat n):Nat):Int)
 by_cases hv:v<0
 ·simp only[if_pos hv];omega
 ·simp only[if_neg hv];omega
theorem zOk(lo hi:Option Int)(n:Nat):ad3 lo hi 1 (n:Int)=(((cL n 0 lo:Nat):Int),((cL n n hi:Nat):Int)):=by
 have h1:¬((1:Int)<0):=by omega
 unfold ad3
 simp only[h1,if_false]
 refine Prod.ext ?_ ?_
 ·cases lo with
  |none=>rfl
  |some v=>exact zR9 v n 0
 ·cases hi with
  |none=>rfl
  |some v=>exact zR9 v n n
theorem zNn(i j:Nat):ac5 (i:Int) (j:Int) 1=j-i:=by
 unfold ac5
 have h1:(1:Int) > 0:=by omega
 simp only[h1,if_true,Int.ediv_one]
 split<;>omega
theorem zGe{Q:Option Int->Shared->Prop}(p:IsPart v o)(h:Q o s):wpAny (model prog w) A (Builtin.Slice.slicePartIndex v) Q E s:=by
 cases p with
 |none=>exact slicePart_none h
 |int i t=>exact slicePart_int h
theorem zD8{sl:Addr}{vl vu:Value}{lo hi:Option Int}{n:Nat}{Q:Int×Int×Nat->Shared->Prop}(hs:s.heap.IsSliceOf sl vl vu .none)(pl:IsPart vl lo)(pu:IsPart vu hi)(h:Q (((cL n 0 lo:Nat):Int),1,cL n n hi-cL n 0 lo) s):wpAny (model prog w) A (Builtin.Slice.sliceApplied (.ref sl) (pure (n:Int))) Q E s:=by
 obtain⟨os,hos,hcs,hds⟩:=id hs
 unfold Builtin.Slice.sliceApplied Builtin.Slice.sliceFields
 refine aaw (aaw (aex hos hds (x:=vl) rfl (aaw (aex hos hds (x:=vu) rfl (aaw (aex hos hds (x:=.none) rfl (aax ?_)))))))
 refine aaw (slicePart_none ?_)
 show wpAny _ _ (if((1:Int)==0)=true then _ else _) _ _ s
 rw[if_neg (by decide)]
 refine aaw (zGe pl (aaw (zGe pu (aaw (aax ?_)))))
 show wpAny _ _ (match ad3 lo hi 1 (n:Int) with|(lo,hi)=>pure (lo,(1:Int),ac5 lo hi 1)) _ _ s
 rw[zOk lo hi n]
 show wpAny _ _ (pure (((cL n 0 lo:Nat):Int),(1:Int),ac5 ((cL n 0 lo:Nat):Int) ((cL n n hi:Nat):Int) 1)) _ _ s
 rw[zNn]
 exact aax h
theorem zTv(xs:Array Value)(i k:Nat):((abg k).filterMap λ(m:Nat)=>xs[((i:Int)+(m:Int)*1).toNat]?).toArray=((xs.toList.drop i).take k).toArray:=by
 have e:(λ(m:Nat)=>xs[((i:Int)+(m:Int)*1).toNat]?)=λm=>xs[i+m]?:=by
  funext m
  have:((i:Int)+(m:Int)*1).toNat=i+m:=by omega
  rw[this]
 rw[e]
 have:=pick_run xs i k
 rw[filterMap_map] at this
 have e2:((λx=>xs[x]?)∘λx=>i+x)=λm=>xs[i+m]?:=rfl
 rw[e2] at this
 rw[this]
theorem jU{t sl:Addr}{items:Array Value}{vl vu:Value}{lo hi:Option Int}{Q:Value->Shared->Prop}(ht:IsTup s.heap t items)(hs:s.heap.IsSliceOf sl vl vu .none)(pl:IsPart vl lo)(pu:IsPart vu hi)(hw:¬(cL items.size 0 lo=0/\cL items.size items.size hi=items.size))(h:Q (.ref s.heap.objs.size) { s with heap:=s.heap.push { cls:=.type "tuple",data:=.seq ((items.toList.drop (cL items.size 0 lo)).take (cL items.size items.size hi-cL items.size 0 lo)).toArray } })(hsz:items.size<=sizeLine):wpAny (model prog w) A (getItem (.ref t) (.ref sl)) Q E s:=by
 have tD:sizeOk (.seq ((items.toList.drop (cL items.size 0 lo)).take (cL items.size items.size hi-cL items.size 0 lo)).toArray):=by
  show((items.toList.drop (cL items.size 0 lo)).take (cL items.size items.size hi-cL items.size 0 lo)).toArray.size<=sizeLine
  rw[size_toArray,length_take,length_drop,length_toList]
  omega
 have hj:cL items.size items.size hi<=items.size:=Kf _ _ (aa0 _) hi
 obtain⟨os,hos,hcs,hds⟩:=id hs
 have hTs:s.TypeIs (.ref sl) "slice":=⟨os,hos,hcs⟩
 unfold getItem
 try with_reducible refine abu ?_
 first|refine aaw (aax ?_)|skip
 refine aaw (wpAny_sequenceKey ht.typeIs (by decide) ?_)
 refine aaw (wpAny_callSpecial?_slot (name:=ad0 "__getitem__") ht.typeIs PyProof.Rows.slot_tuple_getitem
  (acn PyProof.Rows.slot_tuple_getitem ht.typeIs entry_tuple_getitem ?_ (args_tuple_getitem _ _)))
 show wpAny _ _ (Builtin.Tuple.tupleItemsOf (.ref t) >>= _) _ _ s
 refine aaw (tupleItemsOf_ ht ?_)
 refine aaw (af8 hTs ?_)
 rw[if_pos (by decide)]
 refine aaw (zD8 hs pl pu ?_)
 have hno:¬((((cL items.size 0 lo:Nat):Int)==0&&(1:Int)==1&&(cL items.size items.size hi-cL items.size 0 lo)==items.size)=true):=by
  intro q
  rw[aa1,aa1] at q
  have q1:((cL items.size 0 lo:Nat):Int)=0:=ab7 q.1.1
  have q2:cL items.size items.size hi-cL items.size 0 lo=items.size:=ab7 q.2
  exact hw ⟨by omega,by omega⟩
 show wpAny _ _ (if(((cL items.size 0 lo:Nat):Int)==0&&(1:Int)==1&&(cL items.size items.size hi-cL items.size 0 lo)==items.size)=true then _ else _) _ _ s
 rw[if_neg hno,zTv]
 first
  |exact aaw (m:=adf _) (ab3 (aax ⟨_,rfl,aax h⟩) tD)
  |exact aaw (m:=adf _) (ab3 (aaw (aax (aax ⟨_,rfl,aax h⟩))) tD)
  |exact aaw (aaw (m:=adf _) (ab3 (aax (aax ⟨_,rfl,aax h⟩)) tD))
  |exact aaw (aaw (m:=adf _) (ab3 (aax ⟨_,rfl,aax h⟩) tD))
end
end HT
namespace L2
open PySem PySem.Spec PyProof.Rows
abbrev TO:=St->Hp->(Option Int->Hp->Prop)->Prop
def PO(X:Cx)(e:Option Expr)(t:TO):Prop :=
 ∀(pins:List (Addr×Obj))(s:Shared)(σ:St)(H:Hp)(Q:Option Int->Hp->Prop),Inv X pins σ H s->t σ H Q ->
  wpAny (model X.prog X.w) X.A (evalPart e X.env) (λu s'=>∃o H',Inv X pins σ H' s'/\IsPart u o/\Q o H') X.xe s
def Vw:TO:=λ_ H Q=>Q none H
def Vx(t:TE):TO:=λσ H Q=>t σ H λx H1=>∃i,x=.int i/\Q (some i) H1
section
variable{X:Cx}{e:Expr}{te:TE}{lo hi:Option Expr}{tl th:TO}{pos p2:Pos}
theorem Kg:PO X none Vw:=by
 intro pins s σ H Q I h
 rw[evalPart_none]
 exact aax ⟨none,H,I,.none,h⟩
theorem Kh(h:PE X e te):PO X (some e) (Vx te):=by
 intro pins s σ H Q I hw
 rw[evalPart_some]
 refine aP (h pins s σ H _ I hw) λu s1 ⟨x,H1,I1,r1,q1⟩=>?_
 obtain⟨i,rfl,q⟩:=q1
 obtain⟨t,rfl⟩:=r1
 exact⟨some i,H1,I1,.int i t,q⟩
def Rb(X:Cx)(r:V->Option Int->Option Int->Hp->VK->Prop):Prop :=
 ∀(pins:List (Addr×Obj))(s:Shared)(σ:St)(H:Hp)(x:V)(v vl vu:Value)(lo hi:Option Int)(sl:Addr)(Q:VK),Inv X pins σ H s->RelV x v->s.heap.IsSliceOf sl vl vu .none->IsPart vl lo->IsPart vu hi->r x lo hi H Q ->
  ∃T id,typeLookup (.type T) "__getitem__" = pure (some (.builtin id))/\s.TypeIs v T/\wpAny (model X.prog X.w) X.A (getItem v (.ref sl)) (EP X pins σ Q) X.xe s
def Vy(r:V->Option Int->Option Int->Hp->VK->Prop)(te:TE)(tl th:TO):TE:=λσ H Q=>te σ H λx H1=>tl σ H1 λl H2=>th σ H2 λu H3=>r x l u H3 Q
theorem Kl(hr:Rb X r)(he:PE X e te)(hl:PO X lo tl)(hu:PO X hi th):PE X (.Subscript e (.Slice lo hi none p2) pos) (Vy r te tl th):=by
 intro pins s σ H Q I h
 refine Subscript_ (aP (he pins s σ H _ I h) λv s1 ⟨x,H1,I1,r1,q1⟩=>?_)
 refine wpAny_Slice (aP (hl pins s1 σ H1 _ I1 q1) λvl s2 ⟨l,H2,I2,pl,q2⟩=>aP (hu pins s2 σ H2 _ I2 q2) λvu s3 ⟨u,H3,I3,pu,q3⟩=>?_)
 rw[evalPart_none]
 refine aax ?_
 have I4:Inv X pins σ H3 { s3 with heap:=s3.heap.push { cls:=.type "slice",data:=.fields #[vl,vu,.none] } }:=I3.kept (t':=s3.toks) λb ob q=>get?_push_of_some _ q
 obtain⟨T,id,hT,ht,hg⟩:=hr pins { s3 with heap:=s3.heap.push { cls:=.type "slice",data:=.fields #[vl,vu,.none] } } σ H3 x v vl vu l u s3.heap.objs.size Q I4 r1 (Heap.IsSliceOf.new ..) pl pu q3
 show wpAny (model X.prog X.w) X.A (subscriptTail e (.Slice lo hi none p2) v (.ref s3.heap.objs.size)) (EP X pins σ Q) X.xe { s3 with heap:=s3.heap.push { cls:=.type "slice",data:=.fields #[vl,vu,.none] } }
 exact tail_any (ops:=[.ref s3.heap.objs.size,v]) ht hT hg (by with_unfolding_all rfl)
def oO(xs:List V)(lo hi:Option Int):List V:=(xs.drop (HT.cL xs.length 0 lo)).take (HT.cL xs.length xs.length hi-HT.cL xs.length 0 lo)
theorem zFp(xs:List V)(lo hi:Option Int):(oO xs lo hi).length<=xs.length:=by
 unfold oO
 rw[length_take,length_drop]
 omega
def X8(K:PySem.W.Frag):V->Option Int->Option Int->Hp->VK->Prop:=λx lo hi H Q=>∃a xs,x=.ref a/\cu K H a xs /\
 ¬(HT.cL xs.length 0 lo=0/\HT.cL xs.length xs.length hi=xs.length)/\∀p,H p=none->Q (.ref p) (upd H p (.tup (oO xs lo hi)))
theorem zVm:Rb X (X8 X.K):=by
 intro pins s σ H x v vl vu lo hi sl Q I rx hs pl pu h
 obtain⟨a,xs,rfl,hx,hw,q⟩:=h
 cases rx
 obtain⟨its,r,ht,hz⟩:=I.tuple hx
 have hlen:its.toArray.size=xs.length:=by rw[size_toArray];exact r.length.symm
 refine⟨"tuple",_,PyProof.Rows.slot_tuple_getitem.lookup,ht.typeIs,?_⟩
 refine HT.jU ht hs pl pu (by rw[hlen];exact hw) ?_ (by rw[hlen];exact hz)
 rw[hlen]
 refine⟨.ref s.heap.objs.size,_,I.laid (t':=s.toks) (o:=.tup (oO xs lo hi)) (λb ob q=>get?_push_of_some _ q) (aa0 _) ?_,rfl,q _ (I.hok.fresh (aa0 _))⟩
 exact⟨aa8 (zFp xs lo hi) hz,_,(r.drop (HT.cL xs.length 0 lo)).take (HT.cL xs.length xs.length hi-HT.cL xs.length 0 lo),IsTup.new _ _⟩
end
def tE(n:Nat)(i:Int):Option Nat:=if 0<=i then(if i<n then some i.toNat else none) else if -(n:Int)<=i then some (i+n).toNat else none
def cj{α:Type}(xs:List α)(i:Int):Option α:=(tE xs.length i).bind λj=>xs[j]?
theorem zQ2(h:tE n i=some j):seqIndex? i n=some j/\j<n /\ -(n:Int)<=i/\i<n:=by
 unfold tE at h
 by_cases h0:0<=i
 ·rw[if_pos h0] at h
  by_cases h1:i<n
  ·rw[if_pos h1] at h
   have e:i.toNat=j:=aa2 h
   exact⟨by rw[afo h0 h1,e],by omega,by omega,h1⟩
  ·rw[if_neg h1] at h;cases h
 ·rw[if_neg h0] at h
  by_cases h1:-(n:Int)<=i
  ·rw[if_pos h1] at h
   have e:(i+n).toNat=j:=aa2 h
   exact⟨by rw[af7 (by omega) h1,e],by omega,h1,by omega⟩
  ·rw[if_neg h1] at h;cases h
theorem X_{α:Type}{xs:List α}{v:α}(h:cj xs i=some v):∃j,seqIndex? i xs.length=some j/\xs[j]?=some v/\j<xs.length /\ -(xs.length:Int)<=i/\i<xs.length:=by
 unfold cj at h
 cases e:tE xs.length i with
 |none=>rw[e] at h;cases h
 |some j =>
  rw[e] at h
  obtain⟨h1,h2,h3,h4⟩:=zQ2 e
  exact⟨j,h1,h,h2,h3,h4⟩
theorem Yb{α:Type}{xs:List α}{j:Nat}{v:α}(h:xs[j]?=some v):cj xs (j:Int)=some v:=by
 have hj:j<xs.length:=(abb.mp h).1
 have e:tE xs.length (j:Int)=some j:=by
  unfold tE
  rw[if_pos (by omega),if_pos (by omega)];simp
 unfold cj;rw[e];exact h
def DG(b:Expr):Prop:=∀o i,subscripted b false o i=operate [o,i] (getItem o i)
def Vz(X:Cx)(r:R2):Prop :=
 ∀(value slice:Expr)(pins:List (Addr×Obj))(s:Shared)(σ:St)(H:Hp)(x y:V)(v u:Value)(Q:VK),Inv X pins σ H s->RelV x v->RelV y u->r x y H Q ->
  subscripted slice false v u=operate [v,u] (getItem v u)->wpAny (model X.prog X.w) X.A (subscriptTail value slice v u) (EP X pins σ Q) X.xe s
def MtR(X:Cx)(id:String)(r:V->List V->Hp->VK->Prop):Prop :=
 ∀(pins:List (Addr×Obj))(s:Shared)(σ:St)(H:Hp)(x:V)(xs:List V)(v:Value)(us:List Value)(Q:VK),Inv X pins σ H s->RelV x v->Vals xs us->r x xs H Q ->
  wpAny (model X.prog X.w) X.A (call (.builtin id) (v::us)) (EP X pins σ Q) X.xe s
section
variable{X:Cx}{a b:Expr}{ta tb:TE}{pos:Pos}
theorem yM(hr:Vz X r)(ha:PE X a ta)(hb:PE X b tb)(hs:DG b):PE X (.Subscript a b pos) (jR r ta tb):=by
 intro pins s σ H Q I h
 exact Subscript_ (J3 ha hb I h λv u s2 x y H2 I2 rx ry q=>hr a b pins s2 σ H2 x y v u Q I2 rx ry q (hs _ _))
def rQ(K:PySem.W.Frag):R2:=λx y H Q=>∃p xs i v,x=.ref p/\y=.int i/\aO K H p xs/\cj xs i=some v/\Q v H
def Yc(K:PySem.W.Frag):R2:=λx y H Q=>∃p xs i v,x=.ref p/\y=.int i/\cu K H p xs/\cj xs i=some v/\Q v H
theorem wN:Vz X (rQ X.K):=by
 intro value slice pins s σ H x y v u Q I rx ry h hs
 obtain⟨p,xs,i,z,rfl,rfl,hq,he,q⟩:=h
 cases rx
 obtain⟨t,rfl⟩:=ry
 obtain⟨its,r,pl,hz⟩:=I.list hq
 obtain⟨j,h1,h2,h3,h4,h5⟩:=X_ he
 obtain⟨w,ew,Rg⟩:=r.get h2
 have hl:=r.length
 have hn:=J9
 have fin:EP X pins σ Q w s:=⟨z,H,I,Rg,q⟩
 by_cases h0:0<=i
 ·have hj:i.toNat=j:=by
   rw[afo h0 h5] at h1
   exact aa2 h1
  exact item_listR pl.isList h0 (by omega) (by rw[hj];simpa using ew) fin hs
 ·have hj:(i+(its.toArray.size:Int)).toNat=j:=by
   rw[af7 (by omega) h4] at h1
   rw[size_toArray,<-hl]
   exact aa2 h1
  exact subscriptTail_builtinR (x:=w) pl.isList.typeIs slot_list_getitem.lookup
   (wpAny_getItem_list_neg (Q:=λr s'=>r=w/\EP X pins σ Q r s') pl.isList (by omega) (by rw[size_toArray]<;>omega) (by omega) (by rw[hj];simpa using ew) ⟨rfl,fin⟩) hs
theorem Ad:Vz X (Yc X.K):=by
 intro value slice pins s σ H x y v u Q I rx ry h hs
 obtain⟨p,xs,i,z,rfl,rfl,hq,he,q⟩:=h
 cases rx
 obtain⟨t,rfl⟩:=ry
 obtain⟨its,r,pl,hz⟩:=I.tuple hq
 obtain⟨j,h1,h2,h3,h4,h5⟩:=X_ he
 obtain⟨w,ew,Rg⟩:=r.get h2
 have hl:=r.length
 have hn:=J9
 have fin:EP X pins σ Q w s:=⟨z,H,I,Rg,q⟩
 exact subscriptTail_builtinR (x:=w) pl.typeIs slot_tuple_getitem.lookup
  (getItem_tuple (j:=j) (Q:=λr s'=>r=w/\EP X pins σ Q r s') pl (by omega) (by omega) (by rw[size_toArray,<-hl];exact h1) (by simpa using ew) ⟨rfl,fin⟩) hs
theorem zNu(its:List Value)(n j:Nat)(u:Value):ado (·.setIfInBounds j u) { cls:=.type "list",data:=.seq its.toArray n }={ cls:=.type "list",data:=.seq (its.set j u).toArray n }:=by
 simp[ado]
theorem Inv.lst(I:Inv X pins σ H s)(h:H p=some (.lst xs)) :
  ∃(its:List Value)(n:Nat),Vals xs its/\s.heap.get? p=some { cls:=.type "list",data:=.seq its.toArray n }/\xs.length<=sizeLine:=by
 obtain⟨z,its,n,r,e⟩:=I.hok p _ h
 exact⟨its,n,r,e,z⟩
theorem Inv.Km{its its':List Value}(I:Inv X pins σ H s)(h:H p=some (.lst xs))(ho:s.heap.get? p=some { cls:=.type "list",data:=.seq its.toArray n })(hf:f { cls:=.type "list",data:=.seq its.toArray n }={ cls:=.type "list",data:=.seq its'.toArray n' })(r:Vals ys its')(hz:ys.length<=sizeLine)(t:Nat) :
  Inv X pins σ (upd H p (.lst ys)) { s with heap:=s.heap.update p f,toks:=t }:=by
 have e:(s.heap.update p f).get? p=some { cls:=.type "list",data:=.seq its'.toArray n' }:=by
  rw[get?_update_self f ho (by rw[hf]<;>rfl),hf]
 refine I.write (x:=p) (e:=p) (by rw[h];trivial) (.inl rfl) (λb u hb q=>(get?_update_other _ _ (ac2 hb)).trans q) ⟨_,e⟩ ?_
 exact⟨hz,its',n',r,e⟩
def Ae:V->V->V->Hp->(Hp->Prop)->Prop:=λo i v H Q=>∃p xs k j,o=.ref p/\i=.int k/\H p=some (.lst xs)/\tE xs.length k=some j/\Q (upd H p (.lst (xs.set j v)))
theorem O9:JN X Ae:=by
 intro pins s σ H o i v ov iv u Q I ro ri rv h
 obtain⟨p,xs,k,j,rfl,rfl,hp,hj,q⟩:=h
 cases ro
 obtain⟨t,rfl⟩:=ri
 obtain⟨its,n,r,ho,hz⟩:=I.lst hp
 obtain⟨h1,h2,h3,h4⟩:=zQ2 hj
 have hl:=r.length
 have hn:=J9
 have I':Inv X pins σ (upd H p (.lst (xs.set j v))) { s with heap:=s.heap.update p (ado (·.setIfInBounds j u)) } :=
  I.Km hp ho (zNu its n j u) (r.set rv j) (by rw[length_set];exact hz) s.toks
 by_cases h0:0<=k
 ·have hk:k.toNat=j:=by
   rw[afo h0 h4] at h1
   exact aa2 h1
  exact PySem.W.ki_setAt ho h0 (by omega) (by rw[size_toArray,<-hl];exact h4) (by rw[hk];exact⟨_,I',q⟩)
 ·have hk:(k+(its.toArray.size:Int)).toNat=j:=by
   rw[af7 (by omega) h3] at h1
   rw[size_toArray,<-hl]
   exact aa2 h1
  exact PySem.W.ki_setBack ho (by omega) (by rw[size_toArray,<-hl];exact h3) (by omega) (by rw[hk];exact⟨_,I',q⟩)
theorem zIc(lo hi:Option Int)(n:Nat):(sliceBounds lo hi none n).1=((HT.cL n 0 lo:Nat):Int)/\(sliceBounds lo hi none n).2.1=((HT.cL n n hi:Nat):Int)/\(sliceBounds lo hi none n).2.2=1:=by
 refine⟨?_,?_,rfl⟩
 ·cases lo with
  |none=>simp[sliceBounds,HT.cL]
  |some i =>
   simp only[sliceBounds,HT.cL,Option.getD_none,show(1:Int) > 0 by decide,if_true]
   by_cases h:i<0
   ·simp only[h,if_true]<;>omega
   ·simp only[h,if_false]<;>omega
 ·cases hi with
  |none=>simp[sliceBounds,HT.cL]
  |some i =>
   simp only[sliceBounds,HT.cL,Option.getD_none,show(1:Int) > 0 by decide,if_true]
   by_cases h:i<0
   ·simp only[h,if_true]<;>omega
   ·simp only[h,if_false]<;>omega
theorem zG5(its:List Value)(lo hi:Option Int):slicePick its.toArray lo hi none=((its.drop (HT.cL its.length 0 lo)).take (HT.cL its.length its.length hi-HT.cL its.length 0 lo)).toArray:=by
 obtain⟨h1,h2,h3⟩:=zIc lo hi its.toArray.size
 unfold slicePick
 rw[h1,h2,h3]
 simp only[sliceRange_one,pick_run,size_toArray]<;>rfl
def DK(K:PySem.W.Frag):V->Option Int->Option Int->Hp->VK->Prop:=λx lo hi H Q=>∃a xs,x=.ref a/\aO K H a xs/\∀p,H p=none->Q (.ref p) (upd H p (.lst (oO xs lo hi)))
theorem DN:Rb X (DK X.K):=by
 intro pins s σ H x v vl vu lo hi sl Q I rx hs pl pu h
 obtain⟨a,xs,rfl,hx,q⟩:=h
 cases rx
 obtain⟨its,r,ht,hz⟩:=I.list hx
 have hlen:=r.length
 refine⟨"list",_,slot_list_getitem.lookup,ht.isList.typeIs,?_⟩
 refine wpAny_getItem_list_slice ht.isList hs pl pu .none (by simp) ?_ (by rw[size_toArray]<;>omega)
 rw[zG5,<-hlen]
 refine⟨.ref s.heap.objs.size,_,I.laid (t':=s.toks) (o:=.lst (oO xs lo hi)) (λb ob q=>get?_push_of_some _ q) (aa0 _) ?_,rfl,q _ (I.hok.fresh (aa0 _))⟩
 exact⟨aa8 (zFp xs lo hi) hz,_,0,(r.drop (HT.cL xs.length 0 lo)).take (HT.cL xs.length xs.length hi-HT.cL xs.length 0 lo),get?_push_size _ rfl⟩
def Ck:V->Bool
 |.non=>true
 |.bl _=>true
 |.int _=>true
 |.str _=>true
 |_=>false
def Cm:V->V->Bool
 |.non,.non=>true
 |.bl a,.bl b=>a==b
 |.bl a,.int b=>(if a then 1 else 0)==b
 |.int a,.bl b=>a==(if b then 1 else 0)
 |.int a,.int b=>a==b
 |.str a,.str b=>a==b
 |_,_=>false
theorem zV9(ry:RelV y u)(rx:RelV x v)(fy:Ck y=true)(fx:Ck x=true):aes A s u v (Cm y x):=by
 cases y with
 |non =>
  cases ry
  cases x with
  |non=>cases rx;exact SeqAt.EqAt.same _
  |bl b=>cases rx;exact SeqAt.EqAt.none_bool b
  |int b=>obtain⟨t,rfl⟩:=rx;exact SeqAt.EqAt.none_int b t
  |str b=>obtain⟨t,rfl⟩:=rx;exact SeqAt.EqAt.none_str b t
  |_=>exact absurd (show false=true from fx) aay
 |bl a =>
  cases ry
  cases x with
  |non=>cases rx;exact SeqAt.EqAt.bool_none a
  |bl b=>cases rx;exact SeqAt.EqAt.bool_bool a b
  |int b=>obtain⟨t,rfl⟩:=rx;exact SeqAt.EqAt.bool_int a b t
  |str b=>obtain⟨t,rfl⟩:=rx;exact SeqAt.EqAt.bool_str a b t
  |_=>exact absurd (show false=true from fx) aay
 |int a =>
  obtain⟨t',rfl⟩:=ry
  cases x with
  |non=>cases rx;exact SeqAt.EqAt.int_none a t'
  |bl b=>cases rx;exact SeqAt.EqAt.int_bool a t' b
  |int b=>obtain⟨t,rfl⟩:=rx;exact SeqAt.EqAt.int_int a t' b t
  |str b=>obtain⟨t,rfl⟩:=rx;exact SeqAt.EqAt.int_str a t' b t
  |_=>exact absurd (show false=true from fx) aay
 |str a =>
  obtain⟨t',rfl⟩:=ry
  cases x with
  |non=>cases rx;exact SeqAt.EqAt.str_none a t'
  |bl b=>cases rx;exact SeqAt.EqAt.str_bool a t' b
  |int b=>obtain⟨t,rfl⟩:=rx;exact SeqAt.EqAt.str_int a t' b t
  |str b=>obtain⟨t,rfl⟩:=rx;exact SeqAt.EqAt.str_str a t' b t
  |_=>exact absurd (show false=true from fx) aay
 |_=>exact absurd (show false=true from fy) aay
def DP(x:V)(u:Value):Bool:=match u with
 |.none=>Cm .non x
 |.bool b=>Cm (.bl b) x
 |.int i _=>Cm (.int i) x
 |.str z _=>Cm (.str z) x
 |_=>false
theorem zV8(r:RelV y u)(f:Ck y=true):DP x u=Cm y x:=by
 cases y with
 |non=>cases r;rfl
 |bl b=>cases r;rfl
 |int i=>obtain⟨t,rfl⟩:=r;rfl
 |str z=>obtain⟨t,rfl⟩:=r;rfl
 |_=>exact absurd (show false=true from f) aay
theorem Yd:∀{xs:List V}{us:List Value},Vals xs us->xs.all Ck=true->us.any (DP x)=xs.any λy=>Cm y x
 |_,_,.nil,_=>rfl
 |y::xs,u::us,.cons r t,f=>by
  rw[all_cons,aa1] at f
  rw[any_cons,any_cons,zV8 r f.1,Yd t f.2]
theorem Ye(rx:RelV x v)(fx:Ck x=true):∀{xs:List V}{us:List Value},Vals xs us->xs.all Ck=true->∀u∈us,aes A s u v (DP x u)
 |_,_,.nil,_=>λu hu=>by cases hu
 |y::xs,u::us,.cons r t,f=>λu' hu=>by
  rw[all_cons,aa1] at f
  rcases mem_cons.mp hu with rfl|hu
  ·rw[zV8 r f.1];exact zV9 r rx f.1 fx
  ·exact Ye rx fx t f.2 u' hu
def inV(x:V)(xs:List V):Bool:=xs.any λy=>Cm y x
def VB(K:PySem.W.Frag)(neg:Bool):R2:=λx y H Q=>∃p xs,y=.ref p/\(aO K H p xs\/cu K H p xs)/\Ck x=true/\xs.all Ck=true/\Q (.bl (if neg then !inV x xs else inV x xs)) H
theorem zQc:lH X (compareOp .In) (VB X.K false):=by
 intro pins s σ H x y v u Q I rx ry h
 obtain⟨p,xs,rfl,hq,fx,fs,q⟩:=h
 cases ry
 rcases hq with hq|hq
 ·obtain⟨its,r,pl,hz⟩:=I.list hq
  refine SeqAt.in_listAt (DP x) pl.isList (λw hw=>Ye rx fx r fs w (by simpa using hw)) ⟨.bl _,H,I,rfl,?_⟩
  rw[show its.toArray.any (DP x)=its.any (DP x) by simp,Yd r fs]
  exact q
 ·obtain⟨its,r,pl,hz⟩:=I.tuple hq
  refine SeqAt.in_tupleAt (DP x) pl (λw hw=>Ye rx fx r fs w (by simpa using hw)) ⟨.bl _,H,I,rfl,?_⟩
  rw[show its.toArray.any (DP x)=its.any (DP x) by simp,Yd r fs]
  exact q
theorem vV:rK X (.builtin "len") (λxs H Q=>∃p ys,xs=[.ref p]/\(aO X.K H p ys\/cu X.K H p ys)/\Q (.int ys.length) H):=by
 intro pins s σ H xs us Q I r h
 obtain⟨p,ys,rfl,hq,q⟩:=h
 obtain⟨u,rfl,rx⟩:=Ds r
 cases rx
 have hn:=J9
 rcases hq with hq|hq
 ·obtain⟨its,r',pl,hz⟩:=I.list hq
  have hlen:=r'.length
  exact Calls.call_len_list pl.isList (by simp only[size_toArray]<;>omega) ⟨.int ys.length,H,I.tok _,⟨s.toks+1,by rw[size_toArray,hlen]⟩,q⟩
 ·obtain⟨its,r',pl,hz⟩:=I.tuple hq
  have hlen:=r'.length
  exact len_tuple pl (by simp only[size_toArray]<;>omega) ⟨.int ys.length,H,I.tok _,⟨s.toks+1,by rw[size_toArray,hlen]⟩,q⟩
theorem zJj:rK X (.type "list") (λxs H Q=>∃p ys,xs=[.ref p]/\(aO X.K H p ys\/cu X.K H p ys)/\∀l,H l=none->Q (.ref l) (upd H l (.lst ys))):=by
 intro pins s σ H xs us Q I r h
 obtain⟨p,ys,rfl,hq,q⟩:=h
 obtain⟨u,rfl,rx⟩:=Ds r
 cases rx
 have fin:∀(its:List Value),Vals ys its->ys.length<=sizeLine->∀(h':Heap)(c':Nat),(∀b o',s.heap.get? b=some o'->h'.get? b=some o') ->
   h'.get? s.heap.objs.size=some { cls:=.type "list",dict:=none,data:=.seq its.toArray c',slots:=#[] }->EP X pins σ Q (.ref s.heap.objs.size) { s with heap:=h' }:=λits r' hz h' c' kp e =>
  ⟨.ref s.heap.objs.size,_,I.laid (t':=s.toks) kp (aa0 _) (show bI X.prog X.w _ h' _ (.lst ys) from⟨hz,its,c',r',e⟩),rfl,q _ (I.hok.fresh (aa0 _))⟩
 rcases hq with hq|hq
 ·obtain⟨its,r',pl,hz⟩:=I.list hq
  have hlen:=r'.length
  obtain⟨o,ho,hc,n,hd⟩:=pl.isList
  exact call_list_seq p (.inl rfl) ho hc hd (λh' c' kp e=>fin its r' hz h' c' kp e) (by simp only[size_toArray]<;>omega)
 ·obtain⟨its,r',pl,hz⟩:=I.tuple hq
  have hlen:=r'.length
  obtain⟨o,ho,hc,n,hd⟩:=pl
  exact call_list_seq p (.inr rfl) ho hc hd (λh' c' kp e=>fin its r' hz h' c' kp e) (by simp only[size_toArray]<;>omega)
def Yg(K:PySem.W.Frag)(T:String)(x:V)(H:Hp):Prop:=match x with
 |.str _=>T = "str"
 |.int _=>T = "int"
 |.ref p=>(T = "list" /\ ∃xs,aO K H p xs)\/(T = "tuple" /\ ∃o,K.lookup p=some o/\o.cls=.type "tuple" /\ o.dict=none) \/
   (T = "dict" /\ ((∃kvs,H p=some (.dK kvs))\/∃kvs,H p=some (.dT kvs)))\/(T = "set" /\ ∃S n,H p=some (.set S n))
 |_=>False
theorem zVf(I:Inv X pins σ H s)(r:RelV x v)(ty:Yg X.K T x H) :
  s.TypeIs v T/\∀a,v=.ref a->∃ob,s.heap.get? a=some ob/\ob.dict=none:=by
 cases x with
 |str z =>
  obtain⟨t,rfl⟩:=r
  cases(show T = "str" from ty)
  exact⟨typeIs_str s z t,λ_ e=>nomatch e⟩
 |int i =>
  obtain⟨t,rfl⟩:=r
  cases(show T = "int" from ty)
  exact⟨typeIs_int s i t,λ_ e=>nomatch e⟩
 |ref p =>
  cases r
  rcases ty with⟨rfl,xs,hq⟩|⟨rfl,o,hk,hc,hd⟩|⟨rfl,hk⟩|⟨rfl,S,n,hk⟩
  ·obtain⟨its,_,pl,_⟩:=I.list hq
   refine⟨pl.isList.typeIs,λa e=>?_⟩
   cases e
   obtain⟨o,n,e,c,hd,_⟩:=pl
   exact⟨o,e,hd⟩
  ·refine⟨⟨o,I.jO p o hk,hc⟩,λa e=>?_⟩
   cases e
   exact⟨o,I.jO _ o hk,hd⟩
  ·have z:∃o,s.heap.get? p=some o/\o.ExactDict:=by
    rcases hk with⟨kvs,hk⟩|⟨kvs,hk⟩
    ·obtain⟨_,_,_,_,o,_,_,e,ex,_⟩:=I.hok p _ hk
     exact⟨o,e,ex⟩
    ·obtain⟨_,_,_,_,o,_,_,e,ex,_⟩:=I.hok p _ hk
     exact⟨o,e,ex⟩
   obtain⟨o,e,ex⟩:=z
   refine⟨⟨o,e,ex.1⟩,λa e2=>?_⟩
   cases e2
   exact⟨o,e,ex.2.1⟩
  ·obtain⟨o,_,_,_,e,ex,_⟩:=I.hok p _ hk
   refine⟨⟨o,e,ex.1⟩,λa e2=>?_⟩
   cases e2
   exact⟨o,e,ex.2.1⟩
 |_=>exact ab4 ty
def Ko(K:PySem.W.Frag)(T:String)(r:V->List V->Hp->VK->Prop)(to:TE):TE:=λσ H Q=>to σ H λx H1=>Yg K T x H1/\r x [] H1 Q
def Kq(K:PySem.W.Frag)(T:String)(r:V->List V->Hp->VK->Prop)(to:TE)(t:TA):TE:=λσ H Q=>to σ H λx H1=>Yg K T x H1/\t σ H1 λxs H2=>r x xs H2 Q
variable{o e:Expr}{es:List Expr}{to:TE}{t:TA}{name:Str}{apos cpos:Pos}{T id:String}{r:V->List V->Hp->VK->Prop}
theorem Kr(pa:PlainAttrs T)(slot:Slot T name id)(hty:typeOf (.builtin id)=pure (.type "method_descriptor"))(hm:MtR X id r)(ho:PE X o to)(hbase:attributeBase o name X.env (eval o X.env)=eval o X.env:=by rfl)(hline:(apos.endLine==cpos.line)=true:=by rfl):PE X (.Call (.Attribute o name apos) [] [] cpos) (Ko X.K T r to):=by
 intro pins s σ H Q I h
 refine wpAny_Call_method0_late hbase hline (aP (ho pins s σ H _ I h) λv s1 ⟨x,H1,I1,r1,ty,q1⟩=>?_)
 obtain⟨h1,h2⟩:=zVf I1 r1 ty
 exact⟨T,id,pa,slot,hty,h1,h2,Calls.callWith_builtin rfl (PySem.evalArgs_none (hm pins s1 σ H1 x [] v [] Q I1 r1 .nil q1))⟩
theorem VD(pa:PlainAttrs T)(slot:Slot T name id)(hty:typeOf (.builtin id)=pure (.type "method_descriptor"))(hm:MtR X id r)(ho:PE X o to)(ha:PA X (e::es) t)(hbase:attributeBase o name X.env (eval o X.env)=eval o X.env:=by rfl)(hfew:((backTo cpos (starEach (e::es) X.env)).all (λx=>!x.1)&&(backToKw cpos (keywordEach [] X.env)).all (λx=>x.1.isSome)
   && decide ((e::es).length+([]:List Keyword).length+(if([]:List Keyword).isEmpty then 0 else 1)<30))=true:=by rfl)(hline:(apos.endLine==cpos.line)=true:=by rfl)(hs:starEach (e::es) X.env=(false,eval e X.env)::starEach es X.env:=by rfl)(hplain:(backTo cpos (starEach es X.env)).any (·.1)=false:=by rfl) :
  PE X (.Call (.Attribute o name apos) (e::es) [] cpos) (Kq X.K T r to t):=by
 intro pins s σ H Q I h
 refine wpAny_Call_method_late hbase hfew hline rfl (aP (ho pins s σ H _ I h) λv s1 ⟨x,H1,I1,r1,ty,q1⟩=>?_)
 obtain⟨h1,h2⟩:=zVf I1 r1 ty
 refine⟨T,id,pa,slot,hty,h1,h2,?_⟩
 have hA:=ha cpos pins s1 σ H1 _ I1 q1
 rw[hs] at hA ⊢
 refine Calls.callWith_builtin (by show(false||(backTo cpos (starEach es X.env)).any (·.1))=false;rw[hplain]<;>rfl) (Calls.evalArgs_plain ?_)
 exact aP hA λus s2 ⟨vs,H2,I2,r2,q2⟩=>hm pins s2 σ H2 x vs v us Q I2 r1 r2 q2
end
def O_(X:Cx)(id:String)(r:V->List V->Hp->VK->Prop):Prop :=
 ∀(pins:List (Addr×Obj))(s:Shared)(σ:St)(H:Hp)(x:V)(xs:List V)(v:Value)(us:List Value)(Q:VK),Inv X pins σ H s->RelV x v->Vals xs us->r x xs H Q ->
  wpAny (model X.prog X.w) X.A (call (.builtin id) (v::us)) (EP X pins σ Q) X.xe s
theorem Vals.one:∀{x:V}{us:List Value},Vals [x] us->∃u,us=[u]/\RelV x u
 |_,_,.cons r .nil=>⟨_,rfl,r⟩
theorem Vals.two:∀{x y:V}{us:List Value},Vals [x,y] us->∃u v,us=[u,v]/\RelV x u/\RelV y v
 |_,_,_,.cons r (.cons q .nil)=>⟨_,_,rfl,r,q⟩
theorem Vals.zero:∀{us:List Value},Vals [] us->us=[]
 |_,.nil=>rfl
theorem Vals.dropLast(h:Vals xs us):Vals xs.dropLast us.dropLast:=by
 induction h with
 |nil=>exact .nil
 |cons r t ih =>
  cases t with
  |nil=>exact .nil
  |cons q t'=>exact .cons r ih
theorem Vals.eraseIdx:∀{xs:List V}{us:List Value}(i:Nat),Vals xs us->Vals (xs.eraseIdx i) (us.eraseIdx i)
 |_,_,_,.nil=>.nil
 |_,_,0,.cons _ t=>t
 |_,_,i+1,.cons r t=>.cons r (Vals.eraseIdx i t)
theorem Vals.reverse(h:Vals xs us):Vals xs.reverse us.reverse:=by
 induction h with
 |nil=>exact .nil
 |cons r t ih=>rw[reverse_cons,reverse_cons];exact Vals.append ih (.cons r .nil)
theorem zN9{α:Type}(l:List α):l.eraseIdx (l.length-1)=l.dropLast:=by
 induction l with
 |nil=>rfl
 |cons a r ih =>
  cases r with
  |nil=>rfl
  |cons b r =>
   have e:(a::b::r).length-1=((b::r).length-1)+1:=by
    have h1:(a::b::r).length=r.length+2:=rfl
    have h2:(b::r).length=r.length+1:=rfl
    omega
   rw[e,List.eraseIdx_cons_succ,ih]
   all_goals rfl
section
variable{X:Cx}{pins:List (Addr×Obj)}{σ:St}{H:Hp}{s:Shared}{l b:Addr}{xs ys zs:List V}
theorem Inv.DQ{its its':List Value}{f:Array Value->Array Value}(I:Inv X pins σ H s)(hH:H l=some (.lst xs))(e:s.heap.get? l=some { cls:=.type "list",data:=.seq its.toArray n })(hf:f its.toArray=its'.toArray)(hv:Vals ys its')(hz:ys.length<=sizeLine) :
  Inv X pins σ (upd H l (.lst ys)) { s with heap:=s.heap.update l (ado f),toks:=t' }:=by
 have q:=PySem.IsL.update e f
 rw[hf] at q
 refine I.write (x:=l) (e:=l) (by rw[hH];exact trivial) (.inl rfl) (λb' u hb hu=>(get?_update_other s.heap (ado f) (ac2 hb)).trans hu) ⟨_,q⟩ ?_
 exact⟨hz,its',_,hv,q⟩
theorem Inv.Yh(I:Inv X pins σ H s)(hv:Vals ys its)(hz:ys.length<=sizeLine) :
  Inv X pins σ (upd H s.heap.objs.size (.lst ys)) { s with heap:=s.heap.push { cls:=.type "list",data:=.seq its.toArray },toks:=t' } :=
 I.laid (λ_ _ q=>get?_push_of_some _ q) (aa0 _) ⟨hz,its,0,hv,get?_push_size _ rfl⟩
theorem Inv.fresh(I:Inv X pins σ H s):H s.heap.objs.size=none:=I.hok.fresh (aa0 _)
theorem Inv.rR(I:Inv X pins σ H s)(hH:H l=some (.lst xs)):xs.length<=sizeLine/\∃(its:List Value)(n:Nat),Vals xs its/\xs.length=its.length/\s.heap.get? l=some { cls:=.type "list",data:=.seq its.toArray n }:=by
 obtain⟨z,its,n,r,e⟩:=I.hok l _ hH
 exact⟨z,its,n,r,r.length,e⟩
theorem zT6(h:n<=sizeLine):ad7 n=false:=by
 unfold ad7
 exact decide_eq_false (by omega)
end
section
variable{X:Cx}
def Yi:V->List V->Hp->VK->Prop:=λx vs H Q=>∃l xs y,x=.ref l/\vs=[y]/\H l=some (.lst xs)/\xs.length<sizeLine/\Q .non (upd H l (.lst (xs++[y])))
theorem wB:O_ X "list.append" Yi:=by
 intro pins s σ H x vs v us Q I rx rv h
 obtain⟨l,xs,y,rfl,rfl,hH,hz,q⟩:=h
 cases rx
 obtain⟨u,rfl,ru⟩:=rv.one
 obtain⟨z,its,n,r,hl,e⟩:=I.rR hH
 refine afg F.slot_list_append ⟨_,e,rfl⟩ F.entry_list_append (F.args_list_append_2 _ _) (PySem.list_append l its.toArray n u (by rw[size_toArray];omega)) ⟨e,?_⟩
 refine⟨.non,_,I.DQ (its':=its++[u]) hH e (by simp) (r.append (.cons ru .nil)) ?_,rfl,q⟩
 rw[length_append,length_singleton]
 omega
def Yj:V->List V->Hp->VK->Prop:=λx vs H Q=>∃l b xs zs,x=.ref l/\vs=[.ref b]/\H l=some (.lst xs)/\H b=some (.lst zs)/\xs.length+zs.length<=sizeLine/\Q .non (upd H l (.lst (xs++zs)))
theorem Yk:O_ X "list.extend" Yj:=by
 intro pins s σ H x vs v us Q I rx rv h
 obtain⟨l,b,xs,zs,rfl,rfl,hH,hB,hz,q⟩:=h
 cases rx
 obtain⟨u,rfl,ru⟩:=rv.one
 cases ru
 obtain⟨z,its,n,r,hl,e⟩:=I.rR hH
 obtain⟨z2,its2,n2,r2,hl2,e2⟩:=I.rR hB
 have hsz:its.toArray.size+its2.toArray.size<=sizeLine:=by rw[size_toArray,size_toArray];omega
 have Rh:¬(!its.toArray.isEmpty&&ad7 (its.toArray.size+its2.toArray.size))=true:=by
  rw[zT6 hsz,afl]
  exact aay
 refine afg F.slot_list_extend ⟨_,e,rfl⟩ F.entry_list_extend (F.args_list_extend_2 _ _)
  (AutoSeq1.list_extend_list_list_0 l its.toArray n b its2.toArray n2 Rh (by rw[size_toArray];omega) (by omega)) ⟨e,e2,?_⟩
 refine⟨.non,_,I.DQ (its':=its++its2) hH e (by simp) (r.append r2) ?_,rfl,q⟩
 rw[length_append]
 omega
def Ri:V->List V->Hp->VK->Prop:=λx vs H Q=>∃l xs y,x=.ref l/\vs=[]/\H l=some (.lst xs)/\xs[xs.length-1]?=some y/\Q y (upd H l (.lst xs.dropLast))
theorem Ks:O_ X "list.pop" Ri:=by
 intro pins s σ H x vs v us Q I rx rv h
 obtain⟨l,xs,y,rfl,rfl,hH,hy,q⟩:=h
 cases rx
 have hus:=rv.zero
 subst hus
 obtain⟨z,its,n,r,hl,e⟩:=I.rR hH
 obtain⟨u,hu,ru⟩:=r.get hy
 have hy':its.toArray[its.toArray.size-1]?=some u:=by
  show its.toArray[its.length-1]?=some u
  rw[<-getElem?_toList,<-hl]
  exact hu
 refine afg F.slot_list_pop ⟨_,e,rfl⟩ F.entry_list_pop (F.args_list_pop_1 _) (MeetsSeq.list_pop_last l its.toArray n u hy' (by rw[size_toArray];omega)) ⟨e,?_⟩
 refine⟨y,_,I.DQ (its':=its.dropLast) hH e ?_ r.dropLast ?_,ru,q⟩
 ·show its.toArray.eraseIdxIfInBounds (its.toArray.size-1)=its.dropLast.toArray
  rw[size_toArray,List.eraseIdxIfInBounds_toArray,zN9]
 ·rw[List.length_dropLast]
  omega
def Rj:R2:=λx y H Q=>∃l b xs zs,x=.ref l/\y=.ref b/\H l=some (.lst xs)/\H b=some (.lst zs)/\xs.length+zs.length<=sizeLine/\∀p,H p=none->Q (.ref p) (upd H p (.lst (xs++zs)))
theorem Ym:lH X (binaryOp .Add) Rj:=by
 intro pins s σ H x y v u Q I rx ry h
 obtain⟨l,b,xs,zs,rfl,rfl,hH,hB,hz,q⟩:=h
 cases rx
 cases ry
 obtain⟨z,its,n,r,hl,e⟩:=I.rR hH
 obtain⟨z2,its2,n2,r2,hl2,e2⟩:=I.rR hB
 refine PySem.P.add_list e e2 ?_ (by rw[size_toArray,size_toArray];omega)
 have ea:its.toArray++its2.toArray=(its++its2).toArray:=by simp
 rw[ea]
 exact⟨.ref _,_,I.Yh (t':=s.toks) (r.append r2) (by rw[length_append];omega),rfl,q _ I.fresh⟩
end
section
variable{prog:Program}{w:World}{A:Around}{E:Value->Shared->Prop}{s:Shared}
end
section
variable{X:Cx}
end
end L2
namespace Att
open PySem PySem.W PySem.Calls PyProof.Rows
theorem zFf:∀(ns:LI)(vs:List Value),WellAll P h vs (ns.map WData.int)->IntsAre vs ns:=by
 intro ns
 induction ns with
 |nil =>
  intro vs w
  rw[List.map_nil] at w
  cases w
  exact .nil
 |cons n ns ih =>
  intro vs w
  rw[map_cons] at w
  cases w with
  |cons a b =>
   cases a
   exact .cons _ _ (ih _ b)
theorem zPk{l:OpenLaw}(hn:l.most=some n)(hpre:l.row.toRowW.claim.pre args=true)(hwl:WellAll P h vals args) :
  ∃a vs ns,vals=[abx a]/\args=[WData.list (ns.map WData.int)]/\h.get? a=some { cls:=.type "list",data:=.seq vs.toArray }/\IntsAre vs ns/\ns.length<=n:=by
 have hsh:WShape.hasAll [] args [.list .int]=true:=(pre_splitW hpre).1
 have hc:l.pre.holds [] { args:=args }=true:=(pre_splitW hpre).2
 obtain⟨d,r,rfl,h1,h2⟩:=hasAllW_cons hsh
 obtain rfl:=hasAllW_nil h2
 obtain⟨xs,rfl,h3⟩:=hasW_list h1
 obtain⟨ns,rfl⟩:=items_int h3
 have hlen:ns.length<=n:=by
  unfold OpenLaw.pre at hc
  have h4:(WTm.not (.lt (.lit (.int (n:Int))) (.len (.arg 0)))).holds [] { args:=[.list (ns.map .int)] }=true:=by
   have h4:=(holds_andW hc).1
   rw[hn] at h4
   exact h4
  have h5:=condW_of h4 (w_not (w_lt w_lit (w_len_list (w_arg rfl))))
  rw[length_map] at h5
  refine Nat.le_of_not_lt λq=>?_
  have q':(n:Int)<((ns.length:Nat):Int):=by omega
  first
   | (rw[decide_eq_true q'] at h5;exact absurd h5 (by decide))
   | (simp at h5;omega)
 cases hwl with
 |cons w1 w2 =>
  cases w2
  cases w1 with
  |list ho hall=>exact⟨_,_,ns,rfl,rfl,ho,zFf ns _ hall,hlen⟩
theorem zP0(l:OpenLaw)(args:List WData):l.row.toRowW.claim.post args (.bool true) args=true :=
 postW_of (r:=l.row.toRowW) (X:=(true==true))
  (show WShape.has [] (.bool true) .bool=true by first|rfl|decide|simp[WShape.has,WShape.arms,WShape.armsAll])
  (show(WTm.eq .res (.lit (.bool true))).value [] { args:=args,res:=some (.bool true),after:=args }=some (.bool (true==true)) from w_eq_bool (w_res rfl) w_lit) rfl
theorem qI{l:OpenLaw}{YP:World->Heap->Prop}{d:DefRec}(hn:l.most=some n)(hdf:d.params.defaults=[])(call:∀(w:World) (s₀ s₁:Shared) (mg mb:Str->Option Value) (fa:Addr) (o:Obj) (pm cd doc:Value) (a:Addr) (vs:List Value) (ns:LI),
   Ground q loose [] XP w s₀ mg mb s₁.heap->YP w s₁.heap ->
   s₁.heap.get? fa=some o->o.data=.func (docDef d.name d.params d.body d.scope pm cd doc)->s₁.heap.CodeRec cd d.name->mg d.name=some (.ref fa) ->
   s₁.heap.get? a=some { cls:=.type "list",data:=.seq vs.toArray }->IntsAre vs ns->ns.length<=n->s₁.gens=#[] ->
   codeAny (model l.prog w) callerA (.call (.ref fa) ⟨[.ref a],[]⟩) (λr s'=>r=.ok (.ret (.bool true))/\OldK s₁.heap s'.heap/\s'.os=s₁.os/\AllBare s'.gens) s₁) :
  WalkO q loose XP YP l.row.toRowW d [] (λf vs=>PySem.call f vs):=by
 intro w s₀ s₁ mg mb G Y fa o pm cd doc dV kV ho hd hcd hD hmg hg args vals as hpre hlay hrd hwl hlo
 obtain rfl:dV=.none:=Dflts.none hD hdf
 obtain rfl:kV=.none:=Dflts.noKw hD
 obtain⟨a,vs,ns,rfl,rfl,hobj,hints,hlen⟩:=zPk hn hpre hwl
 refine enter_call (ad1 (call w s₀ s₁ mg mb fa o pm cd doc a vs ns G Y ho (fd_plain hd) hcd hmg hobj hints hlen hg) λr s' hq=>?_)
 obtain⟨rfl,h2,h3,h4⟩:=hq
 exact⟨.inl ⟨.bool true,.bool true,[],rfl,λ_=>rfl,.bool true,zP0 l _,λ_=>⟨Pairwise.nil,λ_ hm=>(nomatch hm)⟩⟩,h2,h3,h4⟩
section
variable{prog:Program}{w:World}{A:Around}{E:Value->Shared->Prop}{s:Shared}{K:Frag}
end
end Att
namespace L2
open PySem PySem.Spec PyProof.Rows
theorem zH6:∀{vs:List Value}{ns:LI},IntsAre vs ns->Vals (ns.map V.int) vs
 |_,_,.nil=>.nil
 |_,_,.cons n t h=>.cons ⟨t,rfl⟩ (zH6 h)
def Only(H:Hp):Prop:=∀b,H b=none\/∃o xs,H b=some (.sY o (.lst xs))
theorem zUe{K:PySem.W.Frag}{s₁:Shared}{vs:List Value}(KX:K.In s₁.heap)(hns:s₁.heap.Ns abl mg)(hb:s₁.heap.Ns builtinsNs mb)(hbb:∀x:Str,x ≠ "__name__"->mb x=bootBuiltins x)(hlim:s₁.heap.NoLimit)(hg:s₁.gens=#[])(ha:s₁.heap.get? a=some { cls:=.type "list",data:=.seq vs.toArray })(hi:IntsAre vs ns)(hl:ns.length<=sizeLine)(hr:bQ k callerA)(F:∀base:Heap,K.In base->base.Ns abl mg->aq P w K mg base CX k fa fd [x] sp)(hbind:∀(s:Shared) (u:Value),BindsTo s fd ⟨[u],[]⟩ [(x,u)])(hsp:∀H:Hp,Only H->aO K H a (ns.map V.int)->sp [.ref a] H (λv _=>v=.bl true) λ_ _ _=>False)(Yn:∀H e s',CX [] H s₁ (λ_ _ _=>False) e s'->False) :
  codeAny (model P w) callerA (.call (.ref fa) ⟨[.ref a],[]⟩) (λr s'=>r=.ok (.ret (.bool true))/\OldK s₁.heap s'.heap/\s'.os=s₁.os/\AllBare s'.gens) s₁:=by
 have rv:=zH6 hi
 have lenV:=hi.length
 have core:∀H:Hp,Only H->aO K H a (ns.map V.int)->gQ P w H s₁.heap->(∀b,H b≠none->b=a)->(H a≠none->K.lookup a=none) ->
   codeAny (model P w) callerA (.call (.ref fa) ⟨[.ref a],[]⟩) (λr s'=>r=.ok (.ret (.bool true))/\OldK s₁.heap s'.heap/\s'.os=s₁.os/\AllBare s'.gens) s₁:=by
  intro H hO hS hok hA hK
  have tH:∀{b:Addr}{o:Obj},s₁.heap.get? b=some o->H b=none->(pU s₁.heap H).get? b=some o:=λe n=>zUl e n
  have QZ:∀{b:Addr}{o:Obj}{es:Array DictEntry}{ep:Nat},s₁.heap.get? b=some o->o.data=.dict es ep->H b=none:=λ{b o es ep} e d=>by
   cases q:H b with
   |none=>rfl
   |some u =>
    have e':b=a:=hA b (by rw[q];simp)
    subst e'
    rw[ha] at e;cases e
    have d':Data.seq vs.toArray _=Data.dict es ep:=d
    cases d'
  have VF:∀{b:Addr}{m:Str->Option Value},s₁.heap.Ns b m->(pU s₁.heap H).Ns b m:=λ{b m} ⟨o,es,ep,e,d,r⟩=>⟨o,es,ep,tH e (QZ e d),d,r⟩
  have hKb:K.In (pU s₁.heap H):=λb o e=>tH (KX b o e) (by
   cases q:H b with
   |none=>rfl
   |some u =>
    have e':b=a:=hA b (by rw[q];simp)
    subst e'
    rw[hK (by rw[q];simp)] at e;cases e)
  have hM:Mod K mg (pU s₁.heap H):=⟨hKb,VF hns,⟨mb,VF hb,hbb⟩,let⟨mc,h1,h2⟩:=hlim;⟨mc,VF h1,h2⟩⟩
  have e0:rP P w K mg (pU s₁.heap H) callerA [] s₁ H:=⟨rfl,hM,λb o e=>CZ e,Nat.le_of_eq (zQ8 _ _),trivial,λb hb=>absurd (show b∈([]:List Addr) from hb) (by simp),hok,.of_eq hg⟩
  refine ad1 ((F _ hKb (VF hns)).run callerA [] s₁ H ⟨[.ref a],[]⟩ [.ref a] [.ref a] _ _ hr e0 (hbind s₁ (.ref a)) (.cons rfl .nil) (hsp H hO hS)) λr s' h=>?_
  cases r with
  |error e=>exact(Yn H e s' h).elim
  |ok fl =>
   cases fl with
   |next=>exact ab4 h
   |brk=>exact ab4 h
   |cont=>exact ab4 h
   |ret u =>
    obtain⟨v,H',os,bare,un,hok',r',q⟩:=h
    have q':v=.bl true:=q
    subst q'
    obtain rfl:u=afy true:=r'
    refine⟨rfl,OldK.of_keep λb o e=>?_,os,bare⟩
    cases q:H b with
    |none=>exact un.keep b o e q (by intro z;exact absurd (show b∈([]:List Addr) from z) (by simp)) (by simp)
    |some u =>
     rcases hO b with z|⟨ob,xs,z⟩
     ·rw[q] at z;cases z
     ·have z2:=un.mK b ob _ z
      obtain⟨e1,_⟩:=hok b _ z
      obtain⟨e2,_⟩:=hok' b _ z2
      rw[e] at e1;cases e1
      exact e2
 cases hk:K.lookup a with
 |some o =>
  have e:=KX a o hk
  rw[ha] at e
  cases e
  refine core (λ_=>none) (λ_=>.inl rfl) (.inr ⟨_,vs.toArray,_,hk,rfl,rfl,rfl,by rw[size_toArray,lenV];exact hl,by simpa using rv⟩) (λb u z=>by have z':(none:Option HO)=some u:=z;cases z') (λb z=>absurd rfl z) λz=>absurd rfl z
 |none =>
  refine core (λb=>if b=a then some (.sY { cls:=.type "list",data:=.seq vs.toArray } (.lst (ns.map V.int))) else none) (λb=>?_) (.inl (.inr ⟨{ cls:=.type "list",data:=.seq vs.toArray },if_pos rfl⟩)) (λb u z=>?_) (λb z=>?_) λ_=>hk
  ·by_cases hb:b=a
   ·exact .inr ⟨_,_,if_pos hb⟩
   ·exact .inl (if_neg hb)
  ·by_cases hb:b=a
   ·have z':=(if_pos hb).symm.trans z
    cases z'
    subst hb
    exact⟨ha,by rw[length_map];exact hl,vs,_,rv,ha⟩
   ·have z':=(if_neg hb).symm.trans z
    cases z'
  ·by_cases hb:b=a
   ·exact hb
   ·exact absurd (if_neg hb) z
theorem DW{l:PySem.W.OpenLaw}{YP:World->Heap->Prop}{d:DefRec}{K:Params->PySem.W.Frag}{CX:World->uo}{sp:World->Sp}(hn:l.most=some n)(hn2:n<=sizeLine)(hdf:d.params.defaults=[])(hr:bQ k callerA)(hY:∀(w:World) (h:Heap),YP w h->(K w.params).In h)(F:∀(w:World) (mg:Str->Option Value) (fa:Addr) (h:Heap),(K w.params).In h->h.Ns abl mg->mg d.name=some (.ref fa) ->
   ∃fd:FuncData,(∀(s:Shared) (u:Value),BindsTo s fd ⟨[u],[]⟩ [(x,u)]) /\
    ∀base:Heap,(K w.params).In base->base.Ns abl mg->aq l.prog w (K w.params) mg base (CX w) k fa fd [x] (sp w))(hsp:∀(w:World) (H:Hp) (a:Addr) (ns:LI),ns.length<=n->Only H->aO (K w.params) H a (ns.map V.int)->sp w [.ref a] H (λv _=>v=.bl true) λ_ _ _=>False)(Yn:∀(w:World) (H:Hp) (s:Shared) (e:Value) (s':Shared),CX w [] H s (λ_ _ _=>False) e s'->False) :
  PySem.W.WalkO q loose XP YP l.row.toRowW d [] (λf vs=>PySem.call f vs):=by
 refine Att.qI hn hdf λw s₀ s₁ mg mb fa o pm cd doc a vs ns G Y ho hd hcd hmg hobj hints hlen hg=>?_
 have KX:=hY w _ Y
 obtain⟨fd,hb,hF⟩:=F w mg fa _ KX G.T.g hmg
 exact zUe KX G.T.g G.T.b G.T.builtins G.T.nolimit hg hobj hints (aa8 hlen hn2) hr hF hb (λH hO hS=>hsp w H a ns hlen hO hS) λH e s'=>Yn w H s₁ e s'
def yZ(s:Stmt)(j:Nat):Stmt:=match s with
 |.ClassDef _ _ _ body _ _ _ _ _ _ _=>body.getD j (.Pass ⟨0,0,0,0⟩)
 |_=>.Pass ⟨0,0,0,0⟩
def uA(s:Stmt):Arguments:=match s with
 |.FunctionDef _ a _ _ _ _ _ _ _ _=>a
 |_=>{ posonlyargs:=[],args:=[],vararg:=none,kwonlyargs:=[],kw_defaults:=[],kwarg:=none,defaults:=[] }
def wF(s:Stmt):List Stmt:=match s with
 |.FunctionDef _ _ b _ _ _ _ _ _ _=>b
 |_=>[]
def zH(s:Stmt):Scope:=match s with
 |.FunctionDef _ _ _ _ _ _ sc _ _ _=>sc
 |_=>{ kind:=.function,names:=[],isGenerator:=false,isCoroutine:=false }
abbrev aM:uo:=λ_ _ _ _ _ _=>False
abbrev E0:XK:=λ_ _ _=>False
theorem xJ:Dv aM X E0:=λ_ _ _ _ _ _ _ h=>h.elim
structure aZ(K:PySem.W.Frag)(x qual:Str)(st:Stmt)(f:Addr)(fd:FuncData):Prop where
 ex:∃(oc:Value)(od:Option Addr)(kV doc pm:Value)(an:Option Addr)(cdv ct:Value)(osl:Array (Option Value)),
  fd=fnOf x qual (uA st) (wF st) (zH st) .none kV doc pm an cdv ct/\K.lookup f=some ⟨oc,od,.func fd,osl⟩/\codeIn K cdv qual=true
 kp:keepIn K (.ref f)=true
section
variable{P:Program}{w:World}{K:PySem.W.Frag}{mg:Str->Option Value}{base:Heap}
theorem aZ.ok{x qual:Str}{st:Stmt}{f:Addr}{fd:FuncData}{N ps:List Str}{k:Nat}{sp:Sp}(F:aZ K x qual st f fd)(S:ao N ps (zH st))(len:∀vs H Q E,sp vs H Q E->vs.length=ps.length)(hbody:∀(cdv:Value) (A:Around) (outer:List Env) (s:Shared) (H:Hp) (vs:List V) (Q:VK) (E:XK),bQ k (A.deeper (envOfC qual (zH st) s.heap.objs.size f cdv))->sp vs H Q E ->
   ∃t,qz (oM aM P w K mg base N qual (zH st) f cdv A outer s H E).Dg (wF st) t/\t { nx:=λ_ H'=>Q .non H',rt:=Q } (start N vs) H):aq P w K mg base aM (k+1) f fd ps sp:=by
 obtain⟨oc,od,kV,doc,pm,an,cdv,ct,osl,rfl,lk,hcd⟩:=F.ex
 refine HD lk hcd S len λA outer s H vs Q E hr hsp=>?_
 obtain⟨t,h,q⟩:=hbody cdv A outer s H vs Q E hr hsp
 exact⟨t,h.Dg,q⟩
theorem aZ.binds{x qual:Str}{st:Stmt}{f:Addr}{fd:FuncData}{ps:List Str}(F:aZ K x qual st f fd)(h:∀(kV doc pm:Value) (an:Option Addr) (cdv ct:Value) (us:List Value),us.length=ps.length->bindArgs (fnOf x qual (uA st) (wF st) (zH st) .none kV doc pm an cdv ct) ⟨us,[]⟩=pure (ps.zip us)):Binds K fd ps []:=by
 obtain⟨oc,od,kV,doc,pm,an,cdv,ct,osl,rfl,lk,hcd⟩:=F.ex
 exact .all (h kV doc pm an cdv ct)
theorem mL{x qual:Str}{st:Stmt}{f:Addr}{oc:Value}{od an:Option Addr}{osl:Array (Option Value)}{kV doc pm cdv ct:Value}(l:K.lookup f=some ⟨oc,od,.func (fnOf x qual (uA st) (wF st) (zH st) .none kV doc pm an cdv ct),osl⟩)(c:codeIn K cdv qual=true)(k:keepIn K (.ref f)=true):aZ K x qual st f (fnOf x qual (uA st) (wF st) (zH st) .none kV doc pm an cdv ct):=⟨⟨oc,od,kV,doc,pm,an,cdv,ct,osl,rfl,l,c⟩,k⟩
end
theorem Af(hr:bQ k A):A.units+1<cLine:=aa7 (Nat.add_le_add_left (by decide:1<=64) _) hr.units
theorem Yo(h:n<=1000):n<sizeLine:=aa7 h (by decide)
section
variable{X:Cx}
theorem pv(i:Nat)(hN:X.N[i]?=some x:=by rfl)(hv:Qv X.env.scope x:=by first|exact Or.inl rfl|exact Or.inr (Or.inl rfl)|exact Or.inr (Or.inr rfl))(hd:(x==("__debug__":Str))=false:=by decide)(hcd:(x==("__classdict__":Str))=false:=by decide):PE X (.Name x pos) (bT i):=JG hN hv hd hcd
end
theorem lU{A B:Prop}(h:B):if false=true then A else B:=by
 rw[if_neg aay]
 exact h
theorem ig{A B:Prop}(h:A):if true=true then A else B:=by
 rw[if_pos rfl]
 exact h
theorem Ag{c A B:Prop}[Decidable c](h1:c->A)(h2:¬c->B):if c then A else B:=by
 by_cases h:c
 ·rw[if_pos h]
  exact h1 h
 ·rw[if_neg h]
  exact h2 h
def Same(H H':Hp):Prop:=∀b o,H b=some o->H' b=some o
theorem Same.refl(H:Hp):Same H H:=λ_ _ h=>h
theorem Same.trans(a:Same H H1)(b:Same H1 H2):Same H H2:=λc o h=>b c o (a c o h)
theorem Same.free(e:Same H H')(h:H' l=Option.none):H l=Option.none:=by
 cases q:H l with
 |none=>rfl
 |some o =>
  rw[e l o q] at h
  cases h
theorem Same.seq{K:PySem.W.Frag}{H H':Hp}{a:Addr}{xs:List V}(e:Same H H')(h:aO K H a xs):aO K H' a xs:=by
 rcases h with(h|⟨o,h⟩)|h
 ·exact .inl (.inl (e _ _ h))
 ·exact .inl (.inr ⟨o,e _ _ h⟩)
 ·exact .inr h
section
variable{κ:Type}[DecidableEq κ]
end
open PySem
section
variable{prog:Program}{w:World}{A:Around}{R:Result->Shared->Prop}{s:Shared}
theorem vI{α:Type}{t:Sem α}{Q Q':α->Shared->Prop}(h:wpAny M A t Q (λ_ _=>False) s)(hQ:∀a s,Q a s->Q' a s):wpAny M A t Q' (notedBy M A env E) s :=
 aco h hQ λ_ _ z=>z.elim
theorem zJi(I:Nat->Shared->Prop)(turn:∀n s,I n s->wpAny (model prog w) A (pyNext it) (λr s₁=>match r with
   |none=>R (.ok .next) s₁
   |some v=>wpAny (model prog w) A (letOwnedTupleGo target it v) (λ_ s₂=>wpAny (model prog w) A (assign target env v) (λ_ s₃ =>
     wpAny (model prog w) A (forIn ifs true λc r=>if r=true then do let ok <-isTrue c env (eval c env);pure (ac1 ok) else pure (ac1 r)) (λok s₄ =>
      if ok=true then wpAny (model prog w) A (eval elt env) (λx s₅ =>
       wpAny (model prog w) A (call (.builtin "list.append") [acc,x]) (λ_ s₆=>∃m,m<n/\I m s₆) (λ_ _=>False) s₅) (λ_ _=>False) s₄
      else∃m,m<n/\I m s₄) (λ_ _=>False) s₃) (λ_ _=>False) s₂) (λ_ _=>False) s₁) (λ_ _=>False) s)(n:Nat)(h:I n s):codeAny (model prog w) A (.compLoop (.ListComp elt [⟨target,iter,ifs,0⟩] scope pos) 0 it acc env) R s:=by
 refine codeAny_loop rfl I (λn s hI=>?_) n h
 show wpAny _ A ((compTurn (.ListComp elt [⟨target,iter,ifs,0⟩] scope pos) 0 it acc env).onRaise (λx=>do noteFrame x env;theTreesLotGoes x)) _ _ s
 refine wpAny_noted ?_
 rw[compTurn_list]
 refine aaw (afv (aaw (vI (turn n s hI) λr s₁ h₁=>?_)))
 cases r with
 |none=>exact aax h₁
 |some v =>
  refine aaw (vI h₁ λ_ s₂ h₂=>?_)
  refine aaw (vI h₂ λ_ s₃ h₃=>aaw (vI h₃ λok s₄ h₄=>?_))
  cases ok with
  |false=>exact aax ⟨rfl,h₄⟩
  |true =>
   exact aaw (aaw (vI h₄ λx s₅ h₅=>aaw (vI h₅ λ_ s₆ h₆=>aax (aax ⟨rfl,h₆⟩))))
end
def pq(env:Env):List (Str×NameKind)->List (Str×Addr)->List (Str×Addr)
 |[],acc=>acc
 | (n,k)::r,acc=>if k==.free then pq env r ((n,(env.cells.lookup n).getD 0)::acc) else pq env r acc
theorem zC9{scope:Scope}{env:Env}(h:∀y∈scope.names,y.2=.free->∃c,env.cells.lookup y.1=some c):closureFor scope env=pure (pq env scope.names []):=by
 unfold closureFor
 generalize scope.names=l at h
 have go:∀(l:List (Str×NameKind))(acc:List (Str×Addr)),(∀y∈l,y.2=.free->∃c,env.cells.lookup y.1=some c) ->
    (forIn l acc (λ(x:Str×NameKind) (r:List (Str×Addr))=>match x with
    | (name,kind)=>if(kind==abh)=true then(do let __do_lift <-cellOf env name;pure (ac1 ((name,__do_lift)::r))) else pure (ac1 r)):Sem (List (Str×Addr)))=pure (pq env l acc):=by
  intro l
  induction l with
  |nil=>intro acc _;rfl
  |cons x r ih =>
   intro acc hl
   obtain⟨n,k⟩:=x
   rw[List.forIn_cons]
   unfold pq
   by_cases hk:(k==abh)=true
   ·obtain⟨c,hc⟩:=hl (n,k) mem_cons_self (ab7 hk)
    simp only[hk,if_true]
    have hc':env.cells.lookup n=some c:=hc
    unfold cellOf
    rw[hc']
    exact ih _ λy hy=>hl y (mem_cons_of_mem _ hy)
   ·simp only[hk,if_false]
    exact ih _ λy hy=>hl y (mem_cons_of_mem _ hy)
 have e:=go l [] h
 simp only[bind_pure]
 exact e
theorem Yp{env:Env}:∀(l:List (Str×NameKind))(acc:List (Str×Addr)),(∀x c,acc.lookup x=some c->(env.cells.lookup x).getD 0=c)->∀x c,(pq env l acc).lookup x=some c->(env.cells.lookup x).getD 0=c
 |[],_,h,x,c,e=>h x c e
 | (n,k)::r,acc,h,x,c,e=>by
  unfold pq at e
  by_cases hk:(k==abh)=true
  ·rw[if_pos hk] at e
   refine Yp r _ (λy d q=>?_) x c e
   cases hy:y==n with
   |true =>
    rw[lookup_cons,hy] at q
    cases q
    rw[ab7 hy]
   |false =>
    rw[lookup_cons,hy] at q
    exact h y d q
  ·rw[if_neg hk] at e
   exact Yp r acc h x c e
theorem Yq:∀(l:List (Str×NameKind))(acc:List (Str×Addr))(x:Str)(c:Addr),(pq env l acc).lookup x=some c->(acc.lookup x).isSome=true\/(x,abh)∈l
 |[],_,x,c,e=>.inl (by unfold pq at e;rw[e];rfl)
 | (n,k)::r,acc,x,c,e=>by
  unfold pq at e
  by_cases hk:(k==abh)=true
  ·rw[if_pos hk] at e
   rcases Yq r _ x c e with h|h
   ·cases hy:x==n with
    |true =>
     have e1:=ab7 hy
     have e2:=ab7 hk
     subst e1;subst e2
     exact .inr mem_cons_self
    |false =>
     rw[lookup_cons,hy] at h
     exact .inl h
   ·exact .inr (mem_cons_of_mem _ h)
  ·rw[if_neg hk] at e
   rcases Yq r _ x c e with h|h
   ·exact .inl h
   ·exact .inr (mem_cons_of_mem _ h)
theorem VG:∀(l:List (Str×NameKind))(acc:List (Str×Addr))(x:Str),((acc.lookup x).isSome=true\/(x,abh)∈l)->((pq env l acc).lookup x).isSome=true
 |[],_,x,h=>by
  rcases h with h|h
  ·exact h
  ·cases h
 | (n,k)::r,acc,x,h=>by
  unfold pq
  by_cases hk:(k==abh)=true
  ·rw[if_pos hk]
   refine VG r _ x ?_
   rcases h with h|h
   ·refine .inl ?_
    rw[lookup_cons]
    cases hy:x==n with
    |true=>rfl
    |false=>exact h
   ·rcases mem_cons.mp h with h|h
    ·cases h
     refine .inl ?_
     rw[lookup_cons,beq_self_eq_true]
     rfl
    ·exact .inr h
  ·rw[if_neg hk]
   refine VG r _ x ?_
   rcases h with h|h
   ·exact .inl h
   ·rcases mem_cons.mp h with h|h
    ·cases h
     exact absurd rfl hk
    ·exact .inr h
theorem zDw{env:Env}:∀{names:List (Str×NameKind)}{x:Str},names.lookup x=some .free ->
  (names.map λ(n,k)=>if(k==abh&&env.scope.kind==.function&&env.kindOf n==some .cell) then(n,ace) else(n,k)).lookup x=some .cell \/
  (names.map λ(n,k)=>if(k==abh&&env.scope.kind==.function&&env.kindOf n==some .cell) then(n,ace) else(n,k)).lookup x=some .free
 |[],_,h=>by simp at h
 | (n,k)::r,x,h=>by
  have ih:=@zDw env r x
  show ada x ((if(k==abh&&env.scope.kind==.function&&env.kindOf n==some .cell)=true then(n,ace) else(n,k))::_)=_\/ada x ((if(k==abh&&env.scope.kind==.function&&env.kindOf n==some .cell)=true then(n,ace) else(n,k))::_)=_
  cases hx:x==n with
  |true =>
   simp only[lookup_cons,hx] at h
   cases h
   by_cases hc:(abh==abh&&env.scope.kind==.function&&env.kindOf n==some .cell)=true
   ·rw[if_pos hc];left;simp only[lookup_cons,hx]
   ·rw[if_neg hc];right;simp only[lookup_cons,hx]
  |false =>
   simp only[lookup_cons,hx] at h
   by_cases hc:(k==abh&&env.scope.kind==.function&&env.kindOf n==some .cell)=true
   ·rw[if_pos hc];simp only[lookup_cons,hx];exact ih h
   ·rw[if_neg hc];simp only[lookup_cons,hx];exact ih h
theorem Yr{env:Env}:∀{names:List (Str×NameKind)}{x:Str}{k:NameKind},(k=.cell\/k=.free) ->
  (names.map λ(n,k)=>if(k==abh&&env.scope.kind==.function&&env.kindOf n==some .cell) then(n,ace) else(n,k)).lookup x=some k->(x,abh)∈names\/(x,ace)∈names
 |[],_,_,_,h=>by simp at h
 | (n,k')::r,x,k,hk,h=>by
  have ih:=@Yr env r x k hk
  have h':ada x ((if(k'==abh&&env.scope.kind==.function&&env.kindOf n==some .cell)=true then(n,ace) else(n,k'))::(r.map λ(n,k)=>if(k==abh&&env.scope.kind==.function&&env.kindOf n==some .cell) then(n,ace) else(n,k)))=some k:=h
  cases hx:x==n with
  |true =>
   have e:=ab7 hx
   subst e
   by_cases hd:(k'==abh&&env.scope.kind==.function&&env.kindOf x==some .cell)=true
   ·have e2:k'=.free:=by
     rw[aa1,aa1] at hd
     exact ab7 hd.1.1
    subst e2
    exact .inl mem_cons_self
   ·rw[if_neg hd] at h'
    simp only[lookup_cons,hx] at h'
    cases h'
    rcases hk with e|e
    ·subst e;exact .inr mem_cons_self
    ·subst e;exact .inl mem_cons_self
  |false =>
   have g:(x,abh)∈r\/(x,ace)∈r:=by
    refine ih ?_
    by_cases hd:(k'==abh&&env.scope.kind==.function&&env.kindOf n==some .cell)=true
    ·rw[if_pos hd] at h';simp only[lookup_cons,hx] at h';exact h'
    ·rw[if_neg hd] at h';simp only[lookup_cons,hx] at h';exact h'
   rcases g with g|g
   ·exact .inl (mem_cons_of_mem _ g)
   ·exact .inr (mem_cons_of_mem _ g)
theorem xO:∀(l:List (Str×NameKind))(n:Nat)(acc:List (Str×Addr)),cellsFrom n l acc=cellsFrom n l []++acc
 |[],_,_=>rfl
 | (x,k)::r,n,acc=>by
  unfold cellsFrom
  split
  ·rw[xO r (n+1) ((x,n)::acc),xO r (n+1) [(x,n)]];simp
  ·exact xO r n acc
theorem Ys:∀(l:List (Str×NameKind))(n:Nat)(x:Str)(c:Addr),(x,c)∈cellsFrom n l []->(x,ace)∈l
 |[],_,_,_,h=>by cases h
 | (y,k)::r,n,x,c,h=>by
  unfold cellsFrom at h
  split at h
  ·rename_i hk
   rw[xO] at h
   rcases mem_append.mp h with h|h
   ·exact mem_cons_of_mem _ (Ys r _ x c h)
   ·have e:(x,c)=(y,n):=by simpa using h
    cases e
    rw[ab7 hk]
    exact mem_cons_self
  ·exact mem_cons_of_mem _ (Ys r _ x c h)
theorem zD7{s:Shared}{scope:Scope}{Q:Env->Shared->Prop}(hQ:∀h',h'.Ns s.heap.objs.size (λ_=>none)->(∀b o,s.heap.get? b=some o->h'.get? b=some o)->CellsOk h' (s.heap.objs.size+1) (cellsFrom (s.heap.objs.size+1) scope.names []) ->
   Q (newEnv scope s.heap.objs.size globals (cellsFrom (s.heap.objs.size+1) scope.names closure) qual none .none (some outer) builtinsNs) { s with heap:=h' }) :
  wpAny M A (newFunctionEnv scope globals closure [] qual none .none (some outer)) Q E s:=by
 simp only[newFunctionEnv,aec,if_true]
 refine aaw (wpAny_alloc ?_)
 refine aaw (wpAny_layCells _ (λname kind cells=>by cases hkc:kind==ace<;>simp[hkc]) _ _ _ _ ?_)
 have ok:=cellsFrom_ok scope.names (s.heap.push { cls:=.type "dict",data:=.dict #[] }) (s.heap.objs.size+1) [] ⟨λ_ _ hm=>(nomatch hm),Pairwise.nil⟩ (by rw[size_push];exact aa0 _)
 rw[size_push] at ok
 rw[show({ s with heap:=s.heap.push { cls:=.type "dict",data:=.dict #[] } }:Shared).heap.objs.size=s.heap.objs.size+1 from size_push ..]
 refine aaw ?_
 rw[List.forIn_nil]
 exact aax (aax (hQ _ ((Heap.Ns.new s.heap (.type "dict")).keeps (pushCells_keeps _ _)) (λb o e=>pushCells_keeps _ _ b o (get?_push_of_some _ e)) ok))
theorem gQ.track(x:gQ P w H h)(hn:H a=none)(new:bI P w (upd H a o) h a o):gQ P w (upd H a o) h:=λb u e=>by
 by_cases hb:b=a
 ·subst hb;rw[zJ] at e;cases e;exact new
 ·rw[zP hb] at e
  exact(x b u e).stay (λc v _ q=>q) (λc q=>by rw[zP (zL q hn)];exact q) λc xs q=>by rw[zP (zL q hn)];exact q
theorem Un.track(u:Un fs ex H H' h h')(h0:h.get? a=none)(hn:H a=none):Un fs ex H (upd H' a o) h h' where
 keep:=u.keep
 slot:=u.slot
 free:=λb ob q n hx=>by
  rw[zP (λz=>by rw[z,h0] at q;cases q)];exact u.free b ob q n hx
 there:=u.there
 tups:=λb xs q=>by rw[zP (zL q hn)];exact u.tups b xs q
 mK:=λb ob xs q=>by rw[zP (zL q hn)];exact u.mK b ob xs q
 oK:=λb ps q=>by rw[zP (zL q hn)];exact u.oK b ps q
def nIn(N:List Str)(own:List Str)(ix:List Nat):List Str:=own++ix.map λj=>N.getD j adt
def i_(σ:St)(n:Nat)(ix:List Nat):St:=replicate n none++ix.map λj=>(σ[j]?).getD none
def dG(X:Cx)(scope:Scope)(own:List Str)(ix:List Nat)(C:Addr)(s:Shared)(H:Hp)(fp:List Addr):Cx :=
 { X with N:=nIn X.N own ix,s₀:=s,H₀:=H,env:=compEnvC scope (cellsFrom (C+1) scope.names (pq X.env scope.names [])) C X.env,outer:=X.stack,stack:=X.stack,ex:=fp,fn:=λx=>scope.names.lookup x==some .cell,pn:=[] }
def VH(Ku:Scope)(oN:List Str)(scope:Scope)(ix:List Nat):Bool :=
 scope.kind==.function &&
 (scope.names.all λy=>(y.2 != .cell||scope.names.lookup y.1==some .cell)&&(y.2 != .local||scope.names.lookup y.1==some .local)&&(y.2 != .free||(Ku.names.lookup y.1==some .cell||Ku.names.lookup y.1==some .free))) &&
 ix.all λj=>match oN[j]? with
  |some x=>scope.names.lookup x==some .free
  |none=>false
structure jy(Ku:Scope)(oN:List Str)(scope:Scope)(ix:List Nat):Prop where
 kind:scope.kind=.function
 clk:∀y∈scope.names,y.2=.cell->scope.names.lookup y.1=some .cell
 nm:∀y∈scope.names,y.2=.local->scope.names.lookup y.1=some .local
 fr:∀y∈scope.names,y.2=.free->Ku.names.lookup y.1=some .cell\/Ku.names.lookup y.1=some .free
 ix:∀j∈ix,∃x,oN[j]?=some x/\scope.names.lookup x=some .free
theorem zJg(h:VH Ku oN scope ix=true):jy Ku oN scope ix:=by
 unfold VH at h
 rw[aa1,aa1,all_eq_true,all_eq_true] at h
 obtain⟨⟨h1,h2⟩,h3⟩:=h
 refine⟨ab7 h1,λy hy e=>?_,λy hy e=>?_,λy hy e=>?_,λj hj=>?_⟩
 ·have q:=h2 y hy
  rw[aa1,aa1] at q
  rcases acd _ _▸q.1.1 with z|z
  ·exact absurd e (bne_iff_ne.mp z)
  ·exact ab7 z
 ·have q:=h2 y hy
  rw[aa1,aa1] at q
  rcases acd _ _▸q.1.2 with z|z
  ·exact absurd e (bne_iff_ne.mp z)
  ·exact ab7 z
 ·have q:=h2 y hy
  rw[aa1,aa1] at q
  rcases acd _ _▸q.2 with z|z
  ·exact absurd e (bne_iff_ne.mp z)
  ·rcases acd _ _▸z with z|z
   ·exact .inl (ab7 z)
   ·exact .inr (ab7 z)
 ·have q:=h3 j hj
  cases e:oN[j]? with
  |none=>rw[e] at q;cases q
  |some x=>rw[e] at q;exact⟨x,rfl,ab7 q⟩
section
variable{X:Cx}{pins:List (Addr×Obj)}{σ:St}{H:Hp}{s:Shared}{scope:Scope}{own:List Str}{ix:List Nat}
theorem Yt(I:Inv X pins σ H s)(sc:jy X.env.scope X.N scope ix):∀y∈scope.names,y.2=.free->∃c,X.env.cells.lookup y.1=some c:=λy hy e=>by
 rcases sc.fr y hy e with q|q
 ·exact I.ok.has y.1 (.inl q)
 ·exact I.ok.has y.1 (.inr q)
theorem zMo(I:Inv X pins σ H s)(sc:jy X.env.scope X.N scope ix)(e:(pq X.env scope.names []).lookup x=some c):X.env.cells.lookup x=some c:=by
 have h1:=Yp (env:=X.env) scope.names [] (λx c q=>by simp at q) x c e
 rcases Yq (env:=X.env) scope.names [] x c e with q|q
 ·simp at q
 ·obtain⟨c',hc⟩:=Yt I sc (x,.free) q rfl
  have hc':X.env.cells.lookup x=some c':=hc
  rw[hc'] at h1
  rw[hc']
  exact congrArg some h1
theorem zU0(I:Inv X pins σ H s)(sc:jy X.env.scope X.N scope ix)(hx:(x,abh)∈scope.names)(e:X.env.cells.lookup x=some c):(pq X.env scope.names []).lookup x=some c:=by
 have h1:=VG (env:=X.env) scope.names [] x (.inr hx)
 obtain⟨c',hc⟩:=abz.mp h1
 rw[hc]
 have:=zMo I sc hc
 rw[e] at this
 exact this.symm
theorem uS(I:Inv X pins σ H s)(sc:jy X.env.scope X.N scope ix)(e:(cellsFrom (C+1) scope.names (pq X.env scope.names [])).lookup x=some c):(x,c)∈cellsFrom (C+1) scope.names []\/X.env.cells.lookup x=some c:=by
 rw[xO,lookup_append] at e
 cases h:(cellsFrom (C+1) scope.names []).lookup x with
 |some d=>rw[h] at e;cases e;exact .inl (ab5 h)
 |none=>rw[h] at e;exact .inr (zMo I sc e)
theorem Ah(h:(i_ σ n ix)[i]?=some (some v)):∃j,ix[i-n]?=some j/\σ[j]?=some (some v)/\n<=i:=by
 unfold i_ at h
 by_cases hi:i<n
 ·rw[getElem?_append_left (by simpa using hi),getElem?_replicate] at h
  rw[if_pos hi] at h
  cases h
 ·rw[getElem?_append_right (by simpa using hi),List.length_replicate,getElem?_map] at h
  cases e:ix[i-n]? with
  |none=>rw[e] at h;cases h
  |some j =>
   rw[e] at h
   have h':(σ[j]?).getD none=some v:=aa2 h
   refine⟨j,rfl,?_,by omega⟩
   cases e2:σ[j]? with
   |none=>rw[e2] at h';cases h'
   |some o=>rw[e2] at h';exact congrArg some h'
theorem Inv.comp{h₁:Heap}(I:Inv X pins σ H s)(sc:jy X.env.scope X.N scope ix)(fo:∀b∈fp,kE X pins H b)(Rk:∀b∈fp,b<s.heap.objs.size)(hC:s.heap.objs.size<=C)(hns:h₁.Ns C m₀)(hk:∀b o,s.heap.get? b=some o->h₁.get? b=some o)(co:CellsOk h₁ (C+1) (cellsFrom (C+1) scope.names [])):Inv (dG X scope own ix C s H fp) [] (i_ σ own.length ix) H { s with heap:=h₁,toks:=t' }:=by
 have lt:∀{b:Addr},b<s.heap.objs.size->b≠C:=λ{b} hb=>aa5 (aa3 hb hC)
 have Rm:∀{x:Str}{c:Addr},X.env.cells.lookup x=some c->c<C+1:=λ{x c} e=>by
  obtain⟨v,q⟩:=I.cell x c e
  exact aej (aa3 q.lt hC)
 have cellK:∀{x:Str}{c:Addr},X.env.cells.lookup x=some c->∀v,s.heap.IsCell c v->h₁.IsCell c v:=λ{x c} _ v ⟨o,ho,hd⟩=>⟨o,hk _ _ ho,hd⟩
 refine⟨⟨I.ok.mod,sc.kind,I.ok.glob,I.ok.blt,hC,λx y c h1 h2=>?_,λx hx=>?_,λx c h e=>by
  have h':scope.names.lookup x=some .cell:=ab7 h
  have e':(cellsFrom (C+1) scope.names (pq X.env scope.names [])).lookup x=some c:=e
  rw[xO,lookup_append] at e'
  obtain⟨d,hd⟩:=abz.mp (ady scope.names (C+1) [] (.inl h'))
  rw[hd] at e'
  cases e'
  exact aa8 hC (ae3 (co.empty _ _ (ab5 hd)).2),I.ok.hd,I.ok.frames,.inl rfl,λb hb=>?_,I.bs,aa8 I.ok.Dd I.sz,λb o e hb=>?_,λb hb z=>?_,I.stack,I.sZ⟩,
  rfl,I.bare,Un.kept hk,⟨m₀,hns,λi x v h1 h2 h3=>?_⟩,λx c h=>?_,I.hok.fresh hC,λx c h=>?_,λp hp=>?_,I.hok.kept hk,?_⟩
 ·rcases uS I sc h1 with q1|q1
  ·rcases uS I sc h2 with q2|q2
   ·exact name_of_addr co.apart q1 q2
   ·exact absurd (aa3 (Rm q2) (co.empty _ _ q1).2) (ab2 _)
  ·rcases uS I sc h2 with q2|q2
   ·exact absurd (aa3 (Rm q1) (co.empty _ _ q2).2) (ab2 _)
   ·exact I.ok.inj x y c q1 q2
 ·have hm:(x,abh)∈scope.names\/(x,ace)∈scope.names:=by
   rcases hx with hx|hx
   ·exact Yr (env:=X.env) (.inl rfl) hx
   ·exact Yr (env:=X.env) (.inr rfl) hx
  refine abz.mp ?_
  show((cellsFrom (C+1) scope.names (pq X.env scope.names [])).lookup x).isSome=true
  rcases hm with hm|hm
  ·exact ady _ _ _ (.inr (VG (env:=X.env) scope.names [] x (.inr hm)))
  ·exact ady _ _ _ (.inl (sc.clk _ hm rfl))
 ·obtain⟨f0,f1,f2,f3,f4,f5⟩:=fo b hb
  refine⟨lt (Rk b hb),λx c h=>?_⟩
  rcases uS I sc h with q|q
  ·exactλz=>absurd (aa3 (Rk b hb) (aa8 hC (ae3 (z▸(co.empty _ _ q).2)))) (ab2 _)
  ·exact f4 x c q
 ·obtain⟨f0,f1,f2,f3,f4,f5⟩:=fo b hb
  rcases f3 with z|z
  ·exact I.ok.zf b o e z
  ·exact absurd (aa3 (lt_size e) (aa8 I.ok.Dd z)) (ab2 _)
 ·obtain⟨f0,f1,f2,f3,f4,f5⟩:=fo b hb
  rcases mem_cons.mp (I.pW b z) with z|z
  ·exact f1 z
  ·exact f2 z
 ·obtain⟨j,hj,hv,hn⟩:=Ah h2
  obtain⟨y,hy,hf⟩:=sc.ix j (mem_of_getElem? hj)
  have e:y=x:=by
   have h1':(nIn X.N own ix)[i]?=some x:=h1
   unfold nIn at h1'
   rw[getElem?_append_right hn,getElem?_map,hj] at h1'
   have DX:X.N.getD j adt=x:=aa2 h1'
   rw[getD_eq_getElem?_getD,hy] at DX
   exact DX
  subst e
  have hm:(y,abh)∈scope.names:=ab5 hf
  have vis:Qv X.env.scope y:=by
   rcases sc.fr _ hm rfl with q|q
   ·exact .inr (.inl q)
   ·exact .inr (.inr q)
  obtain⟨m,_,hl⟩:=I.loc
  obtain⟨u,r,l⟩:=hl j y v hy hv vis
  refine⟨u,r,?_⟩
  rcases l with⟨hk',_⟩|⟨_,c,hc,hcell⟩
  ·have hk'':X.env.scope.names.lookup y=some .local:=hk'
   rcases sc.fr _ hm rfl with q|q
   ·have q':X.env.scope.names.lookup y=some .cell:=q
    rw[hk''] at q';cases q'
   ·have q':X.env.scope.names.lookup y=some .free:=q
    rw[hk''] at q';cases q'
  ·refine .inr ⟨zDw (env:=X.env) hf,c,?_,cellK hc _ hcell⟩
   show(cellsFrom (C+1) scope.names (pq X.env scope.names [])).lookup y=some c
   rw[xO,lookup_append,zU0 I sc hm hc]
   cases e:(cellsFrom (C+1) scope.names []).lookup y with
   |none=>rfl
   |some d =>
    have q:=sc.clk _ (Ys _ _ _ _ (ab5 e)) rfl
    have q':scope.names.lookup y=some .cell:=q
    rw[hf] at q';cases q'
 ·rcases uS I sc h with q|q
  ·exact⟨_,(co.empty _ _ q).1⟩
  ·obtain⟨v,z⟩:=I.cell x c q
   exact⟨v,cellK q v z⟩
 ·rcases uS I sc h with q|q
  ·exact I.hok.fresh (aa8 hC (ae3 (co.empty _ _ q).2))
  ·exact I.gZ x c q
 ·exact absurd (show p∈([]:List (Addr×Obj)) from hp) (by simp)
 ·show(i_ σ own.length ix).length=(nIn X.N own ix).length
  unfold i_ nIn
  simp
end
def Ai(X:Cx)(ifs:List Expr)(t:TT):Prop :=
 ∀(pins:List (Addr×Obj))(s:Shared)(σ:St)(H:Hp)(Q:Bool->Hp->Prop),Inv X pins σ H s->t σ H Q ->
  wpAny (model X.prog X.w) X.A (forIn ifs true λc r=>if r=true then do let ok <-isTrue c X.env (eval c X.env);pure (ac1 ok) else pure (ac1 r)) (TP X pins σ Q) X.xe s
def rT:TT:=λ_ H Q=>Q true H
theorem wV:Ai X [] rT:=λ_ _ _ H _ I h=>wpAny_tests_nil ⟨H,I,h⟩
theorem Rn(h:PT X c t):Ai X [c] t:=λpins s σ H Q I q=>wpAny_tests_one (h pins s σ H Q I q)
def Pa(n:Nat)(ix:List Nat)(g:TG)(tc:TT)(te:TE)(σ:St)(Q:VK)(J:It)(H1:Hp):Prop :=
 ∃W:Nat->Nat->List V->St->Hp->Prop,(∃m,W 0 m [] (i_ σ n ix) H1)/\∀i m ys σ2 H2,W i m ys σ2 H2 ->
  (J.stop i H2/\ys.length<=sizeLine/\∀p,H2 p=none->Q (.ref p) (upd H2 p (.lst ys))) \/
  (J.go i H2/\ys.length<sizeLine/\∃N:List V->St->Hp->Prop,(∀ys' σ' H',N ys' σ' H'->∃m',m'<m/\W (i+1) m' ys' σ' H') /\
   ∀x H3,J.JW i H2 x H3->g x σ2 H3 λσ4 H4=>tc σ4 H4 λb H5=>if b=true then te σ4 H5 λy H6=>N (ys++[y]) σ4 H6 else N ys σ4 H5)
def Kv(n:Nat)(ix:List Nat)(wi:TI)(g:TG)(tc:TT)(te:TE):TE:=λσ H Q=>wi σ H (Pa n ix g tc te σ Q)
def Yu(X:Cx)(pins:List (Addr×Obj))(σ:St)(Q:VK)(acc:Value)(C:Addr)(s':Shared):Prop :=
 ∃p H',acc=.ref p/\Inv X pins σ H' s'/\(∃m,s'.heap.Ns C m)/\kE X pins H' C/\Q (.ref p) H'
theorem Yv{X:Cx}{α:Type}{t:Sem α}{Q Q':α->Shared->Prop}(hx:X.xe=λ_ _=>False)(h:wpAny M A t Q X.xe s)(hQ:∀a s,Q a s->Q' a s):wpAny M A t Q' E s :=
 aco h hQ λe s' z=>by rw[hx] at z;exact z.elim
section
variable{X:Cx}{elt tg iter:Expr}{ifs:List Expr}{scope:Scope}{pos:Pos}{own:List Str}{ix:List Nat}{wi:TI}{g:TG}{tc:TT}{te:TE}
theorem zGt{RR:Value->Addr->Result->Shared->Prop}(hx:X.xe=λ_ _=>False)(hc:X.calm=true)(sc:jy X.env.scope X.N scope ix)(I:Inv X pins σ H s)(T:Turn X.prog X.w X.K tg J fp it tn)(st:tn 0 s.heap)(fo:∀b∈fp,kE X pins H b)(hg:∀C s H fp,PG (dG X scope own ix C s H fp) tg g)(hif:∀C s H fp,Ai (dG X scope own ix C s H fp) ifs tc)(he:∀C s H fp,PE (dG X scope own ix C s H fp) elt te)(rd:Pa own.length ix g tc te σ Q J H)(hRR:∀acc C s',Yu X pins σ Q acc C s'->RR acc C (.ok .next) s') :
  wpAny (model X.prog X.w) X.A (newList []) (λacc s₃=>wpAny (model X.prog X.w) X.A (newFunctionEnv scope X.env.globals (pq X.env scope.names []) [] X.env.qual none .none (some X.env)) (λcenv s₄ =>
   codeAny (model X.prog X.w) X.A (.compStart (.ListComp elt [⟨tg,iter,ifs,0⟩] scope pos) 0 (.ref it) acc { cenv with scope:=relabel scope X.env }) (RR acc cenv.locals) s₄) E s₃) E s:=by
 refine ab3 (zD7 (λh₁ hns₁ hsb₁ co=>?_))
 dsimp only at hns₁ hsb₁ co ⊢
 generalize hD':s.heap.objs.size=D at hns₁ hsb₁ co ⊢
 generalize hH2:s.heap.push { cls:=.type "list",dict:=none,data:=.seq ([]:List Value).toArray }=G at hns₁ hsb₁ co ⊢
 generalize hC':G.objs.size=C at hns₁ hsb₁ co ⊢
 have hC:C=D+1:=by rw[<-hC',<-hH2,size_push,hD']
 have hDC:D≠C:=by rw[hC];exact aa5 (acv _)
 have hle:s.heap.objs.size<=C:=by rw[hC,hD'];exact acq _
 have old:∀b o,s.heap.get? b=some o->h₁.get? b=some o:=λb o e=>by
  exact hsb₁ b o (hH2▸get?_push_of_some _ e)
 have oD:h₁.get? D=some { cls:=.type "list",data:=.seq ([]:List Value).toArray 0 }:=by
  refine hsb₁ D _ ?_
  rw[<-hH2,<-hD']
  exact get?_push_size _ rfl
 have Rk:∀b∈fp,b<s.heap.objs.size:=λb hb=>by
  obtain⟨o,e,_⟩:=T.obj 0 _ st b hb
  exact lt_size e
 have nDf:∀b∈fp,b≠D:=λb hb=>by rw[<-hD'];exact aa5 (Rk b hb)
 have sD:s.heap.get? D=none:=by
  cases e:s.heap.get? D with
  |none=>rfl
  |some o=>exact absurd (lt_size e) (by rw[hD'];exact ab2 _)
 have hDn:H D=none:=I.hok.fresh (by rw[hD'];exact aa0 _)
 have I0:Inv (dG X scope own ix C s H fp) [] (i_ σ own.length ix) H { s with heap:=h₁ }:=I.comp sc fo Rk hle hns₁ old co
 have st0:tn 0 h₁:=T.keep 0 _ _ st λb _ o e=>old b o e
 have hx':(dG X scope own ix C s H fp).xe=λ_ _=>False:=hx
 have Ro:D≠(dG X scope own ix C s H fp).env.locals:=hDC
 have Dex:D∈(dG X scope own ix C s H fp).ex\/(dG X scope own ix C s H fp).s₀.heap.objs.size<=D:=.inr (by show s.heap.objs.size<=D;rw[hD'];exact aa0 _)
 have Dfs:D∉(dG X scope own ix C s H fp).fs:=I0.JD (a:=D) |> λk=>λz=>by
  have z':D∈frs X.stack:=z
  rcases mem_cons.mp (I.pW D z') with q|q
  ·exact absurd (q▸I.lt) (by rw[hD'];exact ab2 _)
  ·exact I.JD (by rw[hD'];exact aa0 _) q
 have Rq:∀x c,(dG X scope own ix C s H fp).env.cells.lookup x=some c->c≠D:=λx c e z=>by
  rcases uS I sc e with q|q
  ·have w1:=(co.empty _ _ q).2
   rw[z,hC] at w1
   omega
  ·obtain⟨v,q⟩:=I.cell x c q
   exact absurd (aa3 q.lt (by rw[z,hD'];exact aa0 _)) (ab2 _)
 have Yw:∀{H':Hp}{pl:List (Addr×Obj)},(∀b∈fp,H' b=none)->(∀p∈pl,p.1=D)->∀b∈fp,kE (dG X scope own ix C s H fp) pl H' b:=λ{H' pl} hn hp b hb=>by
  obtain⟨f0,f1,f2,f3,f4,f5⟩:=fo b hb
  refine⟨hn b hb,(I0.ok.Vg b hb).1,I0.ok.zj b hb,.inl hb,(I0.ok.Vg b hb).2,λp hp' z=>?_⟩
  rcases mem_append.mp hp' with q|q
  ·exact absurd (show p∈([]:List (Addr×Obj)) from q) (by simp)
  ·exact nDf b hb (by rw[<-z];exact hp p q)
 obtain⟨W,⟨m0,w0⟩,step⟩:=rd
 have loop:codeAny (model X.prog X.w) X.A (.compLoop (.ListComp elt [⟨tg,iter,ifs,0⟩] scope pos) 0 (.ref it) (.ref D) (dG X scope own ix C s H fp).env) (RR (.ref D) C) { s with heap:=h₁ }:=by
  refine zJi (λn s'=>∃i ys σ' H' its k,Inv (dG X scope own ix C s H fp) [] σ' H' s'/\tn i s'.heap/\(∀b∈fp,H' b=none)/\H' D=none/\s'.heap.get? D=some { cls:=.type "list",data:=.seq (toArray its) k }/\Vals ys its/\W i n ys σ' H') ?_ m0
   ⟨0,[],_,H,[],0,I0,st0,λb hb=>(fo b hb).1,hDn,oD,.nil,w0⟩
  rintro n s1 ⟨i,ys,σ1,H1,its,k,I1,tn1,VJ,D1,o1,Aj,w1⟩
  have J1:Inv (dG X scope own ix C s H fp) [(D,{ cls:=.type "list",data:=.seq (toArray its) k })] σ1 H1 s1:=I1.jP λp hp=>by
   have e:p=(D,{ cls:=.type "list",data:=.seq (toArray its) k }):=by simpa using hp
   subst e
   exact⟨o1,D1,Ro,Dfs,λv z=>by cases z⟩
  have single:∀p∈[((D,{ cls:=.type "list",data:=.seq (toArray its) k }):Addr×Obj)],p.1=D:=λp hp=>by
   have e:p=(D,{ cls:=.type "list",data:=.seq (toArray its) k }):=by simpa using hp
   rw[e]
  rcases step i n ys σ1 H1 w1 with⟨stop,hz,qn⟩|⟨go,hz,N,hN,stp⟩
  ·refine aP (T.done (dG X scope own ix C s H fp) rfl rfl rfl hc i _ s1 σ1 H1 _ J1 (Yw VJ single) tn1 stop) λr s2 ⟨hr,I2⟩=>?_
   subst hr
   obtain⟨e2,_⟩:=I2.pin (D,{ cls:=.type "list",data:=.seq (toArray its) k }) (mem_append_right _ (by simp))
   obtain⟨m2,Yx,_⟩:=I2.loc
   refine hRR _ _ _ ⟨D,upd H1 D (.lst ys),rfl,?_,⟨m2,Yx⟩,?_,qn D D1⟩
   ·refine I.call' (ch:=fp) I2.os (Un.track I2.base sD hDn) (I2.hok.track D1 ⟨hz,its,k,Aj,e2⟩) I2.bare λb hb=>?_
    obtain⟨f0,f1,f2,f3,f4,f5⟩:=fo b hb
    exact⟨f3,f1,f4,f5⟩
   ·refine I.jQ hle ?_
    rw[zP hDC.symm]
    exact I2.free
  ·refine aP (T.item (dG X scope own ix C s H fp) rfl rfl rfl hc i _ s1 σ1 H1 _ J1 (Yw VJ single) tn1 go) λr s2 ⟨u,hr,h2⟩=>?_
   subst hr
   refine aP h2 λ_ s3 ⟨x,H3,I3,rx,y3,Yy,Vn⟩=>?_
   have I3':=I3.pinned (Yw Vn single) (T.obj _ _ Yy)
   refine Yv hx' (hg C s H fp _ s3 σ1 H3 x u _ I3' rx (stp x H3 y3)) λ_ s4 ⟨σ4,H4,I4,q4⟩=>?_
   refine Yv hx' (hif C s H fp _ s4 σ4 H4 _ I4 q4) λb s5 ⟨H5,I5,q5⟩=>?_
   have back:∀{σ7:St}{H7:Hp}{s7:Shared},Inv (dG X scope own ix C s H fp) ([(D,{ cls:=.type "list",data:=.seq (toArray its) k })]++Hz fp s3.heap) σ7 H7 s7 ->
     tn (i+1) s7.heap/\(∀b∈fp,H7 b=none)/\H7 D=none/\s7.heap.get? D=some { cls:=.type "list",data:=.seq (toArray its) k }:=λ{σ7 H7 s7} I7=>by
    have Rr:=I7.pin (D,{ cls:=.type "list",data:=.seq (toArray its) k }) (mem_append_right _ (mem_append_left _ (by simp)))
    refine⟨T.keep _ _ _ Yy λb hb o e=>(I7.pin (b,o) (mem_append_right _ (mem_append_right _ (vJ hb e)))).1,λb hb=>?_,Rr.2.1,Rr.1⟩
    obtain⟨o,e,d⟩:=T.obj _ _ Yy b hb
    exact(I7.pin (b,o) (mem_append_right _ (mem_append_right _ (vJ hb e)))).2.1
   cases b with
   |false =>
    obtain⟨m',hm,w'⟩:=hN _ _ _ (show N ys σ4 H5 from q5)
    obtain⟨b1,b2,b3,b4⟩:=back I5
    exact⟨m',hm,i+1,ys,σ4,H5,its,k,I5.jP (λp hp=>absurd hp (by simp)),b1,b2,b3,b4,Aj,w'⟩
   |true =>
    rw[if_pos rfl]
    refine Yv hx' (he C s H fp _ s5 σ4 H5 _ I5 q5) λv s6 ⟨y,H6,I6,ry,q6⟩=>?_
    obtain⟨m',hm,w'⟩:=hN _ _ _ q6
    obtain⟨b1,b2,b3,b4⟩:=back I6
    have zl:its.length=ys.length:=Aj.length.symm
    refine afg F.slot_list_append ⟨_,b4,rfl⟩ F.entry_list_append (F.args_list_append_2 _ _) (PySem.list_append D its.toArray k v (by rw[size_toArray];omega)) ⟨b4,?_⟩
    have q:=PySem.IsL.update b4 (λxs=>xs.push v)
    have keep:∀b o,b≠D->s6.heap.get? b=some o->(s6.heap.update D (ado λxs=>xs.push v)).get? b=some o:=λb o hb e=>(get?_update_other s6.heap _ (ac2 hb)).trans e
    refine⟨m',hm,i+1,ys++[y],σ4,H6,its++[v],(if(its.toArray.push v).size==its.toArray.size then k else k+1),?_,T.keep _ _ _ b1 (λb hb o e=>keep b o (nDf b hb) e),b2,b3,?_,Aj.append (.cons ry .nil),w'⟩
    ·exact(I6.jP (Hr:=[]) λp hp=>absurd hp (by simp)).turned (t':=s6.toks) keep b3 Ro Dex Rq λp hp=>absurd (show p∈([]:List (Addr×Obj)) from hp) (by simp)
    ·rw[show(its++[v]).toArray=its.toArray.push v by simp]
     exact q
 exact codeAny_compStart_list loop (T.self X.A 0 _ _ _ st0 loop)
theorem DY(hx:X.xe=λ_ _=>False)(hc:X.calm=true)(ho:VH X.env.scope X.N scope ix=true)(hi:PI X tg iter wi)(hg:∀C s H fp,PG (dG X scope own ix C s H fp) tg g)(hif:∀C s H fp,Ai (dG X scope own ix C s H fp) ifs tc)(he:∀C s H fp,PE (dG X scope own ix C s H fp) elt te)(hs:∀x,foldedSetIterable iter X.env x=pure x:=by intro _;rfl):PE X (.ListComp elt [⟨tg,iter,ifs,0⟩] scope pos) (Kv own.length ix wi g tc te):=by
 intro pins s σ H Q I h
 have sc:=zJg ho
 rw[eval_ListComp]
 refine wpAny_comprehension_free (use:=none) rfl hs (zC9 (Yt I sc)) sc.kind sc.nm (aP (hi pins s σ H _ I h) λv s1 h1=>aP h1 λitv s2 h2=>?_)
 obtain⟨it,fp,tn,J,H2,e,I2,T,st2,f2,rd⟩:=h2
 subst e
 refine zGt (RR:=λacc C=>compPost (model X.prog X.w) X.A X.xe none (EP X pins σ Q) acc C) hx hc sc I2 T st2 f2 hg hif he rd ?_
 rintro acc C s' ⟨p,H',rfl,I',⟨m,hns⟩,fC,q⟩
 obtain⟨f0,f1,f2,f3,f4,f5⟩:=fC
 exact⟨m,hns,λh' hs'=>⟨.ref p,H',I'.turned (t':=s'.toks) (λb o hb e=>(hs'.2 b hb).trans e) f0 f1 f3 f4 f5,rfl,q⟩⟩
theorem Cp{spos:Pos}(hN:X.N.Nodup)(hi':X.N[i]?=some x)(Pb:X.env.scope.names.lookup x=some .local)(hx:X.xe=λ_ _=>False)(hc:X.calm=true)(ho:VH X.env.scope X.N scope ix=true)(hi:PI X tg iter wi)(hg:∀C s H fp,PG (dG X scope own ix C s H fp) tg g)(hif:∀C s H fp,Ai (dG X scope own ix C s H fp) ifs tc)(he:∀C s H fp,PE (dG X scope own ix C s H fp) elt te)(hsw:swapsWith (.ListComp elt [⟨tg,iter,ifs,0⟩] scope pos) (some (.Name x pos')) spos.line X.env=pure true:=by rfl)(hs:∀x,foldedSetIterable iter X.env x=pure x:=by intro _;rfl):PS X (.Assign [.Name x pos'] (.ListComp elt [⟨tg,iter,ifs,0⟩] scope pos) spos) (lR (Kv own.length ix wi g tc te) (uV i)):=by
 intro pins s σ H D I h
 have sc:=zJg ho
 rw[exec_Assign_Name_used _ _ _ _ hsw]
 refine aaw (afv (aaw ?_))
 show wpAny _ X.A (do let _ <-comprehension (.ListComp elt [⟨tg,iter,ifs,0⟩] scope pos) scope X.env _ (newList []) false (eval iter X.env) (some (assign (.Name x pos') X.env))) _ _ s
 refine aaw (aco (wpAny_comprehension_free (use:=some (assign (.Name x pos') X.env)) (Q:=λ_ s'=>SP X pins D .next s') rfl hs (zC9 (Yt I sc)) sc.kind sc.nm
  (aP (hi pins s σ H _ I h) λv s1 h1=>aP h1 λitv s2 h2=>?_)) (λ_ s' hq=>aax (aax hq)) λ_ _ e=>e)
 obtain⟨it,fp,tn,J,H2,e,I2,T,st2,f2,rd⟩:=h2
 subst e
 refine zGt (RR:=λacc C=>compPost (model X.prog X.w) X.A X.xe (some (assign (.Name x pos') X.env)) (λ_ s'=>SP X pins D .next s') acc C) hx hc sc I2 T st2 f2 hg hif he rd ?_
 rintro acc C s' ⟨p,H',rfl,I',⟨m,hns⟩,fC,q⟩
 obtain⟨f0,f1,f2,f3,f4,f5⟩:=fC
 show wpAny _ X.A (assign (.Name x pos') X.env (.ref p)) _ _ _
 refine wpAny_assign_Name (zH8 (v:=.ref p) I' hN hi' (.inl Pb) rfl (λs'' I'' ⟨a,hsa,ha⟩=>?_) (.inr Pb))
 have haC:C≠a:=by
  rcases ha with ha|ha
  ·rw[ha];exact f1
  ·exact(f4 x a ha).symm
 exact⟨m,hns.sameBut hsa haC,λh' hs'=>⟨_,H',I''.turned (t':=s''.toks) (λb o hb e=>(hs'.2 b hb).trans e) f0 f1 f3 f4 f5,q⟩⟩
end
section
variable{n:Nat}{ix:List Nat}{g:TG}{tc:TT}{te:TE}{σ:St}{Q:VK}{H:Hp}
theorem zR3{K:PySem.W.Frag}{a:Addr}{xs:List V}(Pv:Nat->List V->St->Hp->Prop)(h0:Pv 0 [] (i_ σ n ix) H)(hl:∀i ys σ H,i<=xs.length->Pv i ys σ H->aO K H a xs/\ys.length<=i)(hz:xs.length<sizeLine)(hs:∀i x ys σ H,xs[i]?=some x->Pv i ys σ H->g x σ H λσ4 H4=>tc σ4 H4 λb H5=>if b=true then te σ4 H5 λy H6=>Pv (i+1) (ys++[y]) σ4 H6 else Pv (i+1) ys σ4 H5)(hd:∀ys σ H,Pv xs.length ys σ H->∀p,H p=none->Q (.ref p) (upd H p (.lst ys))):Pa n ix g tc te σ Q (O7 K a) H:=by
 refine⟨λi m ys σ H=>m=xs.length-i/\i<=xs.length/\Pv i ys σ H,⟨xs.length,by simp,abj _,h0⟩,?_⟩
 rintro i m ys σ H ⟨rfl,hi,p⟩
 obtain⟨q,hy⟩:=hl i ys σ H hi p
 by_cases hlt:i<xs.length
 ·refine .inr ⟨⟨xs,xs[i],q,by simp[hlt]⟩,by omega,Pv (i+1),λys' σ' H' p'=>⟨xs.length-(i+1),by omega,rfl,hlt,p'⟩,λx H' y=>?_⟩
  obtain⟨e,y⟩:=y
  subst e
  exact hs i x ys σ _ (y xs q) p
 ·have e:i=xs.length:=by omega
  subst e
  exact .inl ⟨⟨xs,q,aa0 _⟩,by omega,hd ys σ H p⟩
theorem zUz{K:PySem.W.Frag}{a:Addr}{xs:List V}(Pv:Nat->List V->St->Hp->Prop)(h0:Pv 0 [] (i_ σ n ix) H)(hl:∀i ys σ H,i<=xs.length->Pv i ys σ H->cu K H a xs/\ys.length<=i)(hz:xs.length<sizeLine)(hs:∀i x ys σ H,xs[i]?=some x->Pv i ys σ H->g x σ H λσ4 H4=>tc σ4 H4 λb H5=>if b=true then te σ4 H5 λy H6=>Pv (i+1) (ys++[y]) σ4 H6 else Pv (i+1) ys σ4 H5)(hd:∀ys σ H,Pv xs.length ys σ H->∀p,H p=none->Q (.ref p) (upd H p (.lst ys))):Pa n ix g tc te σ Q (JZ K a) H:=by
 refine⟨λi m ys σ H=>m=xs.length-i/\i<=xs.length/\Pv i ys σ H,⟨xs.length,by simp,abj _,h0⟩,?_⟩
 rintro i m ys σ H ⟨rfl,hi,p⟩
 obtain⟨q,hy⟩:=hl i ys σ H hi p
 by_cases hlt:i<xs.length
 ·refine .inr ⟨⟨xs,xs[i],q,by simp[hlt]⟩,by omega,Pv (i+1),λys' σ' H' p'=>⟨xs.length-(i+1),by omega,rfl,hlt,p'⟩,λx H' y=>?_⟩
  obtain⟨e,y⟩:=y
  subst e
  exact hs i x ys σ _ (y xs q) p
 ·have e:i=xs.length:=by omega
  subst e
  exact .inl ⟨⟨xs,q,aa0 _⟩,by omega,hd ys σ H p⟩
end
def Ite(K:PySem.W.Frag)(a:Addr):It :=
 ⟨λi H=>∃xs x,aO K H a xs/\xs[i]?=some x,λi H v H'=>∃t x,v=.ref t/\H t=none/\H'=upd H t (.tup [.int i,x])/\∀xs,aO K H a xs->xs[i]?=some x,λi H=>∃xs,aO K H a xs/\xs.length<=i⟩
theorem zO2{P:Program}{w:World}{K:PySem.W.Frag}{elts:List Expr}{k:Nat}{tp:Pos}(a e it:Addr)(hne:e≠it) :
  Turn P w K (.Tuple elts k tp) (Ite K a) [e,it] e (λi h=>(∃old,IsEnum h e it ((i:Nat):Int) old)/\h.IsListIter it a i) where
 mem:=by simp
 obj:=λi h st b hb=>by
  obtain⟨⟨old,he⟩,o,ho,c,d⟩:=st
  have hb':b=e\/b=it:=by simpa using hb
  rcases hb' with rfl|rfl
  ·exact⟨_,he,λv z=>by
    have z':ae1 _=afb v:=z
    cases z'⟩
  ·exact⟨o,ho,λv z=>by rw[d] at z;cases z⟩
 keep:=λi h h' st k=>⟨let⟨old,he⟩:=st.1;⟨old,k e (by simp) _ he⟩,st.2.at λo q=>k it (by simp) o q⟩
 item:=by
  intro X hP hw hK hc i pins s σ H E I hf st hg
  subst hP hw hK
  obtain⟨xs,x,hq,hx⟩:=hg
  obtain⟨its,rv,p,hz⟩:=I.list hq
  obtain⟨u,hu,ru⟩:=rv.get hx
  obtain⟨⟨old,he⟩,hit⟩:=st
  obtain⟨f0,f1,f2,f3,f4,f5⟩:=hf e (by simp)
  obtain⟨g0,g1,g2,g3,g4,g5⟩:=hf it (by simp)
  refine wpAny_pyNext_enum_item he hit p.isList (x:=u) (by simpa using hu) hne λh₁ heo hit₁ ht₁ hz₁ hk₁=>?_
  refine⟨_,rfl,wpAny_letOwnedTupleGo_enum (s:={ s with heap:=h₁,toks:=s.toks+1 }) heo λh₂ he₂ hs₂=>?_⟩
  replace hs₂:SameBut e h₁ h₂:=hs₂
  have hel:e<s.heap.objs.size:=lt_size he
  have nT:H s.heap.objs.size=none:=I.hok.fresh (aa0 _)
  have ht₂:h₂.get? s.heap.objs.size=some { cls:=.type "tuple",data:=.seq #[.int i s.toks,u] }:=(hs₂.2 _ (adn hel)).trans ht₁
  have kk:∀b o,b≠e->b≠it->s.heap.get? b=some o->h₂.get? b=some o:=λb o h1 h2 q=>(hs₂.2 b h1).trans (hk₁ b o h1 h2 q)
  have lt:∀b o,s.heap.get? b=some o->b≠s.heap.objs.size:=λb o q=>aa5 (lt_size q)
  have there:∀b o,s.heap.get? b=some o->b∉[e,it]->∃o',h₂.get? b=some o':=λb o q hx=>⟨o,kk b o (λz=>hx (by simp[z])) (λz=>hx (by simp[z])) q⟩
  have U:Un (frs X.stack) [e,it] H (upd H s.heap.objs.size (.tup [.int i,x])) s.heap h₂ :=
   ⟨λb o q _ _ hx=>kk b o (λz=>hx (by simp[z])) (λz=>hx (by simp[z])) q,λb o q _ _ hx=>⟨o.slots,kk b o (λz=>hx (by simp[z])) (λz=>hx (by simp[z])) q⟩,
    λb o q n _=>by rw[zP (lt b o q)];exact n,there,λb ys q=>by rw[zP (zL q nT)];exact q,λb o ys q=>by rw[zP (zL q nT)];exact q,λb ps q=>⟨#[],by rw[zP (zL q nT),q];simp⟩⟩
  have ok:gQ X.prog X.w (upd H s.heap.objs.size (.tup [.int i,x])) h₂:=λb o q=>by
   by_cases hb:b=s.heap.objs.size
   ·subst hb
    rw[zJ] at q
    cases q
    exact⟨by show 2<=sizeLine;decide,[.int i s.toks,u],.cons ⟨_,rfl⟩ (.cons ru .nil),⟨_,ht₂,rfl,_,rfl⟩⟩
   ·rw[zP hb] at q
    refine(I.hok b o q).stay (λc v hc' z=>?_) (λc z=>by rw[zP (zL z nT)];exact z) λc ys z=>by rw[zP (zL z nT)];exact z
    have hcs:∃o',H c=some o':=by
     rcases hc' with rfl|hc'
     ·exact⟨o,q⟩
     ·exact⟨_,hc'⟩
    obtain⟨o',ho'⟩:=hcs
    exact kk c v (zL ho' f0) (zL ho' g0) z
  have I2:=I.call (h':=h₂) (g':=s.gens) (t':=s.toks+1) (d':=s.drawn) (ch:=[e,it]) U ok I.bare λb hb=>by
   have hb':b=e\/b=it:=by simpa using hb
   rcases hb' with rfl|rfl
   ·exact⟨f3,f1,f4,f5⟩
   ·exact⟨g3,g1,g4,g5⟩
  refine⟨.ref s.heap.objs.size,_,I2,rfl,⟨s.heap.objs.size,x,rfl,nT,rfl,λys hy=>by rw[I.g8 hy hq];exact hx⟩,⟨⟨_,by rw[show((i+1:Nat):Int)=(i:Int)+1 by push_cast;rfl];exact he₂⟩,hit₁.extBut hs₂.extBut hne.symm⟩,λb hb=>?_⟩
  have hb':b=e\/b=it:=by simpa using hb
  obtain⟨o2,ho2,_⟩:=hit
  rcases hb' with rfl|rfl
  ·rw[zP (aa5 hel)];exact f0
  ·rw[zP (aa5 (lt_size ho2))];exact g0
 done:=by
  intro X hP hw hK hc i pins s σ H E I hf st hg
  subst hP hw hK
  obtain⟨xs,hq,hx⟩:=hg
  obtain⟨its,rv,p,hz⟩:=I.list hq
  obtain⟨⟨old,he⟩,hit⟩:=st
  obtain⟨g0,g1,g2,g3,g4,g5⟩:=hf it (by simp)
  have hl:=rv.length
  exact wpAny_pyNext_enum_end (I.ok.hd hc) he hit p.isList (by simp;omega) λh' eb=>⟨rfl,I.turned (t':=s.toks) (λb o hb e=>eb b o hb e) g0 g1 g3 g4 g5⟩
 self:=λ_ _ _ _ _ st h=>let⟨⟨_,he⟩,_⟩:=st;wpAny_pyIter_enum he h
def Ak(K:PySem.W.Frag)(ta:TA):TI:=λσ H R=>ta σ H λvs H1=>∃a,vs=[.ref a]/\(∃xs,aO K H1 a xs)/\R (Ite K a) H1
theorem lV:bootBuiltins "enumerate" = some (.type "enumerate"):=by decide +kernel
theorem zP3(hg:Gl X "enumerate")(hm:X.mg "enumerate" = none)(ha:PA X [a] ta)(hs:starEach [a] X.env=[(false,eval a X.env)]:=by rfl) :
  PI X (.Tuple elts k tp) (.Call (.Name "enumerate" p) [a] [] pos) (Ak X.K ta):=by
 intro pins s σ H R I h
 refine Call_ (uc I hg hm lV (abk (aP (ha pos pins s σ H _ I h) λus s1 ⟨vs,H1,I1,r1,q1⟩=>?_) hs rfl))
 obtain⟨l,e,⟨xs,hq⟩,q⟩:=q1
 subst e
 cases r1 with
 |cons r rr =>
  cases rr
  cases r
  obtain⟨its,rv,p,hz⟩:=I1.list hq
  refine call_enumerate_list p.isList λh' hE hI hsz hk=>wpAny_pyIter_enum hE ?_
  have I2:Inv X pins σ H1 { s1 with heap:=h',toks:=s1.toks }:=I1.kept hk
  refine⟨s1.heap.objs.size+1,[s1.heap.objs.size+1,s1.heap.objs.size],_,_,H1,rfl,I2,zO2 l _ _ (Nat.succ_ne_self _),⟨⟨.none,hE⟩,hI⟩,λb hb=>?_,q⟩
  have hb':b=s1.heap.objs.size+1\/b=s1.heap.objs.size:=by simpa using hb
  rcases hb' with rfl|rfl
  ·exact I1.jQ (acq _) (I1.hok.fresh (acq _))
  ·exact I1.jQ (aa0 _) (I1.hok.fresh (aa0 _))
theorem zUp{K:PySem.W.Frag}{a:Addr}{xs:List V}{g:TG}{tb:TS}{D:Ends}{σ:St}{H:Hp}(Pv:Nat->St->Hp->Prop)(h0:Pv 0 σ H)(hl:∀i σ H,i<=xs.length->Pv i σ H->aO K H a xs)(hs:∀i x t σ H,xs[i]?=some x->H t=none->Pv i σ H->g (.ref t) σ (upd H t (.tup [.int i,x])) λσ2 H2=>tb { D with nx:=Pv (i+1),ct:=Pv (i+1),bk:=D.nx } σ2 H2)(hd:∀σ H,Pv xs.length σ H->D.nx σ H) :
  ∃W:Nat->Nat->St->Hp->Prop,(∃m,W 0 m σ H)/\∀i m σ H,W i m σ H ->
   ((Ite K a).stop i H/\D.nx σ H)\/((Ite K a).go i H/\∃N:St->Hp->Prop,(∀σ' H',N σ' H'->∃m',m'<m/\W (i+1) m' σ' H')/\∀x H',(Ite K a).JW i H x H'->g x σ H' λσ2 H2=>tb { D with nx:=N,ct:=N,bk:=D.nx } σ2 H2):=by
 refine⟨λi m σ H=>m=xs.length-i/\i<=xs.length/\Pv i σ H,⟨xs.length,by simp,abj _,h0⟩,?_⟩
 rintro i m σ H ⟨rfl,hi,p⟩
 have q:=hl i σ H hi p
 by_cases hlt:i<xs.length
 ·refine .inr ⟨⟨xs,xs[i],q,by simp[hlt]⟩,Pv (i+1),λσ' H' p'=>⟨xs.length-(i+1),by omega,rfl,hlt,p'⟩,λx H' y=>?_⟩
  obtain⟨t,x',rfl,ht,rfl,y⟩:=y
  exact hs i x' t σ H (y xs q) ht p
 ·have e:i=xs.length:=by omega
  subst e
  exact .inl ⟨⟨xs,q,aa0 _⟩,hd σ H p⟩
def Yz(a:Str)(te:TE):TE:=λσ H Q=>te σ H λx H1=>(∃i,x=.int i/\i.natAbs.log2<1920/\Q (.str (a++ad0 (toString i))) H1)\/∃z,x=.str z/\z.length<=1000/\Q (.str (a++z)) H1
theorem zEo(x y:Str):(x++y).length=x.length+y.length:=by rw[<-strLen_append]
theorem Al{a:Str}(he:PE X e te)(hl:a.length<=1000):PE X (.JoinedStr [.Constant (.str a) j p1,.FormattedValue e (-1) none p2] pos) (Yz a te):=by
 intro pins s σ H Q I h
 refine JoinedStr_many (joinParts_cons (Calls.Constant_str ?_))
 have e0:(adt++a)=a:=by
  cases a with
  |mk c=>show Str.mk _=_;simp[adt]
 refine⟨by rw[e0];exact aa8 hl (by decide),?_⟩
 rw[e0]
 have I0:=I.tok (s.toks+1)
 refine joinParts_cons (FormattedValue_plain (aP (he pins _ σ H _ I0 h) λu s1 ⟨x,H1,I1,r1,q1⟩=>?_))
 rcases q1 with⟨i,rfl,hd,q⟩|⟨z,rfl,hz,q⟩
 ·obtain⟨t,rfl⟩:=r1
  refine formatField_int_small hd ?_
  have len:(a++ad0 (toString i)).length<=sizeLine:=by
   have:=int_text_len_1921 hd
   rw[zEo]
   exact aa8 (show a.length+(ad0 (toString i)).length<=4000 by omega) (by decide)
  refine⟨len,joinParts_nil ?_ len⟩
  exact⟨.str (a++ad0 (toString i)),H1,(I1.tok (s1.toks+1+1)).tok _,⟨_,rfl⟩,q⟩
 ·obtain⟨t,rfl⟩:=r1
  have len:(a++z).length<=sizeLine:=by
   rw[zEo]
   exact aa8 (show a.length+z.length<=4000 by omega) (by decide)
  refine formatField_str (λt' tk=>?_) (aa8 hz (by decide))
  refine⟨len,joinParts_nil ?_ len⟩
  exact⟨.str (a++z),H1,(I1.tok tk).tok _,⟨_,rfl⟩,q⟩
def D_(K:PySem.W.Frag)(c:Value):List V->Hp->VK->Prop:=λxs H Q=>∃x y t b,xs=[x,y]/\RelV y c/\jT K H x t/\kitOne K t c=some b/\Q (.bl b) H
theorem zU3(hc:∀y u,RelV y c->RelV y u->u=c):rK X (.builtin "isinstance") (D_ X.K c):=by
 intro pins s σ H xs us Q I r h
 obtain⟨x,y,t,b,rfl,ry,ty,e,q⟩:=h
 obtain⟨u,v,rfl,ru,rv⟩:=r.two
 obtain rfl:=hc y v ry rv
 exact zQ4 I ru ty e λtk=>⟨.bl b,H,I.tok tk,rfl,q⟩
theorem Ru:∀y u,RelV y (.type n)->RelV y u->u=.type n:=λy u h1 h2=>by
 cases y<;>first
  | (cases h1;done)
  | (obtain⟨_,e⟩:=h1;cases e;done)
  | (cases h1;cases h2;rfl)
theorem vY:∀y u,RelV y (.ref a)->RelV y u->u=.ref a:=λy u h1 h2=>by
 cases y<;>first
  | (cases h1;done)
  | (obtain⟨_,e⟩:=h1;cases e;done)
  | (cases h1;cases h2;rfl)
def YB(t:TS):TS:=λD σ H=>∃I:St->Hp->Prop,t { D with nx:=I } σ H/\∀σ' H',I σ' H'->D.nx σ' H'
theorem Kw{X:Cx}{st:Stmt}{t:TS}(h:PS X st t):PS X st (YB t):=by
 intro pins s σ H D I hw
 obtain⟨J,h1,h2⟩:=hw
 refine aP (h pins s σ H _ I h1) λf s' q=>?_
 cases f with
 |next=>obtain⟨σ',H',I',q'⟩:=q;exact⟨σ',H',I',h2 _ _ q'⟩
 |brk=>exact q
 |cont=>exact q
 |ret u=>exact q
theorem zL2{σ:St}{A B:St->Hp->Prop}(h:A (σ.set i (some x)) H):uV i x σ H (λσ4 H4=>rT σ4 H4 λb H5=>if b=true then A σ4 H5 else B σ4 H5):=by
 show if true=true then A (σ.set i (some x)) H else B (σ.set i (some x)) H
 rw[if_pos rfl]
 exact h
theorem zP4{X:Cx}{K:PySem.W.Frag}(h:X.K=K){es:List Expr}{k:Nat}{t:OD}{n:Nat}{pos:Pos}(hc:X.calm=true)(ht:QG X es t)(hn:(assignEach es X.env).length=n:=by rfl)(hst:(assignEach es X.env).findIdx? (·.1)=none:=by rfl):PG X (.Tuple es k pos) (Di K n t):=by
 subst h
 exact Hw hc ht hn hst
end L2
namespace Ts
open PySem L2
theorem au(h:H p=none)(o:HO):Same H (upd H p o):=λb u q=>by rw[zP (zL q h)];exact q
theorem _root_.L2.Same.put(s:Same H H')(h:H p=none)(o:HO):Same H (upd H' p o):=λb u q=>by rw[zP (zL q h)];exact s b u q
def A2{α β:Type}(R:α->β->Prop):List α->List β->Prop
 |[],[]=>True
 |x::xs,y::ys=>R x y/\A2 R xs ys
 |_,_=>False
section
variable{α β:Type}{R R':α->β->Prop}
theorem A2.len:∀{xs:List α}{ys:List β},A2 R xs ys->xs.length=ys.length
 |[],[],_=>rfl
 |_::_,_::_,h=>congrArg (· + 1) (A2.len h.2)
 |[],_::_,h=>h.elim
 |_::_,[],h=>h.elim
theorem A2.imp(f:∀x y,R x y->R' x y):∀{xs:List α}{ys:List β},A2 R xs ys->A2 R' xs ys
 |[],[],_=>trivial
 |_::_,_::_,h=>⟨f _ _ h.1,A2.imp f h.2⟩
 |[],_::_,h=>h.elim
 |_::_,[],h=>h.elim
theorem A2.app:∀{xs:List α}{ys:List β}{xs':List α}{ys':List β},A2 R xs ys->A2 R xs' ys'->A2 R (xs++xs') (ys++ys')
 |[],[],_,_,_,h=>h
 |_::_,_::_,_,_,h,h'=>⟨h.1,A2.app h.2 h'⟩
 |[],_::_,_,_,h,_=>h.elim
 |_::_,[],_,_,h,_=>h.elim
theorem A2.snoc(h:A2 R xs ys)(r:R x y):A2 R (xs++[x]) (ys++[y]):=h.app ⟨r,trivial⟩
theorem A2.at1:∀{xs:List α}{ys:List β}{i:Nat}{x:α},A2 R xs ys->xs[i]?=some x->∃y,ys[i]?=some y/\R x y
 |[],_,_,_,_,e=>by simp at e
 |_::_,_::_,0,_,h,e=>by simp at e;subst e;exact⟨_,rfl,h.1⟩
 |_::_,_::_,i+1,_,h,e=>by
  obtain⟨y,h1,h2⟩:=A2.at1 (i:=i) h.2 (by simpa using e)
  exact⟨y,by simpa using h1,h2⟩
 |_::_,[],_,_,h,_=>h.elim
theorem A2.at2:∀{xs:List α}{ys:List β}{i:Nat}{y:β},A2 R xs ys->ys[i]?=some y->∃x,xs[i]?=some x/\R x y
 |_,[],_,_,_,e=>by simp at e
 |_::_,_::_,0,_,h,e=>by simp at e;subst e;exact⟨_,rfl,h.1⟩
 |_::_,_::_,i+1,_,h,e=>by
  obtain⟨y,h1,h2⟩:=A2.at2 (i:=i) h.2 (by simpa using e)
  exact⟨y,by simpa using h1,h2⟩
 |[],_::_,_,_,h,_=>h.elim
theorem A2.set(r:R x y):∀{xs:List α}{ys:List β}(i:Nat),A2 R xs ys->A2 R (xs.set i x) (ys.set i y)
 |[],[],_,_=>trivial
 |_::_,_::_,0,h=>⟨r,h.2⟩
 |_::_,_::_,i+1,h=>⟨h.1,A2.set r i h.2⟩
 |[],_::_,_,h=>h.elim
 |_::_,[],_,h=>h.elim
theorem A2.rev:∀{xs:List α}{ys:List β},A2 R xs ys->A2 R xs.reverse ys.reverse
 |[],[],_=>trivial
 |_::_,_::_,h=>by
  rw[reverse_cons,reverse_cons]
  exact(A2.rev h.2).snoc h.1
 |[],_::_,h=>h.elim
 |_::_,[],h=>h.elim
theorem A2.tk:∀{xs:List α}{ys:List β}(i:Nat),A2 R xs ys->A2 R (xs.take i) (ys.take i)
 |[],[],_,_=>by simp[A2]
 |_::_,_::_,0,h=>trivial
 |_::_,_::_,i+1,h=>⟨h.1,A2.tk i h.2⟩
 |[],_::_,_,h=>h.elim
 |_::_,[],_,h=>h.elim
theorem A2.dr:∀{xs:List α}{ys:List β}(i:Nat),A2 R xs ys->A2 R (xs.drop i) (ys.drop i)
 |[],[],_,_=>by simp[A2]
 |_::_,_::_,0,h=>h
 |_::_,_::_,i+1,h=>A2.dr i h.2
 |[],_::_,_,h=>h.elim
 |_::_,[],_,h=>h.elim
theorem A2.of_map{f:β->α}(h:∀y,R (f y) y):∀ys:List β,A2 R (ys.map f) ys
 |[]=>trivial
 |y::ys=>⟨h y,A2.of_map h ys⟩
end
theorem A2.kI{α β:Type}{f:β->α}:∀{xs:List α}{ys:List β},A2 (λx y=>x=f y) xs ys->xs=ys.map f
 |[],[],_=>rfl
 |_::_,_::_,h=>by rw[map_cons,h.1,A2.kI h.2]
 |[],_::_,h=>h.elim
 |_::_,[],h=>h.elim
class Rp (K:PySem.W.Frag) (α:Type) where
 rp:Hp->V->α->Prop
 mono:∀{F F':Hp}{v:V}{a:α},Same F F'->rp F v a->rp F' v a
abbrev rp(K:PySem.W.Frag){α:Type}[Rp K α]:Hp->V->α->Prop:=Rp.rp (K:=K)
class Nn (K:PySem.W.Frag) (α:Type) [Rp K α]:Prop where
 nn:∀{F:Hp}{v:V}{a:α},rp K F v a->v≠.non
class Sc (K:PySem.W.Frag) (α:Type) [Rp K α] where
 val:α->V
 is:∀{F:Hp}{v:V}{a:α},rp K F v a↔v=val a
 inj:∀{a b:α},val a=val b->a=b
section
variable{K:PySem.W.Frag}
instance:Rp K Int:=⟨λ_ v n=>v=.int n,λ_ h=>h⟩
instance:Rp K Bool:=⟨λ_ v n=>v=.bl n,λ_ h=>h⟩
instance:Rp K Str:=⟨λ_ v n=>v=.str n,λ_ h=>h⟩
instance:Rp K Unit:=⟨λ_ v _=>v=.non,λ_ h=>h⟩
instance{α:Type}[Rp K α]:Rp K (Option α):=⟨λF v a=>match a with
 |none=>v=.non
 |some x=>v≠.non/\rp K F v x,λ{F F' v a} s h=>match a,h with
 |none,h=>h
 |some x,h=>⟨h.1,Rp.mono s h.2⟩⟩
instance{α:Type}[Rp K α]:Rp K (List α):=⟨λF v xs=>∃p vs,v=.ref p/\F p=some (.lst vs)/\A2 (rp K F) vs xs,λs ⟨p,vs,h1,h2,h3⟩=>⟨p,vs,h1,s _ _ h2,h3.imp λ_ _=>Rp.mono s⟩⟩
instance{α β:Type}[Rp K α][Rp K β]:Rp K (α×β):=⟨λF v x=>∃p a b,v=.ref p/\F p=some (.tup [a,b])/\rp K F a x.1/\rp K F b x.2,λs ⟨p,a,b,h1,h2,h3,h4⟩=>⟨p,a,b,h1,s _ _ h2,Rp.mono s h3,Rp.mono s h4⟩⟩
structure Ky where
 ns:LI
instance:Rp K Ky:=⟨λF v x=>∃p,v=.ref p/\aO K F p (x.ns.map V.int),λs ⟨p,h1,h2⟩=>⟨p,h1,s.seq h2⟩⟩
instance:Nn K Int:=⟨λh=>by cases h;intro e;cases e⟩
instance:Nn K Bool:=⟨λh=>by cases h;intro e;cases e⟩
instance:Nn K Str:=⟨λh=>by cases h;intro e;cases e⟩
instance{α:Type}[Rp K α]:Nn K (List α):=⟨λ⟨_,_,h,_⟩=>by rw[h];intro e;cases e⟩
instance{α β:Type}[Rp K α][Rp K β]:Nn K (α×β):=⟨λ⟨_,_,_,h,_⟩=>by rw[h];intro e;cases e⟩
instance:Sc K Int:=⟨V.int,af3,λh=>by cases h;rfl⟩
instance:Sc K Bool:=⟨V.bl,af3,λh=>by cases h;rfl⟩
instance:Sc K Str:=⟨V.str,af3,λh=>by cases h;rfl⟩
instance{α:Type}[Rp K α][Sc K α][Nn K α]:Sc K (Option α):=⟨λa=>match a with
 |none=>.non
 |some x=>Sc.val K x,λ{F v a}=>match a with
 |none=>af3
 |some x=>⟨λh=>Sc.is.mp h.2,λh=>⟨Nn.nn (K:=K) (F:=F) (a:=x) (Sc.is.mpr h),Sc.is.mpr h⟩⟩,λ{a b} h=>match a,b,h with
 |none,none,_=>rfl
 |some x,some y,h=>by rw[Sc.inj (K:=K) (a:=x) (b:=y) h]
 |none,some y,h=>absurd h.symm (Nn.nn (K:=K) (F:=λ_=>none) (a:=y) (Sc.is.mpr rfl))
 |some x,none,h=>absurd h (Nn.nn (K:=K) (F:=λ_=>none) (a:=x) (Sc.is.mpr rfl))⟩
theorem Am{α:Type}[Rp K α][Sc K α]{a:α}(h:rp K F v a):rp K F' v a:=Sc.is.mpr (Sc.is.mp h)
inductive Md|nw|fz|hp
def dif(H H0:Hp):Hp:=λb=>match H0 b with
 |none=>H b
 |some _=>none
def ext(Fa H0 H:Hp):Hp:=λb=>match H0 b with
 |none=>H b
 |some _=>Fa b
structure Bs where
 Fa:Hp
 H0:Hp
abbrev Own:=List (Addr×HO)
def reg(B:Bs)(F H:Hp):Md->Hp
 |.nw=>dif F B.H0
 |.fz=>F
 |.hp=>H
theorem aQ:Same (dif H H0) H:=λb o h=>by
 unfold dif at h
 cases e:H0 b with
 |none=>rw[e] at h;exact h
 |some u=>rw[e] at h;cases h
theorem xW(h:H0 b=none):dif H H0 b=H b:=by
 unfold dif
 rw[h]
theorem yR(s:Same H H'):Same (dif H H0) (dif H' H0):=λb o h=>by
 unfold dif at h ⊢
 cases e:H0 b with
 |none=>rw[e] at h;exact s b o h
 |some u=>rw[e] at h;cases h
structure Ok(B:Bs)(F:Hp)(O:Own)(H:Hp):Prop where
 fh:Same F H
 h0:Same B.H0 H
 fa:∀b o,F b=some o->B.Fa b=some o\/B.H0 b=none
 fo:∀x∈O,F x.1=none/\B.H0 x.1=none/\H x.1=some x.2
 nd:(O.map (·.1)).Nodup
structure bH(B:Bs)(F H:Hp)(O:Own)(F' H':Hp):Prop where
 ff:Same F F'
 hh:Same H H'
 ok:Ok B F' O H'
 nw:∀b,F b=none->H b≠none->F' b=none
section
variable{B:Bs}{F H F' H' F2 H2:Hp}{O:Own}
theorem bH.refl(k:Ok B F O H):bH B F H O F H:=⟨.refl _,.refl _,k,λ_ h _=>h⟩
theorem bH.trans(a:bH B F H O F' H')(b:bH B F' H' O F2 H2):bH B F H O F2 H2 :=
 ⟨a.ff.trans b.ff,a.hh.trans b.hh,b.ok,λq h1 h2=>b.nw q (a.nw q h1 h2) λe=>h2 (a.hh.free e)⟩
theorem bH.new(k:Ok B F O H)(h:H p=none)(o:HO):bH B F H O (upd F p o) (upd H p o):=by
 have fp:=k.fh.free h
 refine⟨au fp o,au h o,⟨λb u e=>?_,k.h0.put (k.h0.free h) o,λb u e=>?_,λx hx=>?_,k.nd⟩,λb h1 h2=>?_⟩
 ·by_cases q:b=p
  ·subst q;rw[zJ] at e ⊢;exact e
  ·rw[zP q] at e ⊢;exact k.fh b u e
 ·by_cases q:b=p
  ·subst q;exact .inr (k.h0.free h)
  ·rw[zP q] at e;exact k.fa b u e
 ·obtain⟨a1,a2,a3⟩:=k.fo x hx
  have q:x.1≠p:=zL a3 h
  exact⟨by rw[zP q];exact a1,a2,by rw[zP q];exact a3⟩
 ·rw[zP λe=>h2 (by rw[e];exact h)];exact h1
theorem xU(g:bH B F H O F' H')(md:Md):Same (reg B F H md) (reg B F' H' md):=match md with
 |.nw=>yR g.ff
 |.fz=>g.ff
 |.hp=>g.hh
end
inductive Slot(K:PySem.W.Frag):Type 1
 |un
 |fz (n:Bool) {α:Type} [Rp K α] (a:α)
 |hs {α:Type} [Rp K α] (a:α)
 |nu {α:Type} [Rp K α] (a:α)
 |ow (n:Bool) {α:Type} [Rp K α] (xs:List α)
 |od {α:Type} [Rp K α] (kvs:List (Key×α))
abbrev SL(K:PySem.W.Frag):=List (Slot K)
abbrev dF:Bool->Md
 |true=>.nw
 |false=>.fz
def lo(F:Hp)(O:Own)(H:Hp):Hp:=λb=>if(F b).isSome||(O.any λx=>x.1==b) then none else H b
inductive ak(B:Bs)(F L H:Hp):SL K->St->Own->Prop
 |nil:ak B F L H [] [] []
 |un {sl:SL K} {σ:St} {O:Own} {x:Option V}:ak B F L H sl σ O->ak B F L H (.un::sl) (x::σ) O
 |fz {n:Bool} {α:Type} [Rp K α] {a:α} {sl:SL K} {σ:St} {O:Own} {v:V}:rp K (reg B F H (dF n)) v a->ak B F L H sl σ O->ak B F L H (.fz n a::sl) (some v::σ) O
 |hs {α:Type} [Rp K α] {a:α} {sl:SL K} {σ:St} {O:Own} {v:V}:rp K H v a->ak B F L H sl σ O->ak B F L H (.hs a::sl) (some v::σ) O
 |nu {α:Type} [Rp K α] {a:α} {sl:SL K} {σ:St} {O:Own} {v:V}:rp K (dif L B.H0) v a->ak B F L H sl σ O->ak B F L H (.nu a::sl) (some v::σ) O
 |ow {n:Bool} {α:Type} [Rp K α] {xs:List α} {sl:SL K} {σ:St} {O:Own} {p:Addr} {vs:List V}:A2 (rp K (reg B F H (dF n))) vs xs->ak B F L H sl σ O->ak B F L H (.ow n xs::sl) (some (.ref p)::σ) ((p,.lst vs)::O)
 |od {α:Type} [Rp K α] {kvs:List (Key×α)} {sl:SL K} {σ:St} {O:Own} {p:Addr} {ks:List (Key×V)}:A2 (λ(x:Key×V) (y:Key×α)=>x.1=y.1/\rp K F x.2 y.2) ks kvs->ak B F L H sl σ O->ak B F L H (.od kvs::sl) (some (.ref p)::σ) ((p,.dK ks)::O)
def At(B:Bs)(sl:SL K)(F:Hp)(O:Own)(H:Hp)(σ:St):Prop:=Ok B F O H/\ak B F (lo F O H) H sl σ O
abbrev jc:Slot K->Bool
 |@Slot.ow _ _ _ _ _=>true
 |@Slot.od _ _ _ _=>true
 |_=>false
abbrev cR:Slot K->Bool
 |@Slot.hs _ _ _ _=>true
 |_=>false
section
variable{B:Bs}{F H F' H' L L':Hp}{O O':Own}{sl:SL K}{σ:St}
theorem xT(n:Bool)(hF:Same F F'):Same (reg B F H (dF n)) (reg B F' H' (dF n)):=match n with
 |true=>yR hF
 |false=>hF
theorem ak.mono(hF:Same F F')(hL:Same L L')(hH:Same H H')(h:ak B F L H sl σ O):ak B F' L' H' sl σ O:=by
 induction h with
 |nil=>exact .nil
 |un _ ih=>exact .un ih
 |fz r _ ih=>exact .fz (Rp.mono (xT _ hF) r) ih
 |hs r _ ih=>exact .hs (Rp.mono hH r) ih
 |nu r _ ih=>exact .nu (Rp.mono (yR hL) r) ih
 |ow r _ ih=>exact .ow (r.imp λ_ _=>Rp.mono (xT _ hF)) ih
 |od r _ ih=>exact .od (r.imp λ_ _ z=>⟨z.1,Rp.mono hF z.2⟩) ih
theorem ak.mut(hL:Same L L')(h:ak B F L H sl σ O)(hn:sl.all (λs=>!cR s)=true):ak B F L' H' sl σ O:=by
 induction h with
 |nil=>exact .nil
 |un _ ih=>exact .un (ih (by rw[all_cons,aa1] at hn;exact hn.2))
 |fz r _ ih=>exact .fz (Rp.mono (xT _ (.refl _)) r) (ih (by rw[all_cons,aa1] at hn;exact hn.2))
 |hs r _ ih=>rw[all_cons,aa1] at hn;exact absurd hn.1 (by simp)
 |nu r _ ih=>exact .nu (Rp.mono (yR hL) r) (ih (by rw[all_cons,aa1] at hn;exact hn.2))
 |ow r _ ih=>exact .ow (r.imp λ_ _=>Rp.mono (xT _ (.refl _))) (ih (by rw[all_cons,aa1] at hn;exact hn.2))
 |od r _ ih=>exact .od r (ih (by rw[all_cons,aa1] at hn;exact hn.2))
theorem YC(g:bH B F H O F' H'):Same (lo F O H) (lo F' O H'):=λb o h=>by
 unfold lo at h ⊢
 cases e:(F b).isSome||(O.any λx=>x.1==b) with
 |true=>rw[e] at h;cases h
 |false =>
  rw[e] at h
  have hb:H b=some o:=h
  rw[Bool.or_eq_false_iff] at e
  have f':F' b=none:=g.nw b (by cases q:F b with|none=>rfl|some u=>rw[q] at e;cases e.1) (by rw[hb];intro z;cases z)
  rw[f',e.2]
  exact g.hh b o hb
theorem At.grow(h:At B sl F O H σ)(g:bH B F H O F' H'):At B sl F' O H' σ:=⟨g.ok,h.2.mono g.ff (YC g) g.hh⟩
theorem ak.qJ{α:Type}[Rp K α]{a:α}(h:ak B F L H sl σ O):∀{i:Nat},sl[i]?=some (.fz n a)->∃v,σ[i]?=some (some v)/\rp K (reg B F H (dF n)) v a:=by
 induction h with
 |nil=>intro i e;simp at e
 |fz r _ ih =>
  intro i e
  cases i with
  |zero=>simp only[getElem?_cons_zero] at e;cases e;exact⟨_,rfl,r⟩
  |succ i=>exact ih (by simpa using e)
 |_ =>
  rename_i ih
  intro i e
  cases i with
  |zero=>simp only[getElem?_cons_zero] at e;cases e
  |succ i=>exact ih (by simpa using e)
theorem ak.Rv{α:Type}[Rp K α]{a:α}(h:ak B F L H sl σ O):∀{i:Nat},sl[i]?=some (.hs a)->∃v,σ[i]?=some (some v)/\rp K H v a:=by
 induction h with
 |nil=>intro i e;simp at e
 |hs r _ ih =>
  intro i e
  cases i with
  |zero=>simp only[getElem?_cons_zero] at e;cases e;exact⟨_,rfl,r⟩
  |succ i=>exact ih (by simpa using e)
 |_ =>
  rename_i ih
  intro i e
  cases i with
  |zero=>simp only[getElem?_cons_zero] at e;cases e
  |succ i=>exact ih (by simpa using e)
theorem ak.Ao{α:Type}[Rp K α]{a:α}(h:ak B F L H sl σ O):∀{i:Nat},sl[i]?=some (.nu a)->∃v,σ[i]?=some (some v)/\rp K (dif L B.H0) v a:=by
 induction h with
 |nil=>intro i e;simp at e
 |nu r _ ih =>
  intro i e
  cases i with
  |zero=>simp only[getElem?_cons_zero] at e;cases e;exact⟨_,rfl,r⟩
  |succ i=>exact ih (by simpa using e)
 |_ =>
  rename_i ih
  intro i e
  cases i with
  |zero=>simp only[getElem?_cons_zero] at e;cases e
  |succ i=>exact ih (by simpa using e)
theorem ak.put(h:ak B F L H sl σ O)(new:∀(sl:SL K) (σ:St) (O:Own),ak B F L H sl σ O->ak B F L H (s'::sl) (x::σ) O):∀{i:Nat},sl[i]?=some s->jc s=false->ak B F L H (sl.set i s') (σ.set i x) O:=by
 induction h with
 |nil=>intro i e;simp at e
 |un g ih =>
  intro i e o
  cases i with
  |zero=>exact new _ _ _ g
  |succ i=>exact .un (ih (by simpa using e) o)
 |fz r g ih =>
  intro i e o
  cases i with
  |zero=>exact new _ _ _ g
  |succ i=>exact .fz r (ih (by simpa using e) o)
 |hs r g ih =>
  intro i e o
  cases i with
  |zero=>exact new _ _ _ g
  |succ i=>exact .hs r (ih (by simpa using e) o)
 |nu r g ih =>
  intro i e o
  cases i with
  |zero=>exact new _ _ _ g
  |succ i=>exact .nu r (ih (by simpa using e) o)
 |ow r g ih =>
  intro i e o
  cases i with
  |zero=>simp only[getElem?_cons_zero] at e;cases e;cases o
  |succ i=>exact .ow r (ih (by simpa using e) o)
 |od r g ih =>
  intro i e o
  cases i with
  |zero=>simp only[getElem?_cons_zero] at e;cases e;cases o
  |succ i=>exact .od r (ih (by simpa using e) o)
theorem ak.own(h:ak B F L H sl σ O)(new:∀(sl:SL K) (σ:St) (O:Own),ak B F L H sl σ O->ak B F L H (s'::sl) (x::σ) (c::O)) :
  ∀{i:Nat},sl[i]?=some s->jc s=false->∃O1 O2,O=O1++O2/\ak B F L H (sl.set i s') (σ.set i x) (O1++c::O2):=by
 induction h with
 |nil=>intro i e;simp at e
 |un g ih =>
  intro i e o
  cases i with
  |zero=>exact⟨[],_,rfl,new _ _ _ g⟩
  |succ i=>obtain⟨O1,O2,q,z⟩:=ih (by simpa using e) o;exact⟨O1,O2,q,.un z⟩
 |fz r g ih =>
  intro i e o
  cases i with
  |zero=>exact⟨[],_,rfl,new _ _ _ g⟩
  |succ i=>obtain⟨O1,O2,q,z⟩:=ih (by simpa using e) o;exact⟨O1,O2,q,.fz r z⟩
 |hs r g ih =>
  intro i e o
  cases i with
  |zero=>exact⟨[],_,rfl,new _ _ _ g⟩
  |succ i=>obtain⟨O1,O2,q,z⟩:=ih (by simpa using e) o;exact⟨O1,O2,q,.hs r z⟩
 |nu r g ih =>
  intro i e o
  cases i with
  |zero=>exact⟨[],_,rfl,new _ _ _ g⟩
  |succ i=>obtain⟨O1,O2,q,z⟩:=ih (by simpa using e) o;exact⟨O1,O2,q,.nu r z⟩
 |ow r g ih =>
  intro i e o
  cases i with
  |zero=>simp only[getElem?_cons_zero] at e;cases e;cases o
  |succ i=>obtain⟨O1,O2,q,z⟩:=ih (by simpa using e) o;exact⟨_::O1,O2,by rw[q]<;>rfl,.ow r z⟩
 |od r g ih =>
  intro i e o
  cases i with
  |zero=>simp only[getElem?_cons_zero] at e;cases e;cases o
  |succ i=>obtain⟨O1,O2,q,z⟩:=ih (by simpa using e) o;exact⟨_::O1,O2,by rw[q]<;>rfl,.od r z⟩
theorem ak.pA{α:Type}[Rp K α]{xs:List α}(h:ak B F L H sl σ O):∀{i:Nat},sl[i]?=some (.ow n xs) ->
  ∃O1 O2 p vs,O=O1++(p,.lst vs)::O2/\σ[i]?=some (some (.ref p))/\A2 (rp K (reg B F H (dF n))) vs xs /\
   (∀(s':Slot K)(x:Option V)(c:Addr×HO),(∀(sl:SL K)(σ:St)(O:Own),ak B F L H sl σ O->ak B F L H (s'::sl) (x::σ) (c::O))->ak B F L H (sl.set i s') (σ.set i x) (O1++c::O2)) /\
   (∀(s':Slot K)(x:Option V),(∀(sl:SL K)(σ:St)(O:Own),ak B F L H sl σ O->ak B F L H (s'::sl) (x::σ) O)->ak B F L H (sl.set i s') (σ.set i x) (O1++O2)):=by
 induction h with
 |nil=>intro i e;simp at e
 |un g ih =>
  intro i e
  cases i with
  |zero=>simp only[getElem?_cons_zero] at e;cases e
  |succ i=>obtain⟨O1,O2,p,vs,q,h1,h2,h3,h4⟩:=ih (by simpa using e);exact⟨O1,O2,p,vs,q,h1,h2,λs' x c z=>.un (h3 s' x c z),λs' x z=>.un (h4 s' x z)⟩
 |fz r g ih =>
  intro i e
  cases i with
  |zero=>simp only[getElem?_cons_zero] at e;cases e
  |succ i=>obtain⟨O1,O2,p,vs,q,h1,h2,h3,h4⟩:=ih (by simpa using e);exact⟨O1,O2,p,vs,q,h1,h2,λs' x c z=>.fz r (h3 s' x c z),λs' x z=>.fz r (h4 s' x z)⟩
 |hs r g ih =>
  intro i e
  cases i with
  |zero=>simp only[getElem?_cons_zero] at e;cases e
  |succ i=>obtain⟨O1,O2,p,vs,q,h1,h2,h3,h4⟩:=ih (by simpa using e);exact⟨O1,O2,p,vs,q,h1,h2,λs' x c z=>.hs r (h3 s' x c z),λs' x z=>.hs r (h4 s' x z)⟩
 |nu r g ih =>
  intro i e
  cases i with
  |zero=>simp only[getElem?_cons_zero] at e;cases e
  |succ i=>obtain⟨O1,O2,p,vs,q,h1,h2,h3,h4⟩:=ih (by simpa using e);exact⟨O1,O2,p,vs,q,h1,h2,λs' x c z=>.nu r (h3 s' x c z),λs' x z=>.nu r (h4 s' x z)⟩
 |ow r g ih =>
  intro i e
  cases i with
  |zero=>simp only[getElem?_cons_zero] at e;cases e;exact⟨[],_,_,_,rfl,rfl,r,λs' x c z=>z _ _ _ g,λs' x z=>z _ _ _ g⟩
  |succ i=>obtain⟨O1,O2,p,vs,q,h1,h2,h3,h4⟩:=ih (by simpa using e);exact⟨_::O1,O2,p,vs,by rw[q]<;>rfl,h1,h2,λs' x c z=>.ow r (h3 s' x c z),λs' x z=>.ow r (h4 s' x z)⟩
 |od r g ih =>
  intro i e
  cases i with
  |zero=>simp only[getElem?_cons_zero] at e;cases e
  |succ i=>obtain⟨O1,O2,p,vs,q,h1,h2,h3,h4⟩:=ih (by simpa using e);exact⟨_::O1,O2,p,vs,by rw[q]<;>rfl,h1,h2,λs' x c z=>.od r (h3 s' x c z),λs' x z=>.od r (h4 s' x z)⟩
theorem ak.HJ{α:Type}[Rp K α]{kvs:List (Key×α)}(h:ak B F L H sl σ O):∀{i:Nat},sl[i]?=some (.od kvs) ->
  ∃O1 O2 p ks,O=O1++(p,.dK ks)::O2/\σ[i]?=some (some (.ref p))/\A2 (λ(x:Key×V) (y:Key×α)=>x.1=y.1/\rp K F x.2 y.2) ks kvs /\
   (∀(s':Slot K)(x:Option V)(c:Addr×HO),(∀(sl:SL K)(σ:St)(O:Own),ak B F L H sl σ O->ak B F L H (s'::sl) (x::σ) (c::O))->ak B F L H (sl.set i s') (σ.set i x) (O1++c::O2)) /\
   (∀(s':Slot K)(x:Option V),(∀(sl:SL K)(σ:St)(O:Own),ak B F L H sl σ O->ak B F L H (s'::sl) (x::σ) O)->ak B F L H (sl.set i s') (σ.set i x) (O1++O2)):=by
 induction h with
 |nil=>intro i e;simp at e
 |un g ih =>
  intro i e
  cases i with
  |zero=>simp only[getElem?_cons_zero] at e;cases e
  |succ i=>obtain⟨O1,O2,p,vs,q,h1,h2,h3,h4⟩:=ih (by simpa using e);exact⟨O1,O2,p,vs,q,h1,h2,λs' x c z=>.un (h3 s' x c z),λs' x z=>.un (h4 s' x z)⟩
 |fz r g ih =>
  intro i e
  cases i with
  |zero=>simp only[getElem?_cons_zero] at e;cases e
  |succ i=>obtain⟨O1,O2,p,vs,q,h1,h2,h3,h4⟩:=ih (by simpa using e);exact⟨O1,O2,p,vs,q,h1,h2,λs' x c z=>.fz r (h3 s' x c z),λs' x z=>.fz r (h4 s' x z)⟩
 |hs r g ih =>
  intro i e
  cases i with
  |zero=>simp only[getElem?_cons_zero] at e;cases e
  |succ i=>obtain⟨O1,O2,p,vs,q,h1,h2,h3,h4⟩:=ih (by simpa using e);exact⟨O1,O2,p,vs,q,h1,h2,λs' x c z=>.hs r (h3 s' x c z),λs' x z=>.hs r (h4 s' x z)⟩
 |nu r g ih =>
  intro i e
  cases i with
  |zero=>simp only[getElem?_cons_zero] at e;cases e
  |succ i=>obtain⟨O1,O2,p,vs,q,h1,h2,h3,h4⟩:=ih (by simpa using e);exact⟨O1,O2,p,vs,q,h1,h2,λs' x c z=>.nu r (h3 s' x c z),λs' x z=>.nu r (h4 s' x z)⟩
 |od r g ih =>
  intro i e
  cases i with
  |zero=>simp only[getElem?_cons_zero] at e;cases e;exact⟨[],_,_,_,rfl,rfl,r,λs' x c z=>z _ _ _ g,λs' x z=>z _ _ _ g⟩
  |succ i=>obtain⟨O1,O2,p,vs,q,h1,h2,h3,h4⟩:=ih (by simpa using e);exact⟨_::O1,O2,p,vs,by rw[q]<;>rfl,h1,h2,λs' x c z=>.od r (h3 s' x c z),λs' x z=>.od r (h4 s' x z)⟩
 |ow r g ih =>
  intro i e
  cases i with
  |zero=>simp only[getElem?_cons_zero] at e;cases e
  |succ i=>obtain⟨O1,O2,p,vs,q,h1,h2,h3,h4⟩:=ih (by simpa using e);exact⟨_::O1,O2,p,vs,by rw[q]<;>rfl,h1,h2,λs' x c z=>.ow r (h3 s' x c z),λs' x z=>.ow r (h4 s' x z)⟩
end
end
section
variable{K:PySem.W.Frag}{B:Bs}{F H F' H' L L':Hp}{O O' O1 O2:Own}{sl:SL K}{σ:St}{p:Addr}{o o':HO}
theorem YD{α:Type}{a b:List α}{x:α}:(a++x::b).Nodup↔(a++b).Nodup/\x∉a++b:=by
 have q:(a++x::b).Perm (x::(a++b)):=List.perm_middle
 rw[q.nodup_iff,nodup_cons]
 exact⟨λh=>⟨h.2,h.1⟩,λh=>⟨h.2,h.1⟩⟩
theorem Ok.add(k:Ok B F (O1++O2) H)(h:H p=none):Ok B F (O1++(p,o)::O2) (upd H p o):=by
 refine⟨λb u e=>?_,k.h0.put (k.h0.free h) o,k.fa,λx hx=>?_,?_⟩
 ·rw[zP (zL (k.fh b u e) h)];exact k.fh b u e
 ·have hx':x=(p,o)\/x∈O1++O2:=by
   rcases mem_append.mp hx with z|z
   ·exact .inr (mem_append.mpr (.inl z))
   ·rcases mem_cons.mp z with z|z
    ·exact .inl z
    ·exact .inr (mem_append.mpr (.inr z))
  rcases hx' with rfl|hx'
  ·exact⟨k.fh.free h,k.h0.free h,zJ⟩
  ·obtain⟨a1,a2,a3⟩:=k.fo x hx'
   exact⟨a1,a2,by rw[zP (zL a3 h)];exact a3⟩
 ·rw[map_append,map_cons,YD,<-map_append]
  refine⟨k.nd,λz=>?_⟩
  obtain⟨x,hx,e⟩:=mem_map.mp z
  obtain⟨_,_,a3⟩:=k.fo x hx
  have e':x.1=p:=e
  rw[e',h] at a3
  cases a3
theorem Ok.one(k:Ok B F (O1++(p,o)::O2) H):F p=none/\B.H0 p=none/\H p=some o:=k.fo (p,o) (mem_append.mpr (.inr mem_cons_self))
theorem Ok.ndp(k:Ok B F (O1++(p,o)::O2) H):∀x∈O1++O2,x.1≠p:=λx hx e=>by
 have q:=k.nd
 rw[map_append,map_cons,YD,<-map_append] at q
 exact q.2 (mem_map.mpr ⟨x,hx,e⟩)
theorem Ok.drop(k:Ok B F (O1++(p,o)::O2) H):Ok B F (O1++O2) H:=by
 refine⟨k.fh,k.h0,k.fa,λx hx=>k.fo x ?_,?_⟩
 ·rcases mem_append.mp hx with z|z
  ·exact mem_append.mpr (.inl z)
  ·exact mem_append.mpr (.inr (mem_cons_of_mem _ z))
 ·have q:=k.nd
  rw[map_append,map_cons,YD,<-map_append] at q
  exact q.1
theorem Ok.chg(k:Ok B F (O1++(p,o)::O2) H)(o':HO):Ok B F (O1++(p,o')::O2) (upd H p o'):=by
 obtain⟨a1,a2,a3⟩:=k.one
 refine⟨k.fh.put a1 o',k.h0.put a2 o',k.fa,λx hx=>?_,?_⟩
 ·have hx':x=(p,o')\/x∈O1++O2:=by
   rcases mem_append.mp hx with z|z
   ·exact .inr (mem_append.mpr (.inl z))
   ·rcases mem_cons.mp z with z|z
    ·exact .inl z
    ·exact .inr (mem_append.mpr (.inr z))
  rcases hx' with rfl|hx'
  ·exact⟨a1,a2,zJ⟩
  ·obtain⟨b1,b2,b3⟩:=k.drop.fo x hx'
   exact⟨b1,b2,by rw[zP (k.ndp x hx')];exact b3⟩
 ·have q:=k.nd
  rw[map_append,map_cons] at q ⊢
  exact q
theorem Ok.freeze(k:Ok B F (O1++(p,o)::O2) H):Ok B (upd F p o) (O1++O2) H:=by
 obtain⟨a1,a2,a3⟩:=k.one
 refine⟨λb u e=>?_,k.h0,λb u e=>?_,λx hx=>?_,k.drop.nd⟩
 ·by_cases q:b=p
  ·subst q;rw[zJ] at e;cases e;exact a3
  ·rw[zP q] at e;exact k.fh b u e
 ·by_cases q:b=p
  ·subst q;exact .inr a2
  ·rw[zP q] at e;exact k.fa b u e
 ·obtain⟨b1,b2,b3⟩:=k.drop.fo x hx
  exact⟨by rw[zP (k.ndp x hx)];exact b1,b2,b3⟩
theorem zV2(h:H p=none):Same (lo F (O1++O2) H) (lo F (O1++(p,o)::O2) (upd H p o)):=λb u e=>by
 unfold lo at e ⊢
 by_cases q:b=p
 ·subst q
  split at e
  ·cases e
  ·rw[h] at e;cases e
 ·rw[zP q]
  have z:((O1++(p,o)::O2).any λx=>x.1==b)=((O1++O2).any λx=>x.1==b):=by
   rw[any_append,any_append,any_cons]
   have:(p==b)=false:=by simp;exactλe=>q e.symm
   simp[this]
  rw[z]
  exact e
theorem zV1:Same (lo F (O1++(p,o)::O2) H) (lo F (O1++(p,o')::O2) (upd H p o')):=λb u e=>by
 unfold lo at e ⊢
 by_cases q:b=p
 ·subst q
  rw[any_append,any_cons] at e
  simp at e
 ·rw[zP q]
  have z:((O1++(p,o)::O2).any λx=>x.1==b)=((O1++(p,o')::O2).any λx=>x.1==b):=by
   rw[any_append,any_append,any_cons,any_cons]
  rw[<-z]
  exact e
theorem mz:Same (lo F (O1++(p,o)::O2) H) (lo F (O1++O2) H):=λb u e=>by
 unfold lo at e ⊢
 split at e
 ·cases e
 ·rename_i h
  rw[if_neg]
  ·exact e
  ·rw[any_append,any_cons] at h
   rw[any_append]
   simp at h ⊢
   exact⟨h.1,h.2.1,h.2.2.2⟩
theorem pB:Same (lo F (O1++(p,o)::O2) H) (lo (upd F p o) (O1++O2) H):=λb u e=>by
 unfold lo at e ⊢
 split at e
 ·cases e
 ·rename_i h
  rw[any_append,any_cons] at h
  simp at h
  have q:b≠p:=λz=>h.2.2.1 z.symm
  rw[zP q,if_neg]
  ·exact e
  ·rw[any_append]
   simp
   exact⟨h.1,h.2.1,h.2.2.2⟩
theorem Ok.called(k:Ok B F O H)(s:Same H H'):bH B F H O (ext F H H') H':=by
 have e1:∀b o,ext F H H' b=some o->F b=some o\/H b=none:=λb o h=>by
  unfold ext at h
  cases q:H b with
  |none=>exact .inr rfl
  |some u=>rw[q] at h;exact .inl h
 refine⟨λb o h=>?_,s,⟨λb o h=>?_,k.h0.trans s,λb o h=>?_,λx hx=>?_,k.nd⟩,λb h1 h2=>?_⟩
 ·unfold ext
  rw[k.fh b o h]
  exact h
 ·unfold ext at h
  cases q:H b with
  |none=>rw[q] at h;exact h
  |some u=>rw[q] at h;rw[<-k.fh b o h];exact(s b u q).trans q.symm
 ·rcases e1 b o h with z|z
  ·exact k.fa b o z
  ·exact .inr (k.h0.free z)
 ·obtain⟨a1,a2,a3⟩:=k.fo x hx
  refine⟨?_,a2,s _ _ a3⟩
  unfold ext
  rw[a3]
  exact a1
 ·unfold ext
  cases q:H b with
  |none=>exact absurd q h2
  |some u=>exact h1
theorem Kz(h0:Same B.H0 H)(s:Same H H'):Same (dif H' H) (dif (ext F H H') B.H0):=λb o h=>by
 unfold dif at h
 cases q:H b with
 |none =>
  rw[q] at h
  rw[xW (h0.free q)]
  unfold ext
  rw[q]
  exact h
 |some u=>rw[q] at h;cases h
variable{md md1 md2:Md}{α β γ:Type}[Rp K α][Rp K β][Rp K γ]{t t1 t2:TE}{m:Option α}{m1:Option β}{m2:Option γ}
def Ex(B:Bs)(sl:SL K)(md:Md)(t:TE){α:Type}[Rp K α](m:Option α):Prop :=
 ∀a,m=some a->∀(F:Hp)(O:Own)(H:Hp)(σ:St)(Q:VK),At B sl F O H σ->(∀(v:V)(F' H':Hp),bH B F H O F' H'->rp K (reg B F' H' md) v a->Q v H')->t σ H Q
def Et(B:Bs)(sl:SL K)(t:TT)(m:Option Bool):Prop :=
 ∀a,m=some a->∀(F:Hp)(O:Own)(H:Hp)(σ:St)(Q:Bool->Hp->Prop),At B sl F O H σ->(∀(F' H':Hp),bH B F H O F' H'->Q a H')->t σ H Q
inductive Ar(R:Hp):SL K->List V->Prop
 |nil:Ar R [] []
 |cons {n:Bool} {α:Type} [Rp K α] {a:α} {v:V} {sl:SL K} {vs:List V}:rp K R v a->Ar R sl vs->Ar R (.fz n a::sl) (v::vs)
def Ea(B:Bs)(sl:SL K)(md:Md)(t:TA){A:Type}(as:A->SL K)(m:Option A):Prop :=
 ∀a,m=some a->∀(F:Hp)(O:Own)(H:Hp)(σ:St)(Q:List V->Hp->Prop),At B sl F O H σ->(∀(vs:List V)(F' H':Hp),bH B F H O F' H'->Ar (reg B F' H' md) (as a) vs->Q vs H')->t σ H Q
theorem Ex.sc[Sc K α](h:Ex B sl md t m):Ex B sl md1 t m:=λa ha F O H σ Q s k=>h a ha F O H σ Q s λv F' H' g r=>k v F' H' g (Am r)
theorem Ex.up(h:Ex B sl .nw t m):Ex B sl .fz t m:=λa ha F O H σ Q s k=>h a ha F O H σ Q s λv F' H' g r=>k v F' H' g (Rp.mono aQ r)
theorem Ex.uph(h:Ex B sl .fz t m):Ex B sl .hp t m:=λa ha F O H σ Q s k=>h a ha F O H σ Q s λv F' H' g r=>k v F' H' g (Rp.mono g.ok.fh r)
theorem YF[Nn K α](h:Ex B sl md t m):Ex B sl md t (m.bind λa=>some (some a)):=λa ha F O H σ Q s k=>by
 cases m with
 |none=>cases ha
 |some a' =>
  cases(show some (some a')=some a from ha)
  exact h a' rfl F O H σ Q s λv F' H' g r=>k v F' H' g ⟨Nn.nn (K:=K) r,r⟩
theorem yO{n:Bool}{a:α}(i:Nat)(hs:sl[i]?=some (.fz n a)):Ex B sl (dF n) (bT i) (some a):=λa' ha F O H σ Q s k=>by
 cases ha
 obtain⟨v,h1,h2⟩:=s.2.qJ hs
 exact⟨v,h1,k v F H (.refl s.1) h2⟩
theorem zI[Sc K α]{n:Bool}{a:α}(i:Nat)(hs:sl[i]?=some (.fz n a)):Ex B sl md (bT i) (some a):=(yO i hs).sc
theorem lo_le:Same (lo F O H) H:=λb o h=>by
 unfold lo at h
 split at h
 ·cases h
 ·exact h
theorem yq(k:Ok B F O H)(n:Bool):Same (reg B F H (dF n)) H:=match n with
 |true=>aQ.trans k.fh
 |false=>k.fh
theorem zD{n:Bool}{a:α}(i:Nat)(hs:sl[i]?=some (.fz n a)):Ex B sl .hp (bT i) (some a):=λa' ha F O H σ Q s k=>by
 cases ha
 obtain⟨v,h1,h2⟩:=s.2.qJ hs
 exact⟨v,h1,k v F H (.refl s.1) (Rp.mono (yq s.1 n) h2)⟩
theorem Cq{n:Bool}{xs:List α}(i:Nat)(hs:sl[i]?=some (.ow n xs)):Ex B sl .hp (bT i) (some xs):=λa' ha F O H σ Q s k=>by
 cases ha
 obtain⟨O1,O2,p,vs,rfl,h1,h2,_⟩:=s.2.pA hs
 exact⟨_,h1,k _ F H (.refl s.1) ⟨p,vs,rfl,s.1.one.2.2,h2.imp λ_ _=>Rp.mono (yq s.1 n)⟩⟩
theorem KC[Sc K α](a:α):Ex B sl md (tC (Sc.val K a)) (some a):=λa' ha F O H σ Q s k=>by cases ha;exact k _ F H (.refl s.1) (Sc.is.mpr rfl)
theorem zV(i:Int):Ex B sl md (tC (.int i)) (some i):=KC (K:=K) i
theorem Aq(i:Bool):Ex B sl md (tC (.bl i)) (some i):=KC (K:=K) i
theorem Cr(i:Str):Ex B sl md (tC (.str i)) (some i):=KC (K:=K) i
theorem zRg:Ex B sl md (tC .non) (some (none:Option α)):=λa' ha F O H σ Q s k=>by cases ha;exact k _ F H (.refl s.1) rfl
theorem pZ{f:β->γ->Option α}(h:(m1.bind λa=>m2.bind λb=>f a b)=some c):∃a b,m1=some a/\m2=some b/\f a b=some c:=by
 cases m1 with
 |none=>cases h
 |some a =>
  cases m2 with
  |none=>cases h
  |some b=>exact⟨a,b,rfl,rfl,h⟩
theorem Eb{f:β->γ->Option α}[Sc K α](hr:∀(a:β) (b:γ) (c:α) (v w:V) (H:Hp) (Q:VK),f a b=some c->rp K H v a->rp K H w b->Q (Sc.val K c) H->r v w H Q)(h1:Ex B sl .hp t1 m1)(h2:Ex B sl .hp t2 m2):Ex B sl md (jR r t1 t2) (m1.bind λa=>m2.bind λb=>f a b):=λc hc F O H σ Q s k=>by
 obtain⟨a,b,ha,hb,hf⟩:=pZ hc
 refine h1 a ha F O H σ _ s λv F' H' g r1=>?_
 refine h2 b hb F' O H' σ _ (s.grow g) λw F2 H2 g2 r2=>?_
 exact hr a b c v w H2 Q hf (Rp.mono g2.hh r1) r2 (k _ F2 H2 (g.trans g2) (Sc.is.mpr rfl))
theorem xH(h:Ex B sl md t m'):Et B sl (Vq t) m':=λc hc F O H σ Q s k=>h c hc F O H σ _ s λv F' H' g r=>⟨c,r,k F' H' g⟩
theorem cU(h:Ex B sl md t m'):Et B sl (tB t) m':=λc hc F O H σ Q s k=>h c hc F O H σ _ s λv F' H' g r=>⟨c,r,k F' H' g⟩
theorem Rw{t:TT}{n:Option Bool}(h:Et B sl t n):Et B sl (QD t) (n.bind λc=>some !c):=λc hc F O H σ Q s k=>by
 cases n with
 |none=>cases hc
 |some c' =>
  cases(show some (!c')=some c from hc)
  exact h c' rfl F O H σ _ s λF' H' g=>k F' H' g
theorem KD(h:Ex B sl .hp t n):Ex B sl md (Hv t) (n.bind λc=>some !c):=λc hc F O H σ Q s k=>by
 cases n with
 |none=>cases hc
 |some c' =>
  cases(show some (!c')=some c from hc)
  refine h c' rfl F O H σ _ s λv F' H' g r=>?_
  cases r
  exact⟨c',rfl,k _ F' H' g rfl⟩
theorem VL{t u:TT}{n n':Option Bool}(h:Et B sl t n)(h':Et B sl u n'):Et B sl (QC t u) (n.bind λc=>if c=true then n' else some false):=λc hc F O H σ Q s k=>by
 cases n with
 |none=>cases hc
 |some c' =>
  refine h c' rfl F O H σ _ s λF' H' g=>?_
  cases c' with
  |true=>exact ig (h' c (by simpa using hc) F' O H' σ _ (s.grow g) λF2 H2 g2=>k F2 H2 (g.trans g2))
  |false=>cases(show some false=some c from by simpa using hc);exact lU (k F' H' g)
theorem Rx{t u:TT}{n n':Option Bool}(h:Et B sl t n)(h':Et B sl u n'):Et B sl (Xp t u) (n.bind λc=>if c=true then some true else n'):=λc hc F O H σ Q s k=>by
 cases n with
 |none=>cases hc
 |some c' =>
  refine h c' rfl F O H σ _ s λF' H' g=>?_
  cases c' with
  |true=>cases(show some true=some c from by simpa using hc);exact ig (k F' H' g)
  |false=>exact lU (h' c (by simpa using hc) F' O H' σ _ (s.grow g) λF2 H2 g2=>k F2 H2 (g.trans g2))
theorem YG(h:Ex B sl .hp t1 n)(h':Ex B sl .hp t2 n'):Ex B sl md (Hu t1 t2) (n.bind λc=>if c=true then n' else some false):=λc hc F O H σ Q s k=>by
 cases n with
 |none=>cases hc
 |some c' =>
  refine h c' rfl F O H σ _ s λv F' H' g r=>?_
  cases r
  refine⟨c',rfl,?_⟩
  cases c' with
  |true=>exact ig (h' c (by simpa using hc) F' O H' σ _ (s.grow g) λv F2 H2 g2 r2=>k v F2 H2 (g.trans g2) (Am r2))
  |false=>cases(show some false=some c from by simpa using hc);exact lU (k _ F' H' g rfl)
theorem zV6{t:TT}{n:Option Bool}{m m':Option α}(h:Et B sl t n)(h1:Ex B sl md t1 m)(h2:Ex B sl md t2 m'):Ex B sl md (tIf t t1 t2) (n.bind λc=>if c=true then m else m'):=λc hc F O H σ Q s k=>by
 cases n with
 |none=>cases hc
 |some c' =>
  refine h c' rfl F O H σ _ s λF' H' g=>?_
  cases c' with
  |true=>exact ig (h1 c (by simpa using hc) F' O H' σ _ (s.grow g) λv F2 H2 g2 r2=>k v F2 H2 (g.trans g2) r2)
  |false=>exact lU (h2 c (by simpa using hc) F' O H' σ _ (s.grow g) λv F2 H2 g2 r2=>k v F2 H2 (g.trans g2) r2)
theorem zO:Ea B sl md bh (λ_:Unit=>[]) (some ()):=λa ha F O H σ Q s k=>k [] F H (.refl s.1) .nil
theorem zF{A:Type}{as:A->SL K}{ma:Option A}(h1:Ex B sl md t m)(h2:Ea B sl md tr as ma):Ea B sl md (yJ t tr) (λx:α×A=>.fz false x.1::as x.2) (m.bind λa=>ma.bind λb=>some (a,b)):=λc hc F O H σ Q s k=>by
 cases m with
 |none=>cases hc
 |some a =>
  cases ma with
  |none=>cases hc
  |some b =>
   cases(show some (a,b)=some c from hc)
   refine h1 a rfl F O H σ _ s λv F' H' g r1=>?_
   refine h2 b rfl F' O H' σ _ (s.grow g) λvs F2 H2 g2 r2=>?_
   exact k (v::vs) F2 H2 (g.trans g2) (.cons (Rp.mono (xU g2 md) r1) r2)
theorem KH(k:Ok B F O H)(h:H p=none)(md:Md):reg B (upd F p o) (upd H p o) md p=some o:=match md with
 |.nw=>by show dif (upd F p o) B.H0 p=_;rw[xW (k.h0.free h)];exact zJ
 |.fz=>zJ
 |.hp=>zJ
def cap:Nat:=100000
theorem yr(h:n<cap):n<sizeLine:=aek h (by decide)
theorem zWc(h:n<=cap):n<=sizeLine:=aa8 h (by decide)
def El(B:Bs)(sl:SL K)(md:Md)(t:TA){α:Type}[Rp K α](m:Option (List α)):Prop :=
 ∀a,m=some a->∀(F:Hp)(O:Own)(H:Hp)(σ:St)(Q:List V->Hp->Prop),At B sl F O H σ->(∀(vs:List V)(F' H':Hp),bH B F H O F' H'->A2 (rp K (reg B F' H' md)) vs a->Q vs H')->t σ H Q
theorem Pg:El B sl md bh (some ([]:List α)):=λa ha F O H σ Q s k=>by cases ha;exact k [] F H (.refl s.1) trivial
theorem vD(h1:Ex B sl md t m)(h2:El B sl md tr ma):El B sl md (yJ t tr) (m.bind λa=>ma.bind λb=>some (a::b)):=λc hc F O H σ Q s k=>by
 cases m with
 |none=>cases hc
 |some a =>
  cases ma with
  |none=>cases hc
  |some b =>
   cases(show some (a::b)=some c from hc)
   refine h1 a rfl F O H σ _ s λv F' H' g r1=>?_
   refine h2 b rfl F' O H' σ _ (s.grow g) λvs F2 H2 g2 r2=>?_
   exact k (v::vs) F2 H2 (g.trans g2) ⟨Rp.mono (xU g2 md) r1,r2⟩
def Eo(B:Bs)(sl:SL K)(md:Md)(t:TE){α:Type}[Rp K α](m:Option (List α)):Prop :=
 ∀a,m=some a->∀(F:Hp)(O:Own)(H:Hp)(σ:St)(Q:VK),At B sl F O H σ->(∀(p:Addr)(vs:List V)(F' H':Hp),bH B F H O F' H'->H' p=none->A2 (rp K (reg B F' H' md)) vs a->Q (.ref p) (upd H' p (.lst vs)))->t σ H Q
theorem Eo.ex{m:Option (List α)}(h:Eo B sl md t m):Ex B sl md t m:=λa ha F O H σ Q s k=>h a ha F O H σ Q s λp vs F' H' g hp r=>by
 have g2:=bH.new g.ok hp (.lst vs)
 exact k _ _ _ (g.trans g2) ⟨p,vs,rfl,KH g.ok hp md,r.imp λ_ _=>Rp.mono (xU g2 md)⟩
theorem ur:Eo B sl md (Ka bh) (some ([]:List α)):=λa ha F O H σ Q s k=>by
 cases ha
 exact⟨abj _,λp hp=>k p [] F H (.refl s.1) hp trivial⟩
theorem Ph{t:TA}{ma:Option (List α)}(h:El B sl md t ma)(hl:∀a,ma=some a->a.length<=cap):Eo B sl md (Ka t) ma:=λa ha F O H σ Q s k =>
 h a ha F O H σ _ s λvs F' H' g r=>⟨by rw[r.len];exact zWc (hl a ha),λp hp=>k p vs F' H' g hp r⟩
theorem Ec(h1:Ex B sl md t1 m1)(h2:Ex B sl md t2 m2):Ex B sl md (uh (yJ t1 (yJ t2 bh))) (m1.bind λa=>m2.bind λb=>some (a,b)):=λc hc F O H σ Q s kk=>by
 obtain⟨a,b,ha,hb,hf⟩:=pZ hc
 cases hf
 refine h1 a ha F O H σ _ s λv F' H' g r1=>?_
 refine h2 b hb F' O H' σ _ (s.grow g) λw F2 H2 g2 r2=>?_
 refine⟨by show 2<=sizeLine;decide,λp hp=>?_⟩
 have g3:=bH.new g2.ok hp (.tup [v,w])
 exact kk _ _ _ (g.trans (g2.trans g3)) ⟨p,v,w,rfl,KH g2.ok hp md,Rp.mono (xU (g2.trans g3) md) r1,Rp.mono (xU g3 md) r2⟩
def cN(K:PySem.W.Frag)(al:Bool){A β:Type}[Rp K β](as:A->SL K)(f:A->Option β):Sp:=λvs H Q _ =>
 ∃a b Fa,Same Fa H/\f a=some b/\Ar Fa (as a) vs/\∀v H',Same H H'->rp K (if al=true then ext Fa H H' else dif H' H) v b->Q v H'
theorem zM{A:Type}{as:A->SL K}{f:A->Option β}{ma:Option A}(h:Ea B sl .hp ta as ma):Ex B sl md (Cj (cN K false as f) [] E0 ta) (ma.bind f):=λc hc F O H σ Q s kk=>by
 cases ma with
 |none=>cases hc
 |some a =>
  refine h a rfl F O H σ _ s λvs F' H' g r=>?_
  rw[append_nil]
  refine⟨a,c,H',.refl _,hc,r,λv H2 s2 r2=>?_⟩
  have g2:=g.ok.called s2
  refine kk v _ H2 (g.trans g2) ?_
  have r3:=Rp.mono (Kz (F:=F') g.ok.h0 s2) r2
  exact match md with
  |.nw=>r3
  |.fz=>Rp.mono aQ r3
  |.hp=>Rp.mono (aQ.trans g2.ok.fh) r3
end
def push{α:Type}(xs:List α)(a:α):Option (List α):=if xs.length<cap then some (xs++[a]) else none
def uw{α:Type}(xs:List α)(i:Int)(a:α):Option (List α):=(tE xs.length i).bind λj=>some (xs.set j a)
def uM(n:Int):Option LI:=if -(2^62)<=n/\n<2^62 then some ((abg n.toNat).map adi) else none
def wD{S α:Type}(step:S->α->Option S):List α->S->Option S
 |[],s=>some s
 |x::xs,s=>(step s x).bind λs'=>wD step xs s'
inductive Out(S β:Type)|nx (s:S)|rt (b:β)
def vZ{S α β:Type}(step:S->α->Option (Out S β)):List α->S->Option (Out S β)
 |[],s=>some (.nx s)
 |x::xs,s=>(step s x).bind λo=>match o with
  |.nx s'=>vZ step xs s'
  |.rt b=>some (.rt b)
def HN{S:Type}(c:S->Option Bool)(body:S->Option S):Nat->S->Option S
 |0,_=>none
 |k+1,s=>(c s).bind λb=>if b=true then(body s).bind λs'=>HN c body k s' else some s
def wI{α β:Type}(c:α->Option Bool)(f:α->Option β):List α->Option (List β)
 |[]=>some []
 |x::xs=>(c x).bind λb=>if b=true then(f x).bind λy=>(wI c f xs).bind λys=>some (y::ys) else wI c f xs
def Out.els{S β:Type}(o:Out S β)(f:S->Option β):Option β:=match o with
 |.nx s=>f s
 |.rt b=>some b
def Out.aP{S S' β:Type}(o:Out S β)(f:S->Option (Out S' β)):Option (Out S' β):=match o with
 |.nx s=>f s
 |.rt b=>some (.rt b)
theorem YH{S α:Type}(step:S->α->Option S):∀(xs ys:List α)(s:S),wD step (xs++ys) s=(wD step xs s).bind λs'=>wD step ys s'
 |[],ys,s=>rfl
 |x::xs,ys,s=>by
  show(step s x).bind _=((step s x).bind _).bind _
  cases step s x with
  |none=>rfl
  |some s'=>exact YH step xs ys s'
theorem zN5{S α:Type}{step:S->α->Option S}{xs:List α}{s s1:S}(h:wD step xs s=some s1){x:α}(hx:xs[i]?=some x):∃a b,wD step (xs.take i) s=some a/\step a x=some b/\wD step (xs.take (i+1)) s=some b:=by
 have e:xs=xs.take (i+1)++xs.drop (i+1):=(take_append_drop _ _).symm
 have e2:xs.take (i+1)=xs.take i++[x]:=by rw[take_add_one,hx]<;>rfl
 rw[e,YH] at h
 cases q:wD step (xs.take (i+1)) s with
 |none=>rw[q] at h;cases h
 |some b =>
  have q':=q
  rw[e2,YH] at q'
  cases z:wD step (xs.take i) s with
  |none=>rw[z] at q';cases q'
  |some a =>
   rw[z] at q'
   have q2:(step a x).bind (λs'=>some s')=some b:=q'
   refine⟨a,b,rfl,?_,rfl⟩
   cases w:step a x with
   |none=>rw[w] at q2;cases q2
   |some c=>rw[w] at q2;exact q2
section
variable{K:PySem.W.Frag}{B:Bs}{F H F' H' G:Hp}{O:Own}{sl sl2:SL K}{σ:St}{md:Md}{α β γ:Type}[Rp K α][Rp K β][Rp K γ]{t u v:TS}{te:TE}{m:Option α}{S S':Type}{al:Bool}
def Sg(B:Bs)(G:Hp)(sl:SL K)(σ:St)(H:Hp):Prop:=∃F O,Same G F/\At B sl F O H σ
def Rt(K:PySem.W.Frag){β:Type}[Rp K β](B:Bs)(al:Bool)(b:β)(v:V)(H':Hp):Prop:=Same B.H0 H'/\rp K (if al=true then ext B.Fa B.H0 H' else dif H' B.H0) v b
def Sn(B:Bs)(sl:SL K)(t:TS){S:Type}(L:S->SL K)(m:Option S):Prop :=
 ∀a,m=some a->∀(G:Hp)(D:Ends)(σ:St)(H:Hp),Sg B G sl σ H->(∀σ' H',Sg B G (L a) σ' H'->D.nx σ' H')->t D σ H
def SB(B:Bs)(sl:SL K)(t:TS)(al:Bool){β:Type}[Rp K β](m:Option β):Prop :=
 ∀b,m=some b->∀(G:Hp)(D:Ends)(σ:St)(H:Hp),Sg B G sl σ H->(∀v H',Rt K B al b v H'->D.rt v H')->t D σ H
def XE(B:Bs)(G:Hp)(al:Bool)(L:S->SL K)(D:Ends)(o:Out S β):Prop:=match o with
 |.nx s=>∀σ' H',Sg B G (L s) σ' H'->D.nx σ' H'
 |.rt b=>∀v H',Rt K B al b v H'->D.rt v H'
def Sx(B:Bs)(sl:SL K)(t:TS)(al:Bool){S β:Type}[Rp K β](L:S->SL K)(m:Option (Out S β)):Prop :=
 ∀o,m=some o->∀(G:Hp)(D:Ends)(σ:St)(H:Hp),Sg B G sl σ H->XE B G al L D o->t D σ H
theorem SB.of(h:SB B sl t al m)(q:m=m'):SB B sl t al m':=q▸h
theorem Sn.of(h:Sn B sl t L m)(q:m=m'):Sn B sl t L m':=q▸h
inductive Le:SL K->SL K->Prop
 |nil:Le [] []
 |eq {s:Slot K} {a b:SL K}:Le a b->Le (s::a) (s::b)
 |un {s:Slot K} {a b:SL K}:Le a b->Le (s::a) (.un::b)
 |fr {n:Bool} {α:Type} [Rp K α] {xs:List α} {a b:SL K}:Le a b->Le (.ow n xs::a) (.fz n xs::b)
 |old {α:Type} [Rp K α] {x:α} {a b:SL K}:Le a b->Le (.fz true x::a) (.fz false x::b)
theorem ak.le(h:Le sl sl2):∀{F:Hp}{σ:St}{O:Own},Ok B F (P++O) H->ak B F (lo F (P++O) H) H sl σ O->∃F' O',Same F F'/\Ok B F' (P++O') H/\Same (lo F (P++O) H) (lo F' (P++O') H)/\ak B F' (lo F' (P++O') H) H sl2 σ O':=by
 induction h generalizing P with
 |nil=>intro F σ O k h;cases h;exact⟨F,[],.refl _,k,.refl _,.nil⟩
 |eq _ ih =>
  intro F σ O k h
  cases h with
  |un h=>obtain⟨F',O',a,b,c,d⟩:=ih k h;exact⟨F',O',a,b,c,.un d⟩
  |fz r h=>obtain⟨F',O',a,b,c,d⟩:=ih k h;exact⟨F',O',a,b,c,.fz (Rp.mono (xT _ a) r) d⟩
  |hs r h=>obtain⟨F',O',a,b,c,d⟩:=ih k h;exact⟨F',O',a,b,c,.hs r d⟩
  |nu r h=>obtain⟨F',O',a,b,c,d⟩:=ih k h;exact⟨F',O',a,b,c,.nu (Rp.mono (yR c) r) d⟩
  |@ow _ _ _ _ _ _ O p vs r h =>
   have e:P++(p,HO.lst vs)::O=(P++[(p,HO.lst vs)])++O:=by simp
   rw[e] at k h
   obtain⟨F',O',a,b,c,d⟩:=ih k h
   have e':(P++[(p,HO.lst vs)])++O'=P++(p,HO.lst vs)::O':=by simp
   rw[e'] at b c d
   rw[<-e] at c
   exact⟨F',_::O',a,b,c,.ow (r.imp λ_ _=>Rp.mono (xT _ a)) d⟩
  |@od _ _ _ _ _ O p vs r h =>
   have e:P++(p,HO.dK vs)::O=(P++[(p,HO.dK vs)])++O:=by simp
   rw[e] at k h
   obtain⟨F',O',a,b,c,d⟩:=ih k h
   have e':(P++[(p,HO.dK vs)])++O'=P++(p,HO.dK vs)::O':=by simp
   rw[e'] at b c d
   rw[<-e] at c
   exact⟨F',_::O',a,b,c,.od (r.imp λ_ _ z=>⟨z.1,Rp.mono a z.2⟩) d⟩
 |un _ ih =>
  intro F σ O k h
  cases h with
  |un h=>obtain⟨F',O',a,b,c,d⟩:=ih k h;exact⟨F',O',a,b,c,.un d⟩
  |fz r h=>obtain⟨F',O',a,b,c,d⟩:=ih k h;exact⟨F',O',a,b,c,.un d⟩
  |hs r h=>obtain⟨F',O',a,b,c,d⟩:=ih k h;exact⟨F',O',a,b,c,.un d⟩
  |nu r h=>obtain⟨F',O',a,b,c,d⟩:=ih k h;exact⟨F',O',a,b,c,.un d⟩
  |ow r h=>obtain⟨F',O',a,b,c,d⟩:=ih k.drop (h.mono (.refl _) mz (.refl _));exact⟨F',O',a,b,mz.trans c,.un d⟩
  |od r h=>obtain⟨F',O',a,b,c,d⟩:=ih k.drop (h.mono (.refl _) mz (.refl _));exact⟨F',O',a,b,mz.trans c,.un d⟩
 |@fr n _ _ _ _ _ _ ih =>
  intro F σ O k h
  cases h with
  |@ow _ _ _ _ _ _ O p vs r h =>
   obtain⟨a1,a2,a3⟩:=k.one
   have sf:Same F (upd F p (.lst vs)):=au a1 _
   obtain⟨F',O',a,b,c,d⟩:=ih k.freeze (h.mono sf pB (.refl _))
   refine⟨F',O',sf.trans a,b,pB.trans c,.fz ⟨p,vs,rfl,?_,r.imp λ_ _=>Rp.mono (xT _ (sf.trans a))⟩ d⟩
   cases n with
   |true=>exact(xW a2).trans (a _ _ zJ)
   |false=>exact a _ _ zJ
 |old _ ih =>
  intro F σ O k h
  cases h with
  |fz r h=>obtain⟨F',O',a,b,c,d⟩:=ih k h;exact⟨F',O',a,b,c,.fz (Rp.mono (aQ.trans a) r) d⟩
theorem Sg.le(h:Sg B G sl σ H)(l:Le sl sl2):Sg B G sl2 σ H:=by
 obtain⟨F,O,g,k,s⟩:=h
 obtain⟨F',O',a,b,_,d⟩:=ak.le (P:=[]) l k s
 exact⟨F',O',g.trans a,b,d⟩
theorem Sg.grow(g:Same G F)(h:At B sl F O' H σ)(gr:bH B F H O' F' H'):Sg B G sl σ H':=⟨F',O',g.trans gr.ff,h.grow gr⟩
theorem yF(L:S->SL K)(s:S)(h:Le sl (L s)):Sn B sl JK L (some s):=λa ha G D σ H q k=>by cases ha;exact k σ H (q.le h)
theorem zT{f:S->Option S'}(h1:Sn B sl t L m1)(h2:∀s,Sn B (L s) u L' (f s)):Sn B sl (iZ t u) L' (m1.bind f):=λa ha G D σ H q k=>by
 cases m1 with
 |none=>cases ha
 |some s=>exact h1 s rfl G _ σ H q λσ' H' q'=>h2 s a ha G D σ' H' q' k
theorem zW{f:S->Option β}(h1:Sn B sl t L m1)(h2:∀s,SB B (L s) u al (f s)):SB B sl (iZ t u) al (m1.bind f):=λa ha G D σ H q k=>by
 cases m1 with
 |none=>cases ha
 |some s=>exact h1 s rfl G _ σ H q λσ' H' q'=>h2 s a ha G D σ' H' q' k
theorem VN{f:S->Option β}(h1:Sx B sl t al L m1)(h2:∀s,SB B (L s) u al (f s)):SB B sl (iZ t u) al (m1.bind λo=>o.els f):=λa ha G D σ H q k=>by
 cases m1 with
 |none=>cases ha
 |some o =>
  cases o with
  |nx s=>exact h1 _ rfl G _ σ H q λσ' H' q'=>h2 s a ha G D σ' H' q' k
  |rt b=>cases ha;exact h1 _ rfl G { D with nx:=u D } σ H q k
theorem VP(L:S->SL K)(s:S)(h:Le sl (L s)):Sx B sl JK al L (some (.nx s):Option (Out S β)):=λa ha G D σ H q k=>by cases ha;exact k σ H (q.le h)
theorem HS(k:Ok B F' O H')(n:Bool){v:V}{b:β}(r:rp K (reg B F' H' (dF n)) v b)(hn:n=!al):Rt K B al b v H':=by
 refine⟨k.h0,?_⟩
 cases al with
 |false=>subst hn;exact Rp.mono (yR k.fh) r
 |true =>
  subst hn
  refine Rp.mono (λb o h=>?_) r
  have h:F' b=some o:=h
  show ext B.Fa B.H0 H' b=some o
  unfold ext
  cases q:B.H0 b with
  |none=>exact k.fh b o h
  |some u =>
   rcases k.fa b o h with z|z
   ·exact z
   ·rw[q] at z;cases z
theorem yC(h:Ex B sl (dF !al) te m):SB B sl (iZ (rJ te) u) al m:=λb hb G D σ H s k=>by
 obtain⟨F,O,g,a⟩:=s
 exact h b hb F O H σ _ a λv F' H' gr r=>k v H' (HS gr.ok (!al) r rfl)
theorem Ed(h:F p=none):Same (dif F H0) (dif (upd F p o) H0):=yR (au h o)
theorem HW{n:Bool}{xs:List α}(i:Nat)(hs:sl[i]?=some (.ow n xs))(hn:n=!al):SB B sl (iZ (rJ (bT i)) u) al (some xs):=λb hb G D σ H s k=>by
 cases hb
 obtain⟨F,O,g,a⟩:=s
 obtain⟨O1,O2,p,vs,rfl,h1,h2,_⟩:=a.2.pA hs
 obtain⟨a1,a2,a3⟩:=a.1.one
 refine⟨_,h1,k _ H (HS a.1.freeze n ⟨p,vs,rfl,?_,h2.imp λ_ _=>Rp.mono ?_⟩ hn)⟩
 ·cases n with
  |true=>exact(xW a2).trans zJ
  |false=>exact zJ
 ·cases n with
  |true=>exact Ed a1
  |false=>exact au a1 _
theorem tK(hc:Et B sl c n)(h1:Sn B sl t L m1)(h2:Sn B sl u L m2):Sn B sl (uf c t u) L (n.bind λb=>if b=true then m1 else m2):=λa ha G D σ H s k=>by
 cases n with
 |none=>cases ha
 |some b =>
  obtain⟨F,O,g,z⟩:=s
  refine hc b rfl F O H σ _ z λF' H' gr=>?_
  cases b with
  |true=>exact ig (h1 a (by simpa using ha) G D σ H' (Sg.grow g z gr) k)
  |false=>exact lU (h2 a (by simpa using ha) G D σ H' (Sg.grow g z gr) k)
theorem uK{c:TT}{n:Option Bool}{m1 m2:Option β}(hc:Et B sl c n)(h1:SB B sl t al m1)(h2:SB B sl u al m2):SB B sl (iZ (uf c t JK) u) al (n.bind λb=>if b=true then m1 else m2):=λa ha G D σ H s k=>by
 cases n with
 |none=>cases ha
 |some b =>
  obtain⟨F,O,g,z⟩:=s
  refine hc b rfl F O H σ _ z λF' H' gr=>?_
  cases b with
  |true=>exact ig (h1 a (by simpa using ha) G _ σ H' (Sg.grow g z gr) k)
  |false=>exact lU (h2 a (by simpa using ha) G D σ H' (Sg.grow g z gr) k)
theorem VR{c:TT}{n:Option Bool}{m1:Option β}{L:S->SL K}{m2:Option (Out S β)}(hc:Et B sl c n)(h1:SB B sl t al m1)(h2:Sx B sl u al L m2) :
  Sx B sl (iZ (uf c t JK) u) al L (n.bind λb=>if b=true then m1.bind λb=>some (.rt b) else m2):=λa ha G D σ H s k=>by
 cases n with
 |none=>cases ha
 |some b =>
  obtain⟨F,O,g,z⟩:=s
  refine hc b rfl F O H σ _ z λF' H' gr=>?_
  cases b with
  |true =>
   have e:=(show(m1.bind λb=>some (Out.rt b))=some a by simpa using ha)
   cases m1 with
   |none=>cases e
   |some b=>cases e;exact ig (h1 b rfl G _ σ H' (Sg.grow g z gr) k)
  |false=>exact lU (h2 a (by simpa using ha) G D σ H' (Sg.grow g z gr) k)
theorem Sg.set{s:Slot K}{i:Nat}{n:Bool}{a:α}{v:V}{O:Own}(g:Same G F)(h:At B sl F O H σ)(hs:sl[i]?=some s)(ho:jc s=false)(r:rp K (reg B F H (dF n)) v a):Sg B G (sl.set i (.fz n a)) (σ.set i (some v)) H :=
 ⟨F,O,g,h.1,h.2.put (λ_ _ _ z=>.fz r z) hs ho⟩
theorem xP(n:Bool)(i:Nat)(hs:sl[i]?=some s)(ho:jc s=false)(h:Ex B sl (dF n) te m):Sn B sl (lR te (uV i)) (λa=>sl.set i (.fz n a)) m:=λa ha G D σ H s k=>by
 obtain⟨F,O,g,z⟩:=s
 exact h a ha F O H σ _ z λv F' H' gr r=>k _ _ (Sg.set (g.trans gr.ff) (z.grow gr) hs ho r)
theorem Pj(h:Ex B sl md te m):Sn B sl (JL te) (λ_=>sl) m:=λa ha G D σ H s k=>by
 obtain⟨F,O,g,z⟩:=s
 exact h a ha F O H σ _ z λv F' H' gr r=>k _ _ (Sg.grow g z gr)
theorem At.own{s:Slot K}{i:Nat}{n:Bool}{xs:List α}{vs:List V}{p:Addr}(h:At B sl F O H σ)(hs:sl[i]?=some s)(ho:jc s=false)(hp:H p=none)(r:A2 (rp K (reg B F H (dF n))) vs xs) :
  ∃O',At B (sl.set i (.ow n xs)) F O' (upd H p (.lst vs)) (σ.set i (some (.ref p))):=by
 obtain⟨k,z0⟩:=h
 obtain⟨O1,O2,rfl,z⟩:=z0.own (s':=.ow n xs) (x:=some (.ref p)) (c:=(p,.lst vs)) (λ_ _ _ z=>.ow r z) hs ho
 exact⟨_,k.add hp,z.mono (.refl _) (zV2 hp) (au hp _)⟩
theorem ux{s:Slot K}{m:Option (List α)}(n:Bool)(i:Nat)(hs:sl[i]?=some s)(ho:jc s=false)(h:Eo B sl (dF n) te m):Sn B sl (lR te (uV i)) (λa=>sl.set i (.ow n a)) m:=λa ha G D σ H s k=>by
 obtain⟨F,O,g,z⟩:=s
 refine h a ha F O H σ _ z λp vs F' H' gr hp r=>k _ _ ?_
 obtain⟨O',z'⟩:=(z.grow gr).own hs ho hp r
 exact⟨F',O',g.trans gr.ff,z'⟩
theorem YJ(i:Nat)(hs:sl[i]?=some s)(ho:jc s=false):Sn B sl (lR zVi (uV i)) (λ_=>sl.set i (.od ([]:List (Key×α)))) (some ()):=λa ha G D σ H s k=>by
 obtain⟨F,O,g,k0,z0⟩:=s
 intro p hp
 refine k _ _ ?_
 obtain⟨O1,O2,rfl,z'⟩:=z0.own (s':=.od ([]:List (Key×α))) (x:=some (.ref p)) (c:=(p,.dK [])) (λ_ _ _ z=>.od trivial z) hs ho
 exact⟨F,_,g,k0.add hp,z'.mono (.refl _) (zV2 hp) (au hp _)⟩
theorem YK{α:Type}:∀{l:List α}{i:Nat}{x:α},l[i]?=some x->l.set i x=l
 |[],_,_,h=>by simp at h
 |_::_,0,_,h=>by simp at h;subst h;rfl
 |_::l,i+1,_,h=>congrArg _ (YK (l:=l) (i:=i) (by simpa using h))
theorem YL{P:Slot K->Bool}(hs:P s=true):∀{l:SL K}{i:Nat},l.all P=true->(l.set i s).all P=true
 |[],_,h=>h
 |_::_,0,h=>by rw[all_cons,aa1] at h;rw[List.set_cons_zero,all_cons,aa1];exact⟨hs,h.2⟩
 |_::l,i+1,h=>by rw[all_cons,aa1] at h;rw[List.set_cons_succ,all_cons,aa1];exact⟨h.1,YL hs h.2⟩
theorem At.chg{i:Nat}{n:Bool}{xs:List α}(h:At B sl F O H σ)(hs:sl[i]?=some (.ow n xs))(hh:sl.all (λs=>!cR s)=true):∃p vs,σ[i]?=some (some (.ref p))/\H p=some (.lst vs)/\A2 (rp K (reg B F H (dF n))) vs xs /\
  ∀(ws:List V)(ys:List α),A2 (rp K (reg B F H (dF n))) ws ys->∃O',At B (sl.set i (.ow n ys)) F O' (upd H p (.lst ws)) σ:=by
 obtain⟨k,z0⟩:=h
 obtain⟨O1,O2,p,vs,rfl,h1,h2,h3,_⟩:=z0.pA hs
 refine⟨p,vs,h1,k.one.2.2,h2,λws ys r=>⟨_,k.chg (.lst ws),?_⟩⟩
 have z:=h3 (.ow n ys) (some (.ref p)) (p,.lst ws) λ_ _ _ z=>.ow r z
 rw[YK h1] at z
 exact z.mut zV1 (YL rfl hh)
theorem At.Ef(h:At B sl F O H σ)(hs:sl[i]?=some (.od kvs))(hh:sl.all (λs=>!cR s)=true):∃p ks,σ[i]?=some (some (.ref p))/\H p=some (.dK ks)/\A2 (λ(x:Key×V) (y:Key×α)=>x.1=y.1/\rp K F x.2 y.2) ks kvs /\
  ∀(ws:List (Key×V))(ys:List (Key×α)),A2 (λ(x:Key×V) (y:Key×α)=>x.1=y.1/\rp K F x.2 y.2) ws ys->∃O',At B (sl.set i (.od ys)) F O' (upd H p (.dK ws)) σ:=by
 obtain⟨k,z0⟩:=h
 obtain⟨O1,O2,p,vs,rfl,h1,h2,h3,_⟩:=z0.HJ hs
 refine⟨p,vs,h1,k.one.2.2,h2,λws ys r=>⟨_,k.chg (.dK ws),?_⟩⟩
 have z:=h3 (.od ys) (some (.ref p)) (p,.dK ws) λ_ _ _ z=>.od r z
 rw[YK h1] at z
 exact z.mut zV1 (YL rfl hh)
theorem vQ(i:Nat)(hs:sl[i]?=some (.ow n xs))(hh:sl.all (λs=>!cR s)=true)(h:Ex B sl (dF n) te m) :
  Sn B sl (JL (Kq K "list" Yi (bT i) (yJ te bh))) (λys=>sl.set i (.ow n ys)) (m.bind λa=>push xs a):=λys ha G D σ H s k=>by
 cases m with
 |none=>cases ha
 |some a =>
  have ha':push xs a=some ys:=ha
  unfold push at ha'
  split at ha'
  case isFalse=>cases ha'
  rename_i hl
  cases ha'
  obtain⟨F,O,g,z⟩:=s
  obtain⟨p,vs,h1,h2,h3,_⟩:=z.chg hs hh
  refine⟨_,h1,.inl ⟨rfl,_,aO.of h2⟩,?_⟩
  refine h a rfl F O H σ _ z λv F' H' gr r=>?_
  obtain⟨p',vs',h1',h2',h3',h4'⟩:=(z.grow gr).chg hs hh
  have e:=h1.symm.trans h1'
  cases e
  obtain⟨O',z'⟩:=h4' (vs'++[v]) (xs++[a]) (h3'.snoc r)
  exact⟨p,vs',v,rfl,rfl,h2',yr (by rw[h3'.len];exact hl),k _ _ ⟨F',O',g.trans gr.ff,z'⟩⟩
theorem V0(i:Nat)(hs:sl[i]?=some (.ow n xs))(hh:sl.all (λs=>!cR s)=true)(hv:Ex B sl (dF n) te m)(hi:Ex B sl .hp ti mi) :
  Sn B sl (lR te (QH (bT i) ti Ae)) (λys=>sl.set i (.ow n ys)) (m.bind λa=>mi.bind λk=>uw xs k a):=λys ha G D σ H s k=>by
 cases m with
 |none=>cases ha
 |some a =>
  cases mi with
  |none=>cases ha
  |some ix =>
   have ha':uw xs ix a=some ys:=ha
   obtain⟨F,O,g,z⟩:=s
   refine hv a rfl F O H σ _ z λv F' H' gr r=>?_
   obtain⟨p,vs,h1,h2,h3,_⟩:=(z.grow gr).chg hs hh
   refine⟨_,h1,?_⟩
   refine hi ix rfl F' O H' σ _ (z.grow gr) λw F2 H2 tL rw=>?_
   cases rw
   obtain⟨p',vs',h1',h2',h3',h4'⟩:=((z.grow gr).grow tL).chg hs hh
   have e:=h1.symm.trans h1'
   cases e
   unfold uw at ha'
   cases ej:tE xs.length ix with
   |none=>rw[ej] at ha';cases ha'
   |some jj =>
    rw[ej] at ha'
    cases ha'
    obtain⟨O',z'⟩:=h4' (vs'.set jj v) (xs.set jj a) (h3'.set (Rp.mono (xU tL (dF n)) r) jj)
    exact⟨p,vs',ix,jj,rfl,rfl,h2',by rw[h3'.len,ej],k _ _ ⟨F2,O',(g.trans gr.ff).trans tL.ff,z'⟩⟩
end
section
variable{K:PySem.W.Frag}{B:Bs}{F H F' H' G:Hp}{O:Own}{sl sl2:SL K}{σ:St}{md:Md}{α β γ:Type}[Rp K α][Rp K β][Rp K γ]{tb u v:TS}{te:TE}{m:Option α}{S S':Type}{al n:Bool}
theorem V1{S α β:Type}(step:S->α->Option (Out S β)):∀(xs ys:List α)(s:S),vZ step (xs++ys) s=(vZ step xs s).bind λo=>o.aP λs'=>vZ step ys s'
 |[],ys,s=>rfl
 |x::xs,ys,s=>by
  show(step s x).bind _=((step s x).bind _).bind _
  cases step s x with
  |none=>rfl
  |some o =>
   cases o with
   |nx s'=>exact V1 step xs ys s'
   |rt b=>rfl
theorem zN3{S α β:Type}{step:S->α->Option (Out S β)}{xs:List α}{s a:S}{x:α}(h:vZ step (xs.take i) s=some (.nx a))(hx:xs[i]?=some x):vZ step (xs.take (i+1)) s=step a x:=by
 have e2:xs.take (i+1)=xs.take i++[x]:=by rw[take_add_one,hx]<;>rfl
 rw[e2,V1,h]
 show(step a x).bind _=step a x
 cases step a x with
 |none=>rfl
 |some o=>cases o<;>rfl
theorem zRc{S α β:Type}{step:S->α->Option (Out S β)}{xs:List α}{s:S}{o:Out S β}{b:β}(h:vZ step xs s=some o)(hi:vZ step (xs.take i) s=some (.rt b)):o=.rt b:=by
 rw[<-take_append_drop i xs,V1,hi] at h
 cases h
 rfl
theorem zN4{S α β:Type}{step:S->α->Option (Out S β)}{xs:List α}{s:S}{o:Out S β}(i:Nat)(h:vZ step xs s=some o):∃o',vZ step (xs.take i) s=some o':=by
 rw[<-take_append_drop i xs,V1] at h
 cases q:vZ step (xs.take i) s with
 |none=>rw[q] at h;cases h
 |some o'=>exact⟨o',rfl⟩
def Yl(K:PySem.W.Frag)(B:Bs)(F':Hp)(n:Bool)(J:It){α:Type}[Rp K α](xs:List α):Prop:=∀(i:Nat)(F2:Hp)(O2:Own)(H2:Hp),Same F' F2->Ok B F2 O2 H2 ->
 (xs.length<=i->J.stop i H2)/\∀x,xs[i]?=some x->J.go i H2/\∀v H3,J.JW i H2 v H3->∃F3,bH B F2 H2 O2 F3 H3/\rp K (reg B F3 H3 (dF n)) v x
def Ei(B:Bs)(sl:SL K)(n:Bool)(wi:TI){α:Type}[Rp K α](mi:Option (List α)):Prop :=
 ∀xs,mi=some xs->∀(F:Hp)(O:Own)(H:Hp)(σ:St)(R:It->Hp->Prop),At B sl F O H σ->(∀(J:It)(F' H':Hp),bH B F H O F' H'->Yl K B F' n J xs->R J H')->wi σ H R
def Tg(B:Bs)(sl:SL K)(n:Bool)(g:TG){α:Type}[Rp K α](L:α->SL K):Prop :=
 ∀(v:V)(x:α)(F:Hp)(O:Own)(H:Hp)(σ:St)(Q:St->Hp->Prop),At B sl F O H σ->rp K (reg B F H (dF n)) v x->(∀σ',At B (L x) F O H σ'->Q σ' H)->g v σ H Q
theorem yH(i:Nat)(hs:sl[i]?=some s)(ho:jc s=false):Tg B sl n (uV i) (λx:α=>sl.set i (.fz n x)):=λv x F O H σ Q a r k=>k _ ⟨a.1,a.2.put (λ_ _ _ z=>.fz r z) hs ho⟩
theorem zO4(k:Ok B F O H)(h:reg B F H (dF n) p=some o):H p=some o:=yq k n p o h
theorem KJ(i j:Nat)(hs:sl[i]?=some s)(ho:jc s=false)(hs':∀x:Slot K,(sl.set i x)[j]?=some s')(ho':jc s'=false) :
  Tg B sl n (Di K 2 (OJ (uV i) (OJ (uV j) JQ))) (λx:α×β=>(sl.set i (.fz n x.1)).set j (.fz n x.2)):=λv x F O H σ Q a r k=>by
 obtain⟨p,w1,w2,rfl,h1,h2,h3⟩:=r
 refine⟨p,[w1,w2],rfl,.inl (.inl (zO4 a.1 h1)),rfl,w1,[w2],rfl,w2,[],rfl,rfl,?_⟩
 exact k _ ⟨a.1,(a.2.put (s':=.fz n x.1) (λ_ _ _ z=>.fz h2 z) hs ho).put (λ_ _ _ z=>.fz h3 z) (hs' _) ho'⟩
theorem vG{L:S->SL K}{Lx:S->α->SL K}{step:S->α->Option S}(s0:S)(h0:Le sl (L s0))(hi:Ei B (L s0) n wi mi)(hg:∀s,Tg B (L s) n g (Lx s))(hb:∀s x,Sn B (Lx s x) tb L (step s x)) :
  Sn B sl (J2 wi g tb) L (mi.bind λxs=>wD step xs s0):=λs1 hs1 G D σ H q k=>by
 cases mi with
 |none=>cases hs1
 |some xs =>
  have hs1:wD step xs s0=some s1:=hs1
  obtain⟨F,O,g0,a⟩:=q.le h0
  refine hi xs rfl F O H σ _ a λJ F' H' gr yl=>?_
  refine⟨λi m σ H=>m=xs.length-i/\i<=xs.length/\∃s,wD step (xs.take i) s0=some s/\Sg B F' (L s) σ H,⟨xs.length,rfl,abj _,s0,rfl,F',O,.refl _,a.grow gr⟩,?_⟩
  rintro i m σ H ⟨rfl,hil,s,hs,F2,O2,sf,a2⟩
  obtain⟨y1,y2⟩:=yl i F2 O2 H sf a2.1
  by_cases hlt:i<xs.length
  ·obtain⟨go,y3⟩:=y2 xs[i] (aaz hlt)
   obtain⟨s',s'',e1,e2,e3⟩:=zN5 hs1 (aaz hlt)
   rw[hs] at e1
   cases e1
   refine .inr ⟨go,Sg B F' (L s''),λσ' H' z=>⟨xs.length-(i+1),by omega,rfl,hlt,s'',e3,z⟩,λv H3 yd=>?_⟩
   obtain⟨F3,g3,r3⟩:=y3 v H3 yd
   exact hg s v xs[i] F3 O2 H3 σ _ (a2.grow g3) r3 λσ' a'=>hb s xs[i] s'' e2 F' _ σ' H3 ⟨F3,O2,sf.trans g3.ff,a'⟩ λσ2 H2 z=>z
  ·have e:i=xs.length:=by omega
   subst e
   rw[take_length,hs1] at hs
   cases hs
   exact .inl ⟨y1 (aa0 _),k σ H ⟨F2,O2,(g0.trans gr.ff).trans sf,a2⟩⟩
theorem V2{L:S->SL K}{Lx:S->α->SL K}{step:S->α->Option (Out S β)}(s0:S)(h0:Le sl (L s0))(hi:Ei B (L s0) n wi mi)(hg:∀s,Tg B (L s) n g (Lx s))(hb:∀s x,Sx B (Lx s x) tb al L (step s x)) :
  Sx B sl (J2 wi g tb) al L (mi.bind λxs=>vZ step xs s0):=λo ho G D σ H q k=>by
 cases mi with
 |none=>cases ho
 |some xs =>
  have ho:vZ step xs s0=some o:=ho
  obtain⟨F,O,g0,a⟩:=q.le h0
  refine hi xs rfl F O H σ _ a λJ F' H' gr yl=>?_
  refine⟨λi m σ H=>m=xs.length-i/\i<=xs.length/\∃s,vZ step (xs.take i) s0=some (.nx s)/\Sg B F' (L s) σ H,⟨xs.length,rfl,abj _,s0,rfl,F',O,.refl _,a.grow gr⟩,?_⟩
  rintro i m σ H ⟨rfl,hil,s,hs,F2,O2,sf,a2⟩
  obtain⟨y1,y2⟩:=yl i F2 O2 H sf a2.1
  by_cases hlt:i<xs.length
  ·obtain⟨go,y3⟩:=y2 xs[i] (aaz hlt)
   have e2:=zN3 hs (aaz hlt)
   obtain⟨o',e3⟩:=zN4 (i+1) ho
   refine .inr ⟨go,λσ H=>∃s',o'=.nx s'/\Sg B F' (L s') σ H,λσ' H' ⟨s',e,z⟩=>⟨xs.length-(i+1),by omega,rfl,hlt,s',by rw[e3,e],z⟩,λv H3 yd=>?_⟩
   obtain⟨F3,g3,r3⟩:=y3 v H3 yd
   refine hg s v xs[i] F3 O2 H3 σ _ (a2.grow g3) r3 λσ' a'=>hb s xs[i] o' (by rw[<-e2,e3]) F' _ σ' H3 ⟨F3,O2,sf.trans g3.ff,a'⟩ ?_
   cases o' with
   |nx s'=>exactλσ2 H2 z=>⟨s',rfl,z⟩
   |rt b =>
    have:=zRc ho e3
    subst this
    exact k
  ·have e:i=xs.length:=by omega
   subst e
   rw[take_length,ho] at hs
   cases hs
   exact .inl ⟨y1 (aa0 _),k σ H ⟨F2,O2,(g0.trans gr.ff).trans sf,a2⟩⟩
theorem zTf{L:S->SL K}{cM:S->Option Bool}{bM:S->Option S}(fuel:Nat)(s0:S)(h0:Le sl (L s0))(hc:∀s,Et B (L s) c (cM s))(hb:∀s,Sn B (L s) tb L (bM s)):Sn B sl (zVg c tb) L (HN cM bM fuel s0):=λs1 hs1 G D σ H q k=>by
 refine⟨λm σ H=>∃s,HN cM bM m s=some s1/\Sg B G (L s) σ H,⟨fuel,s0,hs1,q.le h0⟩,?_⟩
 rintro m σ H ⟨s,hs,F,O,g,a⟩
 cases m with
 |zero=>cases hs
 |succ m =>
  have hs:((cM s).bind λb=>if b=true then(bM s).bind λs'=>HN cM bM m s' else some s)=some s1:=hs
  cases e:cM s with
  |none=>rw[e] at hs;cases hs
  |some b =>
   rw[e] at hs
   refine hc s b e F O H σ _ a λF' H' gr=>?_
   cases b with
   |true =>
    have hs:((bM s).bind λs'=>HN cM bM m s')=some s1:=by simpa using hs
    cases e2:bM s with
    |none=>rw[e2] at hs;cases hs
    |some s' =>
     rw[e2] at hs
     exact ig ⟨Sg B G (L s'),λσ' H' z=>⟨m,acv _,s',hs,z⟩,hb s s' e2 G _ σ H' (Sg.grow g a gr) λ_ _ z=>z⟩
   |false =>
    have hs:some s=some s1:=by simpa using hs
    cases hs
    exact lU (k σ H' (Sg.grow g a gr))
theorem xI{mi:Option (List α)}(h:Ex B sl (dF n) te mi):Ei B sl n (zq K te) mi:=λxs hx F O H σ R a k=>by
 refine h xs hx F O H σ _ a λv F' H' gr r=>?_
 obtain⟨p,vs,rfl,h1,h2⟩:=r
 refine⟨p,rfl,⟨vs,aO.of (yq gr.ok n p _ h1)⟩,k _ F' H' gr λi F2 O2 H2 sf k2=>?_⟩
 have hq:aO K H2 p vs:=aO.of (k2.fh _ _ (sf _ _ (by cases n with|true=>exact aQ _ _ h1|false=>exact h1)))
 refine⟨λhl=>⟨vs,hq,by rw[h2.len];exact hl⟩,λx hx=>?_⟩
 obtain⟨w,hw,rw⟩:=h2.at2 hx
 refine⟨⟨vs,w,hq,hw⟩,λv H3 yd=>?_⟩
 obtain⟨e,y⟩:=yd
 subst e
 have:=(hw.symm.trans (y vs hq))
 cases this
 exact⟨F2,.refl k2,Rp.mono (xT n sf) rw⟩
theorem YM{k i:Nat}{x:Int}(h:((abg k).map adi)[i]?=some x):i<k/\x=i:=by
 rw[getElem?_map] at h
 by_cases q:i<k
 ·rw[getElem?_range q] at h;cases h;exact⟨q,rfl⟩
 ·rw[abq (by rw[length_range];omega)] at h;cases h
theorem uI(h:Ex B sl .hp te mi):Ei B sl n (Hy (yJ te bh)) (mi.bind uM):=λxs hx F O H σ R a k=>by
 cases mi with
 |none=>cases hx
 |some j =>
  have hx:uM j=some xs:=hx
  unfold uM at hx
  split at hx
  case isFalse=>cases hx
  rename_i hb
  cases hx
  refine h j rfl F O H σ _ a λv F' H' gr r=>?_
  cases r
  refine⟨j,rfl,hb.1,hb.2,k _ F' H' gr λi F2 O2 H2 sf k2=>⟨λhl=>?_,λx hx=>?_⟩⟩
  ·rw[length_map,length_range] at hl;exact hl
  ·obtain⟨h1,rfl⟩:=YM hx
   refine⟨h1,λv H3 yd=>?_⟩
   obtain⟨rfl,rfl⟩:=yd
   exact⟨F2,.refl k2,by show V.int (0+(i:Int))=V.int i;rw[Int.zero_add]⟩
def Av{α:Type}(xs:List α):List (Int×α):=((abg xs.length).map adi).zip xs
theorem YQ{α:Type}{xs:List α}{i:Nat}{x:Int×α}(h:(Av xs)[i]?=some x):x.1=i/\xs[i]?=some x.2:=by
 unfold Av at h
 rw[getElem?_zip_eq_some] at h
 exact⟨(YM h.1).2,h.2⟩
theorem zJc{α:Type}(xs:List α):(Av xs).length=xs.length:=by unfold Av;simp
theorem YS{mi:Option (List α)}(h:Ex B sl (dF n) te mi):Ei B sl n (Ak K (yJ te bh)) (mi.bind λxs=>some (Av xs)):=λxs hx F O H σ R a k=>by
 cases mi with
 |none=>cases hx
 |some zs =>
  cases(show some (Av zs)=some xs from hx)
  refine h zs rfl F O H σ _ a λv F' H' gr r=>?_
  obtain⟨p,vs,rfl,h1,h2⟩:=r
  refine⟨p,rfl,⟨vs,aO.of (yq gr.ok n p _ h1)⟩,k _ F' H' gr λi F2 O2 H2 sf k2=>?_⟩
  have hq:aO K H2 p vs:=aO.of (k2.fh _ _ (sf _ _ (by cases n with|true=>exact aQ _ _ h1|false=>exact h1)))
  refine⟨λhl=>⟨vs,hq,by rw[h2.len,<-zJc];exact hl⟩,λx hx=>?_⟩
  obtain⟨e1,e2⟩:=YQ hx
  obtain⟨w,hw,rw⟩:=h2.at2 e2
  refine⟨⟨vs,w,hq,hw⟩,λv H3 yd=>?_⟩
  obtain⟨t,x',rfl,ht,rfl,y⟩:=yd
  have:=(hw.symm.trans (y vs hq))
  cases this
  have g3:=bH.new k2 ht (.tup [.int i,w])
  refine⟨_,g3,t,.int i,w,rfl,?_,?_,Rp.mono (xT n (sf.trans g3.ff)) rw⟩
  ·exact KH k2 ht (dF n)
  ·rw[e1];rfl
def uB{α β:Type}(c:α->Option Bool)(f:α->Option β)(xs:List α):Option (List β):=if xs.length<cap then wI c f xs else none
theorem V3{α β:Type}(c:α->Option Bool)(f:α->Option β):∀(xs ys:List α),wI c f (xs++ys)=(wI c f xs).bind λa=>(wI c f ys).bind λb=>some (a++b)
 |[],ys=>by
  rw[nil_append]
  show wI c f ys=(wI c f ys).bind λb=>some ([]++b)
  cases wI c f ys<;>rfl
 |x::xs,ys=>by
  show(c x).bind _=((c x).bind _).bind _
  cases c x with
  |none=>rfl
  |some b =>
   cases b with
   |true =>
    show(f x).bind _=((f x).bind _).bind _
    cases f x with
    |none=>rfl
    |some y =>
     show(wI c f (xs++ys)).bind _=((wI c f xs).bind _).bind _
     rw[V3 c f xs ys]
     cases wI c f xs with
     |none=>rfl
     |some a =>
      show((wI c f ys).bind _).bind _=(wI c f ys).bind _
      cases wI c f ys<;>rfl
   |false=>exact V3 c f xs ys
theorem YT{α β:Type}(c:α->Option Bool)(f:α->Option β):∀{xs:List α}{ys:List β},wI c f xs=some ys->ys.length<=xs.length
 |[],ys,h=>by cases h;exact aa0 _
 |x::xs,ys,h=>by
  have h:((c x).bind λb=>if b=true then(f x).bind λy=>(wI c f xs).bind λys=>some (y::ys) else wI c f xs)=some ys:=h
  cases e:c x with
  |none=>rw[e] at h;cases h
  |some b =>
   rw[e] at h
   cases b with
   |true =>
    have h:((f x).bind λy=>(wI c f xs).bind λys=>some (y::ys))=some ys:=by simpa using h
    cases e2:f x with
    |none=>rw[e2] at h;cases h
    |some y =>
     rw[e2] at h
     cases e3:wI c f xs with
     |none=>rw[e3] at h;cases h
     |some zs =>
      rw[e3] at h
      cases h
      exact aci (YT c f e3)
   |false =>
    have h:wI c f xs=some ys:=by simpa using h
    exact Nat.le_succ_of_le (YT c f h)
theorem zOf{α β:Type}{c:α->Option Bool}{f:α->Option β}{xs:List α}{zs:List β}(i:Nat)(h:wI c f xs=some zs):∃ys,wI c f (xs.take i)=some ys:=by
 rw[<-take_append_drop i xs,V3] at h
 cases q:wI c f (xs.take i) with
 |none=>rw[q] at h;cases h
 |some o'=>exact⟨o',rfl⟩
theorem zOg{α β:Type}{c:α->Option Bool}{f:α->Option β}{xs:List α}{zs ys:List β}{x:α}(h:wI c f (xs.take (i+1))=some zs)(hy:wI c f (xs.take i)=some ys)(hx:xs[i]?=some x) :
  (c x=some false/\zs=ys)\/∃y,c x=some true/\f x=some y/\zs=ys++[y]:=by
 have e2:xs.take (i+1)=xs.take i++[x]:=by rw[take_add_one,hx]<;>rfl
 rw[e2,V3,hy] at h
 have h:(((c x).bind λb=>if b=true then(f x).bind λy=>some [y] else some []).bind λb=>some (ys++b))=some zs:=h
 cases e:c x with
 |none=>rw[e] at h;cases h
 |some b =>
  rw[e] at h
  cases b with
  |true =>
   have h:(((f x).bind λy=>some [y]).bind λb=>some (ys++b))=some zs:=by simpa using h
   cases e2:f x with
   |none=>rw[e2] at h;cases h
   |some y=>rw[e2] at h;cases h;exact .inr ⟨y,rfl,rfl,rfl⟩
  |false =>
   have h:some (ys++[])=some zs:=by simpa using h
   rw[append_nil] at h
   cases h
   exact .inl ⟨rfl,rfl⟩
abbrev Ry:Slot K->Slot K
 |.un=>.un
 |@Slot.fz _ n _ i a=>@Slot.fz _ n _ i a
 |@Slot.hs _ _ i a=>@Slot.hs _ _ i a
 |@Slot.nu _ _ i a=>@Slot.hs _ _ i a
 |@Slot.ow _ _ _ i xs=>@Slot.hs _ _ _ xs
 |@Slot.od _ _ _ _=>.un
theorem bH.lift(k:Ok B F O H)(g:bH B F H [] F' H'):bH B F H O F' H' :=
 ⟨g.ff,g.hh,⟨g.ok.fh,g.ok.h0,g.ok.fa,λx hx=>by
  obtain⟨a1,a2,a3⟩:=k.fo x hx
  exact⟨g.nw _ a1 (by rw[a3];intro z;cases z),a2,g.hh _ _ a3⟩,k.nd⟩,g.nw⟩
theorem Ok.nil(k:Ok B F O H):Ok B F [] H:=⟨k.fh,k.h0,k.fa,λx hx=>(by cases hx),(by simp)⟩
theorem ak.one(a:At B sl F O H σ)(L:Hp)(j:Nat)(hs:sl[j]?=some s):∀{sl':SL K}{σ':St},ak B F L H sl' σ' []->ak B F L H (Ry s::sl') ((σ[j]?).getD none::σ') []:=λ{sl' σ'} h=>by
 cases s with
 |un=>exact .un h
 |fz n b=>obtain⟨v,h1,h2⟩:=a.2.qJ hs;rw[h1];exact .fz h2 h
 |hs b=>obtain⟨v,h1,h2⟩:=a.2.Rv hs;rw[h1];exact .hs h2 h
 |nu b=>obtain⟨v,h1,h2⟩:=a.2.Ao hs;rw[h1];exact .hs (Rp.mono (aQ.trans lo_le) h2) h
 |ow n xs =>
  obtain⟨k,z0⟩:=a
  obtain⟨O1,O2,p,vs,rfl,h1,h2,_⟩:=z0.pA hs
  rw[h1]
  exact .hs ⟨p,vs,rfl,k.one.2.2,h2.imp λ_ _=>Rp.mono (yq k n)⟩ h
 |od kvs=>exact .un h
def KN(sl:SL K)(n:Nat)(ix:List Nat):SL K:=replicate n .un++ix.map λj=>Ry ((sl[j]?).getD .un)
theorem Eh(a:At B sl F O H σ)(L:Hp)(n:Nat):∀(ix:List Nat),(∀j∈ix,j<sl.length)->ak B F L H (KN sl n ix) (i_ σ n ix) []:=λix hix=>by
 unfold KN i_
 induction n with
 |zero =>
  show ak B F L H ([]++_) ([]++_) []
  rw[nil_append,nil_append]
  induction ix with
  |nil=>exact .nil
  |cons j ix ih =>
   rw[map_cons,map_cons]
   have hl:=hix j mem_cons_self
   have hj:sl[j]?=some sl[j]:=aaz hl
   have z:=ak.one a L j hj (ih λk hk=>hix k (mem_cons_of_mem _ hk))
   rw[show(sl[j]?).getD .un=sl[j] by rw[hj]<;>rfl]
   exact z
 |succ n ih=>exact .un ih
inductive rD:SL K->SL K->Prop
 |nil:rD [] []
 |eq {s:Slot K} {a b:SL K}:rD a b->rD (s::a) (s::b)
 |un {s:Slot K} {a b:SL K}:rD a b->rD (s::a) (.un::b)
theorem ak.le0(l:rD sl sl2):∀{σ:St},ak B F L H sl σ []->ak B F L H sl2 σ []:=by
 induction l with
 |nil=>intro σ h;exact h
 |eq _ ih =>
  intro σ h
  cases h with
  |un h=>exact .un (ih h)
  |fz r h=>exact .fz r (ih h)
  |hs r h=>exact .hs r (ih h)
  |nu r h=>exact .nu r (ih h)
 |un _ ih =>
  intro σ h
  cases h with
  |un h=>exact .un (ih h)
  |fz r h=>exact .un (ih h)
  |hs r h=>exact .un (ih h)
  |nu r h=>exact .un (ih h)
theorem vN{c:α->Option Bool}{f:α->Option β}{ix:List Nat}(hix:(ix.all λj=>decide (j<sl.length))=true)(hI:jM=KN sl no ix)(hi:Ei B sl n wi mi)(hg:Tg B jM n g Lx)(hc:∀x,Et B (Lx x) tc (c x))(he:∀x,Ex B (Lx x) md te (f x))(hle:∀x,rD (Lx x) jM) :
  Eo B sl md (Kv no ix wi g tc te) (mi.bind λxs=>uB c f xs):=λzs hz F O H σ Q a k=>by
 cases mi with
 |none=>cases hz
 |some xs =>
  have hz:uB c f xs=some zs:=hz
  unfold uB at hz
  split at hz
  case isFalse=>cases hz
  rename_i hcap
  have hcl:=yr hcap
  refine hi xs rfl F O H σ _ a λJ F' H' gr yl=>?_
  have a':=a.grow gr
  refine⟨λi m ys σ2 H2=>m=xs.length-i/\i<=xs.length/\∃(F2:Hp)(ws:List β),wI c f (xs.take i)=some ws/\bH B F' H' O F2 H2/\ak B F2 (lo F2 [] H2) H2 jM σ2 []/\A2 (rp K (reg B F2 H2 md)) ys ws,
   ⟨xs.length,rfl,abj _,F',[],rfl,.refl a'.1,?_,trivial⟩,?_⟩
  ·rw[hI]
   exact Eh a' _ no ix λj hj=>by simpa using(all_eq_true.mp hix) j hj
  rintro i m ys σ2 H2 ⟨rfl,hil,F2,ws,hw,g2,s2,r2⟩
  have hyl:ys.length<=xs.length:=by
   rw[r2.len]
   exact aa8 (YT c f hw) (by rw[length_take];omega)
  obtain⟨y1,y2⟩:=yl i F2 O H2 g2.ff g2.ok
  by_cases hlt:i<xs.length
  ·obtain⟨go,y3⟩:=y2 xs[i] (aaz hlt)
   obtain⟨ws',hw'⟩:=zOf (i+1) hz
   refine .inr ⟨go,by omega,λys σ2 H2=>∃(F2:Hp),bH B F' H' O F2 H2/\ak B F2 (lo F2 [] H2) H2 jM σ2 []/\A2 (rp K (reg B F2 H2 md)) ys ws',λys' σ' H' ⟨F3,z1,z2,z3⟩=>⟨xs.length-(i+1),by omega,rfl,hlt,F3,ws',hw',z1,z2,z3⟩,λv H3 yd=>?_⟩
   obtain⟨F3,g3,r3⟩:=y3 v H3 yd
   have g23:=g2.trans g3
   have Pk:At B jM F3 [] H3 σ2:=⟨g3.ok.nil,s2.mono g3.ff (YC ⟨g3.ff,g3.hh,g3.ok.nil,g3.nw⟩) g3.hh⟩
   refine hg v xs[i] F3 [] H3 σ2 _ Pk r3 λσ4 a4=>?_
   have back:∀{F5 H5:Hp},bH B F3 H3 [] F5 H5->bH B F' H' O F5 H5/\ak B F5 (lo F5 [] H5) H5 jM σ4 []:=λ{F5 H5} g5=>⟨g23.trans (bH.lift g3.ok g5),(a4.grow g5).2.le0 (hle xs[i])⟩
   rcases zOg hw' hw (aaz hlt) with⟨e1,rfl⟩|⟨y,e1,e2,rfl⟩
   ·refine hc xs[i] false e1 F3 [] H3 σ4 _ a4 λF5 H5 g5=>lU ?_
    obtain⟨z1,z2⟩:=back g5
    exact⟨F5,z1,z2,r2.imp λ_ _=>Rp.mono (xU (g3.trans (bH.lift g3.ok g5)) md)⟩
   ·refine hc xs[i] true e1 F3 [] H3 σ4 _ a4 λF5 H5 g5=>ig ?_
    refine he xs[i] y e2 F5 [] H5 σ4 _ (a4.grow g5) λw F6 H6 g6 r6=>?_
    obtain⟨z1,z2⟩:=back (g5.trans g6)
    exact⟨F6,z1,z2,(r2.imp λ_ _=>Rp.mono (xU (g3.trans (bH.lift g3.ok (g5.trans g6))) md)).snoc r6⟩
  ·have e:i=xs.length:=by omega
   subst e
   rw[take_length,hz] at hw
   cases hw
   exact .inl ⟨y1 (aa0 _),by omega,λp hp=>k p ys F2 H2 (gr.trans g2) hp r2⟩
abbrev isF:Slot K->Bool
 |@Slot.fz _ false _ _ _=>true
 |_=>false
theorem zEr{as:SL K}(k:Nat)(hf:as.all isF=true)(r:Ar F as vs):ak ⟨F,H⟩ F L' H (as++replicate k .un) (vs.map some++replicate k none) []:=by
 induction r with
 |nil =>
  show ak _ _ _ _ ([]++_) ([]++_) []
  rw[nil_append,nil_append]
  induction k with
  |zero=>exact .nil
  |succ k ih=>exact .un ih
 |@cons n _ _ _ _ _ _ r _ ih =>
  rw[all_cons,aa1] at hf
  cases n with
  |false=>exact .fz r (ih hf.2)
  |true=>exact absurd hf.1 (by simp)
theorem Ar.len(r:Ar F as vs):vs.length=as.length:=by
 induction r with
 |nil=>rfl
 |cons _ _ ih=>rw[length_cons,length_cons,ih]
theorem zTc{A:Type}{as:A->SL K}{f:A->Option β}{N:List Str}(hf:∀a,(as a).all isF=true)(hl:∀a,(as a).length=np)(hb:∀Fa a,SB ⟨Fa,H⟩ (as a++replicate (N.length-np) .un) t al (f a))(h:cN K al as f vs H Q E):t { nx:=λ_ H'=>Q .non H',rt:=Q } (L2.start N vs) H:=by
 obtain⟨a,b,Fa,s,hfa,r,q⟩:=h
 have e:L2.start N vs=vs.map some++replicate (N.length-np) none:=by
  unfold L2.start
  rw[r.len,hl]
 rw[e]
 refine hb Fa a b hfa Fa _ _ H ⟨Fa,[],.refl _,⟨s,.refl _,λb o h=>.inl h,λx hx=>(by cases hx),(by simp)⟩,zEr _ (hf a) r⟩ (λv H' z=>q v H' z.1 z.2)
theorem zVk{A:Type}{as:A->SL K}{f:A->Option β}(hl:∀a,(as a).length=np)(h:cN K al as f vs H Q E):vs.length=np:=by
 obtain⟨a,b,Fa,s,hfa,r,q⟩:=h
 rw[r.len,hl]
end
open PySem.SeqAt (EqAt RcAt RcNeAt)
class Eqv (K:PySem.W.Frag) (α:Type) [Rp K α] [DecidableEq α] where
 dep:Nat
 det:∀{H:Hp}{v:V}{a b:α},rp K H v a->rp K H v b->a=b
 Pn:∀{X:Cx}{pins:List (Addr×Obj)}{σ:St}{H:Hp}{s:Shared},Inv X pins σ H s->∀{A:Around},A.units+dep<cLine->∀{v w:V}{u u':Value}{a b:α},rp K H v a->rp K H w b->RelV v u->RelV w u'->EqAt A s u u' (decide (a=b))
 V4:∀{X:Cx}{pins:List (Addr×Obj)}{σ:St}{H:Hp}{s:Shared},Inv X pins σ H s->∀{A:Around},A.units+dep<cLine->∀{v w:V}{u u':Value}{a b:α},rp K H v a->rp K H w b->RelV v u->RelV w u'->RcAt A s u u' (decide (a=b))
 V5:∀{X:Cx}{pins:List (Addr×Obj)}{σ:St}{H:Hp}{s:Shared},Inv X pins σ H s->∀{A:Around},A.units+dep<cLine->∀{v w:V}{u u':Value}{a b:α},rp K H v a->rp K H w b->RelV v u->RelV w u'->RcNeAt A s u u' (!decide (a=b))
section
variable{K:PySem.W.Frag}
theorem p7{α:Type}[BEq α][LawfulBEq α][DecidableEq α](a b:α):(a==b)=decide (a=b):=by
 by_cases h:a=b
 ·subst h;simp
 ·simp[h]
instance:Eqv K Int where
 dep:=0
 det h1 h2:=by cases h1;cases h2;rfl
 Pn _ _ _ _ _ _ _ _ _ h1 h2 r1 r2:=by cases h1;cases h2;obtain⟨t,rfl⟩:=r1;obtain⟨t',rfl⟩:=r2;rw[<-p7];exact EqAt.int_int _ _ _ _
 V4 _ _ _ _ _ _ _ _ _ h1 h2 r1 r2:=by cases h1;cases h2;obtain⟨t,rfl⟩:=r1;obtain⟨t',rfl⟩:=r2;rw[<-p7];exact RcAt.int_int _ _ _ _
 V5 _ _ _ _ _ _ _ _ _ h1 h2 r1 r2:=by cases h1;cases h2;obtain⟨t,rfl⟩:=r1;obtain⟨t',rfl⟩:=r2;rw[<-p7];exact RcNeAt.int_int _ _ _ _
instance:Eqv K Str where
 dep:=0
 det h1 h2:=by cases h1;cases h2;rfl
 Pn _ _ _ _ _ _ _ _ _ h1 h2 r1 r2:=by cases h1;cases h2;obtain⟨t,rfl⟩:=r1;obtain⟨t',rfl⟩:=r2;rw[<-p7];exact EqAt.str_str _ _ _ _
 V4 _ _ _ _ _ _ _ _ _ h1 h2 r1 r2:=by cases h1;cases h2;obtain⟨t,rfl⟩:=r1;obtain⟨t',rfl⟩:=r2;rw[<-p7];exact RcAt.str_str _ _ _ _
 V5 _ _ _ _ _ _ _ _ _ h1 h2 r1 r2:=by cases h1;cases h2;obtain⟨t,rfl⟩:=r1;obtain⟨t',rfl⟩:=r2;rw[<-p7];exact RcNeAt.str_str _ _ _ _
theorem A2.det{α β:Type}{R:α->β->Prop}(h:∀x y z,R x y->R x z->y=z):∀{xs:List α}{ys zs:List β},A2 R xs ys->A2 R xs zs->ys=zs
 |[],[],[],_,_=>rfl
 |_::_,_::_,_::_,h1,h2=>by rw[h _ _ _ h1.1 h2.1,A2.det h h1.2 h2.2]
 |[],_::_,_,h1,_=>h1.elim
 |[],[],_::_,_,h2=>h2.elim
 |_::_,[],_,h1,_=>h1.elim
 |_::_,_::_,[],_,h2=>h2.elim
theorem V6{α:Type}[DecidableEq α]:∀{xs ys:List α},xs.length=ys.length->((abg xs.length).all λj=>decide (xs[j]?=ys[j]?))=decide (xs=ys)
 |[],[],_=>by simp
 |x::xs,y::ys,h=>by
  have ih:=V6 (xs:=xs) (ys:=ys) (by simpa using h)
  rw[length_cons,range_succ_eq_map,all_cons,List.all_map]
  have e:((λj=>decide ((x::xs)[j]?=(y::ys)[j]?))∘Nat.succ)=λj=>decide (xs[j]?=ys[j]?):=by
   funext j
   simp
  rw[e,ih]
  by_cases h1:x=y<;>by_cases h2:xs=ys<;>simp[h1,h2]
 |[],_::_,h=>by simp at h
 |_::_,[],h=>by simp at h
theorem Pq{α:Type}[Rp K α]{xs:List α}(r:Vals vs us)(h:A2 (rp K H) vs xs)(j:Nat)(hj:j<us.toArray.size):∃v x,xs[j]?=some x/\rp K H v x/\RelV v us.toArray[j]:=by
 have l1:j<vs.length:=by rw[r.length];simpa using hj
 obtain⟨u,hu,ru⟩:=r.get (aaz l1)
 obtain⟨x,hx,rx⟩:=h.at1 (aaz l1)
 refine⟨vs[j],x,hx,rx,?_⟩
 have e1:us.toArray[j]=u:=by
  have:us[j]?=some u:=hu
  rw[aaz (by simpa using hj)] at this
  simpa using this
 rw[e1]
 exact ru
theorem YW{A:Around}:A.in1.units=A.units+1:=rfl
instance{α:Type}[Rp K α][DecidableEq α][Eqv K α]:Eqv K (List α) where
 dep:=Eqv.dep K α+1
 det {H v a b} h1 h2:=by
  obtain⟨p,vs,rfl,h1,r1⟩:=h1
  obtain⟨p',vs',e,h2,r2⟩:=h2
  cases e
  cases h1.symm.trans h2
  exact A2.det (R:=rp K H) (λ_ _ _ z1 z2=>Eqv.det (K:=K) z1 z2) r1 r2
 V4 {X pins σ H s} I {A} hu {v w u u' a b} h1 h2 q1 q2:=by
  obtain⟨p,vs,rfl,h1,r1⟩:=h1
  obtain⟨p',ws,rfl,h2,r2⟩:=h2
  cases q1;cases q2
  obtain⟨us,s1,p1,_⟩:=I.list (aO.of h1)
  obtain⟨us',s2,p2,_⟩:=I.list (aO.of h2)
  have n1:us.toArray.size=a.length:=by rw[size_toArray,<-r1.len];exact s1.length.symm
  have n2:us'.toArray.size=b.length:=by rw[size_toArray,<-r2.len];exact s2.length.symm
  by_cases hl:a.length=b.length
  ·have z:=RcAt.lists (e:=λj=>decide (a[j]?=b[j]?)) p1.isList p2.isList (by rw[n1,n2];exact hl) (aa7 (acu _ _) hu) (λj h1 h2=>by
    obtain⟨v,x,e1,e2,e3⟩:=Pq s1 r1 j h1
    obtain⟨w,y,f1,f2,f3⟩:=Pq s2 r2 j h2
    rw[e1,f1]
    have z:=Eqv.Pn (K:=K) I (A:=A.in1) (by rw[YW];omega) e2 f2 e3 f3
    simpa using z)
   rw[n1,V6 hl] at z
   exact z
  ·rw[show decide (a=b)=false by simp;intro e;exact hl (by rw[e])]
   exact RcAt.lists_lengths p1.isList p2.isList (by rw[n1,n2];exact bne_iff_ne.mpr hl) (aa7 (acu _ _) hu)
 V5 {X pins σ H s} I {A} hu {v w u u' a b} h1 h2 q1 q2:=by
  obtain⟨p,vs,rfl,h1,r1⟩:=h1
  obtain⟨p',ws,rfl,h2,r2⟩:=h2
  cases q1;cases q2
  obtain⟨us,s1,p1,_⟩:=I.list (aO.of h1)
  obtain⟨us',s2,p2,_⟩:=I.list (aO.of h2)
  have n1:us.toArray.size=a.length:=by rw[size_toArray,<-r1.len];exact s1.length.symm
  have n2:us'.toArray.size=b.length:=by rw[size_toArray,<-r2.len];exact s2.length.symm
  by_cases hl:a.length=b.length
  ·have z:=RcNeAt.lists (e:=λj=>decide (a[j]?=b[j]?)) p1.isList p2.isList (by rw[n1,n2];exact hl) (aa7 (acu _ _) hu) (λj h1 h2=>by
    obtain⟨v,x,e1,e2,e3⟩:=Pq s1 r1 j h1
    obtain⟨w,y,f1,f2,f3⟩:=Pq s2 r2 j h2
    rw[e1,f1]
    have z:=Eqv.Pn (K:=K) I (A:=A.in1) (by rw[YW];omega) e2 f2 e3 f3
    simpa using z)
   rw[n1,V6 hl] at z
   exact z
  ·rw[show decide (a=b)=false by simp;intro e;exact hl (by rw[e])]
   exact RcNeAt.lists_lengths p1.isList p2.isList (by rw[n1,n2];exact bne_iff_ne.mpr hl) (aa7 (acu _ _) hu)
 Pn {X pins σ H s} I {A} hu {v w u u' a b} h1 h2 q1 q2:=by
  obtain⟨p,vs,rfl,h1,r1⟩:=h1
  obtain⟨p',ws,rfl,h2,r2⟩:=h2
  cases q1;cases q2
  by_cases hp:p=p'
  ·subst hp
   cases h1.symm.trans h2
   rw[show a=b from A2.det (R:=rp K H) (λ_ _ _ z1 z2=>Eqv.det (K:=K) z1 z2) r1 r2]
   simp
   exact EqAt.same _
  ·refine EqAt.of_refs hp ?_
   obtain⟨us,s1,p1,_⟩:=I.list (aO.of h1)
   obtain⟨us',s2,p2,_⟩:=I.list (aO.of h2)
   have n1:us.toArray.size=a.length:=by rw[size_toArray,<-r1.len];exact s1.length.symm
   have n2:us'.toArray.size=b.length:=by rw[size_toArray,<-r2.len];exact s2.length.symm
   by_cases hl:a.length=b.length
   ·have z:=RcAt.lists (e:=λj=>decide (a[j]?=b[j]?)) p1.isList p2.isList (by rw[n1,n2];exact hl) (aa7 (acu _ _) hu) (λj h1 h2=>by
     obtain⟨v,x,e1,e2,e3⟩:=Pq s1 r1 j h1
     obtain⟨w,y,f1,f2,f3⟩:=Pq s2 r2 j h2
     rw[e1,f1]
     have z:=Eqv.Pn (K:=K) I (A:=A.in1) (by rw[YW];omega) e2 f2 e3 f3
     simpa using z)
    rw[n1,V6 hl] at z
    exact z
   ·rw[show decide (a=b)=false by simp;intro e;exact hl (by rw[e])]
    exact RcAt.lists_lengths p1.isList p2.isList (by rw[n1,n2];exact bne_iff_ne.mpr hl) (aa7 (acu _ _) hu)
section
variable{α β:Type}[Rp K α][DecidableEq α][Eqv K α][Rp K β][DecidableEq β][Eqv K β]{X:Cx}{pins:List (Addr×Obj)}{σ:St}{H:Hp}{s:Shared}{A:Around}{a b:α×β}{p p':Addr}{v1 v2 w1 w2:V}
end
def Ej(K:PySem.W.Frag)(α:Type)[Rp K α][DecidableEq α](neg:Bool):R2:=λx y H Q=>∃a b:α,rp K H x a/\rp K H y b/\Q (.bl (if neg=true then !decide (a=b) else decide (a=b))) H
theorem Cu(K:PySem.W.Frag)(α:Type)[Rp K α][DecidableEq α][Eqv K α]{X:Cx}(hr:bQ k X.A)(hd:Eqv.dep K α<=64:=by exact Nat.le_of_ble_eq_true rfl):lH X (compareOp .Eq) (Ej K α false):=by
 intro pins s σ H x y v u Q I rx ry h
 obtain⟨a,b,h1,h2,q⟩:=h
 exact Eqv.V4 (K:=K) I (A:=X.A) (by have:=hr.units;omega) h1 h2 rx ry _ _ _ _ ⟨.bl (decide (a=b)),H,I,rfl,q⟩
theorem RB(K:PySem.W.Frag)(α:Type)[Rp K α][DecidableEq α][Eqv K α]{X:Cx}(hr:bQ k X.A)(hd:Eqv.dep K α<=64:=by exact Nat.le_of_ble_eq_true rfl):lH X (compareOp .NotEq) (Ej K α true):=by
 intro pins s σ H x y v u Q I rx ry h
 obtain⟨a,b,h1,h2,q⟩:=h
 exact Eqv.V5 (K:=K) I (A:=X.A) (by have:=hr.units;omega) h1 h2 rx ry _ _ _ _ ⟨.bl (!decide (a=b)),H,I,rfl,q⟩
variable{B:Bs}{sl:SL K}{md md1:Md}{α β:Type}[Rp K α][Rp K β]{t1 t2 t:TE}
theorem Cv[DecidableEq α]{m1 m2:Option α}(h1:Ex B sl .hp t1 m1)(h2:Ex B sl .hp t2 m2):Ex B sl md (jR (Ej K α false) t1 t2) (m1.bind λa=>m2.bind λb=>some (decide (a=b))) :=
 Eb (f:=λa b=>some (decide (a=b))) (λa b c v w H Q e r1 r2 q=>by cases e;exact⟨a,b,r1,r2,q⟩) h1 h2
theorem RD[DecidableEq α]{m1 m2:Option α}(h1:Ex B sl .hp t1 m1)(h2:Ex B sl .hp t2 m2):Ex B sl md (jR (Ej K α true) t1 t2) (m1.bind λa=>m2.bind λb=>some (!decide (a=b))) :=
 Eb (f:=λa b=>some (!decide (a=b))) (λa b c v w H Q e r1 r2 q=>by cases e;exact⟨a,b,r1,r2,q⟩) h1 h2
section
variable{m1 m2:Option Int}
theorem V7{g:Int->Int->V}{f:Int->Int->α}[Sc K α](hg:∀i j,g i j=Sc.val K (f i j))(h1:Ex B sl .hp t1 m1)(h2:Ex B sl .hp t2 m2):Ex B sl md (jR (rN g) t1 t2) (m1.bind λa=>m2.bind λb=>some (f a b)) :=
 Eb (f:=λa b=>some (f a b)) (λa b c v w H Q e r1 r2 q=>by cases e;cases r1;cases r2;exact⟨a,b,rfl,rfl,by rw[hg];exact q⟩) h1 h2
theorem RG(h1:Ex B sl .hp t1 m1)(h2:Ex B sl .hp t2 m2):Ex B sl md (jR (rN λi j=>.int (i+j)) t1 t2) (m1.bind λa=>m2.bind λb=>some (a+b)):=V7 (λ_ _=>rfl) h1 h2
theorem HX(h1:Ex B sl .hp t1 m1)(h2:Ex B sl .hp t2 m2):Ex B sl md (jR (rN λi j=>.bl (decide (i<j))) t1 t2) (m1.bind λa=>m2.bind λb=>some (decide (a<b))):=V7 (λ_ _=>rfl) h1 h2
theorem Aw(h1:Ex B sl .hp t1 m1)(h2:Ex B sl .hp t2 m2):Ex B sl md (jR (rN λi j=>.bl (decide (j<i))) t1 t2) (m1.bind λa=>m2.bind λb=>some (decide (b<a))):=V7 (λ_ _=>rfl) h1 h2
def gR(a b:Int):Option Int:=if 0<b then some (a%b) else none
def kJ(a b:Int):Option Int:=if 0<b/\b<1073741824 then some (a/b) else none
theorem Ek(h1:Ex B sl .hp t1 m1)(h2:Ex B sl .hp t2 m2):Ex B sl md (jR (rI (λ_ j=>0<j) λi j=>.int (i%j)) t1 t2) (m1.bind λa=>m2.bind λb=>gR a b) :=
 Eb (f:=gR) (λa b c v w H Q e r1 r2 q=>by
  unfold gR at e
  split at e
  case isFalse=>cases e
  rename_i hc
  cases e;cases r1;cases r2
  exact⟨a,b,rfl,rfl,hc,q⟩) h1 h2
theorem Pr(h1:Ex B sl .hp t1 m1)(h2:Ex B sl .hp t2 m2):Ex B sl md (jR (rI J6 λi j=>.int (i/j)) t1 t2) (m1.bind λa=>m2.bind λb=>kJ a b) :=
 Eb (f:=kJ) (λa b c v w H Q e r1 r2 q=>by
  unfold kJ at e
  split at e
  case isFalse=>cases e
  rename_i hc
  cases e;cases r1;cases r2
  exact⟨a,b,rfl,rfl,hc,q⟩) h1 h2
end
theorem A2.cj(h:A2 R vs xs)(e:L2.cj xs i=some a):∃v,L2.cj vs i=some v/\R v a:=by
 unfold L2.cj at e ⊢
 rw[h.len]
 cases q:tE xs.length i with
 |none=>rw[q] at e;cases e
 |some j=>rw[q] at e;exact h.at2 e
theorem wO{m1:Option (List α)}{m2:Option Int}(h1:Ex B sl md t1 m1)(h2:Ex B sl .hp t2 m2):Ex B sl md (jR (rQ K) t1 t2) (m1.bind λxs=>m2.bind λi=>L2.cj xs i):=λc hc F O H σ Q s k=>by
 obtain⟨xs,i,e1,e2,e3⟩:=pZ hc
 refine h1 xs e1 F O H σ _ s λv F' H' g r1=>?_
 refine h2 i e2 F' O H' σ _ (s.grow g) λw F2 H2 g2 r2=>?_
 cases r2
 obtain⟨p,vs,rfl,z1,z2⟩:=r1
 obtain⟨u,y1,y2⟩:=z2.cj e3
 have hle:Same (reg B F' H' md) H2:=(match md with
  |.nw=>aQ.trans g.ok.fh
  |.fz=>g.ok.fh
  |.hp=>.refl _:Same (reg B F' H' md) H').trans g2.hh
 exact⟨p,vs,i,u,rfl,rfl,aO.of (hle _ _ z1),y1,k u F2 H2 (g.trans g2) (Rp.mono (xU g2 md) y2)⟩
theorem KQ{n:Bool}{xs:List α}{m2:Option Int}(i:Nat)(hs:sl[i]?=some (.ow n xs))(h2:Ex B sl .hp t2 m2):Ex B sl (dF n) (jR (rQ K) (bT i) t2) (m2.bind λi=>L2.cj xs i):=λc hc F O H σ Q s k=>by
 cases m2 with
 |none=>cases hc
 |some j =>
  have hc:L2.cj xs j=some c:=hc
  obtain⟨O1,O2,p,vs,rfl,y1,y2,_⟩:=s.2.pA hs
  refine⟨_,y1,?_⟩
  refine h2 j rfl F _ H σ _ s λw F2 H2 g2 r2=>?_
  cases r2
  obtain⟨u,z1,z2⟩:=y2.cj hc
  exact⟨p,vs,j,u,rfl,rfl,aO.of (g2.hh _ _ s.1.one.2.2),z1,k u F2 H2 g2 (Rp.mono (xU g2 (dF n)) z2)⟩
abbrev KR(K:PySem.W.Frag):List V->Hp->VK->Prop:=λxs H Q=>∃p ys,xs=[.ref p]/\(aO K H p ys\/cu K H p ys)/\Q (.int ys.length) H
theorem tM{m:Option (List α)}(h:Ex B sl .hp t m):Ex B sl md (tu (KR K) (yJ t bh)) (m.bind λxs=>some (xs.length:Int)):=λc hc F O H σ Q s k=>by
 cases m with
 |none=>cases hc
 |some xs =>
  cases(show some (xs.length:Int)=some c from hc)
  refine h xs rfl F O H σ _ s λv F' H' g r1=>?_
  obtain⟨p,vs,rfl,z1,z2⟩:=r1
  exact⟨p,vs,rfl,.inl (aO.of z1),k _ F' H' g (by show V.int vs.length=V.int xs.length;rw[z2.len])⟩
abbrev HY(K:PySem.W.Frag):List V->Hp->VK->Prop:=λxs H Q=>∃p ys,xs=[V.ref p]/\(aO K H p ys\/cu K H p ys)/\∀l,H l=none->Q (.ref l) (upd H l (.lst ys))
theorem A2.sc{F F':Hp}[Sc K α]{vs:List V}{xs:List α}(h:A2 (rp K F) vs xs):A2 (rp K F') vs xs:=h.imp λ_ _=>Am
theorem RJ[Sc K α]{m:Option (List α)}(h:Ex B sl .hp t m):Eo B sl md (tu (HY K) (yJ t bh)) m:=λc hc F O H σ Q s k=>by
 refine h c hc F O H σ _ s λv F' H' g r1=>?_
 obtain⟨p,vs,rfl,z1,z2⟩:=r1
 exact⟨p,vs,rfl,.inl (aO.of z1),λl hl=>k l vs F' H' g hl z2.sc⟩
class Fl (K:PySem.W.Frag) (α:Type) [Rp K α] [Sc K α] [DecidableEq α]:Prop where
 flat:∀a:α,Ck (Sc.val K a)=true
 eq:∀a b:α,Cm (Sc.val K a) (Sc.val K b)=decide (a=b)
instance:Fl K Int:=⟨λ_=>rfl,λa b=>by show(a==b)=_;exact p7 a b⟩
instance:Fl K Str:=⟨λ_=>rfl,λa b=>by show(a==b)=_;exact p7 a b⟩
instance:Fl K Bool:=⟨λ_=>rfl,λa b=>by show(a==b)=_;exact p7 a b⟩
theorem A2.vals[Sc K α]:∀{vs:List V}{xs:List α},A2 (rp K F) vs xs->vs=xs.map (Sc.val K)
 |[],[],_=>rfl
 |_::_,_::_,h=>by rw[map_cons,Sc.is.mp h.1,A2.vals h.2]
 |[],_::_,h=>h.elim
 |_::_,[],h=>h.elim
theorem YX[Sc K α][DecidableEq α][Fl K α](a:α):∀xs:List α,inV (Sc.val K a) (xs.map (Sc.val K))=decide (a∈xs)
 |[]=>by simp[inV]
 |x::xs=>by
  have ih:=YX a xs
  unfold inV at ih ⊢
  rw[map_cons,any_cons,ih,Fl.eq]
  by_cases h1:x=a
  ·subst h1;simp
  ·by_cases h2:a∈xs<;>simp[h1,h2,ac2 h1]
theorem zRd[Sc K α][DecidableEq α][Fl K α](xs:List α):(xs.map (Sc.val K)).all Ck=true:=by
 rw[List.all_map,all_eq_true]
 intro x _
 exact Fl.flat x
theorem RK[Sc K α][DecidableEq α][Fl K α]{m1:Option α}{m2:Option (List α)}(h1:Ex B sl .hp t1 m1)(h2:Ex B sl .hp t2 m2):Ex B sl md (jR (VB K false) t1 t2) (m1.bind λa=>m2.bind λxs=>some (decide (a∈xs))) :=
 Eb (f:=λa xs=>some (decide (a∈xs))) (λa b c v w H Q e r1 r2 q=>by
  cases e
  obtain⟨p,vs,rfl,z1,z2⟩:=r2
  have ev:=Sc.is.mp r1
  have es:=z2.vals
  subst ev es
  refine⟨p,_,rfl,.inl (aO.of z1),Fl.flat a,zRd b,?_⟩
  have:=YX (K:=K) a b
  simp only[aa9,if_false]
  rw[this]
  exact q) h1 h2
theorem V8{m:Option (Option α)}(h:Ex B sl .hp t m):Ex B sl md (QB t) (m.bind λa=>some a.isNone):=λc hc F O H σ Q s k=>by
 cases m with
 |none=>cases hc
 |some a =>
  cases(show some a.isNone=some c from hc)
  refine h a rfl F O H σ _ s λv F' H' g r1=>?_
  cases a with
  |none=>cases r1;exact k _ F' H' g rfl
  |some x=>rw[decide_eq_false r1.1];exact k _ F' H' g rfl
theorem Em{m:Option (Option α)}(h:Ex B sl .hp t m):Ex B sl md (Hs t) (m.bind λa=>some a.isSome):=λc hc F O H σ Q s k=>by
 cases m with
 |none=>cases hc
 |some a =>
  cases(show some a.isSome=some c from hc)
  refine h a rfl F O H σ _ s λv F' H' g r1=>?_
  cases a with
  |none=>cases r1;exact k _ F' H' g rfl
  |some x=>rw[decide_eq_false r1.1];exact k _ F' H' g rfl
theorem YZ{m:Option (Option α)}(h:Ex B sl md t m):Ex B sl md t (m.bind λa=>a):=λc hc F O H σ Q s k=>by
 cases m with
 |none=>cases hc
 |some a =>
  cases a with
  |none=>cases hc
  |some x =>
   have e:x=c:=aa2 hc
   subst e
   exact h (some x) rfl F O H σ _ s λv F' H' g r1=>k v F' H' g r1.2
class Ty (K:PySem.W.Frag) (α:Type) [Rp K α] where
 ty:Value
 is:∀{H:Hp}{v:V}{a:α},rp K H v a->jT K H v ty
instance:Ty K Int:=⟨.type "int",λh=>by cases h;exact .int _⟩
instance:Ty K Bool:=⟨.type "bool",λh=>by cases h;exact .bl _⟩
instance:Ty K Str:=⟨.type "str",λh=>by cases h;exact .str _⟩
instance:Ty K (List α):=⟨.type "list",λ⟨p,vs,e,h,_⟩=>by rw[e];exact .lst h⟩
instance:Ty K (α×β):=⟨.type "tuple",λ⟨p,_,_,e,h,_⟩=>by rw[e];exact .tup h⟩
theorem RM[Ty K α]{c:Value}{y:V}{b:Bool}{m:Option α}(hb:kitOne K (Ty.ty K α) c=some b)(hy:RelV y c)(h:Ex B sl .hp t m):Ex B sl md (tu (D_ K c) (yJ t (yJ (tC y) bh))) (m.bind λ_=>some b):=λd hd F O H σ Q s k=>by
 cases m with
 |none=>cases hd
 |some a =>
  cases(show some b=some d from hd)
  refine h a rfl F O H σ _ s λv F' H' g r1=>?_
  exact⟨v,y,_,b,rfl,hy,Ty.is r1,hb,k _ F' H' g rfl⟩
end
def src(xss:List LI)(j:Nat):LI:=((abg xss.length).filter λk=>decide ((j:Int)∈xss.getD k [])).map adi
theorem jr{α:Type}{p q:α->Bool}:∀{l:List α},(∀x∈l,p x=q x)->l.filter p=l.filter q
 |[],_=>rfl
 |a::l,h=>by
  rw[filter_cons,filter_cons,h a mem_cons_self,jr λx hx=>h x (mem_cons_of_mem _ hx)]
theorem zTa(xss:List LI)(xs:LI)(j:Nat):src (xss++[xs]) j=src xss j++(if(j:Int)∈xs then[(xss.length:Int)] else[]):=by
 unfold src
 rw[length_append,length_singleton,List.range_succ,List.filter_append,map_append]
 congr 1
 ·congr 1
  refine jr λk hk=>?_
  have hk':k<xss.length:=mem_range.mp hk
  rw[getD_eq_getElem?_getD,getD_eq_getElem?_getD,getElem?_append_left hk']
 ·rw[filter_cons,List.filter_nil,getD_eq_getElem?_getD,getElem?_append_right (aa0 _),Nat.sub_self]
  by_cases h:(j:Int)∈xs
  ·simp[h]
  ·simp[h]
theorem zS9{xss:List LI}{i:Nat}{xs:LI}(h:xss[i]?=some xs)(j:Nat):src (xss.take (i+1)) j=src (xss.take i) j++(if(j:Int)∈xs then[(i:Int)] else[]):=by
 have hi:i<xss.length:=(abb.mp h).1
 rw[take_add_one,h]
 have e:(some xs:Option LI).toList=[xs]:=rfl
 rw[e,zTa,length_take,Nat.min_eq_left (acf hi)]
theorem Ep(xss:List LI)(j:Nat):(src xss j).length<=xss.length:=by
 unfold src
 rw[length_map]
 exact aa8 (length_filter_le _ _) (by rw[length_range];exact aa0 _)
theorem int_at{ns:LI}{i:Nat}{y:V}(h:(ns.map V.int)[i]?=some y):∃z,y=.int z/\ns[i]?=some z:=by
 rw[getElem?_map] at h
 cases e:ns[i]? with
 |none=>rw[e] at h;cases h
 |some z=>rw[e] at h;exact⟨z,(aa2 h).symm,rfl⟩
theorem KY{bs:List Addr}{i:Nat}{y:V}(h:(bs.map V.ref)[i]?=some y):∃b,y=.ref b/\bs[i]?=some b:=by
 rw[getElem?_map] at h
 cases e:bs[i]? with
 |none=>rw[e] at h;cases h
 |some z=>rw[e] at h;exact⟨z,(aa2 h).symm,rfl⟩
theorem Er{bs:List Addr}{i:Nat}{b:Addr}(h:bs[i]?=some b):(bs.map V.ref)[i]?=some (.ref b):=by rw[getElem?_map,h]<;>rfl
theorem yY{α:Type}{xs:List α}{x:α}(h:xs[i]?=some x):i<xs.length:=(abb.mp h).1
theorem zQx{i:Nat}(h:i<1920):((i:Int)).natAbs.log2<1920:=by
 rw[Int.natAbs_natCast]
 exact aa7 (Nat.log2_le_self i) h
theorem zGi{ns:LI}(nd:ns.Nodup)(h:ns[i]?=some z):¬z∈ns.take i:=λhz=>by
 obtain⟨j,hj⟩:=mem_iff_getElem?.mp hz
 have hji:j<i:=by
  have:=yY hj
  rw[length_take] at this
  omega
 rw[getElem?_take_of_lt hji] at hj
 have hi:=yY h
 have hjl:=yY hj
 rw[aaz hi] at h
 rw[aaz hjl] at hj
 have e:ns[j]=ns[i]:=(aa2 hj).trans (aa2 h).symm
 have:=(getElem_inj nd).mp e
 omega
theorem uH{α:Type}{ns:List α}{z x:α}(h:ns[i]?=some z):x∈ns.take (i+1)↔x∈ns.take i\/x=z:=by
 rw[take_add_one,h]
 simp
def qK(K:PySem.W.Frag)(H:Hp)(bs:List Addr)(xss:List LI):Prop:=bs.length=xss.length/\∀(i:Nat)(b:Addr),bs[i]?=some b->∃xs:LI,xss[i]?=some xs/\aO K H b (xs.map V.int)
theorem qK.same(r:qK K H bs xss)(s:Same H H'):qK K H' bs xss:=⟨r.1,λi b h=>let⟨xs,h1,h2⟩:=r.2 i b h;⟨xs,h1,s.seq h2⟩⟩
def V9(n:Nat)(xss:List LI):Prop:=xss.length=n/\∀xs∈xss,xs≠[]/\xs.Nodup/\xs.length<=100/\∀z∈xs,0<=z/\z<(n:Int)
def qL(H:Hp)(cs:List Addr)(row:Nat->LI):Prop:=∀(j:Nat)(c:Addr),cs[j]?=some c->H c=some (.lst ((row j).map V.int))
structure Bl(K:PySem.W.Frag)(mg:Str->Option Value):Prop where
 len:mg "len" = none
 range:mg "range" = none
 p8:mg "isinstance" = none
 int:mg "int" = none
 bool:mg "bool" = none
 list:mg "list" = none
 enum:mg "enumerate" = none
 ii:kitOne K (.type "int") (.type "int")=some true
 ib:kitOne K (.type "int") (.type "bool")=some false
 ll:kitOne K (.type "list") (.type "list")=some true
theorem RN:kitOne K (.type "int") (.type "int")=some true:=rfl
theorem RP:kitOne K (.type "list") (.type "list")=some true:=rfl
theorem RQ:kitOne K (.type "int") (.type "bool")=some false:=by
 first|rfl|(unfold kitOne kitCls;decide +kernel)
theorem vX:bootBuiltins "isinstance" = some (.builtin "isinstance"):=by decide +kernel
theorem zWe:bootBuiltins "int" = some (.type "int"):=by decide +kernel
theorem Es:bootBuiltins "bool" = some (.type "bool"):=by decide +kernel
theorem KZ:bootBuiltins "list" = some (.type "list"):=by decide +kernel
structure News(H H':Hp)(cs:List Addr)(xss:List (List V)):Prop where
 len:cs.length=xss.length
 at_:∀(i:Nat)(c:Addr),cs[i]?=some c->∃xs,xss[i]?=some xs/\H' c=some (.lst xs)
 new:∀c∈cs,H c=none
 nd:cs.Nodup
theorem News.nil:News H H' [] []:=⟨rfl,λi c h=>(by simp at h),λc h=>(by cases h),nodup_nil⟩
theorem News.snoc(n:News H H1 cs xss)(s:Same H H1)(h:H1 l=none):News H (upd H1 l (.lst xs)) (cs++[l]) (xss++[xs]):=by
 have hl:∀c∈cs,c≠l:=λc hc e=>by
  obtain⟨i,hi⟩:=mem_iff_getElem?.mp hc
  obtain⟨ys,_,q⟩:=n.at_ i c hi
  rw[e,h] at q
  cases q
 refine⟨by rw[length_append,length_append,n.len]<;>rfl,λi c hc=>?_,λc hc=>?_,?_⟩
 ·by_cases hi:i<cs.length
  ·rw[getElem?_append_left hi] at hc
   obtain⟨ys,h1,h2⟩:=n.at_ i c hc
   refine⟨ys,?_,?_⟩
   ·rw[getElem?_append_left (by rw[<-n.len];exact hi)];exact h1
   ·rw[zP (hl c (mem_of_getElem? hc))];exact h2
  ·rw[getElem?_append_right (by omega)] at hc
   have hi2:i-cs.length=0:=by
    have:=yY hc
    simp at this
    omega
   rw[hi2] at hc
   have e:l=c:=aa2 hc
   subst e
   refine⟨xs,?_,zJ⟩
   rw[getElem?_append_right (by rw[<-n.len];omega),<-n.len,hi2]<;>rfl
 ·rcases mem_append.mp hc with hc|hc
  ·exact n.new c hc
  ·rw[mem_singleton.mp hc];exact s.free h
 ·rw[nodup_append]
  refine⟨n.nd,by simp,λa ha b hb e=>?_⟩
  rw[mem_singleton.mp hb] at e
  exact hl a ha e
theorem News.RT(n:News H H' cs xss)(h:H' r=none):r∉cs:=λhc=>by
 obtain⟨i,hi⟩:=mem_iff_getElem?.mp hc
 obtain⟨ys,_,q⟩:=n.at_ i r hi
 rw[h] at q
 cases q
structure aF(C:Addr) where
 steps:List LI
 marks:List (Str×LI)
 fair:List LI
 sources:List LI
def Y0:List Str:=["many","next_of","before","marked","fair_at","names_at"]
def srcs(xss:List LI):List LI:=(abg xss.length).map (src xss)
def hid(H:Hp)(p:Addr):Hp:=λb=>if b=p then none else H b
section
variable{K:PySem.W.Frag}{C:Addr}
instance:Rp K (aF C):=⟨λF v m=>∃p dx fs vS vM vF vB,v=.ref p/\F p=some (.ins C dx fs)/\fs.lookup ("steps":Str)=some vS/\rp K F vS m.steps/\fs.lookup ("marks":Str)=some vM/\rp K F vM m.marks/\fs.lookup ("fair":Str)=some vF/\rp K F vF m.fair /\
 fs.lookup ("sources":Str)=some vB/\rp K F vB m.sources/\∀g∈Y0,fs.lookup g=none,
 λs ⟨p,dx,fs,vS,vM,vF,vB,h1,h2,h3,h4,h5,h6,h7,h8,h9,h10,h11⟩=>⟨p,dx,fs,vS,vM,vF,vB,h1,s _ _ h2,h3,Rp.mono s h4,h5,Rp.mono s h6,h7,Rp.mono s h8,h9,Rp.mono s h10,h11⟩⟩
instance:Nn K (aF C):=⟨λ⟨_,_,_,_,_,_,_,h,_⟩=>by rw[h];intro e;cases e⟩
theorem H_(ns:LI):A2 (rp K F) (ns.map V.int) ns:=A2.of_map (R:=rp K F) (f:=V.int) (λ_=>rfl) ns
theorem zSi:∀{cs:List Addr}{xss:List LI},cs.length=xss.length->(∀(i:Nat)(c:Addr),cs[i]?=some c->∃xs,xss[i]?=some xs/\F c=some (.lst (xs.map V.int)))->A2 (rp K F) (cs.map V.ref) xss
 |[],[],_,_=>trivial
 |c::cs,xs::xss,hl,h=>by
  obtain⟨ys,e1,e2⟩:=h 0 c rfl
  cases e1
  exact⟨⟨c,_,rfl,e2,H_ _⟩,zSi (by simpa using hl) λi c' hc=>h (i+1) c' hc⟩
 |[],_::_,hl,_=>by simp at hl
 |_::_,[],hl,_=>by simp at hl
theorem zO9{xss:List LI}(h:i<xss.length):(srcs xss)[i]?=some (src xss i):=by
 unfold srcs
 rw[getElem?_map,getElem?_range h]
 rfl
theorem Eu{cs:List Addr}{xss:List LI}(hl:cs.length=xss.length)(n:qL H' cs (src xss))(h:∀c∈cs,∀o,H' c=some o->D c=some o):A2 (rp K D) (cs.map V.ref) (srcs xss):=by
 refine zSi (by rw[hl];unfold srcs;simp) λi c hc=>?_
 have hi:=yY hc
 exact⟨_,zO9 (by omega),h c (mem_of_getElem? hc) _ (n i c hc)⟩
end
section
variable{K:PySem.W.Frag}{B:Bs}{F H F' H' G:Hp}{O:Own}{sl:SL K}{σ:St}{md:Md}{α β:Type}[Rp K α][Rp K β]{te ta:TE}{C:Addr}
theorem V_{pr:aF C->α}(cl:Cls K C)(na:bx K C f)(hp:∀(R:Hp) (v:V) (x:aF C),rp K R v x->∃p dx fs w,v=.ref p/\R p=some (.ins C dx fs)/\fs.lookup f=some w/\rp K R w (pr x))(h:Ex B sl md ta m) :
  Ex B sl md (pX K ta f) (m.bind λx=>some (pr x)):=λc hc F O H σ Q s k=>by
 cases m with
 |none=>cases hc
 |some x =>
  cases(show some (pr x)=some c from hc)
  refine h x rfl F O H σ _ s λv F' H' g r=>?_
  obtain⟨p,dx,fs,w,rfl,h1,h2,h3⟩:=hp _ v x r
  have hle:Same (reg B F' H' md) H':=match md with
   |.nw=>aQ.trans g.ok.fh
   |.fz=>g.ok.fh
   |.hp=>.refl _
  exact⟨p,C,dx,fs,w,rfl,hle _ _ h1,cl,na,h2,k w F' H' g h3⟩
theorem zI9{m:Option (aF C)}(cl:Cls K C)(na:bx K C "steps")(h:Ex B sl md ta m):Ex B sl md (pX K ta "steps") (m.bind λx=>some x.steps) :=
 V_ cl na (λR v x ⟨p,dx,fs,vS,vM,vF,vB,h1,h2,h3,h4,_⟩=>⟨p,dx,fs,vS,h1,h2,h3,h4⟩) h
theorem zRj{m:Option (aF C)}(cl:Cls K C)(na:bx K C "marks")(h:Ex B sl md ta m):Ex B sl md (pX K ta "marks") (m.bind λx=>some x.marks) :=
 V_ cl na (λR v x ⟨p,dx,fs,vS,vM,vF,vB,h1,h2,_,_,h5,h6,_⟩=>⟨p,dx,fs,vM,h1,h2,h5,h6⟩) h
theorem zMe{m:Option (aF C)}(cl:Cls K C)(na:bx K C "fair")(h:Ex B sl md ta m):Ex B sl md (pX K ta "fair") (m.bind λx=>some x.fair) :=
 V_ cl na (λR v x ⟨p,dx,fs,vS,vM,vF,vB,h1,h2,_,_,_,_,h7,h8,_⟩=>⟨p,dx,fs,vF,h1,h2,h7,h8⟩) h
theorem zKx{m:Option (aF C)}(cl:Cls K C)(na:bx K C "sources")(h:Ex B sl md ta m):Ex B sl md (pX K ta "sources") (m.bind λx=>some x.sources) :=
 V_ cl na (λR v x ⟨p,dx,fs,vS,vM,vF,vB,h1,h2,_,_,_,_,_,_,h9,h10,_⟩=>⟨p,dx,fs,vB,h1,h2,h9,h10⟩) h
theorem Ew{A:Type}{as:A->SL K}{f:aF C×A->Option β}{ma:Option A}(hg:g∈Y0)(h0:Ex B sl .hp ta mm)(h:Ea B sl .hp t as ma) :
  Ex B sl md (QW C g (cN K false (λx:aF C×A=>.fz false x.1::as x.2) f) [] E0 ta t) (mm.bind λx=>ma.bind λa=>f (x,a)):=λc hc F O H σ Q s kk=>by
 cases mm with
 |none=>cases hc
 |some x =>
  cases ma with
  |none=>cases hc
  |some a =>
   have hc:f (x,a)=some c:=hc
   refine h0 x rfl F O H σ _ s λv F1 H1 g1 r1=>?_
   obtain⟨p,dx,fs,vS,vM,vF,vB,rfl,h2,h3,h4,h5,h6,h7,h8,h9,h10,h11⟩:=id r1
   refine⟨p,dx,fs,rfl,h2,h11 g hg,?_⟩
   refine h a rfl F1 O H1 σ _ (s.grow g1) λvs F' H' g2 r=>?_
   rw[append_nil]
   refine⟨(x,a),c,H',.refl _,hc,.cons (Rp.mono g2.hh r1) r,λv H2 s2 r2=>?_⟩
   have g3:=g2.ok.called s2
   refine kk v _ H2 (g1.trans (g2.trans g3)) ?_
   have r3:=Rp.mono (Kz (F:=F') g2.ok.h0 s2) r2
   exact match md with
   |.nw=>r3
   |.fz=>Rp.mono aQ r3
   |.hp=>Rp.mono (aQ.trans g3.ok.fh) r3
def En(B:Bs)(sl:SL K)(t:TE){α:Type}[Rp K α](m:Option α):Prop :=
 ∀a,m=some a->∀(F:Hp)(O:Own)(H:Hp)(σ:St)(Q:VK),At B sl F O H σ->(∀(v:V)(F' H1 H2:Hp),bH B F H O F' H1->Same H1 H2->rp K (dif H2 H1) v a->Q v H2)->t σ H Q
theorem En.ex{m:Option α}(h:En B sl te m):Ex B sl md te m:=λc hc F O H σ Q s kk=>h c hc F O H σ Q s λv F' H1 H2 g s2 r2=>by
 have g2:=g.ok.called s2
 refine kk v _ H2 (g.trans g2) ?_
 have r3:=Rp.mono (Kz (F:=F') g.ok.h0 s2) r2
 exact match md with
 |.nw=>r3
 |.fz=>Rp.mono aQ r3
 |.hp=>Rp.mono (aQ.trans g2.ok.fh) r3
structure RV where
 n:Unit
instance:Rp K RV:=⟨λF v _=>∃p vs,v=.ref p/\F p=some (.lst vs),λs ⟨p,vs,h1,h2⟩=>⟨p,vs,h1,s _ _ h2⟩⟩
class IsL (K:PySem.W.Frag) (α:Type) [Rp K α]:Prop where
 il:∀{F:Hp}{v:V}{a:α},rp K F v a->∃p vs,v=.ref p/\F p=some (.lst vs)
instance:IsL K (List α):=⟨λ⟨p,vs,h1,h2,_⟩=>⟨p,vs,h1,h2⟩⟩
instance:IsL K RV:=⟨λh=>h⟩
instance(n:Nat)(xss:List LI):Decidable (V9 n xss):=by unfold V9;infer_instance
theorem zVl{s:Slot K}(i:Nat)(hs:sl[i]?=some (.fz n x))(h:Ex B sl .hp te m):Sn B sl (QK i te (Vm f)) (λa=>sl.set i (.fz true a)) (m.bind λy=>some (f x y)):=λa ha G D σ H s k=>by
 cases m with
 |none=>cases ha
 |some y =>
  cases(show some (f x y)=some a from ha)
  obtain⟨F,O,g,z⟩:=s
  obtain⟨v,h1,h2⟩:=z.2.qJ hs
  have h2:v=.int x:=Sc.is.mp h2
  subst h2
  refine⟨_,h1,h y rfl F O H σ _ z λw F' H' gr r=>?_⟩
  cases r
  exact⟨x,y,rfl,rfl,k _ _ (Sg.set (n:=true) (a:=f x y) (g.trans gr.ff) (z.grow gr) hs rfl rfl)⟩
end
section
variable{K:PySem.W.Frag}{X:Cx}
theorem zVy(K:PySem.W.Frag)(h:X.K=K:=by rfl):lH X (compareOp .In) (VB K false):=by subst h;exact zQc
theorem cG(K:PySem.W.Frag)(h:X.K=K:=by rfl):Vz X (rQ K):=by subst h;exact wN
theorem uT(K:PySem.W.Frag)(h:X.K=K:=by rfl):rK X (.builtin "len") (KR K):=by subst h;exact vV
theorem RW(K:PySem.W.Frag)(h:X.K=K:=by rfl):rK X (.type "list") (HY K):=by subst h;exact zJj
theorem vW(K:PySem.W.Frag)(hc:∀y u,RelV y c->RelV y u->u=c)(h:X.K=K:=by rfl):rK X (.builtin "isinstance") (D_ K c):=by subst h;exact zU3 hc
theorem Ia(K:PySem.W.Frag)(he:PE X e ta)(h:X.K=K:=by rfl)(hb:attributeBase e f X.env (eval e X.env)=eval e X.env:=by rfl):PE X (.Attribute e f pos) (pX K ta f):=by subst h;exact zVv he hb
theorem xG(K:PySem.W.Frag)(hl:PE X l tl)(h:X.K=K:=by rfl):PI X tg l (zq K tl):=by subst h;exact Xw hl
theorem Y4(K:PySem.W.Frag)(hm:X.mg "enumerate" = none)(ha:PA X [a] ta)(h:X.K=K:=by rfl)(hg:Gl X "enumerate":=by rfl)(hs:starEach [a] X.env=[(false,eval a X.env)]:=by rfl) :
  PI X (.Tuple elts k tp) (.Call (.Name "enumerate" p) [a] [] pos) (Ak K ta):=by subst h;exact zP3 hg hm ha hs
theorem yt(K:PySem.W.Frag){o e:Expr}{es:List Expr}{to:TE}{t:TA}{name:Str}{apos cpos:Pos}{T id:String}{r:V->List V->Hp->VK->Prop}(pa:PlainAttrs T)(slot:PySem.Slot T name id)(hty:typeOf (.builtin id)=pure (.type "method_descriptor"))(hm:O_ X id r)(ho:PE X o to)(ha:PA X (e::es) t)(h:X.K=K:=by rfl)(hbase:attributeBase o name X.env (eval o X.env)=eval o X.env:=by rfl)(hfew:((backTo cpos (starEach (e::es) X.env)).all (λx=>!x.1)&&(backToKw cpos (keywordEach [] X.env)).all (λx=>x.1.isSome)
   && decide ((e::es).length+([]:List Keyword).length+(if([]:List Keyword).isEmpty then 0 else 1)<30))=true:=by rfl)(hline:(apos.endLine==cpos.line)=true:=by rfl)(hs:starEach (e::es) X.env=(false,eval e X.env)::starEach es X.env:=by rfl)(hplain:(backTo cpos (starEach es X.env)).any (·.1)=false:=by rfl) :
  PE X (.Call (.Attribute o name apos) (e::es) [] cpos) (Kq K T r to t):=by subst h;exact VD pa slot hty hm ho ha hbase hfew hline hs hplain
theorem K1(K:PySem.W.Frag){o:Expr}{to:TE}{name:Str}{apos cpos:Pos}{T id:String}{r:V->List V->Hp->VK->Prop}(pa:PlainAttrs T)(slot:PySem.Slot T name id)(hty:typeOf (.builtin id)=pure (.type "method_descriptor"))(hm:O_ X id r)(ho:PE X o to)(h:X.K=K:=by rfl)(hbase:attributeBase o name X.env (eval o X.env)=eval o X.env:=by rfl)(hline:(apos.endLine==cpos.line)=true:=by rfl):PE X (.Call (.Attribute o name apos) [] [] cpos) (Ko K T r to):=by subst h;exact Kr pa slot hty hm ho hbase hline
theorem K3:bootBuiltins "any" = some (.builtin "any"):=by decide +kernel
theorem K4:bootBuiltins "all" = some (.builtin "all"):=by decide +kernel
theorem Y5:bootBuiltins "sorted" = some (.builtin "sorted"):=by decide +kernel
theorem Cw:Et B sl rT (some true):=λa ha F O H σ Q s k=>by cases ha;exact k F H (.refl s.1)
theorem Pu{α:Type}:∀c:List α,some []=some c->c.length<=0:=λc h=>by cases h;exact aa0 _
theorem tQ{α:Type}{m:Option α}{ma:Option (List α)}(h:∀b,ma=some b->b.length<=n):∀c,(m.bind λa=>ma.bind λb=>some (a::b))=some c->c.length<=n+1:=λc e=>by
 cases m with
 |none=>cases e
 |some a =>
  cases ma with
  |none=>cases e
  |some b=>cases e;exact aci (h b rfl)
theorem bnd{α β:Type}(a:α)(f:α->Option β):(some a).bind f=f a:=(λ(x:Option α) (e:x=some a)=>by subst e;rfl:∀x:Option α,x=some a->x.bind f=f a) _ rfl
def fuel:Nat:=100000
structure bJ(P:Program)(w:World)(K:PySem.W.Frag)(mg:Str->Option Value)(base:Heap)(k:Nat)(x:Str)(ps:List Str)(sp:Sp):Prop where
 ex:∃f fd,aq P w K mg base aM k f fd ps sp/\Binds K fd ps []/\keepIn K (.ref f)=true/\mg x=some (.ref f)
structure gj(P:Program)(w:World)(K:PySem.W.Frag)(mg:Str->Option Value)(base:Heap)(k:Nat)(C:Addr)(m:Str)(ps:List Str)(sp:Sp):Prop where
 ex:∃f fd,aq P w K mg base aM k f fd ps sp/\Binds K fd ps []/\Meth K C m f
 cl:Cls K C
theorem bJ.mono(c:bJ P w K mg base j x ps sp)(h:j<=k):bJ P w K mg base k x ps sp:=by
 obtain⟨f,fd,h1,h2⟩:=c.ex
 exact⟨f,fd,h1.mono h,h2⟩
theorem gj.mono(c:gj P w K mg base j C x ps sp)(h:j<=k):gj P w K mg base k C x ps sp:=by
 obtain⟨f,fd,h1,h2⟩:=c.ex
 exact⟨⟨f,fd,h1.mono h,h2⟩,c.cl⟩
theorem zY(c:bJ X.prog X.w X.K X.mg X.base k x ps sp)(hr:bQ k X.A)(ha:PA X (e::es) t)(hg:Gl X x:=by rfl)(hdb:(x==("__debug__":Str))=false:=by decide)(he:starEach (e::es) X.env=(false,eval e X.env)::starEach es X.env:=by rfl)(hpl:(backTo pos (starEach es X.env)).any (·.1)=false:=by rfl):PE X (.Call (.Name x p) (e::es) [] pos) (Cj sp [] E0 t):=by
 obtain⟨f,fd,h1,h2,h3,h4⟩:=c.ex
 exact HB h1 hr hg h4 h3 h2 .nil xJ ha hdb he hpl
theorem RX(c:gj X.prog X.w X.K X.mg X.base k C m ps sp)(hr:bQ k X.A)(he:PE X o ta)(ha:PA X (e::es) t)(hst:starEach (e::es) X.env=(false,eval e X.env)::starEach es X.env:=by rfl)(hpl:(backTo pos (starEach es X.env)).any (·.1)=false:=by rfl)(ht:eval (.Call (.Attribute o m apos) (e::es) [] pos) X.env=(do
   let ov <-eval o X.env
   standAt apos.atName
   let(f,first) <-holding [ov] (getMethod ov m pl)
   callWith pos f first (backTo pos (starEach (e::es) X.env)) (backToKw pos (keywordEach [] X.env))):=by rfl):PE X (.Call (.Attribute o m apos) (e::es) [] pos) (QW C m sp [] E0 ta t):=by
 obtain⟨f,fd,h1,h2,h3⟩:=c.ex
 exact Dw he c.cl h3 h1 hr h2 .nil xJ ha hst hpl ht
theorem Wa(c:gj X.prog X.w X.K X.mg X.base k C m ps sp)(hr:bQ k X.A)(he:PE X o ta)(ht:eval (.Call (.Attribute o m apos) [] [] pos) X.env=(do
   let ov <-eval o X.env
   standAt apos.atName
   let(f,first) <-holding [ov] (getMethod ov m pl)
   callWith pos f first (backTo pos (starEach [] X.env)) (backToKw pos (keywordEach [] X.env))):=by rfl):PE X (.Call (.Attribute o m apos) [] [] pos) (QW C m sp [] E0 ta bh):=by
 obtain⟨f,fd,h1,h2,h3⟩:=c.ex
 exact zTw he c.cl h3 h1 hr h2 .nil xJ ht
end
section
variable{P:Program}{w:World}{K:PySem.W.Frag}{mg:Str->Option Value}{base:Heap}
theorem yK{A β:Type}[Rp K β]{as:A->SL K}{fM:A->Option β}(F:aZ K x qual st f fd)(S:ao N ps (zH st))(hf:∀a,(as a).all isF=true)(hl:∀a,(as a).length=ps.length)(hb:∀(cdv:Value) (A:Around) (outer:List Env) (s:Shared) (H:Hp) (E:XK),bQ k (A.deeper (ad4 qual (zH st) s.heap.objs.size f cdv)) ->
   ∃t,qz (oM aM P w K mg base N qual (zH st) f cdv A outer s H E).Dg (wF st) t/\∀Fa a,SB ⟨Fa,H⟩ (as a++replicate (N.length-ps.length) .un) t al (fM a)) :
  aq P w K mg base aM (k+1) f fd ps (cN K al as fM) :=
 F.ok S (λvs H Q E h=>zVk hl h) λcdv A outer s H vs Q E hr h=>by
  obtain⟨t,p,q⟩:=hb cdv A outer s H E hr
  exact⟨t,p,zTc hf hl q h⟩
end
def W{α:Type}(m:Option α)(P:α->Prop):Prop:=∃a,m=some a/\P a
section
variable{α β S:Type}
theorem aj:W (some a) P↔P a:=⟨λ⟨_,e,h⟩=>by cases e;exact h,λh=>⟨a,rfl,h⟩⟩
theorem Ib:W (none:Option α) P↔False:=⟨λ⟨_,e,_⟩=>(by cases e),ab4⟩
theorem zC{m:Option α}:W (m.bind f) Q↔W m λa=>W (f a) Q:=by
 cases m with
 |none=>exact⟨λ⟨_,e,_⟩=>(by cases e),λ⟨_,e,_⟩=>(by cases e)⟩
 |some a=>exact⟨λh=>⟨a,rfl,h⟩,λ⟨_,e,h⟩=>by cases e;exact h⟩
theorem Wb:W ((Out.nx s:Out S β).els f) Q↔W (f s) Q:=af3
theorem W.imp{Q:α->Prop}(h:W m P)(f:∀a,P a->Q a):W m Q:=let⟨a,e,p⟩:=h;⟨a,e,f a p⟩
theorem K5:W (gR a b) Q↔0<b/\Q (a%b):=by
 unfold gR
 split
 ·rename_i h;rw[aj];exact⟨λq=>⟨h,q⟩,λq=>q.2⟩
 ·rename_i h;rw[Ib];exact⟨ab4,λq=>h q.1⟩
theorem RZ:W (kJ a b) Q↔(0<b/\b<1073741824)/\Q (a/b):=by
 unfold kJ
 split
 ·rename_i h;rw[aj];exact⟨λq=>⟨h,q⟩,λq=>q.2⟩
 ·rename_i h;rw[Ib];exact⟨ab4,λq=>h q.1⟩
theorem Ax:W (push xs a) Q↔xs.length<cap/\Q (xs++[a]):=by
 unfold push
 split
 ·rename_i h;rw[aj];exact⟨λq=>⟨h,q⟩,λq=>q.2⟩
 ·rename_i h;rw[Ib];exact⟨ab4,λq=>h q.1⟩
def rng(n:Int):LI:=(abg n.toNat).map adi
theorem dH:W (uM n) Q↔(-(2^62)<=n/\n<2^62)/\Q (rng n):=by
 unfold uM rng
 split
 ·rename_i h;rw[aj];exact⟨λq=>⟨h,q⟩,λq=>q.2⟩
 ·rename_i h;rw[Ib];exact⟨ab4,λq=>h q.1⟩
theorem Cy(h:0<=n):((rng n).length:Int)=n:=by
 unfold rng
 rw[length_map,length_range]
 omega
theorem Y6{n:Int}{i:Nat}{x:Int}(h:(rng n)[i]?=some x):x=i/\(i:Int)<n:=by
 obtain⟨a,b⟩:=YM h
 exact⟨b,by omega⟩
theorem mG:x∈rng n↔0<=x/\x<n:=by
 unfold rng
 rw[mem_map]
 constructor
 ·rintro⟨a,h,rfl⟩
  rw[mem_range] at h
  exact⟨adl _,by show(a:Int)<n;omega⟩
 ·intro⟨h1,h2⟩
  exact⟨x.toNat,mem_range.mpr (by omega),by show((x.toNat:Nat):Int)=x;omega⟩
theorem zWh(h:0<=i):L2.cj xs i=xs[i.toNat]?:=by
 unfold L2.cj tE
 rw[if_pos h]
 by_cases q:i<xs.length
 ·rw[if_pos q];rfl
 ·rw[if_neg q,abq (by omega)];rfl
theorem dI(h0:0<=i):W (L2.cj xs i) Q↔∃a,xs[i.toNat]?=some a/\Q a:=by
 rw[zWh h0]
 exact af3
theorem zTj{xs:List α}{i:Int}{a:α}(h0:0<=i)(h1:i<xs.length):uw xs i a=some (xs.set i.toNat a):=by
 unfold uw tE
 rw[if_pos h0,if_pos h1]
 rfl
theorem R3{xs:List α}{i:Int}{a:α}{Q:List α->Prop}(h0:0<=i)(h1:i<xs.length):W (uw xs i a) Q↔Q (xs.set i.toNat a):=by
 rw[zTj h0 h1,aj]
theorem vE{step:S->α->Option S}{Q:S->Prop}(I:Nat->S->Prop)(h0:I 0 s)(hs:∀i x s,xs[i]?=some x->I i s->W (step s x) (I (i+1)))(hd:∀s,I xs.length s->Q s):W (wD step xs s) Q:=by
 have key:∀(ys:List α)(i:Nat)(s:S),(∀j x,ys[j]?=some x->xs[i+j]?=some x)->i+ys.length=xs.length->I i s->W (wD step ys s) Q:=by
  intro ys
  induction ys with
  |nil=>intro i s _ hl h;exact⟨s,rfl,hd s ((show i=xs.length from hl)▸h)⟩
  |cons y ys ih =>
   intro i s hy hl h
   show W ((step s y).bind λs'=>wD step ys s') Q
   rw[zC]
   refine(hs i y s (hy 0 y rfl) h).imp λs' h'=>ih (i+1) s' (λj x hx=>?_) (by rw[length_cons] at hl;omega) h'
   have:=hy (j+1) x (by simpa using hx)
   rw[show i+1+j=i+(j+1) by omega]
   exact this
 exact key xs 0 s (λj x h=>by rw[adb];exact h) (adb _) h0
theorem zGp{step:S->α->Option (Out S β)}:vZ step (x::xs) s=(step s x).bind λo=>o.aP λs'=>vZ step xs s':=by
 rw[vZ]
 congr 1
theorem zSk{step:S->α->Option (Out S β)}{Q:Out S β->Prop}(I:Nat->S->Prop)(h0:I 0 s)(hs:∀i x s,xs[i]?=some x->I i s->W (step s x) λo=>∃s',o=.nx s'/\I (i+1) s')(hd:∀s,I xs.length s->Q (.nx s)):W (vZ step xs s) Q:=by
 have key:∀(ys:List α)(i:Nat)(s:S),(∀j x,ys[j]?=some x->xs[i+j]?=some x)->i+ys.length=xs.length->I i s->W (vZ step ys s) Q:=by
  intro ys
  induction ys with
  |nil=>intro i s _ hl h;exact⟨.nx s,rfl,hd s ((show i=xs.length from hl)▸h)⟩
  |cons y ys ih =>
   intro i s hy hl h
   rw[zGp,zC]
   refine(hs i y s (hy 0 y rfl) h).imp ?_
   rintro o ⟨s',rfl,h'⟩
   refine ih (i+1) s' (λj x hx=>?_) (by rw[length_cons] at hl;omega) h'
   have:=hy (j+1) x (by simpa using hx)
   rw[show i+1+j=i+(j+1) by omega]
   exact this
 exact key xs 0 s (λj x h=>by rw[adb];exact h) (adb _) h0
theorem Ez{c:S->Option Bool}{body:S->Option S}(I:S->Prop)(μ:S->Nat)(h0:I s)(hk:μ s<k)(hs:∀s,I s->W (c s) λb=>if b=true then W (body s) λs'=>I s'/\μ s'<μ s else Q s):W (HN c body k s) Q:=by
 induction k generalizing s with
 |zero=>omega
 |succ k ih =>
  show W ((c s).bind λb=>if b=true then(body s).bind λs'=>HN c body k s' else some s) Q
  rw[zC]
  refine(hs s h0).imp λb h=>?_
  cases b with
  |true =>
   have h:W (body s) λs'=>I s'/\μ s'<μ s:=by simpa using h
   simp only[if_true]
   rw[zC]
   exact h.imp λs' ⟨h1,h2⟩=>ih h1 (by omega)
  |false=>simpa[aj] using h
theorem zJh(c:α->Bool)(f:α->β):∀xs:List α,wI (λx=>some (c x)) (λx=>some (f x)) xs=some ((xs.filter c).map f)
 |[]=>rfl
 |x::xs=>by
  have ih:=zJh c f xs
  show(some (c x)).bind _=_
  cases h:c x with
  |true =>
   show((some (f x)).bind λy=>(wI _ _ xs).bind λys=>some (y::ys))=_
   rw[ih,filter_cons,if_pos h]
   rfl
  |false =>
   show wI _ _ xs=_
   rw[ih,filter_cons,if_neg (by rw[h];decide)]
theorem zWl(c:α->Bool)(f:α->β):W (uB (λx=>some (c x)) (λx=>some (f x)) xs) Q↔xs.length<cap/\Q ((xs.filter c).map f):=by
 unfold uB
 split
 ·rename_i h;rw[zJh,aj];exact⟨λq=>⟨h,q⟩,λq=>q.2⟩
 ·rename_i h;rw[Ib];exact⟨ab4,λq=>h q.1⟩
theorem zRe(xs:List α):xs.filter (λ_=>true)=xs:=filter_eq_self.mpr λ_ _=>rfl
theorem Px(f:α->β):W (uB (λ_=>some true) (λx=>some (f x)) xs) Q↔xs.length<cap/\Q (xs.map f):=by
 rw[zWl (λ_=>true) f,zRe]
theorem K6[Decidable c]:W (if c then a else b) Q↔(c->W a Q)/\(¬c->W b Q):=by
 by_cases h:c
 ·rw[if_pos h];exact⟨λq=>⟨λ_=>q,λn=>absurd h n⟩,λq=>q.1 h⟩
 ·rw[if_neg h];exact⟨λq=>⟨λn=>absurd n h,λ_=>q⟩,λq=>q.2 h⟩
theorem yP(h:n<=1000):n<cap:=aa7 h (by decide)
def aG(n:Int)(xs:LI):Prop:=xs.Pairwise (· < ·)/\∀x∈xs,0<=x/\x<n
theorem aG.nodup(h:aG n xs):xs.Nodup:=h.1.imp λq=>Int.ne_of_lt q
theorem wS:aG n []:=⟨.nil,λx h=>by cases h⟩
theorem zIj(h:aG k xs)(h0:0<=k)(hk:k<n):aG n (xs++[k]):=by
 refine⟨List.pairwise_append.mpr ⟨h.1,by simp,λx hx y hy=>?_⟩,λx hx=>?_⟩
 ·rw[mem_singleton.mp hy];exact(h.2 x hx).2
 ·rcases mem_append.mp hx with q|q
  ·have:=h.2 x q;omega
  ·rw[mem_singleton.mp q];omega
theorem zPt(h:aG n xs)(l:n<=m):aG m xs:=⟨h.1,λx hx=>by have:=h.2 x hx;omega⟩
theorem wG:∀{n:Nat}{xs:LI},xs.Nodup->(∀x∈xs,0<=x/\x<(n:Int))->xs.length<=n
 |0,xs,_,h=>by
  cases xs with
  |nil=>exact aa0 _
  |cons x xs=>have:=h x mem_cons_self;omega
 |n+1,xs,nd,h=>by
  by_cases q:(n:Int)∈xs
  ·have l:=List.length_erase_of_mem q
   have ih:=wG (n:=n) (xs:=xs.erase (n:Int)) (nd.erase _) λx hx=>by
    have h1:=h x (List.mem_of_mem_erase hx)
    have h2:x≠(n:Int):=λe=>by rw[e] at hx;exact(List.Nodup.not_mem_erase nd) hx
    omega
   omega
  ·have ih:=wG (n:=n) nd λx hx=>by
    have h1:=h x hx
    have h2:x≠(n:Int):=λe=>q (e▸hx)
    omega
   omega
end
end Ts
namespace L2
open PySem PySem.Spec PyProof.Rows
theorem Y7:∀{ns:LI}{its:List Value},Vals (ns.map V.int) its->IntsAre its ns
 |[],[],_=>.nil
 |n::ns,_::its,h=>by
  cases h with
  |cons r t =>
   obtain⟨k,rfl⟩:=r
   exact .cons n k (Y7 t)
theorem uW:∀{ns:LI}{its:List Value},IntsAre its ns->Vals (ns.map V.int) its
 |_,_,.nil=>.nil
 |_,_,.cons n t h=>.cons ⟨t,rfl⟩ (uW h)
section
variable{X:Cx}
def Ie(K:PySem.W.Frag):List V->Hp->VK->Prop:=λxs H Q=>∃(p:Addr)(ns:LI),xs=[.ref p]/\aO K H p (ns.map V.int)/\ns.length<64/\∀(l:Addr)(ns':LI),H l=none->ns'.Perm ns->ns'.Pairwise (· <= ·)->Q (.ref l) (upd H l (.lst (ns'.map V.int)))
theorem Y8(K:PySem.W.Frag)(hK:X.K=K:=by rfl):rK X (.builtin "sorted") (Ie K):=by
 subst hK
 intro pins s σ H xs us Q I r h
 obtain⟨p,ns,rfl,hq,h64,q⟩:=h
 obtain⟨u,rfl,rx⟩:=Ds r
 cases rx
 obtain⟨its,r',pl,hz⟩:=I.list hq
 have hl:=r'.length
 rw[length_map] at hl
 refine sorted_ints pl.isList (Y7 r') (by omega) λout ns' a1 a2 a3=>?_
 obtain⟨e,he⟩:=sortedAll_at s.heap its out
 have fr:H (s.heap.objs.size+1)=none:=I.hok.fresh (acq _)
 refine⟨.ref (s.heap.objs.size+1),_,I.laid (t':=s.toks) (o:=.lst (ns'.map V.int)) (λb ob w=>sortedAll_old w) (acq _) ?_,rfl,q _ ns' fr a2 a3⟩
 refine⟨?_,out.toList,e,uW a1,?_⟩
 ·rw[length_map,a2.length_eq]
  exact acf (aek h64 (by decide))
 ·rw[toArray_toList]
  exact he
theorem zEl{bs:List Bool}(r:Vals (bs.map V.bl) its):TruthOf prog w A (λi v=>its.toArray[i]?=some v) (λi=>bs.getD i false):=by
 intro i v s Q E hv hq
 have hv:its[i]?=some v:=by simpa using hv
 have hi:i<bs.length:=by
  have:=(abb.mp hv).1
  rw[<-r.length,length_map] at this
  exact this
 obtain⟨u,h1,h2⟩:=r.get (i:=i) (x:=.bl bs[i]) (by rw[getElem?_map,aaz hi]<;>rfl)
 rw[hv] at h1
 cases h1
 cases h2
 have hq:Q (bs.getD i false) s:=hq
 rw[getD_eq_getElem?_getD,aaz hi] at hq
 exact acp hq
theorem zPw{bs:List Bool}:((abg bs.length).any λi=>bs.getD i false)=bs.any id:=by
 rw[abv,any_eq_true,any_eq_true]
 constructor
 ·rintro⟨i,h1,h2⟩
  have hi:=mem_range.mp h1
  rw[getD_eq_getElem?_getD,aaz hi] at h2
  exact⟨_,getElem_mem hi,h2⟩
 ·rintro⟨x,h1,h2⟩
  obtain⟨i,hi,e⟩:=getElem_of_mem h1
  refine⟨i,mem_range.mpr hi,?_⟩
  rw[getD_eq_getElem?_getD,aaz hi,e]
  exact h2
theorem zPx{bs:List Bool}:((abg bs.length).all λi=>bs.getD i false)=bs.all id:=by
 rw[abv,all_eq_true,all_eq_true]
 constructor
 ·intro h x hx
  obtain⟨i,hi,e⟩:=getElem_of_mem hx
  have z:=h i (mem_range.mpr hi)
  rw[getD_eq_getElem?_getD,aaz hi,e] at z
  exact z
 ·intro h i hi
  have hi:=mem_range.mp hi
  rw[getD_eq_getElem?_getD,aaz hi]
  exact h _ (getElem_mem hi)
def Y9(K:PySem.W.Frag)(f:List Bool->Bool):List V->Hp->VK->Prop:=λxs H Q=>∃(p:Addr)(bs:List Bool),xs=[.ref p]/\aO K H p (bs.map V.bl)/\Q (.bl (f bs)) H
theorem Ig{s:Shared}{h':Heap}(hk:∀b o,b∉[s.heap.objs.size]->(s.heap.push { cls:=.type "list_iterator",data:=.fields #[.ref l,.int 0 0] }).get? b=some o->h'.get? b=some o) :
  ∀b o,s.heap.get? b=some o->h'.get? b=some o:=λb o e=>hk b o (λm=>ab2 _ (mem_singleton.mp m▸lt_size e)) (get?_push_of_some _ e)
theorem zSd(K:PySem.W.Frag)(hc:X.calm=true)(hK:X.K=K:=by rfl):rK X (.builtin "any") (Y9 K λbs=>bs.any id):=by
 subst hK
 intro pins s σ H xs us Q I r h
 obtain⟨p,bs,rfl,hq,q⟩:=h
 obtain⟨u,rfl,rx⟩:=Ds r
 cases rx
 obtain⟨its,r',pl,hz⟩:=I.list hq
 have hl:=pl.isList
 have hlt:p<s.heap.objs.size:=by obtain⟨_,e,_⟩:=hl;exact lt_size e
 refine call_any_walk (aeo hl ?_)
 refine⟨_,_,_,_,_,_,_,rfl,afz (A:=X.A.in1) (I.ok.hd hc) s.heap.objs.size p (aa5 hlt) its.toArray,⟨⟨_,get?_push_size _ rfl,rfl,rfl⟩,hl.push _⟩,zEl r',λh' tk hk=>?_⟩
 have hn:its.toArray.size=bs.length:=by
  rw[size_toArray,<-r'.length,length_map]
 rw[hn,zPw]
 exact⟨.bl (bs.any id),H,I.kept (Ig hk),rfl,q⟩
theorem zSe(K:PySem.W.Frag)(hc:X.calm=true)(hK:X.K=K:=by rfl):rK X (.builtin "all") (Y9 K λbs=>bs.all id):=by
 subst hK
 intro pins s σ H xs us Q I r h
 obtain⟨p,bs,rfl,hq,q⟩:=h
 obtain⟨u,rfl,rx⟩:=Ds r
 cases rx
 obtain⟨its,r',pl,hz⟩:=I.list hq
 have hl:=pl.isList
 have hlt:p<s.heap.objs.size:=by obtain⟨_,e,_⟩:=hl;exact lt_size e
 refine call_all_walk (aeo hl ?_)
 refine⟨_,_,_,_,_,_,_,rfl,afz (A:=X.A.in1) (I.ok.hd hc) s.heap.objs.size p (aa5 hlt) its.toArray,⟨⟨_,get?_push_size _ rfl,rfl,rfl⟩,hl.push _⟩,zEl r',λh' tk hk=>?_⟩
 have hn:its.toArray.size=bs.length:=by
  rw[size_toArray,<-r'.length,length_map]
 rw[hn,zPx]
 exact⟨.bl (bs.all id),H,I.kept (Ig hk),rfl,q⟩
end
section
variable{prog:Program}{w:World}{A:Around}{R:Result->Shared->Prop}{It:Addr}{fp wr:List Addr}{n:Nat}{P:Nat->Value->Prop}{St:Nat->Heap->Prop}{kw:List (Str×Value)}
end
section
variable{X:Cx}{e e2:Expr}{te td:TE}{p pos kpos:Pos}
end
end L2
namespace Ts
open PySem L2
def Wc(ns:LI):LI:=ns.mergeSort (λa b=>decide (a<=b))
def EY(ns:LI):Option LI:=if ns.length<64 then some (Wc ns) else none
theorem vL(ns:LI):(Wc ns).Perm ns:=List.mergeSort_perm _ _
theorem zD2(ns:LI):(Wc ns).Pairwise (· <= ·):=by
 have:=List.pairwise_mergeSort (le:=λa b:Int=>decide (a<=b)) (λa b c h1 h2=>by simp at *;omega) (λa b=>by simp;omega) ns
 exact this.imp λh=>by simpa using h
theorem zEp:∀{xs ys:LI},xs.Perm ys->xs.Pairwise (· <= ·)->ys.Pairwise (· <= ·)->xs=ys
 |[],ys,p,_,_=>(Perm.nil_eq p)
 |x::xs,[],p,_,_=>by have:=p.length_eq;simp at this
 |x::xs,y::ys,p,h1,h2=>by
  have a1:=pairwise_cons.mp h1
  have a2:=pairwise_cons.mp h2
  have e:x=y:=by
   have q1:x∈y::ys:=p.subset mem_cons_self
   have q2:y∈x::xs:=p.symm.subset mem_cons_self
   rcases mem_cons.mp q1 with q1|q1
   ·exact q1
   ·rcases mem_cons.mp q2 with q2|q2
    ·exact q2.symm
    ·have:=a1.1 y q2;have:=a2.1 x q1;omega
  subst e
  rw[zEp (Perm.cons_inv p) a1.2 a2.2]
section
variable{K:PySem.W.Frag}{B:Bs}{sl:SL K}{md:Md}{t t1 t2:TE}{n:Bool}
theorem Y_(h:Ex B sl .hp t m):Eo B sl md (tu (Ie K) (yJ t bh)) (m.bind EY):=λc hc F O H σ Q s k=>by
 cases m with
 |none=>cases hc
 |some ns =>
  have hc:EY ns=some c:=hc
  unfold EY at hc
  split at hc
  case isFalse=>cases hc
  rename_i hl
  cases hc
  refine h ns rfl F O H σ _ s λv F' H' g r1=>?_
  obtain⟨p,vs,rfl,z1,z2⟩:=r1
  have z3:vs=ns.map V.int:=z2.vals
  subst z3
  refine⟨p,ns,rfl,aO.of z1,hl,λl ns' hn p1 p2=>?_⟩
  rw[zEp (p1.trans (vL ns).symm) p2 (zD2 ns)]
  exact k l _ F' H' g hn (H_ _)
theorem zMg(h:Ex B sl .hp t m):Ex B sl md (tu (Y9 K f) (yJ t bh)) (m.bind λbs=>some (f bs)):=λc hc F O H σ Q s k=>by
 cases m with
 |none=>cases hc
 |some bs =>
  cases(show some (f bs)=some c from hc)
  refine h bs rfl F O H σ _ s λv F' H' g r1=>?_
  obtain⟨p,vs,rfl,z1,z2⟩:=r1
  have z3:vs=bs.map V.bl:=z2.vals
  subst z3
  exact⟨p,bs,rfl,aO.of z1,k _ F' H' g rfl⟩
theorem Za(h:Ex B sl .hp t m):Ex B sl md (tUn (rU λi=>.int (-i)) t) (m.bind λa=>some (-a)):=λc hc F O H σ Q s k=>by
 cases m with
 |none=>cases hc
 |some a =>
  cases(show some (-a)=some c from hc)
  refine h a rfl F O H σ _ s λv F' H' g r1=>?_
  cases r1
  exact⟨a,rfl,k _ F' H' g rfl⟩
end
section
variable{β:Type}
def gK(kvs:List (Key×β))(k:Key):Option β:=(kvs.find? λkv=>decide (kv.1=k)).map (·.2)
def pK(kvs:List (Key×β))(k:Key)(v:β):List (Key×β):=if(kvs.any λkv=>decide (kv.1=k))=true then kvs.map (λkv=>if kv.1=k then(kv.1,v) else kv) else kvs++[(k,v)]
abbrev je(kvs:List (Key×β))(k:Int):Option β:=gK kvs (abw k)
def dput(kvs:List (Key×β))(k:Int)(v:β):Option (List (Key×β)):=if kvs.length<cap then some (pK kvs (abw k) v) else none
theorem zRb:∀{kvs:List (Key×β)}{k:Key},(kvs.any λkv=>decide (kv.1=k))=(gK kvs k).isSome
 |[],_=>rfl
 |x::kvs,k=>by
  unfold gK
  rw[any_cons,find?_cons]
  by_cases e:x.1=k
  ·rw[decide_eq_true e];rfl
  ·rw[decide_eq_false e,aev];exact zRb
theorem zV5:∀(kvs:List (Key×β))(k j:Key)(v:β),gK (pK kvs k v) j=if j=k then some v else gK kvs j:=λkvs k j v=>by
 unfold pK
 cases a:(kvs.any λkv=>decide (kv.1=k)) with
 |true =>
  rw[if_pos rfl]
  induction kvs with
  |nil=>cases a
  |cons x kvs ih =>
   unfold gK at ih ⊢
   rw[map_cons,find?_cons,find?_cons]
   by_cases e:x.1=k
   ·rw[if_pos e]
    by_cases f:j=k
    ·subst f
     rw[decide_eq_true (show(x.1,v).1=j from e),if_pos rfl];rfl
    ·rw[decide_eq_false (show¬(x.1,v).1=j fromλz=>f (z.symm.trans e)),if_neg f]
     show Option.map (λx=>x.2) (List.find? (λkv=>decide (kv.1=j)) (List.map (λkv=>if kv.1=k then(kv.1,v) else kv) kvs))=Option.map (λx=>x.2) (List.find? (λkv=>decide (kv.1=j)) kvs)
     clear ih a
     induction kvs with
     |nil=>rfl
     |cons y kvs ih =>
      rw[map_cons,find?_cons,find?_cons]
      by_cases g:y.1=k
      ·rw[if_pos g,decide_eq_false (show¬(y.1,v).1=j fromλz=>f (z.symm.trans g))];exact ih
      ·rw[if_neg g]
       by_cases h:y.1=j
       ·rw[decide_eq_true h]
       ·rw[decide_eq_false h];exact ih
   ·rw[if_neg e]
    have a':(kvs.any λkv=>decide (kv.1=k))=true:=by rw[any_cons,decide_eq_false e,aev] at a;exact a
    by_cases f:x.1=j
    ·rw[decide_eq_true f,if_neg λz=>e (f.trans z)]
    ·rw[decide_eq_false f];exact ih a'
 |false =>
  rw[if_neg (by decide)]
  unfold gK
  rw[List.find?_append]
  have hn:kvs.find? (λkv=>decide (kv.1=k))=none:=by
   rw[List.find?_eq_none]
   intro x hx
   have:=any_eq_false.mp a x hx
   exact this
  by_cases f:j=k
  ·subst f;rw[hn,if_pos rfl];simp
  ·rw[if_neg f]
   cases kvs.find? (λkv=>decide (kv.1=j)) with
   |none=>simp[ac2 f]
   |some y=>rfl
theorem zVx(kvs:List (Key×β))(k:Key)(v:β):(pK kvs k v).length<=kvs.length+1:=by
 unfold pK
 split
 ·rw[length_map];omega
 ·rw[length_append];exact aa0 _
end
section
variable{K:PySem.W.Frag}{α:Type}[Rp K α]
abbrev DR(K:PySem.W.Frag){α:Type}[Rp K α](F:Hp):Key×V->Key×α->Prop:=λx y=>x.1=y.1/\rp K F x.2 y.2
theorem A2.any:∀{ks:List (Key×V)}{kvs:List (Key×α)},A2 (DR K F) ks kvs->(ks.any λkv=>decide (kv.1=k))=(kvs.any λkv=>decide (kv.1=k))
 |[],[],_=>rfl
 |_::_,_::_,h=>by rw[any_cons,any_cons,h.1.1,A2.any h.2]
 |[],_::_,h=>h.elim
 |_::_,[],h=>h.elim
theorem A2.val:∀{ks:List (Key×V)}{kvs:List (Key×α)},A2 (DR K F) ks kvs->(gK kvs k=none/\h_ ks k=none)\/∃a v,gK kvs k=some a/\h_ ks k=some v/\rp K F v a
 |[],[],_=>.inl ⟨rfl,rfl⟩
 |x::ks,y::kvs,h=>by
  unfold gK h_
  rw[find?_cons,find?_cons,h.1.1]
  by_cases e:y.1=k
  ·rw[decide_eq_true e];exact .inr ⟨y.2,x.2,rfl,rfl,h.1.2⟩
  ·rw[decide_eq_false e];exact A2.val h.2
 |[],_::_,h=>h.elim
 |_::_,[],h=>h.elim
theorem A2.R5(r:rp K F v a):∀{ks:List (Key×V)}{kvs:List (Key×α)},A2 (DR K F) ks kvs->A2 (DR K F) (ks.map λkv=>if kv.1=k then(kv.1,v) else kv) (kvs.map λkv=>if kv.1=k then(kv.1,a) else kv)
 |[],[],_=>trivial
 |x::ks,y::kvs,h=>by
  rw[map_cons,map_cons]
  refine⟨?_,A2.R5 r h.2⟩
  by_cases e:x.1=k
  ·rw[if_pos e,if_pos (h.1.1▸e)];exact⟨h.1.1,r⟩
  ·rw[if_neg e,if_neg (h.1.1▸e)];exact h.1
 |[],_::_,h=>h.elim
 |_::_,[],h=>h.elim
theorem A2.put{F:Hp}{k:Key}{v:V}{a:α}(r:rp K F v a){ks:List (Key×V)}{kvs:List (Key×α)}(h:A2 (DR K F) ks kvs):A2 (DR K F) (putK ks k v) (pK kvs k a):=by
 unfold putK pK
 rw[h.any]
 split
 ·exact h.R5 r
 ·exact h.snoc ⟨rfl,r⟩
structure Dc(α:Type) where
 kv:List (Key×α)
instance:Rp K (Dc α):=⟨λF v d=>∃p ks,v=.ref p/\F p=some (.dK ks)/\A2 (DR K F) ks d.kv,λs ⟨p,ks,h1,h2,h3⟩=>⟨p,ks,h1,s _ _ h2,h3.imp λ_ _ z=>⟨z.1,Rp.mono s z.2⟩⟩⟩
instance:Nn K (Dc α):=⟨λ⟨_,_,h,_⟩=>by rw[h];intro e;cases e⟩
variable{B:Bs}{sl:SL K}{md:Md}{t t2:TE}{F H G:Hp}{O:Own}{σ:St}{u:TS}{al:Bool}
theorem Zb{kvs:List (Key×α)}(i:Nat)(hs:sl[i]?=some (.od kvs)):Ex B sl .hp (bT i) (some (Dc.mk kvs)):=λa' ha F O H σ Q s k=>by
 cases ha
 obtain⟨k0,z0⟩:=s
 obtain⟨O1,O2,p,ks,rfl,h1,h2,_⟩:=z0.HJ hs
 exact⟨_,h1,k _ F H (.refl k0) ⟨p,ks,rfl,k0.one.2.2,h2.imp λ_ _ z=>⟨z.1,Rp.mono k0.fh z.2⟩⟩⟩
theorem K7{m:Option Int}{m2:Option (Dc α)}(h:Ex B sl .hp t m)(h2:Ex B sl .hp t2 m2):Ex B sl md (Ke t t2) (m.bind λk=>m2.bind λd=>some (je d.kv k).isSome):=λc hc F O H σ Q s kk=>by
 obtain⟨k,d,e1,e2,e3⟩:=pZ hc
 cases e3
 refine h k e1 F O H σ _ s λv F' H' g r1=>?_
 refine h2 d e2 F' O H' σ _ (s.grow g) λw F2 H2 g2 r2=>?_
 cases r1
 obtain⟨p,ks,rfl,z1,z2⟩:=r2
 refine⟨p,_,rfl,pY.k (k:=abw k) z1,?_⟩
 have e:(h_ ks (abw k:Key)).isSome=(je d.kv k).isSome:=by
  rcases z2.val (k:=abw k) with⟨q1,q2⟩|⟨a,v,q1,q2,_⟩
  ·show _=(gK d.kv (abw k)).isSome;rw[q1,q2];rfl
  ·show _=(gK d.kv (abw k)).isSome;rw[q1,q2];rfl
 rw[e]
 exact kk _ F2 H2 (g.trans g2) rfl
theorem zRk{m:Option Int}{m2:Option (Dc α)}(h:Ex B sl .hp t m)(h2:Ex B sl .hp t2 m2):Ex B sl md (zO7 t t2) (m.bind λk=>m2.bind λd=>some !(je d.kv k).isSome):=λc hc F O H σ Q s kk=>by
 obtain⟨k,d,e1,e2,e3⟩:=pZ hc
 cases e3
 refine h k e1 F O H σ _ s λv F' H' g r1=>?_
 refine h2 d e2 F' O H' σ _ (s.grow g) λw F2 H2 g2 r2=>?_
 cases r1
 obtain⟨p,ks,rfl,z1,z2⟩:=r2
 refine⟨p,_,rfl,pY.k (k:=abw k) z1,?_⟩
 have e:(h_ ks (abw k:Key)).isSome=(je d.kv k).isSome:=by
  rcases z2.val (k:=abw k) with⟨q1,q2⟩|⟨a,v,q1,q2,_⟩
  ·show _=(gK d.kv (abw k)).isSome;rw[q1,q2];rfl
  ·show _=(gK d.kv (abw k)).isSome;rw[q1,q2];rfl
 rw[e]
 exact kk _ F2 H2 (g.trans g2) rfl
theorem zPe{kvs:List (Key×α)}{m:Option α}{mi:Option Int}{te ti:TE}(i:Nat)(hs:sl[i]?=some (.od kvs))(hh:sl.all (λs=>!cR s)=true)(hv:Ex B sl .fz te m)(hi:Ex B sl .hp ti mi) :
  Sn B sl (Ac (bT i) ti te) (λys=>sl.set i (.od ys)) (m.bind λa=>mi.bind λk=>dput kvs k a):=λys ha G D σ H s k=>by
 obtain⟨a,ix,e1,e2,e3⟩:=pZ ha
 unfold dput at e3
 split at e3
 case isFalse=>cases e3
 rename_i hl
 cases e3
 obtain⟨F,O,g,z⟩:=s
 refine hv a e1 F O H σ _ z λv F' H' gr r=>?_
 obtain⟨p,ks,h1,h2,h3,_⟩:=(z.grow gr).Ef hs hh
 refine⟨_,h1,?_⟩
 refine hi ix e2 F' O H' σ _ (z.grow gr) λw F2 H2 tL rw=>?_
 cases rw
 obtain⟨p',ks',h1',h2',h3',h4'⟩:=((z.grow gr).grow tL).Ef hs hh
 have e:=h1.symm.trans h1'
 cases e
 obtain⟨O',z'⟩:=h4' (putK ks' (abw ix) v) (pK kvs (abw ix) a) (h3'.put (Rp.mono tL.ff r))
 exact⟨p,_,rfl,uq.k (k:=abw ix) h2' (yr (by rw[h3'.len];exact hl)),k _ _ ⟨F2,O',(g.trans gr.ff).trans tL.ff,z'⟩⟩
end
end Ts
namespace L2
open PySem PySem.Spec PyProof.Rows
def Itd(lo:Int)(n:Nat):It:=⟨λi _=>i<n,λi H x H'=>H'=H/\x=.int (lo-i),λi _=>n<=i⟩
theorem zO3{P:Program}{w:World}{K:PySem.W.Frag}{tg:Expr}(it:Addr)(lo:Int)(n:Nat):Turn P w K tg (Itd lo n) [it] it (λi h=>IsRangeIter h it (lo+(i:Nat)*(-1)) ((n:Int)-(i:Nat)) (-1)) where
 mem:=mem_singleton.mpr rfl
 obj:=λi h st b hb=>by
  have e:b=it:=mem_singleton.mp hb
  subst e
  refine⟨_,st,λv z=>?_⟩
  have z':ae1 _=afb v:=z
  cases z'
 keep:=λi h h' st k=>k it (mem_singleton.mpr rfl) _ st
 item:=by
  intro X hP hw hK hc i pins s σ H E I hf st hg
  subst hP hw hK
  obtain⟨f0,f1,f2,f3,f4,f5⟩:=hf it (mem_singleton.mpr rfl)
  have Wk:=Walks.range (prog:=X.prog) (w:=X.w) (I.ok.hd hc) it lo (-1) n
  refine Wk.item i s _ _ hg st λv h' tk hv st' kk=>?_
  obtain⟨t,rfl⟩:=hv
  have I1:Inv X pins σ H { s with heap:=h',toks:=tk }:=I.turned (λb o hb e=>kk b o (λz=>hb (mem_singleton.mp z)) e) f0 f1 f3 f4 f5
  refine⟨_,rfl,JX (s:={ s with heap:=h',toks:=tk }) (n:="range_iterator") st' rfl rfl (by decide) ⟨.int (lo-i),H,I1,⟨t,?_⟩,⟨rfl,rfl⟩,st',λb hb=>(hf b hb).1⟩⟩
  rw[show lo+(i:Int)*(-1)=lo-i by omega]
 done:=by
  intro X hP hw hK hc i pins s σ H E I hf st hg
  subst hP hw hK
  obtain⟨f0,f1,f2,f3,f4,f5⟩:=hf it (mem_singleton.mpr rfl)
  refine wpAny_pyNext_range_end (I.ok.hd hc) st ?_ λh' eb=>⟨rfl,I.turned (t':=s.toks) (λb o hb e=>eb b o hb e) f0 f1 f3 f4 f5⟩
  have:n<=i:=hg
  omega
 self:=λ_ _ _ _ _ st h=>aep st h
section
variable{X:Cx}{tg:Expr}
end
end L2
namespace Ts
open PySem L2
section
variable{K:PySem.W.Frag}{B:Bs}{sl:SL K}{t1 t2 t3:TE}{n:Bool}
theorem E_(h:((abg k).map λj=>a-adi j)[i]?=some x):i<k/\x=a-i:=by
 rw[getElem?_map] at h
 by_cases q:i<k
 ·rw[getElem?_range q] at h;cases h;exact⟨q,rfl⟩
 ·rw[abq (by rw[length_range];omega)] at h;cases h
end
section
variable{K:PySem.W.Frag}{B:Bs}{sl:SL K}{md:Md}{t:TE}{u:TS}{al:Bool}{α:Type}[Rp K α]
abbrev R7:List V->Hp->VK->Prop:=λxs H Q=>(∃i,xs=[.int i]/\Q (.int i) H)\/∃k,xs=[.bl k]/\Q (.int (if k then 1 else 0)) H
theorem Fb(h:Ex B sl .hp t m):Ex B sl md (tu R7 (yJ t bh)) (m.bind λb=>some (if b=true then(1:Int) else 0)):=λc hc F O H σ Q s k=>by
 cases m with
 |none=>cases hc
 |some b =>
  cases(show some (if b=true then(1:Int) else 0)=some c from hc)
  refine h b rfl F O H σ _ s λv F' H' g r1=>?_
  cases r1
  exact .inr ⟨b,rfl,k _ F' H' g rfl⟩
end
end Ts
namespace L2
open PySem PySem.Spec PyProof.Rows
section
variable{X:Cx}
end
end L2
namespace Ts
open PySem L2
section
variable{K:PySem.W.Frag}{B:Bs}{sl:SL K}{md:Md}{t:TE}{α:Type}[Rp K α]
variable{S:Type}{n:Bool}{tb:TS}
end
end Ts
namespace L2
open PySem
open PySem PySem.Spec PyProof.Rows
def Its(x:Str):It:=⟨λi _=>i<x.cps.size,λi H v H'=>H'=H/\∃c,x.cps[i]?=some c/\v=.str ⟨#[c]⟩,λi _=>x.cps.size<=i⟩
theorem zNa{P:Program}{w:World}{K:PySem.W.Frag}{tg:Expr}(it:Addr)(x:Str)(t:Tok):Turn P w K tg (Its x) [it] it (λi h=>h.IsStrIter it "str_ascii_iterator" x t i) where
 mem:=mem_singleton.mpr rfl
 obj:=λi h st b hb=>by
  have e:b=it:=mem_singleton.mp hb
  subst e
  obtain⟨o,ho,hc,hd⟩:=st
  refine⟨o,ho,λv z=>?_⟩
  rw[hd] at z
  cases z
 keep:=λi h h' st k=>by
  obtain⟨o,ho,r⟩:=st
  exact⟨o,k it (mem_singleton.mpr rfl) _ ho,r⟩
 item:=by
  intro X hP hw hK hc i pins s σ H E I hf st hg
  subst hP hw hK
  obtain⟨f0,f1,f2,f3,f4,f5⟩:=hf it (mem_singleton.mpr rfl)
  refine(Walks.strAscii (prog:=X.prog) (w:=X.w) (I.ok.hd hc) it x t).item i s _ _ hg st λv h' tk hv st' kk=>?_
  obtain⟨c,u,hx,rfl⟩:=hv
  have I1:Inv X pins σ H { s with heap:=h',toks:=tk }:=I.turned (λb o hb e=>kk b o (λz=>hb (mem_singleton.mp z)) e) f0 f1 f3 f4 f5
  obtain⟨o,ho,hc,hd⟩:=id st'
  exact⟨_,rfl,JX (s:={ s with heap:=h',toks:=tk }) (n:="str_ascii_iterator") ho hc hd (by decide) ⟨.str ⟨#[c]⟩,H,I1,⟨u,rfl⟩,⟨rfl,c,hx,rfl⟩,st',λb hb=>(hf b hb).1⟩⟩
 done:=by
  intro X hP hw hK hc i pins s σ H E I hf st hg
  subst hP hw hK
  obtain⟨f0,f1,f2,f3,f4,f5⟩:=hf it (mem_singleton.mpr rfl)
  exact wpAny_pyNext_ascii_end (I.ok.hd hc) st (aby hg) λh' eb=>⟨rfl,I.turned (t':=s.toks) (λb o hb e=>eb b o hb e) f0 f1 f3 f4 f5⟩
 self:=λ_ _ _ _ _ st h=>wpAny_pyIter_striter_ascii st h
theorem zO0{P:Program}{w:World}{K:PySem.W.Frag}{tg:Expr}(it:Addr)(x:Str)(t:Tok):Turn P w K tg (Its x) [it] it (λi h=>h.IsStrIter it "str_iterator" x t i) where
 mem:=mem_singleton.mpr rfl
 obj:=λi h st b hb=>by
  have e:b=it:=mem_singleton.mp hb
  subst e
  obtain⟨o,ho,hc,hd⟩:=st
  refine⟨o,ho,λv z=>?_⟩
  rw[hd] at z
  cases z
 keep:=λi h h' st k=>by
  obtain⟨o,ho,r⟩:=st
  exact⟨o,k it (mem_singleton.mpr rfl) _ ho,r⟩
 item:=by
  intro X hP hw hK hc i pins s σ H E I hf st hg
  subst hP hw hK
  obtain⟨f0,f1,f2,f3,f4,f5⟩:=hf it (mem_singleton.mpr rfl)
  refine(Walks.strWide (prog:=X.prog) (w:=X.w) (I.ok.hd hc) it x t).item i s _ _ hg st λv h' tk hv st' kk=>?_
  obtain⟨c,u,hx,rfl⟩:=hv
  have I1:Inv X pins σ H { s with heap:=h',toks:=tk }:=I.turned (λb o hb e=>kk b o (λz=>hb (mem_singleton.mp z)) e) f0 f1 f3 f4 f5
  obtain⟨o,ho,hc,hd⟩:=id st'
  exact⟨_,rfl,JX (s:={ s with heap:=h',toks:=tk }) (n:="str_iterator") ho hc hd (by decide) ⟨.str ⟨#[c]⟩,H,I1,⟨u,rfl⟩,⟨rfl,c,hx,rfl⟩,st',λb hb=>(hf b hb).1⟩⟩
 done:=by
  intro X hP hw hK hc i pins s σ H E I hf st hg
  subst hP hw hK
  obtain⟨f0,f1,f2,f3,f4,f5⟩:=hf it (mem_singleton.mpr rfl)
  exact wpAny_pyNext_wide_end (I.ok.hd hc) st (aby hg) λh' eb=>⟨rfl,I.turned (t':=s.toks) (λb o hb e=>eb b o hb e) f0 f1 f3 f4 f5⟩
 self:=λ_ _ _ _ _ st h=>wpAny_pyIter_striter_wide st h
section
variable{X:Cx}{tg:Expr}
def R8(tl:TE):TI:=λσ H R=>tl σ H λx H1=>∃y,x=.str y/\R (Its y) H1
theorem K8(hl:PE X l tl):PI X tg l (R8 tl):=by
 intro pins s σ H R I h
 refine aP (hl pins s σ H _ I h) λv s1 ⟨x,H1,I1,r1,q1⟩=>?_
 obtain⟨y,e,q⟩:=q1
 subst e
 obtain⟨t,rfl⟩:=r1
 have fp:∀b∈[s1.heap.objs.size],kE X pins H1 b:=λb hb=>by
  have e:b=s1.heap.objs.size:=mem_singleton.mp hb
  subst e
  exact I1.jQ (aa0 _) (I1.hok.fresh (aa0 _))
 cases ha:y.cps.all (· < 128)
 ·exact wpAny_pyIter_wide ha ⟨s1.heap.objs.size,[s1.heap.objs.size],_,_,H1,rfl,I1.kept (t':=s1.toks) λb o e=>get?_push_of_some _ e,zO0 _ y t,⟨_,get?_push_size _ rfl,rfl,rfl⟩,fp,q⟩
 ·exact wpAny_pyIter_ascii ha ⟨s1.heap.objs.size,[s1.heap.objs.size],_,_,H1,rfl,I1.kept (t':=s1.toks) λb o e=>get?_push_of_some _ e,zNa _ y t,⟨_,get?_push_size _ rfl,rfl,rfl⟩,fp,q⟩
end
end L2
namespace Ts
open PySem L2
section
variable{K:PySem.W.Frag}{B:Bs}{sl:SL K}{md:Md}{t ta tb tc:TE}{n:Bool}
def R9(x:Str):List Str:=x.cps.toList.map λc=>(⟨#[c]⟩:Str)
theorem K9(h:Ex B sl .hp t mi):Ei B sl n (R8 t) (mi.bind λx=>some (R9 x)):=λxs hx F O H σ R a k=>by
 cases mi with
 |none=>cases hx
 |some x =>
  cases(show some (R9 x)=some xs from hx)
  refine h x rfl F O H σ _ a λv F' H' gr r=>?_
  cases r
  refine⟨x,rfl,k _ F' H' gr λi F2 O2 H2 sf k2=>⟨λhl=>?_,λy hy=>?_⟩⟩
  ·show x.cps.size<=i
   unfold R9 at hl
   rw[length_map,length_toList] at hl
   exact hl
  ·unfold R9 at hy
   rw[getElem?_map,getElem?_toList] at hy
   cases e:x.cps[i]? with
   |none=>rw[e] at hy;cases hy
   |some c =>
    rw[e] at hy
    cases hy
    have hi:i<x.cps.size:=(Array.getElem?_eq_some_iff.mp e).1
    refine⟨hi,λv H3 yd=>?_⟩
    obtain⟨rfl,c',e',rfl⟩:=yd
    rw[e] at e'
    cases e'
    exact⟨F2,.refl k2,rfl⟩
theorem zMf{f g:Int->Int->Bool}(h1:Ex B sl .hp ta m1)(h2:Ex B sl .hp tb m2)(h3:Ex B sl .hp tc m3) :
  Ex B sl md (zVj (rN λi j=>.bl (f i j)) (rN λi j=>.bl (g i j)) ta tb tc) (m1.bind λa=>m2.bind λb=>if f a b=true then m3.bind λc=>some (g b c) else some false):=λd hd F O H σ Q s k=>by
 obtain⟨a,b,e1,e2,e3⟩:=pZ hd
 refine h1 a e1 F O H σ _ s λv F' H' g1 r1=>?_
 refine h2 b e2 F' O H' σ _ (s.grow g1) λw F2 H2 g2 r2=>?_
 cases r1
 cases r2
 refine⟨a,b,rfl,rfl,_,rfl,?_⟩
 by_cases q:f a b=true
 ·rw[if_pos q] at e3 ⊢
  cases m3 with
  |none=>cases e3
  |some c =>
   cases(show some (g b c)=some d from e3)
   refine h3 c rfl F2 O H2 σ _ ((s.grow g1).grow g2) λu F3 H3 g3 r3=>?_
   cases r3
   exact⟨b,c,rfl,rfl,k _ F3 H3 ((g1.trans g2).trans g3) rfl⟩
 ·rw[if_neg q] at e3 ⊢
  cases e3
  exact k _ F2 H2 (g1.trans g2) rfl
def Ih:List V->Hp->VK->Prop:=λxs H Q=>∃x:Str,xs=[.str x]/\x.length<cap/\Q (.int x.length) H
theorem zSb:rK X (.builtin "len") Ih:=by
 intro pins s σ H xs us Q I r h
 obtain⟨x,rfl,hl,q⟩:=h
 exact zU2 pins s σ H _ us Q I r ⟨_,_,rfl,⟨acf (yr hl),rfl⟩,q⟩
def Fd(x:Str):Option Int:=if x.length<cap then some (x.length:Int) else none
theorem Fe(h:Ex B sl .hp t m):Ex B sl md (tu Ih (yJ t bh)) (m.bind Fd):=λc hc F O H σ Q s k=>by
 cases m with
 |none=>cases hc
 |some x =>
  have hc:Fd x=some c:=hc
  unfold Fd at hc
  split at hc
  case isFalse=>cases hc
  rename_i hl
  cases hc
  refine h x rfl F O H σ _ s λv F' H' g r1=>?_
  cases r1
  exact⟨x,rfl,hl,k _ F' H' g rfl⟩
def Zc(i j:Str):Bool:=!(aef j i 0 j.length 1).isEmpty
abbrev Zd:R2:=λx y H Q=>∃i j,x=.str i/\y=.str j/\Q (.bl (!(aef j i 0 j.length 1).isEmpty)) H
theorem K_(h1:Ex B sl .hp ta m1)(h2:Ex B sl .hp tb m2):Ex B sl md (jR Zd ta tb) (m1.bind λa=>m2.bind λb=>some (Zc a b)) :=
 Eb (f:=λa b=>some (Zc a b)) (λa b c v w H Q e r1 r2 q=>by
  cases e
  cases r1
  cases r2
  exact⟨a,b,rfl,rfl,q⟩) h1 h2
theorem La{ws:List Str}(hT:∀H,cu K H p (ws.map V.str))(h:Ex B sl .hp t m):Ex B sl md (jR (VB K false) t (tC (.ref p))) (m.bind λx=>some (decide (x∈ws))):=λc hc F O H σ Q s k=>by
 cases m with
 |none=>cases hc
 |some x =>
  cases(show some (decide (x∈ws))=some c from hc)
  refine h x rfl F O H σ _ s λv F' H' g r1=>?_
  cases r1
  refine⟨p,_,rfl,.inr (hT H'),Fl.flat (K:=K) x,zRd (K:=K) ws,?_⟩
  have:=YX (K:=K) x ws
  simp only[aa9,if_false]
  rw[show inV (V.str x) (ws.map V.str)=decide (x∈ws) from this]
  exact k _ F' H' g rfl
end
section
variable{P:Program}{w:World}{K:PySem.W.Frag}{mg:Str->Option Value}{base:Heap}{B:Bs}{sl:SL K}{al:Bool}{S β:Type}[Rp K β]
theorem Py:Sn B sl zVh L none:=λa ha=>by cases ha
theorem Wd{A:Type}{as:A->SL K}{fM:A->Option Unit}(F:aZ K x qual st f fd)(S:ao N ps (zH st))(hf:∀a,(as a).all isF=true)(hl:∀a,(as a).length=ps.length)(hb:∀(cdv:Value) (A:Around) (outer:List Env) (s:Shared) (H:Hp) (E:XK),bQ k (A.deeper (ad4 qual (zH st) s.heap.objs.size f cdv)) ->
   ∃t,qz (oM aM P w K mg base N qual (zH st) f cdv A outer s H E).Dg (wF st) t/\∀Fa a,∃L:Unit->SL K,Sn ⟨Fa,H⟩ (as a++replicate (N.length-ps.length) .un) t L (fM a)) :
  aq P w K mg base aM (k+1) f fd ps (cN K al as fM) :=
 F.ok S (λvs H Q E h=>zVk hl h) λcdv A outer s H vs Q E hr h=>by
  obtain⟨t,p,q⟩:=hb cdv A outer s H E hr
  refine⟨t,p,?_⟩
  obtain⟨a,b,Fa,s,hfa,r,kk⟩:=h
  have e:L2.start N vs=vs.map some++replicate (N.length-ps.length) none:=by
   unfold L2.start
   rw[r.len,hl]
  rw[e]
  obtain⟨L,q⟩:=q Fa a
  exact q b hfa Fa _ _ H ⟨Fa,[],.refl _,⟨s,.refl _,λb o h=>.inl h,λx hx=>(by cases hx),(by simp)⟩,zEr _ (hf a) r⟩ λσ' H' ⟨F',O',g,a'⟩=>kk .non H' a'.1.h0 rfl
def Lb(a:Str)(i:Int):Option Str:=if i.natAbs.log2<1920 then some (a++ad0 (toString i)) else none
def Pz(a z:Str):Option Str:=if z.length<=1000 then some (a++z) else none
theorem zV7(a:Str)(h:Ex B sl .hp t m):Ex B sl md (Yz a t) (m.bind (Lb a)):=λc hc F O H σ Q s k=>by
 cases m with
 |none=>cases hc
 |some i =>
  have hc:Lb a i=some c:=hc
  unfold Lb at hc
  split at hc
  case isFalse=>cases hc
  rename_i hl
  cases hc
  refine h i rfl F O H σ _ s λv F' H' g r1=>?_
  cases r1
  exact .inl ⟨i,rfl,hl,k _ F' H' g rfl⟩
theorem Ld(a:Str)(h:Ex B sl .hp t m):Ex B sl md (Yz a t) (m.bind (Pz a)):=λc hc F O H σ Q s k=>by
 cases m with
 |none=>cases hc
 |some i =>
  have hc:Pz a i=some c:=hc
  unfold Pz at hc
  split at hc
  case isFalse=>cases hc
  rename_i hl
  cases hc
  refine h i rfl F O H σ _ s λv F' H' g r1=>?_
  cases r1
  exact .inr ⟨i,rfl,hl,k _ F' H' g rfl⟩
theorem R_:kitOne K (.type "str") (.type "str")=some true:=rfl
theorem Lf:bootBuiltins "str" = some (.type "str"):=by decide +kernel
end
section
variable{β:Type}
abbrev Ii(kvs:List (Key×β))(k:Str):Option β:=gK kvs (acg k)
def Sd(kvs:List (Key×β))(k:Str)(v:β):Option (List (Key×β)):=if kvs.length<cap then some (pK kvs (acg k) v) else none
end
section
variable{K:PySem.W.Frag}{α:Type}[Rp K α]
variable{B:Bs}{sl:SL K}{md:Md}{t t2:TE}{F H G:Hp}{O:Own}{σ:St}{u:TS}{al:Bool}
theorem Fg{m:Option Str}{m2:Option (Dc α)}(h:Ex B sl .hp t m)(h2:Ex B sl .hp t2 m2):Ex B sl md (Ke t t2) (m.bind λk=>m2.bind λd=>some (Ii d.kv k).isSome):=λc hc F O H σ Q s kk=>by
 obtain⟨k,d,e1,e2,e3⟩:=pZ hc
 cases e3
 refine h k e1 F O H σ _ s λv F' H' g r1=>?_
 refine h2 d e2 F' O H' σ _ (s.grow g) λw F2 H2 g2 r2=>?_
 cases r1
 obtain⟨p,ks,rfl,z1,z2⟩:=r2
 refine⟨p,_,rfl,pY.k (k:=acg k) z1,?_⟩
 have e:(h_ ks (acg k:Key)).isSome=(Ii d.kv k).isSome:=by
  rcases z2.val (k:=acg k) with⟨q1,q2⟩|⟨a,v,q1,q2,_⟩
  ·show _=(gK d.kv (acg k)).isSome;rw[q1,q2];rfl
  ·show _=(gK d.kv (acg k)).isSome;rw[q1,q2];rfl
 rw[e]
 exact kk _ F2 H2 (g.trans g2) rfl
theorem zTg{kvs:List (Key×α)}{m:Option α}{mi:Option Str}{te ti:TE}(i:Nat)(hs:sl[i]?=some (.od kvs))(hh:sl.all (λs=>!cR s)=true)(hv:Ex B sl .fz te m)(hi:Ex B sl .hp ti mi) :
  Sn B sl (Ac (bT i) ti te) (λys=>sl.set i (.od ys)) (m.bind λa=>mi.bind λk=>Sd kvs k a):=λys ha G D σ H s k=>by
 obtain⟨a,ix,e1,e2,e3⟩:=pZ ha
 unfold Sd at e3
 split at e3
 case isFalse=>cases e3
 rename_i hl
 cases e3
 obtain⟨F,O,g,z⟩:=s
 refine hv a e1 F O H σ _ z λv F' H' gr r=>?_
 obtain⟨p,ks,h1,h2,h3,_⟩:=(z.grow gr).Ef hs hh
 refine⟨_,h1,?_⟩
 refine hi ix e2 F' O H' σ _ (z.grow gr) λw F2 H2 tL rw=>?_
 cases rw
 obtain⟨p',ks',h1',h2',h3',h4'⟩:=((z.grow gr).grow tL).Ef hs hh
 have e:=h1.symm.trans h1'
 cases e
 obtain⟨O',z'⟩:=h4' (putK ks' (acg ix) v) (pK kvs (acg ix) a) (h3'.put (Rp.mono tL.ff r))
 exact⟨p,_,rfl,uq.k (k:=acg ix) h2' (yr (by rw[h3'.len];exact hl)),k _ _ ⟨F2,O',(g.trans gr.ff).trans tL.ff,z'⟩⟩
end
abbrev LLI:=List LI
abbrev Cz:=List (Str×LI)
structure iu(p:Addr) where
 u:Unit
def Wf(C:Addr)(fS:LLI->Option Unit)(fM:Cz->Int->Option Unit)(fF:LLI->Int->Option Unit)(fC fO:LLI->Option LLI)(xss:LLI)(mo:Option Cz)(fo:Option LLI):Option (aF C) :=
 (fS xss).bind λ_=>(fM (mo.getD []) (xss.length:Int)).bind λ_=>(fF (fo.getD []) (xss.length:Int)).bind λ_=>(fC xss).bind λa=>(uB (λ_=>some true) (λx:Str×LI=>some (x.1,x.2)) (mo.getD [])).bind λb =>
  (fC (fo.getD [])).bind λc=>(fO a).bind λd=>some ⟨a,b,c,d⟩
theorem CG{α β:Type}{m:Option α}{f:α->Option β}{b:β}(h:m.bind f=some b):∃a,m=some a/\f a=some b:=by
 cases m with
 |none=>cases h
 |some a=>exact⟨a,rfl,h⟩
section
variable{K:PySem.W.Frag}{C:Addr}{B:Bs}{sl:SL K}{F H:Hp}{O:Own}{σ:St}
instance:Rp K (iu p):=⟨λ_ v _=>v=.ref p,λ_ h=>h⟩
def Sh(K:PySem.W.Frag)(C:Addr)(mk:LLI->Option Cz->Option LLI->Option (aF C)):Sp:=λvs H Q _=>∃(p dx:Addr)(vS vM vF:V)(xss:LLI)(mo:Option Cz)(fo:Option LLI)(M:aF C),vs=[.ref p,vS,vM,vF]/\H p=some (.ins C dx []) /\
 rp K (hid H p) vS xss/\rp K (hid H p) vM mo/\rp K (hid H p) vF fo/\mk xss mo fo=some M/\∀H':Hp,(∀b o,b≠p->H b=some o->H' b=some o)->rp K (dif H' (hid H p)) (.ref p) M->Q .non H'
variable{mk:LLI->Option Cz->Option LLI->Option (aF C)}
theorem zTd{H1:Hp}{x dx:Addr}(nx:H1 x=none)(ndx:H1 dx=none){vS vM vF:V}{xss:LLI}{mo:Option Cz}{fo:Option LLI}{c:aF C}(rS:rp K H1 vS xss)(rM:rp K H1 vM mo)(rF:rp K H1 vF fo)(hc:mk xss mo fo=some c){Q:VK}{E:XK}(k:∀H2:Hp,Same H1 H2->rp K (dif H2 H1) (.ref x) c->Q (.ref x) H2):Sh K C mk [.ref x,vS,vM,vF] (upd (upd H1 dx (.own x)) x (.ins C dx [])) (λv H2=>v=.non/\Q (.ref x) H2) E:=by
 have sG:Same H1 (upd (upd H1 dx (.own x)) x (.ins C dx [])):=λb o e=>by rw[zP (zL e nx),zP (zL e ndx)];exact e
 have sh:Same H1 (hid (upd (upd H1 dx (.own x)) x (.ins C dx [])) x):=λb o e=>by
  unfold hid
  rw[if_neg (zL e nx)]
  exact sG b o e
 refine⟨x,dx,vS,vM,vF,xss,mo,fo,c,rfl,zJ,Rp.mono sh rS,Rp.mono sh rM,Rp.mono sh rF,hc,λH2 kp r2=>⟨rfl,?_⟩⟩
 refine k H2 (λb o e=>kp b o (zL e nx) (sG b o e)) (Rp.mono (λb o e=>?_) r2)
 have hb:H1 b=none:=by
  cases q:H1 b with
  |none=>rfl
  |some u =>
   have:hid (upd (upd H1 dx (.own x)) x (.ins C dx [])) x b=some u:=sh b u q
   unfold dif at e
   rw[this] at e
   cases e
 rw[xW hb]
 exact aQ _ _ e
theorem Ze(h1:Ex B sl .hp t1 m1)(h2:Ex B sl .hp t2 m2)(h3:Ex B sl .hp t3 m3) :
  En B sl (QX C (Sh K C mk) [] E0 (yJ t1 (yJ t2 (yJ t3 bh)))) (m1.bind λa=>m2.bind λb=>m3.bind λc=>mk a (some b) (some c)):=λc hc F O H σ Q s kk=>by
 obtain⟨a,rfl,hc⟩:=CG (m:=m1) hc
 obtain⟨b,rfl,hc⟩:=CG (m:=m2) hc
 obtain⟨d,rfl,hc⟩:=CG (m:=m3) hc
 refine h1 a rfl F O H σ _ s λv1 F1 H1 g1 r1=>?_
 refine h2 b rfl F1 O H1 σ _ (s.grow g1) λv2 F2 H2 g2 r2=>?_
 refine h3 d rfl F2 O H2 σ _ ((s.grow g1).grow g2) λv3 F3 H3 g3 r3=>?_
 intro x dx nx ndx nex
 have r2':rp K H2 v2 b:=r2
 have r3':rp K H3 v3 d:=r3
 exact zTd nx ndx (Rp.mono (g2.hh.trans g3.hh) r1) (show rp K H3 v2 (some b) from⟨Nn.nn (K:=K) r2',Rp.mono g3.hh r2⟩) (show rp K H3 v3 (some d) from⟨Nn.nn (K:=K) r3',r3⟩) hc λH4 s4 r4=>kk _ F3 H3 H4 (g1.trans (g2.trans g3)) s4 r4
theorem Lg(h:b≠p):hid H p b=H b:=by unfold hid;rw[if_neg h]
theorem PB:hid H p p=none:=by unfold hid;rw[if_pos rfl]
theorem Sq:Same (hid H p) H:=λb o e=>by
 by_cases q:b=p
 ·subst q;rw[PB] at e;cases e
 ·rw[Lg q] at e;exact e
theorem PJ(s:Same H H'):Same (hid H p) (hid H' p):=λb o e=>by
 by_cases q:b=p
 ·subst q;rw[PB] at e;cases e
 ·rw[Lg q] at e ⊢;exact s b o e
theorem Ij:hid (upd H p o) p=hid H p:=by
 funext b
 by_cases q:b=p
 ·subst q;rw[PB,PB]
 ·rw[Lg q,Lg q,zP q]
theorem Wg(kp:∀b o,b≠p->H b=some o->Hi b=some o)(hp:Hi p≠none):Same (dif H' Hi) (dif (hid H' p) (hid H p)):=λb o e=>by
 have hb:Hi b=none:=by
  cases q:Hi b with
  |none=>rfl
  |some u=>unfold dif at e;rw[q] at e;cases e
 have nb:b≠p:=λq=>hp (by rw[<-q];exact hb)
 rw[xW hb] at e
 have h0:hid H p b=none:=by
  rw[Lg nb]
  cases q:H b with
  |none=>rfl
  |some u=>rw[kp b u nb q] at hb;cases hb
 rw[xW h0,Lg nb]
 exact e
theorem zWg(hs:ak (K:=K) ⟨hid Hi p,Hi⟩ (hid Hi p) (lo (hid Hi p) [] Hi) Hi sl σ []):At (K:=K) ⟨hid Hi p,Hi⟩ sl (hid Hi p) [] Hi σ :=
 ⟨⟨Sq,.refl _,λb o h=>.inl h,λx hx=>(by cases hx),by simp⟩,hs⟩
end
end Ts
namespace qM
open PySem
def Rz(xs:Array Nat):Prop:=∀i k a b:Nat,i<k->xs[i]?=some a->xs[k]?=some b->a<b
theorem Zf(hr:Rz xs):∀(fuel lo hi:Nat),hi-lo<=fuel->lo<=hi->hi<=xs.size->(∀i a,i<lo->xs[i]?=some a->a<j)->(∀i a,hi<=i->xs[i]?=some a->j<=a) ->
  (below.go xs j fuel lo hi)<=xs.size/\(∀i a,i<below.go xs j fuel lo hi->xs[i]?=some a->a<j)/\(∀i a,below.go xs j fuel lo hi<=i->xs[i]?=some a->j<=a)
 |0,lo,hi,hf,hl,hz,h1,h2=>by
  have e:lo=hi:=by omega
  subst e
  unfold below.go
  exact⟨hz,h1,h2⟩
 |fuel+1,lo,hi,hf,hl,hz,h1,h2=>by
  unfold below.go
  by_cases hlt:lo<hi
  ·rw[if_pos hlt]
   have hm:(lo+hi)/2<hi:=by omega
   have hm0:lo<=(lo+hi)/2:=by omega
   have hms:(lo+hi)/2<xs.size:=by omega
   have e:xs.getD ((lo+hi)/2) j=xs[(lo+hi)/2]:=by simp[Array.getD,hms]
   dsimp only
   rw[e]
   by_cases hc:xs[(lo+hi)/2]<j
   ·rw[if_pos hc]
    refine Zf hr fuel _ hi (by omega) (by omega) hz (λi a hi' ha=>?_) h2
    by_cases hi2:i=(lo+hi)/2
    ·subst hi2
     rw[aa6 hms] at ha
     cases ha
     exact hc
    ·exact aek (hr i ((lo+hi)/2) a _ (by omega) ha (aa6 hms)) hc
   ·rw[if_neg hc]
    refine Zf hr fuel lo _ (by omega) (by omega) (by omega) h1 (λi a hi' ha=>?_)
    by_cases hi2:i=(lo+hi)/2
    ·subst hi2
     rw[aa6 hms] at ha
     cases ha
     omega
    ·have:=hr ((lo+hi)/2) i _ a (by omega) (aa6 hms) ha
     omega
  ·rw[if_neg hlt]
   have e:lo=hi:=by omega
   subst e
   exact⟨hz,h1,h2⟩
theorem Zg(hr:Rz xs)(j:Nat):below xs j<=xs.size/\(∀i a,i<below xs j->xs[i]?=some a->a<j)/\(∀i a,below xs j<=i->xs[i]?=some a->j<=a) :=
 Zf hr xs.size 0 xs.size (by omega) (abj _) (aa0 _) (λi a h=>absurd h (acr _)) (λi a h1 h2=>by
  rw[aby h1] at h2
  cases h2)
theorem Lh{α:Type}(xs:Array α)(p:Nat)(x:α)(hp:p<=xs.size)(i:Nat):(insertAt xs p x)[i]?=if i<p then xs[i]? else if i=p then some x else xs[i-1]?:=by
 have e:insertAt xs p x=(xs.toList.take p++x::xs.toList.drop p).toArray:=by
  unfold insertAt
  apply Array.ext'
  simp
  rw[take_of_length_le (by rw[length_drop,length_toList];exact aa0 _)]
 rw[e,getElem?_toArray]
 have hl:p<=xs.toList.length:=by simpa using hp
 by_cases h1:i<p
 ·rw[if_pos h1,getElem?_append_left (by rw[length_take];omega),getElem?_take_of_lt h1,getElem?_toList]
 ·rw[if_neg h1,getElem?_append_right (by rw[length_take];omega),length_take,Nat.min_eq_left hl]
  by_cases h2:i=p
  ·subst h2;simp
  ·rw[if_neg h2]
   obtain⟨k,rfl⟩:∃k,i=p+1+k:=⟨i-(p+1),by omega⟩
   rw[show p+1+k-p=k+1 by omega,List.getElem?_cons_succ,List.getElem?_drop,getElem?_toList]
   congr 1
   omega
theorem Li(hr:Rz xs)(hn:xs[below xs j]?≠some j):Rz (insertAt xs (below xs j) j):=by
 obtain⟨b1,b2,b3⟩:=Zg hr j
 intro i k a b hik ha hb
 rw[Lh _ _ _ b1] at ha hb
 generalize below xs j=p at *
 have up:∀m c,p<=m->xs[m]?=some c->j<c:=λm c hm hc=>by
  have h1:=b3 m c hm hc
  by_cases e:m=p
  ·subst e
   have:c≠j:=λz=>hn (by rw[hc,z])
   omega
  ·have hp:p<xs.size:=by
    have:m<xs.size:=by
     by_cases z:m<xs.size
     ·exact z
     ·rw[aby (by omega)] at hc;cases hc
    omega
   have h2:=hr p m _ c (by omega) (aa6 hp) hc
   have h3:=b3 p _ (aa0 _) (aa6 hp)
   omega
 by_cases i1:i<p
 ·rw[if_pos i1] at ha
  have ja:=b2 i a i1 ha
  by_cases k1:k<p
  ·rw[if_pos k1] at hb;exact hr i k a b hik ha hb
  ·rw[if_neg k1] at hb
   by_cases k2:k=p
   ·rw[if_pos k2] at hb;cases hb;exact ja
   ·rw[if_neg k2] at hb
    exact aek ja (up (k-1) b (by omega) hb)
 ·rw[if_neg i1] at ha
  have k1:¬k<p:=by omega
  have k2:¬k=p:=by omega
  rw[if_neg k1,if_neg k2] at hb
  by_cases i2:i=p
  ·rw[if_pos i2] at ha;cases ha;exact up (k-1) b (by omega) hb
  ·rw[if_neg i2] at ha
   exact hr (i-1) (k-1) a b (by omega) ha hb
def Free(t:SetTable)(j:Nat):Prop:=t.place[below t.place j]?≠some j
theorem zIb{t:SetTable}(h:∀i,t.slot j≠.live i):Free t j:=λe=>by
 refine h (below t.place j) ?_
 unfold SetTable.slot
 simp[e]
theorem Zh:∀(fuel:Nat)(p:SetTable.Probe)(j:Nat)(d:Option Nat),(∀d,p.dummy=some d->Free t d)->probe.go t f h fuel p=some (.empty j d)->Free t j/\∀e,d=some e->Free t e
 |0,p,j,d,hd,e=>by unfold probe.go at e;cases e
 |fuel+1,p,j,d,hd,e=>by
  have adv:∀q:SetTable.Probe,(t.advance q).dummy=q.dummy:=λq=>by
   unfold SetTable.advance
   split
   ·rfl
   ·rfl
  unfold probe.go at e
  cases hs:t.slot p.j with
  |empty =>
   rw[hs] at e
   cases e
   exact⟨zIb (λi z=>by rw[hs] at z;cases z),hd⟩
  |dummy =>
   rw[hs] at e
   refine Zh fuel _ j d (λd' h'=>?_) e
   rw[adv] at h'
   cases h'
   exact zIb λi z=>by rw[hs] at z;cases z
  |live i =>
   rw[hs] at e
   dsimp only at e
   split at e
   ·cases e
   ·exact Zh fuel _ j d (λd' h'=>hd d' (by rw[adv] at h';exact h')) e
theorem zHs{t:SetTable}(e:t.freeSlot h=some (j,b)):Free t j:=by
 unfold SetTable.freeSlot at e
 split at e
 ·rename_i j' d hp
  cases e
  have q:=Zh (t:=t) _ _ j' d (λd h'=>by cases h') hp
  cases d with
  |none=>exact q.1
  |some d=>exact q.2 d rfl
 ·cases e
structure Tb(led:Bool)(t:SetTable):Prop where
 led:t.led=led
 rz:t.plain=true->Rz t.place
theorem Wh(h:Tb led t)(n:Nat):Tb led (t.standIn n):=⟨h.led,λz=>by cases z⟩
theorem Ss(h:Tb led t)(n:Nat):Tb led (t.orStandIn n):=by
 unfold SetTable.orStandIn
 split
 ·exact h
 ·exact Wh h n
theorem Lj(hb:Tb led t)(es:Array (Int×Value))(h:Int)(x:Value):Tb led (layNew t es h x).2.1:=by
 unfold layNew
 cases e:t.freeSlot h with
 |none=>exact Wh hb _
 |some q =>
  obtain⟨j,b⟩:=q
  dsimp only
  refine Ss (t:=(t.put j).1) ⟨hb.led,λz=>?_⟩ _
  exact Li (hb.rz z) (zHs e)
theorem zIi(f:Nat->Option Nat)(n:Nat):Rz (((abg n).filterMap λj=>(f j).map (j,·)).map (·.1)).toArray:=by
 have hp:(((abg n).filterMap λj=>(f j).map (j,·)).map (·.1)).Pairwise (· < ·):=by
  rw[pairwise_map]
  refine Pairwise.filterMap _ ?_ (List.pairwise_lt_range (n:=n))
  intro a b hab x hx y hy
  cases ea:f a with
  |none=>rw[ea] at hx;cases hx
  |some u =>
   cases eb:f b with
   |none=>rw[eb] at hy;cases hy
   |some v =>
    rw[ea] at hx
    rw[eb] at hy
    cases hx
    cases hy
    exact hab
 intro i k a b hik ha hb
 rw[getElem?_toArray] at ha hb
 obtain⟨h1,e1⟩:=abb.mp ha
 obtain⟨h2,e2⟩:=abb.mp hb
 rw[<-e1,<-e2]
 exact List.pairwise_iff_getElem.mp hp i k h1 h2 hik
theorem zS5(hb:Tb led t)(es:Array (Int×Value))(n:Nat):Tb led (relayAll t es n).2.1:=by
 unfold relayAll
 cases e:t.relaid (es.map (·.1)) n with
 |none=>exact Wh hb _
 |some q =>
  obtain⟨t',order⟩:=q
  dsimp only
  split
  ·unfold SetTable.relaid SetTable.laid at e
   cases e2:SetTable.layClean (SetTable.sizeAbove n-1) (es.map (·.1)) with
   |none=>rw[e2] at e;cases e
   |some owner =>
    rw[e2] at e
    cases e
    exact⟨hb.led,λ_=>zIi _ _⟩
  ·exact Wh hb _
theorem zS6(led:Bool):Tb led (.fresh 0 0 led):=⟨rfl,λ_=>λi k a b _ h _=>by
 have:(#[]:Array Nat)[i]?=some a:=h
 simp at this⟩
section
variable{prog:Program}{w:World}{κ:Type}[DecidableEq κ](knd:KeyKind prog w κ)(dec:Value->κ)
def Good(led:Bool)(h:Heap)(a:Addr)(ks:List κ):Prop :=
 ∃o es ep t,h.get? a=some o/\o.ExactSet/\o.data=.set es ep t/\ElemsOf knd es.toList/\(es.toList.map λe=>dec e.2).Perm ks/\ks.Nodup/\es.size<scanBound/\t.fits es.size=true/\Tb led t
variable{knd}{dec}{led:Bool}{A:Around}{E:Value->Shared->Prop}{s:Shared}
theorem Good.len(g:Good knd dec led h a ks):ks.length<scanBound:=by
 obtain⟨o,es,ep,t,_,_,_,_,p,_,hb,_⟩:=g
 rw[<-p.length_eq,length_map,length_toList]
 exact hb
theorem Good.keep{h':Heap}(g:Good knd dec led h a ks)(k:∀o,h.get? a=some o->h'.get? a=some o):Good knd dec led h' a ks:=by
 obtain⟨o,es,ep,t,h1,rest⟩:=g
 exact⟨o,es,ep,t,k _ h1,rest⟩
theorem zI5(hdec:∀k v,knd.is k v=true->dec v=k)(hel:ElemsOf knd es)(k:κ):es.findIdx? (λe=>knd.is k e.2)=none↔k∉es.map λe=>dec e.2:=by
 rw[List.findIdx?_eq_none_iff]
 constructor
 ·intro h hm
  obtain⟨e,he,rfl⟩:=mem_map.mp hm
  obtain⟨⟨k',hk,_⟩,_⟩:=hel e he
  have:=h e he
  rw[hdec k' _ hk,hk] at this
  cases this
 ·intro h e he
  cases q:knd.is k e.2 with
  |false=>rfl
  |true=>exact absurd (mem_map.mpr ⟨e,he,hdec _ _ q⟩) h
theorem Ik{h:Heap}(ho:h.get? a=some o)(hd:o.data=.set es ep t):(h.update a (afx es' t')).get? a=some { o with data:=.set es' (ep+1) t' }:=by
 have q:=get?_update_self (afx es' t') ho (by rw[putSet_of es' t' hd];rfl)
 rw[putSet_of es' t' hd] at q
 exact q
theorem Zi{Q:Unit->Shared->Prop}(h:Q () s1):wpAny (model prog w) A (match b with|true=>rule "set.scan.the-table-gave-way" | false=>pure ()) Q E s1:=by
 cases b
 ·exact aax h
 ·exact aee h
theorem zMs{g:Bool->Sem Unit}(hg:∀(b:Bool) (s₁:Shared) (Q':Unit->Shared->Prop),Q' () s₁->wpAny (model prog w) A (g b) Q' E s₁){es1:Array (Int×Value)}{t2:SetTable}{R:Option Bool->Shared->Prop}(ho:s.heap.get? a=some o)(hx:o.ExactSet)(hd:o.data=.set es ep t)(hel:ElemsOf knd es1.toList)(hp:(es1.toList.map λe=>dec e.2).Perm ks)(nd:ks.Nodup)(hb:es1.size<scanBound)(hf:t2.fits es1.size=true)(tb:Tb led t2)(h:∀h',SameBut a s.heap h'->Good knd dec led h' a ks->R (some true) { s with heap:=h' }) :
  wpAny (model prog w) A (storeSet a es1 t2 >>= λ_=>if(!Sv&&t2.tooFull)=true then(g (relayAll t2 es1 (grown es1.size)).2.2 >>= λ_=>storeSet a (relayAll t2 es1 (grown es1.size)).1 (relayAll t2 es1 (grown es1.size)).2.1 >>= λ_=>pure (some true)) else pure (some true)) R E s:=by
 refine aaw (ac0 ho hd ?_ (acz hb))
 have o1:=Ik (es':=es1) (t':=t2) ho hd
 have sb:=SameBut.update s.heap a (afx es1 t2)
 split
 ·have rp:=relayAll_perm t2 es1 (grown es1.size)
  have rf:=relayAll_fits t2 es1 (grown es1.size)
  have rt:=zS5 tb es1 (grown es1.size)
  generalize relayAll t2 es1 (grown es1.size)=L at rp rf rt ⊢
  obtain⟨es2,t3,gv⟩:=L
  dsimp only at rp rf rt ⊢
  have sz:es2.size=es1.size:=by rw[<-length_toList,rp.length_eq,length_toList]
  refine aaw (hg _ _ _ (aaw (ac0 o1 rfl (aax (h _ (sb.trans (SameBut.update _ a _)) ⟨_,es2,_,t3,Ik (es':=es2) (t':=t3) o1 rfl,hx,rfl,hel.perm rp,(rp.map _).trans hp,nd,by rw[sz];exact hb,rf,rt⟩)) (acz (by rw[sz];exact hb)))))
 ·exact aax (h _ sb ⟨_,es1,_,t2,o1,hx,rfl,hel,hp,nd,hb,hf,tb⟩)
theorem Lk(h:Tb led t):Tb led { t with plain:=false }:=⟨h.led,λz=>by cases z⟩
theorem Wi(hdec:∀k v,knd.is k v=true->dec v=k){Q:Bool->Shared->Prop}(hk:knd.is k x=true)(hs:x.scannable=true)(g:Good knd dec led s.heap a ks)(room:ks.length+1<scanBound)(h:∀(h':Heap) (b:Bool),SameBut a s.heap h'->Good knd dec led h' a (if k∈ks then ks else k::ks)->Q b { s with heap:=h' }) :
  wpAny (model prog w) A (setAddHashed a x (knd.hash k)) Q E s:=by
 obtain⟨o,es,ep,t,ho,hx,hd,hel,hp,nd,hb,hf,tb⟩:=g
 have n:es.size=ks.length:=by rw[<-hp.length_eq,length_map,length_toList]
 unfold setAddHashed setAddHashedIn
 refine abu (aaw (abd ho hd hf ?_))
 dsimp only
 rw[byScan_of hs hb hel]
 simp only[↓reduceIte]
 unfold setAddByScan
 refine aaw (aaw (aee (aaw (wpAny_setScan_of hk ho hd hf hel ?_))))
 have fi:=zI5 hdec hel k
 cases hr:List.findIdx? (λe=>knd.is k e.2) es.toList with
 |some j =>
  have hm:k∈ks:=by
   refine hp.mem_iff.mp (Classical.byContradiction λz=>?_)
   rw[fi.mpr z] at hr
   cases hr
  dsimp only
  refine aax (aax ?_)
  have q:=h s.heap false (SameBut.refl a s.heap)
  rw[if_pos hm] at q
  exact q ⟨o,es,ep,t,ho,hx,hd,hel,hp,nd,hb,hf,tb⟩
 |none =>
  have hm:k∉ks:=λz=>fi.mp hr (hp.mem_iff.mpr z)
  dsimp only
  have lp:=layNew_perm t es (knd.hash k) x
  have lf:=layNew_fits t es (knd.hash k) x
  have lt:=Lj tb es (knd.hash k) x
  generalize layNew t es (knd.hash k) x=L at lp lf lt ⊢
  obtain⟨es1,t1,Sv,gave⟩:=L
  dsimp only at lp lf lt ⊢
  rw[Array.toList_push] at lp
  have sz:es1.size=es.size+1:=by rw[<-length_toList,lp.length_eq,length_append,length_toList];rfl
  have hp1:(es1.toList.map λe=>dec e.2).Perm (k::ks):=by
   refine(lp.map _).trans ?_
   rw[map_append]
   show(_++[dec x]).Perm _
   rw[hdec k x hk]
   exact Perm.trans (l₂:=k::es.toList.map λ(e:Int×Value)=>dec e.2) List.perm_append_comm (hp.cons k)
  have fin:∀h',SameBut a s.heap h'->Good knd dec led h' a (k::ks)->Q true { s with heap:=h' }:=λh' sb g'=>by
   have q:=h h' true sb
   rw[if_neg hm] at q
   exact q g'
  have nd1:(k::ks).Nodup:=nodup_cons.mpr ⟨hm,nd⟩
  refine aaw (Zi ?_)
  split
  ·refine aaw ?_
   rw[hashByValue_scannable 8 hs]
   refine aax ?_
   refine zMs (led:=led) (Sv:=Sv) (λb s₁ Q' hq=>Zi hq) ho hx hd ((hel.push hk hs).perm lp) hp1 nd1 (by rw[sz,n];exact room) ?_ ?_ λh' sb g'=>?_
   ·split
    ·exact lf
    ·exact SetTable.fits_plain_off lf
   ·split
    ·exact lt
    ·exact Lk lt
   ·exact aax (fin h' sb g')
  ·refine aaw (aax ?_)
   simp only[↓reduceIte]
   refine zMs (led:=led) (Sv:=Sv) (λb s₁ Q' hq=>Zi hq) ho hx hd ((hel.push hk hs).perm lp) hp1 nd1 (by rw[sz,n];exact room) lf lt λh' sb g'=>?_
   exact aax (fin h' sb g')
end
open PySem PySem.Spec PyProof.Rows
section
variable{κ:Type}[DecidableEq κ]
def met(val:Nat->κ):Nat->List κ
 |0=>[]
 |i+1=>if val i∈met val i then met val i else val i::met val i
theorem zQt(val:Nat->κ):∀i,(met val i).length<=i
 |0=>aa0 _
 |i+1=>by
  have ih:=zQt val i
  unfold met
  split
  ·omega
  ·rw[length_cons];omega
theorem zQu(val:Nat->κ)(k:κ):∀i,k∈met val i↔∃j,j<i/\val j=k
 |0=>by simp[met]
 |i+1=>by
  have ih:=zQu val k i
  have lt:(∃j,j<i+1/\val j=k)↔(∃j,j<i/\val j=k)\/val i=k:=by
   constructor
   ·rintro⟨j,hj,e⟩
    by_cases q:j=i
    ·subst q;exact .inr e
    ·exact .inl ⟨j,by omega,e⟩
   ·rintro(⟨j,hj,e⟩|e)
    ·exact⟨j,by omega,e⟩
    ·exact⟨i,by omega,e⟩
  rw[lt,<-ih]
  show k∈(if val i∈met val i then met val i else val i::met val i)↔_
  split
  ·rename_i hm
   exact⟨.inl,λh=>h.elim id λe=>e▸hm⟩
  ·rw[mem_cons]
   exact⟨λh=>h.elim (λe=>.inr e.symm) .inl,λh=>h.elim .inr λe=>.inl e.symm⟩
variable{prog:Program}{w:World}{knd:KeyKind prog w κ}{dec:Value->κ}{led:Bool}{A:Around}{R:Result->Shared->Prop}{I:Addr}{fp wr:List Addr}{G:Array GenState->Array GenState->Prop}{n:Nat}{P:Nat->Value->Prop}{St:Nat->Shared->Prop}
theorem Fi(hdec:∀k v,knd.is k v=true->dec v=k)(W:WalksS prog w A.in1 I fp wr G n P St)(S:Addr)(off:S∉fp)(val:Nat->κ)(hval:∀i v,P i v->knd.is (val i) v=true/\v.scannable=true)(hb:n+1<scanBound) :
  ∀(k i:Nat)(s:Shared),n-i=k->i<=n->St i s->Good knd dec led s.heap S (met val i)->(∀s',Moved (S::wr) G s s'->Good knd dec led s'.heap S (met val n)->R (.ok (.ret .none)) s')->codeAny (model prog w) A (.builtin "set.update.loop" ⟨[.ref S,.ref I],[]⟩) R s:=by
 have Sw:S∉wr:=λh=>off (W.sub _ h)
 have sub:∀b∈wr,b∈S::wr:=λb hb=>mem_cons_of_mem _ hb
 intro k
 induction k with
 |zero =>
  intro i s hk hi st g fin
  have e:i=n:=by omega
  subst e
  refine ac7 F.entry_set_update_loop ?_
  rw[acw aeh _]
  refine aaw (m:=pyNext (.ref I)) (W.done s _ _ st λs' hm=>?_)
  exact aax (fin s' (hm.mono sub) (g.keep λo h=>hm.heap S o Sw h))
 |succ k ih =>
  intro i s hk hi st g fin
  have lt:i<n:=by omega
  refine ac7 F.entry_set_update_loop ?_
  rw[acw aeh _]
  refine aaw (m:=pyNext (.ref I)) (W.item i s _ _ lt st λv s' hP st' hm=>?_)
  obtain⟨his,hsc⟩:=hval i v hP
  refine aaw (m:=holding [v] (setAdd S v)) (abu ?_)
  unfold setAdd
  refine abu (aaw (knd.pyHash (k:=val i) his ?_))
  refine Wi (led:=led) (s:={ s' with toks:=s'.toks+1 }) hdec his hsc (g.keep λo h=>hm.heap S o Sw h) (by have:=zQt val i;omega) λh' b sb g'=>?_
  refine aax ⟨aea aeh _,ih (i+1) _ (by omega) lt (W.frame _ s' _ _ st' (acq _) λb hb o e=>?_) g' λs'' hm'' g''=>?_⟩
  ·rw[sb.2 b (λh:b=S=>off (by rw[<-h];exact hb))];exact e
  ·refine fin s'' (Moved.trans W.gtrans ((hm.mono sub).then_heap (acq _) λb o hb e=>?_) hm'') g''
   rw[sb.2 b (λh:b=S=>hb (h▸mem_cons_self))];exact e
end
section
variable{prog:Program}{w:World}{A:Around}{E:Value->Shared->Prop}{s:Shared}
def zU(w:World):Bool:=!w.params.followText "set-order"
theorem zT8(a:Value){Q₁:Value->Shared->Prop}(h:Q₁ (.ref s.heap.objs.size) { s with heap:=s.heap.push { cls:=.type "set",dict:=none,data:=.set #[] 0 (.fresh 0 0 (zU w)) } }) :
  codeAny (model prog w) A (.call (.builtin "set.__new__") ⟨[.type "set",a],[]⟩) (wants Q₁ E) s:=by
 refine afi (aaw (m:=checkBuiltinCall "set.__new__" ⟨[.type "set",a],[]⟩) (ac3 (F.newCall_set_1 a) (aax ⟨aea F.plain_set_new _,ac7 F.entry_set_new ?_⟩)))
 rw[acw F.plain_set_new _]
 unfold Builtin.«set.__new__» Builtin.Frozenset.newClass
 have sub:=afh
 obtain⟨hp,g,d,tk,os⟩:=s
 dsimp only
 wp_walk
 refine ad2 (aax ?_)
 dsimp only
 simp only[newObj]
 exact aaw (wpAny_alloc (aax (aax h)))
theorem SJ{κ:Type}[DecidableEq κ]{knd:KeyKind prog w κ}{dec:Value->κ}{h:Heap}(e:h.get? a=some { cls:=.type "set",dict:=none,data:=.set #[] 0 (.fresh 0 0 led) }):Good knd dec led h a [] :=
 ⟨_,#[],0,.fresh 0 0 led,e,⟨rfl,rfl,rfl⟩,rfl,λx hx=>by simp at hx,by simp,nodup_nil,by show 0<4096;decide,by cases led<;>rfl,zS6 led⟩
set_option maxHeartbeats 4000000 in
theorem zU1{κ:Type}[DecidableEq κ]{knd:KeyKind prog w κ}{dec:Value->κ}(hdec:∀k v,knd.is k v=true->dec v=k){Q:Value->Shared->Prop}(val:Nat->κ)(hh:A.handled=none)(hl:s.heap.IsList l items)(hi:∀(i:Nat) (v:Value),items[i]?=some v->knd.is (val i) v=true/\v.scannable=true)(hb:items.size+1<scanBound)(h:∀(h':Heap) (tk:Nat),Good knd dec (zU w) h' s.heap.objs.size (met val items.size)->(∀b o,b<s.heap.objs.size->s.heap.get? b=some o->h'.get? b=some o)->Q (.ref s.heap.objs.size) { s with heap:=h',toks:=tk }) :
  wpAny (model prog w) A (call (.type "set") [.ref l]) Q E s:=by
 obtain⟨c,tl,hmro⟩:=F.called_set.mro
 have hmade:=F.called_set.made
 have hsub:=F.called_set.sub
 refine wpAny_call (afi (aax ⟨Code.quiet_builtin _ (by decide +kernel),ac7 F.entry_type_call ?_⟩))
 rw[Around.under_plain (weight_type_call_type "set" [.ref l] []) rfl]
 have h1:=F.called_set.notType
 have h2:=F.called_set.canCreate
 have hct:=F.typeCall_set_1 (.ref l)
 repeat(any_goals (first|assumption|wp_step))
 refine ad1 (zT8 (.ref l) (E:=E) (Q₁:=λobj s₁=>obj=.ref s.heap.objs.size/\s₁={ s with heap:=s.heap.push { cls:=.type "set",dict:=none,data:=.set #[] 0 (.fresh 0 0 (zU w)) } }) ⟨rfl,rfl⟩) λr s₁ hr=>?_
 cases r with
 |error e=>exact hr
 |ok fl =>
  cases fl with
  |ret obj =>
   obtain⟨rfl,rfl⟩:=hr
   have hS:(s.heap.push { cls:=.type "set",dict:=none,data:=.set #[] 0 (.fresh 0 0 (zU w)) }).get? s.heap.objs.size=some { cls:=.type "set",dict:=none,data:=.set #[] 0 (.fresh 0 0 (zU w)) }:=get?_push_size _ rfl
   have hT:Shared.TypeIs { s with heap:=s.heap.push { cls:=.type "set",dict:=none,data:=.set #[] 0 (.fresh 0 0 (zU w)) } } (.ref s.heap.objs.size) "set":=⟨_,hS,rfl⟩
   have hli:=F.called_set.init.lookup
   have hbi:=F.called_set.init.bind (.ref s.heap.objs.size)
   repeat(any_goals (first|assumption|wp_step))
   refine ad1 (codeAny_call_builtin (R:=wants (λr s₂=>r=.none/\∃h' tk,s₂={ s with heap:=h',toks:=tk }/\Good knd dec (zU w) h' s.heap.objs.size (met val items.size)/\(∀b o,b<s.heap.objs.size->s.heap.get? b=some o->h'.get? b=some o)) E)
    F.called_set.init.plain F.entry_set_init (check_set_init_1 hT ?_)) λr₂ s₂ hr₂=>?_
   ·obtain⟨ol,hol,hcl,nl,hdl⟩:=hl
    obtain⟨ocls,odict,odata,oslots⟩:=ol
    simp only at hcl hdl
    subst hcl
    subst hdl
    have hol':(s.heap.push { cls:=.type "set",dict:=none,data:=.set #[] 0 (.fresh 0 0 (zU w)) }).get? l=some { cls:=.type "list",dict:=odict,data:=.seq items nl,slots:=oslots }:=get?_push_of_some _ hol
    have hsls:=F.sub_list_set
    have hslf:=F.sub_list_frozenset
    have hne:(aed "list" == aed "dict")=false:=by decide
    have hl1:(s.heap.push { cls:=.type "set",dict:=none,data:=.set #[] 0 (.fresh 0 0 (zU w)) }).IsList l items:=⟨_,hol',rfl,nl,rfl⟩
    unfold Builtin.«set.__init__» noKeywords adp
    generalize hPI:pyIter=PI
    wp_walk
    subst hPI
    refine aeo hl1 (aaw (wpAny_runValue ?_))
    have hlS:l<s.heap.objs.size:=lt_size hol
    have sz:(s.heap.push { cls:=.type "set",dict:=none,data:=.set #[] 0 (.fresh 0 0 (zU w)) }).objs.size=s.heap.objs.size+1:=size_push ..
    have hneI:l≠(s.heap.push { cls:=.type "set",dict:=none,data:=.set #[] 0 (.fresh 0 0 (zU w)) }).objs.size:=by rw[sz];exact aa5 (aej hlS)
    refine Fi (led:=zU w) hdec ((afz (by simp[hh]) _ l hneI items).toS) s.heap.objs.size (by
     rw[sz]
     intro z
     rcases mem_cons.mp z with z|z
     ·exact absurd z (aa5 (acv _))
     ·exact absurd (mem_singleton.mp z) (adn hlS)) val hi hb (items.size-0) 0 _ (by omega) (abj _) ⟨⟨_,get?_push_size _ rfl,rfl,rfl⟩,hl1.push _⟩ (SJ (get?_push_of_some _ hS)) λs' hm g'=>?_
    obtain⟨h',g1,d1,tk',os1⟩:=s'
    have eg:g1=s.gens:=hm.gens
    have ed:d1=s.drawn:=hm.drawn
    have eo:os1=s.os:=hm.os
    subst eg ed eo
    refine aax ?_
    refine aax ⟨rfl,h',tk',rfl,g',λb o hb e=>hm.heap b o (λz=>?_) (get?_push_of_some _ (get?_push_of_some _ e))⟩
    rcases mem_cons.mp z with z|z
    ·exact absurd z (aa5 hb)
    ·have z:=mem_singleton.mp z
     rw[sz] at z
     exact absurd z (aa5 (aej hb))
   ·cases r₂ with
    |error e=>exact hr₂
    |ok fl₂ =>
     cases fl₂ with
     |ret r =>
      obtain⟨rfl,h',tk,rfl,hS',hk'⟩:=hr₂
      repeat(any_goals (first|assumption|wp_step))
      exact h _ _ hS' hk'
     |_=>exact hr₂.elim
  |_=>exact hr.elim
end
set_option maxRecDepth 100000
theorem zLl:Manifest.owners.lookup (String.ofList ['r','o','t','a','r','e','t','i','_','t','e','s'].reverse)=some Manifest.sig_set_iterator:=by kernel_rfl
theorem jV:Slot "set_iterator" "__next__" "set_iterator.__next__":=.of (owner:="set_iterator") (n:="__next__") (by rw[afj,aer];kernel_rfl) (by decide +kernel) (by decide +kernel) (by decide +kernel) (by first|exact .inl (by decide +kernel)|exact .inr (by decide +kernel)) (by rw[afm];kernel_rfl)
theorem zG6:entryFor table "set_iterator.__next__" = some Builtin.«set_iterator.__next__»:=entryFor_of_tree (by kernel_rfl)
theorem zId(a:Value):argsOk "set_iterator.__next__" ⟨[a],[]⟩:=by unfold argsOk;rw[signature?_of (id:="set_iterator.__next__") (n:=['_','_','t','x','e','n','_','_']) (o:=['r','o','t','a','r','e','t','i','_','t','e','s']) (by kernel_rfl) zLl];kernel_rfl
theorem zPi:Slot "set_iterator" "__iter__" "set_iterator.__iter__":=.of (owner:="set_iterator") (n:="__iter__") (by rw[afj,aer];kernel_rfl) (by decide +kernel) (by decide +kernel) (by decide +kernel) (by first|exact .inl (by decide +kernel)|exact .inr (by decide +kernel)) (by rw[afm];kernel_rfl)
theorem zG7:entryFor table "set_iterator.__iter__" = some Builtin.«dict_keyiterator.__iter__»:=aem (id':="dict_keyiterator.__iter__") (by kernel_rfl) rfl (by decide +kernel) (by kernel_rfl)
theorem zIe(a:Value):argsOk "set_iterator.__iter__" ⟨[a],[]⟩:=by unfold argsOk;rw[signature?_of (id:="set_iterator.__iter__") (n:=['_','_','r','e','t','i','_','_']) (o:=['r','o','t','a','r','e','t','i','_','t','e','s']) (by kernel_rfl) zLl];kernel_rfl
theorem zF4:entryFor table "set.__iter__" = some Builtin.«frozenset.__iter__»:=aem (id':="frozenset.__iter__") (by kernel_rfl) rfl (by decide +kernel) (by kernel_rfl)
theorem tR:typeLookup (.type "set") "__len__" = pure (some (.builtin "set.__len__")):=by rw[afj,aer];kernel_rfl
set_option maxRecDepth 100000
section
variable{prog:Program}{w:World}{A:Around}{E:Value->Shared->Prop}{s:Shared}
theorem Wj{α:Type}:∀{l:List α}{i:Nat}(h:i<l.length),(l[i]::l.eraseIdx i).Perm l
 |x::l,0,h=>.refl _
 |x::l,i+1,h=>by
  have hi:i<l.length:=by simpa using h
  have ih:=Wj (l:=l) (i:=i) hi
  show(l[i]::x::l.eraseIdx i).Perm (x::l)
  exact(Perm.swap _ _ _).trans (ih.cons x)
theorem zOj{Q:Nat->Shared->Prop}(hn:0<n)(h:∀i d,i<n->Q i { s with drawn:=d }):wpAny (model prog w) A (choose src n) Q E s :=
 λ_ _ _=>⟨adn hn,h _ _ (afw _ hn)⟩
theorem zRu{α:Type}:∀(n:Nat)(xs:List α)(s:Shared)(Q:List α->Shared->Prop),xs.length=n->(∀ys d,ys.Perm xs->Q ys { s with drawn:=d })->wpAny (model prog w) A (drawOrder n xs) Q E s
 |0,xs,s,Q,hl,h=>by
  have e:xs=[]:=length_eq_zero_iff.mp hl
  subst e
  unfold drawOrder
  exact aax (h [] s.drawn (.refl _))
 |n+1,[],s,Q,hl,h=>by simp at hl
 |n+1,x::xs,s,Q,hl,h=>by
  unfold drawOrder
  refine aaw (zOj (by rw[hl];omega) λi d hi=>?_)
  have e:(x::xs)[i]?=some (x::xs)[i]:=aaz hi
  rw[e]
  refine aaw (zRu n _ _ _ (by rw[length_eraseIdx,if_pos hi,hl];rfl) λys d' p=>?_)
  exact aax (h _ d' ((p.cons _).trans (Wj hi)))
theorem zP1{α:Type}(next:Nat->Nat):∀(fuel k:Nat)(left:List α)(out:Array α),left.length=fuel->(af6 next fuel k left out).toList.Perm (out.toList++left)
 |0,k,left,out,hl=>by
  have e:left=[]:=length_eq_zero_iff.mp hl
  subst e
  unfold af6
  rw[append_nil]
 |fuel+1,k,left,out,hl=>by
  have hi:next k%left.length<left.length:=afw _ (by omega)
  unfold af6
  rw[aaz hi]
  dsimp only
  refine(zP1 next fuel (k+1) _ _ (by rw[length_eraseIdx,if_pos hi,hl];rfl)).trans ?_
  rw[Array.toList_push,append_assoc]
  exact Perm.append_left _ (Wj hi)
theorem PK{α:Type}(next:Nat->Nat)(xs:Array α):(pickOrder next xs).toList.Perm xs.toList:=by
 have q:=zP1 next xs.size 0 xs.toList #[] (by simp)
 have e:(#[]:Array α).toList++xs.toList=xs.toList:=rfl
 rw[e] at q
 exact q
variable{a it T:Addr}{o:Obj}{es:Array (Int×Value)}{ep:Nat}{t:SetTable}
theorem uU{Q:Bool->Shared->Prop}(h:Q (w.params.followText "set-order") s):wpAny (model prog w) A setsByText Q E s:=by
 unfold setsByText
 exact aaw (ad2 (aax h))
theorem zUv{Q:Bool->Shared->Prop}(ho:s.heap.get? a=some o)(hd:o.data=.set es ep t)(hf:t.fits es.size=true)(h:Q (!w.params.followText "set-order" && (!t.plain&&decide (es.size > 1))) s):wpAny (model prog w) A (setDrawn a) Q E s:=by
 unfold setDrawn
 refine aaw (abd ho hd hf ?_)
 exact aaw (uU (aax h))
theorem Wm{Q:Array (Int×Value)->Shared->Prop}(ho:s.heap.get? a=some o)(hd:o.data=.set es ep t)(hf:t.fits es.size=true)(h:Q es s):wpAny (model prog w) A (setEntries a) Q E s:=by
 unfold setEntries
 exact aaw (abd ho hd hf (aax h))
theorem zIy{Q:Option (Value×Nat)->Shared->Prop}(ho:s.heap.get? a=some o)(hd:o.data=.set es ep t)(hf:t.fits es.size=true)(hb:w.params.followText "set-order" = true)(h:Q (((pickOrder (w.params.setOrder a ep) es)[i]?).map λe=>(e.2,slot)) s):wpAny (model prog w) A (setNext a slot i ep) Q E s:=by
 unfold setNext
 refine aaw (abd ho hd hf ?_)
 refine aaw (uU ?_)
 rw[hb]
 simp only[↓reduceIte,bne_self_eq_false,aa9]
 refine aaw ?_
 unfold setWalk
 refine aaw (abd ho hd hf ?_)
 refine aaw (uU ?_)
 rw[hb]
 simp only[↓reduceIte]
 refine aaw (ad2 (aax ?_))
 exact aax h
theorem zGj{Q:Option (Value×Nat)->Shared->Prop}(ho:s.heap.get? a=some o)(hd:o.data=.set es ep t)(hf:t.fits es.size=true)(hb:w.params.followText "set-order" = false)(hl:t.led=true)(hn:(!t.plain&&decide (es.size > 1))=false)(h:Q (match es[below t.place slot]?,t.place[below t.place slot]? with|some (_,x),some j=>some (x,j+1)|_,_=>none) s):wpAny (model prog w) A (setNext a slot i ep) Q E s:=by
 unfold setNext
 refine aaw (abd ho hd hf ?_)
 refine aaw (uU ?_)
 rw[hb]
 simp only[↓reduceIte,aa9]
 show wpAny _ _ (if(!t.plain&&decide (es.size > 1))=true then _ else _) _ _ _
 rw[if_neg (by rw[hn];exact aay)]
 refine aaw ?_
 show wpAny _ _ (if(!t.led&&!es.isEmpty)=true then _ else pure ()) _ _ _
 rw[if_neg (by rw[hl];exact aay)]
 exact aax (aax h)
theorem zNt{Q:Value->Shared->Prop}(ho:s.heap.get? a=some o)(hd:o.data=.set es ep t)(hf:t.fits es.size=true)(hx:es[place]?=some x)(h:Q x.2 s):wpAny (model prog w) A (setNextDrawn a place ep) Q E s:=by
 unfold setNextDrawn
 refine aaw (abd ho hd hf ?_)
 simp only[bne_self_eq_false,aa9,↓reduceIte,hx]
 exact aax h
def oR(first:Value)(i:Nat)(a:Addr)(n ep:Nat):Obj:={ cls:=.type "set_iterator",data:=.fields #[first,.int i 0,.ref a,.int n 0,.int ep 0] }
theorem zUg{Q:Value->Shared->Prop}(ho:s.heap.get? a=some o)(hx:o.ExactSet)(hd:o.data=.set es ep t)(hf:t.fits es.size=true)(h1:(!w.params.followText "set-order" && (!t.plain&&decide (es.size > 1)))=false->Q (.ref s.heap.objs.size) { s with heap:=s.heap.push (oR (.int 0 0) 0 a es.size ep) })(h2:(!w.params.followText "set-order" && (!t.plain&&decide (es.size > 1)))=true->es.size<=sizeLine/\∀(d:Drawn) (ps:List Nat),ps.Perm (abg es.size)->Q (.ref (s.heap.objs.size+1)) { s with drawn:=d,heap:=(s.heap.push { cls:=.type "tuple",data:=.seq (ps.map λ(i:Nat)=>acj i 0).toArray }).push (oR (.ref s.heap.objs.size) 0 a es.size ep) }) :
  wpAny (model prog w) A (pyIter (.ref a)) Q E s:=by
 have hT:s.TypeIs (.ref a) "set":=⟨o,ho,hx.1⟩
 refine wpAny_pyIter_slot hT F.slot_set_iter (acn F.slot_set_iter hT zF4 ?_ (F.args_set_iter_1 _))
 unfold Builtin.«frozenset.__iter__»
 refine aaw (aax ?_)
 refine aaw ?_
 unfold ad6
 refine aaw (Wm ho hd hf (aax ?_))
 refine aaw (zUv ho hd hf ?_)
 cases hc:(!w.params.followText "set-order" && (!t.plain&&decide (es.size > 1))) with
 |false =>
  simp only[aa9,↓reduceIte]
  refine aaw (aax ?_)
  refine aaw (ab6 ho hd hf ?_)
  exact aaw (ab3 (aax ⟨_,rfl,"set_iterator",_,⟨_,get?_push_size _ rfl,rfl⟩,jV.lookup,h1 hc⟩))
 |true =>
  obtain⟨hz,h2⟩:=h2 hc
  simp only[↓reduceIte]
  refine aaw (zRu _ _ _ _ (by simp) λps d hp=>?_)
  refine aaw (wpAny_newTuple ?_ (by rw[length_map,hp.length_eq,length_range];exact hz))
  have ho':=get?_push_of_some ({ cls:=.type "tuple",data:=.seq (ps.map λ(i:Nat)=>rawInt i).toArray }:Obj) ho
  refine aaw (ab6 (s:={ s with drawn:=d,heap:=_ }) ho' hd hf ?_)
  refine aaw (ab3 (aax ⟨_,rfl,"set_iterator",_,⟨_,get?_push_size _ rfl,rfl⟩,jV.lookup,?_⟩))
  have q:=h2 d ps hp
  have sz:(s.heap.push ({ cls:=.type "tuple",data:=.seq (ps.map λ(i:Nat)=>acj i 0).toArray }:Obj)).objs.size=s.heap.objs.size+1:=size_push ..
  rw[<-sz] at q
  exact q
end
set_option maxRecDepth 100000
section
variable{prog:Program}{w:World}{A:Around}{E:Value->Shared->Prop}{s:Shared}{a it T:Addr}{o:Obj}{es:Array (Int×Value)}{ep:Nat}{t:SetTable}{i:Nat}{first:Value}
theorem Wn{Q:Option Value->Shared->Prop}(hi:s.heap.get? it=some (oR first i a es.size ep))(ho:s.heap.get? a=some o)(hd:o.data=.set es ep t)(hf:t.fits es.size=true)(h:wpAny (model prog w) A.in1 (if let .int slot _:=first then do
    match <-setNext a slot.toNat (i:Int).toNat (ep:Int).toNat with
    |some (x,next) =>
     setField (.ref it) 0 (rawInt next)
     setField (.ref it) 1 (rawInt ((i:Int)+1))
     ret x
    |none=>setField (.ref it) 2 .none;raiseNew (<-newExc (.type "StopIteration") [])
   else do
    let some places <-seqItems? first|unsupported "internal:set_iterator"
    match places[(i:Int).toNat]? with
    |some (.int place _) =>
     let x <-setNextDrawn a place.toNat (ep:Int).toNat
     setField (.ref it) 1 (rawInt ((i:Int)+1))
     ret x
    |some _=>unsupported "internal:set_iterator"
    |none=>setField (.ref it) 0 (rawInt 0);setField (.ref it) 2 .none;raiseNew (<-newExc (.type "StopIteration") []))
   (λfin s'=>∃v,fin=.done (.ret v)/\Q (some v) s')
   (λe s'=>s'.TypeIs e "StopIteration" /\ Q none s') s):wpAny (model prog w) A (pyNext (.ref it)) Q E s:=by
 have hT:s.TypeIs (.ref it) "set_iterator":=⟨_,hi,rfl⟩
 unfold pyNext
 refine aaw (wpAny_attempt (wpAny_callSpecial?_slot (name:=ad0 "__next__") hT jV (acn jV hT zG6 ?_ (zId _))))
 unfold Builtin.«set_iterator.__next__»
 refine aaw (aax ?_)
 refine aaw (wpAny_fieldsOf hi rfl ?_)
 dsimp only
 refine aaw (Wm ho hd hf ?_)
 rw[if_neg (by simp)]
 exact aco h (λfin s' ⟨v,e,q⟩=>⟨v,e,aax q⟩) λe s' ⟨ty,q⟩=>aaw (aeu (T:="StopIteration") (b:=true) ty isSubtype_stop (aax q))
theorem zO8{α:Type}{Q:α->Shared->Prop}{E':Value->Shared->Prop}(hh:A.handled=none)(h:∀(e:Value) (h':Heap),(∀b u,s.heap.get? b=some u->h'.get? b=some u)->({ s with heap:=h' }:Shared).TypeIs e "StopIteration"->E' e { s with heap:=h' }) :
  wpAny (model prog w) A (newExc (.type "StopIteration") [] >>= λe=>(raiseNew e:Sem α)) Q E' s:=by
 refine aaw ?_
 simp only[newExc,newTuple]
 refine aaw (ab3 (aaw (m:=firstArgMember _ _) (ac3 (a:=ac4) (by first|rfl|(simp only[firstArgMember];rfl)) (ab3 ?_ (by size_fits)))) (by size_fits))
 simp only[raiseNew]
 refine aaw (wpAny_handled ?_)
 rw[hh]
 refine aaw (aax (wpAny_throw ?_))
 refine h _ _ (λb u e=>get?_push_of_some _ (get?_push_of_some _ e)) ?_
 exact⟨_,get?_push_size _ rfl,rfl⟩
theorem Wo{f:Obj->Obj}(hi:s.heap.get? it=some u)(hn:(f u).isFreed=false):(s.heap.update it f).get? it=some (f u):=get?_update_self f hi hn
theorem PL(hb:b≠it)(e:s.heap.get? b=some u):(s.heap.update it f).get? b=some u:=(get?_update_other _ _ (ac2 hb)).trans e
theorem zGk{Q:Option Value->Shared->Prop}{slot next:Nat}{tk:Tok}{x:Value}(hi:s.heap.get? it=some (oR (.int slot tk) i a es.size ep))(ho:s.heap.get? a=some o)(hd:o.data=.set es ep t)(hf:t.fits es.size=true)(hs:∀(R:Option (Value×Nat)->Shared->Prop) (E':Value->Shared->Prop),R (some (x,next)) s->wpAny (model prog w) A.in1 (setNext a slot i ep) R E' s)(h:∀h',h'.get? it=some (oR (.int next 0) (i+1) a es.size ep)->(∀b u,b≠it->s.heap.get? b=some u->h'.get? b=some u)->Q (some x) { s with heap:=h' }):wpAny (model prog w) A (pyNext (.ref it)) Q E s:=by
 refine Wn hi ho hd hf ?_
 dsimp only
 refine aaw (hs _ _ ?_)
 dsimp only
 refine aaw (adz hi rfl (by simp) ?_)
 have h1:=Wo (f:=ae7 (·.setIfInBounds 0 (rawInt next))) hi rfl
 refine aaw (adz (s:={ s with heap:=_ }) h1 rfl (by simp) ?_)
 have h2:=Wo (s:={ s with heap:=_ }) (f:=ae7 (·.setIfInBounds 1 (rawInt ((i:Int)+1)))) h1 rfl
 exact aax ⟨x,rfl,h _ h2 λb u hb e=>PL (s:={ s with heap:=_ }) hb (PL hb e)⟩
theorem zJd{Q:Option Value->Shared->Prop}{slot:Nat}{tk:Tok}(hh:A.handled=none)(hi:s.heap.get? it=some (oR (.int slot tk) i a es.size ep))(ho:s.heap.get? a=some o)(hd:o.data=.set es ep t)(hf:t.fits es.size=true)(hs:∀(R:Option (Value×Nat)->Shared->Prop) (E':Value->Shared->Prop),R none s->wpAny (model prog w) A.in1 (setNext a slot i ep) R E' s)(h:∀h',(∀b u,b≠it->s.heap.get? b=some u->h'.get? b=some u)->Q none { s with heap:=h' }):wpAny (model prog w) A (pyNext (.ref it)) Q E s:=by
 refine Wn hi ho hd hf ?_
 dsimp only
 refine aaw (hs _ _ ?_)
 dsimp only
 refine aaw (adz hi rfl (by simp) ?_)
 exact zO8 (s:={ s with heap:=_ }) (by simp[hh]) λe h' k ty=>⟨ty,h h' λb u hb e=>k b u (PL hb e)⟩
theorem zNy{Q:Option Value->Shared->Prop}{ps:List Nat}(hi:s.heap.get? it=some (oR (.ref T) i a es.size ep))(ho:s.heap.get? a=some o)(hd:o.data=.set es ep t)(hf:t.fits es.size=true)(hT:s.heap.get? T=some { cls:=.type "tuple",data:=.seq (ps.map λ(i:Nat)=>acj i 0).toArray })(hp:ps[i]?=some place)(hx:es[place]?=some x)(h:∀h',h'.get? it=some (oR (.ref T) (i+1) a es.size ep)->(∀b u,b≠it->s.heap.get? b=some u->h'.get? b=some u)->Q (some x.2) { s with heap:=h' }):wpAny (model prog w) A (pyNext (.ref it)) Q E s:=by
 refine Wn hi ho hd hf ?_
 dsimp only
 refine aaw (wpAny_seqItems hT rfl ?_)
 have e:((ps.map λ(i:Nat)=>acj i 0).toArray)[(i:Int).toNat]?=some (.int (place:Nat) 0):=by
  rw[ab1,getElem?_toArray,getElem?_map,hp]
  rfl
 dsimp only
 rw[e]
 dsimp only
 refine aaw (zNt ho hd hf (x:=x) (by rw[ab1];exact hx) ?_)
 refine aaw (adz hi rfl (by simp) ?_)
 have h1:=Wo (f:=ae7 (·.setIfInBounds 1 (rawInt ((i:Int)+1)))) hi rfl
 exact aax ⟨x.2,rfl,h _ h1 λb u hb e=>PL hb e⟩
theorem zRt{Q:Option Value->Shared->Prop}{ps:List Nat}(hh:A.handled=none)(hi:s.heap.get? it=some (oR (.ref T) i a es.size ep))(ho:s.heap.get? a=some o)(hd:o.data=.set es ep t)(hf:t.fits es.size=true)(hT:s.heap.get? T=some { cls:=.type "tuple",data:=.seq (ps.map λ(i:Nat)=>acj i 0).toArray })(hp:ps[i]?=none)(h:∀h',(∀b u,b≠it->s.heap.get? b=some u->h'.get? b=some u)->Q none { s with heap:=h' }):wpAny (model prog w) A (pyNext (.ref it)) Q E s:=by
 refine Wn hi ho hd hf ?_
 dsimp only
 refine aaw (wpAny_seqItems hT rfl ?_)
 have e:((ps.map λ(i:Nat)=>acj i 0).toArray)[(i:Int).toNat]?=none:=by
  rw[ab1,getElem?_toArray,getElem?_map,hp]
  rfl
 dsimp only
 rw[e]
 dsimp only
 refine aaw (adz hi rfl (by simp) ?_)
 have h1:=Wo (f:=ae7 (·.setIfInBounds 0 (rawInt 0))) hi rfl
 refine aaw (adz (s:={ s with heap:=_ }) h1 rfl (by simp) ?_)
 exact zO8 (s:={ s with heap:=_ }) (by simp[hh]) λe h' k ty=>⟨ty,h h' λb u hb e=>k b u (PL (s:={ s with heap:=_ }) hb (PL hb e))⟩
end
set_option maxRecDepth 100000
section
variable{prog:Program}{w:World}{A:Around}{E:Value->Shared->Prop}{s:Shared}{a it T:Addr}{o:Obj}{es:Array (Int×Value)}{ep:Nat}{t:SetTable}
theorem Zj{Q:Value->Shared->Prop}(hi:s.heap.get? it=some (oR first i a n ep))(h:Q (.ref it) s):wpAny (model prog w) A (pyIter (.ref it)) Q E s:=by
 have hT:s.TypeIs (.ref it) "set_iterator":=⟨_,hi,rfl⟩
 refine wpAny_pyIter_slot hT zPi (acn zPi hT zG7 ?_ (zIe _))
 refine aaw (aax ?_)
 exact aax ⟨_,rfl,"set_iterator",_,hT,jV.lookup,h⟩
theorem SM(hf:t.fits es.size=true):t.place.size=es.size:=by
 unfold SetTable.fits at hf
 rw[aa1] at hf
 exact ab7 hf.1
theorem zOh(hr:Rz xs):below xs 0=0:=by
 obtain⟨b1,b2,b3⟩:=Zg hr 0
 cases e:below xs 0 with
 |zero=>rfl
 |succ k =>
  rw[e] at b1 b2
  have h0:0<xs.size:=by omega
  exact absurd (b2 0 _ (afd k) (aa6 h0)) (acr _)
theorem zOi(hr:Rz xs)(h:xs[i]?=some j):below xs (j+1)=i+1:=by
 obtain⟨b1,b2,b3⟩:=Zg hr (j+1)
 generalize below xs (j+1)=p at *
 have hi:i<xs.size:=by
  by_cases z:i<xs.size
  ·exact z
  ·rw[aby (by omega)] at h;cases h
 have h1:i<p:=by
  by_cases z:i<p
  ·exact z
  ·have:=b3 i j (by omega) h;omega
 by_cases z:p=i+1
 ·exact z
 ·have hp:i+1<xs.size:=by omega
  have q1:=b2 (i+1) _ (by omega) (aa6 hp)
  have q2:=hr i (i+1) j _ (by omega) h (aa6 hp)
  omega
theorem zTn{xs:Array Nat}(h:xs.size<=1):Rz xs:=λi k a b hik ha hb=>by
 rw[aby (by omega)] at hb
 cases hb
theorem zMz(hh:A.handled=none)(hne:a≠it)(hd:o.data=.set es ep t)(hf:t.fits es.size=true)(hb:w.params.followText "set-order" = false)(hl:t.led=true)(hn:(!t.plain&&decide (es.size > 1))=false)(hr:Rz t.place) :
  Walks prog w A it [it,a] [it] es.size (λi v=>(es.toList.map (·.2))[i]?=some v) (λi h=>h.get? a=some o/\∃(slot:Nat)(tk:Tok),h.get? it=some (oR (.int slot tk) i a es.size ep)/\below t.place slot=i) where
 sub:=λb hb=>by simp at hb;simp[hb]
 frame:=λi h h' ⟨h1,slot,tk,h2,h3⟩ k=>⟨k a (by simp) _ h1,slot,tk,k it (by simp) _ h2,h3⟩
 item:=λi s Q E hi ⟨h1,slot,tk,h2,h3⟩ hQ=>by
  have hp:i<t.place.size:=by rw[SM hf];exact hi
  refine zGk (x:=es[i].2) (next:=t.place[i]+1) h2 h1 hd hf (λR E' hR=>zGj h1 hd hf hb hl hn ?_) λh' hi' k=>?_
  ·rw[h3,aa6 hi,aa6 hp]
   exact hR
  ·refine hQ _ h' s.toks (by simp[hi]) ⟨k a o hne h1,_,_,hi',zOi hr (aa6 hp)⟩ λb u hb e=>k b u (λz=>hb (by simp[z])) e
 done:=λs Q E ⟨h1,slot,tk,h2,h3⟩ hQ=>by
  refine zJd hh h2 h1 hd hf (λR E' hR=>zGj h1 hd hf hb hl hn ?_) λh' k=>hQ h' s.toks λb u hb e=>k b u (λz=>hb (by simp[z])) e
  rw[h3,aby (aa0 _)]
  exact hR
 self:=λi s Q E ⟨h1,slot,tk,h2,h3⟩ hQ=>Zj h2 hQ
theorem zOn(hh:A.handled=none)(hne:a≠it)(hd:o.data=.set es ep t)(hf:t.fits es.size=true)(hb:w.params.followText "set-order" = true) :
  Walks prog w A it [it,a] [it] es.size (λi v=>((pickOrder (w.params.setOrder a ep) es).toList.map (·.2))[i]?=some v) (λi h=>h.get? a=some o/\∃(slot:Nat)(tk:Tok),h.get? it=some (oR (.int slot tk) i a es.size ep)) where
 sub:=λb hb=>by simp at hb;simp[hb]
 frame:=λi h h' ⟨h1,slot,tk,h2⟩ k=>⟨k a (by simp) _ h1,slot,tk,k it (by simp) _ h2⟩
 item:=λi s Q E hi ⟨h1,slot,tk,h2⟩ hQ=>by
  have hz:i<(pickOrder (w.params.setOrder a ep) es).size:=by rw[<-length_toList,(PK _ es).length_eq,length_toList];exact hi
  refine zGk (x:=(pickOrder (w.params.setOrder a ep) es)[i].2) (next:=slot) h2 h1 hd hf (λR E' hR=>zIy h1 hd hf hb ?_) λh' hi' k=>?_
  ·rw[aa6 hz]
   exact hR
  ·refine hQ _ h' s.toks (by simp[hz]) ⟨k a o hne h1,_,_,hi'⟩ λb u hb e=>k b u (λz=>hb (by simp[z])) e
 done:=λs Q E ⟨h1,slot,tk,h2⟩ hQ=>by
  have hz:(pickOrder (w.params.setOrder a ep) es).size=es.size:=by rw[<-length_toList,(PK _ es).length_eq,length_toList]
  refine zJd hh h2 h1 hd hf (λR E' hR=>zIy h1 hd hf hb ?_) λh' k=>hQ h' s.toks λb u hb e=>k b u (λz=>hb (by simp[z])) e
  rw[aby (by rw[hz];exact aa0 _)]
  exact hR
 self:=λi s Q E ⟨h1,slot,tk,h2⟩ hQ=>Zj h2 hQ
theorem zM0{ps:List Nat}(hh:A.handled=none)(hne:a≠it)(hnT:T≠it)(hd:o.data=.set es ep t)(hf:t.fits es.size=true)(hp:ps.Perm (abg es.size)) :
  Walks prog w A it [it,a,T] [it] es.size (λi v=>(ps.map λp=>((es[p]?).map (·.2)).getD .none)[i]?=some v)
   (λi h=>h.get? a=some o/\h.get? T=some { cls:=.type "tuple",data:=.seq (ps.map λ(i:Nat)=>acj i 0).toArray }/\h.get? it=some (oR (.ref T) i a es.size ep)) where
 sub:=λb hb=>by simp at hb;simp[hb]
 frame:=λi h h' ⟨h1,h2,h3⟩ k=>⟨k a (by simp) _ h1,k T (by simp) _ h2,k it (by simp) _ h3⟩
 item:=λi s Q E hi ⟨h1,h2,h3⟩ hQ=>by
  have hl:ps.length=es.size:=by rw[hp.length_eq,length_range]
  have hi':i<ps.length:=by omega
  have hm:ps[i]<es.size:=mem_range.mp (hp.mem_iff.mp (getElem_mem hi'))
  refine zNy (place:=ps[i]) (x:=es[ps[i]]) h3 h1 hd hf h2 (aaz hi') (aa6 hm) λh' hi' k=>?_
  refine hQ _ h' s.toks ?_ ⟨k a o hne h1,k T _ hnT h2,hi'⟩ λb u hb e=>k b u (λz=>hb (by simp[z])) e
  rw[getElem?_map,aaz (by omega),Option.map_some,aa6 hm]
  rfl
 done:=λs Q E ⟨h1,h2,h3⟩ hQ=>by
  have hl:ps.length=es.size:=by rw[hp.length_eq,length_range]
  exact zRt hh h3 h1 hd hf h2 (abq (by omega)) λh' k=>hQ h' s.toks λb u hb e=>k b u (λz=>hb (by simp[z])) e
 self:=λi s Q E ⟨h1,h2,h3⟩ hQ=>Zj h3 hQ
end
set_option maxRecDepth 100000
section
variable{prog:Program}{w:World}{A:Around}{E:Value->Shared->Prop}{s:Shared}{a it T:Addr}{o:Obj}{es:Array (Int×Value)}{ep:Nat}{t:SetTable}
theorem zUk{Q:Bool->Shared->Prop}(hT:s.TypeIs (.ref a) "set")(h:Q false s):wpAny (model prog w) A (adu (.ref a)) Q E s:=by
 unfold adu
 refine aaw (wpAny_specialOf hT F.slot_set_len.lookup ?_)
 generalize hid:("set.__len__":String)=id0
 wp_delta
 rw[show splitId id0=some ("set","__len__") from by subst hid;decide +kernel]
 subst hid
 refine aaw (aeu (T:="set") (b:=true) hT afh (afk (λhab=>absurd hab (by decide)) λ_=>afk (λ_=>aaw (af8 hT (aax h))) λhab=>absurd (by decide +kernel) hab))
theorem zQv{R:Result->Shared->Prop}{P:Nat->Value->Prop}{St:Nat->Heap->Prop}(W:Walks prog w A.in1 it fp [it] n P St)(hn:n<=sizeLine)(off:S∉fp)(st:St 0 s.heap)(hS:s.heap.get? S=some { cls:=.type "list",data:=.seq #[] c₁ })(hR:∀h' tk acc c',(∀b u,b≠S->b≠it->s.heap.get? b=some u->h'.get? b=some u)->h'.get? S=some { cls:=.type "list",dict:=none,data:=.seq acc c',slots:=#[] }->ItemsOf P acc n->R (.ok (.ret res)) { s with heap:=h',toks:=tk }) :
  codeAny (model prog w) A (.builtin "list.extend.loop" ⟨[.ref S,.ref it,res],[]⟩) R s:=by
 refine codeAny_extend_loopS W.toS hn S off res n 0 _ #[] c₁ rfl (abj _) st hS (ItemsOf.nil _) λs' acc c' hm hS' hacc=>?_
 rw[Moved.eq_with hm]
 refine hR s'.heap s'.toks acc c' (λb u h1 h2 e=>hm.heap b u (λz=>?_) e) hS' hacc
 rcases mem_cons.mp z with z|z
 ·exact h1 z
 ·exact h2 (mem_singleton.mp z)
theorem Zk{R:Result->Shared->Prop}{P:Nat->Value->Prop}{St:Nat->Heap->Prop}(W:Walks prog w A.in1 it fp [it] n P St)(hn:n<=sizeLine)(off:S∉fp)(hT:s.TypeIs (.ref a) "set")(st:St 0 s.heap)(hS:s.heap.get? S=some { cls:=.type "list",data:=.seq #[] c₀ })(hR:∀h' tk acc c',(∀b u,b≠S->b≠it->s.heap.get? b=some u->h'.get? b=some u)->h'.get? S=some { cls:=.type "list",dict:=none,data:=.seq acc c',slots:=#[] }->ItemsOf P acc n->R (.ok (.ret res)) { s with heap:=h',toks:=tk }) :
  wpAny (model prog w) A.in1 (holding [.ref it] (adu (.ref a)) >>= λroom=>if(room||b)=true then(rule "list.extend.makes-room" >>= λ_=>Builtin.List.listTouch (.ref S) >>= λ_=>again (.builtin "list.extend.loop" ⟨[.ref S,.ref it,res],[]⟩)) else again (.builtin "list.extend.loop" ⟨[.ref S,.ref it,res],[]⟩))
   (λfin s'=>match fin with|.done f=>R (.ok f) s'|.again c'=>c'.quiet=true/\codeAny (model prog w) A c' R s') (λe s'=>R (.error e) s') s:=by
 refine aaw (abu (zUk hT ?_))
 refine afk (λ_=>?_) λ_=>aax ⟨aea F.plain_extend_loop _,zQv W hn off st hS hR⟩
 refine aaw (aee ?_)
 refine aaw ?_
 show wpAny _ _ (updateSeq S (·.push .none) >>= λ_=>updateSeq S (·.pop)) _ _ _
 refine aaw (wpAny_updateSeq hS rfl ?_)
 have hS2:=get?_update_self (ado (·.push ac4)) hS rfl
 refine wpAny_updateSeq (hz:=by seq_fits) hS2 rfl ?_
 have hS3:=get?_update_self (ado (·.pop)) hS2 rfl
 have keep:∀c u,c≠S->s.heap.get? c=some u->((s.heap.update S (ado (·.push ac4))).update S (ado (·.pop))).get? c=some u:=λc u hc e=>(get?_update_other _ _ (ac2 hc)).trans ((get?_update_other _ _ (ac2 hc)).trans e)
 refine aax ⟨aea F.plain_extend_loop _,zQv (s:={ s with heap:=_ }) W hn off (W.frame 0 _ _ st λc hc u e=>keep c u (λz=>off (z▸hc)) e) hS3 λh' tk acc c' k h1 h2=>hR h' tk acc c' (λc u n1 n2 e=>k c u n1 n2 (keep c u n1 e)) h1 h2⟩
theorem Zm(h:ItemsOf (λi v=>ord[i]?=some v) acc n)(hl:ord.length=n):acc.toList=ord:=by
 apply ext_getElem?
 intro i
 rw[getElem?_toList]
 by_cases hi:i<acc.size
 ·rw[aa6 hi]
  exact(h.2 i _ (aa6 hi)).symm
 ·rw[aby (by omega),abq (by rw[hl,<-h.1];omega)]
theorem zNl(es:Array (Int×Value)):(abg es.size).map (λp=>((es[p]?).map (·.2)).getD ac4)=es.toList.map (·.2):=by
 apply List.ext_getElem (by simp)
 intro i h1 h2
 have hi:i<es.size:=by simpa using h1
 simp[hi]
theorem zN7{R:Result->Shared->Prop}(hh:A.handled=none)(ho:s.heap.get? a=some o)(hx:o.ExactSet)(hd:o.data=.set es ep t)(hf:t.fits es.size=true)(tb:Tb (zU w) t)(hz:es.size<=sizeLine)(Zn:S≠a)(hS:s.heap.get? S=some { cls:=.type "list",data:=.seq #[] c₀ })(hR:∀h' tk d acc c',(∀b u,b≠S->s.heap.get? b=some u->h'.get? b=some u)->h'.get? S=some { cls:=.type "list",dict:=none,data:=.seq acc c',slots:=#[] }->acc.toList.Perm (es.toList.map (·.2))->R (.ok (.ret res)) { s with heap:=h',toks:=tk,drawn:=d }) :
  wpAny (model prog w) A.in1 (Builtin.List.listExtendWith (.ref S) (.ref a) res)
   (λfin s'=>match fin with|.done f=>R (.ok f) s'|.again c'=>c'.quiet=true/\codeAny (model prog w) A c' R s') (λe s'=>R (.error e) s') s:=by
 have hT:s.TypeIs (.ref a) "set":=⟨o,ho,hx.1⟩
 have lta:a<s.heap.objs.size:=lt_size ho
 have ltS:S<s.heap.objs.size:=lt_size hS
 have hi:A.in1.handled=none:=by simp[hh]
 unfold Builtin.List.listExtendWith
 refine aaw (af8 hT ?_)
 have h1:Builtin.List.listSameRef (.ref S) (.ref a)=false:=by simp[Builtin.List.listSameRef,Zn]
 simp only[h1,show(aed "set" == aed "list")=false by decide,show(aed "set" == aed "tuple")=false by decide,Bool.or_false,aa9,if_false]
 have old:∀{b:Addr}{u:Obj}{n:Nat},s.heap.get? b=some u->s.heap.objs.size<=n->b≠n:=λe hn z=>absurd (lt_size e) (by rw[z];exact Nat.not_lt_of_le hn)
 refine aaw (zUg ho hx hd hf (λhc=>?_) λhc=>⟨hz,λd ps hp=>?_⟩)
 ·have hS':=get?_push_of_some (oR (.int 0 0) 0 a es.size ep) hS
  have ho':=get?_push_of_some (oR (.int 0 0) 0 a es.size ep) ho
  have hI:(s.heap.push (oR (.int 0 0) 0 a es.size ep)).get? s.heap.objs.size=some (oR (.int 0 0) 0 a es.size ep):=get?_push_size _ rfl
  have off:S∉[s.heap.objs.size,a]:=λz=>by
   rcases mem_cons.mp z with z|z
   ·exact old hS (aa0 _) z
   ·exact Zn (mem_singleton.mp z)
  have hne:a≠s.heap.objs.size:=old ho (aa0 _)
  cases hb:w.params.followText "set-order" with
  |true =>
   refine Zk (s:={ s with heap:=_ }) (zOn hi hne hd hf hb) hz off ⟨o,ho',hx.1⟩ ⟨ho',0,0,hI⟩ hS' λh' tk acc c' k h2 h3=>?_
   refine hR h' tk s.drawn acc c' (λb u n e=>k b u n (old e (aa0 _)) (get?_push_of_some _ e)) h2 ?_
   rw[Zm h3 (by rw[length_map,(PK _ es).length_eq,length_toList])]
   exact(PK _ es).map _
  |false =>
   have hl:t.led=true:=by rw[tb.led];unfold zU;rw[hb];rfl
   have hn:(!t.plain&&decide (es.size > 1))=false:=by rw[hb] at hc;exact hc
   have hr:Rz t.place:=by
    cases hp:t.plain with
    |true=>exact tb.rz hp
    |false =>
     rw[hp] at hn
     refine zTn ?_
     rw[SM hf]
     have:¬es.size > 1:=of_decide_eq_false (by simpa using hn)
     omega
   refine Zk (s:={ s with heap:=_ }) (zMz hi hne hd hf hb hl hn hr) hz off ⟨o,ho',hx.1⟩ ⟨ho',0,0,hI,zOh hr⟩ hS' λh' tk acc c' k h2 h3=>?_
   refine hR h' tk s.drawn acc c' (λb u n e=>k b u n (old e (aa0 _)) (get?_push_of_some _ e)) h2 ?_
   rw[Zm h3 (by rw[length_map,length_toList])]
 ·have e0:∀{b:Addr}{u:Obj},s.heap.get? b=some u->((s.heap.push { cls:=.type "tuple",data:=.seq (ps.map λ(i:Nat)=>acj i 0).toArray }).push (oR (.ref s.heap.objs.size) 0 a es.size ep)).get? b=some u:=λe=>get?_push_of_some _ (get?_push_of_some _ e)
  have sz:(s.heap.push ({ cls:=.type "tuple",data:=.seq (ps.map λ(i:Nat)=>acj i 0).toArray }:Obj)).objs.size=s.heap.objs.size+1:=size_push ..
  have hI:((s.heap.push { cls:=.type "tuple",data:=.seq (ps.map λ(i:Nat)=>acj i 0).toArray }).push (oR (.ref s.heap.objs.size) 0 a es.size ep)).get? (s.heap.objs.size+1)=some (oR (.ref s.heap.objs.size) 0 a es.size ep):=by
   rw[<-sz];exact get?_push_size _ rfl
  have hTT:((s.heap.push { cls:=.type "tuple",data:=.seq (ps.map λ(i:Nat)=>acj i 0).toArray }).push (oR (.ref s.heap.objs.size) 0 a es.size ep)).get? s.heap.objs.size=some { cls:=.type "tuple",data:=.seq (ps.map λ(i:Nat)=>acj i 0).toArray }:=get?_push_of_some _ (get?_push_size _ rfl)
  have off:S∉[s.heap.objs.size+1,a,s.heap.objs.size]:=λz=>by
   rcases mem_cons.mp z with z|z
   ·exact old hS (acq _) z
   ·rcases mem_cons.mp z with z|z
    ·exact Zn z
    ·exact old hS (aa0 _) (mem_singleton.mp z)
  refine Zk (s:={ s with drawn:=d,heap:=_ }) (zM0 hi (old ho (acq _)) (aa5 (acv _)) hd hf hp) hz off ⟨o,e0 ho,hx.1⟩ ⟨e0 ho,hTT,hI⟩ (e0 hS) λh' tk acc c' k h2 h3=>?_
  refine hR h' tk d acc c' (λb u n e=>k b u n (old e (acq _)) (e0 e)) h2 ?_
  rw[Zm h3 (by rw[length_map,hp.length_eq,length_range])]
  have e1:=zNl es
  rw[<-e1]
  exact hp.map _
theorem zK2{R:List Value->Shared->Prop}(hh:A.handled=none)(ho:s.heap.get? a=some o)(hx:o.ExactSet)(hd:o.data=.set es ep t)(hf:t.fits es.size=true)(tb:Tb (zU w) t)(hz:es.size<=sizeLine)(h:∀h' tk d (acc:List Value),(∀b u,s.heap.get? b=some u->h'.get? b=some u)->acc.Perm (es.toList.map (·.2))->R acc { s with heap:=h',toks:=tk,drawn:=d }) :
  wpAny (model prog w) A (collect (.ref a)) R E s:=by
 have lt:a<s.heap.objs.size:=lt_size ho
 unfold collect
 refine aaw (wpAny_runValue (ac7 entry_proto_collect' ?_))
 rw[acw F.plain_proto_collect _]
 refine aaw (m:=newList []) (ab3 (aax ⟨aea F.plain_list_iadd _,ac7 entry_list_iadd' ?_⟩))
 rw[acw F.plain_list_iadd _]
 have hS:(s.heap.push { cls:=.type "list",data:=.seq ([]:List Value).toArray }).get? s.heap.objs.size=some { cls:=.type "list",data:=.seq #[] }:=get?_push_size _ rfl
 have key:=zN7 (prog:=prog) (A:=A) (S:=s.heap.objs.size) (res:=.ref s.heap.objs.size) (s:={ s with heap:=s.heap.push { cls:=.type "list",data:=.seq ([]:List Value).toArray } })
  (R:=λ(q:Result) (s':Shared)=>∃(h':Heap)(tk:Nat)(d:Drawn)(acc:Array Value)(c':Nat),q=.ok (.ret (.ref s.heap.objs.size))/\s'={ s with heap:=h',toks:=tk,drawn:=d }/\(∀b u,s.heap.get? b=some u->h'.get? b=some u) /\
   h'.get? s.heap.objs.size=some { cls:=.type "list",dict:=none,data:=.seq acc c',slots:=#[] }/\acc.toList.Perm (es.toList.map (·.2)))
  hh (get?_push_of_some _ ho) hx hd hf tb hz (adn lt) hS λh' tk d acc c' k h1 h2=>⟨h',tk,d,acc,c',rfl,rfl,λb u e=>k b u (aa5 (lt_size e)) (get?_push_of_some _ e),h1,h2⟩
 refine aco key (λfin s' x=>?_) λe s' x=>?_
 ·cases fin with
  |done f =>
   obtain⟨h',tk,d,acc,c',e,rfl,k,h1,h2⟩:=x
   cases e
   refine aaw (m:=load s.heap.objs.size) (wpAny_load h1 ?_)
   exact aax (h h' tk d acc.toList k h2)
  |again c1 =>
   refine⟨x.1,ad1 x.2 λq s2 y=>?_⟩
   obtain⟨h',tk,d,acc,c',rfl,rfl,k,h1,h2⟩:=y
   refine aaw (m:=load s.heap.objs.size) (wpAny_load h1 ?_)
   exact aax (h h' tk d acc.toList k h2)
 ·obtain⟨_,_,_,_,_,e',_⟩:=x
  cases e'
end
end qM
namespace L2
open PySem PySem.Spec PyProof.Rows qM
def qN:Value->Int
 |.int k _=>k
 |_=>0
theorem Wq:∀k v,(intKind P w).is k v=true->qN v=k:=λk v h=>by
 obtain⟨t,rfl⟩:=ade h
 rfl
theorem Inv.drew(I:Inv X pins σ H s)(d:Drawn):Inv X pins σ H { s with drawn:=d }:=⟨I.ok,I.os,I.bare,I.base,I.loc,I.cell,I.free,I.gZ,I.pin,I.hok,I.len⟩
abbrev Fj:=St->Hp->(LI->Hp->Prop)->Prop
def StP(X:Cx)(pins:List (Addr×Obj))(σ:St)(Q:LI->Hp->Prop)(v:Value)(s':Shared):Prop :=
 ∃(a:Addr)(ks:LI)(H':Hp),v=.ref a/\Inv X pins σ H' s'/\Good (intKind X.prog X.w) qN (zU X.w) s'.heap a ks/\kE X pins H' a/\Q ks H'
def Ay(X:Cx)(e:Expr)(t:Fj):Prop:=∀(pins:List (Addr×Obj))(s:Shared)(σ:St)(H:Hp)(Q:LI->Hp->Prop),Inv X pins σ H s->t σ H Q->wpAny (model X.prog X.w) X.A (eval e X.env) (StP X pins σ Q) X.xe s
section
variable{X:Cx}
theorem zWi:∀{ns:LI}{its:List Value},IntsAre its ns->∀{i:Nat}{v:Value},its[i]?=some v->∃t,v=.int (ns.getD i 0) t
 |_,_,.nil,i,v,h=>by simp at h
 |_,_,.cons n t r,0,v,h=>by simp at h;subst h;exact⟨t,rfl⟩
 |_,_,.cons n t r,i+1,v,h=>by
  obtain⟨t',e⟩:=zWi r (by simpa using h)
  exact⟨t',e⟩
theorem zSh:∀{ns:LI}{its:List Value},IntsAre its ns->its.length=ns.length
 |_,_,.nil=>rfl
 |_,_,.cons n t r=>congrArg (· + 1) (zSh r)
def Il(K:PySem.W.Frag)(te:TE):Fj:=λσ H Q=>yJ te bh σ H λvs H1=>∃(p:Addr)(ns:LI),vs=[.ref p]/\aO K H1 p (ns.map V.int)/\ns.length<4000/\∀ks:LI,ks.Nodup->(∀z,z∈ks↔z∈ns)->Q ks H1
theorem Ln:bootBuiltins "set" = some (.type "set"):=by decide +kernel
theorem Lp(K:PySem.W.Frag)(hc:X.calm=true)(hm:X.mg "set" = none)(he:PE X e te)(hK:X.K=K:=by rfl)(hg:Gl X "set":=by rfl)(hs:starEach [e] X.env=[(false,eval e X.env)]:=by rfl):Ay X (.Call (.Name "set" p) [e] [] pos) (Il K te):=by
 subst hK
 intro pins s σ H Q I h
 refine ab8 (uc I hg hm Ln ?_)
 have ha:PA X [e] (yJ te bh):=zA he zE hs
 refine abk (aP (ha pos pins s σ H _ I h) λus s1 ⟨vs,H1,I1,r1,q1⟩=>?_) hs rfl
 obtain⟨l,ns,e1,hq,h4,q⟩:=q1
 subst e1
 cases r1 with
 |cons r rr =>
  cases rr
  cases r
  obtain⟨its,rv,pl,hz⟩:=I1.list hq
  have hi:IntsAre its ns:=Y7 rv
  have hl:=zSh hi
  refine zU1 (knd:=intKind X.prog X.w) (dec:=qN) Wq (λi=>ns.getD i 0) (I1.ok.hd hc) pl.isList (λi v hv=>?_) (by rw[size_toArray,hl];show ns.length+1<4096;omega) λh' tk g k=>?_
  ·obtain⟨t,rfl⟩:=zWi hi (by rw[getElem?_toArray] at hv;exact hv)
   exact⟨intKind_is _ _ _ _,rfl⟩
  ·have I2:=I1.kept (h':=h') (t':=tk) λb o e=>k b o (lt_size e) e
   obtain⟨_,_,_,_,_,_,_,_,_,nd,_⟩:=id g
   refine⟨_,_,H1,rfl,I2,g,I1.jQ (aa0 _) (I1.hok.fresh (aa0 _)),q _ nd λz=>?_⟩
   rw[zQu,size_toArray,hl]
   constructor
   ·rintro⟨j,hj,rfl⟩
    rw[getD_eq_getElem?_getD,aaz hj]
    exact getElem_mem hj
   ·intro hz
    obtain⟨j,hj,e⟩:=getElem_of_mem hz
    exact⟨j,hj,by rw[getD_eq_getElem?_getD,aaz hj];exact e⟩
def SN(ts:Fj):TE:=λσ H Q=>ts σ H λks H1=>ks.length<64/\∀(l:Addr)(ms:LI),H1 l=none->ms.Perm ks->ms.Pairwise (· <= ·)->Q (.ref l) (upd H1 l (.lst (ms.map V.int)))
theorem zL7:∀{vs:List Value},(∀v∈vs,∃k,(intKind P w).is k v=true)->IntsAre vs (vs.map qN)
 |[],_=>.nil
 |v::vs,h=>by
  obtain⟨k,hk⟩:=h v mem_cons_self
  obtain⟨t,rfl⟩:=ade hk
  exact .cons k t (zL7 (P:=P) (w:=w) λu hu=>h u (mem_cons_of_mem _ hu))
theorem zTe(hc:X.calm=true)(I:Inv X pins σ H s)(g:Good (intKind X.prog X.w) qN (zU X.w) s.heap a ks)(h64:ks.length<64)(q:∀(l:Addr) (ms:LI),H l=none->ms.Perm ks->ms.Pairwise (· <= ·)->Q (.ref l) (upd H l (.lst (ms.map V.int)))):wpAny (model X.prog X.w) X.A (call (.builtin "sorted") [.ref a]) (EP X pins σ Q) X.xe s:=by
 obtain⟨o,es,ep,t,ho,hx,hd,hel,hp,nd,hb,hf,tb⟩:=g
 have hsz:es.size=ks.length:=by rw[<-hp.length_eq,length_map,length_toList]
 refine PySem.Calls.call_function_entry kind_sorted plain_sorted entry_sorted (args_sorted1 _) ?_
 unfold Builtin.«sorted»
 refine aaw (m:=checkCount "sorted" 1 1 _) (aax ?_)
 refine aaw (zK2 (A:=X.A.in1) (I.ok.hd hc) ho hx hd hf tb (acz hb) λh' tk d acc hkeep hacc=>?_)
 have I':Inv X pins σ H { s with heap:=h',toks:=tk,drawn:=d }:=(I.kept (h':=h') (t':=tk) hkeep).drew d
 have hI:IntsAre acc (acc.map qN):=zL7 (P:=X.prog) (w:=X.w) λv hv=>by
  obtain⟨e,he,rfl⟩:=mem_map.mp (hacc.mem_iff.mp hv)
  obtain⟨⟨k,hk,_⟩,_⟩:=hel e he
  exact⟨k,hk⟩
 have hpk:(acc.map qN).Perm ks:=by
  refine(hacc.map qN).trans ?_
  rw[List.map_map]
  exact hp
 have hal:acc.length=ks.length:=by rw[<-hpk.length_eq,length_map]
 have hsl:acc.length<=sizeLine:=by rw[hal];exact acf (aek h64 (by decide))
 refine aaw (wpAny_newList ?_ hsl)
 have hoL:(h'.push (seqObj "list" acc.toArray 0)).get? h'.objs.size=some (seqObj "list" acc.toArray 0):=get?_push_size _ rfl
 refine aaw (abu (acn slot_list_sort ⟨_,hoL,rfl⟩ entry_list_sort (list_sort_tree hoL hI (by omega) λout ns' a1 a2 a3=>⟨_,rfl,?_⟩) (args_list_sort _)))
 refine aax ⟨_,rfl,?_⟩
 obtain⟨e,he⟩:=sortedHeap_at (out:=out) hoL
 refine⟨.ref h'.objs.size,_,I'.laid (t':=tk) (o:=.lst (ns'.map V.int)) (λb ob w=>?_) (aa0 _) ?_,rfl,q _ ns' (I'.hok.fresh (aa0 _)) (a2.trans hpk) a3⟩
 ·have hb:h'.get? b=some ob:=w
  have hlt:=lt_size hb
  rw[sortedHeap_old (aa5 hlt) (by rw[size_push'];exact aej hlt),Heap.get?_push_ne _ _ _ (aa5 hlt)]
  exact hb
 ·refine⟨?_,out.toList,e,uW a1,?_⟩
  ·rw[length_map,a2.length_eq,length_map];exact hsl
  ·rw[toArray_toList];exact he
theorem Wr(hc:X.calm=true)(hm:X.mg "sorted" = none)(he:Ay X e ts)(hg:Gl X "sorted":=by rfl)(hs:starEach [e] X.env=[(false,eval e X.env)]:=by rfl):PE X (.Call (.Name "sorted" p) [e] [] pos) (SN ts):=by
 intro pins s σ H Q I h
 refine ab8 (uc I hg hm (by decide +kernel:bootBuiltins "sorted" = some (.builtin "sorted")) ?_)
 refine PyProof.Rows.callWith_builtin1 (Q:=_) ?_ hs rfl
 rw[hs]
 show wpAny _ _ (spliced ((false,eval e X.env)::backTo pos [])) _ _ s
 refine aeb (aP (he pins s σ H _ I h) λu s1 ⟨a,ks,H1,e1,I1,g,fo,h64,q⟩=>?_)
 subst e1
 refine aei ?_
 exact zTe hc I1 g h64 q
end
end L2
namespace Ts
open PySem L2
def qb(z:Int):LI->LI
 |[]=>[z]
 |y::ys=>if z<y then z::y::ys else if z=y then y::ys else y::qb z ys
def wR(ns:LI):LI:=ns.foldr qb []
def PN(ns:LI):Option LI:=if ns.length<64 then some (wR ns) else none
theorem mO:∀{ys:LI},x∈qb z ys↔x=z\/x∈ys
 |[]=>by simp[qb]
 |y::ys=>by
  unfold qb
  split
  ·simp
  ·split
   ·rename_i h;subst h;simp
   ·rw[mem_cons,mO,mem_cons]
    exact⟨λh=>h.elim (λh=>.inr (.inl h)) λh=>h.elim .inl λh=>.inr (.inr h),λh=>h.elim (λh=>.inr (.inl h)) λh=>h.elim .inl λh=>.inr (.inr h)⟩
theorem zQ6:∀{ys:LI},ys.Pairwise (· < ·)->(qb z ys).Pairwise (· < ·)
 |[],_=>by simp[qb]
 |y::ys,h=>by
  have h1:=pairwise_cons.mp h
  unfold qb
  split
  ·rename_i hz
   refine pairwise_cons.mpr ⟨λx hx=>?_,h⟩
   rcases mem_cons.mp hx with e|e
   ·rw[e];exact hz
   ·exact Int.lt_trans hz (h1.1 x e)
  ·split
   ·exact h
   ·refine pairwise_cons.mpr ⟨λx hx=>?_,zQ6 h1.2⟩
    rcases mO.mp hx with e|e
    ·rw[e];omega
    ·exact h1.1 x e
theorem bN:∀{ns:LI},x∈wR ns↔x∈ns
 |[]=>by simp[wR]
 |n::ns=>by
  show x∈qb n (wR ns)↔_
  rw[mO,bN,mem_cons]
theorem uX:∀ns:LI,(wR ns).Pairwise (· < ·)
 |[]=>.nil
 |n::ns=>zQ6 (uX ns)
theorem Im:∀{xs ys:LI},xs.Pairwise (· < ·)->ys.Pairwise (· < ·)->(∀s,s∈xs↔s∈ys)->xs=ys
 |[],[],_,_,_=>rfl
 |[],y::ys,_,_,h=>absurd ((h y).mpr mem_cons_self) (by simp)
 |x::xs,[],_,_,h=>absurd ((h x).mp mem_cons_self) (by simp)
 |x::xs,y::ys,hx,hy,h=>by
  have h1:=pairwise_cons.mp hx
  have h2:=pairwise_cons.mp hy
  have e:x=y:=by
   rcases mem_cons.mp ((h x).mp mem_cons_self) with e|e
   ·exact e
   ·rcases mem_cons.mp ((h y).mpr mem_cons_self) with e'|e'
    ·exact e'.symm
    ·have a1:=h2.1 x e
     have a2:=h1.1 y e'
     omega
  subst e
  rw[Im h1.2 h2.2 λs=>?_]
  constructor
  ·intro hs
   rcases mem_cons.mp ((h s).mp (mem_cons_of_mem _ hs)) with e|e
   ·have:=h1.1 s hs;omega
   ·exact e
  ·intro hs
   rcases mem_cons.mp ((h s).mpr (mem_cons_of_mem _ hs)) with e|e
   ·have:=h2.1 s hs;omega
   ·exact e
theorem Fo:∀{ks ns:LI},ks.Nodup->(∀z∈ks,z∈ns)->ks.length<=ns.length
 |[],_,_,_=>abj _
 |k::ks,ns,nd,h=>by
  obtain⟨a,b,e⟩:=List.append_of_mem (h k mem_cons_self)
  have nd':=nodup_cons.mp nd
  have q:=Fo (ks:=ks) (ns:=a++b) nd'.2 λz hz=>by
   have hm:=h z (mem_cons_of_mem _ hz)
   rw[e] at hm
   rcases mem_append.mp hm with m|m
   ·exact mem_append.mpr (.inl m)
   ·rcases mem_cons.mp m with m|m
    ·exact absurd (m▸hz) nd'.1
    ·exact mem_append.mpr (.inr m)
  rw[e,length_append,length_cons,length_cons]
  rw[length_append] at q
  omega
theorem vK:∀{ms:LI},ms.Pairwise (· <= ·)->ms.Nodup->ms.Pairwise (· < ·)
 |[],_,_=>.nil
 |m::ms,h,nd=>by
  have h1:=pairwise_cons.mp h
  have n1:=nodup_cons.mp nd
  refine pairwise_cons.mpr ⟨λx hx=>?_,vK h1.2 n1.2⟩
  have a:=h1.1 x hx
  have b:m≠x:=λe=>n1.1 (e▸hx)
  omega
section
variable{K:PySem.W.Frag}{B:Bs}{sl:SL K}{md:Md}{t:TE}
theorem zOb(h:Ex B sl .hp t m):Eo B sl md (SN (Il K t)) (m.bind PN):=λc hc F O H σ Q s k=>by
 cases m with
 |none=>cases hc
 |some ns =>
  have hc:PN ns=some c:=hc
  unfold PN at hc
  split at hc
  case isFalse=>cases hc
  rename_i hl
  cases hc
  refine h ns rfl F O H σ _ s λv F' H' g r1=>?_
  obtain⟨p,vs,rfl,z1,z2⟩:=r1
  have z3:vs=ns.map V.int:=z2.vals
  subst z3
  refine⟨p,ns,rfl,aO.of z1,by omega,λks nd hm=>⟨aa7 (Fo nd λz hz=>(hm z).mp hz) hl,λl ms hn p1 p2=>?_⟩⟩
  have e:ms=wR ns:=Im (vK p2 (p1.nodup_iff.mpr nd)) (uX ns) λz=>by rw[p1.mem_iff,hm,bN]
  subst e
  exact k l _ F' H' g hn (H_ _)
end
end Ts
namespace qM
open PySem PySem.Spec PyProof.Rows
set_option maxRecDepth 100000
theorem zHb:entryFor table "set.__and__" = some Builtin.«frozenset.__and__»:=aem (id':="frozenset.__and__") (by kernel_rfl) rfl (by decide +kernel) (by kernel_rfl)
section
variable{prog:Program}{w:World}{κ:Type}[DecidableEq κ]{knd:KeyKind prog w κ}{dec:Value->κ}{led:Bool}{A:Around}{E:Value->Shared->Prop}{s:Shared}
theorem Good.setOf(hdec:∀k v,knd.is k v=true->dec v=k)(g:Good knd dec led h a ks):h.SetOf knd a (λk=>decide (k∈ks)) ks.length:=by
 obtain⟨o,es,ep,t,h1,h2,h3,hel,hp,nd,hb,hf,tb⟩:=g
 refine⟨o,es,ep,t,h1,h2,h3,hel,λk=>?_,hb,hf,by rw[<-hp.length_eq,length_map,length_toList]⟩
 rw[decide_eq_true_iff,<-hp.mem_iff,mem_map]
 constructor
 ·rintro⟨e,he,rfl⟩
  obtain⟨⟨k',hk,_⟩,_⟩:=hel e he
  exact⟨e,he,by rw[hdec k' _ hk];exact hk⟩
 ·rintro⟨e,he,hk⟩
  exact⟨e,he,hdec _ _ hk⟩
theorem Good.size(g:Good knd dec led h a ks):∃o es ep t,h.get? a=some o/\o.ExactSet/\o.data=.set es ep t/\t.fits es.size=true/\es.size=ks.length/\Tb led t/\ElemsOf knd es.toList/\(es.toList.map λe=>dec e.2).Perm ks:=by
 obtain⟨o,es,ep,t,h1,h2,h3,hel,hp,nd,hb,hf,tb⟩:=g
 exact⟨o,es,ep,t,h1,h2,h3,hf,by rw[<-hp.length_eq,length_map,length_toList],tb,hel,hp⟩
theorem Good.type{s:Shared}(g:Good knd dec led s.heap a ks):s.TypeIs (.ref a) "set":=by
 obtain⟨o,_,_,_,h1,h2,_⟩:=g
 exact⟨o,h1,h2.1⟩
theorem CJ{Q:Bool->Shared->Prop}(hT:s.TypeIs (.ref a) "set")(h:Q true s):wpAny (model prog w) A (Builtin.Frozenset.isAnySet (.ref a)) Q E s:=by
 unfold Builtin.Frozenset.isAnySet
 refine aaw (aeu (T:="set") (b:=true) hT afh ?_)
 exact aax h
theorem PX{Q:Nat->Shared->Prop}(g:Good knd dec led s.heap a ks)(h:Q ks.length s):wpAny (model prog w) A (ad6 a) Q E s:=by
 obtain⟨o,es,ep,t,h1,h2,h3,hf,hl,_⟩:=g.size
 unfold ad6
 refine aaw (Wm h1 h3 hf (aax ?_))
 rw[hl]
 exact h
theorem zLu(sets:List Addr)(hs:∀a∈sets,∃ks:List κ,Good knd dec led s.heap a ks)(hn:∀k v,knd.is k v=true->∀b,v≠.ref b){Q:Bool->Shared->Prop}(h:Q true s):wpAny (model prog w) A (setsQuiet sets) Q E s:=by
 unfold setsQuiet
 refine aaw (aco (adk (β:=Option Bool×Unit) _ (λl b s'=>s'=s/\b=(none,())/\∀a∈l,∃ks:List κ,Good knd dec led s.heap a ks) (λb s'=>s'=s/\b=(none,())) ?turn (λb s' hI=>⟨hI.1,hI.2.1⟩) sets _ ⟨rfl,rfl,hs⟩) ?post (λ_ _ h=>h))
 case post =>
  rintro b s' ⟨rfl,rfl⟩
  exact aax h
 case turn =>
  rintro a rest b s' ⟨rfl,rfl,hg⟩
  obtain⟨ks,g⟩:=hg a mem_cons_self
  obtain⟨o,es,ep,t,h1,h2,h3,hf,hl,tb,hel,hp⟩:=g.size
  refine aaw (Wm h1 h3 hf ?_)
  rw[<-forIn_toList]
  refine aaw (aco (adk (β:=Option Bool×Unit) _ (λl b s''=>s''=s'/\b=(none,())/\∀e∈l,∀c,e.2≠.ref c) (λb s''=>s''=s'/\b=(none,())) ?t2 (λb s' hI=>⟨hI.1,hI.2.1⟩) es.toList _ ⟨rfl,rfl,?p0⟩) ?p2 (λ_ _ h=>h))
  case p0 =>
   intro e he c z
   obtain⟨⟨k,hk,_⟩,_⟩:=hel e he
   exact hn k _ hk c z
  case p2 =>
   rintro b s'' ⟨rfl,rfl⟩
   exact aax ⟨rfl,rfl,λa ha=>hg a (mem_cons_of_mem _ ha)⟩
  case t2 =>
   rintro⟨hh,x⟩ l b s'' ⟨rfl,rfl,hl⟩
   have hx:=hl _ mem_cons_self
   dsimp only at hx ⊢
   split
   ·exact absurd rfl (hx _)
   ·exact aax ⟨rfl,rfl,λe he=>hl e (mem_cons_of_mem _ he)⟩
theorem zOo(g:Good knd dec (zU w) s.heap a ks)(hq:w.params.followText "set-order" = false->∀o es ep t,s.heap.get? a=some o->o.data=.set es ep t->(!t.plain&&decide (es.size > 1))=false){Q:Array (Int×Value)->Shared->Prop}(h:∀es:Array (Int×Value),ElemsOf knd es.toList->(es.toList.map λe=>dec e.2).Perm ks->Q es s):wpAny (model prog w) A (setWalk a) Q E s:=by
 obtain⟨o,es,ep,t,h1,h2,h3,hf,hl,tb,hel,hp⟩:=g.size
 unfold setWalk
 refine aaw (abd h1 h3 hf ?_)
 dsimp only
 refine aaw (uU ?_)
 cases hb:w.params.followText "set-order" with
 |true =>
  simp only[↓reduceIte]
  refine aaw (ad2 (aax ?_))
  exact h _ (hel.perm (PK _ es)) (((PK _ es).map _).trans hp)
 |false =>
  have q:=hq hb o es ep t h1 h3
  have Zo:t.led=true:=by rw[tb.led];unfold zU;rw[hb];rfl
  simp only[aa9,↓reduceIte]
  show wpAny _ _ (if(!t.plain&&decide (es.size > 1))=true then _ else _) _ _ _
  rw[if_neg (by rw[q];exact aay)]
  refine aaw ?_
  show wpAny _ _ (if(!t.led&&decide (es.size > 1))=true then _ else pure ()) _ _ _
  rw[if_neg (by rw[Zo];exact aay)]
  exact aax (aax (h es hel hp))
theorem Zq(g:Good knd dec (zU w) s.heap a ks)(gf:Good knd dec (zU w) s.heap f kf)(hs:∀b∈others,∃ks:List κ,Good knd dec (zU w) s.heap b ks)(hn:∀k v,knd.is k v=true->∀b,v≠.ref b){Q:Array (Int×Value)->Shared->Prop}(h:∀(es:Array (Int×Value)) (h':Heap),ElemsOf knd es.toList->(es.toList.map λe=>dec e.2).Perm ks->SameBut f s.heap h'->Good knd dec (zU w) h' f kf->Q es { s with heap:=h' }):wpAny (model prog w) A (setWalkUnseen a others (some f)) Q E s:=by
 obtain⟨o,es,ep,t,h1,h2,h3,hf,hl,tb,hel,hp⟩:=g.size
 unfold setWalkUnseen
 refine aaw (abd h1 h3 hf ?_)
 dsimp only
 refine aaw (uU ?_)
 split
 ·rename_i c
  refine zOo g (λhb o' es' ep' t' h1' h3'=>?_) λes' mQ hp'=>h es' s.heap mQ hp' (SameBut.refl f s.heap) gf
  rw[h1] at h1'
  cases h1'
  rw[h3] at h3'
  cases h3'
  rw[hb] at c
  simp only[aev,acd,aa1,decide_eq_true_eq] at c
  rcases c with⟨_,c⟩|c
  ·rw[c];rfl
  ·rw[decide_eq_false (by omega),afl]
 ·refine aaw (zLu (knd:=knd) (dec:=dec) (led:=zU w) (a::others) (λb hb=>(mem_cons.mp hb).elim (λe=>e▸⟨ks,g⟩) (hs b)) hn ?_)
  simp only[ab9,aa9,↓reduceIte]
  refine aaw (aee ?_)
  obtain⟨of,ef,epf,tf,f1,f2,f3,ff,fl,tbf,Zr,fp⟩:=gf.size
  refine aaw (abd f1 f3 ff ?_)
  dsimp only
  split
  ·have gl:=gf.len
   refine aaw (ac0 f1 f3 ?_ (acz (by rw[fl];exact gl)))
   obtain⟨_,_,_,_,e1,_,_,_,_,nd,hb,_,_⟩:=gf
   refine aax (h es _ hel hp (SameBut.update _ f _) ⟨_,ef,_,_,Ik (es':=ef) (t':=_) f1 f3,f2,rfl,Zr,fp,nd,?_,?_,?_⟩)
   ·rw[fl];exact gl
   ·exact ff
   ·refine⟨?_,λz=>?_⟩
    ·show(tf.led&&t.led)=_
     rw[tbf.led,tb.led,afs]
    ·exact tbf.rz (Bool.and_eq_true_iff.mp z).1
  ·exact aax (h es s.heap hel hp (SameBut.refl f s.heap) gf)
theorem zGm(hdec:∀k v,knd.is k v=true->dec v=k)(id:String)(hn:∀k v,knd.is k v=true->∀b,v≠.ref b)(Zt:x≠r)(Ws:y≠r)(gx:Good knd dec (zU w) s.heap x ka)(gy:Good knd dec (zU w) s.heap y ky)(gr:Good knd dec (zU w) s.heap r []){Q:Unit->Shared->Prop}(h:∀(h':Heap) (kr:List κ),SameBut r s.heap h'->Good knd dec (zU w) h' r kr->(∀k,k∈kr↔k∈ka/\k∈ky)->Q () { s with heap:=h' }) :
  wpAny (model prog w) A (do
   let was <-setEpoch y
   for (h,x') in <-setWalkUnseen y [x,r] (some r) do
    holding [x'] do
     if(<-setFind x x' h).isSome then
      let _ <-setAddHashed r x' h
    abr id y was) Q E s:=by
 obtain⟨o,es,ep,t,h1,h2,h3,hf,hl,tb,hel,hp⟩:=gy.size
 refine aaw (ab6 h1 h3 hf ?_)
 refine aaw (Zq gy gr (λb hb=>(mem_cons.mp hb).elim (λe=>e▸⟨ka,gx⟩) λe=>(mem_singleton.mp e)▸⟨[],gr⟩) hn λes' h' mQ hp' sb SQ=>?_)
 rw[<-forIn_toList]
 have ln:es'.toList.length=ky.length:=by rw[<-hp'.length_eq,length_map]
 refine aaw (aco (adk (β:=Unit) _ (λl _ s'=>∃h2 kr,s'={ s with heap:=h2 }/\SameBut r s.heap h2/\Good knd dec (zU w) h2 r kr/\ElemsOf knd l/\kr.length+l.length<=ky.length/\∀k,(k∈kr\/(k∈ka/\k∈l.map λe=>dec e.2))↔(k∈ka/\k∈ky)) (λ_ s'=>∃h2 kr,s'={ s with heap:=h2 }/\SameBut r s.heap h2/\Good knd dec (zU w) h2 r kr/\∀k,k∈kr↔k∈ka/\k∈ky) ?turn ?fin es'.toList () ⟨h',[],rfl,sb,SQ,mQ,by rw[ln,length_nil];omega,λk=>?_⟩) ?post (λ_ _ h=>h))
 case turn =>
  rintro⟨hs,v⟩ l b s' ⟨h2,kr,rfl,jN,g2,hl2,hlen,hm⟩
  obtain⟨⟨k,hk,hh⟩,hsc⟩:=hl2 _ mem_cons_self
  dsimp only at hk hh hsc ⊢
  subst hh
  have kx:∀o,s.heap.get? x=some o->h2.get? x=some o:=λo e=>by rw[jN.2 x Zt];exact e
  have ky':∀o,s.heap.get? y=some o->h2.get? y=some o:=λo e=>by rw[jN.2 y Ws];exact e
  have Zu:=gx.keep kx
  have dv:dec v=k:=hdec k v hk
  rw[length_cons] at hlen
  have cont:∀(h3':Heap)(Az:List κ),SameBut r s.heap h3'->Good knd dec (zU w) h3' r Az->Az.length+l.length<=ky.length->(∀c,(c∈Az\/(c∈ka/\c∈l.map λe=>dec e.2))↔(c∈ka/\c∈ky)) ->
    wpAny (model prog w) A (abr id y ep) (λ_ s''=>wpAny (model prog w) A (pure (ac1 ())) (λq s''=>match q with|.yield _=>∃h2 kr,s''={ s with heap:=h2 }/\SameBut r s.heap h2/\Good knd dec (zU w) h2 r kr/\ElemsOf knd l/\kr.length+l.length<=ky.length/\∀k,(k∈kr\/(k∈ka/\k∈l.map λe=>dec e.2))↔(k∈ka/\k∈ky)|.done _=>∃h2 kr,s''={ s with heap:=h2 }/\SameBut r s.heap h2/\Good knd dec (zU w) h2 r kr/\∀k,k∈kr↔k∈ka/\k∈ky) E s'') E { s with heap:=h3' }:=λh3' Az qO g3 l3 m3=>by
   unfold abr
   refine aaw (ab6 (s:={ s with heap:=h3' }) (by show h3'.get? y=_;rw[qO.2 y Ws];exact h1) h3 hf ?_)
   simp only[bne_self_eq_false,aa9,↓reduceIte]
   exact aax (aax ⟨h3',Az,rfl,qO,g3,λe he=>hl2 e (mem_cons_of_mem _ he),l3,m3⟩)
  refine aaw (abu (aaw (wpAny_setFind_of (s:={ s with heap:=h2 }) hk hsc (Zu.setOf hdec) λq hq=>?_)))
  cases q with
  |none =>
   have nk:k∉ka:=by simpa using hq.symm
   simp only[Option.isSome_none,aa9,↓reduceIte]
   refine aax (aaw (cont h2 kr jN g2 (by omega) λc=>?_))
   rw[<-hm c,map_cons,mem_cons]
   show _↔(c∈kr\/c∈ka/\(c=dec v\/_))
   rw[dv]
   constructor
   ·rintro(z|⟨z1,z2⟩)
    ·exact .inl z
    ·exact .inr ⟨z1,.inr z2⟩
   ·rintro(z|⟨z1,z2|z2⟩)
    ·exact .inl z
    ·exact absurd (z2▸z1) nk
    ·exact .inr ⟨z1,z2⟩
  |some j =>
   have mk:k∈ka:=by simpa using hq.symm
   simp only[aec,↓reduceIte]
   refine aaw (Wi (led:=zU w) (s:={ s with heap:=h2 }) hdec hk hsc g2 (by have:=gy.len;omega) λh3' b' qO g3=>?_)
   refine aax (aaw (cont h3' _ (jN.trans qO) g3 ?_ λc=>?_))
   ·split
    ·omega
    ·rw[length_cons];omega
   ·rw[<-hm c,map_cons,mem_cons]
    show _↔(c∈kr\/c∈ka/\(c=dec v\/_))
    rw[dv]
    have e:c∈(if k∈kr then kr else k::kr)↔c=k\/c∈kr:=by
     split
     ·rename_i z
      exact⟨.inr,λq=>q.elim (λq=>q▸z) λq=>q⟩
     ·exact mem_cons
    rw[e]
    constructor
    ·rintro((z|z)|⟨z1,z2⟩)
     ·exact .inr ⟨z▸mk,.inl z⟩
     ·exact .inl z
     ·exact .inr ⟨z1,.inr z2⟩
    ·rintro(z|⟨z1,z2|z2⟩)
     ·exact .inl (.inr z)
     ·exact .inl (.inl z2)
     ·exact .inr ⟨z1,z2⟩
 case fin =>
  rintro b s' ⟨h2,kr,rfl,jN,g2,_,_,hm⟩
  refine⟨h2,kr,rfl,jN,g2,λk=>?_⟩
  rw[<-hm k]
  simp
 case post =>
  rintro b s' ⟨h2,kr,rfl,jN,g2,hm⟩
  exact aax (h h2 kr jN g2 hm)
 ·rw[hp'.mem_iff]
  simp
theorem Zv(hT:s.TypeIs (.ref a) "set"){Q:Value->Shared->Prop}(h:Q (.type "set") s):wpAny (model prog w) A (Builtin.Frozenset.baseOf a) Q E s:=by
 unfold Builtin.Frozenset.baseOf
 refine aaw (aeu (T:="set") (b:=true) hT afh ?_)
 exact aax h
theorem Zw{Q:Value->Shared->Prop}(h:Q (.ref s.heap.objs.size) { s with heap:=s.heap.push { cls:=.type "set",dict:=none,data:=.set #[] 0 (.fresh 0 0 (zU w)) } }):wpAny (model prog w) A (newSet (.type "set")) Q E s:=by
 unfold newSet setsByText
 refine aaw (aaw (ad2 (aax ?_)))
 dsimp only
 simp only[newObj]
 exact aaw (wpAny_alloc (aax h))
theorem zUi(hdec:∀k v,knd.is k v=true->dec v=k)(id:String)(hn:∀k v,knd.is k v=true->∀b,v≠.ref b)(hab:b≠a)(ga:Good knd dec (zU w) s.heap a ka)(gb:Good knd dec (zU w) s.heap b kb){Q:Value->Shared->Prop}(h:∀(h':Heap) (kr:List κ),Good knd dec (zU w) h' s.heap.objs.size kr->(∀k,k∈kr↔k∈ka/\k∈kb)->(∀c o,c<s.heap.objs.size->s.heap.get? c=some o->h'.get? c=some o)->Q (.ref s.heap.objs.size) { s with heap:=h' }) :
  wpAny (model prog w) A (Builtin.Frozenset.intersection id a (.ref b)) Q E s:=by
 have la:a<s.heap.objs.size:=by obtain⟨o,_,_,_,h1,_⟩:=ga;exact lt_size h1
 have lb:b<s.heap.objs.size:=by obtain⟨o,_,_,_,h1,_⟩:=gb;exact lt_size h1
 unfold Builtin.Frozenset.intersection
 rw[if_neg (λe=>hab (ae9 (ab7 e)))]
 refine aaw (Zv ga.type (aaw (Zw ?_)))
 refine aaw (aax ?_)
 have up:∀c o,s.heap.get? c=some o->(s.heap.push { cls:=.type "set",dict:=none,data:=.set #[] 0 (.fresh 0 0 (zU w)) }).get? c=some o:=λc o e=>get?_push_of_some _ e
 have Io:=ga.keep (up a)
 have Ip:=gb.keep (up b)
 have P0:Good knd dec (zU w) (s.heap.push { cls:=.type "set",dict:=none,data:=.set #[] 0 (.fresh 0 0 (zU w)) }) s.heap.objs.size []:=SJ (get?_push_size _ rfl)
 generalize hp:s.heap.push { cls:=.type "set",dict:=none,data:=.set #[] 0 (.fresh 0 0 (zU w)) }=hq at up Io Ip P0 ⊢
 have fin:∀(h':Heap)(kr:List κ),SameBut s.heap.objs.size hq h'->Good knd dec (zU w) h' s.heap.objs.size kr->(∀k,k∈kr↔k∈ka/\k∈kb)->Q (.ref s.heap.objs.size) { s with heap:=h' }:=λh' kr sb g m =>
  h h' kr g m λc o hc e=>by rw[sb.2 c (aa5 hc)];exact up c o e
 refine aaw (abu (aaw (CJ (s:={ s with heap:=hq }) (Good.type (s:={ s with heap:=hq }) Ip) ?_)))
 simp only[↓reduceIte]
 refine aaw (aax ?_)
 refine aaw (PX (s:={ s with heap:=hq }) Ip (aaw (PX (s:={ s with heap:=hq }) Io ?_)))
 split
 ·exact zGm (s:={ s with heap:=hq }) hdec id hn (aa5 lb) (aa5 la) Ip Io P0 λh' kr sb g m=>aax (fin h' kr sb g λk=>by rw[m k,and_comm])
 ·exact zGm (s:={ s with heap:=hq }) hdec id hn (aa5 la) (aa5 lb) Io Ip P0 λh' kr sb g m=>aax (fin h' kr sb g m)
theorem Lq(hdec:∀k v,knd.is k v=true->dec v=k)(hn:∀k v,knd.is k v=true->∀b,v≠.ref b)(hab:b≠a)(ga:Good knd dec (zU w) s.heap a ka)(gb:Good knd dec (zU w) s.heap b kb){Q:Value->Shared->Prop}(h:∀(h':Heap) (kr:List κ),Good knd dec (zU w) h' s.heap.objs.size kr->(∀k,k∈kr↔k∈ka/\k∈kb)->(∀c o,c<s.heap.objs.size->s.heap.get? c=some o->h'.get? c=some o)->Q (.ref s.heap.objs.size) { s with heap:=h' }) :
  wpAny (model prog w) A (binaryOp .BitAnd (.ref a) (.ref b)) Q E s:=by
 refine aez (op:=.BitAnd) (T:="set") ga.type gb.type F.fills_set_and F.slot_set_and (acn F.slot_set_and ga.type zHb ?_ (F.args_set_and_2 _ _))
 refine aaw (m:=ach "__and__" ⟨[.ref a,.ref b],[]⟩) ?_
 unfold ach slotArgs
 refine aax ?_
 dsimp only
 refine aaw (aaw (CJ ga.type ?_))
 refine CJ gb.type ?_
 simp only[ab9,aa9,↓reduceIte]
 refine aaw (aax (aaw (zUi hdec _ hn hab ga gb λh' kr g m k=>aax ⟨.ref s.heap.objs.size,rfl,?_,h h' kr g m k⟩)))
 exactλz=>ae6 z
end
end qM
namespace L2
open PySem PySem.Spec PyProof.Rows qM
section
variable{X:Cx}
def Ir(ta tb:Fj):Fj:=λσ H Q=>ta σ H λks H1=>tb σ H1 λjs H2=>∀rs:LI,rs.Nodup->(∀z,z∈rs↔z∈ks/\z∈js)->Q rs H2
theorem Fp(ha:Ay X a ta)(hb:Ay X b tb):Ay X (.BinOp a .BitAnd b pos) (Ir ta tb):=by
 intro pins s σ H Q I h
 refine afq (aP (ha pins s σ H _ I h) λu s1 ⟨p,ks,H1,e,I1,g,fo,h1⟩=>?_)
 subst e
 obtain⟨o,es,ep,t,go,gx,gd,_⟩:=id g
 have SX:=I1.pinned (fp:=[p]) (λb hb=>by rw[mem_singleton.mp hb];exact fo) (λb hb=>by
  rw[mem_singleton.mp hb]
  exact⟨o,go,λv z=>by rw[gd] at z;cases z⟩)
 refine aP (hb _ s1 σ H1 _ SX h1) λu2 s2 ⟨p2,js,H2,e2,I2,g2,S5,q2⟩=>?_
 subst e2
 have pm:(p,o)∈X.pn++(pins++Hz [p] s1.heap):=mem_append_right _ (mem_append_right _ (vJ (mem_singleton.mpr rfl) go))
 have kp:s2.heap.get? p=some o:=(I2.pin (p,o) pm).1
 have g1:=g.keep (h':=s2.heap) λo' e'=>by rw[go] at e';cases e';exact kp
 have ne:p2≠p:=ac2 (S5.2.2.2.2.2 (p,o) pm)
 have I3:=I2.fU
 refine Lq Wq (λk v hk b z=>?_) ne g1 g2 λh' kr g3 m k=>?_
 ·obtain⟨t,rfl⟩:=ade hk
  cases z
 ·have I4:=I3.kept (h':=h') (t':=s2.toks) λb o e=>k b o (lt_size e) e
  obtain⟨_,_,_,_,_,_,_,_,_,nd,_⟩:=id g3
  exact⟨_,kr,H2,rfl,I4,g3,I3.jQ (aa0 _) (I3.hok.fresh (aa0 _)),q2 kr nd m⟩
end
end L2
namespace Ts
open PySem L2
def Wt(ns ms:LI):Option LI:=if(ns.length<64\/ms.length<64)/\ns.length<4000/\ms.length<4000 then some (wR (ns.filter λz=>decide (z∈ms))) else none
section
variable{K:PySem.W.Frag}{B:Bs}{sl:SL K}{md:Md}{t1 t2:TE}
theorem zOc(h1:Ex B sl .hp t1 m1)(h2:Ex B sl .hp t2 m2):Eo B sl md (SN (Ir (Il K t1) (Il K t2))) (m1.bind λa=>m2.bind λb=>Wt a b):=λc hc F O H σ Q s k=>by
 obtain⟨ns,ms,ha,hb,hf⟩:=pZ hc
 unfold Wt at hf
 split at hf
 case isFalse=>cases hf
 rename_i hl
 cases hf
 refine h1 ns ha F O H σ _ s λv F' H' g r1=>?_
 obtain⟨p,vs,rfl,z1,z2⟩:=r1
 have z3:vs=ns.map V.int:=z2.vals
 subst z3
 refine⟨p,ns,rfl,aO.of z1,hl.2.1,λks nd hm=>?_⟩
 refine h2 ms hb F' O H' σ _ (s.grow g) λw F2 H2 g2 r2=>?_
 obtain⟨p',vs',rfl,y1,y2⟩:=r2
 have y3:vs'=ms.map V.int:=y2.vals
 subst y3
 refine⟨p',ms,rfl,aO.of y1,hl.2.2,λjs jd hj rs rd hr=>⟨hl.1.elim (aa7 (Fo rd λz hz=>(hm z).mp ((hr z).mp hz).1)) (aa7 (Fo rd λz hz=>(hj z).mp ((hr z).mp hz).2)),λl us hn p1 p2=>?_⟩⟩
 have e:us=wR (ns.filter λz=>decide (z∈ms)):=Im (vK p2 (p1.nodup_iff.mpr rd)) (uX _) λz=>by rw[p1.mem_iff,hr,hm,hj,bN,mem_filter,decide_eq_true_iff]
 subst e
 exact k l _ F2 H2 (g.trans g2) hn (H_ _)
end
end Ts
namespace L2
open PySem PySem.Spec PyProof.Rows
section
variable{X:Cx}
theorem Iu:Vl X .BitOr (Vm λi j=>adq i j):=by
 intro pins s σ H x y v u Q I r1 r2 h
 obtain⟨i,j,e1,e2,q⟩:=h
 subst e1;subst e2
 obtain⟨t,rfl⟩:=r1
 obtain⟨t',rfl⟩:=r2
 exact ior_int ⟨.int _,H,I.tok _,⟨_,rfl⟩,q⟩
def Iv(K:PySem.W.Frag):V->V->Hp->VK->Prop:=λx y H Q=>∃p xs i v,x=.ref p/\y=.int i/\0<=i/\aO K H p xs/\cj xs i=some v/\Q v H
theorem zRa(K:PySem.W.Frag)(h:X.K=K:=by rfl):QL X (Iv K):=by
 subst h
 intro pins s σ H o i ov iv Q I rx ry h
 obtain⟨p,xs,i,z,rfl,rfl,h0,hq,he,q⟩:=h
 cases rx
 obtain⟨t,rfl⟩:=ry
 obtain⟨its,r,pl,hz⟩:=I.list hq
 obtain⟨j,h1,h2,h3,h4,h5⟩:=X_ he
 obtain⟨w,ew,Rg⟩:=r.get h2
 have hl:=r.length
 have hn:=J9
 have hj:i.toNat=j:=by
  rw[afo h0 h5] at h1
  exact aa2 h1
 exact wpAny_getItem_list pl.isList h0 (by omega) (by rw[hj];simpa using ew) ⟨z,H,I,Rg,q⟩
theorem Zx(K:PySem.W.Frag)(ha:PE X a ta)(hK:X.K=K:=by rfl)(he:∀whole,isTrue a X.env whole=(do let v <-whole;standAt a.pos;holding [v] (truthy v)):=by intro _;rfl) :
  PT X a (λσ H Q=>ta σ H λx H'=>∃k,Dr K x H' k/\Q k H'):=by
 subst hK
 exact zTs ha he
def tLR(ta:TA):TE:=λσ H Q=>ta σ H λvs H1=>∃j:Int,vs=[.int j] /\ -(2^62)<=j/\j<1000000/\∀l,H1 l=none->Q (.ref l) (upd H1 l (.lst (((abg j.toNat).map adi).map V.int)))
theorem Fq{acc:List Value}:∀{ns:LI},acc.length=ns.length->(∀(i:Nat)(v:Value),acc[i]?=some v->∃t:Tok,v=acj (ns.getD i 0) t)->IntsAre acc ns:=by
 induction acc with
 |nil =>
  intro ns h _
  cases ns with
  |nil=>exact .nil
  |cons n ns=>simp at h
 |cons v acc ih =>
  intro ns h g
  cases ns with
  |nil=>simp at h
  |cons n ns =>
   obtain⟨t,e⟩:=g 0 v rfl
   subst e
   exact .cons n t (ih (by simpa using h) λi v hv=>g (i+1) v hv)
theorem Zy(hc:X.calm=true)(hg:Gl X "list")(hm:X.mg "list" = none)(hg2:Gl X "range")(hm2:X.mg "range" = none)(ha:PA X [a] ta)(hs:starEach [a] X.env=[(false,eval a X.env)]:=by rfl)(hs2:starEach [Expr.Call (.Name "range" p2) [a] [] pos2] X.env=[(false,eval (Expr.Call (.Name "range" p2) [a] [] pos2) X.env)]:=by rfl):PE X (.Call (.Name "list" p) [.Call (.Name "range" p2) [a] [] pos2] [] pos) (tLR ta):=by
 intro pins s σ H Q I h
 refine ab8 (uc I hg hm (by decide +kernel:bootBuiltins "list" = some (.type "list")) ?_)
 refine abk ?_ hs2 rfl
 rw[hs2]
 show wpAny _ _ (spliced ((false,eval (Expr.Call (.Name "range" p2) [a] [] pos2) X.env)::backTo pos [])) _ _ s
 refine aeb (ab8 (uc I hg2 hm2 boot_range (abk (aP (ha pos2 pins s σ H _ I h) λus s1 ⟨vs,H1,I1,r1,q1⟩=>?_) hs rfl)))
 obtain⟨j,e,q1,q2,q⟩:=q1
 subst e
 cases r1 with
 |cons r rr =>
  cases rr
  obtain⟨t,rfl⟩:=r
  refine af5 (aei ?_)
  have I2:Inv X pins σ H1 { s1 with heap:=s1.heap.push { cls:=.type "range",data:=.fields #[.int 0 s1.toks,.int j t,.int 1 (s1.toks+1)] },toks:=s1.toks+1+1 }:=I1.kept λb o e=>get?_push_of_some _ e
  refine call_list_range (n:=j.toNat) (I2.ok.hd hc) (af9 ..) (small_one (by omega) (by omega) q1 (by omega)) (by rw[rangeSize_one];split<;>omega) (by omega) λh' tk acc' c' hk hS hacc=>?_
  have hI:IntsAre acc'.toList ((abg j.toNat).map adi):=Fq (by rw[length_toList,hacc.1,length_map,length_range]) λi v hv=>by
   rw[getElem?_toList] at hv
   obtain⟨t',rfl⟩:=hacc.2 i v hv
   have hi:i<j.toNat:=by
    have:=(Array.getElem?_eq_some_iff.mp hv).1
    rw[hacc.1] at this
    exact this
   refine⟨t',?_⟩
   have e:((abg j.toNat).map adi).getD i 0=(i:Int):=by
    rw[getD_eq_getElem?_getD,getElem?_map,getElem?_range hi]
    rfl
   rw[e]
   simp
  refine⟨.ref _,_,I2.laid (h':=h') (t':=tk) (o:=.lst (((abg j.toNat).map adi).map V.int)) (λb ob w=>hk b ob w) (aa0 _) ?_,rfl,q _ (I2.hok.fresh (aa0 _))⟩
  refine⟨?_,acc'.toList,c',uW hI,?_⟩
  ·rw[length_map,length_map,length_range]
   exact aa8 (show j.toNat<=1000000 by omega) (by decide)
  ·rw[toArray_toList];exact hS
end
end L2
namespace Ts
open PySem L2
def uy(a b:Int):Option Int:=if 0<=b/\b<=1000000/\a.natAbs<2^64 then some (a*2^b.toNat) else none
def jA(a b:Int):Option Int:=if 0<=b then some (a/2^b.toNat) else none
section
variable{K:PySem.W.Frag}{B:Bs}{sl:SL K}{md:Md}{t t1 t2 te:TE}{m1 m2:Option Int}
theorem S6(h1:Ex B sl .hp t1 m1)(h2:Ex B sl .hp t2 m2):Ex B sl md (jR (rN λi j=>.int (abo i j)) t1 t2) (m1.bind λa=>m2.bind λb=>some (abo a b)):=V7 (λ_ _=>rfl) h1 h2
theorem Lr(h1:Ex B sl .hp t1 m1)(h2:Ex B sl .hp t2 m2):Ex B sl md (jR (rI QM λi j=>.int (i*2^j.toNat)) t1 t2) (m1.bind λa=>m2.bind λb=>uy a b) :=
 Eb (f:=uy) (λa b c v w H Q e r1 r2 q=>by
  unfold uy at e
  split at e
  case isFalse=>cases e
  rename_i hc
  cases e;cases r1;cases r2
  exact⟨a,b,rfl,rfl,hc,q⟩) h1 h2
theorem Wu(h1:Ex B sl .hp t1 m1)(h2:Ex B sl .hp t2 m2):Ex B sl md (jR (rI (λ_ j=>0<=j) λi j=>.int (i/2^j.toNat)) t1 t2) (m1.bind λa=>m2.bind λb=>jA a b) :=
 Eb (f:=jA) (λa b c v w H Q e r1 r2 q=>by
  unfold jA at e
  split at e
  case isFalse=>cases e
  rename_i hc
  cases e;cases r1;cases r2
  exact⟨a,b,rfl,rfl,hc,q⟩) h1 h2
theorem Zz{m:Option Int}(h:Ex B sl .hp t m):Et B sl (λσ H Q=>t σ H λx H'=>∃k,Dr K x H' k/\Q k H') (m.bind λi=>some (i != 0)):=λc hc F O H σ Q s k=>by
 cases m with
 |none=>cases hc
 |some i =>
  cases(show some (i != 0)=some c from hc)
  refine h i rfl F O H σ _ s λv F' H' g r=>?_
  cases r
  exact⟨_,rfl,k F' H' g⟩
def tV(n:Int):Option LI:=if -(2^62)<=n/\n<1000000 then some ((abg n.toNat).map adi) else none
theorem ZC(h:Ex B sl .hp t m):Eo B sl md (tLR (yJ t bh)) (m.bind tV):=λc hc F O H σ Q s k=>by
 cases m with
 |none=>cases hc
 |some n =>
  have hc:tV n=some c:=hc
  unfold tV at hc
  split at hc
  case isFalse=>cases hc
  rename_i hl
  cases hc
  refine h n rfl F O H σ _ s λv F' H' g r1=>?_
  cases r1
  exact⟨n,rfl,hl.1,hl.2,λl hn=>k l _ F' H' g hn (H_ _)⟩
def A_(xs ys:LI):Option LI:=if xs.length+ys.length<cap then some (xs++ys) else none
theorem zPd(i:Nat)(hs:sl[i]?=some (.ow n xs))(hh:sl.all (λs=>!cR s)=true)(h:Ex B sl .hp te m) :
  Sn B sl (JL (Kq K "list" Yj (bT i) (yJ te bh))) (λys=>sl.set i (.ow n ys)) (m.bind λa=>A_ xs a):=λys ha G D σ H s k=>by
 cases m with
 |none=>cases ha
 |some a =>
  have ha':A_ xs a=some ys:=ha
  unfold A_ at ha'
  split at ha'
  case isFalse=>cases ha'
  rename_i hl
  cases ha'
  obtain⟨F,O,g,z⟩:=s
  obtain⟨p,vs,h1,h2,h3,_⟩:=z.chg hs hh
  refine⟨_,h1,.inl ⟨rfl,_,aO.of h2⟩,?_⟩
  refine h a rfl F O H σ _ z λv F' H' gr r=>?_
  obtain⟨p',vs',h1',h2',h3',h4'⟩:=(z.grow gr).chg hs hh
  have e:=h1.symm.trans h1'
  cases e
  obtain⟨q,us,rfl,z1,z2⟩:=r
  have z3:us=a.map V.int:=z2.vals
  subst z3
  have e3:vs'=xs.map V.int:=h3'.vals
  subst e3
  obtain⟨O',z'⟩:=h4' (xs.map V.int++a.map V.int) (xs++a) (by rw[<-map_append];exact H_ _)
  exact⟨p,q,_,_,rfl,rfl,h2',z1,by rw[length_map,length_map];exact acf (yr hl),k _ _ ⟨F',O',g.trans gr.ff,z'⟩⟩
def Ft(f:Int->Int->Int)(xs:LI)(ix:Int)(y:Int):Option LI:=if 0<=ix then(L2.cj xs ix).bind λx=>uw xs ix (f x y) else none
theorem zTh(i:Nat)(hs:sl[i]?=some (.ow n xs))(hh:sl.all (λs=>!cR s)=true)(hi:Ex B sl .hp ti mi)(hv:Ex B sl .hp te m) :
  Sn B sl (Hx (bT i) ti te (Iv K) (Vm f) Ae) (λys=>sl.set i (.ow n ys)) (mi.bind λk=>m.bind λa=>Ft f xs k a):=λys ha G D σ H s k=>by
 obtain⟨ix,a,e1,e2,ha'⟩:=pZ ha
 unfold Ft at ha'
 split at ha'
 case isFalse=>cases ha'
 rename_i h0
 obtain⟨x,ex,ha'⟩:=Option.bind_eq_some_iff.mp ha'
 obtain⟨F,O,g,z⟩:=s
 obtain⟨p,vs,h1,h2,h3,_⟩:=z.chg hs hh
 refine⟨_,h1,?_⟩
 refine hi ix e1 F O H σ _ z λv F' H' gr r=>?_
 cases r
 obtain⟨p',vs',h1',h2',h3',h4'⟩:=(z.grow gr).chg hs hh
 have e:=h1.symm.trans h1'
 cases e
 obtain⟨xv,exv,rx⟩:=h3'.cj ex
 have rx:xv=.int x:=Sc.is.mp rx
 subst rx
 refine⟨p,vs',ix,_,rfl,rfl,h0,aO.of h2',exv,?_⟩
 refine hv a e2 F' O H' σ _ (z.grow gr) λw F2 H2 tL rw=>?_
 cases rw
 obtain⟨p2,vs2,y1,y2,y3,y4⟩:=((z.grow gr).grow tL).chg hs hh
 have e:=h1.symm.trans y1
 cases e
 refine⟨x,a,rfl,rfl,?_⟩
 unfold uw at ha'
 cases ej:tE xs.length ix with
 |none=>rw[ej] at ha';cases ha'
 |some jj =>
  rw[ej] at ha'
  cases ha'
  obtain⟨O',z'⟩:=y4 (vs2.set jj (.int (f x a))) (xs.set jj (f x a)) (y3.set (Sc.is.mpr rfl) jj)
  exact⟨p,vs2,ix,jj,rfl,rfl,y2,by rw[y3.len,ej],k _ _ ⟨F2,O',(g.trans gr.ff).trans tL.ff,z'⟩⟩
end
section
variable{K:PySem.W.Frag}{B:Bs}{sl:SL K}{F H H2:Hp}{O:Own}{σ:St}{te:TE}
end
section
variable{K:PySem.W.Frag}{B:Bs}{sl sl2:SL K}{G F H:Hp}{O:Own}{σ:St}{te:TE}
inductive ZD{α:Type}[Rp K α](kvs:List (Key×α)):SL K->SL K->Prop
 |here {a:SL K}:ZD kvs (.od kvs::a) (.fz false (Dc.mk kvs)::a)
 |skip {s:Slot K} {a b:SL K}:ZD kvs a b->ZD kvs (s::a) (s::b)
end
section
variable{K:PySem.W.Frag}{B:Bs}{sl:SL K}{md:Md}{t t2:TE}{α β:Type}[Rp K α][Rp K β]
end
def oV{α:Type}(xs:List α)(lo hi:Option Int):List α:=(xs.drop (HT.cL xs.length 0 lo)).take (HT.cL xs.length xs.length hi-HT.cL xs.length 0 lo)
def mR{α:Type}(xs ys:List α):Option (List α):=if xs.length+ys.length<=cap then some (xs++ys) else none
section
variable{P:Program}{w:World}{K:PySem.W.Frag}{mg:Str->Option Value}{base:Heap}{B:Bs}{sl:SL K}{md:Md}{α β:Type}[Rp K α][Rp K β]{tA:Addr}{tO:HO}{te t1 t2:TE}
theorem A2.cut(h:A2 R vs xs)(lo hi:Option Int):A2 R (oO vs lo hi) (oV xs lo hi):=by
 unfold oO oV
 rw[h.len]
 exact(h.dr _).tk _
theorem zUs[Sc K α]{m:Option (List α)}{mi:Option Int}{ti:TE}(h:Ex B sl .hp te m)(hi:Ex B sl .hp ti mi):Eo B sl md (Vy (DK K) te (Vx ti) Vw) (m.bind λxs=>mi.bind λi=>some (oV xs (some i) none)):=λc hc F O H σ Q s k=>by
 obtain⟨xs,i,hx,hi',hc⟩:=pZ hc
 cases hc
 refine h xs hx F O H σ _ s λv F' H' g r=>?_
 refine hi i hi' F' O H' σ _ (s.grow g) λu F2 H2 g2 r2=>?_
 have r2:u=.int i:=r2
 obtain⟨p,vs,rfl,z1,z2⟩:=r
 exact⟨i,r2,p,vs,rfl,aO.of (g2.hh _ _ z1),λl hl=>k l _ F2 H2 (g.trans g2) hl (z2.cut _ _).sc⟩
theorem Ls(K:PySem.W.Frag){X:Cx}(h:X.K=K:=by rfl):Rb X (DK K):=by subst h;exact DN
end
section
variable{X:Cx}{pos pos':Pos}{x:Str}{e:Expr}{te:TE}
theorem xY(i:Nat)(hN:X.N.Nodup)(he:PE X e te)(hi:X.N[i]?=some x:=by rfl)(hx:Loc X.env.scope x:=by first|exact .inl rfl|exact .inr rfl)(hs:swapsWith e (some (.Name x pos')) pos.line X.env=pure false:=by rfl)(hf:X.fn x=true\/X.env.scope.names.lookup x=some .local:=by first|exact .inl rfl|exact .inr rfl|assumption):PS X (.Assign [.Name x pos'] e pos) (lR te (uV i)):=Dj hN hi hx he hs hf
theorem cJ(i:Nat)(hN:X.N.Nodup)(hi:X.N[i]?=some x:=by rfl)(hx:Loc X.env.scope x:=by first|exact .inl rfl|exact .inr rfl)(hf:X.fn x=true\/X.env.scope.names.lookup x=some .local:=by first|exact .inl rfl|exact .inr rfl|assumption):PG X (.Name x pos) (uV i):=yS hN hi hx hf
end
theorem esc{K:PySem.W.Frag}{B:Bs}{sl:SL K}{md:Md}{α:Type}[Rp K α][Sc K α]{t:TE}{m:Option α}(h:Ex B sl .hp t m):Ex B sl md t m:=h.sc
theorem fsc{N P:List Str}{s:Scope}(h1:s.kind=.function:=by rfl)(h2:s.isCoroutine=false:=by rfl)(h3:s.isGenerator=false:=by rfl)(h4:N.Nodup:=by decide +kernel)(h5:N.take P.length=P:=by rfl)(h6:∀x∈P,s.names.lookup x=some .local\/s.names.lookup x=some .cell:=by decide +kernel)(h7:∀y∈s.names,y.2≠.free:=by decide +kernel):ao N P s:=⟨h1,h2,h3,h4,h5,h6,h7⟩
section
variable{K:PySem.W.Frag}{x y:Str}{st:Stmt}{f:Addr}{fd:FuncData}{p0 p1 p2 p3 p4:Str}
theorem rE(F:aZ K x y st f fd)(h:∀kV dc pm an cd ct u0,bindArgs (fnOf x y (uA st) (wF st) (zH st) .none kV dc pm an cd ct) ⟨[u0],[]⟩=pure [(p0,u0)]:=by intros;rfl):Binds K fd [p0] []:=F.binds λa b c d e g us hl=>match us,hl with|[u0],_=>h a b c d e g u0
theorem jW(F:aZ K x y st f fd)(h:∀kV dc pm an cd ct u0 u1,bindArgs (fnOf x y (uA st) (wF st) (zH st) .none kV dc pm an cd ct) ⟨[u0,u1],[]⟩=pure [(p0,u0),(p1,u1)]:=by intros;rfl):Binds K fd [p0,p1] []:=F.binds λa b c d e g us hl=>match us,hl with|[u0,u1],_=>h a b c d e g u0 u1
theorem qC(F:aZ K x y st f fd)(h:∀kV dc pm an cd ct u0 u1 u2,bindArgs (fnOf x y (uA st) (wF st) (zH st) .none kV dc pm an cd ct) ⟨[u0,u1,u2],[]⟩=pure [(p0,u0),(p1,u1),(p2,u2)]:=by intros;rfl):Binds K fd [p0,p1,p2] []:=F.binds λa b c d e g us hl=>match us,hl with|[u0,u1,u2],_=>h a b c d e g u0 u1 u2
theorem P_(F:aZ K x y st f fd)(h:∀kV dc pm an cd ct u0 u1 u2 u3,bindArgs (fnOf x y (uA st) (wF st) (zH st) .none kV dc pm an cd ct) ⟨[u0,u1,u2,u3],[]⟩=pure [(p0,u0),(p1,u1),(p2,u2),(p3,u3)]:=by intros;rfl):Binds K fd [p0,p1,p2,p3] []:=F.binds λa b c d e g us hl=>match us,hl with|[u0,u1,u2,u3],_=>h a b c d e g u0 u1 u2 u3
end
theorem bV{K:PySem.W.Frag}{a b:SL K}(h:Le a b:=by repeat(first|exact Le.nil|refine Le.eq ?_|refine Le.un ?_|refine Le.fr ?_)):Le a b:=h
theorem jX{K:PySem.W.Frag}{a b:SL K}(h:rD a b:=by repeat(first|exact rD.nil|refine rD.eq ?_|refine rD.un ?_)):rD a b:=h
abbrev Slot.z{α:Type}[Rp K α](a:α):Slot K:=.fz false a
abbrev Slot.y{α:Type}[Rp K α](a:α):Slot K:=.fz true a
end Ts
namespace qM
open PySem PySem.SetTable
set_option maxRecDepth 100000
def Wv(m:Nat):Nat->Nat->Nat
 |0,i=>i
 |t+1,i=>Wv m t ((i*5+1)%m)
def seen(m:Nat):Nat->Nat->Nat->Nat
 |0,_,acc=>acc
 |t+1,i,acc=>seen m t ((i*5+1)%m) (acc|||1 <<< i)
theorem zLn(m j:Nat):∀(t i acc:Nat),(seen m t i acc).testBit j=true->acc.testBit j=true\/∃u,u<t/\Wv m u i=j
 |0,i,acc,h=>.inl h
 |t+1,i,acc,h=>by
  rcases zLn m j t _ _ h with z|⟨u,hu,e⟩
  ·rw[Nat.testBit_or,acd] at z
   rcases z with z|z
   ·exact .inl z
   ·rw[Nat.testBit_shiftLeft,aa1,decide_eq_true_eq] at z
    obtain⟨z1,z2⟩:=z
    have:j-i=0:=by
     cases q:j-i with
     |zero=>rfl
     |succ n =>
      rw[q] at z2
      have:(1:Nat).testBit (n+1)=false:=Nat.testBit_lt_two_pow (aa3 (by decide) (acy (by decide) (aci (abj n))))
      rw[this] at z2
      cases z2
    exact .inr ⟨0,afd _,by show i=j;omega⟩
  ·exact .inr ⟨u+1,Nat.succ_lt_succ hu,e⟩
def uz(m:Nat):Bool:=(abg m).all λi=>seen m m i 0==2^m-1
theorem Fv(h:uz m=true)(hi:i<m)(hj:j<m):∃u,u<m/\Wv m u i=j:=by
 have q:=all_eq_true.mp h i (mem_range.mpr hi)
 have e:seen m m i 0=2^m-1:=by simpa using q
 have t:(seen m m i 0).testBit j=true:=by rw[e,Nat.testBit_two_pow_sub_one];simpa using hj
 rcases zLn m j m i 0 t with z|z
 ·rw[Nat.zero_testBit] at z;cases z
 ·exact z
theorem S7:uz 8=true:=by decide +kernel
theorem S8:uz 16=true:=by decide +kernel
theorem S9:uz 32=true:=by decide +kernel
theorem S_:uz 64=true:=by decide +kernel
theorem Lw:uz 128=true:=by decide +kernel
theorem Ly:uz 256=true:=by decide +kernel
theorem Tc{owner:Array (Option Nat)}{mask i:Nat}(h:owner.getD i (some 0)=none):(abg (runEnd mask i+1-i)).find? (λk=>(owner.getD (i+k) (some 0)).isNone)≠none:=λe=>by
 have q:=List.find?_eq_none.mp e 0 (mem_range.mpr (by unfold runEnd;split<;>omega))
 apply q
 show(owner.getD (i+0) (some 0)).isNone=true
 rw[Nat.add_zero,h];rfl
theorem zI3{owner:Array (Option Nat)}{mask:Nat}:∀(fuel i p j:Nat),layClean.free mask owner fuel i p=some j->owner.getD j (some 0)=none
 |0,_,_,_,h=>by cases h
 |fuel+1,i,p,j,h=>by
  unfold layClean.free at h
  split at h
  ·rename_i k hk
   cases h
   have:=List.find?_some hk
   simpa using this
  ·exact zI3 fuel _ _ j h
theorem zI4{owner:Array (Option Nat)}{mask j:Nat}(hj:owner.getD j (some 0)=none):∀(fuel u i:Nat),u<fuel->Wv (mask+1) u i=j->layClean.free mask owner fuel i 0≠none
 |0,u,i,h,_=>absurd h (acr _)
 |fuel+1,0,i,_,e=>by
  have e':i=j:=e
  subst e'
  unfold layClean.free
  cases q:(abg (runEnd mask i+1-i)).find? λk=>(owner.getD (i+k) (some 0)).isNone with
  |none=>exact absurd q (Tc hj)
  |some k=>exactλz=>by cases z
 |fuel+1,u+1,i,h,e=>by
  unfold layClean.free
  cases q:(abg (runEnd mask i+1-i)).find? λk=>(owner.getD (i+k) (some 0)).isNone with
  |none=>exact zI4 hj fuel u _ (Nat.lt_of_succ_lt_succ h) e
  |some k=>exactλz=>by cases z
theorem zMa{owner:Array (Option Nat)}{mask:Nat}(fuel:Nat)(h0:∀i,i<=mask->layClean.free mask owner fuel i 0≠none):∀(d i p:Nat),i<=mask->p<32^d->layClean.free mask owner (fuel+d) i p≠none
 |0,i,p,hi,hp=>by
  have e:p=0:=by rw[Nat.pow_zero] at hp;omega
  subst e
  exact h0 i hi
 |d+1,i,p,hi,hp=>by
  show layClean.free mask owner (fuel+d+1) i p≠none
  unfold layClean.free
  cases q:(abg (runEnd mask i+1-i)).find? λk=>(owner.getD (i+k) (some 0)).isNone with
  |none=>exact zMa fuel h0 d _ _ (adw (afw _ (afd _))) (by rw[afc] at hp;show p/32<_;omega)
  |some k=>exactλz=>by cases z
theorem Fw{owner:Array (Option Nat)}{mask j:Nat}(hc:uz (mask+1)=true)(hs:j<=mask)(hj:owner.getD j (some 0)=none)(h:Int):∃k,layClean.free mask owner (turns mask) (bits h%(mask+1)) (bits h)=some k/\owner.getD k (some 0)=none:=by
 have q:layClean.free mask owner (mask+2+13) (bits h%(mask+1)) (bits h)≠none:=zMa (mask+2) (λi hi=>by
  obtain⟨u,hu,e⟩:=Fv hc (Nat.lt_succ_of_le hi) (Nat.lt_succ_of_le hs)
  exact zI4 hj _ u i (by omega) e) 13 _ _ (adw (afw _ (afd _))) (by unfold bits;have:=acs h (b:=2^64) (by decide);have:=ac6 h (b:=2^64) (by decide);omega)
 unfold turns
 cases e:layClean.free mask owner (mask+15) (bits h%(mask+1)) (bits h) with
 |none=>exact absurd e q
 |some k=>exact⟨k,rfl,zI3 _ _ _ _ e⟩
theorem ZF{α:Type}(v:α):∀(l:List (Option α))(j:Nat),l[j]?=some none->((l.set j (some v)).filterMap id).Perm (v::l.filterMap id)
 |[],j,h=>by simp at h
 |x::l,0,h=>by
  have e:x=none:=by simpa using h
  subst e
  exact .refl _
 |none::l,j+1,h=>by
  show((l.set j (some v)).filterMap id).Perm (v::l.filterMap id)
  exact ZF v l j (by simpa using h)
 |some x::l,j+1,h=>by
  show(x::(l.set j (some v)).filterMap id).Perm (v::x::l.filterMap id)
  exact((ZF v l j (by simpa using h)).cons x).trans (.swap _ _ _)
theorem zH9:∀(l:List (Option Nat)),(l.filterMap id).length<l.length->∃j,j<l.length/\l[j]?=some none
 |[],h=>by simp at h
 |none::l,_=>⟨0,by simp,rfl⟩
 |some x::l,h=>by
  obtain⟨j,hj,e⟩:=zH9 l (by simpa using h)
  exact⟨j+1,by simpa using hj,e⟩
theorem getD_none{owner:Array (Option Nat)}:owner.getD j (some 0)=none↔owner.toList[j]?=some none:=by
 rw[Array.getD_eq_getD_getElem?,getElem?_toList]
 cases owner[j]? with
 |none=>simp
 |some x=>simp
theorem zV3{mask:Nat}(hc:uz (mask+1)=true):∀(hs:LI)(owner:Array (Option Nat))(k:Nat),owner.size=mask+1->(owner.toList.filterMap id).Perm (abg k)->k+hs.length<=mask ->
  ∃rW,hs.foldl (λacc h=>do
   let(owner,k) <-acc
   let j <-layClean.free mask owner (turns mask) (bits h%(mask+1)) (bits h)
   pure (owner.setIfInBounds j (some k),k+1)) (some (owner,k))=some (rW,k+hs.length)/\rW.size=mask+1/\(rW.toList.filterMap id).Perm (abg (k+hs.length))
 |[],owner,k,h1,h2,h3=>⟨owner,rfl,h1,h2⟩
 |h::hs,owner,k,h1,h2,h3=>by
  obtain⟨j,hj,ej⟩:=zH9 owner.toList (by rw[h2.length_eq,length_range,length_toList,h1];rw[length_cons] at h3;omega)
  obtain⟨i,ei,fi⟩:=Fw hc (owner:=owner) (j:=j) (by rw[length_toList,h1] at hj;omega) (getD_none.mpr ej) h
  have q:=zV3 hc hs (owner.setIfInBounds i (some k)) (k+1) (by rw[Array.size_setIfInBounds];exact h1) ?_ (by rw[length_cons] at h3;omega)
  ·obtain⟨o',e,z1,z2⟩:=q
   have ek:k+(h::hs).length=k+1+hs.length:=by rw[length_cons];omega
   refine⟨o',?_,z1,by rw[ek];exact z2⟩
   rw[ek,List.foldl_cons,<-e]
   refine congrArg (λz=>List.foldl _ z hs) ?_
   show(layClean.free mask owner (turns mask) (bits h%(mask+1)) (bits h)).bind _=_
   rw[ei]
   rfl
  ·rw[Array.toList_setIfInBounds,List.range_succ]
   exact((ZF k owner.toList i (getD_none.mp fi)).trans (h2.cons k)).trans (List.perm_append_singleton k _).symm
theorem zIl:∀(l:List (Option Nat)),(abg l.length).filterMap (λj=>(l[j]?).getD none)=l.filterMap id
 |[]=>rfl
 |x::l=>by
  rw[length_cons,range_succ_eq_map,filterMap_cons,filterMap_map]
  have e:((λj=>((x::l)[j]?).getD none)∘Nat.succ)=λj=>(l[j]?).getD none:=rfl
  rw[e,zIl l]
  cases x<;>rfl
theorem zQz{mask:Nat}(hc:uz (mask+1)=true)(finger moves:Nat)(led plain:Bool)(hs:Array Int)(hn:hs.size<=mask) :
  ∃t order,laid mask finger moves led plain hs=some (t,order)/\order.toList.Perm (abg hs.size)/\t.place.size=hs.size/\t.dummies=#[]/\t.mask=mask/\t.led=led/\t.plain=plain/\Rz t.place:=by
 obtain⟨o',e,z1,z2⟩:=zV3 hc hs.toList (Array.replicate (mask+1) none) 0 (by rw[Array.size_replicate]) (by rw[Array.toList_replicate,List.filterMap_replicate_of_none rfl];exact .refl _) (by rw[adb,length_toList];exact hn)
 rw[adb,length_toList] at z2
 have el:layClean mask hs=some o':=by
  unfold layClean
  rw[<-Array.foldl_toList,e]
  rfl
 have eo:((abg (mask+1)).filterMap λj=>(o'.getD j none).map λk=>(j,k)).map (·.2)=o'.toList.filterMap id:=by
  rw[<-zIl o'.toList,length_toList,z1,List.map_filterMap]
  refine congrArg (λf=>filterMap f _) (funext λj=>?_)
  rw[Array.getD_eq_getD_getElem?,getElem?_toList]
  cases(o'[j]?).getD none<;>rfl
 refine⟨_,_,by unfold laid;rw[el];rfl,?_,?_,rfl,rfl,rfl,rfl,zIi (λj=>o'.getD j none) _⟩
 ·show((abg (mask+1)).filterMap λj=>(o'.getD j none).map λk=>(j,k)).map (·.2) |>.Perm _
  rw[eo]
  exact z2
 ·show(((abg (mask+1)).filterMap λj=>(o'.getD j none).map λk=>(j,k)).map (·.1)).length=_
  rw[length_map,<-length_map (f:=(·.2)),eo,z2.length_eq,length_range]
def Td(n:Nat):Prop:=n<=255
theorem zU4(h:n<=255):∃m,sizeAbove n=m+1/\n<=m/\uz (m+1)=true/\m<=255:=by
 by_cases h1:n<8
 ·exact⟨7,by unfold sizeAbove;unfold sizeAbove.go;rw[if_neg (by omega)],by omega,S7,by omega⟩
 by_cases h2:n<16
 ·exact⟨15,by unfold sizeAbove;unfold sizeAbove.go;rw[if_pos (by omega)];unfold sizeAbove.go;rw[if_neg (by omega)],by omega,S8,by omega⟩
 by_cases h3:n<32
 ·exact⟨31,by unfold sizeAbove;unfold sizeAbove.go;rw[if_pos (by omega)];unfold sizeAbove.go;rw[if_pos (by omega)];unfold sizeAbove.go;rw[if_neg (by omega)],by omega,S9,by omega⟩
 by_cases h4:n<64
 ·exact⟨63,by unfold sizeAbove;unfold sizeAbove.go;rw[if_pos (by omega)];unfold sizeAbove.go;rw[if_pos (by omega)];unfold sizeAbove.go;rw[if_pos (by omega)];unfold sizeAbove.go;rw[if_neg (by omega)],by omega,S_,by omega⟩
 by_cases h5:n<128
 ·exact⟨127,by unfold sizeAbove;unfold sizeAbove.go;rw[if_pos (by omega)];unfold sizeAbove.go;rw[if_pos (by omega)];unfold sizeAbove.go;rw[if_pos (by omega)];unfold sizeAbove.go;rw[if_pos (by omega)];unfold sizeAbove.go;rw[if_neg (by omega)],by omega,Lw,by omega⟩
 ·exact⟨255,by unfold sizeAbove;unfold sizeAbove.go;rw[if_pos (by omega)];unfold sizeAbove.go;rw[if_pos (by omega)];unfold sizeAbove.go;rw[if_pos (by omega)];unfold sizeAbove.go;rw[if_pos (by omega)];unfold sizeAbove.go;rw[if_pos (by omega)];unfold sizeAbove.go;rw[if_neg (by omega)],by omega,Ly,by omega⟩
open PySem PySem.Spec PyProof.Rows
set_option maxRecDepth 100000
section
variable{prog:Program}{w:World}{κ:Type}[DecidableEq κ]{knd:KeyKind prog w κ}{dec:Value->κ}{led:Bool}{A:Around}{E:Value->Shared->Prop}{s:Shared}
theorem zGh{α:Type}(es:Array α)(order:Array Nat)(h:order.toList.Perm (abg es.size)):(order.filterMap (es[·]?)).toList.Perm es.toList:=by
 rw[Array.toList_filterMap]
 refine(h.filterMap _).trans ?_
 have e:(abg es.size).filterMap (es[·]?)=es.toList:=by
  have:∀l:List α,(abg l.length).filterMap (λj=>l[j]?)=l:=λl=>by
   induction l with
   |nil=>rfl
   |cons x l ih =>
    rw[length_cons,range_succ_eq_map,filterMap_cons,filterMap_map]
    show x::filterMap (λj=>l[j]?) _=_
    rw[ih]
  have q:=this es.toList
  rw[length_toList] at q
  rw[<-q]
  refine congrArg (λf=>filterMap f _) (funext λj=>?_)
  rw[getElem?_toList]
 rw[e]
theorem zLt{Q:Unit->Shared->Prop}(ho:s.heap.get? a=some o)(hd:o.data=.set es ep t)(hf:t.fits es.size=true)(hw:wanted<=255)(hn:es.size<=wanted)(h:∀(es':Array (Int×Value)) (t':SetTable),es'.toList.Perm es.toList->t'.place.size=es.size->t'.dummies=#[]->wanted<=t'.mask->uz (t'.mask+1)=true->t'.led=t.led->Rz t'.place->Q () { s with heap:=s.heap.update a (afx es' t') }):wpAny (model prog w) A (setRelay a wanted) Q E s:=by
 obtain⟨m,e1,e2,e3,e4⟩:=zU4 hw
 unfold setRelay
 refine aaw (abd ho hd hf ?_)
 dsimp only
 rw[if_neg (by rw[e1];show¬m+1 > 2^24;omega)]
 obtain⟨t',order,q1,q2,q3,q4,q5,q6,q7,q8⟩:=zQz (mask:=m) e3 t.finger (t.movedTo m) t.led t.plain (es.map (·.1)) (by rw[size_map];omega)
 rw[size_map] at q2 q3
 have er:t.relaid (es.map (·.1)) wanted=some (t',order):=by
  unfold SetTable.relaid
  rw[e1]
  exact q1
 rw[er]
 have p:=zGh es order q2
 have sz:(order.filterMap (es[·]?)).size=es.size:=by rw[<-length_toList,p.length_eq,length_toList]
 refine aaw (m:=(if((order.filterMap (es[·]?)).size != es.size)=true then unsupported "internal:set-table-lost-an-element" else pure (order.filterMap (es[·]?),t'))) ?_
 rw[if_neg (by rw[sz];simp)]
 refine aax ?_
 exact ac0 ho hd (h _ t' p q3 q4 (by rw[q5];exact e2) (by rw[q5];exact e3) q6 q8) (by rw[sz];show es.size<=2^24;omega)
theorem ZG{t':SetTable}(h1:t'.place.size=n)(h2:t'.dummies=#[])(h3:wanted<=t'.mask)(h4:n<=wanted):t'.fits n=true:=by
 unfold SetTable.fits aew
 rw[h1,h2]
 simp
 omega
theorem zLs{Q:Unit->Shared->Prop}(g:Good knd dec led s.heap a ks)(hw:wanted<=255)(hn:ks.length<=wanted)(h:∀h',SameBut a s.heap h'->Good knd dec led h' a ks->Q () { s with heap:=h' }):wpAny (model prog w) A (setRelay a wanted) Q E s:=by
 obtain⟨o,es,ep,t,ho,hx,hd,hel,hp,nd,hb,hf,tb⟩:=g
 have ln:es.size=ks.length:=by rw[<-hp.length_eq,length_map,length_toList]
 refine zLt ho hd hf hw (by rw[ln];exact hn) λes' t' p q3 q4 q5 q6 q7 q8=>h _ (SameBut.update _ a _) ?_
 have sz:es'.size=es.size:=by rw[<-length_toList,p.length_eq,length_toList]
 exact⟨_,es',_,t',Ik (es':=es') (t':=t') ho hd,hx,rfl,hel.perm p,(p.map _).trans hp,nd,by rw[sz];exact hb,by rw[sz];exact ZG q3 q4 q5 (by rw[ln];exact hn),⟨q7.trans tb.led,λ_=>q8⟩⟩
theorem Fx{Q:Unit->Shared->Prop}(g:Good knd dec led s.heap a ks)(hw:(ks.length+more)*2<=255)(h:∀h',SameBut a s.heap h'->Good knd dec led h' a ks->Q () { s with heap:=h' }):wpAny (model prog w) A (setRoomFor a more) Q E s:=by
 obtain⟨o,es,ep,t,ho,hx,hd,hel,hp,nd,hb,hf,tb⟩:=id g
 have ln:es.size=ks.length:=by rw[<-hp.length_eq,length_map,length_toList]
 unfold setRoomFor
 refine aaw (abd ho hd hf ?_)
 dsimp only
 unfold SetTable.roomFor
 have pl:t.place.size=es.size:=SM hf
 split
 ·rename_i z
  split at z
  ·cases z
   exact zLs g (by rw[pl,ln];exact hw) (by rw[pl,ln];omega) h
  ·cases z
 ·exact aax (h _ (SameBut.refl a s.heap) g)
theorem zE9{Q:Unit->Shared->Prop}(hr:s.heap.get? r=some { cls:=.type "set",dict:=none,data:=.set #[] 0 (.fresh 0 0 (zU w)) })(hne:r≠o)(g:Good knd dec (zU w) s.heap o ks)(hl:ks.length<=127)(h:∀h',SameBut r s.heap h'->Good knd dec (zU w) h' r ks->Q () { s with heap:=h' }):wpAny (model prog w) A (setMerge r o each) Q E s:=by
 obtain⟨ob,es,ep,t,ho,hx,hd,hel,hp,nd,hb,hf,tb⟩:=id g
 have ln:es.size=ks.length:=by rw[<-hp.length_eq,length_map,length_toList]
 unfold setMerge
 rw[if_neg (by simpa using hne)]
 refine aaw (abd ho hd hf ?_)
 dsimp only
 by_cases hemp:es.isEmpty=true
 ·rw[if_pos hemp]
  have e0:es.size=0:=by simpa[isEmpty] using hemp
  have k0:ks=[]:=length_eq_zero_iff.mp (by rw[<-ln];exact e0)
  subst k0
  exact aax (h _ (SameBut.refl r s.heap) (SJ hr))
 rw[if_neg hemp]
 refine aaw (aco (Q:=λ_ s'=>∃(h1:Heap)(o1:Obj)(ep1:Nat)(t1:SetTable),s'={ s with heap:=h1 }/\SameBut r s.heap h1/\h1.get? r=some o1/\o1.ExactSet/\o1.data=.set #[] ep1 t1/\t1.place.size=0/\t1.dummies=#[]/\t1.led=zU w/\uz (t1.mask+1)=true/\es.size<=t1.mask) ?first ?post (λ_ _ h=>h))
 case post =>
  rintro _ _ ⟨h1,o1,ep1,t1,rfl,sb,g1,x1,d1,pl,du,le,cy,rm⟩
  refine aaw (abd (s:={ s with heap:=h1 }) g1 d1 (by show t1.fits 0=true;exact ZG pl du (abj _) (aa0 0)) ?_)
  dsimp only
  have hfill:t1.fill=0:=by unfold aew;rw[pl,du];rfl
  unfold SetTable.road
  rw[hfill]
  rw[if_neg (by simp)]
  by_cases hsl:(t1.mask==t.mask&&t.dummies.isEmpty)=true
  ·rw[if_pos hsl]
   refine ac0 (s:={ s with heap:=h1 }) g1 d1 (h _ (sb.trans (SameBut.update _ r _)) ⟨_,es,_,_,Ik (es':=es) (t':=_) g1 d1,x1,rfl,hel,hp,nd,hb,hf,⟨?_,λz=>tb.rz (Bool.and_eq_true_iff.mp z).2⟩⟩) (acz hb)
   show(t1.led&&t.led)=_
   rw[le,tb.led,afs]
  ·rw[if_neg hsl]
   obtain⟨t',order,q1,q2,q3,q4,q5,q6,q7,q8⟩:=zQz (mask:=t1.mask) cy t1.finger t1.moves (t1.led&&t.led) (t1.plain&&t.plain) (es.map (·.1)) (by rw[size_map];exact rm)
   rw[size_map] at q2 q3
   dsimp only
   rw[q1]
   have p:=zGh es order q2
   have sz:(order.filterMap (es[·]?)).size=es.size:=by rw[<-length_toList,p.length_eq,length_toList]
   refine aaw (m:=(if((order.filterMap (es[·]?)).size != es.size)=true then unsupported "internal:set-table-lost-an-element" else pure (order.filterMap (es[·]?),t'))) ?_
   rw[if_neg (by rw[sz];simp)]
   refine aax ?_
   refine ac0 (s:={ s with heap:=h1 }) g1 d1 (h _ (sb.trans (SameBut.update _ r _)) ⟨_,_,_,t',Ik (es':=order.filterMap (es[·]?)) (t':=t') g1 d1,x1,rfl,hel.perm p,(p.map _).trans hp,nd,by rw[sz];exact hb,by rw[sz];exact ZG q3 q4 (by rw[q5];exact rm) (aa0 _),⟨?_,λ_=>q8⟩⟩) (acz (by rw[sz];exact hb))
   rw[q6,le,tb.led,afs]
 case first =>
  unfold setRoomFor
  refine aaw (abd hr rfl rfl ?_)
  dsimp only
  have e1:(SetTable.fresh 0 0 (zU w)).roomFor es.size=if(es.size*5 ≥ 21) then some (es.size*2) else none:=by
   unfold SetTable.roomFor aew SetTable.fresh
   simp
  rw[e1]
  by_cases c:es.size*5 ≥ 21
  ·rw[if_pos c]
   refine zLt hr rfl rfl (by omega) (abj _) λes' t' p q3 q4 q5 q6 q7 q8=>?_
   have ee:es'=#[]:=by
    have:=p.length_eq
    rw[length_toList] at this
    exact Array.eq_empty_of_size_eq_zero this
   subst ee
   exact⟨_,_,_,t',rfl,SameBut.update _ r _,Ik (es':=#[]) (t':=t') hr rfl,⟨rfl,rfl,rfl⟩,rfl,q3,q4,q7,q6,by omega⟩
  ·rw[if_neg c]
   exact aax ⟨s.heap,_,0,_,rfl,SameBut.refl r s.heap,hr,⟨rfl,rfl,rfl⟩,rfl,rfl,rfl,rfl,S7,by show es.size<=7;omega⟩
end
set_option maxRecDepth 100000
section
variable{prog:Program}{w:World}{κ:Type}[DecidableEq κ]{knd:KeyKind prog w κ}{dec:Value->κ}{led:Bool}{A:Around}{E:Value->Shared->Prop}{s:Shared}
theorem zR2{Q:Value->Shared->Prop}(g:Good knd dec (zU w) s.heap a ks)(hl:ks.length<=127)(h:∀(h':Heap),Good knd dec (zU w) h' s.heap.objs.size ks->(∀c o,c<s.heap.objs.size->s.heap.get? c=some o->h'.get? c=some o)->(ks=[]->h'=s.heap.push { cls:=.type "set",dict:=none,data:=.set #[] 0 (.fresh 0 0 (zU w)) })->Q (.ref s.heap.objs.size) { s with heap:=h' }) :
  wpAny (model prog w) A (ad5 a) Q E s:=by
 have la:a<s.heap.objs.size:=by obtain⟨o,_,_,_,h1,_⟩:=g;exact lt_size h1
 have up:∀c o,s.heap.get? c=some o->(s.heap.push { cls:=.type "set",dict:=none,data:=.set #[] 0 (.fresh 0 0 (zU w)) }).get? c=some o:=λc o e=>get?_push_of_some _ e
 have g1:=g.keep (up a)
 unfold ad5
 refine aaw (Zv g.type (aaw (Zw ?_)))
 refine aaw (aax ?_)
 cases ks with
 |nil =>
  obtain⟨o,es,ep,t,ho,hx,hd,hel,hp,nd,hb,hf,tb⟩:=g1
  have e0:es.size=0:=by rw[<-length_toList];have:=hp.length_eq;rw[length_map] at this;exact this
  unfold setMerge
  rw[if_neg (by simpa using(adn la))]
  refine aaw (aaw (abd (s:={ s with heap:=_ }) ho hd hf ?_))
  dsimp only
  rw[if_pos (by simpa[isEmpty] using e0)]
  refine aax (aax (h _ (SJ (get?_push_size _ rfl)) (λc o _ e=>up c o e) λ_=>rfl))
 |cons k0 ks0 =>
  refine aaw (zE9 (s:={ s with heap:=_ }) (get?_push_size _ rfl) (adn la) g1 hl λh' sb g'=>?_)
  exact aax (h h' g' (λc o hc e=>by rw[sb.2 c (aa5 hc)];exact up c o e) λz=>by cases z)
theorem Te{α:Type}(xs:Array α)(p:Nat):(eraseAt xs p).toList=xs.toList.eraseIdx p:=by
 unfold eraseAt
 rw[Array.toList_append,List.eraseIdx_eq_take_drop_succ,Array.toList_extract,Array.toList_extract]
 simp[List.extract_eq_take_drop]
 exact take_of_length_le (by rw[length_drop,length_toList];omega)
theorem zUj{α:Type}(xs:Array α)(p:Nat)(x:α):(insertAt xs p x).size=xs.size+1:=by
 unfold insertAt
 simp
 omega
theorem Tf(hr:Rz xs)(p:Nat):Rz (eraseAt xs p):=by
 intro i k a b hik ha hb
 rw[<-getElem?_toList,Te,List.getElem?_eraseIdx] at ha hb
 have q:∀j,xs.toList[j]?=xs[j]?:=λj=>getElem?_toList
 split at ha<;>split at hb
 ·exact hr i k a b hik (by rw[<-q];exact ha) (by rw[<-q];exact hb)
 ·exact hr i (k+1) a b (by omega) (by rw[<-q];exact ha) (by rw[<-q];exact hb)
 ·omega
 ·exact hr (i+1) (k+1) a b (by omega) (by rw[<-q];exact ha) (by rw[<-q];exact hb)
theorem zOd(hdec:∀k v,knd.is k v=true->dec v=k){Q:Bool->Shared->Prop}(hk:knd.is k x=true)(hs:x.scannable=true)(g:Good knd dec led s.heap a ks)(h:∀(h':Heap) (b:Bool),SameBut a s.heap h'->Good knd dec led h' a (ks.erase k)->Q b { s with heap:=h' }) :
  wpAny (model prog w) A (setDiscardHashed a x (knd.hash k)) Q E s:=by
 obtain⟨o,es,ep,t,ho,hx,hd,hel,hp,nd,hb,hf,tb⟩:=id g
 unfold setDiscardHashed
 refine aaw ?_
 unfold setFind setFindIn
 refine aaw (abd ho hd hf ?_)
 dsimp only
 rw[byScan_of hs hb hel]
 simp only[↓reduceIte]
 refine aaw (aee (aaw (wpAny_setScan_of hk ho hd hf hel ?_)))
 have fi:=zI5 hdec hel k
 cases hr:List.findIdx? (λe=>knd.is k e.2) es.toList with
 |none =>
  have hm:k∉ks:=λz=>fi.mp hr (hp.mem_iff.mpr z)
  dsimp only
  refine aax (aax ?_)
  have q:=h s.heap false (SameBut.refl a s.heap)
  rw[List.erase_of_not_mem hm] at q
  exact q g
 |some j =>
  obtain⟨hj,hpj,_⟩:=List.findIdx?_eq_some_iff_getElem.mp hr
  dsimp only
  rw[adb]
  refine aax (aaw (abd ho hd hf ?_))
  dsimp only
  have pl:t.place.size=es.size:=SM hf
  have hj':j<t.place.size:=by rw[pl,<-length_toList];exact hj
  have sz:(eraseAt es j).size=es.size-1:=by rw[<-length_toList,Te,length_eraseIdx,if_pos hj,length_toList]
  have ed:t.drop j={ t with place:=eraseAt t.place j,dummies:=insertAt t.dummies (below t.dummies t.place[j]) t.place[j] }:=by
   unfold SetTable.drop
   rw[aa6 hj']
  have jz:j<es.size:=by rw[<-length_toList];exact hj
  have ft:(t.drop j).fits (eraseAt es j).size=true:=by
   rw[ed]
   unfold SetTable.fits aew at hf ⊢
   have e1:(eraseAt t.place j).size=es.size-1:=by rw[<-length_toList,Te,length_eraseIdx,length_toList,if_pos hj',pl]
   dsimp only
   rw[e1,zUj,sz]
   rw[aa1,decide_eq_true_eq] at hf
   rw[aa1,decide_eq_true_eq]
   refine⟨by simp,?_⟩
   have:=hf.2
   omega
  have tb':Tb led (t.drop j):=by
   rw[ed]
   exact⟨tb.led,λz=>Tf (tb.rz z) j⟩
  have hp':((eraseAt es j).toList.map λe=>dec e.2).Perm (ks.erase k):=by
   rw[Te]
   have p1:=((Wj hj).map λe=>dec e.2).trans hp
   rw[map_cons,hdec k _ hpj] at p1
   have p2:=p1.erase k
   rw[List.erase_cons_head] at p2
   exact p2
  refine aaw (ac0 ho hd (aaw (wpAny_point (aax (h _ true (SameBut.update _ a _) ⟨_,_,_,_,Ik (es':=eraseAt es j) (t':=t.drop j) ho hd,hx,rfl,λe he=>?_,hp',nd.erase k,by rw[sz];omega,ft,tb'⟩)))) (acz (by rw[sz];omega)))
  rw[Te] at he
  exact hel e (List.mem_of_mem_eraseIdx he)
theorem Fy{Q:Unit->Shared->Prop}(g:Good knd dec led s.heap a ks)(hw:ks.length<=63)(h:∀h',SameBut a s.heap h'->Good knd dec led h' a ks->Q () { s with heap:=h' }):wpAny (model prog w) A (setTidy a) Q E s:=by
 obtain⟨o,es,ep,t,ho,hx,hd,hel,hp,nd,hb,hf,tb⟩:=id g
 have ln:es.size=ks.length:=by rw[<-hp.length_eq,length_map,length_toList]
 unfold setTidy
 refine aaw (abd ho hd hf ?_)
 dsimp only
 split
 ·have e:grown es.size=ks.length*4:=by unfold grown;rw[if_neg (by omega),ln]
  rw[e]
  exact zLs g (by omega) (by omega) h
 ·exact aax (h _ (SameBut.refl a s.heap) g)
theorem zM6(g:Good knd dec (zU w) s.heap a ks)(hs:∀b∈others,∃ks:List κ,Good knd dec (zU w) s.heap b ks)(hn:∀k v,knd.is k v=true->∀b,v≠.ref b){Q:Array (Int×Value)->Shared->Prop}(h:∀(es:Array (Int×Value)),ElemsOf knd es.toList->(es.toList.map λe=>dec e.2).Perm ks->Q es s):wpAny (model prog w) A (setWalkUnseen a others none) Q E s:=by
 obtain⟨o,es,ep,t,h1,h2,h3,hf,hl,tb,hel,hp⟩:=g.size
 unfold setWalkUnseen
 refine aaw (abd h1 h3 hf ?_)
 dsimp only
 refine aaw (uU ?_)
 split
 ·rename_i c
  refine zOo g (λhb o' es' ep' t' h1' h3'=>?_) λes' mQ hp'=>h es' mQ hp'
  rw[h1] at h1'
  cases h1'
  rw[h3] at h3'
  cases h3'
  rw[hb] at c
  simp only[aev,acd,aa1,decide_eq_true_eq] at c
  rcases c with⟨_,c⟩|c
  ·rw[c];rfl
  ·rw[decide_eq_false (by omega),afl]
 ·refine aaw (zLu (knd:=knd) (dec:=dec) (led:=zU w) (a::others) (λb hb=>(mem_cons.mp hb).elim (λe=>e▸⟨ks,g⟩) (hs b)) hn ?_)
  simp only[ab9,aa9,↓reduceIte]
  exact aaw (aee (aax (h es hel hp)))
theorem Fz(hdec:∀k v,knd.is k v=true->dec v=k)(id:String)(hn:∀k v,knd.is k v=true->∀b,v≠.ref b)(hab:b≠r)(ga:Good knd dec (zU w) s.heap r ka)(gb:Good knd dec (zU w) s.heap b kb)(hl:ka.length<=63)(hs:¬kb.length/8 > ka.length){Q:Unit->Shared->Prop}(h:∀(h':Heap) (kr:List κ),SameBut r s.heap h'->Good knd dec (zU w) h' r kr->(∀k,k∈kr↔k∈ka/\k∉kb)->Q () { s with heap:=h' }) :
  wpAny (model prog w) A (Builtin.Frozenset.differenceUpdate id r (.ref b)) Q E s:=by
 obtain⟨o,es,ep,t,h1,h2,h3,hf,hlb,tb,hel,hp⟩:=gb.size
 have nda:ka.Nodup:=by obtain⟨_,_,_,_,_,_,_,_,_,nd,_⟩:=ga;exact nd
 unfold Builtin.Frozenset.differenceUpdate
 rw[if_neg (λe=>hab (ae9 (ab7 e)))]
 refine aaw (CJ gb.type ?_)
 simp only[↓reduceIte]
 refine aaw (aax ?_)
 refine aaw (PX gb (aaw (PX ga ?_)))
 rw[if_neg hs]
 refine aaw (ab6 h1 h3 hf ?_)
 refine aaw (abu (aaw (zM6 gb (λc hc=>(mem_singleton.mp hc)▸⟨ka,ga⟩) hn λes' mQ hp'=>?_)))
 rw[<-forIn_toList]
 refine aaw (aco (adk (β:=Unit) _ (λl _ s'=>∃h2 kr,s'={ s with heap:=h2 }/\SameBut r s.heap h2/\Good knd dec (zU w) h2 r kr/\ElemsOf knd l/\kr.length<=63/\∀k,(k∈kr/\k∉l.map λe=>dec e.2)↔(k∈ka/\k∉kb)) (λ_ s'=>∃h2 kr,s'={ s with heap:=h2 }/\SameBut r s.heap h2/\Good knd dec (zU w) h2 r kr/\kr.length<=63/\∀k,k∈kr↔k∈ka/\k∉kb) ?turn ?fin es'.toList () ⟨s.heap,ka,rfl,SameBut.refl r s.heap,ga,mQ,hl,λk=>?_⟩) ?post (λ_ _ h=>h))
 case turn =>
  rintro⟨hs',v⟩ l b' s' ⟨h2',kr,rfl,jN,g2,hl2,hlen,hm⟩
  obtain⟨⟨k,hk,hh⟩,hsc⟩:=hl2 _ mem_cons_self
  dsimp only at hk hh hsc ⊢
  subst hh
  have dv:dec v=k:=hdec k v hk
  have ndr:kr.Nodup:=by obtain⟨_,_,_,_,_,_,_,_,_,nd,_⟩:=g2;exact nd
  refine aaw (abu (zOd (led:=zU w) (s:={ s with heap:=h2' }) hdec hk hsc g2 λh3' b'' qO g3=>?_))
  refine aaw ?_
  unfold abr
  refine aaw (ab6 (s:={ s with heap:=h3' }) (by show h3'.get? b=_;rw[qO.2 b hab];show h2'.get? b=_;rw[jN.2 b hab];exact h1) h3 hf ?_)
  simp only[bne_self_eq_false,aa9,↓reduceIte]
  refine aax (aax ⟨h3',kr.erase k,rfl,jN.trans qO,g3,λe he=>hl2 e (mem_cons_of_mem _ he),?_,λc=>?_⟩)
  ·have:=List.length_erase_le (a:=k) (l:=kr)
   omega
  ·rw[<-hm c,map_cons,mem_cons]
   show _↔(c∈kr/\¬(c=dec v\/_))
   rw[dv,ndr.mem_erase_iff]
   constructor
   ·rintro⟨⟨z1,z2⟩,z3⟩
    exact⟨z2,λq=>q.elim z1 z3⟩
   ·rintro⟨z1,z2⟩
    exact⟨⟨λq=>z2 (.inl q),z1⟩,λq=>z2 (.inr q)⟩
 case fin =>
  rintro b' s' ⟨h2',kr,rfl,jN,g2,_,hlen,hm⟩
  refine⟨h2',kr,rfl,jN,g2,hlen,λk=>?_⟩
  rw[<-hm k]
  simp
 case post =>
  rintro b' s' ⟨h2',kr,rfl,jN,g2,hlen,hm⟩
  refine aax ?_
  exact Fy (s:={ s with heap:=h2' }) g2 hlen λh3' qO g3=>h h3' kr (jN.trans qO) g3 hm
 ·rw[hp'.mem_iff]
end
set_option maxRecDepth 100000
theorem zG8:entryFor table "set.__sub__" = some Builtin.«frozenset.__sub__»:=aem (id':="frozenset.__sub__") (by kernel_rfl) rfl (by decide +kernel) (by kernel_rfl)
theorem zIf:entryFor table "set.__or__" = some Builtin.«frozenset.__or__»:=aem (id':="frozenset.__or__") (by kernel_rfl) rfl (by decide +kernel) (by kernel_rfl)
section
variable{prog:Program}{w:World}{κ:Type}[DecidableEq κ]{knd:KeyKind prog w κ}{dec:Value->κ}{led:Bool}{A:Around}{E:Value->Shared->Prop}{s:Shared}
theorem zRx(hdec:∀k v,knd.is k v=true->dec v=k)(id:String)(hn:∀k v,knd.is k v=true->∀b,v≠.ref b)(Zt:x≠r)(Ws:y≠r)(gx:Good knd dec (zU w) s.heap x kx)(gy:Good knd dec (zU w) s.heap y ky)(gr:Good knd dec (zU w) s.heap r [])(ZJ:∀o es e t,s.heap.get? y=some o->o.data=.set es e t->e=ep){Q:Unit->Shared->Prop}(h:∀(h':Heap) (kr:List κ),SameBut r s.heap h'->Good knd dec (zU w) h' r kr->(∀k,k∈kr↔k∈ky/\k∉kx)->Q () { s with heap:=h' }) :
  wpAny (model prog w) A (do
   for (h,x') in <-setWalkUnseen y [x,r] (some r) do
    holding [x'] do
     let there <-pure (<-setFind x x' h).isSome
     if !there then
      let _ <-setAddHashed r x' h
    abr id y ep) Q E s:=by
 obtain⟨o,es,ep',t,h1,h2,h3,hf,hl,tb,hel,hp⟩:=gy.size
 have e1:=ZJ o es ep' t h1 h3
 subst e1
 refine aaw (Zq gy gr (λb hb=>(mem_cons.mp hb).elim (λe=>e▸⟨kx,gx⟩) λe=>(mem_singleton.mp e)▸⟨[],gr⟩) hn λes' h' mQ hp' sb SQ=>?_)
 rw[<-forIn_toList]
 have ln:es'.toList.length=ky.length:=by rw[<-hp'.length_eq,length_map]
 refine aaw (aco (adk (β:=Unit) _ (λl _ s'=>∃h2 kr,s'={ s with heap:=h2 }/\SameBut r s.heap h2/\Good knd dec (zU w) h2 r kr/\ElemsOf knd l/\kr.length+l.length<=ky.length/\∀k,(k∈kr\/(k∉kx/\k∈l.map λe=>dec e.2))↔(k∈ky/\k∉kx)) (λ_ s'=>∃h2 kr,s'={ s with heap:=h2 }/\SameBut r s.heap h2/\Good knd dec (zU w) h2 r kr/\∀k,k∈kr↔k∈ky/\k∉kx) ?turn ?fin es'.toList () ⟨h',[],rfl,sb,SQ,mQ,by rw[ln,length_nil];omega,λk=>?_⟩) ?post (λ_ _ h=>h))
 case turn =>
  rintro⟨hs,v⟩ l b s' ⟨h2,kr,rfl,jN,g2,hl2,hlen,hm⟩
  obtain⟨⟨k,hk,hh⟩,hsc⟩:=hl2 _ mem_cons_self
  dsimp only at hk hh hsc ⊢
  subst hh
  have kx':∀o,s.heap.get? x=some o->h2.get? x=some o:=λo e=>by rw[jN.2 x Zt];exact e
  have Zu:=gx.keep kx'
  have dv:dec v=k:=hdec k v hk
  rw[length_cons] at hlen
  have cont:∀(h3':Heap)(Az:List κ),SameBut r s.heap h3'->Good knd dec (zU w) h3' r Az->Az.length+l.length<=ky.length->(∀c,(c∈Az\/(c∉kx/\c∈l.map λe=>dec e.2))↔(c∈ky/\c∉kx)) ->
    wpAny (model prog w) A (abr id y ep') (λ_ s''=>wpAny (model prog w) A (pure (ac1 ())) (λq s''=>match q with|.yield _=>∃h2 kr,s''={ s with heap:=h2 }/\SameBut r s.heap h2/\Good knd dec (zU w) h2 r kr/\ElemsOf knd l/\kr.length+l.length<=ky.length/\∀k,(k∈kr\/(k∉kx/\k∈l.map λe=>dec e.2))↔(k∈ky/\k∉kx)|.done _=>∃h2 kr,s''={ s with heap:=h2 }/\SameBut r s.heap h2/\Good knd dec (zU w) h2 r kr/\∀k,k∈kr↔k∈ky/\k∉kx) E s'') E { s with heap:=h3' }:=λh3' Az qO g3 l3 m3=>by
   unfold abr
   refine aaw (ab6 (s:={ s with heap:=h3' }) (by show h3'.get? y=_;rw[qO.2 y Ws];exact h1) h3 hf ?_)
   simp only[bne_self_eq_false,aa9,↓reduceIte]
   exact aax (aax ⟨h3',Az,rfl,qO,g3,λe he=>hl2 e (mem_cons_of_mem _ he),l3,m3⟩)
  refine aaw (abu (aaw (wpAny_setFind_of (s:={ s with heap:=h2 }) hk hsc (Zu.setOf hdec) λq hq=>aaw (aax ?_))))
  cases q with
  |some j =>
   have nk:k∈kx:=by simpa using hq.symm
   simp only[aec,ab9,aa9,↓reduceIte]
   refine aax (aaw (cont h2 kr jN g2 (by omega) λc=>?_))
   rw[<-hm c,map_cons,mem_cons]
   show _↔(c∈kr\/c∉kx/\(c=dec v\/_))
   rw[dv]
   constructor
   ·rintro(z|⟨z1,z2⟩)
    ·exact .inl z
    ·exact .inr ⟨z1,.inr z2⟩
   ·rintro(z|⟨z1,z2|z2⟩)
    ·exact .inl z
    ·exact absurd nk (z2▸z1)
    ·exact .inr ⟨z1,z2⟩
  |none =>
   have mk:k∉kx:=by simpa using hq.symm
   simp only[Option.isSome_none,Bool.not_false,↓reduceIte]
   refine aaw (Wi (led:=zU w) (s:={ s with heap:=h2 }) hdec hk hsc g2 (by have:=gy.len;omega) λh3' b' qO g3=>?_)
   refine aax (aaw (cont h3' _ (jN.trans qO) g3 ?_ λc=>?_))
   ·split
    ·omega
    ·rw[length_cons];omega
   ·rw[<-hm c,map_cons,mem_cons]
    show _↔(c∈kr\/c∉kx/\(c=dec v\/_))
    rw[dv]
    have e:c∈(if k∈kr then kr else k::kr)↔c=k\/c∈kr:=by
     split
     ·rename_i z
      exact⟨.inr,λq=>q.elim (λq=>q▸z) λq=>q⟩
     ·exact mem_cons
    rw[e]
    constructor
    ·rintro((z|z)|⟨z1,z2⟩)
     ·exact .inr ⟨z▸mk,.inl z⟩
     ·exact .inl z
     ·exact .inr ⟨z1,.inr z2⟩
    ·rintro(z|⟨z1,z2|z2⟩)
     ·exact .inl (.inr z)
     ·exact .inl (.inl z2)
     ·exact .inr ⟨z1,z2⟩
 case fin =>
  rintro b s' ⟨h2,kr,rfl,jN,g2,_,_,hm⟩
  refine⟨h2,kr,rfl,jN,g2,λk=>?_⟩
  rw[<-hm k]
  simp
 case post =>
  rintro b s' ⟨h2,kr,rfl,jN,g2,hm⟩
  exact aax (h h2 kr jN g2 hm)
 ·rw[hp'.mem_iff]
  constructor
  ·rintro(z|⟨z1,z2⟩)
   ·cases z
   ·exact⟨z2,z1⟩
  ·exactλ⟨z1,z2⟩=>.inr ⟨z2,z1⟩
theorem FJ(hdec:∀k v,knd.is k v=true->dec v=k)(id:String)(hn:∀k v,knd.is k v=true->∀b,v≠.ref b)(hab:b≠a)(ga:Good knd dec (zU w) s.heap a ka)(gb:Good knd dec (zU w) s.heap b kb)(hl:ka.length<=63){Q:Value->Shared->Prop}(h:∀(h':Heap) (kr:List κ),Good knd dec (zU w) h' s.heap.objs.size kr->(∀k,k∈kr↔k∈ka/\k∉kb)->(∀c o,c<s.heap.objs.size->s.heap.get? c=some o->h'.get? c=some o)->Q (.ref s.heap.objs.size) { s with heap:=h' }) :
  wpAny (model prog w) A (Builtin.Frozenset.difference id a (.ref b)) Q E s:=by
 have la:a<s.heap.objs.size:=by obtain⟨o,_,_,_,h1,_⟩:=ga;exact lt_size h1
 have lb:b<s.heap.objs.size:=by obtain⟨o,_,_,_,h1,_⟩:=gb;exact lt_size h1
 unfold Builtin.Frozenset.difference
 refine aaw (CJ gb.type ?_)
 simp only[ab9,aa9,Bool.false_and,↓reduceIte]
 refine aaw (aax ?_)
 refine aaw (PX gb (aaw (PX ga ?_)))
 split
 ·rename_i c
  refine aaw (aee (aaw (zR2 ga (by omega) λh' g' k' _=>?_)))
  refine aaw (aax ?_)
  refine aaw (abu (Fz (s:={ s with heap:=h' }) hdec id hn (aa5 lb) g' (gb.keep λo e=>k' b o lb e) hl (by omega) λh2 kr sb g2 m=>aax (h h2 kr g2 m λc o hc e=>?_)))
  rw[sb.2 c (aa5 hc)]
  exact k' c o hc e
 ·refine aaw (Zv ga.type (aaw (Zw ?_)))
  refine aaw (aax ?_)
  have up:∀c o,s.heap.get? c=some o->(s.heap.push { cls:=.type "set",dict:=none,data:=.set #[] 0 (.fresh 0 0 (zU w)) }).get? c=some o:=λc o e=>get?_push_of_some _ e
  have Io:=ga.keep (up a)
  have Ip:=gb.keep (up b)
  have P0:Good knd dec (zU w) (s.heap.push { cls:=.type "set",dict:=none,data:=.set #[] 0 (.fresh 0 0 (zU w)) }) s.heap.objs.size []:=SJ (get?_push_size _ rfl)
  generalize hp:s.heap.push { cls:=.type "set",dict:=none,data:=.set #[] 0 (.fresh 0 0 (zU w)) }=hq at up Io Ip P0 ⊢
  obtain⟨o,es,ep,t,h1,h2,h3,hf,hl,tb,hel,hpp⟩:=Io.size
  refine aaw (ab6 (s:={ s with heap:=hq }) h1 h3 hf ?_)
  refine aaw (abu (zRx (s:={ s with heap:=hq }) hdec id hn (aa5 lb) (aa5 la) Ip Io P0 (λo' es' e' t' z1 z2=>?_) λh' kr sb g m=>aax (h h' kr g m λc o hc e=>?_)))
  ·have Ti:hq.get? a=some o':=z1
   rw[h1] at Ti
   cases Ti
   rw[h3] at z2
   cases z2
   rfl
  ·rw[sb.2 c (aa5 hc)];exact up c o e
theorem Lz(hdec:∀k v,knd.is k v=true->dec v=k)(hn:∀k v,knd.is k v=true->∀b,v≠.ref b)(hab:b≠a)(ga:Good knd dec (zU w) s.heap a ka)(gb:Good knd dec (zU w) s.heap b kb)(hl:ka.length<=63){Q:Value->Shared->Prop}(h:∀(h':Heap) (kr:List κ),Good knd dec (zU w) h' s.heap.objs.size kr->(∀k,k∈kr↔k∈ka/\k∉kb)->(∀c o,c<s.heap.objs.size->s.heap.get? c=some o->h'.get? c=some o)->Q (.ref s.heap.objs.size) { s with heap:=h' }) :
  wpAny (model prog w) A (binaryOp .Sub (.ref a) (.ref b)) Q E s:=by
 refine aez (op:=.Sub) (T:="set") ga.type gb.type F.fills_set_sub F.slot_set_sub (acn F.slot_set_sub ga.type zG8 ?_ (F.args_set_sub_2 _ _))
 refine aaw (m:=ach "__sub__" ⟨[.ref a,.ref b],[]⟩) ?_
 unfold ach slotArgs
 refine aax ?_
 dsimp only
 refine aaw (aaw (CJ ga.type ?_))
 refine CJ gb.type ?_
 simp only[ab9,aa9,↓reduceIte]
 refine aaw (aax (aaw (FJ hdec _ hn hab ga gb hl λh' kr g m k=>aax ⟨.ref s.heap.objs.size,rfl,?_,h h' kr g m k⟩)))
 exactλz=>ae6 z
end
set_option maxRecDepth 100000
section
variable{prog:Program}{w:World}{κ:Type}[DecidableEq κ]{knd:KeyKind prog w κ}{dec:Value->κ}{led:Bool}{A:Around}{E:Value->Shared->Prop}{s:Shared}
theorem zUa(hdec:∀k v,knd.is k v=true->dec v=k)(id:String)(hn:∀k v,knd.is k v=true->∀b,v≠.ref b)(hne:o≠r)(g:Good knd dec (zU w) s.heap r kr)(go:Good knd dec (zU w) s.heap o ko)(hk:kr≠[])(hl:(kr.length+ko.length)*2<=255)(ZJ:∀ob es e t,s.heap.get? o=some ob->ob.data=.set es e t->e=ep){Q:Unit->Shared->Prop}(h:∀(h':Heap) (ks:List κ),SameBut r s.heap h'->Good knd dec (zU w) h' r ks->(∀k,k∈ks↔k∈kr\/k∈ko)->Q () { s with heap:=h' }) :
  wpAny (model prog w) A (setMerge r o (abr id o ep)) Q E s:=by
 obtain⟨ob,es,ep',t,h1,h2,h3,hf,hlo,tb,hel,hp⟩:=go.size
 have e1:=ZJ ob es ep' t h1 h3
 subst e1
 unfold setMerge
 rw[if_neg (by simpa using(ac2 hne))]
 refine aaw (abd h1 h3 hf ?_)
 dsimp only
 by_cases hemp:es.isEmpty=true
 ·rw[if_pos hemp]
  have e0:es.size=0:=by simpa[isEmpty] using hemp
  have k0:ko=[]:=length_eq_zero_iff.mp (by rw[<-hlo];exact e0)
  subst k0
  exact aax (h _ kr (SameBut.refl r s.heap) g λk=>by simp)
 rw[if_neg hemp]
 refine aaw (Fx g (by rw[hlo];exact hl) λh4 sb4 g4=>?_)
 obtain⟨o5,es5,ep5,t5,i1,i2,i3,if5,il5,tb5,aau,ip5⟩:=g4.size
 have go4:=go.keep (h':=h4) λob' e=>by rw[sb4.2 o hne];exact e
 refine aaw (abd (s:={ s with heap:=h4 }) i1 i3 if5 ?_)
 dsimp only
 have hfill:t5.fill≠0:=by
  unfold aew
  rw[SM if5,il5]
  cases kr with
  |nil=>exact absurd rfl hk
  |cons a l=>rw[length_cons];omega
 unfold SetTable.road
 rw[if_pos (by simpa using hfill)]
 dsimp only
 refine aaw (Zq (s:={ s with heap:=h4 }) go4 g4 (λb hb=>(mem_singleton.mp hb)▸⟨kr,g4⟩) hn λes' h' mQ hp' sb SQ=>?_)
 rw[<-forIn_toList]
 have ln:es'.toList.length=ko.length:=by rw[<-hp'.length_eq,length_map]
 refine aaw (aco (adk (β:=Unit) _ (λl _ s'=>∃h2 ks,s'={ s with heap:=h2 }/\SameBut r s.heap h2/\Good knd dec (zU w) h2 r ks/\ElemsOf knd l/\ks.length+l.length<=128/\∀k,(k∈ks\/k∈l.map λe=>dec e.2)↔(k∈kr\/k∈ko)) (λ_ s'=>∃h2 ks,s'={ s with heap:=h2 }/\SameBut r s.heap h2/\Good knd dec (zU w) h2 r ks/\∀k,k∈ks↔k∈kr\/k∈ko) ?turn ?fin es'.toList () ⟨h',kr,rfl,sb4.trans sb,SQ,mQ,by rw[ln];omega,λk=>?_⟩) ?post (λ_ _ h=>h))
 case turn =>
  rintro⟨hs,v⟩ l b s' ⟨h2',ks,rfl,jN,g2,hl2,hlen,hm⟩
  obtain⟨⟨k,hk',hh⟩,hsc⟩:=hl2 _ mem_cons_self
  dsimp only at hk' hh hsc ⊢
  subst hh
  have dv:dec v=k:=hdec k v hk'
  rw[length_cons] at hlen
  have big:(129:Nat)<scanBound:=by decide
  have room:ks.length+1<scanBound:=by omega
  refine aaw (abu (Wi (led:=zU w) (s:={ s with heap:=h2' }) hdec hk' hsc g2 room λh3' b' qO g3=>?_))
  have Pk:h3'.get? o=some ob:=by rw[qO.2 o hne];show h2'.get? o=_;rw[jN.2 o hne];exact h1
  refine aaw ?_
  unfold abr
  refine aaw (ab6 (s:={ s with heap:=h3' }) Pk h3 hf ?_)
  simp only[bne_self_eq_false,aa9,↓reduceIte]
  refine aax (aaw (abd (s:={ s with heap:=h3' }) Pk h3 hf ?_))
  simp only[bne_self_eq_false,aa9,↓reduceIte]
  refine aax ⟨h3',_,rfl,jN.trans qO,g3,λe he=>hl2 e (mem_cons_of_mem _ he),?_,λc=>?_⟩
  ·split
   ·omega
   ·rw[length_cons];omega
  ·rw[<-hm c,map_cons,mem_cons]
   show _↔(c∈ks\/(c=dec v\/_))
   rw[dv]
   have e:c∈(if k∈ks then ks else k::ks)↔c=k\/c∈ks:=by
    split
    ·rename_i z
     exact⟨.inr,λq=>q.elim (λq=>q▸z) λq=>q⟩
    ·exact mem_cons
   rw[e]
   constructor
   ·rintro((z|z)|z)
    ·exact .inr (.inl z)
    ·exact .inl z
    ·exact .inr (.inr z)
   ·rintro(z|z|z)
    ·exact .inl (.inr z)
    ·exact .inl (.inl z)
    ·exact .inr z
 case fin =>
  rintro b s' ⟨h2',ks,rfl,jN,g2,_,_,hm⟩
  refine⟨h2',ks,rfl,jN,g2,λk=>?_⟩
  rw[<-hm k]
  simp
 case post =>
  rintro b s' ⟨h2',ks,rfl,jN,g2,hm⟩
  exact aax (h h2' ks jN g2 hm)
 ·rw[hp'.mem_iff]
theorem LC(hdec:∀k v,knd.is k v=true->dec v=k)(id:String)(hn:∀k v,knd.is k v=true->∀b,v≠.ref b)(hne:o≠r)(g:Good knd dec (zU w) s.heap r kr)(go:Good knd dec (zU w) s.heap o ko)(h0:kr=[]->s.heap.get? r=some { cls:=.type "set",dict:=none,data:=.set #[] 0 (.fresh 0 0 (zU w)) })(hl:(kr.length+ko.length)*2<=255){Q:Unit->Shared->Prop}(h:∀(h':Heap) (ks:List κ),SameBut r s.heap h'->Good knd dec (zU w) h' r ks->(∀k,k∈ks↔k∈kr\/k∈ko)->Q () { s with heap:=h' }) :
  wpAny (model prog w) A (adp id r (.ref o)) Q E s:=by
 obtain⟨ob,es,ep',t,h1,h2,h3,hf,hlo,tb,hel,hp⟩:=go.size
 unfold adp
 refine aaw (CJ go.type ?_)
 simp only[↓reduceIte]
 refine aaw (aax ?_)
 unfold Builtin.Frozenset.merge
 refine aaw (ab6 h1 h3 hf ?_)
 cases kr with
 |nil=>exact zE9 (h0 rfl) (ac2 hne) go (by simp at hl;omega) λh' sb g'=>h h' ko sb g' λk=>by simp
 |cons a l =>
  refine zUa hdec id hn hne g go (λz=>by cases z) hl (λob' es' e' t' z1 z2=>?_) h
  rw[h1] at z1
  cases z1
  rw[h3] at z2
  cases z2
  rfl
theorem Tj(hdec:∀k v,knd.is k v=true->dec v=k)(hn:∀k v,knd.is k v=true->∀b,v≠.ref b)(hab:b≠a)(ga:Good knd dec (zU w) s.heap a ka)(gb:Good knd dec (zU w) s.heap b kb)(hl:ka.length<=63)(hl':kb.length<=63){Q:Value->Shared->Prop}(h:∀(h':Heap) (kr:List κ),Good knd dec (zU w) h' s.heap.objs.size kr->(∀k,k∈kr↔k∈ka\/k∈kb)->(∀c o,c<s.heap.objs.size->s.heap.get? c=some o->h'.get? c=some o)->Q (.ref s.heap.objs.size) { s with heap:=h' }) :
  wpAny (model prog w) A (binaryOp .BitOr (.ref a) (.ref b)) Q E s:=by
 have lb:b<s.heap.objs.size:=by obtain⟨o,_,_,_,h1,_⟩:=gb;exact lt_size h1
 refine aez (op:=.BitOr) (T:="set") ga.type gb.type F.fills_set_or F.slot_set_or (acn F.slot_set_or ga.type zIf ?_ (F.args_set_or_2 _ _))
 refine aaw (m:=ach "__or__" ⟨[.ref a,.ref b],[]⟩) ?_
 unfold ach slotArgs
 refine aax ?_
 dsimp only
 refine aaw (aaw (CJ ga.type ?_))
 refine CJ gb.type ?_
 simp only[ab9,aa9,↓reduceIte]
 refine aaw (aax (aaw ?_))
 refine aaw (m:=ad5 a) (zR2 ga (by omega) λh' g' k' z0=>?_)
 have e1:(abx b != .ref a)=true:=by
  rw[bne_iff_ne]
  exactλe=>hab (ae9 e)
 rw[if_pos e1]
 refine aaw (aax ?_)
 refine aaw (abu (LC (s:={ s with heap:=h' }) hdec _ hn (aa5 lb) g' (gb.keep λo e=>k' b o lb e) (λz=>?_) (by omega) λh2 ks sb g2 m=>aax (aax ⟨.ref s.heap.objs.size,rfl,?_,h h2 ks g2 m λc o hc e=>?_⟩)))
 ·show h'.get? _=_
  rw[z0 z]
  exact get?_push_size _ rfl
 ·exactλz=>ae6 z
 ·rw[sb.2 c (aa5 hc)]
  exact k' c o hc e
end
end qM
namespace L2
open PySem PySem.Spec PyProof.Rows qM
section
variable{X:Cx}
def Iw(ta tb:Fj):Fj:=λσ H Q=>ta σ H λks H1=>ks.length<64/\tb σ H1 λjs H2=>∀rs:LI,rs.Nodup->(∀z,z∈rs↔z∈ks/\z∉js)->Q rs H2
theorem FN(ha:Ay X a ta)(hb:Ay X b tb):Ay X (.BinOp a .Sub b pos) (Iw ta tb):=by
 intro pins s σ H Q I h
 refine afq (aP (ha pins s σ H _ I h) λu s1 ⟨p,ks,H1,e,I1,g,fo,hl,h1⟩=>?_)
 subst e
 obtain⟨o,es,ep,t,go,gx,gd,_⟩:=id g
 have SX:=I1.pinned (fp:=[p]) (λb hb=>by rw[mem_singleton.mp hb];exact fo) (λb hb=>by
  rw[mem_singleton.mp hb]
  exact⟨o,go,λv z=>by rw[gd] at z;cases z⟩)
 refine aP (hb _ s1 σ H1 _ SX h1) λu2 s2 ⟨p2,js,H2,e2,I2,g2,S5,q2⟩=>?_
 subst e2
 have pm:(p,o)∈X.pn++(pins++Hz [p] s1.heap):=mem_append_right _ (mem_append_right _ (vJ (mem_singleton.mpr rfl) go))
 have kp:s2.heap.get? p=some o:=(I2.pin (p,o) pm).1
 have g1:=g.keep (h':=s2.heap) λo' e'=>by rw[go] at e';cases e';exact kp
 have ne:p2≠p:=ac2 (S5.2.2.2.2.2 (p,o) pm)
 have I3:=I2.fU
 refine Lz Wq (λk v hk b z=>?_) ne g1 g2 (adw hl) λh' kr g3 m k=>?_
 ·obtain⟨t,rfl⟩:=ade hk
  cases z
 ·have I4:=I3.kept (h':=h') (t':=s2.toks) λb o e=>k b o (lt_size e) e
  obtain⟨_,_,_,_,_,_,_,_,_,nd,_⟩:=id g3
  exact⟨_,kr,H2,rfl,I4,g3,I3.jQ (aa0 _) (I3.hok.fresh (aa0 _)),q2 kr nd m⟩
def Tn(ta tb:Fj):Fj:=λσ H Q=>ta σ H λks H1=>ks.length<64/\tb σ H1 λjs H2=>js.length<64/\∀rs:LI,rs.Nodup->(∀z,z∈rs↔z∈ks\/z∈js)->Q rs H2
theorem LK(ha:Ay X a ta)(hb:Ay X b tb):Ay X (.BinOp a .BitOr b pos) (Tn ta tb):=by
 intro pins s σ H Q I h
 refine afq (aP (ha pins s σ H _ I h) λu s1 ⟨p,ks,H1,e,I1,g,fo,hl,h1⟩=>?_)
 subst e
 obtain⟨o,es,ep,t,go,gx,gd,_⟩:=id g
 have SX:=I1.pinned (fp:=[p]) (λb hb=>by rw[mem_singleton.mp hb];exact fo) (λb hb=>by
  rw[mem_singleton.mp hb]
  exact⟨o,go,λv z=>by rw[gd] at z;cases z⟩)
 refine aP (hb _ s1 σ H1 _ SX h1) λu2 s2 ⟨p2,js,H2,e2,I2,g2,S5,hl2,q2⟩=>?_
 subst e2
 have pm:(p,o)∈X.pn++(pins++Hz [p] s1.heap):=mem_append_right _ (mem_append_right _ (vJ (mem_singleton.mpr rfl) go))
 have kp:s2.heap.get? p=some o:=(I2.pin (p,o) pm).1
 have g1:=g.keep (h':=s2.heap) λo' e'=>by rw[go] at e';cases e';exact kp
 have ne:p2≠p:=ac2 (S5.2.2.2.2.2 (p,o) pm)
 have I3:=I2.fU
 refine Tj Wq (λk v hk b z=>?_) ne g1 g2 (adw hl) (adw hl2) λh' kr g3 m k=>?_
 ·obtain⟨t,rfl⟩:=ade hk
  cases z
 ·have I4:=I3.kept (h':=h') (t':=s2.toks) λb o e=>k b o (lt_size e) e
  obtain⟨_,_,_,_,_,_,_,_,_,nd,_⟩:=id g3
  exact⟨_,kr,H2,rfl,I4,g3,I3.jQ (aa0 _) (I3.hok.fresh (aa0 _)),q2 kr nd m⟩
end
end L2
namespace Ts
open PySem L2
def Qa(ns ms:LI):Option LI:=if ns.length<64/\ms.length<4000 then some (wR (ns.filter λz=>!decide (z∈ms))) else none
def FQ(ns ms:LI):Option LI:=if ns.length<64/\ms.length<64/\(wR (ns++ms)).length<64 then some (wR (ns++ms)) else none
section
variable{K:PySem.W.Frag}{B:Bs}{sl:SL K}{md:Md}{t1 t2:TE}
theorem zOa(h1:Ex B sl .hp t1 m1)(h2:Ex B sl .hp t2 m2):Eo B sl md (SN (Iw (Il K t1) (Il K t2))) (m1.bind λa=>m2.bind λb=>Qa a b):=λc hc F O H σ Q s k=>by
 obtain⟨ns,ms,ha,hb,hf⟩:=pZ hc
 unfold Qa at hf
 split at hf
 case isFalse=>cases hf
 rename_i hl
 cases hf
 refine h1 ns ha F O H σ _ s λv F' H' g r1=>?_
 obtain⟨p,vs,rfl,z1,z2⟩:=r1
 have z3:vs=ns.map V.int:=z2.vals
 subst z3
 refine⟨p,ns,rfl,aO.of z1,aa3 hl.1 (by decide),λks nd hm=>⟨aa7 (Fo nd λz hz=>(hm z).mp hz) hl.1,?_⟩⟩
 refine h2 ms hb F' O H' σ _ (s.grow g) λw F2 H2 g2 r2=>?_
 obtain⟨p',vs',rfl,y1,y2⟩:=r2
 have y3:vs'=ms.map V.int:=y2.vals
 subst y3
 refine⟨p',ms,rfl,aO.of y1,hl.2,λjs jd hj rs rd hr=>⟨aa7 (Fo rd λz hz=>(hm z).mp ((hr z).mp hz).1) hl.1,λl us hn p1 p2=>?_⟩⟩
 have e:us=wR (ns.filter λz=>!decide (z∈ms)):=Im (vK p2 (p1.nodup_iff.mpr rd)) (uX _) λz=>by rw[p1.mem_iff,hr,hm,hj,bN,mem_filter,Bool.not_eq_true',decide_eq_false_iff_not]
 subst e
 exact k l _ F2 H2 (g.trans g2) hn (H_ _)
theorem zRs(h1:Ex B sl .hp t1 m1)(h2:Ex B sl .hp t2 m2):Eo B sl md (SN (Tn (Il K t1) (Il K t2))) (m1.bind λa=>m2.bind λb=>FQ a b):=λc hc F O H σ Q s k=>by
 obtain⟨ns,ms,ha,hb,hf⟩:=pZ hc
 unfold FQ at hf
 split at hf
 case isFalse=>cases hf
 rename_i hl
 cases hf
 refine h1 ns ha F O H σ _ s λv F' H' g r1=>?_
 obtain⟨p,vs,rfl,z1,z2⟩:=r1
 have z3:vs=ns.map V.int:=z2.vals
 subst z3
 refine⟨p,ns,rfl,aO.of z1,aa3 hl.1 (by decide),λks nd hm=>⟨aa7 (Fo nd λz hz=>(hm z).mp hz) hl.1,?_⟩⟩
 refine h2 ms hb F' O H' σ _ (s.grow g) λw F2 H2 g2 r2=>?_
 obtain⟨p',vs',rfl,y1,y2⟩:=r2
 have y3:vs'=ms.map V.int:=y2.vals
 subst y3
 refine⟨p',ms,rfl,aO.of y1,aa3 hl.2.1 (by decide),λjs jd hj=>⟨aa7 (Fo jd λz hz=>(hj z).mp hz) hl.2.1,λrs rd hr=>⟨aa7 (Fo rd λz hz=>bN.mpr (mem_append.mpr (((hr z).mp hz).imp (hm z).mp (hj z).mp))) hl.2.2,λl us hn p1 p2=>?_⟩⟩⟩
 have e:us=wR (ns++ms):=Im (vK p2 (p1.nodup_iff.mpr rd)) (uX _) λz=>by rw[p1.mem_iff,hr,hm,hj,bN,mem_append]
 subst e
 exact k l _ F2 H2 (g.trans g2) hn (H_ _)
end
end Ts
namespace L2
open PySem PySem.Spec PyProof.Rows
theorem Inv.FT{X:Cx}{pins:List (Addr×Obj)}{σ:St}{H:Hp}{s:Shared}{ch:List Addr}{h₂:Heap}{t' n:Nat}{xs:List V}{us:List Value}(I:Inv X pins σ H s)(kk:∀b o,b∉ch->s.heap.get? b=some o->h₂.get? b=some o)(ht:h₂.get? s.heap.objs.size=some { cls:=.type "tuple",data:=.seq us.toArray n })(rv:Vals xs us)(hz:xs.length<=sizeLine)(hf:∀b∈ch,kE X pins H b):Inv X pins σ (upd H s.heap.objs.size (.tup xs)) { s with heap:=h₂,toks:=t' }:=by
 have nT:H s.heap.objs.size=none:=I.hok.fresh (aa0 _)
 have lt:∀b o,s.heap.get? b=some o->b≠s.heap.objs.size:=λb o q=>aa5 (lt_size q)
 have U:Un (frs X.stack) ch H (upd H s.heap.objs.size (.tup xs)) s.heap h₂ :=
  ⟨λb o q _ _ hx=>kk b o hx q,λb o q _ _ hx=>⟨o.slots,kk b o hx q⟩,λb o q n _=>by rw[zP (lt b o q)];exact n,λb o q hx=>⟨o,kk b o hx q⟩,
   λb ys q=>by rw[zP (zL q nT)];exact q,λb o ys q=>by rw[zP (zL q nT)];exact q,λb ps q=>⟨#[],by rw[zP (zL q nT),q];simp⟩⟩
 have ok:gQ X.prog X.w (upd H s.heap.objs.size (.tup xs)) h₂:=λb o q=>by
  by_cases hb:b=s.heap.objs.size
  ·subst hb
   rw[zJ] at q
   cases q
   exact⟨hz,us,rv,⟨_,ht,rfl,_,rfl⟩⟩
  ·rw[zP hb] at q
   refine(I.hok b o q).stay (λc v hc' z=>?_) (λc z=>by rw[zP (zL z nT)];exact z) λc ys z=>by rw[zP (zL z nT)];exact z
   have hcs:∃o',H c=some o':=by
    rcases hc' with rfl|hc'
    ·exact⟨o,q⟩
    ·exact⟨_,hc'⟩
   obtain⟨o',ho'⟩:=hcs
   refine kk c v (λhm=>?_) z
   rw[(hf c hm).1] at ho'
   cases ho'
 exact I.call (h':=h₂) (g':=s.gens) (t':=t') (d':=s.drawn) (ch:=ch) U ok I.bare λb hb=>let⟨_,f1,_,f3,f4,f5⟩:=hf b hb;⟨f3,f1,f4,f5⟩
def Itz(K:PySem.W.Frag)(a b:Addr):It :=
 ⟨λi H=>∃xs ys x y,aO K H a xs/\aO K H b ys/\xs[i]?=some x/\ys[i]?=some y,
   λi H v H'=>∃t x y,v=.ref t/\H t=none/\H'=upd H t (.tup [x,y])/\(∀xs,aO K H a xs->xs[i]?=some x)/\∀ys,aO K H b ys->ys[i]?=some y,
   λi H=>∃xs ys,aO K H a xs/\aO K H b ys/\(xs.length<=i\/ys.length<=i)⟩
theorem zS2{P:Program}{w:World}{K:PySem.W.Frag}{elts:List Expr}{k:Nat}{tp:Pos}(l1 l2 z TI TO i1 i2:Addr)(D:ZipApart z TI TO i1 i2 l1 l2) :
  Turn P w K (.Tuple elts k tp) (Itz K l1 l2) [z,TI,TO,i1,i2] z (λi h=>IsZip h z TI TO .none/\IsPair h TI (.ref i1) (.ref i2)/\(∃a b,IsPair h TO a b)/\h.IsListIter i1 l1 i/\h.IsListIter i2 l2 i) where
 mem:=by simp
 obj:=λi h st b hb=>by
  obtain⟨hz,hTI,⟨a,b',hTO⟩,⟨o1,e1,c1,d1⟩,⟨o2,e2,c2,d2⟩⟩:=st
  have hb':b=z\/b=TI\/b=TO\/b=i1\/b=i2:=by simpa using hb
  rcases hb' with rfl|rfl|rfl|rfl|rfl
  ·exact⟨_,hz,λv q=>by have q':ae1 _=afb v:=q;cases q'⟩
  ·exact⟨_,hTI,λv q=>by have q':Data.seq _ _=afb v:=q;cases q'⟩
  ·exact⟨_,hTO,λv q=>by have q':Data.seq _ _=afb v:=q;cases q'⟩
  ·exact⟨o1,e1,λv q=>by rw[d1] at q;cases q⟩
  ·exact⟨o2,e2,λv q=>by rw[d2] at q;cases q⟩
 keep:=λi h h' st k=>by
  obtain⟨hz,hTI,⟨a,b',hTO⟩,h1,h2⟩:=st
  exact⟨k z (by simp) _ hz,k TI (by simp) _ hTI,⟨a,b',k TO (by simp) _ hTO⟩,h1.at λo q=>k i1 (by simp) o q,h2.at λo q=>k i2 (by simp) o q⟩
 item:=by
  intro X hP hw hK hc i pins s σ H E I hf st hg
  subst hP hw hK
  obtain⟨xs,ys,x,y,hq1,hq2,hx,hy⟩:=hg
  obtain⟨us,Aj,p1,z1⟩:=I.list hq1
  obtain⟨vs,Qc,p2,z2⟩:=I.list hq2
  obtain⟨u,hu,ru⟩:=Aj.get hx
  obtain⟨v,hv,rv⟩:=Qc.get hy
  obtain⟨hz,hTI,⟨a,b',hTO⟩,h1,h2⟩:=st
  refine wpAny_pyNext_zip_item D hz hTI hTO h1 h2 p1.isList p2.isList (x:=u) (y:=v) (by simpa using hu) (by simpa using hv) λh₁ a1 a2 a3 a4 a5 a6 a7=>?_
  refine⟨_,rfl,wpAny_letOwnedTupleGo_zip (s:={ s with heap:=h₁ }) a1 λh₂ b1 hs₂=>?_⟩
  replace hs₂:SameBut z h₁ h₂:=hs₂
  have nT:H s.heap.objs.size=none:=I.hok.fresh (aa0 _)
  have zlt:z<s.heap.objs.size:=lt_size hz
  have ht₂:h₂.get? s.heap.objs.size=some { cls:=.type "tuple",data:=.seq #[u,v] }:=(hs₂.2 _ (adn zlt)).trans a5
  have I2:=I.FT (ch:=[z,TI,TO,i1,i2]) (h₂:=h₂) (t':=s.toks) (xs:=[x,y]) (us:=[u,v]) (λb o hb q=>by
   have e1:b≠z:=λe=>hb (by simp[e])
   exact(hs₂.2 b e1).trans (a7 b o e1 (λe=>hb (by simp[e])) (λe=>hb (by simp[e])) (λe=>hb (by simp[e])) q)) ht₂ (.cons ru (.cons rv .nil)) (by show 2<=sizeLine;decide) hf
  have kTI:h₂.get? TI=some { cls:=.type "tuple",data:=.seq #[.ref i1,.ref i2] }:=(hs₂.2 TI D.TIz).trans (a7 _ _ D.TIz D.TITO D.TIi1 D.TIi2 hTI)
  refine⟨.ref s.heap.objs.size,_,I2,rfl,⟨s.heap.objs.size,x,y,rfl,nT,rfl,λzs hz'=>by rw[I.g8 hz' hq1];exact hx,λzs hz'=>by rw[I.g8 hz' hq2];exact hy⟩,
   ⟨b1,kTI,⟨_,_,(hs₂.2 TO D.TOz).trans a2⟩,a3.extBut hs₂.extBut D.i1z,a4.extBut hs₂.extBut D.i2z⟩,λb hb=>?_⟩
  have hb0:=(hf b hb).1
  by_cases hbs:b=s.heap.objs.size
  ·exfalso
   have st':∀b∈[z,TI,TO,i1,i2],b<s.heap.objs.size:=λb hb=>by
    obtain⟨o1,e1,_⟩:=h1
    obtain⟨o2,e2,_⟩:=h2
    have hb':b=z\/b=TI\/b=TO\/b=i1\/b=i2:=by simpa using hb
    rcases hb' with rfl|rfl|rfl|rfl|rfl
    ·exact lt_size hz
    ·exact lt_size hTI
    ·exact lt_size hTO
    ·exact lt_size e1
    ·exact lt_size e2
   exact absurd (st' b hb) (by rw[hbs];exact ab2 _)
  ·rw[zP hbs];exact hb0
 done:=by
  intro X hP hw hK hc i pins s σ H E I hf st hg
  subst hP hw hK
  obtain⟨xs,ys,hq1,hq2,hx⟩:=hg
  obtain⟨us,Aj,p1,z1⟩:=I.list hq1
  obtain⟨vs,Qc,p2,z2⟩:=I.list hq2
  have l1:=Aj.length
  have l2:=Qc.length
  obtain⟨hz,hTI,⟨a,b',hTO⟩,h1,h2⟩:=st
  refine wpAny_pyNext_zip_end (I.ok.hd hc) D hz hTI hTO h1 h2 p1.isList p2.isList (by
   rcases hx with hx|hx
   ·left;simp;omega
   ·right;simp;omega) λh' hk=>⟨rfl,?_⟩
  have kk:∀b o,b∉[z,TI,TO,i1,i2]->s.heap.get? b=some o->h'.get? b=some o:=λb o hb q=>hk b o (λe=>hb (by simp[e])) (λe=>hb (by simp[e])) (λe=>hb (by simp[e])) (λe=>hb (by simp[e])) q
  refine I.call (h':=h') (g':=s.gens) (t':=s.toks) (d':=s.drawn) (ch:=[z,TI,TO,i1,i2]) ⟨λb o q _ _ hx=>kk b o hx q,λb o q _ _ hx=>⟨o.slots,kk b o hx q⟩,λ_ _ _ n _=>n,λb o q hx=>⟨o,kk b o hx q⟩,λ_ _ q=>q,λ_ _ _ q=>q,λ_ ps q=>⟨#[],by rw[q];simp⟩⟩ (λb o q=>?_) I.bare λb hb=>let⟨_,f1,_,f3,f4,f5⟩:=hf b hb;⟨f3,f1,f4,f5⟩
  refine(I.hok b o q).stay (λc v hc' zz=>?_) (λ_ q=>q) λ_ _ q=>q
  have hcs:∃o',H c=some o':=by
   rcases hc' with rfl|hc'
   ·exact⟨o,q⟩
   ·exact⟨_,hc'⟩
  obtain⟨o',ho'⟩:=hcs
  exact kk c v (λhm=>by rw[(hf c hm).1] at ho';cases ho') zz
 self:=λ_ _ _ _ _ st h=>wpAny_pyIter_zip st.1 h
def LQ(K:PySem.W.Frag)(ta:TA):TI:=λσ H R=>ta σ H λvs H1=>∃a b,vs=[.ref a,.ref b]/\(∃xs,aO K H1 a xs)/\(∃ys,aO K H1 b ys)/\R (Itz K a b) H1
theorem u5:bootBuiltins "zip" = some (.type "zip"):=by decide +kernel
theorem LR(hg:Gl X "zip")(hm:X.mg "zip" = none)(ha:PA X [a,b] ta)(hs:starEach [a,b] X.env=[(false,eval a X.env),(false,eval b X.env)]:=by rfl)(hs2:starEach [b] X.env=[(false,eval b X.env)]:=by rfl) :
  PI X (.Tuple elts k tp) (.Call (.Name "zip" p) [a,b] [] pos) (LQ X.K ta):=by
 intro pins s σ H R I h
 refine Call_ (uc I hg hm u5 (abk (aP (ha pos pins s σ H _ I h) λus s1 ⟨vs,H1,I1,r1,q1⟩=>?_) (by rw[hs,hs2]) (by rw[hs2];rfl)))
 obtain⟨l1,l2,e,⟨xs,hq1⟩,⟨ys,hq2⟩,q⟩:=q1
 subst e
 obtain⟨u,v,rfl,ru,rv⟩:=r1.two
 cases ru
 cases rv
 obtain⟨us,_,p1,_⟩:=I1.list hq1
 obtain⟨vs,_,p2,_⟩:=I1.list hq2
 have lt1:l1<s1.heap.objs.size:=by obtain⟨o,_,e,_⟩:=p1;exact lt_size e
 have lt2:l2<s1.heap.objs.size:=by obtain⟨o,_,e,_⟩:=p2;exact lt_size e
 refine call_zip_2 p1.isList p2.isList λh' hz hTI hTO hi1 hi2 hsz hk=>wpAny_pyIter_zip hz ?_
 have I2:Inv X pins σ H1 { s1 with heap:=h',toks:=s1.toks }:=I1.kept hk
 refine⟨s1.heap.objs.size+4,[s1.heap.objs.size+4,s1.heap.objs.size+2,s1.heap.objs.size+3,s1.heap.objs.size,s1.heap.objs.size+1],_,_,H1,rfl,I2,zS2 l1 l2 _ _ _ _ _ (zipApart_new lt1 lt2),⟨hz,hTI,⟨_,_,hTO⟩,hi1,hi2⟩,λb hb=>?_,q⟩
 have hb':s1.heap.objs.size<=b:=by
  have hb2:b=s1.heap.objs.size+4\/b=s1.heap.objs.size+2\/b=s1.heap.objs.size+3\/b=s1.heap.objs.size\/b=s1.heap.objs.size+1:=by simpa using hb
  rcases hb2 with rfl|rfl|rfl|rfl|rfl<;>first|exact acu _ _|exact aa0 _
 exact I1.jQ hb' (I1.hok.fresh hb')
def ZL(K:PySem.W.Frag)(a:Addr)(n:Nat):It :=
 ⟨λi H=>i<n/\∃xs x,aO K H a xs/\xs[n-1-i]?=some x,λi H x H'=>H'=H/\∀xs,aO K H a xs->xs[n-1-i]?=some x,λi _=>i=n⟩
theorem zS3{P:Program}{w:World}{K:PySem.W.Frag}{tg:Expr}(a it:Addr)(n:Nat):Turn P w K tg (ZL K a n) [it] it (λi h=>h.IsRevIter it a ((n:Int)-1-(i:Nat))) where
 mem:=by simp
 obj:=λi h st b hb=>by
  have e:b=it:=by simpa using hb
  subst e
  obtain⟨o,e,c,d⟩:=st
  exact⟨o,e,λv z=>by rw[d] at z;cases z⟩
 keep:=λi h h' st k=>st.at λo e=>k it (by simp) o e
 item:=by
  intro X hP hw hK hc i pins s σ H E I hf st hg
  subst hP hw hK
  obtain⟨hi,xs,x,hq,hx⟩:=hg
  obtain⟨its,rv,p,hz⟩:=I.list hq
  obtain⟨u,hu,ru⟩:=rv.get hx
  obtain⟨f0,f1,f2,f3,f4,f5⟩:=hf it (by simp)
  have e:(n:Int)-1-(i:Nat)=((n-1-i:Nat):Int):=by omega
  rw[e] at st
  refine wpAny_pyNext_rev_item st p.isList (x:=u) (by simpa using hu) λh' st' sb=>?_
  have I1:Inv X pins σ H { s with heap:=h' }:=I.turned (t':=s.toks) (λb o hb e=>(sb.2 b hb).trans e) f0 f1 f3 f4 f5
  have e2:((n-1-i:Nat):Int)-1=(n:Int)-1-((i+1:Nat):Int):=by omega
  rw[e2] at st'
  obtain⟨o,e,c,d⟩:=id st'
  exact⟨u,rfl,JX (s:={ s with heap:=h' }) e c d (by decide) ⟨x,H,I1,ru,⟨rfl,λys hy=>by rw[I.g8 hy hq];exact hx⟩,st',λb hb=>(hf b hb).1⟩⟩
 done:=by
  intro X hP hw hK hc i pins s σ H E I hf st hg
  subst hP hw hK
  have hi:i=n:=hg
  subst hi
  obtain⟨f0,f1,f2,f3,f4,f5⟩:=hf it (by simp)
  have e:(i:Int)-1-(i:Nat)=-1:=by omega
  rw[e] at st
  exact wpAny_pyNext_rev_end (I.ok.hd hc) st λh' eb=>⟨rfl,I.turned (t':=s.toks) (λb o hb e=>eb b o hb e) f0 f1 f3 f4 f5⟩
 self:=λ_ _ _ _ _ st h=>wpAny_pyIter_revIter st h
def Ba(K:PySem.W.Frag)(ta:TA):TI:=λσ H R=>ta σ H λvs H1=>∃a xs,vs=[.ref a]/\aO K H1 a xs/\R (ZL K a xs.length) H1
theorem iw:bootBuiltins "reversed" = some (.type "reversed"):=by decide +kernel
theorem L_(hg:Gl X "reversed")(hm:X.mg "reversed" = none)(ha:PA X [a] ta)(hs:starEach [a] X.env=[(false,eval a X.env)]:=by rfl):PI X tg (.Call (.Name "reversed" p) [a] [] pos) (Ba X.K ta):=by
 intro pins s σ H R I h
 refine Call_ (uc I hg hm iw (abk (aP (ha pos pins s σ H _ I h) λus s1 ⟨vs,H1,I1,r1,q1⟩=>?_) hs rfl))
 obtain⟨l,xs,e,hq,q⟩:=q1
 subst e
 obtain⟨u,rfl,ru⟩:=r1.one
 cases ru
 obtain⟨its,rv,p,hz⟩:=I1.list hq
 have hl:=rv.length
 refine call_reversed_list p.isList ?_
 have I2:Inv X pins σ H1 { s1 with heap:=s1.heap.push (revObj l ((its.toArray.size:Int)-1)),toks:=s1.toks }:=I1.kept λb o e=>get?_push_of_some _ e
 have R0:(s1.heap.push (revObj l ((its.toArray.size:Int)-1))).IsRevIter s1.heap.objs.size l ((xs.length:Int)-1-((0:Nat):Int)):=by
  refine⟨_,get?_push_size _ rfl,rfl,?_⟩
  show ae1 #[.ref l,rawInt ((its.toArray.size:Int)-1)]=_
  rw[show((its.toArray.size:Int)-1)=(xs.length:Int)-1-((0:Nat):Int) by rw[size_toArray];omega]
 refine wpAny_pyIter_revIter (s:={ s1 with heap:=s1.heap.push (revObj l ((its.toArray.size:Int)-1)) }) R0 ?_
 refine⟨s1.heap.objs.size,[s1.heap.objs.size],_,_,H1,rfl,I2,zS3 l _ xs.length,R0,λb hb=>?_,q⟩
 have e:b=s1.heap.objs.size:=by simpa using hb
 subst e
 exact I1.jQ (aa0 _) (I1.hok.fresh (aa0 _))
theorem zMl{n:Nat}{ix:List Nat}{g:TG}{tc:TT}{te:TE}{σ:St}{Q:VK}{H:Hp}{K:PySem.W.Frag}{a:Addr}{xs:List V}(Pv:Nat->List V->St->Hp->Prop)(h0:Pv 0 [] (i_ σ n ix) H)(hl:∀i ys σ H,i<=xs.length->Pv i ys σ H->aO K H a xs/\ys.length<=i)(hz:xs.length<sizeLine)(hs:∀i x ys σ H,xs[xs.length-1-i]?=some x->i<xs.length->Pv i ys σ H->g x σ H λσ4 H4=>tc σ4 H4 λb H5=>if b=true then te σ4 H5 λy H6=>Pv (i+1) (ys++[y]) σ4 H6 else Pv (i+1) ys σ4 H5)(hd:∀ys σ H,Pv xs.length ys σ H->∀p,H p=none->Q (.ref p) (upd H p (.lst ys))):Pa n ix g tc te σ Q (ZL K a xs.length) H:=by
 refine⟨λi m ys σ H=>m=xs.length-i/\i<=xs.length/\Pv i ys σ H,⟨xs.length,by simp,abj _,h0⟩,?_⟩
 rintro i m ys σ H ⟨rfl,hi,p⟩
 obtain⟨q,hy⟩:=hl i ys σ H hi p
 by_cases hlt:i<xs.length
 ·refine .inr ⟨⟨hlt,xs,xs[xs.length-1-i]'(by omega),q,aaz (by omega)⟩,by omega,Pv (i+1),λys' σ' H' p'=>⟨xs.length-(i+1),by omega,rfl,hlt,p'⟩,λx H' y=>?_⟩
  obtain⟨e,y⟩:=y
  subst e
  exact hs i x ys σ _ (y xs q) hlt p
 ·have e:i=xs.length:=by omega
  subst e
  exact .inl ⟨rfl,by omega,hd ys σ H p⟩
structure qF(K:PySem.W.Frag)(C:Addr)(m:Str)(f:Addr):Prop where
 sp:specialIn K (.ref C) "__getattribute__" = some (some (.builtin "type.__getattribute__"))
 rd:PySem.W.readsIn K C (.type "type")=true
 at_:PySem.W.findCls K (.ref C) (.type "type") m=some (.val (.ref f))
 kp:keepIn K (.ref f)=true
section
variable{X:Cx}{CX:uo}{k:Nat}{f C:Addr}{fd:FuncData}{ps:List Str}{sp:Sp}{lJ:List V}{ds:List Value}{E:XK}{x m:Str}{p pos apos:Pos}{e o:Expr}{es:List Expr}{ta:TE}{t:TA}
theorem uN(hg:Gl X x)(hm:X.mg x=some (.ref C))(c:qF X.K C m f)(F:aq X.prog X.w X.K X.mg X.base CX k f fd ps sp)(hr:bQ k X.A)(hb:Binds X.K fd ps ds)(hd:Vals lJ ds)(hx:Dv CX X E)(ha:PA X (e::es) t)(hdb:(x==("__debug__":Str))=false:=by decide)(hst:starEach (e::es) X.env=(false,eval e X.env)::starEach es X.env:=by rfl)(hpl:(backTo pos (starEach es X.env)).any (·.1)=false:=by rfl)(ht:eval (.Call (.Attribute (.Name x p) m apos) (e::es) [] pos) X.env=(do
   let ov <-eval (.Name x p) X.env
   standAt apos.atName
   let(f,first) <-holding [ov] (getMethod ov m pl)
   callWith pos f first (backTo pos (starEach (e::es) X.env)) (backToKw pos (keywordEach [] X.env))):=by rfl) :
  PE X (.Call (.Attribute (.Name x p) m apos) (e::es) [] pos) (Cj sp lJ E t):=by
 intro pins s σ H Q I h
 refine afa (pl:=pl) (Qy I hg hm ?_ hdb) ht
 refine PySem.W.method_cls I.jO c.sp (PySem.W.cls_value I.jO c.rd c.at_ rfl ?_)
 have I':=I.tok (s.toks+1)
 refine afe (first:=[]) (h₀:=X.base) I.ok.mod.Ox c.kp (aP (ha pos pins _ σ H _ I' h) λus s1 ⟨vs,H1,I1,r,q⟩=>⟨I1.jO,?_⟩) hst hpl
 exact Vs F hr hb hd hx I1 r q
end
theorem tW{x y:V}{A B:Prop}(h:x=y)(a:A):if decide (x=y)=true then A else B:=by
 rw[decide_eq_true h]
 exact ig a
theorem bW{x y:V}{A B:Prop}(h:¬x=y)(b:B):if decide (x=y)=true then A else B:=by
 rw[decide_eq_false h]
 exact lU b
end L2
namespace Sy
open PySem L2
inductive Tr where
 |all
 |mark (x:Str)
 |one (i:Fin 7) (t:Tr)
 |two (i:Fin 4) (l r:Tr)
def w1(i:Fin 7):Str:=(["not","somenext","eachnext","somealways","eachalways","someever","eachever"]:List Str).getD i.val adt
def w2(i:Fin 4):Str:=(["both","either","sometill","eachtill"]:List Str).getD i.val adt
def Tr.depth:Tr->Nat
 |.all=>0
 |.mark _=>0
 |.one _ t=>t.depth+1
 |.two _ l r=>max l.depth r.depth+1
def Kp(p:Addr)(H H':Hp):Prop:=∀b o,b≠p->H b=some o->H' b=some o
theorem Kp.of(s:Same H H'):Kp p H H':=λb o _ e=>s b o e
theorem Kp.trans(a:Kp p H H1)(b:Kp p H1 H2):Kp p H H2:=λc o n e=>b c o n (a c o n e)
theorem Kp.put(p:Addr)(H:Hp)(o:HO):Kp p H (upd H p o):=λb u n e=>by rw[zP n];exact e
theorem au(h:H p=none)(o:HO):Same H (upd H p o):=λb u q=>by rw[zP (zL q h)];exact q
theorem Ww(h:aO K H b xs)(n:b≠a)(k:Kp a H H'):aO K H' b xs:=by
 rcases h with(h|⟨ob,h⟩)|h
 ·exact .inl (.inl (k _ _ n h))
 ·exact .inl (.inr ⟨ob,k _ _ n h⟩)
 ·exact .inr h
def yu(w:V)(q:Addr):List (Str×V):=aH "parts" (.ref q) (aH "word" w [])
def u_(w v:V)(q:Addr):List (Str×V):=aH "part" v (yu w q)
def vd(w v u:V)(q:Addr):List (Str×V):=aH "right" u (aH "left" v (yu w q))
def Qd(x:V)(q:Addr):List (Str×V):=aH "name" x (yu x q)
theorem bY(f:Str)(v:V):∀fs:List (Str×V),(aH f v fs).length<=fs.length+1
 |[]=>aa0 _
 | (g,x)::r=>by
  unfold aH
  split
  ·exact acq _
  ·exact aci (bY f v r)
theorem Wx(w:V)(q:Addr):(yu w q).length<=2:=by
 have a1:=bY "parts" (V.ref q) (aH "word" w [])
 have a2:=bY "word" w []
 have a3:([]:List (Str×V)).length=0:=rfl
 show(aH "parts" (V.ref q) (aH "word" w [])).length<=2
 omega
structure gU(K:PySem.W.Frag)(C:Addr):Prop where
 cl:Cls K C
 nW:bx K C "word"
 nP:bx K C "parts"
 n1:bx K C "part"
 nL:bx K C "left"
 nR:bx K C "right"
 nN:bx K C "name"
inductive Hd where
 |all
 |mark
 |one (i:Fin 7)
 |two (i:Fin 4)
def spS(K:PySem.W.Frag):Sp:=λvs H Q _=>∃(p C dx:Addr)(x y:V),vs=[.ref p,x,y]/\H p=some (.ins C dx [])/\gU K C/\∀H':Hp,Kp p H H'->H' p=some (.ins C dx (aH "parts" y (aH "word" x [])))->Q .non H'
def qP(K:PySem.W.Frag):Sp:=λvs H Q _=>∃(p C dx:Addr)(x v:V),vs=[.ref p,x,v]/\H p=some (.ins C dx [])/\gU K C/\∀(q:Addr)(H':Hp),Kp p H H'->H q=none->H' q=some (.tup [v])->H' p=some (.ins C dx (u_ x v q))->Q .non H'
def Bb(K:PySem.W.Frag):Sp:=λvs H Q _=>∃(p C dx:Addr)(x v u:V),vs=[.ref p,x,v,u]/\H p=some (.ins C dx [])/\gU K C/\∀(q:Addr)(H':Hp),Kp p H H'->H q=none->H' q=some (.tup [v,u])->H' p=some (.ins C dx (vd x v u q))->Q .non H'
def Tp(C:Addr):Sp:=λvs H Q _=>∃(p dx:Addr),vs=[.ref p]/\H p=some (.ins C dx [])/\∀(q:Addr)(H':Hp),Kp p H H'->H q=none->H' q=some (.tup [])->H' p=some (.ins C dx (yu (.str "all") q))->Q .non H'
def Tq(C:Addr):Sp:=λvs H Q _=>∃(p dx:Addr)(x:V),vs=[.ref p,x]/\H p=some (.ins C dx [])/\∀(q:Addr)(H':Hp),Kp p H H'->H q=none->H' q=some (.tup [])->H' p=some (.ins C dx (Qd x q))->Q .non H'
def qd(C:Addr)(w:Str):Sp:=λvs H Q _=>∃(p dx:Addr)(v:V),vs=[.ref p,v]/\H p=some (.ins C dx [])/\∀(q:Addr)(H':Hp),Kp p H H'->H q=none->H' q=some (.tup [v])->H' p=some (.ins C dx (u_ (.str w) v q))->Q .non H'
def vf(C:Addr)(w:Str):Sp:=λvs H Q _=>∃(p dx:Addr)(v u:V),vs=[.ref p,v,u]/\H p=some (.ins C dx [])/\∀(q:Addr)(H':Hp),Kp p H H'->H q=none->H' q=some (.tup [v,u])->H' p=some (.ins C dx (vd (.str w) v u q))->Q .non H'
inductive aW(cl:Hd->Addr)(H:Hp):Addr->Tr->Prop where
 |all {p q dx:Addr}:H p=some (.ins (cl .all) dx (yu (.str "all") q))->H q=some (.tup [])->aW cl H p .all
 |mark {p q dx:Addr} {x:Str}:H p=some (.ins (cl .mark) dx (Qd (.str x) q))->H q=some (.tup [])->aW cl H p (.mark x)
 |one {p q dx c:Addr} {i:Fin 7} {t:Tr}:H p=some (.ins (cl (.one i)) dx (u_ (.str (w1 i)) (.ref c) q))->H q=some (.tup [.ref c])->aW cl H c t->aW cl H p (.one i t)
 |two {p q dx c d:Addr} {i:Fin 4} {l r:Tr}:H p=some (.ins (cl (.two i)) dx (vd (.str (w2 i)) (.ref c) (.ref d) q))->H q=some (.tup [.ref c,.ref d])->aW cl H c l->aW cl H d r->aW cl H p (.two i l r)
theorem aW.same(h:aW cl H p t)(s:Same H H'):aW cl H' p t:=by
 induction h with
 |all h1 h2=>exact .all (s _ _ h1) (s _ _ h2)
 |mark h1 h2=>exact .mark (s _ _ h1) (s _ _ h2)
 |one h1 h2 _ ih=>exact .one (s _ _ h1) (s _ _ h2) ih
 |two h1 h2 _ _ ih1 ih2=>exact .two (s _ _ h1) (s _ _ h2) ih1 ih2
def hd:Tr->Hd
 |.all=>.all
 |.mark _=>.mark
 |.one i _=>.one i
 |.two i _ _=>.two i
def hw:Tr->Str
 |.all=>"all"
 |.mark x=>x
 |.one i _=>w1 i
 |.two i _ _=>w2 i
def fQ:Tr->List Tr
 |.all=>[]
 |.mark _=>[]
 |.one _ t=>[t]
 |.two _ l r=>[l,r]
theorem kw1:¬(("word":Str) = "parts"):=by decide +kernel
theorem kw2:¬(("word":Str) = "part"):=by decide +kernel
theorem kw3:¬(("word":Str) = "left"):=by decide +kernel
theorem kw4:¬(("word":Str) = "right"):=by decide +kernel
theorem kw5:¬(("word":Str) = "name"):=by decide +kernel
theorem kp2:¬(("parts":Str) = "part"):=by decide +kernel
theorem kp3:¬(("parts":Str) = "left"):=by decide +kernel
theorem kp4:¬(("parts":Str) = "right"):=by decide +kernel
theorem kp5:¬(("parts":Str) = "name"):=by decide +kernel
theorem Wy(w:V)(q:Addr):(yu w q).lookup ("word":Str)=some w:=by unfold yu;rw[zN,if_neg kw1,zN,if_pos rfl]
theorem Wz(w:V)(q:Addr):(yu w q).lookup ("parts":Str)=some (.ref q):=by unfold yu;rw[zN,if_pos rfl]
theorem WD(w:V)(q:Addr){m:Str}(h1:¬m = "parts")(h2:¬m = "word"):(yu w q).lookup m=none:=by
 unfold yu
 rw[zN,if_neg h1,zN,if_neg h2]
 rfl
theorem aW.look(h:aW cl H p t):∃(dx q:Addr)(fs:List (Str×V))(cs:List Addr),H p=some (.ins (cl (hd t)) dx fs)/\fs.lookup ("word":Str)=some (.str (hw t))/\fs.lookup ("parts":Str)=some (.ref q) /\
  (∀m:Str,¬m = "word"->¬m = "parts"->¬m = "part"->¬m = "left"->¬m = "right"->¬m = "name"->fs.lookup m=none)/\H q=some (.tup (cs.map V.ref))/\Paired (aW cl H) cs (fQ t):=by
 cases h with
 |all h1 h2=>exact⟨_,_,_,[],h1,Wy _ _,Wz _ _,λm a b _ _ _ _=>WD _ _ b a,h2,.nil⟩
 |mark h1 h2 =>
  refine⟨_,_,_,[],h1,?_,?_,λm a b _ _ _ f=>?_,h2,.nil⟩
  ·unfold Qd;rw[zN,if_neg kw5];exact Wy _ _
  ·unfold Qd;rw[zN,if_neg kp5];exact Wz _ _
  ·unfold Qd;rw[zN,if_neg f];exact WD _ _ b a
 |one h1 h2 h3 =>
  refine⟨_,_,_,[_],h1,?_,?_,λm a b c _ _ _=>?_,h2,.cons h3 .nil⟩
  ·unfold u_;rw[zN,if_neg kw2];exact Wy _ _
  ·unfold u_;rw[zN,if_neg kp2];exact Wz _ _
  ·unfold u_;rw[zN,if_neg c];exact WD _ _ b a
 |two h1 h2 h3 h4 =>
  refine⟨_,_,_,[_,_],h1,?_,?_,λm a b _ c d _=>?_,h2,.cons h3 (.cons h4 .nil)⟩
  ·unfold vd;rw[zN,if_neg kw4,zN,if_neg kw3];exact Wy _ _
  ·unfold vd;rw[zN,if_neg kp4,zN,if_neg kp3];exact Wz _ _
  ·unfold vd;rw[zN,if_neg d,zN,if_neg c];exact WD _ _ b a
theorem ZM(h:u∈fQ t):u.depth<t.depth:=by
 cases t with
 |all=>cases h
 |mark x=>cases h
 |one i t=>simp[fQ] at h;subst h;exact acv _
 |two i l r =>
  simp[fQ] at h
  rcases h with rfl|rfl
  ·show _<max _ _+1;omega
  ·show _<max _ _+1;omega
def n1(i:Fin 7):Str:=(["Not","SomeNext","EachNext","SomeAlways","EachAlways","SomeEver","EachEver"]:List Str).getD i.val adt
def n2(i:Fin 4):Str:=(["Both","Either","SomeTill","EachTill"]:List Str).getD i.val adt
structure ZP(P:Program)(w:World)(K:PySem.W.Frag)(mg:Str->Option Value)(base:Heap)(k:Nat)(cl fi:Hd->Addr)(di:Hd->FuncData):Prop where
 made:∀h,Mk K (cl h) (fi h)
 iA:aq P w K mg base aM k (fi .all) (di .all) ["self"] (Tp (cl .all))
 bA:Binds K (di .all) ["self"] []
 iM:aq P w K mg base aM k (fi .mark) (di .mark) ["self","name"] (Tq (cl .mark))
 bM:Binds K (di .mark) ["self","name"] []
 i1:∀i,aq P w K mg base aM k (fi (.one i)) (di (.one i)) ["self","part"] (qd (cl (.one i)) (w1 i))
 b1:∀i,Binds K (di (.one i)) ["self","part"] []
 i2:∀i,aq P w K mg base aM k (fi (.two i)) (di (.two i)) ["self","left","right"] (vf (cl (.two i)) (w2 i))
 b2:∀i,Binds K (di (.two i)) ["self","left","right"] []
 mA:mg "All" = some (.ref (cl .all))
 mM:mg "Mark" = some (.ref (cl .mark))
 m1:∀i,mg (n1 i)=some (.ref (cl (.one i)))
 m2:∀i,mg (n2 i)=some (.ref (cl (.two i)))
theorem Tt(nx:H x=none)(nd:H dx=none):Same H (upd (upd H dx (.own x)) x (.ins C dx [])):=λb o e=>by
 rw[zP (zL e nx),zP (zL e nd)]
 exact e
theorem Ma(nx:H x=none)(nd:H dx=none)(k:Kp x (upd (upd H dx (.own x)) x (.ins C dx [])) H'):Same H H':=λb o e=>k b o (zL e nx) (Tt nx nd b o e)
end Sy
namespace Ts
open PySem L2 Sy
structure eE(cl:Hd->Addr) where
 t:Tr
def jB:Hd->Tr->Bool
 |.all,.all=>true
 |.mark,.mark _=>true
 |.one i,.one j _=>decide (j=i)
 |.two i,.two j _ _=>decide (j=i)
 |_,_=>false
def eE.parts(x:eE cl):List (eE cl):=(fQ x.t).map eE.mk
def eE.name(x:eE cl):Option Str:=match x.t with
 |.mark s=>some s
 |_=>none
structure qQ(P:Program)(w:World)(K:PySem.W.Frag)(mg:Str->Option Value)(base:Heap)(k:Nat)(cl fi:Hd->Addr)(di:Hd->FuncData):Prop where
 ini:ZP P w K mg base k cl fi di
 kd:∀h,gU K (cl h)
 p8:∀h h':Hd,∀t:Tr,hd t=h->kitOne K (.ref (cl h)) (.ref (cl h'))=some (jB h' t)
 c1:∀h,findIn K (.ref (cl h)) "__class__" = some (some (.builtin "object.__class__"))
 c2:specialIn K (.builtin "object.__class__") "__get__" = some (some (.builtin "getset_descriptor.__get__"))
 c3:takesIn K (.builtin "object.__class__")=some true
 c4:∀h,mroIn K (cl h) (.type "object")=some true
section
variable{K:PySem.W.Frag}{cl:Hd->Addr}
instance:Rp K (eE cl):=⟨λF v x=>∃p,v=.ref p/\aW cl F p x.t,λs ⟨p,h1,h2⟩=>⟨p,h1,h2.same s⟩⟩
instance:Nn K (eE cl):=⟨λ⟨_,h,_⟩=>by rw[h];intro e;cases e⟩
end
section
variable{K:PySem.W.Frag}{B:Bs}{F H H2:Hp}{O:Own}
end
section
variable{P:Program}{w:World}{K:PySem.W.Frag}{mg:Str->Option Value}{base:Heap}{B:Bs}{sl:SL K}{md:Md}{te t1 t2:TE}{cl fi:Hd->Addr}{di:Hd->FuncData}{k:Nat}
theorem wL(I:qQ P w K mg base k cl fi di)(hh:Hd){m:Option (eE cl)}(h:Ex B sl .hp te m):Ex B sl md (tu (D_ K (.ref (cl hh))) (yJ te (yJ (tC (.ref (cl hh))) bh))) (m.bind λa=>some (jB hh a.t)):=λc hc F O H σ Q s kk=>by
 cases m with
 |none=>cases hc
 |some a =>
  cases hc
  refine h a rfl F O H σ _ s λv F' H' g r1=>?_
  obtain⟨p,rfl,sa⟩:=r1
  obtain⟨dx,q,fs,cs,l1,_⟩:=sa.look
  exact⟨.ref p,.ref (cl hh),_,_,rfl,rfl,.ins l1 (I.kd (hd a.t)).cl (I.c1 _) I.c2 I.c3 (I.c4 _),I.p8 (hd a.t) hh a.t rfl,kk _ F' H' g rfl⟩
theorem zN8(I:qQ P w K mg base k cl fi di){m:Option (eE cl)}(h:Ex B sl .hp te m):Ex B sl md (pX K te "name") (m.bind λa=>a.name):=λc hc F O H σ Q s kk=>by
 cases m with
 |none=>cases hc
 |some a =>
  obtain⟨t⟩:=a
  cases t with
  |mark x =>
   cases hc
   refine h _ rfl F O H σ _ s λv F' H' g r1=>?_
   obtain⟨p,rfl,sa⟩:=r1
   cases sa with
   |mark e1 e2=>exact⟨p,_,_,_,_,rfl,e1,(I.kd .mark).cl,(I.kd .mark).nN,by unfold Qd;rw[zN,if_pos rfl],kk _ F' H' g rfl⟩
  |_=>cases hc
theorem Iz:∀{cs:List Addr}{ts:List Tr},Paired (aW cl F) cs ts->A2 (rp K F) (cs.map V.ref) (ts.map (eE.mk (cl:=cl)))
 |_,_,.nil=>trivial
 |_,_,.cons h r=>⟨⟨_,rfl,h⟩,Iz r⟩
theorem zUu{n:Bool}(I:qQ P w K mg base k cl fi di){mi:Option (eE cl)}(h:Ex B sl (dF n) te mi):Ei B sl n (J0 K (pX K te "parts")) (mi.bind λa=>some a.parts):=λxs hx F O H σ R a kk=>by
 cases mi with
 |none=>cases hx
 |some y =>
  cases hx
  refine h y rfl F O H σ _ a λv F' H' gr r=>?_
  obtain⟨p,rfl,sa⟩:=r
  obtain⟨dx,q,fs,cs,l1,l2,l3,l4,l5,l6⟩:=sa.look
  have h2:A2 (rp K (reg B F' H' (dF n))) (cs.map V.ref) y.parts:=Iz l6
  have e1:=yq gr.ok n p _ l1
  refine⟨p,_,dx,fs,.ref q,rfl,e1,(I.kd _).cl,(I.kd _).nP,l3,q,rfl,⟨_,cu.of (yq gr.ok n q _ l5)⟩,kk _ F' H' gr λi F2 O2 H2 sf k2=>?_⟩
  have hq:cu K H2 q (cs.map V.ref):=cu.of (k2.fh _ _ (sf _ _ (by cases n with|true=>exact aQ _ _ l5|false=>exact l5)))
  refine⟨λhl=>⟨_,hq,by rw[h2.len];exact hl⟩,λx hx=>?_⟩
  obtain⟨w,hw,rw⟩:=h2.at2 hx
  refine⟨⟨_,w,hq,hw⟩,λv H3 yd=>?_⟩
  obtain⟨e,y'⟩:=yd
  subst e
  have:=(hw.symm.trans (y' _ hq))
  cases this
  exact⟨F2,.refl k2,Rp.mono (xT n sf) rw⟩
end
theorem Mf(K:PySem.W.Frag)(hl:PE X l tl)(h:X.K=K:=by rfl):PI X tg l (J0 K tl):=by subst h;exact Xx hl
section
variable{K:PySem.W.Frag}{B:Bs}{sl:SL K}{md:Md}{te:TE}{α:Type}[Rp K α]
def vg{α:Type}(xs ys:List α):Option (List α):=if xs.length+ys.length<cap then some (xs++ys) else none
theorem zNc{n:Bool}{xs:List α}{m:Option (List α)}(i:Nat)(hs:sl[i]?=some (.ow n xs))(hh:sl.all (λs=>!cR s)=true)(h:Ex B sl (dF n) te m) :
  Sn B sl (JL (Kq K "list" Yj (bT i) (yJ te bh))) (λys=>sl.set i (.ow n ys)) (m.bind λa=>vg xs a):=λys ha G D σ H s k=>by
 cases m with
 |none=>cases ha
 |some a =>
  have ha':vg xs a=some ys:=ha
  unfold vg at ha'
  split at ha'
  case isFalse=>cases ha'
  rename_i hl
  cases ha'
  obtain⟨F,O,g,z⟩:=s
  obtain⟨p,vs,h1,h2,h3,_⟩:=z.chg hs hh
  refine⟨_,h1,.inl ⟨rfl,_,aO.of h2⟩,?_⟩
  refine h a rfl F O H σ _ z λv F' H' gr r=>?_
  obtain⟨p',vs',h1',h2',h3',h4'⟩:=(z.grow gr).chg hs hh
  have e:=h1.symm.trans h1'
  cases e
  obtain⟨q,us,rfl,z1,z2⟩:=r
  obtain⟨O',z'⟩:=h4' (vs'++us) (xs++a) (h3'.app z2)
  exact⟨p,q,_,_,rfl,rfl,h2',yq gr.ok n q _ z1,by rw[h3'.len,z2.len];exact acf (yr hl),k _ _ ⟨F',O',g.trans gr.ff,z'⟩⟩
end
end Ts
namespace Tv
open PySem PySem.Spec PyProof.Rows
set_option maxRecDepth 100000
section
variable{prog:Program}{w:World}{A:Around}{E:Value->Shared->Prop}{s:Shared}
variable{R:Result->Shared->Prop}
end
section
variable{prog:Program}{w:World}{A:Around}{E:Value->Shared->Prop}{s:Shared}
end
end Tv
namespace L2
open PySem PySem.Spec PyProof.Rows Tv
end L2
namespace Ts
open PySem L2
section
variable{K:PySem.W.Frag}{B:Bs}{sl:SL K}{md:Md}{t1 t2:TE}{α β:Type}[Rp K α][Rp K β]
end
open PySem L2 Sy
section
variable{K:PySem.W.Frag}
end
section
variable{K:PySem.W.Frag}{B:Bs}{sl:SL K}{md:Md}{te t1 t2:TE}
end
end Ts
namespace L2
open PySem PySem.Spec PyProof.Rows
section
variable{X:Cx}
def Tw:V->Option Int->Option Int->Hp->VK->Prop:=λx lo hi H Q=>∃z j,x=.str z/\lo=none/\hi=some j/\z.length<=sizeLine/\Q (.str (Txt.slice z none (some j))) H
theorem zVn:Rb X Tw:=by
 intro pins s σ H x v vl vu lo hi sl Q I rx hs pl pu h
 obtain⟨z,j,rfl,rfl,rfl,hz,q⟩:=h
 obtain⟨t,rfl⟩:=rx
 cases pl
 cases pu with
 |int _ tk =>
  refine⟨"str",_,PySem.F.slot_str_getitem.lookup,typeIs_str _ _ _,?_⟩
  exact wpAny_getItem_str_slice (l:=none) (u:=some (j,tk)) (st:=none) hs rfl (post_val_or_str ⟨aa8 (Txt.slice_le z _ _) hz,λt' k=>⟨.str _,H,I.tok k,⟨t',rfl⟩,q⟩⟩)
end
end L2
namespace Ts
open PySem L2
section
variable{K:PySem.W.Frag}{B:Bs}{sl:SL K}{md:Md}{t t1 t2:TE}
def lW(z:Str)(j:Int):Option Str:=if z.length<=1000 then some (Txt.slice z none (some j)) else none
theorem zRl(h1:Ex B sl .hp t1 m1)(h2:Ex B sl .hp t2 m2):Ex B sl md (Vy Tw t1 Vw (Vx t2)) (m1.bind λa=>m2.bind λb=>lW a b):=λc hc F O H σ Q s k=>by
 obtain⟨a,b,ha,hb,hf⟩:=pZ hc
 unfold lW at hf
 split at hf
 case isFalse=>cases hf
 rename_i hl
 cases hf
 refine h1 a ha F O H σ _ s λv F' H' g r1=>?_
 refine h2 b hb F' O H' σ _ (s.grow g) λw F2 H2 g2 r2=>?_
 cases r1
 cases r2
 exact⟨b,rfl,a,b,rfl,rfl,rfl,aa8 hl (by decide),k _ F2 H2 (g.trans g2) rfl⟩
end
section
variable{K:PySem.W.Frag}{B:Bs}{sl:SL K}{F H H' L L':Hp}{O:Own}{σ:St}{α:Type}[Rp K α]
abbrev jY:Slot K->Bool
 |@Slot.nu _ _ _ _=>true
 |_=>false
theorem ak.Tz(h:ak B F L H sl σ O)(hn:sl.all (λs=>!cR s&&!jY s)=true):ak B F L' H' sl σ O:=by
 induction h with
 |nil=>exact .nil
 |un _ ih=>exact .un (ih (by rw[all_cons,aa1] at hn;exact hn.2))
 |fz r _ ih=>exact .fz (Rp.mono (xT _ (.refl _)) r) (ih (by rw[all_cons,aa1] at hn;exact hn.2))
 |hs r _ ih=>rw[all_cons,aa1] at hn;exact absurd hn.1 (by simp)
 |nu r _ ih=>rw[all_cons,aa1] at hn;exact absurd hn.1 (by simp)
 |ow r _ ih=>exact .ow (r.imp λ_ _=>Rp.mono (xT _ (.refl _))) (ih (by rw[all_cons,aa1] at hn;exact hn.2))
 |od r _ ih=>exact .od r (ih (by rw[all_cons,aa1] at hn;exact hn.2))
end
open PySem L2 Sy
open PySem.SeqAt (EqAt RcAt RcNeAt)
section
variable{K:PySem.W.Frag}
variable{B:Bs}{sl:SL K}{md:Md}{t1 t2:TE}
end
theorem TF{β:Type}[Rp K β]{m:Option β}(sl2:SL K)(h:SB B sl2 t al m)(e:sl=sl2:=by rfl):SB B sl t al m:=e▸h
def del(H:Hp)(p:Addr):Hp:=λb=>if b=p then none else H b
def Mg(K:PySem.W.Frag){A β:Type}[Rp K β](as:A->SL K)(f:LI->A->Option (β×LI)):Sp:=λvs H Q _ =>
 ∃(p:Addr)(ws:LI)(us:List V)(a:A)(b:β)(ws':LI)(Fa:Hp),vs=.ref p::us/\H p=some (.lst (ws.map V.int))/\Fa p=none/\Same Fa H/\f ws a=some (b,ws')/\Ar Fa (as a) us /\
  ∀v H',Same (del H p) H'->H' p=some (.lst (ws'.map V.int))->rp K (dif H' H) v b->Q v H'
section
variable{K:PySem.W.Frag}{B:Bs}{sl:SL K}{md:Md}{β:Type}[Rp K β]
def Ey(B:Bs)(sl:SL K)(md:Md)(t:TE){α S:Type}[Rp K α](L:S->SL K)(m:Option (α×S)):Prop :=
 ∀a s,m=some (a,s)->∀(F:Hp)(O:Own)(H:Hp)(σ:St)(Q:VK),At B sl F O H σ->(∀(v:V)(F':Hp)(O':Own)(H':Hp),Same F F'->At B (L s) F' O' H' σ->rp K (reg B F' H' md) v a->Q v H')->t σ H Q
theorem zUr{A:Type}{as:A->SL K}{f:LI->A->Option (β×LI)}{ma:Option A}(i:Nat)(hs:sl[i]?=some (.ow n ws))(hh:sl.all (λs=>!cR s)=true)(h:Ea B sl .fz ta as ma) :
  Ey B sl md (Cj (Mg K as f) [] E0 (yJ (bT i) ta)) (λws'=>sl.set i (.ow n ws')) (ma.bind λa=>f ws a):=λb ws' hc F O H σ Q z k=>by
 cases ma with
 |none=>cases hc
 |some a =>
  have hc:f ws a=some (b,ws'):=hc
  obtain⟨p,vs,h1,h2,h3,_⟩:=z.chg hs hh
  refine⟨_,h1,?_⟩
  refine h a rfl F O H σ _ z λus F' H' gr r=>?_
  have z1:=z.grow gr
  obtain⟨p',vs',h1',h2',h3',h4'⟩:=z1.chg hs hh
  cases h1.symm.trans h1'
  obtain⟨O1,O2,p2,vs2,eO,DX,_⟩:=z1.2.pA hs
  cases h1.symm.trans DX
  have fp:F' p=none:=by
   have k1:=z1.1
   rw[eO] at k1
   exact k1.one.1
  have ev:vs'=ws.map V.int:=A2.kI h3'
  show Mg K as f ((.ref p::us)++[]) H' Q E0
  rw[append_nil]
  refine⟨p,ws,us,a,b,ws',F',rfl,by rw[h2',ev],fp,gr.ok.fh,hc,r,λv H2 s2 e2 r2=>?_⟩
  obtain⟨O',z'⟩:=h4' (ws'.map V.int) ws' (A2.of_map (R:=rp K (reg B F' H' (dF n))) (f:=V.int) (λ_=>rfl) ws')
  have s3:Same (upd H' p (.lst (ws'.map V.int))) H2:=λc o e=>by
   by_cases q:c=p
   ·subst q
    rw[zJ] at e
    rw[e2]
    exact e
   ·rw[zP q] at e
    refine s2 c o ?_
    unfold del
    rw[if_neg q]
    exact e
  have g2:=z'.1.called s3
  refine k v _ O' H2 (gr.ff.trans g2.ff) (z'.grow g2) ?_
  have d:Same (dif H2 H') (dif H2 (upd H' p (.lst (ws'.map V.int)))):=λc o e=>by
   unfold dif at e ⊢
   by_cases q:c=p
   ·subst q
    rw[h2'] at e
    cases e
   ·rw[zP q]
    exact e
  have r3:=Rp.mono (Kz (F:=F') z'.1.h0 s3) (Rp.mono d r2)
  exact match md with
  |.nw=>r3
  |.fz=>Rp.mono aQ r3
  |.hp=>Rp.mono (aQ.trans g2.ok.fh) r3
end
structure RL(p:Addr) where
 ws:LI
section
variable{K:PySem.W.Frag}{B:Bs}{sl:SL K}{F H:Hp}{O:Own}{σ:St}{md:Md}{β:Type}[Rp K β]{p:Addr}{ws:LI}
instance:Rp K (RL p):=⟨λF v x=>v=.ref p/\F p=some (.lst (x.ws.map V.int)),λs ⟨h1,h2⟩=>⟨h1,s _ _ h2⟩⟩
theorem At.jf(z:At B sl F O H σ)(hs:sl[i]?=some (.nu (RL.mk (p:=p) ws)))(hh:(sl.set i .un).all (λs=>!cR s&&!jY s)=true) :
  σ[i]?=some (some (.ref p))/\H p=some (.lst (ws.map V.int))/\B.H0 p=none/\F p=none/\(∀x∈O,x.1≠p)/\∀ws':LI,At B (sl.set i (.nu (RL.mk (p:=p) ws'))) F O (upd H p (.lst (ws'.map V.int))) σ:=by
 obtain⟨v,h1,rfl,h2⟩:=z.2.Ao hs
 have b0:B.H0 p=none:=by
  cases q:B.H0 p with
  |none=>rfl
  |some u=>unfold dif at h2;rw[q] at h2;cases h2
 rw[xW b0] at h2
 have h2':=h2
 unfold lo at h2
 split at h2
 case isTrue=>cases h2
 rename_i hlo
 have hlo':=hlo
 rw[acd,not_or] at hlo
 have f0:F p=none:=by
  cases q:F p with
  |none=>rfl
  |some u=>exact absurd (by rw[q];rfl) hlo.1
 have o0:∀x∈O,x.1≠p:=λx hx e=>hlo.2 (any_eq_true.mpr ⟨x,hx,by simpa using e⟩)
 refine⟨h1,h2,b0,f0,o0,λws'=>⟨⟨z.1.fh.put f0 _,z.1.h0.put b0 _,z.1.fa,λx hx=>?_,z.1.nd⟩,?_⟩⟩
 ·obtain⟨a1,a2,a3⟩:=z.1.fo x hx
  exact⟨a1,a2,by rw[zP (o0 x hx)];exact a3⟩
 ·have e:σ.set i (some (.ref p))=σ:=by
   apply ext_getElem?
   intro j
   rw[ac9]
   split
   ·rename_i hij
    subst hij
    split
    ·exact h1.symm
    ·rename_i hlt
     rw[abq (by omega)] at h1
     cases h1
   ·rfl
  have q:=z.2.put (s':=.un) (x:=some (.ref p)) (λsl σ O h=>.un h) hs rfl
  rw[e] at q
  have q2:=q.Tz (L':=lo F O (upd H p (.lst (ws'.map V.int)))) (H':=upd H p (.lst (ws'.map V.int))) hh
  have hlt:i<sl.length:=by
   cases c:decide (i<sl.length) with
   |true=>exact of_decide_eq_true c
   |false=>rw[abq (by have:=of_decide_eq_false c;omega)] at hs;cases hs
  have q3:=q2.put (s:=.un) (s':=.nu (RL.mk (p:=p) ws')) (x:=some (.ref p)) (i:=i) (λsl σ O h=>.nu (by
   refine⟨rfl,?_⟩
   rw[xW b0]
   unfold lo
   rw[if_neg hlo',zJ]) h) (by rw[ac9,if_pos rfl,if_pos hlt]) rfl
  rw[e,set_set] at q3
  exact q3
end
section
variable{K:PySem.W.Frag}{B:Bs}{sl:SL K}{F H:Hp}{O:Own}{σ:St}{md:Md}{α β S:Type}[Rp K α][Rp K β]{p:Addr}{ws:LI}{te:TE}{t u:TS}
def qR(B:Bs)(p:Addr)(sl:SL K)(t:TS){β:Type}[Rp K β](m:Option (β×LI)):Prop :=
 ∀b ws,m=some (b,ws)->∀(G:Hp)(D:Ends)(σ:St)(H:Hp),Sg B G sl σ H->(∀v H',Same B.H0 H'->H' p=some (.lst (ws.map V.int))->(∃F:Hp,F p=none/\Same F H'/\rp K (dif F B.H0) v b)->D.rt v H')->t D σ H
theorem qR.of{m m':Option (β×LI)}(h:qR B p sl t m)(e:m=m'):qR B p sl t m':=e▸h
theorem zPl{m:Option β}(i:Nat)(hs:sl[i]?=some (.nu (RL.mk (p:=p) ws)))(hh:(sl.set i .un).all (λs=>!cR s&&!jY s)=true)(h:Ex B sl .nw te m):qR B p sl (iZ (rJ te) u) (m.bind λb=>some (b,ws)):=λb ws' hb G D σ H s k=>by
 cases m with
 |none=>cases hb
 |some c =>
  obtain⟨rfl,rfl⟩:=ae5 (aa2 (show some (c,ws)=some (b,ws') from hb))
  obtain⟨F,O,g,a⟩:=s
  refine h c rfl F O H σ _ a λv F' H' gr r=>?_
  obtain⟨_,h2,_,f0,_⟩:=(a.grow gr).jf hs hh
  exact k v H' gr.ok.h0 h2 ⟨F',f0,gr.ok.fh,r⟩
theorem Qe(hs:sl[i]?=some s):(sl.set i s')[i]?=some s':=by
 have hlt:i<sl.length:=by
  cases c:decide (i<sl.length) with
  |true=>exact of_decide_eq_true c
  |false=>rw[abq (by have:=of_decide_eq_false c;omega)] at hs;cases hs
 rw[ac9,if_pos rfl,if_pos hlt]
theorem zTm{s:Slot K}{m:Option (β×LI)}(i:Nat)(hs:sl[i]?=some s)(hh:(sl.set i .un).all (λs=>!cR s&&!jY s)=true)(h:Ey B sl .nw te (λws'=>sl.set i (.nu (RL.mk (p:=p) ws'))) m):qR B p sl (iZ (rJ te) u) m:=λb ws' hb G D σ H s k=>by
 obtain⟨F,O,g,a⟩:=s
 refine h b ws' hb F O H σ _ a λv F' O' H' sf a' r=>?_
 obtain⟨_,h2,_,f0,_⟩:=a'.jf (Qe hs) (by rw[set_set];exact hh)
 exact k v H' a'.1.h0 h2 ⟨F',f0,a'.1.fh,r⟩
theorem Mh{f:S->Option (β×LI)}(h1:Sn B sl t L m1)(h2:∀s,qR B p (L s) u (f s)):qR B p sl (iZ t u) (m1.bind f):=λa w ha G D σ H q k=>by
 cases m1 with
 |none=>cases ha
 |some s=>exact h1 s rfl G _ σ H q λσ' H' q'=>h2 s a w ha G D σ' H' q' k
theorem FW{c:TT}{n:Option Bool}{m1 m2:Option (β×LI)}(hc:Et B sl c n)(h1:qR B p sl t m1)(h2:qR B p sl u m2):qR B p sl (iZ (uf c t JK) u) (n.bind λb=>if b=true then m1 else m2):=λa w ha G D σ H s k=>by
 cases n with
 |none=>cases ha
 |some b =>
  obtain⟨F,O,g,z⟩:=s
  refine hc b rfl F O H σ _ z λF' H' gr=>?_
  cases b with
  |true=>exact ig (h1 a w (by simpa using ha) G _ σ H' (Sg.grow g z gr) k)
  |false=>exact lU (h2 a w (by simpa using ha) G D σ H' (Sg.grow g z gr) k)
theorem FZ(i:Nat)(hs:sl[i]?=some (.nu (RL.mk (p:=p) ws)))(hh:(sl.set i .un).all (λs=>!cR s&&!jY s)=true):Ey B sl md (Ko K "list" Ri (bT i)) (λws'=>sl.set i (.nu (RL.mk (p:=p) ws'))) (ws.getLast?.bind λy=>some (y,ws.dropLast)):=λb ws' hb F O H σ Q z k=>by
 cases e2:ws.getLast? with
 |none=>rw[e2] at hb;cases hb
 |some y =>
  rw[e2] at hb
  obtain⟨rfl,rfl⟩:=ae5 (aa2 (show some (y,ws.dropLast)=some (b,ws') from hb))
  obtain⟨h1,h2,b0,f0,o0,ch⟩:=z.jf hs hh
  refine⟨_,h1,.inl ⟨rfl,_,aO.of h2⟩,p,ws.map V.int,V.int y,rfl,rfl,h2,?_,?_⟩
  ·rw[length_map,getElem?_map,<-List.getLast?_eq_getElem?,e2];rfl
  rw[<-List.map_dropLast]
  exact k _ F O _ (.refl _) (ch ws.dropLast) rfl
theorem Ga(i:Nat)(hs:sl[i]?=some (.nu (RL.mk (p:=p) ws)))(hh:(sl.set i .un).all (λs=>!cR s&&!jY s)=true):Ex B sl md (tu (KR K) (yJ (bT i) bh)) (some (ws.length:Int)):=λd hd F O H σ Q z k=>by
 cases hd
 obtain⟨h1,h2,_⟩:=z.jf hs hh
 refine⟨_,h1,p,_,rfl,.inl (aO.of h2),k _ F H (.refl z.1) ?_⟩
 rw[length_map]
 rfl
theorem zIa{as:SL K}(k:Nat)(hf:as.all isF=true)(r:Ar F as vs):ak B F L' H (as++replicate k .un) (vs.map some++replicate k none) []:=by
 induction r with
 |nil =>
  show ak _ _ _ _ ([]++_) ([]++_) []
  rw[nil_append,nil_append]
  induction k with
  |zero=>exact .nil
  |succ k ih=>exact .un ih
 |@cons n _ _ _ _ _ _ r _ ih =>
  rw[all_cons,aa1] at hf
  cases n with
  |false=>exact .fz r (ih hf.2)
  |true=>exact absurd hf.1 (by simp)
end
section
variable{P:Program}{w:World}{K:PySem.W.Frag}{mg:Str->Option Value}{base:Heap}
theorem zRz{A β:Type}[Rp K β]{as:A->SL K}{fM:LI->A->Option (β×LI)}(F:aZ K x qual st f fd)(S:ao N ps (zH st))(hf:∀a,(as a).all isF=true)(hl:∀a,(as a).length+1=ps.length)(hb:∀(cdv:Value) (A:Around) (outer:List Env) (s:Shared) (H:Hp) (E:XK),bQ k (A.deeper (ad4 qual (zH st) s.heap.objs.size f cdv)) ->
   ∃t,qz (oM aM P w K mg base N qual (zH st) f cdv A outer s H E).Dg (wF st) t/\∀Fa p ws a,qR ⟨Fa,del H p⟩ p (.nu (RL.mk (p:=p) ws)::(as a++replicate (N.length-ps.length) .un)) t (fM ws a)) :
  aq P w K mg base aM (k+1) f fd ps (Mg K as fM) :=
 F.ok S (λvs H Q E h=>by
  obtain⟨p,ws,us,a,b,ws',Fa,rfl,_,_,_,_,r,_⟩:=h
  rw[length_cons,r.len,hl]) λcdv A outer s H vs Q E hr h=>by
  obtain⟨t,pt,q⟩:=hb cdv A outer s H E hr
  refine⟨t,pt,?_⟩
  obtain⟨p,ws,us,a,b,ws',Fa,rfl,hp,fp,sf,hfa,r,kk⟩:=h
  have e:L2.start N (.ref p::us)=some (.ref p)::(us.map some++replicate (N.length-ps.length) none):=by
   unfold L2.start
   rw[length_cons,r.len,hl]
   rfl
  have d0:Same (del H p) H:=λc o e=>by
   unfold del at e
   split at e
   ·cases e
   ·exact e
  have dp:del H p p=none:=by
   unfold del
   rw[if_pos rfl]
  rw[e]
  refine q Fa p ws a b ws' hfa Fa _ _ H ⟨Fa,[],.refl _,⟨sf,d0,λb o h=>.inl h,λx hx=>(by cases hx),(by simp)⟩,.nu ⟨rfl,?_⟩ (zIa _ (hf a) r)⟩ (λv H' s1 e1 z=>?_)
  ·rw[xW dp]
   unfold lo
   rw[fp]
   exact hp
  ·obtain⟨F2,f2,s2,r2⟩:=z
   refine kk v H' s1 e1 (Rp.mono (λc o e=>?_) r2)
   unfold dif at e ⊢
   by_cases c1:c=p
   ·subst c1
    have e:(match del H c c with|none=>F2 c|some _=>none)=some o:=e
    rw[dp,f2] at e
    cases e
   ·have ed:del H p c=H c:=by
     unfold del
     rw[if_neg c1]
    have e:(match del H p c with|none=>F2 c|some _=>none)=some o:=e
    rw[ed] at e
    show(match H c with|none=>H' c|some _=>none)=some o
    cases hc:H c with
    |none=>rw[hc] at e;exact s2 _ _ e
    |some u=>rw[hc] at e;cases e
end
section
variable{K:PySem.W.Frag}{B:Bs}{sl:SL K}{md:Md}{α β S:Type}[Rp K α][Rp K β]{te:TE}
theorem ZQ{L:S->SL K}(n:Bool)(j:Nat)(hs:∀s,∃x,(L s)[j]?=some x/\jc x=false)(h:Ey B sl (dF n) te L m):Sn B sl (lR te (uV j)) (λr:α×S=>(L r.2).set j (.fz n r.1)) m:=λa ha G D σ H s k=>by
 obtain⟨F,O,g,z⟩:=s
 obtain⟨x,h1,h2⟩:=hs a.2
 exact h a.1 a.2 ha F O H σ _ z λv F' O' H' sf z' r=>k _ _ (Sg.set (g.trans sf) z' h1 h2 r)
end
section
variable{K:PySem.W.Frag}{B:Bs}{sl:SL K}{md:Md}{α β S:Type}[Rp K α][Rp K β]{te:TE}{p:Addr}{ws:LI}
structure Fr(p:Addr)(F H F' H':Hp):Prop where
 ff:Same F F'
 hh:∀b o,b≠p->H b=some o->H' b=some o
 nw:∀b,F b=none->H b≠none->F' b=none
theorem Fr.of(g:bH B F H O F' H'):Fr p F H F' H':=⟨g.ff,λb o _ e=>g.hh b o e,g.nw⟩
theorem Fr.refl(F H:Hp):Fr p F H F H:=⟨.refl _,λ_ _ _ e=>e,λ_ h _=>h⟩
theorem Fr.trans(a:Fr p F H F1 H1)(b:Fr p F1 H1 F2 H2)(hp:H1 p≠none):Fr p F H F2 H2 :=
 ⟨a.ff.trans b.ff,λc o n e=>b.hh c o n (a.hh c o n e),λc h1 h2=>b.nw c (a.nw c h1 h2) (by
  by_cases n:c=p
  ·rw[n];exact hp
  ·cases q:H c with
   |none=>exact absurd q h2
   |some o=>rw[a.hh c o n q];intro z;cases z)⟩
def vh(B:Bs)(p:Addr)(sl:SL K)(md:Md)(t:TE){α S:Type}[Rp K α](L:S->SL K)(m:Option (α×S)):Prop :=
 ∀a s,m=some (a,s)->∀(F:Hp)(O:Own)(H:Hp)(σ:St)(Q:VK),At B sl F O H σ->(∀(v:V)(F' H':Hp),Fr p F H F' H'->At B (L s) F' O H' σ->rp K (reg B F' H' md) v a->Q v H')->t σ H Q
theorem vh.ey{L:S->SL K}{m:Option (α×S)}(h:vh B p sl md te L m):Ey B sl md te L m:=λa s e F O H σ Q z k=>h a s e F O H σ Q z λv F' H' f z' r=>k v F' O H' f.ff z' r
theorem WK{A:Type}{as:A->SL K}{f:LI->A->Option (β×LI)}{ma:Option A}(i:Nat)(hs:sl[i]?=some (.nu (RL.mk (p:=p) ws)))(hh:(sl.set i .un).all (λs=>!cR s&&!jY s)=true)(h:Ea B sl .fz ta as ma) :
  vh B p sl md (Cj (Mg K as f) [] E0 (yJ (bT i) ta)) (λws'=>sl.set i (.nu (RL.mk (p:=p) ws'))) (ma.bind λa=>f ws a):=λb ws' hc F O H σ Q z k=>by
 cases ma with
 |none=>cases hc
 |some a =>
  have hc:f ws a=some (b,ws'):=hc
  obtain⟨h1,_⟩:=z.jf hs hh
  refine⟨_,h1,?_⟩
  refine h a rfl F O H σ _ z λus F' H' gr r=>?_
  obtain⟨_,h2,b0,f0,o0,ch⟩:=(z.grow gr).jf hs hh
  show Mg K as f ((.ref p::us)++[]) H' Q E0
  rw[append_nil]
  refine⟨p,ws,us,a,b,ws',F',rfl,h2,f0,gr.ok.fh,hc,r,λv H2 s2 e2 r2=>?_⟩
  have z':=ch ws'
  have s3:Same (upd H' p (.lst (ws'.map V.int))) H2:=λc o e=>by
   by_cases q:c=p
   ·subst q
    rw[zJ] at e
    rw[e2]
    exact e
   ·rw[zP q] at e
    refine s2 c o ?_
    unfold del
    rw[if_neg q]
    exact e
  have g2:=z'.1.called s3
  have VJ:Fr p F' H' F' (upd H' p (.lst (ws'.map V.int))):=⟨.refl _,λc o n e=>by rw[zP n];exact e,λ_ h _=>h⟩
  have up:upd H' p (.lst (ws'.map V.int)) p≠none:=by rw[zJ];intro q;cases q
  refine k v _ H2 ((Fr.of gr).trans (VJ.trans (.of g2) up) (by rw[h2];intro q;cases q)) (z'.grow g2) ?_
  have d:Same (dif H2 H') (dif H2 (upd H' p (.lst (ws'.map V.int)))):=λc o e=>by
   unfold dif at e ⊢
   by_cases q:c=p
   ·subst q
    rw[h2] at e
    cases e
   ·rw[zP q]
    exact e
  have r3:=Rp.mono (Kz (F:=F') z'.1.h0 s3) (Rp.mono d r2)
  exact match md with
  |.nw=>r3
  |.fz=>Rp.mono aQ r3
  |.hp=>Rp.mono (aQ.trans g2.ok.fh) r3
theorem ZR{A:Type}{as:A->SL K}{f:α×A->Option β}{ma:S->Option A}(h0:vh B p sl .hp te L m)(hL:∀s,∃(i:Nat) (ws:LI),(L s)[i]?=some (.nu (RL.mk (p:=p) ws))/\((L s).set i .un).all (λs=>!cR s&&!jY s)=true)(h:∀s,Ea B (L s) .hp ta as (ma s)) :
  vh B p sl md (Cj (cN K false (λx:α×A=>.fz false x.1::as x.2) f) [] E0 (yJ te ta)) L (m.bind λr=>(ma r.2).bind λa=>(f (r.1,a)).bind λb=>some (b,r.2)):=λc s hc F O H σ Q z k=>by
 cases m with
 |none=>cases hc
 |some r =>
  obtain⟨a,s'⟩:=r
  have hc:((ma s').bind λx=>(f (a,x)).bind λb=>some (b,s'))=some (c,s):=hc
  cases e1:ma s' with
  |none=>rw[e1] at hc;cases hc
  |some x =>
   rw[e1] at hc
   have hc:((f (a,x)).bind λb=>some (b,s'))=some (c,s):=hc
   cases e2:f (a,x) with
   |none=>rw[e2] at hc;cases hc
   |some b =>
    rw[e2] at hc
    obtain⟨rfl,rfl⟩:=ae5 (aa2 (show some (b,s')=some (c,s) from hc))
    refine h0 a s' rfl F O H σ _ z λv F1 H1 fr z1 r1=>?_
    obtain⟨i,w1,i1,i2⟩:=hL s'
    obtain⟨_,hp1,_⟩:=z1.jf i1 i2
    refine h s' x e1 F1 O H1 σ _ z1 λvs F2 H2 gr r2=>?_
    show cN K false (λx:α×A=>.fz false x.1::as x.2) f ((v::vs)++[]) H2 Q E0
    rw[append_nil]
    refine⟨(a,x),b,H2,.refl _,e2,.cons (Rp.mono gr.hh r1) r2,λv2 H3 s3 r3=>?_⟩
    have g2:=gr.ok.called s3
    refine k v2 _ H3 (fr.trans (.of (gr.trans g2)) (by rw[hp1];intro q;cases q)) (z1.grow (gr.trans g2)) ?_
    have r4:=Rp.mono (Kz (F:=F2) gr.ok.h0 s3) r3
    exact match md with
    |.nw=>r4
    |.fz=>Rp.mono aQ r4
    |.hp=>Rp.mono (aQ.trans g2.ok.fh) r4
end
def lX{α β:Type}(f:LI->α->Option (β×LI)):LI->List α->Option (List β×LI)
 |ws,[]=>some ([],ws)
 |ws,x::xs=>(f ws x).bind λr=>(lX f r.2 xs).bind λq=>some (r.1::q.1,q.2)
def Mi{α β:Type}(f:LI->α->Option (β×LI))(ws:LI)(xs:List α):Option (List β×LI):=if xs.length<cap then lX f ws xs else none
section
variable{K:PySem.W.Frag}{B:Bs}{sl:SL K}{md:Md}{α β S:Type}[Rp K α][Rp K β]{te:TE}{p:Addr}{ws:LI}{n n':Bool}
def TJ(B:Bs)(p:Addr)(sl:SL K)(md:Md)(t:TE){α S:Type}[Rp K α](L:S->SL K)(m:Option (List α×S)):Prop :=
 ∀a s,m=some (a,s)->∀(F:Hp)(O:Own)(H:Hp)(σ:St)(Q:VK),At B sl F O H σ->(∀(q:Addr)(vs:List V)(F' H':Hp),Fr p F H F' H'->At B (L s) F' O H' σ->H' q=none->A2 (rp K (reg B F' H' md)) vs a->Q (.ref q) (upd H' q (.lst vs)))->t σ H Q
theorem At.TQ{w2:LI}(z:At B sl F O H σ)(hs:sl[i]?=some (.nu (RL.mk (p:=p) ws)))(hh:(sl.set i .un).all (λs=>!cR s&&!jY s)=true)(fr:Fr p F H F2 H2)(k2:Ok B F2 [] H2)(hp:H2 p=some (.lst (w2.map V.int)))(fp:F2 p=none):At B (sl.set i (.nu (RL.mk (p:=p) w2))) F2 O H2 σ:=by
 obtain⟨h1,h2,b0,f0,o0,_⟩:=z.jf hs hh
 refine⟨⟨k2.fh,k2.h0,k2.fa,λx hx=>?_,z.1.nd⟩,?_⟩
 ·obtain⟨a1,a2,a3⟩:=z.1.fo x hx
  exact⟨fr.nw _ a1 (by rw[a3];intro q;cases q),a2,fr.hh _ _ (o0 x hx) a3⟩
 ·have e:σ.set i (some (.ref p))=σ:=by
   apply ext_getElem?
   intro j
   rw[ac9]
   split
   ·rename_i hij
    subst hij
    split
    ·exact h1.symm
    ·rename_i hlt
     rw[abq (by omega)] at h1
     cases h1
   ·rfl
  have q:=z.2.put (s':=.un) (x:=some (.ref p)) (λsl σ O h=>.un h) hs rfl
  rw[e] at q
  have q2:=(q.Tz (L':=lo F2 O H2) (H':=H2) hh).mono fr.ff (.refl _) (.refl _)
  have q3:=q2.put (s:=.un) (s':=.nu (RL.mk (p:=p) w2)) (x:=some (.ref p)) (i:=i) (λsl σ O h=>.nu (by
   refine⟨rfl,?_⟩
   rw[xW b0]
   unfold lo
   rw[if_neg,hp]
   rw[fp,acd,not_or]
   exact⟨by simp,λq=>by
    obtain⟨x,hx,ex⟩:=any_eq_true.mp q
    exact o0 x hx (by simpa using ex)⟩) h) (Qe hs) rfl
  rw[e,set_set] at q3
  exact q3
theorem zMj{jM:LI->SL K}{Lx:LI->α->SL K}{f:LI->α->Option (β×LI)}(j:Nat)(hs:sl[j]?=some (.nu (RL.mk (p:=p) ws)))(hh:(sl.set j .un).all (λs=>!cR s&&!jY s)=true)(h0:∀(F:Hp) (O:Own) (H:Hp) (σ:St),At B sl F O H σ->ak B F (lo F [] H) H (jM ws) (i_ σ no ix) [])(hi:Ei B sl n wi mi)(hg:∀ws,Tg B (jM ws) n g (Lx ws))(hc:∀ws x,Et B (Lx ws x) tc (some true))(he:∀ws x,vh B p (Lx ws x) (dF n') te (λws'=>Lx ws' x) (f ws x))(hle:∀ws x,rD (Lx ws x) (jM ws))(hI:∀ws x,∃jI,(Lx ws x)[jI]?=some (.nu (RL.mk (p:=p) ws))/\((Lx ws x).set jI .un).all (λs=>!cR s&&!jY s)=true) :
  TJ B p sl (dF n') (Kv no ix wi g tc te) (λws'=>sl.set j (.nu (RL.mk (p:=p) ws'))) (mi.bind λxs=>Mi f ws xs):=λzs wE hz F O H σ Q a k=>by
 cases mi with
 |none=>cases hz
 |some xs =>
  have hz:Mi f ws xs=some (zs,wE):=hz
  unfold Mi at hz
  split at hz
  case isFalse=>cases hz
  rename_i hcap
  have hcl:=yr hcap
  refine hi xs rfl F O H σ _ a λJ F' H' gr yl=>?_
  have a':=a.grow gr
  have zl:zs.length=xs.length:=by
   have key:∀(xs:List α)(ws:LI)(zs:List β)(wE:LI),lX f ws xs=some (zs,wE)->zs.length=xs.length:=by
    intro xs
    induction xs with
    |nil=>intro ws zs wE h;cases h;rfl
    |cons x xs ih =>
     intro ws zs wE h
     unfold lX at h
     cases e1:f ws x with
     |none=>rw[e1] at h;cases h
     |some r =>
      rw[e1] at h
      have h:((lX f r.2 xs).bind λq=>some (r.1::q.1,q.2))=some (zs,wE):=h
      cases e2:lX f r.2 xs with
      |none=>rw[e2] at h;cases h
      |some q =>
       rw[e2] at h
       cases(show some (r.1::q.1,q.2)=some (zs,wE) from h)
       rw[length_cons,length_cons,ih r.2 q.1 q.2 e2]
   exact key xs ws zs wE hz
  refine⟨λi m ys σ2 H2=>m=xs.length-i/\i<=xs.length/\∃(F2:Hp)(wi:LI)(bs cs:List β),lX f wi (xs.drop i)=some (cs,wE)/\bs++cs=zs/\bs.length=i/\Fr p F' H' F2 H2/\At B (sl.set j (.nu (RL.mk (p:=p) wi))) F2 O H2 σ/\ak B F2 (lo F2 [] H2) H2 (jM wi) σ2 []/\A2 (rp K (reg B F2 H2 (dF n'))) ys bs,
   ⟨xs.length,rfl,abj _,F',ws,[],zs,hz,rfl,rfl,.refl _ _,?_,h0 F' O H' σ a',trivial⟩,?_⟩
  ·have e:sl.set j (.nu (RL.mk (p:=p) ws))=sl:=by
    apply ext_getElem?
    intro i
    rw[ac9]
    split
    ·rename_i hij
     subst hij
     split
     ·exact hs.symm
     ·rename_i hlt
      rw[abq (by omega)] at hs
      cases hs
    ·rfl
   rw[e]
   exact a'
  rintro i m ys σ2 H2 ⟨rfl,hil,F2,wi,bs,cs,hw,ez,bl,ZS,at2,s2,r2⟩
  have hyl:ys.length=i:=by rw[r2.len,bl]
  obtain⟨y1,y2⟩:=yl i F2 O H2 ZS.ff at2.1
  by_cases hlt:i<xs.length
  ·obtain⟨go,y3⟩:=y2 xs[i] (aaz hlt)
   rw[List.drop_eq_getElem_cons hlt] at hw
   unfold lX at hw
   cases e1:f wi xs[i] with
   |none=>rw[e1] at hw;cases hw
   |some r =>
    rw[e1] at hw
    have hw:((lX f r.2 (xs.drop (i+1))).bind λq=>some (r.1::q.1,q.2))=some (cs,wE):=hw
    cases e2:lX f r.2 (xs.drop (i+1)) with
    |none=>rw[e2] at hw;cases hw
    |some q =>
     rw[e2] at hw
     obtain⟨y,w2⟩:=r
     obtain⟨cs',wE'⟩:=q
     obtain⟨rfl,rfl⟩:=ae5 (aa2 (show some (y::cs',wE')=some (cs,wE) from hw))
     refine .inr ⟨go,by omega,λys' σ' H4=>∃(F4:Hp),Fr p F' H' F4 H4/\At B (sl.set j (.nu (RL.mk (p:=p) w2))) F4 O H4 σ/\ak B F4 (lo F4 [] H4) H4 (jM w2) σ' []/\A2 (rp K (reg B F4 H4 (dF n'))) ys' (bs++[y]),λys' σ' H4 ⟨F4,z1,z2,z3,z4⟩=>⟨xs.length-(i+1),by omega,rfl,hlt,F4,w2,bs++[y],cs',e2,by rw[append_assoc];exact ez,by rw[length_append,bl];rfl,z1,z2,z3,z4⟩,λv H3 yd=>?_⟩
     obtain⟨F3,g3,r3⟩:=y3 v H3 yd
     have TV:=at2.grow g3
     have Pk:At B (jM wi) F3 [] H3 σ2:=⟨g3.ok.nil,s2.mono g3.ff (YC ⟨g3.ff,g3.hh,g3.ok.nil,g3.nw⟩) g3.hh⟩
     refine hg wi v xs[i] F3 [] H3 σ2 _ Pk r3 λσ4 a4=>?_
     refine hc wi xs[i] true rfl F3 [] H3 σ4 _ a4 λF5 H5 g5=>ig ?_
     have g5':=bH.lift g3.ok g5
     have at5:=TV.grow g5'
     refine he wi xs[i] y w2 e1 F5 [] H5 σ4 _ (a4.grow g5) λu F6 H6 ZV a6 r6=>?_
     obtain⟨_,WL,b5,f5,o5,ch5⟩:=at5.jf (Qe hs) (by rw[set_set];exact hh)
     obtain⟨jI,i1,i2⟩:=hI w2 xs[i]
     obtain⟨_,ZW,_,f6,_⟩:=a6.jf i1 i2
     obtain⟨_,hp2,_⟩:=at2.jf (Qe hs) (by rw[set_set];exact hh)
     obtain⟨_,hp3,_⟩:=TV.jf (Qe hs) (by rw[set_set];exact hh)
     have nn:∀{H:Hp}{w:LI},H p=some (.lst (w.map V.int))->H p≠none:=λe=>by rw[e];intro z;cases z
     have at6:=at5.TQ (Qe hs) (by rw[set_set];exact hh) ZV a6.1 ZW f6
     rw[set_set] at at6
     exact⟨F6,ZS.trans ((Fr.of g3).trans ((Fr.of g5').trans ZV (nn WL)) (nn hp3)) (nn hp2),at6,a6.2.le0 (hle w2 xs[i]),(r2.imp λ_ _=>Rp.mono (xT _ (g3.ff.trans (g5.ff.trans ZV.ff)))).snoc r6⟩
  ·have e:i=xs.length:=by omega
   subst e
   rw[List.drop_length] at hw
   cases(show some (([]:List β),wi)=some (cs,wE) from hw)
   rw[append_nil] at ez
   subst ez
   exact .inl ⟨y1 (aa0 _),by omega,λq hq=>k q ys F2 H2 ((Fr.of gr).trans ZS (by
    obtain⟨_,h2,_⟩:=a'.jf hs hh
    rw[h2];intro q;cases q)) at2 hq r2⟩
end
section
variable{K:PySem.W.Frag}{B:Bs}{sl:SL K}{md:Md}{α β S:Type}[Rp K α][Rp K β]{te t1 t2:TE}{p:Addr}
theorem TJ.eyn{L:S->SL K}{m:Option (List α×S)}(hL:∀s,∃(i:Nat) (ws:LI),(L s)[i]?=some (.nu (RL.mk (p:=p) ws))/\((L s).set i .un).all (λs=>!cR s&&!jY s)=true)(h:TJ B p sl md te L m):vh B p sl md te L m:=λa s e F O H σ Q z k=>h a s e F O H σ Q z λq vs F' H' fr z' hq r=>by
 have g2:=bH.new z'.1 hq (.lst vs)
 obtain⟨i,w1,i1,i2⟩:=hL s
 obtain⟨_,hp1,_⟩:=z'.jf i1 i2
 exact k _ _ _ (fr.trans (.of g2) (by rw[hp1];intro q;cases q)) (z'.grow g2) ⟨q,vs,rfl,KH z'.1 hq md,r.imp λ_ _=>Rp.mono (xU g2 md)⟩
theorem zUq{n:Bool}{L:S->SL K}{m1:Option α}{m2:Option (β×S)}{i:Nat}{ws:LI}(hs:sl[i]?=some (.nu (RL.mk (p:=p) ws)))(hh:(sl.set i .un).all (λs=>!cR s&&!jY s)=true)(hL:∀s,∃(i:Nat) (ws:LI),(L s)[i]?=some (.nu (RL.mk (p:=p) ws))/\((L s).set i .un).all (λs=>!cR s&&!jY s)=true)(h1:Ex B sl (dF n) t1 m1)(h2:vh B p sl (dF n) t2 L m2):vh B p sl (dF n) (uh (yJ t1 (yJ t2 bh))) L (m1.bind λa=>m2.bind λr=>some ((a,r.1),r.2)):=λc s hc F O H σ Q z k=>by
 cases m1 with
 |none=>cases hc
 |some a =>
  cases m2 with
  |none=>cases hc
  |some r =>
   obtain⟨b,s'⟩:=r
   obtain⟨rfl,rfl⟩:=ae5 (aa2 (show some ((a,b),s')=some (c,s) from hc))
   refine h1 a rfl F O H σ _ z λv F1 H1 g r1=>?_
   obtain⟨_,hp1,_⟩:=(z.grow g).jf hs hh
   refine h2 b s' rfl F1 O H1 σ _ (z.grow g) λw F2 H2 fr z2 r2=>?_
   obtain⟨i',w1,i1,i2⟩:=hL s'
   obtain⟨_,hp2,_⟩:=z2.jf i1 i2
   refine⟨by show 2<=sizeLine;decide,λq hq=>?_⟩
   have g3:=bH.new z2.1 hq (.tup [v,w])
   exact k _ _ _ ((Fr.of g).trans (fr.trans (.of g3) (by rw[hp2];intro q;cases q)) (by rw[hp1];intro q;cases q)) (z2.grow g3) ⟨q,v,w,rfl,KH z2.1 hq _,Rp.mono (xT _ (fr.ff.trans g3.ff)) r1,Rp.mono (xT _ g3.ff) r2⟩
theorem zNd{L:S->SL K}(i:Nat)(hs:sl[i]?=some (.ow n xs))(hh:sl.all (λs=>!cR s)=true)(hL:∀s,(L s)[i]?=some (.ow n xs)/\(L s).all (λs=>!cR s)=true)(h:vh B p sl (dF n) te L m) :
  Sn B sl (JL (Kq K "list" Yi (bT i) (yJ te bh))) (λr:List α×S=>(L r.2).set i (.ow n r.1)) (m.bind λr=>(push xs r.1).bind λys=>some (ys,r.2)):=λys ha G D σ H s k=>by
 cases m with
 |none=>cases ha
 |some r =>
  obtain⟨a,s'⟩:=r
  have ha:((push xs a).bind λys=>some (ys,s'))=some ys:=ha
  cases e1:push xs a with
  |none=>rw[e1] at ha;cases ha
  |some ys' =>
   rw[e1] at ha
   cases(show some (ys',s')=some ys from ha)
   unfold push at e1
   split at e1
   case isFalse=>cases e1
   rename_i hl
   cases e1
   obtain⟨F,O,g,z⟩:=s
   obtain⟨q,vs,h1,h2,h3,_⟩:=z.chg hs hh
   refine⟨_,h1,.inl ⟨rfl,_,aO.of h2⟩,?_⟩
   refine h a s' rfl F O H σ _ z λv F' H' fr z' r=>?_
   obtain⟨q',vs',h1',h2',h3',h4'⟩:=z'.chg (hL s').1 (hL s').2
   cases h1.symm.trans h1'
   obtain⟨O',z2⟩:=h4' (vs'++[v]) (xs++[a]) (h3'.snoc r)
   exact⟨q,vs',v,rfl,rfl,h2',yr (by rw[h3'.len];exact hl),k _ _ ⟨F',O',g.trans fr.ff,z2⟩⟩
end
section
variable{K:PySem.W.Frag}{B:Bs}{sl:SL K}{F H:Hp}{O:Own}{σ:St}
abbrev TX:Slot K->Slot K
 |@Slot.fz _ n _ i a=>@Slot.fz _ n _ i a
 |@Slot.nu _ _ i a=>@Slot.nu _ _ i a
 |_=>.un
theorem Mj:Same (lo F O H) (lo F [] H):=λb o h=>by
 unfold lo at h ⊢
 split at h
 case isTrue=>cases h
 rename_i e
 rw[if_neg]
 ·exact h
 ·intro q
  apply e
  rw[acd] at q ⊢
  rcases q with q|q
  ·exact .inl q
  ·simp at q
theorem ak.ZX(a:At B sl F O H σ)(j:Nat)(hs:sl[j]?=some s):∀{sl':SL K}{σ':St},ak B F (lo F [] H) H sl' σ' []->ak B F (lo F [] H) H (TX s::sl') ((σ[j]?).getD none::σ') []:=λ{sl' σ'} h=>by
 cases s with
 |un=>exact .un h
 |fz n b=>obtain⟨v,h1,h2⟩:=a.2.qJ hs;rw[h1];exact .fz h2 h
 |hs b=>exact .un h
 |nu b=>obtain⟨v,h1,h2⟩:=a.2.Ao hs;rw[h1];exact .nu (Rp.mono (yR Mj) h2) h
 |ow n xs=>exact .un h
 |od kvs=>exact .un h
def Bc(sl:SL K)(n:Nat)(ix:List Nat):SL K:=replicate n .un++ix.map λj=>TX ((sl[j]?).getD .un)
theorem zTi(a:At B sl F O H σ)(n:Nat):∀(ix:List Nat),(∀j∈ix,j<sl.length)->ak B F (lo F [] H) H (Bc sl n ix) (i_ σ n ix) []:=λix hix=>by
 unfold Bc i_
 induction n with
 |zero =>
  show ak B F _ H ([]++_) ([]++_) []
  rw[nil_append,nil_append]
  induction ix with
  |nil=>exact .nil
  |cons j ix ih =>
   rw[map_cons,map_cons]
   have hl:=hix j mem_cons_self
   have hj:sl[j]?=some sl[j]:=aaz hl
   have z:=ak.ZX a j hj (ih λk hk=>hix k (mem_cons_of_mem _ hk))
   rw[show(sl[j]?).getD .un=sl[j] by rw[hj]<;>rfl]
   exact z
 |succ n ih=>exact .un ih
theorem zWa{ix:List Nat}(hix:(ix.all λj=>decide (j<sl.length))=true)(hI:jM=Bc sl no ix):∀(F:Hp)(O:Own)(H:Hp)(σ:St),At B sl F O H σ->ak B F (lo F [] H) H jM (i_ σ no ix) []:=λF O H σ a=>by
 rw[hI]
 exact zTi a no ix λj hj=>by simpa using(all_eq_true.mp hix) j hj
end
structure IK(α β γ:Type) where
 a:α
 b:β
 c:γ
section
variable{K:PySem.W.Frag}{B:Bs}{sl:SL K}{md:Md}{n:Bool}{α β γ S:Type}[Rp K α][Rp K β][Rp K γ]{te t1 t2 t3:TE}
instance:Rp K (IK α β γ):=⟨λF v x=>∃p u w z,v=.ref p/\F p=some (.tup [u,w,z])/\rp K F u x.a/\rp K F w x.b/\rp K F z x.c,λs ⟨p,u,w,z,h1,h2,h3,h4,h5⟩=>⟨p,u,w,z,h1,s _ _ h2,Rp.mono s h3,Rp.mono s h4,Rp.mono s h5⟩⟩
instance:Nn K (IK α β γ):=⟨λ⟨_,_,_,_,h,_⟩=>by rw[h];intro e;cases e⟩
theorem Gb{m1:Option α}{m2:Option β}{m3:Option γ}(h1:Ex B sl md t1 m1)(h2:Ex B sl md t2 m2)(h3:Ex B sl md t3 m3):Ex B sl md (uh (yJ t1 (yJ t2 (yJ t3 bh)))) (m1.bind λa=>m2.bind λb=>m3.bind λc=>some (IK.mk a b c)):=λd hd F O H σ Q s kk=>by
 cases m1 with
 |none=>cases hd
 |some a =>
  cases m2 with
  |none=>cases hd
  |some b =>
   cases m3 with
   |none=>cases hd
   |some c =>
    cases(show some (IK.mk a b c)=some d from hd)
    refine h1 a rfl F O H σ _ s λv F1 H1 g1 r1=>?_
    refine h2 b rfl F1 O H1 σ _ (s.grow g1) λw F2 H2 g2 r2=>?_
    refine h3 c rfl F2 O H2 σ _ ((s.grow g1).grow g2) λu F3 H3 g3 r3=>?_
    refine⟨by show 3<=sizeLine;decide,λp hp=>?_⟩
    have g4:=bH.new g3.ok hp (.tup [v,w,u])
    exact kk _ _ _ (g1.trans (g2.trans (g3.trans g4))) ⟨p,v,w,u,rfl,KH g3.ok hp md,Rp.mono (xU (g2.trans (g3.trans g4)) md) r1,Rp.mono (xU (g3.trans g4) md) r2,Rp.mono (xU g4 md) r3⟩
theorem Gd(i j l:Nat)(hs:sl[i]?=some s)(ho:jc s=false)(hs':∀x:Slot K,(sl.set i x)[j]?=some s')(ho':jc s'=false)(hs2:∀x y:Slot K,((sl.set i x).set j y)[l]?=some s2)(ho2:jc s2=false) :
  Tg B sl n (Di K 3 (OJ (uV i) (OJ (uV j) (OJ (uV l) JQ)))) (λx:IK α β γ=>((sl.set i (.fz n x.a)).set j (.fz n x.b)).set l (.fz n x.c)):=λv x F O H σ Q a r k=>by
 obtain⟨p,w1,w2,w3,rfl,h1,h2,h3,h4⟩:=r
 refine⟨p,[w1,w2,w3],rfl,.inl (.inl (zO4 a.1 h1)),rfl,w1,[w2,w3],rfl,w2,[w3],rfl,w3,[],rfl,rfl,?_⟩
 exact k _ ⟨a.1,((a.2.put (s':=.fz n x.a) (λ_ _ _ z=>.fz h2 z) hs ho).put (s':=.fz n x.b) (λ_ _ _ z=>.fz h3 z) (hs' _) ho').put (λ_ _ _ z=>.fz h4 z) (hs2 _ _) ho2⟩
theorem Ml{L2:S->α->SL K}(h:Ey B sl (dF n) te L m)(hg:∀s,Tg B (L s) n g (L2 s)):Sn B sl (lR te g) (λr:α×S=>L2 r.2 r.1) m:=λa ha G D σ H s k=>by
 obtain⟨F,O,g0,z⟩:=s
 exact h a.1 a.2 ha F O H σ _ z λv F' O' H' sf z' r=>hg a.2 v a.1 F' O' H' σ _ z' r λσ' z2=>k _ _ ⟨F',O',g0.trans sf,z2⟩
end
section
variable{K:PySem.W.Frag}{B:Bs}{sl:SL K}{md:Md}{te:TE}
theorem Mp{mi:Option LI}(h:Ex B sl .hp te mi):Eo B sl md (Kv 1 [] (Ba K (yJ te bh)) (uV 0) rT (bT 0)) (mi.bind λus=>if us.length<cap then some us.reverse else none):=λzs hz F O H σ Q a k=>by
 cases mi with
 |none=>cases hz
 |some us =>
  have hz:(if us.length<cap then some us.reverse else none)=some zs:=hz
  split at hz
  case isFalse=>cases hz
  rename_i hcap
  cases hz
  refine h us rfl F O H σ _ a λv F' H' gr r=>?_
  obtain⟨p,vs,rfl,h1,h2⟩:=r
  have h1:H' p=some (.lst vs):=h1
  have ev:vs=us.map V.int:=A2.kI h2
  have hl:vs.length=us.length:=h2.len
  refine⟨p,vs,rfl,aO.of h1,zMl (xs:=vs) (λi ys σ2 H2=>H2=H'/\(∃v,σ2=[v])/\ys=vs.reverse.take i) ⟨rfl,⟨none,rfl⟩,rfl⟩ (λi ys σ2 H2 hi ⟨e1,_,e2⟩=>?_) (by rw[hl];exact yr hcap) (λi x ys σ2 H2 hx hi ⟨e1,⟨v,e2⟩,e3⟩=>?_) (λys σ2 H2 ⟨e1,_,e3⟩ q hq=>?_)⟩
  ·subst e1
   exact⟨aO.of h1,by rw[e2,length_take];exact Nat.min_le_left _ _⟩
  ·subst e1
   subst e2
   subst e3
   refine(ig ?_:if true=true then _ else bT 0 [some x] H2 (λ_ _=>False))
   refine⟨x,rfl,rfl,⟨some x,rfl⟩,?_⟩
   rw[take_add_one,List.getElem?_reverse hi,hx]
   rfl
  ·subst e1
   subst e3
   refine k q _ F' H2 gr hq ?_
   rw[<-length_reverse,take_length,ev]
   exact(A2.of_map (R:=rp K (reg B F' H2 md)) (f:=V.int) (λ_=>rfl) us).rev
end
def Mq(us:LI):Option LI:=if us.length<cap then some us.reverse else none
section
variable{K:PySem.W.Frag}{B:Bs}{sl sl2:SL K}{md:Md}{te:TE}{t:TS}{β:Type}[Rp K β]{p:Addr}
theorem zMi{m:Option Ky}{mi:Option Int}{ti:TE}(h:Ex B sl .hp te m)(hi:Ex B sl .hp ti mi):Eo B sl md (Vy (DK K) te Vw (Vx ti)) (m.bind λxs=>mi.bind λi=>some (oV xs.ns none (some i))):=λc hc F O H σ Q s k=>by
 obtain⟨xs,i,hx,hi',hc⟩:=pZ hc
 cases hc
 refine h xs hx F O H σ _ s λv F' H' g r=>?_
 refine hi i hi' F' O H' σ _ (s.grow g) λu F2 H2 g2 r2=>?_
 have r2:u=.int i:=r2
 obtain⟨p,rfl,z1⟩:=r
 exact⟨i,r2,p,xs.ns.map V.int,rfl,g2.hh.seq z1,λl hl=>k l _ F2 H2 (g.trans g2) hl ((A2.of_map (R:=rp K (reg B F2 H2 md)) (f:=V.int) (λ_=>rfl) xs.ns).cut _ _)⟩
theorem Ge(h:Ex B sl .hp te mi):Eo B sl md (Kv 1 [] (Ba K (yJ te bh)) (uV 0) rT (bT 0)) (mi.bind λus=>Mq us):=Mp h
theorem zV4(K:PySem.W.Frag){X:Cx}(hm:X.mg "reversed" = none)(ha:PA X [a] ta)(h:X.K=K:=by rfl)(hg:Gl X "reversed":=by rfl)(hs:starEach [a] X.env=[(false,eval a X.env)]:=by rfl):PI X tg (.Call (.Name "reversed" q) [a] [] pos) (Ba K ta):=by subst h;exact L_ hg hm ha hs
theorem Gf{m:Option (β×LI)}(l:Le sl sl2)(h:qR B p sl2 t m):qR B p sl t m:=λa w ha G D σ H q k=>h a w ha G D σ H (q.le l) k
theorem Mr{m:Option (β×LI)}(sl2:SL K)(h:qR B p sl2 t m)(e:sl=sl2:=by rfl):qR B p sl t m:=e▸h
end
section
variable{K:PySem.W.Frag}{B:Bs}{sl:SL K}{F H:Hp}{O:Own}{σ:St}{t u:TS}{al:Bool}{α β S A A1 A2:Type}[Rp K α][Rp K β]{b:β}
def SnA(B:Bs)(sl:SL K)(t:TS){S:Type}(L:S->SL K)(P:S->Prop):Prop :=
 ∀(G:Hp)(D:Ends)(σ:St)(H:Hp),Sg B G sl σ H->(∀s,P s->∀σ' H',Sg B G (L s) σ' H'->D.nx σ' H')->t D σ H
def yw(B:Bs)(sl:SL K)(t:TS)(al:Bool){β A:Type}[Rp K β](m:A->Option β)(P:A->Prop)(b:β):Prop :=
 (∃a,P a)->(∀a,P a->m a=some b)->∀(G:Hp)(D:Ends)(σ:St)(H:Hp),Sg B G sl σ H->(∀v H',Rt K B al b v H'->D.rt v H')->t D σ H
theorem Gg(h:SB B sl t al m):yw B sl t al (λ_:Unit=>m) (λ_=>True) b:=λ_ hm G D σ H q k=>h b (hm () trivial) G D σ H q k
theorem Z0{f:S->A->Option β}(h1:Sn B sl t L m1)(h2:∀s,yw B (L s) u al (f s) P b):yw B sl (iZ t u) al (λa=>m1.bind λs=>f s a) P b:=λne hm G D σ H q k=>by
 cases m1 with
 |none=>obtain⟨a,ha⟩:=ne;cases hm a ha
 |some s=>exact h1 s rfl G _ σ H q λσ' H' q'=>h2 s ne (λa ha=>hm a ha) G D σ' H' q' k
theorem Gh{g:A1->A2->Option β}(h1:SnA B sl t L P1)(h2:∀s,yw B (L s) u al (g s) P2 b):yw B sl (iZ t u) al (λa:A1×A2=>g a.1 a.2) (λa=>P1 a.1/\P2 a.2) b:=λne hm G D σ H q k =>
 h1 G _ σ H q λs hs σ' H' q'=>h2 s (by obtain⟨a,_,ha⟩:=ne;exact⟨a.2,ha⟩) (λa ha=>hm (s,a) ⟨hs,ha⟩) G D σ' H' q' k
theorem WM(sl2:SL K)(h:yw B sl2 t al m P b)(e:sl=sl2:=by rfl):yw B sl t al m P b:=e▸h
theorem yw.sb(h:yw B sl t al m P b)(ne:∃a,P a)(hm:∀a,P a->m a=some b):SB B sl t al (some b):=λc hc G D σ H q k=>by
 cases hc
 exact h ne hm G D σ H q k
theorem Z1{n:Bool}{t1 t2:TE}{m1 m2:Option (List α)}(h1:Ex B sl (dF n) t1 m1)(h2:Ex B sl (dF n) t2 m2):Eo B sl (dF n) (jR Rj t1 t2) (m1.bind λa=>m2.bind λb=>mR a b):=λc hc F O H σ Q s k=>by
 obtain⟨xs,ys,hx,hy,hc⟩:=pZ hc
 unfold mR at hc
 split at hc
 case isFalse=>cases hc
 rename_i hl
 cases hc
 refine h1 xs hx F O H σ _ s λv F' H' g r=>?_
 refine h2 ys hy F' O H' σ _ (s.grow g) λu F2 H2 g2 r2=>?_
 obtain⟨p,vs,rfl,z1,z2⟩:=r
 obtain⟨q,ws,rfl,z3,z4⟩:=r2
 refine⟨p,q,vs,ws,rfl,rfl,g2.hh _ _ (yq g.ok n _ _ z1),yq g2.ok n _ _ z3,?_,λl hl'=>k l _ F2 H2 (g.trans g2) hl' ((z2.imp λ_ _=>Rp.mono (xT n g2.ff)).app z4)⟩
 rw[z2.len,z4.len]
 exact zWc hl
end
end Ts
namespace Sy
open PySem L2 Ts
inductive aY(H:Hp):V->Tr->Prop where
 |all {a:Addr}:H a=some (.tup [.str "all"])->aY H (.ref a) .all
 |mark {a:Addr} {x:Str}:H a=some (.tup [.str "mark",.str x])->aY H (.ref a) (.mark x)
 |one {a:Addr} {i:Fin 7} {v:V} {t:Tr}:H a=some (.tup [.str (w1 i),v])->aY H v t->aY H (.ref a) (.one i t)
 |two {a:Addr} {i:Fin 4} {v u:V} {l r:Tr}:H a=some (.tup [.str (w2 i),v,u])->aY H v l->aY H u r->aY H (.ref a) (.two i l r)
theorem aY.mono(h:aY H v t)(k:∀a xs,H a=some (.tup xs)->H' a=some (.tup xs)):aY H' v t:=by
 induction h with
 |all h=>exact .all (k _ _ h)
 |mark h=>exact .mark (k _ _ h)
 |one h _ ih=>exact .one (k _ _ h) ih
 |two h _ _ ih1 ih2=>exact .two (k _ _ h) ih1 ih2
theorem aY.same(h:aY H v t)(s:Same H H'):aY H' v t:=h.mono λa xs e=>s a _ e
theorem aY.kp(h:aY H v t)(hp:H p=some (.lst xs))(k:Kp p H H'):aY H' v t:=h.mono λa ys e=>k a _ (Hq e hp (by intro z;cases z)) e
inductive Itm where
 |s (x:Str)
 |t (t:Tr)
def items:Tr->List Itm
 |.all=>[.s "all"]
 |.mark x=>[.s "mark",.s x]
 |.one i t=>[.s (w1 i),.t t]
 |.two i l r=>[.s (w2 i),.t l,.t r]
theorem zVd:∀i j:Fin 7,w1 i=w1 j->i=j:=by decide +kernel
theorem zVc:∀i j:Fin 4,w2 i=w2 j->i=j:=by decide +kernel
theorem WQ:∀i:Fin 7,¬w1 i = "mark":=by decide +kernel
theorem Ms:∀i:Fin 7,¬w1 i = "all":=by decide +kernel
theorem zOw:∀i:Fin 4,¬w2 i = "mark":=by decide +kernel
theorem Mt:∀i:Fin 4,¬w2 i = "all":=by decide +kernel
theorem zL4:¬(("mark":Str) = "all"):=by decide +kernel
theorem zQ3:∀{t u:Tr},items t=items u->t=u
 |.all,.all,_=>rfl
 |.all,.mark _,h=>by simp[items] at h
 |.all,.one _ _,h=>by simp[items] at h
 |.all,.two _ _ _,h=>by simp[items] at h
 |.mark _,.all,h=>by simp[items] at h
 |.mark x,.mark y,h=>by
  simp[items] at h
  rw[h]
 |.mark _,.one i t,h=>by simp[items] at h
 |.mark _,.two _ _ _,h=>by simp[items] at h
 |.one _ _,.all,h=>by simp[items] at h
 |.one i t,.mark _,h=>by simp[items] at h
 |.one i t,.one j u,h=>by
  simp[items] at h
  rw[zVd i j h.1,h.2]
 |.one _ _,.two _ _ _,h=>by simp[items] at h
 |.two _ _ _,.all,h=>by simp[items] at h
 |.two _ _ _,.mark _,h=>by simp[items] at h
 |.two _ _ _,.one _ _,h=>by simp[items] at h
 |.two i l r,.two j l' r',h=>by
  simp[items] at h
  rw[zVc i j h.1,h.2.1,h.2.2]
def Z2(H:Hp)(x:V):Itm->Prop
 |.s y=>x=.str y
 |.t t=>aY H x t
theorem aY.items(h:aY H v t):∃a xs,v=.ref a/\H a=some (.tup xs)/\Paired (Z2 H) xs (items t):=by
 cases h with
 |all h=>exact⟨_,_,rfl,h,.cons rfl .nil⟩
 |mark h=>exact⟨_,_,rfl,h,.cons rfl (.cons rfl .nil)⟩
 |one h h1=>exact⟨_,_,rfl,h,.cons rfl (.cons h1 .nil)⟩
 |two h h1 h2=>exact⟨_,_,rfl,h,.cons rfl (.cons h1 (.cons h2 .nil))⟩
theorem TY{α β:Type}{F:α->β->Prop}:∀{l₁:List α}{l₂:List β}{j:Nat}{x:α},Paired F l₁ l₂->l₁[j]?=some x->∃y,l₂[j]?=some y/\F x y
 |_,_,_,_,.nil,e=>by simp at e
 |_,_,0,_,.cons r _,e=>by simp at e;subst e;exact⟨_,rfl,r⟩
 |_,_,j+1,x,.cons _ t,e=>by
  obtain⟨u,h1,h2⟩:=TY (j:=j) (x:=x) t (by simpa using e)
  exact⟨u,by simpa using h1,h2⟩
theorem zOe(h:Itm.t u∈items t):u.depth<t.depth:=by
 cases t with
 |all=>simp[items] at h
 |mark x=>simp[items] at h
 |one i t=>simp[items] at h;subst h;exact acv _
 |two i l r =>
  simp[items] at h
  rcases h with rfl|rfl
  ·show _<max _ _+1;omega
  ·show _<max _ _+1;omega
theorem aY.inj:∀{t u:Tr},aY H v t->aY H v u->t=u:=by
 intro t u h
 induction h generalizing u with
 |all h =>
  intro h'
  cases h' with
  |all _=>rfl
  |mark h2=>rw[h] at h2;simp at h2
  |one h2 _=>rw[h] at h2;simp at h2
  |two h2 _ _=>rw[h] at h2;simp at h2
 |mark h =>
  intro h'
  cases h' with
  |all h2=>rw[h] at h2;simp at h2
  |mark h2=>rw[h] at h2;simp at h2;rw[h2]
  |one h2 _=>rw[h] at h2;simp at h2;exact absurd h2.1.symm (WQ _)
  |two h2 _ _=>rw[h] at h2;simp at h2
 |one h h1 ih =>
  intro h'
  cases h' with
  |all h2=>rw[h] at h2;simp at h2
  |mark h2=>rw[h] at h2;simp at h2;exact absurd h2.1 (WQ _)
  |one h2 h3 =>
   rw[h] at h2
   simp at h2
   obtain⟨e1,e2⟩:=h2
   subst e2
   rw[zVd _ _ e1,ih h3]
  |two h2 _ _=>rw[h] at h2;simp at h2
 |two h h1 h2 ih1 ih2 =>
  intro h'
  cases h' with
  |all h2=>rw[h] at h2;simp at h2
  |mark h2=>rw[h] at h2;simp at h2
  |one h2 _=>rw[h] at h2;simp at h2
  |two h3 h4 h5 =>
   rw[h] at h3
   simp at h3
   obtain⟨e1,e2,e3⟩:=h3
   subst e2 e3
   rw[zVc _ _ e1,ih1 h4,ih2 h5]
theorem vm{α:Type}{l m:List α}(h:l.length=m.length)(k:∀j,j<l.length->l[j]?=m[j]?):l=m:=by
 refine ext_getElem? λj=>?_
 by_cases hj:j<l.length
 ·exact k j hj
 ·rw[getElem?_eq_none_iff.mpr (by omega),getElem?_eq_none_iff.mpr (by omega)]
theorem IV(s:Shared)(ok:gQ P w H s.heap)(n:Nat)(ih:∀(t u:Tr) (A:Around) (v1 v2:V) (x1 x2:Value),t.depth<n->A.units+n<cLine->aY H v1 t->aY H v2 u->RelV v1 x1->RelV v2 x2->∃b,aes A s x1 x2 b/\(b=true->t=u))(t u:Tr)(A:Around)(a1 a2:Addr)(hd:t.depth<n+1)(hu:A.units+(n+1)<cLine)(h1:aY H (.ref a1) t)(h2:aY H (.ref a2) u):∃b,SeqAt.RcAt A s (.ref a1) (.ref a2) b/\(b=true->t=u):=by
 obtain⟨_,xs1,q1,e1,p1⟩:=h1.items
 obtain⟨_,xs2,q2,e2,p2⟩:=h2.items
 cases q1
 cases q2
 obtain⟨z1,IW,Aj,T1⟩:=ok a1 _ e1
 obtain⟨z2,I8,Qc,T2⟩:=ok a2 _ e2
 have l1:=Aj.length
 have l2:=Qc.length
 have m1:=p1.length
 have m2:=p2.length
 have it:∀j:Nat,∃b:Bool,(∀(k1:j<IW.toArray.size)(k2:j<I8.toArray.size),aes A.in1 s IW.toArray[j] I8.toArray[j] b)/\(b=true->j<IW.length->j<I8.length->(items t)[j]?=(items u)[j]?):=λj=>by
  by_cases k1:j<IW.length
  ·by_cases k2:j<I8.length
   ·have g1:xs1[j]?=some (xs1[j]'(by omega)):=aaz (by omega)
    have g2:xs2[j]?=some (xs2[j]'(by omega)):=aaz (by omega)
    obtain⟨y1,hy1,Qf⟩:=Aj.get g1
    obtain⟨y2,hy2,Mu⟩:=Qc.get g2
    obtain⟨i1,hi1,f1⟩:=TY p1 g1
    obtain⟨i2,hi2,f2⟩:=TY p2 g2
    have q1:IW[j]=y1:=aa2 ((aaz k1).symm.trans hy1)
    have q2:I8[j]=y2:=aa2 ((aaz k2).symm.trans hy2)
    rw[hi1,hi2]
    have fin:∀b,aes A.in1 s y1 y2 b->∀(k1:j<IW.toArray.size)(k2:j<I8.toArray.size),aes A.in1 s IW.toArray[j] I8.toArray[j] b:=λb hb _ _=>by
     simp only[List.getElem_toArray,q1,q2]
     exact hb
    have hu1:A.in1.units+n<cLine:=by show A.units+1+n<cLine;omega
    cases i1 with
    |s c1 =>
     have f1':xs1[j]'(by omega)=.str c1:=f1
     rw[f1'] at Qf
     cases i2 with
     |s c2 =>
      have Z4:xs2[j]'(by omega)=.str c2:=f2
      rw[Z4] at Mu
      refine⟨Cm (.str c1) (.str c2),fin _ (zV9 Qf Mu rfl rfl),λhb _ _=>?_⟩
      rw[ab7 (show(c1==c2)=true from hb)]
     |t c2 =>
      obtain⟨a,ys,e,ea,pa⟩:=aY.items f2
      rw[e] at Mu
      cases Mu
      obtain⟨tk,rfl⟩:=Qf
      obtain⟨_,_,_,Ta⟩:=ok a _ ea
      exact⟨false,fin _ (SeqAt.EqAt.str_tuple c1 tk (show s.heap.IsTuple a _ from Ta) (by omega)),λhb=>by cases hb⟩
    |t c1 =>
     cases i2 with
     |s c2 =>
      have Z4:xs2[j]'(by omega)=.str c2:=f2
      rw[Z4] at Mu
      obtain⟨a,ys,e,ea,pa⟩:=aY.items f1
      rw[e] at Qf
      cases Qf
      obtain⟨tk,rfl⟩:=Mu
      obtain⟨_,_,_,Ta⟩:=ok a _ ea
      exact⟨false,fin _ (SeqAt.EqAt.tuple_str c2 tk (show s.heap.IsTuple a _ from Ta) (by omega)),λhb=>by cases hb⟩
     |t c2 =>
      have dlt:c1.depth<n:=by
       have:=zOe (mem_of_getElem? hi1)
       omega
      obtain⟨b,hb,hb2⟩:=ih c1 c2 A.in1 _ _ y1 y2 dlt hu1 f1 f2 Qf Mu
      exact⟨b,fin _ hb,λhbt _ _=>by rw[hb2 hbt]⟩
   ·exact⟨false,λ_ k=>absurd (by simpa using k) k2,λhb=>by cases hb⟩
  ·exact⟨false,λk _=>absurd (by simpa using k) k1,λhb=>by cases hb⟩
 obtain⟨e,he⟩:=Classical.axiomOfChoice it
 refine⟨_,SeqAt.RcAt.tuples (show s.heap.IsTuple a1 _ from T1) (show s.heap.IsTuple a2 _ from T2) (by omega) (e:=e) (λj k1 k2=>(he j).1 k1 k2),λhb=>?_⟩
 rw[aa1] at hb
 obtain⟨hb1,hb2⟩:=hb
 have hs:IW.length=I8.length:=by simpa using hb2
 rw[all_eq_true] at hb1
 refine zQ3 (vm (by omega) λj hj=>?_)
 refine(he j).2 (hb1 j ?_) (by omega) (by omega)
 rw[mem_range]
 simp
 omega
theorem I9(s:Shared)(ok:gQ P w H s.heap):∀(n:Nat)(t u:Tr)(A:Around)(v1 v2:V)(x1 x2:Value),t.depth<n->A.units+n<cLine->aY H v1 t->aY H v2 u->RelV v1 x1->RelV v2 x2 ->
  ∃b,aes A s x1 x2 b/\(b=true->t=u)
 |0,_,_,_,_,_,_,_,h,_,_,_,_,_=>absurd h (acr _)
 |n+1,t,u,A,v1,v2,x1,x2,hd,hu,h1,h2,r1,r2=>by
  obtain⟨a1,xs1,rfl,e1,p1⟩:=h1.items
  obtain⟨a2,xs2,rfl,e2,p2⟩:=h2.items
  cases r1
  cases r2
  by_cases ha:a1=a2
  ·subst ha
   exact⟨true,SeqAt.EqAt.same _,λ_=>h1.inj h2⟩
  obtain⟨b,hb,hb2⟩:=IV s ok n (λt u A v1 v2 x1 x2=>I9 s ok n t u A v1 v2 x1 x2) t u A a1 a2 hd hu h1 h2
  exact⟨b,SeqAt.EqAt.of_refs ha hb,hb2⟩
def T3:R2:=λx y H Q=>∃t u,aY H x t/\aY H y u/\t.depth<20/\∀b:Bool,(b=true->t=u)->Q (.bl b) H
theorem Gi{X:Cx}(hu:X.A.units+64<cLine):lH X (compareOp .Eq) T3:=by
 intro pins s σ H x y v u Q I rx ry h
 obtain⟨t,u',ht,hu',hd,q⟩:=h
 obtain⟨a1,xs1,rfl,e1,p1⟩:=ht.items
 obtain⟨a2,xs2,rfl,e2,p2⟩:=hu'.items
 cases rx
 cases ry
 obtain⟨b,hb,hb2⟩:=IV s I.hok 19 (λt u A v1 v2 x1 x2=>I9 s I.hok 19 t u A v1 v2 x1 x2) t u' X.A a1 a2 hd (by omega) ht hu'
 exact hb _ _ _ _ ⟨.bl b,H,I,rfl,q b hb2⟩
end Sy
namespace PySem
namespace F
theorem lY:isSubtype (.type "range_iterator") (.type "reversed")=pure false:=by rw[afm];kernel_rfl
end F
section
variable{prog:Program}{w:World}{A:Around}{E:Value->Shared->Prop}{s:Shared}
theorem zF2{Q:Int×Int×Int->Shared->Prop}(hr:IsRange s.heap r 0 n 1 t u v)(h:Q (0,n,1) s):wpAny (model prog w) A (Builtin.Range.rangeFields (.ref r)) Q E s:=by
 unfold Builtin.Range.rangeFields
 refine aaw (aex hr rfl (x:=.int 0 t) rfl ?_)
 refine aaw (ac3 (a:=some (0:Int)) (by rfl) ?_)
 refine aaw (aex hr rfl (x:=.int n u) rfl ?_)
 refine aaw (ac3 (a:=some n) (by rfl) ?_)
 refine aaw (aex hr rfl (x:=.int 1 v) rfl ?_)
 refine aaw (ac3 (a:=some (1:Int)) (by rfl) ?_)
 exact aax h
theorem fits(h1:-(2^63)<=x)(h2:x<2^63):abt x=true:=by
 unfold abt
 simp
 omega
theorem zCo{Q:Value->Shared->Prop}(hr:IsRange s.heap r 0 n 1 t u v)(h1:-(2^62)<=n)(h2:n<2^62)(h:Q (.ref s.heap.objs.size) { s with heap:=s.heap.push { cls:=.type "range_iterator",data:=.fields #[rawInt (0+(aa4 0 n 1-1)*1),rawInt (aa4 0 n 1),rawInt (-1)] } }):wpAny (model prog w) A (call (.builtin "range.__reversed__") [.ref r]) Q E s:=by
 have hT:s.TypeIs (.ref r) "range":=⟨_,hr,rfl⟩
 have sm:(abt 0&&abt n&&abt 1&&abt (-1)&&abt (0-1)&&abt (aa4 0 n 1))=true:=by
  have z:0<=aa4 0 n 1/\aa4 0 n 1<2^63:=by
   unfold aa4
   rw[if_pos (by decide)]
   split<;>omega
  rw[fits (x:=0) (by decide) (by decide),fits (x:=n) (by omega) (by omega),fits (x:=1) (by decide) (by decide),fits (x:=-1) (by decide) (by decide),fits (x:=0-1) (by decide) (by decide),fits (x:=aa4 0 n 1) (by omega) (by omega)]
  rfl
 refine acn F.slot_range_reversed hT F.entry_range_reversed ?_ (F.args_range_reversed_1 _)
 unfold Builtin.«range.__reversed__»
 refine aaw (ac3 (a:=abx r) rfl ?_)
 refine aaw (zF2 hr ?_)
 dsimp only
 rw[sm]
 refine(show wpAny _ _ (newFields "range_iterator" [rawInt (0+(aa4 0 n 1-1)*1),rawInt (aa4 0 n 1),rawInt (-1)] >>= λx=>ret x) _ _ s from ?_)
 exact aaw (ab3 (aax ⟨_,rfl,h⟩))
theorem zCm{Q₁:Value->Shared->Prop}(hr:IsRange s.heap r 0 n 1 t u v)(h1:-(2^62)<=n)(h2:n<2^62)(h:Q₁ (.ref s.heap.objs.size) { s with heap:=s.heap.push { cls:=.type "range_iterator",data:=.fields #[rawInt (0+(aa4 0 n 1-1)*1),rawInt (aa4 0 n 1),rawInt (-1)] } }) :
  codeAny (model prog w) A (.call (.builtin "reversed.__new__") ⟨[.type "reversed",.ref r],[]⟩) (wants Q₁ E) s:=by
 have hT:s.TypeIs (.ref r) "range":=⟨_,hr,rfl⟩
 refine afi ?_
 show wpAny _ A.in1 (do checkBuiltinCall "reversed.__new__" ⟨[.type "reversed",.ref r],[]⟩;again (.builtin "reversed.__new__" ⟨[.type "reversed",.ref r],[]⟩)) _ _ s
 refine aaw (ac3 (F.newCall_reversed_1 _) (aax ⟨aea F.plain_reversed_new _,ac7 F.entry_reversed_new ?_⟩))
 rw[acw F.plain_reversed_new _]
 unfold Builtin.«reversed.__new__»
 refine aaw (ac3 (newClass_reversed _) ?_)
 try dsimp only
 refine aaw (ac3 (a:=()) (by first|rfl|kernel_rfl) ?_)
 refine aaw (ac3 (a:=()) (by first|rfl|kernel_rfl) ?_)
 try dsimp only
 refine aaw (wpAny_specialOf hT F.slot_range_reversed.lookup ?_)
 try dsimp only
 refine aaw (ac3 (F.slot_range_reversed.bind _) ?_)
 try dsimp only
 first
 |rw[if_neg (show¬((afu "range.__reversed__" == ac4)=true) from aay)]
 | (show wpAny _ _ (if(afu "range.__reversed__" == ac4)=true then _ else _) _ _ _;rw[if_neg (show¬((afu "range.__reversed__" == ac4)=true) from aay)])
 refine aaw (aee ?_)
 refine aaw (m:=runValue (.call (.builtin "range.__reversed__") ⟨[.ref r],[]⟩)) (show wpAny _ _ (call (.builtin "range.__reversed__") [.ref r]) _ _ _ from zCo hr h1 h2 ?_)
 first
 |exact aax h
 |exact aaw (aax (aax h))
theorem zCn{Q:Value->Shared->Prop}(hr:IsRange s.heap r 0 n 1 t u v)(h1:-(2^62)<=n)(h2:n<2^62)(h:Q (.ref s.heap.objs.size) { s with heap:=s.heap.push { cls:=.type "range_iterator",data:=.fields #[rawInt (0+(aa4 0 n 1-1)*1),rawInt (aa4 0 n 1),rawInt (-1)] } }):wpAny (model prog w) A (call (.type "reversed") [.ref r]) Q E s:=by
 refine callType_other (U:="range_iterator") (Q₁:=λobj s₁=>obj=.ref s.heap.objs.size/\s₁={ s with heap:=s.heap.push { cls:=.type "range_iterator",data:=.fields #[rawInt (0+(aa4 0 n 1-1)*1),rawInt (aa4 0 n 1),rawInt (-1)] } }) (by decide +kernel) F.create_reversed ⟨_,_,F.mro_reversed⟩ F.made_reversed F.lY (F.typeCall_reversed_1 _) (zCm hr h1 h2 ⟨rfl,rfl⟩) ?_
 rintro obj s₁ ⟨rfl,rfl⟩
 exact⟨⟨_,get?_push_size _ rfl,rfl⟩,h⟩
end
end PySem
namespace L2
open PySem PySem.Spec PyProof.Rows
def T4(ta:TA):TI:=λσ H R=>ta σ H λvs H1=>∃j:Int,vs=[.int j]/\0<=j/\j<2^61/\R (Itd (j-1) j.toNat) H1
section
variable{X:Cx}{tg:Expr}
theorem Gj(hg:Gl X "reversed")(hm:X.mg "reversed" = none)(hg2:Gl X "range")(hm2:X.mg "range" = none)(ha:PA X [a] ta)(hs:starEach [a] X.env=[(false,eval a X.env)]:=by rfl)(hs2:starEach [.Call (.Name "range" p') [a] [] pos'] X.env=[(false,eval (.Call (.Name "range" p') [a] [] pos') X.env)]:=by rfl):PI X tg (.Call (.Name "reversed" p) [.Call (.Name "range" p') [a] [] pos'] [] pos) (T4 ta):=by
 intro pins s σ H R I h
 refine Call_ (uc I hg hm iw (abk ?_ hs2 rfl))
 rw[hs2]
 show wpAny _ _ (spliced ((false,eval _ X.env)::[])) _ _ s
 refine aeb (Call_ (uc I hg2 hm2 boot_range (abk (aP (ha pos' pins s σ H _ I h) λus s1 ⟨vs,H1,I1,r1,q1⟩=>?_) hs rfl)))
 obtain⟨j,e,j0,j1,q⟩:=q1
 subst e
 cases r1 with
 |cons r rr =>
  cases rr
  obtain⟨t,rfl⟩:=r
  refine af5 ?_
  refine aei ?_
  have I2:Inv X pins σ H1 { s1 with heap:=s1.heap.push { cls:=.type "range",data:=.fields #[.int 0 s1.toks,.int j t,.int 1 (s1.toks+1)] },toks:=s1.toks+1+1 }:=I1.kept λb o e=>get?_push_of_some _ e
  have hr:IsRange (s1.heap.push { cls:=.type "range",data:=.fields #[.int 0 s1.toks,.int j t,.int 1 (s1.toks+1)] }) s1.heap.objs.size 0 j 1 s1.toks t (s1.toks+1):=af9 ..
  generalize s1.heap.push { cls:=.type "range",data:=.fields #[.int 0 s1.toks,.int j t,.int 1 (s1.toks+1)] }=g at I2 hr
  refine zCn (s:={ s1 with heap:=g,toks:=s1.toks+1+1 }) hr (by omega) (by omega) ?_
  have zs:aa4 0 j 1=j:=by
   unfold aa4
   rw[if_pos (by decide)]
   split<;>omega
  have R0:IsRangeIter (g.push { cls:=.type "range_iterator",data:=.fields #[rawInt (0+(aa4 0 j 1-1)*1),rawInt (aa4 0 j 1),rawInt (-1)] }) g.objs.size ((j-1)+((0:Nat):Int)*(-1)) (((j.toNat:Nat):Int)-((0:Nat):Int)) (-1):=by
   rw[zs,show(0:Int)+(j-1)*1=(j-1)+((0:Nat):Int)*(-1) by omega,show(j:Int)=((j.toNat:Nat):Int)-((0:Nat):Int) by omega]
   exact get?_push_size _ rfl
  refine aep (s:={ s1 with heap:=g.push _,toks:=s1.toks+1+1 }) R0 ?_
  refine⟨g.objs.size,[g.objs.size],_,_,H1,rfl,I2.kept (t':=s1.toks+1+1) λb o e=>get?_push_of_some _ e,zO3 _ (j-1) j.toNat,R0,λb hb=>?_,q⟩
  have e:b=g.objs.size:=mem_singleton.mp hb
  subst e
  exact I2.jQ (aa0 _) (I2.hok.fresh (aa0 _))
end
end L2
namespace Ts
open PySem L2
def vo(j:Int):Option LI:=if 0<=j/\j<2^61 then some ((abg j.toNat).map λk=>(j-1)-adi k) else none
theorem Gk{K:PySem.W.Frag}{sl:SL K}(h1:Ex B sl .hp t1 m1):Ei B sl n (T4 (yJ t1 bh)) (m1.bind λa=>vo a):=λxs hx F O H σ R a k=>by
 cases m1 with
 |none=>cases hx
 |some j =>
  have hx:vo j=some xs:=hx
  unfold vo at hx
  split at hx
  case isFalse=>cases hx
  rename_i hb
  cases hx
  refine h1 j rfl F O H σ _ a λv F' H' gr r=>?_
  cases r
  refine⟨j,rfl,hb.1,hb.2,k _ F' H' gr λq F4 O4 H4 sf k4=>⟨λhl=>?_,λx hx=>?_⟩⟩
  ·rw[length_map,length_range] at hl;exact hl
  ·obtain⟨h1,rfl⟩:=E_ hx
   refine⟨h1,λv H5 yd=>?_⟩
   obtain⟨rfl,rfl⟩:=yd
   exact⟨F4,.refl k4,rfl⟩
end Ts
namespace L2
open PySem PySem.Spec PyProof.Rows
def jZ{α:Type}(k:Nat)(y:α)(xs:List α):List α:=xs.take k++y::xs.drop k
def zPy:V->List V->Hp->VK->Prop:=λx vs H Q=>∃l xs i y,x=.ref l/\vs=[.int i,y]/\H l=some (.lst xs)/\0<=i/\i<=(xs.length:Int)/\xs.length<sizeLine/\Q .non (upd H l (.lst (jZ i.toNat y xs)))
theorem zL9{α:Type}{y:α}{xs:List α}(h:k<=xs.length):(jZ k y xs).length=xs.length+1:=by
 unfold jZ
 rw[length_append,length_take,length_cons,length_drop]
 omega
theorem zQs:O_ X "list.insert" zPy:=by
 intro pins s σ H x vs v us Q I rx rv h
 obtain⟨l,xs,i,y,rfl,rfl,hH,h0,h1,hz,q⟩:=h
 cases rx
 obtain⟨u0,u,rfl,ri,ru⟩:=rv.two
 obtain⟨t,rfl⟩:=ri
 obtain⟨z,its,n,r,hl,e⟩:=I.rR hH
 have hfit:¬(!adx i)=true:=by
  have hc:sizeLine<2^62:=by decide
  have:adx i=true:=by
   unfold adx
   simp
   omega
  rw[this]
  decide
 refine afg F.slot_list_insert ⟨_,e,rfl⟩ F.entry_list_insert (F.args_list_insert_3 _ _ _) (AutoListH.list_insert_list_int_val_1 l its.toArray n i t u hfit (by rw[size_toArray];omega)) ⟨e,?_⟩
 refine⟨.non,_,I.DQ (its':=jZ i.toNat u its) hH e ?_ ((r.take i.toNat).append (.cons ru (r.drop i.toNat))) ?_,rfl,q⟩
 ·have ek:(if i<0 then(i+((its.toArray.size:Nat):Int)).toNat else min i.toNat its.toArray.size)=i.toNat:=by
   rw[if_neg (by omega),size_toArray]
   omega
  show((its.toArray.extract 0 (if i<0 then(i+((its.toArray.size:Nat):Int)).toNat else min i.toNat its.toArray.size)).push u++its.toArray.extract (if i<0 then(i+((its.toArray.size:Nat):Int)).toNat else min i.toNat its.toArray.size))=_
  rw[ek]
  unfold jZ
  simp
  exact take_of_length_le (by rw[length_drop];exact aa0 _)
 ·show(jZ i.toNat y xs).length<=sizeLine
  rw[zL9 (by omega)]
  omega
end L2
namespace Ts
open PySem L2
def Gm{α:Type}(xs:List α)(i:Int)(a:α):Option (List α):=if 0<=i/\i<=(xs.length:Int)/\xs.length<cap then some (jZ i.toNat a xs) else none
section
variable{K:PySem.W.Frag}{B:Bs}{sl:SL K}{md:Md}{α:Type}[Rp K α]{te ti:TE}
theorem A2.take(h:A2 R vs xs)(k:Nat):A2 R (vs.take k) (xs.take k):=by
 induction vs generalizing xs k with
 |nil=>cases xs with
  |nil=>cases k<;>trivial
  |cons x xs=>cases h
 |cons v vs ih=>cases xs with
  |nil=>cases h
  |cons x xs=>cases k with
   |zero=>trivial
   |succ k=>exact⟨h.1,ih h.2 k⟩
theorem A2.drop(h:A2 R vs xs)(k:Nat):A2 R (vs.drop k) (xs.drop k):=by
 induction vs generalizing xs k with
 |nil=>cases xs with
  |nil=>cases k<;>trivial
  |cons x xs=>cases h
 |cons v vs ih=>cases xs with
  |nil=>cases h
  |cons x xs=>cases k with
   |zero=>exact h
   |succ k=>exact ih h.2 k
theorem zPc{n:Bool}{xs:List α}{mi:Option Int}{m:Option α}(i:Nat)(hs:sl[i]?=some (.ow n xs))(hh:sl.all (λs=>!cR s)=true)(hi:Ex B sl .hp ti mi)(h:Ex B sl (dF n) te m) :
  Sn B sl (JL (Kq K "list" zPy (bT i) (yJ ti (yJ te bh)))) (λys=>sl.set i (.ow n ys)) (mi.bind λj=>m.bind λa=>Gm xs j a):=λys ha G D σ H s k=>by
 obtain⟨j,a,ej,ea,hf⟩:=pZ ha
 unfold Gm at hf
 split at hf
 case isFalse=>cases hf
 rename_i hb
 cases hf
 obtain⟨F,O,g,z⟩:=s
 obtain⟨p,vs,h1,h2,h3,_⟩:=z.chg hs hh
 refine⟨_,h1,.inl ⟨rfl,_,aO.of h2⟩,?_⟩
 refine hi j ej F O H σ _ z λv0 F0 H0 g0 r0=>?_
 refine h a ea F0 O H0 σ _ (z.grow g0) λv F' H' gr r=>?_
 obtain⟨p',vs',h1',h2',h3',h4'⟩:=((z.grow g0).grow gr).chg hs hh
 cases h1.symm.trans h1'
 have r0:v0=.int j:=r0
 obtain⟨O',z'⟩:=h4' (jZ j.toNat v vs') (jZ j.toNat a xs) ((h3'.take j.toNat).app (show A2 _ (v::vs'.drop j.toNat) (a::xs.drop j.toNat) from⟨r,h3'.drop j.toNat⟩))
 subst r0
 exact⟨p,vs',j,v,rfl,rfl,h2',hb.1,by rw[h3'.len];exact hb.2.1,yr (by rw[h3'.len];exact hb.2.2),k _ _ ⟨F',O',g.trans (g0.ff.trans gr.ff),z'⟩⟩
def Gn{α:Type}(us:List α):Option (List α):=if us.length<cap then some us.reverse else none
theorem Gp{n:Bool}{mi:Option (List α)}(h:Ex B sl (dF n) te mi):Eo B sl (dF n) (Kv 1 [] (Ba K (yJ te bh)) (uV 0) rT (bT 0)) (mi.bind λus=>Gn us):=λzs hz F O H σ Q a k=>by
 cases mi with
 |none=>cases hz
 |some us =>
  have hz:(if us.length<cap then some us.reverse else none)=some zs:=hz
  split at hz
  case isFalse=>cases hz
  rename_i hcap
  cases hz
  refine h us rfl F O H σ _ a λv F' H' gr r=>?_
  obtain⟨p,vs,rfl,h1,h2⟩:=r
  have h1:H' p=some (.lst vs):=yq gr.ok n _ _ h1
  have hl:vs.length=us.length:=h2.len
  refine⟨p,vs,rfl,aO.of h1,zMl (xs:=vs) (λi ys σ2 H2=>H2=H'/\(∃v,σ2=[v])/\ys=vs.reverse.take i) ⟨rfl,⟨none,rfl⟩,rfl⟩ (λi ys σ2 H2 hi ⟨e1,_,e2⟩=>?_) (by rw[hl];exact yr hcap) (λi x ys σ2 H2 hx hi ⟨e1,⟨v,e2⟩,e3⟩=>?_) (λys σ2 H2 ⟨e1,_,e3⟩ q hq=>?_)⟩
  ·subst e1
   exact⟨aO.of h1,by rw[e2,length_take];exact Nat.min_le_left _ _⟩
  ·subst e1
   subst e2
   subst e3
   refine(ig ?_:if true=true then _ else bT 0 [some x] H2 (λ_ _=>False))
   refine⟨x,rfl,rfl,⟨some x,rfl⟩,?_⟩
   rw[take_add_one,List.getElem?_reverse hi,hx]
   rfl
  ·subst e1
   subst e3
   refine k q _ F' H2 gr hq ?_
   rw[<-length_reverse,take_length]
   exact h2.rev
end
end Ts
namespace L2
open PySem PySem.Spec PyProof.Rows
section
variable{X:Cx}
theorem zL8:∀{ns:LI}{its:List Value},Vals (ns.map V.int) its->IntsAre its ns
 |[],[],_=>.nil
 |n::ns,_::its,h=>by
  cases h with
  |cons r t =>
   obtain⟨k,rfl⟩:=r
   exact .cons n k (zL8 t)
def T5(K:PySem.W.Frag):List V->Hp->VK->Prop:=λxs H Q=>∃(p:Addr)(ns:LI),xs=[.ref p]/\aO K H p (ns.map V.int)/\Q (.int ns.sum) H
theorem zSa(K:PySem.W.Frag)(hc:X.calm=true)(hK:X.K=K:=by rfl):rK X (.builtin "sum") (T5 K):=by
 subst hK
 intro pins s σ H xs us Q I r h
 obtain⟨p,ns,rfl,hq,q⟩:=h
 obtain⟨u,rfl,rx⟩:=Ds r
 cases rx
 obtain⟨its,r',pl,hz⟩:=I.list hq
 have hi:=zL8 r'
 obtain⟨arr,e⟩:=hi.allInts.items
 have hns:ns=arr.toList.map (·.1):=(hi.numsOf.symm.trans (congrArg numsOf (show its=(intItems arr).toList by rw[<-e]))).trans (nums_intItems arr)
 have hl:=pl.isList
 rw[e] at hl
 refine call_sum_walkAnyS (iter_intList hl λs₂ e2 st hfp hlI=>?_)
 subst e2
 refine⟨_,_,_,_,_,_,_,numAt arr,rfl,(afz (A:=X.A.in1) (I.ok.hd hc) _ p hlI (intItems arr)).toS,st,hfp,λ_ _=>intItems_at,λs' t' hm=>?_⟩
 have hk:∀b o,s.heap.get? b=some o->s'.heap.get? b=some o:=λb o e3 =>
  hm.heap b o (λhI=>absurd (lt_size e3) (by rw[mem_singleton.mp hI];exact ab2 _)) (get?_push_of_some _ e3)
 rw[Moved.eq_with hm]
 have es:preSum (numAt arr) (intItems arr).size=ns.sum:=by
  rw[preSum_eq,<-hns]
  have hsz:(intItems arr).size=ns.length:=by rw[hns];simp[intItems]
  rw[hsz,take_length]
 rw[es]
 exact⟨.int ns.sum,H,I.kept (h':=s'.heap) (t':=s'.toks) hk,⟨t',rfl⟩,q⟩
theorem Mv:bootBuiltins "sum" = some (.builtin "sum"):=by decide +kernel
theorem Mw(K:PySem.W.Frag)(hm:X.mg "zip" = none)(ha:PA X [a,b] ta)(h:X.K=K:=by rfl)(hg:Gl X "zip":=by rfl)(hs:starEach [a,b] X.env=[(false,eval a X.env),(false,eval b X.env)]:=by rfl)(hs2:starEach [b] X.env=[(false,eval b X.env)]:=by rfl) :
  PI X (.Tuple elts k tp) (.Call (.Name "zip" p) [a,b] [] pos) (LQ K ta):=by subst h;exact LR hg hm ha hs hs2
end
end L2
namespace Ts
open PySem L2
section
variable{K:PySem.W.Frag}{B:Bs}{sl:SL K}{md:Md}{α β:Type}[Rp K α][Rp K β]{te t1 t2:TE}
theorem Mx{m:Option LI}(h:Ex B sl .hp te m):Ex B sl md (tu (T5 K) (yJ te bh)) (m.bind λns=>some ns.sum):=λc hc F O H σ Q s k=>by
 cases m with
 |none=>cases hc
 |some ns =>
  cases(show some ns.sum=some c from hc)
  refine h ns rfl F O H σ _ s λv F' H' g r=>?_
  obtain⟨p,vs,rfl,z1,z2⟩:=r
  have ev:vs=ns.map V.int:=A2.kI z2
  subst ev
  exact⟨p,ns,rfl,aO.of z1,k _ F' H' g rfl⟩
theorem Mz{n:Bool}{m1:Option (List α)}{m2:Option (List β)}(h1:Ex B sl (dF n) t1 m1)(h2:Ex B sl (dF n) t2 m2):Ei B sl n (LQ K (yJ t1 (yJ t2 bh))) (m1.bind λa=>m2.bind λb=>some (a.zip b)):=λzs hz F O H σ R a k=>by
 obtain⟨xs,ys,e1,e2,hc⟩:=pZ hz
 cases hc
 refine h1 xs e1 F O H σ _ a λv F1 H1 g1 r1=>?_
 refine h2 ys e2 F1 O H1 σ _ (a.grow g1) λw F2 H2 g2 r2=>?_
 obtain⟨p,vs,rfl,p1,p2⟩:=r1
 obtain⟨q,ws,rfl,q1,q2⟩:=r2
 have p1':F2 p=some (.lst vs):=g2.ff _ _ (by cases n with|true=>exact aQ _ _ p1|false=>exact p1)
 have T6:F2 q=some (.lst ws):=by cases n with|true=>exact aQ _ _ q1|false=>exact q1
 refine⟨p,q,rfl,⟨vs,aO.of (g2.ok.fh _ _ p1')⟩,⟨ws,aO.of (g2.ok.fh _ _ T6)⟩,k _ F2 H2 (g1.trans g2) λi F3 O3 H3 sf k3=>?_⟩
 have hp:aO K H3 p vs:=aO.of (k3.fh _ _ (sf _ _ p1'))
 have hq:aO K H3 q ws:=aO.of (k3.fh _ _ (sf _ _ T6))
 refine⟨λhl=>⟨vs,ws,hp,hq,?_⟩,λx hx=>?_⟩
 ·rw[List.length_zip] at hl
  rw[p2.len,q2.len]
  omega
 ·obtain⟨ex,ey⟩:=getElem?_zip_eq_some.mp hx
  obtain⟨u,hu,ru⟩:=p2.at2 ex
  obtain⟨z,hz,rz⟩:=q2.at2 ey
  refine⟨⟨vs,ws,u,z,hp,hq,hu,hz⟩,λv H4 yd=>?_⟩
  obtain⟨t,u',z',rfl,ht,rfl,y1,y2⟩:=yd
  cases hu.symm.trans (y1 vs hp)
  cases hz.symm.trans (y2 ws hq)
  have g3:=bH.new k3 ht (.tup [u,z])
  exact⟨_,g3,t,u,z,rfl,KH k3 ht (dF n),Rp.mono (xT n (g2.ff.trans (sf.trans g3.ff))) ru,Rp.mono (xT n (sf.trans g3.ff)) rz⟩
end
def top(i:Nat):Stmt:=PySem.Challenge.pw_treesay_k48_fair_sets_turned.main.body.getD i (.Pass ⟨0,0,0,0⟩)
abbrev gk:Stmt:=top 2
abbrev qe:Stmt:=top 3
abbrev mU:Stmt:=top 4
abbrev mV:Stmt:=top 5
abbrev jC:Stmt:=top 6
abbrev kO:Stmt:=top 7
abbrev iy:Stmt:=top 9
abbrev jD:Stmt:=top 10
abbrev gn:Stmt:=top 11
abbrev eZ:Stmt:=top 12
abbrev kW:Stmt:=top 14
abbrev fj:Stmt:=top 15
abbrev qg:Stmt:=top 16
abbrev iz:Stmt:=top 17
abbrev gq:Stmt:=top 18
abbrev mW:Stmt:=top 19
abbrev rY:Stmt:=top 20
abbrev s_alive:Stmt:=top 21
abbrev j4:Stmt:=yZ (top 23) 0
abbrev kY:Stmt:=yZ (top 24) 0
abbrev kZ:Stmt:=yZ (top 25) 0
abbrev mX:Stmt:=yZ (top 26) 0
abbrev lZ:Stmt:=yZ (top 27) 0
abbrev mY:Stmt:=yZ (top 28) 0
abbrev mj:Stmt:=yZ (top 29) 0
abbrev j5:Stmt:=yZ (top 30) 0
abbrev jg:Stmt:=yZ (top 31) 0
abbrev jh:Stmt:=yZ (top 32) 0
abbrev ji:Stmt:=yZ (top 33) 0
abbrev jk:Stmt:=yZ (top 34) 0
abbrev gW:Stmt:=yZ (top 35) 0
abbrev gY:Stmt:=yZ (top 36) 0
abbrev jl:Stmt:=yZ (top 37) 0
abbrev jm:Stmt:=yZ (top 38) 0
abbrev iB:Stmt:=top 40
abbrev iC:Stmt:=top 41
abbrev jE:Stmt:=top 42
abbrev iD:Stmt:=top 43
abbrev bZ:Stmt:=top 44
abbrev lg:Stmt:=top 45
abbrev fu:Stmt:=top 46
abbrev qj:Stmt:=top 47
abbrev ql:Stmt:=top 48
abbrev jF:Stmt:=top 59
abbrev dM:Stmt:=top 60
abbrev fG:Stmt:=top 61
abbrev lq:Stmt:=top 62
abbrev fH:Stmt:=top 63
abbrev gw:Stmt:=top 64
abbrev mZ:Stmt:=top 65
abbrev WR:Stmt:=top 66
abbrev Bd:Stmt:=yZ (top 67) 0
abbrev dN:Stmt:=yZ (top 67) 1
abbrev cO:Stmt:=yZ (top 67) 2
abbrev cV:Stmt:=yZ (top 67) 3
abbrev cX:Stmt:=yZ (top 67) 4
abbrev cP:Stmt:=yZ (top 67) 6
abbrev m5:Stmt:=top 69
abbrev pC:Stmt:=top 70
abbrev qU:Stmt:=top 71
abbrev m6:Stmt:=top 72
abbrev m7:Stmt:=top 73
abbrev m8:Stmt:=top 74
abbrev lu:Stmt:=top 75
abbrev pD:Stmt:=top 76
abbrev m_:Stmt:=top 77
abbrev pF:Stmt:=top 78
section
variable{P:Program}{w:World}{K:PySem.W.Frag}{mg:Str->Option Value}{base:Heap}
def Z5(K:PySem.W.Frag):Sp:=λvs H Q _=>∃(a:Addr)(bs:List Addr)(xss:List LI),vs=[.ref a]/\aO K H a (bs.map V.ref)/\qK K H bs xss/\xss.length<=60/\V9 xss.length xss /\
 ∀(r:Addr)(cs:List Addr)(H':Hp),Same H H'->H r=none->H' r=some (.lst (cs.map V.ref))->cs.length=xss.length->qL H' cs (src xss)->(∀c∈cs,H c=none)->Q (.ref r) H'
theorem Bg:ao ["steps","sources","stand","targets","target"] ["steps"] (zH WR):=⟨rfl,rfl,rfl,by decide +kernel,rfl,by decide +kernel,by decide +kernel⟩
theorem Z6:(["stand"]:List Str).Nodup:=by decide +kernel
theorem MF{cs:List Addr}(nd:cs.Nodup){i j:Nat}{c:Addr}(h1:cs[i]?=some c)(h2:cs[j]?=some c):i=j:=by
 obtain⟨k1,e1⟩:=abb.mp h1
 obtain⟨k2,e2⟩:=abb.mp h2
 exact(getElem_inj nd).mp (e1.trans e2.symm)
theorem qL.put{MJ:Nat->LI}(r:qL H cs row)(nd:cs.Nodup)(hc:cs[j]?=some c)(e:MJ j=xs)(e':∀k,k≠j->MJ k=row k):qL (upd H c (.lst (xs.map V.int))) cs MJ:=λk d hd=>by
 by_cases hk:k=j
 ·subst hk
  rw[hc] at hd
  cases hd
  rw[zJ,e]
 ·rw[zP (λz=>hk (MF nd hd (by rw[z];exact hc))),e' k hk]
  exact r k d hd
theorem T7(F:aZ K "sources_of" "sources_of" WR f fd)(B:Bl K mg):aq P w K mg base aM 1 f fd ["steps"] (Z5 K):=by
 refine F.ok Bg (λvs H Q E h=>?_) (λcdv A outer s H vs Q E hr h=>?_)
 ·obtain⟨a,bs,xss,rfl,_⟩:=h
  rfl
 obtain⟨a,bs,xss,rfl,hS,hR,vp,hV,q⟩:=h
 have hbl:(bs.map V.ref).length=xss.length:=by rw[length_map];exact hR.1
 refine⟨_,zB (Cp (i:=1) (own:=["stand"]) (ix:=[]) Bg.nd rfl rfl rfl rfl rfl (Xw (pv 0)) (λC s H fp=>yS (i:=0) Z6 rfl (Or.inl rfl)) (λC s H fp=>wV) (λC s H fp=>xV zE))
  (zB (xQ abe rfl (zP3 rfl B.enum (zA (pv 0) zE)) (Hw rfl (yV (yS (i:=2) Bg.nd rfl (Or.inl rfl)) (yV (yS (i:=3) Bg.nd rfl (Or.inl rfl)) Dh)))
   (zX (xQ abe rfl (Xw (pv 3)) (yS (i:=4) Bg.nd rfl (Or.inl rfl))
    (zX (yD (VD abf abm abn wB (yM wN (pv 1) (pv 4) (λ_ _=>rfl)) (zA (pv 2) zE)))))))
  (zX (zQ (pv 1)))),?_⟩
 refine⟨_,rfl,a,rfl,⟨_,hS⟩,zR3 (K:=K) (a:=a) (xs:=bs.map V.ref) (λi ys σ H2=>∃(cs:List Addr)(v:Option V),ys=cs.map V.ref/\σ=[v]/\Same H H2/\News H H2 cs (replicate i [])/\cs.length=i)
  ⟨[],none,rfl,rfl,Same.refl H,News.nil,rfl⟩ (λi ys σ H2 _ ⟨cs,v,e,_,s2,_,hi⟩=>⟨s2.seq hS,by rw[e,length_map,hi];exact aa0 _⟩) (Yo (by omega)) ?_ ?_⟩
 ·rintro i y ys σ H2 hi ⟨cs,v,rfl,rfl,s2,hN,Qg⟩
  refine zL2 ?_
  refine⟨(by show 0<=sizeLine;decide),λl hl'=>?_⟩
  refine⟨cs++[l],_,by rw[map_append]<;>rfl,rfl,s2.trans (au hl' _),?_,by rw[length_append,Qg]<;>rfl⟩
  have e:replicate (i+1) ([]:List V)=replicate i []++[[]]:=List.replicate_succ'
  rw[e]
  exact hN.snoc s2 hl'
 rintro ys σ H2 ⟨cs,v,rfl,rfl,s2,hN,Qg⟩ r hr0
 have hcl:cs.length=xss.length:=by rw[Qg,hbl]
 have s3:Same H (upd H2 r (.lst (cs.map V.ref))):=s2.trans (au hr0 _)
 have hrH:H r=none:=s2.free hr0
 have nrc:r∉cs:=hN.RT hr0
 have R0:qL (upd H2 r (.lst (cs.map V.ref))) cs (src (xss.take 0)):=λj c hc=>by
  obtain⟨xs,h1,h2⟩:=hN.at_ j c hc
  have e:xs=[]:=by
   rw[getElem?_replicate] at h1
   split at h1
   ·exact(aa2 h1).symm
   ·cases h1
  subst e
  rw[zP (λz=>nrc (by rw[<-z];exact mem_of_getElem? hc)),h2]
  rfl
 refine⟨_,rfl,a,rfl,⟨_,s3.seq hS⟩,zUp (K:=K) (a:=a) (xs:=bs.map V.ref) (λi σ H4=>∃u v t,σ=[some (.ref a),some (.ref r),u,v,t]/\Same H H4/\H4 r=some (.lst (cs.map V.ref))/\qL H4 cs (src (xss.take i)))
  ⟨none,none,none,rfl,s3,zJ,R0⟩ (λi σ H4 _ ⟨_,_,_,_,s4,_⟩=>s4.seq hS) ?_ ?_⟩
 ·rintro i x t σ H4 hi ht ⟨u,v,t',rfl,s4,CK,R4⟩
  obtain⟨b,rfl,hb⟩:=KY hi
  obtain⟨xs,hx,hsq⟩:=hR.2 i b hb
  obtain⟨ne,nd,len,vr⟩:=hV.2 xs (mem_of_getElem? hx)
  have il:=yY hx
  have st:Same H4 (upd H4 t (.tup [.int i,.ref b])):=au ht _
  have s5:=s4.trans st
  refine⟨t,_,rfl,cu.of zJ,rfl,_,_,rfl,_,_,rfl,rfl,?_⟩
  refine⟨_,rfl,b,rfl,⟨_,s5.seq hsq⟩,zUo (K:=K) (a:=b) (xs:=xs.map V.int) (λm σ H6=>∃tt,σ=[some (.ref a),some (.ref r),some (.int i),some (.ref b),tt]/\Same H H6/\H6 r=some (.lst (cs.map V.ref)) /\
   qL H6 cs λj=>src (xss.take i) j++(if(j:Int)∈xs.take m then[(i:Int)] else[])) ⟨t',rfl,s5,st _ _ CK,λj c hc=>?_⟩ (λm σ H6 _ ⟨_,_,s6,_⟩=>s6.seq hsq) ?_ ?_⟩
  ·rw[st _ _ (R4 j c hc)]
   simp
  ·rintro m y σ H6 hm ⟨tt,rfl,s6,WT,R6⟩
   obtain⟨z,rfl,hz⟩:=int_at hm
   obtain⟨z0,z1⟩:=vr z (mem_of_getElem? hz)
   have zl:z.toNat<cs.length:=by rw[hcl];omega
   have hc:cs[z.toNat]?=some cs[z.toNat]:=aaz zl
   have hz':((z.toNat:Nat):Int)=z:=by omega
   have hrow:=R6 z.toNat _ hc
   have hno:¬z∈xs.take m:=zGi nd hz
   simp only[hz',if_neg hno,append_nil] at hrow
   have hix:cj (cs.map V.ref) z=some (.ref cs[z.toNat]):=by
    have:=Yb (Er hc)
    rw[hz'] at this
    exact this
   refine⟨_,rfl,_,rfl,r,_,z,_,rfl,rfl,aO.of WT,hix,.inl ⟨rfl,_,aO.of hrow⟩,_,rfl,_,_,_,rfl,rfl,hrow,?_,?_⟩
   ·have:=Ep (xss.take i) z.toNat
    rw[length_take] at this
    refine Yo ?_
    rw[length_map]
    omega
   ·have cH:H cs[z.toNat]=none:=hN.new _ (mem_of_getElem? hc)
    have cr:r≠cs[z.toNat]:=λe=>nrc (by rw[e];exact mem_of_getElem? hc)
    refine⟨_,rfl,s6.put cH _,by rw[zP cr];exact WT,?_⟩
    have em:(src (xss.take i) z.toNat).map V.int++[V.int i]=(src (xss.take i) z.toNat++[(i:Int)]).map V.int:=by rw[map_append]<;>rfl
    rw[em]
    refine R6.put hN.nd hc ?_ λk hk=>?_
    ·rw[hz',if_pos ((uH hz).mpr (.inr rfl))]
    ·have hk':((k:Int)∈xs.take (m+1))=((k:Int)∈xs.take m):=by
      rw[uH hz]
      refine propext ⟨λh=>h.elim id λe=>absurd (by omega) hk,.inl⟩
     simp only[hk']
  ·rintro σ H6 ⟨tt,rfl,s6,WT,R6⟩
   refine⟨_,_,_,rfl,s6,WT,λj c hc=>?_⟩
   rw[R6 j c hc,zS9 hx j,length_map,take_length]
 ·rintro σ H4 ⟨u,v,t,rfl,s4,CK,R4⟩
  refine⟨_,rfl,?_⟩
  have e:xss.take (bs.map V.ref).length=xss:=by rw[hbl];exact take_length
  rw[e] at R4
  exact q r cs H4 s4 hrH CK hcl R4 hN.new
end
structure Bh(K:PySem.W.Frag)(x qual:Str)(st:Stmt)(dV:Value)(f:Addr)(fd:FuncData):Prop where
 ex:∃(oc:Value)(od:Option Addr)(kV doc pm:Value)(an:Option Addr)(cdv ct:Value)(osl:Array (Option Value)),
  fd=fnOf x qual (uA st) (wF st) (zH st) dV kV doc pm an cdv ct/\K.lookup f=some ⟨oc,od,.func fd,osl⟩/\codeIn K cdv qual=true
 kp:keepIn K (.ref f)=true
section
variable{P:Program}{w:World}{K:PySem.W.Frag}{mg:Str->Option Value}{base:Heap}
theorem Bh.ok(F:Bh K x qual st dV f fd)(S:ao N ps (zH st))(len:∀vs H Q E,sp vs H Q E->vs.length=ps.length)(hbody:∀(cdv:Value) (A:Around) (outer:List Env) (s:Shared) (H:Hp) (vs:List V) (Q:VK) (E:XK),bQ k (A.deeper (ad4 qual (zH st) s.heap.objs.size f cdv))->sp vs H Q E ->
   ∃t,qz (oM aM P w K mg base N qual (zH st) f cdv A outer s H E).Dg (wF st) t/\t { nx:=λ_ H'=>Q .non H',rt:=Q } (start N vs) H):aq P w K mg base aM (k+1) f fd ps sp:=by
 obtain⟨oc,od,kV,doc,pm,an,cdv,ct,osl,rfl,lk,hcd⟩:=F.ex
 refine HD lk hcd S len λA outer s H vs Q E hr hsp=>?_
 obtain⟨t,h,q⟩:=hbody cdv A outer s H vs Q E hr hsp
 exact⟨t,h.Dg,q⟩
structure Cl(K:PySem.W.Frag)(mg:Str->Option Value)(C:Addr):Prop where
 cl:Cls K C
 nS:bx K C "steps"
 nM:bx K C "marks"
 nF:bx K C "fair"
 nB:bx K C "sources"
 Z7:mg "Machine" = some (.ref C)
theorem MN:ao ["self","steps","marks","fair","given_marks","given_fair"] ["self","steps","marks","fair"] (zH Bd):=⟨rfl,rfl,rfl,by decide +kernel,rfl,by decide +kernel,by decide +kernel⟩
theorem T8:(["name","stands"]:List Str).Nodup:=by decide +kernel
theorem bY(f:Str)(v:V):∀fs:List (Str×V),(aH f v fs).length<=fs.length+1
 |[]=>aa0 _
 | (g,x)::r=>by
  unfold aH
  split
  ·exact acq _
  ·exact aci (bY f v r)
theorem zPr:∀{vs:List V}{xss:List LI},A2 (rp K R) vs xss->∃bs:List Addr,vs=bs.map V.ref/\qK K R bs xss
 |[],[],_=>⟨[],rfl,rfl,λi b h=>by simp at h⟩
 |v::vs,xs::xss,h=>by
  obtain⟨bs,e,h1,h2⟩:=zPr h.2
  obtain⟨p,ws,rfl,h3,h4⟩:=h.1
  have h5:ws=xs.map V.int:=h4.vals
  refine⟨p::bs,by rw[e,map_cons],by rw[length_cons,length_cons,h1],λi b hb=>?_⟩
  cases i with
  |zero=>simp at hb;subst hb;exact⟨xs,rfl,aO.of (by rw[h3,h5])⟩
  |succ i=>exact h2 i b (by simpa using hb)
 |[],_::_,h=>h.elim
 |_::_,[],h=>h.elim
def Qh(xss:LLI):Option LLI:=if xss.length<=60/\V9 xss.length xss then some (srcs xss) else none
theorem M4(F:aZ K "sources_of" "sources_of" WR f fd)(B:Bl K mg):aq P w K mg base aM 1 f fd ["steps"] (cN K false (λa:LLI×Unit=>([.fz false a.1]:SL K)) λa=>Qh a.1):=by
 refine(T7 F B).imp λvs H Q E h=>?_
 obtain⟨⟨xss,⟨⟩⟩,b,Fa,s,hb,r,q⟩:=h
 have hb:Qh xss=some b:=hb
 unfold Qh at hb
 split at hb
 case isFalse=>cases hb
 rename_i hv
 cases hb
 cases r with
 |cons r1 r2 =>
  cases r2
  obtain⟨a,ws,rfl,h1,h2⟩:=r1
  obtain⟨bs,rfl,h3⟩:=zPr (K:=K) h2
  refine⟨a,bs,xss,rfl,aO.of (s _ _ h1),h3.same s,hv.1,hv.2,λrr cs H' s' hr e l R N=>q _ _ s' ?_⟩
  refine⟨rr,_,rfl,by show dif H' H rr=_;rw[xW hr];exact e,?_⟩
  exact Eu (K:=K) l R λc hc o e=>by show dif H' H c=_;rw[xW (N c hc)];exact e
theorem M5{fS:LLI->Option Unit}{fM:Cz->Int->Option Unit}{fF:LLI->Int->Option Unit}{fC fO:LLI->Option LLI}(F:Bh K "__init__" "Machine.__init__" Bd dV f fd)(T:Cl K mg C)(B:Bl K mg)(CS:bJ P w K mg base k "check_steps" ["steps"] (cN K false (λa:LLI×Unit=>([.fz false a.1]:SL K)) λa=>fS a.1))(CM:bJ P w K mg base k "check_marks" ["marks","many"] (cN K false (λa:Cz×Int×Unit=>([.fz false a.1,.fz false a.2.1]:SL K)) λa=>fM a.1 a.2.1))(CF:bJ P w K mg base k "check_fair" ["fair","many"] (cN K false (λa:LLI×Int×Unit=>([.fz false a.1,.fz false a.2.1]:SL K)) λa=>fF a.1 a.2.1))(CC:bJ P w K mg base k "copied" ["lists"] (cN K false (λa:LLI×Unit=>([.fz false a.1]:SL K)) λa=>fC a.1))(CO:bJ P w K mg base k "sources_of" ["steps"] (cN K false (λa:LLI×Unit=>([.fz false a.1]:SL K)) λa=>fO a.1)) :
  aq P w K mg base aM (k+1) f fd ["self","steps","marks","fair"] (Sh K C (Wf C fS fM fF fC fO)):=by
 refine F.ok MN (λvs H Q E h=>?_) (λcdv A outer s H vs Q E hr h=>?_)
 ·obtain⟨p,dx,vS,vM,vF,xss,mo,fo,M,rfl,_⟩:=h
  rfl
 obtain⟨p,dx,vS,vM,vF,xss,mo,fo,M,rfl,hp,rS,rM,rF,hm,q⟩:=h
 unfold Wf at hm
 obtain⟨⟨⟩,e1,hm⟩:=CG hm
 obtain⟨⟨⟩,e2,hm⟩:=CG hm
 obtain⟨⟨⟩,e3,hm⟩:=CG hm
 obtain⟨a,e4,hm⟩:=CG hm
 obtain⟨b,e5,hm⟩:=CG hm
 obtain⟨c,e6,hm⟩:=CG hm
 obtain⟨d,e7,hm⟩:=CG hm
 cases hm
 refine⟨_,zB (Dj (i:=4) MN.nd rfl (Or.inl rfl) (zLv (Ht (Vi (pv 2))) (xV zE) (pv 2)))
  (zB (Dj (i:=5) MN.nd rfl (Or.inl rfl) (zLv (Ht (Vi (pv 3))) (xV zE) (pv 3)))
  (zB (yD (zY CS hr (zA (pv 1) zE)))
  (zB (yD (zY CM hr (zA (pv 4) (zA (zR (uT K) rfl B.len abp (zA (pv 1) zE)) zE))))
  (zB (yD (zY CF hr (zA (pv 5) (zA (zR (uT K) rfl B.len abp (zA (pv 1) zE)) zE))))
  (zB (Ci (pv 0) (zY CC hr (zA (pv 1) zE)) rfl)
  (zB (Ci (pv 0) (DY (own:=["name","stands"]) (ix:=[]) rfl rfl rfl (xG K (pv 4)) (λC s H fp=>zP4 (K:=K) (n:=2) rfl rfl (yV (yS (i:=0) T8 rfl (Or.inl rfl)) (yV (yS (i:=1) T8 rfl (Or.inl rfl)) Dh))) (λC s H fp=>wV)
   (λC s H fp=>z_ (zA (pv 0) (zA (O8 (RW K) rfl B.list KZ (zA (pv 1) zE)) zE)))) rfl)
  (zB (Ci (pv 0) (zY CC hr (zA (pv 5) zE)) rfl)
  (zX (Ci (pv 0) (zY CO hr (zA (zVv (pv 0) rfl) zE)) rfl))))))))),?_⟩
 have sg0:Sg (K:=K) ⟨hid H p,H⟩ (hid H p) [.fz false (iu.mk ():iu p),.fz false xss,.fz false mo,.fz false fo,.un,.un] [some (.ref p),some vS,some vM,some vF,none,none] H :=
  ⟨hid H p,[],.refl _,zWg (.fz (show rp K _ _ (iu.mk ():iu p) from rfl) (.fz rS (.fz rM (.fz rF (.un (.un .nil))))))⟩
 refine(Sn.of (xP false 4 rfl rfl (zV6 (cU (md:=.hp) (V8 (zD 2 rfl))) (Eo.ex (ur (α:=Str×LI))) (YZ (yO 2 rfl)))) (show _=some (mo.getD []) by cases mo<;>rfl)) _ rfl (hid H p) _ _ H sg0 λσ1 H1 sg1=>?_
 refine(Sn.of (xP false 5 rfl rfl (zV6 (cU (md:=.hp) (V8 (zD 3 rfl))) (Eo.ex (ur (α:=LI))) (YZ (yO 3 rfl)))) (show _=some (fo.getD []) by cases fo<;>rfl)) _ rfl (hid H p) _ _ H1 sg1 λσ2 H2 sg2=>?_
 refine(Sn.of (Pj (md:=.hp) (zM (f:=λa:LLI×Unit=>fS a.1) (zF (zD 1 rfl) zO))) (show _=fS xss from rfl)) () e1 (hid H p) _ _ H2 sg2 λσ3 H3 sg3=>?_
 refine(Sn.of (Pj (md:=.hp) (zM (f:=λa:Cz×Int×Unit=>fM a.1 a.2.1) (zF (zD 4 rfl) (zF (Ex.sc (md:=.hp) (tM (zD 1 rfl))) zO)))) (show _=fM (mo.getD []) (xss.length:Int) from rfl)) () e2 (hid H p) _ _ H3 sg3 λσ4 H4 sg4=>?_
 refine(Sn.of (Pj (md:=.hp) (zM (f:=λa:LLI×Int×Unit=>fF a.1 a.2.1) (zF (zD 5 rfl) (zF (Ex.sc (md:=.hp) (tM (zD 1 rfl))) zO)))) (show _=fF (fo.getD []) (xss.length:Int) from rfl)) () e3 (hid H p) _ _ H4 sg4 λσ5 H5 sg5=>?_
 obtain⟨F5,O5,g5,k5,s5⟩:=sg5
 have s5:ak (K:=K) ⟨hid H p,H⟩ F5 (lo F5 O5 H5) H5 [.fz false (iu.mk ():iu p),.fz false xss,.fz false mo,.fz false fo,.fz false (mo.getD []),.fz false (fo.getD [])] σ5 O5:=s5
 cases s5 with|fz r0 s5 =>
 cases s5 with|fz r1 s5 =>
 cases s5 with|fz r2 s5 =>
 cases s5 with|fz r3 s5 =>
 cases s5 with|fz r4 s5 =>
 cases s5 with|fz r5 s5 =>
 cases s5
 rename_i v0 v1 v2 v3 v4 v5
 have r0:v0=.ref p:=r0
 subst r0
 have hF:Same F5 (hid H5 p):=λb o e=>by
  by_cases z:b=p
  ·subst z
   rcases k5.fa b o e with z|z
   ·have z:hid H b b=some o:=z
    rw[PB] at z
    cases z
   ·have z:H b=none:=z
    rw[hp] at z
    cases z
  ·rw[Lg z];exact k5.fh b o e
 have r1:rp K (hid H5 p) v1 xss:=Rp.mono hF r1
 have r2:rp K (hid H5 p) v2 mo:=Rp.mono hF r2
 have r3:rp K (hid H5 p) v3 fo:=Rp.mono hF r3
 have r4:rp K (hid H5 p) v4 (mo.getD []):=Rp.mono hF r4
 have r5:rp K (hid H5 p) v5 (fo.getD []):=Rp.mono hF r5
 have Z8:Same H H5:=k5.h0
 have WL:H5 p=some (.ins C dx []):=Z8 _ _ hp
 refine⟨_,rfl,(xss,()),a,H5,.refl _,e4,.cons (Rp.mono Sq r1) .nil,λy1 H6 s6 t1=>?_⟩
 have t1:rp K (dif H6 H5) y1 a:=t1
 have ZW:=s6 _ _ WL
 refine⟨_,rfl,p,C,dx,[],rfl,ZW,T.cl,T.nS,(by show 0<1000;decide),?_⟩
 have f1:=Rp.mono (Wg (H:=H) (p:=p) (λb o _ e=>Z8 b o e) (by rw[WL];intro z;cases z)) t1
 have kp6:∀b o,b≠p->H b=some o->(upd H6 p (.ins C dx (aH "steps" y1 []))) b=some o:=λb o n e=>by rw[zP n];exact s6 _ _ (Z8 _ _ e)
 have h6:Same (hid H5 p) (hid (upd H6 p (.ins C dx (aH "steps" y1 []))) p):=by rw[Ij];exact PJ s6
 have E2:Ex (K:=K) ⟨hid (upd H6 p (.ins C dx (aH "steps" y1 []))) p,upd H6 p (.ins C dx (aH "steps" y1 []))⟩ [.fz false (iu.mk ():iu p),.fz false xss,.fz false mo,.fz false fo,.fz false (mo.getD []),.fz false (fo.getD [])] .nw _ _ :=
  (vN (n:=false) (jM:=[.un,.un]) (no:=2) (ix:=[]) rfl rfl (xI (yO 4 rfl)) (KJ 0 1 rfl rfl (λ_=>rfl) rfl) (λx=>Cw) (λx=>Ec (zI 0 rfl) (RJ (zD 1 rfl)).ex) (λx=>rD.un (rD.un rD.nil))).ex
 refine E2 b e5 (hid (upd H6 p (.ins C dx (aH "steps" y1 []))) p) [] _ _ _ (zWg (.fz (show rp K _ _ (iu.mk ():iu p) from rfl) (.fz (Rp.mono h6 r1) (.fz (Rp.mono h6 r2) (.fz (Rp.mono h6 r3) (.fz (Rp.mono h6 r4) (.fz (Rp.mono h6 r5) .nil))))))) λy2 F7 H7 g7 t2=>?_
 have s7:=g7.hh
 have t2:rp K (dif H7 (upd H6 p (.ins C dx (aH "steps" y1 [])))) y2 b:=Rp.mono (yR g7.ok.fh) t2
 have hp7:H7 p=some (.ins C dx (aH "steps" y1 [])):=s7 _ _ zJ
 refine⟨_,rfl,p,C,dx,_,rfl,hp7,T.cl,T.nM,(by show 1<1000;decide),?_⟩
 have f2:=Rp.mono (Wg (H:=H) (p:=p) kp6 (by rw[zJ];intro z;cases z)) t2
 have kp7:∀b o,b≠p->H b=some o->(upd H7 p (.ins C dx (aH "marks" y2 (aH "steps" y1 [])))) b=some o:=λb o n e=>by rw[zP n];exact s7 _ _ (kp6 _ _ n e)
 have h7:Same (hid (upd H6 p (.ins C dx (aH "steps" y1 []))) p) (hid (upd H7 p (.ins C dx (aH "marks" y2 (aH "steps" y1 [])))) p):=by rw[Ij (H:=H7)];exact PJ s7
 refine⟨_,rfl,(fo.getD [],()),c,_,.refl _,e6,.cons (Rp.mono (h6.trans (h7.trans Sq)) r5) .nil,λy3 H8 s8 t3=>?_⟩
 have t3:rp K (dif H8 (upd H7 p (.ins C dx (aH "marks" y2 (aH "steps" y1 []))))) y3 c:=t3
 have hp8:H8 p=some (.ins C dx (aH "marks" y2 (aH "steps" y1 []))):=s8 _ _ zJ
 have l2:(aH "marks" y2 (aH "steps" y1 [])).length<1000:=by
  have a1:=bY "marks" y2 (aH "steps" y1 [])
  have a2:=bY "steps" y1 []
  have a3:([]:List (Str×V)).length=0:=rfl
  omega
 refine⟨_,rfl,p,C,dx,_,rfl,hp8,T.cl,T.nF,l2,?_⟩
 have f3:=Rp.mono (Wg (H:=H) (p:=p) kp7 (by rw[zJ];intro z;cases z)) t3
 have kp8:∀b o,b≠p->H b=some o->(upd H8 p (.ins C dx (aH "fair" y3 (aH "marks" y2 (aH "steps" y1 []))))) b=some o:=λb o n e=>by rw[zP n];exact s8 _ _ (kp7 _ _ n e)
 have h8:Same (hid (upd H7 p (.ins C dx (aH "marks" y2 (aH "steps" y1 [])))) p) (hid (upd H8 p (.ins C dx (aH "fair" y3 (aH "marks" y2 (aH "steps" y1 []))))) p):=by rw[Ij (H:=H8)];exact PJ s8
 have lk:(aH "fair" y3 (aH "marks" y2 (aH "steps" y1 []))).lookup ("steps":Str)=some y1:=by
  rw[zN,if_neg (by decide +kernel),zN,if_neg (by decide +kernel),zN,if_pos rfl]
 have d1:Same (dif (hid H6 p) (hid H p)) (hid (upd H8 p (.ins C dx (aH "fair" y3 (aH "marks" y2 (aH "steps" y1 []))))) p):=aQ.trans ((by rw[Ij];exact .refl _:Same (hid H6 p) (hid (upd H6 p (.ins C dx (aH "steps" y1 []))) p)).trans (h7.trans h8))
 refine⟨_,rfl,p,C,dx,_,_,rfl,zJ,T.cl,T.nS,lk,(a,()),d,_,.refl _,e7,.cons (Rp.mono (d1.trans Sq) f1) .nil,λy4 H9 s9 t4=>?_⟩
 have t4:rp K (dif H9 (upd H8 p (.ins C dx (aH "fair" y3 (aH "marks" y2 (aH "steps" y1 [])))))) y4 d:=t4
 have hp9:H9 p=some (.ins C dx (aH "fair" y3 (aH "marks" y2 (aH "steps" y1 [])))):=s9 _ _ zJ
 have l3:(aH "fair" y3 (aH "marks" y2 (aH "steps" y1 []))).length<1000:=by
  have a0:=bY "fair" y3 (aH "marks" y2 (aH "steps" y1 []))
  have a1:=bY "marks" y2 (aH "steps" y1 [])
  have a2:=bY "steps" y1 []
  have a3:([]:List (Str×V)).length=0:=rfl
  omega
 refine⟨_,rfl,p,C,dx,_,rfl,hp9,T.cl,T.nB,l3,?_⟩
 have f4:=Rp.mono (Wg (H:=H) (p:=p) kp8 (by rw[zJ];intro z;cases z)) t4
 have kp9:∀b o,b≠p->H b=some o->(upd H9 p (.ins C dx (aH "sources" y4 (aH "fair" y3 (aH "marks" y2 (aH "steps" y1 [])))))) b=some o:=λb o n e=>by rw[zP n];exact s9 _ _ (kp8 _ _ n e)
 have u9:Same (hid H9 p) (upd H9 p (.ins C dx (aH "sources" y4 (aH "fair" y3 (aH "marks" y2 (aH "steps" y1 [])))))):=(by rw[Ij];exact .refl _:Same (hid H9 p) (hid (upd H9 p (.ins C dx (aH "sources" y4 (aH "fair" y3 (aH "marks" y2 (aH "steps" y1 [])))))) p)).trans Sq
 have u8:Same (hid H8 p) (hid H9 p):=(by rw[Ij];exact .refl _:Same (hid H8 p) (hid (upd H8 p (.ins C dx (aH "fair" y3 (aH "marks" y2 (aH "steps" y1 []))))) p)).trans (PJ s9)
 have u7:Same (hid H7 p) (hid H8 p):=(by rw[Ij];exact .refl _:Same (hid H7 p) (hid (upd H7 p (.ins C dx (aH "marks" y2 (aH "steps" y1 [])))) p)).trans (PJ s8)
 have u6:Same (hid H6 p) (hid H7 p):=(by rw[Ij];exact .refl _:Same (hid H6 p) (hid (upd H6 p (.ins C dx (aH "steps" y1 []))) p)).trans (PJ s7)
 refine q _ kp9 ⟨p,dx,aH "sources" y4 (aH "fair" y3 (aH "marks" y2 (aH "steps" y1 []))),y1,y2,y3,y4,rfl,?_,?_,Rp.mono (yR (u6.trans (u7.trans (u8.trans u9)))) f1,?_,Rp.mono (yR (u7.trans (u8.trans u9))) f2,?_,Rp.mono (yR (u8.trans u9)) f3,?_,Rp.mono (yR u9) f4,?_⟩
 ·rw[xW PB];exact zJ
 ·rw[zN,if_neg (by decide +kernel)];exact lk
 ·rw[zN,if_neg (by decide +kernel),zN,if_neg (by decide +kernel),zN,if_pos rfl]
 ·rw[zN,if_neg (by decide +kernel),zN,if_pos rfl]
 ·rw[zN,if_pos rfl]
 ·intro g hg
  simp only[Y0,mem_cons,List.not_mem_nil,or_false] at hg
  rcases hg with rfl|rfl|rfl|rfl|rfl|rfl<;>(rw[zN,if_neg (by decide +kernel),zN,if_neg (by decide +kernel),zN,if_neg (by decide +kernel),zN,if_neg (by decide +kernel)];rfl)
end
end Ts
namespace Sy
open PySem L2
abbrev Z9:Stmt:=Ts.j4
abbrev Z_:Stmt:=Ts.kY
abbrev zPp:Stmt:=Ts.kZ
abbrev M6:Stmt:=Ts.mX
abbrev Bj:Stmt:=Ts.lZ
abbrev M7:Stmt:=Ts.mY
abbrev zEu:Stmt:=Ts.jg
abbrev zEx:Stmt:=Ts.jh
abbrev zCb:Stmt:=Ts.gW
abbrev zCc:Stmt:=Ts.gY
abbrev zEv:Stmt:=Ts.jl
abbrev zEy:Stmt:=Ts.jm
abbrev Bk:Stmt:=Ts.mj
abbrev zJ7:Stmt:=Ts.j5
abbrev zEt:Stmt:=Ts.ji
abbrev zEw:Stmt:=Ts.jk
section
variable{P:Program}{w:World}{K:PySem.W.Frag}{mg:Str->Option Value}{base:Heap}
theorem zTk:ao ["self","word","parts"] ["self","word","parts"] (zH Z9):=⟨rfl,rfl,rfl,by decide +kernel,rfl,by decide +kernel,by decide +kernel⟩
theorem zQm(F:aZ K "__init__" "Saying.__init__" Z9 f fd):aq P w K mg base aM 1 f fd ["self","word","parts"] (spS K):=by
 refine F.ok zTk (λvs H Q E h=>?_) (λcdv A outer s H vs Q E hr h=>?_)
 ·obtain⟨p,C,dx,x,y,rfl,_⟩:=h
  rfl
 obtain⟨p,C,dx,x,y,rfl,hp,T,q⟩:=h
 refine⟨_,zB (Ci (pv 0) (pv 1) rfl) (zX (Ci (pv 0) (pv 2) rfl)),?_⟩
 refine⟨_,rfl,_,rfl,p,C,dx,[],rfl,hp,T.cl,T.nW,(by show 0<1000;decide),_,rfl,_,rfl,p,C,dx,_,rfl,zJ,T.cl,T.nP,(by show 1<1000;decide),?_⟩
 exact q _ ((Kp.put p H _).trans (Kp.put p _ _)) zJ
theorem Gq:ao ["self","word","part"] ["self","word","part"] (zH Z_):=⟨rfl,rfl,rfl,by decide +kernel,rfl,by decide +kernel,by decide +kernel⟩
theorem zT5(F:aZ K "__init__" "OfOne.__init__" Z_ f fd)(mD:mg "Saying" = some (.ref D))(cD:qF K D "__init__" g)(G:aq P w K mg base aM 1 g gd ["self","word","parts"] (spS K))(bG:Binds K gd ["self","word","parts"] []) :
  aq P w K mg base aM 2 f fd ["self","word","part"] (qP K):=by
 refine F.ok Gq (λvs H Q E h=>?_) (λcdv A outer s H vs Q E hr h=>?_)
 ·obtain⟨p,C,dx,x,v,rfl,_⟩:=h
  rfl
 obtain⟨p,C,dx,x,v,rfl,hp,T,q⟩:=h
 refine⟨_,zB (yD (uN rfl mD cD G hr bG .nil xJ (zA (pv 0) (zA (pv 1) (zA (z_ (zA (pv 2) zE)) zE))))) (zX (Ci (pv 0) (pv 2) rfl)),?_⟩
 refine⟨_,rfl,_,rfl,_,rfl,(by show 1<=sizeLine;decide),λt ht=>?_⟩
 have hp1:=au ht (.tup [v]) _ _ hp
 refine⟨p,C,dx,_,_,rfl,hp1,T,λH' k1 e1=>?_⟩
 have pt:t≠p:=(zL hp ht).symm
 refine⟨_,rfl,_,rfl,p,C,dx,_,rfl,e1,T.cl,T.n1,aa7 (Wx x t) (by decide),?_⟩
 exact q t _ (((Kp.of (au ht _)).trans k1).trans (Kp.put p _ _)) ht (by rw[zP pt];exact k1 _ _ pt zJ) zJ
theorem Gs:ao ["self","word","left","right"] ["self","word","left","right"] (zH zPp):=⟨rfl,rfl,rfl,by decide +kernel,rfl,by decide +kernel,by decide +kernel⟩
theorem zT4(F:aZ K "__init__" "OfTwo.__init__" zPp f fd)(mD:mg "Saying" = some (.ref D))(cD:qF K D "__init__" g)(G:aq P w K mg base aM 1 g gd ["self","word","parts"] (spS K))(bG:Binds K gd ["self","word","parts"] []) :
  aq P w K mg base aM 2 f fd ["self","word","left","right"] (Bb K):=by
 refine F.ok Gs (λvs H Q E h=>?_) (λcdv A outer s H vs Q E hr h=>?_)
 ·obtain⟨p,C,dx,x,v,u,rfl,_⟩:=h
  rfl
 obtain⟨p,C,dx,x,v,u,rfl,hp,T,q⟩:=h
 refine⟨_,zB (yD (uN rfl mD cD G hr bG .nil xJ (zA (pv 0) (zA (pv 1) (zA (z_ (zA (pv 2) (zA (pv 3) zE))) zE))))) (zB (Ci (pv 0) (pv 2) rfl) (zX (Ci (pv 0) (pv 3) rfl))),?_⟩
 refine⟨_,rfl,_,rfl,_,rfl,_,rfl,(by show 2<=sizeLine;decide),λt ht=>?_⟩
 have hp1:=au ht (.tup [v,u]) _ _ hp
 refine⟨p,C,dx,_,_,rfl,hp1,T,λH' k1 e1=>?_⟩
 have pt:t≠p:=(zL hp ht).symm
 refine⟨_,rfl,_,rfl,p,C,dx,_,rfl,e1,T.cl,T.nL,aa7 (Wx x t) (by decide),?_⟩
 refine⟨_,rfl,_,rfl,p,C,dx,_,rfl,zJ,T.cl,T.nR,aa7 (aa8 (bY "left" v _) (aci (Wx x t))) (by decide),?_⟩
 exact q t _ ((((Kp.of (au ht _)).trans k1).trans (Kp.put p _ _)).trans (Kp.put p _ _)) ht (by rw[zP pt,zP pt];exact k1 _ _ pt zJ) zJ
theorem T9:ao ["self"] ["self"] (zH M6):=⟨rfl,rfl,rfl,by decide +kernel,rfl,by decide +kernel,by decide +kernel⟩
theorem M8(F:aZ K "__init__" "All.__init__" M6 f fd)(T:gU K C)(mD:mg "Saying" = some (.ref D))(cD:qF K D "__init__" g)(G:aq P w K mg base aM 1 g gd ["self","word","parts"] (spS K))(bG:Binds K gd ["self","word","parts"] []) :
  aq P w K mg base aM 2 f fd ["self"] (Tp C):=by
 refine F.ok T9 (λvs H Q E h=>?_) (λcdv A outer s H vs Q E hr h=>?_)
 ·obtain⟨p,dx,rfl,_⟩:=h
  rfl
 obtain⟨p,dx,rfl,hp,q⟩:=h
 refine⟨_,zX (yD (uN rfl mD cD G hr bG .nil xJ (zA (pv 0) (zA yE (zA (z_ zE) zE))))),?_⟩
 refine⟨_,rfl,(by show 0<=sizeLine;decide),λt ht=>?_⟩
 have hp1:=au ht (.tup []) _ _ hp
 have pt:t≠p:=(zL hp ht).symm
 exact⟨p,C,dx,_,_,rfl,hp1,T,λH' k1 e1=>q t H' ((Kp.of (au ht _)).trans k1) ht (k1 _ _ pt zJ) e1⟩
theorem M9:ao ["self","name"] ["self","name"] (zH Bj):=⟨rfl,rfl,rfl,by decide +kernel,rfl,by decide +kernel,by decide +kernel⟩
theorem Gu(F:aZ K "__init__" "Mark.__init__" Bj f fd)(T:gU K C)(mD:mg "Saying" = some (.ref D))(cD:qF K D "__init__" g)(G:aq P w K mg base aM 1 g gd ["self","word","parts"] (spS K))(bG:Binds K gd ["self","word","parts"] []) :
  aq P w K mg base aM 2 f fd ["self","name"] (Tq C):=by
 refine F.ok M9 (λvs H Q E h=>?_) (λcdv A outer s H vs Q E hr h=>?_)
 ·obtain⟨p,dx,x,rfl,_⟩:=h
  rfl
 obtain⟨p,dx,x,rfl,hp,q⟩:=h
 refine⟨_,zB (yD (uN rfl mD cD G hr bG .nil xJ (zA (pv 0) (zA (pv 1) (zA (z_ zE) zE))))) (zX (Ci (pv 0) (pv 1) rfl)),?_⟩
 refine⟨_,rfl,_,rfl,(by show 0<=sizeLine;decide),λt ht=>?_⟩
 have hp1:=au ht (.tup []) _ _ hp
 have pt:t≠p:=(zL hp ht).symm
 refine⟨p,C,dx,_,_,rfl,hp1,T,λH' k1 e1=>?_⟩
 refine⟨_,rfl,_,rfl,p,C,dx,_,rfl,e1,T.cl,T.nN,aa7 (Wx x t) (by decide),?_⟩
 exact q t _ (((Kp.of (au ht _)).trans k1).trans (Kp.put p _ _)) ht (by rw[zP pt];exact k1 _ _ pt zJ) zJ
end
section
variable{P:Program}{w:World}{K:PySem.W.Frag}{mg:Str->Option Value}{base:Heap}
theorem T_:ao ["self","part"] ["self","part"] (zH M7):=⟨rfl,rfl,rfl,by decide +kernel,rfl,by decide +kernel,by decide +kernel⟩
theorem M_(F:aZ K "__init__" "Not.__init__" M7 f fd)(T:gU K C)(mD:mg "OfOne" = some (.ref D))(cD:qF K D "__init__" g)(G:aq P w K mg base aM 2 g gd ["self","word","part"] (qP K))(bG:Binds K gd ["self","word","part"] []) :
  aq P w K mg base aM 3 f fd ["self","part"] (qd C "not"):=by
 refine F.ok T_ (λvs H Q E h=>?_) (λcdv A outer s H vs Q E hr h=>?_)
 ·obtain⟨p,dx,c,rfl,_⟩:=h
  rfl
 obtain⟨p,dx,c,rfl,hp,q⟩:=h
 refine⟨_,zX (yD (uN rfl mD cD G hr bG .nil xJ (zA (pv 0) (zA yE (zA (pv 1) zE))))),?_⟩
 exact⟨_,rfl,_,rfl,p,C,dx,_,_,rfl,hp,T,λq0 H' k1 f0 e1 e2=>q q0 H' k1 f0 e1 e2⟩
theorem zNg:ao ["self","part"] ["self","part"] (zH zEu):=⟨rfl,rfl,rfl,by decide +kernel,rfl,by decide +kernel,by decide +kernel⟩
theorem zKj(F:aZ K "__init__" "SomeNext.__init__" zEu f fd)(T:gU K C)(mD:mg "OfOne" = some (.ref D))(cD:qF K D "__init__" g)(G:aq P w K mg base aM 2 g gd ["self","word","part"] (qP K))(bG:Binds K gd ["self","word","part"] []) :
  aq P w K mg base aM 3 f fd ["self","part"] (qd C "somenext"):=by
 refine F.ok zNg (λvs H Q E h=>?_) (λcdv A outer s H vs Q E hr h=>?_)
 ·obtain⟨p,dx,c,rfl,_⟩:=h
  rfl
 obtain⟨p,dx,c,rfl,hp,q⟩:=h
 refine⟨_,zX (yD (uN rfl mD cD G hr bG .nil xJ (zA (pv 0) (zA yE (zA (pv 1) zE))))),?_⟩
 exact⟨_,rfl,_,rfl,p,C,dx,_,_,rfl,hp,T,λq0 H' k1 f0 e1 e2=>q q0 H' k1 f0 e1 e2⟩
theorem zNj:ao ["self","part"] ["self","part"] (zH zEx):=⟨rfl,rfl,rfl,by decide +kernel,rfl,by decide +kernel,by decide +kernel⟩
theorem zKm(F:aZ K "__init__" "EachNext.__init__" zEx f fd)(T:gU K C)(mD:mg "OfOne" = some (.ref D))(cD:qF K D "__init__" g)(G:aq P w K mg base aM 2 g gd ["self","word","part"] (qP K))(bG:Binds K gd ["self","word","part"] []) :
  aq P w K mg base aM 3 f fd ["self","part"] (qd C "eachnext"):=by
 refine F.ok zNj (λvs H Q E h=>?_) (λcdv A outer s H vs Q E hr h=>?_)
 ·obtain⟨p,dx,c,rfl,_⟩:=h
  rfl
 obtain⟨p,dx,c,rfl,hp,q⟩:=h
 refine⟨_,zX (yD (uN rfl mD cD G hr bG .nil xJ (zA (pv 0) (zA yE (zA (pv 1) zE))))),?_⟩
 exact⟨_,rfl,_,rfl,p,C,dx,_,_,rfl,hp,T,λq0 H' k1 f0 e1 e2=>q q0 H' k1 f0 e1 e2⟩
theorem zIg:ao ["self","part"] ["self","part"] (zH zCb):=⟨rfl,rfl,rfl,by decide +kernel,rfl,by decide +kernel,by decide +kernel⟩
theorem zHl(F:aZ K "__init__" "SomeAlways.__init__" zCb f fd)(T:gU K C)(mD:mg "OfOne" = some (.ref D))(cD:qF K D "__init__" g)(G:aq P w K mg base aM 2 g gd ["self","word","part"] (qP K))(bG:Binds K gd ["self","word","part"] []) :
  aq P w K mg base aM 3 f fd ["self","part"] (qd C "somealways"):=by
 refine F.ok zIg (λvs H Q E h=>?_) (λcdv A outer s H vs Q E hr h=>?_)
 ·obtain⟨p,dx,c,rfl,_⟩:=h
  rfl
 obtain⟨p,dx,c,rfl,hp,q⟩:=h
 refine⟨_,zX (yD (uN rfl mD cD G hr bG .nil xJ (zA (pv 0) (zA yE (zA (pv 1) zE))))),?_⟩
 exact⟨_,rfl,_,rfl,p,C,dx,_,_,rfl,hp,T,λq0 H' k1 f0 e1 e2=>q q0 H' k1 f0 e1 e2⟩
theorem zIh:ao ["self","part"] ["self","part"] (zH zCc):=⟨rfl,rfl,rfl,by decide +kernel,rfl,by decide +kernel,by decide +kernel⟩
theorem zHm(F:aZ K "__init__" "EachAlways.__init__" zCc f fd)(T:gU K C)(mD:mg "OfOne" = some (.ref D))(cD:qF K D "__init__" g)(G:aq P w K mg base aM 2 g gd ["self","word","part"] (qP K))(bG:Binds K gd ["self","word","part"] []) :
  aq P w K mg base aM 3 f fd ["self","part"] (qd C "eachalways"):=by
 refine F.ok zIh (λvs H Q E h=>?_) (λcdv A outer s H vs Q E hr h=>?_)
 ·obtain⟨p,dx,c,rfl,_⟩:=h
  rfl
 obtain⟨p,dx,c,rfl,hp,q⟩:=h
 refine⟨_,zX (yD (uN rfl mD cD G hr bG .nil xJ (zA (pv 0) (zA yE (zA (pv 1) zE))))),?_⟩
 exact⟨_,rfl,_,rfl,p,C,dx,_,_,rfl,hp,T,λq0 H' k1 f0 e1 e2=>q q0 H' k1 f0 e1 e2⟩
theorem zNh:ao ["self","part"] ["self","part"] (zH zEv):=⟨rfl,rfl,rfl,by decide +kernel,rfl,by decide +kernel,by decide +kernel⟩
theorem zKk(F:aZ K "__init__" "SomeEver.__init__" zEv f fd)(T:gU K C)(mD:mg "OfOne" = some (.ref D))(cD:qF K D "__init__" g)(G:aq P w K mg base aM 2 g gd ["self","word","part"] (qP K))(bG:Binds K gd ["self","word","part"] []) :
  aq P w K mg base aM 3 f fd ["self","part"] (qd C "someever"):=by
 refine F.ok zNh (λvs H Q E h=>?_) (λcdv A outer s H vs Q E hr h=>?_)
 ·obtain⟨p,dx,c,rfl,_⟩:=h
  rfl
 obtain⟨p,dx,c,rfl,hp,q⟩:=h
 refine⟨_,zX (yD (uN rfl mD cD G hr bG .nil xJ (zA (pv 0) (zA yE (zA (pv 1) zE))))),?_⟩
 exact⟨_,rfl,_,rfl,p,C,dx,_,_,rfl,hp,T,λq0 H' k1 f0 e1 e2=>q q0 H' k1 f0 e1 e2⟩
theorem zNk:ao ["self","part"] ["self","part"] (zH zEy):=⟨rfl,rfl,rfl,by decide +kernel,rfl,by decide +kernel,by decide +kernel⟩
theorem zKn(F:aZ K "__init__" "EachEver.__init__" zEy f fd)(T:gU K C)(mD:mg "OfOne" = some (.ref D))(cD:qF K D "__init__" g)(G:aq P w K mg base aM 2 g gd ["self","word","part"] (qP K))(bG:Binds K gd ["self","word","part"] []) :
  aq P w K mg base aM 3 f fd ["self","part"] (qd C "eachever"):=by
 refine F.ok zNk (λvs H Q E h=>?_) (λcdv A outer s H vs Q E hr h=>?_)
 ·obtain⟨p,dx,c,rfl,_⟩:=h
  rfl
 obtain⟨p,dx,c,rfl,hp,q⟩:=h
 refine⟨_,zX (yD (uN rfl mD cD G hr bG .nil xJ (zA (pv 0) (zA yE (zA (pv 1) zE))))),?_⟩
 exact⟨_,rfl,_,rfl,p,C,dx,_,_,rfl,hp,T,λq0 H' k1 f0 e1 e2=>q q0 H' k1 f0 e1 e2⟩
theorem Nb:ao ["self","left","right"] ["self","left","right"] (zH Bk):=⟨rfl,rfl,rfl,by decide +kernel,rfl,by decide +kernel,by decide +kernel⟩
theorem Gv(F:aZ K "__init__" "Both.__init__" Bk f fd)(T:gU K C)(mD:mg "OfTwo" = some (.ref D))(cD:qF K D "__init__" g)(G:aq P w K mg base aM 2 g gd ["self","word","left","right"] (Bb K))(bG:Binds K gd ["self","word","left","right"] []) :
  aq P w K mg base aM 3 f fd ["self","left","right"] (vf C "both"):=by
 refine F.ok Nb (λvs H Q E h=>?_) (λcdv A outer s H vs Q E hr h=>?_)
 ·obtain⟨p,dx,c,d,rfl,_⟩:=h
  rfl
 obtain⟨p,dx,c,d,rfl,hp,q⟩:=h
 refine⟨_,zX (yD (uN rfl mD cD G hr bG .nil xJ (zA (pv 0) (zA yE (zA (pv 1) (zA (pv 2) zE)))))),?_⟩
 exact⟨_,rfl,_,rfl,_,rfl,p,C,dx,_,_,_,rfl,hp,T,λq0 H' k1 f0 e1 e2=>q q0 H' k1 f0 e1 e2⟩
theorem zTl:ao ["self","left","right"] ["self","left","right"] (zH zJ7):=⟨rfl,rfl,rfl,by decide +kernel,rfl,by decide +kernel,by decide +kernel⟩
theorem zQn(F:aZ K "__init__" "Either.__init__" zJ7 f fd)(T:gU K C)(mD:mg "OfTwo" = some (.ref D))(cD:qF K D "__init__" g)(G:aq P w K mg base aM 2 g gd ["self","word","left","right"] (Bb K))(bG:Binds K gd ["self","word","left","right"] []) :
  aq P w K mg base aM 3 f fd ["self","left","right"] (vf C "either"):=by
 refine F.ok zTl (λvs H Q E h=>?_) (λcdv A outer s H vs Q E hr h=>?_)
 ·obtain⟨p,dx,c,d,rfl,_⟩:=h
  rfl
 obtain⟨p,dx,c,d,rfl,hp,q⟩:=h
 refine⟨_,zX (yD (uN rfl mD cD G hr bG .nil xJ (zA (pv 0) (zA yE (zA (pv 1) (zA (pv 2) zE)))))),?_⟩
 exact⟨_,rfl,_,rfl,_,rfl,p,C,dx,_,_,_,rfl,hp,T,λq0 H' k1 f0 e1 e2=>q q0 H' k1 f0 e1 e2⟩
theorem zNf:ao ["self","left","right"] ["self","left","right"] (zH zEt):=⟨rfl,rfl,rfl,by decide +kernel,rfl,by decide +kernel,by decide +kernel⟩
theorem zKi(F:aZ K "__init__" "SomeTill.__init__" zEt f fd)(T:gU K C)(mD:mg "OfTwo" = some (.ref D))(cD:qF K D "__init__" g)(G:aq P w K mg base aM 2 g gd ["self","word","left","right"] (Bb K))(bG:Binds K gd ["self","word","left","right"] []) :
  aq P w K mg base aM 3 f fd ["self","left","right"] (vf C "sometill"):=by
 refine F.ok zNf (λvs H Q E h=>?_) (λcdv A outer s H vs Q E hr h=>?_)
 ·obtain⟨p,dx,c,d,rfl,_⟩:=h
  rfl
 obtain⟨p,dx,c,d,rfl,hp,q⟩:=h
 refine⟨_,zX (yD (uN rfl mD cD G hr bG .nil xJ (zA (pv 0) (zA yE (zA (pv 1) (zA (pv 2) zE)))))),?_⟩
 exact⟨_,rfl,_,rfl,_,rfl,p,C,dx,_,_,_,rfl,hp,T,λq0 H' k1 f0 e1 e2=>q q0 H' k1 f0 e1 e2⟩
theorem zNi:ao ["self","left","right"] ["self","left","right"] (zH zEw):=⟨rfl,rfl,rfl,by decide +kernel,rfl,by decide +kernel,by decide +kernel⟩
theorem zKl(F:aZ K "__init__" "EachTill.__init__" zEw f fd)(T:gU K C)(mD:mg "OfTwo" = some (.ref D))(cD:qF K D "__init__" g)(G:aq P w K mg base aM 2 g gd ["self","word","left","right"] (Bb K))(bG:Binds K gd ["self","word","left","right"] []) :
  aq P w K mg base aM 3 f fd ["self","left","right"] (vf C "eachtill"):=by
 refine F.ok zNi (λvs H Q E h=>?_) (λcdv A outer s H vs Q E hr h=>?_)
 ·obtain⟨p,dx,c,d,rfl,_⟩:=h
  rfl
 obtain⟨p,dx,c,d,rfl,hp,q⟩:=h
 refine⟨_,zX (yD (uN rfl mD cD G hr bG .nil xJ (zA (pv 0) (zA yE (zA (pv 1) (zA (pv 2) zE)))))),?_⟩
 exact⟨_,rfl,_,rfl,_,rfl,p,C,dx,_,_,_,rfl,hp,T,λq0 H' k1 f0 e1 e2=>q q0 H' k1 f0 e1 e2⟩
end
open PySem L2 Ts
abbrev zVo:Stmt:=Ts.pC
abbrev I_:Stmt:=Ts.qU
abbrev zPo:Stmt:=Ts.m6
section
variable{P:Program}{w:World}{K:PySem.W.Frag}{mg:Str->Option Value}{base:Heap}
theorem vac(no:∀vs H Q E,¬sp vs H Q E):aq P w K mg base aM k f fd ps sp :=
 ⟨λvs H Q E h=>absurd h (no vs H Q E),λA outer s H args us vs Q E _ _ _ _ h=>absurd h (no vs H Q E)⟩
def Ua:Sp:=λvs H Q _=>∃(a:Addr)(ns:LI),vs=[.ref a]/\H a=some (.lst (ns.map V.int))/\∀(z:Int)(ns':LI)(H':Hp),Kp a H H'->H' a=some (.lst (ns'.map V.int))->Q (.int z) H'
end
section
variable{P:Program}{w:World}{K:PySem.W.Frag}{mg:Str->Option Value}{base:Heap}
def ZK(Z:Hp)(a:Addr)(H:Hp):Prop:=∀b o,Z b=some o->b≠a/\H b=some o
theorem ZK.kp(z:ZK Z a H)(k:Kp a H H'):ZK Z a H':=λb o e=>⟨(z b o e).1,k b o (z b o e).1 (z b o e).2⟩
theorem ZK.free(z:ZK Z a H)(h:H p=none):Z p=none:=by
 cases q:Z p with
 |none=>rfl
 |some o=>rw[(z p o q).2] at h;cases h
theorem ZK.new(z:ZK Z a H)(h:H p=none):dif (upd H p o) Z p=some o:=by rw[xW (z.free h)];exact zJ
theorem aY.aac(h:aY (dif H Z) v t)(e:H a=some (.lst xs))(k:Kp a H H'):aY (dif H' Z) v t:=h.mono λc ys q=>by
 unfold dif at q ⊢
 cases hz:Z c with
 |some u=>rw[hz] at q;cases q
 |none=>rw[hz] at q;exact k c _ (λn=>by subst n;have q:H c=some (.tup ys):=q;rw[e] at q;cases q) q
def Gw(K:PySem.W.Frag)(n:Nat):Sp:=λvs H Q _=>∃(a b:Addr)(d:Nat)(ns:LI)(xs:List Str),vs=[.ref a,.ref b,.int d]/\d<n/\H a=some (.lst (ns.map V.int))/\aO K H b (xs.map V.str)/\b≠a/\xs.length<=1000 /\
 ∃Z:Hp,ZK Z a H/\∀(v:V)(t:Tr)(ns':LI)(H':Hp),Kp a H H'->H' a=some (.lst (ns'.map V.int))->aY (dif H' Z) v t->t.depth<=d->Q v H'
theorem vq:ao ["_law_rest","_law_names","_law_deep","_law_cell_here","_law_way","_law_word","_law_left"] ["_law_rest","_law_names","_law_deep"] (zH zVo):=⟨rfl,rfl,rfl,by decide +kernel,rfl,by decide +kernel,by decide +kernel⟩
theorem Ub(h0:0<=c)(h1:c<7):∃i:Fin 7,cj [V.str "not",V.str "somenext",V.str "eachnext",V.str "somealways",V.str "eachalways",V.str "someever",V.str "eachever"] c=some (.str (w1 i)):=by
 have h:c=0\/c=1\/c=2\/c=3\/c=4\/c=5\/c=6:=by omega
 rcases h with rfl|rfl|rfl|rfl|rfl|rfl|rfl
 ·exact⟨0,rfl⟩
 ·exact⟨1,rfl⟩
 ·exact⟨2,rfl⟩
 ·exact⟨3,rfl⟩
 ·exact⟨4,rfl⟩
 ·exact⟨5,rfl⟩
 ·exact⟨6,rfl⟩
theorem Uc(h0:0<=c)(h1:c<4):∃i:Fin 4,cj [V.str "both",V.str "either",V.str "sometill",V.str "eachtill"] c=some (.str (w2 i)):=by
 have h:c=0\/c=1\/c=2\/c=3:=by omega
 rcases h with rfl|rfl|rfl|rfl
 ·exact⟨0,rfl⟩
 ·exact⟨1,rfl⟩
 ·exact⟨2,rfl⟩
 ·exact⟨3,rfl⟩
set_option maxHeartbeats 4000000 in
theorem Ja(F:aZ K "_law_grown" "_law_grown" zVo f fd)(bF:Binds K fd ["_law_rest","_law_names","_law_deep"] [])(mF:mg "_law_grown" = some (.ref f))(GC:aq P w K mg base aM 1 g gd ["_law_rest"] Ua)(bC:Binds K gd ["_law_rest"] [])(kC:keepIn K (.ref g)=true)(mC:mg "_law_cell" = some (.ref g))(B:Bl K mg) :
  ∀n:Nat,aq P w K mg base aM (n+2) f fd ["_law_rest","_law_names","_law_deep"] (Gw K n)
 |0=>vac λvs H Q E h=>by
  obtain⟨_,_,_,_,_,_,h,_⟩:=h
  exact acr _ h
 |n+1=>by
  have G:=Ja F bF mF GC bC kC mC B n
  refine F.ok vq (λvs H Q E h=>?_) (λcdv A outer s H vs Q E hr h=>?_)
  ·obtain⟨a,b,d,ns,xs,rfl,_⟩:=h
   rfl
  obtain⟨a,b,d,ns,xs,rfl,hdn,hA,hB,hba,Pb,Z,hz,q⟩:=h
  refine⟨_,zB (Dj (i:=3) vq.nd rfl (Or.inl rfl) (HB (GC.mono (by omega)) hr rfl mC kC bC .nil xJ (zA (pv 0) zE)))
   (zB (Dj (i:=4) vq.nd rfl (Or.inl rfl) (xC ug (pv 3) zK))
   (zB (yT (PW.pt (pw_or (zZ qH (pv 2) zK (yI _)) (pw_or1 (zZ QV (pv 4) zK (yI _)))))
    (zB (yT (PW.pt (pw_or (zZ qH (pv 4) zK (yI _)) (pw_or1 (zZ qH (zR vV rfl B.len abp (zA (pv 1) zE)) zK (yI _))))) (zX (zQ (z_ (zA yE zE)))) zG)
     (zX (zQ (z_ (zA yE (zA (yM wN (pv 1) (xC ug (xC Dm (pv 3) zK) (zR vV rfl B.len abp (zA (pv 1) zE))) (λ_ _=>rfl)) zE)))))) zG)
   (zB (yT (zZ QV (pv 4) zK (yI _))
    (zB (Dj (i:=5) vq.nd rfl (Or.inl rfl) (yM wN (xV (zA yE (zA yE (zA yE (zA yE (zA yE (zA yE (zA yE zE)))))))) (xC ug (xC Dm (pv 3) zK) zK) (λ_ _=>rfl)))
     (zX (zQ (z_ (zA (pv 5) (zA (HB G hr rfl mF F.kp bF .nil xJ (zA (pv 0) (zA (pv 1) (zA (xC XD (pv 2) zK) zE)))) zE)))))) zG)
   (zB (Dj (i:=5) vq.nd rfl (Or.inl rfl) (yM wN (xV (zA yE (zA yE (zA yE (zA yE zE))))) (xC ug (xC Dm (pv 3) zK) zK) (λ_ _=>rfl)))
   (zB (Dj (i:=6) vq.nd rfl (Or.inl rfl) (HB G hr rfl mF F.kp bF .nil xJ (zA (pv 0) (zA (pv 1) (zA (xC XD (pv 2) zK) zE)))))
   (zX (zQ (z_ (zA (pv 5) (zA (pv 6) (zA (HB G hr rfl mF F.kp bF .nil xJ (zA (pv 0) (zA (pv 1) (zA (xC XD (pv 2) zK) zE)))) zE))))))))))),?_⟩
  refine⟨_,rfl,a,ns,rfl,hA,λc WW H1 k1 e1=>?_⟩
  have Qi:=Ww hB hba k1
  have hz1:=hz.kp k1
  refine⟨_,rfl,_,_,rfl,rfl,(by show(0:Int)<16;decide),?_⟩
  have c0:=ac6 (c/16) (show(7:Int)≠0 by decide)
  have c1:=acs (c/16) (show(0:Int)<7 by decide)
  have c2:=ac6 (c/16) (show(4:Int)≠0 by decide)
  have c3:=acs (c/16) (show(0:Int)<4 by decide)
  have stop:∀{D:Ends},D.rt=Q->iZ (uf (Xp (Vq (jR XJ (bT 4) (tC (.int 0)))) (Vq (jR XJ (tu (λxs H Q=>∃p ys,xs=[V.ref p]/\(aO K H p ys\/cu K H p ys)/\Q (.int ys.length) H) (yJ (bT 1) bh)) (tC (.int 0))))) (rJ (uh (yJ (tC (.str "all")) bh))) JK)
    (rJ (uh (yJ (tC (.str "mark")) (yJ (jR (rQ K) (bT 1) (jR (rI (λ_ j=>0<j) λi j=>.int (i%j)) (jR (rI J6 λi j=>.int (i/j)) (bT 3) (tC (.int 16))) (tu (λxs H Q=>∃p ys,xs=[V.ref p]/\(aO K H p ys\/cu K H p ys)/\Q (.int ys.length) H) (yJ (bT 1) bh)))) bh)))) D
    [some (.ref a),some (.ref b),some (.int d),some (.int c),some (.int (c%16)),none,none] H1:=by
   intro D hD
   have Jb:∀p,H1 p=none->D.rt (.ref p) (upd H1 p (.tup [.str "all"])):=λp hp=>by
    rw[hD]
    exact q _ .all WW _ (k1.trans (Kp.of (au hp _))) (au hp _ _ _ e1) (.all (hz1.new hp)) (abj _)
   refine⟨_,rfl,rfl,_,rfl,?_⟩
   refine Ag (λ_=>ig ⟨(by show 1<=sizeLine;decide),Jb⟩) (λ_=>?_)
   refine⟨_,rfl,b,_,rfl,.inl Qi,rfl,_,rfl,Ag (λ_=>⟨(by show 1<=sizeLine;decide),Jb⟩) (λhne=>?_)⟩
   have hx0:xs.length≠0:=λe=>hne (by rw[length_map,e];exact decide_eq_true rfl)
   have hpos:(0:Int)<((xs.map V.str).length:Int):=by rw[length_map];omega
   have d0:=ac6 (c/16) (show((xs.map V.str).length:Int)≠0 by omega)
   have d1:=acs (c/16) hpos
   rw[length_map] at d0 d1
   have hil:((c/16)%(xs.length:Int)).toNat<xs.length:=by omega
   have hat:cj (xs.map V.str) ((((c/16)%(xs.length:Int)).toNat:Nat):Int)=some (.str xs[((c/16)%(xs.length:Int)).toNat]):=Yb (by rw[getElem?_map,aaz hil]<;>rfl)
   rw[show((((c/16)%(xs.length:Int)).toNat:Nat):Int)=(c/16)%(xs.length:Int) by omega] at hat
   refine⟨_,rfl,_,rfl,_,_,rfl,rfl,⟨by decide,by decide⟩,_,rfl,b,_,rfl,.inl Qi,_,_,rfl,rfl,hpos,b,_,_,_,rfl,rfl,Qi,(by rw[length_map];exact hat),(by show 2<=sizeLine;decide),λp hp=>?_⟩
   rw[hD]
   exact q _ (.mark _) WW _ (k1.trans (Kp.of (au hp _))) (au hp _ _ _ e1) (.mark (hz1.new hp)) (abj _)
  refine⟨_,rfl,rfl,_,rfl,?_⟩
  refine Ag (λ_=>ig (stop rfl)) (λhd0=>?_)
  have hd1:1<=d:=by
   have:¬((d:Int)=0):=λe=>hd0 (by rw[e];exact decide_eq_true rfl)
   omega
  refine⟨_,rfl,_,_,rfl,rfl,_,rfl,?_⟩
  refine Ag (λ_=>stop rfl) (λ_=>?_)
  have dm:(d:Int)-1=((d-1:Nat):Int):=by omega
  refine⟨_,rfl,_,_,rfl,rfl,_,rfl,Ag (λ_=>?_) (λ_=>?_)⟩
  ·obtain⟨i,hi⟩:=Ub c0 c1
   refine⟨(by show 7<=sizeLine;decide),λt0 h0=>?_⟩
   have k2:=Kp.of (p:=a) (au h0 (.lst [V.str "not",V.str "somenext",V.str "eachnext",V.str "somealways",V.str "eachalways",V.str "someever",V.str "eachever"]))
   have at0:a≠t0:=zL e1 h0
   refine⟨_,rfl,_,_,rfl,rfl,⟨by decide,by decide⟩,_,_,rfl,rfl,(by show(0:Int)<7;decide),t0,_,_,_,rfl,rfl,aO.of zJ,hi,?_⟩
   refine⟨_,rfl,_,rfl,_,rfl,_,rfl,_,_,rfl,rfl,a,b,d-1,WW,xs,congrArg (λz=>[V.ref a,V.ref b,V.int z]) dm,by omega,by rw[zP at0];exact e1,Ww Qi hba k2,hba,Pb,Z,hz1.kp k2,λv t ns2 H2 k3 e2 ht hdt=>?_⟩
   refine⟨(by show 2<=sizeLine;decide),λp hp=>?_⟩
   refine q _ (.one i t) ns2 _ (((k1.trans k2).trans k3).trans (Kp.of (au hp _))) (au hp _ _ _ e2) (.one (((hz1.kp k2).kp k3).new hp) (ht.same (yR (au hp _)))) ?_
   show t.depth+1<=d
   omega
  ·obtain⟨i,hi⟩:=Uc c2 c3
   refine⟨(by show 4<=sizeLine;decide),λt0 h0=>?_⟩
   have k2:=Kp.of (p:=a) (au h0 (.lst [V.str "both",V.str "either",V.str "sometill",V.str "eachtill"]))
   have at0:a≠t0:=zL e1 h0
   refine⟨_,rfl,_,_,rfl,rfl,⟨by decide,by decide⟩,_,_,rfl,rfl,(by show(0:Int)<4;decide),t0,_,_,_,rfl,rfl,aO.of zJ,hi,?_⟩
   refine⟨_,rfl,_,rfl,_,rfl,_,_,rfl,rfl,a,b,d-1,WW,xs,congrArg (λz=>[V.ref a,V.ref b,V.int z]) dm,by omega,by rw[zP at0];exact e1,Ww Qi hba k2,hba,Pb,Z,hz1.kp k2,λv t ns2 H2 k3 e2 ht hdt=>?_⟩
   refine⟨_,rfl,_,rfl,_,rfl,_,rfl,_,rfl,_,_,rfl,rfl,a,b,d-1,ns2,xs,congrArg (λz=>[V.ref a,V.ref b,V.int z]) dm,by omega,e2,Ww Qi hba (k2.trans k3),hba,Pb,Z,(hz1.kp k2).kp k3,λv' t' ns3 H3 k4 e3 ht' hdt'=>?_⟩
   refine⟨(by show 3<=sizeLine;decide),λp hp=>?_⟩
   have ht3:=(ht.aac e2 k4).same (yR (au hp (.tup [V.str (w2 i),v,v'])))
   refine q _ (.two i t t') ns3 _ ((((k1.trans k2).trans k3).trans k4).trans (Kp.of (au hp _))) (au hp _ _ _ e3) (.two ((((hz1.kp k2).kp k3).kp k4).new hp) ht3 (ht'.same (yR (au hp _)))) ?_
   show max t.depth t'.depth+1<=d
   omega
end
section
variable{P:Program}{w:World}{K:PySem.W.Frag}{mg:Str->Option Value}{base:Heap}{cl fi:Hd->Addr}{di:Hd->FuncData}
theorem Nf(sz:Same Z H)(hc:aW cl (dif H Z) c t)(hσ:σ[1]?=some (some (.ref c)))(k:∀(p:Addr) (H':Hp),Same H H'->aW cl (dif H' Z) p (.one i t)->Q (.ref p) H') :
  QX (cl (.one i)) (qd (cl (.one i)) (w1 i)) [] E0 (yJ (bT 1) bh) σ H Q:=by
 refine⟨_,hσ,?_⟩
 intro x dx nx nd ne
 exact⟨x,dx,.ref c,rfl,zJ,λq H' k1 f0 e1 e2=>⟨rfl,k x H' (Ma nx nd k1) (.one (by rw[xW (sz.free nx)];exact e2) (by rw[xW (sz.free ((Tt nx nd).free f0))];exact e1) (hc.same (yR (Ma nx nd k1))))⟩⟩
def Ng(cl:Hd->Addr):Sp:=λvs H Q _=>∃(Z:Hp)(i:Fin 7)(c:Addr)(t:Tr),vs=[.str (w1 i),.ref c]/\Same Z H/\aW cl (dif H Z) c t/\∀(p:Addr)(H':Hp),Same H H'->aW cl (dif H' Z) p (.one i t)->Q (.ref p) H'
theorem aad:ao ["_law_word","_law_part"] ["_law_word","_law_part"] (zH zPo):=⟨rfl,rfl,rfl,by decide +kernel,rfl,by decide +kernel,by decide +kernel⟩
theorem fi7:∀i:Fin 7,i=0\/i=1\/i=2\/i=3\/i=4\/i=5\/i=6:=by decide
theorem fi4:∀i:Fin 4,i=0\/i=1\/i=2\/i=3:=by decide
theorem jo(h:¬x=y):¬V.str x=V.str y:=λe=>h (V.str.inj e)
set_option maxHeartbeats 4000000 in
theorem Ud(F:aZ K "_law_single" "_law_single" zPo f fd)(I:ZP P w K mg base 3 cl fi di):aq P w K mg base aM 5 f fd ["_law_word","_law_part"] (Ng cl):=by
 refine F.ok aad (λvs H Q E h=>?_) (λcdv A outer s H vs Q E hr h=>?_)
 ·obtain⟨_,i,c,t,rfl,_⟩:=h
  rfl
 obtain⟨Z,i,c,t,rfl,sz,hc,q⟩:=h
 refine⟨_,zB (yT (zZ qH (pv 0) yE (yI _)) (zX (zQ (wM (I.made (.one 0)) (I.i1 0) hr rfl (I.m1 0) (I.b1 0) .nil xJ (zA (pv 1) zE)))) zG)
  (zB (yT (zZ qH (pv 0) yE (yI _)) (zX (zQ (wM (I.made (.one 1)) (I.i1 1) hr rfl (I.m1 1) (I.b1 1) .nil xJ (zA (pv 1) zE)))) zG)
  (zB (yT (zZ qH (pv 0) yE (yI _)) (zX (zQ (wM (I.made (.one 2)) (I.i1 2) hr rfl (I.m1 2) (I.b1 2) .nil xJ (zA (pv 1) zE)))) zG)
  (zB (yT (zZ qH (pv 0) yE (yI _)) (zX (zQ (wM (I.made (.one 3)) (I.i1 3) hr rfl (I.m1 3) (I.b1 3) .nil xJ (zA (pv 1) zE)))) zG)
  (zB (yT (zZ qH (pv 0) yE (yI _)) (zX (zQ (wM (I.made (.one 4)) (I.i1 4) hr rfl (I.m1 4) (I.b1 4) .nil xJ (zA (pv 1) zE)))) zG)
  (zB (yT (zZ qH (pv 0) yE (yI _)) (zX (zQ (wM (I.made (.one 5)) (I.i1 5) hr rfl (I.m1 5) (I.b1 5) .nil xJ (zA (pv 1) zE)))) zG)
  (zX (zQ (wM (I.made (.one 6)) (I.i1 6) hr rfl (I.m1 6) (I.b1 6) .nil xJ (zA (pv 1) zE))))))))),?_⟩
 rcases fi7 i with rfl|rfl|rfl|rfl|rfl|rfl|rfl
 ·exact⟨_,rfl,rfl,_,rfl,tW rfl (Nf sz hc rfl q)⟩
 ·exact⟨_,rfl,rfl,_,rfl,bW (jo (by decide +kernel)) ⟨_,rfl,rfl,_,rfl,tW rfl (Nf sz hc rfl q)⟩⟩
 ·exact⟨_,rfl,rfl,_,rfl,bW (jo (by decide +kernel)) ⟨_,rfl,rfl,_,rfl,bW (jo (by decide +kernel)) ⟨_,rfl,rfl,_,rfl,tW rfl (Nf sz hc rfl q)⟩⟩⟩
 ·exact⟨_,rfl,rfl,_,rfl,bW (jo (by decide +kernel)) ⟨_,rfl,rfl,_,rfl,bW (jo (by decide +kernel)) ⟨_,rfl,rfl,_,rfl,bW (jo (by decide +kernel)) ⟨_,rfl,rfl,_,rfl,tW rfl (Nf sz hc rfl q)⟩⟩⟩⟩
 ·exact⟨_,rfl,rfl,_,rfl,bW (jo (by decide +kernel)) ⟨_,rfl,rfl,_,rfl,bW (jo (by decide +kernel)) ⟨_,rfl,rfl,_,rfl,bW (jo (by decide +kernel)) ⟨_,rfl,rfl,_,rfl,bW (jo (by decide +kernel)) ⟨_,rfl,rfl,_,rfl,tW rfl (Nf sz hc rfl q)⟩⟩⟩⟩⟩
 ·exact⟨_,rfl,rfl,_,rfl,bW (jo (by decide +kernel)) ⟨_,rfl,rfl,_,rfl,bW (jo (by decide +kernel)) ⟨_,rfl,rfl,_,rfl,bW (jo (by decide +kernel)) ⟨_,rfl,rfl,_,rfl,bW (jo (by decide +kernel)) ⟨_,rfl,rfl,_,rfl,bW (jo (by decide +kernel)) ⟨_,rfl,rfl,_,rfl,tW rfl (Nf sz hc rfl q)⟩⟩⟩⟩⟩⟩
 ·exact⟨_,rfl,rfl,_,rfl,bW (jo (by decide +kernel)) ⟨_,rfl,rfl,_,rfl,bW (jo (by decide +kernel)) ⟨_,rfl,rfl,_,rfl,bW (jo (by decide +kernel)) ⟨_,rfl,rfl,_,rfl,bW (jo (by decide +kernel)) ⟨_,rfl,rfl,_,rfl,bW (jo (by decide +kernel)) ⟨_,rfl,rfl,_,rfl,bW (jo (by decide +kernel)) (Nf sz hc rfl q)⟩⟩⟩⟩⟩⟩
def Nh(cl:Hd->Addr)(n:Nat):Sp:=λvs H Q _=>∃(Z:Hp)(v:V)(t:Tr),vs=[v]/\Same Z H/\aY H v t/\t.depth<n/\t.depth<8/\∀(p:Addr)(H':Hp),Same H H'->aW cl (dif H' Z) p t->Q (.ref p) H'
theorem Ue:ao ["_law_tree","_law_parts"] ["_law_tree"] (zH I_):=⟨rfl,rfl,rfl,by decide +kernel,rfl,by decide +kernel,by decide +kernel⟩
theorem aae:(["_law_part"]:List Str).Nodup:=by decide +kernel
theorem zCi(s:Same H H'):∀{cs:List Addr}{ts:List Tr},Paired (aW cl H) cs ts->Paired (aW cl H') cs ts
 |_,_,.nil=>.nil
 |_,_,.cons r t=>.cons (r.same s) (zCi s t)
theorem zP8{α β:Type}{F:α->β->Prop}{ts:List β}{cs:List α}{t:β}{c:α}(h:Paired F cs (ts.take i))(ht:ts[i]?=some t)(f:F c t):Paired F (cs++[c]) (ts.take (i+1)):=by
 rw[take_add_one,ht]
 exact aga h f
theorem zGg(sz:Same Z H)(hb:cu K H b vs)(hp:Paired (aY H) vs ts)(hd:∀t∈ts,t.depth<n/\t.depth<8)(hz:vs.length<=2)(k:∀(l:Addr) (cs:List Addr) (H':Hp),Same H H'->H' l=some (.lst (cs.map V.ref))->H l=none->Paired (aW cl (dif H' Z)) cs ts->Q (.ref l) H') :
  Pa 1 [] (uV 0) rT (Cj (Nh cl n) [] E0 (yJ (bT 0) bh)) σ Q (JZ K b) H:=by
 have hln:=hp.length
 refine zUz (K:=K) (a:=b) (xs:=vs) (λi ys σ H2=>∃(cs:List Addr)(v:Option V),ys=cs.map V.ref/\σ=[v]/\Same H H2/\Paired (aW cl (dif H2 Z)) cs (ts.take i)/\cs.length=i)
  ⟨[],none,rfl,rfl,Same.refl H,.nil,rfl⟩ (λi ys σ H2 _ ⟨cs,v,e,_,s2,_,hi⟩=>⟨?_,by rw[e,length_map,hi];exact aa0 _⟩) (Yo (by omega)) ?_ ?_
 ·rcases hb with(hb|⟨o,hb⟩)|hb
  ·exact .inl (.inl (s2 _ _ hb))
  ·exact .inl (.inr ⟨o,s2 _ _ hb⟩)
  ·exact .inr hb
 ·rintro i y ys σ H2 hi ⟨cs,v,rfl,rfl,s2,hN,Qg⟩
  obtain⟨t,ht,hty⟩:=TY hp hi
  obtain⟨d1,d2⟩:=hd t (mem_of_getElem? ht)
  refine zL2 ?_
  refine⟨_,rfl,Z,_,t,rfl,sz.trans s2,hty.same s2,d1,d2,λp H3 s3 hs=>?_⟩
  exact⟨cs++[p],_,by rw[map_append]<;>rfl,rfl,s2.trans s3,zP8 (zCi (yR s3) hN) ht hs,by rw[length_append,Qg]<;>rfl⟩
 ·rintro ys σ H2 ⟨cs,v,rfl,rfl,s2,hN,Qg⟩ p hp0
  have e:ts.take vs.length=ts:=by rw[hln];exact take_length
  rw[e] at hN
  exact k p cs _ (s2.trans (au hp0 _)) zJ (s2.free hp0) (zCi (yR (au hp0 _)) hN)
theorem WX(sz:Same Z H)(hl:H l=some (.lst [V.ref c,V.ref d]))(hc:aW cl (dif H Z) c t)(hd:aW cl (dif H Z) d u)(hσ:σ[1]?=some (some (.ref l)))(k:∀(p:Addr) (H':Hp),Same H H'->aW cl (dif H' Z) p (.two i t u)->Q (.ref p) H') :
  QX (cl (.two i)) (vf (cl (.two i)) (w2 i)) [] E0 (yJ (jR (rQ K) (bT 1) (tC (.int 0))) (yJ (jR (rQ K) (bT 1) (tC (.int 1))) bh)) σ H Q:=by
 refine⟨_,hσ,l,_,_,_,rfl,rfl,aO.of hl,rfl,_,hσ,l,_,_,_,rfl,rfl,aO.of hl,rfl,?_⟩
 intro x dx nx nd ne
 exact⟨x,dx,.ref c,.ref d,rfl,zJ,λq H' k1 f0 e1 e2=>⟨rfl,k x H' (Ma nx nd k1) (.two (by rw[xW (sz.free nx)];exact e2) (by rw[xW (sz.free ((Tt nx nd).free f0))];exact e1) (hc.same (yR (Ma nx nd k1))) (hd.same (yR (Ma nx nd k1))))⟩⟩
set_option maxHeartbeats 8000000 in
theorem Jc(F:aZ K "_law_made" "_law_made" I_ f fd)(bF:Binds K fd ["_law_tree"] [])(mF:mg "_law_made" = some (.ref f))(I:ZP P w K mg base 3 cl fi di)(GS:aq P w K mg base aM 5 g gd ["_law_word","_law_part"] (Ng cl))(bS:Binds K gd ["_law_word","_law_part"] [])(kS:keepIn K (.ref g)=true)(mS:mg "_law_single" = some (.ref g))(B:Bl K mg) :
  ∀n:Nat,aq P w K mg base aM (n+5) f fd ["_law_tree"] (Nh cl n)
 |0=>vac λvs H Q E h=>by
  obtain⟨_,_,_,_,_,_,h,_⟩:=h
  exact acr _ h
 |n+1=>by
  have G:=Jc F bF mF I GS bS kS mS B n
  refine F.ok Ue (λvs H Q E h=>?_) (λcdv A outer s H vs Q E hr h=>?_)
  ·obtain⟨_,v,t,rfl,_⟩:=h
   rfl
  obtain⟨Z,v,t,rfl,sz,hT,hn,h8,q⟩:=h
  have hu:=hr.units
  have CK:bQ 4 _:=hr.mono (show 4<=n+5 by omega)
  refine⟨_,zB (yT (zZ qH (yM Ad (pv 0) zK (λ_ _=>rfl)) yE (yI _)) (zX (zQ (zTx (I.made .all) I.iA CK rfl I.mA I.bA .nil xJ))) zG)
   (zB (yT (zZ qH (yM Ad (pv 0) zK (λ_ _=>rfl)) yE (yI _)) (zX (zQ (wM (I.made .mark) I.iM CK rfl I.mM I.bM .nil xJ (zA (yM Ad (pv 0) zK (λ_ _=>rfl)) zE)))) zG)
   (zB (Cp (i:=1) (own:=["_law_part"]) (ix:=[]) Ue.nd rfl rfl rfl rfl rfl (Xx (Kl zVm (pv 0) (Kh zK) Kg)) (λC s H fp=>yS (i:=0) aae rfl (Or.inl rfl)) (λC s H fp=>wV)
    (λC s H fp=>HB G hr rfl mF F.kp bF .nil xJ (zA (pv 0) zE)))
   (zB (Kw (yT (PW.pt (pw_and (zZ qH (zR vV rfl B.len abp (zA (pv 0) zE)) zK (yI _)) (pw_and1 (zZ (Gi hu) (yM Ad (pv 0) zK (λ_ _=>rfl)) (yM Ad (pv 0) zK (λ_ _=>rfl)) (yI _)))))
    (zX (O6 (yM wN (pv 1) zK (λ_ _=>rfl)) (QJ (pv 1) zK O9))) zG))
   (zB (yT (zZ qH (zR vV rfl B.len abp (zA (pv 0) zE)) zK (yI _)) (zX (zQ (HB (GS.mono (show 5<=n+5 by omega)) hr rfl mS kS bS .nil xJ (zA (yM Ad (pv 0) zK (λ_ _=>rfl)) (zA (yM wN (pv 1) zK (λ_ _=>rfl)) zE))))) zG)
   (zB (yT (zZ qH (yM Ad (pv 0) zK (λ_ _=>rfl)) yE (yI _)) (zX (zQ (wM (I.made (.two 0)) (I.i2 0) CK rfl (I.m2 0) (I.b2 0) .nil xJ (zA (yM wN (pv 1) zK (λ_ _=>rfl)) (zA (yM wN (pv 1) zK (λ_ _=>rfl)) zE))))) zG)
   (zB (yT (zZ qH (yM Ad (pv 0) zK (λ_ _=>rfl)) yE (yI _)) (zX (zQ (wM (I.made (.two 1)) (I.i2 1) CK rfl (I.m2 1) (I.b2 1) .nil xJ (zA (yM wN (pv 1) zK (λ_ _=>rfl)) (zA (yM wN (pv 1) zK (λ_ _=>rfl)) zE))))) zG)
   (zB (yT (zZ qH (yM Ad (pv 0) zK (λ_ _=>rfl)) yE (yI _)) (zX (zQ (wM (I.made (.two 2)) (I.i2 2) CK rfl (I.m2 2) (I.b2 2) .nil xJ (zA (yM wN (pv 1) zK (λ_ _=>rfl)) (zA (yM wN (pv 1) zK (λ_ _=>rfl)) zE))))) zG)
   (zX (zQ (wM (I.made (.two 3)) (I.i2 3) CK rfl (I.m2 3) (I.b2 3) .nil xJ (zA (yM wN (pv 1) zK (λ_ _=>rfl)) (zA (yM wN (pv 1) zK (λ_ _=>rfl)) zE)))))))))))),?_⟩
  cases hT with
  |@all a h1 =>
   refine⟨_,rfl,a,_,_,_,rfl,rfl,cu.of h1,rfl,rfl,_,rfl,tW rfl ?_⟩
   intro x dx nx nd ne
   exact⟨x,dx,rfl,zJ,λq0 H' k1 f0 e1 e2=>⟨rfl,q x H' (Ma nx nd k1) (.all (by rw[xW (sz.free nx)];exact e2) (by rw[xW (sz.free ((Tt nx nd).free f0))];exact e1))⟩⟩
  |@mark a x0 h1 =>
   refine⟨_,rfl,a,_,_,_,rfl,rfl,cu.of h1,rfl,rfl,_,rfl,bW (jo zL4) ?_⟩
   refine⟨_,rfl,a,_,_,_,rfl,rfl,cu.of h1,rfl,rfl,_,rfl,tW rfl ?_⟩
   refine⟨_,rfl,a,_,_,_,rfl,rfl,cu.of h1,rfl,?_⟩
   intro x dx nx nd ne
   exact⟨x,dx,.str x0,rfl,zJ,λq0 H' k1 f0 e1 e2=>⟨rfl,q x H' (Ma nx nd k1) (.mark (by rw[xW (sz.free nx)];exact e2) (by rw[xW (sz.free ((Tt nx nd).free f0))];exact e1))⟩⟩
  |@one a i v t h1 ht =>
   have hd1:t.depth+1<n+1:=hn
   have hd8:t.depth+1<8:=h8
   refine⟨_,rfl,a,_,_,_,rfl,rfl,cu.of h1,rfl,rfl,_,rfl,bW (jo (Ms i)) ?_⟩
   refine⟨_,rfl,a,_,_,_,rfl,rfl,cu.of h1,rfl,rfl,_,rfl,bW (jo (WQ i)) ?_⟩
   refine⟨_,rfl,1,rfl,a,_,rfl,cu.of h1,(by show¬(1=0/\2=2);decide),λb hb=>⟨b,rfl,⟨_,cu.of zJ⟩,?_⟩⟩
   have s1:=au hb (.tup [v])
   refine zGg (n:=n) (vs:=[v]) (ts:=[t]) (sz.trans s1) (cu.of zJ) (.cons (ht.same s1) .nil) (λt' h'=>by
    have e:t'=t:=by simpa using h'
    subst e
    exact⟨by omega,by omega⟩) (by show 1<=2;decide) λl cs H2 s2 e2 f2 hp=>?_
   cases hp with
   |@cons c _ _ _ hc hnil =>
    cases hnil
    have hA:=s2 _ _ (s1 _ _ h1)
    refine⟨λσ H3=>σ=[some (.ref a),some (.ref l)]/\H3=H2,?_,?_⟩
    ·refine⟨_,rfl,a,_,rfl,.inr (cu.of hA),rfl,_,rfl,?_⟩
     refine bW (by intro z;injection z with z;have z':((2:Nat):Int)=3:=z;omega) ?_
     exact⟨rfl,rfl⟩
    rintro σ H3 ⟨rfl,rfl⟩
    refine⟨_,rfl,a,_,rfl,.inr (cu.of hA),rfl,_,rfl,tW rfl ?_⟩
    refine⟨_,rfl,a,_,_,_,rfl,rfl,cu.of hA,rfl,_,rfl,l,_,_,_,rfl,rfl,aO.of e2,rfl,Z,i,c,t,rfl,sz.trans (s1.trans s2),hc,λp H4 s4 hs=>?_⟩
    exact q p H4 (s1.trans (s2.trans s4)) hs
  |@two a i v u t t' h1 ht ht' =>
   have hd1:max t.depth t'.depth+1<n+1:=hn
   have hd8:max t.depth t'.depth+1<8:=h8
   refine⟨_,rfl,a,_,_,_,rfl,rfl,cu.of h1,rfl,rfl,_,rfl,bW (jo (Mt i)) ?_⟩
   refine⟨_,rfl,a,_,_,_,rfl,rfl,cu.of h1,rfl,rfl,_,rfl,bW (jo (zOw i)) ?_⟩
   refine⟨_,rfl,1,rfl,a,_,rfl,cu.of h1,(by show¬(1=0/\3=3);decide),λb hb=>⟨b,rfl,⟨_,cu.of zJ⟩,?_⟩⟩
   have s1:=au hb (.tup [v,u])
   refine zGg (n:=n) (vs:=[v,u]) (ts:=[t,t']) (sz.trans s1) (cu.of zJ) (.cons (ht.same s1) (.cons (ht'.same s1) .nil)) (λt0 h'=>by
    have e:t0=t\/t0=t':=by simpa using h'
    rcases e with rfl|rfl
    ·exact⟨by omega,by omega⟩
    ·exact⟨by omega,by omega⟩) (by show 2<=2;decide) λl cs H2 s2 e2 f2 hp=>?_
   cases hp with
   |@cons c _ _ _ hc hrest =>
    cases hrest with
    |@cons d _ _ _ hd hnil =>
     cases hnil
     have hA:=s2 _ _ (s1 _ _ h1)
     have ht2:=(ht.same s1).same s2
     have aaf:=(ht'.same s1).same s2
     refine⟨λσ H3=>σ=[some (.ref a),some (.ref l)]/\∃d',Kp l H2 H3/\H3 l=some (.lst [V.ref c,V.ref d'])/\aW cl (dif H2 Z) d' t',?_,?_⟩
     ·refine⟨_,rfl,a,_,rfl,.inr (cu.of hA),rfl,_,rfl,tW rfl ?_⟩
      refine⟨_,rfl,a,_,_,_,rfl,rfl,cu.of hA,rfl,_,rfl,a,_,_,_,rfl,rfl,cu.of hA,rfl,t,t',ht2,aaf,by omega,λb hb=>⟨_,rfl,?_⟩⟩
      cases b with
      |true =>
       refine ig ?_
       refine⟨_,rfl,l,_,_,_,rfl,rfl,aO.of e2,rfl,_,rfl,l,_,_,_,rfl,rfl,e2,rfl,rfl,c,Kp.put l H2 _,zJ,?_⟩
       rw[<-hb rfl]
       exact hc
      |false =>
       refine lU ?_
       exact⟨rfl,d,λb o _ e=>e,e2,hd⟩
     rintro σ H3 ⟨rfl,d',k3,e3,hd'⟩
     have s3:Same H H3:=λb o e=>k3 b o (zL e (s1.free f2)) ((s1.trans s2) b o e)
     have CN:H3 a=some (.tup [V.str (w2 i),v,u]):=s3 _ _ h1
     have dk:∀{b:Addr}{o:HO},(∀xs,o≠.lst xs)->dif H2 Z b=some o->dif H3 Z b=some o:=λ{b o} no e=>by
      unfold dif at e ⊢
      cases hz:Z b with
      |some u=>rw[hz] at e;cases e
      |none=>rw[hz] at e;exact k3 b o (λq=>by subst q;rw[e2] at e;exact no _ (aa2 e).symm) e
     have Ug:∀{p:Addr}{t0:Tr},aW cl (dif H2 Z) p t0->aW cl (dif H3 Z) p t0:=λ{p t0} h0=>by
      induction h0 with
      |all g1 g2=>exact .all (dk (by intro _ z;cases z) g1) (dk (by intro _ z;cases z) g2)
      |mark g1 g2=>exact .mark (dk (by intro _ z;cases z) g1) (dk (by intro _ z;cases z) g2)
      |one g1 g2 _ ih=>exact .one (dk (by intro _ z;cases z) g1) (dk (by intro _ z;cases z) g2) ih
      |two g1 g2 _ _ ih1 ih2=>exact .two (dk (by intro _ z;cases z) g1) (dk (by intro _ z;cases z) g2) ih1 ih2
     have hc3:=Ug hc
     have WY:=Ug hd'
     have fin:∀(p:Addr)(H4:Hp),Same H3 H4->aW cl (dif H4 Z) p (.two i t t')->Q (.ref p) H4:=λp H4 s4 hs=>q p H4 (s3.trans s4) hs
     refine⟨_,rfl,a,_,rfl,.inr (cu.of CN),rfl,_,rfl,bW (by intro z;injection z with z;have z':((3:Nat):Int)=2:=z;omega) ?_⟩
     rcases fi4 i with rfl|rfl|rfl|rfl
     ·exact⟨_,rfl,a,_,_,_,rfl,rfl,cu.of CN,rfl,rfl,_,rfl,tW rfl (WX (sz.trans s3) e3 hc3 WY rfl fin)⟩
     ·exact⟨_,rfl,a,_,_,_,rfl,rfl,cu.of CN,rfl,rfl,_,rfl,bW (jo (by decide +kernel)) ⟨_,rfl,a,_,_,_,rfl,rfl,cu.of CN,rfl,rfl,_,rfl,tW rfl (WX (sz.trans s3) e3 hc3 WY rfl fin)⟩⟩
     ·exact⟨_,rfl,a,_,_,_,rfl,rfl,cu.of CN,rfl,rfl,_,rfl,bW (jo (by decide +kernel)) ⟨_,rfl,a,_,_,_,rfl,rfl,cu.of CN,rfl,rfl,_,rfl,bW (jo (by decide +kernel)) ⟨_,rfl,a,_,_,_,rfl,rfl,cu.of CN,rfl,rfl,_,rfl,tW rfl (WX (sz.trans s3) e3 hc3 WY rfl fin)⟩⟩⟩
     ·exact⟨_,rfl,a,_,_,_,rfl,rfl,cu.of CN,rfl,rfl,_,rfl,bW (jo (by decide +kernel)) ⟨_,rfl,a,_,_,_,rfl,rfl,cu.of CN,rfl,rfl,_,rfl,bW (jo (by decide +kernel)) ⟨_,rfl,a,_,_,_,rfl,rfl,cu.of CN,rfl,rfl,_,rfl,bW (jo (by decide +kernel)) (WX (sz.trans s3) e3 hc3 WY rfl fin)⟩⟩⟩
end
end Sy
namespace Ts
open PySem L2 Sy
structure pG where
 t:Tr
section
variable{P:Program}{w:World}{K:PySem.W.Frag}{mg:Str->Option Value}{base:Heap}{B:Bs}{sl:SL K}{md:Md}{cl:Hd->Addr}{te t1 t2 t3:TE}
instance:Rp K pG:=⟨λF v x=>aY F v x.t,λs h=>h.same s⟩
def ExA(B:Bs)(sl:SL K)(md:Md)(t:TE){α:Type}[Rp K α](P:α->Prop):Prop :=
 ∀(F:Hp)(O:Own)(H:Hp)(σ:St)(Q:VK),At B sl F O H σ->(∀a,P a->∀(v:V)(F' H':Hp),bH B F H O F' H'->rp K (reg B F' H' md) v a->Q v H')->t σ H Q
theorem zUm(k:Ok B F O H)(hp:H p=none)(o:HO):bH B F H O F (upd H p o):=⟨.refl _,au hp _,⟨k.fh.put (k.fh.free hp) _,k.h0.put (k.h0.free hp) _,k.fa,λx hx=>by
 obtain⟨a1,a2,a3⟩:=k.fo x hx
 exact⟨a1,a2,au hp _ _ _ a3⟩,k.nd⟩,λ_ h _=>h⟩
theorem zRn{m1:Option LI}{m2:Option (List Str)}{ws:LI}{xs:List Str}{d n:Nat}{di:Int}(h1:Eo B sl .fz t1 m1)(e1:m1=some ws)(h2:Ex B sl .fz t2 m2)(e2:m2=some xs)(xl:xs.length<=1000)(h3:Ex B sl .hp t3 (some di))(ed:di=(d:Int))(dn:d<n) :
  ExA B sl md (Cj (Gw K n) [] E0 (yJ t1 (yJ t2 (yJ t3 bh)))) (λx:pG=>x.t.depth<=d):=λF O H σ Q z k=>by
 subst ed
 refine h1 ws e1 F O H σ _ z λp vs F1 H1 gr hp r=>?_
 have ev:vs=ws.map V.int:=A2.kI r
 subst ev
 have z1:=z.grow gr
 have Ti:=z1.grow (zUm gr.ok hp (.lst (ws.map V.int)))
 refine h2 xs e2 F1 O _ σ _ Ti λv2 F2 H2 g2 r2=>?_
 refine h3 _ rfl F2 O H2 σ _ (Ti.grow g2) λv3 F3 H3 g3 r3=>?_
 have r3:v3=.int d:=r3
 obtain⟨b,bs,rfl,b1,b2⟩:=r2
 have eb:bs=xs.map V.str:=A2.kI b2
 subst eb
 have up:upd H1 p (.lst (ws.map V.int)) p≠none:=by rw[zJ];intro q;cases q
 have p2:H2 p=some (.lst (ws.map V.int)):=g2.hh _ _ zJ
 have f2:F2 p=none:=g2.nw p (gr.ok.fh.free hp) up
 have b1':F2 b=some (.lst (xs.map V.str)):=b1
 subst r3
 have yx:Same H1 H3:=λc o e=>g3.hh _ _ (g2.hh _ _ (au hp _ _ _ e))
 have ne:∀c o,H1 c=some o->c≠p:=λc o e q=>by rw[q,hp] at e;cases e
 refine⟨p,b,d,ws,xs,rfl,dn,g3.hh _ _ p2,aO.of (g3.hh _ _ (g2.ok.fh _ _ b1')),λq=>(by rw[q,f2] at b1';cases b1'),xl,H1,λc o e=>⟨ne c o e,yx _ _ e⟩,λv t ns' H4 kp _ tr dt=>?_⟩
 have oJ:Same H1 H4:=λc o e=>kp c o (ne c o e) (yx _ _ e)
 have g4:=z1.1.called oJ
 have r4:rp K (dif (ext F1 H1 H4) B.H0) v (pG.mk t):=Rp.mono (Kz (F:=F1) z1.1.h0 oJ) (show aY (dif H4 H1) v t from tr)
 refine k (pG.mk t) dt v _ H4 (gr.trans g4) ?_
 exact match md with
 |.nw=>r4
 |.fz=>Rp.mono aQ r4
 |.hp=>Rp.mono (aQ.trans g4.ok.fh) r4
theorem Gx{α:Type}[Rp K α]{P1:α->Prop}(j:Nat)(hs:sl[j]?=some s)(ho:jc s=false)(h:ExA B sl .nw te P1):SnA B sl (lR te (uV j)) (λx:α=>sl.set j (.fz true x)) P1:=λG D σ H q k=>by
 obtain⟨F,O,g,z⟩:=q
 exact h F O H σ _ z λa ha v F' H' gr r=>k a ha _ _ (Sg.set (n:=true) (g.trans gr.ff) (z.grow gr) hs ho r)
end
end Ts
namespace Sy
open PySem L2 Ts
abbrev sWk:Stmt:=Ts.pD
def kn:Tr->Str
 |.all=>"all"
 |.mark _=>"mark"
 |.one i _=>w1 i
 |.two i _ _=>w2 i
def W0:Tr->Bool
 |.mark _=>true
 |_=>false
theorem Gy(h:W0 t=false):¬kn t = "mark":=by
 cases t with
 |all=>exactλe=>zL4 e.symm
 |mark x=>cases h
 |one i t=>exact WQ i
 |two i l r=>exact zOw i
theorem aY.look(h:aY H v t)(hm:W0 t=false):∃(a:Addr)(vs:List V),v=.ref a/\H a=some (.tup (.str (kn t)::vs))/\Paired (aY H) vs (fQ t):=by
 cases h with
 |all h1=>exact⟨_,[],rfl,h1,.nil⟩
 |mark h1=>cases hm
 |one h1 h2=>exact⟨_,[_],rfl,h1,.cons h2 .nil⟩
 |two h1 h2 h3=>exact⟨_,[_,_],rfl,h1,.cons h2 (.cons h3 .nil)⟩
theorem zUx(x:V)(vs:List V):oO (x::vs) (some 1) none=vs:=by
 unfold oO
 have e1:HT.cL (x::vs).length 0 (some 1)=1:=by
  show(if(1:Int)<0 then((1:Int)+((vs.length+1:Nat):Int)).toNat else min (1:Int).toNat (vs.length+1))=1
  rw[if_neg (by decide)]
  show min 1 (vs.length+1)=1
  omega
 rw[e1]
 show(vs).take ((vs.length+1)-1)=vs
 rw[Nat.add_sub_cancel]
 exact take_length
theorem zUy(x:V)(vs:List V):¬(HT.cL (x::vs).length 0 (some 1)=0/\HT.cL (x::vs).length (x::vs).length none=(x::vs).length):=by
 intro⟨h,_⟩
 have e1:HT.cL (x::vs).length 0 (some 1)=1:=by
  show(if(1:Int)<0 then((1:Int)+((vs.length+1:Nat):Int)).toNat else min (1:Int).toNat (vs.length+1))=1
  rw[if_neg (by decide)]
  show min 1 (vs.length+1)=1
  omega
 omega
theorem zSg(x:V)(vs:List V):cj (x::vs) 0=some x:=Yb (xs:=x::vs) (j:=0) rfl
def wk:Tr->List Str
 |.all=>["all"]
 |.mark _=>["mark"]
 |.one i t=>wk t++[w1 i]
 |.two i l r=>wk l++wk r++[w2 i]
theorem Uh(hm:W0 t=false):wk t=(fQ t).flatMap wk++[kn t]:=by
 cases t with
 |mark x=>cases hm
 |all=>rfl
 |one i t=>simp[wk,fQ,kn]
 |two i l r=>simp[wk,fQ,kn]
theorem Ui:∀t:Tr,(wk t).length<2^(t.depth+1)
 |.all=>by show 1<2^1;decide
 |.mark _=>by show 1<2^1;decide
 |.one i t=>by
  have h:=Ui t
  have d:(Tr.one i t).depth=t.depth+1:=rfl
  rw[d,afc 2 (t.depth+1)]
  show(wk t++[w1 i]).length<_
  rw[length_append]
  show(wk t).length+1<_
  omega
 |.two i l r=>by
  have h1:=Ui l
  have h2:=Ui r
  have d:(Tr.two i l r).depth=max l.depth r.depth+1:=rfl
  have p1:2^(l.depth+1)<=2^(max l.depth r.depth+1):=acy (by decide) (by omega)
  have p2:2^(r.depth+1)<=2^(max l.depth r.depth+1):=acy (by decide) (by omega)
  rw[d,afc 2 (max l.depth r.depth+1)]
  show(wk l++wk r++[w2 i]).length<_
  rw[length_append,length_append]
  show(wk l).length+(wk r).length+1<_
  omega
theorem zSt{t:Tr}(h:t.depth<8):(wk t).length<256:=aa3 (Ui t) (aa8 (acy (by decide) (show t.depth+1<=8 by omega)) (by decide))
theorem zI6{ts:List Tr}{i:Nat}{t:Tr}(h:ts[i]?=some t):(ts.take (i+1)).flatMap wk=(ts.take i).flatMap wk++wk t:=by
 rw[take_add_one,h,flatMap_append]
 simp
theorem Gz{ts:List Tr}(i:Nat):((ts.take i).flatMap wk).length<=(ts.flatMap wk).length:=by
 have e:ts.flatMap wk=(ts.take i).flatMap wk++(ts.drop i).flatMap wk:=by rw[<-flatMap_append,take_append_drop]
 rw[e,length_append]
 omega
section
variable{P:Program}{w:World}{K:PySem.W.Frag}{mg:Str->Option Value}{base:Heap}
def Uj(n:Nat):Sp:=λvs H Q _=>∃(v:V)(t:Tr),vs=[v]/\aY H v t/\t.depth<n/\t.depth<8/\∀(l:Addr)(H':Hp),Same H H'->H l=none->H' l=some (.lst ((wk t).map V.str))->Q (.ref l) H'
theorem Ni:ao ["_law_tree","_law_found","_law_part"] ["_law_tree"] (zH sWk):=⟨rfl,rfl,rfl,by decide +kernel,rfl,by decide +kernel,by decide +kernel⟩
theorem Jd(F:aZ K "_law_words" "_law_words" sWk f fd)(bF:Binds K fd ["_law_tree"] [])(mF:mg "_law_words" = some (.ref f)):∀n:Nat,aq P w K mg base aM n f fd ["_law_tree"] (Uj n)
 |0=>vac λvs H Q E h=>by
  obtain⟨_,_,_,_,h,_⟩:=h
  exact acr _ h
 |n+1=>by
  have G:=Jd F bF mF n
  refine F.ok Ni (λvs H Q E h=>?_) (λcdv A outer s H vs Q E hr h=>?_)
  ·obtain⟨v,t,rfl,_⟩:=h
   rfl
  obtain⟨v,t,rfl,hT,hn,h8,q⟩:=h
  have Td:=zSt h8
  refine⟨_,zB (yT (zZ qH (yM Ad (pv 0) zK (λ_ _=>rfl)) yE (yI _)) (zX (zQ (xV (zA yE zE)))) zG)
   (zB (Dj (i:=1) Ni.nd rfl (Or.inl rfl) (xV zE))
   (zB (xQ abe rfl (Xx (Kl zVm (pv 0) (Kh zK) Kg)) (yS (i:=2) Ni.nd rfl (Or.inl rfl))
    (zX (yD (VD abf ad8 ad9 Yk (pv 1) (zA (HB G hr rfl mF F.kp bF .nil xJ (zA (pv 2) zE)) zE)))))
   (zB (yD (VD abf abm abn wB (pv 1) (zA (yM Ad (pv 0) zK (λ_ _=>rfl)) zE)))
   (zX (zQ (pv 1)))))),?_⟩
  cases hm:W0 t with
  |true =>
   cases hT with
   |@mark a x h1 =>
    refine⟨_,rfl,a,_,_,_,rfl,rfl,cu.of h1,rfl,rfl,_,rfl,tW rfl ?_⟩
    refine⟨(by show 1<=sizeLine;decide),λl hl=>?_⟩
    exact q l _ (au hl _) hl zJ
   |all _=>cases hm
   |one _ _=>cases hm
   |two _ _ _=>cases hm
  |false =>
   have ew:=Uh hm
   obtain⟨a,vs,rfl,h1,hp⟩:=hT.look hm
   refine⟨_,rfl,a,_,_,_,rfl,rfl,cu.of h1,zSg _ _,rfl,_,rfl,bW (jo (Gy hm)) ?_⟩
   refine⟨(by show 0<=sizeLine;decide),λl hl=>?_⟩
   have s1:=au hl (.lst [])
   refine⟨_,rfl,1,rfl,a,_,rfl,cu.of (s1 _ _ h1),zUy _ _,λb hb=>⟨b,rfl,⟨_,cu.of zJ⟩,?_⟩⟩
   rw[zUx]
   have s2:=au hb (.tup vs)
   have bl:b≠l:=λe=>by rw[e,zJ] at hb;cases hb
   have al:a≠l:=λe=>by rw[e,hl] at h1;cases h1
   have l2:upd (upd H l (.lst [])) b (.tup vs) l=some (.lst []):=s2 _ _ zJ
   refine Dl (K:=K) (a:=b) (xs:=vs) (λi σ H2=>∃(z:Option V),σ=[some (.ref a),some (.ref l),z]/\Kp l (upd (upd H l (.lst [])) b (.tup vs)) H2/\H2 l=some (.lst ((((fQ t).take i).flatMap wk).map V.str)))
    ⟨none,rfl,λ_ _ _ e=>e,l2⟩ (λi σ H2 _ ⟨_,_,k3,_⟩=>cu.of (k3 _ _ bl zJ)) ?_ ?_
   ·rintro i y σ H2 hi ⟨z,rfl,k3,e3⟩
    obtain⟨t',ht',hty⟩:=TY hp hi
    have dlt:=ZM (mem_of_getElem? ht')
    refine⟨_,rfl,.inl ⟨rfl,_,aO.of e3⟩,_,rfl,_,t',rfl,((hty.same s1).same s2).kp l2 k3,by omega,by omega,λl2' H3 s4 f4 e4=>?_⟩
    refine⟨l,l2',_,_,rfl,rfl,s4 _ _ e3,e4,?_,?_⟩
    ·have:=Gz (ts:=fQ t) (i+1)
     rw[zI6 ht'] at this
     rw[ew] at Td
     simp only[length_append] at this Td
     rw[length_map,length_map]
     exact aa8 (show _<=1000 by omega) (by decide)
    ·refine⟨_,rfl,(k3.trans (Kp.of s4)).trans (Kp.put l _ _),?_⟩
     rw[zJ,zI6 ht',map_append]
   ·rintro σ H2 ⟨z,rfl,k3,e3⟩
    have e:(fQ t).take vs.length=fQ t:=by
     rw[hp.length]
     exact take_length
    rw[e] at e3
    rw[ew] at Td
    simp only[length_append] at Td
    have sm:(((fQ t).flatMap wk).map V.str).length<sizeLine:=by
     rw[length_map]
     exact aa3 (show _<1000 by omega) (by decide)
    refine⟨_,rfl,.inl ⟨rfl,_,aO.of e3⟩,_,rfl,a,_,_,_,rfl,rfl,cu.of (k3 _ _ al (s2 _ _ (s1 _ _ h1))),zSg _ _,l,_,_,rfl,rfl,e3,sm,_,rfl,q l _ (λc o e=>?_) hl ?_⟩
    ·have cl:c≠l:=λn=>by rw[n,hl] at e;cases e
     rw[zP cl]
     exact k3 _ _ cl (s2 _ _ (s1 _ _ e))
    ·rw[zJ,ew,map_append]
     rfl
end
end Sy
namespace Ts
open PySem L2 Sy
abbrev zJq(K:PySem.W.Frag):Sp:=Gw K 6
def uY(cl:Hd->Addr)(q0:pG):Option (eE cl):=if q0.t.depth<6 then some (eE.mk q0.t) else none
abbrev W2(K:PySem.W.Frag)(cl:Hd->Addr):Sp:=cN K false (λa:pG×Unit=>([.fz false a.1]:SL K)) (λa=>uY cl a.1)
def Qj(q0:pG):Option (List Str):=if q0.t.depth<6 then some (wk q0.t) else none
abbrev zFz(K:PySem.W.Frag):Sp:=cN K false (λa:pG×Unit=>([.fz false a.1]:SL K)) (λa=>Qj a.1)
section
variable{P:Program}{w:World}{K:PySem.W.Frag}{mg:Str->Option Value}{base:Heap}{B:Bs}{sl:SL K}{cl:Hd->Addr}{t1 t2 t3:TE}
theorem Nj(h:aq P w K mg base aM k f fd ps (Nh cl 6)):aq P w K mg base aM k f fd ps (W2 K cl):=aq.imp h λvs H Q E ⟨a,b,Fa,sf,e,r,q⟩=>by
 cases r with
 |cons r1 rn =>
  cases rn
  have e:uY cl a.1=some b:=e
  unfold uY at e
  split at e
  case isFalse=>cases e
  rename_i hd
  cases e
  have r1:aY Fa _ a.1.t:=r1
  exact⟨H,_,a.1.t,rfl,.refl _,r1.same sf,hd,by omega,λp H' s say=>q _ H' s ⟨p,rfl,say⟩⟩
theorem Nk(h:aq P w K mg base aM k f fd ps (Uj 6)):aq P w K mg base aM k f fd ps (zFz K):=aq.imp h λvs H Q E ⟨a,b,Fa,sf,e,r,q⟩=>by
 cases r with
 |cons r1 rn =>
  cases rn
  have e:Qj a.1=some b:=e
  unfold Qj at e
  split at e
  case isFalse=>cases e
  rename_i hd
  cases e
  have r1:aY Fa _ a.1.t:=r1
  exact⟨_,a.1.t,rfl,r1.same sf,hd,by omega,λl H' s hl el=>q _ H' s ⟨l,_,rfl,(show dif H' H l=_ by rw[xW hl];exact el),A2.of_map (f:=V.str) (λ_=>rfl) _⟩⟩
theorem zPm{u:TS}{al:Bool}{A2 β:Type}[Rp K β]{b:β}{P2:A2->Prop}{g:pG->A2->Option β}{s:Slot K}{m1:Option LI}{m2:Option (List Str)}{xs:List Str}{d n:Nat}{di:Int}(j:Nat)(hs:sl[j]?=some s)(ho:jc s=false)(h1:Eo B sl .fz t1 m1)(h2:Ex B sl .fz t2 m2)(e2:m2=some xs)(xl:xs.length<=1000)(h3:Ex B sl .hp t3 (some di))(ed:di=(d:Int))(dn:d<n)(h:∀s,yw B (sl.set j (.fz true s)) u al (g s) P2 b):yw B sl (iZ (lR (Cj (Gw K n) [] E0 (yJ t1 (yJ t2 (yJ t3 bh)))) (uV j)) u) al (λa:pG×A2=>m1.bind λ_=>g a.1 a.2) (λa=>a.1.t.depth<=d/\P2 a.2) b:=λne hm=>by
 cases e1:m1 with
 |none =>
  obtain⟨a,ha⟩:=ne
  have:=hm a ha
  rw[e1] at this
  cases this
 |some ws =>
  exact Gh (Gx j hs ho (zRn h1 e1 h2 e2 xl h3 ed dn)) h ne λa ha=>by
   have q:(m1.bind λ_=>g a.1 a.2)=some b:=hm a ha
   rw[e1] at q
   exact q
end
end Ts
set_option maxHeartbeats 40000000
namespace Ts
open PySem L2 Sy
section
variable{P:Program}{w:World}{K:PySem.W.Frag}{mg:Str->Option Value}{base:Heap}
def Uk(q0:Int)(q1:Int):Option Bool:=if true=true then if(!false)=true then if decide ((0:Int)<=q0)=true then some (decide (q0<q1)) else some false else some false else some false
theorem lK:ao ["thing","many"] ["thing","many"] (zH jF):=fsc
abbrev zGv(K:PySem.W.Frag):Sp:=cN K false (λa:Int×Int×Unit=>([.z a.1,.z a.2.1]:SL K)) (λa=>Uk a.1 a.2.1)
theorem zKg(F:aZ K "is_stand" "is_stand" jF f fd)(B:Bl K mg):aq P w K mg base aM (k+1) f fd ["thing","many"] (zGv K):=by
 refine yK F lK (λ_=>rfl) (λ_=>rfl) λcdv A outer s H E hr=>?_
 have nd:=lK.nd
 refine⟨_,(zB (zQ (Xq (zR (vW K (Ru (n:="int"))) rfl B.p8 vX (zA (pv 0) (zA (Qz (v:=.ty "int") rfl B.int zWe rfl) zE))) (Xq (JH (zR (vW K (Ru (n:="bool"))) rfl B.p8 vX (zA (pv 0) (zA (Qz (v:=.ty "bool") rfl B.bool Es rfl) zE)))) (zVt (zLw zx QV zK (pv 0) (pv 1)))))) zG),?_⟩
 rintro Fa ⟨q0,q1,⟨⟩⟩
 exact SB.of (yC (esc (YG (RM B.ii rfl (zI 0 rfl)) (YG (KD (RM B.ib rfl (zI 0 rfl))) (zMf (f:=(λi j=>decide (i<=j))) (g:=(λi j=>decide (i<j))) (zV 0) (zI 0 rfl) (zI 1 rfl)))))) (by unfold Uk;simp only[bnd])
def xE(q0:LI)(q1:Int)(q2:Str):Option Unit:=(some ()).bind λrZ=>((some q0).bind λxs=>wD (λ(s2:List (Key×Bool)) (x4:Int)=>(((Uk x4 q1).bind λa5=>some (!a5)).bind λb=>if b=true then none else some ()).bind λs6=>(if((je (Dc.mk s2).kv x4).isSome)=true then none else some ()).bind λs8=>(dput s2 x4 true).bind λgA=>some gA) xs (([]:List (Key×Bool)))).bind λs3=>some ()
theorem gO:ao ["stands","many","where","ahead","stand"] ["stands","many","where"] (zH dM):=fsc
abbrev vP(K:PySem.W.Frag):Sp:=cN K false (λa:LI×Int×Str×Unit=>([.z a.1,.z a.2.1,.z a.2.2.1]:SL K)) (λa=>xE a.1 a.2.1 a.2.2.1)
theorem zE5(F:aZ K "check_stands" "check_stands" dM f fd)(B:Bl K mg)(jG:bJ P w K mg base k "is_stand" ["thing","many"] (zGv K)):aq P w K mg base aM (k+1) f fd ["stands","many","where"] (vP K):=by
 refine Wd F gO (λ_=>rfl) (λ_=>rfl) λcdv A outer s H E hr=>?_
 have nd:=gO.nd
 have hu:=Af hr
 refine⟨_,(zB (xY 3 nd X7) (zB (xQ abe rfl (xG K (pv 0)) (cJ 4 nd) (zB (yT (QF (wU (zY jG hr (zA (pv 4) (zA (pv 1) zE))))) Oz zG) (zB (yT (Ht (zVw hu (pv 4) (pv 3))) Oz zG) (zB (X6 hu (pv 3) (pv 4) zp rfl) zG)))) zG)),?_⟩
 rintro Fa ⟨q0,q1,q2,⟨⟩⟩
 exact⟨_,Sn.of (zT (YJ (α:=Bool) 3 rfl rfl) (λrZ=>(zT (vG (n:=false) (L:=(λs2:List (Key×Bool)=>([.z q0,.z q1,.z q2,.od (s2:List (Key×Bool)),.un]:SL K))) (([]:List (Key×Bool))) bV (xI (yO 0 rfl)) (λs2=>(yH 4 rfl rfl)) (λs2 x4=>(zT (tK (Rw (cU (md:=.hp) (zM (zF (esc (zI 4 rfl)) (zF (esc (zI 1 rfl)) zO))))) Py (yF (λs7:Unit=>([.z q0,.z q1,.z q2,.od (s2:List (Key×Bool)),.z x4]:SL K)) () bV)) (λs6=>(zT (tK (cU (md:=.hp) (K7 (zI 4 rfl) (Zb 3 rfl))) Py (yF (λs9:Unit=>([.z q0,.z q1,.z q2,.od (s2:List (Key×Bool)),.z x4]:SL K)) () bV)) (λs8=>(zT (zPe 3 rfl rfl (esc (Aq true)) (zI 4 rfl)) (λgA=>(yF (λs2:List (Key×Bool)=>([.z q0,.z q1,.z q2,.od (s2:List (Key×Bool)),.un]:SL K)) gA bV))))))))) (λs3=>(yF (λ_:Unit=>([.un,.un,.un,.un,.un]:SL K)) () bV))))) (by unfold xE;simp only[bnd])⟩
def wZ(q0:List LI):Option Unit:=(some (q0.length:Int)).bind λmany1=>((if(decide (many1<(1:Int)))=true then some true else some (decide ((60:Int)<many1))).bind λb=>if b=true then none else some ()).bind λs2=>((some (Av q0)).bind λxs=>wD (λ(s4:Unit) (x6:Int×LI)=>(((((Lb "steps of stand " x6.1).bind λa8=>some ((a8,()))).bind λb9=>some (many1,b9)).bind λb10=>some (x6.2,b10)).bind λz7=>xE z7.1 z7.2.1 z7.2.2.1).bind λu11=>(if(decide ((x6.2.length:Int)=(0:Int)))=true then none else some ()).bind λs12=>some ()) xs ()).bind λs5=>some ()
theorem iG:ao ["steps","many","stand","targets"] ["steps"] (zH fG):=fsc
abbrev zH2(K:PySem.W.Frag):Sp:=cN K false (λa:((List LI))×Unit=>([.z a.1]:SL K)) (λa=>wZ a.1)
theorem zF8(F:aZ K "check_steps" "check_steps" fG f fd)(B:Bl K mg)(oW:mg "MOST_STANDS" = some (.int 60 oX))(aN:bJ P w K mg base k "check_stands" ["stands","many","where"] (vP K)):aq P w K mg base aM (k+1) f fd ["steps"] (zH2 K):=by
 refine Wd F iG (λ_=>rfl) (λ_=>rfl) λcdv A outer s H E hr=>?_
 have nd:=iG.nd
 refine⟨_,(zB (xY 1 nd (zR (uT K) rfl B.len abp (zA (pv 0) zE))) (zB (yT (PW.pt (pw_or (zZ QV (pv 1) zK (yI _)) (pw_or1 (zZ zy (pv 1) (wH (v:=.int 60) rfl oW ⟨_,rfl⟩) (yI _))))) Oz zG) (zB (xQ abe rfl (Y4 K B.enum (zA (pv 0) zE)) (Hw rfl (yV (cJ 2 nd) (yV (cJ 3 nd) Dh))) (zB (yD (zY aN hr (zA (pv 3) (zA (pv 1) (zA (Al (pv 2) (by decide)) zE))))) (zB (yT (zZ (Cu K Int hr) (zR (uT K) rfl B.len abp (zA (pv 3) zE)) zK (yI _)) Oz zG) zG))) zG))),?_⟩
 rintro Fa ⟨q0,⟨⟩⟩
 exact⟨_,Sn.of (zT (xP true 1 rfl rfl (esc (tM (zD 0 rfl)))) (λmany1=>(zT (tK (Rx (xH (md:=.hp) (HX (zI 1 rfl) (zV 1))) (xH (md:=.hp) (Aw (zI 1 rfl) (zV 60)))) Py (yF (λs3:Unit=>([.z q0,.y many1,.un,.un]:SL K)) () bV)) (λs2=>(zT (vG (n:=false) (L:=(λs4:Unit=>([.z q0,.y many1,.un,.un]:SL K))) () bV (YS (yO 0 rfl)) (λs4=>(KJ 2 3 rfl rfl (λ_=>rfl) rfl)) (λs4 x6=>(zT (Pj (md:=.hp) (zM (zF (zD 3 rfl) (zF (esc (zI 1 rfl)) (zF (esc (zV7 "steps of stand " (zI 2 rfl))) zO))))) (λu11=>(zT (tK (xH (md:=.hp) (Cv (tM (zD 3 rfl)) (zV 0))) Py (yF (λyx:Unit=>([.z q0,.y many1,.z x6.1,.z x6.2]:SL K)) () bV)) (λs12=>(yF (λs4:Unit=>([.z q0,.y many1,.un,.un]:SL K)) () bV))))))) (λs5=>(yF (λ_:Unit=>([.un,.un,.un,.un]:SL K)) () bV))))))) (by unfold wZ;simp only[bnd])⟩
def uQ(q0:Str):Option Bool:=(if(!true)=true then some true else some (decide (q0∈(["all","not","both","either","somenext","eachnext","sometill","eachtill","someever","eachever"]:List Str)))).bind λb=>if b=true then some false else((Fd q0).bind λb1=>if decide ((1:Int)<=b1)=true then some (decide (b1<=(8:Int))) else some false).bind λc4=>if c4=true then((some (R9 q0)).bind λxs=>uB (λ(x2:Str)=>some true) (λ(x2:Str)=>some (Zc x2 ("abcdefghijklmnopqrstuvwxyz":Str))) xs).bind λa3=>some (a3.all id) else some false
theorem ni:ao ["name"] ["name"] (zH lq):=fsc
abbrev zJs(K:PySem.W.Frag):Sp:=cN K false (λa:Str×Unit=>([.z a.1]:SL K)) (λa=>uQ a.1)
theorem zNr(F:aZ K "is_name" "is_name" lq f fd)(B:Bl K mg)(v7:mg "LETTERS" = some (.str "abcdefghijklmnopqrstuvwxyz" v8))(nj:mg "LONGEST_NAME" = some (.int 8 nq))(nA:mg "SAYING_WORDS" = some (.ref b_))(dO:∀H,cu K H b_ ((["all","not","both","either","somenext","eachnext","sometill","eachtill","someever","eachever"]:List Str).map V.str))(Nm:mg "all" = none)(Np:mg "str" = none):aq P w K mg base aM (k+1) f fd ["name"] (zJs K):=by
 refine yK F ni (λ_=>rfl) (λ_=>rfl) λcdv A outer s H E hr=>?_
 have nd:=ni.nd
 refine⟨_,(zB (yT (PW.pt (pw_or (QF (wU (zR (vW K (Ru (n:="str"))) rfl B.p8 vX (zA (pv 0) (zA (Qz (v:=.ty "str") rfl Np Lf rfl) zE))))) (pw_or1 (zZ (zVy K) (pv 0) (wH (v:=.ref b_) rfl nA rfl) (by with_unfolding_all rfl))))) (zB (zQ zp) zG) zG) (zB (zQ (Xq (zLw zx zx zK (zR zSb rfl B.len abp (zA (pv 0) zE)) (wH (v:=.int 8) rfl nj ⟨_,rfl⟩)) (zVt (zR (zSe K rfl) rfl Nm K4 (zA (DY (own:=["sign"]) (ix:=[]) rfl rfl rfl (K8 (pv 0)) (λC s H fp=>yS (i:=0) (show(["sign"]:List Str).Nodup from by decide +kernel) rfl (Or.inl rfl)) (λC s H fp=>wV) (λC s H fp=>(zP5 zQb (pv 0) (wH (v:=.str "abcdefghijklmnopqrstuvwxyz") rfl v7 ⟨_,rfl⟩) (by with_unfolding_all rfl)))) zE))))) zG)),?_⟩
 rintro Fa ⟨q0,⟨⟩⟩
 exact SB.of (uK (Rx (Rw (cU (md:=.hp) (RM R_ rfl (zI 0 rfl)))) (xH (md:=.hp) (La dO (zI 0 rfl)))) (yC (esc (Aq false))) (yC (esc (YG (zMf (f:=(λi j=>decide (i<=j))) (g:=(λi j=>decide (i<=j))) (zV 1) (Fe (zI 0 rfl)) (zV 8)) (zMg (vN (n:=true) (jM:=[.un]) (no:=1) (ix:=[]) rfl rfl (K9 (zI 0 rfl)) (yH 0 rfl rfl) (λx2=>Cw) (λx2=>(esc (K_ (zI 0 rfl) (Cr "abcdefghijklmnopqrstuvwxyz")))) (λx2=>jX)).ex))))) (by unfold uQ;simp only[bnd])
def vA(q0:List (Str×LI))(q1:Int):Option Unit:=(some ()).bind λrZ=>((some q0).bind λxs=>wD (λ(s2:List (Key×Bool)) (x4:Str×LI)=>(((uQ x4.1).bind λa5=>some (!a5)).bind λb=>if b=true then none else some ()).bind λs6=>(if((Ii (Dc.mk s2).kv x4.1).isSome)=true then none else some ()).bind λs8=>(Sd s2 x4.1 true).bind λgA=>(((((Pz "mark " x4.1).bind λa12=>some ((a12,()))).bind λb13=>some (q1,b13)).bind λb14=>some (x4.2,b14)).bind λz11=>xE z11.1 z11.2.1 z11.2.2.1).bind λu15=>some gA) xs (([]:List (Key×Bool)))).bind λs3=>some ()
theorem iH:ao ["marks","many","ahead","name","stands"] ["marks","many"] (zH fH):=fsc
abbrev zH3(K:PySem.W.Frag):Sp:=cN K false (λa:((List (Str×LI)))×Int×Unit=>([.z a.1,.z a.2.1]:SL K)) (λa=>vA a.1 a.2.1)
theorem zF9(F:aZ K "check_marks" "check_marks" fH f fd)(B:Bl K mg)(aN:bJ P w K mg base k "check_stands" ["stands","many","where"] (vP K))(lB:bJ P w K mg base k "is_name" ["name"] (zJs K)):aq P w K mg base aM (k+1) f fd ["marks","many"] (zH3 K):=by
 refine Wd F iH (λ_=>rfl) (λ_=>rfl) λcdv A outer s H E hr=>?_
 have nd:=iH.nd
 have hu:=Af hr
 refine⟨_,(zB (xY 2 nd X7) (zB (xQ abe rfl (xG K (pv 0)) (Hw rfl (yV (cJ 3 nd) (yV (cJ 4 nd) Dh))) (zB (yT (QF (wU (zY lB hr (zA (pv 3) zE)))) Oz zG) (zB (yT (Ht (zVw hu (pv 3) (pv 2))) Oz zG) (zB (X6 hu (pv 2) (pv 3) zp rfl) (zB (yD (zY aN hr (zA (pv 4) (zA (pv 1) (zA (Al (pv 3) (by decide)) zE))))) zG))))) zG)),?_⟩
 rintro Fa ⟨q0,q1,⟨⟩⟩
 exact⟨_,Sn.of (zT (YJ (α:=Bool) 2 rfl rfl) (λrZ=>(zT (vG (n:=false) (L:=(λs2:List (Key×Bool)=>([.z q0,.z q1,.od (s2:List (Key×Bool)),.un,.un]:SL K))) (([]:List (Key×Bool))) bV (xI (yO 0 rfl)) (λs2=>(KJ 3 4 rfl rfl (λ_=>rfl) rfl)) (λs2 x4=>(zT (tK (Rw (cU (md:=.hp) (zM (zF (esc (zI 3 rfl)) zO)))) Py (yF (λs7:Unit=>([.z q0,.z q1,.od (s2:List (Key×Bool)),.z x4.1,.z x4.2]:SL K)) () bV)) (λs6=>(zT (tK (cU (md:=.hp) (Fg (zI 3 rfl) (Zb 2 rfl))) Py (yF (λs9:Unit=>([.z q0,.z q1,.od (s2:List (Key×Bool)),.z x4.1,.z x4.2]:SL K)) () bV)) (λs8=>(zT (zTg 2 rfl rfl (esc (Aq true)) (zI 3 rfl)) (λgA=>(zT (Pj (md:=.hp) (zM (zF (zD 4 rfl) (zF (esc (zI 1 rfl)) (zF (esc (Ld "mark " (zI 3 rfl))) zO))))) (λu15=>(yF (λs2:List (Key×Bool)=>([.z q0,.z q1,.od (s2:List (Key×Bool)),.un,.un]:SL K)) gA bV))))))))))) (λs3=>(yF (λ_:Unit=>([.un,.un,.un,.un,.un]:SL K)) () bV))))) (by unfold vA;simp only[bnd])⟩
def vT(q0:List LI)(q1:Int):Option Unit:=((some (Av q0)).bind λxs=>wD (λ(s1:Unit) (x3:Int×LI)=>(((((Lb "fair set " x3.1).bind λa5=>some ((a5,()))).bind λb6=>some (q1,b6)).bind λb7=>some (x3.2,b7)).bind λz4=>xE z4.1 z4.2.1 z4.2.2.1).bind λu8=>some ()) xs ()).bind λs2=>some ()
theorem jt:ao ["fair","many","number","stands"] ["fair","many"] (zH gw):=fsc
abbrev zJt(K:PySem.W.Frag):Sp:=cN K false (λa:((List LI))×Int×Unit=>([.z a.1,.z a.2.1]:SL K)) (λa=>vT a.1 a.2.1)
theorem zHk(F:aZ K "check_fair" "check_fair" gw f fd)(B:Bl K mg)(aN:bJ P w K mg base k "check_stands" ["stands","many","where"] (vP K)):aq P w K mg base aM (k+1) f fd ["fair","many"] (zJt K):=by
 refine Wd F jt (λ_=>rfl) (λ_=>rfl) λcdv A outer s H E hr=>?_
 have nd:=jt.nd
 refine⟨_,(zB (xQ abe rfl (Y4 K B.enum (zA (pv 0) zE)) (Hw rfl (yV (cJ 2 nd) (yV (cJ 3 nd) Dh))) (zB (yD (zY aN hr (zA (pv 3) (zA (pv 1) (zA (Al (pv 2) (by decide)) zE))))) zG)) zG),?_⟩
 rintro Fa ⟨q0,q1,⟨⟩⟩
 exact⟨_,Sn.of (zT (vG (n:=false) (L:=(λs1:Unit=>([.z q0,.z q1,.un,.un]:SL K))) () bV (YS (yO 0 rfl)) (λs1=>(KJ 2 3 rfl rfl (λ_=>rfl) rfl)) (λs1 x3=>(zT (Pj (md:=.hp) (zM (zF (zD 3 rfl) (zF (esc (zI 1 rfl)) (zF (esc (zV7 "fair set " (zI 2 rfl))) zO))))) (λu8=>(yF (λs1:Unit=>([.z q0,.z q1,.un,.un]:SL K)) () bV))))) (λs2=>(yF (λ_:Unit=>([.un,.un,.un,.un]:SL K)) () bV))) (by unfold vT;simp only[bnd])⟩
def Qk(q0:List LI):Option (List LI):=(some q0).bind λxs=>uB (λ(x1:LI)=>some true) (λ(x1:LI)=>some x1) xs
theorem pH:ao ["lists"] ["lists"] (zH mZ):=fsc
abbrev zU8(K:PySem.W.Frag):Sp:=cN K false (λa:((List LI))×Unit=>([.z a.1]:SL K)) (λa=>Qk a.1)
theorem zQl(F:aZ K "copied" "copied" mZ f fd)(B:Bl K mg):aq P w K mg base aM (k+1) f fd ["lists"] (zU8 K):=by
 refine yK F pH (λ_=>rfl) (λ_=>rfl) λcdv A outer s H E hr=>?_
 have nd:=pH.nd
 refine⟨_,(zB (zQ (DY (own:=["things"]) (ix:=[]) rfl rfl rfl (xG K (pv 0)) (λC s H fp=>yS (i:=0) (show(["things"]:List Str).Nodup from by decide +kernel) rfl (Or.inl rfl)) (λC s H fp=>wV) (λC s H fp=>(O8 (RW K) rfl B.list KZ (zA (pv 0) zE))))) zG),?_⟩
 rintro Fa ⟨q0,⟨⟩⟩
 exact SB.of (yC (vN (n:=false) (jM:=[.un]) (no:=1) (ix:=[]) rfl rfl (xI (yO 0 rfl)) (yH 0 rfl rfl) (λx1=>Cw) (λx1=>(RJ (zD 0 rfl)).ex) (λx1=>jX)).ex) (by unfold Qk;simp only[bnd])
end
abbrev Je(C:Addr):=Wf C wZ vA vT Qk Qh
section
variable{P:Program}{w:World}{K:PySem.W.Frag}{mg:Str->Option Value}{base:Heap}
def yW(q0:aF C):Option Int:=some (q0.steps.length:Int)
theorem gP:ao ["self"] ["self"] (zH dN):=fsc
abbrev wK(K:PySem.W.Frag)(C:Addr):Sp:=cN K false (λa:(aF C)×Unit=>([.z a.1]:SL K)) (λa=>yW a.1)
theorem zE6(F:aZ K "many" "Machine.many" dN f fd)(B:Bl K mg)(T:Cl K mg C):aq P w K mg base aM (k+1) f fd ["self"] (wK K C):=by
 refine yK F gP (λ_=>rfl) (λ_=>rfl) λcdv A outer s H E hr=>?_
 have nd:=gP.nd
 refine⟨_,(zB (zQ (zR (uT K) rfl B.len abp (zA (Ia K (pv 0)) zE))) zG),?_⟩
 rintro Fa ⟨q0,⟨⟩⟩
 exact SB.of (yC (esc (tM (zI9 T.cl T.nS (zD 0 rfl))))) (by unfold yW;simp only[bnd])
def yX(q0:aF C)(q1:Int):Option LI:=(cj q0.steps q1).bind λa1=>EY a1
theorem dR:ao ["self","stand"] ["self","stand"] (zH cO):=fsc
abbrev vO(K:PySem.W.Frag)(C:Addr):Sp:=cN K false (λa:(aF C)×Int×Unit=>([.z a.1,.z a.2.1]:SL K)) (λa=>yX a.1 a.2.1)
theorem zCx(F:aZ K "next_of" "Machine.next_of" cO f fd)(B:Bl K mg)(T:Cl K mg C)(bK:mg "sorted" = none):aq P w K mg base aM (k+1) f fd ["self","stand"] (vO K C):=by
 refine yK F dR (λ_=>rfl) (λ_=>rfl) λcdv A outer s H E hr=>?_
 have nd:=dR.nd
 refine⟨_,(zB (zQ (zR (Y8 K) rfl bK Y5 (zA (yM (cG K) (Ia K (pv 0)) (pv 1) (λ_ _=>rfl)) zE))) zG),?_⟩
 rintro Fa ⟨q0,q1,⟨⟩⟩
 exact SB.of (yC (Y_ (wO (zI9 T.cl T.nS (zD 0 rfl)) (zI 1 rfl))).ex) (by unfold yX;simp only[bnd])
def xS(q0:aF C)(q1:Int):Option LI:=cj q0.sources q1
theorem eF:ao ["self","stand"] ["self","stand"] (zH cV):=fsc
abbrev zBb(K:PySem.W.Frag)(C:Addr):Sp:=cN K false (λa:(aF C)×Int×Unit=>([.z a.1,.z a.2.1]:SL K)) (λa=>xS a.1 a.2.1)
theorem zDo(F:aZ K "before" "Machine.before" cV f fd)(B:Bl K mg)(T:Cl K mg C):aq P w K mg base aM (k+1) f fd ["self","stand"] (zBb K C):=by
 refine yK F eF (λ_=>rfl) (λ_=>rfl) λcdv A outer s H E hr=>?_
 have nd:=eF.nd
 refine⟨_,(zB (zQ (O8 (RW K) rfl B.list KZ (zA (yM (cG K) (Ia K (pv 0)) (pv 1) (λ_ _=>rfl)) zE))) zG),?_⟩
 rintro Fa ⟨q0,q1,⟨⟩⟩
 exact SB.of (yC (RJ (wO (zKx T.cl T.nB (zD 0 rfl)) (zI 1 rfl))).ex) (by unfold xS;simp only[bnd])
def yA(q0:aF C)(q1:Str):Option LI:=((some q0.marks).bind λxs=>vZ (λ(s1:Unit) (x3:Str×LI)=>if(decide (x3.1=q1))=true then(EY x3.2).bind λb=>some (.rt b) else some (.nx ())) xs ()).bind λo=>o.els λs2=>some ([]:LI)
theorem eG:ao ["self","name","known","stands"] ["self","name"] (zH cX):=fsc
abbrev zBa(K:PySem.W.Frag)(C:Addr):Sp:=cN K false (λa:(aF C)×Str×Unit=>([.z a.1,.z a.2.1]:SL K)) (λa=>yA a.1 a.2.1)
theorem zDn(F:aZ K "marked" "Machine.marked" cX f fd)(B:Bl K mg)(T:Cl K mg C)(bK:mg "sorted" = none):aq P w K mg base aM (k+1) f fd ["self","name"] (zBa K C):=by
 refine yK F eG (λ_=>rfl) (λ_=>rfl) λcdv A outer s H E hr=>?_
 have nd:=eG.nd
 refine⟨_,(zB (xQ abe rfl (xG K (Ia K (pv 0))) (Hw rfl (yV (cJ 2 nd) (yV (cJ 3 nd) Dh))) (zB (yT (zZ (Cu K Str hr) (pv 2) (pv 1) (yI _)) (zB (zQ (zR (Y8 K) rfl bK Y5 (zA (pv 3) zE))) zG) zG) zG)) (zB (zQ (xV zE)) zG)),?_⟩
 rintro Fa ⟨q0,q1,⟨⟩⟩
 exact SB.of (VN (V2 (n:=false) (L:=(λs1:Unit=>([.z q0,.z q1,.un,.un]:SL K))) () bV (xI (zRj T.cl T.nM (yO 0 rfl))) (λs1=>(KJ 2 3 rfl rfl (λ_=>rfl) rfl)) (λs1 x3=>(VR (xH (md:=.hp) (Cv (zI 2 rfl) (zI 1 rfl))) (yC (Y_ (zD 3 rfl)).ex) (VP (λs1:Unit=>([.z q0,.z q1,.un,.un]:SL K)) () bV)))) (λs2=>(yC (ur (α:=Int)).ex))) (by unfold yA;simp only[bnd])
def xK(q0:aF C)(q1:Int):Option LI:=(cj q0.fair q1).bind λa1=>EY a1
theorem dU:ao ["self","number"] ["self","number"] (zH cP):=fsc
abbrev zAx(K:PySem.W.Frag)(C:Addr):Sp:=cN K false (λa:(aF C)×Int×Unit=>([.z a.1,.z a.2.1]:SL K)) (λa=>xK a.1 a.2.1)
theorem zCy(F:aZ K "fair_at" "Machine.fair_at" cP f fd)(B:Bl K mg)(T:Cl K mg C)(bK:mg "sorted" = none):aq P w K mg base aM (k+1) f fd ["self","number"] (zAx K C):=by
 refine yK F dU (λ_=>rfl) (λ_=>rfl) λcdv A outer s H E hr=>?_
 have nd:=dU.nd
 refine⟨_,(zB (zQ (zR (Y8 K) rfl bK Y5 (zA (yM (cG K) (Ia K (pv 0)) (pv 1) (λ_ _=>rfl)) zE))) zG),?_⟩
 rintro Fa ⟨q0,q1,⟨⟩⟩
 exact SB.of (yC (Y_ (wO (zMe T.cl T.nF (zD 0 rfl)) (zI 1 rfl))).ex) (by unfold xK;simp only[bnd])
def yL(q0:aF C):Option LI:=(yW q0).bind λa1=>tV a1
theorem ju:ao ["machine"] ["machine"] (zH gk):=fsc
abbrev wQ(K:PySem.W.Frag)(C:Addr):Sp:=cN K false (λa:(aF C)×Unit=>([.z a.1]:SL K)) (λa=>yL a.1)
theorem zHj(F:aZ K "everywhere" "everywhere" gk f fd)(B:Bl K mg)(aL:gj P w K mg base k C "many" ["self"] (wK K C)):aq P w K mg base aM (k+1) f fd ["machine"] (wQ K C):=by
 refine yK F ju (λ_=>rfl) (λ_=>rfl) λcdv A outer s H E hr=>?_
 have nd:=ju.nd
 refine⟨_,(zB (zQ (Zy rfl rfl B.list rfl B.range (zA (Wa aL hr (pv 0)) zE))) zG),?_⟩
 rintro Fa ⟨q0,⟨⟩⟩
 exact SB.of (yC (ZC (Ew (by decide +kernel) (zD 0 rfl) zO)).ex) (by unfold yL;simp only[bnd])
def Ql(q0:aF C)(q1:LI):Option (List Bool):=(((yW q0).bind λa2=>uM a2).bind λxs=>uB (λ(x3:Int)=>some true) (λ(x3:Int)=>some false) xs).bind λdW=>((some q1).bind λxs=>wD (λ(s4:List Bool) (x6:Int)=>(uw s4 x6 true).bind λBo=>some Bo) xs dW).bind λs5=>some s5
theorem qX:ao ["machine","stands","told","stand"] ["machine","stands"] (zH qe):=fsc
abbrev zLc(K:PySem.W.Frag)(C:Addr):Sp:=cN K false (λa:(aF C)×LI×Unit=>([.z a.1,.z a.2.1]:SL K)) (λa=>Ql a.1 a.2.1)
theorem zT2(F:aZ K "flags" "flags" qe f fd)(B:Bl K mg)(aL:gj P w K mg base k C "many" ["self"] (wK K C)):aq P w K mg base aM (k+1) f fd ["machine","stands"] (zLc K C):=by
 refine yK F qX (λ_=>rfl) (λ_=>rfl) λcdv A outer s H E hr=>?_
 have nd:=qX.nd
 refine⟨_,(zB (Cp (i:=2) (own:=["stand"]) (ix:=[]) nd rfl rfl rfl rfl rfl (wW rfl B.range (zA (Wa aL hr (pv 0)) zE)) (λC s H fp=>yS (i:=0) (show(["stand"]:List Str).Nodup from by decide +kernel) rfl (Or.inl rfl)) (λC s H fp=>wV) (λC s H fp=>zp)) (zB (xQ abe rfl (xG K (pv 1)) (cJ 3 nd) (zB (O6 zp (QJ (pv 2) (pv 3) O9)) zG)) (zB (zQ (pv 2)) zG))),?_⟩
 rintro Fa ⟨q0,q1,⟨⟩⟩
 exact SB.of (zW (ux true 2 rfl rfl (vN (n:=true) (jM:=[.un]) (no:=1) (ix:=[]) rfl rfl (uI (Ew (by decide +kernel) (zD 0 rfl) zO)) (yH 0 rfl rfl) (λx3=>Cw) (λx3=>(esc (Aq false))) (λx3=>jX))) (λdW=>(zW (vG (n:=false) (L:=(λs4:List Bool=>([.z q0,.z q1,.ow true s4,.un]:SL K))) dW bV (xI (yO 1 rfl)) (λs4=>(yH 3 rfl rfl)) (λs4 x6=>(zT (V0 2 rfl rfl (esc (Aq true)) (zI 3 rfl)) (λBo=>(yF (λs4:List Bool=>([.z q0,.z q1,.ow true s4,.un]:SL K)) Bo bV))))) (λs5=>(HW 2 rfl rfl))))) (by unfold Ql;simp only[bnd])
def uO(q0:LI)(q1:LI):Option LI:=Qa q0 q1
theorem nD:ao ["one","other"] ["one","other"] (zH kO):=fsc
abbrev zFv(K:PySem.W.Frag):Sp:=cN K false (λa:LI×LI×Unit=>([.z a.1,.z a.2.1]:SL K)) (λa=>uO a.1 a.2.1)
theorem zNo(F:aZ K "without" "without" kO f fd)(B:Bl K mg)(bK:mg "sorted" = none)(mq:mg "set" = none):aq P w K mg base aM (k+1) f fd ["one","other"] (zFv K):=by
 refine yK F nD (λ_=>rfl) (λ_=>rfl) λcdv A outer s H E hr=>?_
 have nd:=nD.nd
 refine⟨_,(zB (zQ (Wr rfl bK (FN (Lp K rfl mq (pv 0)) (Lp K rfl mq (pv 1))))) zG),?_⟩
 rintro Fa ⟨q0,q1,⟨⟩⟩
 exact SB.of (yC (zOa (zD 0 rfl) (zD 1 rfl)).ex) (by unfold uO;simp only[bnd])
def xB(q0:aF C)(q1:LI):Option LI:=((yL q0).bind λa2=>some ((a2,(q1,())))).bind λz1=>uO z1.1 z1.2.1
theorem pI:ao ["machine","stands"] ["machine","stands"] (zH mU):=fsc
abbrev Um(K:PySem.W.Frag)(C:Addr):Sp:=cN K false (λa:(aF C)×LI×Unit=>([.z a.1,.z a.2.1]:SL K)) (λa=>xB a.1 a.2.1)
theorem zQf(F:aZ K "others" "others" mU f fd)(B:Bl K mg)(aJ:bJ P w K mg base k "everywhere" ["machine"] (wQ K C))(dJ:bJ P w K mg base k "without" ["one","other"] (zFv K)):aq P w K mg base aM (k+1) f fd ["machine","stands"] (Um K C):=by
 refine yK F pI (λ_=>rfl) (λ_=>rfl) λcdv A outer s H E hr=>?_
 have nd:=pI.nd
 refine⟨_,(zB (zQ (zY dJ hr (zA (zY aJ hr (zA (pv 0) zE)) (zA (pv 1) zE)))) zG),?_⟩
 rintro Fa ⟨q0,q1,⟨⟩⟩
 exact SB.of (yC (zM (zF (zM (zF (zD 0 rfl) zO)) (zF (zD 1 rfl) zO)))) (by unfold xB;simp only[bnd])
def vH(q0:LI)(q1:LI):Option LI:=FQ q0 q1
theorem lM:ao ["one","other"] ["one","other"] (zH jC):=fsc
abbrev zDu(K:PySem.W.Frag):Sp:=cN K false (λa:LI×LI×Unit=>([.z a.1,.z a.2.1]:SL K)) (λa=>vH a.1 a.2.1)
theorem zKe(F:aZ K "together" "together" jC f fd)(B:Bl K mg)(bK:mg "sorted" = none)(mq:mg "set" = none):aq P w K mg base aM (k+1) f fd ["one","other"] (zDu K):=by
 refine yK F lM (λ_=>rfl) (λ_=>rfl) λcdv A outer s H E hr=>?_
 have nd:=lM.nd
 refine⟨_,(zB (zQ (Wr rfl bK (LK (Lp K rfl mq (pv 0)) (Lp K rfl mq (pv 1))))) zG),?_⟩
 rintro Fa ⟨q0,q1,⟨⟩⟩
 exact SB.of (yC (zRs (zD 0 rfl) (zD 1 rfl)).ex) (by unfold vH;simp only[bnd])
def xM(q0:LI)(q1:LI):Option LI:=Wt q0 q1
theorem pJ:ao ["one","other"] ["one","other"] (zH mV):=fsc
abbrev Qm(K:PySem.W.Frag):Sp:=cN K false (λa:LI×LI×Unit=>([.z a.1,.z a.2.1]:SL K)) (λa=>xM a.1 a.2.1)
theorem zQe(F:aZ K "shared" "shared" mV f fd)(B:Bl K mg)(bK:mg "sorted" = none)(mq:mg "set" = none):aq P w K mg base aM (k+1) f fd ["one","other"] (Qm K):=by
 refine yK F pJ (λ_=>rfl) (λ_=>rfl) λcdv A outer s H E hr=>?_
 have nd:=pJ.nd
 refine⟨_,(zB (zQ (Wr rfl bK (Fp (Lp K rfl mq (pv 0)) (Lp K rfl mq (pv 1))))) zG),?_⟩
 rintro Fa ⟨q0,q1,⟨⟩⟩
 exact SB.of (yC (zOc (zD 0 rfl) (zD 1 rfl)).ex) (by unfold xM;simp only[bnd])
def uR(q0:aF C)(q1:LI)(q2:LI):Option (List (Option Int)):=(Ql q0 q1).bind λbO=>(((yW q0).bind λa3=>uM a3).bind λxs=>uB (λ(x4:Int)=>some true) (λ(x4:Int)=>some (none:Option Int)) xs).bind λBp=>((some q2).bind λxs=>wD (λ(s5:List (Option Int)) (x7:Int)=>(uw s5 x7 (some (0:Int))).bind λBq=>some Bq) xs Bp).bind λs6=>(some q2).bind λNq=>(some (0:Int)).bind λqm=>(HN (λjq:(List (Option Int))×LI×Int=>some (decide (jq.2.2<(jq.2.1.length:Int)))) (λjq:(List (Option Int))×LI×Int=>(cj jq.2.1 jq.2.2).bind λgB=>((xS q0 gB).bind λxs=>wD (λ(oJ:(List (Option Int))×LI) (Nr:Int)=>(((cj bO Nr).bind λc18=>if c18=true then(cj oJ.1 Nr).bind λa17=>some a17.isNone else some false).bind λb=>if b=true then(((((cj oJ.1 gB).bind λa22=>a22).bind λa23=>some (a23+(1:Int))).bind λa24=>some (some a24)).bind λa25=>uw oJ.1 Nr a25).bind λgD=>(push oJ.2 Nr).bind λBr=>some (gD,Br) else some (oJ.1,oJ.2)).bind λv9=>some (v9.1,v9.2)) xs (jq.1,jq.2.1)).bind λUo=>(some (jq.2.2+(1:Int))).bind λqp=>some (Uo.1,Uo.2,qp)) fuel (s6,Nq,qm)).bind λs12=>some s12.1
theorem j6:ao ["machine","through","goal","passable","told","stand","row","place","source"] ["machine","through","goal"] (zH iy):=fsc
abbrev zF1(K:PySem.W.Frag)(C:Addr):Sp:=cN K false (λa:(aF C)×LI×LI×Unit=>([.z a.1,.z a.2.1,.z a.2.2.1]:SL K)) (λa=>uR a.1 a.2.1 a.2.2.1)
theorem zIw(F:aZ K "distances" "distances" iy f fd)(B:Bl K mg)(cY:gj P w K mg base k C "before" ["self","stand"] (zBb K C))(aL:gj P w K mg base k C "many" ["self"] (wK K C))(iU:bJ P w K mg base k "flags" ["machine","stands"] (zLc K C)):aq P w K mg base aM (k+1) f fd ["machine","through","goal"] (zF1 K C):=by
 refine yK F j6 (λ_=>rfl) (λ_=>rfl) λcdv A outer s H E hr=>?_
 have nd:=j6.nd
 refine⟨_,(zB (xY 3 nd (zY iU hr (zA (pv 0) (zA (pv 1) zE)))) (zB (Cp (i:=4) (own:=["stand"]) (ix:=[]) nd rfl rfl rfl rfl rfl (wW rfl B.range (zA (Wa aL hr (pv 0)) zE)) (λC s H fp=>yS (i:=0) (show(["stand"]:List Str).Nodup from by decide +kernel) rfl (Or.inl rfl)) (λC s H fp=>wV) (λC s H fp=>zVu)) (zB (xQ abe rfl (xG K (pv 2)) (cJ 5 nd) (zB (O6 zK (QJ (pv 4) (pv 5) O9)) zG)) (zB (xY 6 nd (O8 (RW K) rfl B.list KZ (zA (pv 2) zE))) (zB (xY 7 nd zK) (zB (zTt abe (zZ QV (pv 7) (zR (uT K) rfl B.len abp (zA (pv 6) zE)) (yI _)) (zB (xY 5 nd (yM (cG K) (pv 6) (pv 7) (λ_ _=>rfl))) (zB (xQ abe rfl (xG K (RX cY hr (pv 0) (zA (pv 5) zE))) (cJ 8 nd) (zB (yT (PW.pt (pw_and (wU (yM (cG K) (pv 3) (pv 8) (λ_ _=>rfl))) (pw_and1 (Ht (Vi (yM (cG K) (pv 4) (pv 8) (λ_ _=>rfl))))))) (zB (O6 (xC QS (yM (cG K) (pv 4) (pv 5) (λ_ _=>rfl)) zK) (QJ (pv 4) (pv 8) O9)) (zB (yD (yt K abf abm abn wB (pv 6) (zA (pv 8) zE))) zG)) zG) zG)) (zB (zVs (i:=7) nd rfl (by first|exact .inl rfl|exact .inr rfl) zK JV) zG)))) (zB (zQ (pv 4)) zG))))))),?_⟩
 rintro Fa ⟨q0,q1,q2,⟨⟩⟩
 exact SB.of (zW (xP true 3 rfl rfl (zM (zF (zD 0 rfl) (zF (zD 1 rfl) zO)))) (λbO=>(zW (ux true 4 rfl rfl (vN (n:=true) (jM:=[.un]) (no:=1) (ix:=[]) rfl rfl (uI (Ew (by decide +kernel) (zD 0 rfl) zO)) (yH 0 rfl rfl) (λx4=>Cw) (λx4=>(esc (zRg (α:=Int)))) (λx4=>jX))) (λBp=>(zW (vG (n:=false) (L:=(λs5:List (Option Int)=>([.z q0,.z q1,.z q2,.y bO,.ow true s5,.un,.un,.un,.un]:SL K))) Bp bV (xI (yO 2 rfl)) (λs5=>(yH 5 rfl rfl)) (λs5 x7=>(zT (V0 4 rfl rfl (esc (YF (zV 0))) (zI 5 rfl)) (λBq=>(yF (λs5:List (Option Int)=>([.z q0,.z q1,.z q2,.y bO,.ow true s5,.un,.un,.un,.un]:SL K)) Bq bV))))) (λs6=>(zW (ux true 6 rfl rfl (RJ (zD 2 rfl))) (λNq=>(zW (xP true 7 rfl rfl (esc (zV 0))) (λqm=>(zW (zTf (L:=(λjq:(List (Option Int))×LI×Int=>([.z q0,.z q1,.z q2,.y bO,.ow true jq.1,.un,.ow true jq.2.1,.y jq.2.2,.un]:SL K))) fuel (s6,Nq,qm) bV (λjq=>(xH (md:=.hp) (HX (zI 7 rfl) (tM (Cq 6 rfl))))) (λjq=>(zT (xP true 5 rfl rfl (esc (esc (wO (Cq 6 rfl) (zI 7 rfl))))) (λgB=>(zT (vG (n:=true) (L:=(λoJ:(List (Option Int))×LI=>([.z q0,.z q1,.z q2,.y bO,.ow true oJ.1,.y gB,.ow true oJ.2,.y jq.2.2,.un]:SL K))) (jq.1,jq.2.1) bV (xI (Ew (by decide +kernel) (zD 0 rfl) (zF (esc (zI 5 rfl)) zO))) (λoJ=>(yH 8 rfl rfl)) (λoJ Nr=>(zT (tK (VL (cU (md:=.hp) (esc (wO (zD 3 rfl) (zI 8 rfl)))) (cU (md:=.hp) (V8 (esc (wO (Cq 4 rfl) (zI 8 rfl)))))) (zT (V0 4 rfl rfl (esc (YF (RG (YZ (esc (wO (Cq 4 rfl) (zI 5 rfl)))) (zV 1)))) (zI 8 rfl)) (λgD=>(zT (vQ 6 rfl rfl (esc (zI 8 rfl))) (λBr=>(yF (λUq:(List (Option Int))×LI=>([.z q0,.z q1,.z q2,.y bO,.ow true Uq.1,.y gB,.ow true Uq.2,.y jq.2.2,.y Nr]:SL K)) (gD,Br) bV))))) (yF (λUq:(List (Option Int))×LI=>([.z q0,.z q1,.z q2,.y bO,.ow true Uq.1,.y gB,.ow true Uq.2,.y jq.2.2,.y Nr]:SL K)) (oJ.1,oJ.2) bV)) (λv9=>(yF (λoJ:(List (Option Int))×LI=>([.z q0,.z q1,.z q2,.y bO,.ow true oJ.1,.y gB,.ow true oJ.2,.y jq.2.2,.un]:SL K)) (v9.1,v9.2) bV))))) (λUo=>(zT (zVl (s:=.un) 7 rfl (zV 1)) (λqp=>(yF (λjq:(List (Option Int))×LI×Int=>([.z q0,.z q1,.z q2,.y bO,.ow true jq.1,.un,.ow true jq.2.1,.y jq.2.2,.un]:SL K)) (Uo.1,Uo.2,qp) bV))))))))) (λs12=>(HW 4 rfl rfl))))))))))))) (by unfold uR;simp only[bnd])
def xA(q0:aF C)(q1:LI)(q2:LI):Option LI:=(uR q0 q1 q2).bind λJf=>(some (Av Jf)).bind λxs=>uB (λ(x2:Int×(Option Int))=>some x2.2.isSome) (λ(x2:Int×(Option Int))=>some x2.1) xs
theorem lN:ao ["machine","through","goal","away"] ["machine","through","goal"] (zH jD):=fsc
abbrev W3(K:PySem.W.Frag)(C:Addr):Sp:=cN K false (λa:(aF C)×LI×LI×Unit=>([.z a.1,.z a.2.1,.z a.2.2.1]:SL K)) (λa=>xA a.1 a.2.1 a.2.2.1)
theorem zKh(F:aZ K "comes_to" "comes_to" jD f fd)(B:Bl K mg)(iI:bJ P w K mg base k "distances" ["machine","through","goal"] (zF1 K C)):aq P w K mg base aM (k+1) f fd ["machine","through","goal"] (W3 K C):=by
 refine yK F lN (λ_=>rfl) (λ_=>rfl) λcdv A outer s H E hr=>?_
 have nd:=lN.nd
 refine⟨_,(zB (xY 3 nd (zY iI hr (zA (pv 0) (zA (pv 1) (zA (pv 2) zE))))) (zB (zQ (DY (own:=["stand","steps"]) (ix:=[]) rfl rfl rfl (Y4 K B.enum (zA (pv 3) zE)) (λC s H fp=>zP4 (K:=K) (n:=2) rfl rfl (yV (yS (i:=0) (show(["stand","steps"]:List Str).Nodup from by decide +kernel) rfl (Or.inl rfl)) (yV (yS (i:=1) (show(["stand","steps"]:List Str).Nodup from by decide +kernel) rfl (Or.inl rfl)) Dh))) (λC s H fp=>Rn (Ht (Df (pv 1)))) (λC s H fp=>(pv 0)))) zG)),?_⟩
 rintro Fa ⟨q0,q1,q2,⟨⟩⟩
 exact SB.of (zW (xP true 3 rfl rfl (zM (zF (zD 0 rfl) (zF (zD 1 rfl) (zF (zD 2 rfl) zO))))) (λJf=>(yC (vN (n:=true) (jM:=[.un,.un]) (no:=2) (ix:=[]) rfl rfl (YS (yO 3 rfl)) (KJ 0 1 rfl rfl (λ_=>rfl) rfl) (λx2=>(cU (md:=.hp) (Em (zI 1 rfl)))) (λx2=>(esc (zI 0 rfl))) (λx2=>jX)).ex))) (by unfold xA;simp only[bnd])
def vR(q0:aF C)(q1:Int)(q2:List Bool):Option Bool:=((yX q0 q1).bind λxs=>uB (λ(x1:Int)=>some true) (λ(x1:Int)=>cj q2 x1) xs).bind λa2=>some (a2.any id)
theorem jw:ao ["machine","stand","hit"] ["machine","stand","hit"] (zH gn):=fsc
abbrev zD4(K:PySem.W.Frag)(C:Addr):Sp:=cN K false (λa:(aF C)×Int×(List Bool)×Unit=>([.z a.1,.z a.2.1,.z a.2.2.1]:SL K)) (λa=>vR a.1 a.2.1 a.2.2.1)
theorem zHh(F:aZ K "steps_into" "steps_into" gn f fd)(B:Bl K mg)(Nt:mg "any" = none)(aU:gj P w K mg base k C "next_of" ["self","stand"] (vO K C)):aq P w K mg base aM (k+1) f fd ["machine","stand","hit"] (zD4 K C):=by
 refine yK F jw (λ_=>rfl) (λ_=>rfl) λcdv A outer s H E hr=>?_
 have nd:=jw.nd
 refine⟨_,(zB (zQ (zR (zSd K rfl) rfl Nt K3 (zA (DY (own:=["after"]) (ix:=[2]) rfl rfl rfl (xG K (RX aU hr (pv 0) (zA (pv 1) zE))) (λC s H fp=>yS (i:=0) (show(["after","hit"]:List Str).Nodup from by decide +kernel) rfl (Or.inl rfl)) (λC s H fp=>wV) (λC s H fp=>(yM (cG K) (pv 1) (pv 0) (λ_ _=>rfl)))) zE))) zG),?_⟩
 rintro Fa ⟨q0,q1,q2,⟨⟩⟩
 exact SB.of (yC (esc (zMg (vN (n:=true) (jM:=[.un,.z q2]) (no:=1) (ix:=[2]) rfl rfl (xI (Ew (by decide +kernel) (zD 0 rfl) (zF (esc (zI 1 rfl)) zO))) (yH 0 rfl rfl) (λx1=>Cw) (λx1=>(esc (esc (wO (zD 1 rfl) (zI 0 rfl))))) (λx1=>jX)).ex))) (by unfold vR;simp only[bnd])
def wX(q0:aF C)(q1:LI)(q2:LI):Option LI:=(Ql q0 q2).bind λhit1=>(some q1).bind λxs=>uB (λ(x2:Int)=>vR q0 x2 hit1) (λ(x2:Int)=>some x2) xs
theorem iJ:ao ["machine","among","goal","hit"] ["machine","among","goal"] (zH eZ):=fsc
abbrev zDd(K:PySem.W.Frag)(C:Addr):Sp:=cN K false (λa:(aF C)×LI×LI×Unit=>([.z a.1,.z a.2.1,.z a.2.2.1]:SL K)) (λa=>wX a.1 a.2.1 a.2.2.1)
theorem zF6(F:aZ K "stepping_to" "stepping_to" eZ f fd)(B:Bl K mg)(iU:bJ P w K mg base k "flags" ["machine","stands"] (zLc K C))(gF:bJ P w K mg base k "steps_into" ["machine","stand","hit"] (zD4 K C)):aq P w K mg base aM (k+1) f fd ["machine","among","goal"] (zDd K C):=by
 refine yK F iJ (λ_=>rfl) (λ_=>rfl) λcdv A outer s H E hr=>?_
 have nd:=iJ.nd
 refine⟨_,(zB (xY 3 nd (zY iU hr (zA (pv 0) (zA (pv 2) zE)))) (zB (zQ (DY (own:=["stand"]) (ix:=[0,3]) rfl rfl rfl (xG K (pv 1)) (λC s H fp=>yS (i:=0) (show(["stand","machine","hit"]:List Str).Nodup from by decide +kernel) rfl (Or.inl rfl)) (λC s H fp=>Rn (wU (zY gF hr (zA (pv 1) (zA (pv 0) (zA (pv 2) zE)))))) (λC s H fp=>(pv 0)))) zG)),?_⟩
 rintro Fa ⟨q0,q1,q2,⟨⟩⟩
 exact SB.of (zW (xP true 3 rfl rfl (zM (zF (zD 0 rfl) (zF (zD 2 rfl) zO)))) (λhit1=>(yC (vN (n:=false) (jM:=[.un,.z q0,.y hit1]) (no:=1) (ix:=[0,3]) rfl rfl (xI (yO 1 rfl)) (yH 0 rfl rfl) (λx2=>(cU (md:=.hp) (zM (zF (zD 1 rfl) (zF (esc (zI 0 rfl)) (zF (zD 2 rfl) zO)))))) (λx2=>(esc (zI 0 rfl))) (λx2=>jX)).ex))) (by unfold wX;simp only[bnd])
def Qn(q0:LI):Option Int:=(some (0:Int)).bind λdW=>((some q0).bind λxs=>wD (λ(s2:Int) (x4:Int)=>((uy (1:Int) x4).bind λa6=>some (adq s2 a6)).bind λnG=>some nG) xs dW).bind λs3=>some s3
theorem nH:ao ["stands","told","stand"] ["stands"] (zH kW):=fsc
abbrev zJu(K:PySem.W.Frag):Sp:=cN K false (λa:LI×Unit=>([.z a.1]:SL K)) (λa=>Qn a.1)
theorem zNs(F:aZ K "bits_of" "bits_of" kW f fd)(B:Bl K mg):aq P w K mg base aM (k+1) f fd ["stands"] (zJu K):=by
 refine yK F nH (λ_=>rfl) (λ_=>rfl) λcdv A outer s H E hr=>?_
 have nd:=nH.nd
 refine⟨_,(zB (xY 1 nd zK) (zB (xQ abe rfl (xG K (pv 0)) (cJ 2 nd) (zB (zVs (i:=1) nd rfl (by first|exact .inl rfl|exact .inr rfl) (xC J7 zK (pv 2)) Iu) zG)) (zB (zQ (pv 1)) zG))),?_⟩
 rintro Fa ⟨q0,⟨⟩⟩
 exact SB.of (zW (xP true 1 rfl rfl (esc (zV 0))) (λdW=>(zW (vG (n:=false) (L:=(λs2:Int=>([.z q0,.y s2,.un]:SL K))) dW bV (xI (yO 0 rfl)) (λs2=>(yH 2 rfl rfl)) (λs2 x4=>(zT (zVl (s:=.un) 1 rfl (Lr (zV 1) (zI 2 rfl))) (λnG=>(yF (λs2:Int=>([.z q0,.y s2,.un]:SL K)) nG bV))))) (λs3=>(yC (esc (zI 1 rfl))))))) (by unfold Qn;simp only[bnd])
def wY(q0:aF C)(q1:LI):Option LI:=(Qn q1).bind λdh=>(((yW q0).bind λa3=>uM a3).bind λxs=>uB (λ(x4:Int)=>some true) (λ(x4:Int)=>some (0:Int)) xs).bind λdX=>((some q1).bind λxs=>wD (λ(s5:LI) (x7:Int)=>(((((yX q0 x7).bind λa10=>some ((a10,()))).bind λz9=>Qn z9.1).bind λa11=>some (abo a11 dh)).bind λa12=>uw s5 x7 a12).bind λBt=>some Bt) xs dX).bind λs6=>((some q1).bind λxs=>wD (λ(yx:LI) (wg:Int)=>((some q1).bind λxs=>wD (λ(Bu:LI) (x18:Int)=>(((((cj Bu x18).bind λa19=>jA a19 wg).bind λa20=>some (abo a20 (1:Int))).bind λa21=>some (a21 != 0)).bind λb=>if b=true then((cj Bu wg).bind λb25=>Ft (λi j=>adq i j) Bu x18 b25).bind λsu=>some su else some Bu).bind λBv=>some Bv) xs yx).bind λs17=>some s17) xs s6).bind λoJ=>some oJ
theorem iK:ao ["machine","within","inside","rows","stand","middle"] ["machine","within"] (zH fj):=fsc
abbrev zDf(K:PySem.W.Frag)(C:Addr):Sp:=cN K false (λa:(aF C)×LI×Unit=>([.z a.1,.z a.2.1]:SL K)) (λa=>wY a.1 a.2.1)
theorem zF7(F:aZ K "onward_bits" "onward_bits" fj f fd)(B:Bl K mg)(aL:gj P w K mg base k C "many" ["self"] (wK K C))(aU:gj P w K mg base k C "next_of" ["self","stand"] (vO K C))(iV:bJ P w K mg base k "bits_of" ["stands"] (zJu K)):aq P w K mg base aM (k+1) f fd ["machine","within"] (zDf K C):=by
 refine yK F iK (λ_=>rfl) (λ_=>rfl) λcdv A outer s H E hr=>?_
 have nd:=iK.nd
 refine⟨_,(zB (xY 2 nd (zY iV hr (zA (pv 1) zE))) (zB (Cp (i:=3) (own:=["stand"]) (ix:=[]) nd rfl rfl rfl rfl rfl (wW rfl B.range (zA (Wa aL hr (pv 0)) zE)) (λC s H fp=>yS (i:=0) (show(["stand"]:List Str).Nodup from by decide +kernel) rfl (Or.inl rfl)) (λC s H fp=>wV) (λC s H fp=>zK)) (zB (xQ abe rfl (xG K (pv 1)) (cJ 4 nd) (zB (O6 (xC QT (zY iV hr (zA (RX aU hr (pv 0) (zA (pv 4) zE)) zE)) (pv 2)) (QJ (pv 3) (pv 4) O9)) zG)) (zB (xQ abe rfl (xG K (pv 1)) (cJ 5 nd) (zB (xQ abe rfl (xG K (pv 1)) (cJ 4 nd) (zB (yT (Zx K (xC QT (xC Vp (yM (cG K) (pv 3) (pv 4) (λ_ _=>rfl)) (pv 5)) zK)) (zB (Dk (pv 3) (pv 4) (zRa K) (yM (cG K) (pv 3) (pv 5) (λ_ _=>rfl)) Iu O9) zG) zG) zG)) zG)) (zB (zQ (pv 3)) zG))))),?_⟩
 rintro Fa ⟨q0,q1,⟨⟩⟩
 exact SB.of (zW (xP true 2 rfl rfl (esc (zM (zF (zD 1 rfl) zO)))) (λdh=>(zW (ux true 3 rfl rfl (vN (n:=true) (jM:=[.un]) (no:=1) (ix:=[]) rfl rfl (uI (Ew (by decide +kernel) (zD 0 rfl) zO)) (yH 0 rfl rfl) (λx4=>Cw) (λx4=>(esc (zV 0))) (λx4=>jX))) (λdX=>(zW (vG (n:=false) (L:=(λs5:LI=>([.z q0,.z q1,.y dh,.ow true s5,.un,.un]:SL K))) dX bV (xI (yO 1 rfl)) (λs5=>(yH 4 rfl rfl)) (λs5 x7=>(zT (V0 3 rfl rfl (esc (S6 (zM (zF (Ew (by decide +kernel) (zD 0 rfl) (zF (esc (zI 4 rfl)) zO)) zO)) (zI 2 rfl))) (zI 4 rfl)) (λBt=>(yF (λs5:LI=>([.z q0,.z q1,.y dh,.ow true s5,.un,.un]:SL K)) Bt bV))))) (λs6=>(zW (vG (n:=false) (L:=(λyx:LI=>([.z q0,.z q1,.y dh,.ow true yx,.un,.un]:SL K))) s6 bV (xI (yO 1 rfl)) (λyx=>(yH 5 rfl rfl)) (λyx wg=>(zT (vG (n:=false) (L:=(λBu:LI=>([.z q0,.z q1,.y dh,.ow true Bu,.un,.z wg]:SL K))) yx bV (xI (yO 1 rfl)) (λBu=>(yH 4 rfl rfl)) (λBu x18=>(zT (tK (Zz (S6 (Wu (esc (wO (Cq 3 rfl) (zI 4 rfl))) (zI 5 rfl)) (zV 1))) (zT (zTh 3 rfl rfl (zI 4 rfl) (esc (wO (Cq 3 rfl) (zI 5 rfl)))) (λsu=>(yF (λNu:LI=>([.z q0,.z q1,.y dh,.ow true Nu,.z x18,.z wg]:SL K)) su bV))) (yF (λNu:LI=>([.z q0,.z q1,.y dh,.ow true Nu,.z x18,.z wg]:SL K)) Bu bV)) (λBv=>(yF (λBu:LI=>([.z q0,.z q1,.y dh,.ow true Bu,.un,.z wg]:SL K)) Bv bV))))) (λs17=>(yF (λyx:LI=>([.z q0,.z q1,.y dh,.ow true yx,.un,.un]:SL K)) s17 bV))))) (λoJ=>(HW 3 rfl rfl))))))))) (by unfold wY;simp only[bnd])
def Ur(q0:aF C)(q1:LI):Option (List LI):=(PN q1).bind λdj=>(wY q0 dj).bind λdX=>(some (([]:List LI))).bind λBw=>(some ()).bind λUs=>((some dj).bind λxs=>wD (λ(s5:(List LI)×(List (Key×Bool))) (x7:Int)=>((if(!(je (Dc.mk s5.2).kv x7).isSome)=true then(((cj dX x7).bind λa8=>jA a8 x7).bind λa9=>some (abo a9 (1:Int))).bind λa10=>some (a10 != 0) else some false).bind λb=>if b=true then((some dj).bind λxs=>uB (λ(Nv:Int)=>((((cj dX x7).bind λa15=>jA a15 Nv).bind λa17=>((cj dX Nv).bind λa16=>jA a16 x7).bind λb18=>some (abo a17 b18)).bind λa19=>some (abo a19 (1:Int))).bind λa20=>some (a20 != 0)) (λ(Nv:Int)=>some Nv) xs).bind λnJ=>(push s5.1 nJ).bind λgD=>((some nJ).bind λxs=>wD (λ(Bv:List (Key×Bool)) (x24:Int)=>(dput Bv x24 true).bind λsy=>some sy) xs s5.2).bind λNu=>some (gD,Nu) else some (s5.1,s5.2)).bind λjq=>some (jq.1,jq.2)) xs ((Bw,([]:List (Key×Bool))))).bind λs6=>some s6.1
theorem qY:ao ["machine","within","stands","rows","told","done","stand","ring","other"] ["machine","within"] (zH qg):=fsc
abbrev zSo(K:PySem.W.Frag)(C:Addr):Sp:=cN K false (λa:(aF C)×LI×Unit=>([.z a.1,.z a.2.1]:SL K)) (λa=>Ur a.1 a.2.1)
theorem zT0(F:aZ K "rings" "rings" qg f fd)(B:Bl K mg)(bK:mg "sorted" = none)(mq:mg "set" = none)(fJ:bJ P w K mg base k "onward_bits" ["machine","within"] (zDf K C)):aq P w K mg base aM (k+1) f fd ["machine","within"] (zSo K C):=by
 refine yK F qY (λ_=>rfl) (λ_=>rfl) λcdv A outer s H E hr=>?_
 have nd:=qY.nd
 have hu:=Af hr
 refine⟨_,(zB (xY 2 nd (Wr rfl bK (Lp K rfl mq (pv 1)))) (zB (xY 3 nd (zY fJ hr (zA (pv 0) (zA (pv 2) zE)))) (zB (xY 4 nd (xV zE)) (zB (xY 5 nd X7) (zB (xQ abe rfl (xG K (pv 2)) (cJ 6 nd) (zB (yT (PW.pt (pw_and (Ht (zP7 hu (pv 6) (pv 5))) (pw_and1 (Zx K (xC QT (xC Vp (yM (cG K) (pv 3) (pv 6) (λ_ _=>rfl)) (pv 6)) zK))))) (zB (Cp (i:=7) (own:=["other"]) (ix:=[3,6]) nd rfl rfl rfl rfl rfl (xG K (pv 2)) (λC s H fp=>yS (i:=0) (show(["other","rows","stand"]:List Str).Nodup from by decide +kernel) rfl (Or.inl rfl)) (λC s H fp=>Rn (Zx K (xC QT (xC QT (xC Vp (yM (cG K) (pv 1) (pv 2) (λ_ _=>rfl)) (pv 0)) (xC Vp (yM (cG K) (pv 1) (pv 0) (λ_ _=>rfl)) (pv 2))) zK))) (λC s H fp=>(pv 0))) (zB (yD (yt K abf abm abn wB (pv 4) (zA (pv 7) zE))) (zB (xQ abe rfl (xG K (pv 7)) (cJ 8 nd) (zB (X6 hu (pv 5) (pv 8) zp rfl) zG)) zG))) zG) zG)) (zB (zQ (pv 4)) zG)))))),?_⟩
 rintro Fa ⟨q0,q1,⟨⟩⟩
 exact SB.of (zW (xP true 2 rfl rfl (zOb (zD 1 rfl)).ex) (λdj=>(zW (xP true 3 rfl rfl (zM (zF (zD 0 rfl) (zF (zD 2 rfl) zO)))) (λdX=>(zW (ux true 4 rfl rfl (ur (α:=LI))) (λBw=>(zW (YJ (α:=Bool) 5 rfl rfl) (λUs=>(zW (vG (n:=true) (L:=(λs5:(List LI)×(List (Key×Bool))=>([.z q0,.z q1,.y dj,.y dX,.ow true s5.1,.od (s5.2:List (Key×Bool)),.un,.un,.un]:SL K))) ((Bw,([]:List (Key×Bool)))) bV (xI (yO 2 rfl)) (λs5=>(yH 6 rfl rfl)) (λs5 x7=>(zT (tK (VL (cU (md:=.hp) (zRk (zI 6 rfl) (Zb 5 rfl))) (Zz (S6 (Wu (esc (wO (zD 3 rfl) (zI 6 rfl))) (zI 6 rfl)) (zV 1)))) (zT (xP true 7 rfl rfl (vN (n:=true) (jM:=[.un,.y dX,.y x7]) (no:=1) (ix:=[3,6]) rfl rfl (xI (yO 2 rfl)) (yH 0 rfl rfl) (λNv=>(Zz (S6 (S6 (Wu (esc (wO (zD 1 rfl) (zI 2 rfl))) (zI 0 rfl)) (Wu (esc (wO (zD 1 rfl) (zI 0 rfl))) (zI 2 rfl))) (zV 1)))) (λNv=>(esc (zI 0 rfl))) (λNv=>jX)).ex) (λnJ=>(zT (vQ 4 rfl rfl (yO 7 rfl)) (λgD=>(zT (vG (n:=true) (L:=(λBv:List (Key×Bool)=>([.z q0,.z q1,.y dj,.y dX,.ow true gD,.od (Bv:List (Key×Bool)),.y x7,.y nJ,.un]:SL K))) s5.2 bV (xI (yO 7 rfl)) (λBv=>(yH 8 rfl rfl)) (λBv x24=>(zT (zPe 5 rfl rfl (esc (Aq true)) (zI 8 rfl)) (λsy=>(yF (λBv:List (Key×Bool)=>([.z q0,.z q1,.y dj,.y dX,.ow true gD,.od (Bv:List (Key×Bool)),.y x7,.y nJ,.un]:SL K)) sy bV))))) (λNu=>(yF (λs12:(List LI)×(List (Key×Bool))=>([.z q0,.z q1,.y dj,.y dX,.ow true s12.1,.od (s12.2:List (Key×Bool)),.y x7,.un,.un]:SL K)) (gD,Nu) bV))))))) (yF (λs12:(List LI)×(List (Key×Bool))=>([.z q0,.z q1,.y dj,.y dX,.ow true s12.1,.od (s12.2:List (Key×Bool)),.y x7,.un,.un]:SL K)) (s5.1,s5.2) bV)) (λjq=>(yF (λs5:(List LI)×(List (Key×Bool))=>([.z q0,.z q1,.y dj,.y dX,.ow true s5.1,.od (s5.2:List (Key×Bool)),.un,.un,.un]:SL K)) (jq.1,jq.2) bV))))) (λs6=>(HW 4 rfl rfl))))))))))) (by unfold Ur;simp only[bnd])
def uP(q0:aF C)(q1:LI):Option (Option Int):=((uM (q0.fair.length:Int)).bind λxs=>vZ (λ(s1:Unit) (x3:Int)=>((((((xK q0 x3).bind λa5=>some ((a5,()))).bind λb6=>some (q1,b6)).bind λz4=>xM z4.1 z4.2.1).bind λa7=>some (a7.length:Int)).bind λa8=>some (decide (a8=(0:Int)))).bind λb=>if b=true then(some (some x3)).bind λb=>some (.rt b) else some (.nx ())) xs ()).bind λo=>o.els λs2=>some (none:Option Int)
theorem j7:ao ["machine","ring","number"] ["machine","ring"] (zH iz):=fsc
abbrev zFy(K:PySem.W.Frag)(C:Addr):Sp:=cN K false (λa:(aF C)×LI×Unit=>([.z a.1,.z a.2.1]:SL K)) (λa=>uP a.1 a.2.1)
theorem zIu(F:aZ K "missed_by" "missed_by" iz f fd)(B:Bl K mg)(T:Cl K mg C)(cQ:gj P w K mg base k C "fair_at" ["self","number"] (zAx K C))(aX:bJ P w K mg base k "shared" ["one","other"] (Qm K)):aq P w K mg base aM (k+1) f fd ["machine","ring"] (zFy K C):=by
 refine yK F j7 (λ_=>rfl) (λ_=>rfl) λcdv A outer s H E hr=>?_
 have nd:=j7.nd
 refine⟨_,(zB (xQ abe rfl (wW rfl B.range (zA (zR (uT K) rfl B.len abp (zA (Ia K (pv 0)) zE)) zE)) (cJ 2 nd) (zB (yT (zZ (Cu K Int hr) (zR (uT K) rfl B.len abp (zA (zY aX hr (zA (pv 1) (zA (RX cQ hr (pv 0) (zA (pv 2) zE)) zE))) zE)) zK (yI _)) (zB (zQ (pv 2)) zG) zG) zG)) (zB (zQ zVu) zG)),?_⟩
 rintro Fa ⟨q0,q1,⟨⟩⟩
 exact SB.of (VN (V2 (n:=true) (L:=(λs1:Unit=>([.z q0,.z q1,.un]:SL K))) () bV (uI (tM (zMe T.cl T.nF (zD 0 rfl)))) (λs1=>(yH 2 rfl rfl)) (λs1 x3=>(VR (xH (md:=.hp) (Cv (tM (zM (zF (zD 1 rfl) (zF (Ew (by decide +kernel) (zD 0 rfl) (zF (esc (zI 2 rfl)) zO)) zO)))) (zV 0))) (yC (esc (YF (zI 2 rfl)))) (VP (λs1:Unit=>([.z q0,.z q1,.un]:SL K)) () bV)))) (λs2=>(yC (esc (zRg (α:=Int)))))) (by unfold uP;simp only[bnd])
def wP(q0:aF C)(q1:LI):Option (List LI):=(Ur q0 q1).bind λxs=>uB (λ(x1:LI)=>(uP q0 x1).bind λa2=>some a2.isNone) (λ(x1:LI)=>some x1) xs
theorem jx:ao ["machine","within"] ["machine","within"] (zH gq):=fsc
abbrev zD5(K:PySem.W.Frag)(C:Addr):Sp:=cN K false (λa:(aF C)×LI×Unit=>([.z a.1,.z a.2.1]:SL K)) (λa=>wP a.1 a.2.1)
theorem zHi(F:aZ K "fair_rings" "fair_rings" gq f fd)(B:Bl K mg)(iQ:bJ P w K mg base k "missed_by" ["machine","ring"] (zFy K C))(qt:bJ P w K mg base k "rings" ["machine","within"] (zSo K C)):aq P w K mg base aM (k+1) f fd ["machine","within"] (zD5 K C):=by
 refine yK F jx (λ_=>rfl) (λ_=>rfl) λcdv A outer s H E hr=>?_
 have nd:=jx.nd
 refine⟨_,(zB (zQ (DY (own:=["ring"]) (ix:=[0]) rfl rfl rfl (xG K (zY qt hr (zA (pv 0) (zA (pv 1) zE)))) (λC s H fp=>yS (i:=0) (show(["ring","machine"]:List Str).Nodup from by decide +kernel) rfl (Or.inl rfl)) (λC s H fp=>Rn (Ht (Vi (zY iQ hr (zA (pv 1) (zA (pv 0) zE)))))) (λC s H fp=>(pv 0)))) zG),?_⟩
 rintro Fa ⟨q0,q1,⟨⟩⟩
 exact SB.of (yC (vN (n:=true) (jM:=[.un,.z q0]) (no:=1) (ix:=[0]) rfl rfl (xI (zM (zF (zD 0 rfl) (zF (zD 1 rfl) zO)))) (yH 0 rfl rfl) (λx1=>(cU (md:=.hp) (V8 (zM (zF (zD 1 rfl) (zF (zD 0 rfl) zO)))))) (λx1=>(yO 0 rfl)) (λx1=>jX)).ex) (by unfold wP;simp only[bnd])
def Nx(q0:List LI):Option LI:=(some ([]:LI)).bind λdW=>((some q0).bind λxs=>wD (λ(s2:LI) (x4:LI)=>(A_ s2 x4).bind λnG=>some nG) xs dW).bind λs3=>some s3
theorem pL:ao ["lists","told","things"] ["lists"] (zH mW):=fsc
abbrev zMx(K:PySem.W.Frag):Sp:=cN K false (λa:((List LI))×Unit=>([.z a.1]:SL K)) (λa=>Nx a.1)
theorem zQk(F:aZ K "joined" "joined" mW f fd)(B:Bl K mg):aq P w K mg base aM (k+1) f fd ["lists"] (zMx K):=by
 refine yK F pL (λ_=>rfl) (λ_=>rfl) λcdv A outer s H E hr=>?_
 have nd:=pL.nd
 refine⟨_,(zB (xY 1 nd (xV zE)) (zB (xQ abe rfl (xG K (pv 0)) (cJ 2 nd) (zB (yD (yt K abf ad8 ad9 Yk (pv 1) (zA (pv 2) zE))) zG)) (zB (zQ (pv 1)) zG))),?_⟩
 rintro Fa ⟨q0,⟨⟩⟩
 exact SB.of (zW (ux true 1 rfl rfl (ur (α:=Int))) (λdW=>(zW (vG (n:=false) (L:=(λs2:LI=>([.z q0,.ow true s2,.un]:SL K))) dW bV (xI (yO 0 rfl)) (λs2=>(yH 2 rfl rfl)) (λs2 x4=>(zT (zPd 1 rfl rfl (zD 2 rfl)) (λnG=>(yF (λs2:LI=>([.z q0,.ow true s2,.un]:SL K)) nG bV))))) (λs3=>(HW 1 rfl rfl))))) (by unfold Nx;simp only[bnd])
def CP(q0:aF C)(q1:LI):Option LI:=((((((wP q0 q1).bind λa2=>some ((a2,()))).bind λz1=>Nx z1.1).bind λa4=>some ((a4,()))).bind λb5=>some (q1,b5)).bind λb6=>some (q0,b6)).bind λz3=>xA z3.1 z3.2.1 z3.2.2.1
theorem tX:ao ["machine","within"] ["machine","within"] (zH rY):=fsc
abbrev W4(K:PySem.W.Frag)(C:Addr):Sp:=cN K false (λa:(aF C)×LI×Unit=>([.z a.1,.z a.2.1]:SL K)) (λa=>CP a.1 a.2.1)
theorem GD(F:aZ K "core" "core" rY f fd)(B:Bl K mg)(bL:bJ P w K mg base k "comes_to" ["machine","through","goal"] (W3 K C))(gG:bJ P w K mg base k "fair_rings" ["machine","within"] (zD5 K C))(nO:bJ P w K mg base k "joined" ["lists"] (zMx K)):aq P w K mg base aM (k+1) f fd ["machine","within"] (W4 K C):=by
 refine yK F tX (λ_=>rfl) (λ_=>rfl) λcdv A outer s H E hr=>?_
 have nd:=tX.nd
 refine⟨_,(zB (zQ (zY bL hr (zA (pv 0) (zA (pv 1) (zA (zY nO hr (zA (zY gG hr (zA (pv 0) (zA (pv 1) zE))) zE)) zE))))) zG),?_⟩
 rintro Fa ⟨q0,q1,⟨⟩⟩
 exact SB.of (yC (zM (zF (zD 0 rfl) (zF (zD 1 rfl) (zF (zM (zF (zM (zF (zD 0 rfl) (zF (zD 1 rfl) zO))) zO)) zO))))) (by unfold CP;simp only[bnd])
def Ny(q0:aF C):Option LI:=(((yL q0).bind λa2=>some ((a2,()))).bind λb3=>some (q0,b3)).bind λz1=>CP z1.1 z1.2.1
theorem qZ:ao ["machine"] ["machine"] (zH s_alive):=fsc
abbrev zSq(K:PySem.W.Frag)(C:Addr):Sp:=cN K false (λa:(aF C)×Unit=>([.z a.1]:SL K)) (λa=>Ny a.1)
theorem zT3(F:aZ K "alive" "alive" s_alive f fd)(B:Bl K mg)(gH:bJ P w K mg base k "core" ["machine","within"] (W4 K C))(aJ:bJ P w K mg base k "everywhere" ["machine"] (wQ K C)):aq P w K mg base aM (k+1) f fd ["machine"] (zSq K C):=by
 refine yK F qZ (λ_=>rfl) (λ_=>rfl) λcdv A outer s H E hr=>?_
 have nd:=qZ.nd
 refine⟨_,(zB (zQ (zY gH hr (zA (pv 0) (zA (zY aJ hr (zA (pv 0) zE)) zE)))) zG),?_⟩
 rintro Fa ⟨q0,⟨⟩⟩
 exact SB.of (yC (zM (zF (zD 0 rfl) (zF (zM (zF (zD 0 rfl) zO)) zO)))) (by unfold Ny;simp only[bnd])
def xZ(q0:aF C)(q1:LI)(q2:LI):Option LI:=(((yL q0).bind λa3=>((xM q1 q2).bind λa2=>some ((a2,()))).bind λb4=>some (a3,b4)).bind λb5=>some (q0,b5)).bind λz1=>wX z1.1 z1.2.1 z1.2.2.1
theorem j8:ao ["machine","living","part"] ["machine","living","part"] (zH iB):=fsc
abbrev zFx(K:PySem.W.Frag)(C:Addr):Sp:=cN K false (λa:(aF C)×LI×LI×Unit=>([.z a.1,.z a.2.1,.z a.2.2.1]:SL K)) (λa=>xZ a.1 a.2.1 a.2.2.1)
theorem zIt(F:aZ K "some_next" "some_next" iB f fd)(B:Bl K mg)(aJ:bJ P w K mg base k "everywhere" ["machine"] (wQ K C))(aX:bJ P w K mg base k "shared" ["one","other"] (Qm K))(fK:bJ P w K mg base k "stepping_to" ["machine","among","goal"] (zDd K C)):aq P w K mg base aM (k+1) f fd ["machine","living","part"] (zFx K C):=by
 refine yK F j8 (λ_=>rfl) (λ_=>rfl) λcdv A outer s H E hr=>?_
 have nd:=j8.nd
 refine⟨_,(zB (zQ (zY fK hr (zA (pv 0) (zA (zY aJ hr (zA (pv 0) zE)) (zA (zY aX hr (zA (pv 1) (zA (pv 2) zE))) zE))))) zG),?_⟩
 rintro Fa ⟨q0,q1,q2,⟨⟩⟩
 exact SB.of (yC (zM (zF (zD 0 rfl) (zF (zM (zF (zD 0 rfl) zO)) (zF (zM (zF (zD 1 rfl) (zF (zD 2 rfl) zO))) zO))))) (by unfold xZ;simp only[bnd])
def xD(q0:aF C)(q1:LI)(q2:LI)(q3:LI):Option LI:=((((xM q1 q3).bind λa2=>some ((a2,()))).bind λb3=>some (q2,b3)).bind λb4=>some (q0,b4)).bind λz1=>xA z1.1 z1.2.1 z1.2.2.1
theorem j9:ao ["machine","living","left","right"] ["machine","living","left","right"] (zH iC):=fsc
abbrev zFw(K:PySem.W.Frag)(C:Addr):Sp:=cN K false (λa:(aF C)×LI×LI×LI×Unit=>([.z a.1,.z a.2.1,.z a.2.2.1,.z a.2.2.2.1]:SL K)) (λa=>xD a.1 a.2.1 a.2.2.1 a.2.2.2.1)
theorem zIs(F:aZ K "some_till" "some_till" iC f fd)(B:Bl K mg)(bL:bJ P w K mg base k "comes_to" ["machine","through","goal"] (W3 K C))(aX:bJ P w K mg base k "shared" ["one","other"] (Qm K)):aq P w K mg base aM (k+1) f fd ["machine","living","left","right"] (zFw K C):=by
 refine yK F j9 (λ_=>rfl) (λ_=>rfl) λcdv A outer s H E hr=>?_
 have nd:=j9.nd
 refine⟨_,(zB (zQ (zY bL hr (zA (pv 0) (zA (pv 2) (zA (zY aX hr (zA (pv 1) (zA (pv 3) zE))) zE))))) zG),?_⟩
 rintro Fa ⟨q0,q1,q2,q3,⟨⟩⟩
 exact SB.of (yC (zM (zF (zD 0 rfl) (zF (zD 2 rfl) (zF (zM (zF (zD 1 rfl) (zF (zD 3 rfl) zO))) zO))))) (by unfold xD;simp only[bnd])
def Ut(q0:aF C)(q1:LI)(q2:LI)(q3:LI):Option LI:=(((((xB q0 q3).bind λa2=>some ((a2,()))).bind λb3=>some (q1,b3)).bind λz1=>xM z1.1 z1.2.1).bind λa5=>some ((a5,(q2,())))).bind λz4=>uO z4.1 z4.2.1
theorem lO:ao ["machine","living","left","right"] ["machine","living","left","right"] (zH jE):=fsc
abbrev zGu(K:PySem.W.Frag)(C:Addr):Sp:=cN K false (λa:(aF C)×LI×LI×LI×Unit=>([.z a.1,.z a.2.1,.z a.2.2.1,.z a.2.2.2.1]:SL K)) (λa=>Ut a.1 a.2.1 a.2.2.1 a.2.2.2.1)
theorem zKf(F:aZ K "spoilers" "spoilers" jE f fd)(B:Bl K mg)(aV:bJ P w K mg base k "others" ["machine","stands"] (Um K C))(aX:bJ P w K mg base k "shared" ["one","other"] (Qm K))(dJ:bJ P w K mg base k "without" ["one","other"] (zFv K)):aq P w K mg base aM (k+1) f fd ["machine","living","left","right"] (zGu K C):=by
 refine yK F lO (λ_=>rfl) (λ_=>rfl) λcdv A outer s H E hr=>?_
 have nd:=lO.nd
 refine⟨_,(zB (zQ (zY dJ hr (zA (zY aX hr (zA (pv 1) (zA (zY aV hr (zA (pv 0) (zA (pv 3) zE))) zE))) (zA (pv 2) zE)))) zG),?_⟩
 rintro Fa ⟨q0,q1,q2,q3,⟨⟩⟩
 exact SB.of (yC (zM (zF (zM (zF (zD 1 rfl) (zF (zM (zF (zD 0 rfl) (zF (zD 3 rfl) zO))) zO))) (zF (zD 2 rfl) zO)))) (by unfold Ut;simp only[bnd])
def wA(q0:aF C)(q1:LI)(q2:LI)(q3:LI):Option LI:=(xB q0 q3).bind λnQ=>(((((Ut q0 q1 q2 q3).bind λa4=>some ((a4,()))).bind λb5=>some (nQ,b5)).bind λb6=>some (q0,b6)).bind λz3=>xA z3.1 z3.2.1 z3.2.2.1).bind λtY=>((((((CP q0 nQ).bind λa8=>some ((a8,()))).bind λb9=>some (tY,b9)).bind λz7=>vH z7.1 z7.2.1).bind λa11=>some ((a11,()))).bind λBx=>some (q0,Bx)).bind λUu=>xB Uu.1 Uu.2.1
theorem j_:ao ["machine","living","left","right","waiting","broken"] ["machine","living","left","right"] (zH iD):=fsc
abbrev zF0(K:PySem.W.Frag)(C:Addr):Sp:=cN K false (λa:(aF C)×LI×LI×LI×Unit=>([.z a.1,.z a.2.1,.z a.2.2.1,.z a.2.2.2.1]:SL K)) (λa=>wA a.1 a.2.1 a.2.2.1 a.2.2.2.1)
theorem zIv(F:aZ K "each_till" "each_till" iD f fd)(B:Bl K mg)(bL:bJ P w K mg base k "comes_to" ["machine","through","goal"] (W3 K C))(gH:bJ P w K mg base k "core" ["machine","within"] (W4 K C))(aV:bJ P w K mg base k "others" ["machine","stands"] (Um K C))(jH:bJ P w K mg base k "spoilers" ["machine","living","left","right"] (zGu K C))(cZ:bJ P w K mg base k "together" ["one","other"] (zDu K)):aq P w K mg base aM (k+1) f fd ["machine","living","left","right"] (zF0 K C):=by
 refine yK F j_ (λ_=>rfl) (λ_=>rfl) λcdv A outer s H E hr=>?_
 have nd:=j_.nd
 refine⟨_,(zB (xY 4 nd (zY aV hr (zA (pv 0) (zA (pv 3) zE)))) (zB (xY 5 nd (zY bL hr (zA (pv 0) (zA (pv 4) (zA (zY jH hr (zA (pv 0) (zA (pv 1) (zA (pv 2) (zA (pv 3) zE))))) zE))))) (zB (zQ (zY aV hr (zA (pv 0) (zA (zY cZ hr (zA (pv 5) (zA (zY gH hr (zA (pv 0) (zA (pv 4) zE))) zE))) zE)))) zG))),?_⟩
 rintro Fa ⟨q0,q1,q2,q3,⟨⟩⟩
 exact SB.of (zW (xP true 4 rfl rfl (zM (zF (zD 0 rfl) (zF (zD 3 rfl) zO)))) (λnQ=>(zW (xP true 5 rfl rfl (zM (zF (zD 0 rfl) (zF (zD 4 rfl) (zF (zM (zF (zD 0 rfl) (zF (zD 1 rfl) (zF (zD 2 rfl) (zF (zD 3 rfl) zO))))) zO))))) (λtY=>(yC (zM (zF (zD 0 rfl) (zF (zM (zF (zD 5 rfl) (zF (zM (zF (zD 0 rfl) (zF (zD 4 rfl) zO))) zO))) zO)))))))) (by unfold wA;simp only[bnd])
def zS(q0:aF C)(q1:LI)(q2:eE cl)(q3:List LI):Option LI:=if(jB (.one 1) q2.t)=true then((((cj q3 (0:Int)).bind λa2=>some ((a2,()))).bind λb3=>some (q1,b3)).bind λb4=>some (q0,b4)).bind λz1=>xZ z1.1 z1.2.1 z1.2.2.1 else if(jB (.one 2) q2.t)=true then((((((((((cj q3 (0:Int)).bind λa6=>some ((a6,()))).bind λb7=>some (q0,b7)).bind λz5=>xB z5.1 z5.2.1).bind λa9=>some ((a9,()))).bind λb10=>some (q1,b10)).bind λb11=>some (q0,b11)).bind λz8=>xZ z8.1 z8.2.1 z8.2.2.1).bind λa13=>some ((a13,()))).bind λb14=>some (q0,b14)).bind λz12=>xB z12.1 z12.2.1 else if(jB (.two 2) q2.t)=true then((((cj q3 (0:Int)).bind λa17=>((cj q3 (1:Int)).bind λa16=>some ((a16,()))).bind λb18=>some (a17,b18)).bind λb19=>some (q1,b19)).bind λb20=>some (q0,b20)).bind λW5=>xD W5.1 W5.2.1 W5.2.2.1 W5.2.2.2.1 else if(jB (.two 3) q2.t)=true then((((cj q3 (0:Int)).bind λa23=>((cj q3 (1:Int)).bind λa22=>some ((a22,()))).bind λNz=>some (a23,Nz)).bind λb25=>some (q1,b25)).bind λb26=>some (q0,b26)).bind λW6=>wA W6.1 W6.2.1 W6.2.2.1 W6.2.2.2.1 else if(jB (.one 3) q2.t)=true then(((cj q3 (0:Int)).bind λa28=>some ((a28,()))).bind λb29=>some (q0,b29)).bind λz27=>CP z27.1 z27.2.1 else if(jB (.one 4) q2.t)=true then(((((((yL q0).bind λa35=>(((((cj q3 (0:Int)).bind λa31=>some ((a31,()))).bind λb32=>some (q0,b32)).bind λz30=>xB z30.1 z30.2.1).bind λa34=>some ((a34,()))).bind λb36=>some (a35,b36)).bind λb37=>some (q1,b37)).bind λb38=>some (q0,b38)).bind λW7=>xD W7.1 W7.2.1 W7.2.2.1 W7.2.2.2.1).bind λa40=>some ((a40,()))).bind λb41=>some (q0,b41)).bind λz39=>xB z39.1 z39.2.1 else if(jB (.one 5) q2.t)=true then((((yL q0).bind λa44=>((cj q3 (0:Int)).bind λa43=>some ((a43,()))).bind λb45=>some (a44,b45)).bind λb46=>some (q1,b46)).bind λb47=>some (q0,b47)).bind λW8=>xD W8.1 W8.2.1 W8.2.2.1 W8.2.2.2.1 else((((yL q0).bind λa50=>((cj q3 (0:Int)).bind λa49=>some ((a49,()))).bind λb51=>some (a50,b51)).bind λb52=>some (q1,b52)).bind λb53=>some (q0,b53)).bind λW9=>wA W9.1 W9.2.1 W9.2.2.1 W9.2.2.2.1
theorem cT:ao ["machine","living","saying","sets"] ["machine","living","saying","sets"] (zH bZ):=fsc
abbrev uD(K:PySem.W.Frag)(C:Addr)(cl:Hd->Addr):Sp:=cN K false (λa:(aF C)×LI×(eE cl)×((List LI))×Unit=>([.z a.1,.z a.2.1,.z a.2.2.1,.z a.2.2.2.1]:SL K)) (λa=>zS a.1 a.2.1 a.2.2.1 a.2.2.2.1)
theorem zBi(F:aZ K "meaning_over_walks" "meaning_over_walks" bZ f fd)(B:Bl K mg)(I:qQ P w K mg base kS cl fi di)(gH:bJ P w K mg base k "core" ["machine","within"] (W4 K C))(eN:bJ P w K mg base k "each_till" ["machine","living","left","right"] (zF0 K C))(aJ:bJ P w K mg base k "everywhere" ["machine"] (wQ K C))(aV:bJ P w K mg base k "others" ["machine","stands"] (Um K C))(eU:bJ P w K mg base k "some_next" ["machine","living","part"] (zFx K C))(dw:bJ P w K mg base k "some_till" ["machine","living","left","right"] (zFw K C)):aq P w K mg base aM (k+1) f fd ["machine","living","saying","sets"] (uD K C cl):=by
 refine yK F cT (λ_=>rfl) (λ_=>rfl) λcdv A outer s H E hr=>?_
 have nd:=cT.nd
 refine⟨_,(zB (yT (wU (zR (vW K (vY (a:=cl (.one 1)))) rfl B.p8 vX (zA (pv 2) (zA (wH (v:=.ref (cl (.one 1))) rfl (I.ini.m1 1) rfl) zE)))) (zB (zQ (zY eU hr (zA (pv 0) (zA (pv 1) (zA (yM (cG K) (pv 3) zK (λ_ _=>rfl)) zE))))) zG) zG) (zB (yT (wU (zR (vW K (vY (a:=cl (.one 2)))) rfl B.p8 vX (zA (pv 2) (zA (wH (v:=.ref (cl (.one 2))) rfl (I.ini.m1 2) rfl) zE)))) (zB (zQ (zY aV hr (zA (pv 0) (zA (zY eU hr (zA (pv 0) (zA (pv 1) (zA (zY aV hr (zA (pv 0) (zA (yM (cG K) (pv 3) zK (λ_ _=>rfl)) zE))) zE)))) zE)))) zG) zG) (zB (yT (wU (zR (vW K (vY (a:=cl (.two 2)))) rfl B.p8 vX (zA (pv 2) (zA (wH (v:=.ref (cl (.two 2))) rfl (I.ini.m2 2) rfl) zE)))) (zB (zQ (zY dw hr (zA (pv 0) (zA (pv 1) (zA (yM (cG K) (pv 3) zK (λ_ _=>rfl)) (zA (yM (cG K) (pv 3) zK (λ_ _=>rfl)) zE)))))) zG) zG) (zB (yT (wU (zR (vW K (vY (a:=cl (.two 3)))) rfl B.p8 vX (zA (pv 2) (zA (wH (v:=.ref (cl (.two 3))) rfl (I.ini.m2 3) rfl) zE)))) (zB (zQ (zY eN hr (zA (pv 0) (zA (pv 1) (zA (yM (cG K) (pv 3) zK (λ_ _=>rfl)) (zA (yM (cG K) (pv 3) zK (λ_ _=>rfl)) zE)))))) zG) zG) (zB (yT (wU (zR (vW K (vY (a:=cl (.one 3)))) rfl B.p8 vX (zA (pv 2) (zA (wH (v:=.ref (cl (.one 3))) rfl (I.ini.m1 3) rfl) zE)))) (zB (zQ (zY gH hr (zA (pv 0) (zA (yM (cG K) (pv 3) zK (λ_ _=>rfl)) zE)))) zG) zG) (zB (yT (wU (zR (vW K (vY (a:=cl (.one 4)))) rfl B.p8 vX (zA (pv 2) (zA (wH (v:=.ref (cl (.one 4))) rfl (I.ini.m1 4) rfl) zE)))) (zB (zQ (zY aV hr (zA (pv 0) (zA (zY dw hr (zA (pv 0) (zA (pv 1) (zA (zY aJ hr (zA (pv 0) zE)) (zA (zY aV hr (zA (pv 0) (zA (yM (cG K) (pv 3) zK (λ_ _=>rfl)) zE))) zE))))) zE)))) zG) zG) (zB (yT (wU (zR (vW K (vY (a:=cl (.one 5)))) rfl B.p8 vX (zA (pv 2) (zA (wH (v:=.ref (cl (.one 5))) rfl (I.ini.m1 5) rfl) zE)))) (zB (zQ (zY dw hr (zA (pv 0) (zA (pv 1) (zA (zY aJ hr (zA (pv 0) zE)) (zA (yM (cG K) (pv 3) zK (λ_ _=>rfl)) zE)))))) zG) zG) (zB (zQ (zY eN hr (zA (pv 0) (zA (pv 1) (zA (zY aJ hr (zA (pv 0) zE)) (zA (yM (cG K) (pv 3) zK (λ_ _=>rfl)) zE)))))) zG)))))))),?_⟩
 rintro Fa ⟨q0,q1,q2,q3,⟨⟩⟩
 exact SB.of (uK (cU (md:=.hp) (wL I (.one 1) (zD 2 rfl))) (yC (zM (zF (zD 0 rfl) (zF (zD 1 rfl) (zF (wO (zD 3 rfl) (zV 0)) zO))))) (uK (cU (md:=.hp) (wL I (.one 2) (zD 2 rfl))) (yC (zM (zF (zD 0 rfl) (zF (zM (zF (zD 0 rfl) (zF (zD 1 rfl) (zF (zM (zF (zD 0 rfl) (zF (wO (zD 3 rfl) (zV 0)) zO))) zO)))) zO)))) (uK (cU (md:=.hp) (wL I (.two 2) (zD 2 rfl))) (yC (zM (zF (zD 0 rfl) (zF (zD 1 rfl) (zF (wO (zD 3 rfl) (zV 0)) (zF (wO (zD 3 rfl) (zV 1)) zO)))))) (uK (cU (md:=.hp) (wL I (.two 3) (zD 2 rfl))) (yC (zM (zF (zD 0 rfl) (zF (zD 1 rfl) (zF (wO (zD 3 rfl) (zV 0)) (zF (wO (zD 3 rfl) (zV 1)) zO)))))) (uK (cU (md:=.hp) (wL I (.one 3) (zD 2 rfl))) (yC (zM (zF (zD 0 rfl) (zF (wO (zD 3 rfl) (zV 0)) zO)))) (uK (cU (md:=.hp) (wL I (.one 4) (zD 2 rfl))) (yC (zM (zF (zD 0 rfl) (zF (zM (zF (zD 0 rfl) (zF (zD 1 rfl) (zF (zM (zF (zD 0 rfl) zO)) (zF (zM (zF (zD 0 rfl) (zF (wO (zD 3 rfl) (zV 0)) zO))) zO))))) zO)))) (uK (cU (md:=.hp) (wL I (.one 5) (zD 2 rfl))) (yC (zM (zF (zD 0 rfl) (zF (zD 1 rfl) (zF (zM (zF (zD 0 rfl) zO)) (zF (wO (zD 3 rfl) (zV 0)) zO)))))) (yC (zM (zF (zD 0 rfl) (zF (zD 1 rfl) (zF (zM (zF (zD 0 rfl) zO)) (zF (wO (zD 3 rfl) (zV 0)) zO))))))))))))) (by unfold zS;simp only[bnd])
def wJ(q0:aF C)(q1:LI)(q2:eE cl)(q3:List LI):Option LI:=if(jB .all q2.t)=true then yL q0 else if(jB .mark q2.t)=true then(q2.name.bind λa2=>some ((a2,()))).bind λz1=>yA q0 z1.1 else if(jB (.one 0) q2.t)=true then(((cj q3 (0:Int)).bind λa4=>some ((a4,()))).bind λb5=>some (q0,b5)).bind λz3=>xB z3.1 z3.2.1 else if(jB (.two 0) q2.t)=true then((cj q3 (0:Int)).bind λa8=>((cj q3 (1:Int)).bind λa7=>some ((a7,()))).bind λb9=>some (a8,b9)).bind λz6=>xM z6.1 z6.2.1 else if(jB (.two 1) q2.t)=true then((cj q3 (0:Int)).bind λa12=>((cj q3 (1:Int)).bind λa11=>some ((a11,()))).bind λb13=>some (a12,b13)).bind λUu=>vH Uu.1 Uu.2.1 else zS q0 q1 q2 q3
theorem nU:ao ["machine","living","saying","sets"] ["machine","living","saying","sets"] (zH lg):=fsc
abbrev zJp(K:PySem.W.Frag)(C:Addr)(cl:Hd->Addr):Sp:=cN K false (λa:(aF C)×LI×(eE cl)×((List LI))×Unit=>([.z a.1,.z a.2.1,.z a.2.2.1,.z a.2.2.2.1]:SL K)) (λa=>wJ a.1 a.2.1 a.2.2.1 a.2.2.2.1)
theorem zNp(F:aZ K "meaning" "meaning" lg f fd)(B:Bl K mg)(I:qQ P w K mg base kS cl fi di)(c7:gj P w K mg base k C "marked" ["self","name"] (zBa K C))(aJ:bJ P w K mg base k "everywhere" ["machine"] (wQ K C))(cg:bJ P w K mg base k "meaning_over_walks" ["machine","living","saying","sets"] (uD K C cl))(aV:bJ P w K mg base k "others" ["machine","stands"] (Um K C))(aX:bJ P w K mg base k "shared" ["one","other"] (Qm K))(cZ:bJ P w K mg base k "together" ["one","other"] (zDu K)):aq P w K mg base aM (k+1) f fd ["machine","living","saying","sets"] (zJp K C cl):=by
 refine yK F nU (λ_=>rfl) (λ_=>rfl) λcdv A outer s H E hr=>?_
 have nd:=nU.nd
 refine⟨_,(zB (yT (wU (zR (vW K (vY (a:=cl .all))) rfl B.p8 vX (zA (pv 2) (zA (wH (v:=.ref (cl .all)) rfl I.ini.mA rfl) zE)))) (zB (zQ (zY aJ hr (zA (pv 0) zE))) zG) zG) (zB (yT (wU (zR (vW K (vY (a:=cl .mark))) rfl B.p8 vX (zA (pv 2) (zA (wH (v:=.ref (cl .mark)) rfl I.ini.mM rfl) zE)))) (zB (zQ (RX c7 hr (pv 0) (zA (Ia K (pv 2)) zE))) zG) zG) (zB (yT (wU (zR (vW K (vY (a:=cl (.one 0)))) rfl B.p8 vX (zA (pv 2) (zA (wH (v:=.ref (cl (.one 0))) rfl (I.ini.m1 0) rfl) zE)))) (zB (zQ (zY aV hr (zA (pv 0) (zA (yM (cG K) (pv 3) zK (λ_ _=>rfl)) zE)))) zG) zG) (zB (yT (wU (zR (vW K (vY (a:=cl (.two 0)))) rfl B.p8 vX (zA (pv 2) (zA (wH (v:=.ref (cl (.two 0))) rfl (I.ini.m2 0) rfl) zE)))) (zB (zQ (zY aX hr (zA (yM (cG K) (pv 3) zK (λ_ _=>rfl)) (zA (yM (cG K) (pv 3) zK (λ_ _=>rfl)) zE)))) zG) zG) (zB (yT (wU (zR (vW K (vY (a:=cl (.two 1)))) rfl B.p8 vX (zA (pv 2) (zA (wH (v:=.ref (cl (.two 1))) rfl (I.ini.m2 1) rfl) zE)))) (zB (zQ (zY cZ hr (zA (yM (cG K) (pv 3) zK (λ_ _=>rfl)) (zA (yM (cG K) (pv 3) zK (λ_ _=>rfl)) zE)))) zG) zG) (zB (zQ (zY cg hr (zA (pv 0) (zA (pv 1) (zA (pv 2) (zA (pv 3) zE)))))) zG)))))),?_⟩
 rintro Fa ⟨q0,q1,q2,q3,⟨⟩⟩
 exact SB.of (uK (cU (md:=.hp) (wL I .all (zD 2 rfl))) (yC (zM (zF (zD 0 rfl) zO))) (uK (cU (md:=.hp) (wL I .mark (zD 2 rfl))) (yC (Ew (by decide +kernel) (zD 0 rfl) (zF (esc (esc (zN8 I (zD 2 rfl)))) zO))) (uK (cU (md:=.hp) (wL I (.one 0) (zD 2 rfl))) (yC (zM (zF (zD 0 rfl) (zF (wO (zD 3 rfl) (zV 0)) zO)))) (uK (cU (md:=.hp) (wL I (.two 0) (zD 2 rfl))) (yC (zM (zF (wO (zD 3 rfl) (zV 0)) (zF (wO (zD 3 rfl) (zV 1)) zO)))) (uK (cU (md:=.hp) (wL I (.two 1) (zD 2 rfl))) (yC (zM (zF (wO (zD 3 rfl) (zV 0)) (zF (wO (zD 3 rfl) (zV 1)) zO)))) (yC (zM (zF (zD 0 rfl) (zF (zD 1 rfl) (zF (zD 2 rfl) (zF (zD 3 rfl) zO))))))))))) (by unfold wJ;simp only[bnd])
def xL(rec:(aF C)->LI->(eE cl)->Option (List LI))(q0:aF C)(q1:LI)(q2:eE cl):Option (List LI):=(some (([]:List LI))).bind λdW=>(some (([]:List LI))).bind λBJ=>((some q2.parts).bind λxs=>wD (λ(s3:(List LI)×(List LI)) (x5:eE cl)=>((rec q0 q1 x5).bind λa7=>vg s3.1 a7).bind λtZ=>((cj tZ (-(1:Int))).bind λa9=>push s3.2 a9).bind λBK=>some (tZ,BK)) xs (dW,BJ)).bind λs4=>((wJ q0 q1 q2 s4.2).bind λa11=>push s4.1 a11).bind λBL=>some BL
def yQ:Nat->(aF C)->LI->(eE cl)->Option (List LI)
 |0=>λ_ _ _=>none
 |n+1=>xL (yQ n)
theorem iR:ao ["machine","living","saying","told","sets","part"] ["machine","living","saying"] (zH fu):=fsc
abbrev uJ(K:PySem.W.Frag)(C:Addr)(cl:Hd->Addr)(rec:(aF C)->LI->(eE cl)->Option (List LI)):Sp:=cN K false (λa:(aF C)×LI×(eE cl)×Unit=>([.z a.1,.z a.2.1,.z a.2.2.1]:SL K)) (λa=>rec a.1 a.2.1 a.2.2.1)
abbrev zDc(K:PySem.W.Frag)(C:Addr)(cl:Hd->Addr):Sp:=uJ K C cl (yQ 9 )
theorem zF5(F:aZ K "table_among" "table_among" fu f fd)(B:Bl K mg)(I:qQ P w K mg base kS cl fi di)(lC:bJ P w K mg base k "meaning" ["machine","living","saying","sets"] (zJp K C cl))(cI:bJ P w K mg base k "table_among" ["machine","living","saying"] (uJ K C cl rec)):aq P w K mg base aM (k+1) f fd ["machine","living","saying"] (uJ K C cl (xL rec)):=by
 refine yK F iR (λ_=>rfl) (λ_=>rfl) λcdv A outer s H E hr=>?_
 have nd:=iR.nd
 refine⟨_,(zB (xY 3 nd (xV zE)) (zB (xY 4 nd (xV zE)) (zB (xQ abe rfl (Mf K (Ia K (pv 2))) (cJ 5 nd) (zB (yD (yt K abf ad8 ad9 Yk (pv 3) (zA (zY cI hr (zA (pv 0) (zA (pv 1) (zA (pv 5) zE)))) zE))) (zB (yD (yt K abf abm abn wB (pv 4) (zA (yM (cG K) (pv 3) (zu XF zK) (λ_ _=>rfl)) zE))) zG))) (zB (yD (yt K abf abm abn wB (pv 3) (zA (zY lC hr (zA (pv 0) (zA (pv 1) (zA (pv 2) (zA (pv 4) zE))))) zE))) (zB (zQ (pv 3)) zG))))),?_⟩
 rintro Fa ⟨q0,q1,q2,⟨⟩⟩
 exact SB.of (zW (ux true 3 rfl rfl (ur (α:=LI))) (λdW=>(zW (ux true 4 rfl rfl (ur (α:=LI))) (λBJ=>(zW (vG (n:=false) (L:=(λs3:(List LI)×(List LI)=>([.z q0,.z q1,.z q2,.ow true s3.1,.ow true s3.2,.un]:SL K))) (dW,BJ) bV (zUu I (yO 2 rfl)) (λs3=>(yH 5 rfl rfl)) (λs3 x5=>(zT (zNc 3 rfl rfl (zM (zF (zD 0 rfl) (zF (zD 1 rfl) (zF (zD 5 rfl) zO))))) (λtZ=>(zT (vQ 4 rfl rfl (KQ 3 rfl (Za (zV 1)))) (λBK=>(yF (λs3:(List LI)×(List LI)=>([.z q0,.z q1,.z q2,.ow true s3.1,.ow true s3.2,.un]:SL K)) (tZ,BK) bV))))))) (λs4=>(zW (vQ 3 rfl rfl (zM (zF (zD 0 rfl) (zF (zD 1 rfl) (zF (zD 2 rfl) (zF (Cq 4 rfl) zO)))))) (λBL=>(HW 3 rfl rfl))))))))) (by unfold xL;simp only[bnd])
def NK(q0:aF C)(q1:eE cl):Option (List LI):=(((Ny q0).bind λa2=>some ((a2,(q1,())))).bind λb3=>some (q0,b3)).bind λz1=>yQ 9 z1.1 z1.2.1 z1.2.2.1
theorem q9:ao ["machine","saying"] ["machine","saying"] (zH qj):=fsc
abbrev zLb(K:PySem.W.Frag)(C:Addr)(cl:Hd->Addr):Sp:=cN K false (λa:(aF C)×(eE cl)×Unit=>([.z a.1,.z a.2.1]:SL K)) (λa=>NK a.1 a.2.1)
theorem zTz(F:aZ K "table" "table" qj f fd)(B:Bl K mg)(qu:bJ P w K mg base k "alive" ["machine"] (zSq K C))(cI:bJ P w K mg base k "table_among" ["machine","living","saying"] (zDc K C cl)):aq P w K mg base aM (k+1) f fd ["machine","saying"] (zLb K C cl):=by
 refine yK F q9 (λ_=>rfl) (λ_=>rfl) λcdv A outer s H E hr=>?_
 have nd:=q9.nd
 refine⟨_,(zB (zQ (zY cI hr (zA (pv 0) (zA (zY qu hr (zA (pv 0) zE)) (zA (pv 1) zE))))) zG),?_⟩
 rintro Fa ⟨q0,q1,⟨⟩⟩
 exact SB.of (yC (zM (zF (zD 0 rfl) (zF (zM (zF (zD 0 rfl) zO)) (zF (zD 1 rfl) zO))))) (by unfold NK;simp only[bnd])
def Jg(q0:aF C)(q1:eE cl):Option LI:=(NK q0 q1).bind λa1=>cj a1 (-(1:Int))
theorem q_:ao ["machine","saying"] ["machine","saying"] (zH ql):=fsc
abbrev zSp(K:PySem.W.Frag)(C:Addr)(cl:Hd->Addr):Sp:=cN K false (λa:(aF C)×(eE cl)×Unit=>([.z a.1,.z a.2.1]:SL K)) (λa=>Jg a.1 a.2.1)
theorem zT1(F:aZ K "holds" "holds" ql f fd)(B:Bl K mg)(iW:bJ P w K mg base k "table" ["machine","saying"] (zLb K C cl)):aq P w K mg base aM (k+1) f fd ["machine","saying"] (zSp K C cl):=by
 refine yK F q_ (λ_=>rfl) (λ_=>rfl) λcdv A outer s H E hr=>?_
 have nd:=q_.nd
 refine⟨_,(zB (zQ (yM (cG K) (zY iW hr (zA (pv 0) (zA (pv 1) zE))) (zu XF zK) (λ_ _=>rfl))) zG),?_⟩
 rintro Fa ⟨q0,q1,⟨⟩⟩
 exact SB.of (yC (wO (zM (zF (zD 0 rfl) (zF (zD 1 rfl) zO))) (Za (zV 1)))) (by unfold Jg;simp only[bnd])
end
end Ts
set_option maxHeartbeats 40000000
namespace Ts
open PySem L2 Sy
section
variable{P:Program}{w:World}{K:PySem.W.Frag}{mg:Str->Option Value}{base:Heap}
def uF(q0:LI) :Option (Int×LI):=if(decide ((q0.length:Int)=(0:Int)))=true then some ((0:Int),q0) else q0.getLast?.bind λy=>some (y,q0.dropLast)
theorem pN:ao ["_law_rest"] ["_law_rest"] (zH m5):=fsc
abbrev zH1(K:PySem.W.Frag):Sp:=Mg K (λa:Unit=>([]:SL K)) (λws a=>uF ws )
theorem zQi(F:aZ K "_law_cell" "_law_cell" m5 f fd)(B:Bl K mg):aq P w K mg base aM (k+1) f fd ["_law_rest"] (zH1 K):=by
 refine zRz F pN (λ_=>rfl) (λ_=>rfl) λcdv A outer s H E hr=>?_
 have nd:=pN.nd
 refine⟨_,(zB (yT (zZ (Cu K Int hr) (zR (uT K) rfl B.len abp (zA (pv 0) zE)) zK (yI _)) (zB (zQ zK) zG) zG) (zB (zQ (K1 K abf PySem.F.slot_list_pop PySem.F.type_list_pop Ks (pv 0))) zG)),?_⟩
 rintro Fa p q0 ⟨⟩
 exact qR.of (FW (xH (md:=.hp) (Cv (Ga 0 rfl rfl) (zV 0))) (zPl 0 rfl rfl (esc (zV 0))) (zTm 0 rfl rfl (FZ 0 rfl rfl))) (by unfold uF;simp only[bnd])
def uG(q0:Int)(q1:Int):Option LI:=(some ([]:LI)).bind λjJ=>((uM q1).bind λxs=>wD (λ(s2:LI×Int) (x4:Int)=>(((gR s2.2 (2:Int)).bind λa5=>some (decide (a5=(1:Int)))).bind λb=>if b=true then(push s2.1 x4).bind λsE=>some sE else some s2.1).bind λs6=>(kJ s2.2 (2:Int)).bind λlD=>some (s6,lD)) xs (jJ,q0)).bind λs3=>some s3.1
theorem pO:ao ["_law_cell_here","_law_many","_law_found","_law_stand"] ["_law_cell_here","_law_many"] (zH m7):=fsc
abbrev zMw(K:PySem.W.Frag):Sp:=cN K false (λa:Int×Int×Unit=>([.z a.1,.z a.2.1]:SL K)) (λa=>uG a.1 a.2.1)
theorem zQj(F:aZ K "_law_bits" "_law_bits" m7 f fd)(B:Bl K mg):aq P w K mg base aM (k+1) f fd ["_law_cell_here","_law_many"] (zMw K):=by
 refine yK F pO (λ_=>rfl) (λ_=>rfl) λcdv A outer s H E hr=>?_
 have nd:=pO.nd
 refine⟨_,(zB (xY 2 nd (xV zE)) (zB (xQ abe rfl (wW rfl B.range (zA (pv 1) zE)) (cJ 3 nd) (zB (yT (zZ (Cu K Int hr) (xC ug (pv 0) zK) zK (yI _)) (zB (yD (yt K abf abm abn wB (pv 2) (zA (pv 3) zE))) zG) zG) (zB (xY 0 nd (xC Dm (pv 0) zK)) zG))) (zB (zQ (pv 2)) zG))),?_⟩
 rintro Fa ⟨q0,q1,⟨⟩⟩
 exact SB.of (zW (ux true 2 rfl rfl (ur (α:=Int))) (λjJ=>(zW (vG (n:=true) (L:=(λs2:LI×Int=>([.z s2.2,.z q1,.ow true s2.1,.un]:SL K))) (jJ,q0) bV (uI (zI 1 rfl)) (λs2=>(yH 3 rfl rfl)) (λs2 x4=>(zT (tK (xH (md:=.hp) (Cv (Ek (zI 0 rfl) (zV 2)) (zV 1))) (zT (vQ 2 rfl rfl (esc (zI 3 rfl))) (λsE=>(yF (λs7:LI=>([.z s2.2,.z q1,.ow true s7,.y x4]:SL K)) sE bV))) (yF (λs7:LI=>([.z s2.2,.z q1,.ow true s7,.y x4]:SL K)) s2.1 bV)) (λs6=>(zT (xP true 0 rfl rfl (esc (Pr (zI 0 rfl) (zV 2)))) (λlD=>(yF (λs2:LI×Int=>([.z s2.2,.z q1,.ow true s2.1,.un]:SL K)) (s6,lD) (Le.old bV)))))))) (λs3=>(HW 2 rfl rfl))))) (by unfold uG;simp only[bnd])
def Qo(q0:Int)(q1:Int)(q2:Int):Option LI:=(some ([]:LI)).bind λjJ=>(some q0).bind λBP=>((uM q2).bind λxs=>wD (λ(s3:LI×Int) (x5:Int)=>(((gR s3.2 (3:Int)).bind λa6=>some (decide (a6=(1:Int)))).bind λb=>if b=true then(push s3.1 x5).bind λsH=>some sH else some s3.1).bind λs7=>(kJ s3.2 (3:Int)).bind λsI=>some (s7,sI)) xs (jJ,BP)).bind λs4=>(if(decide (s4.1=([]:LI)))=true then((gR (q0+q1) q2).bind λa14=>push s4.1 a14).bind λqw=>some qw else some s4.1).bind λjq=>some jq
theorem pP:ao ["_law_cell_here","_law_k","_law_many","_law_found","_law_rest","_law_stand"] ["_law_cell_here","_law_k","_law_many"] (zH m8):=fsc
abbrev zMu(K:PySem.W.Frag):Sp:=cN K false (λa:Int×Int×Int×Unit=>([.z a.1,.z a.2.1,.z a.2.2.1]:SL K)) (λa=>Qo a.1 a.2.1 a.2.2.1)
theorem zQg(F:aZ K "_law_next" "_law_next" m8 f fd)(B:Bl K mg):aq P w K mg base aM (k+1) f fd ["_law_cell_here","_law_k","_law_many"] (zMu K):=by
 refine yK F pP (λ_=>rfl) (λ_=>rfl) λcdv A outer s H E hr=>?_
 have nd:=pP.nd
 refine⟨_,(zB (xY 3 nd (xV zE)) (zB (xY 4 nd (pv 0)) (zB (xQ abe rfl (wW rfl B.range (zA (pv 2) zE)) (cJ 5 nd) (zB (yT (zZ (Cu K Int hr) (xC ug (pv 4) zK) zK (yI _)) (zB (yD (yt K abf abm abn wB (pv 3) (zA (pv 5) zE))) zG) zG) (zB (xY 4 nd (xC Dm (pv 4) zK)) zG))) (zB (yT (zZ (Cu K LI hr) (pv 3) (xV zE) (yI _)) (zB (yD (yt K abf abm abn wB (pv 3) (zA (xC ug (xC QS (pv 0) (pv 1)) (pv 2)) zE))) zG) zG) (zB (zQ (pv 3)) zG))))),?_⟩
 rintro Fa ⟨q0,q1,q2,⟨⟩⟩
 exact SB.of (zW (ux true 3 rfl rfl (ur (α:=Int))) (λjJ=>(zW (xP true 4 rfl rfl (esc (zI 0 rfl))) (λBP=>(zW (vG (n:=true) (L:=(λs3:LI×Int=>([.z q0,.z q1,.z q2,.ow true s3.1,.y s3.2,.un]:SL K))) (jJ,BP) bV (uI (zI 2 rfl)) (λs3=>(yH 5 rfl rfl)) (λs3 x5=>(zT (tK (xH (md:=.hp) (Cv (Ek (zI 4 rfl) (zV 3)) (zV 1))) (zT (vQ 3 rfl rfl (esc (zI 5 rfl))) (λsH=>(yF (λs8:LI=>([.z q0,.z q1,.z q2,.ow true s8,.y s3.2,.y x5]:SL K)) sH bV))) (yF (λs8:LI=>([.z q0,.z q1,.z q2,.ow true s8,.y s3.2,.y x5]:SL K)) s3.1 bV)) (λs7=>(zT (xP true 4 rfl rfl (esc (Pr (zI 4 rfl) (zV 3)))) (λsI=>(yF (λs3:LI×Int=>([.z q0,.z q1,.z q2,.ow true s3.1,.y s3.2,.un]:SL K)) (s7,sI) bV))))))) (λs4=>(zW (tK (xH (md:=.hp) (Cv (Cq 3 rfl) (ur (α:=Int)).ex)) (zT (vQ 3 rfl rfl (esc (Ek (RG (zI 0 rfl) (zI 1 rfl)) (zI 2 rfl)))) (λqw=>(yF (λs12:LI=>([.z q0,.z q1,.z q2,.ow true s12,.y s4.2,.un]:SL K)) qw bV))) (yF (λs12:LI=>([.z q0,.z q1,.z q2,.ow true s12,.y s4.2,.un]:SL K)) s4.1 bV)) (λjq=>(HW 3 rfl rfl))))))))) (by unfold Qo;simp only[bnd])
def Uv(q0:LI) :Option ((IK (List LI) (List (Str×LI)) (List LI))×LI):=(uF q0 ).bind λaK=>(((kJ aK.1 (8:Int)).bind λa3=>gR a3 (7:Int)).bind λb4=>some ((1:Int)+b4)).bind λnY=>(((gR aK.1 (8:Int)).bind λa5=>some (decide (a5=(1:Int)))).bind λb=>if b=true then(((kJ aK.1 (8:Int)).bind λa9=>gR a9 (5:Int)).bind λb10=>some ((8:Int)+b10)).bind λrA=>some rA else some nY).bind λs6=>((uM s6).bind λxs=>Mi (λ(w13:LI) (x12:Int)=>(uF w13 ).bind λr15=>(Qo r15.1 x12 s6).bind λb16=>some (b16,r15.2)) aK.2 xs).bind λcF=>(some (([]:List (Str×LI)))).bind λmH=>((some ([("p":Str),("wet":Str),("darkness":Str)])).bind λxs=>wD (λ(CQ:(List (Str×LI))×LI) (x20:Str)=>((((uF CQ.2 ).bind λr23=>(uG r23.1 s6).bind λNz=>some (Nz,r23.2)).bind λr25=>some ((x20,r25.1),r25.2)).bind λr26=>(push CQ.1 r26.1).bind λy27=>some (y27,r26.2)).bind λeV=>some (eV.1,eV.2)) xs (mH,cF.2)).bind λv9=>((((kJ aK.1 (60:Int)).bind λa29=>gR a29 (4:Int)).bind λa30=>uM a30).bind λxs=>Mi (λ(w32:LI) (x31:Int)=>(uF w32 ).bind λr34=>(uG r34.1 s6).bind λb35=>some (b35,r34.2)) v9.2 xs).bind λjK=>some (IK.mk cF.1 v9.1 jK.1,jK.2)
theorem nZ:ao ["_law_rest","_law_cell_here","_law_many","_law_steps","_law_marks","_law_name","_law_fair"] ["_law_rest"] (zH lu):=fsc
abbrev zJr(K:PySem.W.Frag):Sp:=Mg K (λa:Unit=>([]:SL K)) (λws a=>Uv ws )
theorem zNq(F:aZ K "_law_drawn" "_law_drawn" lu f fd)(B:Bl K mg)(kh:bJ P w K mg base k "_law_bits" ["_law_cell_here","_law_many"] (zMw K))(dY:bJ P w K mg base k "_law_cell" ["_law_rest"] (zH1 K))(n8:bJ P w K mg base k "_law_next" ["_law_cell_here","_law_k","_law_many"] (zMu K)):aq P w K mg base aM (k+1) f fd ["_law_rest"] (zJr K):=by
 refine zRz F nZ (λ_=>rfl) (λ_=>rfl) λcdv A outer s H E hr=>?_
 have nd:=nZ.nd
 refine⟨_,(zB (xY 1 nd (zY dY hr (zA (pv 0) zE))) (zB (xY 2 nd (xC QS zK (xC ug (xC Dm (pv 1) zK) zK))) (zB (yT (zZ (Cu K Int hr) (xC ug (pv 1) zK) zK (yI _)) (zB (xY 2 nd (xC QS zK (xC ug (xC Dm (pv 1) zK) zK))) zG) zG) (zB (Cp (i:=3) (own:=["_law_k"]) (ix:=[2,0]) nd rfl rfl rfl rfl rfl (wW rfl B.range (zA (pv 2) zE)) (λC s H fp=>yS (i:=0) (show(["_law_k","_law_many","_law_rest"]:List Str).Nodup from by decide +kernel) rfl (Or.inl rfl)) (λC s H fp=>wV) (λC s H fp=>(zY n8 hr (zA (zY dY hr (zA (pv 2) zE)) (zA (pv 0) (zA (pv 1) zE)))))) (zB (xY 4 nd (xV zE)) (zB (xQ abe rfl (xG K (xV (zA yE (zA yE (zA yE zE))))) (cJ 5 nd) (zB (yD (yt K abf abm abn wB (pv 4) (zA (z_ (zA (pv 5) (zA (zY kh hr (zA (zY dY hr (zA (pv 0) zE)) (zA (pv 2) zE))) zE))) zE))) zG)) (zB (Cp (i:=6) (own:=["_law_k"]) (ix:=[2,0]) nd rfl rfl rfl rfl rfl (wW rfl B.range (zA (xC ug (xC Dm (pv 1) zK) zK) zE)) (λC s H fp=>yS (i:=0) (show(["_law_k","_law_many","_law_rest"]:List Str).Nodup from by decide +kernel) rfl (Or.inl rfl)) (λC s H fp=>wV) (λC s H fp=>(zY kh hr (zA (zY dY hr (zA (pv 2) zE)) (zA (pv 1) zE))))) (zB (zQ (z_ (zA (pv 3) (zA (pv 4) (zA (pv 6) zE))))) zG)))))))),?_⟩
 rintro Fa p q0 ⟨⟩
 exact qR.of (Mh (ZQ true 1 (λ_=>⟨_,rfl,rfl⟩) (vh.ey (WK 0 rfl rfl zO))) (λaK=>(Mr [.nu (RL.mk (p:=p) aK.2),.y aK.1,.un,.un,.un,.un,.un] (Mh (xP true 2 rfl rfl (esc (RG (zV 1) (Ek (Pr (zI 1 rfl) (zV 8)) (zV 7))))) (λnY=>(Mr [.nu (RL.mk (p:=p) aK.2),.y aK.1,.y nY,.un,.un,.un,.un] (Mh (tK (xH (md:=.hp) (Cv (Ek (zI 1 rfl) (zV 8)) (zV 1))) (zT (xP true 2 rfl rfl (esc (RG (zV 8) (Ek (Pr (zI 1 rfl) (zV 8)) (zV 5))))) (λrA=>(yF (λs7:Int=>([.nu (RL.mk (p:=p) aK.2),.y aK.1,.y s7,.un,.un,.un,.un]:SL K)) rA bV))) (yF (λs7:Int=>([.nu (RL.mk (p:=p) aK.2),.y aK.1,.y s7,.un,.un,.un,.un]:SL K)) nY bV)) (λs6=>(Mr [.nu (RL.mk (p:=p) aK.2),.y aK.1,.y s6,.un,.un,.un,.un] (Mh (ZQ true 3 (λ_=>⟨_,rfl,rfl⟩) (vh.ey (TJ.eyn (λ_=>⟨0,_,rfl,rfl⟩) (zMj (n:=true) (n':=true) (jM:=λw13:LI=>([.un,.y s6,.nu (RL.mk (p:=p) w13)]:SL K)) (no:=1) (ix:=[2,0]) 0 rfl rfl (zWa rfl rfl) (uI (zI 2 rfl)) (λw13=>yH 0 rfl rfl) (λw13 x12=>Cw) (λw13 x12=>(ZR (as:=(λa:Int×Int×Unit=>([.z a.1,.z a.2.1]:SL K))) (f:=(λa=>Qo a.1 a.2.1 a.2.2.1)) (WK 2 rfl rfl zO) (λ_=>⟨2,_,rfl,rfl⟩) (λw14=>(zF (esc (zI 0 rfl)) (zF (esc (zI 1 rfl)) zO))))) (λw13 x12=>jX) (λw13 x12=>⟨2,rfl,rfl⟩))))) (λcF=>(Mr [.nu (RL.mk (p:=p) cF.2),.y aK.1,.y s6,.y cF.1,.un,.un,.un] (Mh (ux true 4 rfl rfl (ur (α:=Str×LI))) (λmH=>(Mr [.nu (RL.mk (p:=p) cF.2),.y aK.1,.y s6,.y cF.1,.ow true mH,.un,.un] (Mh (vG (n:=true) (L:=(λCQ:(List (Str×LI))×LI=>([.nu (RL.mk (p:=p) CQ.2),.y aK.1,.y s6,.y cF.1,.ow true CQ.1,.un,.un]:SL K))) (mH,cF.2) bV (xI (Ph (vD (esc (Cr "p")) (vD (esc (Cr "wet")) (vD (esc (Cr "darkness")) Pg))) (λa h=>aa8 ((tQ (tQ (tQ Pu))) a h) (by decide))).ex) (λCQ=>(yH 5 rfl rfl)) (λCQ x20=>(zT (zNd (n:=true) 4 rfl rfl (λ_=>⟨rfl,rfl⟩) (zUq (n:=true) (i:=0) rfl rfl (λ_=>⟨0,_,rfl,rfl⟩) (esc (zI 5 rfl)) (ZR (as:=(λa:Int×Unit=>([.z a.1]:SL K))) (f:=(λa=>uG a.1 a.2.1)) (WK 0 rfl rfl zO) (λ_=>⟨0,_,rfl,rfl⟩) (λw22=>(zF (esc (zI 2 rfl)) zO))))) (λeV=>(yF (λCQ:(List (Str×LI))×LI=>([.nu (RL.mk (p:=p) CQ.2),.y aK.1,.y s6,.y cF.1,.ow true CQ.1,.un,.un]:SL K)) (eV.1,eV.2) bV))))) (λv9=>(Mr [.nu (RL.mk (p:=p) v9.2),.y aK.1,.y s6,.y cF.1,.ow true v9.1,.un,.un] (Mh (ZQ true 6 (λ_=>⟨_,rfl,rfl⟩) (vh.ey (TJ.eyn (λ_=>⟨0,_,rfl,rfl⟩) (zMj (n:=true) (n':=true) (jM:=λw32:LI=>([.un,.y s6,.nu (RL.mk (p:=p) w32)]:SL K)) (no:=1) (ix:=[2,0]) 0 rfl rfl (zWa rfl rfl) (uI (Ek (Pr (zI 1 rfl) (zV 60)) (zV 4))) (λw32=>yH 0 rfl rfl) (λw32 x31=>Cw) (λw32 x31=>(ZR (as:=(λa:Int×Unit=>([.z a.1]:SL K))) (f:=(λa=>uG a.1 a.2.1)) (WK 2 rfl rfl zO) (λ_=>⟨2,_,rfl,rfl⟩) (λw33=>(zF (esc (zI 1 rfl)) zO)))) (λw32 x31=>jX) (λw32 x31=>⟨2,rfl,rfl⟩))))) (λjK=>(Mr [.nu (RL.mk (p:=p) jK.2),.y aK.1,.y s6,.y cF.1,.ow true v9.1,.un,.y jK.1] (Gf (sl2:=[.nu (RL.mk (p:=p) jK.2),.y aK.1,.y s6,.y cF.1,.y v9.1,.un,.y jK.1]) bV (zPl 0 rfl rfl (Gb (md:=dF true) (yO 3 rfl) (yO 4 rfl) (yO 6 rfl))))))))))))))))))))))))) (by unfold Uv;simp only[bnd])
def Qp(cl:Hd->Addr)(q0:aF C)(q1:pG)(q2:Int):Option Bool:=((((uY cl q1).bind λa3=>some ((a3,()))).bind λb4=>some (q0,b4)).bind λz2=>NK z2.1 z2.2.1).bind λrB=>(Qj q1).bind λdZ=>(if(!true)=true then some true else some (!decide ((rB.length:Int)=(dZ.length:Int)))).bind λb=>if b=true then some false else((some (dZ.zip rB)).bind λxs=>vZ (λ(s6:Unit) (x8:Str×LI)=>((((lW x8.1 (4:Int)).bind λa9=>some (decide (a9=("some":Str)))).bind λc10=>if c10=true then some (!decide (x8.2=([]:LI))) else some false).bind λc14=>if c14=true then some true else((lW x8.1 (4:Int)).bind λa11=>some (decide (a11=("each":Str)))).bind λc13=>if c13=true then(tV q2).bind λBx=>some (!decide (x8.2=Bx)) else some false).bind λb=>if b=true then(some false).bind λb=>some (.rt b) else some (.nx ())) xs ()).bind λo=>o.els λs7=>some true
theorem pQ:ao ["_law_machine","_law_tree","_law_many","_law_sets","_law_words_here","_law_word","_law_some"] ["_law_machine","_law_tree","_law_many"] (zH m_):=fsc
abbrev zMv(K:PySem.W.Frag)(C:Addr)(cl:Hd->Addr):Sp:=cN K false (λa:(aF C)×pG×Int×Unit=>([.z a.1,.z a.2.1,.z a.2.2.1]:SL K)) (λa=>Qp cl a.1 a.2.1 a.2.2.1)
theorem zQh(F:aZ K "_law_dead" "_law_dead" m_ f fd)(B:Bl K mg)(NP:mg "zip" = none)(d_:bJ P w K mg base k "_law_made" ["_law_tree"] (W2 K cl))(lE:bJ P w K mg base k "_law_words" ["_law_tree"] (zFz K))(iW:bJ P w K mg base k "table" ["machine","saying"] (zLb K C cl)):aq P w K mg base aM (k+1) f fd ["_law_machine","_law_tree","_law_many"] (zMv K C cl):=by
 refine yK F pQ (λ_=>rfl) (λ_=>rfl) λcdv A outer s H E hr=>?_
 have nd:=pQ.nd
 refine⟨_,(zB (xY 3 nd (zY iW hr (zA (pv 0) (zA (zY d_ hr (zA (pv 1) zE)) zE)))) (zB (xY 4 nd (zY lE hr (zA (pv 1) zE))) (zB (yT (PW.pt (pw_or (QF (wU (zR (vW K (Ru (n:="list"))) rfl B.p8 vX (zA (pv 3) (zA (Qz (v:=.ty "list") rfl B.list KZ rfl) zE))))) (pw_or1 (zZ (RB K Int hr) (zR (uT K) rfl B.len abp (zA (pv 3) zE)) (zR (uT K) rfl B.len abp (zA (pv 4) zE)) (yI _))))) (zB (zQ zp) zG) zG) (zB (xQ abe rfl (Mw K NP (zA (pv 4) (zA (pv 3) zE))) (Hw rfl (yV (cJ 5 nd) (yV (cJ 6 nd) Dh))) (zB (yT (PW.pt (pw_or (PW.pt (pw_and (zZ (Cu K Str hr) (Kl zVn (pv 5) Kg (Kh zK)) yE (yI _)) (pw_and1 (zZ (RB K LI hr) (pv 6) (xV zE) (yI _))))) (pw_or1 (PW.pt (pw_and (zZ (Cu K Str hr) (Kl zVn (pv 5) Kg (Kh zK)) yE (yI _)) (pw_and1 (zZ (RB K LI hr) (pv 6) (Zy rfl rfl B.list rfl B.range (zA (pv 2) zE)) (yI _)))))))) (zB (zQ zp) zG) zG) zG)) (zB (zQ zp) zG))))),?_⟩
 rintro Fa ⟨q0,q1,q2,⟨⟩⟩
 exact SB.of (zW (xP true 3 rfl rfl (zM (zF (zD 0 rfl) (zF (zM (zF (zD 1 rfl) zO)) zO)))) (λrB=>(zW (xP true 4 rfl rfl (zM (zF (zD 1 rfl) zO))) (λdZ=>(uK (Rx (Rw (cU (md:=.hp) (RM B.ll rfl (zD 3 rfl)))) (xH (md:=.hp) (RD (tM (zD 3 rfl)) (tM (zD 4 rfl))))) (yC (esc (Aq false))) (VN (V2 (n:=true) (L:=(λs6:Unit=>([.z q0,.z q1,.z q2,.y rB,.y dZ,.un,.un]:SL K))) () bV (Mz (yO 4 rfl) (yO 3 rfl)) (λs6=>(KJ 5 6 rfl rfl (λ_=>rfl) rfl)) (λs6 x8=>(VR (Rx (VL (xH (md:=.hp) (Cv (esc (zRl (zI 5 rfl) (zV 4))) (Cr "some"))) (xH (md:=.hp) (RD (zD 6 rfl) (ur (α:=Int)).ex))) (VL (xH (md:=.hp) (Cv (esc (zRl (zI 5 rfl) (zV 4))) (Cr "each"))) (xH (md:=.hp) (RD (zD 6 rfl) (ZC (zI 2 rfl)).ex)))) (yC (esc (Aq false))) (VP (λs6:Unit=>([.z q0,.z q1,.z q2,.y rB,.y dZ,.un,.un]:SL K)) () bV)))) (λs7=>(yC (esc (Aq true)))))))))) (by unfold Qp;simp only[bnd])
end
open PySem L2
def Uw(n:Int)(xs:LI):Prop:=xs≠[]/\xs.Nodup/\xs.length<=60/\∀z∈xs,0<=z/\z<n
structure Gr{C:Addr}(m:aF C)(n:Int):Prop where
 len:(m.steps.length:Int)=n
 pos:1<=n
 few:n<=60
 row:∀xs∈m.steps,xs≠[]/\xs.Nodup/\∀z∈xs,0<=z/\z<n
 src:m.sources=srcs m.steps
def nxt(xss:List LI)(s:Int):LI:=xss.getD s.toNat []
theorem GF:x∈src xss j↔0<=x/\x<(xss.length:Int)/\(j:Int)∈nxt xss x:=by
 unfold src nxt
 rw[mem_map]
 constructor
 ·rintro⟨k,h,rfl⟩
  rw[mem_filter,mem_range] at h
  have h2:=of_decide_eq_true h.2
  exact⟨adl _,by show(k:Int)<_;omega,h2⟩
 ·intro⟨h0,h1,h2⟩
  refine⟨x.toNat,?_,by show((x.toNat:Nat):Int)=x;omega⟩
  rw[mem_filter,mem_range]
  exact⟨by omega,decide_eq_true h2⟩
theorem W_{C:Addr}{m:aF C}(g:Gr m n):yW m=some n:=by
 unfold yW
 rw[g.len]
theorem zSz{C:Addr}{m:aF C}(g:Gr m n)(h0:0<=s)(h1:s<n):W (xS m s) λxs=>∀x,x∈xs↔0<=x/\x<n/\s∈nxt m.steps x:=by
 unfold xS
 rw[dI h0,g.src]
 have hl:=g.len
 refine⟨_,zO9 (by omega),λx=>?_⟩
 rw[GF,hl,show((s.toNat:Nat):Int)=s by omega]
theorem Ux{α:Type}{xs:List α}{a d:α}(h:i<xs.length):(xs.set i a).getD j d=if j=i then a else xs.getD j d:=by
 rw[getD_eq_getElem?_getD,getD_eq_getElem?_getD,ac9]
 by_cases e:i=j
 ·subst e;simp[h]
 ·rw[if_neg e,if_neg (ac2 e)]
theorem zOt{C:Addr}{m:aF C}(g:Gr m n)(hx:∀x∈xs,0<=x/\x<n):W (Ql m xs) λfl=>(fl.length:Int)=n/\∀s:Int,0<=s->s<n->fl.getD s.toNat false=decide (s∈xs):=by
 unfold Ql
 have hp:=g.pos
 have hf:=g.few
 simp only[zC,aj,W_ g,dH]
 refine⟨⟨by omega,by omega⟩,?_⟩
 rw[Px (λ_=>false)]
 have e:=Cy (n:=n) (by omega)
 refine⟨yP (by omega),vE (λi fl=>(fl.length:Int)=n/\∀s:Int,0<=s->s<n->fl.getD s.toNat false=decide (s∈xs.take i)) ⟨by rw[length_map];exact e,λs _ _=>?_⟩ (λi x fl hi hI=>?_) λfl hI=>?_⟩
 ·rw[getD_eq_getElem?_getD,getElem?_map]
  cases(rng n)[s.toNat]?<;>simp
 ·have hxx:=hx x (mem_of_getElem? hi)
  simp only[zC,aj]
  rw[R3 hxx.1 (by omega)]
  refine⟨by rw[length_set];exact hI.1,λs s0 s1=>?_⟩
  rw[Ux (by omega)]
  have tk:xs.take (i+1)=xs.take i++[x]:=by rw[take_add_one,hi]<;>rfl
  by_cases q:s.toNat=x.toNat
  ·have:s=x:=by omega
   subst this
   rw[if_pos rfl,tk];simp
  ·have:s≠x:=λz=>q (by rw[z])
   rw[if_neg q,hI.2 s s0 s1,tk]
   simp[this]
 ·rw[take_length] at hI
  exact hI
abbrev dg(d:List (Option Int))(s:Int):Option Int:=d.getD s.toNat none
structure sJ(xss:List LI)(through goal:LI)(n:Int)(d:List (Option Int)):Prop where
 len:(d.length:Int)=n
 pos:∀s k,0<=s->s<n->dg d s=some k->0<=k/\k<n
 zero:∀s,0<=s->s<n->(dg d s=some 0↔s∈goal)
 via:∀s k,0<=s->s<n->dg d s=some k->s∉goal->s∈through/\∃t∈nxt xss s,0<=t/\t<n/\dg d t=some (k-1)
 near:∀s t k,0<=s->s<n->0<=t->t<n->s∈through->t∈nxt xss s->dg d t=some k->∃j,dg d s=some j/\j<=k+1
structure Bf(xss:List LI)(pass:Int->Prop)(goal:LI)(n:Int)(d:List (Option Int))(row:LI)(place:Nat):Prop where
 len:(d.length:Int)=n
 rng:∀s∈row,0<=s/\s<n
 nd:row.Nodup
 iff:∀s:Int,0<=s->s<n->((dg d s).isSome=true↔s∈row)
 idx:∀(i:Nat)(s:Int),row[i]?=some s->∃k:Int,dg d s=some k/\0<=k/\k<=i
 mono:∀(i j:Nat)(s t k l:Int),i<=j->row[i]?=some s->row[j]?=some t->dg d s=some k->dg d t=some l->k<=l
 top:∀(j:Nat)(s t k l:Int),row[place]?=some s->row[j]?=some t->dg d s=some k->dg d t=some l->l<=k+1
 zero:∀s:Int,0<=s->s<n->(dg d s=some 0↔s∈goal)
 via:∀(s k:Int),s∈row->dg d s=some k->s∉goal->pass s/\∃t∈nxt xss s,0<=t/\t<n/\dg d t=some (k-1)
 done:∀(i:Nat)(s t k:Int),i<place->row[i]?=some t->dg d t=some k->0<=s->s<n->pass s->t∈nxt xss s->∃j,dg d s=some j/\j<=k+1
theorem zRy{d:List (Option Int)}(hl:(d.length:Int)=n)(h0:0<=s)(h1:s<n)(t0:0<=t):dg (d.set s.toNat v) t=if t=s then v else dg d t:=by
 show(d.set s.toNat v).getD t.toNat none=_
 rw[Ux (by omega)]
 by_cases e:t=s
 ·rw[if_pos e,if_pos (by rw[e])]
 ·rw[if_neg e,if_neg (by omega)]
theorem Qq{row:LI}{i:Nat}{s x:Int}(h:(row++[x])[i]?=some s):row[i]?=some s\/(i=row.length/\s=x):=by
 by_cases q:i<row.length
 ·rw[getElem?_append_left q] at h;exact .inl h
 ·rw[getElem?_append_right (by omega)] at h
  have:i-row.length=0:=by
   have:=yY h
   simp at this
   omega
  rw[this] at h
  exact .inr ⟨by omega,(aa2 h).symm⟩
structure Bm(xss:List LI)(pass:Int->Prop)(goal:LI)(n:Int)(d:List (Option Int))(row:LI)(place:Nat)(t k:Int)(seen:LI):Prop where
 bf:Bf xss pass goal n d row place
 at_:row[place]?=some t
 k_:dg d t=some k
 t_:∀s∈seen,pass s->∃j,dg d s=some j/\j<=k+1
theorem Bm.put(b:Bm xss pass goal n d row place t k seen)(hx0:0<=x)(hx1:x<n)(hp:pass x)(hn:dg d x=none)(ht:t∈nxt xss x) :
  Bm xss pass goal n (d.set x.toNat (some (k+1))) (row++[x]) place t k (seen++[x]):=by
 have B:=b.bf
 have tr:=B.rng t (mem_of_getElem? b.at_)
 have xr:x∉row:=λh=>by have:=(B.iff x hx0 hx1).mpr h;rw[hn] at this;cases this
 have tx:t≠x:=λe=>xr (e▸mem_of_getElem? b.at_)
 obtain⟨k',e1,k0,kp⟩:=B.idx place t b.at_
 rw[b.k_] at e1
 cases e1
 have pl:=yY b.at_
 have old:∀s:Int,0<=s->s≠x->dg (d.set x.toNat (some (k+1))) s=dg d s:=λs s0 q=>by rw[zRy B.len hx0 hx1 s0,if_neg q]
 have new:dg (d.set x.toNat (some (k+1))) x=some (k+1):=by rw[zRy B.len hx0 hx1 hx0,if_pos rfl]
 have inr:∀{i:Nat}{s:Int},row[i]?=some s->0<=s/\s<n/\s≠x:=λh=>by
  have:=B.rng _ (mem_of_getElem? h)
  exact⟨this.1,this.2,λe=>xr (e▸mem_of_getElem? h)⟩
 refine⟨⟨by rw[length_set];exact B.len,λs hs=>?_,?_,λs s0 s1=>?_,λi s h=>?_,λi j s u a l ij h1 h2 h3 h4=>?_,λj s u a l h1 h2 h3 h4=>?_,λs s0 s1=>?_,λs a hs h1 h2=>?_,λi s u a hi h1 h2 s0 s1 ps hu=>?_⟩,?_,?_,λs hs ps=>?_⟩
 ·rcases mem_append.mp hs with q|q
  ·exact B.rng s q
  ·rw[mem_singleton.mp q];exact⟨hx0,hx1⟩
 ·rw[nodup_append]
  exact⟨B.nd,by simp,λa ha c hc e=>by rw[mem_singleton.mp hc] at e;exact xr (e▸ha)⟩
 ·by_cases e:s=x
  ·subst e;rw[new];simp
  ·rw[old s s0 e,B.iff s s0 s1];simp[e]
 ·rcases Qq h with h|⟨rfl,rfl⟩
  ·obtain⟨a1,a2,a3⟩:=inr h
   rw[old s a1 a3];exact B.idx i s h
  ·exact⟨k+1,new,by omega,by omega⟩
 ·rcases Qq h1 with g1|⟨rfl,rfl⟩
  ·obtain⟨a1,a2,a3⟩:=inr g1
   rw[old s a1 a3] at h3
   rcases Qq h2 with g2|⟨rfl,rfl⟩
   ·obtain⟨b1,b2,b3⟩:=inr g2
    rw[old u b1 b3] at h4
    exact B.mono i j s u a l ij g1 g2 h3 h4
   ·rw[new] at h4
    cases h4
    exact B.top i t s k a b.at_ g1 b.k_ h3
  ·rcases Qq h2 with h2|⟨rfl,rfl⟩
   ·have:=yY h2;omega
   ·rw[h3] at h4;cases h4;exact ae2 _
 ·have h1':s=t:=by
   rcases Qq h1 with h1|⟨e,_⟩
   ·rw[b.at_] at h1;exact(aa2 h1).symm
   ·omega
  subst h1'
  rw[old s tr.1 tx,b.k_] at h3
  cases h3
  rcases Qq h2 with h2|⟨rfl,rfl⟩
  ·obtain⟨b1,b2,b3⟩:=inr h2
   rw[old u b1 b3] at h4
   exact B.top j s u k l b.at_ h2 b.k_ h4
  ·rw[new] at h4;cases h4;exact ae2 _
 ·by_cases e:s=x
  ·subst e
   rw[new]
   constructor
   ·intro q;have q:=aa2 q;omega
   ·intro q;have:=(B.zero s s0 s1).mpr q;rw[hn] at this;cases this
  ·rw[old s s0 e];exact B.zero s s0 s1
 ·rcases mem_append.mp hs with q|q
  ·have sr:=B.rng s q
   have sx:s≠x:=λe=>xr (e▸q)
   rw[old s sr.1 sx] at h1
   obtain⟨p1,u,u1,u2,u3,u4⟩:=B.via s a q h1 h2
   refine⟨p1,u,u1,u2,u3,?_⟩
   rw[old u u2 λe=>by rw[e,hn] at u4;cases u4]
   exact u4
  ·have:=mem_singleton.mp q
   subst this
   rw[new] at h1
   cases h1
   exact⟨hp,t,ht,tr.1,tr.2,by rw[old t tr.1 tx,b.k_,show k+1-1=k by omega]⟩
 ·have h1':row[i]?=some u:=by rw[getElem?_append_left (by omega)] at h1;exact h1
  obtain⟨b1,b2,b3⟩:=inr h1'
  rw[old u b1 b3] at h2
  obtain⟨j,q1,q2⟩:=B.done i s u a hi h1' h2 s0 s1 ps hu
  by_cases e:s=x
  ·subst e;rw[hn] at q1;cases q1
  ·exact⟨j,by rw[old s s0 e];exact q1,q2⟩
 ·rw[getElem?_append_left pl];exact b.at_
 ·rw[old t tr.1 tx];exact b.k_
 ·rcases mem_append.mp hs with q|q
  ·obtain⟨j,q1,q2⟩:=b.t_ s q ps
   by_cases e:s=x
   ·subst e;rw[hn] at q1;cases q1
   ·by_cases s0:0<=s
    ·exact⟨j,by rw[old s s0 e];exact q1,q2⟩
    ·refine⟨j,?_,q2⟩
     show(d.set x.toNat (some (k+1))).getD s.toNat none=some j
     have z:s.toNat=0:=by omega
     rw[Ux (by have:=B.len;omega)]
     by_cases w:s.toNat=x.toNat
     ·have xz:x=0:=by omega
      have T6:d.getD s.toNat none=some j:=q1
      have hn':d.getD x.toNat none=none:=hn
      rw[w] at T6
      rw[T6] at hn'
      cases hn'
     ·rw[if_neg w];exact q1
  ·rw[mem_singleton.mp q];exact⟨k+1,new,ae2 _⟩
theorem zJv{C:Addr}{m:aF C}(g:Gr m n){goal:LI}(ht:∀x∈through,0<=x/\x<n)(hg:goal.Nodup/\∀x∈goal,0<=x/\x<n):W (uR m through goal) (sJ m.steps through goal n):=by
 unfold uR
 have hp:=g.pos
 have hf:=g.few
 simp only[zC,aj,W_ g,dH]
 refine(zOt g ht).imp λfl ⟨fl1,fl2⟩=>⟨⟨by omega,by omega⟩,?_⟩
 rw[Px (λ_=>(none:Option Int))]
 have e:=Cy (n:=n) (by omega)
 refine⟨yP (by omega),vE (λi (d:List (Option Int))=>(d.length:Int)=n/\∀s:Int,0<=s->s<n->dg d s=if s∈goal.take i then some 0 else none) ⟨by rw[length_map];exact e,λs _ _=>?_⟩ (λi x d hi hI=>?_) λd hd=>?_⟩
 ·show(List.map (λ_=>(none:Option Int)) (rng n)).getD s.toNat none=_
  rw[getD_eq_getElem?_getD,getElem?_map]
  cases(rng n)[s.toNat]?<;>simp
 ·have hx:=hg.2 x (mem_of_getElem? hi)
  simp only[zC,aj]
  rw[R3 hx.1 (by omega)]
  refine⟨by rw[length_set];exact hI.1,λs s0 s1=>?_⟩
  have tk:goal.take (i+1)=goal.take i++[x]:=by rw[take_add_one,hi]<;>rfl
  rw[zRy hI.1 hx.1 hx.2 s0,hI.2 s s0 s1,tk]
  by_cases q:s=x<;>simp[q]
 rw[take_length] at hd
 have base:Bf m.steps (· ∈ through) goal n d goal 0:=by
  have z:∀s:Int,0<=s->s<n->∀k,dg d s=some k->k=0/\s∈goal:=λs s0 s1 k h=>by
   rw[hd.2 s s0 s1] at h
   split at h
   ·rename_i q;cases h;exact⟨rfl,q⟩
   ·cases h
  refine⟨hd.1,hg.2,hg.1,λs s0 s1=>?_,λi s h=>?_,λi j s t k l _ h1 h2 h3 h4=>?_,λj s t k l h1 h2 h3 h4=>?_,λs s0 s1=>?_,λs k hs h1 h2=>absurd hs h2,λi s t k hi=>by omega⟩
  ·rw[hd.2 s s0 s1];by_cases q:s∈goal<;>simp[q]
  ·have hs:=mem_of_getElem? h
   have:=hg.2 s hs
   exact⟨0,by rw[hd.2 s this.1 this.2,if_pos hs],ae2 _,by omega⟩
  ·have a1:=hg.2 s (mem_of_getElem? h1)
   have a2:=hg.2 t (mem_of_getElem? h2)
   have:=(z s a1.1 a1.2 k h3).1
   have:=(z t a2.1 a2.2 l h4).1
   omega
  ·have a1:=hg.2 s (mem_of_getElem? h1)
   have a2:=hg.2 t (mem_of_getElem? h2)
   have:=(z s a1.1 a1.2 k h3).1
   have:=(z t a2.1 a2.2 l h4).1
   omega
  ·rw[hd.2 s s0 s1];by_cases q:s∈goal<;>simp[q]
 have aag:n.toNat<=60:=by omega
 refine Ez (λs=>∃pl:Nat,s.2.2=(pl:Int)/\Bf m.steps (· ∈ through) goal n s.1 s.2.1 pl) (λs=>n.toNat-s.2.2.toNat) ⟨0,rfl,base⟩ (show n.toNat-(0:Int).toNat<fuel from aa7 (Nat.sub_le _ _) (aa7 aag (by decide))) λs ⟨pl,hpl,B⟩=>?_
 rw[aj]
 have rl:s.2.1.length<=n.toNat:=wG B.nd λx hx=>by have:=B.rng x hx;omega
 by_cases lt:s.2.2<(s.2.1.length:Int)
 ·rw[decide_eq_true lt,if_pos rfl]
  simp only[zC,aj]
  rw[dI (by omega)]
  have pll:pl<s.2.1.length:=by omega
  have e1:s.2.2.toNat=pl:=by omega
  rw[e1]
  refine⟨_,aaz pll,?_⟩
  have hat:s.2.1[pl]?=some s.2.1[pl]:=aaz pll
  generalize s.2.1[pl]=t at hat
  have tr:=B.rng t (mem_of_getElem? hat)
  obtain⟨k,hk,k0,k1⟩:=B.idx pl t hat
  refine(zSz g tr.1 tr.2).imp λxs hxs=>?_
  refine vE (λi (r:List (Option Int)×LI)=>Bm m.steps (· ∈ through) goal n r.1 r.2 pl t k (xs.take i)) ⟨B,hat,hk,λs hs=>by cases hs⟩ (λi x r hi b=>?_) λr b=>?_
  ·have hx:=(hxs x).mp (mem_of_getElem? hi)
   have tk:xs.take (i+1)=xs.take i++[x]:=by rw[take_add_one,hi]<;>rfl
   rw[tk]
   simp only[zC,aj]
   rw[dI hx.1]
   have fx:=fl2 x hx.1 hx.2.1
   have fl3:x.toNat<fl.length:=by omega
   refine⟨_,aaz fl3,?_⟩
   rw[getD_eq_getElem?_getD,aaz fl3] at fx
   have fx:fl[x.toNat]=decide (x∈through):=fx
   rw[fx]
   have dl:x.toNat<r.1.length:=by have:=b.bf.len;omega
   have dx:dg r.1 x=r.1[x.toNat]:=by show r.1.getD x.toNat none=_;rw[getD_eq_getElem?_getD,aaz dl];rfl
   by_cases px:x∈through
   ·rw[decide_eq_true px,if_pos rfl,zC,dI hx.1]
    refine⟨_,aaz dl,?_⟩
    rw[<-dx,aj]
    cases hdx:dg r.1 x with
    |none =>
     simp only[Option.isNone_none,if_true,zC,aj]
     have tr':t.toNat<r.1.length:=by have:=b.bf.len;omega
     rw[dI tr.1]
     refine⟨_,aaz tr',?_⟩
     have ek:r.1[t.toNat]=some k:=by
      have:=b.k_
      have z:r.1.getD t.toNat none=some k:=this
      rw[getD_eq_getElem?_getD,aaz tr'] at z
      exact z
     rw[ek,aj,R3 hx.1 (by have:=b.bf.len;omega),Ax]
     have rl2:r.2.length<=n.toNat:=wG b.bf.nd λx hx=>by have:=b.bf.rng x hx;omega
     exact⟨yP (by omega),b.put hx.1 hx.2.1 px hdx hx.2.2⟩
    |some j =>
     simp only[Option.isNone_some,aa9,if_false,aj]
     refine⟨b.bf,b.at_,b.k_,λs hs ps=>?_⟩
     rcases mem_append.mp hs with q|q
     ·exact b.t_ s q ps
     ·rw[mem_singleton.mp q]
      have hin:x∈r.2:=(b.bf.iff x hx.1 hx.2.1).mp (by rw[hdx];rfl)
      obtain⟨ii,hii⟩:=mem_iff_getElem?.mp hin
      exact⟨j,hdx,b.bf.top ii t x k j b.at_ hii b.k_ hdx⟩
   ·rw[decide_eq_false px,if_neg (by decide),aj]
    simp only[aa9,if_false,aj]
    refine⟨b.bf,b.at_,b.k_,λs hs ps=>?_⟩
    rcases mem_append.mp hs with q|q
    ·exact b.t_ s q ps
    ·rw[mem_singleton.mp q] at ps;exact absurd ps px
  ·rw[take_length] at b
   refine⟨⟨pl+1,by show s.2.2+1=_;omega,?_⟩,?_⟩
   ·have B':=b.bf
    refine⟨B'.len,B'.rng,B'.nd,B'.iff,B'.idx,B'.mono,λj u v a l h1 h2 h3 h4=>?_,B'.zero,B'.via,λi u v a hi h1 h2 u0 u1 pu hu=>?_⟩
    ·have q1:=B'.mono pl (pl+1) t u k a (by omega) b.at_ h1 b.k_ h3
     have q2:=B'.top j t v k l b.at_ h2 b.k_ h4
     omega
    ·by_cases q:i=pl
     ·subst q
      rw[b.at_] at h1
      cases h1
      rw[b.k_] at h2
      cases h2
      exact b.t_ u ((hxs u).mpr ⟨u0,u1,hu⟩) pu
     ·exact B'.done i u v a (by omega) h1 h2 u0 u1 pu hu
   ·show n.toNat-(s.2.2+1).toNat<n.toNat-pl
    omega
 ·rw[decide_eq_false lt,if_neg (by decide)]
  have all:∀t∈s.2.1,∃i,i<pl/\s.2.1[i]?=some t:=λt h=>by
   obtain⟨i,hi⟩:=mem_iff_getElem?.mp h
   exact⟨i,by have:=yY hi;omega,hi⟩
  refine⟨B.len,λu k u0 u1 h=>?_,B.zero,λu k u0 u1 h hu=>?_,λu t k u0 u1 t0 t1 hu ht hk=>?_⟩
  ·have hin:=(B.iff u u0 u1).mp (by rw[h];rfl)
   obtain⟨i,hi⟩:=mem_iff_getElem?.mp hin
   obtain⟨k',e1,e2,e3⟩:=B.idx i u hi
   rw[h] at e1
   cases e1
   have:=yY hi
   exact⟨e2,by omega⟩
  ·exact B.via u k ((B.iff u u0 u1).mp (by rw[h];rfl)) h hu
  ·obtain⟨i,h1,h2⟩:=all t ((B.iff t t0 t1).mp (by rw[hk];rfl))
   exact B.done i u t k h1 h2 hk u0 u1 hu ht
theorem zQp{xss:List LI}(hl:(xss.length:Int)=n)(h0:0<=s)(h1:s<n):xss[s.toNat]?=some (nxt xss s):=by
 have:s.toNat<xss.length:=by omega
 unfold nxt
 rw[getD_eq_getElem?_getD,aaz this]
 rfl
theorem Uy:∀{xs ys:LI},xs.Pairwise (· < ·)->ys.Pairwise (· < ·)->(∀s,s∈xs↔s∈ys)->xs=ys
 |[],[],_,_,_=>rfl
 |[],y::ys,_,_,h=>by have:=(h y).mpr mem_cons_self;cases this
 |x::xs,[],_,_,h=>by have:=(h x).mp mem_cons_self;cases this
 |x::xs,y::ys,h1,h2,h=>by
  have a1:=pairwise_cons.mp h1
  have a2:=pairwise_cons.mp h2
  have e:x=y:=by
   rcases mem_cons.mp ((h x).mp mem_cons_self) with q|q
   ·exact q
   ·rcases mem_cons.mp ((h y).mpr mem_cons_self) with r|r
    ·exact r.symm
    ·have:=a1.1 y r;have:=a2.1 x q;omega
  subst e
  rw[Uy a1.2 a2.2 λs=>?_]
  constructor
  ·intro q
   rcases mem_cons.mp ((h s).mp (mem_cons_of_mem _ q)) with r|r
   ·have:=a1.1 s q;omega
   ·exact r
  ·intro q
   rcases mem_cons.mp ((h s).mpr (mem_cons_of_mem _ q)) with r|r
   ·have:=a2.1 s q;omega
   ·exact r
theorem zVq(n:Int):(rng n).Pairwise (· < ·):=by
 unfold rng
 rw[pairwise_map]
 exact List.pairwise_lt_range.imp λh=>by show(_:Int)<_;simpa using h
def pick(n:Int)(p:Int->Bool):LI:=(rng n).filter p
theorem fX:s∈pick n p↔0<=s/\s<n/\p s=true:=by
 unfold pick
 rw[mem_filter,mG,and_assoc]
theorem yU(n:Int)(p:Int->Bool):aG n (pick n p):=⟨(zVq n).filter p,λx hx=>by have:=fX.mp hx;omega⟩
theorem GJ(h:aG n xs)(e:∀s,0<=s->s<n->(s∈xs↔p s=true)):xs=pick n p :=
 Uy h.1 (yU n p).1 λs=>by
  rw[fX]
  constructor
  ·intro q;have:=h.2 s q;exact⟨this.1,this.2,(e s this.1 this.2).mp q⟩
  ·intro⟨a,b,c⟩;exact(e s a b).mpr c
theorem zUt{d:List (Option Int)}(hl:(d.length:Int)=n):Av d=(rng n).map λs=>(s,dg d s):=by
 refine ext_getElem? λi=>?_
 have e:n.toNat=d.length:=by omega
 by_cases q:i<d.length
 ·have h1:(rng n)[i]?=some (i:Int):=by unfold rng;rw[getElem?_map,getElem?_range (by omega)];rfl
  rw[getElem?_map,h1]
  unfold Av
  rw[getElem?_zip_eq_some (z:=((i:Int),dg d i))|>.mpr ⟨?_,?_⟩]
  ·rfl
  ·rw[getElem?_map,getElem?_range q];rfl
  ·show d[i]?=some (d.getD ((i:Int).toNat) none)
   rw[ab1,getD_eq_getElem?_getD,aaz q];rfl
 ·rw[abq (by rw[zJc];omega),abq (by rw[length_map];unfold rng;rw[length_map,length_range];omega)]
theorem GK:W (dput kvs k v) Q↔kvs.length<cap/\Q (pK kvs (abw k) v):=by
 unfold dput
 rw[K6]
 constructor
 ·intro⟨h1,h2⟩
  by_cases h:kvs.length<cap
  ·exact⟨h,aj.mp (h1 h)⟩
  ·exact absurd (h2 h) (by rw[Ib];exact id)
 ·intro⟨h,q⟩
  exact⟨λ_=>aj.mpr q,λz=>absurd h z⟩
theorem zU6:W (Sd kvs k v) Q↔kvs.length<cap/\Q (pK kvs (acg k) v):=by
 unfold Sd
 rw[K6]
 constructor
 ·intro⟨h1,h2⟩
  by_cases h:kvs.length<cap
  ·exact⟨h,aj.mp (h1 h)⟩
  ·exact absurd (h2 h) (by rw[Ib];exact id)
 ·intro⟨h,q⟩
  exact⟨λ_=>aj.mpr q,λz=>absurd h z⟩
def za(n:Int)(xs:LI):Prop:=xs.Nodup/\xs.length<=100/\∀z∈xs,0<=z/\z<n
theorem zOs(h:0<=z/\z<n):Uk z n=some true:=by
 unfold Uk
 rw[if_pos rfl,if_pos (show(!false)=true from rfl),decide_eq_true h.1,if_pos rfl,decide_eq_true h.2]
theorem zCa(h:za n xs)(x:Str):W (xE xs n x) λ_=>True:=by
 unfold xE
 rw[zC,aj,zC,zC,aj]
 refine vE (λi s=>s.length<=i/\∀z,(je s z).isSome=true->z∈xs.take i) ⟨abj _,λz hz=>by cases hz⟩ (λi y s hi hI=>?_) λs _=>aj.mpr trivial
 have il:=yY hi
 rw[zOs (h.2.2 y (mem_of_getElem? hi)),zC,zC,zC,aj,aj,ab9,if_neg (by decide),aj,zC]
 have hn:(je s y).isSome=false:=by
  cases q:(je s y).isSome with
  |false=>rfl
  |true=>exact absurd (hI.2 y q) (zGi h.1 hi)
 have hn':(je (Dc.mk s).kv y).isSome=false:=hn
 rw[hn',if_neg (by decide),aj,zC,GK]
 have l1:=h.2.1
 refine⟨yP (by omega),?_⟩
 rw[aj]
 have l2:=zVx s (abw y) true
 refine⟨by omega,λz hz=>?_⟩
 rw[uH hi]
 have e:je (pK s (abw y) true) z=if(abw z:Key)=abw y then some true else je s z:=zV5 s (abw y) (abw z) true
 rw[e] at hz
 by_cases q:(abw z:Key)=abw y
 ·exact .inr (agb q)
 ·rw[if_neg q] at hz
  exact .inl (hI.2 z hz)
theorem Jh(a:Str){i:Nat}(h:i<1000):W (Lb a (i:Int)) λ_=>True:=by
 unfold Lb
 rw[if_pos (zQx (by omega)),aj]
 trivial
theorem zM3{xss:List LI}(hl:(xss.length:Int)=n)(h0:1<=n)(h1:n<=60)(h:∀xs∈xss,xs≠[]/\za n xs):W (wZ xss) λ_=>True:=by
 unfold wZ
 rw[zC,aj,zC,zC,hl,decide_eq_false (by omega),if_neg (by decide),aj,decide_eq_false (by omega),if_neg (by decide),aj,zC,zC,aj]
 refine vE (λ_ _=>True) trivial (λi y s hi _=>?_) λs _=>aj.mpr trivial
 obtain⟨e1,e2⟩:=YQ hi
 have il:=yY e2
 obtain⟨ne,ok⟩:=h y.2 (mem_of_getElem? e2)
 rw[e1]
 simp only[zC]
 refine(Jh "steps of stand " (i:=i) (by omega)).imp λt _=>?_
 rw[aj,aj,aj]
 refine(zCa ok t).imp λ_ _=>?_
 rw[decide_eq_false (λz=>ne (length_eq_zero_iff.mp (by omega))),if_neg (by decide),aj,aj]
 trivial
theorem zOv{xss:List LI}(hl:xss.length<=100)(h:∀xs∈xss,za n xs):W (vT xss n) λ_=>True:=by
 unfold vT
 rw[zC,zC,aj]
 refine vE (λ_ _=>True) trivial (λi y s hi _=>?_) λs _=>aj.mpr trivial
 obtain⟨e1,e2⟩:=YQ hi
 have il:=yY e2
 rw[e1]
 simp only[zC]
 refine(Jh "fair set " (i:=i) (by omega)).imp λt _=>?_
 rw[aj,aj,aj]
 refine(zCa (h y.2 (mem_of_getElem? e2)) t).imp λ_ _=>?_
 rw[aj]
 trivial
def zLd(n:Int)(ms:List (Str×LI)):Prop:=(ms.map (·.1)).Nodup/\ms.length<=100/\∀m∈ms,uQ m.1=some true/\m.1.length<=1000/\za n m.2
theorem zM4(h:zLd n ms):W (vA ms n) λ_=>True:=by
 unfold vA
 rw[zC,aj,zC,zC,aj]
 refine vE (λi s=>s.length<=i/\∀z,(Ii s z).isSome=true->z∈(ms.map (·.1)).take i) ⟨abj _,λz hz=>by cases hz⟩ (λi y s hi hI=>?_) λs _=>aj.mpr trivial
 have il:=yY hi
 have hi':(ms.map (·.1))[i]?=some y.1:=by rw[getElem?_map,hi];rfl
 obtain⟨nm,ln,ok⟩:=h.2.2 y (mem_of_getElem? hi)
 have nin:y.1∉(ms.map (·.1)).take i:=λhz=>by
  obtain⟨j,hj⟩:=mem_iff_getElem?.mp hz
  have hji:j<i:=by
   have:=yY hj
   rw[length_take] at this
   omega
  rw[getElem?_take_of_lt hji] at hj
  have a1:=yY hi'
  have a2:=yY hj
  rw[aaz a1] at hi'
  rw[aaz a2] at hj
  have e:(ms.map (·.1))[j]=(ms.map (·.1))[i]:=(aa2 hj).trans (aa2 hi').symm
  have:=(getElem_inj h.1).mp e
  omega
 rw[nm,zC,zC,zC,aj,aj,ab9,if_neg (by decide),aj,zC]
 have hn:(Ii (Dc.mk s).kv y.1).isSome=false:=by
  cases q:(Ii s y.1).isSome with
  |false=>rfl
  |true=>exact absurd (hI.2 y.1 q) nin
 rw[hn,if_neg (by decide),aj,zC,zU6]
 have l1:=h.2.1
 refine⟨yP (by omega),?_⟩
 simp only[zC]
 have fs:W (Pz "mark " y.1) λ_=>True:=by
  unfold Pz
  rw[if_pos ln,aj]
  trivial
 refine fs.imp λt _=>?_
 rw[aj,aj,aj]
 refine(zCa ok t).imp λ_ _=>?_
 rw[aj]
 have l2:=zVx s (acg y.1) true
 refine⟨by omega,λz hz=>?_⟩
 rw[uH hi']
 have e:Ii (pK s (acg y.1) true) z=if(acg z:Key)=acg y.1 then some true else Ii s z:=zV5 s (acg y.1) (acg z) true
 rw[e] at hz
 by_cases q:(acg z:Key)=acg y.1
 ·exact .inr (Sum.inr.inj q)
 ·rw[if_neg q] at hz
  exact .inl (hI.2 z hz)
theorem zLg{xss:List LI}(h:xss.length<=100):Qk xss=some xss:=by
 have q:W (Qk xss) (· = xss):=by
  unfold Qk
  rw[zC,aj,Px (λx=>x),map_id']
  exact⟨yP (by omega),rfl⟩
 obtain⟨a,e,rfl⟩:=q
 exact e
theorem Uz(C:Addr){xss:List LI}{mo:Option Cz}{fo:Option LLI}(hl:(xss.length:Int)=n)(h0:1<=n)(h1:n<=60)(h:∀xs∈xss,xs≠[]/\za n xs)(hm:zLd n (mo.getD []))(hf:(fo.getD []).length<=100/\∀xs∈fo.getD [],za n xs) :
  W (Je C xss mo fo) λm=>Gr m n/\m.steps=xss/\m.marks=mo.getD []/\m.fair=fo.getD []:=by
 unfold Je Wf
 rw[zC]
 refine(zM3 hl h0 h1 h).imp λ_ _=>?_
 rw[zC,hl]
 refine(zM4 hm).imp λ_ _=>?_
 rw[zC]
 refine(zOv hf.1 hf.2).imp λ_ _=>?_
 have m1:=hm.2.1
 rw[zLg (by omega),zC,aj,zC,Px (λx:Str×LI=>(x.1,x.2))]
 refine⟨yP (by omega),?_⟩
 have e:(mo.getD []).map (λx:Str×LI=>(x.1,x.2))=mo.getD []:=map_id' _
 rw[zLg hf.1,zC,aj,zC]
 have hv:Qh xss=some (srcs xss):=by
  unfold Qh
  rw[if_pos ⟨by omega,rfl,λxs hx=>by obtain⟨a,b,c,d⟩:=h xs hx;exact⟨a,b,c,λz hz=>by have:=d z hz;omega⟩⟩]
 rw[hv,aj,aj,e]
 exact⟨⟨hl,h0,h1,λxs hx=>by obtain⟨a,b,c,d⟩:=h xs hx;exact⟨a,b,d⟩,rfl⟩,rfl,rfl,rfl⟩
theorem UG(h:aG n xs)(vp:n<=60):za n xs:=⟨h.nodup,by
 by_cases hn:0<=n
 ·have:=wG (n:=n.toNat) h.nodup λx hx=>by have:=h.2 x hx;omega
  omega
 ·cases xs with
  |nil=>exact abj _
  |cons x xs=>have:=h.2 x mem_cons_self;omega,h.2⟩
theorem GP(h:Uw n xs):xs≠[]/\za n xs:=⟨h.1,h.2.1,by have:=h.2.2.1;omega,h.2.2.2⟩
theorem zFu(hx:0<=x)(hy:0<=y):abo x y=((x.toNat&&&y.toNat:Nat):Int):=by
 unfold abo
 rw[decide_eq_true hx,decide_eq_true hy]
theorem zMr(hx:0<=x)(hy:0<=y):adq x y=((x.toNat|||y.toNat:Nat):Int):=by
 have h1:¬0<=adh x:=by unfold adh;omega
 have h2:¬0<=adh y:=by unfold adh;omega
 have nn:∀z:Int,adh (adh z)=z:=λz=>by unfold adh;omega
 unfold adq abo
 rw[decide_eq_false h1,decide_eq_false h2]
 dsimp only
 rw[nn,nn,nn]
def bt(x t:Int):Bool:=x.toNat.testBit t.toNat
theorem Ji(hx:0<=x)(hy:0<=y)(t:Int):bt (adq x y) t=(bt x t||bt y t):=by
 unfold bt
 rw[zMr hx hy,ab1,Nat.testBit_or]
theorem zWf(hx:0<=x)(hy:0<=y)(t:Int):bt (abo x y) t=(bt x t&&bt y t):=by
 unfold bt
 rw[zFu hx hy,ab1,Nat.testBit_and]
theorem Jj(hx:0<=x)(hy:0<=y):0<=adq x y:=by rw[zMr hx hy];exact adl _
theorem zWj(hx:0<=x)(hy:0<=y):0<=abo x y:=by rw[zFu hx hy];exact adl _
theorem GQ(t:Int):bt 0 t=false:=by unfold bt;simp
theorem NQ(ht:0<=t)(hu:0<=u):bt (1*2^t.toNat) u=decide (u=t):=by
 unfold bt
 rw[Int.one_mul,show((2:Int)^t.toNat).toNat=2^t.toNat by
  rw[show((2:Int)^t.toNat)=((2^t.toNat:Nat):Int) by simp]
  exact ab1 _,Nat.testBit_two_pow]
 rw[abv,decide_eq_true_iff,decide_eq_true_iff]
 omega
theorem zPj{x:Int}(hx:0<=x)(k:Nat):0<=x/2^k:=Int.ediv_nonneg hx (Int.le_of_lt (Int.pow_pos (by decide)))
theorem GR{x:Int}(hx:0<=x)(k:Nat):(x/2^k).toNat=x.toNat>>>k:=by
 obtain⟨m,rfl⟩:=Int.eq_ofNat_of_zero_le hx
 rw[Nat.shiftRight_eq_div_pow,ab1]
 have:((m:Int)/2^k)=((m/2^k:Nat):Int):=by simp
 rw[this,ab1]
theorem zSf{t:Int}(hx:0<=x):bt (x/2^t.toNat) 0=bt x t:=by
 unfold bt
 rw[GR hx,Int.toNat_zero,Nat.testBit_shiftRight]
 rfl
theorem zWd(hx:0<=x):(abo x 1 != 0)=bt x 0:=by
 rw[zFu hx (by decide)]
 unfold bt
 rw[Nat.testBit]
 simp only[Int.toNat_zero,Nat.shiftRight_zero,show(1:Int).toNat=1 from rfl]
 rw[Nat.and_comm]
 rw[abv]
 simp only[bne_iff_ne,ne_eq]
 omega
theorem zVb(h:∀x∈xs,0<=x/\x<n)(vp:n<=60):W (Qn xs) λb=>0<=b/\∀t:Int,0<=t->bt b t=decide (t∈xs):=by
 unfold Qn
 rw[zC,aj,zC,zC,aj]
 refine vE (λi s=>0<=s/\∀t:Int,0<=t->bt s t=decide (t∈xs.take i)) ⟨by decide,λt _=>by rw[GQ];simp⟩ (λi x s hi hI=>?_) λs hI=>?_
 ·obtain⟨h0,hb⟩:=hI
  have xb:=h x (mem_of_getElem? hi)
  have e:uy 1 x=some (1*2^x.toNat):=by unfold uy;rw[if_pos ⟨xb.1,by omega,by decide⟩]
  have tk:xs.take (i+1)=xs.take i++[x]:=by rw[take_add_one,hi]<;>rfl
  have p0:(0:Int)<=1*2^x.toNat:=by rw[Int.one_mul];exact Int.le_of_lt (Int.pow_pos (by decide))
  rw[zC,zC,e,aj,aj,aj]
  refine⟨Jj h0 p0,λt ht=>?_⟩
  rw[Ji h0 p0,hb t ht,NQ xb.1 ht,tk,abv]
  simp
 ·rw[aj]
  rw[take_length] at hI
  exact hI
def rb(rows:LI)(s t:Int):Bool:=bt (rows.getD s.toNat 0) t
theorem UJ{rows:LI}(hl:(rows.length:Int)=n)(h0:0<=s)(h1:s<n):L2.cj rows s=some (rows.getD s.toNat 0):=by
 rw[zWh h0,getD_eq_getElem?_getD,aaz (by omega)]
 rfl
def Jk(rows:LI):Prop:=∀i:Nat,0<=rows.getD i 0
theorem zMq{rows:LI}{n s t:Int}(hl:(rows.length:Int)=n)(nn:Jk rows)(h0:0<=s)(h1:s<n)(t0:0<=t) :
  ((((L2.cj rows s).bind λa=>jA a t).bind λa=>some (abo a 1)).bind λa=>some (a != 0))=some (rb rows s t):=by
 rw[UJ hl h0 h1]
 show(((jA _ t).bind _).bind _)=_
 unfold jA
 rw[if_pos t0]
 show some (abo (rows.getD s.toNat 0/2^t.toNat) 1 != 0)=_
 rw[zWd (zPj (nn _) _),zSf (nn _)]
 rfl
theorem zS1{rows:LI}{n s t:Int}(hl:(rows.length:Int)=n)(nn:Jk rows)(h0:0<=s)(h1:s<n)(t0:0<=t)(t1:t<n) :
  (((((L2.cj rows s).bind λa=>jA a t).bind λa=>((L2.cj rows t).bind λb=>jA b s).bind λb=>some (abo a b)).bind λa=>some (abo a 1)).bind λa=>some (a != 0))=some (rb rows s t&&rb rows t s):=by
 rw[UJ hl h0 h1,UJ hl t0 t1]
 show((((jA _ t).bind λa=>(jA _ s).bind _).bind _).bind _)=_
 unfold jA
 rw[if_pos t0,if_pos h0]
 show some (abo (abo (rows.getD s.toNat 0/2^t.toNat) (rows.getD t.toNat 0/2^s.toNat)) 1 != 0)=_
 have a1:=zPj (nn s.toNat) t.toNat
 have a2:=zPj (nn t.toNat) s.toNat
 rw[zWd (zWj a1 a2),zWf a1 a2,zSf (nn _),zSf (nn _)]
 rfl
theorem zVr{rows:LI}(hl:(rows.length:Int)=n)(x0:0<=x)(x1:x<n)(s0:0<=s):rb (rows.set x.toNat v) s t=if s=x then bt v t else rb rows s t:=by
 unfold rb
 rw[Ux (by omega)]
 by_cases e:s=x
 ·subst e;rw[if_pos rfl,if_pos rfl]
 ·rw[if_neg (by omega),if_neg e]
theorem zV0{rows:LI}(hl:(rows.length:Int)=n)(x0:0<=x)(x1:x<n)(nn:Jk rows)(hv:0<=v):Jk (rows.set x.toNat v):=λi=>by
 rw[Ux (by omega)]
 split
 ·exact hv
 ·exact nn i
inductive jL(xss:List LI)(U:LI):Int->Int->Prop
 |one {s t:Int}:t∈nxt xss s->t∈U->jL xss U s t
 |step {s u t:Int}:u∈nxt xss s->u∈U->jL xss U u t->jL xss U s t
theorem jL.trans(h:jL xss U s t)(k:jL xss U t u):jL xss U s u:=by
 induction h with
 |one a b=>exact .step a b k
 |step a b _ ih=>exact .step a b (ih k)
theorem jL.mem(h:jL xss U s t):t∈U:=by
 induction h with
 |one _ b=>exact b
 |step _ _ _ ih=>exact ih
theorem jL.mono{xss:List LI}{U V:LI}{s t:Int}(h:jL xss U s t)(k:∀x∈U,x∈V):jL xss V s t:=by
 induction h with
 |one a b=>exact .one a (k _ b)
 |step a b _ ih=>exact .step a (k _ b) ih
structure n_(xss:List LI)(U rows:LI):Prop where
 nn:Jk rows
 edge:∀s∈U,∀t∈U,t∈nxt xss s->rb rows s t=true
 sound:∀s∈U,∀t:Int,0<=t->rb rows s t=true->jL xss U s t
 trans:∀s∈U,∀u∈U,∀t:Int,0<=t->rb rows s u=true->rb rows u t=true->rb rows s t=true
theorem zMn{α β:Type}{c:α->Option Bool}{f:α->Option β}{p:α->Bool}{g:α->β}:∀{xs:List α},(∀x∈xs,c x=some (p x))->(∀x∈xs,f x=some (g x))->wI c f xs=some ((xs.filter p).map g)
 |[],_,_=>rfl
 |x::xs,hc,hf=>by
  have ih:=zMn (xs:=xs) (λy hy=>hc y (mem_cons_of_mem _ hy)) λy hy=>hf y (mem_cons_of_mem _ hy)
  show((c x).bind λb=>if b=true then(f x).bind λy=>(wI c f xs).bind λys=>some (y::ys) else wI c f xs)=_
  rw[hc x mem_cons_self,bnd,hf x mem_cons_self,ih,filter_cons]
  cases p x with
  |true=>rw[if_pos rfl,if_pos rfl];rfl
  |false=>rw[if_neg (by decide),if_neg (by decide)]
theorem UL{α β:Type}{c:α->Option Bool}{f:α->Option β}{p:α->Bool}{g:α->β}{xs:List α}(hl:xs.length<cap)(hc:∀x∈xs,c x=some (p x))(hf:∀x∈xs,f x=some (g x)):uB c f xs=some ((xs.filter p).map g):=by
 unfold uB
 rw[if_pos hl]
 exact zMn hc hf
theorem zVp{C:Addr}{m:aF C}(g:Gr m n)(h0:0<=s)(h1:s<n):nxt m.steps s∈m.steps:=mem_of_getElem? (zQp g.len h0 h1)
theorem zLf{C:Addr}{m:aF C}(g:Gr m n)(h0:0<=s)(h1:s<n):W (yX m s) λxs=>xs.length<=60/\∀x,x∈xs↔x∈nxt m.steps s:=by
 unfold yX
 have f:=g.few
 obtain⟨_,nd,rg⟩:=g.row _ (zVp g h0 h1)
 have l:=wG (n:=n.toNat) nd λx hx=>by have:=rg x hx;omega
 rw[zC,dI h0]
 refine⟨_,zQp g.len h0 h1,?_⟩
 unfold EY
 rw[if_pos (by omega),aj]
 refine⟨by rw[(vL _).length_eq];omega,λx=>(vL _).mem_iff⟩
def dl(xs:LI):List (Key×Bool):=xs.map λx=>((abw x:Key),true)
theorem zRw:∀(xs:LI)(x:Int),(je (dl xs) x).isSome=decide (x∈xs)
 |[],x=>by simp[dl,je,gK]
 |y::xs,x=>by
  have ih:=zRw xs x
  unfold je gK dl at ih ⊢
  rw[map_cons,find?_cons]
  by_cases e:y=x
  ·subst e;simp
  ·rw[decide_eq_false (show¬((abw y:Key),true).1=(abw x:Key) fromλz=>e (agb z))]
   rw[ih,abv,decide_eq_true_eq,decide_eq_true_eq,mem_cons]
   exact⟨.inr,λh=>h.resolve_left λz=>e z.symm⟩
theorem NT(h:x∉xs):pK (dl xs) (abw x) true=dl (xs++[x]):=by
 unfold pK
 have:((dl xs).any λkv=>decide (kv.1=(abw x:Key)))=false:=by
  rw[zRb]
  have:=zRw xs x
  rw[decide_eq_false h] at this
  exact this
 rw[if_neg (by rw[this];decide)]
 unfold dl
 rw[map_append]
 rfl
theorem NZ(xs:LI):(dl xs).length=xs.length:=length_map ..
theorem N5:W (dput kvs k v) Q↔kvs.length<cap/\Q (pK kvs (abw k) v):=by
 unfold dput
 split
 ·rename_i h;rw[aj];exact⟨λq=>⟨h,q⟩,λq=>q.2⟩
 ·rename_i h;rw[Ib];exact⟨ab4,λq=>h q.1⟩
section
variable{S α β:Type}
theorem zSl{step:S->α->Option (Out S β)}{Q:Out S β->Prop}(I:Nat->S->Prop)(h0:I 0 s)(hs:∀i x s,xs[i]?=some x->I i s->W (step s x) λo=>(∃s',o=.nx s'/\I (i+1) s')\/∃b,o=.rt b/\Q (.rt b))(hd:∀s,I xs.length s->Q (.nx s)):W (vZ step xs s) Q:=by
 have key:∀(ys:List α)(i:Nat)(s:S),(∀j x,ys[j]?=some x->xs[i+j]?=some x)->i+ys.length=xs.length->I i s->W (vZ step ys s) Q:=by
  intro ys
  induction ys with
  |nil=>intro i s _ hl h;exact⟨.nx s,rfl,hd s ((show i=xs.length from hl)▸h)⟩
  |cons y ys ih =>
   intro i s hy hl h
   rw[zGp,zC]
   refine(hs i y s (hy 0 y rfl) h).imp ?_
   rintro o (⟨s',rfl,h'⟩|⟨b,rfl,h'⟩)
   ·refine ih (i+1) s' (λj x hx=>?_) (by rw[length_cons] at hl;omega) h'
    have:=hy (j+1) x (by simpa using hx)
    rw[show i+1+j=i+(j+1) by omega]
    exact this
   ·exact⟨.rt b,rfl,h'⟩
 exact key xs 0 s (λj x h=>by rw[adb];exact h) (adb _) h0
end
theorem Xa{α:Type}{xs:List α}{x:α}(h:xs[i]?=some x):xs.take (i+1)=xs.take i++[x]:=by rw[take_add_one,h]<;>rfl
theorem uZ{xs:LI}{i:Nat}{x s:Int}(h:xs[i]?=some x):s∈xs.take (i+1)↔s∈xs.take i\/s=x:=by rw[Xa h,mem_append,mem_singleton]
theorem zVz{C:Addr}{m:aF C}(g:Gr m n)(h0:0<=s)(h1:s<n):∀x∈nxt m.steps s,0<=x/\x<n:=(g.row _ (zVp g h0 h1)).2.2
theorem zSv{C:Addr}{m:aF C}(g:Gr m n)(hU:∀x∈U,0<=x/\x<n):W (wY m U) λrows=>(rows.length:Int)=n/\n_ m.steps U rows:=by
 unfold wY
 have few:=g.few
 have pos:=g.pos
 rw[zC]
 refine(zVb hU few).imp λinside ⟨i0,ib⟩=>?_
 rw[zC,zC,zC,W_ g,aj,dH]
 refine⟨⟨by omega,by omega⟩,?_⟩
 have rl:=Cy (n:=n) (by omega)
 rw[Px (λ_=>(0:Int))]
 refine⟨yP (by omega),?_⟩
 rw[zC,zC,aj]
 refine vE (λi rows=>(rows.length:Int)=n/\Jk rows/\∀s∈U.take i,∀t:Int,0<=t->rb rows s t=decide (t∈nxt m.steps s/\t∈U)) ⟨by rw[length_map];exact rl,λi=>?_,λs hs=>by simp at hs⟩ (λi x rows hi hI=>?_) λrows hI=>?_
 ·rw[getD_eq_getElem?_getD,getElem?_map]
  cases(rng n)[i]?<;>exact ae2 0
 ·obtain⟨hl,nn,hb⟩:=hI
  have xb:=hU x (mem_of_getElem? hi)
  rw[zC,zC,zC,zC,zC]
  refine(zLf g xb.1 xb.2).imp λns ⟨_,hns⟩=>?_
  rw[aj]
  refine(zVb (xs:=ns) (λy hy=>zVz g xb.1 xb.2 y ((hns y).mp hy)) few).imp λb ⟨b0,bb⟩=>?_
  rw[aj,R3 xb.1 (by omega),aj]
  refine⟨by rw[length_set];exact hl,zV0 hl xb.1 xb.2 nn (zWj b0 i0),λs hs t ht=>?_⟩
  rw[uZ hi] at hs
  have s0:0<=s:=hs.elim (λh=>(hU s (mem_of_mem_take h)).1) λh=>h▸xb.1
  rw[zVr hl xb.1 xb.2 s0]
  by_cases e:s=x
  ·subst e
   rw[if_pos rfl,zWf b0 i0,bb t ht,ib t ht,abv]
   simp[hns]
  ·rw[if_neg e]
   exact hb s (hs.resolve_right e) t ht
 ·obtain⟨hl,nn,hb⟩:=hI
  rw[take_length] at hb
  rw[zC,zC,aj]
  refine vE (λi rows=>(rows.length:Int)=n/\Jk rows/\(∀s∈U,∀t∈U,t∈nxt m.steps s->rb rows s t=true)/\(∀s∈U,∀t:Int,0<=t->rb rows s t=true->jL m.steps U s t)/\∀u∈U.take i,∀s∈U,∀t:Int,0<=t->rb rows s u=true->rb rows u t=true->rb rows s t=true)
   ⟨hl,nn,λs hs t ht h=>by rw[hb s hs t (hU t ht).1];exact decide_eq_true ⟨h,ht⟩,λs hs t ht h=>by
    rw[hb s hs t ht] at h
    have:=of_decide_eq_true h
    exact .one this.1 this.2,λu hu=>by simp at hu⟩ (λi u R0 hi hI=>?_) λrows hI=>?_
  ·obtain⟨hl0,nn0,ed0,so0,tr0⟩:=hI
   have um:=mem_of_getElem? hi
   have ub:=hU u um
   rw[zC,zC,aj]
   refine vE (λj rows=>(rows.length:Int)=n/\Jk rows/\∀s∈U,∀t:Int,0<=t->rb rows s t=(rb R0 s t||(decide (s∈U.take j)&&(rb R0 s u&&rb R0 u t)))) ⟨hl0,nn0,λs _ t _=>by simp⟩ (λj x rows hj hJ=>?_) λrows hJ=>?_
   ·obtain⟨hl1,BR,hb1⟩:=hJ
    have xm:=mem_of_getElem? hj
    have xb:=hU x xm
    have ex:rb rows x u=rb R0 x u:=by
     rw[hb1 x xm u ub.1]
     cases rb R0 x u<;>simp
    have eu:∀t:Int,0<=t->rb rows u t=rb R0 u t:=λt ht=>by
     rw[hb1 u um t ht]
     cases rb R0 u t<;>simp
    rw[zMq hl1 BR xb.1 xb.2 ub.1,zC,zC,aj,ex]
    by_cases c:rb R0 x u=true
    ·rw[c,if_pos rfl,zC,zC,UJ hl1 ub.1 ub.2,aj]
     unfold Ft
     rw[if_pos xb.1,UJ hl1 xb.1 xb.2]
     show W (uw rows x _) _
     rw[R3 xb.1 (by omega),aj,aj]
     refine⟨by rw[length_set];exact hl1,zV0 hl1 xb.1 xb.2 BR (Jj (BR _) (BR _)),λs hs t ht=>?_⟩
     rw[zVr hl1 xb.1 xb.2 (hU s hs).1]
     by_cases e:s=x
     ·subst e
      rw[if_pos rfl,Ji (BR _) (BR _)]
      show(rb rows s t||rb rows u t)=_
      rw[hb1 s hs t ht,eu t ht,c,decide_eq_true ((uZ hj).mpr (.inr rfl))]
      cases rb R0 s t<;>cases rb R0 u t<;>simp
     ·rw[if_neg e,hb1 s hs t ht]
      have:decide (s∈U.take (j+1))=decide (s∈U.take j):=by
       rw[abv,decide_eq_true_iff,decide_eq_true_iff,uZ hj]
       exact⟨λh=>h.resolve_right e,.inl⟩
      rw[this]
    ·have c:rb R0 x u=false:=by simpa using c
     rw[c,if_neg (by decide),aj,aj]
     refine⟨hl1,BR,λs hs t ht=>?_⟩
     rw[hb1 s hs t ht]
     by_cases e:s=x
     ·subst e
      rw[c]
      simp
     ·have:decide (s∈U.take (j+1))=decide (s∈U.take j):=by
       rw[abv,decide_eq_true_iff,decide_eq_true_iff,uZ hj]
       exact⟨λh=>h.resolve_right e,.inl⟩
      rw[this]
   ·obtain⟨hl1,BR,hb1⟩:=hJ
    rw[take_length] at hb1
    have nw:∀s∈U,∀t:Int,0<=t->(rb rows s t=true↔rb R0 s t=true\/(rb R0 s u=true/\rb R0 u t=true)):=λs hs t ht=>by
     rw[hb1 s hs t ht,decide_eq_true hs]
     simp
    rw[aj]
    refine⟨hl1,BR,λs hs t ht h=>(nw s hs t (hU t ht).1).mpr (.inl (ed0 s hs t ht h)),λs hs t ht h=>?_,λv hv s hs t ht h1 h2=>?_⟩
    ·rcases(nw s hs t ht).mp h with h|⟨h,k⟩
     ·exact so0 s hs t ht h
     ·exact(so0 s hs u ub.1 h).trans (so0 u um t ht k)
    ·rw[uZ hi] at hv
     refine(nw s hs t ht).mpr ?_
     rcases hv with hv|rfl
     ·have vU:=mem_of_mem_take hv
      have v0:=(hU v vU).1
      have T:=tr0 v hv
      rcases(nw s hs v v0).mp h1 with a|⟨a,b⟩<;>rcases(nw v vU t ht).mp h2 with c|⟨c,d⟩
      ·exact .inl (T s hs t ht a c)
      ·exact .inr ⟨T s hs u ub.1 a c,d⟩
      ·exact .inr ⟨a,T u um t ht b c⟩
      ·exact .inr ⟨a,d⟩
     ·have a:rb R0 s v=true:=((nw s hs v ub.1).mp h1).elim id And.left
      have b:rb R0 v t=true:=((nw v um t ht).mp h2).elim id And.right
      exact .inr ⟨a,b⟩
  ·obtain⟨hl1,BR,ed,so,tr⟩:=hI
   rw[take_length] at tr
   rw[aj]
   exact⟨hl1,BR,ed,so,λs hs u hu t ht=>tr u hu s hs t ht⟩
def ring(rows U:LI)(s:Int):LI:=U.filter λt=>rb rows s t&&rb rows t s
theorem aR:t∈ring rows U s↔t∈U/\rb rows s t=true/\rb rows t s=true:=by
 unfold ring
 rw[mem_filter,aa1]
structure sO(xss:List LI)(U G:LI):Prop where
 sub:∀s∈G,s∈U
 nd:G.Nodup
 go:∀s∈G,∀t∈G,jL xss G s t
theorem n_.full(R:n_ xss U rows)(h0:∀x∈U,0<=x)(h:jL xss U s t):s∈U->rb rows s t=true:=by
 induction h with
 |one a b=>exactλhs=>R.edge _ hs _ b a
 |step a b p ih=>exactλhs=>R.trans _ hs _ b _ (h0 _ p.mem) (R.edge _ hs _ b a) (ih b)
theorem zPv(R:n_ xss U rows)(h0:∀x∈U,0<=x)(nd:U.Nodup)(ho:o∈U):sO xss U (ring rows U o):=by
 have key:∀{s t:Int},jL xss U s t->s∈ring rows U o->t∈ring rows U o->jL xss (ring rows U o) s t:=by
  intro s t h
  induction h with
  |one a b=>exactλ_ ht=>.one a ht
  |@step s u t a b p ih =>
   intro hs ht
   obtain⟨sU,s1,s2⟩:=aR.mp hs
   obtain⟨tU,t1,t2⟩:=aR.mp ht
   have u1:rb rows o u=true:=R.trans o ho s sU u (h0 u b) s1 (R.edge s sU u b a)
   have u2:rb rows u o=true:=R.trans u b t tU o (h0 o ho) (R.full h0 p b) t2
   have hu:=aR.mpr ⟨b,u1,u2⟩
   exact .step a hu (ih hu ht)
 refine⟨λs hs=>(aR.mp hs).1,nd.filter _,λs hs t ht=>?_⟩
 obtain⟨sU,s1,s2⟩:=aR.mp hs
 obtain⟨tU,t1,t2⟩:=aR.mp ht
 exact key (R.sound s sU t (h0 t tU) (R.trans s sU o ho t (h0 t tU) s2 t1)) hs ht
structure GX(rows U:LI)(told:List LI):Prop where
 are:∀G∈told,∃s∈U,rb rows s s=true/\G=ring rows U s
 nd:told.flatten.Nodup
 all:∀s∈U,rb rows s s=true->s∈told.flatten
theorem zOp(h:∀x∈xs,0<=x/\x<n)(hl:xs.length<64):PN xs=some (wR xs)/\aG n (wR xs):=by
 unfold PN
 rw[if_pos hl]
 exact⟨rfl,uX xs,λx hx=>h x (bN.mp hx)⟩
theorem GZ{C:Addr}{m:aF C}(g:Gr m n)(hx:∀x∈xs,0<=x/\x<n)(hl:xs.length<64):W (Ur m xs) λtold=>∃rows,n_ m.steps (wR xs) rows/\GX rows (wR xs) told:=by
 obtain⟨e,hR⟩:=zOp hx hl
 have few:=g.few
 have pos:=g.pos
 unfold Ur
 rw[e,zC,aj,zC]
 generalize wR xs=U at hR ⊢
 have h0:∀x∈U,0<=x:=λx hx=>(hR.2 x hx).1
 have Ul:U.length<=n.toNat:=wG hR.nodup λx hx=>by have:=hR.2 x hx;omega
 refine(zSv g hR.2).imp λrows ⟨rl,R⟩=>?_
 rw[zC,aj,zC,aj,zC,zC,aj]
 refine vE (λi z=>∃told:List LI,z=(told,dl told.flatten)/\(∀G∈told,∃s∈U,rb rows s s=true/\G=ring rows U s)/\told.flatten.Nodup/\(∀s∈U.take i,rb rows s s=true->s∈told.flatten)/\told.length<=i) ⟨[],rfl,λG hG=>(by cases hG),by simp,λs hs=>(by simp at hs),aa0 _⟩ (λi x z hi hI=>?_) λz hI=>?_
 ·obtain⟨told,rfl,are,nd,all,tl⟩:=hI
  have xm:=mem_of_getElem? hi
  have xb:=hR.2 x xm
  have sub:∀t∈told.flatten,t∈U:=λt ht=>by
   obtain⟨G,hG,tG⟩:=mem_flatten.mp ht
   obtain⟨s,_,_,rfl⟩:=are G hG
   exact(aR.mp tG).1
  have il:i<U.length:=(abb.mp hi).1
  rw[zC,zC]
  show W (if(!(je (dl told.flatten) x).isSome)=true then _ else _) _
  rw[zRw]
  by_cases xf:x∈told.flatten
  ·rw[decide_eq_true xf,ab9,if_neg (by decide),aj,if_neg (by decide),aj,aj]
   exact⟨told,rfl,are,nd,λs hs h=>((uZ hi).mp hs).elim (λq=>all s q h) λq=>q▸xf,by omega⟩
  ·rw[decide_eq_false xf,Bool.not_false,if_pos rfl,zMq rl R.nn xb.1 xb.2 xb.1,aj]
   by_cases c:rb rows x x=true
   ·have dis:∀t∈ring rows U x,t∉told.flatten:=λt ht tf=>by
     obtain⟨G,hG,tG⟩:=mem_flatten.mp tf
     obtain⟨s,sU,_,rfl⟩:=are G hG
     obtain⟨tU,t1,t2⟩:=aR.mp ht
     obtain⟨_,t3,t4⟩:=aR.mp tG
     exact xf (mem_flatten.mpr ⟨_,hG,aR.mpr ⟨xm,R.trans s sU t tU x xb.1 t3 t2,R.trans x xm t tU s (h0 s sU) t1 t4⟩⟩)
    have rn:(ring rows U x).Nodup:=hR.nodup.filter _
    have nd2:(told.flatten++ring rows U x).Nodup:=by
     rw[nodup_append]
     exact⟨nd,rn,λa ha b hb e=>dis b hb (e▸ha)⟩
    have ln:(told.flatten++ring rows U x).length<=n.toNat:=wG nd2 λy hy=>by
     have:y∈U:=(mem_append.mp hy).elim (sub y) λq=>(aR.mp q).1
     have:=hR.2 y this
     omega
    rw[c,if_pos rfl,zC,zC,aj,UL (p:=λt=>rb rows x t&&rb rows t x) (g:=λt=>t) (yP (by omega)) (λt ht=>zS1 rl R.nn xb.1 xb.2 (hR.2 t ht).1 (hR.2 t ht).2) (λt _=>rfl),aj,map_id']
    show W ((push told (ring rows U x)).bind _) _
    rw[zC,Ax]
    refine⟨yP (by omega),?_⟩
    rw[zC,zC,aj]
    refine vE (λk d=>d=dl (told.flatten++(ring rows U x).take k)) (by rw[List.take_zero,append_nil]) (λk y d hk hd=>?_) λd hd=>?_
    ·subst hd
     have hk:(ring rows U x)[k]?=some y:=hk
     have ym:=mem_of_getElem? hk
     have kl:=(abb.mp hk).1
     have yn:y∉told.flatten++(ring rows U x).take k:=λq=>by
      rcases mem_append.mp q with q|q
      ·exact dis y ym q
      ·obtain⟨j,hj,e⟩:=getElem_of_mem q
       rw[List.getElem_take] at e
       rw[length_take] at hj
       have e2:=(abb.mp hk).2
       have:=(List.nodup_iff_pairwise_ne.mp rn)
       have ne:=List.pairwise_iff_getElem.mp this j k (by omega) kl (by omega)
       exact ne (e.trans e2.symm)
     rw[zC,N5,NT yn,NZ]
     refine⟨yP ?_,?_⟩
     ·rw[length_append] at ln ⊢
      rw[length_take]
      omega
     ·rw[aj,Xa hk,append_assoc]
    ·subst hd
     rw[show(ring rows U x).take (U.filter λt=>rb rows x t&&rb rows t x).length=ring rows U x from take_length,aj,aj]
     refine⟨told++[ring rows U x],by rw[flatten_append,flatten_singleton],λG hG=>?_,by rw[flatten_append,flatten_singleton];exact nd2,λs hs h=>?_,by rw[length_append];exact aci tl⟩
     ·rcases mem_append.mp hG with q|q
      ·exact are G q
      ·exact⟨x,xm,c,mem_singleton.mp q⟩
     ·rw[flatten_append,flatten_singleton,mem_append]
      exact((uZ hi).mp hs).elim (λq=>.inl (all s q h)) λq=>.inr (by rw[q];exact aR.mpr ⟨xm,c,c⟩)
   ·have c':rb rows x x=false:=by simpa using c
    rw[c',if_neg (by decide),aj,aj]
    exact⟨told,rfl,are,nd,λs hs h=>((uZ hi).mp hs).elim (λq=>all s q h) λq=>absurd (q▸h) c,by omega⟩
 ·obtain⟨told,rfl,are,nd,all,_⟩:=hI
  rw[take_length] at all
  rw[aj]
  exact⟨rows,R,are,nd,all⟩
def yN(n:Int)(fair:List LI):Prop:=fair.length<=100/\∀F∈fair,za n F
def wC(fair:List LI)(G:LI):Bool:=fair.all λF=>G.any λx=>decide (x∈F)
theorem tR(h:za n xs)(vp:n<=60)(h0:0<=n):xs.length<=60:=by
 have:=wG (n:=n.toNat) h.1 λx hx=>by have:=h.2.2 x hx;omega
 omega
theorem zSy{C:Addr}{m:aF C}{n:Int}(g:Gr m n)(hf:yN n m.fair){i:Nat}{F:LI}(hi:m.fair[i]?=some F):W (xK m (i:Int)) λxs=>xs.length<=60/\∀x,x∈xs↔x∈F:=by
 unfold xK
 have few:=g.few
 have pos:=g.pos
 have l:=tR (hf.2 F (mem_of_getElem? hi)) few (by omega)
 rw[zC,dI (by omega)]
 refine⟨F,by rw[ab1];exact hi,?_⟩
 unfold EY
 rw[if_pos (by omega),aj]
 exact⟨by rw[(vL _).length_eq];exact l,λx=>(vL _).mem_iff⟩
theorem zOq{xs ys:LI}(h:xs.length<64\/ys.length<64)(h1:xs.length<4000)(h2:ys.length<4000):xM xs ys=some (wR (xs.filter λz=>decide (z∈ys))):=by
 unfold xM Wt
 rw[if_pos ⟨h,h1,h2⟩]
theorem zLe{xs ys:LI}(h1:xs.length<64)(h2:ys.length<4000):xM xs ys=some (wR (xs.filter λz=>decide (z∈ys))):=zOq (.inl h1) (by omega) h2
theorem pR:(wR xs).length=0↔xs=[]:=by
 rw[length_eq_zero_iff]
 constructor
 ·intro h
  cases xs with
  |nil=>rfl
  |cons x xs =>
   have:=(bN (x:=x) (ns:=x::xs)).mpr mem_cons_self
   rw[h] at this
   cases this
 ·intro h;subst h;rfl
theorem zSw{C:Addr}{m:aF C}(g:Gr m n)(hf:yN n m.fair){G:LI}(hG:G.length<64):W (uP m G) λo=>o.isNone=wC m.fair G:=by
 unfold uP
 have hl:=hf.1
 rw[zC,zC,dH]
 refine⟨⟨by omega,by omega⟩,zSl (λi _=>∀F∈m.fair.take i,(G.any λx=>decide (x∈F))=true) (λF hF=>by simp at hF) (λi x s hi hI=>?_) λs hI=>?_⟩
 ·obtain⟨rfl,hx⟩:=Y6 hi
  have il:i<m.fair.length:=by omega
  have hF:m.fair[i]?=some m.fair[i]:=aaz il
  rw[zC,zC,zC,zC,zC,zC]
  refine(zSy g hf hF).imp λys ⟨yl,ym⟩=>?_
  rw[aj,aj]
  show W (xM G ys) _
  rw[zLe hG (by omega),aj,aj,aj]
  by_cases e:G.filter (λz=>decide (z∈ys))=[]
  ·rw[decide_eq_true (show((wR (G.filter λz=>decide (z∈ys))).length:Int)=0 by have:=pR.mpr e;omega),if_pos rfl,zC,aj,aj]
   refine .inr ⟨_,rfl,?_⟩
   show W (some (some (i:Int))) _
   rw[aj]
   symm
   show wC m.fair G=false
   have:(G.any λx=>decide (x∈m.fair[i]))=false:=by
    rw[any_eq_false]
    intro x hx q
    have q:=of_decide_eq_true q
    have:x∈G.filter (λz=>decide (z∈ys)):=mem_filter.mpr ⟨hx,decide_eq_true ((ym x).mpr q)⟩
    rw[e] at this
    cases this
   unfold wC
   rw[List.all_eq_false]
   exact⟨_,getElem_mem il,by rw[this];decide⟩
  ·rw[decide_eq_false (λz=>e (pR.mp (by omega))),if_neg (by decide),aj]
   refine .inl ⟨(),rfl,λF hF'=>?_⟩
   rw[Xa hF,mem_append,mem_singleton] at hF'
   rcases hF' with q|q
   ·exact hI F q
   ·subst q
    obtain⟨x,hx⟩:=List.exists_mem_of_ne_nil _ e
    rw[mem_filter] at hx
    exact any_eq_true.mpr ⟨x,hx.1,decide_eq_true ((ym x).mp (of_decide_eq_true hx.2))⟩
 ·have e:(rng (m.fair.length:Int)).length=m.fair.length:=by have:=Cy (n:=(m.fair.length:Int)) (by omega);omega
  rw[e,take_length] at hI
  rw[Wb,aj]
  symm
  show wC m.fair G=true
  exact all_eq_true.mpr hI
theorem zTq{U:LI}(h:U.length<=k):(ring rows U s).length<=k:=aa8 (length_filter_le ..) h
structure sS(xss:List LI)(fair:List LI)(U goal:LI):Prop where
 nd:goal.Nodup
 sub:∀s∈goal,s∈U
 of:∀s∈goal,∃G:LI,sO xss U G/\s∈G/\wC fair G=true/\∀t∈G,t∈goal
 all:∀s∈U,∀G:LI,(∀t,t∈G↔t∈U/\jL xss U s t/\jL xss U t s)->jL xss U s s->wC fair G=true->s∈goal
theorem zIz(h:∀t,t∈G↔t∈G'):wC fair G=wC fair G':=by
 unfold wC
 congr 1
 funext F
 rw[abv,any_eq_true,any_eq_true]
 exact⟨λ⟨x,a,b⟩=>⟨x,(h x).mp a,b⟩,λ⟨x,a,b⟩=>⟨x,(h x).mpr a,b⟩⟩
theorem G3{C:Addr}{m:aF C}(g:Gr m n)(hf:yN n m.fair)(hx:∀x∈xs,0<=x/\x<n)(hl:xs.length<64) :
  W (wP m xs) λa=>a.length<=60/\(∀G∈a,sO m.steps (wR xs) G/\wC m.fair G=true)/\W (Nx a) λgoal=>goal=a.flatten/\sS m.steps m.fair (wR xs) goal:=by
 have few:=g.few
 have pos:=g.pos
 have hR:=(zOp hx hl).2
 have h0:∀x∈wR xs,0<=x:=λx hx=>(hR.2 x hx).1
 have Ul:(wR xs).length<=n.toNat:=wG hR.nodup λx hx=>by have:=hR.2 x hx;omega
 unfold wP
 rw[zC]
 refine(GZ g hx hl).imp λtold ⟨rows,R,T⟩=>?_
 have tl:told.length<=60/\told.flatten.length<=60:=by
  have f:told.flatten.length<=n.toNat:=wG T.nd λy hy=>by
   obtain⟨G,hG,yG⟩:=mem_flatten.mp hy
   obtain⟨s,_,_,rfl⟩:=T.are G hG
   have:=hR.2 y (aR.mp yG).1
   omega
  refine⟨?_,by omega⟩
  have ne:∀G∈told,1<=G.length:=λG hG=>by
   obtain⟨s,sU,c,rfl⟩:=T.are G hG
   exact List.length_pos_of_mem (aR.mpr ⟨sU,c,c⟩)
  have:∀l:List LI,(∀G∈l,1<=G.length)->l.length<=l.flatten.length:=λl=>by
   induction l with
   |nil=>intro _;exact abj _
   |cons G l ih =>
    intro h
    rw[flatten_cons,length_append,length_cons]
    have a:=ih λG' hG'=>h G' (mem_cons_of_mem _ hG')
    have b:=h G mem_cons_self
    omega
  have:=this told ne
  omega
 have gl:∀G∈told,G.length<64:=λG hG=>by
  obtain⟨s,_,_,rfl⟩:=T.are G hG
  have:=zTq (rows:=rows) (s:=s) Ul
  omega
 rw[UL (p:=wC m.fair) (g:=λG=>G) (yP (by omega)) (λG hG=>by
  obtain⟨o,e,q⟩:=zSw g hf (gl G hG)
  rw[e]
  exact congrArg some q) (λ_ _=>rfl),aj,map_id']
 have fl:∀l:List LI,(l.filter (wC m.fair)).flatten.Sublist l.flatten:=λl=>by
  induction l with
  |nil=>exact List.Sublist.refl _
  |cons G l ih =>
   rw[filter_cons]
   split
   ·rw[flatten_cons,flatten_cons];exact(List.Sublist.refl _).append ih
   ·rw[flatten_cons];exact ih.trans (List.sublist_append_right ..)
 have js:W (Nx (told.filter (wC m.fair))) (· = (told.filter (wC m.fair)).flatten):=by
  unfold Nx
  rw[zC,aj,zC,zC,aj]
  refine vE (λi s=>s=((told.filter (wC m.fair)).take i).flatten) (by rw[List.take_zero];rfl) (λi G s hi hI=>?_) λs hI=>?_
  ·subst hI
   unfold A_
   have e:((told.filter (wC m.fair)).take i).flatten++G=((told.filter (wC m.fair)).take (i+1)).flatten:=by rw[Xa hi,flatten_append,flatten_singleton]
   have l:(((told.filter (wC m.fair)).take i).flatten++G).length<=60:=by
    rw[e]
    have a:((told.filter (wC m.fair)).take (i+1)).flatten.Sublist (told.filter (wC m.fair)).flatten:=by
     have e2:(told.filter (wC m.fair)).flatten=((told.filter (wC m.fair)).take (i+1)).flatten++((told.filter (wC m.fair)).drop (i+1)).flatten:=by rw[<-flatten_append,take_append_drop]
     rw[e2]
     exact List.sublist_append_left ..
    have:=(a.trans (fl told)).length_le
    omega
   rw[length_append] at l
   rw[if_pos (yP (by omega)),zC,aj,aj,e]
  ·subst hI
   rw[take_length,aj]
 refine⟨aa8 (length_filter_le ..) tl.1,λG hG=>?_,js.imp λgoal e=>⟨e,?_⟩⟩
 ·obtain⟨o,oU,_,rfl⟩:=T.are G (mem_filter.mp hG).1
  exact⟨zPv R h0 hR.nodup oU,(mem_filter.mp hG).2⟩
 subst e
 refine⟨T.nd.sublist (fl told),λs hs=>?_,λs hs=>?_,λs sU G hG p q=>?_⟩
 ·obtain⟨G,hG,sG⟩:=mem_flatten.mp hs
  obtain⟨o,_,_,rfl⟩:=T.are G (mem_filter.mp hG).1
  exact(aR.mp sG).1
 ·obtain⟨G,hG,sG⟩:=mem_flatten.mp hs
  obtain⟨o,oU,_,rfl⟩:=T.are G (mem_filter.mp hG).1
  exact⟨_,zPv R h0 hR.nodup oU,sG,(mem_filter.mp hG).2,λt ht=>mem_flatten.mpr ⟨_,hG,ht⟩⟩
 ·obtain⟨G',hG',sG⟩:=mem_flatten.mp (T.all s sU (R.full h0 p sU))
  obtain⟨o,oU,oo,rfl⟩:=T.are G' hG'
  obtain⟨_,s1,s2⟩:=aR.mp sG
  refine mem_flatten.mpr ⟨_,mem_filter.mpr ⟨hG',?_⟩,sG⟩
  rw[<-q]
  refine zIz λt=>?_
  rw[hG t,aR]
  constructor
  ·rintro⟨tU,t1,t2⟩
   exact⟨tU,R.sound s sU t (h0 t tU) (R.trans s sU o oU t (h0 t tU) s2 t1),R.sound t tU s (h0 s sU) (R.trans t tU o oU s (h0 s sU) t2 s1)⟩
  ·rintro⟨tU,t1,t2⟩
   exact⟨tU,R.trans o oU s sU t (h0 t tU) s1 (R.full h0 t1 sU),R.trans t tU s sU o (h0 o oU) (R.full h0 t2 tU) s2⟩
theorem N6{C:Addr}{m:aF C}(g:Gr m n)(hf:yN n m.fair)(hx:∀x∈xs,0<=x/\x<n)(hl:xs.length<64) :
  W ((wP m xs).bind λa=>Nx a) (sS m.steps m.fair (wR xs)):=by
 rw[zC]
 exact(G3 g hf hx hl).imp λa ⟨_,_,h⟩=>h.imp λ_ q=>q.2
theorem zOu{C:Addr}{m:aF C}(g:Gr m n){goal:LI}(ht:∀x∈through,0<=x/\x<n)(hg:goal.Nodup/\∀x∈goal,0<=x/\x<n):W (xA m through goal) λR=>∃d,sJ m.steps through goal n d/\R=pick n λs=>(dg d s).isSome:=by
 unfold xA
 have few:=g.few
 have pos:=g.pos
 rw[zC]
 refine(zJv g ht hg).imp λd D=>?_
 have rl:=Cy (n:=n) (by omega)
 rw[zC,aj,zUt D.len]
 have e:uB (λx:Int×Option Int=>some x.2.isSome) (λx:Int×Option Int=>some x.1) ((rng n).map λs=>(s,dg d s))=some (pick n λs=>(dg d s).isSome):=by
  rw[UL (p:=λx:Int×Option Int=>x.2.isSome) (g:=λx:Int×Option Int=>x.1) (yP (by rw[length_map];omega)) (λ_ _=>rfl) (λ_ _=>rfl)]
  congr 1
  rw[List.filter_map,List.map_map]
  exact map_id' _
 rw[e,aj]
 exact⟨d,D,rfl⟩
structure aah(xss fair:List LI)(n:Int)(U R:LI):Prop where
 rise:aG n R
 sub:∀s∈R,s∈U
 go:∀s∈R,∃t∈nxt xss s,t∈R
 come:∀s∈R,∀F∈fair,∃x∈F,x=s\/jL xss R s x
theorem Xb(h:aG n U):wR U=U:=Im (uX U) h.1 λ_=>bN
inductive Rc(xss:List LI)(U:LI)(s:Int):Int->Prop
 |here:Rc xss U s s
 |on {t u:Int}:Rc xss U s t->u∈nxt xss t->u∈U->Rc xss U s u
theorem Rc.mem(h:Rc xss U s t)(hs:s∈U):t∈U:=by
 cases h with
 |here=>exact hs
 |on _ _ h=>exact h
theorem Rc.trans(h:Rc xss U s t)(k:Rc xss U t u):Rc xss U s u:=by
 induction k with
 |here=>exact h
 |on _ a b ih=>exact .on ih a b
theorem Rc.pth(h:Rc xss U s t):t=s\/jL xss U s t:=by
 induction h with
 |here=>exact .inl rfl
 |@on t u _ a b ih =>
  rcases ih with rfl|ih
  ·exact .inr (.one a b)
  ·exact .inr (ih.trans (.one a b))
theorem jL.rc(h:jL xss U s t):Rc xss U s t:=by
 induction h with
 |one a b=>exact .on .here a b
 |step a b _ ih=>exact(Rc.on .here a b).trans ih
theorem cls(P:Int->Prop):∃p:Int->Bool,∀x,p x=true↔P x:=⟨λx=>@decide _ (aeg (P x)),λx=>by
 constructor
 ·intro h;exact@of_decide_eq_true _ (aeg _) h
 ·intro h;exact@decide_eq_true _ (aeg _) h⟩
def Jl(xss fair:List LI)(U:LI)(b:Int):Prop:=jL xss U b b/\∀F∈fair,∃x∈F,Rc xss U b x/\Rc xss U x b
theorem G4(D:sJ xss U goal n d)(G:sS xss fair U goal)(hU:∀x∈U,0<=x/\x<n)(s:Int):s∈pick n (λs=>(dg d s).isSome)↔s∈U/\∃b∈U,Jl xss fair U b/\Rc xss U s b:=by
 have base:∀b∈U,(b∈goal↔Jl xss fair U b):=λb bU=>by
  constructor
  ·intro h
   obtain⟨R,RO,bR,met,_⟩:=G.of b h
   have up:∀{x y:Int},x∈R->y∈R->jL xss U x y:=λhx hy=>(RO.go _ hx _ hy).mono RO.sub
   refine⟨up bR bR,λF hF=>?_⟩
   obtain⟨x,xR,xF⟩:=any_eq_true.mp (all_eq_true.mp met F hF)
   exact⟨x,of_decide_eq_true xF,(up bR xR).rc,(up xR bR).rc⟩
  ·rintro⟨p,m⟩
   obtain⟨f,hf⟩:=cls λt=>jL xss U b t/\jL xss U t b
   refine G.all b bU (U.filter f) (λt=>by rw[mem_filter,hf t]) p ?_
   refine all_eq_true.mpr λF hF=>?_
   obtain⟨x,xF,r1,r2⟩:=m F hF
   have p1:jL xss U b x:=r1.pth.elim (λe=>e▸p) id
   have p2:jL xss U x b:=r2.pth.elim (λe=>by rw[<-e];exact e▸p) id
   exact any_eq_true.mpr ⟨x,mem_filter.mpr ⟨p1.mem,(hf x).mpr ⟨p1,p2⟩⟩,decide_eq_true xF⟩
 have key:∀(k:Nat)(s:Int),0<=s->s<n->dg d s=some (k:Int)->s∈U/\∃b∈goal,Rc xss U s b:=by
  intro k
  induction k with
  |zero =>
   intro s s0 s1 e
   have hg:=(D.zero s s0 s1).mp e
   exact⟨G.sub s hg,s,hg,.here⟩
  |succ k ih =>
   intro s s0 s1 e
   have ng:s∉goal:=λhg=>by
    have:=(D.zero s s0 s1).mpr hg
    rw[e] at this
    have:=aa2 this
    omega
   obtain⟨sU,t,tn,t0,t1,e2⟩:=D.via s _ s0 s1 e ng
   obtain⟨tU,b,bg,r⟩:=ih t t0 t1 (by rw[e2];congr 1;omega)
   exact⟨sU,b,bg,(Rc.on .here tn tU).trans r⟩
 have back:∀{s t:Int},Rc xss U s t->s∈U->(dg d t).isSome=true->(dg d s).isSome=true:=λh=>by
  induction h with
  |here=>exactλ_ q=>q
  |@on t u r a b ih =>
   intro sU q
   have tU:=r.mem sU
   obtain⟨k,e⟩:=abz.mp q
   obtain⟨j,ej,_⟩:=D.near t u k (hU t tU).1 (hU t tU).2 (hU u b).1 (hU u b).2 tU a e
   exact ih sU (by rw[ej];rfl)
 rw[fX]
 constructor
 ·rintro⟨s0,s1,q⟩
  obtain⟨k,e⟩:=abz.mp q
  have kp:=D.pos s k s0 s1 e
  obtain⟨sU,b,bg,r⟩:=key k.toNat s s0 s1 (by rw[e];congr 1;omega)
  exact⟨sU,b,G.sub b bg,(base b (G.sub b bg)).mp bg,r⟩
 ·rintro⟨sU,b,bU,bB,r⟩
  refine⟨(hU s sU).1,(hU s sU).2,back r sU ?_⟩
  rw[(D.zero b (hU b bU).1 (hU b bU).2).mpr ((base b bU).mpr bB)]
  rfl
theorem zJw{C:Addr}{m:aF C}(g:Gr m n)(hf:yN n m.fair)(hU:aG n U):W (CP m U) λR=>aG n R/\∀s,s∈R↔s∈U/\∃b∈U,Jl m.steps m.fair U b/\Rc m.steps U s b:=by
 unfold CP
 have few:=g.few
 have Ul:U.length<=n.toNat:=wG hU.nodup λx hx=>by have:=hU.2 x hx;omega
 have q:=N6 g hf hU.2 (by omega)
 rw[Xb hU,zC] at q
 rw[zC,zC,zC,zC,zC,zC]
 refine q.imp λa qa=>?_
 rw[aj]
 refine qa.imp λgoal G=>?_
 rw[aj,aj,aj]
 show W (xA m U goal) _
 refine(zOu g hU.2 ⟨G.nd,λx h=>hU.2 x (G.sub x h)⟩).imp λR ⟨d,D,e⟩=>?_
 subst e
 exact⟨yU n _,G4 D G hU.2⟩
theorem N7{C:Addr}{m:aF C}(g:Gr m n):yL m=some (rng n):=by
 unfold yL
 rw[W_ g]
 have:=g.pos
 have:=g.few
 show tV n=_
 unfold tV
 rw[if_pos ⟨by omega,by omega⟩]
 rfl
theorem Xc(h:n<=60)(h0:0<=n):(rng n).length<=60:=by have:=Cy (n:=n) h0;omega
theorem zSu{C:Addr}{m:aF C}(g:Gr m n){xs:LI}(hl:xs.length<4000):xB m xs=some (pick n λz=>!decide (z∈xs)):=by
 unfold xB
 rw[N7 g]
 have r:=Xc g.few (by have:=g.pos;omega)
 show Qa (rng n) xs=_
 unfold Qa
 rw[if_pos ⟨by omega,hl⟩]
 exact congrArg some (Xb (yU n _))
theorem wT(h:aG n xs)(vp:n<=60):xs.length<=60:=by
 by_cases h0:0<=n
 ·have:=wG (n:=n.toNat) h.nodup λx hx=>by have:=h.2 x hx;omega
  omega
 ·cases xs with
  |nil=>exact abj _
  |cons a l=>have:=h.2 a mem_cons_self;omega
theorem zH5{ys:LI}(hx:aG n xs)(vp:n<=60)(hy:ys.length<4000):xM xs ys=some (xs.filter λz=>decide (z∈ys)):=by
 rw[zLe (by have:=wT hx vp;omega) hy]
 exact congrArg some (Xb (n:=n) ⟨hx.1.filter _,λx h=>hx.2 x (mem_filter.mp h).1⟩)
theorem zM1{ys:LI}(hx:aG n xs)(vp:n<=60)(hy:ys.length<4000):uO xs ys=some (xs.filter λz=>!decide (z∈ys)):=by
 unfold uO Qa
 rw[if_pos ⟨by have:=wT hx vp;omega,hy⟩]
 exact congrArg some (Xb (n:=n) ⟨hx.1.filter _,λx h=>hx.2 x (mem_filter.mp h).1⟩)
def zSs(xss fair:List LI)(n:Int)(L:LI):Prop:=aG n L/\∀s,s∈L↔s∈rng n/\∃b∈rng n,Jl xss fair (rng n) b/\Rc xss (rng n) s b
theorem uE(n:Int):aG n (rng n):=⟨zVq n,λx hx=>mG.mp hx⟩
theorem zJx{C:Addr}{m:aF C}(g:Gr m n)(hf:yN n m.fair):W (Ny m) (zSs m.steps m.fair n):=by
 unfold Ny
 rw[N7 g]
 exact zJw g hf (uE n)
def into(xss:List LI)(G:LI)(s:Int):Bool:=(nxt xss s).any λt=>decide (t∈G)
theorem N8{C:Addr}{m:aF C}(g:Gr m n)(h0:0<=s)(h1:s<n){fl:List Bool}(hl:(fl.length:Int)=n)(hh:∀t:Int,0<=t->t<n->fl.getD t.toNat false=decide (t∈G)):vR m s fl=some (into m.steps G s):=by
 unfold vR
 obtain⟨xs,e,xl,xm⟩:=zLf g h0 h1
 rw[e]
 have bd:∀x∈xs,0<=x/\x<n:=λx hx=>by
  have hx':=(xm x).mp hx
  have hr:nxt m.steps s∈m.steps:=mem_of_getElem? (zQp g.len h0 h1)
  exact(g.row _ hr).2.2 x hx'
 show((uB _ _ xs).bind _)=_
 rw[UL (p:=λ_=>true) (g:=λx=>decide (x∈G)) (yP (by omega)) (λ_ _=>rfl) (λx hx=>?_)]
 ·show some _=some _
  congr 1
  rw[filter_eq_self.mpr (λ_ _=>rfl)]
  unfold into
  rw[abv,any_eq_true,any_eq_true]
  constructor
  ·rintro⟨b,hb,e⟩
   obtain⟨x,hx,rfl⟩:=mem_map.mp hb
   exact⟨x,(xm x).mp hx,e⟩
  ·rintro⟨x,hx,e⟩
   exact⟨_,mem_map.mpr ⟨x,(xm x).mpr hx,rfl⟩,e⟩
 ·obtain⟨x0,x1⟩:=bd x hx
  have q:W (cj fl x) (· = decide (x∈G)):=by
   rw[dI x0]
   refine⟨fl.getD x.toNat false,?_,hh x x0 x1⟩
   rw[getD_eq_getElem?_getD,aaz (by omega)]
   rfl
  obtain⟨a,ea,e2⟩:=q
  rw[ea,e2]
theorem zM2{C:Addr}{m:aF C}(g:Gr m n)(hG:∀x∈G,0<=x/\x<n):wX m (rng n) G=some (pick n (into m.steps G)):=by
 unfold wX
 obtain⟨fl,e,hl,hh⟩:=zOt g hG
 rw[e]
 have r:=Xc g.few (by have:=g.pos;omega)
 show uB _ _ (rng n)=_
 rw[UL (p:=into m.steps G) (g:=λx=>x) (yP (by omega)) (λx hx=>?_) (λ_ _=>rfl),map_id']
 ·rfl
 ·obtain⟨x0,x1⟩:=mG.mp hx
  exact N8 g x0 x1 hl hh
theorem aai{α:Type}{m:Option α}{a:α}(h:m=some a):W m (· = a):=⟨a,h,rfl⟩
theorem qx{α:Type}{m:Option α}{a:α}(h:W m (· = a)):m=some a:=by obtain⟨b,e,rfl⟩:=h;exact e
theorem zGc{C:Addr}{m:aF C}(g:Gr m n)(hL:aG n L)(hS:aG n S):xZ m L S=some (pick n (into m.steps (L.filter λz=>decide (z∈S)))):=by
 apply qx
 unfold xZ
 rw[zC,zC,zC,N7 g,aj,zC,zC,zH5 hL g.few (by have:=wT hS g.few;omega),aj,aj,aj,aj]
 exact aai (zM2 g λx hx=>hL.2 x (mem_filter.mp hx).1)
theorem oh{α:Type}{pre:List α}{x:α}:L2.cj (pre++[x]) (-(1:Int))=some x:=by
 unfold L2.cj tE
 rw[if_neg (by decide),if_pos (by rw[length_append,length_singleton];omega)]
 show(pre++[x])[((-(1:Int))+((pre++[x]).length:Nat)).toNat]?=some x
 have e:((-(1:Int))+((pre++[x]).length:Nat)).toNat=pre.length:=by rw[length_append,length_singleton];omega
 rw[e,getElem?_append_right (aa0 _),Nat.sub_self]
 rfl
theorem zNz(h:aG n xs):Wc xs=xs :=
 Im (vK (zD2 xs) ((vL xs).nodup_iff.mpr h.nodup)) h.1 λs=>(vL xs).mem_iff
theorem zSx{C:Addr}{m:aF C}(vp:n<=60)(hs:∀mk∈m.marks,aG n mk.2)(x:Str):W (yA m x) λS=>(∃mk∈m.marks,mk.1=x/\S=mk.2)\/((∀mk∈m.marks,mk.1≠x)/\S=[]):=by
 unfold yA
 rw[zC,zC,aj]
 refine zSl (λi _=>∀mk∈m.marks.take i,mk.1≠x) (λmk h=>by simp at h) (λi mk _ hi hI=>?_) λ_ hI=>?_
 ·have mm:=mem_of_getElem? hi
  by_cases c:mk.1=x
  ·rw[decide_eq_true c,if_pos rfl,zC]
   have r:=wT (hs mk mm) vp
   unfold EY
   rw[if_pos (by omega),aj,aj,zNz (hs mk mm)]
   refine .inr ⟨_,rfl,?_⟩
   show W (some mk.2) _
   rw[aj]
   exact .inl ⟨mk,mm,c,rfl⟩
  ·rw[decide_eq_false c,if_neg (by decide),aj]
   refine .inl ⟨(),rfl,λmk' h=>?_⟩
   rw[take_add_one,hi,mem_append] at h
   rcases h with h|h
   ·exact hI mk' h
   ·have e:mk'=mk:=by simpa using h
    rw[e];exact c
 ·rw[take_length] at hI
  rw[Wb,aj]
  exact .inr ⟨hI,rfl⟩
theorem UW(ws:LI):W (uF ws) λ_=>True:=by
 unfold uF
 rw[K6]
 refine⟨λ_=>aj.mpr trivial,λh=>?_⟩
 cases ws with
 |nil=>exact absurd rfl h
 |cons x r =>
  rw[List.getLast?_cons]
  exact⟨_,rfl,trivial⟩
theorem zOr(c:Int)(h0:0<=n)(h1:n<=60):W (uG c n) (aG n):=by
 unfold uG
 rw[zC,aj,zC,zC,dH]
 refine⟨⟨by omega,by omega⟩,?_⟩
 have rn:=Cy h0
 refine vE (λj z=>aG j z.1/\z.1.length<=j) ⟨wS,aa0 _⟩ (λj y z hj hJ=>?_) λz hJ=>?_
 ·obtain⟨rfl,hy⟩:=Y6 hj
  simp only[zC,RZ,K5,aj,K6,Ax]
  exact⟨by decide,λ_=>⟨yP (by omega),⟨by decide,by decide⟩,zIj hJ.1 (by omega) (by omega),by rw[length_append];exact aci hJ.2⟩,λ_=>⟨⟨by decide,by decide⟩,zPt hJ.1 (by omega),by omega⟩⟩
 ·rw[rn] at hJ
  rw[aj]
  exact hJ.1
theorem zJ8(h:aG n xs)(vp:n<=60)(ne:xs≠[]):Uw n xs:=⟨ne,h.nodup,wT h vp,h.2⟩
theorem G5(c k:Int)(h0:1<=n)(h1:n<=60):W (Qo c k n) (Uw n):=by
 unfold Qo
 rw[zC,aj,zC,aj,zC,zC,dH]
 refine⟨⟨by omega,by omega⟩,?_⟩
 have rn:=Cy (n:=n) (by omega)
 refine vE (λj z=>aG j z.1/\z.1.length<=j) ⟨wS,aa0 _⟩ (λj y z hj hJ=>?_) λz hJ=>?_
 ·obtain⟨rfl,hy⟩:=Y6 hj
  simp only[zC,RZ,K5,aj,K6,Ax]
  exact⟨by decide,λ_=>⟨yP (by omega),⟨by decide,by decide⟩,zIj hJ.1 (by omega) (by omega),by rw[length_append];exact aci hJ.2⟩,λ_=>⟨⟨by decide,by decide⟩,zPt hJ.1 (by omega),by omega⟩⟩
 ·rw[rn] at hJ
  rw[zC]
  by_cases e:z.1=[]
  ·rw[if_pos (decide_eq_true e),zC,zC,K5]
   refine⟨by omega,?_⟩
   have z0:=ac6 (c+k) (show n≠0 by omega)
   have z1:=acs (c+k) (show 0<n by omega)
   rw[e,Ax]
   refine⟨yP (by simp),?_⟩
   rw[aj,aj]
   refine⟨by simp,by simp,by simp,λy hy=>?_⟩
   have:y=(c+k)%n:=by simpa using hy
   rw[this]
   exact⟨z0,z1⟩
  ·rw[if_neg (by rw[decide_eq_false e];decide),aj,aj]
   exact zJ8 hJ.1 h1 e
section
variable{α β:Type}{f:LI->α->Option (β×LI)}{R:β->Prop}
theorem zWk:∀(xs:List α)(ws:LI),(∀ws,∀x∈xs,W (f ws x) λr=>R r.1)->W (lX f ws xs) λr=>r.1.length=xs.length/\∀y∈r.1,R y
 |[],ws,_=>aj.mpr ⟨rfl,λy h=>by cases h⟩
 |x::xs,ws,h=>by
  unfold lX
  rw[zC]
  refine(h ws x mem_cons_self).imp λr hr=>?_
  rw[zC]
  refine(zWk xs r.2 λw y hy=>h w y (mem_cons_of_mem _ hy)).imp λq hq=>?_
  rw[aj]
  refine⟨by rw[length_cons,length_cons,hq.1],λy hy=>?_⟩
  rcases mem_cons.mp hy with rfl|hy
  ·exact hr
  ·exact hq.2 y hy
theorem zSn{xs:List α}(hl:xs.length<cap)(h:∀ws,∀x∈xs,W (f ws x) λr=>R r.1):W (Mi f ws xs) λr=>r.1.length=xs.length/\∀y∈r.1,R y:=by
 unfold Mi
 rw[if_pos hl]
 exact zWk xs ws h
end
structure N_(n:Int)(T:IK (List LI) (List (Str×LI)) (List LI)):Prop where
 pos:1<=n
 few:n<=60
 len:(T.a.length:Int)=n
 row:∀xs∈T.a,Uw n xs
 marks:∃A B D,T.b=[(("p":Str),A),(("wet":Str),B),(("darkness":Str),D)]/\aG n A/\aG n B/\aG n D
 fair:yN n T.c
 aav:T.c.length<=4
theorem G6(h0:1<=n)(h1:n<=60)(s:List (Str×LI))(ws:LI)(x:Str)(hs:s.length<=100):W (((((uF ws).bind λr23=>(uG r23.1 n).bind λNz=>some (Nz,r23.2)).bind λr25=>some ((x,r25.1),r25.2)).bind λr26=>(push s r26.1).bind λy27=>some (y27,r26.2)).bind λeV=>some (eV.1,eV.2)) λz=>∃A,z.1=s++[(x,A)]/\aG n A:=by
 rw[zC,zC,zC,zC]
 refine(UW ws).imp λr _=>?_
 rw[zC]
 refine(zOr r.1 (by omega) h1).imp λA hA=>?_
 rw[aj,aj,zC,Ax]
 refine⟨yP (by omega),?_⟩
 rw[aj,aj]
 exact⟨A,rfl,hA⟩
theorem G7(ws:LI):W (Uv ws) λv=>∃n,N_ n v.1:=by
 unfold Uv
 rw[zC]
 refine(UW ws).imp λc _=>?_
 have hn:∀Q:Int->Prop,(∀n,1<=n->n<=60->Q n)->W ((((kJ c.1 (8:Int)).bind λa3=>gR a3 (7:Int)).bind λb4=>some ((1:Int)+b4))) λnY=>W (((gR c.1 (8:Int)).bind λa5=>some (decide (a5=(1:Int)))).bind λb=>if b=true then(((kJ c.1 (8:Int)).bind λa9=>gR a9 (5:Int)).bind λb10=>some ((8:Int)+b10)).bind λrA=>some rA else some nY) Q:=λQ h=>by
  simp only[zC,K5,RZ,aj,K6]
  exact⟨⟨by decide,by decide⟩,by decide,by decide,λ_=>⟨⟨by decide,by decide⟩,by decide,h _ (by omega) (by omega)⟩,λ_=>h _ (by omega) (by omega)⟩
 rw[zC]
 refine(hn _ λn n1 rG=>?_).imp λnY h=>by rw[zC];exact h
 have rl:=Xc rG (by omega)
 have rn:=Cy (n:=n) (by omega)
 rw[zC,zC,dH]
 refine⟨⟨by omega,by omega⟩,?_⟩
 refine(zSn (R:=Uw n) (yP (by omega)) λw x _=>?_).imp λsteps hst=>?_
 ·rw[zC]
  refine(UW w).imp λr _=>?_
  rw[zC]
  refine(G5 r.1 x n1 rG).imp λb hb=>?_
  rw[aj]
  exact hb
 rw[zC,aj,zC,zC,aj]
 refine vE (λi z=>z.1.length=i/\∃A B D,aG n A/\aG n B/\aG n D/\z.1=([(("p":Str),A),("wet",B),("darkness",D)]:List (Str×LI)).take i) ⟨rfl,[],[],[],wS,wS,wS,rfl⟩ (λi x z hi hI=>?_) λz hI=>?_
 ·obtain⟨l,A,B,D,a,b,d,e⟩:=hI
  have i3:i<3:=by
   have:=(abb.mp hi).1
   simpa using this
  refine(G6 n1 rG z.1 z.2 x (by omega)).imp λz' ⟨E,e1,e2⟩=>⟨by rw[e1,length_append,l];rfl,?_⟩
  rw[e1,e]
  match i,hi,i3 with
  |0,hi,_ =>
   have hx:x = "p":=by simpa using hi.symm
   subst hx
   exact⟨E,B,D,e2,b,d,rfl⟩
  |1,hi,_ =>
   have hx:x = "wet":=by simpa using hi.symm
   subst hx
   exact⟨A,E,D,a,e2,d,rfl⟩
  |2,hi,_ =>
   have hx:x = "darkness":=by simpa using hi.symm
   subst hx
   exact⟨A,B,E,a,b,e2,rfl⟩
 ·obtain⟨l,A,B,D,a,b,d,e⟩:=hI
  have e:z.1=[(("p":Str),A),("wet",B),("darkness",D)]:=e
  rw[zC,zC,zC,zC,RZ]
  refine⟨⟨by decide,by decide⟩,?_⟩
  rw[K5]
  refine⟨by decide,?_⟩
  have q4:0<=c.1/60%4/\c.1/60%4<4:=by omega
  have r4:=Cy q4.1
  rw[dH]
  refine⟨⟨by omega,by omega⟩,?_⟩
  refine(zSn (R:=aG n) (yP (by omega)) λw x _=>?_).imp λfair hfa=>?_
  ·rw[zC]
   refine(UW w).imp λr _=>?_
   rw[zC]
   refine(zOr r.1 (by omega) rG).imp λF hF=>?_
   rw[aj]
   exact hF
  rw[aj]
  exact⟨n,n1,rG,by show(steps.1.length:Int)=n;rw[hst.1];exact rn,hst.2,⟨A,B,D,e,a,b,d⟩,⟨by show fair.1.length<=100;omega,λF hF=>UG (hfa.2 F hF) rG⟩,by show fair.1.length<=4;omega⟩
theorem yB{α:Type}[Decidable c]{a b:Option α}{Q:α->Prop}(h:¬c)(q:W b Q):W (if c then a else b) Q:=by rw[if_neg h];exact q
theorem CT{α:Type}[Decidable c]{a b:Option α}{Q:α->Prop}(h:c)(q:W a Q):W (if c then a else b) Q:=by rw[if_pos h];exact q
inductive wj(xss:List LI)(U G:LI):Int->Prop
 |here {s:Int}:s∈G->wj xss U G s
 |on {s t:Int}:s∈U->t∈nxt xss s->wj xss U G t->wj xss U G s
section
variable{C:Addr}{cl:Hd->Addr}{m:aF C}{n:Int}
theorem xX(hL:aG n L)(p:Int->Bool):aG n (L.filter p):=⟨hL.1.filter p,λx hx=>hL.2 x (mem_filter.mp hx).1⟩
def nt(n:Int)(S:LI):LI:=pick n λz=>!decide (z∈S)
def tg(n:Int)(A B:LI):LI:=pick n λz=>decide (z∈A)||decide (z∈B)
def sn(m:aF C)(n:Int)(L S:LI):LI:=pick n (into m.steps (L.filter λz=>decide (z∈S)))
def cm(m:aF C)(U G:LI):LI:=(xA m U G).getD []
def co(m:aF C)(U:LI):LI:=(CP m U).getD []
def st(m:aF C)(L A B:LI):LI:=cm m A (L.filter λz=>decide (z∈B))
def Oa(n:Int)(L A B:LI):LI:=(L.filter λz=>decide (z∈nt n B)).filter λz=>!decide (z∈A)
def et(m:aF C)(n:Int)(L A B:LI):LI:=nt n (tg n (cm m (nt n B) (Oa n L A B)) (co m (nt n B)))
theorem Ob(g:Gr m n)(hU:aG n U)(hG:aG n G):xA m U G=some (cm m U G)/\aG n (cm m U G)/\∀s,s∈cm m U G↔0<=s/\s<n/\wj m.steps U G s:=by
 obtain⟨R,e,d,D,rfl⟩:=zOu g hU.2 ⟨hG.nodup,hG.2⟩
 have ec:cm m U G=pick n λs=>(dg d s).isSome:=by
  unfold cm
  rw[e]
  rfl
 refine⟨by rw[e,ec],by rw[ec];exact yU n _,λs=>?_⟩
 rw[ec,fX]
 have key:∀(k:Nat)(s:Int),0<=s->s<n->dg d s=some (k:Int)->wj m.steps U G s:=by
  intro k
  induction k with
  |zero=>exactλs s0 s1 e=>.here ((D.zero s s0 s1).mp e)
  |succ k ih =>
   intro s s0 s1 e
   by_cases sg:s∈G
   ·exact .here sg
   ·obtain⟨sU,t,tn,t0,t1,e2⟩:=D.via s _ s0 s1 e sg
    exact .on sU tn (ih t t0 t1 (by rw[e2];exact congrArg some (by omega)))
 constructor
 ·rintro⟨s0,s1,q⟩
  obtain⟨k,e⟩:=abz.mp q
  have kp:=D.pos s k s0 s1 e
  exact⟨s0,s1,key k.toNat s s0 s1 (by rw[e];exact congrArg some (by omega))⟩
 ·rintro⟨s0,s1,h⟩
  refine⟨s0,s1,?_⟩
  induction h with
  |here h=>rw[(D.zero _ s0 s1).mpr h];rfl
  |@on s t sU tn _ ih =>
   obtain⟨t0,t1⟩:=zVz g s0 s1 t tn
   obtain⟨k,e⟩:=abz.mp (ih t0 t1)
   obtain⟨j,ej,_⟩:=D.near s t k s0 s1 t0 t1 sU tn e
   rw[ej];rfl
theorem U0(g:Gr m n)(hf:yN n m.fair)(hU:aG n U):CP m U=some (co m U)/\aG n (co m U):=by
 obtain⟨R,e,h,_⟩:=zJw g hf hU
 have ec:co m U=R:=by
  unfold co
  rw[e]
  rfl
 rw[ec]
 exact⟨e,h⟩
theorem Jm(g:Gr m n)(hS:aG n S):xB m S=some (nt n S):=zSu g (by have:=wT hS g.few;omega)
theorem CV(S:LI):aG n (nt n S):=yU n _
theorem Jo(g:Gr m n)(hA:aG n A)(hB:aG n B):vH A B=some (tg n A B):=by
 have la:=wT hA g.few
 have lb:=wT hB g.few
 have e:wR (A++B)=tg n A B:=Im (uX _) (yU n _).1 λs=>by
  rw[bN,mem_append]
  unfold tg
  rw[fX,acd,decide_eq_true_iff,decide_eq_true_iff]
  exact⟨λh=>h.elim (λa=>⟨(hA.2 s a).1,(hA.2 s a).2,.inl a⟩) λb=>⟨(hB.2 s b).1,(hB.2 s b).2,.inr b⟩,λh=>h.2.2⟩
 have lt:=wT (yU n λz=>decide (z∈A)||decide (z∈B)) g.few
 unfold vH FQ
 rw[e,if_pos ⟨by omega,by omega,by unfold tg;omega⟩]
theorem BW(g:Gr m n)(hA:aG n A)(hB:aG n B):xM A B=some (A.filter λz=>decide (z∈B)):=zH5 hA g.few (by have:=wT hB g.few;omega)
theorem Qs(g:Gr m n)(hL:aG n L)(hA:aG n A)(hB:aG n B):xD m L A B=some (st m L A B)/\aG n (st m L A B):=by
 have q:=Ob g hA (xX hL λz=>decide (z∈B))
 refine⟨qx ?_,q.2.1⟩
 unfold xD
 rw[zC,zC,zC,zC,BW g hL hB,aj,aj,aj,aj]
 show W (xA m A _) _
 rw[q.1]
 exact aj.mpr rfl
theorem Jp(g:Gr m n)(hf:yN n m.fair)(hL:aG n L)(hA:aG n A)(hB:aG n B):wA m L A B=some (et m n L A B):=by
 apply qx
 have rS:aG n (Oa n L A B):=xX (xX hL _) _
 have qc:=Ob g (CV (n:=n) B) rS
 have qo:=U0 g hf (CV (n:=n) B)
 have lA:=wT hA g.few
 have es:Ut m L A B=some (Oa n L A B):=by
  apply qx
  unfold Ut
  rw[zC,zC,zC,zC,zC,Jm g hB,aj,aj,aj]
  show W (xM L (nt n B)) _
  rw[BW g hL (CV B),aj,aj]
  show W (uO _ A) _
  rw[zM1 (xX hL _) g.few (by omega),aj]
  rfl
 unfold wA
 rw[zC,Jm g hB,aj,zC,zC,zC,zC,zC,es,aj,aj,aj,aj]
 show W (xA m (nt n B) (Oa n L A B)) _
 rw[qc.1,aj,zC,zC,zC,zC,zC,zC,qo.1,aj,aj,aj]
 dsimp only
 rw[Jo g qc.2.1 qo.2,aj,aj,aj]
 dsimp only
 rw[Jm g (S:=tg n (cm m (nt n B) (Oa n L A B)) (co m (nt n B))) (yU n _)]
 exact aj.mpr rfl
def one(m:aF C)(n:Int)(L:LI)(i:Fin 7)(S:LI):LI :=
 if i=0 then nt n S else if i=1 then sn m n L S else if i=2 then nt n (sn m n L (nt n S)) else if i=3 then co m S else if i=4 then nt n (st m L (rng n) (nt n S)) else if i=5 then st m L (rng n) S else et m n L (rng n) S
def two(m:aF C)(n:Int)(L:LI)(i:Fin 4)(A B:LI):LI :=
 if i=0 then A.filter (λz=>decide (z∈B)) else if i=1 then tg n A B else if i=2 then st m L A B else et m n L A B
def vv(m:aF C)(n:Int)(L:LI):Tr->LI
 |.all=>rng n
 |.mark x=>(yA m x).getD []
 |.one i t=>one m n L i (vv m n L t)
 |.two i l r=>two m n L i (vv m n L l) (vv m n L r)
theorem f7:∀i:Fin 7,i=0\/i=1\/i=2\/i=3\/i=4\/i=5\/i=6:=by decide
theorem f4:∀i:Fin 4,i=0\/i=1\/i=2\/i=3:=by decide
theorem Jq(g:Gr m n)(hs:∀mk∈m.marks,aG n mk.2)(x:Str):yA m x=some ((yA m x).getD [])/\aG n ((yA m x).getD []):=by
 obtain⟨S,e,h⟩:=zSx g.few hs x
 rw[e]
 refine⟨rfl,?_⟩
 rcases h with⟨mk,h1,_,rfl⟩|⟨_,rfl⟩
 ·exact hs mk h1
 ·exact wS
theorem zTp(g:Gr m n)(hf:yN n m.fair)(hL:aG n L)(hS:aG n S)(i:Fin 7):aG n (one m n L i S):=by
 have rr:=uE n
 rcases f7 i with rfl|rfl|rfl|rfl|rfl|rfl|rfl
 ·exact yU n _
 ·exact yU n _
 ·exact yU n _
 ·exact(U0 g hf hS).2
 ·exact yU n _
 ·exact(Qs g hL rr hS).2
 ·exact yU n _
theorem zTo(g:Gr m n)(hL:aG n L)(hA:aG n A)(hB:aG n B)(i:Fin 4):aG n (two m n L i A B):=by
 rcases f4 i with rfl|rfl|rfl|rfl
 ·exact xX hA _
 ·exact yU n _
 ·exact(Qs g hL hA hB).2
 ·exact yU n _
theorem uL(g:Gr m n)(hf:yN n m.fair)(hs:∀mk∈m.marks,aG n mk.2)(hL:aG n L):∀t:Tr,aG n (vv m n L t)
 |.all=>uE n
 |.mark x=>(Jq g hs x).2
 |.one i t=>zTp g hf hL (uL g hf hs hL t) i
 |.two i l r=>zTo g hL (uL g hf hs hL l) (uL g hf hs hL r) i
theorem Oc(g:Gr m n)(hf:yN n m.fair)(hL:aG n L)(hS:aG n S)(i:Fin 7)(t:Tr):wJ m L (eE.mk (cl:=cl) (.one i t)) [S]=some (one m n L i S):=by
 have rr:=uE n
 apply qx
 unfold wJ
 rcases f7 i with rfl|rfl|rfl|rfl|rfl|rfl|rfl
 ·refine(yB aay (yB aay (CT (by show decide ((0:Fin 7)=0)=true;decide) ?_)))
  rw[zC,zC,zC,dI (by decide)]
  refine⟨S,rfl,?_⟩
  rw[aj,aj]
  show W (xB m S) _
  rw[Jm g hS]
  exact aj.mpr rfl
 ·refine(yB aay (yB aay (yB (by show¬decide ((1:Fin 7)=0)=true;decide) (yB aay (yB aay ?_)))))
  unfold zS
  refine(CT (by show decide ((1:Fin 7)=1)=true;decide) ?_)
  rw[zC,zC,zC,zC,dI (by decide)]
  refine⟨S,rfl,?_⟩
  rw[aj,aj,aj]
  show W (xZ m L S) _
  rw[zGc g hL hS]
  exact aj.mpr rfl
 ·refine(yB aay (yB aay (yB (by show¬decide ((2:Fin 7)=0)=true;decide) (yB aay (yB aay ?_)))))
  unfold zS
  refine(yB (by show¬decide ((2:Fin 7)=1)=true;decide) (CT (by show decide ((2:Fin 7)=2)=true;decide) ?_))
  rw[zC,zC,zC,zC,zC,zC,zC,zC,zC,zC,dI (by decide)]
  refine⟨S,rfl,?_⟩
  rw[aj,aj]
  show W (xB m S) _
  rw[Jm g hS,aj,aj,aj,aj]
  show W (xZ m L (nt n S)) _
  rw[zGc g hL (CV S),aj,aj,aj]
  show W (xB m (sn m n L (nt n S))) _
  rw[Jm g (S:=sn m n L (nt n S)) (yU n _)]
  exact aj.mpr rfl
 ·refine(yB aay (yB aay (yB (by show¬decide ((3:Fin 7)=0)=true;decide) (yB aay (yB aay ?_)))))
  unfold zS
  refine(yB (by show¬decide ((3:Fin 7)=1)=true;decide) (yB (by show¬decide ((3:Fin 7)=2)=true;decide) (yB aay (yB aay (CT (by show decide ((3:Fin 7)=3)=true;decide) ?_)))))
  rw[zC,zC,zC,dI (by decide)]
  refine⟨S,rfl,?_⟩
  rw[aj,aj]
  show W (CP m S) _
  rw[(U0 g hf hS).1]
  exact aj.mpr rfl
 ·refine(yB aay (yB aay (yB (by show¬decide ((4:Fin 7)=0)=true;decide) (yB aay (yB aay ?_)))))
  unfold zS
  refine(yB (by show¬decide ((4:Fin 7)=1)=true;decide) (yB (by show¬decide ((4:Fin 7)=2)=true;decide) (yB aay (yB aay (yB (by show¬decide ((4:Fin 7)=3)=true;decide) (CT (by show decide ((4:Fin 7)=4)=true;decide) ?_))))))
  rw[zC,zC,zC,zC,zC,zC,zC,N7 g,aj]
  rw[zC,zC,zC,zC,zC,dI (by decide)]
  refine⟨S,rfl,?_⟩
  rw[aj,aj]
  show W (xB m S) _
  rw[Jm g hS,aj,aj,aj,aj,aj]
  show W (xD m L (rng n) (nt n S)) _
  rw[(Qs g hL rr (CV S)).1,aj,aj,aj]
  dsimp only
  rw[Jm g (Qs g hL rr (CV S)).2]
  exact aj.mpr rfl
 ·refine(yB aay (yB aay (yB (by show¬decide ((5:Fin 7)=0)=true;decide) (yB aay (yB aay ?_)))))
  unfold zS
  refine(yB (by show¬decide ((5:Fin 7)=1)=true;decide) (yB (by show¬decide ((5:Fin 7)=2)=true;decide) (yB aay (yB aay (yB (by show¬decide ((5:Fin 7)=3)=true;decide) (yB (by show¬decide ((5:Fin 7)=4)=true;decide) (CT (by show decide ((5:Fin 7)=5)=true;decide) ?_)))))))
  rw[zC,zC,zC,zC,N7 g,aj]
  rw[zC,zC,dI (by decide)]
  refine⟨S,rfl,?_⟩
  rw[aj,aj,aj,aj]
  show W (xD m L (rng n) S) _
  rw[(Qs g hL rr hS).1]
  exact aj.mpr rfl
 ·refine(yB aay (yB aay (yB (by show¬decide ((6:Fin 7)=0)=true;decide) (yB aay (yB aay ?_)))))
  unfold zS
  refine(yB (by show¬decide ((6:Fin 7)=1)=true;decide) (yB (by show¬decide ((6:Fin 7)=2)=true;decide) (yB aay (yB aay (yB (by show¬decide ((6:Fin 7)=3)=true;decide) (yB (by show¬decide ((6:Fin 7)=4)=true;decide) (yB (by show¬decide ((6:Fin 7)=5)=true;decide) ?_)))))))
  rw[zC,zC,zC,zC,N7 g,aj]
  rw[zC,zC,dI (by decide)]
  refine⟨S,rfl,?_⟩
  rw[aj,aj,aj,aj]
  show W (wA m L (rng n) S) _
  rw[Jp g hf hL rr hS]
  exact aj.mpr rfl
theorem Od(g:Gr m n)(hf:yN n m.fair)(hL:aG n L)(hA:aG n A)(hB:aG n B)(i:Fin 4)(l r:Tr):wJ m L (eE.mk (cl:=cl) (.two i l r)) [A,B]=some (two m n L i A B):=by
 apply qx
 unfold wJ
 rcases f4 i with rfl|rfl|rfl|rfl
 ·refine(yB aay (yB aay (yB aay (CT (by show decide ((0:Fin 4)=0)=true;decide) ?_))))
  rw[zC,zC,dI (by decide)]
  refine⟨A,rfl,?_⟩
  rw[zC,zC,dI (by decide)]
  refine⟨B,rfl,?_⟩
  rw[aj,aj]
  show W (xM A B) _
  rw[BW g hA hB]
  exact aj.mpr rfl
 ·refine(yB aay (yB aay (yB aay (yB (by show¬decide ((1:Fin 4)=0)=true;decide) (CT (by show decide ((1:Fin 4)=1)=true;decide) ?_)))))
  rw[zC,zC,dI (by decide)]
  refine⟨A,rfl,?_⟩
  rw[zC,zC,dI (by decide)]
  refine⟨B,rfl,?_⟩
  rw[aj,aj]
  show W (vH A B) _
  rw[Jo g hA hB]
  exact aj.mpr rfl
 ·refine(yB aay (yB aay (yB aay (yB (by show¬decide ((2:Fin 4)=0)=true;decide) (yB (by show¬decide ((2:Fin 4)=1)=true;decide) ?_)))))
  unfold zS
  refine(yB aay (yB aay (CT (by show decide ((2:Fin 4)=2)=true;decide) ?_)))
  rw[zC,zC,zC,zC,dI (by decide)]
  refine⟨A,rfl,?_⟩
  rw[zC,zC,dI (by decide)]
  refine⟨B,rfl,?_⟩
  rw[aj,aj,aj,aj]
  show W (xD m L A B) _
  rw[(Qs g hL hA hB).1]
  exact aj.mpr rfl
 ·refine(yB aay (yB aay (yB aay (yB (by show¬decide ((3:Fin 4)=0)=true;decide) (yB (by show¬decide ((3:Fin 4)=1)=true;decide) ?_)))))
  unfold zS
  refine(yB aay (yB aay (yB (by show¬decide ((3:Fin 4)=2)=true;decide) (CT (by show decide ((3:Fin 4)=3)=true;decide) ?_))))
  rw[zC,zC,zC,zC,dI (by decide)]
  refine⟨A,rfl,?_⟩
  rw[zC,zC,dI (by decide)]
  refine⟨B,rfl,?_⟩
  rw[aj,aj,aj,aj]
  show W (wA m L A B) _
  rw[Jp g hf hL hA hB]
  exact aj.mpr rfl
theorem Jr(g:Gr m n)(hf:yN n m.fair)(hs:∀mk∈m.marks,aG n mk.2)(hL:aG n L)(t:Tr):wJ m L (eE.mk (cl:=cl) t) ((fQ t).map (vv m n L))=some (vv m n L t):=by
 cases t with
 |all =>
  show yL m=_
  exact N7 g
 |mark x =>
  show yA m x=_
  exact(Jq g hs x).1
 |one i t=>exact Oc g hf hL (uL g hf hs hL t) i t
 |two i l r=>exact Od g hf hL (uL g hf hs hL l) (uL g hf hs hL r) i l r
theorem w_tab(g:Gr m n)(hf:yN n m.fair)(hs:∀mk∈m.marks,aG n mk.2)(hL:aG n L):∀(k:Nat)(t:Tr),t.depth<k->k<=9->W (yQ k m L (eE.mk (cl:=cl) t)) λT=>∃pre,T=pre++[vv m n L t]/\T.length<2^k
 |0,t,h,_=>absurd h (acr _)
 |k+1,t,h,h9=>by
  show W (xL (yQ k) m L _) _
  unfold xL
  rw[zC,aj,zC,aj,zC,zC,aj]
  show W (wD _ ((fQ t).map eE.mk) _) _
  have p9:2^k<=2^8:=acy (by decide) (by omega)
  have p9':2^k<=256:=p9
  have p1:1<=2^k:=Nat.one_le_two_pow
  have l2:(fQ t).length<=2:=by cases t<;>simp[fQ]
  refine vE (λi z=>z.1.length<=i*(2^k-1)/\z.2=((fQ t).take i).map (vv m n L)) ⟨abj _,rfl⟩ (λi x z hi hz=>?_) λz hz=>?_
  ·obtain⟨z1,z2⟩:=hz
   rw[getElem?_map] at hi
   obtain⟨u,hu,rfl⟩:=ael.mp hi
   have il:i<2:=by
    have:=(abb.mp hu).1
    omega
   have du:=ZM (mem_of_getElem? hu)
   have im:i*(2^k-1)<=1*255:=Nat.mul_le_mul (by omega) (by omega)
   rw[zC,zC]
   refine(w_tab g hf hs hL k u (by omega) (by omega)).imp λT ⟨pre,e,hl⟩=>?_
   subst e
   unfold vg
   rw[if_pos (yP (by omega)),aj,zC,zC]
   show W (L2.cj (z.1++(pre++[vv m n L u])) (-(1:Int))) _
   rw[<-append_assoc,oh,aj,z2,Ax]
   refine⟨yP (by rw[length_map,length_take];omega),?_⟩
   rw[aj]
   refine⟨?_,?_⟩
   ·show((z.1++pre)++[vv m n L u]).length<=(i+1)*(2^k-1)
    rw[append_assoc,length_append,Nat.succ_mul]
    omega
   ·show((fQ t).take i).map (vv m n L)++[vv m n L u]=_
    rw[take_add_one,hu,map_append]
    rfl
  ·obtain⟨told,sets⟩:=z
   obtain⟨z1,z2⟩:=hz
   rw[length_map] at z1 z2
   rw[take_length] at z2
   have z2:sets=(fQ t).map (vv m n L):=z2
   have z1:told.length<=(fQ t).length*(2^k-1):=z1
   have zm:(fQ t).length*(2^k-1)<=2*(2^k-1):=Nat.mul_le_mul_right _ l2
   subst z2
   rw[zC,zC]
   show W (wJ m L (eE.mk (cl:=cl) t) ((fQ t).map (vv m n L))) _
   rw[Jr g hf hs hL t,aj,Ax]
   refine⟨yP (by show told.length<=1000;omega),?_⟩
   rw[aj]
   refine⟨told,rfl,?_⟩
   show(told++[_]).length<2^(k+1)
   rw[length_append,afc]
   show told.length+1<_
   omega
theorem zVa(g:Gr m n)(hf:yN n m.fair)(hs:∀mk∈m.marks,aG n mk.2)(hL:aG n L)(eL:Ny m=some L){t:Tr}(hd:t.depth<9):Jg m (eE.mk (cl:=cl) t)=some (vv m n L t):=by
 apply qx
 unfold Jg NK
 rw[zC,zC,zC,zC,eL,aj,aj,aj]
 show W (yQ 9 m L (eE.mk t)) _
 refine(w_tab g hf hs hL 9 t hd (by decide)).imp λT ⟨pre,e,_⟩=>?_
 subst e
 rw[oh,aj]
end
theorem U3(xs:LI):(oV xs none (some (60:Int))).length<=60:=by
 unfold oV
 rw[length_take,show(60:Int)=((60:Nat):Int) from rfl,HT.Dz]
 omega
theorem ou:uQ "p" = some true/\uQ "wet" = some true/\uQ "darkness" = some true:=by decide +kernel
theorem Oe(h0:0<=n)(vp:n<=60):uM n=some (rng n):=qx (dH.mpr ⟨⟨by omega,by omega⟩,rfl⟩)
section
variable{C:Addr}{cl:Hd->Addr}{m:aF C}{n:Int}{L:LI}
theorem zPu(h:aG n X):pick n (λz=>decide (z∈X))=X:=(GJ h λs _ _=>by rw[decide_eq_true_iff]).symm
theorem Og(h:aG n X):tg n [] X=X:=by
 have e:(λz=>decide (z∈([]:LI))||decide (z∈X))=λz=>decide (z∈X):=by
  funext z
  simp
 unfold tg
 rw[e]
 exact zPu h
theorem zS4:¬wj xss U [] s:=λh=>by
 induction h with
 |here h=>cases h
 |on _ _ _ ih=>exact ih
theorem zWb(g:Gr m n)(hU:aG n U):cm m U []=[] :=
 eq_nil_iff_forall_not_mem.mpr λs h=>zS4 (((Ob g hU wS).2.2 s).mp h).2.2
theorem zOy(i:Fin 7)(t:Tr):vv m n L (.one i t)=one m n L i (vv m n L t):=by rw[vv]
theorem zOx(i:Fin 4)(l r:Tr):vv m n L (.two i l r)=two m n L i (vv m n L l) (vv m n L r):=by rw[vv]
theorem zVe:vv m n L .all=rng n:=by rw[vv]
theorem on0(S:LI):one m n L 0 S=nt n S:=by unfold one;rw[if_pos rfl]
theorem on1(S:LI):one m n L 1 S=sn m n L S:=by unfold one;rw[if_neg (by decide),if_pos rfl]
theorem on2(S:LI):one m n L 2 S=nt n (sn m n L (nt n S)):=by unfold one;rw[if_neg (by decide),if_neg (by decide),if_pos rfl]
theorem on3(S:LI):one m n L 3 S=co m S:=by unfold one;rw[if_neg (by decide),if_neg (by decide),if_neg (by decide),if_pos rfl]
theorem on4(S:LI):one m n L 4 S=nt n (st m L (rng n) (nt n S)):=by unfold one;rw[if_neg (by decide),if_neg (by decide),if_neg (by decide),if_neg (by decide),if_pos rfl]
theorem on5(S:LI):one m n L 5 S=st m L (rng n) S:=by unfold one;rw[if_neg (by decide),if_neg (by decide),if_neg (by decide),if_neg (by decide),if_neg (by decide),if_pos rfl]
theorem on6(S:LI):one m n L 6 S=et m n L (rng n) S:=by unfold one;rw[if_neg (by decide),if_neg (by decide),if_neg (by decide),if_neg (by decide),if_neg (by decide),if_neg (by decide)]
theorem tw0(A B:LI):two m n L 0 A B=A.filter (λz=>decide (z∈B)):=by unfold two;rw[if_pos rfl]
theorem tw1(A B:LI):two m n L 1 A B=tg n A B:=by unfold two;rw[if_neg (by decide),if_pos rfl]
theorem tw2(A B:LI):two m n L 2 A B=st m L A B:=by unfold two;rw[if_neg (by decide),if_neg (by decide),if_pos rfl]
theorem tw3(A B:LI):two m n L 3 A B=et m n L A B:=by unfold two;rw[if_neg (by decide),if_neg (by decide),if_neg (by decide)]
end
section
variable{C:Addr}{cl:Hd->Addr}{m m':aF C}{n:Int}{L:LI}
theorem zR6(g:Gr m n)(hf:yN n m.fair)(hU:aG n U)(s:Int):s∈co m U↔s∈U/\∃b∈U,Jl m.steps m.fair U b/\Rc m.steps U s b:=by
 obtain⟨R,e,_,h⟩:=zJw g hf hU
 have ec:co m U=R:=by
  unfold co
  rw[e]
  rfl
 rw[ec]
 exact h s
def CW(xss F F':List LI)(n:Int):Prop:=∀U b,aG n U->b∈U->(Jl xss F U b↔Jl xss F' U b)
theorem zRf(h1:∀f'∈F',(∃f∈F,∀x∈f,x∈f')\/∀x,0<=x->x<n->x∈f')(h2:∀f∈F,∃f'∈F',∀x∈f',x∈f):CW xss F F' n:=λU b hU bU=>by
 constructor
 ·rintro⟨p,h⟩
  refine⟨p,λf' hf'=>?_⟩
  rcases h1 f' hf' with⟨f,ff,hx⟩|hx
  ·obtain⟨x,xf,r1,r2⟩:=h f ff
   exact⟨x,hx x xf,r1,r2⟩
  ·exact⟨b,hx b (hU.2 b bU).1 (hU.2 b bU).2,.here,.here⟩
 ·rintro⟨p,h⟩
  refine⟨p,λf hf=>?_⟩
  obtain⟨f',ff',hx⟩:=h2 f hf
  obtain⟨x,xf,r1,r2⟩:=h f' ff'
  exact⟨x,hx x xf,r1,r2⟩
theorem zR8(g:Gr m n)(g':Gr m' n)(es:m'.steps=m.steps)(hU:aG n U)(hG:aG n G):cm m' U G=cm m U G:=Uy (Ob g' hU hG).2.1.1 (Ob g hU hG).2.1.1 λs=>by rw[(Ob g hU hG).2.2 s,(Ob g' hU hG).2.2 s,es]
theorem zR4(g:Gr m n)(g':Gr m' n)(es:m'.steps=m.steps)(hf:yN n m.fair)(hf':yN n m'.fair)(hF:CW m.steps m.fair m'.fair n)(hU:aG n U):co m' U=co m U:=Uy (U0 g' hf' hU).2.1 (U0 g hf hU).2.1 λs=>by
 rw[zR6 g hf hU,zR6 g' hf' hU,es]
 constructor
 ·rintro⟨sU,b,bU,hb,r⟩
  exact⟨sU,b,bU,(hF U b hU bU).mpr hb,r⟩
 ·rintro⟨sU,b,bU,hb,r⟩
  exact⟨sU,b,bU,(hF U b hU bU).mp hb,r⟩
theorem G8(es:m'.steps=m.steps)(hF:CW m.steps m.fair m'.fair n)(hL:zSs m.steps m.fair n L)(hL':zSs m'.steps m'.fair n L'):L'=L:=Uy hL'.1.1 hL.1.1 λs=>by
 rw[hL.2 s,hL'.2 s,es]
 constructor
 ·rintro⟨sU,b,bU,hb,r⟩
  exact⟨sU,b,bU,(hF _ b (uE n) bU).mpr hb,r⟩
 ·rintro⟨sU,b,bU,hb,r⟩
  exact⟨sU,b,bU,(hF _ b (uE n) bU).mp hb,r⟩
theorem zJ2(g:Gr m n)(g':Gr m' n)(es:m'.steps=m.steps)(hL:aG n L)(hA:aG n A):st m' L A B=st m L A B:=zR8 g g' es hA (xX hL _)
theorem zRo(g:Gr m n)(g':Gr m' n)(es:m'.steps=m.steps)(hf:yN n m.fair)(hf':yN n m'.fair)(hF:CW m.steps m.fair m'.fair n)(hL:aG n L)(A B:LI):et m' n L A B=et m n L A B:=by
 unfold et
 rw[zR8 g g' es (CV B) (G:=Oa n L A B) (xX (xX hL _) _),zR4 g g' es hf hf' hF (CV B)]
theorem zPb(es:m'.steps=m.steps)(S:LI):sn m' n L S=sn m n L S:=by
 unfold sn
 rw[es]
theorem Xd(g:Gr m n)(g':Gr m' n)(es:m'.steps=m.steps)(em:m'.marks=m.marks)(hf:yN n m.fair)(hf':yN n m'.fair)(hF:CW m.steps m.fair m'.fair n)(hs:∀mk∈m.marks,aG n mk.2)(hL:aG n L):∀t:Tr,vv m' n L t=vv m n L t
 |.all=>by rw[zVe,zVe]
 |.mark x=>by
  rw[vv,vv]
  unfold yA
  rw[em]
 |.one i t=>by
  have ih:=Xd g g' es em hf hf' hF hs hL t
  have r:=uL g hf hs hL t
  have rr:=uE n
  rw[zOy,zOy,ih]
  rcases f7 i with rfl|rfl|rfl|rfl|rfl|rfl|rfl
  ·rw[on0,on0]
  ·rw[on1,on1,zPb es]
  ·rw[on2,on2,zPb es]
  ·rw[on3,on3,zR4 g g' es hf hf' hF r]
  ·rw[on4,on4,zJ2 g g' es hL rr]
  ·rw[on5,on5,zJ2 g g' es hL rr]
  ·rw[on6,on6,zRo g g' es hf hf' hF hL]
 |.two i l r=>by
  have ih1:=Xd g g' es em hf hf' hF hs hL l
  have ih2:=Xd g g' es em hf hf' hF hs hL r
  have r1:=uL g hf hs hL l
  rw[zOx,zOx,ih1,ih2]
  rcases f4 i with rfl|rfl|rfl|rfl
  ·rw[tw0,tw0]
  ·rw[tw1,tw1]
  ·rw[tw2,tw2,zJ2 g g' es hL r1]
  ·rw[tw3,tw3,zRo g g' es hf hf' hF hL]
theorem zJf:¬Jl xss (F++[[]]) U b:=λh=>by
 obtain⟨x,hx,_⟩:=h.2 [] (mem_append_right _ mem_cons_self)
 cases hx
theorem zPf(S:LI):sn m n [] S=[]:=by
 unfold sn
 refine eq_nil_iff_forall_not_mem.mpr λs h=>?_
 obtain⟨_,_,q⟩:=fX.mp h
 unfold into at q
 obtain⟨x,_,q2⟩:=any_eq_true.mp q
 have:=of_decide_eq_true q2
 cases this
theorem zQq:nt n []=rng n:=by
 unfold nt pick
 rw[filter_eq_self.mpr]
 intro a _
 simp
theorem zJ3(g:Gr m n)(hA:aG n A)(B:LI):st m [] A B=[]:=zWb g hA
theorem zR7(g:Gr m n)(ef:m.fair=F++[[]])(hf:yN n m.fair)(hU:aG n U):co m U=[]:=eq_nil_iff_forall_not_mem.mpr λs h=>by
 obtain⟨_,b,_,hb,_⟩:=(zR6 g hf hU s).mp h
 rw[ef] at hb
 exact zJf hb
theorem zRr(g:Gr m n)(ef:m.fair=F++[[]])(hf:yN n m.fair)(A B:LI):et m n [] A B=rng n:=by
 have e:Oa n [] A B=[]:=rfl
 unfold et
 rw[e,zWb g (CV B),zR7 g ef hf (CV B),Og wS,zQq]
def post:Tr->List Tr
 |.all=>[.all]
 |.mark x=>[.mark x]
 |.one i t=>post t++[.one i t]
 |.two i l r=>post l++post r++[.two i l r]
theorem zKc(t:Tr):post t=(fQ t).flatMap post++[t]:=by cases t<;>simp[post,fQ]
theorem U4:∀t:Tr,wk t=(post t).map kn
 |.all=>rfl
 |.mark x=>rfl
 |.one i t=>by
  show wk t++[w1 i]=(post t++[Tr.one i t]).map kn
  rw[map_append,<-U4 t]
  rfl
 |.two i l r=>by
  show wk l++wk r++[w2 i]=(post l++post r++[Tr.two i l r]).map kn
  rw[map_append,map_append,<-U4 l,<-U4 r]
  rfl
theorem zTu(t:Tr):(post t).length<2^(t.depth+1):=by
 have:=Ui t
 rw[U4,length_map] at this
 exact this
theorem zU9(g:Gr m n)(hf:yN n m.fair)(hs:∀mk∈m.marks,aG n mk.2)(hL:aG n L):∀(k:Nat)(t:Tr),t.depth<k->k<=9->W (yQ k m L (eE.mk (cl:=cl) t)) (· = (post t).map (vv m n L))
 |0,t,h,_=>absurd h (acr _)
 |k+1,t,h,h9=>by
  show W (xL (yQ k) m L _) _
  unfold xL
  rw[zC,aj,zC,aj,zC,zC,aj]
  show W (wD _ ((fQ t).map eE.mk) _) _
  have l2:(fQ t).length<=2:=by cases t<;>simp[fQ]
  have pl:∀u:Tr,u.depth<9->(post u).length<=512:=λu hu=>aa8 (acf (zTu u)) (aa8 (acy (by decide) (show u.depth+1<=9 by omega)) (by decide))
  have fl:∀i,(((fQ t).take i).flatMap λu=>(post u).map (vv m n L)).length<=512:=λi=>by
   have e:(fQ t).flatMap (λu=>(post u).map (vv m n L))=((fQ t).take i).flatMap (λu=>(post u).map (vv m n L))++((fQ t).drop i).flatMap (λu=>(post u).map (vv m n L)):=by rw[<-flatMap_append,take_append_drop]
   have e2:((post t).map (vv m n L)).length<=512:=by rw[length_map];exact pl t (by omega)
   rw[zKc,map_append,List.map_flatMap,e,length_append,length_append] at e2
   omega
  refine vE (λi z=>z.1=((fQ t).take i).flatMap (λu=>(post u).map (vv m n L))/\z.2=((fQ t).take i).map (vv m n L)) ⟨rfl,rfl⟩ (λi x z hi hz=>?_) λz hz=>?_
  ·obtain⟨z1,z2⟩:=hz
   rw[getElem?_map] at hi
   obtain⟨u,hu,rfl⟩:=ael.mp hi
   have du:=ZM (mem_of_getElem? hu)
   rw[zC,zC]
   refine(zU9 g hf hs hL k u (by omega) (by omega)).imp λT e=>?_
   subst e
   have f1:=fl i
   have f2:=pl u (by omega)
   have ep:(post u).map (vv m n L)=((fQ u).flatMap post).map (vv m n L)++[vv m n L u]:=by rw[zKc,map_append];rfl
   unfold vg
   rw[if_pos (aa7 (show _<=2000 by rw[z1,length_map];omega) (by decide)),aj,zC,zC]
   show W (L2.cj (z.1++(post u).map (vv m n L)) (-(1:Int))) _
   rw[ep,<-append_assoc,oh,aj,z2,Ax]
   refine⟨yP (by rw[length_map,length_take];omega),?_⟩
   rw[aj]
   refine⟨?_,?_⟩
   ·show(z.1++((fQ u).flatMap post).map (vv m n L))++[vv m n L u]=_
    rw[append_assoc,<-ep,z1,take_add_one,hu,flatMap_append]
    simp
   ·show((fQ t).take i).map (vv m n L)++[vv m n L u]=_
    rw[take_add_one,hu,map_append]
    rfl
  ·obtain⟨told,sets⟩:=z
   obtain⟨z1,z2⟩:=hz
   rw[length_map,take_length] at z1 z2
   have z2:sets=(fQ t).map (vv m n L):=z2
   have y1:told=(fQ t).flatMap (λu=>(post u).map (vv m n L)):=z1
   clear z1
   have f1:=fl (fQ t).length
   rw[take_length,<-y1] at f1
   subst z2
   rw[zC,zC]
   show W (wJ m L (eE.mk (cl:=cl) t) ((fQ t).map (vv m n L))) _
   rw[Jr g hf hs hL t,aj,Ax]
   refine⟨yP (by show told.length<=1000;omega),?_⟩
   rw[aj]
   show told++[vv m n L t]=_
   rw[y1,zKc t,map_append,List.map_flatMap]
   rfl
end
end Ts
set_option maxHeartbeats 40000000
namespace Ts
open PySem L2 Sy
section
variable{P:Program}{w:World}{K:PySem.W.Frag}{mg:Str->Option Value}{base:Heap}
def Xe(C:Addr)(cl:Hd->Addr)(q0:Ky)(ch:pG×Unit):Option Bool:=(Mq (oV q0.ns none (some (60:Int)))).bind λBX=>(Uv BX ).bind λv2=>(some (v2.1.a.length:Int)).bind λdz=>(((cj ([(12:Int),(5:Int)]) (if(decide ((7:Int)<dz))=true then(1:Int) else 0)).bind λa5=>some (-a5)).bind λb6=>some (oV v2.2 (some b6) none)).bind λ_=>(λeX:pG=>(kJ ((oV q0.ns none (some (1:Int))).sum) (8:Int)).bind λbw=>(Gn v2.1.c).bind λkj=>(if(decide ((0:Int)<(v2.1.c.length:Int)))=true then(((gR bw (v2.1.c.length:Int)).bind λBx=>cj v2.1.c Bx).bind λa13=>push kj a13).bind λiT=>some iT else some kj).bind λs9=>((gR bw ((s9.length:Int)+(1:Int))).bind λa16=>((vo dz).bind λxs=>uB (λ(wg:Int)=>some true) (λ(wg:Int)=>some wg) xs).bind λb17=>Gm s9 a16 b17).bind λfY=>(((Je C v2.1.a (some v2.1.b) (some v2.1.c)).bind λa21=>((uY cl eX).bind λa20=>some ((a20,()))).bind λb22=>some (a21,b22)).bind λz19=>Jg z19.1 z19.2.1).bind λeY=>(if(!true)=true then some true else((uM dz).bind λxs=>uB (λ(x23:Int)=>some (decide (x23∈eY))) (λ(x23:Int)=>some x23) xs).bind λNz=>some (!decide (eY=Nz))).bind λb=>if b=true then some false else((((mR v2.1.c v2.1.c).bind λa31=>((((tV dz).bind λa28=>some (a28::([]))).bind λb29=>mR v2.1.c b29).bind λa30=>some (a30::([]))).bind λb32=>some (a31::b32)).bind λb33=>some (fY::b33)).bind λxs=>vZ (λ(Xf:Unit) (x27:List LI)=>((((Je C v2.1.a (some v2.1.b) (some x27)).bind λa36=>((uY cl eX).bind λa35=>some ((a35,()))).bind λb37=>some (a36,b37)).bind λz34=>Jg z34.1 z34.2.1).bind λa38=>some (!decide (a38=eY))).bind λb=>if b=true then(some false).bind λb=>some (.rt b) else some (.nx ())) xs ()).bind λo=>o.els λs26=>(((mR v2.1.c ([([]:LI)])).bind λa39=>Je C v2.1.a (some v2.1.b) (some a39)).bind λa41=>some ((a41,(eX,(dz,()))))).bind λz40=>Qp cl z40.1 z40.2.1 z40.2.2.1) ch.1
def Js(C:Addr)(cl:Hd->Addr)(_:Ky):Option Bool:=some true
end
theorem aaj:∀i:Fin 7,lW (w1 i) (4:Int)=some ((["not","some","each","some","each","some","each"]:List Str).getD i.val adt):=by decide +kernel
theorem aak:∀i:Fin 4,lW (w2 i) (4:Int)=some ((["both","eith","some","each"]:List Str).getD i.val adt):=by decide +kernel
theorem U5:lW ("all":Str) (4:Int)=some "all" /\ lW ("mark":Str) (4:Int)=some "mark":=by decide +kernel
theorem ns_:¬(("not":Str) = "some")/\¬(("not":Str) = "each")/\¬(("some":Str) = "each")/\¬(("each":Str) = "some")/\¬(("all":Str) = "some")/\¬(("all":Str) = "each")/\¬(("mark":Str) = "some")/\¬(("mark":Str) = "each")/\¬(("both":Str) = "some")/\¬(("both":Str) = "each")/\¬(("eith":Str) = "some")/\¬(("eith":Str) = "each"):=by decide +kernel
theorem U6(el:tV n=some (rng n))(hc:lW w (4:Int)=some c)(h1:c = "some"->S=[])(h2:c = "each"->S=rng n):W (((((lW w (4:Int)).bind λa9=>some (decide (a9=("some":Str)))).bind λc10=>if c10=true then some (!decide (S=([]:LI))) else some false).bind λc14=>if c14=true then some true else((lW w (4:Int)).bind λa11=>some (decide (a11=("each":Str)))).bind λc13=>if c13=true then(tV n).bind λBx=>some (!decide (S=Bx)) else some false).bind λb=>if b=true then(some false).bind λb=>some (Out.rt (S:=Unit) b) else some (.nx ())) λo=>∃s',o=.nx s'/\True:=by
 have A:(if decide (c=("some":Str))=true then some (!decide (S=([]:LI))) else some false)=some false:=by
  by_cases q:c = "some"
  ·rw[if_pos (decide_eq_true q),h1 q,decide_eq_true rfl];rfl
  ·rw[if_neg (by rw[decide_eq_false q];decide)]
 have B:(if decide (c=("each":Str))=true then(tV n).bind λBx=>some (!decide (S=Bx)) else some false)=some false:=by
  by_cases q:c = "each"
  ·rw[if_pos (decide_eq_true q),el,h2 q]
   show some (!decide (rng n=rng n))=_
   rw[decide_eq_true rfl];rfl
  ·rw[if_neg (by rw[decide_eq_false q];decide)]
 rw[hc,zC,zC,zC,zC,aj,aj,A,aj,if_neg (show¬(false=true) by decide),zC,zC,aj,aj,B,aj,if_neg (show¬(false=true) by decide),aj]
 exact⟨(),rfl,trivial⟩
section
variable{C:Addr}{cl:Hd->Addr}{m:aF C}{n:Int}
theorem G9(g:Gr m n)(ef:m.fair=F++[[]])(hf:yN n m.fair)(hs:∀mk∈m.marks,aG n mk.2)(u:Tr):∃c,lW (kn u) (4:Int)=some c/\(c = "some"->vv m n [] u=[])/\(c = "each"->vv m n [] u=rng n):=by
 obtain⟨a1,a2,a3,a4,a5,a6,a7,a8,a9,b1,b2,b3⟩:=ns_
 have rr:=uE n
 cases u with
 |all=>exact⟨_,U5.1,λh=>absurd h a5,λh=>absurd h a6⟩
 |mark x=>exact⟨_,U5.2,λh=>absurd h a7,λh=>absurd h a8⟩
 |one i t =>
  have r:=uL g hf hs wS t
  refine⟨_,aaj i,?_,?_⟩<;>rw[zOy]<;>rcases f7 i with rfl|rfl|rfl|rfl|rfl|rfl|rfl
  ·exactλh=>absurd h a1
  ·exactλ_=>by rw[on1];exact zPf _
  ·exactλh=>absurd h a4
  ·exactλ_=>by rw[on3];exact zR7 g ef hf r
  ·exactλh=>absurd h a4
  ·exactλ_=>by rw[on5];exact zJ3 g rr _
  ·exactλh=>absurd h a4
  ·exactλh=>absurd h a2
  ·exactλh=>absurd h a3
  ·exactλ_=>by rw[on2,zPf,zQq]
  ·exactλh=>absurd h a3
  ·exactλ_=>by rw[on4,zJ3 g rr,zQq]
  ·exactλh=>absurd h a3
  ·exactλ_=>by rw[on6];exact zRr g ef hf _ _
 |two i l r =>
  have rl:=uL g hf hs wS l
  refine⟨_,aak i,?_,?_⟩<;>rw[zOx]<;>rcases f4 i with rfl|rfl|rfl|rfl
  ·exactλh=>absurd h a9
  ·exactλh=>absurd h b2
  ·exactλ_=>by rw[tw2];exact zJ3 g rl _
  ·exactλh=>absurd h a4
  ·exactλh=>absurd h b1
  ·exactλh=>absurd h b3
  ·exactλh=>absurd h a3
  ·exactλ_=>by rw[tw3];exact zRr g ef hf _ _
theorem Jt(t:Tr)(h:t.depth<=5):uY cl (pG.mk t)=some (eE.mk t):=by
 unfold uY
 rw[if_pos (show t.depth<6 by omega)]
theorem Oh(g:Gr m n)(ef:m.fair=F++[[]])(hf:yN n m.fair)(hs:∀mk∈m.marks,aG n mk.2)(eL:Ny m=some [])(el:tV n=some (rng n)){t:Tr}(ht:t.depth<=5):W (Qp cl m (pG.mk t) n) (· = true):=by
 unfold Qp
 rw[zC,zC,zC,zC,Jt t ht,aj,aj,aj]
 show W (NK m (eE.mk (cl:=cl) t)) _
 unfold NK
 rw[zC,zC,zC,eL,aj,aj,aj]
 show W (yQ 9 m [] (eE.mk (cl:=cl) t)) _
 refine(zU9 g hf hs wS 9 t (by omega) (by decide)).imp λT e=>?_
 subst e
 have ew:Qj (pG.mk t)=some ((post t).map kn):=by
  unfold Qj
  rw[if_pos (show t.depth<6 by omega),U4]
 rw[zC,ew,aj,zC,if_neg (show¬((!true)=true) by decide),aj,length_map,length_map,decide_eq_true rfl,ab9,if_neg (show¬(false=true) by decide),zC,zC,aj]
 refine zSk (λ_ _=>True) trivial (λi x _ hi _=>?_) λ_ _=>by rw[Wb,aj]
 obtain⟨e1,e2⟩:=getElem?_zip_eq_some.mp hi
 rw[getElem?_map] at e1 e2
 obtain⟨u,hu,k1⟩:=ael.mp e1
 rw[hu] at e2
 have k2:vv m n [] u=x.2:=aa2 e2
 obtain⟨c,c1,c2,c3⟩:=G9 g ef hf hs u
 rw[k1] at c1
 rw[k2] at c2 c3
 exact U6 el c1 c2 c3
end
theorem oE{α:Type}{x y:α}{xs:List α}:x∈jZ k y xs↔x=y\/x∈xs:=by
 unfold jZ
 rw[mem_append,mem_cons]
 constructor
 ·rintro(h|h|h)
  ·exact .inr (mem_of_mem_take h)
  ·exact .inl h
  ·exact .inr (List.mem_of_mem_drop h)
 ·rintro(h|h)
  ·exact .inr (.inl h)
  ·rw[<-take_append_drop k xs] at h
   rcases mem_append.mp h with h|h
   ·exact .inl h
   ·exact .inr (.inr h)
theorem Oi(n1:1<=n)(rG:n<=60):∃R,vo n=some R/\R.length<=60/\za n R/\∀x,0<=x->x<n->x∈R:=by
 refine⟨_,by unfold vo;rw[if_pos ⟨by omega,by omega⟩],by rw[length_map,length_range];omega,⟨?_,by rw[length_map,length_range];omega,λz hz=>?_⟩,λx x0 x1=>?_⟩
 ·unfold List.Nodup
  rw[pairwise_map]
  refine Pairwise.imp (λ{a b} h e=>h ?_) (List.nodup_range (n:=n.toNat))
  have e:(n-1)-(a:Int)=(n-1)-(b:Int):=e
  omega
 ·obtain⟨k,hk,rfl⟩:=mem_map.mp hz
  rw[mem_range] at hk
  show 0<=(n-1)-(k:Int)/\(n-1)-(k:Int)<n
  omega
 ·refine mem_map.mpr ⟨(n-1-x).toNat,mem_range.mpr (by omega),?_⟩
  show(n-1)-(((n-1-x).toNat:Nat):Int)=x
  omega
theorem zQy(C:Addr)(cl:Hd->Addr)(U7:Ky)(ch:pG×Unit)(hch:ch.1.t.depth<=5/\True):Xe C cl U7 ch=some true:=by
 apply qx
 obtain⟨⟨t⟩,_⟩:=ch
 obtain⟨ht,_⟩:=hch
 have ht:t.depth<=5:=ht
 unfold Xe
 rw[zC]
 have c60:=U3 U7.ns
 unfold Mq
 rw[if_pos (yP (by omega)),aj,zC]
 refine(G7 _).imp λv ⟨n,D⟩=>?_
 obtain⟨⟨xss,marks,fair⟩,rest⟩:=v
 obtain⟨n1,rG,hl,hr,⟨A0,A1,A2,em,r0,r1,r2⟩,hf,f4⟩:=D
 dsimp only at hl hr em hf f4
 have nd3:(([(("p":Str),A0),("wet",A1),("darkness",A2)]:List (Str×LI)).map (·.1)).Nodup:=by
  show([("p":Str),"wet","darkness"]:List Str).Nodup
  decide +kernel
 have mr:∀mk∈marks,aG n mk.2:=λmk h=>by
  rw[em] at h
  have h':mk=(("p":Str),A0)\/mk=(("wet":Str),A1)\/mk=(("darkness":Str),A2):=by simpa using h
  rcases h' with rfl|rfl|rfl
  ·exact r0
  ·exact r1
  ·exact r2
 have mo:zLd n marks:=by
  rw[em]
  refine⟨nd3,by simp,λmk hm=>?_⟩
  have hm':mk=(("p":Str),A0)\/mk=(("wet":Str),A1)\/mk=(("darkness":Str),A2):=by simpa using hm
  rcases hm' with rfl|rfl|rfl
  ·exact⟨ou.1,(show("p":Str).length<=1000 by decide +kernel),UG r0 rG⟩
  ·exact⟨ou.2.1,(show("wet":Str).length<=1000 by decide +kernel),UG r1 rG⟩
  ·exact⟨ou.2.2,(show("darkness":Str).length<=1000 by decide +kernel),UG r2 rG⟩
 clear em nd3
 have mk:∀F:List LI,yN n F->W (Je C xss (some marks) (some F)) λm=>Gr m n/\m.steps=xss/\m.marks=marks/\m.fair=F:=λF hF=>Uz C (mo:=some marks) (fo:=some F) hl n1 rG (λxs hx=>GP (hr xs hx)) mo hF
 have rl:=Xc rG (by omega)
 have el:tV n=some (rng n):=by
  unfold tV
  rw[if_pos ⟨by omega,by omega⟩]
  rfl
 obtain⟨R,eR,Rl,Rs,Rf⟩:=Oi n1 rG
 have rs:za n (rng n):=UG (uE n) rG
 rw[zC,aj,zC,zC,zC]
 show W (L2.cj ([(12:Int),(5:Int)]) (if(decide ((7:Int)<(xss.length:Int)))=true then(1:Int) else 0)) _
 have mo2:W (L2.cj ([(12:Int),(5:Int)]) (if(decide ((7:Int)<(xss.length:Int)))=true then(1:Int) else 0)) λ_=>True:=by
  by_cases c:(decide ((7:Int)<(xss.length:Int)))=true
  ·rw[if_pos c]
   exact⟨5,rfl,trivial⟩
  ·rw[if_neg c]
   exact⟨12,rfl,trivial⟩
 refine mo2.imp λmost _=>?_
 rw[aj,aj,hl]
 dsimp only
 rw[zC,RZ]
 refine⟨⟨by decide,by decide⟩,?_⟩
 generalize(oV U7.ns none (some (1:Int))).sum/8=cell
 have e9:W (Gn fair) (· = fair.reverse):=by
  unfold Gn
  rw[if_pos (yP (by omega)),aj]
 rw[zC]
 refine e9.imp λturned e=>?_
 subst e
 have t9:W (if(decide ((0:Int)<(fair.length:Int)))=true then(((gR cell (fair.length:Int)).bind λBx=>L2.cj fair Bx).bind λa13=>push fair.reverse a13).bind λiT=>some iT else some fair.reverse) λs9=>s9.length<=5/\(∀f,f∈s9↔f∈fair):=by
  rw[K6]
  refine⟨λh=>?_,λ_=>aj.mpr ⟨by rw[length_reverse];omega,λf=>List.mem_reverse⟩⟩
  have h:=of_decide_eq_true h
  rw[zC,zC,zC,K5]
  refine⟨h,?_⟩
  have q0:=ac6 cell (show(fair.length:Int)≠0 by omega)
  have q1:=acs cell h
  rw[dI q0]
  refine⟨_,aaz (by omega),?_⟩
  rw[Ax]
  refine⟨yP (by rw[length_reverse];omega),?_⟩
  rw[aj]
  refine⟨by rw[length_append,length_reverse];show fair.length+1<=5;omega,λf=>?_⟩
  rw[mem_append,List.mem_reverse,mem_singleton]
  exact⟨λh=>h.elim id λe=>e▸getElem_mem _,.inl⟩
 rw[zC]
 refine t9.imp λs9 ⟨l9,m9⟩=>?_
 rw[zC,zC,K5]
 refine⟨by omega,?_⟩
 have q0:=ac6 cell (show(s9.length:Int)+1≠0 by omega)
 have q1:=acs cell (show 0<(s9.length:Int)+1 by omega)
 generalize cell%((s9.length:Int)+1)=k at q0 q1
 rw[zC,zC,eR,aj,Px (λx=>x),map_id']
 refine⟨yP (by omega),?_⟩
 unfold Gm
 rw[if_pos ⟨q0,by omega,yP (by omega)⟩,aj]
 have fT:yN n (jZ k.toNat R s9):=⟨by rw[zL9 (by omega)];omega,λF hF=>by
  rcases oE.mp hF with e|h
  ·rw[e];exact Rs
  ·exact hf.2 F ((m9 F).mp h)⟩
 have qT:CW xss fair (jZ k.toNat R s9) n:=zRf (λf' h=>by
  rcases oE.mp h with e|h
  ·rw[e];exact .inr Rf
  ·exact .inl ⟨f',(m9 f').mp h,λ_ h=>h⟩) λf h=>⟨f,oE.mpr (.inr ((m9 f).mpr h)),λ_ h=>h⟩
 have fD:yN n (fair++fair):=⟨by rw[length_append];omega,λF hF=>hf.2 F ((mem_append.mp hF).elim id id)⟩
 have qD:CW xss fair (fair++fair) n:=zRf (λf' h=>.inl ⟨f',(mem_append.mp h).elim id id,λ_ h=>h⟩) λf h=>⟨f,mem_append_left _ h,λ_ h=>h⟩
 have fW:yN n (fair++[rng n]):=⟨by rw[length_append];show fair.length+1<=100;omega,λF hF=>by
  rcases mem_append.mp hF with h|h
  ·exact hf.2 F h
  ·rw[mem_singleton.mp h];exact rs⟩
 have qW:CW xss fair (fair++[rng n]) n:=zRf (λf' h=>by
  rcases mem_append.mp h with h|h
  ·exact .inl ⟨f',h,λ_ h=>h⟩
  ·rw[mem_singleton.mp h];exact .inr λx x0 x1=>mG.mpr ⟨x0,x1⟩) λf h=>⟨f,mem_append_left _ h,λ_ h=>h⟩
 have fE:yN n (fair++[[]]):=⟨by rw[length_append];show fair.length+1<=100;omega,λF hF=>by
  rcases mem_append.mp hF with h|h
  ·exact hf.2 F h
  ·rw[mem_singleton.mp h];exact⟨nodup_nil,by show 0<=100;decide,λz hz=>by cases hz⟩⟩
 generalize jZ k.toNat R s9=T at fT qT
 rw[zC,zC,zC]
 refine(mk fair hf).imp λm ⟨g,es,em,ef⟩=>?_
 have hf1:yN n m.fair:=by rw[ef];exact hf
 have hs:∀mk∈m.marks,aG n mk.2:=by rw[em];exact mr
 obtain⟨L,eL,hL⟩:=zJx g hf1
 rw[zC,zC,Jt t ht,aj,aj,aj]
 show W (Jg m (eE.mk (cl:=cl) t)) _
 rw[zVa g hf1 hs hL.1 eL (show t.depth<9 by omega),aj,zC,if_neg (show¬((!true)=true) by decide),zC,Oe (by omega) rG]
 show W (uB _ _ (rng n)) _
 rw[zWl (λx=>decide (x∈vv m n L t)) (λx=>x),map_id']
 refine⟨yP (by omega),?_⟩
 have e2:(rng n).filter (λx=>decide (x∈vv m n L t))=vv m n L t:=zPu (uL g hf1 hs hL.1 t)
 rw[e2,aj,decide_eq_true rfl,ab9,if_neg (show¬(false=true) by decide)]
 have cD:mR fair fair=some (fair++fair):=by
  unfold mR
  rw[if_pos (acf (yP (by omega)))]
 have cW:mR fair [rng n]=some (fair++[rng n]):=by
  unfold mR
  rw[if_pos (acf (yP (by show fair.length+1<=1000;omega)))]
 have cE:mR fair [[]]=some (fair++[[]]):=by
  unfold mR
  rw[if_pos (acf (yP (by show fair.length+1<=1000;omega)))]
 rw[zC,zC,zC,zC,cD,aj,zC,zC,zC,zC,el,aj,aj,cW,aj,aj,aj,aj]
 refine zSk (λ_ _=>True) trivial (λi F _ hi _=>?_) λ_ _=>?_
 ·have hF:yN n F/\CW xss fair F n:=by
   have hm:=mem_of_getElem? hi
   simp only[mem_cons,List.not_mem_nil,or_false] at hm
   rcases hm with rfl|rfl|rfl
   ·exact⟨fT,qT⟩
   ·exact⟨fD,qD⟩
   ·exact⟨fW,qW⟩
  rw[zC,zC,zC,zC]
  refine(mk F hF.1).imp λm' ⟨g',es',em',ef'⟩=>?_
  have hf':yN n m'.fair:=by rw[ef'];exact hF.1
  have ess:m'.steps=m.steps:=es'.trans es.symm
  have emm:m'.marks=m.marks:=em'.trans em.symm
  have hFE:CW m.steps m.fair m'.fair n:=by rw[es,ef,ef'];exact hF.2
  obtain⟨L',Xg,hL'⟩:=zJx g' hf'
  have LL:L'=L:=G8 ess hFE hL hL'
  have hs':∀mk∈m'.marks,aG n mk.2:=by rw[em'];exact mr
  rw[zC,zC,aj,aj,aj]
  show W (Jg m' (eE.mk (cl:=cl) t)) _
  rw[zVa g' hf' hs' hL'.1 Xg (show t.depth<9 by omega),aj,aj,LL,Xd g g' ess emm hf1 hf' hFE hs hL.1 t,decide_eq_true rfl,ab9,if_neg (show¬(false=true) by decide),aj]
  exact⟨(),rfl,trivial⟩
 ·rw[Wb,zC,zC,zC,cE,aj]
  refine(mk _ fE).imp λm' ⟨g',es',em',ef'⟩=>?_
  have hf':yN n m'.fair:=by rw[ef'];exact fE
  have hs':∀mk∈m'.marks,aG n mk.2:=by rw[em'];exact mr
  obtain⟨L',Xg,hL'⟩:=zJx g' hf'
  have LL:L'=[]:=eq_nil_iff_forall_not_mem.mpr λs h=>by
   obtain⟨_,b,_,hb,_⟩:=(hL'.2 s).mp h
   rw[ef'] at hb
   exact zJf hb
  rw[LL] at Xg
  rw[aj]
  show W (Qp cl m' (pG.mk t) n) _
  exact Oh g' ef' hf' hs' Xg el ht
end Ts
set_option maxHeartbeats 40000000
namespace Ts
open PySem L2 Sy
section
variable{P:Program}{w:World}{K:PySem.W.Frag}{mg:Str->Option Value}{base:Heap}
theorem BZ:ao ["_law_script","_law_rest","_law_steps","_law_marks","_law_fair","_law_many","_law_tree","_law_cell_here","_law_turned","_law_found","_law_sets"] ["_law_script"] (zH pF):=fsc
abbrev U8(K:PySem.W.Frag)(C:Addr)(cl:Hd->Addr):Sp:=cN K false (λa:Ky×Unit=>([.z a.1]:SL K)) (λa=>Js C cl a.1)
theorem Oj(F:aZ K "law" "law" pF f fd)(B:Bl K mg)(T:Cl K mg C)(MK:Mk K C fI)(GI:aq P w K mg base aM k0 fI Xh ["self","steps","marks","fair"] (Sh K C (Je C)))(U9:Binds K Xh ["self","steps","marks","fair"] [])(fZ:mg "reversed" = none)(Ol:mg "sum" = none)(oF:bJ P w K mg base (k0+1) "_law_dead" ["_law_machine","_law_tree","_law_many"] (zMv K C cl))(lF:bJ P w K mg base (k0+1) "_law_drawn" ["_law_rest"] (zJr K))(lG:bJ P w K mg base (k0+1) "_law_grown" ["_law_rest","_law_names","_law_deep"] (zJq K))(d_:bJ P w K mg base (k0+1) "_law_made" ["_law_tree"] (W2 K cl))(mJ:bJ P w K mg base (k0+1) "holds" ["machine","saying"] (zSp K C cl)):aq P w K mg base aM ((k0+1)+1) f fd ["_law_script"] (U8 K C cl):=by
 refine yK F BZ (λ_=>rfl) (λ_=>rfl) λcdv A outer s H E hr=>?_
 have nd:=BZ.nd
 refine⟨_,(zB (Cp (i:=1) (own:=["_law_cell_here"]) (ix:=[]) nd rfl rfl rfl rfl rfl (zV4 K fZ (zA (Kl (Ls K) (pv 0) Kg (Kh zK)) zE)) (λC s H fp=>yS (i:=0) (show(["_law_cell_here"]:List Str).Nodup from by decide +kernel) rfl (Or.inl rfl)) (λC s H fp=>wV) (λC s H fp=>(pv 0))) (zB (O6 (zY lF hr (zA (pv 1) zE)) (Hw rfl (yV (cJ 2 nd) (yV (cJ 3 nd) (yV (cJ 4 nd) Dh))))) (zB (xY 5 nd (zR (uT K) rfl B.len abp (zA (pv 2) zE))) (zB (xY 6 nd (zY lG hr (zA (Kl (Ls K) (pv 1) (Kh (zu XF (yM (cG K) (xV (zA zK (zA zK zE))) (O8 zSc rfl B.int zWe (zA (zP5 zy (pv 5) zK (yI _)) zE)) (λ_ _=>rfl)))) Kg) (zA (xV (zA yE (zA yE (zA yE (zA yE zE))))) (zA zK zE))))) (zB (xY 7 nd (xC Dm (zR (zSa K rfl) rfl Ol Mv (zA (Kl (Ls K) (pv 0) Kg (Kh zK)) zE)) zK)) (zB (Cp (i:=8) (own:=["_law_some"]) (ix:=[]) nd rfl rfl rfl rfl rfl (zV4 K fZ (zA (pv 4) zE)) (λC s H fp=>yS (i:=0) (show(["_law_some"]:List Str).Nodup from by decide +kernel) rfl (Or.inl rfl)) (λC s H fp=>wV) (λC s H fp=>(pv 0))) (zB (yT (zZ zy (zR (uT K) rfl B.len abp (zA (pv 4) zE)) zK (yI _)) (zB (yD (yt K abf abm abn wB (pv 8) (zA (O8 (RW K) rfl B.list KZ (zA (yM (cG K) (pv 4) (xC ug (pv 7) (zR (uT K) rfl B.len abp (zA (pv 4) zE))) (λ_ _=>rfl)) zE)) zE))) zG) zG) (zB (yD (yt K abf PySem.F.slot_list_insert PySem.F.type_list_insert zQs (pv 8) (zA (xC ug (pv 7) (xC QS (zR (uT K) rfl B.len abp (zA (pv 8) zE)) zK)) (zA (DY (own:=["_law_stand"]) (ix:=[]) rfl rfl rfl (Gj rfl fZ rfl B.range (zA (pv 5) zE)) (λC s H fp=>yS (i:=0) (show(["_law_stand"]:List Str).Nodup from by decide +kernel) rfl (Or.inl rfl)) (λC s H fp=>wV) (λC s H fp=>(pv 0))) zE)))) (zB (xY 9 nd (zY mJ hr (zA (wM MK GI hr rfl T.Z7 U9 .nil xJ (zA (pv 2) (zA (pv 3) (zA (pv 4) zE)))) (zA (zY d_ hr (zA (pv 6) zE)) zE)))) (zB (yT (PW.pt (pw_or (QF (wU (zR (vW K (Ru (n:="list"))) rfl B.p8 vX (zA (pv 9) (zA (Qz (v:=.ty "list") rfl B.list KZ rfl) zE))))) (pw_or1 (zZ (RB K LI hr) (pv 9) (DY (own:=["_law_stand"]) (ix:=[9]) rfl rfl rfl (wW rfl B.range (zA (pv 5) zE)) (λC s H fp=>yS (i:=0) (show(["_law_stand","_law_found"]:List Str).Nodup from by decide +kernel) rfl (Or.inl rfl)) (λC s H fp=>Rn (zZ (zVy K) (pv 0) (pv 1) (by with_unfolding_all rfl))) (λC s H fp=>(pv 0))) (yI _))))) (zB (zQ zp) zG) zG) (zB (xQ abe rfl (xG K (xV (zA (pv 8) (zA (xC Ym (pv 4) (pv 4)) (zA (xC Ym (pv 4) (xV (zA (Zy rfl rfl B.list rfl B.range (zA (pv 5) zE)) zE))) zE))))) (cJ 10 nd) (zB (yT (zZ (RB K LI hr) (zY mJ hr (zA (wM MK GI hr rfl T.Z7 U9 .nil xJ (zA (pv 2) (zA (pv 3) (zA (pv 10) zE)))) (zA (zY d_ hr (zA (pv 6) zE)) zE))) (pv 9) (yI _)) (zB (zQ zp) zG) zG) zG)) (zB (zQ (zY oF hr (zA (wM MK GI hr rfl T.Z7 U9 .nil xJ (zA (pv 2) (zA (pv 3) (zA (xC Ym (pv 4) (xV (zA (xV zE) zE))) zE)))) (zA (pv 6) (zA (pv 5) zE))))) zG)))))))))))),?_⟩
 rintro Fa ⟨q0,⟨⟩⟩
 refine yw.sb (Z0 (ux true 1 rfl rfl (Ge (zMi (zD 0 rfl) (zV 60)).ex)) (λBX=>(WM [.z q0,.ow true BX,.un,.un,.un,.un,.un,.un,.un,.un,.un] (Z0 (Ml (n:=true) (zUr 1 rfl rfl zO) (λ_=>Gd 2 3 4 rfl rfl (λ_=>rfl) rfl (λ_ _=>rfl) rfl)) (λv2=>(WM [.z q0,.ow true v2.2,.y v2.1.a,.y v2.1.b,.y v2.1.c,.un,.un,.un,.un,.un,.un] (Z0 (xP true 5 rfl rfl (esc (tM (zD 2 rfl)))) (λdz=>(WM [.z q0,.ow true v2.2,.y v2.1.a,.y v2.1.b,.y v2.1.c,.y dz,.un,.un,.un,.un,.un] (zPm (d:=5) 6 rfl rfl (zUs (Cq 1 rfl) (Za (esc (wO (Ph (vD (esc (zV 12)) (vD (esc (zV 5)) Pg)) (λa h=>aa8 ((tQ (tQ Pu)) a h) (by decide))).ex (Fb (Aw (zI 5 rfl) (zV 7))))))) (Ph (vD (esc (Cr "p")) (vD (esc (Cr "wet")) (vD (esc (Cr "darkness")) (vD (esc (Cr "x")) Pg)))) (λa h=>aa8 ((tQ (tQ (tQ (tQ Pu)))) a h) (by decide))).ex rfl (by decide) (zV 5) rfl (by decide) (λeX=>(WM [.z q0,.ow true v2.2,.y v2.1.a,.y v2.1.b,.y v2.1.c,.y dz,.y eX,.un,.un,.un,.un] (Gg (zW (xP true 7 rfl rfl (esc (Pr (Mx (zMi (zD 0 rfl) (zV 1)).ex) (zV 8)))) (λbw=>(TF [.z q0,.ow true v2.2,.y v2.1.a,.y v2.1.b,.y v2.1.c,.y dz,.y eX,.y bw,.un,.un,.un] (zW (ux true 8 rfl rfl (Gp (n:=true) (yO 4 rfl))) (λkj=>(TF [.z q0,.ow true v2.2,.y v2.1.a,.y v2.1.b,.y v2.1.c,.y dz,.y eX,.y bw,.ow true kj,.un,.un] (zW (tK (xH (md:=.hp) (Aw (tM (zD 4 rfl)) (zV 0))) (zT (vQ 8 rfl rfl (RJ (wO (zD 4 rfl) (Ek (zI 7 rfl) (tM (zD 4 rfl))))).ex) (λiT=>(yF (λs10:List LI=>([.z q0,.ow true v2.2,.y v2.1.a,.y v2.1.b,.y v2.1.c,.y dz,.y eX,.y bw,.ow true s10,.un,.un]:SL K)) iT bV))) (yF (λs10:List LI=>([.z q0,.ow true v2.2,.y v2.1.a,.y v2.1.b,.y v2.1.c,.y dz,.y eX,.y bw,.ow true s10,.un,.un]:SL K)) kj bV)) (λs9=>(TF [.z q0,.ow true v2.2,.y v2.1.a,.y v2.1.b,.y v2.1.c,.y dz,.y eX,.y bw,.ow true s9,.un,.un] (zW (zPc 8 rfl rfl (Ek (zI 7 rfl) (RG (tM (Cq 8 rfl)) (zV 1))) (vN (n:=true) (jM:=[.un]) (no:=1) (ix:=[]) rfl rfl (Gk (zI 5 rfl)) (yH 0 rfl rfl) (λwg=>Cw) (λwg=>(esc (zI 0 rfl))) (λwg=>jX)).ex) (λfY=>(TF [.z q0,.ow true v2.2,.y v2.1.a,.y v2.1.b,.y v2.1.c,.y dz,.y eX,.y bw,.ow true fY,.un,.un] (zW (xP true 9 rfl rfl (zM (zF (Ze (zD 2 rfl) (zD 3 rfl) (zD 4 rfl)).ex (zF (zM (zF (zD 6 rfl) zO)) zO)))) (λeY=>(TF [.z q0,.ow true v2.2,.y v2.1.a,.y v2.1.b,.y v2.1.c,.y dz,.y eX,.y bw,.ow true fY,.y eY,.un] (uK (Rx (Rw (cU (md:=.hp) (RM B.ll rfl (zD 9 rfl)))) (xH (md:=.hp) (RD (zD 9 rfl) (vN (n:=true) (jM:=[.un,.y eY]) (no:=1) (ix:=[9]) rfl rfl (uI (zI 5 rfl)) (yH 0 rfl rfl) (λx23=>(xH (md:=.hp) (RK (zI 0 rfl) (zD 1 rfl)))) (λx23=>(esc (zI 0 rfl))) (λx23=>jX)).ex))) (yC (esc (Aq false))) (VN (V2 (n:=true) (L:=(λXf:Unit=>([.z q0,.ow true v2.2,.y v2.1.a,.y v2.1.b,.y v2.1.c,.y dz,.y eX,.y bw,.y fY,.y eY,.un]:SL K))) () bV (xI (Ph (vD (yO 8 rfl) (vD (Z1 (n:=true) (yO 4 rfl) (yO 4 rfl)).ex (vD (Z1 (n:=true) (yO 4 rfl) (Ph (vD (ZC (zI 5 rfl)).ex Pg) (λa h=>aa8 ((tQ Pu) a h) (by decide))).ex).ex Pg))) (λa h=>aa8 ((tQ (tQ (tQ Pu))) a h) (by decide))).ex) (λXf=>(yH 10 rfl rfl)) (λXf x27=>(VR (xH (md:=.hp) (RD (zM (zF (Ze (zD 2 rfl) (zD 3 rfl) (zD 10 rfl)).ex (zF (zM (zF (zD 6 rfl) zO)) zO))) (zD 9 rfl))) (yC (esc (Aq false))) (VP (λXf:Unit=>([.z q0,.ow true v2.2,.y v2.1.a,.y v2.1.b,.y v2.1.c,.y dz,.y eX,.y bw,.y fY,.y eY,.un]:SL K)) () bV)))) (λs26=>(yC (esc (zM (zF (Ze (zD 2 rfl) (zD 3 rfl) (Z1 (n:=true) (yO 4 rfl) (Ph (vD (ur (α:=Int)).ex Pg) (λa h=>aa8 ((tQ Pu) a h) (by decide))).ex).ex.up.uph).ex (zF (zD 6 rfl) (zF (esc (zI 5 rfl)) zO))))))))))))))))))))))))))))))))))))) ⟨(pG.mk .all,()),by show 0<=5;decide,trivial⟩ λch hch=>?_
 exact(show _=Xe C cl q0 ch by unfold Xe;simp only[bnd]).trans (zQy C cl q0 ch hch)
end
open PySem L2
theorem U_(h:aq P w K mg base aM k f fd ["_law_rest"] (zH1 K)):aq P w K mg base aM k f fd ["_law_rest"] Sy.Ua:=aq.imp h λvs H Q E ⟨a,ns,e,ha,q⟩=>by
 subst e
 obtain⟨⟨z,ns'⟩,ez,_⟩:=UW ns
 refine⟨a,ns,[],(),z,ns',λ_=>none,rfl,ha,rfl,(λb o e=>by cases e),ez,.nil,λv H' s1 e1 r=>?_⟩
 have r:v=.int z:=r
 subst r
 exact q z ns' H' (λb o n e=>s1 b o (by unfold del;rw[if_neg n];exact e)) e1
theorem zUd(C:Addr)(cl:Sy.Hd->Addr)(U7:Ky):W (Js C cl U7) (· = true):=⟨true,rfl,rfl⟩
end Ts
namespace Sy
open PySem L2
section
variable{K:PySem.W.Frag}{C D:Addr}
theorem G_(hc:isClsIn K D=true)(ht:typeIn K (.ref D)=some (.type "type"))(hm:mroIn K C (.ref D)=some true):kitOne K (.ref C) (.ref D)=some true:=by
 unfold kitOne
 split
 ·rfl
 ·unfold kitCls PySem.W.subIn
  dsimp only
  rw[ht,hm,show(PySem.W.clsIn K D).isSome=true from hc]
  rfl
theorem Om(hc:isClsIn K D=true)(ht:typeIn K (.ref D)=some (.type "type"))(hm:mroIn K C (.ref D)=some false)(hs:mroIn K C (.ref C)=some true):kitOne K (.ref C) (.ref D)=some false:=by
 have ne:C≠D:=λe=>by
  subst e
  rw[hm] at hs
  cases hs
 unfold kitOne
 rw[if_neg (λe=>ne (ae9 (ab7 e)))]
 unfold kitCls PySem.W.subIn
 dsimp only
 rw[ht,hm,show(PySem.W.clsIn K D).isSome=true from hc]
 rfl
def Xi(K:PySem.W.Frag)(C:Addr):List Addr->Prop
 |[]=>True
 |D::r=>mroIn K C (.ref D)=some false/\Xi K C r
def B_(K:PySem.W.Frag):List Addr->List Addr->Prop
 |_,[]=>True
 |p,C::r=>mroIn K C (.ref C)=some true/\Xi K C p/\Xi K C r/\B_ K (C::p) r
theorem zL3(h:Xi K C ds)(m:D∈ds):mroIn K C (.ref D)=some false:=by
 induction ds with
 |nil=>cases m
 |cons E r ih =>
  cases m with
  |head=>exact h.1
  |tail _ m=>exact ih h.2 m
theorem Va:∀{p:List Addr},B_ K p r->∀{i:Nat},r[i]?=some C->mroIn K C (.ref C)=some true/\(D∈p->mroIn K C (.ref D)=some false)/\∀{j:Nat},r[j]?=some D->j≠i->mroIn K C (.ref D)=some false:=by
 induction r with
 |nil=>intro p _ i e;cases e
 |cons E r ih =>
  intro p h i e
  cases i with
  |zero =>
   cases e
   refine⟨h.1,zL3 h.2.1,λ{j} f n=>?_⟩
   cases j with
   |zero=>exact absurd rfl n
   |succ j=>exact zL3 h.2.2.1 (mem_of_getElem? f)
  |succ i =>
   obtain⟨a,b,c⟩:=ih h.2.2.2 e
   refine⟨a,λm=>b (.tail _ m),λ{j} f n=>?_⟩
   cases j with
   |zero=>cases f;exact b (.head _)
   |succ j=>exact c f λq=>n (congrArg _ q)
end
def hix:Hd->Nat
 |.all=>0
 |.mark=>1
 |.one i=>i.val+2
 |.two i=>i.val+9
theorem Hf(h:Hd)(t:Tr):Ts.jB h t=decide (hix h=hix (hd t)):=by
 cases h<;>cases t
 case one.one i j _=>exact decide_eq_decide.2 ⟨λe=>by subst e;rfl,λe=>Fin.ext (by have e:i.val+2=j.val+2:=e;omega)⟩
 case two.two i j _ _=>exact decide_eq_decide.2 ⟨λe=>by subst e;rfl,λe=>Fin.ext (by have e:i.val+9=j.val+9:=e;omega)⟩
 all_goals first|rfl|(symm;apply decide_eq_false;intro e;simp only[hix,hd] at e;omega)
theorem Hg:∀i:Fin 7,i=0\/i=1\/i=2\/i=3\/i=4\/i=5\/i=6:=by decide
theorem Hh:∀i:Fin 4,i=0\/i=1\/i=2\/i=3:=by decide
abbrev HdR(K:PySem.W.Frag)(C:Addr):Prop:=findIn K (.ref C) "__class__" = some (some (.builtin "object.__class__"))/\mroIn K C (.type "object")=some true/\isClsIn K C=true/\typeIn K (.ref C)=some (.type "type")
abbrev sV(K:PySem.W.Frag)(C:Addr)(x y:Str)(st:Stmt):Prop:=nsIn K abl x=some (some (.ref C))/\(∃f fd,Mk K C f/\aZ K "__init__" y st f fd)/\Cls K C/\(findIn K (.ref C) "word" = some none/\findIn K (.ref C) "parts" = some none/\findIn K (.ref C) "part" = some none/\findIn K (.ref C) "left" = some none/\findIn K (.ref C) "right" = some none/\findIn K (.ref C) "name" = some none)/\HdR K C
abbrev Xj(K:PySem.W.Frag)(C:Addr)(x y:Str)(st:Stmt):Prop:=nsIn K abl x=some (some (.ref C))/\∃f fd,qF K C "__init__" f/\aZ K "__init__" y st f fd
def HdQ(K:PySem.W.Frag)(C f:Addr):Prop:=Mk K C f/\gU K C/\HdR K C
section
variable{K:PySem.W.Frag}{h:Heap}{mg:Str->Option Value}{C:Addr}{x y:Str}{st:Stmt}
theorem Oo(a:nsIn K abl x=some (some (.ref C)))(c:qF K C "__init__" f)(F:aZ K "__init__" y st f fd):Xj K C x y st:=⟨a,f,fd,c,F⟩
theorem Oq(a:nsIn K abl x=some (some (.ref C)))(m:Mk K C f)(F:aZ K "__init__" y st f fd)(c:Cls K C)(n:(findIn K (.ref C) "word" = some none/\findIn K (.ref C) "parts" = some none/\findIn K (.ref C) "part" = some none/\findIn K (.ref C) "left" = some none/\findIn K (.ref C) "right" = some none/\findIn K (.ref C) "name" = some none)/\HdR K C):sV K C x y st:=⟨a,⟨f,fd,m,F⟩,c,n⟩
theorem wu(X:K.In h)(G:h.Ns abl mg)(p:sV K C x y st):mg x=some (.ref C)/\∃f fd,aZ K "__init__" y st f fd/\HdQ K C f:=by
 obtain⟨a,⟨f,fd,m,F⟩,c,⟨n1,n2,n3,n4,n5,n6⟩,r⟩:=p
 exact⟨mg_of X G a,f,fd,F,m,⟨c,n1,n2,n3,n4,n5,n6⟩,r⟩
end
set_option maxHeartbeats 8000000 in
theorem Ot{l:PySem.W.OpenLaw}{K:PySem.W.Frag}(X:K.In h)(G:h.Ns abl mg)(bA:Xj K CA "Saying" "Saying.__init__" Z9)(bB:Xj K CB "OfOne" "OfOne.__init__" Z_)(bD:Xj K CD "OfTwo" "OfTwo.__init__" zPp)(h0:sV K C0 "All" "All.__init__" M6)(h1:sV K C1 "Mark" "Mark.__init__" Bj)(h2:sV K C2 "Not" "Not.__init__" M7)(h3:sV K C3 "SomeNext" "SomeNext.__init__" zEu)(h4:sV K C4 "EachNext" "EachNext.__init__" zEx)(h5:sV K C5 "SomeAlways" "SomeAlways.__init__" zCb)(h6:sV K C6 "EachAlways" "EachAlways.__init__" zCc)(h7:sV K C7 "SomeEver" "SomeEver.__init__" zEv)(h8:sV K C8 "EachEver" "EachEver.__init__" zEy)(h9:sV K C9 "Both" "Both.__init__" Bk)(h10:sV K C10 "Either" "Either.__init__" zJ7)(h11:sV K C11 "SomeTill" "SomeTill.__init__" zEt)(h12:sV K C12 "EachTill" "EachTill.__init__" zEw)(m:B_ K [] [C0,C1,C2,C3,C4,C5,C6,C7,C8,C9,C10,C11,C12])(hn:specialIn K (.builtin "object.__class__") "__get__" = some (some (.builtin "getset_descriptor.__get__")))(ht:takesIn K (.builtin "object.__class__")=some true)
   :∃(cl fi:Hd->Addr)(di:Hd->FuncData),∀base:Heap,Ts.qQ l.prog w K mg base 3 cl fi di:=by
 obtain⟨aA,fA,dA,cA,FA⟩:=bA
 have aA:=mg_of X G aA
 obtain⟨aB,fB,dB,cB,FB⟩:=bB
 have aB:=mg_of X G aB
 obtain⟨aD,fD,dD,cD,FD⟩:=bD
 have aD:=mg_of X G aD
 obtain⟨a0,f0,d0,F0,Q0⟩:=wu X G h0
 obtain⟨a1,f1,d1,F1,Q1⟩:=wu X G h1
 obtain⟨a2,f2,d2,F2,Q2⟩:=wu X G h2
 obtain⟨a3,f3,d3,F3,Q3⟩:=wu X G h3
 obtain⟨a4,f4,d4,F4,Q4⟩:=wu X G h4
 obtain⟨a5,f5,d5,F5,Q5⟩:=wu X G h5
 obtain⟨a6,f6,d6,F6,Q6⟩:=wu X G h6
 obtain⟨a7,f7,d7,F7,Q7⟩:=wu X G h7
 obtain⟨a8,f8,d8,F8,Q8⟩:=wu X G h8
 obtain⟨a9,f9,d9,F9,Q9⟩:=wu X G h9
 obtain⟨a10,f10,d10,F10,Q10⟩:=wu X G h10
 obtain⟨a11,f11,d11,F11,Q11⟩:=wu X G h11
 obtain⟨a12,f12,d12,F12,Q12⟩:=wu X G h12
 refine⟨λh=>([C0,C1,C2,C3,C4,C5,C6,C7,C8,C9,C10,C11,C12]:List Addr).getD (hix h) 0,λh=>([f0,f1,f2,f3,f4,f5,f6,f7,f8,f9,f10,f11,f12]:List Addr).getD (hix h) 0,λh=>([d0,d1,d2,d3,d4,d5,d6,d7,d8,d9,d10,d11,d12]:List FuncData).getD (hix h) d0,λbase=>?_⟩
 have Z:∀h,HdQ K (([C0,C1,C2,C3,C4,C5,C6,C7,C8,C9,C10,C11,C12]:List Addr).getD (hix h) 0) (([f0,f1,f2,f3,f4,f5,f6,f7,f8,f9,f10,f11,f12]:List Addr).getD (hix h) 0)/\([C0,C1,C2,C3,C4,C5,C6,C7,C8,C9,C10,C11,C12]:List Addr)[hix h]?=some (([C0,C1,C2,C3,C4,C5,C6,C7,C8,C9,C10,C11,C12]:List Addr).getD (hix h) 0):=λh=>by
  rcases h with _|_|i|i
  ·exact⟨Q0,rfl⟩
  ·exact⟨Q1,rfl⟩
  ·rcases Hg i with rfl|rfl|rfl|rfl|rfl|rfl|rfl<;>exact⟨by assumption,rfl⟩
  ·rcases Hh i with rfl|rfl|rfl|rfl<;>exact⟨by assumption,rfl⟩
 have oA:=zQm (P:=l.prog) (w:=w) (mg:=mg) (base:=base) FA
 have bA:=Ts.qC (p0:="self") (p1:="word") (p2:="parts") FA
 have oB:=zT5 FB aA cA oA bA
 have bB:=Ts.qC (p0:="self") (p1:="word") (p2:="part") FB
 have oD:=zT4 FD aA cA oA bA
 have bD:=Ts.P_ (p0:="self") (p1:="word") (p2:="left") (p3:="right") FD
 have o0:=M8 F0 Q0.2.1 aA cA oA bA
 have o1:=Gu F1 Q1.2.1 aA cA oA bA
 have o2:=M_ F2 Q2.2.1 aB cB oB bB
 have o3:=zKj F3 Q3.2.1 aB cB oB bB
 have o4:=zKm F4 Q4.2.1 aB cB oB bB
 have o5:=zHl F5 Q5.2.1 aB cB oB bB
 have o6:=zHm F6 Q6.2.1 aB cB oB bB
 have o7:=zKk F7 Q7.2.1 aB cB oB bB
 have o8:=zKn F8 Q8.2.1 aB cB oB bB
 have o9:=Gv F9 Q9.2.1 aD cD oD bD
 have o10:=zQn F10 Q10.2.1 aD cD oD bD
 have o11:=zKi F11 Q11.2.1 aD cD oD bD
 have o12:=zKl F12 Q12.2.1 aD cD oD bD
 refine⟨⟨λh=>(Z h).1.1,o0.mono (by decide),Ts.rE F0,o1.mono (by decide),Ts.jW F1,λi=>by rcases Hg i with rfl|rfl|rfl|rfl|rfl|rfl|rfl<;>assumption,λi=>by rcases Hg i with rfl|rfl|rfl|rfl|rfl|rfl|rfl<;>(first|exact Ts.jW F2|exact Ts.jW F3|exact Ts.jW F4|exact Ts.jW F5|exact Ts.jW F6|exact Ts.jW F7|exact Ts.jW F8),λi=>by rcases Hh i with rfl|rfl|rfl|rfl<;>assumption,λi=>by rcases Hh i with rfl|rfl|rfl|rfl<;>(first|exact Ts.qC F9|exact Ts.qC F10|exact Ts.qC F11|exact Ts.qC F12),a0,a1,λi=>by rcases Hg i with rfl|rfl|rfl|rfl|rfl|rfl|rfl<;>assumption,λi=>by rcases Hh i with rfl|rfl|rfl|rfl<;>assumption⟩,λh=>(Z h).1.2.1,λh h' t e=>?_,λh=>(Z h).1.2.2.1,hn,ht,λh=>(Z h).1.2.2.2.1⟩
 subst e
 rw[Hf]
 obtain⟨x,_,y⟩:=Va (D:=_) m (Z (hd t)).2
 by_cases e:hix h'=hix (hd t)
 ·rw[decide_eq_true e]
  exact G_ (Z h').1.2.2.2.2.1 (Z h').1.2.2.2.2.2 (by rw[e];exact x)
 ·rw[decide_eq_false e]
  exact Om (Z h').1.2.2.2.2.1 (Z h').1.2.2.2.2.2 (y (Z h').2 e) x
end Sy
namespace Ts
open PySem L2 Sy
def Ca(K:PySem.W.Frag):Sp:=λvs H Q _=>∃(a:Addr)(ns:LI),vs=[.ref a]/\aO K H a (ns.map V.int)/\ns.length<=63/\∀H',Q (.bl true) H'
section
variable{P:Program}{w:World}{K:PySem.W.Frag}{mg:Str->Option Value}{base h:Heap}{j k:Nat}{f C:Addr}{fd:FuncData}{ps:List Str}{sp:Sp}{x y:Str}{st:Stmt}
theorem aal(no:∀vs H Q E,¬sp vs H Q E):aq P w K mg base aM k f fd ps sp :=
 ⟨λvs H Q E h=>absurd h (no vs H Q E),λA outer s H args us vs Q E _ _ _ _ h=>absurd h (no vs H Q E)⟩
abbrev FP(K:PySem.W.Frag)(x:Str)(st:Stmt):Prop:=∃f fd,nsIn K abl x=some (some (.ref f))/\aZ K x x st f fd
abbrev MP(K:PySem.W.Frag)(C:Addr)(x y:Str)(st:Stmt):Prop:=∃f fd,Meth K C x f/\aZ K x y st f fd
def Ju(K:PySem.W.Frag):List Str->Prop
 |[]=>True
 |x::r=>nsIn K abl x=some none/\Ju K r
theorem Vb(a:nsIn K abl x=some (some (.ref f)))(F:aZ K x x st f fd):FP K x st:=⟨f,fd,a,F⟩
theorem Vc(a:Meth K C x f)(F:aZ K x y st f fd):MP K C x y st:=⟨f,fd,a,F⟩
theorem Hj{dV oc kV doc pm cdv ct:Value}{od an:Option Addr}{osl:Array (Option Value)}(l:K.lookup f=some ⟨oc,od,.func (fnOf x y (uA st) (wF st) (zH st) dV kV doc pm an cdv ct),osl⟩)(c:codeIn K cdv y=true)(k:keepIn K (.ref f)=true):Bh K x y st dV f (fnOf x y (uA st) (wF st) (zH st) dV kV doc pm an cdv ct):=⟨⟨oc,od,kV,doc,pm,an,cdv,ct,osl,rfl,l,c⟩,k⟩
theorem Ou(X:K.In h)(G:h.Ns abl mg)(p:FP K x st)(t:∀f fd,aZ K x x st f fd->aq P w K mg base aM k f fd ps sp/\Binds K fd ps []):bJ P w K mg base k x ps sp:=by
 obtain⟨f,fd,a,F⟩:=p
 exact⟨f,fd,(t f fd F).1,(t f fd F).2,F.kp,mg_of X G a⟩
theorem Hl(c:Cls K C)(p:MP K C x y st)(t:∀f fd,aZ K x y st f fd->aq P w K mg base aM k f fd ps sp/\Binds K fd ps []):gj P w K mg base k C x ps sp:=by
 obtain⟨f,fd,a,F⟩:=p
 exact⟨⟨f,fd,(t f fd F).1,(t f fd F).2,a⟩,c⟩
theorem bJ.m(c:bJ P w K mg base j x ps sp)(h:j<=k:=by decide):bJ P w K mg base k x ps sp:=c.mono h
theorem gj.m(c:gj P w K mg base j C x ps sp)(h:j<=k:=by decide):gj P w K mg base k C x ps sp:=c.mono h
end
set_option maxHeartbeats 8000000 in
theorem all_mk{l:PySem.W.OpenLaw}{K:PySem.W.Frag}(X:K.In h)(G:h.Ns abl mg)(hfa:mg "law" = some (.ref fa))(SY:∃(cl fi:Hd->Addr) (di:Hd->FuncData),∀base:Heap,qQ l.prog w K mg base 3 cl fi di)(h1:FP K "sources_of" WR)(h2:FP K "is_stand" jF)(h3:FP K "check_stands" dM)(h4:FP K "check_steps" fG)(h5:FP K "is_name" lq)(h6:FP K "check_marks" fH)(h7:FP K "check_fair" gw)(h8:FP K "copied" mZ)(h9:FP K "everywhere" gk)(h10:FP K "flags" qe)(h11:FP K "without" kO)(h12:FP K "others" mU)(h13:FP K "together" jC)(h14:FP K "shared" mV)(h15:FP K "distances" iy)(h16:FP K "comes_to" jD)(h17:FP K "steps_into" gn)(h18:FP K "stepping_to" eZ)(h19:FP K "bits_of" kW)(h20:FP K "onward_bits" fj)(h21:FP K "rings" qg)(h22:FP K "missed_by" iz)(h23:FP K "fair_rings" gq)(h24:FP K "joined" mW)(h25:FP K "core" rY)(h26:FP K "alive" s_alive)(h27:FP K "some_next" iB)(h28:FP K "some_till" iC)(h29:FP K "spoilers" jE)(h30:FP K "each_till" iD)(h31:FP K "meaning_over_walks" bZ)(h32:FP K "meaning" lg)(h33:FP K "table_among" fu)(h34:FP K "table" qj)(h35:FP K "holds" ql)(h36:FP K "_law_cell" m5)(h37:FP K "_law_grown" pC)(h38:FP K "_law_single" m6)(h39:FP K "_law_made" qU)(h40:FP K "_law_bits" m7)(h41:FP K "_law_next" m8)(h42:FP K "_law_drawn" lu)(h43:FP K "_law_words" pD)(h44:FP K "_law_dead" m_)(h45:FP K "law" pF)(aC:nsIn K abl "Machine" = some (some (.ref C)))(mk:Mk K C fI)(FI:Bh K "__init__" "Machine.__init__" Bd (.ref TD) fI Xh)(lT:K.lookup TD=some ⟨ocT,odT,.seq #[.none,.none] nT,slT⟩)(m0:MP K C "many" "Machine.many" dN)(m1:MP K C "next_of" "Machine.next_of" cO)(m2:MP K C "before" "Machine.before" cV)(m3:MP K C "marked" "Machine.marked" cX)(m4:MP K C "fair_at" "Machine.fair_at" cP)(cC:Cls K C)(nC:findIn K (.ref C) "steps" = some none/\findIn K (.ref C) "marks" = some none/\findIn K (.ref C) "fair" = some none/\findIn K (.ref C) "sources" = some none)(oG:nsIn K abl "LETTERS" = some (some (.str "abcdefghijklmnopqrstuvwxyz" v8)))(fL:nsIn K abl "LONGEST_NAME" = some (some (.int 8 nq)))(gJ:nsIn K abl "MOST_STANDS" = some (some (.int 60 oX)))(fP:nsIn K abl "SAYING_WORDS" = some (some (.ref b_)))(oY:K.lookup b_=some ⟨.type "tuple",none,.seq #[.str "all" wz,.str "not" w5,.str "both" w6,.str "either" xg,.str "somenext" xq,.str "eachnext" xu,.str "sometill" yc,.str "eachtill" yg,.str "someever" yh,.str "eachever" yj] Cd,zc⟩)(z:Ju K ["len","range","isinstance","int","bool","list","enumerate","any","all","sorted","str","set","zip","reversed","sum"]) :
  ∃fd:FuncData,(∀(s:Shared)(v:Value),BindsTo s fd ⟨[v],[]⟩ [("_law_script",v)])/\∀base:Heap,K.In base->base.Ns abl mg->aq l.prog w K mg base aM 20 fa fd ["_law_script"] (Ca K):=by
 obtain⟨f,fd,a,⟨oc,od,kV,dc,pm,an,cd,ct,sl,rfl,lk,ck⟩,kp⟩:=h45
 have e:=hfa.symm.trans (mg_of X G a)
 cases e
 obtain⟨cl,fi,di,I0⟩:=SY
 obtain⟨aam,Ov,rC,aan,Vd,Ve,sW,Nt,Nm,bK,Np,mq,NP,fZ,Ol,_⟩:=z
 obtain⟨nS,nM,nF,nB⟩:=nC
 have N:∀{x:Str},nsIn K abl x=some none->mg x=none:=λe=>PySem.W.mg_none_of X G e
 have B:Bl K mg:=⟨N aam,N Ov,N rC,N aan,N Vd,N Ve,N sW,RN,RQ,RP⟩
 have aao:=N Nt
 have aap:=N Nm
 have gM:=N bK
 have aaq:=N Np
 have Ho:=N mq
 have aar:=N NP
 have yp:=N fZ
 have aas:=N Ol
 have oG:=mg_of X G oG
 have fL:=mg_of X G fL
 have gJ:=mg_of X G gJ
 have fP:=mg_of X G fP
 have T:Cl K mg C:=⟨cC,nS,nM,nF,nB,mg_of X G aC⟩
 have U9:Binds K Xh ["self","steps","marks","fair"] []:=λs us KX hl=>by
  obtain⟨_,_,_,_,_,_,_,_,_,rfl,_⟩:=FI.ex
  have h2:us.length=4:=by
   rw[length_append] at hl
   have:([]:List Value).length=0:=rfl
   have h4:(["self","steps","marks","fair"]:List Str).length=4:=rfl
   omega
  match us,h2 with
  |[u0,u1,u2,u3],_=>exact BindsTo.of_defaults rfl (KX _ _ lT) rfl rfl rfl
 refine⟨fnOf "law" "law" (uA pF) (wF pF) (zH pF) .none kV dc pm an cd ct,λs v=>.of_eq rfl,λbase _ _=>?_⟩
 have cal:∀{k:Nat}{x:Str}{st:Stmt}{ps:List Str}{sp:Sp},FP K x st->(∀f fd,aZ K x x st f fd->aq l.prog w K mg base aM k f fd ps sp/\Binds K fd ps [])->bJ l.prog w K mg base k x ps sp:=λh t=>Ou X G h t
 have Ce:∀{k:Nat}{x y:Str}{st:Stmt}{ps:List Str}{sp:Sp},MP K C x y st->(∀f fd,aZ K x y st f fd->aq l.prog w K mg base aM k f fd ps sp/\Binds K fd ps [])->gj l.prog w K mg base k C x ps sp:=λh t=>Hl cC h t
 have I:=I0 base
 have dO:∀H:Hp,cu K H b_ ((["all","not","both","either","somenext","eachnext","sometill","eachtill","someever","eachever"]:List Str).map V.str):=λH=>.inr ⟨_,_,_,oY,rfl,rfl,(by show 10<=sizeLine;decide),by repeat(first|exact Paired.nil|refine Paired.cons ⟨_,rfl⟩ ?_)⟩
 have jG:=cal h2 λ_ _ F=>⟨zKg (k:=0) F B,jW F⟩
 have aN:=cal h3 λ_ _ F=>⟨zE5 (k:=1) F B jG.m,qC F⟩
 have oZ:=cal h4 λ_ _ F=>⟨zF8 (k:=2) F B gJ aN.m,rE F⟩
 have lB:=cal h5 λ_ _ F=>⟨zNr (k:=0) F B oG fL fP dO aap aaq,rE F⟩
 have o_:=cal h6 λ_ _ F=>⟨zF9 (k:=2) F B aN.m lB.m,jW F⟩
 have qy:=cal h7 λ_ _ F=>⟨zHk (k:=2) F B aN.m,jW F⟩
 have Cg:=cal h8 λ_ _ F=>⟨zQl (k:=0) F B,rE F⟩
 have aat:=cal h1 λ_ _ F=>⟨M4 F B,rE F⟩
 have OI:aq l.prog w K mg base aM 4 fI Xh ["self","steps","marks","fair"] (Sh K C (Je C)):=M5 (k:=3) FI T B oZ.m o_.m qy.m Cg.m aat.m
 have aL:=Ce m0 λ_ _ F=>⟨zE6 (k:=0) (C:=C) F B T,rE F⟩
 have aU:=Ce m1 λ_ _ F=>⟨zCx (k:=0) (C:=C) F B T gM,jW F⟩
 have cY:=Ce m2 λ_ _ F=>⟨zDo (k:=0) (C:=C) F B T,jW F⟩
 have c7:=Ce m3 λ_ _ F=>⟨zDn (k:=0) (C:=C) F B T gM,jW F⟩
 have cQ:=Ce m4 λ_ _ F=>⟨zCy (k:=0) (C:=C) F B T gM,jW F⟩
 have aJ:=cal h9 λ_ _ F=>⟨zHj (k:=1) (C:=C) F B aL.m,rE F⟩
 have iU:=cal h10 λ_ _ F=>⟨zT2 (k:=1) (C:=C) F B aL.m,jW F⟩
 have dJ:=cal h11 λ_ _ F=>⟨zNo (k:=0) F B gM Ho,jW F⟩
 have aV:=cal h12 λ_ _ F=>⟨zQf (k:=2) (C:=C) F B aJ.m dJ.m,jW F⟩
 have cZ:=cal h13 λ_ _ F=>⟨zKe (k:=0) F B gM Ho,jW F⟩
 have aX:=cal h14 λ_ _ F=>⟨zQe (k:=0) F B gM Ho,jW F⟩
 have iI:=cal h15 λ_ _ F=>⟨zIw (k:=2) (C:=C) F B cY.m aL.m iU.m,qC F⟩
 have bL:=cal h16 λ_ _ F=>⟨zKh (k:=3) (C:=C) F B iI.m,qC F⟩
 have gF:=cal h17 λ_ _ F=>⟨zHh (k:=1) (C:=C) F B aao aU.m,qC F⟩
 have fK:=cal h18 λ_ _ F=>⟨zF6 (k:=2) (C:=C) F B iU.m gF.m,qC F⟩
 have iV:=cal h19 λ_ _ F=>⟨zNs (k:=0) F B,rE F⟩
 have fJ:=cal h20 λ_ _ F=>⟨zF7 (k:=1) (C:=C) F B aL.m aU.m iV.m,jW F⟩
 have qt:=cal h21 λ_ _ F=>⟨zT0 (k:=2) (C:=C) F B gM Ho fJ.m,jW F⟩
 have iQ:=cal h22 λ_ _ F=>⟨zIu (k:=1) (C:=C) F B T cQ.m aX.m,jW F⟩
 have gG:=cal h23 λ_ _ F=>⟨zHi (k:=3) (C:=C) F B iQ.m qt.m,jW F⟩
 have nO:=cal h24 λ_ _ F=>⟨zQk (k:=0) F B,rE F⟩
 have gH:=cal h25 λ_ _ F=>⟨GD (k:=4) (C:=C) F B bL.m gG.m nO.m,jW F⟩
 have qu:=cal h26 λ_ _ F=>⟨zT3 (k:=5) (C:=C) F B gH.m aJ.m,rE F⟩
 have eU:=cal h27 λ_ _ F=>⟨zIt (k:=3) (C:=C) F B aJ.m aX.m fK.m,qC F⟩
 have dw:=cal h28 λ_ _ F=>⟨zIs (k:=4) (C:=C) F B bL.m aX.m,P_ F⟩
 have jH:=cal h29 λ_ _ F=>⟨zKf (k:=3) (C:=C) F B aV.m aX.m dJ.m,P_ F⟩
 have eN:=cal h30 λ_ _ F=>⟨zIv (k:=5) (C:=C) F B bL.m gH.m aV.m jH.m cZ.m,P_ F⟩
 have cg:=cal h31 λ_ _ F=>⟨zBi (k:=6) (C:=C) (cl:=cl) F B I gH.m eN.m aJ.m aV.m eU.m dw.m,P_ F⟩
 have lC:=cal h32 λ_ _ F=>⟨zNp (k:=7) (C:=C) (cl:=cl) F B I c7.m aJ.m cg.m aV.m aX.m cZ.m,P_ F⟩
 have oH:∀n:Nat,bJ l.prog w K mg base (8+n) "table_among" ["machine","living","saying"] (uJ K C cl (yQ n)):=λn=>by
  induction n with
  |zero=>exact cal h33 λ_ _ F=>⟨aal (λvs H Q E ⟨_,_,_,_,z,_⟩=>by cases z),qC F⟩
  |succ n ih=>exact cal h33 λ_ _ F=>⟨zF5 (k:=8+n) F B I (lC.mono (aa8 (by decide) (acu 8 n))) ih,qC F⟩
 have cI:bJ l.prog w K mg base 17 "table_among" ["machine","living","saying"] (zDc K C cl):=oH 9
 have iW:=cal h34 λ_ _ F=>⟨zTz (k:=17) (C:=C) (cl:=cl) F B qu.m cI.m,jW F⟩
 have mJ:=cal h35 λ_ _ F=>⟨zT1 (k:=18) (C:=C) (cl:=cl) F B iW.m,jW F⟩
 have dY:=cal h36 λ_ _ F=>⟨zQi (k:=0) F B,rE F⟩
 have lG:bJ l.prog w K mg base 8 "_law_grown" ["_law_rest","_law_names","_law_deep"] (zJq K):=by
  obtain⟨f,fd,a,F⟩:=h37
  obtain⟨gC,dC,GC0,bC,kC,mC⟩:=dY
  exact⟨f,fd,Sy.Ja F (qC F) (mg_of X G a) (U_ GC0) bC kC mC B 6,qC F,F.kp,mg_of X G a⟩
 have sX:bJ l.prog w K mg base 5 "_law_single" ["_law_word","_law_part"] (Sy.Ng cl):=by
  obtain⟨f,fd,a,F⟩:=h38
  exact⟨f,fd,Sy.Ud F I.ini,jW F,F.kp,mg_of X G a⟩
 have d_:bJ l.prog w K mg base 11 "_law_made" ["_law_tree"] (W2 K cl):=by
  obtain⟨f,fd,a,F⟩:=h39
  obtain⟨gS,dS,GS,bS,kS,mS⟩:=sX
  exact⟨f,fd,Nj (Sy.Jc F (rE F) (mg_of X G a) I.ini GS bS kS mS B 6),rE F,F.kp,mg_of X G a⟩
 have kh:=cal h40 λ_ _ F=>⟨zQj (k:=0) F B,jW F⟩
 have n8:=cal h41 λ_ _ F=>⟨zQg (k:=0) F B,qC F⟩
 have lF:=cal h42 λ_ _ F=>⟨zNq (k:=1) F B kh.m dY.m n8.m,rE F⟩
 have lE:bJ l.prog w K mg base 6 "_law_words" ["_law_tree"] (zFz K):=by
  obtain⟨f,fd,a,F⟩:=h43
  exact⟨f,fd,Nk (Sy.Jd F (rE F) (mg_of X G a) 6),rE F,F.kp,mg_of X G a⟩
 have oF:=cal h44 λ_ _ F=>⟨zQh (k:=18) (C:=C) (cl:=cl) F B aar d_.m lE.m iW.m,qC F⟩
 refine aq.imp (Oj (k0:=18) (C:=C) (cl:=cl) (mL lk ck kp) B T mk (OI.mono (by decide)) U9 yp aas oF.m lF.m lG.m d_.m mJ.m) λvs H Q E h=>?_
 obtain⟨a,ns,rfl,hS,h63,hQ⟩:=h
 obtain⟨b,e1,e2⟩:=zUd C cl ⟨ns⟩
 subst e2
 exact⟨(⟨ns⟩,()),true,H,.refl _,e1,.cons ⟨a,rfl,hS⟩ .nil,λv H' _ r=>by cases r;exact hQ H'⟩
theorem walk{l:PySem.W.OpenLaw}{YP:World->Heap->Prop}{d:DefRec}{K:Params->PySem.W.Frag}(hn:l.most=some 63)(hdf:d.params.defaults=[])(hY:∀(w:World) (h:Heap),YP w h->(K w.params).In h)(F:∀(w:World) (mg:Str->Option Value) (fa:Addr) (h:Heap),(K w.params).In h->h.Ns abl mg->mg d.name=some (.ref fa) ->
   ∃fd:FuncData,(∀(s:Shared) (u:Value),BindsTo s fd ⟨[u],[]⟩ [("_law_script",u)])/\∀base:Heap,(K w.params).In base->base.Ns abl mg->aq l.prog w (K w.params) mg base aM 20 fa fd ["_law_script"] (Ca (K w.params))) :
  PySem.W.WalkO q loose XP YP l.row.toRowW d [] (λf vs=>PySem.call f vs) :=
 L2.DW (n:=63) (k:=20) (x:="_law_script") (CX:=λ_=>aM) (sp:=λw=>Ca (K w.params)) hn (by decide) hdf ⟨rfl,by decide,by decide⟩ hY F (λ_ _ a ns hl _ hS=>⟨a,ns,rfl,hS,hl,λ_=>rfl⟩) λ_ _ _ _ _ z=>z
end Ts
namespace PySem.W.Fast
def tw10159209996476312371:=0
def tw12082217104766547673:=0
def tw1893655700486442641:=0
def tw15451042666214631384:=0
def tw8718129530963606271:=0
def tw7887689020742373192:=0
def tw8163500964409330253:=0
def tw9987911432738793511:=0
def tw109551112218043388:=0
def tw6555076502485651769:=0
def tw817914584808164405:=0
def tw13468709023154349181:=0
def tw6086636046074753046:=0
def tw10614439271754564000:=0
def tw3370453863453555214:=0
def tw708418060646178923:=0
def tw3273155948648918615:=0
def tw1125371516766092769:=0
def tw18275612405913707933:=0
def tw12031061740942317832:=0
def tw10232156299900025273:=0
def tw4675122135736201620:=0
def tw11036963174966592807:=0
def tw9413278595636078212:=0
def tw5707254344900365651:=0
def tw15749793760888335688:=0
def tw4234013731938178202:=0
def tw6282015696413227911:=0
def tw4088136521666445955:=0
def tw12894502416010315969:=0
def tw13173049264091154032:=0
def tw13362196633632807005:=0
def tw9794636828556557903:=0
def tw1669480457304225651:=0
def tw9530287376790947269:=0
def tw6764395883207739948:=0
def tw14341380473993631744:=0
def tw12897112684396313591:=0
def tw5879201572522019670:=0
def tw4473256094086713364:=0
def tw9782168590074102819:=0
def tw11275724145670196995:=0
def tw6768148800297780632:=0
def tw4910548124985195313:=0
def tw3406493579050311691:=0
def tw16588918714562918904:=0
def tw14974630439820886888:=0
def tw6179957777219449387:=0
def tw7089519443044563885:=0
def tw8671256929474209451:=0
def tw718894688613665136:=0
def tw3509712671559278861:=0
def tw6633385890122681489:=0
def tw15927952237851874545:=0
def tw1691883201931397274:=0
def tw3473722748616738392:=0
def tw3140274490170065936:=0
def tw8680529510967106136:=0
def tw8456441835040640280:=0
def tw1563536840238177303:=0
def tw11563336243178966618:=0
def tw1194935735253537828:=0
def tw10819645995148444762:=0
def tw14778930537661582356:=0
def tw11698066872212371787:=0
def tw2782169163685223240:=0
def tw8944911152452840602:=0
def tw8303424552002129462:=0
def tw11369974980096612708:=0
def tw8405649861509638403:=0
def tw1832858103887090840:=0
def tw4212967794827482218:=0
def tw6238610519455385316:=0
def tw1807681025650768225:=0
def tw9973501055374199607:=0
def tw8747778573607510029:=0
def tw12457268522869503531:=0
def tw5780985890390826125:=0
def tw5823880019248305864:=0
def tw14477084165060259624:=0
def tw2221009851034022981:=0
def tw7507625998632783910:=0
def tw13740093717452086057:=0
def tw18028082954654516585:=0
def tw3617267238428327574:=0
def tw1861502134176282716:=0
def tw1508760642925858427:=0
def tw8440638280123718439:=0
def tw13385161350727721093:=0
def tw10179309220587841971:=0
def tw13707915608886214342:=0
def tw12506154144007049350:=0
def tw4169694153439036933:=0
def tw14555619270196432925:=0
def tw4030283734447911305:=0
def tw10300751891702087999:=0
def tw17010696251507773915:=0
def tw12331764970103501355:=0
def tw8691728922633731707:=0
def tw13310327362393838201:=0
def tw3846032055564428820:=0
def tw15394999114040984776:=0
def tw10416905796639229006:=0
def tw14408699831963467629:=0
def tw15206524999382250267:=0
def tw2928541618121590247:=0
def tw10750960266765170538:=0
def tw1036909322650212968:=0
def tw163478683130680963:=0
def tw13246282763821494046:=0
def tw2765544963777554589:=0
def tw17957338167163263559:=0
def tw8384800636169413017:=0
def tw3068146612547788340:=0
def tw16682008546219097749:=0
def tw1026503176274761960:=0
def tw8086913275350894028:=0
def tw51125886994121580:=0
def tw1141349304484491764:=0
def tw15739569226721437172:=0
def tw5283350504304562807:=0
def tw13258588154755195095:=0
def tw9956594353288365200:=0
def tw16251502401206717008:=0
def tw10403785595407395265:=0
def tw18440276426810131366:=0
def tw2451530422855845260:=0
def tw12883611998305070055:=0
def tw13589984407326507549:=0
def tw10201801391763539166:=0
def tw3192112892276367454:=0
def tw1456762238950058101:=0
def tw8393729739733669743:=0
def tw924335135952518987:=0
def tw9715199655711281504:=0
def tw2881244299191810750:=0
def tw4985783520171993581:=0
def tw3823180380088891415:=0
def tw1801145649521385925:=0
def tw11952351752930279372:=0
def tw1541170425401228210:=0
def tw10462671393008488811:=0
def tw15970997199386487781:=0
def tw2102613929198121157:=0
def tw4301288438782848285:=0
def tw14781884567135246407:=0
def tw8913514193806399348:=0
def tw16307599916489996851:=0
def tw5336964681863100277:=0
def tw6289365319024967684:=0
def tw5282916605696296134:=0
def tw6312431099188073867:=0
def tw5999030703976194252:=0
def tw15472063215745230204:=0
def tw16334744686662041151:=0
def tw8482408752155585279:=0
def tw1981351111160699161:=0
def tw7591828264343207012:=0
def tw10162843529219217098:=0
def tw14587819413061039108:=0
def tw17971044772245695271:=0
def tw2627939744583594941:=0
def tw13890261449189253505:=0
def tw7639627665619561744:=0
def tw18220124365223173383:=0
def tw2341059707767545434:=0
def tw7758210874270677604:=0
def tw2318015922991221813:=0
def tw18432445211268233362:=0
def tw11728641907913037316:=0
def tw1037791186641790584:=0
def tw4620632450198804694:=0
def tw16330249761913189798:=0
def tw3502242740286246257:=0
def tw10780112862321513364:=0
def tw17519151890893153243:=0
def tw9353382897841488263:=0
def tw6045911161489673364:=0
def tw17544388850800474479:=0
def tw6532508131185780105:=0
def tw12691215472484382336:=0
def tw8944669640871470815:=0
def tw400242397383674058:=0
def tw6158770335267083253:=0
def tw17021551907418301644:=0
def tw5241277074413544053:=0
def tw4508459190347987405:=0
def tw793802263488491869:=0
def tw12447954251319219571:=0
def tw7121816046832690677:=0
def tw8000230252967502491:=0
def tw7573715506974272946:=0
def tw15357800701844751210:=0
def tw9330197917107930815:=0
def tw450455727538325829:=0
def tw14904870291723407255:=0
def tw5655882037547026029:=0
def tw12878946081847164776:=0
def tw18021025449006665837:=0
def tw12133883680552711031:=0
def tw13609681330406019871:=0
def tw11037662938037224626:=0
def tw9337315240532137185:=0
def tw9756458745436373185:=0
def tw3227084426944521196:=0
def tw5447411709713752325:=0
def tw10035873571182215579:=0
def tw905052527198367893:=0
def tw14831928317828933421:=0
def tw6131263681029871497:=0
def tw11898014735406626199:=0
def tw17133362557019494379:=0
def tw17930351843324815350:=0
def tw18302126302246808325:=0
def tw12715930922955752554:=0
def tw13369078424444175866:=0
def tw5738402078274924267:=0
def tw5787123039958736337:=0
def tw13493241851723994746:=0
def tw13016844954116386098:=0
def tw14982305454383471566:=0
def tw11402012127773159067:=0
def tw9973781165352370493:=0
def tw188417478291356251:=0
def tw425334418757452215:=0
def tw17822782036710234185:=0
def tw1404159381730753874:=0
def tw6192280350922012219:=0
def tw18094508281037650623:=0
def tw1070979274909692909:=0
def tw699890684049057942:=0
def tw670021364438833427:=0
def tw14513347208678268693:=0
def tw6286136007193799847:=0
def tw8795779945818665445:=0
def tw8401243099966169030:=0
def tw9185516952960100165:=0
def tw3524758223291626531:=0
def tw12217306852190364874:=0
def tw5818538847323315749:=0
def tw11349896776182656842:=0
def tw3419999573974293684:=0
def tw6081326376370609476:=0
def tw12504373983830546305:=0
def tw6914787482930236787:=0
def tw6161437894101129993:=0
def tw3202144514519666402:=0
def tw15674739992076477044:=0
def tw6622579025454481322:=0
def tw11727776052808851011:=0
def tw10112419340331434188:=0
def tw5143089013180164645:=0
def tw13795979011065918701:=0
def tw8694179142135794264:=0
def tw6413500634516915628:=0
def tw1711269061164464522:=0
def tw1237604999015265705:=0
def tw12572687880920335363:=0
def tw15227487927259391592:=0
def tw7125266752069709840:=0
def tw6463293062825474354:=0
def tw3813310178735831684:=0
def tw10282364673940826345:=0
def tw7040173801563805977:=0
def tw11642332035503122360:=0
def tw17553294541076200599:=0
def tw9539896242644483825:=0
def tw2545952392716324767:=0
def tw13589650898491830134:=0
def tw7737423825525889756:=0
def tw8951012374793890962:=0
def tw6120592122830607586:=0
def tw213930842291488949:=0
def tw4468730489269546998:=0
def tw6804105532639130876:=0
def tw6720456751779080931:=0
def tw13285342460388369430:=0
def tw7241401951853573739:=0
def tw17412683892847177241:=0
def tw11294254484596571169:=0
end PySem.W.Fast
open PySem PySem.W PyProof.Rows
set_option maxRecDepth 100000 in
set_option maxHeartbeats 0 in
theorem PySem.Challenge.cw_treesay_k48_fair_sets_turned_holds : PySem.Challenge.rw_treesay_k48_fair_sets_turned.Holds := by
 w_on; o_law; k_head; (case hw=>w_witness2)
 k_fill
 refine Ts.walk (l:=PySem.Challenge.rw_treesay_k48_fair_sets_turned) rfl rfl (fun w h Y=>by first | exact PySem.W.kIn_of Y | exact PySem.W.km_in_of Y) ?F
 case F =>
  intro w mg fa h KX G hmg
  refine' Ts.all_mk KX G hmg (Sy.Ot KX G ?_ ?_ ?_ ?_ ?_ ?_ ?_ ?_ ?_ ?_ ?_ ?_ ?_ ?_ ?_ ?_ ?_ ?_ ?_) ?_ ?_ ?_ ?_ ?_ ?_ ?_ ?_ ?_ ?_ ?_ ?_ ?_ ?_ ?_ ?_ ?_ ?_ ?_ ?_ ?_ ?_ ?_ ?_ ?_ ?_ ?_ ?_ ?_ ?_ ?_ ?_ ?_ ?_ ?_ ?_ ?_ ?_ ?_ ?_ ?_ ?_ ?_ ?_ ?_ ?_ ?_ ?_ ?_ ?_ ?_ ?_ ?_ ?_ ?_ ?_ ?_ ?_ ?_ ?_ ?_ ?_
  all_goals first | refine' Sy.Oq ?_ ⟨?_,?_,?_,?_⟩ (L2.mL ?_ ?_ ?_) ⟨?_,?_,?_,?_⟩ ?_ | refine' Sy.Oo ?_ ⟨?_,?_,?_,?_⟩ (L2.mL ?_ ?_ ?_) | refine' Ts.Vc ⟨?_,?_,?_⟩ (L2.mL ?_ ?_ ?_) | refine' Ts.Vb ?_ (L2.mL ?_ ?_ ?_) | refine' Ts.Hj ?_ ?_ ?_ | refine' ⟨?_,?_,?_,?_⟩ | skip
  all_goals repeat' first | refine' And.intro ?_ ?_ | exact True.intro
  all_goals first | k_is | skip
  all_goals first | k_is | skip
