import PyProof.Rows.All
import Wide.All
import OpenK.AllK
import Wide.FinOn
import Lean
import PyProof.EqAt
import PyProof.EqKinds
import PyProof.TupleCall
import PyProof.NeKinds
import PyProof.EnumStmt
import PyProof.EnumMake
import PyProof.CompFree
import PyProof.Rows.FStr
import PySem.Challenge.RW_treesay_k51_reasons_of_next
open PySem renaming wpAny_bind->aan,wpAny_pure->aap,boot_len->aa4,wpAny_setState_of->aa5,mainGlobals->abb,wpAny_holding->abj,wpAny_Call_Name_kw->abp,mem_of_lookup->abv,Spec->aby,wpAny_setEpoch_of->ab9,wpAny_truthy_bool->acd,wpAny_call_entry->acf,wpAny_mono->acg,fits_of_scanBound->aci,wpAny_storeSet_of->acj,codeAny_builtin->acr,builtinLookup_eq_fast->acy,wpAny_passesOwn->acz,wpAny_newObj_type->ac3,wpAny_updateSeq->ac9,plainId_quiet->adb,wpAny_setField->adh,codeAny_mono->adn,wpAny_askSetting->ado,wpAny_forIn_list->adp,wpAny_isInstance->adq,typeLookup_type->ady,wpAny_rule->ad1,wpAny_callSpecial?_slot->ad5,wpAny_pyIter_list->ad8,wpAny_seqItems->ad9,wpAny_field->aeb,wpAny_execs_nil->aee,entryFor_alias->aeh,tupleKind_room_in1->aei,sizeLine_eq->aen,call_meets->aew,sub_set_self->aex,wpAny_ite_split->aey,wpAny_specialOf->aez,seqIndex_of->ae3,wpAny_attempt->ae8,wpAny_standAt->ae9,Within->afi,seqIndex_neg->afk,wpAny_typeOf->afl
open List renaming getElem?_eq_getElem->aao,range->aat,getElem?_eq_some_iff->aa2,getElem?_eq_none->abz,lookup->ac0,not_mem_nil->aeu
open Nat renaming le_refl->aaq,ne_of_lt->aav,lt_of_lt_of_le->aax,le_trans->aaz,lt_of_le_of_lt->aa1,zero_le->abf,le_add_right->abh,succ_le_succ->abl,lt_irrefl->abu,le_succ->ab6,le_of_lt->ach,lt_succ_self->acv,zero_add->ac1,lt_succ_of_lt->ade,lt_trans->adk,ne_of_gt->adl,add_lt_add_left->adu,not_lt_zero->aed,succ_pos->aeg,le_of_lt_succ->aek,le_of_succ_le->ael,mod_lt->afa,not_lt->afb
open Array renaming getElem?_eq_getElem->aar,getElem?_eq_none->aa9
open Bool renaming and_eq_true->aas,false_eq_true->aaw,false_ne_true->aa0,eq_iff_iff->abm,not_true->abn,or_eq_true->acn,false_or->aea,and_false->ae0,not_false->ae1,and_self->ae5
open PySem.PassesOwn renaming never->aau
open Option.some renaming inj->aay
open PySem.F renaming plainAttrs_list->aa3,slot_list_append->aa7,type_list_append->aa8,plain_extend_loop->acs,slot_zip_next->aec
open PySem.NameKind renaming free->aa6,cell->ab1
open PySem.Builtin renaming bitAnd->abd,bitNot->ac7,bitOr->ada
open PySem.Value renaming ref->abe,int->ab7,type->acw,none->ac5,isInt_shape->adf,str->ae4,bool->afd,float->afo
open Sum renaming inl->abg,inr->ab3
open PyProof.Rows renaming callWith_type1->abk,envOfC->aef,Constant_none->ae6
open False renaming elim->abo
open PySem.Builtin.Frozenset renaming unchanged->abq,slot1->ac6,sizeOf->adw
open Int renaming toNat_natCast->abr,emod_lt_of_pos->ace,emod_nonneg->acp,natCast_nonneg->ac8,ofNat->adi,le_refl->aej
open Ne renaming symm->abt
open PySem.Obj renaming mapSeq->abw,mapFields->aeo,putSet->afc
open PySem.Builtin.List renaming listExtendWith->abx,listLengthHint->acu,listSameRef->ac4,listTooLong->adx
open PySem.Builtin.SmallTypes renaming ownedTupleIsFree->ab0,nextOf->adt
open Option renaming isSome_iff_exists->ab2,isSome_some->ad0,isSome_map->aem,none->afm
open PySem.Around renaming under_plainId->ab4,under->afe
open Classical renaming propDecidable->ab5
open LawfulBEq renaming eq_of_beq->ab8
open ForInStep renaming yield->aco
open True renaming intro->acq
open PySem.Str renaming ofString->ac2,empty->ad4
open PySem.W renaming cellsFrom_some->adg,kia_one->ad7,methodCall_KW->aes,callWith_K->aev,plainGet_of->ae2
open PySem.Calls renaming spliced_cons->adz,spliced_nil->ad6
open PySem.Builtin.Str renaming occurrences->ad2
open PyProof.Rows.F renaming plain_set_update_loop->ad3
open PySem.Paired renaming length->aep
open PySem.SetTable renaming fill->aer
open PySem.Value.ref renaming inj->ae7
open PySem.Code renaming isFrame->afg
open Iff renaming rfl->afh
open PySem.pickOrder renaming go->afj
open Sum.inl renaming inj->afn
open PySem.W (instObj methodObj lookIn plainGet hasDictIn findIn plainGet_of isFn takerIn typeIn emptyDict specialIn keepIn takesIn mroIn kitOne kia_one callWith_K methodCall_KW cellsFrom_some fnOf codeIn kitCls isClsIn nsIn mg_of)
open List (mem_filter mem_range filterMap_cons mem_cons_self mem_cons_of_mem mem_cons mem_append mem_append_left getElem_inj mem_append_right size_toArray any_eq_false length_cons map_cons length_map append_nil nodup_cons of_mem_zip replicate length_take getElem?_append_right getElem?_replicate getElem?_append_left getElem?_map getElem?_take_of_lt mem_of_getElem? length_append find?_cons any_cons length_nil map_nil length_set all_cons length_singleton Pairwise forIn_cons lookup_cons forIn_nil all_eq_true lookup_append getD_eq_getElem?_getD toArray getElem?_cons_zero map_append mem_map any_append take_append_drop take_add_one take_length getElem?_range length_range getElem?_zip_eq_some nil_append range_succ_eq_map range_succ filter_cons length_filter_le mem_iff_getElem? nodup_nil mem_singleton nodup_append filter_eq_self any_eq_true getElem_mem getElem_of_mem Perm pairwise_cons getElem?_toArray length_eq_zero_iff length_eraseIdx ext_getElem? map_map filterMap map_id' mem_flatten flatten_append flatten_singleton length_pos_of_mem flatten_cons exists_mem_of_length_pos)
open PySem.Heap (lt_size SameBut get?_push_of_some get?_push_size size_push get?_update_self get?_update_other size_update)
open Array (length_toList getElem?_toList toArray_toList toList_push forIn_toList size_map)
open PySem.SetTable (below insertAt probe grown fits eraseAt)
set_option Elab.async false
set_option linter.all false
set_option maxRecDepth 100000
abbrev LI:=List Int
namespace L2
open PySem PySem.Spec PyProof.Rows
abbrev Key:=Sum Int Str
def Om:Key->Value->Bool
 |.inl k,v=>Value.isInt k v
 |.inr x,v=>Value.isStrOf x v
def Wu(w:World):Key->Int
 |.inl k=>hashInt k
 |.inr x=>hashStr w x
theorem wE:∀{k:Key}{v:Value},Om k v=true->(∃i t,k=abg i/\v=ab7 i t)\/(∃x t,k=ab3 x/\v=ae4 x t)
 |.inl i,v,h=>by
  obtain⟨t,e⟩:=adf (k:=i) (v:=v) h
  exact .inl ⟨i,t,rfl,e⟩
 |.inr x,v,h=>by
  obtain⟨t,e⟩:=Value.isStrOf_shape (x:=x) (v:=v) h
  exact .inr ⟨x,t,rfl,e⟩
theorem zQ1(i:Int)(t:Tok):Om (.inl i) (.int i t)=true:=by simp[Om,Value.isInt]
theorem zQ0(x:Str)(t:Tok):Om (.inr x) (.str x t)=true:=by simp[Om,Value.isStrOf]
theorem J2(a b:Int):decide ((abg a:Key)=abg b)=(a==b):=by
 by_cases e:a=b
 ·subst e;simp
 ·have h:¬(abg a:Key)=abg b:=λq=>e (afn q)
  rw[decide_eq_false h]
  exact(beq_eq_false_iff_ne.mpr e).symm
theorem J3(a b:Str):decide ((ab3 a:Key)=ab3 b)=decide (a=b):=by
 by_cases e:a=b
 ·subst e;simp
 ·have h:¬(ab3 a:Key)=ab3 b:=λq=>e (Sum.inr.inj q)
  rw[decide_eq_false h,decide_eq_false e]
theorem J4(a:Int)(b:Str):decide ((abg a:Key)=ab3 b)=false:=decide_eq_false (λq=>nomatch q)
theorem J5(a:Str)(b:Int):decide ((ab3 a:Key)=abg b)=false:=decide_eq_false (λq=>nomatch q)
def wY(prog:Program)(w:World):PySem.KeyKind prog w Key where
 is:=Om
 hash:=Wu w
 inj:=λv a b ha hb=>by
  rcases wE ha with⟨i,t,rfl,rfl⟩|⟨x,t,rfl,rfl⟩
  ·rcases wE hb with⟨j,u,rfl,e⟩|⟨y,u,rfl,e⟩
   ·injection e with e1 _;rw[e1]
   ·exact nomatch e
  ·rcases wE hb with⟨j,u,rfl,e⟩|⟨y,u,rfl,e⟩
   ·exact nomatch e
   ·injection e with e1 _;rw[e1]
 byValue:=λk v h=>by
  rcases wE h with⟨i,t,rfl,rfl⟩|⟨x,t,rfl,rfl⟩<;>rfl
 pyHash:=λhv h=>by
  rcases wE hv with⟨i,t,rfl,rfl⟩|⟨x,t,rfl,rfl⟩
  ·exact wpAny_pyHash_int h
  ·exact wpAny_pyHash_str h
 eqBool:=λhu hv h=>by
  rcases wE hu with⟨i,t,rfl,rfl⟩|⟨x,t,rfl,rfl⟩
  ·rcases wE hv with⟨j,u,rfl,rfl⟩|⟨y,u,rfl,rfl⟩
   ·rw[J2] at h;exact wpAny_eqBool_int h
   ·rw[J4] at h;exact SeqAt.EqAt.int_str i t y u _ _ _ _ h
  ·rcases wE hv with⟨j,u,rfl,rfl⟩|⟨y,u,rfl,rfl⟩
   ·rw[J5] at h;exact SeqAt.EqAt.str_int x t j u _ _ _ _ h
   ·rw[J3] at h;exact wpAny_eqBool_str h
 «strs»:=λk x t v h=>by
  rcases wE h with⟨i,u,rfl,e⟩|⟨y,u,rfl,e⟩
  ·exact nomatch e
  ·injection e with e1 _
   subst e1
   cases v<;>rfl
theorem zLb(prog:Program)(w:World)(i:Int)(t:Tok):(wY prog w).is (.inl i) (.int i t)=true:=zQ1 i t
theorem zLa(prog:Program)(w:World)(x:Str)(t:Tok):(wY prog w).is (.inr x) (.str x t)=true:=zQ0 x t
inductive V where
 |non|bl (b:Bool)|int (i:Int)|str (x:Str)|DQ (b:Array UInt8)|flt (b:UInt64)|ref (a:Addr)|ty (n:String)
 deriving DecidableEq
def RelV:V->Value->Prop
 |.non,u=>u=ac5
 |.bl b,u=>u=afd b
 |.int i,u=>∃t,u=ab7 i t
 |.str x,u=>∃t,u=ae4 x t
 |.DQ b,u=>∃t,u=Value.bytes b t
 |.flt b,u=>∃t,u=afo b t
 |.ref a,u=>u=abe a
 |.ty n,u=>u=acw n
abbrev Vals:List V->List Value->Prop:=Paired RelV
theorem Vals.length(r:Vals xs us):xs.length=us.length:=aep r
theorem Vals.get:∀{xs:List V}{us:List Value}{i:Nat}{x:V},Vals xs us->xs[i]?=some x->∃u,us[i]?=some u/\RelV x u
 |_,_,_,_,.nil,e=>by simp at e
 |_,_,0,_,.cons r _,e=>by simp at e;subst e;exact⟨_,rfl,r⟩
 |_,_,i+1,x,.cons _ t,e=>by
  obtain⟨u,h1,h2⟩:=Vals.get (i:=i) (x:=x) t (by simpa using e)
  exact⟨u,by simpa using h1,h2⟩
theorem Vals.set(r:RelV x u):∀{xs:List V}{us:List Value}(i:Nat),Vals xs us->Vals (xs.set i x) (us.set i u)
 |_,_,_,.nil=>.nil
 |_,_,0,.cons _ t=>.cons r t
 |_,_,i+1,.cons q t=>.cons q (Vals.set r i t)
theorem Vals.append:∀{xs ys:List V}{us ws:List Value},Vals xs us->Vals ys ws->Vals (xs++ys) (us++ws)
 |_,_,_,_,.nil,s=>s
 |_,_,_,_,.cons r t,s=>.cons r (Vals.append t s)
theorem Vals.none_of:∀{xs:List V}{us:List Value}{i:Nat},Vals xs us->xs[i]?=none->us[i]?=none:=λ{xs us i} r e=>by
 have h1:=r.length
 have h2:xs.length<=i:=List.getElem?_eq_none_iff.mp e
 exact List.getElem?_eq_none_iff.mpr (by omega)
def jh:Option V->Option Value->Prop
 |some v,some u=>RelV v u
 |none,none=>True
 |_,_=>False
def KV{κ:Type}:List (κ×V)->List (κ×Value)->Prop:=Paired λ(p:κ×V) (q:κ×Value)=>p.1=q.1/\RelV p.2 q.2
def kV:Key->V
 |.inl i=>.int i
 |.inr x=>.str x
inductive HO where
 |lst (xs:List V)
 |tup (xs:List V)
 |dK (kvs:List (Key×V))|dT (kvs:List (List Key×V))
 |set (S:Int->Bool) (n:Nat)
 |ins (C dx:Addr) (fs:List (Str×V))
 |own (x:Addr)
 |xd (fs:List (Str×V))
 |met (f x:Addr)
 |rng (lo hi:Int)
 |uc (o:Obj) (u:HO)
 |J6 (ps:Array Value)
 |ext (φ:Heap->Prop)
abbrev Hp:=Addr->Option HO
def upd(H:Hp)(a:Addr)(o:HO):Hp:=λb=>if b=a then some o else H b
theorem zR:upd H a o a=some o:=by unfold upd;rw[if_pos rfl]
theorem zV(h:b≠a):upd H a o b=H b:=by unfold upd;rw[if_neg h]
theorem DW:upd (upd H a o) a u=upd H a u:=by
 funext b;unfold upd;split<;>rfl
theorem Qj{H:Hp}{a b:Addr}{o u:HO}(h:H a=some o)(h':H b=some u)(d:o≠u):a≠b:=by
 intro e;subst e;rw[h] at h';exact d (aay h')
theorem zS{H:Hp}{a b:Addr}{o:HO}(h:H a=some o)(h':H b=none):a≠b:=by
 intro e;subst e;rw[h] at h';cases h'
section
variable(P:Program)(w:World)
def aZ(H:Hp)(h:Heap)(a:Addr):HO->Prop
 |.lst xs=>xs.length<=sizeLine/\∃(its:List Value)(n:Nat),Vals xs its/\h.get? a=some { cls:=.type "list",data:=.seq its.toArray n }
 |.tup xs=>xs.length<=sizeLine/\∃its:List Value,Vals xs its/\IsTup h a its.toArray
 |.dK kvs=>kvs.length<=sizeLine/\(a==sysModules)=false/\∃vs,KV kvs vs/\h.DictOf (wY P w) a vs
 |.dT kvs=>kvs.length<=sizeLine/\(a==sysModules)=false/\∃xs:List (List Key×Addr×Value),
   Paired (λ(p:List Key×V) (q:List Key×Addr×Value)=>p.1=q.1/\H q.2.1=some (.tup (p.1.map kV))/\RelV p.2 q.2.2) kvs xs /\
   ∃o es ep,h.get? a=some o/\o.ExactDict/\o.data=.dict es ep/\es.toList=xs.map (entryOfKey (tupleKind (wY P w)))/\(xs.map (·.1)).Nodup
 |.set S n=>h.SetOf (intKind P w) a S n
 |.ins C dx fs=>H dx=some (.own a)/\fs.length<=1000/\dx≠a/\h.get? a=some (instObj C dx) /\
   ∃mA,h.Ns1 dx mA/\(∀f,jh (fs.lookup f) (mA f))/\afi mA (fs.map (·.1))
 |.own _=>∃o,h.get? a=some o
 |.xd fs=>∃mA,h.Ns1 a mA/\∀f,jh (fs.lookup f) (mA f)
 |.rng lo hi=>∃t u v,h.get? a=some { cls:=.type "range",data:=.fields #[.int lo t,.int hi u,.int 1 v] }
 |.uc o u=>h.get? a=some o/\aZ H h a u
 |.J6 ps=>h.get? a=some { cls:=.none,data:=.fields ps }
 |.met f x=>h.get? a=some (methodObj (.ref f) (.ref x))
 |.ext φ=>φ h/\(∃o,h.get? a=some o)/\∀h1 h2:Heap,φ h1->(∀o,h1.get? a=some o->h2.get? a=some o)->φ h2
def gQ(H:Hp)(h:Heap):Prop:=∀a o,H a=some o->aZ P w H h a o
end
section
variable{P:Program}{w:World}{H H':Hp}{h h':Heap}{a:Addr}{o:HO}
theorem aZ.lt(x:aZ P w H h a o):a<h.objs.size:=by
 cases o with
 |lst xs=>obtain⟨_,_,_,_,e⟩:=x;exact lt_size e
 |tup xs=>obtain⟨_,_,_,p⟩:=x;exact p.lt
 |dK kvs=>obtain⟨_,_,_,_,o,_,_,e,_⟩:=x;exact lt_size e
 |dT kvs=>obtain⟨_,_,_,_,o,_,_,e,_⟩:=x;exact lt_size e
 |set S n=>obtain⟨o,_,_,_,e,_⟩:=x;exact lt_size e
 |ins C dx fs=>obtain⟨_,_,_,e,_⟩:=x;exact lt_size e
 |own y=>obtain⟨_,e⟩:=x;exact lt_size e
 |xd fs=>obtain⟨_,⟨_,_,_,e,_⟩,_⟩:=x;exact lt_size e
 |rng lo hi=>obtain⟨_,_,_,e⟩:=x;exact lt_size e
 |uc ob u=>obtain⟨e,_⟩:=x;exact lt_size e
 |J6 ps=>exact lt_size (show h.get? a=some _ from x)
 |met f y=>exact lt_size (show h.get? a=some _ from x)
 |ext φ=>obtain⟨_,⟨_,e⟩,_⟩:=x;exact lt_size e
theorem Paired.J7{α β:Type}{F G:α->β->Prop}:∀{l₁:List α}{l₂:List β},Paired F l₁ l₂->(∀a b,F a b->G a b)->Paired G l₁ l₂
 |_,_,.nil,_=>.nil
 |_,_,.cons r t,f=>.cons (f _ _ r) (Paired.J7 t f)
theorem aZ.stay(x:aZ P w H h a o)(k:∀b u,(b=a\/H b=some (.own a))->h.get? b=some u->h'.get? b=some u)(ho:∀b,H b=some (.own a)->H' b=some (.own a))(ht:∀b xs,H b=some (.tup xs)->H' b=some (.tup xs)):aZ P w H' h' a o:=by
 induction o with
 |lst xs=>obtain⟨z,its,n,r,e⟩:=x;exact⟨z,its,n,r,k _ _ (.inl rfl) e⟩
 |tup xs=>obtain⟨z,its,r,ob,e,c⟩:=x;exact⟨z,its,r,ob,k _ _ (.inl rfl) e,c⟩
 |dK kvs=>obtain⟨z,y,vs,r,ob,es,ep,e,c⟩:=x;exact⟨z,y,vs,r,ob,es,ep,k _ _ (.inl rfl) e,c⟩
 |dT kvs =>
  obtain⟨z,y,xs,r,ob,es,ep,e,c⟩:=x
  exact⟨z,y,xs,Paired.J7 r λp q z=>⟨z.1,ht _ _ z.2.1,z.2.2⟩,ob,es,ep,k _ _ (.inl rfl) e,c⟩
 |set S n=>obtain⟨ob,es,ep,t,e,c⟩:=x;exact⟨ob,es,ep,t,k _ _ (.inl rfl) e,c⟩
 |ins C dx fs =>
  obtain⟨d,z,ne,e,mA,⟨od,es,ep,e2,c⟩,r⟩:=x
  exact⟨ho _ d,z,ne,k _ _ (.inl rfl) e,mA,⟨od,es,ep,k _ _ (.inr d) e2,c⟩,r⟩
 |own y=>obtain⟨ob,e⟩:=x;exact⟨ob,k _ _ (.inl rfl) e⟩
 |xd fs=>obtain⟨mA,⟨od,es,ep,e,c⟩,r⟩:=x;exact⟨mA,⟨od,es,ep,k _ _ (.inl rfl) e,c⟩,r⟩
 |rng lo hi=>obtain⟨t,u,v,e⟩:=x;exact⟨t,u,v,k _ _ (.inl rfl) e⟩
 |uc ob u ih=>obtain⟨e,q⟩:=x;exact⟨k _ _ (.inl rfl) e,ih q⟩
 |J6 ps =>
  have e:h.get? a=some { cls:=.none,data:=.fields ps }:=x
  show h'.get? a=some { cls:=.none,data:=.fields ps }
  exact k a _ (.inl rfl) e
 |met f y =>
  have e:h.get? a=some (methodObj (.ref f) (.ref y)):=x
  show h'.get? a=some (methodObj (.ref f) (.ref y))
  exact k a _ (.inl rfl) e
 |ext φ=>obtain⟨p,⟨o,e⟩,st⟩:=x;exact⟨st _ _ p λo q=>k _ _ (.inl rfl) q,⟨o,k _ _ (.inl rfl) e⟩,st⟩
theorem gQ.lt(x:gQ P w H h)(e:H a=some o):a<h.objs.size:=(x a o e).lt
theorem gQ.fresh(x:gQ P w H h)(e:h.objs.size<=a):H a=none:=by
 cases q:H a with
 |none=>rfl
 |some u=>exact absurd (aax (x.lt q) e) (abu _)
theorem gQ.kept(x:gQ P w H h)(k:∀b u,h.get? b=some u->h'.get? b=some u):gQ P w H h':=λa o e =>
 (x a o e).stay (λb u _ q=>k b u q) (λ_ q=>q) λ_ _ q=>q
theorem gQ.laid(x:gQ P w H h)(k:∀b u,h.get? b=some u->h'.get? b=some u)(hp:h.objs.size<=a)(new:aZ P w (upd H a o) h' a o):gQ P w (upd H a o) h':=λb u e=>by
 have hn:=x.fresh hp
 by_cases hb:b=a
 ·subst hb;rw[zR] at e;cases e;exact new
 ·rw[zV hb] at e
  exact(x b u e).stay (λc v _ q=>k c v q) (λc q=>by rw[zV (zS q hn)];exact q) λc xs q=>by rw[zV (zS q hn)];exact q
end
def Rd(H:Hp)(a:Addr)(u:HO):Prop:=H a=some u\/∃o,H a=some (.uc o u)
theorem Rd.ok(r:Rd H a u)(x:gQ P w H h):aZ P w H h a u:=by
 rcases r with r|⟨o,r⟩
 ·exact x a u r
 ·obtain⟨_,q⟩:=x a _ r
  exact q
def Qk:Option HO->Prop
 |some (.lst _)=>True
 |some (.dK _)=>True
 |some (.dT _)=>True
 |some (.set _ _)=>True
 |some (.ins _ _ _)=>True
 |some (.ext _)=>True
 |_=>False
section
variable{P:Program}{w:World}{H:Hp}{h h':Heap}{x e:Addr}{o':HO}
theorem gQ.write(ok:gQ P w H h)(mu:Qk (H x))(he:e=x\/H e=some (.own x))(k:∀b u,b≠e->h.get? b=some u->h'.get? b=some u)(heo:∃u,h'.get? e=some u)(new:aZ P w (upd H x o') h' x o'):gQ P w (upd H x o') h':=λb u q=>by
 have Ql:∀c y,H c=some (.own y)->c≠x:=λc y r z=>by subst z;rw[r] at mu;exact mu
 have Wv:∀c xs,H c=some (.tup xs)->c≠x:=λc xs r z=>by subst z;rw[r] at mu;exact mu
 by_cases hb:b=x
 ·subst hb;rw[zR] at q;cases q;exact new
 ·rw[zV hb] at q
  by_cases hbe:b=e
  ·have q':H b=some (.own x):=by
    rcases he with z|z
    ·exact absurd (hbe.trans z) hb
    ·rw[hbe];exact z
   rw[q] at q';cases q'
   obtain⟨v,hv⟩:=heo
   exact⟨v,by rw[hbe];exact hv⟩
  ·refine(ok b u q).stay (λc v hc r=>k c v ?_ r) (λc r=>by rw[zV (Ql c b r)];exact r) λc xs r=>by rw[zV (Wv c xs r)];exact r
   rcases hc with rfl|hc
   ·exact hbe
   ·rintro rfl
    rcases he with z|z
    ·exact Ql c b hc z
    ·rw[hc] at z;cases z;exact hb rfl
end
structure Un(fs ex:List Addr)(H H':Hp)(h h':Heap):Prop where
 keep:∀b o,h.get? b=some o->H b=none->b∉fs->b∉ex->h'.get? b=some o
 slot:∀b o,h.get? b=some o->H b=none->b∈fs->b∉ex->∃sl,h'.get? b=some { o with slots:=sl }
 free:∀b o,h.get? b=some o->H b=none->b∉ex->H' b=none
 there:∀b o,h.get? b=some o->b∉ex->∃o',h'.get? b=some o'
 tups:∀b xs,H b=some (.tup xs)->H' b=some (.tup xs)
 mG:∀b o u,H b=some (.uc o u)->H' b=some (.uc o u)
 oG:∀b ps,H b=some (.J6 ps)->∃more,H' b=some (.J6 (ps++more))
section
variable{fs fs' ex ex':List Addr}{H H1 H2:Hp}{h h1 h2 h':Heap}{a x e:Addr}{o:HO}
theorem Un.any(u:Un fs ex H H1 h h1)(q:h.get? b=some ob)(n:H b=none)(hx:b∉ex):∃sl,h1.get? b=some { ob with slots:=sl }:=by
 by_cases hb:b∈fs
 ·exact u.slot b ob q n hb hx
 ·exact⟨ob.slots,u.keep b ob q n hb hx⟩
theorem Un.kept(k:∀b u,h.get? b=some u->h'.get? b=some u):Un fs ex H H h h' :=
 ⟨λb ob q _ _ _=>k b ob q,λb ob q _ _ _=>⟨ob.slots,k b ob q⟩,λ_ _ _ n _=>n,λb ob q _=>⟨ob,k b ob q⟩,λ_ _ q=>q,λ_ _ _ q=>q,λ_ ps q=>⟨#[],by rw[q];simp⟩⟩
theorem Un.refl:Un fs ex H H h h:=Un.kept λ_ _ q=>q
theorem Un.laid(k:∀b u,h.get? b=some u->h'.get? b=some u)(hp:h.objs.size<=a)(hn:H a=none):Un fs ex H (upd H a o) h h' where
 keep:=λb u q _ _ _=>k b u q
 slot:=λb u q _ _ _=>⟨u.slots,k b u q⟩
 free:=λb u q n _=>by rw[zV (aav (aax (lt_size q) hp))];exact n
 there:=λb u q _=>⟨u,k b u q⟩
 tups:=λb xs q=>by rw[zV (zS q hn)];exact q
 mG:=λb u xs q=>by rw[zV (zS q hn)];exact q
 oG:=λb ps q=>⟨#[],by rw[zV (zS q hn),q];simp⟩
theorem Un.write(mu:Qk (H x))(he:e=x\/H e=some (.own x))(k:∀b u,b≠e->h.get? b=some u->h'.get? b=some u)(heo:∃u,h'.get? e=some u):Un fs ex H (upd H x o) h h':=by
 have hx:∀b,H b=none->b≠x:=λb n z=>by subst z;rw[n] at mu;exact mu
 have hb:∀b,H b=none->b≠e:=λb n z=>by
  subst z
  rcases he with r|r
  ·exact hx b n r
  ·rw[n] at r;cases r
 have hm:∀b u,H b=some u->¬Qk (some u)->b≠x:=λb u q nm z=>by subst z;rw[q] at mu;exact nm mu
 refine⟨λb u q n _ _=>k b u (hb b n) q,λb u q n _ _=>⟨u.slots,k b u (hb b n) q⟩,λb u q n _=>by rw[zV (hx b n)];exact n,λb u q _=>?_,
  λb xs q=>by rw[zV (hm b _ q λz=>z)];exact q,λb u xs q=>by rw[zV (hm b _ q λz=>z)];exact q,λb ps q=>⟨#[],by rw[zV (hm b _ q λz=>z),q];simp⟩⟩
 by_cases hbe:b=e
 ·subst hbe;exact heo
 ·exact⟨u,k b u hbe q⟩
end
def Uv(h:Heap)(H:Hp):List Addr:=(aat h.objs.size).filter λa=>(H a).isSome
def pH(h:Heap)(H:Hp):Heap:=PySem.W.hideAll h (Uv h H)
theorem zQ9(h:Heap)(H:Hp):(pH h H).objs.size=h.objs.size:=PySem.W.hideAll_size _ _
theorem zUd{h:Heap}(e:h.get? b=some o)(n:H b=none):(pH h H).get? b=some o :=
 PySem.W.hideAll_get _ e λhm=>by
  have q:(H b).isSome=true:=(mem_filter.mp hm).2
  rw[n] at q;simp at q
theorem DX(e:(pH h H).get? b=some o):h.get? b=some o/\H b=none:=by
 have e':h.get? b=some o:=PySem.W.of_hideAll (Uv h H) e
 refine⟨e',?_⟩
 cases q:H b with
 |none=>rfl
 |some x =>
  have hm:b∈Uv h H:=mem_filter.mpr ⟨mem_range.mpr (lt_size e'),by simp[q]⟩
  have z:(pH h H).get? b=none:=PySem.W.hideAll_none (Uv h H) hm
  rw[z] at e;cases e
def DY(g h:Heap)(L:Addr):List (Addr×Obj):=(aat h.objs.size).filterMap λa=>if a=L\/(g.get? a).isSome=true then none else(h.get? a).map λo=>(a,o)
def rest(g h:Heap)(L d:Addr):List (Addr×Obj):=(DY g h L).filter λp=>decide (p.1≠d)
structure Mod(K:PySem.W.Frag)(mg:Str->Option Value)(base:Heap):Prop where
 Oo:K.In base
 glob:base.Ns abb mg
 blt:∃mb,base.Ns builtinsNs mb/\∀x:Str,x ≠ "__name__"->mb x=bootBuiltins x
 nolimit:base.NoLimit
structure Cx where
 prog:Program
 w:World
 K:PySem.W.Frag
 mg:Str->Option Value
 base:Heap
 A:Around
 N:List Str
 s₀:Shared
 H₀:Hp
 env:Env
 outer:List Env
 stack:List Env
 ex:List Addr
 fn:Str->Bool
 calm:Bool
 pn:List (Addr×Obj)
 xe:Value->Shared->Prop
def frs(l:List Env):List Addr:=l.filterMap (·.frame)
abbrev Cx.fs(X:Cx):List Addr:=frs X.outer
def Qm(sc:Scope)(x:Str):Prop:=sc.names.lookup x=some .local\/sc.names.lookup x=some .cell\/sc.names.lookup x=some .free
def Loc(sc:Scope)(x:Str):Prop:=sc.names.lookup x=some .local\/sc.names.lookup x=some .cell
def Look(env:Env)(h:Heap)(m:Str->Option Value)(x:Str)(u:Value):Prop :=
 (env.kindOf x=some .local/\m x=some u)\/((env.kindOf x=some .cell\/env.kindOf x=some .free)/\∃c,env.cells.lookup x=some c/\h.IsCell c (some u))
structure Cx.Ok(X:Cx):Prop where
 mod:Mod X.K X.mg X.base
 kind:X.env.scope.kind=.function
 glob:X.env.globals=abb
 blt:X.env.builtins=builtinsNs
 above:X.s₀.heap.objs.size<=X.env.locals
 inj:∀x y c,X.env.cells.lookup x=some c->X.env.cells.lookup y=some c->x=y
 has:∀x,(X.env.kindOf x=some .cell\/X.env.kindOf x=some .free)->∃c,X.env.cells.lookup x=some c
 cab:∀x c,X.fn x=true->X.env.cells.lookup x=some c->X.s₀.heap.objs.size<=c
 hd:X.calm=true->X.A.handled=none
 frames:X.A.frames=some X.stack
 stk:X.stack=X.outer\/(X.stack=X.env::X.outer/\X.env.frame=some X.env.locals)
 Uw:∀b∈X.ex,b≠X.env.locals/\∀x c,X.env.cells.lookup x=some c->c≠b
 bs:∀b o,X.base.get? b=some o->X.s₀.heap.get? b=some o/\X.H₀ b=none
 D_:X.base.objs.size<=X.s₀.heap.objs.size
 Ai:∀b o,X.base.get? b=some o->b∉X.ex
 Aj:∀b∈X.ex,b∉X.fs
 lV:X.s₀.heap.FunFrames X.base X.outer
 J8:∀b∈X.fs,X.H₀ b=none
structure Inv(X:Cx)(pins:List (Addr×Obj))(σ:List (Option V))(H:Hp)(s:Shared):Prop where
 ok:X.Ok
 os:s.os=X.s₀.os
 bare:AllBare s.gens
 base:Un X.fs X.ex X.H₀ H X.s₀.heap s.heap
 loc:∃m,s.heap.Ns X.env.locals m/\∀(i:Nat)(x:Str)(v:V),X.N[i]?=some x->σ[i]?=some (some v)->Qm X.env.scope x->∃u,RelV v u/\Look X.env s.heap m x u
 cell:∀x c,X.env.cells.lookup x=some c->∃v,s.heap.IsCell c v
 free:H X.env.locals=none
 gR:∀x c,X.env.cells.lookup x=some c->H c=none
 pin:∀p∈X.pn++pins,s.heap.get? p.1=some p.2/\H p.1=none/\p.1≠X.env.locals/\p.1∉X.fs/\∀v,p.2.data≠.cell v
 hok:gQ X.prog X.w H s.heap
 len:σ.length=X.N.length
section
variable{X:Cx}{pins:List (Addr×Obj)}{σ:List (Option V)}{H H':Hp}{s:Shared}{h':Heap}
theorem Cx.Ok.Ww(ok:X.Ok)(e:X.base.get? b=some o):b∉X.fs:=λhb=>by
 have:=(ok.lV.mem hb).1
 rw[e] at this;cases this
theorem Inv.bs(I:Inv X pins σ H s):∀b o,X.base.get? b=some o->s.heap.get? b=some o/\H b=none:=λb o e =>
 ⟨I.base.keep b o (I.ok.bs b o e).1 (I.ok.bs b o e).2 (I.ok.Ww e) (I.ok.Ai b o e),I.base.free b o (I.ok.bs b o e).1 (I.ok.bs b o e).2 (I.ok.Ai b o e)⟩
theorem Inv.bk(I:Inv X pins σ H s):∀b o,X.base.get? b=some o->s.heap.get? b=some o:=λb o e=>(I.bs b o e).1
theorem Inv.mod(I:Inv X pins σ H s):Mod X.K X.mg X.base:=I.ok.mod
theorem Inv.jP(I:Inv X pins σ H s):X.K.In s.heap:=I.ok.mod.Oo.keeps I.bk
theorem Inv.nolimit(I:Inv X pins σ H s):s.heap.NoLimit:=I.ok.mod.nolimit.keeps I.bk
theorem Inv.lt(I:Inv X pins σ H s):X.env.locals<s.heap.objs.size:=let⟨_,hn,_⟩:=I.loc;hn.lt
theorem Inv.sz(I:Inv X pins σ H s):X.s₀.heap.objs.size<=s.heap.objs.size:=aaz I.ok.above (ach I.lt)
theorem Inv.J9(I:Inv X pins σ H s)(h:s.heap.objs.size<=a):a∉X.fs:=λhb=>by
 obtain⟨_,o,ho,_⟩:=I.ok.lV.mem hb
 exact absurd (aax (lt_size ho) (aaz I.sz h)) (abu _)
theorem Inv.J_(I:Inv X pins σ H s):∀x c,X.env.cells.lookup x=some c->c≠X.env.locals:=λx c e z=>by
 obtain⟨v,o,ho,hd⟩:=I.cell x c e
 obtain⟨m,⟨o',es,ep,ho',hd',_⟩,_⟩:=I.loc
 rw[z,ho'] at ho;cases ho;rw[hd'] at hd;cases hd
theorem Inv.lV(I:Inv X pins σ H s):s.heap.FunFrames X.base X.outer:=by
 have all:∀(l:List Env),(∀b∈frs l,b∈X.fs)->X.s₀.heap.FunFrames X.base l->s.heap.FunFrames X.base l:=by
  intro l
  induction l with
  |nil=>intro _ _;trivial
  |cons env r ih =>
   intro hs hl
   obtain⟨hk,⟨L,o,hf,hn,ho,hd⟩,hr⟩:=hl
   have hL:L∈X.fs:=hs L (by unfold frs;rw[filterMap_cons,hf];exact mem_cons_self)
   obtain⟨sl,e⟩:=I.base.slot L o ho (I.ok.J8 L hL) hL λz=>I.ok.Aj L z hL
   exact⟨hk,⟨L,_,hf,hn,e,hd⟩,ih (λb hb=>hs b (by unfold frs;rw[filterMap_cons,hf];exact mem_cons_of_mem _ hb)) hr⟩
 exact all X.outer (λ_ hb=>hb) I.ok.lV
theorem Inv.stack(I:Inv X pins σ H s):s.heap.FunFrames X.base X.stack:=by
 rcases I.ok.stk with e|⟨e,hf⟩
 ·rw[e];exact I.lV
 ·rw[e]
  obtain⟨m,hn,_⟩:=I.loc
  refine .cons (by rw[I.ok.kind];decide) hf hn ?_ I.lV
  exact Heap.get?_none_of_le (aaz I.ok.D_ I.ok.above)
theorem Inv.pI(I:Inv X pins σ H s):∀b∈frs X.stack,b∈X.env.locals::X.fs:=λb hb=>by
 rcases I.ok.stk with e|⟨e,hf⟩
 ·rw[e] at hb;exact mem_cons_of_mem _ hb
 ·rw[e] at hb
  unfold frs at hb
  rw[filterMap_cons,hf] at hb
  exact hb
theorem Inv.ud(I:Inv X pins σ H s):∀b∈frs X.stack,H b=none:=λb hb=>by
 rcases mem_cons.mp (I.pI b hb) with e|hb
 ·rw[e];exact I.free
 ·obtain⟨_,o,ho,_⟩:=I.ok.lV.mem hb
  exact I.base.free b o ho (I.ok.J8 b hb) λz=>I.ok.Aj b z hb
theorem Inv.step{g':Array GenState}{t':Nat}{d':Drawn}{ch:List Addr}(I:Inv X pins σ H s)(hch:∀b∈ch,(b∈X.ex\/X.s₀.heap.objs.size<=b)/\b≠X.env.locals/\(∀x c,X.env.cells.lookup x=some c->c≠b)/\∀p∈X.pn++pins,p.1≠b)(keep:∀b o,b≠X.env.locals->b∉X.fs->b∉ch->s.heap.get? b=some o->H b=none->h'.get? b=some o)(slot:∀b o,b≠X.env.locals->b∈X.fs->b∉ch->s.heap.get? b=some o->H b=none->∃sl,h'.get? b=some { o with slots:=sl })(free:∀b o,b∉ch->s.heap.get? b=some o->H b=none->H' b=none)(there:∀b o,b∉ch->s.heap.get? b=some o->∃o',h'.get? b=some o')(tups:∀b xs,H b=some (.tup xs)->H' b=some (.tup xs))(mG:∀b o u,H b=some (.uc o u)->H' b=some (.uc o u))(oG:∀b ps,H b=some (.J6 ps)->∃more,H' b=some (.J6 (ps++more)))(ns:∀m,s.heap.Ns X.env.locals m->h'.Ns X.env.locals m)(hok:gQ X.prog X.w H' h')(hg:AllBare g') :
  Inv X pins σ H' { s with heap:=h',gens:=g',drawn:=d',toks:=t' }:=by
 have neL:∀b o,X.s₀.heap.get? b=some o->b≠X.env.locals:=λb o e=>aav (aax (lt_size e) I.ok.above)
 have Ux:∀b o,X.s₀.heap.get? b=some o->b∉X.ex->b∉ch:=λb o e hx hb=>by
  rcases(hch b hb).1 with z|z
  ·exact hx z
  ·exact absurd (aax (lt_size e) z) (abu _)
 have cellK:∀x c,X.env.cells.lookup x=some c->∀v,s.heap.IsCell c v->h'.IsCell c v:=λx c e v ⟨o,ho,hd⟩=>by
  have Qn:c∉ch:=λz=>(hch c z).2.2.1 x c e rfl
  by_cases hc:c∈X.fs
  ·obtain⟨sl,q⟩:=slot c o (I.J_ x c e) hc Qn ho (I.gR x c e)
   exact⟨_,q,hd⟩
  ·exact⟨o,keep c o (I.J_ x c e) hc Qn ho (I.gR x c e),hd⟩
 refine⟨I.ok,I.os,hg,⟨λb o e n hb hx=>?_,λb o e n hb hx=>?_,λb o e n hx=>?_,λb o e hx=>?_,λb xs e=>tups b xs (I.base.tups b xs e),λb o xs e=>mG b o xs (I.base.mG b o xs e),λb ps e=>?_⟩,?_,λx c e=>?_,?_,λx c e=>?_,λp hp=>?_,hok,I.len⟩
 ·exact keep b o (neL b o e) hb (Ux b o e hx) (I.base.keep b o e n hb hx) (I.base.free b o e n hx)
 ·obtain⟨sl,e1⟩:=I.base.slot b o e n hb hx
  obtain⟨sl',e2⟩:=slot b _ (neL b o e) hb (Ux b o e hx) e1 (I.base.free b o e n hx)
  exact⟨sl',e2⟩
 ·obtain⟨o',e1⟩:=I.base.there b o e hx
  exact free b o' (Ux b o e hx) e1 (I.base.free b o e n hx)
 ·obtain⟨o',e1⟩:=I.base.there b o e hx
  exact there b o' (Ux b o e hx) e1
 ·obtain⟨m1,e1⟩:=I.base.oG b ps e
  obtain⟨m2,e2⟩:=oG b _ e1
  exact⟨m1++m2,by rw[e2,Array.append_assoc]⟩
 ·obtain⟨m,hn,hl⟩:=I.loc
  refine⟨m,ns m hn,λi x v e1 e2 e3=>?_⟩
  obtain⟨u,r,l⟩:=hl i x v e1 e2 e3
  refine⟨u,r,?_⟩
  rcases l with l|⟨k,c,e,z⟩
  ·exact .inl l
  ·exact .inr ⟨k,c,e,cellK x c e _ z⟩
 ·obtain⟨v,z⟩:=I.cell x c e
  exact⟨v,cellK x c e v z⟩
 ·obtain⟨m,⟨o,_,_,ho,_⟩,_⟩:=I.loc
  exact free _ o (λz=>(hch _ z).2.1 rfl) ho I.free
 ·obtain⟨v,o,ho,hd⟩:=I.cell x c e
  exact free c o (λz=>(hch c z).2.2.1 x c e rfl) ho (I.gR x c e)
 ·obtain⟨e,n,ne,nf,d⟩:=I.pin p hp
  have Qn:p.1∉ch:=λz=>(hch p.1 z).2.2.2 p hp rfl
  exact⟨keep p.1 p.2 ne nf Qn e n,free p.1 p.2 Qn e n,ne,nf,d⟩
theorem Inv.un(I:Inv X pins σ H s)(u:Un X.fs [] H H' s.heap h')(hok:gQ X.prog X.w H' h'):Inv X pins σ H' { s with heap:=h',toks:=t' }:=by
 obtain⟨m,⟨o,es,ep,ho,r⟩,_⟩:=id I.loc
 obtain⟨sl,hL⟩:=u.any ho I.free (by simp)
 exact I.step (g':=s.gens) (d':=s.drawn) (ch:=[]) (λ_ z=>nomatch z) (λb o _ hb _ e n=>u.keep b o e n hb (by simp)) (λb o _ hb _ e n=>u.slot b o e n hb (by simp)) (λb o _ e n=>u.free b o e n (by simp)) (λb o _ e=>u.there b o e (by simp)) u.tups u.mG u.oG (λm' hm=>by
  obtain⟨o',es',ep',ho',r'⟩:=hm
  rw[ho] at ho';cases ho'
  exact⟨_,es',ep',hL,r'⟩) hok I.bare
theorem Inv.call(I:Inv X pins σ H s)(u:Un (frs X.stack) ch H H' s.heap h')(hok:gQ X.prog X.w H' h')(hg:AllBare g')(hch:∀b∈ch,(b∈X.ex\/X.s₀.heap.objs.size<=b)/\b≠X.env.locals/\(∀x c,X.env.cells.lookup x=some c->c≠b)/\∀p∈X.pn++pins,p.1≠b) :
  Inv X pins σ H' { s with heap:=h',gens:=g',drawn:=d',toks:=t' }:=by
 obtain⟨m,⟨o,es,ep,ho,r⟩,_⟩:=id I.loc
 obtain⟨sl,hL⟩:=u.any ho I.free λz=>(hch _ z).2.1 rfl
 exact I.step (ch:=ch) hch (λb o hL hb hc e n=>u.keep b o e n (λz=>(mem_cons.mp (I.pI b z)).elim hL hb) hc) (λb o _ _ hc e n=>u.any e n hc) (λb o hc e n=>u.free b o e n hc) (λb o hc e=>u.there b o e hc) u.tups u.mG u.oG (λm' hm=>by
  obtain⟨o',es',ep',ho',r'⟩:=hm
  rw[ho] at ho';cases ho'
  exact⟨_,es',ep',hL,r'⟩) hok hg
theorem Inv.turned(I:Inv X pins σ H s)(k:∀b o,b≠it->s.heap.get? b=some o->h'.get? b=some o)(hn:H it=none)(hL:it≠X.env.locals)(h1:it∈X.ex\/X.s₀.heap.objs.size<=it)(h2:∀x c,X.env.cells.lookup x=some c->c≠it)(h3:∀p∈X.pn++pins,p.1≠it):Inv X pins σ H { s with heap:=h',toks:=t' }:=by
 have nit:∀b u,H b=some u->b≠it:=λb u e z=>by rw[z,hn] at e;cases e
 refine I.step (g':=s.gens) (d':=s.drawn) (ch:=[it]) (λb hb=>?_) (λb o _ _ hc e _=>k b o (λz=>hc (by simp[z])) e) (λb o _ _ hc e _=>⟨o.slots,k b o (λz=>hc (by simp[z])) e⟩) (λ_ _ _ _ n=>n)
  (λb o hc e=>⟨o,k b o (λz=>hc (by simp[z])) e⟩) (λ_ _ e=>e) (λ_ _ _ e=>e) (λb ps e=>⟨#[],by rw[e];simp⟩) (λm hm=>?_) (λb u e=>?_) I.bare
 ·have e:b=it:=by simpa using hb
  subst e
  exact⟨h1,hL,h2,h3⟩
 ·obtain⟨o,es,ep,ho,r⟩:=hm
  exact⟨o,es,ep,k _ o (abt hL) ho,r⟩
 ·refine(I.hok b u e).stay (λc v hc q=>k c v ?_ q) (λ_ q=>q) λ_ _ q=>q
  rcases hc with z|z
  ·rw[z];exact nit b u e
  ·exact nit c _ z
theorem Inv.tok(I:Inv X pins σ H s)(t:Nat):Inv X pins σ H { s with toks:=t }:=I.un (h':=s.heap) (t':=t) Un.refl I.hok
theorem Inv.kept(I:Inv X pins σ H s)(k:∀b u,s.heap.get? b=some u->h'.get? b=some u):Inv X pins σ H { s with heap:=h',toks:=t' }:=I.un (Un.kept k) (I.hok.kept k)
theorem Inv.laid(I:Inv X pins σ H s)(k:∀b u,s.heap.get? b=some u->h'.get? b=some u)(hp:s.heap.objs.size<=a)(new:aZ X.prog X.w (upd H a o) h' a o) :
  Inv X pins σ (upd H a o) { s with heap:=h',toks:=t' }:=I.un (Un.laid k hp (I.hok.fresh hp)) (I.hok.laid k hp new)
theorem Inv.write(I:Inv X pins σ H s)(mu:Qk (H x))(he:e=x\/H e=some (.own x))(k:∀b u,b≠e->s.heap.get? b=some u->h'.get? b=some u)(heo:∃u,h'.get? e=some u)(new:aZ X.prog X.w (upd H x o) h' x o):Inv X pins σ (upd H x o) { s with heap:=h',toks:=t' }:=I.un (Un.write mu he k heo) (I.hok.write mu he k heo new)
theorem Inv.jQ(I:Inv X pins σ H s)(h:∀p∈Il,s.heap.get? p.1=some p.2/\H p.1=none/\p.1≠X.env.locals/\p.1∉X.fs/\∀v,p.2.data≠.cell v):Inv X Il σ H s :=
 ⟨I.ok,I.os,I.bare,I.base,I.loc,I.cell,I.free,I.gR,λp hp=>(mem_append.mp hp).elim (λz=>I.pin p (mem_append_left _ z)) (h p),I.hok,I.len⟩
theorem zMe{N:List Str}(hN:N.Nodup){i j:Nat}{x:Str}(a:N[i]?=some x)(b:N[j]?=some x):i=j:=by
 obtain⟨h1,e1⟩:=aa2.mp a
 obtain⟨h2,e2⟩:=aa2.mp b
 exact(getElem_inj hN).mp (e1.trans e2.symm)
theorem zIv{Q:Unit->Shared->Prop}(I:Inv X pins σ H s)(hN:X.N.Nodup)(hi:X.N[i]?=some x)(hx:Loc X.env.scope x)(r:RelV v u)(h:∀s',Inv X pins (σ.set i (some v)) H s'->(∃a,SameBut a s.heap s'.heap/\(a=X.env.locals\/X.env.cells.lookup x=some a))->Q () s')(hf:X.fn x=true\/X.env.scope.names.lookup x=some .local:=by first|exact .inl rfl|exact .inr rfl|assumption):wpAny M A (storeName X.env x u) Q E s:=by
 obtain⟨m,hn,hl⟩:=id I.loc
 have hcls:(X.env.scope.kind==.class||(X.env.scope.kind==.module&&X.env.locals != X.env.globals))=false:=by rw[I.ok.kind];rfl
 have Qo:i<σ.length:=by rw[I.len];exact(aa2.mp hi).1
 have J_:=I.J_
 have tracked:∀{a:Addr}{h':Heap},(∃o,s.heap.get? a=some o/\H a=none)->SameBut a s.heap h'->gQ X.prog X.w H h':=λ{a h'} ha hs b ob e=>by
  obtain⟨_,_,hfree⟩:=ha
  refine(I.hok b ob e).stay (λc w' hc q=>(hs.2 c ?_).trans q) (λ_ q=>q) λ_ _ q=>q
  rintro rfl
  rcases hc with rfl|hc
  ·rw[hfree] at e;cases e
  ·rw[hfree] at hc;cases hc
 rcases hx with hk|hk
 ·refine wpAny_storeName_local hk hn (λh' hn' hs=>?_) hcls
  obtain⟨oL,_,_,hoL,_⟩:=id hn
  refine h _ ⟨I.ok,I.os,I.bare,⟨λb o e n hb hx=>?_,λb o e n hb hx=>?_,I.base.free,λb o e hx=>?_,I.base.tups,I.base.mG,I.base.oG⟩,⟨_,hn',λj y v' e1 e2 e3=>?_⟩,λy c e=>?_,I.free,I.gR,λp hp=>?_,tracked ⟨oL,hoL,I.free⟩ hs,by simpa using I.len⟩ ⟨_,hs,.inl rfl⟩
  ·exact(hs.2 b (aav (aax (lt_size e) I.ok.above))).trans (I.base.keep b o e n hb hx)
  ·obtain⟨sl,e1⟩:=I.base.slot b o e n hb hx
   exact⟨sl,(hs.2 b (aav (aax (lt_size e) I.ok.above))).trans e1⟩
  ·obtain⟨o',e1⟩:=I.base.there b o e hx
   exact⟨o',(hs.2 b (aav (aax (lt_size e) I.ok.above))).trans e1⟩
  ·by_cases hj:j=i
   ·subst hj
    rw[hi] at e1;cases e1
    rw[List.getElem?_set_self Qo] at e2
    cases e2
    exact⟨u,r,.inl ⟨hk,by simp⟩⟩
   ·rw[List.getElem?_set_ne (abt hj)] at e2
    obtain⟨u',r',q⟩:=hl j y v' e1 e2 e3
    refine⟨u',r',?_⟩
    rcases q with⟨k,e⟩|⟨k,c,e,z⟩
    ·refine .inl ⟨k,?_⟩
     have:y≠x:=λe=>hj (zMe hN e1 (e▸hi))
     simp[this,e]
    ·exact .inr ⟨k,c,e,z.sameBut hs (J_ y c e)⟩
  ·obtain⟨w',z⟩:=I.cell y c e
   exact⟨w',z.sameBut hs (J_ y c e)⟩
  ·obtain⟨e,n,ne,nf,d⟩:=I.pin p hp
   exact⟨(hs.2 p.1 ne).trans e,n,ne,nf,d⟩
 ·have hfn:X.fn x=true:=by
   rcases hf with z|z
   ·exact z
   ·rw[z] at hk;cases hk
  obtain⟨c,hc⟩:=I.ok.has x (.inl hk)
  obtain⟨w',z⟩:=I.cell x c hc
  refine wpAny_storeName_cell I.ok.kind hk hc z (λh' hc' hs=>?_)
  obtain⟨oc,hoc,Wx⟩:=id z
  refine h { s with heap:=h' } ⟨I.ok,I.os,I.bare,⟨λb o e n hb hx=>?_,λb o e n hb hx=>?_,I.base.free,λb o e hx=>?_,I.base.tups,I.base.mG,I.base.oG⟩,⟨m,hn.sameBut hs (abt (J_ x c hc)),λj y v' e1 e2 e3=>?_⟩,λy c' e=>?_,I.free,I.gR,λp hp=>?_,tracked ⟨oc,hoc,I.gR x c hc⟩ hs,by simpa using I.len⟩ ⟨c,hs,.inr hc⟩
  ·exact(hs.2 b (aav (aax (lt_size e) (I.ok.cab x c hfn hc)))).trans (I.base.keep b o e n hb hx)
  ·obtain⟨sl,e1⟩:=I.base.slot b o e n hb hx
   exact⟨sl,(hs.2 b (aav (aax (lt_size e) (I.ok.cab x c hfn hc)))).trans e1⟩
  ·obtain⟨o',e1⟩:=I.base.there b o e hx
   exact⟨o',(hs.2 b (aav (aax (lt_size e) (I.ok.cab x c hfn hc)))).trans e1⟩
  ·by_cases hj:j=i
   ·subst hj
    rw[hi] at e1;cases e1
    rw[List.getElem?_set_self Qo] at e2
    cases e2
    exact⟨u,r,.inr ⟨.inl hk,c,hc,hc'⟩⟩
   ·rw[List.getElem?_set_ne (abt hj)] at e2
    obtain⟨u',r',q⟩:=hl j y v' e1 e2 e3
    refine⟨u',r',?_⟩
    rcases q with q|⟨k,c',e,z'⟩
    ·exact .inl q
    ·refine .inr ⟨k,c',e,z'.sameBut hs ?_⟩
     rintro rfl
     exact hj (zMe hN e1 (I.ok.inj _ _ _ e hc▸hi))
  ·by_cases hcc:c'=c
   ·subst hcc;exact⟨_,hc'⟩
   ·obtain⟨w2,z2⟩:=I.cell y c' e
    exact⟨w2,z2.sameBut hs hcc⟩
  ·obtain⟨e,n,ne,nf,d⟩:=I.pin p hp
   refine⟨(hs.2 p.1 ?_).trans e,n,ne,nf,d⟩
   intro q
   rw[q,hoc] at e
   have q':oc=p.2:=aay e
   exact d w' (by rw[<-q'];exact Wx)
theorem Wy{Q:Unit->Shared->Prop}(I:Inv X pins σ H s)(hN:X.N.Nodup)(hi:X.N[i]?=some x)(hx:Loc X.env.scope x)(r:RelV v u)(h:∀s',Inv X pins (σ.set i (some v)) H s'->Q () s')(hf:X.fn x=true\/X.env.scope.names.lookup x=some .local:=by first|exact .inl rfl|exact .inr rfl|assumption):wpAny M A (storeName X.env x u) Q E s :=
 zIv I hN hi hx r (λs' I' _=>h s' I') hf
theorem Inv.call'{s':Shared}(I:Inv X pins σ H s)(ho:s'.os=s.os)(u:Un (frs X.stack) ch H H' s.heap s'.heap)(hok:gQ X.prog X.w H' s'.heap)(hg:AllBare s'.gens)(hch:∀b∈ch,(b∈X.ex\/X.s₀.heap.objs.size<=b)/\b≠X.env.locals/\(∀x c,X.env.cells.lookup x=some c->c≠b)/\∀p∈X.pn++pins,p.1≠b):Inv X pins σ H' s':=by
 obtain⟨h',g',d',t',o'⟩:=s'
 have e:o'=s.os:=ho
 subst e
 exact I.call (g':=g') (t':=t') (d':=d') u hok hg hch
end
abbrev XK:=Value->Option Addr->Hp->Prop
abbrev St:=List (Option V)
abbrev VK:=V->Hp->Prop
abbrev TE:=St->Hp->VK->Prop
abbrev TT:=St->Hp->(Bool->Hp->Prop)->Prop
abbrev TA:=St->Hp->(List V->Hp->Prop)->Prop
structure Ends where
 nx:St->Hp->Prop
 rt:VK
 bk:St->Hp->Prop:=λ_ _=>False
 ct:St->Hp->Prop:=λ_ _=>False
abbrev TS:=Ends->St->Hp->Prop
def EP(X:Cx)(pins:List (Addr×Obj))(σ:St)(Q:VK)(u:Value)(s':Shared):Prop:=∃v H',Inv X pins σ H' s'/\RelV v u/\Q v H'
def TP(X:Cx)(pins:List (Addr×Obj))(σ:St)(Q:Bool->Hp->Prop)(b:Bool)(s':Shared):Prop:=∃H',Inv X pins σ H' s'/\Q b H'
def AP(X:Cx)(pins:List (Addr×Obj))(σ:St)(Q:List V->Hp->Prop)(us:List Value)(s':Shared):Prop:=∃vs H',Inv X pins σ H' s'/\Vals vs us/\Q vs H'
def SP(X:Cx)(pins:List (Addr×Obj))(D:Ends)(f:Flow)(s':Shared):Prop :=
 match f with
 |.next=>∃σ' H',Inv X pins σ' H' s'/\D.nx σ' H'
 |.brk=>∃σ' H',Inv X pins σ' H' s'/\D.bk σ' H'
 |.cont=>∃σ' H',Inv X pins σ' H' s'/\D.ct σ' H'
 |.ret u=>∃v σ' H',Inv X pins σ' H' s'/\RelV v u/\D.rt v H'
def PE(X:Cx)(e:Expr)(t:TE):Prop :=
 ∀(pins:List (Addr×Obj))(s:Shared)(σ:St)(H:Hp)(Q:VK),Inv X pins σ H s->t σ H Q->wpAny (model X.prog X.w) X.A (eval e X.env) (EP X pins σ Q) X.xe s
def PT(X:Cx)(e:Expr)(t:TT):Prop :=
 ∀(pins:List (Addr×Obj))(s:Shared)(σ:St)(H:Hp)(Q:Bool->Hp->Prop),Inv X pins σ H s->t σ H Q->wpAny (model X.prog X.w) X.A (isTrue e X.env (eval e X.env)) (TP X pins σ Q) X.xe s
def PW(X:Cx)(e:Expr)(t:TT):Prop :=
 ∀(whole:Sem Value)(pins:List (Addr×Obj))(s:Shared)(σ:St)(H:Hp)(Q:Bool->Hp->Prop),Inv X pins σ H s->t σ H Q->wpAny (model X.prog X.w) X.A (isTrue e X.env whole) (TP X pins σ Q) X.xe s
theorem PW.pt(h:PW X e t):PT X e t:=h _
def PA(X:Cx)(es:List Expr)(t:TA):Prop :=
 ∀(pos:Pos)(pins:List (Addr×Obj))(s:Shared)(σ:St)(H:Hp)(Q:List V->Hp->Prop),Inv X pins σ H s->t σ H Q->wpAny (model X.prog X.w) X.A (spliced (backTo pos (starEach es X.env))) (AP X pins σ Q) X.xe s
def PS(X:Cx)(st:Stmt)(t:TS):Prop :=
 ∀(pins:List (Addr×Obj))(s:Shared)(σ:St)(H:Hp)(D:Ends),Inv X pins σ H s->t D σ H->wpAny (model X.prog X.w) X.A (exec st X.env) (SP X pins D) X.xe s
def qN(X:Cx)(st:List Stmt)(t:TS):Prop :=
 ∀(pins:List (Addr×Obj))(s:Shared)(σ:St)(H:Hp)(D:Ends),Inv X pins σ H s->t D σ H->wpAny (model X.prog X.w) X.A (execs st X.env) (SP X pins D) X.xe s
theorem aP{α:Type}{t:Sem α}{Q Q':α->Shared->Prop}(h:wpAny M A t Q E s)(hQ:∀a s,Q a s->Q' a s):wpAny M A t Q' E s:=acg h hQ λ_ _ x=>x
section
variable{X:Cx}
def eO(i:Nat):TE:=λσ H Q=>∃v,σ[i]?=some (some v)/\Q v H
def tC(v:V):TE:=λ_ H Q=>Q v H
theorem Ka(hN:X.N[i]?=some x)(hv:Qm X.env.scope x)(hd:(x==("__debug__":Str))=false:=by decide)(hcd:(x==("__classdict__":Str))=false:=by decide):PE X (.Name x pos) (eO i):=by
 intro pins s σ H Q I h
 obtain⟨v,e,h⟩:=h
 obtain⟨m,hn,hl⟩:=I.loc
 obtain⟨u,r,l⟩:=hl i x v hN e hv
 have fin:EP X pins σ Q u s:=⟨v,H,I,r,h⟩
 rcases l with⟨hk,hm⟩|⟨hk,c,hc,hcell⟩
 ·exact wpAny_Name (wpAny_loadName_local I.ok.kind hk hn hm fin) hd
 ·rcases hk with hk|hk
  ·exact wpAny_Name (wpAny_loadName_cell I.ok.kind hk hc hcell fin) hd
  ·exact wpAny_Name (wpAny_loadName_free I.ok.kind hk hc hcell fin hcd) hd
theorem zK{i j pos}:PE X (.Constant (.int i) j pos) (tC (.int i)):=λ_ _ _ H _ I h=>wpAny_Constant_int ⟨.int i,H,I.tok _,⟨_,rfl⟩,h⟩
theorem oE{b j pos}:PE X (.Constant (.bool b) j pos) (tC (.bl b)):=λ_ _ _ H _ I h=>Constant_bool ⟨.bl b,H,I,rfl,h⟩
theorem zVe{j pos}:PE X (.Constant .none j pos) (tC .non):=λ_ _ _ H _ I h=>ae6 ⟨.non,H,I,rfl,h⟩
theorem xK{x j pos}:PE X (.Constant (.str x) j pos) (tC (.str x)):=λ_ _ _ H _ I h=>Calls.Constant_str ⟨.str x,H,I.tok _,⟨_,rfl⟩,h⟩
def Gl(X:Cx)(x:Str):Prop:=X.env.kindOf x=some .globalImplicit
theorem Qp{Q:Value->Shared->Prop}(I:Inv X pins σ H s)(hg:Gl X x)(hm:X.mg x=some u)(h:Q u s)(hd:(x==("__debug__":Str))=false:=by decide):wpAny (model X.prog X.w) X.A (eval (.Name x pos) X.env) Q E s :=
 Calls.Name_function_global I.ok.kind hg (Calls.loadGlobal_global (by rw[I.ok.glob];exact I.mod.glob.keeps I.bk) hm h) hd
theorem Ak{Q:Value->Shared->Prop}(I:Inv X pins σ H s)(hg:Gl X x)(hm:X.mg x=none)(hv:bootBuiltins x=some u)(h:Q u s)(hn:x ≠ "__name__":=by decide)(hd:(x==("__debug__":Str))=false:=by decide):wpAny (model X.prog X.w) X.A (eval (.Name x pos) X.env) Q E s:=by
 obtain⟨mb,h1,h2⟩:=I.mod.blt
 exact Calls.Name_function_global I.ok.kind hg (Calls.loadGlobal_builtin (by rw[I.ok.glob];exact I.mod.glob.keeps I.bk) hm (by rw[I.ok.blt];exact h1.keeps I.bk) ((h2 x hn).trans hv) h) hd
theorem xC(hg:Gl X x)(hm:X.mg x=some u)(r:RelV v u)(hd:(x==("__debug__":Str))=false:=by decide):PE X (.Name x pos) (tC v) :=
 λ_ _ _ H _ I h=>Qp I hg hm ⟨v,H,I,r,h⟩ hd
theorem Dm(hg:Gl X x)(hm:X.mg x=none)(hv:bootBuiltins x=some u)(r:RelV v u)(hn:x ≠ "__name__":=by decide)(hd:(x==("__debug__":Str))=false:=by decide):PE X (.Name x pos) (tC v) :=
 λ_ _ _ H _ I h=>Ak I hg hm hv ⟨v,H,I,r,h⟩ hn hd
variable{a b:Expr}{ta tb:TE}{pos:Pos}
def PC(X:Cx)(op:CmpOp)(a b:Expr)(t:TE):Prop :=
 ∀(pins:List (Addr×Obj))(s:Shared)(σ:St)(H:Hp)(Q:VK),Inv X pins σ H s->t σ H Q ->
  wpAny (model X.prog X.w) X.A (eval a X.env) (λv s₁=>wpAny (model X.prog X.w) X.A (eval b X.env) (λu s₂=>wpAny (model X.prog X.w) X.A (compareOp op v u) (EP X pins σ Q) X.xe s₂) X.xe s₁) X.xe s
theorem zTx(b:Expr)(h:op≠.In)(h2:op≠.NotIn):behindInMarks op b=false:=by
 have e1:(op==CmpOp.In)=false:=by cases op<;>first|rfl|exact absurd rfl h
 have e2:(op==CmpOp.NotIn)=false:=by cases op<;>first|rfl|exact absurd rfl h2
 cases b<;>simp[behindInMarks,e1,e2]
def Qq(ta:TE):TE:=λσ H Q=>ta σ H λx H1=>Q (.bl (decide (x=.non))) H1
def Im(ta:TE):TE:=λσ H Q=>ta σ H λx H1=>Q (.bl (!decide (x=.non))) H1
theorem RelV.qO(r:RelV x v):(v==ac5)=decide (x=.non):=by
 cases x with
 |non=>cases r;rfl
 |bl _=>cases r;rfl
 |int _=>obtain⟨t,rfl⟩:=r;rfl
 |str _=>obtain⟨t,rfl⟩:=r;rfl
 |DQ _=>obtain⟨t,rfl⟩:=r;rfl
 |flt _=>obtain⟨t,rfl⟩:=r;rfl
 |ref _=>cases r;rfl
 |ty _=>cases r;rfl
theorem Uy{j pos'}(ha:PE X a ta):PC X .Is a (.Constant .none j pos') (Qq ta):=by
 intro pins s σ H Q I h
 refine aP (ha pins s σ H _ I h) λv s1 ⟨x,H1,I1,r1,q1⟩=>?_
 exact ae6 (is_none_gen ⟨.bl _,H1,I1,by rw[r1.qO];rfl,q1⟩)
theorem Eb{j pos'}(ha:PE X a ta):PC X .IsNot a (.Constant .none j pos') (Im ta):=by
 intro pins s σ H Q I h
 refine aP (ha pins s σ H _ I h) λv s1 ⟨x,H1,I1,r1,q1⟩=>?_
 exact ae6 (isnot_none_gen ⟨.bl _,H1,I1,by rw[r1.qO];rfl,q1⟩)
def tB(t:TE):TT:=λσ H Q=>t σ H λx H1=>∃c,x=.bl c/\Q c H1
theorem v7(h:PC X op a b t)(h1:behindInMarks op b=false:=by first|exact zTx _ (by decide) (by decide)|rfl):PT X (.Compare a [op] [b] pos) (tB t):=by
 intro pins s σ H Q I hw
 refine wpAny_isTrue_Compare1 (aP (h pins s σ H _ I hw) λv s1 h1=>aP h1 λu s2 h2=>aP h2 λc s3 ⟨x,H1,I1,r1,q1⟩=>?_) h1
 obtain⟨d,rfl,q⟩:=q1
 cases r1
 exact acd ⟨H1,I1,q⟩
theorem yS(h:PE X e t)(he:∀whole,isTrue e X.env whole=(do let v <-whole;standAt e.pos;holding [v] (truthy v)):=by intro _;rfl):PT X e (tB t):=by
 intro pins s σ H Q I hw
 refine isTrue_plain (aP (h pins s σ H _ I hw) λv s1 ⟨x,H1,I1,r1,q1⟩=>?_) (he _)
 obtain⟨d,rfl,q⟩:=q1
 cases r1
 exact acd ⟨H1,I1,q⟩
variable{tA Uz:TT}{rest:List Expr}
def Qs(t u:TT):TT:=λσ H Q=>t σ H λc H1=>if c=true then u σ H1 Q else Q false H1
def tOr(t u:TT):TT:=λσ H Q=>t σ H λc H1=>if c=true then Q true H1 else u σ H1 Q
def Qt(t:TT):TT:=λσ H Q=>t σ H λc H1=>Q (!c) H1
theorem pw_and1(ha:PT X a tA):PW X (.BoolOp .And [a] pos) tA:=by
 intro wh pins s σ H Q I h
 refine isTrue_and (aP (ha pins s σ H Q I h) λc s1 e=>?_)
 cases c with
 |true=>exact isTrue_and_nil e
 |false=>exact e
theorem pw_or1(ha:PT X a tA):PW X (.BoolOp .Or [a] pos) tA:=by
 intro wh pins s σ H Q I h
 refine isTrue_or (aP (ha pins s σ H Q I h) λc s1 e=>?_)
 cases c with
 |false=>exact isTrue_or_nil e
 |true=>exact e
theorem pw_and(ha:PT X a tA)(hb:PW X (.BoolOp .And (b::rest) pos) Uz):PW X (.BoolOp .And (a::b::rest) pos) (Qs tA Uz):=by
 intro wh pins s σ H Q I h
 refine isTrue_and (aP (ha pins s σ H _ I h) λc s1 ⟨H1,I1,q1⟩=>?_)
 cases c with
 |true=>exact hb wh pins s1 σ H1 Q I1 q1
 |false=>exact⟨H1,I1,q1⟩
theorem pw_or(ha:PT X a tA)(hb:PW X (.BoolOp .Or (b::rest) pos) Uz):PW X (.BoolOp .Or (a::b::rest) pos) (tOr tA Uz):=by
 intro wh pins s σ H Q I h
 refine isTrue_or (aP (ha pins s σ H _ I h) λc s1 ⟨H1,I1,q1⟩=>?_)
 cases c with
 |true=>exact⟨H1,I1,q1⟩
 |false=>exact hb wh pins s1 σ H1 Q I1 q1
theorem v8(ha:PT X a tA):PT X (.UnaryOp .Not a pos) (Qt tA):=by
 intro pins s σ H Q I h
 exact isTrue_not (ha pins s σ H (λc H1=>Q (!c) H1) I h)
def Io(ta tb:TE):TE:=λσ H Q=>ta σ H λx H1=>∃c,x=.bl c/\if c=true then tb σ H1 Q else Q (.bl false) H1
def Ip(ta:TE):TE:=λσ H Q=>ta σ H λx H1=>∃c,x=.bl c/\Q (.bl (!c)) H1
theorem Oq{op}(h:PE X a t):PE X (.BoolOp op [a] pos) t:=λpins s σ H Q I hw=>BoolOp_one (h pins s σ H Q I hw)
theorem Kc(ha:PE X a ta)(hb:PE X (.BoolOp .And (b::rest) pos) tb):PE X (.BoolOp .And (a::b::rest) pos) (Io ta tb):=by
 intro pins s σ H Q I h
 refine BoolOp_and (aP (ha pins s σ H _ I h) λv s1 ⟨x,H1,I1,r1,q1⟩=>?_)
 obtain⟨c,rfl,q1⟩:=q1
 cases r1
 refine acd ?_
 cases c with
 |true=>exact hb pins s1 σ H1 Q I1 q1
 |false=>exact⟨.bl false,H1,I1,rfl,q1⟩
theorem zVd(ha:PE X a ta):PE X (.UnaryOp .Not a pos) (Ip ta):=by
 intro pins s σ H Q I h
 refine UnaryOp_ (aP (ha pins s σ H _ I h) λv s1 ⟨x,H1,I1,r1,q1⟩=>?_)
 obtain⟨c,rfl,q1⟩:=q1
 cases r1
 exact not_of (acd ⟨.bl (!c),H1,I1,rfl,q1⟩)
def tIf(t:TT)(ta tb:TE):TE:=λσ H Q=>t σ H λc H1=>if c=true then ta σ H1 Q else tb σ H1 Q
theorem zMa(hc:PT X c tA)(ha:PE X a ta)(hb:PE X b tb):PE X (.IfExp c a b pos) (tIf tA ta tb):=by
 intro pins s σ H Q I h
 refine wpAny_IfExp (aP (hc pins s σ H _ I h) λd s1 ⟨H1,I1,q1⟩=>?_)
 cases d with
 |true=>exact ha pins s1 σ H1 Q I1 q1
 |false=>exact hb pins s1 σ H1 Q I1 q1
end
def bw(K:PySem.W.Frag)(H:Hp)(a:Addr)(xs:List V):Prop :=
 Rd H a (.lst xs) \/
  ∃(o:Obj)(its:Array Value)(n:Nat),K.lookup a=some o/\o.cls=.type "list" /\ o.dict=none/\o.data=.seq its n/\its.size<=sizeLine/\Vals xs its.toList
def kj(K:PySem.W.Frag)(H:Hp)(a:Addr)(xs:List V):Prop :=
 Rd H a (.tup xs) \/
  ∃(o:Obj)(its:Array Value)(n:Nat),K.lookup a=some o/\o.cls=.type "tuple" /\ o.data=.seq its n/\its.size<=sizeLine/\Vals xs its.toList
def Wz:Value->Option V
 |.none=>some .non
 |.bool b=>some (.bl b)
 |.int i _=>some (.int i)
 |.str x _=>some (.str x)
 |.bytes b _=>some (.DQ b)
 |.float b _=>some (.flt b)
 |.ref a=>some (.ref a)
 |.type n=>some (.ty n)
 |_=>none
theorem RelV.abs(r:RelV x u):Wz u=some x:=by
 cases x with
 |non=>cases r;rfl
 |bl _=>cases r;rfl
 |int _=>obtain⟨t,rfl⟩:=r;rfl
 |str _=>obtain⟨t,rfl⟩:=r;rfl
 |DQ _=>obtain⟨t,rfl⟩:=r;rfl
 |flt _=>obtain⟨t,rfl⟩:=r;rfl
 |ref _=>cases r;rfl
 |ty _=>cases r;rfl
theorem RelV.inj(r:RelV x u)(q:RelV y u):x=y:=aay (r.abs.symm.trans q.abs)
theorem Vals.inj:∀{xs ys:List V}{us:List Value},Vals xs us->Vals ys us->xs=ys
 |_,_,_,.nil,.nil=>rfl
 |_,_,_,.cons r t,.cons r' t'=>by rw[r.inj r',Vals.inj t t']
section
variable{X:Cx}{pins:List (Addr×Obj)}{σ:St}{H:Hp}{s:Shared}{a:Addr}{xs ys:List V}
theorem bw.of{K:PySem.W.Frag}(h:H a=some (.lst xs)):bw K H a xs:=.inl (.inl h)
theorem kj.of{K:PySem.W.Frag}(h:H a=some (.tup xs)):kj K H a xs:=.inl (.inl h)
theorem Inv.list(I:Inv X pins σ H s)(h:bw X.K H a xs):∃its:List Value,Vals xs its/\PlainL s.heap a its.toArray/\xs.length<=sizeLine:=by
 rcases h with h|⟨o,its,n,hk,hc,hd,hs,hz,r⟩
 ·obtain⟨z,its,n,r,e⟩:=h.ok I.hok
  exact⟨its,r,⟨_,n,e,rfl,rfl,rfl⟩,z⟩
 ·refine⟨its.toList,r,⟨o,n,I.jP a o hk,hc,hd,by simpa using hs⟩,?_⟩
  have e:=r.length
  simp only[length_toList] at e
  omega
theorem Inv.tuple(I:Inv X pins σ H s)(h:kj X.K H a xs):∃its:List Value,Vals xs its/\IsTup s.heap a its.toArray/\xs.length<=sizeLine:=by
 rcases h with h|⟨o,its,n,hk,hc,hs,hz,r⟩
 ·obtain⟨z,its,r,p⟩:=h.ok I.hok
  exact⟨its,r,p,z⟩
 ·refine⟨its.toList,r,⟨o,I.jP a o hk,hc,n,by simpa using hs⟩,?_⟩
  have e:=r.length
  simp only[length_toList] at e
  omega
theorem Inv.qP(I:Inv X pins σ H s)(h:bw X.K H a xs)(h':bw X.K H a ys):xs=ys:=by
 obtain⟨its,r,⟨o,n,e,_,_,d⟩,_⟩:=I.list h
 obtain⟨its',r',⟨o',n',e',_,_,d'⟩,_⟩:=I.list h'
 rw[e] at e';cases e'
 rw[d] at d'
 injection d' with d1 _
 have:its=its':=by simpa using congrArg Array.toList d1
 subst this
 exact r.inj r'
theorem Inv.v9(I:Inv X pins σ H s)(h:kj X.K H a xs)(h':kj X.K H a ys):xs=ys:=by
 obtain⟨its,r,⟨o,e,_,n,d⟩,_⟩:=I.tuple h
 obtain⟨its',r',⟨o',e',_,n',d'⟩,_⟩:=I.tuple h'
 rw[e] at e';cases e'
 rw[d] at d'
 injection d' with d1 _
 have:its=its':=by simpa using congrArg Array.toList d1
 subst this
 exact r.inj r'
end
abbrev Cx.wish(X:Cx)(E:Value->Shared->Prop):Cx:={ X with xe:=E }
abbrev Cx.Ir(X:Cx):Cx:=X.wish λ_ _=>False
theorem Cx.Ok.wish{X:Cx}(ok:X.Ok)(E:Value->Shared->Prop):(X.wish E).Ok :=
 ⟨ok.mod,ok.kind,ok.glob,ok.blt,ok.above,ok.inj,ok.has,ok.cab,ok.hd,ok.frames,ok.stk,ok.Uw,ok.bs,ok.D_,ok.Ai,ok.Aj,ok.lV,ok.J8⟩
theorem Cx.Ok.gU{X:Cx}(ok:(X.wish E).Ok):X.Ok :=
 ⟨ok.mod,ok.kind,ok.glob,ok.blt,ok.above,ok.inj,ok.has,ok.cab,ok.hd,ok.frames,ok.stk,ok.Uw,ok.bs,ok.D_,ok.Ai,ok.Aj,ok.lV,ok.J8⟩
section
variable{X:Cx}{pins:List (Addr×Obj)}{σ:St}{H:Hp}{s:Shared}{E:Value->Shared->Prop}
theorem Inv.wish(I:Inv X pins σ H s)(E:Value->Shared->Prop):Inv (X.wish E) pins σ H s:=⟨I.ok.wish E,I.os,I.bare,I.base,I.loc,I.cell,I.free,I.gR,I.pin,I.hok,I.len⟩
theorem Inv.gU(I:Inv (X.wish E) pins σ H s):Inv X pins σ H s:=⟨I.ok.gU,I.os,I.bare,I.base,I.loc,I.cell,I.free,I.gR,I.pin,I.hok,I.len⟩
theorem SP.gU(h:SP (X.wish E) pins D f s'):SP X pins D f s':=by
 cases f with
 |next=>obtain⟨σ',H',I,q⟩:=h;exact⟨σ',H',I.gU,q⟩
 |brk=>obtain⟨σ',H',I,q⟩:=h;exact⟨σ',H',I.gU,q⟩
 |cont=>obtain⟨σ',H',I,q⟩:=h;exact⟨σ',H',I.gU,q⟩
 |ret u=>obtain⟨v,σ',H',I,r,q⟩:=h;exact⟨v,σ',H',I.gU,r,q⟩
theorem qN.Ir{st:List Stmt}{t:TS}(h:qN X.Ir st t):qN X st t:=λpins s σ H D I hw =>
 acg (h pins s σ H D (I.wish _) hw) (λ_ _ q=>q.gU) λ_ _ z=>abo z
end
section
variable{X:Cx}{st:Stmt}{rest:List Stmt}{t u:TS}{e:Expr}{te:TE}{pos:Pos}
def Qu:TS:=λD σ H=>D.nx σ H
def oH(t u:TS):TS:=λD σ H=>t { D with nx:=u D } σ H
theorem zG:qN X [] Qu:=λ_ _ σ H _ I h=>aee ⟨σ,H,I,h⟩
theorem zB(h1:PS X st t)(h2:qN X rest u):qN X (st::rest) (oH t u):=by
 intro pins s σ H D I h
 refine wpAny_execs_cons (aP (h1 pins s σ H { D with nx:=u D } I h) λf s1 q=>?_)
 cases f with
 |next =>
  obtain⟨σ',H',I',q⟩:=q
  exact h2 pins s1 σ' H' D I' q
 |ret v=>exact q
 |brk=>exact q
 |cont=>exact q
theorem xV(h1:PS X st t):qN X [st] t:=by
 intro pins s σ H D I h
 refine wpAny_execs_cons (aP (h1 pins s σ H D I h) λf s1 q=>?_)
 cases f with
 |next=>exact aee q
 |ret v=>exact q
 |brk=>exact q
 |cont=>exact q
theorem Inv.quiet(I:Inv X pins σ H s):interactive X.env=false:=by simp[interactive,I.ok.kind]
def Ot(te:TE):TS:=λD σ H=>te σ H λ_ H1=>D.nx σ H1
theorem yH(he:PE X e te)(hs:swapsWith e none pos.line X.env=pure false:=by rfl):PS X (.Expr e pos) (Ot te):=by
 intro pins s σ H D I h
 exact wpAny_Expr_any (aP (he pins s σ H _ I h) λv s1 ⟨x,H1,I1,r1,q1⟩=>⟨σ,H1,I1,q1⟩) I.quiet hs
def Ec(te:TE):TS:=λD σ H=>te σ H D.rt
theorem zU(he:PE X e te):PS X (.Return (some e) pos) (Ec te):=by
 intro pins s σ H D I h
 exact wpAny_Return_some (aP (he pins s σ H _ I h) λv s1 ⟨x,H1,I1,r1,q1⟩=>⟨x,σ,H1,I1,r1,q1⟩)
def Ed(c:TT)(t u:TS):TS:=λD σ H=>c σ H λb H1=>if b=true then t D σ H1 else u D σ H1
theorem yP(hc:PT X c tc)(ha:qN X a t)(hb:qN X b u):PS X (.If c a b pos) (Ed tc t u):=by
 intro pins s σ H D I h
 refine wpAny_If (aP (hc pins s σ H _ I h) λd s1 ⟨H1,I1,q1⟩=>?_)
 cases d with
 |true=>exact ha pins s1 σ H1 D I1 q1
 |false=>exact hb pins s1 σ H1 D I1 q1
def WD:TS:=λ_ _ _=>False
theorem yO:qN X sts WD:=λ_ _ _ _ _ _ h=>h.elim
end
abbrev TG:=V->St->Hp->(St->Hp->Prop)->Prop
abbrev Ou:=List V->St->Hp->(St->Hp->Prop)->Prop
def PG(X:Cx)(target:Expr)(t:TG):Prop :=
 ∀(pins:List (Addr×Obj))(s:Shared)(σ:St)(H:Hp)(v:V)(u:Value)(Q:St->Hp->Prop),Inv X pins σ H s->RelV v u->t v σ H Q ->
  wpAny (model X.prog X.w) X.A (assign target X.env u) (λ_ s'=>∃σ' H',Inv X pins σ' H' s'/\Q σ' H') X.xe s
def Qv(X:Cx)(ts:List Expr)(t:Ou):Prop :=
 ∀(pins:List (Addr×Obj))(s:Shared)(σ:St)(H:Hp)(vs:List V)(us:List Value)(Q:St->Hp->Prop),Inv X pins σ H s->Vals vs us->t vs σ H Q ->
  wpAny (model X.prog X.w) X.A (assignInOrder ((assignEach ts X.env).map (·.2)) us) (λ_ s'=>∃σ' H',Inv X pins σ' H' s'/\Q σ' H') X.xe s
abbrev Kd:=V->V->V->Hp->(Hp->Prop)->Prop
def Ke(X:Cx)(t:Kd):Prop :=
 ∀(pins:List (Addr×Obj))(s:Shared)(σ:St)(H:Hp)(o i v:V)(ov iv u:Value)(Q:Hp->Prop),Inv X pins σ H s->RelV o ov->RelV i iv->RelV v u->t o i v H Q ->
  wpAny (model X.prog X.w) X.A (setItem ov iv u) (λ_ s'=>∃H',Inv X pins σ H' s'/\Q H') X.xe s
abbrev UG:=V->V->Hp->VK->Prop
def UJ(X:Cx)(op:Operator)(t:UG):Prop :=
 ∀(pins:List (Addr×Obj))(s:Shared)(σ:St)(H:Hp)(x y:V)(v u:Value)(Q:VK),Inv X pins σ H s->RelV x v->RelV y u->t x y H Q ->
  wpAny (model X.prog X.w) X.A (inplaceOp op v u) (EP X pins σ Q) X.xe s
section
variable{X:Cx}{pos:Pos}
def ug(i:Nat):TG:=λv σ H Q=>Q (σ.set i (some v)) H
theorem yJ(hN:X.N.Nodup)(hi:X.N[i]?=some x)(hx:Loc X.env.scope x)(hf:X.fn x=true\/X.env.scope.names.lookup x=some .local:=by first|exact .inl rfl|exact .inr rfl|assumption):PG X (.Name x pos) (ug i):=by
 intro pins s σ H v u Q I r h
 exact wpAny_assign_Name (Wy I hN hi hx r (λs' I'=>⟨_,H,I',h⟩) hf)
def Qw:Ou:=λvs σ H Q=>vs=[]/\Q σ H
def Al(t:TG)(u:Ou):Ou:=λvs σ H Q=>∃v r,vs=v::r/\t v σ H λσ' H'=>u r σ' H' Q
theorem Ef:Qv X [] Qw:=by
 intro pins s σ H vs us Q I r h
 obtain⟨e,h⟩:=h
 subst e
 cases r
 exact assignInOrder_nil ⟨σ,H,I,h⟩
theorem xI(h1:PG X e t)(h2:Qv X es u)(hs:(assignEach (e::es) X.env).map (·.2)=assign e X.env::(assignEach es X.env).map (·.2):=by rfl):Qv X (e::es) (Al t u):=by
 intro pins s σ H vs us Q I r h
 obtain⟨v,vr,e1,h⟩:=h
 subst e1
 cases r with
 |cons r rr =>
  rw[hs]
  refine assignInOrder_cons (aP (h1 pins s σ H _ _ _ I r h) λ_ s1 ⟨σ1,H1,I1,q1⟩=>?_)
  exact h2 pins s1 σ1 H1 _ _ Q I1 rr q1
def Kf(K:PySem.W.Frag)(n:Nat)(t:Ou):TG:=λv σ H Q=>∃a xs,v=.ref a/\kj K H a xs/\xs.length=n/\t xs σ H Q
theorem Iu(hc:X.calm=true)(h:Qv X es t)(hn:(assignEach es X.env).length=n:=by rfl)(hst:(assignEach es X.env).findIdx? (·.1)=none:=by rfl):PG X (.Tuple es k pos) (Kf X.K n t):=by
 intro pins s σ H v u Q I r hw
 obtain⟨a,xs,e1,hq,hl,hw⟩:=hw
 subst e1
 cases r
 obtain⟨its,rv,ht,hz⟩:=I.tuple hq
 refine assign_Tuple_tuple (I.ok.hd hc) ht (by simp[hn,<-hl,rv.length]) hst λh' hx=>?_
 have I1:Inv X pins σ H { s with heap:=h' }:=I.kept (t':=s.toks) λb o e=>hx b o (aav (lt_size e)) e
 exact h pins _ σ H xs _ Q I1 (by simpa using rv) hw
def Qx(to ti:TE)(t:Kd):TG:=λv σ H Q=>to σ H λo H1=>ti σ H1 λi H2=>t o i v H2 λH3=>Q σ H3
theorem UL(ho:PE X o to)(hi:PE X i ti)(hs:Ke X t)(ha:∀v,assign (.Subscript o i pos) X.env v=(do
   let ov <-holding [v] (eval o X.env)
   let iv <-holding [v,ov] (eval i X.env)
   standAt pos
   holding [v,ov,iv] (setItem ov iv v)
   release [v,ov,iv] []):=by intro _;rfl):PG X (.Subscript o i pos) (Qx to ti t):=by
 intro pins s σ H v u Q I r h
 rw[ha]
 refine aan (abj (aP (ho pins s σ H _ I h) λov s1 ⟨x,H1,I1,r1,q1⟩=>?_))
 refine aan (abj (aP (hi pins s1 σ H1 _ I1 q1) λiv s2 ⟨y,H2,I2,r2,q2⟩=>?_))
 refine aan (ae9 (aan (abj (aP (hs pins s2 σ H2 x y v ov iv u _ I2 r1 r2 r q2) λ_ s3 ⟨H3,I3,q3⟩=>?_))))
 exact wpAny_release ⟨σ,H3,I3,q3⟩
def mH(te:TE)(g:TG):TS:=λD σ H=>te σ H λx H1=>g x σ H1 D.nx
theorem Ov(he:PE X e te)(hg:PG X tg g)(hs:swapsWithSole [tg] e pos.line X.env=pure false:=by rfl)(hw:swappedStores [tg] e X.env=pure none:=by rfl)(h1:(assignEach [tg] X.env).map (·.2)=[assign tg X.env]:=by rfl):PS X (.Assign [tg] e pos) (mH te g):=by
 intro pins s σ H D I h
 refine wpAny_Assign_stores (aP (he pins s σ H _ I h) λv s1 ⟨x,H1,I1,r1,q1⟩=>?_) hs hw
 rw[h1]
 exact aP (hg pins s1 σ H1 x v _ I1 r1 q1) λ_ s2 q=>q
theorem WK(hN:X.N.Nodup)(hi:X.N[i]?=some x)(hx:Loc X.env.scope x)(he:PE X e te)(hs:swapsWith e (some (.Name x pos')) pos.line X.env=pure false:=by rfl)(hf:X.fn x=true\/X.env.scope.names.lookup x=some .local:=by first|exact .inl rfl|exact .inr rfl|assumption) :
  PS X (.Assign [.Name x pos'] e pos) (mH te (ug i)):=by
 intro pins s σ H D I h
 refine wpAny_Assign_Name (aP (he pins s σ H _ I h) λv s1 ⟨y,H1,I1,r1,q1⟩=>?_) hs
 exact Wy I1 hN hi hx r1 (λs2 I2=>⟨_,H1,I2,q1⟩) hf
def Qy(i:Nat)(te:TE)(ti:UG):TS:=λD σ H=>∃x,σ[i]?=some (some x)/\te σ H λy H1=>ti x y H1 λz H2=>D.nx (σ.set i (some z)) H2
theorem zVc(hN:X.N.Nodup)(hi:X.N[i]?=some x)(hx:Loc X.env.scope x)(he:PE X e te)(ho:UJ X op ti)(hf:X.fn x=true\/X.env.scope.names.lookup x=some .local:=by first|exact .inl rfl|exact .inr rfl|assumption) :
  PS X (.AugAssign (.Name x pos') op e pos) (Qy i te ti):=by
 intro pins s σ H D I h
 obtain⟨v,e1,h⟩:=h
 obtain⟨m,hn,hl⟩:=I.loc
 have vis:Qm X.env.scope x:=by rcases hx with k|k;exact .inl k;exact .inr (.inl k)
 obtain⟨u,r,l⟩:=hl i x v hi e1 vis
 refine wpAny_AugAssign_Name ?_
 have go:wpAny (model X.prog X.w) X.A (eval e X.env) (λw s₂=>wpAny (model X.prog X.w) X.A (inplaceOp op u w) (λr s₃=>wpAny (model X.prog X.w) X.A (storeName X.env x r) (λ_=>SP X pins D .next) X.xe s₃) X.xe s₂) X.xe s:=by
  refine aP (he pins s σ H _ I h) λw s1 ⟨y,H1,I1,r1,q1⟩=>?_
  refine aP (ho pins s1 σ H1 v y u w _ I1 r r1 q1) λz s2 ⟨zv,H2,I2,r2,q2⟩=>?_
  exact Wy I2 hN hi hx r2 (λs3 I3=>⟨_,H2,I3,q2⟩) hf
 rcases l with⟨hk,hm⟩|⟨hk,c,hc,hcell⟩
 ·exact wpAny_loadName_local I.ok.kind hk hn hm go
 ·rcases hk with hk|hk
  ·exact wpAny_loadName_cell I.ok.kind hk hc hcell go
  ·rcases hx with k|k
   ·have:X.env.scope.names.lookup x=some .free:=hk
    rw[k] at this;cases this
   ·have:X.env.scope.names.lookup x=some .free:=hk
    rw[k] at this;cases this
def Iv(to ti te:TE)(Kg:V->V->Hp->VK->Prop)(WL:UG)(Kh:Kd):TS:=λD σ H=>to σ H λo H1=>ti σ H1 λi H2=>Kg o i H2 λx H3=>te σ H3 λy H4=>WL x y H4 λz H5=>Kh o i z H5 λH6=>D.nx σ H6
def Qz(X:Cx)(t:V->V->Hp->VK->Prop):Prop :=
 ∀(pins:List (Addr×Obj))(s:Shared)(σ:St)(H:Hp)(o i:V)(ov iv:Value)(Q:VK),Inv X pins σ H s->RelV o ov->RelV i iv->t o i H Q ->
  wpAny (model X.prog X.w) X.A (getItem ov iv) (EP X pins σ Q) X.xe s
theorem Eh(ho:PE X o to)(hi:PE X i ti)(hg:Qz X Kg)(he:PE X e te)(hp:UJ X op WL)(hs:Ke X Kh)(ha:∀ov iv new,augStore i ov iv new=(do holding [new,ov,iv] (setItem ov iv new);release [new,ov,iv] [];pure .next):=by intros;rfl):PS X (.AugAssign (.Subscript o i tpos) op e pos) (Iv to ti te Kg WL Kh):=by
 intro pins s σ H D I h
 refine wpAny_AugAssign_SubscriptAny (aP (ho pins s σ H _ I h) λov s1 ⟨x1,H1,I1,r1,q1⟩=>?_) ha
 refine aP (hi pins s1 σ H1 _ I1 q1) λiv s2 ⟨x2,H2,I2,r2,q2⟩=>?_
 refine aP (hg pins s2 σ H2 x1 x2 ov iv _ I2 r1 r2 q2) λold s3 ⟨x3,H3,I3,r3,q3⟩=>?_
 refine aP (he pins s3 σ H3 _ I3 q3) λv s4 ⟨x4,H4,I4,r4,q4⟩=>?_
 refine aP (hp pins s4 σ H4 x3 x4 old v _ I4 r3 r4 q4) λnew s5 ⟨x5,H5,I5,r5,q5⟩=>?_
 exact aP (hs pins s5 σ H5 x1 x2 x5 ov iv new _ I5 r1 r2 r5 q5) λ_ s6 ⟨H6,I6,q6⟩=>⟨σ,H6,I6,q6⟩
def UW(f:Int->Int->Int):UG:=λx y H Q=>∃i j,x=.int i/\y=.int j/\Q (.int (f i j)) H
theorem Kl:UJ X .Add (UW λi j=>i+j):=by
 intro pins s σ H x y v u Q I r1 r2 h
 obtain⟨i,j,e1,e2,q⟩:=h
 subst e1;subst e2
 obtain⟨t,rfl⟩:=r1
 obtain⟨t',rfl⟩:=r2
 exact iadd_int ⟨.int _,H,I.tok _,⟨_,rfl⟩,q⟩
end
section
variable{X:Cx}{pos:Pos}
def zU4(c:TT)(tb:TS):TS:=λD σ H=>∃W:Nat->St->Hp->Prop,(∃m,W m σ H)/\∀m σ H,W m σ H ->
 c σ H λb H1=>if b=true then∃N:St->Hp->Prop,(∀σ' H',N σ' H'->∃m',m'<m/\W m' σ' H')/\tb { D with nx:=N,ct:=N,bk:=D.nx } σ H1 else D.nx σ H1
theorem zL8(hp:PassesOwn (model X.prog X.w) X.A X.env X.xe)(hc:PT X c tc)(hb:qN X body tb):PS X (.While c body [] pos) (zU4 tc tb):=by
 intro pins s σ H D I h
 obtain⟨W,⟨m0,w0⟩,turn⟩:=h
 refine wpAny_While (codeAny_whileLoop (λn s'=>∃σ' H',Inv X pins σ' H' s'/\W n σ' H') ?_ m0 ⟨σ,H,I,w0⟩)
 rintro n s1 ⟨σ1,H1,I1,w1⟩
 refine acz hp (aP (hc pins s1 σ1 H1 _ I1 (turn n σ1 H1 w1)) λb s2 ⟨H2,I2,q2⟩=>?_)
 cases b with
 |true =>
  obtain⟨N,hN,q2⟩:=q2
  rw[if_pos rfl]
  refine acz hp (aP (hb pins s2 σ1 H2 _ I2 q2) λf s3 q3=>?_)
  cases f with
  |next =>
   obtain⟨σ3,H3,I3,n3⟩:=q3
   obtain⟨m',hm,w3⟩:=hN σ3 H3 n3
   exact⟨m',hm,σ3,H3,I3,w3⟩
  |cont =>
   obtain⟨σ3,H3,I3,n3⟩:=q3
   obtain⟨m',hm,w3⟩:=hN σ3 H3 n3
   exact⟨m',hm,σ3,H3,I3,w3⟩
  |brk=>exact q3
  |ret v=>exact q3
 |false =>
  rw[if_neg aa0]
  exact aee ⟨σ1,H2,I2,q2⟩
end
structure It where
 go:Nat->Hp->Prop
 Ow:Nat->Hp->V->Hp->Prop
 stop:Nat->Hp->Prop
def lW(X:Cx)(pins:List (Addr×Obj))(H:Hp)(b:Addr):Prop :=
 H b=none/\b≠X.env.locals/\b∉X.fs/\(b∈X.ex\/X.s₀.heap.objs.size<=b)/\(∀x c,X.env.cells.lookup x=some c->c≠b)/\∀p∈X.pn++pins,p.1≠b
theorem Inv.oJ(I:Inv X pins σ H s)(hb:s.heap.objs.size<=b)(hn:H' b=none):lW X pins H' b:=by
 refine⟨hn,adl (aax I.lt hb),I.J9 hb,.inr (aaz I.sz hb),λx c e z=>?_,λp hp z=>?_⟩
 ·obtain⟨v,q⟩:=I.cell x c e
  exact absurd (aax q.lt (by rw[z];exact hb)) (abu _)
 ·exact absurd (aax (lt_size (I.pin p hp).1) (by rw[z];exact hb)) (abu _)
structure Turn(P:Program)(w:World)(K:PySem.W.Frag)(tg:Expr)(J:It)(fp:List Addr)(it:Addr)(tn:Nat->Heap->Prop):Prop where
 mem:it∈fp
 obj:∀i h,tn i h->∀b∈fp,∃o,h.get? b=some o/\∀v,o.data≠.cell v
 keep:∀i h h',tn i h->(∀b∈fp,∀o,h.get? b=some o->h'.get? b=some o)->tn i h'
 item:∀(X:Cx),X.prog=P->X.w=w->X.K=K->X.calm=true->∀(i:Nat)(pins:List (Addr×Obj))(s:Shared)(σ:St)(H:Hp)(E:Value->Shared->Prop),Inv X pins σ H s->(∀b∈fp,lW X pins H b)->tn i s.heap->J.go i H ->
  wpAny (model P w) X.A (pyNext (.ref it)) (λr s1=>∃u,r=some u /\
   wpAny (model P w) X.A (letOwnedTupleGo tg (.ref it) u) (λ_ s2=>∃x H',Inv X pins σ H' s2/\RelV x u/\J.Ow i H x H'/\tn (i+1) s2.heap/\∀b∈fp,H' b=none) E s1) E s
 done:∀(X:Cx),X.prog=P->X.w=w->X.K=K->X.calm=true->∀(i:Nat)(pins:List (Addr×Obj))(s:Shared)(σ:St)(H:Hp)(E:Value->Shared->Prop),Inv X pins σ H s->(∀b∈fp,lW X pins H b)->tn i s.heap->J.stop i H ->
  wpAny (model P w) X.A (pyNext (.ref it)) (λr s1=>r=none/\Inv X pins σ H s1) E s
 self:∀(A:Around)(i:Nat)(s:Shared)(Q:Value->Shared->Prop)(E:Value->Shared->Prop),tn i s.heap->Q (.ref it) s->wpAny (model P w) A (pyIter (.ref it)) Q E s
abbrev TI:=St->Hp->(It->Hp->Prop)->Prop
def PIE(X:Cx)(pins:List (Addr×Obj))(σ:St)(tg:Expr)(R:It->Hp->Prop)(itv:Value)(s2:Shared):Prop :=
 ∃(it:Addr)(fp:List Addr)(tn:Nat->Heap->Prop)(J:It)(H':Hp),itv=.ref it/\Inv X pins σ H' s2/\Turn X.prog X.w X.K tg J fp it tn/\tn 0 s2.heap/\(∀b∈fp,lW X pins H' b)/\R J H'
def PI(X:Cx)(tg iter:Expr)(wi:TI):Prop :=
 ∀(pins:List (Addr×Obj))(s:Shared)(σ:St)(H:Hp)(R:It->Hp->Prop),Inv X pins σ H s->wi σ H R ->
  wpAny (model X.prog X.w) X.A (eval iter X.env) (λv s1=>wpAny (model X.prog X.w) X.A (pyIter v) (PIE X pins σ tg R) X.xe s1) X.xe s
theorem QB{s:Shared}{Q:Unit->Shared->Prop}(ho:s.heap.get? it=some o)(hc:o.cls=.type n)(hd:o.data=.fields vs)(hn:["enumerate","zip","dict_itemiterator","dict_reverseitemiterator","odict_iterator","itertools.zip_longest","itertools.pairwise"].contains n=false)(hQ:Q () s):wpAny M A (letOwnedTupleGo tg (.ref it) u) Q E s:=by
 unfold letOwnedTupleGo
 cases tg<;>first
  |exact aap hQ
  | (cases u<;>first
    |exact aap hQ
    | (refine aan (wpAny_load ho ?_)
       rw[hc,hd]
       show wpAny M A (if(["enumerate","zip","dict_itemiterator","dict_reverseitemiterator","odict_iterator","itertools.zip_longest","itertools.pairwise"].contains n&&vs[0]?==some (rawInt _))=true then _ else _) Q E s
       rw[if_neg (by intro h;rw[hn,Bool.false_and] at h;cases h)]
       exact aap hQ))
def Ox(K:PySem.W.Frag)(a:Addr):It :=
 ⟨λi H=>∃xs x,bw K H a xs/\xs[i]?=some x,λi H x H'=>H'=H/\∀xs,bw K H a xs->xs[i]?=some x,λi H=>∃xs,bw K H a xs/\xs.length<=i⟩
def Itt(K:PySem.W.Frag)(a:Addr):It :=
 ⟨λi H=>∃xs x,kj K H a xs/\xs[i]?=some x,λi H x H'=>H'=H/\∀xs,kj K H a xs->xs[i]?=some x,λi H=>∃xs,kj K H a xs/\xs.length<=i⟩
def WM(lo:Int)(n:Nat):It:=⟨λi _=>i<n,λi H x H'=>H'=H/\x=.int (lo+i),λi _=>n<=i⟩
theorem zPb{P:Program}{w:World}{K:PySem.W.Frag}{tg:Expr}(a it:Addr):Turn P w K tg (Ox K a) [it] it (λi h=>h.IsListIter it a i) where
 mem:=by simp
 obj:=λi h st b hb=>by
  have e:b=it:=by simpa using hb
  subst e
  obtain⟨o,e,c,d⟩:=st
  exact⟨o,e,λv z=>by rw[d] at z;cases z⟩
 keep:=λi h h' st k=>st.at λo e=>k it (by simp) o e
 item:=by
  intro X hP hw hK hc i pins s σ H E I hf st hg
  subst hP hw hK
  obtain⟨xs,x,hq,hx⟩:=hg
  obtain⟨its,rv,p,hz⟩:=I.list hq
  obtain⟨u,hu,ru⟩:=rv.get hx
  obtain⟨f0,f1,f2,f3,f4,f5⟩:=hf it (by simp)
  refine wpAny_pyNext_list_item st p.isList (x:=u) (by simpa using hu) λh' st' sb=>?_
  have I1:Inv X pins σ H { s with heap:=h' }:=I.turned (t':=s.toks) (λb o hb e=>(sb.2 b hb).trans e) f0 f1 f3 f4 f5
  obtain⟨o,e,c,d⟩:=id st'
  exact⟨u,rfl,QB (s:={ s with heap:=h' }) e c d (by decide) ⟨x,H,I1,ru,⟨rfl,λys hy=>by rw[I.qP hy hq];exact hx⟩,st',λb hb=>(hf b hb).1⟩⟩
 done:=by
  intro X hP hw hK hc i pins s σ H E I hf st hg
  subst hP hw hK
  obtain⟨xs,hq,hx⟩:=hg
  obtain⟨its,rv,p,hz⟩:=I.list hq
  obtain⟨f0,f1,f2,f3,f4,f5⟩:=hf it (by simp)
  have hl:=rv.length
  exact wpAny_pyNext_list_end (I.ok.hd hc) st p.isList (by simp;omega) λh' eb=>⟨rfl,I.turned (t':=s.toks) (λb o hb e=>eb b o hb e) f0 f1 f3 f4 f5⟩
 self:=λ_ _ _ _ _ st h=>wpAny_pyIter_listiter st h
theorem zNi{P:Program}{w:World}{K:PySem.W.Frag}{tg:Expr}(a it:Addr):Turn P w K tg (Itt K a) [it] it (λi h=>h.IsTupleIter it a i) where
 mem:=by simp
 obj:=λi h st b hb=>by
  have e:b=it:=by simpa using hb
  subst e
  obtain⟨o,e,c,d⟩:=st
  exact⟨o,e,λv z=>by rw[d] at z;cases z⟩
 keep:=λi h h' st k=>st.at λo e=>k it (by simp) o e
 item:=by
  intro X hP hw hK hc i pins s σ H E I hf st hg
  subst hP hw hK
  obtain⟨xs,x,hq,hx⟩:=hg
  obtain⟨its,rv,p,hz⟩:=I.tuple hq
  obtain⟨u,hu,ru⟩:=rv.get hx
  obtain⟨f0,f1,f2,f3,f4,f5⟩:=hf it (by simp)
  refine wpAny_pyNext_tuple_item st (show s.heap.IsTuple a its.toArray from p) (x:=u) (by simpa using hu) λh' st' sb=>?_
  have I1:Inv X pins σ H { s with heap:=h' }:=I.turned (t':=s.toks) (λb o hb e=>(sb.2 b hb).trans e) f0 f1 f3 f4 f5
  obtain⟨o,e,c,d⟩:=id st'
  exact⟨u,rfl,QB (s:={ s with heap:=h' }) e c d (by decide) ⟨x,H,I1,ru,⟨rfl,λys hy=>by rw[I.v9 hy hq];exact hx⟩,st',λb hb=>(hf b hb).1⟩⟩
 done:=by
  intro X hP hw hK hc i pins s σ H E I hf st hg
  subst hP hw hK
  obtain⟨xs,hq,hx⟩:=hg
  obtain⟨its,rv,p,hz⟩:=I.tuple hq
  obtain⟨f0,f1,f2,f3,f4,f5⟩:=hf it (by simp)
  have hl:=rv.length
  exact wpAny_pyNext_tuple_end (I.ok.hd hc) st (show s.heap.IsTuple a its.toArray from p) (by simp;omega) λh' eb=>⟨rfl,I.turned (t':=s.toks) (λb o hb e=>eb b o hb e) f0 f1 f3 f4 f5⟩
 self:=λ_ _ _ _ _ st h=>wpAny_pyIter_tupleiter st h
theorem zNj{P:Program}{w:World}{K:PySem.W.Frag}{tg:Expr}(it:Addr)(lo:Int)(n:Nat):Turn P w K tg (WM lo n) [it] it (λi h=>IsRangeIter h it (lo+(i:Nat)*1) ((n:Int)-(i:Nat)) 1) where
 mem:=by simp
 obj:=λi h st b hb=>by
  have e:b=it:=by simpa using hb
  subst e
  exact⟨_,st,λv z=>by
   have z':Data.fields _=Data.cell v:=z
   cases z'⟩
 keep:=λi h h' st k=>k it (by simp) _ st
 item:=by
  intro X hP hw hK hc i pins s σ H E I hf st hg
  subst hP hw hK
  obtain⟨f0,f1,f2,f3,f4,f5⟩:=hf it (by simp)
  have W:=Walks.range (prog:=X.prog) (w:=X.w) (I.ok.hd hc) it lo 1 n
  refine W.item i s _ _ hg st λv h' tk hv st' kk=>?_
  obtain⟨t,rfl⟩:=hv
  have I1:Inv X pins σ H { s with heap:=h',toks:=tk }:=I.turned (λb o hb e=>kk b o (by simpa using hb) e) f0 f1 f3 f4 f5
  refine⟨_,rfl,QB (s:={ s with heap:=h',toks:=tk }) (n:="range_iterator") st' rfl rfl (by decide) ⟨.int (lo+i),H,I1,⟨t,?_⟩,⟨rfl,rfl⟩,st',λb hb=>(hf b hb).1⟩⟩
  rw[Int.mul_one]
 done:=by
  intro X hP hw hK hc i pins s σ H E I hf st hg
  subst hP hw hK
  obtain⟨f0,f1,f2,f3,f4,f5⟩:=hf it (by simp)
  exact wpAny_pyNext_range_end (I.ok.hd hc) st (by have:n<=i:=hg;omega) λh' eb=>⟨rfl,I.turned (t':=s.toks) (λb o hb e=>eb b o hb e) f0 f1 f3 f4 f5⟩
 self:=λ_ _ _ _ _ st h=>wpAny_pyIter_rangeiter st h
section
variable{X:Cx}{tg:Expr}
def U0(K:PySem.W.Frag)(tl:TE):TI:=λσ H R=>tl σ H λx H1=>∃a,x=.ref a/\(∃xs,bw K H1 a xs)/\R (Ox K a) H1
def Km(K:PySem.W.Frag)(tl:TE):TI:=λσ H R=>tl σ H λx H1=>∃a,x=.ref a/\(∃xs,kj K H1 a xs)/\R (Itt K a) H1
theorem WQ(hl:PE X l tl):PI X tg l (U0 X.K tl):=by
 intro pins s σ H R I h
 refine aP (hl pins s σ H _ I h) λv s1 ⟨x,H1,I1,r1,q1⟩=>?_
 obtain⟨a,e,⟨xs,hq⟩,q⟩:=q1
 subst e
 cases r1
 obtain⟨its,rv,p,hz⟩:=I1.list hq
 refine ad8 p.isList ?_
 refine⟨s1.heap.objs.size,[s1.heap.objs.size],_,_,H1,rfl,I1.kept (t':=s1.toks) λb o e=>get?_push_of_some _ e,zPb a _,⟨_,get?_push_size _ rfl,rfl,rfl⟩,λb hb=>?_,q⟩
 have e:b=s1.heap.objs.size:=by simpa using hb
 subst e
 exact I1.oJ (aaq _) (I1.hok.fresh (aaq _))
theorem Ko(hl:PE X l tl):PI X tg l (Km X.K tl):=by
 intro pins s σ H R I h
 refine aP (hl pins s σ H _ I h) λv s1 ⟨x,H1,I1,r1,q1⟩=>?_
 obtain⟨a,e,⟨xs,hq⟩,q⟩:=q1
 subst e
 cases r1
 obtain⟨its,rv,p,hz⟩:=I1.tuple hq
 refine wpAny_pyIter_tuple (show s1.heap.IsTuple a its.toArray from p) ?_
 refine⟨s1.heap.objs.size,[s1.heap.objs.size],_,_,H1,rfl,I1.kept (t':=s1.toks) λb o e=>get?_push_of_some _ e,zNi a _,⟨_,get?_push_size _ rfl,rfl,rfl⟩,λb hb=>?_,q⟩
 have e:b=s1.heap.objs.size:=by simpa using hb
 subst e
 exact I1.oJ (aaq _) (I1.hok.fresh (aaq _))
theorem zTe{pins:List (Addr×Obj)}{σ:St}{H:Hp}{s:Shared}{R:It->Hp->Prop}{E:Value->Shared->Prop}{lo hi:Int}{t u v:Tok}{tk:Nat}(I:Inv X pins σ H s)(h1:-(2^62)<=lo)(h2:lo<2^62)(h3:-(2^62)<=hi)(h4:hi<2^62)(q:R (WM lo (hi-lo).toNat) H):wpAny (model X.prog X.w) X.A (pyIter (.ref s.heap.objs.size)) (PIE X pins σ tg R) E { s with heap:=s.heap.push { cls:=.type "range",data:=.fields #[.int lo t,.int hi u,.int 1 v] },toks:=tk }:=by
 refine wpAny_pyIter_range (IsRange.new ..) (small_one h1 h2 h3 h4) ?_
 have I1:Inv X pins σ H { s with heap:=s.heap.push { cls:=.type "range",data:=.fields #[.int lo t,.int hi u,.int 1 v] },toks:=tk }:=I.kept λb o e=>get?_push_of_some _ e
 refine⟨(s.heap.push { cls:=.type "range",data:=.fields #[.int lo t,.int hi u,.int 1 v] }).objs.size,[(s.heap.push { cls:=.type "range",data:=.fields #[.int lo t,.int hi u,.int 1 v] }).objs.size],_,_,H,rfl,
  I1.kept (t':=tk) λb o e=>get?_push_of_some _ e,zNj _ lo (hi-lo).toNat,?_,λb hb=>?_,q⟩
 ·have e1:lo+((0:Nat):Int)*1=lo:=by simp
  have e2:(((hi-lo).toNat:Nat):Int)-((0:Nat):Int)=Builtin.Range.rangeSize lo hi 1:=by rw[rangeSize_one];split<;>omega
  show IsRangeIter _ _ (lo+((0:Nat):Int)*1) ((((hi-lo).toNat:Nat):Int)-((0:Nat):Int)) 1
  rw[e1,e2]
  exact get?_push_size _ rfl
 ·have e:b=(s.heap.push { cls:=.type "range",data:=.fields #[.int lo t,.int hi u,.int 1 v] }).objs.size:=by simpa using hb
  subst e
  exact I1.oJ (aaq _) (I1.hok.fresh (aaq _))
def Iw(ta:TA):TI:=λσ H R=>ta σ H λvs H1=>∃j:Int,vs=[.int j] /\ -(2^62)<=j/\j<2^62/\R (WM 0 j.toNat) H1
theorem yZ(hg:Gl X "range")(hm:X.mg "range" = none)(ha:PA X [a] ta)(hs:starEach [a] X.env=[(false,eval a X.env)]:=by rfl):PI X tg (.Call (.Name "range" p) [a] [] pos) (Iw ta):=by
 intro pins s σ H R I h
 refine Call_ (Ak I hg hm boot_range (abk (aP (ha pos pins s σ H _ I h) λus s1 ⟨vs,H1,I1,r1,q1⟩=>?_) hs rfl))
 obtain⟨j,e,q1,q2,q⟩:=q1
 subst e
 cases r1 with
 |cons r rr =>
  cases rr
  obtain⟨t,rfl⟩:=r
  exact call_range_1 (zTe I1 (by omega) (by omega) q1 q2 (by simpa using q))
def Ej(wi:TI)(g:TG)(tb:TS):TS:=λD σ H=>wi σ H λJ H1=>∃W:Nat->Nat->St->Hp->Prop,(∃m,W 0 m σ H1)/\∀i m σ H,W i m σ H ->
 (J.stop i H/\D.nx σ H)\/(J.go i H/\∃N:St->Hp->Prop,(∀σ' H',N σ' H'->∃m',m'<m/\W (i+1) m' σ' H')/\∀x H',J.Ow i H x H'->g x σ H' λσ2 H2=>tb { D with nx:=N,ct:=N,bk:=D.nx } σ2 H2)
def Kq(fp:List Addr)(h:Heap):List (Addr×Obj):=fp.filterMap λb=>(h.get? b).map λo=>(b,o)
theorem uW{h:Heap}(hb:b∈fp)(e:h.get? b=some o):(b,o)∈Kq fp h:=List.mem_filterMap.mpr ⟨b,hb,by rw[e];rfl⟩
theorem zQm(hp:p∈Kq fp h):p.1∈fp/\h.get? p.1=some p.2:=by
 obtain⟨b,hb,e⟩:=List.mem_filterMap.mp hp
 cases q:h.get? b with
 |none=>rw[q] at e;cases e
 |some o =>
  rw[q] at e
  have e':(b,o)=p:=aay e
  subst e'
  exact⟨hb,q⟩
theorem Inv.pinned(I:Inv X pins σ H s)(hf:∀b∈fp,lW X pins H b)(ho:∀b∈fp,∃o,s.heap.get? b=some o/\∀v,o.data≠.cell v):Inv X (pins++Kq fp s.heap) σ H s :=
 I.jQ λp hp=>(mem_append.mp hp).elim (λz=>I.pin p (mem_append_right _ z)) λz=>by
  obtain⟨hb,e⟩:=zQm z
  obtain⟨f0,f1,f2,_⟩:=hf p.1 hb
  obtain⟨o,e',d⟩:=ho p.1 hb
  rw[e] at e';cases e'
  exact⟨e,f0,f1,f2,d⟩
theorem Inv.gW(I:Inv X (pins++pl) σ H s):Inv X pins σ H s:=I.jQ λp hp=>I.pin p (mem_append_right _ (mem_append_left _ hp))
theorem xD(hp:PassesOwn (model X.prog X.w) X.A X.env X.xe)(hc:X.calm=true)(hi:PI X tg iter wi)(hg:PG X tg g)(hb:qN X body tb)(hs:∀x,foldedSetIterable iter X.env x=pure x:=by intro _;rfl):PS X (.For tg iter body [] pos) (Ej wi g tb):=by
 intro pins s σ H D I h
 refine wpAny_For (aP (hi pins s σ H _ I h) λv s1 h1=>aP h1 λitv s2 h2=>?_) hs
 obtain⟨it,fp,tn,J,H2,e,I2,T,st2,f2,W,⟨m0,w0⟩,turn⟩:=h2
 subst e
 have stat:∀{H':Hp},(∀b∈fp,H' b=none)->∀b∈fp,lW X pins H' b:=λhn b hb=>⟨hn b hb,(f2 b hb).2⟩
 refine codeAny_forLoop_any (λn s'=>∃i σ' H',Inv X pins σ' H' s'/\tn i s'.heap/\(∀b∈fp,H' b=none)/\W i n σ' H') ?_ m0 ⟨0,σ,H2,I2,st2,λb hb=>(f2 b hb).1,w0⟩
 rintro n s3 ⟨i,σ3,H3,I3,st3,U3,w3⟩
 rcases turn i n σ3 H3 w3 with⟨stop,qn⟩|⟨go,N,hN,step⟩
 ·refine acz hp (aP (T.done X rfl rfl rfl hc i pins s3 σ3 H3 X.xe I3 (stat U3) st3 stop) λr s4 ⟨hr,I4⟩=>?_)
  subst hr
  exact aee ⟨σ3,H3,I4,qn⟩
 ·refine acz hp (aP (T.item X rfl rfl rfl hc i pins s3 σ3 H3 X.xe I3 (stat U3) st3 go) λr s4 ⟨u,hr,h4⟩=>?_)
  subst hr
  refine acz hp (aP h4 λ_ s5 ⟨x,H5,I5,r5,y5,WR,fr5⟩=>?_)
  have I5':=I5.pinned (stat fr5) (T.obj _ _ WR)
  refine acz hp (aP (hg _ s5 σ3 H5 x u _ I5' r5 (step x H5 y5)) λ_ s6 ⟨σ6,H6,I6,q6⟩=>?_)
  refine acz hp (aP (hb _ s6 σ6 H6 _ I6 q6) λf s7 q7=>?_)
  have again:∀{σ7:St}{H7:Hp},Inv X (pins++Kq fp s5.heap) σ7 H7 s7->N σ7 H7->∃m,m<n/\∃i σ' H',Inv X pins σ' H' s7/\tn i s7.heap/\(∀b∈fp,H' b=none)/\W i m σ' H':=λ{σ7 H7} I7 n7=>by
   obtain⟨m',hm,w7⟩:=hN σ7 H7 n7
   refine⟨m',hm,i+1,σ7,H7,I7.gW,T.keep _ _ _ WR λb hb o e=>(I7.pin (b,o) (mem_append_right _ (mem_append_right _ (uW hb e)))).1,λb hb=>?_,w7⟩
   obtain⟨o,e,d⟩:=T.obj _ _ WR b hb
   exact(I7.pin (b,o) (mem_append_right _ (mem_append_right _ (uW hb e)))).2.1
  cases f with
  |next=>obtain⟨σ7,H7,I7,n7⟩:=q7;exact again I7 n7
  |cont=>obtain⟨σ7,H7,I7,n7⟩:=q7;exact again I7 n7
  |brk=>obtain⟨σ7,H7,I7,q7⟩:=q7;exact⟨σ7,H7,I7.gW,q7⟩
  |ret v=>obtain⟨x7,σ7,H7,I7,r7,q7⟩:=q7;exact⟨x7,σ7,H7,I7.gW,r7,q7⟩
end
theorem zUf{K:PySem.W.Frag}{a:Addr}{xs:List V}{g:TG}{tb:TS}{D:Ends}{σ:St}{H:Hp}(Pv:Nat->St->Hp->Prop)(h0:Pv 0 σ H)(hl:∀i σ H,i<=xs.length->Pv i σ H->bw K H a xs)(hs:∀i x σ H,xs[i]?=some x->Pv i σ H->g x σ H λσ2 H2=>tb { D with nx:=Pv (i+1),ct:=Pv (i+1),bk:=D.nx } σ2 H2)(hd:∀σ H,Pv xs.length σ H->D.nx σ H) :
  ∃W:Nat->Nat->St->Hp->Prop,(∃m,W 0 m σ H)/\∀i m σ H,W i m σ H ->
   ((Ox K a).stop i H/\D.nx σ H)\/((Ox K a).go i H/\∃N:St->Hp->Prop,(∀σ' H',N σ' H'->∃m',m'<m/\W (i+1) m' σ' H')/\∀x H',(Ox K a).Ow i H x H'->g x σ H' λσ2 H2=>tb { D with nx:=N,ct:=N,bk:=D.nx } σ2 H2):=by
 refine⟨λi m σ H=>m=xs.length-i/\i<=xs.length/\Pv i σ H,⟨xs.length,by simp,abf _,h0⟩,?_⟩
 rintro i m σ H ⟨rfl,hi,p⟩
 have q:=hl i σ H hi p
 by_cases hlt:i<xs.length
 ·refine .inr ⟨⟨xs,xs[i],q,by simp[hlt]⟩,Pv (i+1),λσ' H' p'=>⟨xs.length-(i+1),by omega,rfl,hlt,p'⟩,λx H' y=>?_⟩
  obtain⟨e,y⟩:=y
  subst e
  exact hs i x σ _ (y xs q) p
 ·have e:i=xs.length:=by omega
  subst e
  exact .inl ⟨⟨xs,q,aaq _⟩,hd σ H p⟩
abbrev R2:=V->V->Hp->VK->Prop
def jO(X:Cx)(f:Value->Value->Sem Value)(r:R2):Prop :=
 ∀(pins:List (Addr×Obj))(s:Shared)(σ:St)(H:Hp)(x y:V)(v u:Value)(Q:VK),Inv X pins σ H s->RelV x v->RelV y u->r x y H Q ->
  wpAny (model X.prog X.w) X.A (f v u) (EP X pins σ Q) X.xe s
def WT(X:Cx)(f:Value->Sem Value)(r:V->Hp->VK->Prop):Prop :=
 ∀(pins:List (Addr×Obj))(s:Shared)(σ:St)(H:Hp)(x:V)(v:Value)(Q:VK),Inv X pins σ H s->RelV x v->r x H Q ->
  wpAny (model X.prog X.w) X.A (f v) (EP X pins σ Q) X.xe s
def rT(X:Cx)(f:Value)(r:List V->Hp->VK->Prop):Prop :=
 ∀(pins:List (Addr×Obj))(s:Shared)(σ:St)(H:Hp)(xs:List V)(us:List Value)(Q:VK),Inv X pins σ H s->Vals xs us->r xs H Q ->
  wpAny (model X.prog X.w) X.A (call f us) (EP X pins σ Q) X.xe s
def WW(X:Cx)(r:V->Hp->(Bool->Hp->Prop)->Prop):Prop :=
 ∀(pins:List (Addr×Obj))(s:Shared)(σ:St)(H:Hp)(x:V)(v:Value)(Q:Bool->Hp->Prop),Inv X pins σ H s->RelV x v->r x H Q ->
  wpAny (model X.prog X.w) X.A (truthy v) (TP X pins σ Q) X.xe s
def gP(r:R2)(ta tb:TE):TE:=λσ H Q=>ta σ H λx H1=>tb σ H1 λy H2=>r x y H2 Q
def tUn(r:V->Hp->VK->Prop)(ta:TE):TE:=λσ H Q=>ta σ H λx H1=>r x H1 Q
def rI(C:Int->Int->Prop)(g:Int->Int->V):R2:=λx y H Q=>∃i j,x=.int i/\y=.int j/\C i j/\Q (g i j) H
def qI(g:Int->Int->V):R2:=λx y H Q=>∃i j,x=.int i/\y=.int j/\Q (g i j) H
def rU(g:Int->V):V->Hp->VK->Prop:=λx H Q=>∃i,x=.int i/\Q (g i) H
section
variable{X:Cx}{a b c:Expr}{ta tb tc:TE}{pos:Pos}
theorem Ek(ha:PE X a ta)(hb:PE X b tb){R:V->V->Hp->Prop}(I:Inv X pins σ H s)(h:ta σ H λx H1=>tb σ H1 λy H2=>R x y H2){f:Value->Value->Sem Value}(hf:∀v u s2 x y H2,Inv X pins σ H2 s2->RelV x v->RelV y u->R x y H2->wpAny (model X.prog X.w) X.A (f v u) Q X.xe s2) :
  wpAny (model X.prog X.w) X.A (eval a X.env) (λv s₁=>wpAny (model X.prog X.w) X.A (eval b X.env) (λu s₂=>wpAny (model X.prog X.w) X.A (f v u) Q X.xe s₂) X.xe s₁) X.xe s:=by
 refine aP (ha pins s σ H _ I h) λv s1 ⟨x,H1,I1,r1,q1⟩=>?_
 refine aP (hb pins s1 σ H1 _ I1 q1) λu s2 ⟨y,H2,I2,r2,q2⟩=>?_
 exact hf v u s2 x y H2 I2 r1 r2 q2
theorem zY(ho:jO X (binaryOp op) r)(ha:PE X a ta)(hb:PE X b tb):PE X (.BinOp a op b pos) (gP r ta tb):=by
 intro pins s σ H Q I h
 exact wpAny_BinOp (Ek ha hb I h λv u s2 x y H2 I2 rx ry q=>ho pins s2 σ H2 x y v u Q I2 rx ry q)
theorem Iz(ho:WT X (unaryOp op) r)(ha:PE X a ta):PE X (.UnaryOp op a pos) (tUn r ta):=by
 intro pins s σ H Q I h
 exact UnaryOp_ (aP (ha pins s σ H _ I h) λv s1 ⟨x,H1,I1,r1,q1⟩=>ho pins s1 σ H1 x v Q I1 r1 q1)
theorem Oz{f:Value->Value->Sem Value}{C:Int->Int->Prop}{g:Int->Int->Int}(rule:∀(i j:Int) (t u:Tok) (s:Shared) (Q:Value->Shared->Prop) (E:Value->Shared->Prop),C i j->Q (.int (g i j) s.toks) { s with toks:=s.toks+1 }->wpAny (model X.prog X.w) X.A (f (.int i t) (.int j u)) Q E s) :
  jO X f (rI C λi j=>.int (g i j)):=by
 intro pins s σ H x y v u Q I rx ry h
 obtain⟨i,j,rfl,rfl,hc,q⟩:=h
 obtain⟨t,rfl⟩:=rx
 obtain⟨t',rfl⟩:=ry
 exact rule i j t t' s _ _ hc ⟨.int (g i j),H,I.tok _,⟨_,rfl⟩,q⟩
theorem Kr{f:Value->Value->Sem Value}{g:Int->Int->Int}(rule:∀(i j:Int) (t u:Tok) (s:Shared) (Q:Value->Shared->Prop) (E:Value->Shared->Prop),Q (.int (g i j) s.toks) { s with toks:=s.toks+1 }->wpAny (model X.prog X.w) X.A (f (.int i t) (.int j u)) Q E s) :
  jO X f (qI λi j=>.int (g i j)):=by
 intro pins s σ H x y v u Q I rx ry h
 obtain⟨i,j,rfl,rfl,q⟩:=h
 obtain⟨t,rfl⟩:=rx
 obtain⟨t',rfl⟩:=ry
 exact rule i j t t' s _ _ ⟨.int (g i j),H,I.tok _,⟨_,rfl⟩,q⟩
theorem Em{f:Value->Value->Sem Value}{g:Int->Int->Bool}(rule:∀(i j:Int) (t u:Tok) (s:Shared) (Q:Value->Shared->Prop) (E:Value->Shared->Prop),Q (.bool (g i j)) s->wpAny (model X.prog X.w) X.A (f (.int i t) (.int j u)) Q E s) :
  jO X f (qI λi j=>.bl (g i j)):=by
 intro pins s σ H x y v u Q I rx ry h
 obtain⟨i,j,rfl,rfl,q⟩:=h
 obtain⟨t,rfl⟩:=rx
 obtain⟨t',rfl⟩:=ry
 exact rule i j t t' s _ _ ⟨.bl (g i j),H,I,rfl,q⟩
def QC(i j:Int):Prop:=0<j/\j<1073741824
def Ep(i j:Int):Prop:=0<=j/\j<=1000000/\i.natAbs<2^64
def Er(i j:Int):Prop:=(-(2^64)<i/\i<2^64)\/(-(2^64)<j/\j<2^64)
theorem Er.ok(h:Er i j):IntMulOk i j:=by
 rcases h with⟨h1,h2⟩|⟨h1,h2⟩
 ·exact .of_left (intBits_le_64 h1 h2)
 ·exact .of_right (intBits_le_64 h1 h2)
theorem zNh(k:Nat):(0:Int)<=2^k:=by
 rw[two_pow_cast]
 exact ac8 _
theorem xX:jO X (binaryOp .Add) (qI λi j=>.int (i+j)):=Kr λ_ _ _ _ _ _ _ q=>add_int q
theorem Ks:jO X (binaryOp .Sub) (qI λi j=>.int (i-j)):=Kr λ_ _ _ _ _ _ _ q=>sub_int q
theorem Ku:jO X (binaryOp .Mult) (rI Er λi j=>.int (i*j)):=Oz λ_ _ _ _ _ _ _ hc q=>mul_int q hc.ok
theorem Am:jO X (binaryOp .FloorDiv) (rI QC λi j=>.int (i/j)):=Oz λi j _ _ _ _ _ hc q=>by
 have h1:(0:Int)<j:=hc.1
 have h2:j<1073741824:=hc.2
 exact floordiv_int (by omega) (by rw[Int.fdiv_eq_ediv_of_nonneg i (by omega)];exact q) (.inl (PyProof.noPylong_small (by omega)))
theorem wL:jO X (binaryOp .Mod) (rI (λ_ j=>0<j) λi j=>.int (i%j)):=Oz λi j _ _ _ _ _ hc q=>by
 have h1:(0:Int)<j:=hc
 exact mod_int' (by omega) (by rw[Int.fmod_eq_emod_of_nonneg i (by omega)];exact q)
theorem WX:jO X (binaryOp .Pow) (rI Ep λi j=>.int (i^j.toNat)):=Oz λ_ _ _ _ _ _ _ hc q=>pow_int_small hc.1 hc.2.1 hc.2.2 q
theorem Kv:jO X (binaryOp .LShift) (rI Ep λi j=>.int (i*2^j.toNat)):=Oz λ_ _ _ _ _ _ _ hc q=>lshift_int_small hc.1 hc.2.1 hc.2.2 q
theorem U4:jO X (binaryOp .RShift) (rI (λ_ j=>0<=j) λi j=>.int (i/2^j.toNat)):=Oz λi j _ _ _ _ _ hc q =>
 rshift_int hc (by rw[Int.fdiv_eq_ediv_of_nonneg i (zNh _)];exact q)
theorem QD:jO X (binaryOp .BitAnd) (qI λi j=>.int (abd i j)):=Kr λ_ _ _ _ _ _ _ q=>and_int q
theorem unI{f:Value->Sem Value}{g:Int->Int}(rule:∀(i:Int) (t:Tok) (s:Shared) (Q:Value->Shared->Prop) (E:Value->Shared->Prop),Q (.int (g i) s.toks) { s with toks:=s.toks+1 }->wpAny (model X.prog X.w) X.A (f (.int i t)) Q E s) :
  WT X f (rU λi=>.int (g i)):=by
 intro pins s σ H x v Q I rx h
 obtain⟨i,rfl,q⟩:=h
 obtain⟨t,rfl⟩:=rx
 exact rule i t s _ _ ⟨.int (g i),H,I.tok _,⟨_,rfl⟩,q⟩
theorem zU2:WT X (unaryOp .USub) (rU λi=>.int (-i)):=unI λ_ _ _ _ _ q=>neg_int q
end
section
variable{X:Cx}{a b c:Expr}{ta tb tc:TE}{pos:Pos}
theorem Kw(I:Inv X pins σ H s)(q:Q (.bl k) H)(e:k=k'):EP X pins σ Q (.bool k') s:=by
 subst e
 exact⟨.bl k,H,I,rfl,q⟩
theorem Es:jO X (compareOp .Lt) (qI λi j=>.bl (decide (i<j))):=Em λ_ _ _ _ _ _ _ q=>lt_int q
theorem Ao:jO X (compareOp .LtE) (qI λi j=>.bl (decide (i<=j))):=Em λ_ _ _ _ _ _ _ q=>le_int q
theorem QF:jO X (compareOp .Gt) (qI λi j=>.bl (decide (j<i))):=Em λ_ _ _ _ _ _ _ q=>gt_int q
theorem IK:jO X (compareOp .GtE) (qI λi j=>.bl (decide (j<=i))):=Em λ_ _ _ _ _ _ _ q=>ge_int q
theorem zQa:jO X (compareOp .In) (λx y H Q=>∃i j,x=.str i/\y=.str j/\Q (.bl (!(ad2 j i 0 j.length 1).isEmpty)) H):=by
 intro pins s σ H x y v u Q I rx ry h
 obtain⟨i,j,rfl,rfl,q⟩:=h
 obtain⟨t,rfl⟩:=rx
 obtain⟨t',rfl⟩:=ry
 exact in_str (Kw I q rfl)
theorem aG(b:Expr)(h:op≠.In:=by decide)(h2:op≠.NotIn:=by decide):behindInMarks op b=false:=by
 have e1:(op==CmpOp.In)=false:=by cases op<;>first|rfl|exact absurd rfl h
 have e2:(op==CmpOp.NotIn)=false:=by cases op<;>first|rfl|exact absurd rfl h2
 cases b<;>simp[behindInMarks,e1,e2]
theorem Dn(ho:jO X (compareOp op) r)(ha:PE X a ta)(hb:PE X b tb)(hm:behindInMarks op b=false):PE X (.Compare a [op] [b] pos) (gP r ta tb):=by
 intro pins s σ H Q I h
 exact wpAny_Compare1 (Ek ha hb I h λv u s2 x y H2 I2 rx ry q=>ho pins s2 σ H2 x y v u Q I2 rx ry q) hm
def IV(t:TE):TT:=λσ H Q=>t σ H λx H'=>∃k,x=.bl k/\Q k H'
theorem yC(ho:jO X (compareOp op) r)(ha:PE X a ta)(hb:PE X b tb)(hm:behindInMarks op b=false):PT X (.Compare a [op] [b] pos) (IV (gP r ta tb)):=by
 intro pins s σ H Q I h
 refine wpAny_isTrue_Compare1 (aP (ha pins s σ H _ I h) λv s1 ⟨x,H1,I1,r1,q1⟩=>aP (hb pins s1 σ H1 _ I1 q1) λu s2 ⟨y,H2,I2,r2,q2⟩ =>
  aP (ho pins s2 σ H2 x y v u _ I2 r1 r2 q2) λc s3 ⟨z,H3,I3,r3,k,e,q3⟩=>?_) hm
 subst e
 cases r3
 exact acd ⟨H3,I3,q3⟩
def zU6(r r':R2)(ta tb tc:TE):TE:=λσ H Q=>ta σ H λx H1=>tb σ H1 λy H2=>r x y H2 λz H3=>∃k,z=.bl k /\
 (if k=true then tc σ H3 λw' H4=>r' y w' H4 Q else Q (.bl false) H3)
theorem zMb(ho:jO X (compareOp op) r)(ho':jO X (compareOp op') r')(ha:PE X a ta)(hb:PE X b tb)(hc:PE X c tc)(hm:lastMarks [op,op'] [b,c]=false:=by with_unfolding_all rfl):PE X (.Compare a [op,op'] [b,c] pos) (zU6 r r' ta tb tc):=by
 intro pins s σ H Q I h
 refine Compare_chain (aP (ha pins s σ H _ I h) λv s1 ⟨x,H1,I1,r1,q1⟩=>chain_link (aP (hb pins s1 σ H1 _ I1 q1) λu s2 ⟨y,H2,I2,r2,q2⟩ =>
  aP (ho pins s2 σ H2 x y v u _ I2 r1 r2 q2) λd s3 ⟨z,H3,I3,r3,k,e,q3⟩=>?_)) hm
 subst e
 cases r3
 refine acd ?_
 cases k with
 |false=>exact ite_ff ⟨.bl false,H3,I3,rfl,q3⟩
 |true=>exact ite_tt (chain_last (aP (hc pins s3 σ H3 _ I3 q3) λw' s4 ⟨z',H4,I4,r4,q4⟩=>ho' pins s4 σ H4 y z' u w' Q I4 r2 r4 q4))
def Eu(K:PySem.W.Frag)(x:V)(H:Hp)(k:Bool):Prop :=
 match x with
 |.non=>k=false
 |.bl b=>k=b
 |.int i=>k=(i != 0)
 |.str y=>y.length<=sizeLine/\k=((y.length:Int) != 0)
 |.DQ y=>y.size<=sizeLine/\k=((y.size:Int) != 0)
 |.ref p=>(∃xs,bw K H p xs/\k=!xs.isEmpty)\/(∃xs,kj K H p xs/\k=!xs.isEmpty)\/∃kvs,H p=some (.dK kvs)/\k=!kvs.isEmpty
 |_=>False
theorem zOi{κ:Type}{kvs:List (κ×V)}{vs:List (κ×Value)}(r:KV kvs vs):(!vs.isEmpty)=!kvs.isEmpty:=by
 cases r<;>rfl
theorem zGj(r:Vals xs its):(!its.toArray.isEmpty)=!xs.isEmpty:=by
 cases r<;>simp
theorem Ky:(sizeLine:Nat)<2^63:=by rw[aen];decide
theorem Kz:WW X (λx H Q=>∃k,Eu X.K x H k/\Q k H):=by
 intro pins s σ H x v Q I rx h
 obtain⟨k,e,q⟩:=h
 have hl:=Ky
 have hs:sizeLine=16777216:=aen
 cases x with
 |non =>
  cases rx
  have e':k=false:=e
  subst e'
  exact truthy_none ⟨H,I,q⟩
 |bl b =>
  cases rx
  have e':k=b:=e
  subst e'
  exact acd ⟨H,I,q⟩
 |int i =>
  obtain⟨t,rfl⟩:=rx
  have e':k=(i != 0):=e
  subst e'
  exact PySem.P.truthy_int ⟨H,I,q⟩
 |str y =>
  obtain⟨t,rfl⟩:=rx
  obtain⟨hy,e'⟩:y.length<=sizeLine/\k=((y.length:Int) != 0):=e
  subst e'
  exact PySem.P.truthy_str (by omega) ⟨H,I.tok _,q⟩
 |DQ y =>
  obtain⟨t,rfl⟩:=rx
  obtain⟨hy,e'⟩:y.size<=sizeLine/\k=((y.size:Int) != 0):=e
  subst e'
  exact PySem.W.truthy_bytes (by omega) ⟨H,I.tok _,q⟩
 |ref p =>
  cases rx
  have e':(∃xs,bw X.K H p xs/\k=!xs.isEmpty)\/(∃xs,kj X.K H p xs/\k=!xs.isEmpty)\/∃kvs,H p=some (.dK kvs)/\k=!kvs.isEmpty:=e
  rcases e' with⟨xs,hx,e'⟩|⟨xs,hx,e'⟩|⟨kvs,hx,e'⟩
  ·subst e'
   obtain⟨its,r,pl,hz⟩:=I.list hx
   have hlen:=r.length
   exact wpAny_truthy_list pl.isList (by simp only[size_toArray];omega) ⟨H,I.tok _,by rw[zGj r];exact q⟩
  ·subst e'
   obtain⟨its,r,pl,hz⟩:=I.tuple hx
   have hlen:=r.length
   exact truthy_tuple pl (by simp only[size_toArray];omega) ⟨H,I.tok _,by rw[zGj r];exact q⟩
  ·subst e'
   obtain⟨hz,hS,vs,r,m⟩:kvs.length<=sizeLine/\(p==sysModules)=false/\∃vs,KV kvs vs/\s.heap.DictOf (wY X.prog X.w) p vs:=I.hok p _ hx
   have hlen:kvs.length=vs.length:=aep r
   exact wpAny_truthy_dict hS m (by omega) ⟨H,I.tok _,by rw[zOi r];exact q⟩
 |_=>exact(show False from e).elim
theorem zTf(ha:PE X a ta)(he:∀whole,isTrue a X.env whole=(do let v <-whole;standAt a.pos;holding [v] (truthy v))) :
  PT X a (λσ H Q=>ta σ H λx H'=>∃k,Eu X.K x H' k/\Q k H'):=by
 intro pins s σ H Q I h
 exact isTrue_plain (aP (ha pins s σ H _ I h) λv s1 ⟨x,H1,I1,r1,q1⟩=>Kz pins s1 σ H1 x v Q I1 r1 q1) (he _)
theorem zN0:jO X (binaryOp .Add) (λx y H Q=>∃i j,x=.str i/\y=.str j/\i.length+j.length<=sizeLine/\Q (.str (i++j)) H):=by
 intro pins s σ H x y v u Q I rx ry h
 obtain⟨i,j,rfl,rfl,hz,q⟩:=h
 obtain⟨t,rfl⟩:=rx
 obtain⟨t',rfl⟩:=ry
 exact add_str (λt' tk=>⟨.str (i++j),H,I.tok _,⟨_,rfl⟩,q⟩) hz
def zM6(b:Expr):Prop:=∀o i,subscripted b false o i=operate [o,i] (getItem o i)
theorem zKx(ha:PE X a ta)(hb:PE X b tb)(hs:zM6 b) :
  PE X (.Subscript a b pos) (gP (λx y H Q=>∃z i c,x=.str z/\y=.int i/\0<=i/\i<2^63/\i<z.length/\z.cps[i.toNat]?=some c/\Q (.str ⟨#[c]⟩) H) ta tb):=by
 intro pins s σ H Q I h
 refine Subscript_ (Ek ha hb I h λv u s2 x y H2 I2 rx ry q=>?_)
 obtain⟨z,i,c,rfl,rfl,h0,h63,h1,hc,q⟩:=q
 obtain⟨t,rfl⟩:=rx
 obtain⟨t',rfl⟩:=ry
 have e:seqIndex? i z.length=some i.toNat:=PySem.StrLaws.seqIndex_nonneg h0 h1
 exact tail_any (typeIs_str s2 z t) slot_str_getitem.lookup (getItem_str (c:=c) (by
  have e1:decide (i < -(2^63:Int))=false:=decide_eq_false (by omega)
  have e2:decide (i ≥ 2^63)=false:=decide_eq_false (by omega)
  rw[e1,e2]<;>rfl) (by rw[e];exact hc) ⟨.str ⟨#[c]⟩,H2,I2.tok _,⟨_,rfl⟩,q⟩) (hs _ _)
theorem IW(r:Vals [x] us):∃u,us=[u]/\RelV x u:=by
 cases r with
 |cons r1 r2=>cases r2;exact⟨_,rfl,r1⟩
theorem vals2(r:Vals [x,y] us):∃u w',us=[u,w']/\RelV x u/\RelV y w':=by
 cases r with
 |cons r1 r2 =>
  cases r2 with
  |cons r3 r4=>cases r4;exact⟨_,_,rfl,r1,r3⟩
theorem zR2(hc:X.calm=true):rT X (.builtin "max") (λxs H Q=>∃i j,xs=[.int i,.int j]/\Q (.int (if j > i then j else i)) H):=by
 intro pins s σ H xs us Q I r h
 obtain⟨i,j,rfl,q⟩:=h
 obtain⟨u,w',rfl,⟨t,rfl⟩,⟨t',rfl⟩⟩:=vals2 r
 refine max_two_ints (I.ok.hd hc) λh' tk k=>⟨_,H,I.kept k,?_,q⟩
 by_cases hj:j > i
 ·rw[if_pos hj,if_pos hj];exact⟨_,rfl⟩
 ·rw[if_neg hj,if_neg hj];exact⟨_,rfl⟩
theorem zR4:rT X (.type "int") (λxs H Q=>(∃i,xs=[.int i]/\Q (.int i) H)\/∃k,xs=[.bl k]/\Q (.int (if k then 1 else 0)) H):=by
 intro pins s σ H xs us Q I r h
 rcases h with⟨i,rfl,q⟩|⟨k,rfl,q⟩
 ·obtain⟨u,rfl,t,rfl⟩:=IW r
  exact call_int_int ⟨.int i,H,I,⟨_,rfl⟩,q⟩
 ·obtain⟨u,rfl,r1⟩:=IW r
  cases r1
  exact call_int_bool ⟨.int (if k then 1 else 0),H,I.tok _,⟨_,rfl⟩,q⟩
def WY(K:PySem.W.Frag)(x:V)(H:Hp)(n:Nat):Prop :=
 match x with
 |.str y=>y.length<=sizeLine/\n=y.length
 |.DQ y=>y.size<=sizeLine/\n=y.size
 |.ref p=>(∃xs,bw K H p xs/\n=xs.length)\/∃xs,kj K H p xs/\n=xs.length
 |_=>False
theorem zUo:rT X (.builtin "len") (λxs H Q=>∃x n,xs=[x]/\WY X.K x H n/\Q (.int n) H):=by
 intro pins s σ H xs us Q I r h
 obtain⟨x,n,rfl,e,q⟩:=h
 obtain⟨u,rfl,rx⟩:=IW r
 have hl:=Ky
 have hs:sizeLine=16777216:=aen
 cases x with
 |str y =>
  obtain⟨t,rfl⟩:=rx
  obtain⟨hy,e'⟩:y.length<=sizeLine/\n=y.length:=e
  subst e'
  exact len_str (by omega) ⟨.int _,H,I.tok _,⟨_,rfl⟩,q⟩
 |DQ y =>
  obtain⟨t,rfl⟩:=rx
  obtain⟨hy,e'⟩:y.size<=sizeLine/\n=y.size:=e
  subst e'
  exact PySem.W.len_bytes (by omega) ⟨.int _,H,I.tok _,⟨_,rfl⟩,q⟩
 |ref p =>
  cases rx
  have e':(∃xs,bw X.K H p xs/\n=xs.length)\/∃xs,kj X.K H p xs/\n=xs.length:=e
  rcases e' with⟨xs,hx,e'⟩|⟨xs,hx,e'⟩
  ·subst e'
   obtain⟨its,r',pl,hz⟩:=I.list hx
   have hlen:=r'.length
   exact Calls.call_len_list pl.isList (by simp only[size_toArray];omega) ⟨.int xs.length,H,I.tok _,⟨_,by simp only[size_toArray];rw[hlen]⟩,q⟩
  ·subst e'
   obtain⟨its,r',pl,hz⟩:=I.tuple hx
   have hlen:=r'.length
   exact len_tuple pl (by simp only[size_toArray];omega) ⟨.int xs.length,H,I.tok _,⟨_,by simp only[size_toArray];rw[hlen]⟩,q⟩
 |_=>exact(show False from e).elim
end
structure rW(h:Heap)(x dx C:Addr)(mA:Str->Option Value):Prop where
 obj:h.get? x=some (instObj C dx)
 ns:h.Ns1 dx mA
 ne:dx≠x
theorem zQu{h:Heap}(n:h.Ns1 dx mA):∃od,h.get? dx=some od/\∀name,lookIn name od=some (mA name):=by
 obtain⟨o,es,ep,ho,hd,hk,_,hm⟩:=n
 refine⟨o,ho,λname=>?_⟩
 have e:=hm name
 unfold nsFind findBy at e
 rw[<-Array.find?_toList] at e
 unfold lookIn
 rw[hd]
 dsimp only
 split
 ·rename_i y q
  rw[q] at e
  exact congrArg some e
 ·rename_i q
  rw[q] at e
  have a:es.toList.any (·.refKey)=false:=by
   rw[any_eq_false]
   intro y hy
   obtain⟨z,t,hkey⟩:=hk y (Array.mem_toList_iff.mp hy)
   simp[DictEntry.refKey,hkey]
  have a':¬es.toList.any (·.refKey)=true:=by rw[a];exact aa0
  rw[if_neg a']
  exact congrArg some e
theorem rW.look(I:rW h x dx C mA):∃od,PySem.W.InstAt h x (instObj C dx) C (some od)/\∀name,lookIn name od=some (mA name) :=
 let⟨od,ho,hl⟩:=zQu I.ns
 ⟨od,⟨I.obj,rfl,rfl,ho⟩,hl⟩
section
variable{prog:Program}{w:World}{A:Around}{E:Value->Shared->Prop}{s:Shared}{K:PySem.W.Frag}{x dx C f:Addr}{mA:Str->Option Value}{name:Str}{v:Value}
theorem get_map{Q:Value->Shared->Prop}(X:K.In s.heap)(I:rW s.heap x dx C mA)(hg:plainGet K C name=true)(hh:hasDictIn K C=true)(ha:findIn K (.ref C) name=some none)(hv:mA name=some v)(hv':PySem.W.handedIn v=true)(h:Q v { s with toks:=s.toks+1 }) :
  wpAny (model prog w) A (getAttr (.ref x) name expr) Q E s:=by
 obtain⟨od,J,hl⟩:=I.look
 exact PySem.W.get_value X J (ae2 hg).1 (PySem.W.findObj_own hh ha rfl (by rw[hl,hv])) hv' h
theorem zUe{Q:Value×List Value->Shared->Prop}(X:K.In s.heap)(I:rW s.heap x dx C mA)(hg:plainGet K C name=true)(hf:findIn K (.ref C) name=some (some (.ref f)))(ht:isFn K (.ref f)=true)(hv:mA name=none)(h:Q (.ref f,[.ref x]) s) :
  wpAny (model prog w) A (getMethod (.ref x) name pl) Q E s:=by
 obtain⟨od,J,hl⟩:=I.look
 exact PySem.W.method_fn X J (ae2 hg).1 (ae2 hg).2 hf (beq_iff_eq.mp ht) (by show(lookIn name od).map (·.isSome)=some false;rw[hl,hv];rfl) h
theorem Ew{Q:Unit->Shared->Prop}(X:K.In s.heap)(I:rW s.heap x dx C mA)(hs:findIn K (.ref C) "__setattr__" = some (some (.builtin "object.__setattr__")))(hp:PySem.W.plainOver K C=true)(ht:takerIn K C name=some none)(hh:hasDictIn K C=true)(hw:afi mA ns)(hsz:ns.length<=sizeLine)(h:∀h',rW h' x dx C (λy=>if y=name then some v else mA y)->SameBut dx s.heap h'->Q () { s with heap:=h',toks:=s.toks+2 }) :
  wpAny (model prog w) A (setAttr (.ref x) name v) Q E s:=by
 obtain⟨od,J,hl⟩:=I.look
 refine PySem.W.set_plain X J hs (PySem.W.osa_open (s:={ s with toks:=s.toks+1 }) (r:=none) X J hp ht λb=>?_)
 obtain⟨cd,hc,hd'⟩:=PySem.W.any_some hh
 have hx:s.heap.get? x=some ⟨.ref C,some dx,.plain,#[]⟩:=I.obj
 refine aan (aap (aan (aan (wpAny_loadPart hx (aan (PySem.W.Looks.here (s:={ s with toks:=s.toks+1 }) (PySem.W.looks_clsIn X hc) ?_))))))
 rw[hd']
 refine aap (a:=some dx) (aan (aap (aan ?_)))
 refine wpAny_nsSet1 (s:={ s with toks:=s.toks+1 }) I.ns λh' hn2 hs2=>?_
 obtain⟨oD,esD,epD,hoD,hdD,hcD⟩:=hn2.count (PySem.Within.cons name v hw)
 refine aan (wpAny_lookBehind hoD (by rw[hdD];exact pastItsLine_dict (aaz hcD (by rw[length_cons];omega))) ?_)
 exact aap (h _ ⟨(hs2.2 _ (abt I.ne)).trans I.obj,hn2,I.ne⟩ hs2)
theorem zT2(X:K.In s.heap)(hm:PySem.W.makesIn K C=true)(hi:findIn K (.ref C) "__init__" = some (some (.ref f)))(hf:typeIn K (.ref f)=some (.type "function"))(h:codeAny (model prog w) (A.under (.builtin "type.__call__" ⟨.ref C::vs,kw⟩)) (.call (.ref f) ⟨.ref (s.heap.objs.size+1)::vs,kw⟩) (PySem.W.InitBack (s.heap.objs.size+1) R)
   { s with heap:=(s.heap.push emptyDict).push (instObj C s.heap.objs.size) }) :
  codeAny (model prog w) A (.call (.ref C) ⟨vs,kw⟩) R s:=by
 obtain⟨hh,g,d,t,os⟩:=s
 exact PySem.W.make_core (PySem.W.makes_of X hm) (PySem.W.looks_findIn X hi) (λself=>PySem.W.bind_fn X self hf) (.inl rfl) h
end
def aF(f:Str)(v:V):List (Str×V)->List (Str×V)
 |[]=>[(f,v)]
 | (g,x)::r=>if g=f then(g,v)::r else(g,x)::aF f v r
theorem zP(f g:Str)(v:V):∀fs:List (Str×V),(aF f v fs).lookup g=if g=f then some v else fs.lookup g
 |[]=>by
  show ac0 g [(f,v)]=_
  by_cases h:g=f
  ·have hb:(g==f)=true:=beq_iff_eq.mpr h
   simp only[ac0,hb,if_pos h]
  ·have hb:(g==f)=false:=beq_eq_false_iff_ne.mpr h
   simp only[ac0,hb,if_neg h]
 | (k,x)::r=>by
  have ih:=zP f g v r
  rw[show aF f v ((k,x)::r)=(if k=f then(k,v)::r else(k,x)::aF f v r) from rfl]
  by_cases hk:k=f
  ·rw[if_pos hk]
   by_cases h:g=k
   ·have hb:(g==k)=true:=beq_iff_eq.mpr h
    simp only[ac0,hb,if_pos (h.trans hk)]
   ·have hb:(g==k)=false:=beq_eq_false_iff_ne.mpr h
    simp only[ac0,hb,if_neg (λe:g=f=>h (e.trans hk.symm))]
  ·rw[if_neg hk]
   by_cases h:g=k
   ·have hb:(g==k)=true:=beq_iff_eq.mpr h
    simp only[ac0,hb,if_neg (λe:g=f=>hk (h.symm.trans e))]
   ·have hb:(g==k)=false:=beq_eq_false_iff_ne.mpr h
    simp only[ac0,hb]
    exact ih
theorem W0(f:Str)(v:V):∀fs:List (Str×V),f∈(aF f v fs).map (·.1)/\∀g,g∈fs.map (·.1)->g∈(aF f v fs).map (·.1)
 |[]=>⟨by simp[aF],λg h=>by simp at h⟩
 | (k,x)::r=>by
  obtain⟨i1,i2⟩:=W0 f v r
  rw[show aF f v ((k,x)::r)=(if k=f then(k,v)::r else(k,x)::aF f v r) from rfl]
  by_cases hk:k=f
  ·rw[if_pos hk]
   subst hk
   exact⟨by simp,λg h=>by simpa using h⟩
  ·rw[if_neg hk]
   refine⟨?_,λg h=>?_⟩
   ·rw[map_cons]
    exact mem_cons_of_mem _ i1
   ·rw[map_cons] at h ⊢
    rcases mem_cons.mp h with e|e
    ·exact mem_cons.mpr (.inl e)
    ·exact mem_cons_of_mem _ (i2 g e)
theorem zE4(f:Str)(v:V):∀fs:List (Str×V),(aF f v fs).length<=fs.length+1
 |[]=>by simp[aF]
 | (k,x)::r=>by
  have ih:=zE4 f v r
  rw[show aF f v ((k,x)::r)=(if k=f then(k,v)::r else(k,x)::aF f v r) from rfl]
  by_cases hk:k=f
  ·rw[if_pos hk,length_cons,length_cons];omega
  ·rw[if_neg hk,length_cons,length_cons];omega
theorem jh.some_of(r:jh (some v) o):∃u,o=some u/\RelV v u:=by
 cases o with
 |none=>exact(show False from r).elim
 |some u=>exact⟨u,rfl,r⟩
theorem jh.none_of(r:jh none o):o=none:=by
 cases o with
 |none=>rfl
 |some u=>exact(show False from r).elim
theorem zRb(r:RelV v u):PySem.W.handedIn u=true:=by
 cases v with
 |non=>cases(show u=ac5 from r);rfl
 |bl b=>cases(show u=afd b from r);rfl
 |int i=>obtain⟨t,e⟩:=(show∃t,u=ab7 i t from r);cases e;rfl
 |str x=>obtain⟨t,e⟩:=(show∃t,u=ae4 x t from r);cases e;rfl
 |DQ b=>obtain⟨t,e⟩:=(show∃t,u=Value.bytes b t from r);cases e;rfl
 |flt b=>obtain⟨t,e⟩:=(show∃t,u=afo b t from r);cases e;rfl
 |ref a=>cases(show u=abe a from r);rfl
 |ty n=>cases(show u=acw n from r);rfl
section
variable{P:Program}{w:World}{H H':Hp}{h h':Heap}{a C dx:Addr}{fs fs':List (Str×V)}
theorem U5(hok:gQ P w H h)(e:H a=some (.ins C dx fs)):∃mA,rW h a dx C mA/\(∀f,jh (fs.lookup f) (mA f))/\afi mA (fs.map (·.1))/\fs.length<=1000/\H dx=some (.own a):=by
 obtain⟨d,z,ne,ob,mA,n,r,q⟩:=(show aZ P w H h a (.ins C dx fs) from hok a _ e)
 exact⟨mA,⟨ob,n,ne⟩,r,q,z,d⟩
end
structure Cls(K:PySem.W.Frag)(C:Addr):Prop where
 pg:plainGet K C ad4=true
 hd:hasDictIn K C=true
 po:PySem.W.plainOver K C=true
 sa:findIn K (.ref C) "__setattr__" = some (some (.builtin "object.__setattr__"))
theorem Cls.get{K:PySem.W.Frag}{C:Addr}(c:Cls K C)(f:Str):plainGet K C f=true:=c.pg
def aY(K:PySem.W.Frag)(C:Addr)(f:Str):Prop:=findIn K (.ref C) f=some none
theorem aY.taker{K:PySem.W.Frag}{C:Addr}{f:Str}(n:aY K C f):takerIn K C f=some none:=by
 unfold takerIn
 rw[show findIn K (.ref C) f=some none from n]
 rfl
structure Con(K:PySem.W.Frag)(C:Addr)(f:Str)(v:V)(u:Value):Prop where
 at_:findIn K (.ref C) f=some (some u)
 rel:RelV v u
 get:specialIn K u "__get__" = some none
 cp:PySem.W.copiedNames.contains f=false
structure Meth(K:PySem.W.Frag)(C:Addr)(m:Str)(f:Addr):Prop where
 at_:findIn K (.ref C) m=some (some (.ref f))
 fn:isFn K (.ref f)=true
 kp:keepIn K (.ref f)=true
section
variable{X:Cx}{pins:List (Addr×Obj)}{σ:St}{H:Hp}{s:Shared}{a C dx:Addr}{fs:List (Str×V)}{f:Str}{v:V}{A:Around}{E:Value->Shared->Prop}
theorem zOj{Q:Value->Shared->Prop}(I:Inv X pins σ H s)(e:H a=some (.ins C dx fs))(c:Cls X.K C)(n:aY X.K C f)(l:fs.lookup f=some v)(h:∀u s',Inv X pins σ H s'->RelV v u->Q u s'):wpAny (model X.prog X.w) A (getAttr (.ref a) f b) Q E s:=by
 obtain⟨mA,O,r,_,_,_⟩:=U5 I.hok e
 obtain⟨u,hu,ru⟩:=jh.some_of (v:=v) (o:=mA f) (by rw[<-l];exact r f)
 exact get_map I.jP O (c.get f) c.hd n hu (zRb ru) (h u _ (I.tok _) ru)
theorem zGm{Q:Value×List Value->Shared->Prop}(I:Inv X pins σ H s)(e:H a=some (.ins C dx fs))(c:Cls X.K C)(k:Meth X.K C m g)(l:fs.lookup m=none)(h:Q (.ref g,[.ref a]) s):wpAny (model X.prog X.w) A (getMethod (.ref a) m pl) Q E s:=by
 obtain⟨mA,O,r,_,_,_⟩:=U5 I.hok e
 have hn:mA m=none:=jh.none_of (by rw[<-l];exact r m)
 exact zUe I.jP O (c.get m) k.at_ k.fn hn h
theorem zNq{Q:Unit->Shared->Prop}(I:Inv X pins σ H s)(e:H a=some (.ins C dx fs))(c:Cls X.K C)(n:aY X.K C f)(hl:fs.length<1000)(ry:RelV y u)(h:∀s',Inv X pins σ (upd H a (.ins C dx (aF f y fs))) s'->Q () s'):wpAny (model X.prog X.w) A (setAttr (.ref a) f u) Q E s:=by
 obtain⟨mA,O,r,wi,_,ho⟩:=U5 I.hok e
 have hz:(fs.map (·.1)).length<=sizeLine:=by rw[length_map,aen];omega
 refine Ew I.jP O c.sa c.po n.taker c.hd wi hz λh' O' sb=>h _ ?_
 have hd:∃o,h'.get? dx=some o:=let⟨o,_,_,e',_⟩:=O'.ns;⟨o,e'⟩
 refine I.write (x:=a) (e:=dx) (by rw[e];exact acq) (.inr ho) (λb q hb z=>(sb.2 b hb).trans z) hd ?_
 refine⟨by rw[zV O.ne];exact ho,?_,O.ne,O'.obj,_,O'.ns,λg=>?_,λg hg=>?_⟩
 ·have:=zE4 f y fs;omega
 ·show jh ((aF f y fs).lookup g) (if g=f then some u else mA g)
  rw[zP]
  by_cases q:g=f
  ·rw[if_pos q,if_pos q];exact ry
  ·rw[if_neg q,if_neg q];exact r g
 ·by_cases q:g=f
  ·rw[q];exact(W0 f y fs).1
  ·refine(W0 f y fs).2 g (wi g λz=>hg ?_)
   show(if g=f then some u else mA g)=none
   rw[if_neg q];exact z
theorem Inv.made(I:Inv X pins σ H s):Inv X pins σ (upd (upd H s.heap.objs.size (.own (s.heap.objs.size+1))) (s.heap.objs.size+1) (.ins C s.heap.objs.size []))
  { s with heap:=(s.heap.push emptyDict).push (instObj C s.heap.objs.size) }:=by
 have e1:(s.heap.push emptyDict).get? s.heap.objs.size=some emptyDict:=get?_push_size s.heap rfl
 have e2:((s.heap.push emptyDict).push (instObj C s.heap.objs.size)).get? (s.heap.objs.size+1)=some (instObj C s.heap.objs.size):=by
  have:=get?_push_size (s.heap.push emptyDict) (o:=instObj C s.heap.objs.size) rfl
  rwa [size_push] at this
 have e3:(s.heap.push emptyDict).Ns s.heap.objs.size (λ_=>none):=⟨emptyDict,#[],_,e1,rfl,(λe he=>absurd he (by simp)),λ_=>rfl⟩
 have I1:=I.laid (a:=s.heap.objs.size) (o:=.own (s.heap.objs.size+1)) (h':=s.heap.push emptyDict) (t':=s.toks) (λb u q=>get?_push_of_some _ q) (aaq _) ⟨_,e1⟩
 refine I1.laid (a:=s.heap.objs.size+1) (o:=.ins C s.heap.objs.size []) (t':=s.toks) (λb u q=>get?_push_of_some _ q) (Nat.le_of_eq (size_push _ _)) ?_
 have ne:s.heap.objs.size≠s.heap.objs.size+1:=aav (acv _)
 refine⟨by rw[zV ne,zR],abf _,ne,e2,λ_=>none,(Heap.Ns1.of_empty e3).at λo q=>get?_push_of_some _ q,λ_=>acq,λy hy=>absurd rfl hy⟩
theorem Ey(hb:attributeBase e f env (eval e env)=eval e env)(h:wpAny (model prog w) A (eval e env) (λo s₁=>wpAny (model prog w) A (getAttr o f true) Q E s₁) E s):wpAny (model prog w) A (eval (.Attribute e f pos) env) Q E s :=
 Attribute_any_ h (by rw[arm_eval_Attribute,hb])
end
def pJ(K:PySem.W.Frag)(ta:TE)(f:Str):TE:=λσ H Q=>ta σ H λx H1=>∃a C dx fs v,x=.ref a/\H1 a=some (.ins C dx fs)/\Cls K C/\aY K C f/\fs.lookup f=some v/\Q v H1
def W2(K:PySem.W.Frag)(ta tv:TE)(f:Str):TS:=λD σ H=>tv σ H λy H1=>ta σ H1 λx H2=>∃a C dx fs,x=.ref a/\H2 a=some (.ins C dx fs)/\Cls K C/\aY K C f/\fs.length<1000 /\
 D.nx σ (upd H2 a (.ins C dx (aF f y fs)))
section
variable{X:Cx}{o e value:Expr}{f:Str}{pos pos' tpos:Pos}{ta tv:TE}
theorem zVf(he:PE X e ta)(hb:attributeBase e f X.env (eval e X.env)=eval e X.env):PE X (.Attribute e f pos) (pJ X.K ta f):=by
 intro pins s σ H Q I h
 refine Ey hb (aP (he pins s σ H _ I h) λu s1 ⟨x,H1,I1,rx,a,C,dx,fs,v,ex,ea,c,n,l,q⟩=>?_)
 subst ex
 obtain rfl:u=abe a:=rx
 exact zOj I1 ea c n l λu' s2 I2 ru=>⟨v,H1,I2,ru,q⟩
theorem Dp(ha:PE X o ta)(hv:PE X value tv)(hs:swapsWith value (some (.Attribute o f pos')) pos.line X.env=pure false):PS X (.Assign [.Attribute o f pos'] value pos) (W2 X.K ta tv f):=by
 intro pins s σ H D I h
 refine plainObj_wpAny_Assign_Attribute (aP (hv pins s σ H _ I h) λu s1 ⟨y,H1,I1,ry,q⟩=>aP (ha pins s1 σ H1 _ I1 q) λov s2 ⟨x,H2,I2,rx,a,C,dx,fs,ex,ea,c,n,l,q2⟩=>?_) hs
 subst ex
 obtain rfl:ov=abe a:=rx
 exact zNq I2 ea c n l ry λs3 I3=>⟨σ,_,I3,q2⟩
end
section
variable{X:Cx}{pins:List (Addr×Obj)}{σ:St}{H:Hp}{s:Shared}{A:Around}{E:Value->Shared->Prop}{Q:Value->Shared->Prop}{c:Value}{b:Bool}
inductive jR(K:PySem.W.Frag)(H:Hp):V->Value->Prop where
 |non:jR K H .non (.type "NoneType")
 |bl (x:Bool):jR K H (.bl x) (.type "bool")
 |int (i:Int):jR K H (.int i) (.type "int")
 |str (x:Str):jR K H (.str x) (.type "str")
 |flt (x:UInt64):jR K H (.flt x) (.type "float")
 |lst {a:Addr} {xs:List V} (e:H a=some (.lst xs)):jR K H (.ref a) (.type "list")
 |uc {a:Addr} {o:Obj} {xs:List V} (e:H a=some (.uc o (.lst xs))):jR K H (.ref a) (.type "list")
 |tup {a:Addr} {xs:List V} (e:H a=some (.tup xs)):jR K H (.ref a) (.type "tuple")
 |dK {a:Addr} {kvs:List (Key×V)} (e:H a=some (.dK kvs)):jR K H (.ref a) (.type "dict")
 |dT {a:Addr} {kvs:List (List Key×V)} (e:H a=some (.dT kvs)):jR K H (.ref a) (.type "dict")
 |ins {a C dx:Addr} {fs:List (Str×V)} (e:H a=some (.ins C dx fs)) (cl:Cls K C) (ha:findIn K (.ref C) "__class__" = some (some (.builtin "object.__class__")))
   (hn:specialIn K (.builtin "object.__class__") "__get__" = some (some (.builtin "getset_descriptor.__get__"))) (htk:takesIn K (.builtin "object.__class__")=some true)
   (hm:mroIn K C (.type "object")=some true):jR K H (.ref a) (.ref C)
theorem zQ5(I:Inv X pins σ H s)(rx:RelV x u)(ty:jR X.K H x t)(e:kitOne X.K t c=some b)(h:∀tk,Q (.bool b) { s with toks:=tk }) :
  wpAny (model X.prog X.w) A (call (.builtin "isinstance") [u,c]) Q E s:=by
 cases ty with
 |non=>cases(show u=ac5 from rx);exact ad7 PySem.W.kitx_none I.jP acq e (λz=>nomatch z) h
 |bl y=>cases(show u=afd y from rx);exact ad7 PySem.W.kitx_bool I.jP acq e (λz=>nomatch z) h
 |int i=>obtain⟨t,q⟩:=(show∃t,u=ab7 i t from rx);cases q;exact ad7 PySem.W.kitx_int I.jP acq e (λz=>nomatch z) h
 |str y=>obtain⟨t,q⟩:=(show∃t,u=ae4 y t from rx);cases q;exact ad7 PySem.W.kitx_str I.jP acq e (λz=>nomatch z) h
 |flt y=>obtain⟨t,q⟩:=(show∃t,u=afo y t from rx);cases q;exact ad7 PySem.W.kitx_float I.jP acq e (λz=>nomatch z) h
 |@lst a xs ea =>
  cases(show u=abe a from rx)
  obtain⟨_,_,n,_,h1⟩:=(show aZ X.prog X.w H s.heap a (.lst xs) from I.hok a _ ea)
  exact ad7 PySem.W.kitx_list I.jP ⟨_,h1,rfl⟩ e (λz=>nomatch z) h
 |@uc a ob xs ea =>
  cases(show u=abe a from rx)
  obtain⟨_,_,_,n,_,h1⟩:=(show aZ X.prog X.w H s.heap a (.uc ob (.lst xs)) from I.hok a _ ea)
  exact ad7 PySem.W.kitx_list I.jP ⟨_,h1,rfl⟩ e (λz=>nomatch z) h
 |@tup a xs ea =>
  cases(show u=abe a from rx)
  obtain⟨_,_,_,p⟩:=(show aZ X.prog X.w H s.heap a (.tup xs) from I.hok a _ ea)
  obtain⟨o,h1,h2,_⟩:=p
  exact ad7 PySem.W.kitx_tuple I.jP ⟨o,h1,h2⟩ e (λz=>nomatch z) h
 |@dK a kvs ea =>
  cases(show u=abe a from rx)
  obtain⟨_,_,vs,_,p⟩:=(show aZ X.prog X.w H s.heap a (.dK kvs) from I.hok a _ ea)
  obtain⟨o,es,ep,h1,h2,_⟩:=p
  exact ad7 PySem.W.kitx_dict I.jP ⟨o,h1,h2.1⟩ e (λz=>nomatch z) h
 |@dT a kvs ea =>
  cases(show u=abe a from rx)
  obtain⟨_,_,xs,_,o,es,ep,h1,h2,_⟩:=(show aZ X.prog X.w H s.heap a (.dT kvs) from I.hok a _ ea)
  exact ad7 PySem.W.kitx_dict I.jP ⟨o,h1,h2.1⟩ e (λz=>nomatch z) h
 |@ins a C dx fs ea cl ha hn htk hm =>
  cases(show u=abe a from rx)
  obtain⟨mA,O,_⟩:=U5 I.hok ea
  obtain⟨od,J,_⟩:=O.look
  exact ad7 (PySem.W.kitx_own (cl.get _) cl.hd ha hn htk hm) I.jP J e (λz=>nomatch z) h
end
structure bT(k:Nat)(A:Around):Prop where
 hd:A.handled=none
 dp:A.depth+3*k+5<recursionLimit
 un:A.units+16*k+200<cLine
theorem bT.mono(r:bT k A)(h:j<=k):bT j A:=⟨r.hd,by have:=r.dp;omega,by have:=r.un;omega⟩
theorem bT.deeper(r:bT (k+1) A)(env:Env):bT k (A.deeper env) :=
 ⟨r.hd,by have:=r.dp;show A.depth+1+3*k+5<_;omega,by have:=r.un;show A.units+3+16*k+200<_;omega⟩
theorem zOe{A:Around}:(A.under (.builtin "type.__call__" ⟨.ref C::us,kw⟩)).depth=A.depth+1:=by
 first|rfl|simp[afe,Code.weight,Code.isCreation,Code.isGuard,Code.isCaller,Code.frames,afg,guardIds]
theorem zOd{A:Around}:(A.under (.builtin "type.__call__" ⟨.ref C::us,kw⟩)).units=A.units+1:=by
 first|rfl|simp[afe,Code.cUnits,Code.frames,afg]
theorem bT.make(r:bT (k+1) A)(C:Addr)(us:List Value)(kw:List (Str×Value)):bT k (A.under (.builtin "type.__call__" ⟨.ref C::us,kw⟩)) :=
 ⟨r.hd,by have:=r.dp;rw[zOe];omega,by have:=r.un;rw[zOd];omega⟩
theorem bT.depth(r:bT k A):A.depth<recursionLimit:=by have:=r.dp;omega
theorem bT.units(r:bT k A):A.units+64<cLine:=by have:=r.un;omega
def bO:TA:=λ_ H Q=>Q [] H
def xZ(ta:TE)(tr:TA):TA:=λσ H Q=>ta σ H λx H1=>tr σ H1 λxs H2=>Q (x::xs) H2
section
variable{X:Cx}{e:Expr}{es:List Expr}{te:TE}{t:TA}{pos:Pos}
theorem zF:PA X [] bO:=λ_ _ _ _ H Q I h=>ad6 ⟨[],H,I,.nil,h⟩
theorem zA(ha:PE X e te)(hr:PA X es t)(hs:starEach (e::es) X.env=(false,eval e X.env)::starEach es X.env:=by rfl):PA X (e::es) (xZ te t):=by
 intro pos pins s σ H Q I h
 rw[hs]
 show wpAny _ _ (spliced ((false,eval e X.env)::backTo pos (starEach es X.env))) _ _ s
 refine adz (aP (ha pins s σ H _ I h) λu s1 ⟨x,H1,I1,r1,q1⟩=>?_)
 exact aP (hr pos pins s1 σ H1 _ I1 q1) λus s2 ⟨xs,H2,I2,r2,q2⟩=>⟨x::xs,H2,I2,.cons r1 r2,q2⟩
def Aq(t:TA):TE:=λσ H Q=>t σ H λxs H1=>xs.length<=sizeLine/\∀p,H1 p=none->Q (.ref p) (upd H1 p (.tup xs))
def KC(t:TA):TE:=λσ H Q=>t σ H λxs H1=>xs.length<=sizeLine/\∀p,H1 p=none->Q (.ref p) (upd H1 p (.lst xs))
theorem uh{x1}(h:PA X es t):PE X (.Tuple es x1 pos) (Aq t):=by
 intro pins s σ H Q I hq
 refine wpAny_Tuple_spliced (aP (h pos pins s σ H _ I hq) λus s1 ⟨xs,H1,I1,r,z,q⟩=>⟨by rw[<-r.length];exact z,?_⟩)
 have hf:H1 s1.heap.objs.size=none:=I1.hok.fresh (aaq _)
 refine⟨.ref s1.heap.objs.size,upd H1 s1.heap.objs.size (.tup xs),I1.laid (t':=s1.toks) (λb u e=>get?_push_of_some _ e) (aaq _) ?_,rfl,q _ hf⟩
 exact⟨z,us,r,⟨_,get?_push_size _ rfl,rfl,_,rfl⟩⟩
theorem wZ(h:PA X es t):PE X (.List es pos) (KC t):=by
 intro pins s σ H Q I hq
 refine wpAny_List_spliced (aP (h pos pins s σ H _ I hq) λus s1 ⟨xs,H1,I1,r,z,q⟩=>⟨by rw[<-r.length];exact z,?_⟩)
 have hf:H1 s1.heap.objs.size=none:=I1.hok.fresh (aaq _)
 refine⟨.ref s1.heap.objs.size,upd H1 s1.heap.objs.size (.lst xs),I1.laid (t':=s1.toks) (λb u e=>get?_push_of_some _ e) (aaq _) ?_,rfl,q _ hf⟩
 exact⟨z,us,0,r,get?_push_size _ rfl⟩
end
abbrev Sp:=List V->Hp->VK->XK->Prop
abbrev wg:=List Env->Hp->Shared->XK->Value->Shared->Prop
structure rY(P:Program)(w:World)(K:PySem.W.Frag)(mg:Str->Option Value)(base:Heap)(A:Around)(outer:List Env)(s:Shared)(H:Hp):Prop where
 frames:A.frames=some outer
 mod:Mod K mg base
 bs:∀b o,base.get? b=some o->s.heap.get? b=some o/\H b=none
 D_:base.objs.size<=s.heap.objs.size
 lV:s.heap.FunFrames base outer
 J8:∀b∈frs outer,H b=none
 hok:gQ P w H s.heap
 bare:AllBare s.gens
def CE(outer:List Env)(P:Program)(w:World)(H:Hp)(s:Shared)(Q:VK)(u:Value)(s':Shared):Prop :=
 ∃v H',s'.os=s.os/\AllBare s'.gens/\Un (frs outer) [] H H' s.heap s'.heap/\gQ P w H' s'.heap/\RelV v u/\Q v H'
def CR(CX:wg)(outer:List Env)(P:Program)(w:World)(H:Hp)(s:Shared)(Q:VK)(E:XK)(r:Result)(s':Shared):Prop :=
 match r with
 |.ok (.ret u)=>CE outer P w H s Q u s'
 |.ok _=>False
 |.error e=>CX outer H s E e s'
structure aq(P:Program)(w:World)(K:PySem.W.Frag)(mg:Str->Option Value)(base:Heap)(CX:wg)(k:Nat)(f:Addr)(fd:FuncData)(ps:List Str)(sp:Sp):Prop where
 len:∀vs H Q E,sp vs H Q E->vs.length=ps.length
 run:∀(A:Around)(outer:List Env)(s:Shared)(H:Hp)(args:Args)(us:List Value)(vs:List V)(Q:VK)(E:XK),bT k A->rY P w K mg base A outer s H->BindsTo s fd args (ps.zip us)->Vals vs us->sp vs H Q E ->
  codeAny (model P w) A (.call (.ref f) args) (CR CX outer P w H s Q E) s
theorem aq.mono{P:Program}{w:World}{K:PySem.W.Frag}{mg:Str->Option Value}{base:Heap}{CX:wg}{j k:Nat}{f:Addr}{fd:FuncData}{ps:List Str}{sp:Sp}(F:aq P w K mg base CX j f fd ps sp)(h:j<=k) :
  aq P w K mg base CX k f fd ps sp:=⟨F.len,λA outer s H args us vs Q E hr=>F.run A outer s H args us vs Q E (hr.mono h)⟩
theorem aq.imp{P:Program}{w:World}{K:PySem.W.Frag}{mg:Str->Option Value}{base:Heap}{CX:wg}{k:Nat}{f:Addr}{fd:FuncData}{ps:List Str}{sp sp':Sp}(F:aq P w K mg base CX k f fd ps sp)(h:∀vs H Q E,sp' vs H Q E->sp vs H Q E):aq P w K mg base CX k f fd ps sp' :=
 ⟨λvs H Q E q=>F.len vs H Q E (h _ _ _ _ q),λA outer s H args us vs Q E hr he hb hv hs=>F.run A outer s H args us vs Q E hr he hb hv (h _ _ _ _ hs)⟩
theorem rY.make{P:Program}{w:World}{K:PySem.W.Frag}{mg:Str->Option Value}{base:Heap}{A:Around}{outer:List Env}{s:Shared}{H:Hp}(e:rY P w K mg base A outer s H)(C:Addr)(us:List Value)(kw:List (Str×Value)) :
  rY P w K mg base (A.under (.builtin "type.__call__" ⟨.ref C::us,kw⟩)) outer s H:=⟨by first|exact e.frames|(simpa[afe,Code.envs,afg,pushEnvs] using e.frames),e.mod,e.bs,e.D_,e.lV,e.J8,e.hok,e.bare⟩
section
variable{X:Cx}{pins:List (Addr×Obj)}{σ:St}{H:Hp}{s s':Shared}
theorem Inv.env0(I:Inv X pins σ H s):rY X.prog X.w X.K X.mg X.base X.A X.stack s H :=
 ⟨I.ok.frames,I.ok.mod,I.bs,aaz I.ok.D_ I.sz,I.stack,I.ud,I.hok,I.bare⟩
theorem Inv.after(I:Inv X pins σ H s)(h:CE X.stack X.prog X.w H s Q u s'):EP X pins σ Q u s':=by
 obtain⟨v,H',os,bare,un,hok,r,q⟩:=h
 obtain⟨hh,g,d,t,os'⟩:=s'
 obtain rfl:os'=s.os:=os
 exact⟨v,H',I.call (h':=hh) (g':=g) (d':=d) (t':=t) (ch:=[]) un hok bare (λb z=>absurd z (by simp)),r,q⟩
end
def QG(sp:Sp)(lN:List V)(E:XK)(t:TA):TE:=λσ H Q=>t σ H λvs H1=>sp (vs++lN) H1 Q E
def QH(C:Addr)(m:Str)(sp:Sp)(lN:List V)(E:XK)(ta:TE)(t:TA):TE:=λσ H Q=>ta σ H λx H1=>∃a dx fs,x=.ref a/\H1 a=some (.ins C dx fs)/\fs.lookup m=none /\
 t σ H1 λvs H2=>sp (x::(vs++lN)) H2 Q E
def OD(C:Addr)(sp:Sp)(lN:List V)(E:XK)(t:TA):TE:=λσ H Q=>t σ H λvs H1=>∀x dx,H1 x=none->H1 dx=none->dx≠x ->
 sp (.ref x::(vs++lN)) (upd (upd H1 dx (.own x)) x (.ins C dx [])) (λv H2=>v=.non/\Q (.ref x) H2) E
def Binds(K:PySem.W.Frag)(fd:FuncData)(ps:List Str)(ds:List Value):Prop :=
 ∀(s:Shared)(us:List Value),K.In s.heap->(us++ds).length=ps.length->BindsTo s fd ⟨us,[]⟩ (ps.zip (us++ds))
theorem Binds.all{K:PySem.W.Frag}{fd:FuncData}{ps:List Str}(h:∀us:List Value,us.length=ps.length->bindArgs fd ⟨us,[]⟩=pure (ps.zip us)):Binds K fd ps []:=λs us _ hl=>by
 rw[append_nil] at hl ⊢
 exact .of_eq (h us hl)
def Ez(CX:wg)(X:Cx)(E:XK):Prop:=∀(pins:List (Addr×Obj))(σ:St)(H:Hp)(s:Shared)(e:Value)(s':Shared),Inv X pins σ H s->CX X.stack H s E e s'->X.xe e s'
section
variable{X:Cx}{CX:wg}{k:Nat}{f C:Addr}{fd:FuncData}{ps:List Str}{sp:Sp}{lN:List V}{ds:List Value}{E:XK}{x m:Str}{p pos apos:Pos}{e o:Expr}{es:List Expr}{ta:TE}{t:TA}
theorem U6(F:aq X.prog X.w X.K X.mg X.base CX k f fd ps sp)(hr:bT k X.A)(hb:Binds X.K fd ps ds)(hd:Vals lN ds)(hx:Ez CX X E)(I:Inv X pins σ H s)(r:Vals vs us)(h:sp (vs++lN) H Q E):wpAny (model X.prog X.w) X.A (call (.ref f) us) (EP X pins σ Q) X.xe s:=by
 have r2:Vals (vs++lN) (us++ds):=r.append hd
 have hl:(us++ds).length=ps.length:=by rw[<-r2.length];exact F.len _ _ _ _ h
 refine wpAny_call (adn (F.run X.A X.stack s H ⟨us,[]⟩ (us++ds) (vs++lN) Q E hr I.env0 (hb s us I.jP hl) r2 h) λr s' hq=>?_)
 cases r with
 |error e=>exact hx pins σ H s e s' I hq
 |ok fl =>
  cases fl with
  |ret u=>exact I.after hq
  |next=>exact abo hq
  |brk=>exact abo hq
  |cont=>exact abo hq
theorem EY(F:aq X.prog X.w X.K X.mg X.base CX k f fd ps sp)(hr:bT k X.A)(hg:Gl X x)(hm:X.mg x=some (.ref f))(hk:keepIn X.K (.ref f)=true)(hb:Binds X.K fd ps ds)(hd:Vals lN ds)(hx:Ez CX X E)(ha:PA X (e::es) t)(hdb:(x==("__debug__":Str))=false:=by decide)(he:starEach (e::es) X.env=(false,eval e X.env)::starEach es X.env:=by rfl)(hpl:(backTo pos (starEach es X.env)).any (·.1)=false:=by rfl) :
  PE X (.Call (.Name x p) (e::es) [] pos) (QG sp lN E t):=by
 intro pins s σ H Q I h
 refine abp (Qp I hg hm ?_ hdb)
 refine aev (h₀:=X.base) I.ok.mod.Oo hk (aP (ha pos pins s σ H _ I h) λus s1 ⟨vs,H1,I1,r,q⟩=>⟨I1.jP,?_⟩) he hpl
 exact U6 F hr hb hd hx I1 r q
theorem E_(he:PE X o ta)(c:Cls X.K C)(hm:Meth X.K C m f)(F:aq X.prog X.w X.K X.mg X.base CX k f fd ps sp)(hr:bT k X.A)(hb:Binds X.K fd ps ds)(hd:Vals lN ds)(hx:Ez CX X E)(ha:PA X (e::es) t)(hst:starEach (e::es) X.env=(false,eval e X.env)::starEach es X.env:=by rfl)(hpl:(backTo pos (starEach es X.env)).any (·.1)=false:=by rfl)(ht:eval (.Call (.Attribute o m apos) (e::es) [] pos) X.env=(do
   let ov <-eval o X.env
   standAt apos.atName
   let(f,first) <-holding [ov] (getMethod ov m pl)
   callWith pos f first (backTo pos (starEach (e::es) X.env)) (backToKw pos (keywordEach [] X.env))):=by rfl) :
  PE X (.Call (.Attribute o m apos) (e::es) [] pos) (QH C m sp lN E ta t):=by
 intro pins s σ H Q I h
 refine aes (pl:=pl) (aP (he pins s σ H _ I h) λu s1 ⟨x,H1,I1,rx,a,dx,fs,ex,ea,l,q⟩=>?_) ht
 subst ex
 obtain rfl:u=abe a:=rx
 refine zGm I1 ea c hm l ?_
 refine aev (first:=[.ref a]) (h₀:=X.base) I.ok.mod.Oo hm.kp (aP (ha pos pins s1 σ H1 _ I1 q) λus s2 ⟨vs,H2,I2,r,q2⟩=>⟨I2.jP,?_⟩) hst hpl
 exact U6 (us:=.ref a::us) (vs:=.ref a::vs) F hr hb hd hx I2 (.cons rfl r) q2
theorem zTj(he:PE X o ta)(c:Cls X.K C)(hm:Meth X.K C m f)(F:aq X.prog X.w X.K X.mg X.base CX k f fd ps sp)(hr:bT k X.A)(hb:Binds X.K fd ps ds)(hd:Vals lN ds)(hx:Ez CX X E)(ht:eval (.Call (.Attribute o m apos) [] [] pos) X.env=(do
   let ov <-eval o X.env
   standAt apos.atName
   let(f,first) <-holding [ov] (getMethod ov m pl)
   callWith pos f first (backTo pos (starEach [] X.env)) (backToKw pos (keywordEach [] X.env))):=by rfl) :
  PE X (.Call (.Attribute o m apos) [] [] pos) (QH C m sp lN E ta bO):=by
 intro pins s σ H Q I h
 refine aes (pl:=pl) (aP (he pins s σ H _ I h) λu s1 ⟨x,H1,I1,rx,a,dx,fs,ex,ea,l,q⟩=>?_) ht
 subst ex
 obtain rfl:u=abe a:=rx
 refine zGm I1 ea c hm l ?_
 exact PySem.W.callWith_K0 (first:=[.ref a]) I1.jP hm.kp (U6 (us:=[.ref a]) (vs:=[.ref a]) F hr hb hd hx I1 (.cons rfl .nil) q)
structure Mk(K:PySem.W.Frag)(C f:Addr):Prop where
 makes:PySem.W.makesIn K C=true
 init:findIn K (.ref C) "__init__" = some (some (.ref f))
 fn:isFn K (.ref f)=true
 kp:keepIn K (.ref C)=true
theorem zL2(M:Mk X.K C f)(F:aq X.prog X.w X.K X.mg X.base CX k f fd ps sp)(hr:bT (k+1) X.A)(hb:Binds X.K fd ps ds)(hd:Vals lN ds)(hx:Ez CX X E)(I:Inv X pins σ H s)(r:Vals vs us)(h:∀x dx,H x=none->H dx=none->dx≠x->sp (.ref x::(vs++lN)) (upd (upd H dx (.own x)) x (.ins C dx [])) (λv H2=>v=.non/\Q (.ref x) H2) E) :
  wpAny (model X.prog X.w) X.A (call (.ref C) us) (EP X pins σ Q) X.xe s:=by
 have hq:=h (s.heap.objs.size+1) s.heap.objs.size (I.hok.fresh (ab6 _)) (I.hok.fresh (aaq _)) (aav (acv _))
 have I2:=Inv.made (C:=C) I
 have r2:Vals (V.ref (s.heap.objs.size+1)::(vs++lN)) (abe (s.heap.objs.size+1)::(us++ds)):=.cons rfl (r.append hd)
 have hl:(abe (s.heap.objs.size+1)::us++ds).length=ps.length:=by
  have e:=r2.length
  rw[F.len _ _ _ _ hq] at e
  exact e.symm
 refine wpAny_call (zT2 (f:=f) I.jP M.makes M.init (beq_iff_eq.mp M.fn) (adn (F.run _ X.stack _ _ ⟨abe (s.heap.objs.size+1)::us,[]⟩ (abe (s.heap.objs.size+1)::(us++ds)) _ _ E (hr.make C us [])
  (I2.env0.make C us []) (hb _ (abe (s.heap.objs.size+1)::us) I2.jP hl) r2 hq) λr s' hq'=>?_))
 cases r with
 |error e=>exact hx pins σ _ _ e s' I2 hq'
 |ok fl =>
  cases fl with
  |ret u =>
   obtain⟨v,H',I3,rv,ev,q3⟩:=I2.after hq'
   subst ev
   exact⟨rv,⟨V.ref (s.heap.objs.size+1),H',I3,rfl,q3⟩⟩
  |next=>exact abo hq'
  |brk=>exact abo hq'
  |cont=>exact abo hq'
theorem Fb(M:Mk X.K C f)(F:aq X.prog X.w X.K X.mg X.base CX k f fd ps sp)(hr:bT (k+1) X.A)(hg:Gl X x)(hm:X.mg x=some (.ref C))(hb:Binds X.K fd ps ds)(hd:Vals lN ds)(hx:Ez CX X E)(ha:PA X (e::es) t)(hdb:(x==("__debug__":Str))=false:=by decide)(he:starEach (e::es) X.env=(false,eval e X.env)::starEach es X.env:=by rfl)(hpl:(backTo pos (starEach es X.env)).any (·.1)=false:=by rfl) :
  PE X (.Call (.Name x p) (e::es) [] pos) (OD C sp lN E t):=by
 intro pins s σ H Q I h
 refine abp (Qp I hg hm ?_ hdb)
 refine aev (h₀:=X.base) I.ok.mod.Oo M.kp (aP (ha pos pins s σ H _ I h) λus s1 ⟨vs,H1,I1,r,q⟩=>⟨I1.jP,?_⟩) he hpl
 exact zL2 M F hr hb hd hx I1 r q
theorem zTk(M:Mk X.K C f)(F:aq X.prog X.w X.K X.mg X.base CX k f fd ps sp)(hr:bT (k+1) X.A)(hg:Gl X x)(hm:X.mg x=some (.ref C))(hb:Binds X.K fd ps ds)(hd:Vals lN ds)(hx:Ez CX X E)(hdb:(x==("__debug__":Str))=false:=by decide):PE X (.Call (.Name x p) [] [] pos) (OD C sp lN E bO):=by
 intro pins s σ H Q I h
 refine abp (Qp I hg hm ?_ hdb)
 exact PySem.W.callWith_K0 I.jP M.kp (zL2 (us:=[]) M F hr hb hd hx I .nil h)
end
section
variable{X:Cx}{CX:wg}{k:Nat}{f C:Addr}{fd:FuncData}{ps ks:List Str}{sp:Sp}{E:XK}{x m:Str}{p pos apos kpos:Pos}{e o:Expr}{es:List Expr}{kws:List Keyword}{te ta:TE}{t tk:TA}{nm:Option Str}
structure W3(K:PySem.W.Frag)(fd:FuncData)(ps ks:List Str)(g:List Value->List Value->List Value)(gV:List V->List V->List V):Prop where
 to:∀(s:Shared)(us ws:List Value),K.In s.heap->(g us ws).length=ps.length->BindsTo s fd ⟨us,ks.zip ws⟩ (ps.zip (g us ws))
 rel:∀{vs:List V}{us:List Value}{zs:List V}{ws:List Value},Vals vs us->Vals zs ws->Vals (gV vs zs) (g us ws)
variable{g:List Value->List Value->List Value}{gV:List V->List V->List V}
end
structure ak(N P:List Str)(sc:Scope):Prop where
 kind:sc.kind=.function
 co:sc.isCoroutine=false
 gen:sc.isGenerator=false
 nd:N.Nodup
 pre:N.take P.length=P
 par:∀x∈P,sc.names.lookup x=some .local\/sc.names.lookup x=some .cell
 KD:∀y∈sc.names,y.2≠.free
theorem zJ6{kindOf:Str->Option NameKind}{x:Str}:∀{binds:List (Str×Value)}{m:Str->Option Value},(∀v,(x,v)∉binds)->bindL kindOf binds m x=m x
 |[],_,_=>rfl
 | (n,v)::r,m,h=>by
  unfold bindL
  rw[zJ6 λw hw=>h w (mem_cons_of_mem _ hw)]
  split
  ·have:x≠n:=by rintro rfl;exact h v mem_cons_self
   simp[this]
  ·rfl
theorem zJ8{kindOf:Str->Option NameKind}{x:Str}:∀{binds:List (Str×Value)}{m:Str->Option Value},(∀v,(x,v)∉binds)->bindC kindOf binds m x=m x
 |[],_,_=>rfl
 | (n,v)::r,m,h=>by
  unfold bindC
  rw[zJ8 λw hw=>h w (mem_cons_of_mem _ hw)]
  split
  ·rfl
  ·have:x≠n:=by rintro rfl;exact h v mem_cons_self
   simp[this]
theorem zJ7{kindOf:Str->Option NameKind}:∀{P:List Str}{vs:List Value}{i:Nat}{m:Str->Option Value},P.Nodup->P[i]?=some x->vs[i]?=some v->kindOf x=some .local ->
  bindL kindOf (P.zip vs) m x=some v
 |[],_,_,_,_,h,_,_=>by simp at h
 |_::_,[],_,_,_,_,h,_=>by simp at h
 |p::P,w::vs,0,m,nd,h1,h2,hk=>by
  simp at h1 h2;subst h1;subst h2
  show bindL kindOf ((p,w)::P.zip vs) m p=_
  unfold bindL
  rw[zJ6 λv hv=>(nodup_cons.mp nd).1 (of_mem_zip hv).1,if_pos hk]
  simp
 |p::P,w::vs,i+1,m,nd,h1,h2,hk=>by
  show bindL kindOf ((p,w)::P.zip vs) m x=_
  unfold bindL
  exact zJ7 (i:=i) (nodup_cons.mp nd).2 (by simpa using h1) (by simpa using h2) hk
theorem zJ9{kindOf:Str->Option NameKind}:∀{P:List Str}{vs:List Value}{i:Nat}{m:Str->Option Value},P.Nodup->P[i]?=some x->vs[i]?=some v->kindOf x≠some .local ->
  bindC kindOf (P.zip vs) m x=some v
 |[],_,_,_,_,h,_,_=>by simp at h
 |_::_,[],_,_,_,_,h,_=>by simp at h
 |p::P,w::vs,0,m,nd,h1,h2,hk=>by
  simp at h1 h2;subst h1;subst h2
  show bindC kindOf ((p,w)::P.zip vs) m p=_
  unfold bindC
  rw[zJ8 λv hv=>(nodup_cons.mp nd).1 (of_mem_zip hv).1,if_neg hk]
  simp
 |p::P,w::vs,i+1,m,nd,h1,h2,hk=>by
  show bindC kindOf ((p,w)::P.zip vs) m x=_
  unfold bindC
  exact zJ9 (i:=i) (nodup_cons.mp nd).2 (by simpa using h1) (by simpa using h2) hk
def start(N:List Str)(vs:List V):St:=vs.map some++replicate (N.length-vs.length) none
def pL(CX:wg)(P:Program)(w:World)(K:PySem.W.Frag)(mg:Str->Option Value)(base:Heap)(N:List Str)(qual:Str)(scope:Scope)(f:Addr)(cd:Value)(A:Around)(outer:List Env)(s:Shared)(H:Hp)(E:XK):Cx where
 prog:=P
 w:=w
 K:=K
 mg:=mg
 base:=base
 A:=A.deeper (envOfC qual scope s.heap.objs.size f cd)
 N:=N
 s₀:=s
 H₀:=H
 env:=envOfC qual scope s.heap.objs.size f cd
 outer:=outer
 stack:=envOfC qual scope s.heap.objs.size f cd::outer
 ex:=[]
 calm:=true
 fn:=λ_=>true
 pn:=[]
 xe:=λe s'=>wpAny (model P w) (A.deeper (envOfC qual scope s.heap.objs.size f cd)) (leaving (envOfC qual scope s.heap.objs.size f cd) e) (λ_ s''=>CX outer H s E e s'') (λe' s''=>CX outer H s E e' s'') s'
theorem zMx{sc:Scope}(h:sc.names.lookup x=some .cell):∃c,(cellsFrom n sc.names []).lookup x=some c:=by
 have q:=adg sc.names n [] (.inl h)
 exact ab2.mp q
theorem zQ6{CX:wg}{P:Program}{w:World}{K:PySem.W.Frag}{mg:Str->Option Value}{base:Heap}{N ps:List Str}{qual:Str}{scope:Scope}{f:Addr}{cd:Value}{A:Around}{outer:List Env}{s s1:Shared}{H:Hp}{E:XK}{us:List Value}{vs:List V}(S:ak N ps scope)(hd:A.handled=none)(e0:rY P w K mg base A outer s H)(hl:vs.length=ps.length)(r:Vals vs us)(x:InCallC s s.heap.objs.size (bindL (envOfC qual scope s.heap.objs.size f cd).kindOf (ps.zip us) λ_=>none) (cellsFrom (s.heap.objs.size+1) scope.names []) (bindC (envOfC qual scope s.heap.objs.size f cd).kindOf (ps.zip us) λ_=>none) s1) :
  Inv (pL CX P w K mg base N qual scope f cd A outer s H E) [] (start N vs) H s1:=by
 have hpl:ps.length<=N.length:=by have:=congrArg List.length S.pre;rw[length_take] at this;omega
 obtain⟨h1,tk,rfl,hk⟩:=x.done
 have QJ:∀b:Addr,b∉(pL CX P w K mg base N qual scope f cd A outer s H E).ex:=λb z=>absurd (show b∈([]:List Addr) from z) (by simp)
 refine⟨⟨e0.mod,S.kind,rfl,rfl,aaq _,λy z c h1 h2=>?_,λy hy=>?_,λy c _ h=>?_,λ_=>hd,Around.frames_deeper e0.frames,.inr ⟨rfl,rfl⟩,λb z=>absurd z (QJ b),e0.bs,e0.D_,λb _ _=>QJ b,λb z=>absurd z (QJ b),e0.lV,e0.J8⟩,
  rfl,e0.bare,Un.kept hk,⟨_,x.toInCall.ns,λi y v h1 h2 h3=>?_⟩,λy c h=>⟨_,x.cell y c h⟩,e0.hok.fresh (aaq _),λy c h=>?_,λp hp=>absurd (show p∈([]:List (Addr×Obj)) from hp) (by simp),e0.hok.kept hk,?_⟩
 ·exact name_of_addr x.apart (abv h1) (abv h2)
 ·have hy:scope.names.lookup y=some .cell\/scope.names.lookup y=some .free:=hy
  rcases hy with hy|hy
  ·exact zMx hy
  ·exact absurd rfl (S.KD _ (abv hy))
 ·exact ach (x.above y c (abv h))
 ·have hi:i<vs.length:=by
   unfold start at h2
   by_cases hi:i<vs.length
   ·exact hi
   ·rw[getElem?_append_right (by simpa using hi)] at h2
    rw[getElem?_replicate] at h2
    split at h2<;>cases h2
  have ha:vs[i]?=some v:=by
   unfold start at h2
   rw[getElem?_append_left (by simpa using hi),getElem?_map] at h2
   cases e:vs[i]? with
   |none=>rw[e] at h2;cases h2
   |some a=>rw[e] at h2;cases h2;rfl
  obtain⟨u,hu,rv⟩:=r.get ha
  have hp:ps[i]?=some y:=by
   rw[<-S.pre,getElem?_take_of_lt (by omega)];exact h1
  have ndP:ps.Nodup:=by rw[<-S.pre];exact S.nd.sublist (List.take_sublist _ _)
  refine⟨u,rv,?_⟩
  rcases S.par y (mem_of_getElem? hp) with k|k
  ·exact .inl ⟨k,zJ7 ndP hp hu k⟩
  ·obtain⟨c,e⟩:=zMx (n:=s.heap.objs.size+1) k
   refine .inr ⟨.inl k,c,e,?_⟩
   have q:=x.cell y c e
   rw[zJ9 ndP hp hu (by show scope.names.lookup y≠_;rw[k];decide)] at q
   exact q
 ·exact e0.hok.fresh (ach (x.above y c (abv h)))
 ·unfold start
  show _=N.length
  rw[length_append,length_map,List.length_replicate]
  omega
theorem I8{CX:wg}{P:Program}{w:World}{K:PySem.W.Frag}{mg:Str->Option Value}{base:Heap}{k:Nat}{f:Addr}{name qual:Str}{params:Arguments}{body:List Stmt}{scope:Scope}{dV kV doc pm cdv ct oc:Value}{an od:Option Addr}{osl:Array (Option Value)}{N ps:List Str}{sp:Sp}(lk:K.lookup f=some ⟨oc,od,.func (fnOf name qual params body scope dV kV doc pm an cdv ct),osl⟩)(hcd:codeIn K cdv qual=true)(S:ak N ps scope)(len:∀vs H Q E,sp vs H Q E->vs.length=ps.length)(hbody:∀(A:Around) (outer:List Env) (s:Shared) (H:Hp) (vs:List V) (Q:VK) (E:XK),bT k (A.deeper (envOfC qual scope s.heap.objs.size f cdv))->sp vs H Q E ->
   ∃t,qN (pL CX P w K mg base N qual scope f cdv A outer s H E) body t/\t { nx:=λ_ H'=>Q .non H',rt:=Q } (start N vs) H) :
  aq P w K mg base CX (k+1) f (fnOf name qual params body scope dV kV doc pm an cdv ct) ps sp:=by
 refine⟨len,λA outer s H args us vs Q E hr e0 hb r hsp=>?_⟩
 have hl:=len _ _ _ _ hsp
 have KX:K.In s.heap:=e0.mod.Oo.keeps λb o e=>(e0.bs b o e).1
 have lim:s.heap.NoLimit:=e0.mod.nolimit.keeps λb o e=>(e0.bs b o e).1
 have hkind:∀y∈ps.zip us,scope.names.lookup y.1=some .local\/(scope.names.lookup y.1=some .cell/\((cellsFrom (s.heap.objs.size+1) scope.names []).lookup y.1).isSome=true):=λ⟨n,v⟩ hy=>by
  rcases S.par n (of_mem_zip hy).1 with q|q
  ·exact .inl q
  ·exact .inr ⟨q,adg _ _ _ (.inl q)⟩
 refine codeAny_call_function hr.depth (KX _ _ lk) rfl S.co S.gen rfl (PySem.W.codeRec_of KX hcd) (hb _ _ _ _ ?_)
 refine wpAny_newFunctionEnv_cells S.kind hkind λenv he s1 x=>?_
 subst he
 refine⟨lim.keeps x.toInCall.keep,codeAny_func ?_⟩
 obtain⟨t,ht,hq⟩:=hbody A outer s H vs Q E (hr.deeper _) hsp
 have I:Inv (pL CX P w K mg base N qual scope f cdv A outer s H E) [] (start N vs) H s1:=zQ6 S hr.hd e0 hl r x
 refine acg (ht [] s1 (start N vs) H _ I hq) (λfl s' hs=>?_) λe s' hs=>hs
 have fin:∀{σ':St}{H':Hp}{v:V}{u:Value},Inv (pL CX P w K mg base N qual scope f cdv A outer s H E) [] σ' H' s'->RelV v u->Q v H'->CE outer P w H s Q u s' :=
  λ{σ' H' v u} J rv q=>⟨v,H',J.os,J.bare,J.base,J.hok,rv,q⟩
 cases fl with
 |ret u =>
  obtain⟨v,σ',H',J,rv,q⟩:=hs
  exact fin J rv q
 |next =>
  obtain⟨σ',H',J,q⟩:=hs
  exact fin (v:=V.non) (u:=ac5) J rfl q
 |brk =>
  obtain⟨_,_,_,q⟩:=hs
  exact abo q
 |cont =>
  obtain⟨_,_,_,q⟩:=hs
  exact abo q
section
variable{X:Cx}{x:Str}{p pos:Pos}{e:Expr}{es:List Expr}{t:TA}{id T:String}{r:List V->Hp->VK->Prop}
def uo(r:List V->Hp->VK->Prop)(t:TA):TE:=λσ H Q=>t σ H λvs H1=>r vs H1 Q
theorem zO(hc:rT X (.builtin id) r)(hg:Gl X x)(hm:X.mg x=none)(hv:bootBuiltins x=some (.builtin id))(ha:PA X (e::es) t)(hn:x ≠ "__name__":=by decide)(hdb:(x==("__debug__":Str))=false:=by decide)(he:starEach (e::es) X.env=(false,eval e X.env)::starEach es X.env:=by rfl)(hpl:(backTo pos (starEach es X.env)).any (·.1)=false:=by rfl):PE X (.Call (.Name x p) (e::es) [] pos) (uo r t):=by
 intro pins s σ H Q I h
 refine abp (Ak I hg hm hv ?_ hn hdb)
 exact PyProof.Rows.callWith_builtin1 (aP (ha pos pins s σ H _ I h) λus s1 ⟨vs,H1,I1,r1,q1⟩=>hc pins s1 σ H1 vs us Q I1 r1 q1) he hpl
theorem vL(hc:rT X (.type T) r)(hg:Gl X x)(hm:X.mg x=none)(hv:bootBuiltins x=some (.type T))(ha:PA X (e::es) t)(hn:x ≠ "__name__":=by decide)(hdb:(x==("__debug__":Str))=false:=by decide)(he:starEach (e::es) X.env=(false,eval e X.env)::starEach es X.env:=by rfl)(hpl:(backTo pos (starEach es X.env)).any (·.1)=false:=by rfl):PE X (.Call (.Name x p) (e::es) [] pos) (uo r t):=by
 intro pins s σ H Q I h
 refine abp (Ak I hg hm hv ?_ hn hdb)
 exact abk (aP (ha pos pins s σ H _ I h) λus s1 ⟨vs,H1,I1,r1,q1⟩=>hc pins s1 σ H1 vs us Q I1 r1 q1) he hpl
end
section
variable{κ:Type}[DecidableEq κ]
def gY(kvs:List (κ×V))(k:κ):Option V:=(kvs.find? λkv=>decide (kv.1=k)).map (·.2)
def putK(kvs:List (κ×V))(k:κ)(v:V):List (κ×V) :=
 if(kvs.any λkv=>decide (kv.1=k))=true then kvs.map (λkv=>if kv.1=k then(kv.1,v) else kv) else kvs++[(k,v)]
theorem W4{p:κ×V}{r:List (κ×V)}{k:κ}(e:p.1=k):gY (p::r) k=some p.2:=by simp[gY,find?_cons,e]
theorem W5{p:κ×V}{r:List (κ×V)}{k:κ}(e:¬p.1=k):gY (p::r) k=gY r k:=by simp[gY,find?_cons,e]
theorem zLv(k:κ):∀kvs:List (κ×V),(kvs.any λkv=>decide (kv.1=k))=(gY kvs k).isSome
 |[]=>rfl
 |p::r=>by
  rw[any_cons]
  by_cases e:p.1=k
  ·simp only[W4 e,decide_eq_true e,Bool.true_or,ad0]
  ·rw[W5 e,decide_eq_false e,aea];exact zLv k r
theorem W6(kvs:List (κ×V))(k:κ)(v:V):(putK kvs k v).length<=kvs.length+1:=by
 unfold putK
 split
 ·rw[length_map];omega
 ·rw[length_append,length_cons,length_nil];omega
theorem jh.fP(r:jh o u):o.isSome=u.isSome:=by
 cases o with
 |none=>cases u with
  |none=>rfl
  |some _=>exact(show False from r).elim
 |some _=>cases u with
  |none=>exact(show False from r).elim
  |some _=>rfl
theorem jh.getD(r:jh o u)(rd:RelV d d'):RelV (o.getD d) (u.getD d'):=by
 cases o with
 |none=>cases u with
  |none=>exact rd
  |some _=>exact(show False from r).elim
 |some _=>cases u with
  |none=>exact(show False from r).elim
  |some _=>exact r
theorem KV.val(r:KV kvs vs)(k:κ):jh (gY kvs k) (valueAt vs k):=by
 unfold KV at r
 induction r with
 |nil=>exact acq
 |@cons p q ps qs h t ih =>
  obtain⟨h1,h2⟩:=h
  by_cases e:p.1=k
  ·have e':q.1=k:=h1.symm.trans e
   have b:valueAt (q::qs) k=some q.2:=by simp[valueAt,find?_cons,e']
   rw[W4 e,b];exact h2
  ·have e':¬q.1=k:=λz=>e (h1.trans z)
   have b:valueAt (q::qs) k=valueAt qs k:=by simp[valueAt,find?_cons,e']
   rw[W5 e,b];exact ih
theorem KV.any(r:KV kvs vs)(k:κ):(kvs.any λkv=>decide (kv.1=k))=vs.any λkv=>decide (kv.1=k):=by
 unfold KV at r
 induction r with
 |nil=>rfl
 |cons h t ih=>rw[any_cons,any_cons,ih,h.1]
theorem KV.repl(r:KV kvs vs)(k:κ)(ry:RelV y u) :
  KV (kvs.map λkv=>if kv.1=k then(kv.1,y) else kv) (vs.map λkv=>if kv.1=k then(kv.1,u) else kv):=by
 unfold KV at r ⊢
 induction r with
 |nil=>exact .nil
 |@cons p q ps qs h t ih =>
  rw[map_cons,map_cons]
  refine .cons ?_ ih
  obtain⟨h1,h2⟩:=h
  by_cases e:p.1=k
  ·rw[if_pos e,if_pos (h1.symm.trans e)];exact⟨h1,ry⟩
  ·rw[if_neg e,if_neg (λz=>e (h1.trans z))];exact⟨h1,h2⟩
theorem KV.put(r:KV kvs vs)(k:κ)(ry:RelV y u):KV (putK kvs k y) (stored vs k u):=by
 unfold putK stored
 rw[r.any k]
 by_cases e:(vs.any λkv=>decide (kv.1=k))=true
 ·rw[if_pos e,if_pos e];exact r.repl k ry
 ·rw[if_neg e,if_neg e];exact Paired.snoc r ⟨rfl,ry⟩
theorem KV.length(r:KV kvs vs):kvs.length=vs.length:=aep r
end
theorem QK(r:RelV (kV k) u):(wY P w).is k u=true:=by
 cases k with
 |inl i=>obtain⟨t,e⟩:=(show∃t,u=ab7 i t from r);subst e;exact zLb P w i t
 |inr x=>obtain⟨t,e⟩:=(show∃t,u=ae4 x t from r);subst e;exact zLa P w x t
theorem zJm:∀{ks:List Key}{us:List Value},Vals (ks.map kV) us->ItemsAre (wY P w) ks us
 |[],_,r=>by rw[map_nil] at r;cases r;exact .nil
 |k::ks,_,r=>by
  rw[map_cons] at r
  cases r with
  |cons h t=>exact .cons (QK h) (zJm t)
abbrev KT(H:Hp):List (List Key×V)->List (List Key×Addr×Value)->Prop:=Paired λp q=>p.1=q.1/\H q.2.1=some (.tup (p.1.map kV))/\RelV p.2 q.2.2
theorem KT.val(r:KT H kvs xs)(k:List Key):jh (gY kvs k) ((atKey xs k).map (·.2)):=by
 induction r with
 |nil=>exact acq
 |@cons p q ps qs h t ih =>
  obtain⟨h1,_,h2⟩:=h
  by_cases e:p.1=k
  ·have e':q.1=k:=h1.symm.trans e
   have b:atKey (q::qs) k=some q.2:=by simp[atKey,find?_cons,e']
   rw[W4 e,b];exact h2
  ·have e':¬q.1=k:=λz=>e (h1.trans z)
   have b:atKey (q::qs) k=atKey qs k:=by simp[atKey,find?_cons,e']
   rw[W5 e,b];exact ih
theorem KT.repl(r:KT H kvs xs)(k:List Key)(ry:RelV y u) :
  KT H (kvs.map λkv=>if kv.1=k then(kv.1,y) else kv) (xs.map (putAt k u)):=by
 induction r with
 |nil=>exact .nil
 |@cons p q ps qs h t ih =>
  rw[map_cons,map_cons]
  refine .cons ?_ ih
  obtain⟨h1,h2,h3⟩:=h
  unfold putAt
  by_cases e:p.1=k
  ·rw[if_pos e,if_pos (h1.symm.trans e)];exact⟨h1,h2,ry⟩
  ·rw[if_neg e,if_neg (λz=>e (h1.trans z))];exact⟨h1,h2,h3⟩
theorem KT.put(r:KT H kvs xs)(k:List Key)(hb:H b=some (.tup (k.map kV)))(ry:RelV y u) :
  KT H (putK kvs k y) (storedH xs k b u):=by
 have e:(kvs.any λkv=>decide (kv.1=k))=(atKey xs k).isSome:=by
  rw[zLv,(r.val k).fP,aem]
 unfold putK storedH
 rw[e]
 by_cases q:(atKey xs k).isSome=true
 ·rw[if_pos q,if_pos q];exact r.repl k ry
 ·rw[if_neg q,if_neg q];exact Paired.snoc r ⟨rfl,hb,ry⟩
theorem KT.keeps(r:KT H kvs xs)(ht:∀b ys,H b=some (.tup ys)->H' b=some (.tup ys)):KT H' kvs xs :=
 Paired.J7 r λ_ _ z=>⟨z.1,ht _ _ z.2.1,z.2.2⟩
section
variable{P:Program}{w:World}{H:Hp}{h:Heap}{a:Addr}
theorem I9(ok:gQ P w H h)(e:Rd H a u):aZ P w H h a u:=e.ok ok
theorem Av(ok:gQ P w H h)(e:Rd H a (.dK kvs)):kvs.length<=sizeLine/\(a==sysModules)=false/\∃vs,KV kvs vs/\h.DictOf (wY P w) a vs :=
 show aZ P w H h a (.dK kvs) from I9 ok e
theorem I_(ok:gQ P w H h)(e:H a=some (.dK kvs)):kvs.length<=sizeLine/\(a==sysModules)=false/\∃vs,KV kvs vs/\h.DictOf (wY P w) a vs:=Av ok (.inl e)
theorem U7{ks:List Key}(ok:gQ P w H h)(e:H a=some (.tup (ks.map kV))):(tupleKind (wY P w)).is h ks a:=by
 obtain⟨_,its,r,o,h1,h2,n,h3⟩:=(show aZ P w H h a (.tup (ks.map kV)) from ok a _ e)
 exact⟨o,its.toArray,n,h1,h2,h3,by simpa using zJm r⟩
theorem Aw(ok:gQ P w H h)(e:Rd H a (.dT kvs)):kvs.length<=sizeLine/\(a==sysModules)=false /\
  ∃xs,KT H kvs xs/\h.DictOfH (tupleKind (wY P w)) a xs:=by
 obtain⟨z,y,xs,r,o,es,ep,h1,h2,h3,h4,h5⟩:=(show aZ P w H h a (.dT kvs) from I9 ok e)
 refine⟨z,y,xs,r,o,es,ep,h1,h2,h3,h4,λx hx=>?_,h5⟩
 have all:∀{l:List (List Key×V)}{m:List (List Key×Addr×Value)},KT H l m->∀x∈m,(tupleKind (wY P w)).is h x.1 x.2.1:=by
  intro l m q
  induction q with
  |nil=>intro x hx;exact nomatch hx
  |@cons p q ps qs hq t ih =>
   intro x hx
   rcases mem_cons.mp hx with e|hx
   ·subst e
    exact U7 ok (by rw[<-hq.1];exact hq.2.1)
   ·exact ih x hx
 exact all r x hx
theorem QL(ok:gQ P w H h)(e:H a=some (.dT kvs)):kvs.length<=sizeLine/\(a==sysModules)=false /\
  ∃xs,KT H kvs xs/\h.DictOfH (tupleKind (wY P w)) a xs:=Aw ok (.inl e)
end
def pN(H:Hp)(a:Addr)(y:V)(r:Option V):Prop :=
 (∃kvs k,Rd H a (.dK kvs)/\y=kV k/\r=gY kvs k)\/∃kvs k b,Rd H a (.dT kvs)/\y=.ref b/\H b=some (.tup (k.map kV))/\r=gY kvs k
def wj(H:Hp)(a:Addr)(y v:V)(H':Hp):Prop :=
 (∃kvs k,H a=some (.dK kvs)/\y=kV k/\kvs.length<sizeLine/\H'=upd H a (.dK (putK kvs k v))) \/
 ∃kvs k b,H a=some (.dT kvs)/\y=.ref b/\H b=some (.tup (k.map kV))/\kvs.length<sizeLine/\H'=upd H a (.dT (putK kvs k v))
theorem pN.k{H:Hp}{a:Addr}{kvs:List (Key×V)}{k:Key}(e:H a=some (.dK kvs)):pN H a (kV k) (gY kvs k):=.inl ⟨kvs,k,.inl e,rfl,rfl⟩
theorem wj.k{H:Hp}{a:Addr}{kvs:List (Key×V)}{k:Key}{v:V}(e:H a=some (.dK kvs))(hl:kvs.length<sizeLine):wj H a (kV k) v (upd H a (.dK (putK kvs k v))):=.inl ⟨kvs,k,e,rfl,hl,rfl⟩
section
variable{X:Cx}{pins:List (Addr×Obj)}{σ:St}{H:Hp}{s:Shared}{a:Addr}{y v:V}{u r:Value}{o:Option V}{A:Around}{E:Value->Shared->Prop}
theorem Inv.big(I:Inv X pins σ H s):sysModules<s.heap.objs.size:=by
 have h:abb<s.heap.objs.size:=(I.mod.glob.keeps I.bk).lt
 exact adk (by decide) h
theorem W7{Q:Value->Shared->Prop}(hu:A.units+1<cLine)(I:Inv X pins σ H s)(g:pN H a y o)(ry:RelV y u)(h:∀s',Inv X pins σ H s'->Q (.bool o.isSome) s') :
  wpAny (model X.prog X.w) A (compareOp .In u (.ref a)) Q E s:=by
 rcases g with⟨kvs,k,e,ey,l⟩|⟨kvs,k,b,e,ey,eb,l⟩
 ·subst ey
  obtain⟨z,hd,vs,rel,dd⟩:=Av I.hok e
  refine wpAny_in_of (QK ry) hd dd.mapOf ?_
  rw[<-(rel.val k).fP,<-l]
  exact h _ (I.tok _)
 ·subst ey
  cases(show u=abe b from ry)
  obtain⟨z,hd,xs,rel,dd⟩:=Aw I.hok e
  refine wpAny_in_heap (aei hu) (U7 I.hok eb) hd dd ?_
  have q:=(rel.val k).fP
  rw[aem] at q
  rw[<-q,<-l]
  exact h _ (I.tok _)
theorem Fd{Q:Value->Shared->Prop}(hu:A.units+1<cLine)(I:Inv X pins σ H s)(g:pN H a y o)(ry:RelV y u)(h:∀s',Inv X pins σ H s'->Q (.bool (!o.isSome)) s') :
  wpAny (model X.prog X.w) A (compareOp .NotIn u (.ref a)) Q E s:=by
 rcases g with⟨kvs,k,e,ey,l⟩|⟨kvs,k,b,e,ey,eb,l⟩
 ·subst ey
  obtain⟨z,hd,vs,rel,dd⟩:=Av I.hok e
  refine wpAny_notIn_of (QK ry) hd dd.mapOf ?_
  rw[<-(rel.val k).fP,<-l]
  exact h _ (I.tok _)
 ·subst ey
  cases(show u=abe b from ry)
  obtain⟨z,hd,xs,rel,dd⟩:=Aw I.hok e
  refine wpAny_notIn_heap (aei hu) (U7 I.hok eb) hd dd ?_
  have q:=(rel.val k).fP
  rw[aem] at q
  rw[<-q,<-l]
  exact h _ (I.tok _)
theorem W8(I:Inv X pins σ H s)(mu:Qk (H a))(hs:SameBut a s.heap h')(he:∃q,h'.get? a=some q)(new:aZ X.prog X.w (upd H a ob) h' a ob) :
  Inv X pins σ (upd H a ob) { s with heap:=h',toks:=t' } :=
 I.write (x:=a) (e:=a) mu (.inl rfl) (λb q hb z=>(hs.2 b hb).trans z) he new
theorem zVt{h':Heap}{kvs:List (Key×V)}(z:kvs.length<=sizeLine)(hd:(a==sysModules)=false)(rel:KV kvs vs)(dd:h'.DictOf (wY P w) a vs) :
  aZ P w H' h' a (.dK kvs):=⟨z,hd,vs,rel,dd⟩
theorem zR0{Q:Unit->Shared->Prop}(hu:A.units+1<cLine)(I:Inv X pins σ H s)(g:wj H a y v H')(ry:RelV y u)(rv:RelV v r)(h:∀s',Inv X pins σ H' s'->Q () s') :
  wpAny (model X.prog X.w) A (setItem (.ref a) u r) Q E s:=by
 rcases g with⟨kvs,k,e,ey,l,eH⟩|⟨kvs,k,b,e,ey,eb,l,eH⟩
 ·subst ey eH
  obtain⟨z,hd,vs,rel,dd⟩:=I_ I.hok e
  have hz:vs.length<=sizeLine:=by rw[<-rel.length];exact z
  have hl:(putK kvs k v).length<=sizeLine:=by have:=W6 kvs k v;omega
  refine wpAny_setItem_pairs (hsz:=hz) (QK ry) dd λh' KH hs=>h _ ?_
  have he:∃q,h'.get? a=some q:=let⟨q,_,_,hq,_⟩:=KH;⟨q,hq⟩
  exact W8 I (by rw[e];exact acq) hs he (zVt hl hd (rel.put k rv) KH)
 ·subst ey eH
  cases(show u=abe b from ry)
  obtain⟨z,hd,xs,rel,dd⟩:=QL I.hok e
  have hz:xs.length<=sizeLine:=by rw[<-aep rel];exact z
  have hl:(putK kvs k v).length<=sizeLine:=by have:=W6 kvs k v;omega
  refine wpAny_setItem_heap (hsz:=hz) (aei hu) (U7 I.hok eb) dd λh' KH hs=>h _ ?_
  obtain⟨q,es,ep,hq,h2,h3,h4,_,h5⟩:=KH
  refine W8 I (by rw[e];exact acq) hs ⟨q,hq⟩ ⟨hl,hd,_,(rel.put k eb rv).keeps λc ys ec=>?_,q,es,ep,hq,h2,h3,h4,h5⟩
  rw[zV (Qj ec e (λz=>nomatch z))]
  exact ec
end
section
variable{X:Cx}{pins:List (Addr×Obj)}{σ:St}{H:Hp}{s:Shared}{a:Addr}{kvs:List (Key×V)}{k:Key}{u:Value}{A:Around}{E:Value->Shared->Prop}
end
def KJ(ty td:TE):TE:=λσ H Q=>ty σ H λy H1=>td σ H1 λx H2=>∃a o,x=.ref a/\pN H2 a y o/\Q (.bl o.isSome) H2
def zPi(ty td:TE):TE:=λσ H Q=>ty σ H λy H1=>td σ H1 λx H2=>∃a o,x=.ref a/\pN H2 a y o/\Q (.bl (!o.isSome)) H2
def Ax(td ty tv:TE):TS:=λD σ H=>tv σ H λv H1=>td σ H1 λx H2=>ty σ H2 λy H3=>∃a H4,x=.ref a/\wj H3 a y v H4/\D.nx σ H4
section
variable{X:Cx}{o i e value:Expr}{pos pos' tpos:Pos}{td ty tv:TE}
theorem OJ(hu:X.A.units+1<cLine)(hi:PE X i ty)(ho:PE X o td):PC X .In i o (KJ ty td):=by
 intro pins s σ H Q I h
 refine aP (hi pins s σ H _ I h) λiv s1 ⟨y,H1,I1,ry,q1⟩=>aP (ho pins s1 σ H1 _ I1 q1) λu s2 ⟨x,H2,I2,rx,a,ov,ex,g,q2⟩=>?_
 subst ex
 obtain rfl:u=abe a:=rx
 exact W7 hu I2 g ry λs3 I3=>⟨.bl ov.isSome,H2,I3,rfl,q2⟩
theorem zI7(hu:X.A.units+1<cLine)(hi:PE X i ty)(ho:PE X o td):PC X .NotIn i o (zPi ty td):=by
 intro pins s σ H Q I h
 refine aP (hi pins s σ H _ I h) λiv s1 ⟨y,H1,I1,ry,q1⟩=>aP (ho pins s1 σ H1 _ I1 q1) λu s2 ⟨x,H2,I2,rx,a,ov,ex,g,q2⟩=>?_
 subst ex
 obtain rfl:u=abe a:=rx
 exact Fd hu I2 g ry λs3 I3=>⟨.bl (!ov.isSome),H2,I3,rfl,q2⟩
theorem U8(hu:X.A.units+1<cLine)(ho:PE X o td)(hi:PE X i ty)(hv:PE X value tv)(hs:swapsWith value (some (.Subscript o i pos')) pos.line X.env=pure false) :
  PS X (.Assign [.Subscript o i pos'] value pos) (Ax td ty tv):=by
 intro pins s σ H D I h
 refine wpAny_Assign_Subscript (aP (hv pins s σ H _ I h) λr s1 ⟨v,H1,I1,rv,q1⟩=>aP (ho pins s1 σ H1 _ I1 q1) λu s2 ⟨x,H2,I2,rx,q2⟩=>aP (hi pins s2 σ H2 _ I2 q2) λiv s3 ⟨y,H3,I3,ry,a,H4,ex,g,q3⟩=>?_) hs
 subst ex
 obtain rfl:u=abe a:=rx
 exact zR0 hu I3 g ry rv λs4 I4=>⟨σ,H4,I4,q3⟩
end
theorem zMt(h:Heap)(hb:sysModules<h.objs.size):aZ P w H (h.push { cls:=.type "dict",data:=.dict #[] }) h.objs.size (.dK []) :=
 ⟨abf _,beq_eq_false_iff_ne.mpr (abt (aav hb)),[],.nil,Heap.DictOf.new h⟩
def zU5:TE:=λ_ H Q=>∀p,H p=none->Q (.ref p) (upd H p (.dK []))
section
variable{X:Cx}{pos:Pos}
theorem W9:PE X (.Dict [] [] pos) zU5:=λpins s σ H Q I h =>
 wpAny_Dict_empty ⟨.ref s.heap.objs.size,_,I.laid (a:=s.heap.objs.size) (o:=.dK []) (t':=s.toks) (λ_ _ q=>get?_push_of_some _ q) (aaq _) (zMt s.heap I.big),rfl,h _ (I.hok.fresh (aaq _))⟩
end
def W_:List (TE×TE)->St->Hp->(List (V×V)->Hp->Prop)->Prop
 |[],_,H,Q=>Q [] H
 | (tk,tv)::r,σ,H,Q=>tk σ H λx H1=>tv σ H1 λy H2=>W_ r σ H2 λps H3=>Q ((x,y)::ps) H3
abbrev VV:List (V×V)->List (Value×Value)->Prop:=Paired λp q=>RelV p.1 q.1/\RelV p.2 q.2
def U9(X:Cx)(pos:Pos)(keys:List (Option Expr))(values:List Expr)(KN:List (TE×TE)):Prop :=
 ∀(pins:List (Addr×Obj))(s:Shared)(σ:St)(H:Hp)(Q:List (V×V)->Hp->Prop),Inv X pins σ H s->W_ KN σ H Q ->
  wpAny (model X.prog X.w) X.A (evalPairs (pairTrees keys values X.env pos)) (λvs s'=>∃ps H',Inv X pins σ H' s'/\VV ps vs/\Q ps H') X.xe s
theorem Fe:U9 X pos [] [] []:=λpins s σ H Q I h=>pairTrees_nil_walk ⟨[],H,I,.nil,h⟩
theorem zTg(hk:PE X k tk)(hv:PE X v tv)(hr:U9 X pos ks vs KN) :
  U9 X pos (some k::ks) (v::vs) ((tk,tv)::KN):=λpins s σ H Q I h =>
 pairTrees_cons_walk (aP (hk pins s σ H _ I h) λu s1 ⟨x,H1,I1,rx,q1⟩=>aP (hv pins s1 σ H1 _ I1 q1) λw2 s2 ⟨y,H2,I2,ry,q2⟩ =>
  aP (hr pins s2 σ H2 _ I2 q2) λws s3 ⟨ps,H3,I3,rel,q3⟩=>⟨(x,y)::ps,H3,I3,.cons ⟨rx,ry⟩ rel,q3⟩)
def O4(kvs more:List (Key×V)):List (Key×V):=more.foldl (λacc kv=>putK acc kv.1 kv.2) kvs
theorem KV.merge:∀{more:List (Key×V)}{rs:List (Key×Value)}{kvs:List (Key×V)}{vs:List (Key×Value)},KV more rs->KV kvs vs->KV (O4 kvs more) (merged vs rs):=by
 intro more rs kvs vs r
 unfold KV at r
 induction r generalizing kvs vs with
 |nil=>intro q;exact q
 |@cons p q ps qs h t ih =>
  intro r0
  have e:KV (putK kvs p.1 p.2) (stored vs q.1 q.2):=by
   have:=r0.put p.1 h.2
   rw[<-h.1];exact this
  exact ih e
theorem zCx:∀(more kvs:List (Key×V)),(O4 kvs more).length<=kvs.length+more.length
 |[],kvs=>by show kvs.length<=kvs.length+0;omega
 |p::r,kvs=>by
  have h1:=zCx r (putK kvs p.1 p.2)
  have h2:=W6 kvs p.1 p.2
  show(O4 (putK kvs p.1 p.2) r).length<=_
  rw[length_cons];omega
theorem zGs:∀{kvs:List (Key×V)}{ws:List (Value×Value)},VV (kvs.map λkv=>(kV kv.1,kv.2)) ws->∃rs,Carries (wY P w) ws rs/\KV kvs rs
 |[],_,r=>by rw[map_nil] at r;cases r;exact⟨[],acq,.nil⟩
 |p::kvs,_,r=>by
  rw[map_cons] at r
  cases r with
  |@cons a b as bs h t =>
   obtain⟨rs,c,q⟩:=zGs (P:=P) (w:=w) t
   obtain⟨b1,b2⟩:=b
   exact⟨(p.1,b2)::rs,⟨QK h.1,rfl,c⟩,.cons ⟨rfl,h.2⟩ q⟩
def Ay(KN:List (TE×TE)):TE:=λσ H Q=>∀p,H p=none->W_ KN σ (upd H p (.dK [])) λps H2=>H2 p=some (.dK [])/\∃kvs:List (Key×V),ps=kvs.map (λkv=>(kV kv.1,kv.2))/\kvs.length<=15/\Q (.ref p) (upd H2 p (.dK (O4 [] kvs)))
theorem Fg(h:U9 X pos keys values KN)(hall:keys.all (·.isSome)=true)(hl:keys.length=values.length)(h0:keys≠[])(h15:keys.length<=15):PE X (.Dict keys values pos) (Ay KN):=by
 intro pins s σ H Q I q
 have hn:=I.hok.fresh (aaq s.heap.objs.size)
 have I1:=I.laid (a:=s.heap.objs.size) (o:=.dK []) (h':=s.heap.push { cls:=.type "dict",data:=.dict #[] }) (t':=s.toks) (λ_ _ q=>get?_push_of_some _ q) (aaq _) (zMt s.heap I.big)
 refine wpAny_Dict_walk (knd:=wY X.prog X.w) hall hl h0 h15 (aP (h pins _ σ _ _ I1 (q _ hn)) λws s2 ⟨ps,H2,I2,rel,e,kvs,ep,lk,q2⟩=>?_)
 subst ep
 obtain⟨rs,c,rk⟩:=zGs (P:=X.prog) (w:=X.w) rel
 obtain⟨z,hd,vs0,r0,dd⟩:=I_ I2.hok e
 cases r0
 refine⟨rs,c,dd,λh' KH hs=>⟨.ref s.heap.objs.size,_,?_,rfl,q2⟩⟩
 have hz:(O4 [] kvs).length<=sizeLine:=by
  have h1:=zCx kvs []
  rw[length_nil] at h1
  rw[aen];omega
 have he:∃q,h'.get? s.heap.objs.size=some q:=let⟨q,_,_,hq,_⟩:=KH;⟨q,hq⟩
 exact W8 I2 (by rw[e];exact acq) hs he (zVt hz hd (rk.merge .nil) KH)
structure M1(X:Cx)(o:Expr)(m:Str)(apos:Pos)(e:Expr)(cpos:Pos):Prop where
 base:attributeBase o m X.env (eval o X.env)=eval o X.env
 few:((backTo cpos (starEach [e] X.env)).all (λx=>!x.1)&&(backToKw cpos (keywordEach [] X.env)).all (λx=>x.1.isSome)
  && decide (([e]:List Expr).length+([]:List Keyword).length+(if([]:List Keyword).isEmpty then 0 else 1)<30))=true
 line:(apos.endLine==cpos.line)=true
 trees:backTo cpos (starEach [e] X.env)=[(false,eval e X.env)]
structure M2(X:Cx)(o:Expr)(m:Str)(apos:Pos)(e f:Expr)(cpos:Pos):Prop where
 base:attributeBase o m X.env (eval o X.env)=eval o X.env
 few:((backTo cpos (starEach [e,f] X.env)).all (λx=>!x.1)&&(backToKw cpos (keywordEach [] X.env)).all (λx=>x.1.isSome)
  && decide (([e,f]:List Expr).length+([]:List Keyword).length+(if([]:List Keyword).isEmpty then 0 else 1)<30))=true
 line:(apos.endLine==cpos.line)=true
 trees:backTo cpos (starEach [e,f] X.env)=[(false,eval e X.env),(false,eval f X.env)]
section
variable{X:Cx}{pins:List (Addr×Obj)}{σ:St}{H:Hp}{s:Shared}{a:Addr}{y d:V}{u r:Value}{o:Option V}{A:Around}{E:Value->Shared->Prop}
end
section
variable{X:Cx}{o e f:Expr}{apos cpos:Pos}{td ty tx:TE}
end
section
variable{X:Cx}{pins:List (Addr×Obj)}{σ:St}{H:Hp}{s:Shared}{a:Addr}{kvs:List (Key×V)}{A:Around}{E:Value->Shared->Prop}
end
section
variable{X:Cx}{pins:List (Addr×Obj)}{σ:St}{H:Hp}{s:Shared}{a:Addr}{y:V}{u:Value}{A:Around}{E:Value->Shared->Prop}
end
end L2
namespace HT
open PySem PyProof.Rows
section
open PySem.SeqAt
open PySem.AutoSeq1 (wpAny_loadPart')
open PySem.MeetsSeq PySem.MeetsSeq2 PySem.MeetsSeq3
end
section
variable{prog:Program}{w:World}{A:Around}{E:Value->Shared->Prop}{s:Shared}
end
end HT
namespace L2
open PySem PySem.Spec PyProof.Rows
abbrev TO:=St->Hp->(Option Int->Hp->Prop)->Prop
def PO(X:Cx)(e:Option Expr)(t:TO):Prop :=
 ∀(pins:List (Addr×Obj))(s:Shared)(σ:St)(H:Hp)(Q:Option Int->Hp->Prop),Inv X pins σ H s->t σ H Q ->
  wpAny (model X.prog X.w) X.A (evalPart e X.env) (λu s'=>∃o H',Inv X pins σ H' s'/\IsPart u o/\Q o H') X.xe s
def zPe:TO:=λ_ H Q=>Q none H
def Ja(t:TE):TO:=λσ H Q=>t σ H λx H1=>∃i,x=.int i/\Q (some i) H1
section
variable{X:Cx}{e:Expr}{te:TE}{lo hi:Option Expr}{tl th:TO}{pos p2:Pos}
theorem Fi:PO X none zPe:=by
 intro pins s σ H Q I h
 rw[evalPart_none]
 exact aap ⟨none,H,I,.none,h⟩
theorem Fj(h:PE X e te):PO X (some e) (Ja te):=by
 intro pins s σ H Q I hw
 rw[evalPart_some]
 refine aP (h pins s σ H _ I hw) λu s1 ⟨x,H1,I1,r1,q1⟩=>?_
 obtain⟨i,rfl,q⟩:=q1
 obtain⟨t,rfl⟩:=r1
 exact⟨some i,H1,I1,.int i t,q⟩
def SlR(X:Cx)(r:V->Option Int->Option Int->Hp->VK->Prop):Prop :=
 ∀(pins:List (Addr×Obj))(s:Shared)(σ:St)(H:Hp)(x:V)(v vl vu:Value)(lo hi:Option Int)(sl:Addr)(Q:VK),Inv X pins σ H s->RelV x v->s.heap.IsSliceOf sl vl vu .none->IsPart vl lo->IsPart vu hi->r x lo hi H Q ->
  ∃T id,typeLookup (.type T) "__getitem__" = pure (some (.builtin id))/\s.TypeIs v T/\wpAny (model X.prog X.w) X.A (getItem v (.ref sl)) (EP X pins σ Q) X.xe s
def tSl(r:V->Option Int->Option Int->Hp->VK->Prop)(te:TE)(tl th:TO):TE:=λσ H Q=>te σ H λx H1=>tl σ H1 λl H2=>th σ H2 λu H3=>r x l u H3 Q
theorem zTi(hr:SlR X r)(he:PE X e te)(hl:PO X lo tl)(hu:PO X hi th):PE X (.Subscript e (.Slice lo hi none p2) pos) (tSl r te tl th):=by
 intro pins s σ H Q I h
 refine Subscript_ (aP (he pins s σ H _ I h) λv s1 ⟨x,H1,I1,r1,q1⟩=>?_)
 refine wpAny_Slice (aP (hl pins s1 σ H1 _ I1 q1) λvl s2 ⟨l,H2,I2,pl,q2⟩=>aP (hu pins s2 σ H2 _ I2 q2) λvu s3 ⟨u,H3,I3,pu,q3⟩=>?_)
 rw[evalPart_none]
 refine aap ?_
 have I4:Inv X pins σ H3 { s3 with heap:=s3.heap.push { cls:=.type "slice",data:=.fields #[vl,vu,.none] } }:=I3.kept (t':=s3.toks) λb ob q=>get?_push_of_some _ q
 obtain⟨T,id,hT,ht,hg⟩:=hr pins { s3 with heap:=s3.heap.push { cls:=.type "slice",data:=.fields #[vl,vu,.none] } } σ H3 x v vl vu l u s3.heap.objs.size Q I4 r1 (Heap.IsSliceOf.new ..) pl pu q3
 show wpAny (model X.prog X.w) X.A (subscriptTail e (.Slice lo hi none p2) v (.ref s3.heap.objs.size)) (EP X pins σ Q) X.xe { s3 with heap:=s3.heap.push { cls:=.type "slice",data:=.fields #[vl,vu,.none] } }
 exact tail_any (ops:=[.ref s3.heap.objs.size,v]) ht hT hg (by with_unfolding_all rfl)
end
def rP(n:Nat)(i:Int):Option Nat:=if 0<=i then(if i<n then some i.toNat else none) else if -(n:Int)<=i then some (i+n).toNat else none
def aV{α:Type}(xs:List α)(i:Int):Option α:=(rP xs.length i).bind λj=>xs[j]?
theorem zQ4(h:rP n i=some j):seqIndex? i n=some j/\j<n /\ -(n:Int)<=i/\i<n:=by
 unfold rP at h
 by_cases h0:0<=i
 ·rw[if_pos h0] at h
  by_cases h1:i<n
  ·rw[if_pos h1] at h
   have e:i.toNat=j:=aay h
   exact⟨by rw[ae3 h0 h1,e],by omega,by omega,h1⟩
  ·rw[if_neg h1] at h;cases h
 ·rw[if_neg h0] at h
  by_cases h1:-(n:Int)<=i
  ·rw[if_pos h1] at h
   have e:(i+n).toNat=j:=aay h
   exact⟨by rw[afk (by omega) h1,e],by omega,h1,by omega⟩
  ·rw[if_neg h1] at h;cases h
theorem Xa{α:Type}{xs:List α}{v:α}(h:aV xs i=some v):∃j,seqIndex? i xs.length=some j/\xs[j]?=some v/\j<xs.length /\ -(xs.length:Int)<=i/\i<xs.length:=by
 unfold aV at h
 cases e:rP xs.length i with
 |none=>rw[e] at h;cases h
 |some j =>
  rw[e] at h
  obtain⟨h1,h2,h3,h4⟩:=zQ4 e
  exact⟨j,h1,h,h2,h3,h4⟩
theorem Fp{α:Type}{xs:List α}{j:Nat}{v:α}(h:xs[j]?=some v):aV xs (j:Int)=some v:=by
 have hj:j<xs.length:=(aa2.mp h).1
 have e:rP xs.length (j:Int)=some j:=by
  unfold rP
  rw[if_pos (by omega),if_pos (by omega)];simp
 unfold aV;rw[e];exact h
def Fq(b:Expr):Prop:=∀o i,subscripted b false o i=operate [o,i] (getItem o i)
def QM(X:Cx)(r:R2):Prop :=
 ∀(value slice:Expr)(pins:List (Addr×Obj))(s:Shared)(σ:St)(H:Hp)(x y:V)(v u:Value)(Q:VK),Inv X pins σ H s->RelV x v->RelV y u->r x y H Q ->
  subscripted slice false v u=operate [v,u] (getItem v u)->wpAny (model X.prog X.w) X.A (subscriptTail value slice v u) (EP X pins σ Q) X.xe s
def MtR(X:Cx)(id:String)(r:V->List V->Hp->VK->Prop):Prop :=
 ∀(pins:List (Addr×Obj))(s:Shared)(σ:St)(H:Hp)(x:V)(xs:List V)(v:Value)(us:List Value)(Q:VK),Inv X pins σ H s->RelV x v->Vals xs us->r x xs H Q ->
  wpAny (model X.prog X.w) X.A (call (.builtin id) (v::us)) (EP X pins σ Q) X.xe s
section
variable{X:Cx}{a b:Expr}{ta tb:TE}{pos:Pos}
theorem yV(hr:QM X r)(ha:PE X a ta)(hb:PE X b tb)(hs:Fq b):PE X (.Subscript a b pos) (gP r ta tb):=by
 intro pins s σ H Q I h
 exact Subscript_ (Ek ha hb I h λv u s2 x y H2 I2 rx ry q=>hr a b pins s2 σ H2 x y v u Q I2 rx ry q (hs _ _))
def wk(K:PySem.W.Frag):R2:=λx y H Q=>∃p xs i v,x=.ref p/\y=.int i/\bw K H p xs/\aV xs i=some v/\Q v H
def Az(K:PySem.W.Frag):R2:=λx y H Q=>∃p xs i v,x=.ref p/\y=.int i/\kj K H p xs/\aV xs i=some v/\Q v H
theorem zQ3:QM X (wk X.K):=by
 intro value slice pins s σ H x y v u Q I rx ry h hs
 obtain⟨p,xs,i,z,rfl,rfl,hq,he,q⟩:=h
 cases rx
 obtain⟨t,rfl⟩:=ry
 obtain⟨its,r,pl,hz⟩:=I.list hq
 obtain⟨j,h1,h2,h3,h4,h5⟩:=Xa he
 obtain⟨w,ew,QS⟩:=r.get h2
 have hl:=r.length
 have hn:=Ky
 have fin:EP X pins σ Q w s:=⟨z,H,I,QS,q⟩
 by_cases h0:0<=i
 ·have hj:i.toNat=j:=by
   rw[ae3 h0 h5] at h1
   exact aay h1
  exact item_listR pl.isList h0 (by omega) (by rw[hj];simpa using ew) fin hs
 ·have hj:(i+(its.toArray.size:Int)).toNat=j:=by
   rw[afk (by omega) h4] at h1
   rw[size_toArray,<-hl]
   exact aay h1
  exact subscriptTail_builtinR (x:=w) pl.isList.typeIs slot_list_getitem.lookup
   (wpAny_getItem_list_neg (Q:=λr s'=>r=w/\EP X pins σ Q r s') pl.isList (by omega) (by rw[size_toArray]<;>omega) (by omega) (by rw[hj];simpa using ew) ⟨rfl,fin⟩) hs
theorem KQ:QM X (Az X.K):=by
 intro value slice pins s σ H x y v u Q I rx ry h hs
 obtain⟨p,xs,i,z,rfl,rfl,hq,he,q⟩:=h
 cases rx
 obtain⟨t,rfl⟩:=ry
 obtain⟨its,r,pl,hz⟩:=I.tuple hq
 obtain⟨j,h1,h2,h3,h4,h5⟩:=Xa he
 obtain⟨w,ew,QS⟩:=r.get h2
 have hl:=r.length
 have hn:=Ky
 have fin:EP X pins σ Q w s:=⟨z,H,I,QS,q⟩
 exact subscriptTail_builtinR (x:=w) pl.typeIs slot_tuple_getitem.lookup
  (getItem_tuple (j:=j) (Q:=λr s'=>r=w/\EP X pins σ Q r s') pl (by omega) (by omega) (by rw[size_toArray,<-hl];exact h1) (by simpa using ew) ⟨rfl,fin⟩) hs
theorem zOc(its:List Value)(n j:Nat)(u:Value):abw (·.setIfInBounds j u) { cls:=.type "list",data:=.seq its.toArray n }={ cls:=.type "list",data:=.seq (its.set j u).toArray n }:=by
 simp[abw]
theorem Inv.lst(I:Inv X pins σ H s)(h:H p=some (.lst xs)) :
  ∃(its:List Value)(n:Nat),Vals xs its/\s.heap.get? p=some { cls:=.type "list",data:=.seq its.toArray n }/\xs.length<=sizeLine:=by
 obtain⟨z,its,n,r,e⟩:=I.hok p _ h
 exact⟨its,n,r,e,z⟩
theorem Inv.KR{its its':List Value}(I:Inv X pins σ H s)(h:H p=some (.lst xs))(ho:s.heap.get? p=some { cls:=.type "list",data:=.seq its.toArray n })(hf:f { cls:=.type "list",data:=.seq its.toArray n }={ cls:=.type "list",data:=.seq its'.toArray n' })(r:Vals ys its')(hz:ys.length<=sizeLine)(t:Nat) :
  Inv X pins σ (upd H p (.lst ys)) { s with heap:=s.heap.update p f,toks:=t }:=by
 have e:(s.heap.update p f).get? p=some { cls:=.type "list",data:=.seq its'.toArray n' }:=by
  rw[get?_update_self f ho (by rw[hf]<;>rfl),hf]
 refine I.write (x:=p) (e:=p) (by rw[h];trivial) (.inl rfl) (λb u hb q=>(get?_update_other _ _ (abt hb)).trans q) ⟨_,e⟩ ?_
 exact⟨hz,its',n',r,e⟩
def A_:V->V->V->Hp->(Hp->Prop)->Prop:=λo i v H Q=>∃p xs k j,o=.ref p/\i=.int k/\H p=some (.lst xs)/\rP xs.length k=some j/\Q (upd H p (.lst (xs.set j v)))
theorem QT:Ke X A_:=by
 intro pins s σ H o i v ov iv u Q I ro ri rv h
 obtain⟨p,xs,k,j,rfl,rfl,hp,hj,q⟩:=h
 cases ro
 obtain⟨t,rfl⟩:=ri
 obtain⟨its,n,r,ho,hz⟩:=I.lst hp
 obtain⟨h1,h2,h3,h4⟩:=zQ4 hj
 have hl:=r.length
 have hn:=Ky
 have I':Inv X pins σ (upd H p (.lst (xs.set j v))) { s with heap:=s.heap.update p (abw (·.setIfInBounds j u)) } :=
  I.KR hp ho (zOc its n j u) (r.set rv j) (by rw[length_set];exact hz) s.toks
 by_cases h0:0<=k
 ·have hk:k.toNat=j:=by
   rw[ae3 h0 h4] at h1
   exact aay h1
  exact PySem.W.ki_setAt ho h0 (by omega) (by rw[size_toArray,<-hl];exact h4) (by rw[hk];exact⟨_,I',q⟩)
 ·have hk:(k+(its.toArray.size:Int)).toNat=j:=by
   rw[afk (by omega) h3] at h1
   rw[size_toArray,<-hl]
   exact aay h1
  exact PySem.W.ki_setBack ho (by omega) (by rw[size_toArray,<-hl];exact h3) (by omega) (by rw[hk];exact⟨_,I',q⟩)
def Dq:V->Bool
 |.non=>true
 |.bl _=>true
 |.int _=>true
 |.str _=>true
 |_=>false
def Ft:V->V->Bool
 |.non,.non=>true
 |.bl a,.bl b=>a==b
 |.bl a,.int b=>(if a then 1 else 0)==b
 |.int a,.bl b=>a==(if b then 1 else 0)
 |.int a,.int b=>a==b
 |.str a,.str b=>a==b
 |_,_=>false
theorem KY(ry:RelV y u)(rx:RelV x v)(fy:Dq y=true)(fx:Dq x=true):SeqAt.EqAt A s u v (Ft y x):=by
 cases y with
 |non =>
  cases ry
  cases x with
  |non=>cases rx;exact SeqAt.EqAt.same _
  |bl b=>cases rx;exact SeqAt.EqAt.none_bool b
  |int b=>obtain⟨t,rfl⟩:=rx;exact SeqAt.EqAt.none_int b t
  |str b=>obtain⟨t,rfl⟩:=rx;exact SeqAt.EqAt.none_str b t
  |_=>exact absurd (show false=true from fx) aa0
 |bl a =>
  cases ry
  cases x with
  |non=>cases rx;exact SeqAt.EqAt.bool_none a
  |bl b=>cases rx;exact SeqAt.EqAt.bool_bool a b
  |int b=>obtain⟨t,rfl⟩:=rx;exact SeqAt.EqAt.bool_int a b t
  |str b=>obtain⟨t,rfl⟩:=rx;exact SeqAt.EqAt.bool_str a b t
  |_=>exact absurd (show false=true from fx) aa0
 |int a =>
  obtain⟨t',rfl⟩:=ry
  cases x with
  |non=>cases rx;exact SeqAt.EqAt.int_none a t'
  |bl b=>cases rx;exact SeqAt.EqAt.int_bool a t' b
  |int b=>obtain⟨t,rfl⟩:=rx;exact SeqAt.EqAt.int_int a t' b t
  |str b=>obtain⟨t,rfl⟩:=rx;exact SeqAt.EqAt.int_str a t' b t
  |_=>exact absurd (show false=true from fx) aa0
 |str a =>
  obtain⟨t',rfl⟩:=ry
  cases x with
  |non=>cases rx;exact SeqAt.EqAt.str_none a t'
  |bl b=>cases rx;exact SeqAt.EqAt.str_bool a t' b
  |int b=>obtain⟨t,rfl⟩:=rx;exact SeqAt.EqAt.str_int a t' b t
  |str b=>obtain⟨t,rfl⟩:=rx;exact SeqAt.EqAt.str_str a t' b t
  |_=>exact absurd (show false=true from fx) aa0
 |_=>exact absurd (show false=true from fy) aa0
def rZ(x:V)(u:Value):Bool:=match u with
 |.none=>Ft .non x
 |.bool b=>Ft (.bl b) x
 |.int i _=>Ft (.int i) x
 |.str z _=>Ft (.str z) x
 |_=>false
theorem zVr(r:RelV y u)(f:Dq y=true):rZ x u=Ft y x:=by
 cases y with
 |non=>cases r;rfl
 |bl b=>cases r;rfl
 |int i=>obtain⟨t,rfl⟩:=r;rfl
 |str z=>obtain⟨t,rfl⟩:=r;rfl
 |_=>exact absurd (show false=true from f) aa0
theorem QV:∀{xs:List V}{us:List Value},Vals xs us->xs.all Dq=true->us.any (rZ x)=xs.any λy=>Ft y x
 |_,_,.nil,_=>rfl
 |y::xs,u::us,.cons r t,f=>by
  rw[all_cons,aas] at f
  rw[any_cons,any_cons,zVr r f.1,QV t f.2]
theorem QW(rx:RelV x v)(fx:Dq x=true):∀{xs:List V}{us:List Value},Vals xs us->xs.all Dq=true->∀u∈us,SeqAt.EqAt A s u v (rZ x u)
 |_,_,.nil,_=>λu hu=>by cases hu
 |y::xs,u::us,.cons r t,f=>λu' hu=>by
  rw[all_cons,aas] at f
  rcases mem_cons.mp hu with rfl|hu
  ·rw[zVr r f.1];exact KY r rx f.1 fx
  ·exact QW rx fx t f.2 u' hu
def inV(x:V)(xs:List V):Bool:=xs.any λy=>Ft y x
def Jb(K:PySem.W.Frag)(neg:Bool):R2:=λx y H Q=>∃p xs,y=.ref p/\(bw K H p xs\/kj K H p xs)/\Dq x=true/\xs.all Dq=true/\Q (.bl (if neg then !inV x xs else inV x xs)) H
theorem zQb:jO X (compareOp .In) (Jb X.K false):=by
 intro pins s σ H x y v u Q I rx ry h
 obtain⟨p,xs,rfl,hq,fx,fs,q⟩:=h
 cases ry
 rcases hq with hq|hq
 ·obtain⟨its,r,pl,hz⟩:=I.list hq
  refine SeqAt.in_listAt (rZ x) pl.isList (λw hw=>QW rx fx r fs w (by simpa using hw)) ⟨.bl _,H,I,rfl,?_⟩
  rw[show its.toArray.any (rZ x)=its.any (rZ x) by simp,QV r fs]
  exact q
 ·obtain⟨its,r,pl,hz⟩:=I.tuple hq
  refine SeqAt.in_tupleAt (rZ x) pl (λw hw=>QW rx fx r fs w (by simpa using hw)) ⟨.bl _,H,I,rfl,?_⟩
  rw[show its.toArray.any (rZ x)=its.any (rZ x) by simp,QV r fs]
  exact q
theorem zI9:jO X (compareOp .NotIn) (Jb X.K true):=by
 intro pins s σ H x y v u Q I rx ry h
 obtain⟨p,xs,rfl,hq,fx,fs,q⟩:=h
 cases ry
 rcases hq with hq|hq
 ·obtain⟨its,r,pl,hz⟩:=I.list hq
  refine SeqAt.notIn_listAt (rZ x) pl.isList (λw hw=>QW rx fx r fs w (by simpa using hw)) ⟨.bl _,H,I,rfl,?_⟩
  rw[show its.toArray.any (rZ x)=its.any (rZ x) by simp,QV r fs]
  exact q
 ·obtain⟨its,r,pl,hz⟩:=I.tuple hq
  refine SeqAt.notIn_tupleAt (rZ x) pl (λw hw=>QW rx fx r fs w (by simpa using hw)) ⟨.bl _,H,I,rfl,?_⟩
  rw[show its.toArray.any (rZ x)=its.any (rZ x) by simp,QV r fs]
  exact q
theorem zJ5:rT X (.builtin "len") (λxs H Q=>∃p ys,xs=[.ref p]/\(bw X.K H p ys\/kj X.K H p ys)/\Q (.int ys.length) H):=by
 intro pins s σ H xs us Q I r h
 obtain⟨p,ys,rfl,hq,q⟩:=h
 obtain⟨u,rfl,rx⟩:=IW r
 cases rx
 have hn:=Ky
 rcases hq with hq|hq
 ·obtain⟨its,r',pl,hz⟩:=I.list hq
  have hlen:=r'.length
  exact Calls.call_len_list pl.isList (by simp only[size_toArray]<;>omega) ⟨.int ys.length,H,I.tok _,⟨s.toks+1,by rw[size_toArray,hlen]⟩,q⟩
 ·obtain⟨its,r',pl,hz⟩:=I.tuple hq
  have hlen:=r'.length
  exact len_tuple pl (by simp only[size_toArray]<;>omega) ⟨.int ys.length,H,I.tok _,⟨s.toks+1,by rw[size_toArray,hlen]⟩,q⟩
theorem zJ4:rT X (.type "list") (λxs H Q=>∃p ys,xs=[.ref p]/\(bw X.K H p ys\/kj X.K H p ys)/\∀l,H l=none->Q (.ref l) (upd H l (.lst ys))):=by
 intro pins s σ H xs us Q I r h
 obtain⟨p,ys,rfl,hq,q⟩:=h
 obtain⟨u,rfl,rx⟩:=IW r
 cases rx
 have fin:∀(its:List Value),Vals ys its->ys.length<=sizeLine->∀(h':Heap)(c':Nat),(∀b o',s.heap.get? b=some o'->h'.get? b=some o') ->
   h'.get? s.heap.objs.size=some { cls:=.type "list",dict:=none,data:=.seq its.toArray c',slots:=#[] }->EP X pins σ Q (.ref s.heap.objs.size) { s with heap:=h' }:=λits r' hz h' c' kp e =>
  ⟨.ref s.heap.objs.size,_,I.laid (t':=s.toks) kp (aaq _) (show aZ X.prog X.w _ h' _ (.lst ys) from⟨hz,its,c',r',e⟩),rfl,q _ (I.hok.fresh (aaq _))⟩
 rcases hq with hq|hq
 ·obtain⟨its,r',pl,hz⟩:=I.list hq
  have hlen:=r'.length
  obtain⟨o,ho,hc,n,hd⟩:=pl.isList
  exact call_list_seq p (.inl rfl) ho hc hd (λh' c' kp e=>fin its r' hz h' c' kp e) (by simp only[size_toArray]<;>omega)
 ·obtain⟨its,r',pl,hz⟩:=I.tuple hq
  have hlen:=r'.length
  obtain⟨o,ho,hc,n,hd⟩:=pl
  exact call_list_seq p (.inr rfl) ho hc hd (λh' c' kp e=>fin its r' hz h' c' kp e) (by simp only[size_toArray]<;>omega)
def Xb(K:PySem.W.Frag)(T:String)(x:V)(H:Hp):Prop:=match x with
 |.str _=>T = "str"
 |.int _=>T = "int"
 |.ref p=>(T = "list" /\ ∃xs,bw K H p xs)\/(T = "tuple" /\ ∃o,K.lookup p=some o/\o.cls=.type "tuple" /\ o.dict=none) \/
   (T = "dict" /\ ((∃kvs,H p=some (.dK kvs))\/∃kvs,H p=some (.dT kvs)))\/(T = "set" /\ ∃S n,H p=some (.set S n))
 |_=>False
theorem zU3(I:Inv X pins σ H s)(r:RelV x v)(ty:Xb X.K T x H) :
  s.TypeIs v T/\∀a,v=.ref a->∃ob,s.heap.get? a=some ob/\ob.dict=none:=by
 cases x with
 |str z =>
  obtain⟨t,rfl⟩:=r
  cases(show T = "str" from ty)
  exact⟨typeIs_str s z t,λ_ e=>nomatch e⟩
 |int i =>
  obtain⟨t,rfl⟩:=r
  cases(show T = "int" from ty)
  exact⟨typeIs_int s i t,λ_ e=>nomatch e⟩
 |ref p =>
  cases r
  rcases ty with⟨rfl,xs,hq⟩|⟨rfl,o,hk,hc,hd⟩|⟨rfl,hk⟩|⟨rfl,S,n,hk⟩
  ·obtain⟨its,_,pl,_⟩:=I.list hq
   refine⟨pl.isList.typeIs,λa e=>?_⟩
   cases e
   obtain⟨o,n,e,c,hd,_⟩:=pl
   exact⟨o,e,hd⟩
  ·refine⟨⟨o,I.jP p o hk,hc⟩,λa e=>?_⟩
   cases e
   exact⟨o,I.jP _ o hk,hd⟩
  ·have z:∃o,s.heap.get? p=some o/\o.ExactDict:=by
    rcases hk with⟨kvs,hk⟩|⟨kvs,hk⟩
    ·obtain⟨_,_,_,_,o,_,_,e,ex,_⟩:=I.hok p _ hk
     exact⟨o,e,ex⟩
    ·obtain⟨_,_,_,_,o,_,_,e,ex,_⟩:=I.hok p _ hk
     exact⟨o,e,ex⟩
   obtain⟨o,e,ex⟩:=z
   refine⟨⟨o,e,ex.1⟩,λa e2=>?_⟩
   cases e2
   exact⟨o,e,ex.2.1⟩
  ·obtain⟨o,_,_,_,e,ex,_⟩:=I.hok p _ hk
   refine⟨⟨o,e,ex.1⟩,λa e2=>?_⟩
   cases e2
   exact⟨o,e,ex.2.1⟩
 |_=>exact abo ty
def Fv(K:PySem.W.Frag)(T:String)(r:V->List V->Hp->VK->Prop)(to:TE):TE:=λσ H Q=>to σ H λx H1=>Xb K T x H1/\r x [] H1 Q
def QX(K:PySem.W.Frag)(T:String)(r:V->List V->Hp->VK->Prop)(to:TE)(t:TA):TE:=λσ H Q=>to σ H λx H1=>Xb K T x H1/\t σ H1 λxs H2=>r x xs H2 Q
variable{o e:Expr}{es:List Expr}{to:TE}{t:TA}{name:Str}{apos cpos:Pos}{T id:String}{r:V->List V->Hp->VK->Prop}
theorem KZ(pa:PlainAttrs T)(slot:Slot T name id)(hty:typeOf (.builtin id)=pure (.type "method_descriptor"))(hm:MtR X id r)(ho:PE X o to)(hbase:attributeBase o name X.env (eval o X.env)=eval o X.env:=by rfl)(hline:(apos.endLine==cpos.line)=true:=by rfl):PE X (.Call (.Attribute o name apos) [] [] cpos) (Fv X.K T r to):=by
 intro pins s σ H Q I h
 refine wpAny_Call_method0_late hbase hline (aP (ho pins s σ H _ I h) λv s1 ⟨x,H1,I1,r1,ty,q1⟩=>?_)
 obtain⟨h1,h2⟩:=zU3 I1 r1 ty
 exact⟨T,id,pa,slot,hty,h1,h2,Calls.callWith_builtin rfl (PySem.evalArgs_none (hm pins s1 σ H1 x [] v [] Q I1 r1 .nil q1))⟩
theorem Jc(pa:PlainAttrs T)(slot:Slot T name id)(hty:typeOf (.builtin id)=pure (.type "method_descriptor"))(hm:MtR X id r)(ho:PE X o to)(ha:PA X (e::es) t)(hbase:attributeBase o name X.env (eval o X.env)=eval o X.env:=by rfl)(hfew:((backTo cpos (starEach (e::es) X.env)).all (λx=>!x.1)&&(backToKw cpos (keywordEach [] X.env)).all (λx=>x.1.isSome)
   && decide ((e::es).length+([]:List Keyword).length+(if([]:List Keyword).isEmpty then 0 else 1)<30))=true:=by rfl)(hline:(apos.endLine==cpos.line)=true:=by rfl)(hs:starEach (e::es) X.env=(false,eval e X.env)::starEach es X.env:=by rfl)(hplain:(backTo cpos (starEach es X.env)).any (·.1)=false:=by rfl) :
  PE X (.Call (.Attribute o name apos) (e::es) [] cpos) (QX X.K T r to t):=by
 intro pins s σ H Q I h
 refine wpAny_Call_method_late hbase hfew hline rfl (aP (ho pins s σ H _ I h) λv s1 ⟨x,H1,I1,r1,ty,q1⟩=>?_)
 obtain⟨h1,h2⟩:=zU3 I1 r1 ty
 refine⟨T,id,pa,slot,hty,h1,h2,?_⟩
 have hA:=ha cpos pins s1 σ H1 _ I1 q1
 rw[hs] at hA ⊢
 refine Calls.callWith_builtin (by show(false||(backTo cpos (starEach es X.env)).any (·.1))=false;rw[hplain]<;>rfl) (Calls.evalArgs_plain ?_)
 exact aP hA λus s2 ⟨vs,H2,I2,r2,q2⟩=>hm pins s2 σ H2 x vs v us Q I2 r1 r2 q2
end
def O6(X:Cx)(id:String)(r:V->List V->Hp->VK->Prop):Prop :=
 ∀(pins:List (Addr×Obj))(s:Shared)(σ:St)(H:Hp)(x:V)(xs:List V)(v:Value)(us:List Value)(Q:VK),Inv X pins σ H s->RelV x v->Vals xs us->r x xs H Q ->
  wpAny (model X.prog X.w) X.A (call (.builtin id) (v::us)) (EP X pins σ Q) X.xe s
theorem Vals.one:∀{x:V}{us:List Value},Vals [x] us->∃u,us=[u]/\RelV x u
 |_,_,.cons r .nil=>⟨_,rfl,r⟩
theorem Vals.two:∀{x y:V}{us:List Value},Vals [x,y] us->∃u v,us=[u,v]/\RelV x u/\RelV y v
 |_,_,_,.cons r (.cons q .nil)=>⟨_,_,rfl,r,q⟩
theorem Vals.zero:∀{us:List Value},Vals [] us->us=[]
 |_,.nil=>rfl
theorem Vals.dropLast(h:Vals xs us):Vals xs.dropLast us.dropLast:=by
 induction h with
 |nil=>exact .nil
 |cons r t ih =>
  cases t with
  |nil=>exact .nil
  |cons q t'=>exact .cons r ih
theorem Vals.eraseIdx:∀{xs:List V}{us:List Value}(i:Nat),Vals xs us->Vals (xs.eraseIdx i) (us.eraseIdx i)
 |_,_,_,.nil=>.nil
 |_,_,0,.cons _ t=>t
 |_,_,i+1,.cons r t=>.cons r (Vals.eraseIdx i t)
theorem Vals.reverse(h:Vals xs us):Vals xs.reverse us.reverse:=by
 induction h with
 |nil=>exact .nil
 |cons r t ih=>rw[List.reverse_cons,List.reverse_cons];exact Vals.append ih (.cons r .nil)
theorem zOr{α:Type}(l:List α):l.eraseIdx (l.length-1)=l.dropLast:=by
 induction l with
 |nil=>rfl
 |cons a r ih =>
  cases r with
  |nil=>rfl
  |cons b r =>
   have e:(a::b::r).length-1=((b::r).length-1)+1:=by
    have h1:(a::b::r).length=r.length+2:=rfl
    have h2:(b::r).length=r.length+1:=rfl
    omega
   rw[e,List.eraseIdx_cons_succ,ih]
   all_goals rfl
section
variable{X:Cx}{pins:List (Addr×Obj)}{σ:St}{H:Hp}{s:Shared}{l b:Addr}{xs ys zs:List V}
theorem Inv.Fw{its its':List Value}{f:Array Value->Array Value}(I:Inv X pins σ H s)(hH:H l=some (.lst xs))(e:s.heap.get? l=some { cls:=.type "list",data:=.seq its.toArray n })(hf:f its.toArray=its'.toArray)(hv:Vals ys its')(hz:ys.length<=sizeLine) :
  Inv X pins σ (upd H l (.lst ys)) { s with heap:=s.heap.update l (abw f),toks:=t' }:=by
 have q:=PySem.IsL.update e f
 rw[hf] at q
 refine I.write (x:=l) (e:=l) (by rw[hH];exact trivial) (.inl rfl) (λb' u hb hu=>(get?_update_other s.heap (abw f) (abt hb)).trans hu) ⟨_,q⟩ ?_
 exact⟨hz,its',_,hv,q⟩
theorem Inv.Ba(I:Inv X pins σ H s)(hH:H l=some (.lst xs)):xs.length<=sizeLine/\∃(its:List Value)(n:Nat),Vals xs its/\xs.length=its.length/\s.heap.get? l=some { cls:=.type "list",data:=.seq its.toArray n }:=by
 obtain⟨z,its,n,r,e⟩:=I.hok l _ hH
 exact⟨z,its,n,r,r.length,e⟩
theorem zTw(h:n<=sizeLine):adx n=false:=by
 unfold adx
 exact decide_eq_false (by omega)
end
section
variable{X:Cx}
def zP3:V->List V->Hp->VK->Prop:=λx vs H Q=>∃l xs y,x=.ref l/\vs=[y]/\H l=some (.lst xs)/\xs.length<sizeLine/\Q .non (upd H l (.lst (xs++[y])))
theorem wH:O6 X "list.append" zP3:=by
 intro pins s σ H x vs v us Q I rx rv h
 obtain⟨l,xs,y,rfl,rfl,hH,hz,q⟩:=h
 cases rx
 obtain⟨u,rfl,ru⟩:=rv.one
 obtain⟨z,its,n,r,hl,e⟩:=I.Ba hH
 refine aew F.slot_list_append ⟨_,e,rfl⟩ F.entry_list_append (F.args_list_append_2 _ _) (PySem.list_append l its.toArray n u (by rw[size_toArray];omega)) ⟨e,?_⟩
 refine⟨.non,_,I.Fw (its':=its++[u]) hH e (by simp) (r.append (.cons ru .nil)) ?_,rfl,q⟩
 rw[length_append,length_singleton]
 omega
def Xc:V->List V->Hp->VK->Prop:=λx vs H Q=>∃l b xs zs,x=.ref l/\vs=[.ref b]/\H l=some (.lst xs)/\H b=some (.lst zs)/\xs.length+zs.length<=sizeLine/\Q .non (upd H l (.lst (xs++zs)))
theorem zJk:O6 X "list.extend" Xc:=by
 intro pins s σ H x vs v us Q I rx rv h
 obtain⟨l,b,xs,zs,rfl,rfl,hH,hB,hz,q⟩:=h
 cases rx
 obtain⟨u,rfl,ru⟩:=rv.one
 cases ru
 obtain⟨z,its,n,r,hl,e⟩:=I.Ba hH
 obtain⟨z2,its2,n2,r2,hl2,e2⟩:=I.Ba hB
 have hsz:its.toArray.size+its2.toArray.size<=sizeLine:=by rw[size_toArray,size_toArray];omega
 have QZ:¬(!its.toArray.isEmpty&&adx (its.toArray.size+its2.toArray.size))=true:=by
  rw[zTw hsz,ae0]
  exact aa0
 refine aew F.slot_list_extend ⟨_,e,rfl⟩ F.entry_list_extend (F.args_list_extend_2 _ _)
  (AutoSeq1.list_extend_list_list_0 l its.toArray n b its2.toArray n2 QZ (by rw[size_toArray];omega) (by omega)) ⟨e,e2,?_⟩
 refine⟨.non,_,I.Fw (its':=its++its2) hH e (by simp) (r.append r2) ?_,rfl,q⟩
 rw[length_append]
 omega
def Q_:V->List V->Hp->VK->Prop:=λx vs H Q=>∃l xs y,x=.ref l/\vs=[]/\H l=some (.lst xs)/\xs[xs.length-1]?=some y/\Q y (upd H l (.lst xs.dropLast))
theorem K1:O6 X "list.pop" Q_:=by
 intro pins s σ H x vs v us Q I rx rv h
 obtain⟨l,xs,y,rfl,rfl,hH,hy,q⟩:=h
 cases rx
 have hus:=rv.zero
 subst hus
 obtain⟨z,its,n,r,hl,e⟩:=I.Ba hH
 obtain⟨u,hu,ru⟩:=r.get hy
 have hy':its.toArray[its.toArray.size-1]?=some u:=by
  show its.toArray[its.length-1]?=some u
  rw[<-getElem?_toList,<-hl]
  exact hu
 refine aew F.slot_list_pop ⟨_,e,rfl⟩ F.entry_list_pop (F.args_list_pop_1 _) (MeetsSeq.list_pop_last l its.toArray n u hy' (by rw[size_toArray];omega)) ⟨e,?_⟩
 refine⟨y,_,I.Fw (its':=its.dropLast) hH e ?_ r.dropLast ?_,ru,q⟩
 ·show its.toArray.eraseIdxIfInBounds (its.toArray.size-1)=its.dropLast.toArray
  rw[size_toArray,List.eraseIdxIfInBounds_toArray,zOr]
 ·rw[List.length_dropLast]
  omega
def zVb:V->List V->Hp->VK->Prop:=λx vs H Q=>∃l xs,x=.ref l/\vs=[]/\H l=some (.lst xs)/\Q .non (upd H l (.lst []))
theorem zT0:O6 X "list.clear" zVb:=by
 intro pins s σ H x vs v us Q I rx rv h
 obtain⟨l,xs,rfl,rfl,hH,q⟩:=h
 cases rx
 have hus:=rv.zero
 subst hus
 obtain⟨z,its,n,r,hl,e⟩:=I.Ba hH
 refine aew F.slot_list_clear ⟨_,e,rfl⟩ F.entry_list_clear (F.args_list_clear_1 _) (AutoSeq1.list_clear_list_0 l its.toArray n (by rw[size_toArray];omega)) ⟨e,?_⟩
 exact⟨.non,_,I.Fw (its':=[]) (ys:=[]) hH e rfl .nil (abf _),rfl,q⟩
end
section
variable{prog:Program}{w:World}{A:Around}{E:Value->Shared->Prop}{s:Shared}
end
section
variable{X:Cx}
end
end L2
namespace Att
open PySem PySem.W PySem.Calls PyProof.Rows
theorem zE7:∀(ns:LI)(vs:List Value),WellAll P h vs (ns.map WData.int)->IntsAre vs ns:=by
 intro ns
 induction ns with
 |nil =>
  intro vs w
  rw[map_nil] at w
  cases w
  exact .nil
 |cons n ns ih =>
  intro vs w
  rw[map_cons] at w
  cases w with
  |cons a b =>
   cases a
   exact .cons _ _ (ih _ b)
theorem zPt{l:OpenLaw}(hn:l.most=some n)(hpre:l.row.toRowW.claim.pre args=true)(hwl:WellAll P h vals args) :
  ∃a vs ns,vals=[abe a]/\args=[WData.list (ns.map WData.int)]/\h.get? a=some { cls:=.type "list",data:=.seq vs.toArray }/\IntsAre vs ns/\ns.length<=n:=by
 have hsh:WShape.hasAll [] args [.list .int]=true:=(pre_splitW hpre).1
 have hc:l.pre.holds [] { args:=args }=true:=(pre_splitW hpre).2
 obtain⟨d,r,rfl,h1,h2⟩:=hasAllW_cons hsh
 obtain rfl:=hasAllW_nil h2
 obtain⟨xs,rfl,h3⟩:=hasW_list h1
 obtain⟨ns,rfl⟩:=items_int h3
 have hlen:ns.length<=n:=by
  unfold OpenLaw.pre at hc
  have h4:(WTm.not (.lt (.lit (.int (n:Int))) (.len (.arg 0)))).holds [] { args:=[.list (ns.map .int)] }=true:=by
   have h4:=(holds_andW hc).1
   rw[hn] at h4
   exact h4
  have h5:=condW_of h4 (w_not (w_lt w_lit (w_len_list (w_arg rfl))))
  rw[length_map] at h5
  refine Nat.le_of_not_lt λq=>?_
  have q':(n:Int)<((ns.length:Nat):Int):=by omega
  first
   | (rw[decide_eq_true q'] at h5;exact absurd h5 (by decide))
   | (simp at h5;omega)
 cases hwl with
 |cons w1 w2 =>
  cases w2
  cases w1 with
  |list ho hall=>exact⟨_,_,ns,rfl,rfl,ho,zE7 ns _ hall,hlen⟩
theorem zP5(l:OpenLaw)(args:List WData):l.row.toRowW.claim.post args (.bool true) args=true :=
 postW_of (r:=l.row.toRowW) (X:=(true==true))
  (show WShape.has [] (.bool true) .bool=true by first|rfl|decide|simp[WShape.has,WShape.arms,WShape.armsAll])
  (show(WTm.eq .res (.lit (.bool true))).value [] { args:=args,res:=some (.bool true),after:=args }=some (.bool (true==true)) from w_eq_bool (w_res rfl) w_lit) rfl
theorem qQ{l:OpenLaw}{YP:World->Heap->Prop}{d:DefRec}(hn:l.most=some n)(hdf:d.params.defaults=[])(call:∀(w:World) (s₀ s₁:Shared) (mg mb:Str->Option Value) (fa:Addr) (o:Obj) (pm cd doc:Value) (a:Addr) (vs:List Value) (ns:LI),
   Ground q loose [] XP w s₀ mg mb s₁.heap->YP w s₁.heap ->
   s₁.heap.get? fa=some o->o.data=.func (docDef d.name d.params d.body d.scope pm cd doc)->s₁.heap.CodeRec cd d.name->mg d.name=some (.ref fa) ->
   s₁.heap.get? a=some { cls:=.type "list",data:=.seq vs.toArray }->IntsAre vs ns->ns.length<=n->s₁.gens=#[] ->
   codeAny (model l.prog w) callerA (.call (.ref fa) ⟨[.ref a],[]⟩) (λr s'=>r=.ok (.ret (.bool true))/\OldK s₁.heap s'.heap/\s'.os=s₁.os/\AllBare s'.gens) s₁) :
  WalkO q loose XP YP l.row.toRowW d [] (λf vs=>PySem.call f vs):=by
 intro w s₀ s₁ mg mb G Y fa o pm cd doc dV kV ho hd hcd hD hmg hg args vals as hpre hlay hrd hwl hlo
 obtain rfl:dV=.none:=Dflts.none hD hdf
 obtain rfl:kV=.none:=Dflts.noKw hD
 obtain⟨a,vs,ns,rfl,rfl,hobj,hints,hlen⟩:=zPt hn hpre hwl
 refine enter_call (adn (call w s₀ s₁ mg mb fa o pm cd doc a vs ns G Y ho (fd_plain hd) hcd hmg hobj hints hlen hg) λr s' hq=>?_)
 obtain⟨rfl,h2,h3,h4⟩:=hq
 exact⟨.inl ⟨.bool true,.bool true,[],rfl,λ_=>rfl,.bool true,zP5 l _,λ_=>⟨Pairwise.nil,λ_ hm=>(nomatch hm)⟩⟩,h2,h3,h4⟩
section
variable{prog:Program}{w:World}{A:Around}{E:Value->Shared->Prop}{s:Shared}{K:Frag}
end
end Att
namespace L2
open PySem PySem.Spec PyProof.Rows
theorem zIq:∀{vs:List Value}{ns:LI},IntsAre vs ns->Vals (ns.map V.int) vs
 |_,_,.nil=>.nil
 |_,_,.cons n t h=>.cons ⟨t,rfl⟩ (zIq h)
def Only(H:Hp):Prop:=∀b,H b=none\/∃o xs,H b=some (.uc o (.lst xs))
theorem zT5{K:PySem.W.Frag}{s₁:Shared}{vs:List Value}(KX:K.In s₁.heap)(hns:s₁.heap.Ns abb mg)(hb:s₁.heap.Ns builtinsNs mb)(hbb:∀x:Str,x ≠ "__name__"->mb x=bootBuiltins x)(hlim:s₁.heap.NoLimit)(hg:s₁.gens=#[])(ha:s₁.heap.get? a=some { cls:=.type "list",data:=.seq vs.toArray })(hi:IntsAre vs ns)(hl:ns.length<=sizeLine)(hr:bT k callerA)(F:∀base:Heap,K.In base->base.Ns abb mg->aq P w K mg base CX k fa fd [x] sp)(hbind:∀(s:Shared) (u:Value),BindsTo s fd ⟨[u],[]⟩ [(x,u)])(hsp:∀H:Hp,Only H->bw K H a (ns.map V.int)->sp [.ref a] H (λv _=>v=.bl true) λ_ _ _=>False)(Xd:∀H e s',CX [] H s₁ (λ_ _ _=>False) e s'->False) :
  codeAny (model P w) callerA (.call (.ref fa) ⟨[.ref a],[]⟩) (λr s'=>r=.ok (.ret (.bool true))/\OldK s₁.heap s'.heap/\s'.os=s₁.os/\AllBare s'.gens) s₁:=by
 have rv:=zIq hi
 have lenV:=hi.length
 have core:∀H:Hp,Only H->bw K H a (ns.map V.int)->gQ P w H s₁.heap->(∀b,H b≠none->b=a)->(H a≠none->K.lookup a=none) ->
   codeAny (model P w) callerA (.call (.ref fa) ⟨[.ref a],[]⟩) (λr s'=>r=.ok (.ret (.bool true))/\OldK s₁.heap s'.heap/\s'.os=s₁.os/\AllBare s'.gens) s₁:=by
  intro H hO hS hok hA hK
  have uq:∀{b:Addr}{o:Obj},s₁.heap.get? b=some o->H b=none->(pH s₁.heap H).get? b=some o:=λe n=>zUd e n
  have QJ:∀{b:Addr}{o:Obj}{es:Array DictEntry}{ep:Nat},s₁.heap.get? b=some o->o.data=.dict es ep->H b=none:=λ{b o es ep} e d=>by
   cases q:H b with
   |none=>rfl
   |some u =>
    have e':b=a:=hA b (by rw[q];simp)
    subst e'
    rw[ha] at e;cases e
    have d':Data.seq vs.toArray _=Data.dict es ep:=d
    cases d'
  have U_:∀{b:Addr}{m:Str->Option Value},s₁.heap.Ns b m->(pH s₁.heap H).Ns b m:=λ{b m} ⟨o,es,ep,e,d,r⟩=>⟨o,es,ep,uq e (QJ e d),d,r⟩
  have hKb:K.In (pH s₁.heap H):=λb o e=>uq (KX b o e) (by
   cases q:H b with
   |none=>rfl
   |some u =>
    have e':b=a:=hA b (by rw[q];simp)
    subst e'
    rw[hK (by rw[q];simp)] at e;cases e)
  have hM:Mod K mg (pH s₁.heap H):=⟨hKb,U_ hns,⟨mb,U_ hb,hbb⟩,let⟨mc,h1,h2⟩:=hlim;⟨mc,U_ h1,h2⟩⟩
  have e0:rY P w K mg (pH s₁.heap H) callerA [] s₁ H:=⟨rfl,hM,λb o e=>DX e,Nat.le_of_eq (zQ9 _ _),trivial,λb hb=>absurd (show b∈([]:List Addr) from hb) (by simp),hok,.of_eq hg⟩
  refine adn ((F _ hKb (U_ hns)).run callerA [] s₁ H ⟨[.ref a],[]⟩ [.ref a] [.ref a] _ _ hr e0 (hbind s₁ (.ref a)) (.cons rfl .nil) (hsp H hO hS)) λr s' h=>?_
  cases r with
  |error e=>exact(Xd H e s' h).elim
  |ok fl =>
   cases fl with
   |next=>exact abo h
   |brk=>exact abo h
   |cont=>exact abo h
   |ret u =>
    obtain⟨v,H',os,bare,un,hok',r',q⟩:=h
    have q':v=.bl true:=q
    subst q'
    obtain rfl:u=afd true:=r'
    refine⟨rfl,OldK.of_keep λb o e=>?_,os,bare⟩
    cases q:H b with
    |none=>exact un.keep b o e q (by intro z;exact absurd (show b∈([]:List Addr) from z) (by simp)) (by simp)
    |some u =>
     rcases hO b with z|⟨ob,xs,z⟩
     ·rw[q] at z;cases z
     ·have z2:=un.mG b ob _ z
      obtain⟨e1,_⟩:=hok b _ z
      obtain⟨e2,_⟩:=hok' b _ z2
      rw[e] at e1;cases e1
      exact e2
 cases hk:K.lookup a with
 |some o =>
  have e:=KX a o hk
  rw[ha] at e
  cases e
  refine core (λ_=>none) (λ_=>.inl rfl) (.inr ⟨_,vs.toArray,_,hk,rfl,rfl,rfl,by rw[size_toArray,lenV];exact hl,by simpa using rv⟩) (λb u z=>by have z':(none:Option HO)=some u:=z;cases z') (λb z=>absurd rfl z) λz=>absurd rfl z
 |none =>
  refine core (λb=>if b=a then some (.uc { cls:=.type "list",data:=.seq vs.toArray } (.lst (ns.map V.int))) else none) (λb=>?_) (.inl (.inr ⟨{ cls:=.type "list",data:=.seq vs.toArray },if_pos rfl⟩)) (λb u z=>?_) (λb z=>?_) λ_=>hk
  ·by_cases hb:b=a
   ·exact .inr ⟨_,_,if_pos hb⟩
   ·exact .inl (if_neg hb)
  ·by_cases hb:b=a
   ·have z':=(if_pos hb).symm.trans z
    cases z'
    subst hb
    exact⟨ha,by rw[length_map];exact hl,vs,_,rv,ha⟩
   ·have z':=(if_neg hb).symm.trans z
    cases z'
  ·by_cases hb:b=a
   ·exact hb
   ·exact absurd (if_neg hb) z
theorem Fx{l:PySem.W.OpenLaw}{YP:World->Heap->Prop}{d:DefRec}{K:Params->PySem.W.Frag}{CX:World->wg}{sp:World->Sp}(hn:l.most=some n)(hn2:n<=sizeLine)(hdf:d.params.defaults=[])(hr:bT k callerA)(hY:∀(w:World) (h:Heap),YP w h->(K w.params).In h)(F:∀(w:World) (mg:Str->Option Value) (fa:Addr) (h:Heap),(K w.params).In h->h.Ns abb mg->mg d.name=some (.ref fa) ->
   ∃fd:FuncData,(∀(s:Shared) (u:Value),BindsTo s fd ⟨[u],[]⟩ [(x,u)]) /\
    ∀base:Heap,(K w.params).In base->base.Ns abb mg->aq l.prog w (K w.params) mg base (CX w) k fa fd [x] (sp w))(hsp:∀(w:World) (H:Hp) (a:Addr) (ns:LI),ns.length<=n->Only H->bw (K w.params) H a (ns.map V.int)->sp w [.ref a] H (λv _=>v=.bl true) λ_ _ _=>False)(Xd:∀(w:World) (H:Hp) (s:Shared) (e:Value) (s':Shared),CX w [] H s (λ_ _ _=>False) e s'->False) :
  PySem.W.WalkO q loose XP YP l.row.toRowW d [] (λf vs=>PySem.call f vs):=by
 refine Att.qQ hn hdf λw s₀ s₁ mg mb fa o pm cd doc a vs ns G Y ho hd hcd hmg hobj hints hlen hg=>?_
 have KX:=hY w _ Y
 obtain⟨fd,hb,hF⟩:=F w mg fa _ KX G.T.g hmg
 exact zT5 KX G.T.g G.T.b G.T.builtins G.T.nolimit hg hobj hints (aaz hlen hn2) hr hF hb (λH hO hS=>hsp w H a ns hlen hO hS) λH e s'=>Xd w H s₁ e s'
def xN(s:Stmt)(j:Nat):Stmt:=match s with
 |.ClassDef _ _ _ body _ _ _ _ _ _ _=>body.getD j (.Pass ⟨0,0,0,0⟩)
 |_=>.Pass ⟨0,0,0,0⟩
def uG(s:Stmt):Arguments:=match s with
 |.FunctionDef _ a _ _ _ _ _ _ _ _=>a
 |_=>{ posonlyargs:=[],args:=[],vararg:=none,kwonlyargs:=[],kw_defaults:=[],kwarg:=none,defaults:=[] }
def wR(s:Stmt):List Stmt:=match s with
 |.FunctionDef _ _ b _ _ _ _ _ _ _=>b
 |_=>[]
def zI(s:Stmt):Scope:=match s with
 |.FunctionDef _ _ _ _ _ _ sc _ _ _=>sc
 |_=>{ kind:=.function,names:=[],isGenerator:=false,isCoroutine:=false }
abbrev aO:wg:=λ_ _ _ _ _ _=>False
abbrev E0:XK:=λ_ _ _=>False
theorem vV:Ez aO X E0:=λ_ _ _ _ _ _ _ h=>h.elim
structure aU(K:PySem.W.Frag)(x qual:Str)(st:Stmt)(f:Addr)(fd:FuncData):Prop where
 ex:∃(oc:Value)(od:Option Addr)(kV doc pm:Value)(an:Option Addr)(cdv ct:Value)(osl:Array (Option Value)),
  fd=fnOf x qual (uG st) (wR st) (zI st) .none kV doc pm an cdv ct/\K.lookup f=some ⟨oc,od,.func fd,osl⟩/\codeIn K cdv qual=true
 kp:keepIn K (.ref f)=true
section
variable{P:Program}{w:World}{K:PySem.W.Frag}{mg:Str->Option Value}{base:Heap}
theorem aU.ok{x qual:Str}{st:Stmt}{f:Addr}{fd:FuncData}{N ps:List Str}{k:Nat}{sp:Sp}(F:aU K x qual st f fd)(S:ak N ps (zI st))(len:∀vs H Q E,sp vs H Q E->vs.length=ps.length)(hbody:∀(cdv:Value) (A:Around) (outer:List Env) (s:Shared) (H:Hp) (vs:List V) (Q:VK) (E:XK),bT k (A.deeper (envOfC qual (zI st) s.heap.objs.size f cdv))->sp vs H Q E ->
   ∃t,qN (pL aO P w K mg base N qual (zI st) f cdv A outer s H E).Ir (wR st) t/\t { nx:=λ_ H'=>Q .non H',rt:=Q } (start N vs) H):aq P w K mg base aO (k+1) f fd ps sp:=by
 obtain⟨oc,od,kV,doc,pm,an,cdv,ct,osl,rfl,lk,hcd⟩:=F.ex
 refine I8 lk hcd S len λA outer s H vs Q E hr hsp=>?_
 obtain⟨t,h,q⟩:=hbody cdv A outer s H vs Q E hr hsp
 exact⟨t,h.Ir,q⟩
theorem aU.binds{x qual:Str}{st:Stmt}{f:Addr}{fd:FuncData}{ps:List Str}(F:aU K x qual st f fd)(h:∀(kV doc pm:Value) (an:Option Addr) (cdv ct:Value) (us:List Value),us.length=ps.length->bindArgs (fnOf x qual (uG st) (wR st) (zI st) .none kV doc pm an cdv ct) ⟨us,[]⟩=pure (ps.zip us)):Binds K fd ps []:=by
 obtain⟨oc,od,kV,doc,pm,an,cdv,ct,osl,rfl,lk,hcd⟩:=F.ex
 exact .all (h kV doc pm an cdv ct)
theorem mJ{x qual:Str}{st:Stmt}{f:Addr}{oc:Value}{od an:Option Addr}{osl:Array (Option Value)}{kV doc pm cdv ct:Value}(l:K.lookup f=some ⟨oc,od,.func (fnOf x qual (uG st) (wR st) (zI st) .none kV doc pm an cdv ct),osl⟩)(c:codeIn K cdv qual=true)(k:keepIn K (.ref f)=true):aU K x qual st f (fnOf x qual (uG st) (wR st) (zI st) .none kV doc pm an cdv ct):=⟨⟨oc,od,kV,doc,pm,an,cdv,ct,osl,rfl,l,c⟩,k⟩
end
theorem Ra(hr:bT k A):A.units+1<cLine:=aa1 (Nat.add_le_add_left (by decide:1<=64) _) hr.units
theorem zIx(h:n<=1000):n<sizeLine:=aa1 h (by decide)
section
variable{X:Cx}
theorem pv(i:Nat)(hN:X.N[i]?=some x:=by rfl)(hv:Qm X.env.scope x:=by first|exact Or.inl rfl|exact Or.inr (Or.inl rfl)|exact Or.inr (Or.inr rfl))(hd:(x==("__debug__":Str))=false:=by decide)(hcd:(x==("__classdict__":Str))=false:=by decide):PE X (.Name x pos) (eO i):=Ka hN hv hd hcd
end
theorem pO{A B:Prop}(h:B):if false=true then A else B:=by
 rw[if_neg aa0]
 exact h
theorem pP{A B:Prop}(h:A):if true=true then A else B:=by
 rw[if_pos rfl]
 exact h
def Same(H H':Hp):Prop:=∀b o,H b=some o->H' b=some o
theorem Same.refl(H:Hp):Same H H:=λ_ _ h=>h
theorem Same.trans(a:Same H H1)(b:Same H1 H2):Same H H2:=λc o h=>b c o (a c o h)
theorem Same.free(e:Same H H')(h:H' l=afm):H l=afm:=by
 cases q:H l with
 |none=>rfl
 |some o =>
  rw[e l o q] at h
  cases h
theorem Same.seq{K:PySem.W.Frag}{H H':Hp}{a:Addr}{xs:List V}(e:Same H H')(h:bw K H a xs):bw K H' a xs:=by
 rcases h with(h|⟨o,h⟩)|h
 ·exact .inl (.inl (e _ _ h))
 ·exact .inl (.inr ⟨o,e _ _ h⟩)
 ·exact .inr h
section
variable{κ:Type}[DecidableEq κ]
end
open PySem
section
variable{prog:Program}{w:World}{A:Around}{R:Result->Shared->Prop}{s:Shared}
theorem uD{α:Type}{t:Sem α}{Q Q':α->Shared->Prop}(h:wpAny M A t Q (λ_ _=>False) s)(hQ:∀a s,Q a s->Q' a s):wpAny M A t Q' (notedBy M A env E) s :=
 acg h hQ λ_ _ z=>z.elim
theorem zJ3(I:Nat->Shared->Prop)(turn:∀n s,I n s->wpAny (model prog w) A (pyNext it) (λr s₁=>match r with
   |none=>R (.ok .next) s₁
   |some v=>wpAny (model prog w) A (letOwnedTupleGo target it v) (λ_ s₂=>wpAny (model prog w) A (assign target env v) (λ_ s₃ =>
     wpAny (model prog w) A (forIn ifs true λc r=>if r=true then do let ok <-isTrue c env (eval c env);pure (aco ok) else pure (aco r)) (λok s₄ =>
      if ok=true then wpAny (model prog w) A (eval elt env) (λx s₅ =>
       wpAny (model prog w) A (call (.builtin "list.append") [acc,x]) (λ_ s₆=>∃m,m<n/\I m s₆) (λ_ _=>False) s₅) (λ_ _=>False) s₄
      else∃m,m<n/\I m s₄) (λ_ _=>False) s₃) (λ_ _=>False) s₂) (λ_ _=>False) s₁) (λ_ _=>False) s)(n:Nat)(h:I n s):codeAny (model prog w) A (.compLoop (.ListComp elt [⟨target,iter,ifs,0⟩] scope pos) 0 it acc env) R s:=by
 refine codeAny_loop rfl I (λn s hI=>?_) n h
 show wpAny _ A ((compTurn (.ListComp elt [⟨target,iter,ifs,0⟩] scope pos) 0 it acc env).onRaise (λx=>do noteFrame x env;theTreesLotGoes x)) _ _ s
 refine wpAny_noted ?_
 rw[compTurn_list]
 refine aan (ae9 (aan (uD (turn n s hI) λr s₁ h₁=>?_)))
 cases r with
 |none=>exact aap h₁
 |some v =>
  refine aan (uD h₁ λ_ s₂ h₂=>?_)
  refine aan (uD h₂ λ_ s₃ h₃=>aan (uD h₃ λok s₄ h₄=>?_))
  cases ok with
  |false=>exact aap ⟨rfl,h₄⟩
  |true =>
   exact aan (aan (uD h₄ λx s₅ h₅=>aan (uD h₅ λ_ s₆ h₆=>aap (aap ⟨rfl,h₆⟩))))
end
def o_(env:Env):List (Str×NameKind)->List (Str×Addr)->List (Str×Addr)
 |[],acc=>acc
 | (n,k)::r,acc=>if k==.free then o_ env r ((n,(env.cells.lookup n).getD 0)::acc) else o_ env r acc
theorem zC3{scope:Scope}{env:Env}(h:∀y∈scope.names,y.2=.free->∃c,env.cells.lookup y.1=some c):closureFor scope env=pure (o_ env scope.names []):=by
 unfold closureFor
 generalize scope.names=l at h
 have go:∀(l:List (Str×NameKind))(acc:List (Str×Addr)),(∀y∈l,y.2=.free->∃c,env.cells.lookup y.1=some c) ->
    (forIn l acc (λ(x:Str×NameKind) (r:List (Str×Addr))=>match x with
    | (name,kind)=>if(kind==aa6)=true then(do let __do_lift <-cellOf env name;pure (aco ((name,__do_lift)::r))) else pure (aco r)):Sem (List (Str×Addr)))=pure (o_ env l acc):=by
  intro l
  induction l with
  |nil=>intro acc _;rfl
  |cons x r ih =>
   intro acc hl
   obtain⟨n,k⟩:=x
   rw[forIn_cons]
   unfold o_
   by_cases hk:(k==aa6)=true
   ·obtain⟨c,hc⟩:=hl (n,k) mem_cons_self (ab8 hk)
    simp only[hk,if_true]
    have hc':env.cells.lookup n=some c:=hc
    unfold cellOf
    rw[hc']
    exact ih _ λy hy=>hl y (mem_cons_of_mem _ hy)
   ·simp only[hk,if_false]
    exact ih _ λy hy=>hl y (mem_cons_of_mem _ hy)
 have e:=go l [] h
 simp only[bind_pure]
 exact e
theorem Xe{env:Env}:∀(l:List (Str×NameKind))(acc:List (Str×Addr)),(∀x c,acc.lookup x=some c->(env.cells.lookup x).getD 0=c)->∀x c,(o_ env l acc).lookup x=some c->(env.cells.lookup x).getD 0=c
 |[],_,h,x,c,e=>h x c e
 | (n,k)::r,acc,h,x,c,e=>by
  unfold o_ at e
  by_cases hk:(k==aa6)=true
  ·rw[if_pos hk] at e
   refine Xe r _ (λy d q=>?_) x c e
   cases hy:y==n with
   |true =>
    rw[lookup_cons,hy] at q
    cases q
    rw[ab8 hy]
   |false =>
    rw[lookup_cons,hy] at q
    exact h y d q
  ·rw[if_neg hk] at e
   exact Xe r acc h x c e
theorem Xf:∀(l:List (Str×NameKind))(acc:List (Str×Addr))(x:Str)(c:Addr),(o_ env l acc).lookup x=some c->(acc.lookup x).isSome=true\/(x,aa6)∈l
 |[],_,x,c,e=>.inl (by unfold o_ at e;rw[e];rfl)
 | (n,k)::r,acc,x,c,e=>by
  unfold o_ at e
  by_cases hk:(k==aa6)=true
  ·rw[if_pos hk] at e
   rcases Xf r _ x c e with h|h
   ·cases hy:x==n with
    |true =>
     have e1:=ab8 hy
     have e2:=ab8 hk
     subst e1;subst e2
     exact .inr mem_cons_self
    |false =>
     rw[lookup_cons,hy] at h
     exact .inl h
   ·exact .inr (mem_cons_of_mem _ h)
  ·rw[if_neg hk] at e
   rcases Xf r _ x c e with h|h
   ·exact .inl h
   ·exact .inr (mem_cons_of_mem _ h)
theorem Va:∀(l:List (Str×NameKind))(acc:List (Str×Addr))(x:Str),((acc.lookup x).isSome=true\/(x,aa6)∈l)->((o_ env l acc).lookup x).isSome=true
 |[],_,x,h=>by
  rcases h with h|h
  ·exact h
  ·cases h
 | (n,k)::r,acc,x,h=>by
  unfold o_
  by_cases hk:(k==aa6)=true
  ·rw[if_pos hk]
   refine Va r _ x ?_
   rcases h with h|h
   ·refine .inl ?_
    rw[lookup_cons]
    cases hy:x==n with
    |true=>rfl
    |false=>exact h
   ·rcases mem_cons.mp h with h|h
    ·cases h
     refine .inl ?_
     rw[lookup_cons,beq_self_eq_true]
     rfl
    ·exact .inr h
  ·rw[if_neg hk]
   refine Va r _ x ?_
   rcases h with h|h
   ·exact .inl h
   ·rcases mem_cons.mp h with h|h
    ·cases h
     exact absurd rfl hk
    ·exact .inr h
theorem zDv{env:Env}:∀{names:List (Str×NameKind)}{x:Str},names.lookup x=some .free ->
  (names.map λ(n,k)=>if(k==aa6&&env.scope.kind==.function&&env.kindOf n==some .cell) then(n,ab1) else(n,k)).lookup x=some .cell \/
  (names.map λ(n,k)=>if(k==aa6&&env.scope.kind==.function&&env.kindOf n==some .cell) then(n,ab1) else(n,k)).lookup x=some .free
 |[],_,h=>by simp at h
 | (n,k)::r,x,h=>by
  have ih:=@zDv env r x
  show ac0 x ((if(k==aa6&&env.scope.kind==.function&&env.kindOf n==some .cell)=true then(n,ab1) else(n,k))::_)=_\/ac0 x ((if(k==aa6&&env.scope.kind==.function&&env.kindOf n==some .cell)=true then(n,ab1) else(n,k))::_)=_
  cases hx:x==n with
  |true =>
   simp only[lookup_cons,hx] at h
   cases h
   by_cases hc:(aa6==aa6&&env.scope.kind==.function&&env.kindOf n==some .cell)=true
   ·rw[if_pos hc];left;simp only[lookup_cons,hx]
   ·rw[if_neg hc];right;simp only[lookup_cons,hx]
  |false =>
   simp only[lookup_cons,hx] at h
   by_cases hc:(k==aa6&&env.scope.kind==.function&&env.kindOf n==some .cell)=true
   ·rw[if_pos hc];simp only[lookup_cons,hx];exact ih h
   ·rw[if_neg hc];simp only[lookup_cons,hx];exact ih h
theorem Xg{env:Env}:∀{names:List (Str×NameKind)}{x:Str}{k:NameKind},(k=.cell\/k=.free) ->
  (names.map λ(n,k)=>if(k==aa6&&env.scope.kind==.function&&env.kindOf n==some .cell) then(n,ab1) else(n,k)).lookup x=some k->(x,aa6)∈names\/(x,ab1)∈names
 |[],_,_,_,h=>by simp at h
 | (n,k')::r,x,k,hk,h=>by
  have ih:=@Xg env r x k hk
  have h':ac0 x ((if(k'==aa6&&env.scope.kind==.function&&env.kindOf n==some .cell)=true then(n,ab1) else(n,k'))::(r.map λ(n,k)=>if(k==aa6&&env.scope.kind==.function&&env.kindOf n==some .cell) then(n,ab1) else(n,k)))=some k:=h
  cases hx:x==n with
  |true =>
   have e:=ab8 hx
   subst e
   by_cases hd:(k'==aa6&&env.scope.kind==.function&&env.kindOf x==some .cell)=true
   ·have e2:k'=.free:=by
     rw[aas,aas] at hd
     exact ab8 hd.1.1
    subst e2
    exact .inl mem_cons_self
   ·rw[if_neg hd] at h'
    simp only[lookup_cons,hx] at h'
    cases h'
    rcases hk with e|e
    ·subst e;exact .inr mem_cons_self
    ·subst e;exact .inl mem_cons_self
  |false =>
   have g:(x,aa6)∈r\/(x,ab1)∈r:=by
    refine ih ?_
    by_cases hd:(k'==aa6&&env.scope.kind==.function&&env.kindOf n==some .cell)=true
    ·rw[if_pos hd] at h';simp only[lookup_cons,hx] at h';exact h'
    ·rw[if_neg hd] at h';simp only[lookup_cons,hx] at h';exact h'
   rcases g with g|g
   ·exact .inl (mem_cons_of_mem _ g)
   ·exact .inr (mem_cons_of_mem _ g)
theorem wF:∀(l:List (Str×NameKind))(n:Nat)(acc:List (Str×Addr)),cellsFrom n l acc=cellsFrom n l []++acc
 |[],_,_=>rfl
 | (x,k)::r,n,acc=>by
  unfold cellsFrom
  split
  ·rw[wF r (n+1) ((x,n)::acc),wF r (n+1) [(x,n)]];simp
  ·exact wF r n acc
theorem Xh:∀(l:List (Str×NameKind))(n:Nat)(x:Str)(c:Addr),(x,c)∈cellsFrom n l []->(x,ab1)∈l
 |[],_,_,_,h=>by cases h
 | (y,k)::r,n,x,c,h=>by
  unfold cellsFrom at h
  split at h
  ·rename_i hk
   rw[wF] at h
   rcases mem_append.mp h with h|h
   ·exact mem_cons_of_mem _ (Xh r _ x c h)
   ·have e:(x,c)=(y,n):=by simpa using h
    cases e
    rw[ab8 hk]
    exact mem_cons_self
  ·exact mem_cons_of_mem _ (Xh r _ x c h)
theorem zD4{s:Shared}{scope:Scope}{Q:Env->Shared->Prop}(hQ:∀h',h'.Ns s.heap.objs.size (λ_=>none)->(∀b o,s.heap.get? b=some o->h'.get? b=some o)->CellsOk h' (s.heap.objs.size+1) (cellsFrom (s.heap.objs.size+1) scope.names []) ->
   Q (newEnv scope s.heap.objs.size globals (cellsFrom (s.heap.objs.size+1) scope.names closure) qual none .none (some outer) builtinsNs) { s with heap:=h' }) :
  wpAny M A (newFunctionEnv scope globals closure [] qual none .none (some outer)) Q E s:=by
 simp only[newFunctionEnv,ad0,if_true]
 refine aan (wpAny_alloc ?_)
 refine aan (wpAny_layCells _ (λname kind cells=>by cases hkc:kind==ab1<;>simp[hkc]) _ _ _ _ ?_)
 have ok:=cellsFrom_ok scope.names (s.heap.push { cls:=.type "dict",data:=.dict #[] }) (s.heap.objs.size+1) [] ⟨λ_ _ hm=>(nomatch hm),Pairwise.nil⟩ (by rw[size_push];exact aaq _)
 rw[size_push] at ok
 rw[show({ s with heap:=s.heap.push { cls:=.type "dict",data:=.dict #[] } }:Shared).heap.objs.size=s.heap.objs.size+1 from size_push ..]
 refine aan ?_
 rw[forIn_nil]
 exact aap (aap (hQ _ ((Heap.Ns.new s.heap (.type "dict")).keeps (pushCells_keeps _ _)) (λb o e=>pushCells_keeps _ _ b o (get?_push_of_some _ e)) ok))
theorem gQ.track(x:gQ P w H h)(hn:H a=none)(new:aZ P w (upd H a o) h a o):gQ P w (upd H a o) h:=λb u e=>by
 by_cases hb:b=a
 ·subst hb;rw[zR] at e;cases e;exact new
 ·rw[zV hb] at e
  exact(x b u e).stay (λc v _ q=>q) (λc q=>by rw[zV (zS q hn)];exact q) λc xs q=>by rw[zV (zS q hn)];exact q
theorem Un.track(u:Un fs ex H H' h h')(h0:h.get? a=none)(hn:H a=none):Un fs ex H (upd H' a o) h h' where
 keep:=u.keep
 slot:=u.slot
 free:=λb ob q n hx=>by
  rw[zV (λz=>by rw[z,h0] at q;cases q)];exact u.free b ob q n hx
 there:=u.there
 tups:=λb xs q=>by rw[zV (zS q hn)];exact u.tups b xs q
 mG:=λb ob xs q=>by rw[zV (zS q hn)];exact u.mG b ob xs q
 oG:=λb ps q=>by rw[zV (zS q hn)];exact u.oG b ps q
def nIn(N:List Str)(own:List Str)(ix:List Nat):List Str:=own++ix.map λj=>N.getD j ad4
def oK(σ:St)(n:Nat)(ix:List Nat):St:=replicate n none++ix.map λj=>(σ[j]?).getD none
def dj(X:Cx)(scope:Scope)(own:List Str)(ix:List Nat)(C:Addr)(s:Shared)(H:Hp)(fp:List Addr):Cx :=
 { X with N:=nIn X.N own ix,s₀:=s,H₀:=H,env:=compEnvC scope (cellsFrom (C+1) scope.names (o_ X.env scope.names [])) C X.env,outer:=X.stack,stack:=X.stack,ex:=fp,fn:=λx=>scope.names.lookup x==some .cell,pn:=[] }
def Vb(K3:Scope)(oN:List Str)(scope:Scope)(ix:List Nat):Bool :=
 scope.kind==.function &&
 (scope.names.all λy=>(y.2 != .cell||scope.names.lookup y.1==some .cell)&&(y.2 != .local||scope.names.lookup y.1==some .local)&&(y.2 != .free||(K3.names.lookup y.1==some .cell||K3.names.lookup y.1==some .free))) &&
 ix.all λj=>match oN[j]? with
  |some x=>scope.names.lookup x==some .free
  |none=>false
structure jE(K3:Scope)(oN:List Str)(scope:Scope)(ix:List Nat):Prop where
 kind:scope.kind=.function
 clk:∀y∈scope.names,y.2=.cell->scope.names.lookup y.1=some .cell
 nm:∀y∈scope.names,y.2=.local->scope.names.lookup y.1=some .local
 fr:∀y∈scope.names,y.2=.free->K3.names.lookup y.1=some .cell\/K3.names.lookup y.1=some .free
 ix:∀j∈ix,∃x,oN[j]?=some x/\scope.names.lookup x=some .free
theorem zJ1(h:Vb K3 oN scope ix=true):jE K3 oN scope ix:=by
 unfold Vb at h
 rw[aas,aas,all_eq_true,all_eq_true] at h
 obtain⟨⟨h1,h2⟩,h3⟩:=h
 refine⟨ab8 h1,λy hy e=>?_,λy hy e=>?_,λy hy e=>?_,λj hj=>?_⟩
 ·have q:=h2 y hy
  rw[aas,aas] at q
  rcases acn _ _▸q.1.1 with z|z
  ·exact absurd e (bne_iff_ne.mp z)
  ·exact ab8 z
 ·have q:=h2 y hy
  rw[aas,aas] at q
  rcases acn _ _▸q.1.2 with z|z
  ·exact absurd e (bne_iff_ne.mp z)
  ·exact ab8 z
 ·have q:=h2 y hy
  rw[aas,aas] at q
  rcases acn _ _▸q.2 with z|z
  ·exact absurd e (bne_iff_ne.mp z)
  ·rcases acn _ _▸z with z|z
   ·exact .inl (ab8 z)
   ·exact .inr (ab8 z)
 ·have q:=h3 j hj
  cases e:oN[j]? with
  |none=>rw[e] at q;cases q
  |some x=>rw[e] at q;exact⟨x,rfl,ab8 q⟩
section
variable{X:Cx}{pins:List (Addr×Obj)}{σ:St}{H:Hp}{s:Shared}{scope:Scope}{own:List Str}{ix:List Nat}
theorem Xi(I:Inv X pins σ H s)(sc:jE X.env.scope X.N scope ix):∀y∈scope.names,y.2=.free->∃c,X.env.cells.lookup y.1=some c:=λy hy e=>by
 rcases sc.fr y hy e with q|q
 ·exact I.ok.has y.1 (.inl q)
 ·exact I.ok.has y.1 (.inr q)
theorem zMw(I:Inv X pins σ H s)(sc:jE X.env.scope X.N scope ix)(e:(o_ X.env scope.names []).lookup x=some c):X.env.cells.lookup x=some c:=by
 have h1:=Xe (env:=X.env) scope.names [] (λx c q=>by simp at q) x c e
 rcases Xf (env:=X.env) scope.names [] x c e with q|q
 ·simp at q
 ·obtain⟨c',hc⟩:=Xi I sc (x,.free) q rfl
  have hc':X.env.cells.lookup x=some c':=hc
  rw[hc'] at h1
  rw[hc']
  exact congrArg some h1
theorem zUm(I:Inv X pins σ H s)(sc:jE X.env.scope X.N scope ix)(hx:(x,aa6)∈scope.names)(e:X.env.cells.lookup x=some c):(o_ X.env scope.names []).lookup x=some c:=by
 have h1:=Va (env:=X.env) scope.names [] x (.inr hx)
 obtain⟨c',hc⟩:=ab2.mp h1
 rw[hc]
 have:=zMw I sc hc
 rw[e] at this
 exact this.symm
theorem K4(I:Inv X pins σ H s)(sc:jE X.env.scope X.N scope ix)(e:(cellsFrom (C+1) scope.names (o_ X.env scope.names [])).lookup x=some c):(x,c)∈cellsFrom (C+1) scope.names []\/X.env.cells.lookup x=some c:=by
 rw[wF,lookup_append] at e
 cases h:(cellsFrom (C+1) scope.names []).lookup x with
 |some d=>rw[h] at e;cases e;exact .inl (abv h)
 |none=>rw[h] at e;exact .inr (zMw I sc e)
theorem Bb(h:(oK σ n ix)[i]?=some (some v)):∃j,ix[i-n]?=some j/\σ[j]?=some (some v)/\n<=i:=by
 unfold oK at h
 by_cases hi:i<n
 ·rw[getElem?_append_left (by simpa using hi),getElem?_replicate] at h
  rw[if_pos hi] at h
  cases h
 ·rw[getElem?_append_right (by simpa using hi),List.length_replicate,getElem?_map] at h
  cases e:ix[i-n]? with
  |none=>rw[e] at h;cases h
  |some j =>
   rw[e] at h
   have h':(σ[j]?).getD none=some v:=aay h
   refine⟨j,rfl,?_,by omega⟩
   cases e2:σ[j]? with
   |none=>rw[e2] at h';cases h'
   |some o=>rw[e2] at h';exact congrArg some h'
theorem Inv.comp{h₁:Heap}(I:Inv X pins σ H s)(sc:jE X.env.scope X.N scope ix)(fo:∀b∈fp,lW X pins H b)(Rb:∀b∈fp,b<s.heap.objs.size)(hC:s.heap.objs.size<=C)(hns:h₁.Ns C m₀)(hk:∀b o,s.heap.get? b=some o->h₁.get? b=some o)(co:CellsOk h₁ (C+1) (cellsFrom (C+1) scope.names [])):Inv (dj X scope own ix C s H fp) [] (oK σ own.length ix) H { s with heap:=h₁,toks:=t' }:=by
 have lt:∀{b:Addr},b<s.heap.objs.size->b≠C:=λ{b} hb=>aav (aax hb hC)
 have Rf:∀{x:Str}{c:Addr},X.env.cells.lookup x=some c->c<C+1:=λ{x c} e=>by
  obtain⟨v,q⟩:=I.cell x c e
  exact ade (aax q.lt hC)
 have cellK:∀{x:Str}{c:Addr},X.env.cells.lookup x=some c->∀v,s.heap.IsCell c v->h₁.IsCell c v:=λ{x c} _ v ⟨o,ho,hd⟩=>⟨o,hk _ _ ho,hd⟩
 refine⟨⟨I.ok.mod,sc.kind,I.ok.glob,I.ok.blt,hC,λx y c h1 h2=>?_,λx hx=>?_,λx c h e=>by
  have h':scope.names.lookup x=some .cell:=ab8 h
  have e':(cellsFrom (C+1) scope.names (o_ X.env scope.names [])).lookup x=some c:=e
  rw[wF,lookup_append] at e'
  obtain⟨d,hd⟩:=ab2.mp (adg scope.names (C+1) [] (.inl h'))
  rw[hd] at e'
  cases e'
  exact aaz hC (ael (co.empty _ _ (abv hd)).2),I.ok.hd,I.ok.frames,.inl rfl,λb hb=>?_,I.bs,aaz I.ok.D_ I.sz,λb o e hb=>?_,λb hb z=>?_,I.stack,I.ud⟩,
  rfl,I.bare,Un.kept hk,⟨m₀,hns,λi x v h1 h2 h3=>?_⟩,λx c h=>?_,I.hok.fresh hC,λx c h=>?_,λp hp=>?_,I.hok.kept hk,?_⟩
 ·rcases K4 I sc h1 with q1|q1
  ·rcases K4 I sc h2 with q2|q2
   ·exact name_of_addr co.apart q1 q2
   ·exact absurd (aax (Rf q2) (co.empty _ _ q1).2) (abu _)
  ·rcases K4 I sc h2 with q2|q2
   ·exact absurd (aax (Rf q1) (co.empty _ _ q2).2) (abu _)
   ·exact I.ok.inj x y c q1 q2
 ·have hm:(x,aa6)∈scope.names\/(x,ab1)∈scope.names:=by
   rcases hx with hx|hx
   ·exact Xg (env:=X.env) (.inl rfl) hx
   ·exact Xg (env:=X.env) (.inr rfl) hx
  refine ab2.mp ?_
  show((cellsFrom (C+1) scope.names (o_ X.env scope.names [])).lookup x).isSome=true
  rcases hm with hm|hm
  ·exact adg _ _ _ (.inr (Va (env:=X.env) scope.names [] x (.inr hm)))
  ·exact adg _ _ _ (.inl (sc.clk _ hm rfl))
 ·obtain⟨f0,f1,f2,f3,f4,f5⟩:=fo b hb
  refine⟨lt (Rb b hb),λx c h=>?_⟩
  rcases K4 I sc h with q|q
  ·exactλz=>absurd (aax (Rb b hb) (aaz hC (ael (z▸(co.empty _ _ q).2)))) (abu _)
  ·exact f4 x c q
 ·obtain⟨f0,f1,f2,f3,f4,f5⟩:=fo b hb
  rcases f3 with z|z
  ·exact I.ok.Ai b o e z
  ·exact absurd (aax (lt_size e) (aaz I.ok.D_ z)) (abu _)
 ·obtain⟨f0,f1,f2,f3,f4,f5⟩:=fo b hb
  rcases mem_cons.mp (I.pI b z) with z|z
  ·exact f1 z
  ·exact f2 z
 ·obtain⟨j,hj,hv,hn⟩:=Bb h2
  obtain⟨y,hy,hf⟩:=sc.ix j (mem_of_getElem? hj)
  have e:y=x:=by
   have h1':(nIn X.N own ix)[i]?=some x:=h1
   unfold nIn at h1'
   rw[getElem?_append_right hn,getElem?_map,hj] at h1'
   have Rg:X.N.getD j ad4=x:=aay h1'
   rw[getD_eq_getElem?_getD,hy] at Rg
   exact Rg
  subst e
  have hm:(y,aa6)∈scope.names:=abv hf
  have vis:Qm X.env.scope y:=by
   rcases sc.fr _ hm rfl with q|q
   ·exact .inr (.inl q)
   ·exact .inr (.inr q)
  obtain⟨m,_,hl⟩:=I.loc
  obtain⟨u,r,l⟩:=hl j y v hy hv vis
  refine⟨u,r,?_⟩
  rcases l with⟨hk',_⟩|⟨_,c,hc,hcell⟩
  ·have hk'':X.env.scope.names.lookup y=some .local:=hk'
   rcases sc.fr _ hm rfl with q|q
   ·have q':X.env.scope.names.lookup y=some .cell:=q
    rw[hk''] at q';cases q'
   ·have q':X.env.scope.names.lookup y=some .free:=q
    rw[hk''] at q';cases q'
  ·refine .inr ⟨zDv (env:=X.env) hf,c,?_,cellK hc _ hcell⟩
   show(cellsFrom (C+1) scope.names (o_ X.env scope.names [])).lookup y=some c
   rw[wF,lookup_append,zUm I sc hm hc]
   cases e:(cellsFrom (C+1) scope.names []).lookup y with
   |none=>rfl
   |some d =>
    have q:=sc.clk _ (Xh _ _ _ _ (abv e)) rfl
    have q':scope.names.lookup y=some .cell:=q
    rw[hf] at q';cases q'
 ·rcases K4 I sc h with q|q
  ·exact⟨_,(co.empty _ _ q).1⟩
  ·obtain⟨v,z⟩:=I.cell x c q
   exact⟨v,cellK q v z⟩
 ·rcases K4 I sc h with q|q
  ·exact I.hok.fresh (aaz hC (ael (co.empty _ _ q).2))
  ·exact I.gR x c q
 ·exact absurd (show p∈([]:List (Addr×Obj)) from hp) (by simp)
 ·show(oK σ own.length ix).length=(nIn X.N own ix).length
  unfold oK nIn
  simp
end
def Bc(X:Cx)(ifs:List Expr)(t:TT):Prop :=
 ∀(pins:List (Addr×Obj))(s:Shared)(σ:St)(H:Hp)(Q:Bool->Hp->Prop),Inv X pins σ H s->t σ H Q ->
  wpAny (model X.prog X.w) X.A (forIn ifs true λc r=>if r=true then do let ok <-isTrue c X.env (eval c X.env);pure (aco ok) else pure (aco r)) (TP X pins σ Q) X.xe s
def K5:TT:=λ_ H Q=>Q true H
theorem wX:Bc X [] K5:=λ_ _ _ H _ I h=>wpAny_tests_nil ⟨H,I,h⟩
theorem vZ(h:PT X c t):Bc X [c] t:=λpins s σ H Q I q=>wpAny_tests_one (h pins s σ H Q I q)
def Bd(n:Nat)(ix:List Nat)(g:TG)(tc:TT)(te:TE)(σ:St)(Q:VK)(J:It)(H1:Hp):Prop :=
 ∃W:Nat->Nat->List V->St->Hp->Prop,(∃m,W 0 m [] (oK σ n ix) H1)/\∀i m ys σ2 H2,W i m ys σ2 H2 ->
  (J.stop i H2/\ys.length<=sizeLine/\∀p,H2 p=none->Q (.ref p) (upd H2 p (.lst ys))) \/
  (J.go i H2/\ys.length<sizeLine/\∃N:List V->St->Hp->Prop,(∀ys' σ' H',N ys' σ' H'->∃m',m'<m/\W (i+1) m' ys' σ' H') /\
   ∀x H3,J.Ow i H2 x H3->g x σ2 H3 λσ4 H4=>tc σ4 H4 λb H5=>if b=true then te σ4 H5 λy H6=>N (ys++[y]) σ4 H6 else N ys σ4 H5)
def Bg(n:Nat)(ix:List Nat)(wi:TI)(g:TG)(tc:TT)(te:TE):TE:=λσ H Q=>wi σ H (Bd n ix g tc te σ Q)
def Xj(X:Cx)(pins:List (Addr×Obj))(σ:St)(Q:VK)(acc:Value)(C:Addr)(s':Shared):Prop :=
 ∃p H',acc=.ref p/\Inv X pins σ H' s'/\(∃m,s'.heap.Ns C m)/\lW X pins H' C/\Q (.ref p) H'
theorem Xk{X:Cx}{α:Type}{t:Sem α}{Q Q':α->Shared->Prop}(hx:X.xe=λ_ _=>False)(h:wpAny M A t Q X.xe s)(hQ:∀a s,Q a s->Q' a s):wpAny M A t Q' E s :=
 acg h hQ λe s' z=>by rw[hx] at z;exact z.elim
section
variable{X:Cx}{elt tg iter:Expr}{ifs:List Expr}{scope:Scope}{pos:Pos}{own:List Str}{ix:List Nat}{wi:TI}{g:TG}{tc:TT}{te:TE}
theorem zGr{RR:Value->Addr->Result->Shared->Prop}(hx:X.xe=λ_ _=>False)(hc:X.calm=true)(sc:jE X.env.scope X.N scope ix)(I:Inv X pins σ H s)(T:Turn X.prog X.w X.K tg J fp it tn)(st:tn 0 s.heap)(fo:∀b∈fp,lW X pins H b)(hg:∀C s H fp,PG (dj X scope own ix C s H fp) tg g)(hif:∀C s H fp,Bc (dj X scope own ix C s H fp) ifs tc)(he:∀C s H fp,PE (dj X scope own ix C s H fp) elt te)(rd:Bd own.length ix g tc te σ Q J H)(hRR:∀acc C s',Xj X pins σ Q acc C s'->RR acc C (.ok .next) s') :
  wpAny (model X.prog X.w) X.A (newList []) (λacc s₃=>wpAny (model X.prog X.w) X.A (newFunctionEnv scope X.env.globals (o_ X.env scope.names []) [] X.env.qual none .none (some X.env)) (λcenv s₄ =>
   codeAny (model X.prog X.w) X.A (.compStart (.ListComp elt [⟨tg,iter,ifs,0⟩] scope pos) 0 (.ref it) acc { cenv with scope:=relabel scope X.env }) (RR acc cenv.locals) s₄) E s₃) E s:=by
 refine ac3 (zD4 (λh₁ hns₁ hsb₁ co=>?_))
 dsimp only at hns₁ hsb₁ co ⊢
 generalize hD':s.heap.objs.size=D at hns₁ hsb₁ co ⊢
 generalize hH2:s.heap.push { cls:=.type "list",dict:=none,data:=.seq ([]:List Value).toArray }=G at hns₁ hsb₁ co ⊢
 generalize hC':G.objs.size=C at hns₁ hsb₁ co ⊢
 have hC:C=D+1:=by rw[<-hC',<-hH2,size_push,hD']
 have hDC:D≠C:=by rw[hC];exact aav (acv _)
 have hle:s.heap.objs.size<=C:=by rw[hC,hD'];exact ab6 _
 have old:∀b o,s.heap.get? b=some o->h₁.get? b=some o:=λb o e=>by
  exact hsb₁ b o (hH2▸get?_push_of_some _ e)
 have oD:h₁.get? D=some { cls:=.type "list",data:=.seq ([]:List Value).toArray 0 }:=by
  refine hsb₁ D _ ?_
  rw[<-hH2,<-hD']
  exact get?_push_size _ rfl
 have Rb:∀b∈fp,b<s.heap.objs.size:=λb hb=>by
  obtain⟨o,e,_⟩:=T.obj 0 _ st b hb
  exact lt_size e
 have nDf:∀b∈fp,b≠D:=λb hb=>by rw[<-hD'];exact aav (Rb b hb)
 have sD:s.heap.get? D=none:=by
  cases e:s.heap.get? D with
  |none=>rfl
  |some o=>exact absurd (lt_size e) (by rw[hD'];exact abu _)
 have hDn:H D=none:=I.hok.fresh (by rw[hD'];exact aaq _)
 have I0:Inv (dj X scope own ix C s H fp) [] (oK σ own.length ix) H { s with heap:=h₁ }:=I.comp sc fo Rb hle hns₁ old co
 have st0:tn 0 h₁:=T.keep 0 _ _ st λb _ o e=>old b o e
 have hx':(dj X scope own ix C s H fp).xe=λ_ _=>False:=hx
 have Rh:D≠(dj X scope own ix C s H fp).env.locals:=hDC
 have Dex:D∈(dj X scope own ix C s H fp).ex\/(dj X scope own ix C s H fp).s₀.heap.objs.size<=D:=.inr (by show s.heap.objs.size<=D;rw[hD'];exact aaq _)
 have Dfs:D∉(dj X scope own ix C s H fp).fs:=I0.J9 (a:=D) |> λk=>λz=>by
  have z':D∈frs X.stack:=z
  rcases mem_cons.mp (I.pI D z') with q|q
  ·exact absurd (q▸I.lt) (by rw[hD'];exact abu _)
  ·exact I.J9 (by rw[hD'];exact aaq _) q
 have Ri:∀x c,(dj X scope own ix C s H fp).env.cells.lookup x=some c->c≠D:=λx c e z=>by
  rcases K4 I sc e with q|q
  ·have w1:=(co.empty _ _ q).2
   rw[z,hC] at w1
   omega
  ·obtain⟨v,q⟩:=I.cell x c q
   exact absurd (aax q.lt (by rw[z,hD'];exact aaq _)) (abu _)
 have Xl:∀{H':Hp}{pl:List (Addr×Obj)},(∀b∈fp,H' b=none)->(∀p∈pl,p.1=D)->∀b∈fp,lW (dj X scope own ix C s H fp) pl H' b:=λ{H' pl} hn hp b hb=>by
  obtain⟨f0,f1,f2,f3,f4,f5⟩:=fo b hb
  refine⟨hn b hb,(I0.ok.Uw b hb).1,I0.ok.Aj b hb,.inl hb,(I0.ok.Uw b hb).2,λp hp' z=>?_⟩
  rcases mem_append.mp hp' with q|q
  ·exact absurd (show p∈([]:List (Addr×Obj)) from q) (by simp)
  ·exact nDf b hb (by rw[<-z];exact hp p q)
 obtain⟨W,⟨m0,w0⟩,step⟩:=rd
 have loop:codeAny (model X.prog X.w) X.A (.compLoop (.ListComp elt [⟨tg,iter,ifs,0⟩] scope pos) 0 (.ref it) (.ref D) (dj X scope own ix C s H fp).env) (RR (.ref D) C) { s with heap:=h₁ }:=by
  refine zJ3 (λn s'=>∃i ys σ' H' its k,Inv (dj X scope own ix C s H fp) [] σ' H' s'/\tn i s'.heap/\(∀b∈fp,H' b=none)/\H' D=none/\s'.heap.get? D=some { cls:=.type "list",data:=.seq (toArray its) k }/\Vals ys its/\W i n ys σ' H') ?_ m0
   ⟨0,[],_,H,[],0,I0,st0,λb hb=>(fo b hb).1,hDn,oD,.nil,w0⟩
  rintro n s1 ⟨i,ys,σ1,H1,its,k,I1,tn1,fr1,D1,o1,K6,w1⟩
  have J1:Inv (dj X scope own ix C s H fp) [(D,{ cls:=.type "list",data:=.seq (toArray its) k })] σ1 H1 s1:=I1.jQ λp hp=>by
   have e:p=(D,{ cls:=.type "list",data:=.seq (toArray its) k }):=by simpa using hp
   subst e
   exact⟨o1,D1,Rh,Dfs,λv z=>by cases z⟩
  have single:∀p∈[((D,{ cls:=.type "list",data:=.seq (toArray its) k }):Addr×Obj)],p.1=D:=λp hp=>by
   have e:p=(D,{ cls:=.type "list",data:=.seq (toArray its) k }):=by simpa using hp
   rw[e]
  rcases step i n ys σ1 H1 w1 with⟨stop,hz,qn⟩|⟨go,hz,N,hN,stp⟩
  ·refine aP (T.done (dj X scope own ix C s H fp) rfl rfl rfl hc i _ s1 σ1 H1 _ J1 (Xl fr1 single) tn1 stop) λr s2 ⟨hr,I2⟩=>?_
   subst hr
   obtain⟨e2,_⟩:=I2.pin (D,{ cls:=.type "list",data:=.seq (toArray its) k }) (mem_append_right _ (by simp))
   obtain⟨m2,Xm,_⟩:=I2.loc
   refine hRR _ _ _ ⟨D,upd H1 D (.lst ys),rfl,?_,⟨m2,Xm⟩,?_,qn D D1⟩
   ·refine I.call' (ch:=fp) I2.os (Un.track I2.base sD hDn) (I2.hok.track D1 ⟨hz,its,k,K6,e2⟩) I2.bare λb hb=>?_
    obtain⟨f0,f1,f2,f3,f4,f5⟩:=fo b hb
    exact⟨f3,f1,f4,f5⟩
   ·refine I.oJ hle ?_
    rw[zV hDC.symm]
    exact I2.free
  ·refine aP (T.item (dj X scope own ix C s H fp) rfl rfl rfl hc i _ s1 σ1 H1 _ J1 (Xl fr1 single) tn1 go) λr s2 ⟨u,hr,h2⟩=>?_
   subst hr
   refine aP h2 λ_ s3 ⟨x,H3,I3,rx,y3,Xn,U3⟩=>?_
   have I3':=I3.pinned (Xl U3 single) (T.obj _ _ Xn)
   refine Xk hx' (hg C s H fp _ s3 σ1 H3 x u _ I3' rx (stp x H3 y3)) λ_ s4 ⟨σ4,H4,I4,q4⟩=>?_
   refine Xk hx' (hif C s H fp _ s4 σ4 H4 _ I4 q4) λb s5 ⟨H5,I5,q5⟩=>?_
   have back:∀{σ7:St}{H7:Hp}{s7:Shared},Inv (dj X scope own ix C s H fp) ([(D,{ cls:=.type "list",data:=.seq (toArray its) k })]++Kq fp s3.heap) σ7 H7 s7 ->
     tn (i+1) s7.heap/\(∀b∈fp,H7 b=none)/\H7 D=none/\s7.heap.get? D=some { cls:=.type "list",data:=.seq (toArray its) k }:=λ{σ7 H7 s7} I7=>by
    have Rj:=I7.pin (D,{ cls:=.type "list",data:=.seq (toArray its) k }) (mem_append_right _ (mem_append_left _ (by simp)))
    refine⟨T.keep _ _ _ Xn λb hb o e=>(I7.pin (b,o) (mem_append_right _ (mem_append_right _ (uW hb e)))).1,λb hb=>?_,Rj.2.1,Rj.1⟩
    obtain⟨o,e,d⟩:=T.obj _ _ Xn b hb
    exact(I7.pin (b,o) (mem_append_right _ (mem_append_right _ (uW hb e)))).2.1
   cases b with
   |false =>
    obtain⟨m',hm,w'⟩:=hN _ _ _ (show N ys σ4 H5 from q5)
    obtain⟨b1,b2,b3,b4⟩:=back I5
    exact⟨m',hm,i+1,ys,σ4,H5,its,k,I5.jQ (λp hp=>absurd hp (by simp)),b1,b2,b3,b4,K6,w'⟩
   |true =>
    rw[if_pos rfl]
    refine Xk hx' (he C s H fp _ s5 σ4 H5 _ I5 q5) λv s6 ⟨y,H6,I6,ry,q6⟩=>?_
    obtain⟨m',hm,w'⟩:=hN _ _ _ q6
    obtain⟨b1,b2,b3,b4⟩:=back I6
    have zl:its.length=ys.length:=K6.length.symm
    refine aew F.slot_list_append ⟨_,b4,rfl⟩ F.entry_list_append (F.args_list_append_2 _ _) (PySem.list_append D its.toArray k v (by rw[size_toArray];omega)) ⟨b4,?_⟩
    have q:=PySem.IsL.update b4 (λxs=>xs.push v)
    have keep:∀b o,b≠D->s6.heap.get? b=some o->(s6.heap.update D (abw λxs=>xs.push v)).get? b=some o:=λb o hb e=>(get?_update_other s6.heap _ (abt hb)).trans e
    refine⟨m',hm,i+1,ys++[y],σ4,H6,its++[v],(if(its.toArray.push v).size==its.toArray.size then k else k+1),?_,T.keep _ _ _ b1 (λb hb o e=>keep b o (nDf b hb) e),b2,b3,?_,K6.append (.cons ry .nil),w'⟩
    ·exact(I6.jQ (Il:=[]) λp hp=>absurd hp (by simp)).turned (t':=s6.toks) keep b3 Rh Dex Ri λp hp=>absurd (show p∈([]:List (Addr×Obj)) from hp) (by simp)
    ·rw[show(its++[v]).toArray=its.toArray.push v by simp]
     exact q
 exact codeAny_compStart_list loop (T.self X.A 0 _ _ _ st0 loop)
theorem wA(hx:X.xe=λ_ _=>False)(hc:X.calm=true)(ho:Vb X.env.scope X.N scope ix=true)(hi:PI X tg iter wi)(hg:∀C s H fp,PG (dj X scope own ix C s H fp) tg g)(hif:∀C s H fp,Bc (dj X scope own ix C s H fp) ifs tc)(he:∀C s H fp,PE (dj X scope own ix C s H fp) elt te)(hs:∀x,foldedSetIterable iter X.env x=pure x:=by intro _;rfl):PE X (.ListComp elt [⟨tg,iter,ifs,0⟩] scope pos) (Bg own.length ix wi g tc te):=by
 intro pins s σ H Q I h
 have sc:=zJ1 ho
 rw[eval_ListComp]
 refine wpAny_comprehension_free (use:=none) rfl hs (zC3 (Xi I sc)) sc.kind sc.nm (aP (hi pins s σ H _ I h) λv s1 h1=>aP h1 λitv s2 h2=>?_)
 obtain⟨it,fp,tn,J,H2,e,I2,T,st2,f2,rd⟩:=h2
 subst e
 refine zGr (RR:=λacc C=>compPost (model X.prog X.w) X.A X.xe none (EP X pins σ Q) acc C) hx hc sc I2 T st2 f2 hg hif he rd ?_
 rintro acc C s' ⟨p,H',rfl,I',⟨m,hns⟩,fC,q⟩
 obtain⟨f0,f1,f2,f3,f4,f5⟩:=fC
 exact⟨m,hns,λh' hs'=>⟨.ref p,H',I'.turned (t':=s'.toks) (λb o hb e=>(hs'.2 b hb).trans e) f0 f1 f3 f4 f5,rfl,q⟩⟩
theorem Dr{spos:Pos}(hN:X.N.Nodup)(hi':X.N[i]?=some x)(hxl:X.env.scope.names.lookup x=some .local)(hx:X.xe=λ_ _=>False)(hc:X.calm=true)(ho:Vb X.env.scope X.N scope ix=true)(hi:PI X tg iter wi)(hg:∀C s H fp,PG (dj X scope own ix C s H fp) tg g)(hif:∀C s H fp,Bc (dj X scope own ix C s H fp) ifs tc)(he:∀C s H fp,PE (dj X scope own ix C s H fp) elt te)(hsw:swapsWith (.ListComp elt [⟨tg,iter,ifs,0⟩] scope pos) (some (.Name x pos')) spos.line X.env=pure true:=by rfl)(hs:∀x,foldedSetIterable iter X.env x=pure x:=by intro _;rfl):PS X (.Assign [.Name x pos'] (.ListComp elt [⟨tg,iter,ifs,0⟩] scope pos) spos) (mH (Bg own.length ix wi g tc te) (ug i)):=by
 intro pins s σ H D I h
 have sc:=zJ1 ho
 rw[exec_Assign_Name_used _ _ _ _ hsw]
 refine aan (ae9 (aan ?_))
 show wpAny _ X.A (do let _ <-comprehension (.ListComp elt [⟨tg,iter,ifs,0⟩] scope pos) scope X.env _ (newList []) false (eval iter X.env) (some (assign (.Name x pos') X.env))) _ _ s
 refine aan (acg (wpAny_comprehension_free (use:=some (assign (.Name x pos') X.env)) (Q:=λ_ s'=>SP X pins D .next s') rfl hs (zC3 (Xi I sc)) sc.kind sc.nm
  (aP (hi pins s σ H _ I h) λv s1 h1=>aP h1 λitv s2 h2=>?_)) (λ_ s' hq=>aap (aap hq)) λ_ _ e=>e)
 obtain⟨it,fp,tn,J,H2,e,I2,T,st2,f2,rd⟩:=h2
 subst e
 refine zGr (RR:=λacc C=>compPost (model X.prog X.w) X.A X.xe (some (assign (.Name x pos') X.env)) (λ_ s'=>SP X pins D .next s') acc C) hx hc sc I2 T st2 f2 hg hif he rd ?_
 rintro acc C s' ⟨p,H',rfl,I',⟨m,hns⟩,fC,q⟩
 obtain⟨f0,f1,f2,f3,f4,f5⟩:=fC
 show wpAny _ X.A (assign (.Name x pos') X.env (.ref p)) _ _ _
 refine wpAny_assign_Name (zIv (v:=.ref p) I' hN hi' (.inl hxl) rfl (λs'' I'' ⟨a,hsa,ha⟩=>?_) (.inr hxl))
 have haC:C≠a:=by
  rcases ha with ha|ha
  ·rw[ha];exact f1
  ·exact(f4 x a ha).symm
 exact⟨m,hns.sameBut hsa haC,λh' hs'=>⟨_,H',I''.turned (t':=s''.toks) (λb o hb e=>(hs'.2 b hb).trans e) f0 f1 f3 f4 f5,q⟩⟩
end
section
variable{n:Nat}{ix:List Nat}{g:TG}{tc:TT}{te:TE}{σ:St}{Q:VK}{H:Hp}
theorem zR1{K:PySem.W.Frag}{a:Addr}{xs:List V}(Pv:Nat->List V->St->Hp->Prop)(h0:Pv 0 [] (oK σ n ix) H)(hl:∀i ys σ H,i<=xs.length->Pv i ys σ H->bw K H a xs/\ys.length<=i)(hz:xs.length<sizeLine)(hs:∀i x ys σ H,xs[i]?=some x->Pv i ys σ H->g x σ H λσ4 H4=>tc σ4 H4 λb H5=>if b=true then te σ4 H5 λy H6=>Pv (i+1) (ys++[y]) σ4 H6 else Pv (i+1) ys σ4 H5)(hd:∀ys σ H,Pv xs.length ys σ H->∀p,H p=none->Q (.ref p) (upd H p (.lst ys))):Bd n ix g tc te σ Q (Ox K a) H:=by
 refine⟨λi m ys σ H=>m=xs.length-i/\i<=xs.length/\Pv i ys σ H,⟨xs.length,by simp,abf _,h0⟩,?_⟩
 rintro i m ys σ H ⟨rfl,hi,p⟩
 obtain⟨q,hy⟩:=hl i ys σ H hi p
 by_cases hlt:i<xs.length
 ·refine .inr ⟨⟨xs,xs[i],q,by simp[hlt]⟩,by omega,Pv (i+1),λys' σ' H' p'=>⟨xs.length-(i+1),by omega,rfl,hlt,p'⟩,λx H' y=>?_⟩
  obtain⟨e,y⟩:=y
  subst e
  exact hs i x ys σ _ (y xs q) p
 ·have e:i=xs.length:=by omega
  subst e
  exact .inl ⟨⟨xs,q,aaq _⟩,by omega,hd ys σ H p⟩
end
def Ite(K:PySem.W.Frag)(a:Addr):It :=
 ⟨λi H=>∃xs x,bw K H a xs/\xs[i]?=some x,λi H v H'=>∃t x,v=.ref t/\H t=none/\H'=upd H t (.tup [.int i,x])/\∀xs,bw K H a xs->xs[i]?=some x,λi H=>∃xs,bw K H a xs/\xs.length<=i⟩
theorem zPc{P:Program}{w:World}{K:PySem.W.Frag}{elts:List Expr}{k:Nat}{tp:Pos}(a e it:Addr)(hne:e≠it) :
  Turn P w K (.Tuple elts k tp) (Ite K a) [e,it] e (λi h=>(∃old,IsEnum h e it ((i:Nat):Int) old)/\h.IsListIter it a i) where
 mem:=by simp
 obj:=λi h st b hb=>by
  obtain⟨⟨old,he⟩,o,ho,c,d⟩:=st
  have hb':b=e\/b=it:=by simpa using hb
  rcases hb' with rfl|rfl
  ·exact⟨_,he,λv z=>by
    have z':Data.fields _=Data.cell v:=z
    cases z'⟩
  ·exact⟨o,ho,λv z=>by rw[d] at z;cases z⟩
 keep:=λi h h' st k=>⟨let⟨old,he⟩:=st.1;⟨old,k e (by simp) _ he⟩,st.2.at λo q=>k it (by simp) o q⟩
 item:=by
  intro X hP hw hK hc i pins s σ H E I hf st hg
  subst hP hw hK
  obtain⟨xs,x,hq,hx⟩:=hg
  obtain⟨its,rv,p,hz⟩:=I.list hq
  obtain⟨u,hu,ru⟩:=rv.get hx
  obtain⟨⟨old,he⟩,hit⟩:=st
  obtain⟨f0,f1,f2,f3,f4,f5⟩:=hf e (by simp)
  obtain⟨g0,g1,g2,g3,g4,g5⟩:=hf it (by simp)
  refine wpAny_pyNext_enum_item he hit p.isList (x:=u) (by simpa using hu) hne λh₁ heo hit₁ ht₁ hz₁ hk₁=>?_
  refine⟨_,rfl,wpAny_letOwnedTupleGo_enum (s:={ s with heap:=h₁,toks:=s.toks+1 }) heo λh₂ he₂ hs₂=>?_⟩
  replace hs₂:SameBut e h₁ h₂:=hs₂
  have hel:e<s.heap.objs.size:=lt_size he
  have nT:H s.heap.objs.size=none:=I.hok.fresh (aaq _)
  have ht₂:h₂.get? s.heap.objs.size=some { cls:=.type "tuple",data:=.seq #[.int i s.toks,u] }:=(hs₂.2 _ (adl hel)).trans ht₁
  have kk:∀b o,b≠e->b≠it->s.heap.get? b=some o->h₂.get? b=some o:=λb o h1 h2 q=>(hs₂.2 b h1).trans (hk₁ b o h1 h2 q)
  have lt:∀b o,s.heap.get? b=some o->b≠s.heap.objs.size:=λb o q=>aav (lt_size q)
  have there:∀b o,s.heap.get? b=some o->b∉[e,it]->∃o',h₂.get? b=some o':=λb o q hx=>⟨o,kk b o (λz=>hx (by simp[z])) (λz=>hx (by simp[z])) q⟩
  have U:Un (frs X.stack) [e,it] H (upd H s.heap.objs.size (.tup [.int i,x])) s.heap h₂ :=
   ⟨λb o q _ _ hx=>kk b o (λz=>hx (by simp[z])) (λz=>hx (by simp[z])) q,λb o q _ _ hx=>⟨o.slots,kk b o (λz=>hx (by simp[z])) (λz=>hx (by simp[z])) q⟩,
    λb o q n _=>by rw[zV (lt b o q)];exact n,there,λb ys q=>by rw[zV (zS q nT)];exact q,λb o ys q=>by rw[zV (zS q nT)];exact q,λb ps q=>⟨#[],by rw[zV (zS q nT),q];simp⟩⟩
  have ok:gQ X.prog X.w (upd H s.heap.objs.size (.tup [.int i,x])) h₂:=λb o q=>by
   by_cases hb:b=s.heap.objs.size
   ·subst hb
    rw[zR] at q
    cases q
    exact⟨by show 2<=sizeLine;decide,[.int i s.toks,u],.cons ⟨_,rfl⟩ (.cons ru .nil),⟨_,ht₂,rfl,_,rfl⟩⟩
   ·rw[zV hb] at q
    refine(I.hok b o q).stay (λc v hc' z=>?_) (λc z=>by rw[zV (zS z nT)];exact z) λc ys z=>by rw[zV (zS z nT)];exact z
    have hcs:∃o',H c=some o':=by
     rcases hc' with rfl|hc'
     ·exact⟨o,q⟩
     ·exact⟨_,hc'⟩
    obtain⟨o',ho'⟩:=hcs
    exact kk c v (zS ho' f0) (zS ho' g0) z
  have I2:=I.call (h':=h₂) (g':=s.gens) (t':=s.toks+1) (d':=s.drawn) (ch:=[e,it]) U ok I.bare λb hb=>by
   have hb':b=e\/b=it:=by simpa using hb
   rcases hb' with rfl|rfl
   ·exact⟨f3,f1,f4,f5⟩
   ·exact⟨g3,g1,g4,g5⟩
  refine⟨.ref s.heap.objs.size,_,I2,rfl,⟨s.heap.objs.size,x,rfl,nT,rfl,λys hy=>by rw[I.qP hy hq];exact hx⟩,⟨⟨_,by rw[show((i+1:Nat):Int)=(i:Int)+1 by push_cast;rfl];exact he₂⟩,hit₁.extBut hs₂.extBut hne.symm⟩,λb hb=>?_⟩
  have hb':b=e\/b=it:=by simpa using hb
  obtain⟨o2,ho2,_⟩:=hit
  rcases hb' with rfl|rfl
  ·rw[zV (aav hel)];exact f0
  ·rw[zV (aav (lt_size ho2))];exact g0
 done:=by
  intro X hP hw hK hc i pins s σ H E I hf st hg
  subst hP hw hK
  obtain⟨xs,hq,hx⟩:=hg
  obtain⟨its,rv,p,hz⟩:=I.list hq
  obtain⟨⟨old,he⟩,hit⟩:=st
  obtain⟨g0,g1,g2,g3,g4,g5⟩:=hf it (by simp)
  have hl:=rv.length
  exact wpAny_pyNext_enum_end (I.ok.hd hc) he hit p.isList (by simp;omega) λh' eb=>⟨rfl,I.turned (t':=s.toks) (λb o hb e=>eb b o hb e) g0 g1 g3 g4 g5⟩
 self:=λ_ _ _ _ _ st h=>let⟨⟨_,he⟩,_⟩:=st;wpAny_pyIter_enum he h
def Bh(K:PySem.W.Frag)(ta:TA):TI:=λσ H R=>ta σ H λvs H1=>∃a,vs=[.ref a]/\(∃xs,bw K H1 a xs)/\R (Ite K a) H1
theorem lX:bootBuiltins "enumerate" = some (.type "enumerate"):=by decide +kernel
theorem zP7(hg:Gl X "enumerate")(hm:X.mg "enumerate" = none)(ha:PA X [a] ta)(hs:starEach [a] X.env=[(false,eval a X.env)]:=by rfl) :
  PI X (.Tuple elts k tp) (.Call (.Name "enumerate" p) [a] [] pos) (Bh X.K ta):=by
 intro pins s σ H R I h
 refine Call_ (Ak I hg hm lX (abk (aP (ha pos pins s σ H _ I h) λus s1 ⟨vs,H1,I1,r1,q1⟩=>?_) hs rfl))
 obtain⟨l,e,⟨xs,hq⟩,q⟩:=q1
 subst e
 cases r1 with
 |cons r rr =>
  cases rr
  cases r
  obtain⟨its,rv,p,hz⟩:=I1.list hq
  refine call_enumerate_list p.isList λh' hE hI hsz hk=>wpAny_pyIter_enum hE ?_
  have I2:Inv X pins σ H1 { s1 with heap:=h',toks:=s1.toks }:=I1.kept hk
  refine⟨s1.heap.objs.size+1,[s1.heap.objs.size+1,s1.heap.objs.size],_,_,H1,rfl,I2,zPc l _ _ (Nat.succ_ne_self _),⟨⟨.none,hE⟩,hI⟩,λb hb=>?_,q⟩
  have hb':b=s1.heap.objs.size+1\/b=s1.heap.objs.size:=by simpa using hb
  rcases hb' with rfl|rfl
  ·exact I1.oJ (ab6 _) (I1.hok.fresh (ab6 _))
  ·exact I1.oJ (aaq _) (I1.hok.fresh (aaq _))
theorem zUg{K:PySem.W.Frag}{a:Addr}{xs:List V}{g:TG}{tb:TS}{D:Ends}{σ:St}{H:Hp}(Pv:Nat->St->Hp->Prop)(h0:Pv 0 σ H)(hl:∀i σ H,i<=xs.length->Pv i σ H->bw K H a xs)(hs:∀i x t σ H,xs[i]?=some x->H t=none->Pv i σ H->g (.ref t) σ (upd H t (.tup [.int i,x])) λσ2 H2=>tb { D with nx:=Pv (i+1),ct:=Pv (i+1),bk:=D.nx } σ2 H2)(hd:∀σ H,Pv xs.length σ H->D.nx σ H) :
  ∃W:Nat->Nat->St->Hp->Prop,(∃m,W 0 m σ H)/\∀i m σ H,W i m σ H ->
   ((Ite K a).stop i H/\D.nx σ H)\/((Ite K a).go i H/\∃N:St->Hp->Prop,(∀σ' H',N σ' H'->∃m',m'<m/\W (i+1) m' σ' H')/\∀x H',(Ite K a).Ow i H x H'->g x σ H' λσ2 H2=>tb { D with nx:=N,ct:=N,bk:=D.nx } σ2 H2):=by
 refine⟨λi m σ H=>m=xs.length-i/\i<=xs.length/\Pv i σ H,⟨xs.length,by simp,abf _,h0⟩,?_⟩
 rintro i m σ H ⟨rfl,hi,p⟩
 have q:=hl i σ H hi p
 by_cases hlt:i<xs.length
 ·refine .inr ⟨⟨xs,xs[i],q,by simp[hlt]⟩,Pv (i+1),λσ' H' p'=>⟨xs.length-(i+1),by omega,rfl,hlt,p'⟩,λx H' y=>?_⟩
  obtain⟨t,x',rfl,ht,rfl,y⟩:=y
  exact hs i x' t σ H (y xs q) ht p
 ·have e:i=xs.length:=by omega
  subst e
  exact .inl ⟨⟨xs,q,aaq _⟩,hd σ H p⟩
def Xo(a:Str)(te:TE):TE:=λσ H Q=>te σ H λx H1=>(∃i,x=.int i/\i.natAbs.log2<1920/\Q (.str (a++ac2 (toString i))) H1)\/∃z,x=.str z/\z.length<=1000/\Q (.str (a++z)) H1
theorem zEe(x y:Str):(x++y).length=x.length+y.length:=by rw[<-strLen_append]
theorem Bj{a:Str}(he:PE X e te)(hl:a.length<=1000):PE X (.JoinedStr [.Constant (.str a) j p1,.FormattedValue e (-1) none p2] pos) (Xo a te):=by
 intro pins s σ H Q I h
 refine JoinedStr_many (joinParts_cons (Calls.Constant_str ?_))
 have e0:(ad4++a)=a:=by
  cases a with
  |mk c=>show Str.mk _=_;simp[ad4]
 refine⟨by rw[e0];exact aaz hl (by decide),?_⟩
 rw[e0]
 have I0:=I.tok (s.toks+1)
 refine joinParts_cons (FormattedValue_plain (aP (he pins _ σ H _ I0 h) λu s1 ⟨x,H1,I1,r1,q1⟩=>?_))
 rcases q1 with⟨i,rfl,hd,q⟩|⟨z,rfl,hz,q⟩
 ·obtain⟨t,rfl⟩:=r1
  refine formatField_int_small hd ?_
  have len:(a++ac2 (toString i)).length<=sizeLine:=by
   have:=int_text_len_1921 hd
   rw[zEe]
   exact aaz (show a.length+(ac2 (toString i)).length<=4000 by omega) (by decide)
  refine⟨len,joinParts_nil ?_ len⟩
  exact⟨.str (a++ac2 (toString i)),H1,(I1.tok (s1.toks+1+1)).tok _,⟨_,rfl⟩,q⟩
 ·obtain⟨t,rfl⟩:=r1
  have len:(a++z).length<=sizeLine:=by
   rw[zEe]
   exact aaz (show a.length+z.length<=4000 by omega) (by decide)
  refine formatField_str (λt' tk=>?_) (aaz hz (by decide))
  refine⟨len,joinParts_nil ?_ len⟩
  exact⟨.str (a++z),H1,(I1.tok tk).tok _,⟨_,rfl⟩,q⟩
def Fy(K:PySem.W.Frag)(c:Value):List V->Hp->VK->Prop:=λxs H Q=>∃x y t b,xs=[x,y]/\RelV y c/\jR K H x t/\kitOne K t c=some b/\Q (.bl b) H
theorem zUp(hc:∀y u,RelV y c->RelV y u->u=c):rT X (.builtin "isinstance") (Fy X.K c):=by
 intro pins s σ H xs us Q I r h
 obtain⟨x,y,t,b,rfl,ry,ty,e,q⟩:=h
 obtain⟨u,v,rfl,ru,rv⟩:=r.two
 obtain rfl:=hc y v ry rv
 exact zQ5 I ru ty e λtk=>⟨.bl b,H,I.tok tk,rfl,q⟩
theorem Ds:∀y u,RelV y (.type n)->RelV y u->u=.type n:=λy u h1 h2=>by
 cases y<;>first
  | (cases h1;done)
  | (obtain⟨_,e⟩:=h1;cases e;done)
  | (cases h1;cases h2;rfl)
theorem xU:∀y u,RelV y (.ref a)->RelV y u->u=.ref a:=λy u h1 h2=>by
 cases y<;>first
  | (cases h1;done)
  | (obtain⟨_,e⟩:=h1;cases e;done)
  | (cases h1;cases h2;rfl)
theorem zTz{σ:St}{A B:St->Hp->Prop}(h:A (σ.set i (some x)) H):ug i x σ H (λσ4 H4=>K5 σ4 H4 λb H5=>if b=true then A σ4 H5 else B σ4 H5):=by
 show if true=true then A (σ.set i (some x)) H else B (σ.set i (some x)) H
 rw[if_pos rfl]
 exact h
theorem zP8{X:Cx}{K:PySem.W.Frag}(h:X.K=K){es:List Expr}{k:Nat}{t:Ou}{n:Nat}{pos:Pos}(hc:X.calm=true)(ht:Qv X es t)(hn:(assignEach es X.env).length=n:=by rfl)(hst:(assignEach es X.env).findIdx? (·.1)=none:=by rfl):PG X (.Tuple es k pos) (Kf K n t):=by
 subst h
 exact Iu hc ht hn hst
end L2
namespace Ts
open PySem L2
theorem aL(h:H p=none)(o:HO):Same H (upd H p o):=λb u q=>by rw[zV (zS q h)];exact q
theorem _root_.L2.Same.put(s:Same H H')(h:H p=none)(o:HO):Same H (upd H' p o):=λb u q=>by rw[zV (zS q h)];exact s b u q
def A2{α β:Type}(R:α->β->Prop):List α->List β->Prop
 |[],[]=>True
 |x::xs,y::ys=>R x y/\A2 R xs ys
 |_,_=>False
section
variable{α β:Type}{R R':α->β->Prop}
theorem A2.len:∀{xs:List α}{ys:List β},A2 R xs ys->xs.length=ys.length
 |[],[],_=>rfl
 |_::_,_::_,h=>congrArg (· + 1) (A2.len h.2)
 |[],_::_,h=>h.elim
 |_::_,[],h=>h.elim
theorem A2.imp(f:∀x y,R x y->R' x y):∀{xs:List α}{ys:List β},A2 R xs ys->A2 R' xs ys
 |[],[],_=>trivial
 |_::_,_::_,h=>⟨f _ _ h.1,A2.imp f h.2⟩
 |[],_::_,h=>h.elim
 |_::_,[],h=>h.elim
theorem A2.app:∀{xs:List α}{ys:List β}{xs':List α}{ys':List β},A2 R xs ys->A2 R xs' ys'->A2 R (xs++xs') (ys++ys')
 |[],[],_,_,_,h=>h
 |_::_,_::_,_,_,h,h'=>⟨h.1,A2.app h.2 h'⟩
 |[],_::_,_,_,h,_=>h.elim
 |_::_,[],_,_,h,_=>h.elim
theorem A2.snoc(h:A2 R xs ys)(r:R x y):A2 R (xs++[x]) (ys++[y]):=h.app ⟨r,trivial⟩
theorem A2.at1:∀{xs:List α}{ys:List β}{i:Nat}{x:α},A2 R xs ys->xs[i]?=some x->∃y,ys[i]?=some y/\R x y
 |[],_,_,_,_,e=>by simp at e
 |_::_,_::_,0,_,h,e=>by simp at e;subst e;exact⟨_,rfl,h.1⟩
 |_::_,_::_,i+1,_,h,e=>by
  obtain⟨y,h1,h2⟩:=A2.at1 (i:=i) h.2 (by simpa using e)
  exact⟨y,by simpa using h1,h2⟩
 |_::_,[],_,_,h,_=>h.elim
theorem A2.at2:∀{xs:List α}{ys:List β}{i:Nat}{y:β},A2 R xs ys->ys[i]?=some y->∃x,xs[i]?=some x/\R x y
 |_,[],_,_,_,e=>by simp at e
 |_::_,_::_,0,_,h,e=>by simp at e;subst e;exact⟨_,rfl,h.1⟩
 |_::_,_::_,i+1,_,h,e=>by
  obtain⟨y,h1,h2⟩:=A2.at2 (i:=i) h.2 (by simpa using e)
  exact⟨y,by simpa using h1,h2⟩
 |[],_::_,_,_,h,_=>h.elim
theorem A2.set(r:R x y):∀{xs:List α}{ys:List β}(i:Nat),A2 R xs ys->A2 R (xs.set i x) (ys.set i y)
 |[],[],_,_=>trivial
 |_::_,_::_,0,h=>⟨r,h.2⟩
 |_::_,_::_,i+1,h=>⟨h.1,A2.set r i h.2⟩
 |[],_::_,_,h=>h.elim
 |_::_,[],_,h=>h.elim
theorem A2.of_map{f:β->α}(h:∀y,R (f y) y):∀ys:List β,A2 R (ys.map f) ys
 |[]=>trivial
 |y::ys=>⟨h y,A2.of_map h ys⟩
end
class Rp (K:PySem.W.Frag) (α:Type) where
 rp:Hp->V->α->Prop
 mono:∀{F F':Hp}{v:V}{a:α},Same F F'->rp F v a->rp F' v a
abbrev rp(K:PySem.W.Frag){α:Type}[Rp K α]:Hp->V->α->Prop:=Rp.rp (K:=K)
class Nn (K:PySem.W.Frag) (α:Type) [Rp K α]:Prop where
 nn:∀{F:Hp}{v:V}{a:α},rp K F v a->v≠.non
class Sc (K:PySem.W.Frag) (α:Type) [Rp K α] where
 val:α->V
 is:∀{F:Hp}{v:V}{a:α},rp K F v a↔v=val a
 inj:∀{a b:α},val a=val b->a=b
section
variable{K:PySem.W.Frag}
instance:Rp K Int:=⟨λ_ v n=>v=.int n,λ_ h=>h⟩
instance:Rp K Bool:=⟨λ_ v n=>v=.bl n,λ_ h=>h⟩
instance:Rp K Str:=⟨λ_ v n=>v=.str n,λ_ h=>h⟩
instance:Rp K Unit:=⟨λ_ v _=>v=.non,λ_ h=>h⟩
instance{α:Type}[Rp K α]:Rp K (Option α):=⟨λF v a=>match a with
 |none=>v=.non
 |some x=>v≠.non/\rp K F v x,λ{F F' v a} s h=>match a,h with
 |none,h=>h
 |some x,h=>⟨h.1,Rp.mono s h.2⟩⟩
instance{α:Type}[Rp K α]:Rp K (List α):=⟨λF v xs=>∃p vs,v=.ref p/\F p=some (.lst vs)/\A2 (rp K F) vs xs,λs ⟨p,vs,h1,h2,h3⟩=>⟨p,vs,h1,s _ _ h2,h3.imp λ_ _=>Rp.mono s⟩⟩
instance{α β:Type}[Rp K α][Rp K β]:Rp K (α×β):=⟨λF v x=>∃p a b,v=.ref p/\F p=some (.tup [a,b])/\rp K F a x.1/\rp K F b x.2,λs ⟨p,a,b,h1,h2,h3,h4⟩=>⟨p,a,b,h1,s _ _ h2,Rp.mono s h3,Rp.mono s h4⟩⟩
structure wu where
 ns:LI
instance:Rp K wu:=⟨λF v x=>∃p,v=.ref p/\bw K F p (x.ns.map V.int),λs ⟨p,h1,h2⟩=>⟨p,h1,s.seq h2⟩⟩
instance:Nn K Int:=⟨λh=>by cases h;intro e;cases e⟩
instance:Nn K Bool:=⟨λh=>by cases h;intro e;cases e⟩
instance:Nn K Str:=⟨λh=>by cases h;intro e;cases e⟩
instance{α:Type}[Rp K α]:Nn K (List α):=⟨λ⟨_,_,h,_⟩=>by rw[h];intro e;cases e⟩
instance{α β:Type}[Rp K α][Rp K β]:Nn K (α×β):=⟨λ⟨_,_,_,h,_⟩=>by rw[h];intro e;cases e⟩
instance:Sc K Int:=⟨V.int,afh,λh=>by cases h;rfl⟩
instance:Sc K Bool:=⟨V.bl,afh,λh=>by cases h;rfl⟩
instance:Sc K Str:=⟨V.str,afh,λh=>by cases h;rfl⟩
instance{α:Type}[Rp K α][Sc K α][Nn K α]:Sc K (Option α):=⟨λa=>match a with
 |none=>.non
 |some x=>Sc.val K x,λ{F v a}=>match a with
 |none=>afh
 |some x=>⟨λh=>Sc.is.mp h.2,λh=>⟨Nn.nn (K:=K) (F:=F) (a:=x) (Sc.is.mpr h),Sc.is.mpr h⟩⟩,λ{a b} h=>match a,b,h with
 |none,none,_=>rfl
 |some x,some y,h=>by rw[Sc.inj (K:=K) (a:=x) (b:=y) h]
 |none,some y,h=>absurd h.symm (Nn.nn (K:=K) (F:=λ_=>none) (a:=y) (Sc.is.mpr rfl))
 |some x,none,h=>absurd h (Nn.nn (K:=K) (F:=λ_=>none) (a:=x) (Sc.is.mpr rfl))⟩
theorem Vc{α:Type}[Rp K α][Sc K α]{a:α}(h:rp K F v a):rp K F' v a:=Sc.is.mpr (Sc.is.mp h)
inductive Md|nw|fz|hp
def dif(H H0:Hp):Hp:=λb=>match H0 b with
 |none=>H b
 |some _=>none
def ext(Fa H0 H:Hp):Hp:=λb=>match H0 b with
 |none=>H b
 |some _=>Fa b
structure Bs where
 Fa:Hp
 H0:Hp
abbrev Own:=List (Addr×HO)
def reg(B:Bs)(F H:Hp):Md->Hp
 |.nw=>dif F B.H0
 |.fz=>F
 |.hp=>H
theorem aW:Same (dif H H0) H:=λb o h=>by
 unfold dif at h
 cases e:H0 b with
 |none=>rw[e] at h;exact h
 |some u=>rw[e] at h;cases h
theorem uw(h:H0 b=none):dif H H0 b=H b:=by
 unfold dif
 rw[h]
theorem vD(s:Same H H'):Same (dif H H0) (dif H' H0):=λb o h=>by
 unfold dif at h ⊢
 cases e:H0 b with
 |none=>rw[e] at h;exact s b o h
 |some u=>rw[e] at h;cases h
structure Ok(B:Bs)(F:Hp)(O:Own)(H:Hp):Prop where
 fh:Same F H
 h0:Same B.H0 H
 fa:∀b o,F b=some o->B.Fa b=some o\/B.H0 b=none
 fo:∀x∈O,F x.1=none/\B.H0 x.1=none/\H x.1=some x.2
 nd:(O.map (·.1)).Nodup
structure bK(B:Bs)(F H:Hp)(O:Own)(F' H':Hp):Prop where
 ff:Same F F'
 hh:Same H H'
 ok:Ok B F' O H'
 nw:∀b,F b=none->H b≠none->F' b=none
section
variable{B:Bs}{F H F' H' F2 H2:Hp}{O:Own}
theorem bK.refl(k:Ok B F O H):bK B F H O F H:=⟨.refl _,.refl _,k,λ_ h _=>h⟩
theorem bK.trans(a:bK B F H O F' H')(b:bK B F' H' O F2 H2):bK B F H O F2 H2 :=
 ⟨a.ff.trans b.ff,a.hh.trans b.hh,b.ok,λq h1 h2=>b.nw q (a.nw q h1 h2) λe=>h2 (a.hh.free e)⟩
theorem bK.new(k:Ok B F O H)(h:H p=none)(o:HO):bK B F H O (upd F p o) (upd H p o):=by
 have fp:=k.fh.free h
 refine⟨aL fp o,aL h o,⟨λb u e=>?_,k.h0.put (k.h0.free h) o,λb u e=>?_,λx hx=>?_,k.nd⟩,λb h1 h2=>?_⟩
 ·by_cases q:b=p
  ·subst q;rw[zR] at e ⊢;exact e
  ·rw[zV q] at e ⊢;exact k.fh b u e
 ·by_cases q:b=p
  ·subst q;exact .inr (k.h0.free h)
  ·rw[zV q] at e;exact k.fa b u e
 ·obtain⟨a1,a2,a3⟩:=k.fo x hx
  have q:x.1≠p:=zS a3 h
  exact⟨by rw[zV q];exact a1,a2,by rw[zV q];exact a3⟩
 ·rw[zV λe=>h2 (by rw[e];exact h)];exact h1
theorem xO(g:bK B F H O F' H')(md:Md):Same (reg B F H md) (reg B F' H' md):=match md with
 |.nw=>vD g.ff
 |.fz=>g.ff
 |.hp=>g.hh
end
inductive Slot(K:PySem.W.Frag):Type 1
 |un
 |fz (n:Bool) {α:Type} [Rp K α] (a:α)
 |hs {α:Type} [Rp K α] (a:α)
 |nu {α:Type} [Rp K α] (a:α)
 |ow (n:Bool) {α:Type} [Rp K α] (xs:List α)
 |od {α:Type} [Rp K α] (kvs:List (Key×α))
abbrev SL(K:PySem.W.Frag):=List (Slot K)
abbrev ju:Bool->Md
 |true=>.nw
 |false=>.fz
def lo(F:Hp)(O:Own)(H:Hp):Hp:=λb=>if(F b).isSome||(O.any λx=>x.1==b) then none else H b
inductive ao(B:Bs)(F L H:Hp):SL K->St->Own->Prop
 |nil:ao B F L H [] [] []
 |un {sl:SL K} {σ:St} {O:Own} {x:Option V}:ao B F L H sl σ O->ao B F L H (.un::sl) (x::σ) O
 |fz {n:Bool} {α:Type} [Rp K α] {a:α} {sl:SL K} {σ:St} {O:Own} {v:V}:rp K (reg B F H (ju n)) v a->ao B F L H sl σ O->ao B F L H (.fz n a::sl) (some v::σ) O
 |hs {α:Type} [Rp K α] {a:α} {sl:SL K} {σ:St} {O:Own} {v:V}:rp K H v a->ao B F L H sl σ O->ao B F L H (.hs a::sl) (some v::σ) O
 |nu {α:Type} [Rp K α] {a:α} {sl:SL K} {σ:St} {O:Own} {v:V}:rp K (dif L B.H0) v a->ao B F L H sl σ O->ao B F L H (.nu a::sl) (some v::σ) O
 |ow {n:Bool} {α:Type} [Rp K α] {xs:List α} {sl:SL K} {σ:St} {O:Own} {p:Addr} {vs:List V}:A2 (rp K (reg B F H (ju n))) vs xs->ao B F L H sl σ O->ao B F L H (.ow n xs::sl) (some (.ref p)::σ) ((p,.lst vs)::O)
 |od {α:Type} [Rp K α] {kvs:List (Key×α)} {sl:SL K} {σ:St} {O:Own} {p:Addr} {ks:List (Key×V)}:A2 (λ(x:Key×V) (y:Key×α)=>x.1=y.1/\rp K F x.2 y.2) ks kvs->ao B F L H sl σ O->ao B F L H (.od kvs::sl) (some (.ref p)::σ) ((p,.dK ks)::O)
def At(B:Bs)(sl:SL K)(F:Hp)(O:Own)(H:Hp)(σ:St):Prop:=Ok B F O H/\ao B F (lo F O H) H sl σ O
abbrev lY:Slot K->Bool
 |@Slot.ow _ _ _ _ _=>true
 |@Slot.od _ _ _ _=>true
 |_=>false
abbrev kE:Slot K->Bool
 |@Slot.hs _ _ _ _=>true
 |_=>false
section
variable{B:Bs}{F H F' H' L L':Hp}{O O':Own}{sl:SL K}{σ:St}
theorem vY(n:Bool)(hF:Same F F'):Same (reg B F H (ju n)) (reg B F' H' (ju n)):=match n with
 |true=>vD hF
 |false=>hF
theorem ao.mono(hF:Same F F')(hL:Same L L')(hH:Same H H')(h:ao B F L H sl σ O):ao B F' L' H' sl σ O:=by
 induction h with
 |nil=>exact .nil
 |un _ ih=>exact .un ih
 |fz r _ ih=>exact .fz (Rp.mono (vY _ hF) r) ih
 |hs r _ ih=>exact .hs (Rp.mono hH r) ih
 |nu r _ ih=>exact .nu (Rp.mono (vD hL) r) ih
 |ow r _ ih=>exact .ow (r.imp λ_ _=>Rp.mono (vY _ hF)) ih
 |od r _ ih=>exact .od (r.imp λ_ _ z=>⟨z.1,Rp.mono hF z.2⟩) ih
theorem ao.mut(hL:Same L L')(h:ao B F L H sl σ O)(hn:sl.all (λs=>!kE s)=true):ao B F L' H' sl σ O:=by
 induction h with
 |nil=>exact .nil
 |un _ ih=>exact .un (ih (by rw[all_cons,aas] at hn;exact hn.2))
 |fz r _ ih=>exact .fz (Rp.mono (vY _ (.refl _)) r) (ih (by rw[all_cons,aas] at hn;exact hn.2))
 |hs r _ ih=>rw[all_cons,aas] at hn;exact absurd hn.1 (by simp)
 |nu r _ ih=>exact .nu (Rp.mono (vD hL) r) (ih (by rw[all_cons,aas] at hn;exact hn.2))
 |ow r _ ih=>exact .ow (r.imp λ_ _=>Rp.mono (vY _ (.refl _))) (ih (by rw[all_cons,aas] at hn;exact hn.2))
 |od r _ ih=>exact .od r (ih (by rw[all_cons,aas] at hn;exact hn.2))
theorem zQw(g:bK B F H O F' H'):Same (lo F O H) (lo F' O H'):=λb o h=>by
 unfold lo at h ⊢
 cases e:(F b).isSome||(O.any λx=>x.1==b) with
 |true=>rw[e] at h;cases h
 |false =>
  rw[e] at h
  have hb:H b=some o:=h
  rw[Bool.or_eq_false_iff] at e
  have f':F' b=none:=g.nw b (by cases q:F b with|none=>rfl|some u=>rw[q] at e;cases e.1) (by rw[hb];intro z;cases z)
  rw[f',e.2]
  exact g.hh b o hb
theorem At.grow(h:At B sl F O H σ)(g:bK B F H O F' H'):At B sl F' O H' σ:=⟨g.ok,h.2.mono g.ff (zQw g) g.hh⟩
theorem ao.qR{α:Type}[Rp K α]{a:α}(h:ao B F L H sl σ O):∀{i:Nat},sl[i]?=some (.fz n a)->∃v,σ[i]?=some (some v)/\rp K (reg B F H (ju n)) v a:=by
 induction h with
 |nil=>intro i e;simp at e
 |fz r _ ih =>
  intro i e
  cases i with
  |zero=>simp only[getElem?_cons_zero] at e;cases e;exact⟨_,rfl,r⟩
  |succ i=>exact ih (by simpa using e)
 |_ =>
  rename_i ih
  intro i e
  cases i with
  |zero=>simp only[getElem?_cons_zero] at e;cases e
  |succ i=>exact ih (by simpa using e)
theorem ao.Rk{α:Type}[Rp K α]{a:α}(h:ao B F L H sl σ O):∀{i:Nat},sl[i]?=some (.hs a)->∃v,σ[i]?=some (some v)/\rp K H v a:=by
 induction h with
 |nil=>intro i e;simp at e
 |hs r _ ih =>
  intro i e
  cases i with
  |zero=>simp only[getElem?_cons_zero] at e;cases e;exact⟨_,rfl,r⟩
  |succ i=>exact ih (by simpa using e)
 |_ =>
  rename_i ih
  intro i e
  cases i with
  |zero=>simp only[getElem?_cons_zero] at e;cases e
  |succ i=>exact ih (by simpa using e)
theorem ao.Bk{α:Type}[Rp K α]{a:α}(h:ao B F L H sl σ O):∀{i:Nat},sl[i]?=some (.nu a)->∃v,σ[i]?=some (some v)/\rp K (dif L B.H0) v a:=by
 induction h with
 |nil=>intro i e;simp at e
 |nu r _ ih =>
  intro i e
  cases i with
  |zero=>simp only[getElem?_cons_zero] at e;cases e;exact⟨_,rfl,r⟩
  |succ i=>exact ih (by simpa using e)
 |_ =>
  rename_i ih
  intro i e
  cases i with
  |zero=>simp only[getElem?_cons_zero] at e;cases e
  |succ i=>exact ih (by simpa using e)
theorem ao.put(h:ao B F L H sl σ O)(new:∀(sl:SL K) (σ:St) (O:Own),ao B F L H sl σ O->ao B F L H (s'::sl) (x::σ) O):∀{i:Nat},sl[i]?=some s->lY s=false->ao B F L H (sl.set i s') (σ.set i x) O:=by
 induction h with
 |nil=>intro i e;simp at e
 |un g ih =>
  intro i e o
  cases i with
  |zero=>exact new _ _ _ g
  |succ i=>exact .un (ih (by simpa using e) o)
 |fz r g ih =>
  intro i e o
  cases i with
  |zero=>exact new _ _ _ g
  |succ i=>exact .fz r (ih (by simpa using e) o)
 |hs r g ih =>
  intro i e o
  cases i with
  |zero=>exact new _ _ _ g
  |succ i=>exact .hs r (ih (by simpa using e) o)
 |nu r g ih =>
  intro i e o
  cases i with
  |zero=>exact new _ _ _ g
  |succ i=>exact .nu r (ih (by simpa using e) o)
 |ow r g ih =>
  intro i e o
  cases i with
  |zero=>simp only[getElem?_cons_zero] at e;cases e;cases o
  |succ i=>exact .ow r (ih (by simpa using e) o)
 |od r g ih =>
  intro i e o
  cases i with
  |zero=>simp only[getElem?_cons_zero] at e;cases e;cases o
  |succ i=>exact .od r (ih (by simpa using e) o)
theorem ao.own(h:ao B F L H sl σ O)(new:∀(sl:SL K) (σ:St) (O:Own),ao B F L H sl σ O->ao B F L H (s'::sl) (x::σ) (c::O)) :
  ∀{i:Nat},sl[i]?=some s->lY s=false->∃O1 O2,O=O1++O2/\ao B F L H (sl.set i s') (σ.set i x) (O1++c::O2):=by
 induction h with
 |nil=>intro i e;simp at e
 |un g ih =>
  intro i e o
  cases i with
  |zero=>exact⟨[],_,rfl,new _ _ _ g⟩
  |succ i=>obtain⟨O1,O2,q,z⟩:=ih (by simpa using e) o;exact⟨O1,O2,q,.un z⟩
 |fz r g ih =>
  intro i e o
  cases i with
  |zero=>exact⟨[],_,rfl,new _ _ _ g⟩
  |succ i=>obtain⟨O1,O2,q,z⟩:=ih (by simpa using e) o;exact⟨O1,O2,q,.fz r z⟩
 |hs r g ih =>
  intro i e o
  cases i with
  |zero=>exact⟨[],_,rfl,new _ _ _ g⟩
  |succ i=>obtain⟨O1,O2,q,z⟩:=ih (by simpa using e) o;exact⟨O1,O2,q,.hs r z⟩
 |nu r g ih =>
  intro i e o
  cases i with
  |zero=>exact⟨[],_,rfl,new _ _ _ g⟩
  |succ i=>obtain⟨O1,O2,q,z⟩:=ih (by simpa using e) o;exact⟨O1,O2,q,.nu r z⟩
 |ow r g ih =>
  intro i e o
  cases i with
  |zero=>simp only[getElem?_cons_zero] at e;cases e;cases o
  |succ i=>obtain⟨O1,O2,q,z⟩:=ih (by simpa using e) o;exact⟨_::O1,O2,by rw[q]<;>rfl,.ow r z⟩
 |od r g ih =>
  intro i e o
  cases i with
  |zero=>simp only[getElem?_cons_zero] at e;cases e;cases o
  |succ i=>obtain⟨O1,O2,q,z⟩:=ih (by simpa using e) o;exact⟨_::O1,O2,by rw[q]<;>rfl,.od r z⟩
theorem ao.qT{α:Type}[Rp K α]{xs:List α}(h:ao B F L H sl σ O):∀{i:Nat},sl[i]?=some (.ow n xs) ->
  ∃O1 O2 p vs,O=O1++(p,.lst vs)::O2/\σ[i]?=some (some (.ref p))/\A2 (rp K (reg B F H (ju n))) vs xs /\
   (∀(s':Slot K)(x:Option V)(c:Addr×HO),(∀(sl:SL K)(σ:St)(O:Own),ao B F L H sl σ O->ao B F L H (s'::sl) (x::σ) (c::O))->ao B F L H (sl.set i s') (σ.set i x) (O1++c::O2)) /\
   (∀(s':Slot K)(x:Option V),(∀(sl:SL K)(σ:St)(O:Own),ao B F L H sl σ O->ao B F L H (s'::sl) (x::σ) O)->ao B F L H (sl.set i s') (σ.set i x) (O1++O2)):=by
 induction h with
 |nil=>intro i e;simp at e
 |un g ih =>
  intro i e
  cases i with
  |zero=>simp only[getElem?_cons_zero] at e;cases e
  |succ i=>obtain⟨O1,O2,p,vs,q,h1,h2,h3,h4⟩:=ih (by simpa using e);exact⟨O1,O2,p,vs,q,h1,h2,λs' x c z=>.un (h3 s' x c z),λs' x z=>.un (h4 s' x z)⟩
 |fz r g ih =>
  intro i e
  cases i with
  |zero=>simp only[getElem?_cons_zero] at e;cases e
  |succ i=>obtain⟨O1,O2,p,vs,q,h1,h2,h3,h4⟩:=ih (by simpa using e);exact⟨O1,O2,p,vs,q,h1,h2,λs' x c z=>.fz r (h3 s' x c z),λs' x z=>.fz r (h4 s' x z)⟩
 |hs r g ih =>
  intro i e
  cases i with
  |zero=>simp only[getElem?_cons_zero] at e;cases e
  |succ i=>obtain⟨O1,O2,p,vs,q,h1,h2,h3,h4⟩:=ih (by simpa using e);exact⟨O1,O2,p,vs,q,h1,h2,λs' x c z=>.hs r (h3 s' x c z),λs' x z=>.hs r (h4 s' x z)⟩
 |nu r g ih =>
  intro i e
  cases i with
  |zero=>simp only[getElem?_cons_zero] at e;cases e
  |succ i=>obtain⟨O1,O2,p,vs,q,h1,h2,h3,h4⟩:=ih (by simpa using e);exact⟨O1,O2,p,vs,q,h1,h2,λs' x c z=>.nu r (h3 s' x c z),λs' x z=>.nu r (h4 s' x z)⟩
 |ow r g ih =>
  intro i e
  cases i with
  |zero=>simp only[getElem?_cons_zero] at e;cases e;exact⟨[],_,_,_,rfl,rfl,r,λs' x c z=>z _ _ _ g,λs' x z=>z _ _ _ g⟩
  |succ i=>obtain⟨O1,O2,p,vs,q,h1,h2,h3,h4⟩:=ih (by simpa using e);exact⟨_::O1,O2,p,vs,by rw[q]<;>rfl,h1,h2,λs' x c z=>.ow r (h3 s' x c z),λs' x z=>.ow r (h4 s' x z)⟩
 |od r g ih =>
  intro i e
  cases i with
  |zero=>simp only[getElem?_cons_zero] at e;cases e
  |succ i=>obtain⟨O1,O2,p,vs,q,h1,h2,h3,h4⟩:=ih (by simpa using e);exact⟨_::O1,O2,p,vs,by rw[q]<;>rfl,h1,h2,λs' x c z=>.od r (h3 s' x c z),λs' x z=>.od r (h4 s' x z)⟩
theorem ao.Bo{α:Type}[Rp K α]{kvs:List (Key×α)}(h:ao B F L H sl σ O):∀{i:Nat},sl[i]?=some (.od kvs) ->
  ∃O1 O2 p ks,O=O1++(p,.dK ks)::O2/\σ[i]?=some (some (.ref p))/\A2 (λ(x:Key×V) (y:Key×α)=>x.1=y.1/\rp K F x.2 y.2) ks kvs /\
   (∀(s':Slot K)(x:Option V)(c:Addr×HO),(∀(sl:SL K)(σ:St)(O:Own),ao B F L H sl σ O->ao B F L H (s'::sl) (x::σ) (c::O))->ao B F L H (sl.set i s') (σ.set i x) (O1++c::O2)) /\
   (∀(s':Slot K)(x:Option V),(∀(sl:SL K)(σ:St)(O:Own),ao B F L H sl σ O->ao B F L H (s'::sl) (x::σ) O)->ao B F L H (sl.set i s') (σ.set i x) (O1++O2)):=by
 induction h with
 |nil=>intro i e;simp at e
 |un g ih =>
  intro i e
  cases i with
  |zero=>simp only[getElem?_cons_zero] at e;cases e
  |succ i=>obtain⟨O1,O2,p,vs,q,h1,h2,h3,h4⟩:=ih (by simpa using e);exact⟨O1,O2,p,vs,q,h1,h2,λs' x c z=>.un (h3 s' x c z),λs' x z=>.un (h4 s' x z)⟩
 |fz r g ih =>
  intro i e
  cases i with
  |zero=>simp only[getElem?_cons_zero] at e;cases e
  |succ i=>obtain⟨O1,O2,p,vs,q,h1,h2,h3,h4⟩:=ih (by simpa using e);exact⟨O1,O2,p,vs,q,h1,h2,λs' x c z=>.fz r (h3 s' x c z),λs' x z=>.fz r (h4 s' x z)⟩
 |hs r g ih =>
  intro i e
  cases i with
  |zero=>simp only[getElem?_cons_zero] at e;cases e
  |succ i=>obtain⟨O1,O2,p,vs,q,h1,h2,h3,h4⟩:=ih (by simpa using e);exact⟨O1,O2,p,vs,q,h1,h2,λs' x c z=>.hs r (h3 s' x c z),λs' x z=>.hs r (h4 s' x z)⟩
 |nu r g ih =>
  intro i e
  cases i with
  |zero=>simp only[getElem?_cons_zero] at e;cases e
  |succ i=>obtain⟨O1,O2,p,vs,q,h1,h2,h3,h4⟩:=ih (by simpa using e);exact⟨O1,O2,p,vs,q,h1,h2,λs' x c z=>.nu r (h3 s' x c z),λs' x z=>.nu r (h4 s' x z)⟩
 |od r g ih =>
  intro i e
  cases i with
  |zero=>simp only[getElem?_cons_zero] at e;cases e;exact⟨[],_,_,_,rfl,rfl,r,λs' x c z=>z _ _ _ g,λs' x z=>z _ _ _ g⟩
  |succ i=>obtain⟨O1,O2,p,vs,q,h1,h2,h3,h4⟩:=ih (by simpa using e);exact⟨_::O1,O2,p,vs,by rw[q]<;>rfl,h1,h2,λs' x c z=>.od r (h3 s' x c z),λs' x z=>.od r (h4 s' x z)⟩
 |ow r g ih =>
  intro i e
  cases i with
  |zero=>simp only[getElem?_cons_zero] at e;cases e
  |succ i=>obtain⟨O1,O2,p,vs,q,h1,h2,h3,h4⟩:=ih (by simpa using e);exact⟨_::O1,O2,p,vs,by rw[q]<;>rfl,h1,h2,λs' x c z=>.ow r (h3 s' x c z),λs' x z=>.ow r (h4 s' x z)⟩
end
end
section
variable{K:PySem.W.Frag}{B:Bs}{F H F' H' L L':Hp}{O O' O1 O2:Own}{sl:SL K}{σ:St}{p:Addr}{o o':HO}
theorem Xp{α:Type}{a b:List α}{x:α}:(a++x::b).Nodup↔(a++b).Nodup/\x∉a++b:=by
 have q:(a++x::b).Perm (x::(a++b)):=List.perm_middle
 rw[q.nodup_iff,nodup_cons]
 exact⟨λh=>⟨h.2,h.1⟩,λh=>⟨h.2,h.1⟩⟩
theorem Ok.add(k:Ok B F (O1++O2) H)(h:H p=none):Ok B F (O1++(p,o)::O2) (upd H p o):=by
 refine⟨λb u e=>?_,k.h0.put (k.h0.free h) o,k.fa,λx hx=>?_,?_⟩
 ·rw[zV (zS (k.fh b u e) h)];exact k.fh b u e
 ·have hx':x=(p,o)\/x∈O1++O2:=by
   rcases mem_append.mp hx with z|z
   ·exact .inr (mem_append.mpr (.inl z))
   ·rcases mem_cons.mp z with z|z
    ·exact .inl z
    ·exact .inr (mem_append.mpr (.inr z))
  rcases hx' with rfl|hx'
  ·exact⟨k.fh.free h,k.h0.free h,zR⟩
  ·obtain⟨a1,a2,a3⟩:=k.fo x hx'
   exact⟨a1,a2,by rw[zV (zS a3 h)];exact a3⟩
 ·rw[map_append,map_cons,Xp,<-map_append]
  refine⟨k.nd,λz=>?_⟩
  obtain⟨x,hx,e⟩:=mem_map.mp z
  obtain⟨_,_,a3⟩:=k.fo x hx
  have e':x.1=p:=e
  rw[e',h] at a3
  cases a3
theorem Ok.one(k:Ok B F (O1++(p,o)::O2) H):F p=none/\B.H0 p=none/\H p=some o:=k.fo (p,o) (mem_append.mpr (.inr mem_cons_self))
theorem Ok.ndp(k:Ok B F (O1++(p,o)::O2) H):∀x∈O1++O2,x.1≠p:=λx hx e=>by
 have q:=k.nd
 rw[map_append,map_cons,Xp,<-map_append] at q
 exact q.2 (mem_map.mpr ⟨x,hx,e⟩)
theorem Ok.drop(k:Ok B F (O1++(p,o)::O2) H):Ok B F (O1++O2) H:=by
 refine⟨k.fh,k.h0,k.fa,λx hx=>k.fo x ?_,?_⟩
 ·rcases mem_append.mp hx with z|z
  ·exact mem_append.mpr (.inl z)
  ·exact mem_append.mpr (.inr (mem_cons_of_mem _ z))
 ·have q:=k.nd
  rw[map_append,map_cons,Xp,<-map_append] at q
  exact q.1
theorem Ok.chg(k:Ok B F (O1++(p,o)::O2) H)(o':HO):Ok B F (O1++(p,o')::O2) (upd H p o'):=by
 obtain⟨a1,a2,a3⟩:=k.one
 refine⟨k.fh.put a1 o',k.h0.put a2 o',k.fa,λx hx=>?_,?_⟩
 ·have hx':x=(p,o')\/x∈O1++O2:=by
   rcases mem_append.mp hx with z|z
   ·exact .inr (mem_append.mpr (.inl z))
   ·rcases mem_cons.mp z with z|z
    ·exact .inl z
    ·exact .inr (mem_append.mpr (.inr z))
  rcases hx' with rfl|hx'
  ·exact⟨a1,a2,zR⟩
  ·obtain⟨b1,b2,b3⟩:=k.drop.fo x hx'
   exact⟨b1,b2,by rw[zV (k.ndp x hx')];exact b3⟩
 ·have q:=k.nd
  rw[map_append,map_cons] at q ⊢
  exact q
theorem Ok.freeze(k:Ok B F (O1++(p,o)::O2) H):Ok B (upd F p o) (O1++O2) H:=by
 obtain⟨a1,a2,a3⟩:=k.one
 refine⟨λb u e=>?_,k.h0,λb u e=>?_,λx hx=>?_,k.drop.nd⟩
 ·by_cases q:b=p
  ·subst q;rw[zR] at e;cases e;exact a3
  ·rw[zV q] at e;exact k.fh b u e
 ·by_cases q:b=p
  ·subst q;exact .inr a2
  ·rw[zV q] at e;exact k.fa b u e
 ·obtain⟨b1,b2,b3⟩:=k.drop.fo x hx
  exact⟨by rw[zV (k.ndp x hx)];exact b1,b2,b3⟩
theorem Xq(h:H p=none):Same (lo F (O1++O2) H) (lo F (O1++(p,o)::O2) (upd H p o)):=λb u e=>by
 unfold lo at e ⊢
 by_cases q:b=p
 ·subst q
  split at e
  ·cases e
  ·rw[h] at e;cases e
 ·rw[zV q]
  have z:((O1++(p,o)::O2).any λx=>x.1==b)=((O1++O2).any λx=>x.1==b):=by
   rw[any_append,any_append,any_cons]
   have:(p==b)=false:=by simp;exactλe=>q e.symm
   simp[this]
  rw[z]
  exact e
theorem zVj:Same (lo F (O1++(p,o)::O2) H) (lo F (O1++(p,o')::O2) (upd H p o')):=λb u e=>by
 unfold lo at e ⊢
 by_cases q:b=p
 ·subst q
  rw[any_append,any_cons] at e
  simp at e
 ·rw[zV q]
  have z:((O1++(p,o)::O2).any λx=>x.1==b)=((O1++(p,o')::O2).any λx=>x.1==b):=by
   rw[any_append,any_append,any_cons,any_cons]
  rw[<-z]
  exact e
theorem mC:Same (lo F (O1++(p,o)::O2) H) (lo F (O1++O2) H):=λb u e=>by
 unfold lo at e ⊢
 split at e
 ·cases e
 ·rename_i h
  rw[if_neg]
  ·exact e
  ·rw[any_append,any_cons] at h
   rw[any_append]
   simp at h ⊢
   exact⟨h.1,h.2.1,h.2.2.2⟩
theorem pq:Same (lo F (O1++(p,o)::O2) H) (lo (upd F p o) (O1++O2) H):=λb u e=>by
 unfold lo at e ⊢
 split at e
 ·cases e
 ·rename_i h
  rw[any_append,any_cons] at h
  simp at h
  have q:b≠p:=λz=>h.2.2.1 z.symm
  rw[zV q,if_neg]
  ·exact e
  ·rw[any_append]
   simp
   exact⟨h.1,h.2.1,h.2.2.2⟩
theorem Ok.called(k:Ok B F O H)(s:Same H H'):bK B F H O (ext F H H') H':=by
 have e1:∀b o,ext F H H' b=some o->F b=some o\/H b=none:=λb o h=>by
  unfold ext at h
  cases q:H b with
  |none=>exact .inr rfl
  |some u=>rw[q] at h;exact .inl h
 refine⟨λb o h=>?_,s,⟨λb o h=>?_,k.h0.trans s,λb o h=>?_,λx hx=>?_,k.nd⟩,λb h1 h2=>?_⟩
 ·unfold ext
  rw[k.fh b o h]
  exact h
 ·unfold ext at h
  cases q:H b with
  |none=>rw[q] at h;exact h
  |some u=>rw[q] at h;rw[<-k.fh b o h];exact(s b u q).trans q.symm
 ·rcases e1 b o h with z|z
  ·exact k.fa b o z
  ·exact .inr (k.h0.free z)
 ·obtain⟨a1,a2,a3⟩:=k.fo x hx
  refine⟨?_,a2,s _ _ a3⟩
  unfold ext
  rw[a3]
  exact a1
 ·unfold ext
  cases q:H b with
  |none=>exact absurd q h2
  |some u=>exact h1
theorem Xr(h0:Same B.H0 H)(s:Same H H'):Same (dif H' H) (dif (ext F H H') B.H0):=λb o h=>by
 unfold dif at h
 cases q:H b with
 |none =>
  rw[q] at h
  rw[uw (h0.free q)]
  unfold ext
  rw[q]
  exact h
 |some u=>rw[q] at h;cases h
variable{md md1 md2:Md}{α β γ:Type}[Rp K α][Rp K β][Rp K γ]{t t1 t2:TE}{m:Option α}{m1:Option β}{m2:Option γ}
def Ex(B:Bs)(sl:SL K)(md:Md)(t:TE){α:Type}[Rp K α](m:Option α):Prop :=
 ∀a,m=some a->∀(F:Hp)(O:Own)(H:Hp)(σ:St)(Q:VK),At B sl F O H σ->(∀(v:V)(F' H':Hp),bK B F H O F' H'->rp K (reg B F' H' md) v a->Q v H')->t σ H Q
def Et(B:Bs)(sl:SL K)(t:TT)(m:Option Bool):Prop :=
 ∀a,m=some a->∀(F:Hp)(O:Own)(H:Hp)(σ:St)(Q:Bool->Hp->Prop),At B sl F O H σ->(∀(F' H':Hp),bK B F H O F' H'->Q a H')->t σ H Q
inductive Ar(R:Hp):SL K->List V->Prop
 |nil:Ar R [] []
 |cons {n:Bool} {α:Type} [Rp K α] {a:α} {v:V} {sl:SL K} {vs:List V}:rp K R v a->Ar R sl vs->Ar R (.fz n a::sl) (v::vs)
def Ea(B:Bs)(sl:SL K)(md:Md)(t:TA){A:Type}(as:A->SL K)(m:Option A):Prop :=
 ∀a,m=some a->∀(F:Hp)(O:Own)(H:Hp)(σ:St)(Q:List V->Hp->Prop),At B sl F O H σ->(∀(vs:List V)(F' H':Hp),bK B F H O F' H'->Ar (reg B F' H' md) (as a) vs->Q vs H')->t σ H Q
theorem Ex.sc[Sc K α](h:Ex B sl md t m):Ex B sl md1 t m:=λa ha F O H σ Q s k=>h a ha F O H σ Q s λv F' H' g r=>k v F' H' g (Vc r)
theorem Xu[Nn K α](h:Ex B sl md t m):Ex B sl md t (m.bind λa=>some (some a)):=λa ha F O H σ Q s k=>by
 cases m with
 |none=>cases ha
 |some a' =>
  cases(show some (some a')=some a from ha)
  exact h a' rfl F O H σ Q s λv F' H' g r=>k v F' H' g ⟨Nn.nn (K:=K) r,r⟩
theorem yK{n:Bool}{a:α}(i:Nat)(hs:sl[i]?=some (.fz n a)):Ex B sl (ju n) (eO i) (some a):=λa' ha F O H σ Q s k=>by
 cases ha
 obtain⟨v,h1,h2⟩:=s.2.qR hs
 exact⟨v,h1,k v F H (.refl s.1) h2⟩
theorem zE[Sc K α]{n:Bool}{a:α}(i:Nat)(hs:sl[i]?=some (.fz n a)):Ex B sl md (eO i) (some a):=(yK i hs).sc
theorem lo_le:Same (lo F O H) H:=λb o h=>by
 unfold lo at h
 split at h
 ·cases h
 ·exact h
theorem Fz(k:Ok B F O H)(n:Bool):Same (reg B F H (ju n)) H:=match n with
 |true=>aW.trans k.fh
 |false=>k.fh
theorem zD{n:Bool}{a:α}(i:Nat)(hs:sl[i]?=some (.fz n a)):Ex B sl .hp (eO i) (some a):=λa' ha F O H σ Q s k=>by
 cases ha
 obtain⟨v,h1,h2⟩:=s.2.qR hs
 exact⟨v,h1,k v F H (.refl s.1) (Rp.mono (Fz s.1 n) h2)⟩
theorem FJ{a:α}(i:Nat)(hs:sl[i]?=some (.nu a)):Ex B sl .hp (eO i) (some a):=λa' ha F O H σ Q s k=>by
 cases ha
 obtain⟨v,h1,h2⟩:=s.2.Bk hs
 exact⟨v,h1,k v F H (.refl s.1) (Rp.mono (aW.trans lo_le) h2)⟩
theorem Dt{n:Bool}{xs:List α}(i:Nat)(hs:sl[i]?=some (.ow n xs)):Ex B sl .hp (eO i) (some xs):=λa' ha F O H σ Q s k=>by
 cases ha
 obtain⟨O1,O2,p,vs,rfl,h1,h2,_⟩:=s.2.qT hs
 exact⟨_,h1,k _ F H (.refl s.1) ⟨p,vs,rfl,s.1.one.2.2,h2.imp λ_ _=>Rp.mono (Fz s.1 n)⟩⟩
theorem K7[Sc K α](a:α):Ex B sl md (tC (Sc.val K a)) (some a):=λa' ha F O H σ Q s k=>by cases ha;exact k _ F H (.refl s.1) (Sc.is.mpr rfl)
theorem zJ(i:Int):Ex B sl md (tC (.int i)) (some i):=K7 (K:=K) i
theorem oM(i:Bool):Ex B sl md (tC (.bl i)) (some i):=K7 (K:=K) i
theorem K8(i:Str):Ex B sl md (tC (.str i)) (some i):=K7 (K:=K) i
theorem zRl:Ex B sl md (tC .non) (some (none:Option α)):=λa' ha F O H σ Q s k=>by cases ha;exact k _ F H (.refl s.1) rfl
theorem qU{f:β->γ->Option α}(h:(m1.bind λa=>m2.bind λb=>f a b)=some c):∃a b,m1=some a/\m2=some b/\f a b=some c:=by
 cases m1 with
 |none=>cases h
 |some a =>
  cases m2 with
  |none=>cases h
  |some b=>exact⟨a,b,rfl,rfl,h⟩
theorem wz{f:β->γ->Option α}[Sc K α](hr:∀(a:β) (b:γ) (c:α) (v w:V) (H:Hp) (Q:VK),f a b=some c->rp K H v a->rp K H w b->Q (Sc.val K c) H->r v w H Q)(h1:Ex B sl .hp t1 m1)(h2:Ex B sl .hp t2 m2):Ex B sl md (gP r t1 t2) (m1.bind λa=>m2.bind λb=>f a b):=λc hc F O H σ Q s k=>by
 obtain⟨a,b,ha,hb,hf⟩:=qU hc
 refine h1 a ha F O H σ _ s λv F' H' g r1=>?_
 refine h2 b hb F' O H' σ _ (s.grow g) λw F2 H2 g2 r2=>?_
 exact hr a b c v w H2 Q hf (Rp.mono g2.hh r1) r2 (k _ F2 H2 (g.trans g2) (Sc.is.mpr rfl))
theorem yD(h:Ex B sl md t m'):Et B sl (IV t) m':=λc hc F O H σ Q s k=>h c hc F O H σ _ s λv F' H' g r=>⟨c,r,k F' H' g⟩
theorem aR(h:Ex B sl md t m'):Et B sl (tB t) m':=λc hc F O H σ Q s k=>h c hc F O H σ _ s λv F' H' g r=>⟨c,r,k F' H' g⟩
theorem w5{t:TT}{n:Option Bool}(h:Et B sl t n):Et B sl (Qt t) (n.bind λc=>some !c):=λc hc F O H σ Q s k=>by
 cases n with
 |none=>cases hc
 |some c' =>
  cases(show some (!c')=some c from hc)
  exact h c' rfl F O H σ _ s λF' H' g=>k F' H' g
theorem zVn(h:Ex B sl .hp t n):Ex B sl md (Ip t) (n.bind λc=>some !c):=λc hc F O H σ Q s k=>by
 cases n with
 |none=>cases hc
 |some c' =>
  cases(show some (!c')=some c from hc)
  refine h c' rfl F O H σ _ s λv F' H' g r=>?_
  cases r
  exact⟨c',rfl,k _ F' H' g rfl⟩
theorem Rm{t u:TT}{n n':Option Bool}(h:Et B sl t n)(h':Et B sl u n'):Et B sl (Qs t u) (n.bind λc=>if c=true then n' else some false):=λc hc F O H σ Q s k=>by
 cases n with
 |none=>cases hc
 |some c' =>
  refine h c' rfl F O H σ _ s λF' H' g=>?_
  cases c' with
  |true=>exact pP (h' c (by simpa using hc) F' O H' σ _ (s.grow g) λF2 H2 g2=>k F2 H2 (g.trans g2))
  |false=>cases(show some false=some c from by simpa using hc);exact pO (k F' H' g)
theorem FN{t u:TT}{n n':Option Bool}(h:Et B sl t n)(h':Et B sl u n'):Et B sl (tOr t u) (n.bind λc=>if c=true then some true else n'):=λc hc F O H σ Q s k=>by
 cases n with
 |none=>cases hc
 |some c' =>
  refine h c' rfl F O H σ _ s λF' H' g=>?_
  cases c' with
  |true=>cases(show some true=some c from by simpa using hc);exact pP (k F' H' g)
  |false=>exact pO (h' c (by simpa using hc) F' O H' σ _ (s.grow g) λF2 H2 g2=>k F2 H2 (g.trans g2))
theorem K9(h:Ex B sl .hp t1 n)(h':Ex B sl .hp t2 n'):Ex B sl md (Io t1 t2) (n.bind λc=>if c=true then n' else some false):=λc hc F O H σ Q s k=>by
 cases n with
 |none=>cases hc
 |some c' =>
  refine h c' rfl F O H σ _ s λv F' H' g r=>?_
  cases r
  refine⟨c',rfl,?_⟩
  cases c' with
  |true=>exact pP (h' c (by simpa using hc) F' O H' σ _ (s.grow g) λv F2 H2 g2 r2=>k v F2 H2 (g.trans g2) (Vc r2))
  |false=>cases(show some false=some c from by simpa using hc);exact pO (k _ F' H' g rfl)
theorem zVp{t:TT}{n:Option Bool}{m m':Option α}(h:Et B sl t n)(h1:Ex B sl md t1 m)(h2:Ex B sl md t2 m'):Ex B sl md (tIf t t1 t2) (n.bind λc=>if c=true then m else m'):=λc hc F O H σ Q s k=>by
 cases n with
 |none=>cases hc
 |some c' =>
  refine h c' rfl F O H σ _ s λF' H' g=>?_
  cases c' with
  |true=>exact pP (h1 c (by simpa using hc) F' O H' σ _ (s.grow g) λv F2 H2 g2 r2=>k v F2 H2 (g.trans g2) r2)
  |false=>exact pO (h2 c (by simpa using hc) F' O H' σ _ (s.grow g) λv F2 H2 g2 r2=>k v F2 H2 (g.trans g2) r2)
theorem zQ:Ea B sl md bO (λ_:Unit=>[]) (some ()):=λa ha F O H σ Q s k=>k [] F H (.refl s.1) .nil
theorem zH{A:Type}{as:A->SL K}{ma:Option A}(h1:Ex B sl md t m)(h2:Ea B sl md tr as ma):Ea B sl md (xZ t tr) (λx:α×A=>.fz false x.1::as x.2) (m.bind λa=>ma.bind λb=>some (a,b)):=λc hc F O H σ Q s k=>by
 cases m with
 |none=>cases hc
 |some a =>
  cases ma with
  |none=>cases hc
  |some b =>
   cases(show some (a,b)=some c from hc)
   refine h1 a rfl F O H σ _ s λv F' H' g r1=>?_
   refine h2 b rfl F' O H' σ _ (s.grow g) λvs F2 H2 g2 r2=>?_
   exact k (v::vs) F2 H2 (g.trans g2) (.cons (Rp.mono (xO g2 md) r1) r2)
theorem Rn(k:Ok B F O H)(h:H p=none)(md:Md):reg B (upd F p o) (upd H p o) md p=some o:=match md with
 |.nw=>by show dif (upd F p o) B.H0 p=_;rw[uw (k.h0.free h)];exact zR
 |.fz=>zR
 |.hp=>zR
def cap:Nat:=100000
theorem K_(h:n<cap):n<sizeLine:=adk h (by decide)
theorem La(h:n<=cap):n<=sizeLine:=aaz h (by decide)
def El(B:Bs)(sl:SL K)(md:Md)(t:TA){α:Type}[Rp K α](m:Option (List α)):Prop :=
 ∀a,m=some a->∀(F:Hp)(O:Own)(H:Hp)(σ:St)(Q:List V->Hp->Prop),At B sl F O H σ->(∀(vs:List V)(F' H':Hp),bK B F H O F' H'->A2 (rp K (reg B F' H' md)) vs a->Q vs H')->t σ H Q
theorem Vd:El B sl md bO (some ([]:List α)):=λa ha F O H σ Q s k=>by cases ha;exact k [] F H (.refl s.1) trivial
theorem uF(h1:Ex B sl md t m)(h2:El B sl md tr ma):El B sl md (xZ t tr) (m.bind λa=>ma.bind λb=>some (a::b)):=λc hc F O H σ Q s k=>by
 cases m with
 |none=>cases hc
 |some a =>
  cases ma with
  |none=>cases hc
  |some b =>
   cases(show some (a::b)=some c from hc)
   refine h1 a rfl F O H σ _ s λv F' H' g r1=>?_
   refine h2 b rfl F' O H' σ _ (s.grow g) λvs F2 H2 g2 r2=>?_
   exact k (v::vs) F2 H2 (g.trans g2) ⟨Rp.mono (xO g2 md) r1,r2⟩
def Eo(B:Bs)(sl:SL K)(md:Md)(t:TE){α:Type}[Rp K α](m:Option (List α)):Prop :=
 ∀a,m=some a->∀(F:Hp)(O:Own)(H:Hp)(σ:St)(Q:VK),At B sl F O H σ->(∀(p:Addr)(vs:List V)(F' H':Hp),bK B F H O F' H'->H' p=none->A2 (rp K (reg B F' H' md)) vs a->Q (.ref p) (upd H' p (.lst vs)))->t σ H Q
theorem Eo.ex{m:Option (List α)}(h:Eo B sl md t m):Ex B sl md t m:=λa ha F O H σ Q s k=>h a ha F O H σ Q s λp vs F' H' g hp r=>by
 have g2:=bK.new g.ok hp (.lst vs)
 exact k _ _ _ (g.trans g2) ⟨p,vs,rfl,Rn g.ok hp md,r.imp λ_ _=>Rp.mono (xO g2 md)⟩
theorem uQ:Eo B sl md (KC bO) (some ([]:List α)):=λa ha F O H σ Q s k=>by
 cases ha
 exact⟨abf _,λp hp=>k p [] F H (.refl s.1) hp trivial⟩
theorem Ve{t:TA}{ma:Option (List α)}(h:El B sl md t ma)(hl:∀a,ma=some a->a.length<=cap):Eo B sl md (KC t) ma:=λa ha F O H σ Q s k =>
 h a ha F O H σ _ s λvs F' H' g r=>⟨by rw[r.len];exact La (hl a ha),λp hp=>k p vs F' H' g hp r⟩
theorem Lb(h1:Ex B sl md t1 m1)(h2:Ex B sl md t2 m2):Ex B sl md (Aq (xZ t1 (xZ t2 bO))) (m1.bind λa=>m2.bind λb=>some (a,b)):=λc hc F O H σ Q s kk=>by
 obtain⟨a,b,ha,hb,hf⟩:=qU hc
 cases hf
 refine h1 a ha F O H σ _ s λv F' H' g r1=>?_
 refine h2 b hb F' O H' σ _ (s.grow g) λw F2 H2 g2 r2=>?_
 refine⟨by show 2<=sizeLine;decide,λp hp=>?_⟩
 have g3:=bK.new g2.ok hp (.tup [v,w])
 exact kk _ _ _ (g.trans (g2.trans g3)) ⟨p,v,w,rfl,Rn g2.ok hp md,Rp.mono (xO (g2.trans g3) md) r1,Rp.mono (xO g3 md) r2⟩
def cj(K:PySem.W.Frag)(al:Bool){A β:Type}[Rp K β](as:A->SL K)(f:A->Option β):Sp:=λvs H Q _ =>
 ∃a b Fa,Same Fa H/\f a=some b/\Ar Fa (as a) vs/\∀v H',Same H H'->rp K (if al=true then ext Fa H H' else dif H' H) v b->Q v H'
theorem zN{A:Type}{as:A->SL K}{f:A->Option β}{ma:Option A}(h:Ea B sl .hp ta as ma):Ex B sl md (QG (cj K false as f) [] E0 ta) (ma.bind f):=λc hc F O H σ Q s kk=>by
 cases ma with
 |none=>cases hc
 |some a =>
  refine h a rfl F O H σ _ s λvs F' H' g r=>?_
  rw[append_nil]
  refine⟨a,c,H',.refl _,hc,r,λv H2 s2 r2=>?_⟩
  have g2:=g.ok.called s2
  refine kk v _ H2 (g.trans g2) ?_
  have r3:=Rp.mono (Xr (F:=F') g.ok.h0 s2) r2
  exact match md with
  |.nw=>r3
  |.fz=>Rp.mono aW r3
  |.hp=>Rp.mono (aW.trans g2.ok.fh) r3
end
def push{α:Type}(xs:List α)(a:α):Option (List α):=if xs.length<cap then some (xs++[a]) else none
def w6{α:Type}(xs:List α)(i:Int)(a:α):Option (List α):=(rP xs.length i).bind λj=>some (xs.set j a)
def wV(n:Int):Option LI:=if -(2^62)<=n/\n<2^62 then some ((aat n.toNat).map adi) else none
def xH{S α:Type}(step:S->α->Option S):List α->S->Option S
 |[],s=>some s
 |x::xs,s=>(step s x).bind λs'=>xH step xs s'
inductive Out(S β:Type)|nx (s:S)|rt (b:β)
def uN{S α β:Type}(step:S->α->Option (Out S β)):List α->S->Option (Out S β)
 |[],s=>some (.nx s)
 |x::xs,s=>(step s x).bind λo=>match o with
  |.nx s'=>uN step xs s'
  |.rt b=>some (.rt b)
def FQ{S:Type}(c:S->Option Bool)(body:S->Option S):Nat->S->Option S
 |0,_=>none
 |k+1,s=>(c s).bind λb=>if b=true then(body s).bind λs'=>FQ c body k s' else some s
def wJ{α β:Type}(c:α->Option Bool)(f:α->Option β):List α->Option (List β)
 |[]=>some []
 |x::xs=>(c x).bind λb=>if b=true then(f x).bind λy=>(wJ c f xs).bind λys=>some (y::ys) else wJ c f xs
def Out.els{S β:Type}(o:Out S β)(f:S->Option β):Option β:=match o with
 |.nx s=>f s
 |.rt b=>some b
def Out.aP{S S' β:Type}(o:Out S β)(f:S->Option (Out S' β)):Option (Out S' β):=match o with
 |.nx s=>f s
 |.rt b=>some (.rt b)
theorem Xv{S α:Type}(step:S->α->Option S):∀(xs ys:List α)(s:S),xH step (xs++ys) s=(xH step xs s).bind λs'=>xH step ys s'
 |[],ys,s=>rfl
 |x::xs,ys,s=>by
  show(step s x).bind _=((step s x).bind _).bind _
  cases step s x with
  |none=>rfl
  |some s'=>exact Xv step xs ys s'
theorem zGo{S α:Type}{step:S->α->Option S}{xs:List α}{s s1:S}(h:xH step xs s=some s1){x:α}(hx:xs[i]?=some x):∃a b,xH step (xs.take i) s=some a/\step a x=some b/\xH step (xs.take (i+1)) s=some b:=by
 have e:xs=xs.take (i+1)++xs.drop (i+1):=(take_append_drop _ _).symm
 have e2:xs.take (i+1)=xs.take i++[x]:=by rw[take_add_one,hx]<;>rfl
 rw[e,Xv] at h
 cases q:xH step (xs.take (i+1)) s with
 |none=>rw[q] at h;cases h
 |some b =>
  have q':=q
  rw[e2,Xv] at q'
  cases z:xH step (xs.take i) s with
  |none=>rw[z] at q';cases q'
  |some a =>
   rw[z] at q'
   have q2:(step a x).bind (λs'=>some s')=some b:=q'
   refine⟨a,b,rfl,?_,rfl⟩
   cases w:step a x with
   |none=>rw[w] at q2;cases q2
   |some c=>rw[w] at q2;exact q2
section
variable{K:PySem.W.Frag}{B:Bs}{F H F' H' G:Hp}{O:Own}{sl sl2:SL K}{σ:St}{md:Md}{α β γ:Type}[Rp K α][Rp K β][Rp K γ]{t u v:TS}{te:TE}{m:Option α}{S S':Type}{al:Bool}
def Sg(B:Bs)(G:Hp)(sl:SL K)(σ:St)(H:Hp):Prop:=∃F O,Same G F/\At B sl F O H σ
def Rt(K:PySem.W.Frag){β:Type}[Rp K β](B:Bs)(al:Bool)(b:β)(v:V)(H':Hp):Prop:=Same B.H0 H'/\rp K (if al=true then ext B.Fa B.H0 H' else dif H' B.H0) v b
def Sn(B:Bs)(sl:SL K)(t:TS){S:Type}(L:S->SL K)(m:Option S):Prop :=
 ∀a,m=some a->∀(G:Hp)(D:Ends)(σ:St)(H:Hp),Sg B G sl σ H->(∀σ' H',Sg B G (L a) σ' H'->D.nx σ' H')->t D σ H
def SB(B:Bs)(sl:SL K)(t:TS)(al:Bool){β:Type}[Rp K β](m:Option β):Prop :=
 ∀b,m=some b->∀(G:Hp)(D:Ends)(σ:St)(H:Hp),Sg B G sl σ H->(∀v H',Rt K B al b v H'->D.rt v H')->t D σ H
def XE(B:Bs)(G:Hp)(al:Bool)(L:S->SL K)(D:Ends)(o:Out S β):Prop:=match o with
 |.nx s=>∀σ' H',Sg B G (L s) σ' H'->D.nx σ' H'
 |.rt b=>∀v H',Rt K B al b v H'->D.rt v H'
def Sx(B:Bs)(sl:SL K)(t:TS)(al:Bool){S β:Type}[Rp K β](L:S->SL K)(m:Option (Out S β)):Prop :=
 ∀o,m=some o->∀(G:Hp)(D:Ends)(σ:St)(H:Hp),Sg B G sl σ H->XE B G al L D o->t D σ H
theorem SB.of(h:SB B sl t al m)(q:m=m'):SB B sl t al m':=q▸h
theorem Sn.of(h:Sn B sl t L m)(q:m=m'):Sn B sl t L m':=q▸h
inductive Le:SL K->SL K->Prop
 |nil:Le [] []
 |eq {s:Slot K} {a b:SL K}:Le a b->Le (s::a) (s::b)
 |un {s:Slot K} {a b:SL K}:Le a b->Le (s::a) (.un::b)
 |fr {n:Bool} {α:Type} [Rp K α] {xs:List α} {a b:SL K}:Le a b->Le (.ow n xs::a) (.fz n xs::b)
 |old {α:Type} [Rp K α] {x:α} {a b:SL K}:Le a b->Le (.fz true x::a) (.fz false x::b)
theorem ao.le(h:Le sl sl2):∀{F:Hp}{σ:St}{O:Own},Ok B F (P++O) H->ao B F (lo F (P++O) H) H sl σ O->∃F' O',Same F F'/\Ok B F' (P++O') H/\Same (lo F (P++O) H) (lo F' (P++O') H)/\ao B F' (lo F' (P++O') H) H sl2 σ O':=by
 induction h generalizing P with
 |nil=>intro F σ O k h;cases h;exact⟨F,[],.refl _,k,.refl _,.nil⟩
 |eq _ ih =>
  intro F σ O k h
  cases h with
  |un h=>obtain⟨F',O',a,b,c,d⟩:=ih k h;exact⟨F',O',a,b,c,.un d⟩
  |fz r h=>obtain⟨F',O',a,b,c,d⟩:=ih k h;exact⟨F',O',a,b,c,.fz (Rp.mono (vY _ a) r) d⟩
  |hs r h=>obtain⟨F',O',a,b,c,d⟩:=ih k h;exact⟨F',O',a,b,c,.hs r d⟩
  |nu r h=>obtain⟨F',O',a,b,c,d⟩:=ih k h;exact⟨F',O',a,b,c,.nu (Rp.mono (vD c) r) d⟩
  |@ow _ _ _ _ _ _ O p vs r h =>
   have e:P++(p,HO.lst vs)::O=(P++[(p,HO.lst vs)])++O:=by simp
   rw[e] at k h
   obtain⟨F',O',a,b,c,d⟩:=ih k h
   have e':(P++[(p,HO.lst vs)])++O'=P++(p,HO.lst vs)::O':=by simp
   rw[e'] at b c d
   rw[<-e] at c
   exact⟨F',_::O',a,b,c,.ow (r.imp λ_ _=>Rp.mono (vY _ a)) d⟩
  |@od _ _ _ _ _ O p vs r h =>
   have e:P++(p,HO.dK vs)::O=(P++[(p,HO.dK vs)])++O:=by simp
   rw[e] at k h
   obtain⟨F',O',a,b,c,d⟩:=ih k h
   have e':(P++[(p,HO.dK vs)])++O'=P++(p,HO.dK vs)::O':=by simp
   rw[e'] at b c d
   rw[<-e] at c
   exact⟨F',_::O',a,b,c,.od (r.imp λ_ _ z=>⟨z.1,Rp.mono a z.2⟩) d⟩
 |un _ ih =>
  intro F σ O k h
  cases h with
  |un h=>obtain⟨F',O',a,b,c,d⟩:=ih k h;exact⟨F',O',a,b,c,.un d⟩
  |fz r h=>obtain⟨F',O',a,b,c,d⟩:=ih k h;exact⟨F',O',a,b,c,.un d⟩
  |hs r h=>obtain⟨F',O',a,b,c,d⟩:=ih k h;exact⟨F',O',a,b,c,.un d⟩
  |nu r h=>obtain⟨F',O',a,b,c,d⟩:=ih k h;exact⟨F',O',a,b,c,.un d⟩
  |ow r h=>obtain⟨F',O',a,b,c,d⟩:=ih k.drop (h.mono (.refl _) mC (.refl _));exact⟨F',O',a,b,mC.trans c,.un d⟩
  |od r h=>obtain⟨F',O',a,b,c,d⟩:=ih k.drop (h.mono (.refl _) mC (.refl _));exact⟨F',O',a,b,mC.trans c,.un d⟩
 |@fr n _ _ _ _ _ _ ih =>
  intro F σ O k h
  cases h with
  |@ow _ _ _ _ _ _ O p vs r h =>
   obtain⟨a1,a2,a3⟩:=k.one
   have sf:Same F (upd F p (.lst vs)):=aL a1 _
   obtain⟨F',O',a,b,c,d⟩:=ih k.freeze (h.mono sf pq (.refl _))
   refine⟨F',O',sf.trans a,b,pq.trans c,.fz ⟨p,vs,rfl,?_,r.imp λ_ _=>Rp.mono (vY _ (sf.trans a))⟩ d⟩
   cases n with
   |true=>exact(uw a2).trans (a _ _ zR)
   |false=>exact a _ _ zR
 |old _ ih =>
  intro F σ O k h
  cases h with
  |fz r h=>obtain⟨F',O',a,b,c,d⟩:=ih k h;exact⟨F',O',a,b,c,.fz (Rp.mono (aW.trans a) r) d⟩
theorem Sg.le(h:Sg B G sl σ H)(l:Le sl sl2):Sg B G sl2 σ H:=by
 obtain⟨F,O,g,k,s⟩:=h
 obtain⟨F',O',a,b,_,d⟩:=ao.le (P:=[]) l k s
 exact⟨F',O',g.trans a,b,d⟩
theorem Sg.grow(g:Same G F)(h:At B sl F O' H σ)(gr:bK B F H O' F' H'):Sg B G sl σ H':=⟨F',O',g.trans gr.ff,h.grow gr⟩
theorem zT(L:S->SL K)(s:S)(h:Le sl (L s)):Sn B sl Qu L (some s):=λa ha G D σ H q k=>by cases ha;exact k σ H (q.le h)
theorem zL{f:S->Option S'}(h1:Sn B sl t L m1)(h2:∀s,Sn B (L s) u L' (f s)):Sn B sl (oH t u) L' (m1.bind f):=λa ha G D σ H q k=>by
 cases m1 with
 |none=>cases ha
 |some s=>exact h1 s rfl G _ σ H q λσ' H' q'=>h2 s a ha G D σ' H' q' k
theorem zM{f:S->Option β}(h1:Sn B sl t L m1)(h2:∀s,SB B (L s) u al (f s)):SB B sl (oH t u) al (m1.bind f):=λa ha G D σ H q k=>by
 cases m1 with
 |none=>cases ha
 |some s=>exact h1 s rfl G _ σ H q λσ' H' q'=>h2 s a ha G D σ' H' q' k
theorem Xw{f:S->Option (Out S' β)}(h1:Sn B sl t L m1)(h2:∀s,Sx B (L s) u al L' (f s)):Sx B sl (oH t u) al L' (m1.bind f):=λa ha G D σ H q k=>by
 cases m1 with
 |none=>cases ha
 |some s=>exact h1 s rfl G _ σ H q λσ' H' q'=>h2 s a ha G D σ' H' q' k
theorem Ro{f:S->Option β}(h1:Sx B sl t al L m1)(h2:∀s,SB B (L s) u al (f s)):SB B sl (oH t u) al (m1.bind λo=>o.els f):=λa ha G D σ H q k=>by
 cases m1 with
 |none=>cases ha
 |some o =>
  cases o with
  |nx s=>exact h1 _ rfl G _ σ H q λσ' H' q'=>h2 s a ha G D σ' H' q' k
  |rt b=>cases ha;exact h1 _ rfl G { D with nx:=u D } σ H q k
theorem Rq(L:S->SL K)(s:S)(h:Le sl (L s)):Sx B sl Qu al L (some (.nx s):Option (Out S β)):=λa ha G D σ H q k=>by cases ha;exact k σ H (q.le h)
theorem Bp(k:Ok B F' O H')(n:Bool){v:V}{b:β}(r:rp K (reg B F' H' (ju n)) v b)(hn:n=!al):Rt K B al b v H':=by
 refine⟨k.h0,?_⟩
 cases al with
 |false=>subst hn;exact Rp.mono (vD k.fh) r
 |true =>
  subst hn
  refine Rp.mono (λb o h=>?_) r
  have h:F' b=some o:=h
  show ext B.Fa B.H0 H' b=some o
  unfold ext
  cases q:B.H0 b with
  |none=>exact k.fh b o h
  |some u =>
   rcases k.fa b o h with z|z
   ·exact z
   ·rw[q] at z;cases z
theorem zX(h:Ex B sl (ju !al) te m):SB B sl (oH (Ec te) u) al m:=λb hb G D σ H s k=>by
 obtain⟨F,O,g,a⟩:=s
 exact h b hb F O H σ _ a λv F' H' gr r=>k v H' (Bp gr.ok (!al) r rfl)
theorem FT(h:F p=none):Same (dif F H0) (dif (upd F p o) H0):=vD (aL h o)
theorem FW{n:Bool}{xs:List α}(i:Nat)(hs:sl[i]?=some (.ow n xs))(hn:n=!al):SB B sl (oH (Ec (eO i)) u) al (some xs):=λb hb G D σ H s k=>by
 cases hb
 obtain⟨F,O,g,a⟩:=s
 obtain⟨O1,O2,p,vs,rfl,h1,h2,_⟩:=a.2.qT hs
 obtain⟨a1,a2,a3⟩:=a.1.one
 refine⟨_,h1,k _ H (Bp a.1.freeze n ⟨p,vs,rfl,?_,h2.imp λ_ _=>Rp.mono ?_⟩ hn)⟩
 ·cases n with
  |true=>exact(uw a2).trans zR
  |false=>exact zR
 ·cases n with
  |true=>exact FT a1
  |false=>exact aL a1 _
theorem wT(hc:Et B sl c n)(h1:Sn B sl t L m1)(h2:Sn B sl u L m2):Sn B sl (Ed c t u) L (n.bind λb=>if b=true then m1 else m2):=λa ha G D σ H s k=>by
 cases n with
 |none=>cases ha
 |some b =>
  obtain⟨F,O,g,z⟩:=s
  refine hc b rfl F O H σ _ z λF' H' gr=>?_
  cases b with
  |true=>exact pP (h1 a (by simpa using ha) G D σ H' (Sg.grow g z gr) k)
  |false=>exact pO (h2 a (by simpa using ha) G D σ H' (Sg.grow g z gr) k)
theorem vJ{c:TT}{n:Option Bool}{m1 m2:Option β}(hc:Et B sl c n)(h1:SB B sl t al m1)(h2:SB B sl u al m2):SB B sl (oH (Ed c t Qu) u) al (n.bind λb=>if b=true then m1 else m2):=λa ha G D σ H s k=>by
 cases n with
 |none=>cases ha
 |some b =>
  obtain⟨F,O,g,z⟩:=s
  refine hc b rfl F O H σ _ z λF' H' gr=>?_
  cases b with
  |true=>exact pP (h1 a (by simpa using ha) G _ σ H' (Sg.grow g z gr) k)
  |false=>exact pO (h2 a (by simpa using ha) G D σ H' (Sg.grow g z gr) k)
theorem Jd{c:TT}{n:Option Bool}{m1:Option β}{L:S->SL K}{m2:Option (Out S β)}(hc:Et B sl c n)(h1:SB B sl t al m1)(h2:Sx B sl u al L m2) :
  Sx B sl (oH (Ed c t Qu) u) al L (n.bind λb=>if b=true then m1.bind λb=>some (.rt b) else m2):=λa ha G D σ H s k=>by
 cases n with
 |none=>cases ha
 |some b =>
  obtain⟨F,O,g,z⟩:=s
  refine hc b rfl F O H σ _ z λF' H' gr=>?_
  cases b with
  |true =>
   have e:=(show(m1.bind λb=>some (Out.rt b))=some a by simpa using ha)
   cases m1 with
   |none=>cases e
   |some b=>cases e;exact pP (h1 b rfl G _ σ H' (Sg.grow g z gr) k)
  |false=>exact pO (h2 a (by simpa using ha) G D σ H' (Sg.grow g z gr) k)
theorem Sg.set{s:Slot K}{i:Nat}{n:Bool}{a:α}{v:V}{O:Own}(g:Same G F)(h:At B sl F O H σ)(hs:sl[i]?=some s)(ho:lY s=false)(r:rp K (reg B F H (ju n)) v a):Sg B G (sl.set i (.fz n a)) (σ.set i (some v)) H :=
 ⟨F,O,g,h.1,h.2.put (λ_ _ _ z=>.fz r z) hs ho⟩
theorem zZ(n:Bool)(i:Nat)(hs:sl[i]?=some s)(ho:lY s=false)(h:Ex B sl (ju n) te m):Sn B sl (mH te (ug i)) (λa=>sl.set i (.fz n a)) m:=λa ha G D σ H s k=>by
 obtain⟨F,O,g,z⟩:=s
 exact h a ha F O H σ _ z λv F' H' gr r=>k _ _ (Sg.set (g.trans gr.ff) (z.grow gr) hs ho r)
theorem O7(h:Ex B sl md te m):Sn B sl (Ot te) (λ_=>sl) m:=λa ha G D σ H s k=>by
 obtain⟨F,O,g,z⟩:=s
 exact h a ha F O H σ _ z λv F' H' gr r=>k _ _ (Sg.grow g z gr)
theorem At.own{s:Slot K}{i:Nat}{n:Bool}{xs:List α}{vs:List V}{p:Addr}(h:At B sl F O H σ)(hs:sl[i]?=some s)(ho:lY s=false)(hp:H p=none)(r:A2 (rp K (reg B F H (ju n))) vs xs) :
  ∃O',At B (sl.set i (.ow n xs)) F O' (upd H p (.lst vs)) (σ.set i (some (.ref p))):=by
 obtain⟨k,z0⟩:=h
 obtain⟨O1,O2,rfl,z⟩:=z0.own (s':=.ow n xs) (x:=some (.ref p)) (c:=(p,.lst vs)) (λ_ _ _ z=>.ow r z) hs ho
 exact⟨_,k.add hp,z.mono (.refl _) (Xq hp) (aL hp _)⟩
theorem uP{s:Slot K}{m:Option (List α)}(n:Bool)(i:Nat)(hs:sl[i]?=some s)(ho:lY s=false)(h:Eo B sl (ju n) te m):Sn B sl (mH te (ug i)) (λa=>sl.set i (.ow n a)) m:=λa ha G D σ H s k=>by
 obtain⟨F,O,g,z⟩:=s
 refine h a ha F O H σ _ z λp vs F' H' gr hp r=>k _ _ ?_
 obtain⟨O',z'⟩:=(z.grow gr).own hs ho hp r
 exact⟨F',O',g.trans gr.ff,z'⟩
theorem Xx(i:Nat)(hs:sl[i]?=some s)(ho:lY s=false):Sn B sl (mH zU5 (ug i)) (λ_=>sl.set i (.od ([]:List (Key×α)))) (some ()):=λa ha G D σ H s k=>by
 obtain⟨F,O,g,k0,z0⟩:=s
 intro p hp
 refine k _ _ ?_
 obtain⟨O1,O2,rfl,z'⟩:=z0.own (s':=.od ([]:List (Key×α))) (x:=some (.ref p)) (c:=(p,.dK [])) (λ_ _ _ z=>.od trivial z) hs ho
 exact⟨F,_,g,k0.add hp,z'.mono (.refl _) (Xq hp) (aL hp _)⟩
theorem Xy{α:Type}:∀{l:List α}{i:Nat}{x:α},l[i]?=some x->l.set i x=l
 |[],_,_,h=>by simp at h
 |_::_,0,_,h=>by simp at h;subst h;rfl
 |_::l,i+1,_,h=>congrArg _ (Xy (l:=l) (i:=i) (by simpa using h))
theorem Xz{P:Slot K->Bool}(hs:P s=true):∀{l:SL K}{i:Nat},l.all P=true->(l.set i s).all P=true
 |[],_,h=>h
 |_::_,0,h=>by rw[all_cons,aas] at h;rw[List.set_cons_zero,all_cons,aas];exact⟨hs,h.2⟩
 |_::l,i+1,h=>by rw[all_cons,aas] at h;rw[List.set_cons_succ,all_cons,aas];exact⟨h.1,Xz hs h.2⟩
theorem At.chg{i:Nat}{n:Bool}{xs:List α}(h:At B sl F O H σ)(hs:sl[i]?=some (.ow n xs))(hh:sl.all (λs=>!kE s)=true):∃p vs,σ[i]?=some (some (.ref p))/\H p=some (.lst vs)/\A2 (rp K (reg B F H (ju n))) vs xs /\
  ∀(ws:List V)(ys:List α),A2 (rp K (reg B F H (ju n))) ws ys->∃O',At B (sl.set i (.ow n ys)) F O' (upd H p (.lst ws)) σ:=by
 obtain⟨k,z0⟩:=h
 obtain⟨O1,O2,p,vs,rfl,h1,h2,h3,_⟩:=z0.qT hs
 refine⟨p,vs,h1,k.one.2.2,h2,λws ys r=>⟨_,k.chg (.lst ws),?_⟩⟩
 have z:=h3 (.ow n ys) (some (.ref p)) (p,.lst ws) λ_ _ _ z=>.ow r z
 rw[Xy h1] at z
 exact z.mut zVj (Xz rfl hh)
theorem At.FZ(h:At B sl F O H σ)(hs:sl[i]?=some (.od kvs))(hh:sl.all (λs=>!kE s)=true):∃p ks,σ[i]?=some (some (.ref p))/\H p=some (.dK ks)/\A2 (λ(x:Key×V) (y:Key×α)=>x.1=y.1/\rp K F x.2 y.2) ks kvs /\
  ∀(ws:List (Key×V))(ys:List (Key×α)),A2 (λ(x:Key×V) (y:Key×α)=>x.1=y.1/\rp K F x.2 y.2) ws ys->∃O',At B (sl.set i (.od ys)) F O' (upd H p (.dK ws)) σ:=by
 obtain⟨k,z0⟩:=h
 obtain⟨O1,O2,p,vs,rfl,h1,h2,h3,_⟩:=z0.Bo hs
 refine⟨p,vs,h1,k.one.2.2,h2,λws ys r=>⟨_,k.chg (.dK ws),?_⟩⟩
 have z:=h3 (.od ys) (some (.ref p)) (p,.dK ws) λ_ _ _ z=>.od r z
 rw[Xy h1] at z
 exact z.mut zVj (Xz rfl hh)
theorem wO(i:Nat)(hs:sl[i]?=some (.ow n xs))(hh:sl.all (λs=>!kE s)=true)(h:Ex B sl (ju n) te m) :
  Sn B sl (Ot (QX K "list" zP3 (eO i) (xZ te bO))) (λys=>sl.set i (.ow n ys)) (m.bind λa=>push xs a):=λys ha G D σ H s k=>by
 cases m with
 |none=>cases ha
 |some a =>
  have ha':push xs a=some ys:=ha
  unfold push at ha'
  split at ha'
  case isFalse=>cases ha'
  rename_i hl
  cases ha'
  obtain⟨F,O,g,z⟩:=s
  obtain⟨p,vs,h1,h2,h3,_⟩:=z.chg hs hh
  refine⟨_,h1,.inl ⟨rfl,_,bw.of h2⟩,?_⟩
  refine h a rfl F O H σ _ z λv F' H' gr r=>?_
  obtain⟨p',vs',h1',h2',h3',h4'⟩:=(z.grow gr).chg hs hh
  have e:=h1.symm.trans h1'
  cases e
  obtain⟨O',z'⟩:=h4' (vs'++[v]) (xs++[a]) (h3'.snoc r)
  exact⟨p,vs',v,rfl,rfl,h2',K_ (by rw[h3'.len];exact hl),k _ _ ⟨F',O',g.trans gr.ff,z'⟩⟩
theorem Vf(i:Nat)(hs:sl[i]?=some (.ow n xs))(hh:sl.all (λs=>!kE s)=true)(hv:Ex B sl (ju n) te m)(hi:Ex B sl .hp ti mi) :
  Sn B sl (mH te (Qx (eO i) ti A_)) (λys=>sl.set i (.ow n ys)) (m.bind λa=>mi.bind λk=>w6 xs k a):=λys ha G D σ H s k=>by
 cases m with
 |none=>cases ha
 |some a =>
  cases mi with
  |none=>cases ha
  |some ix =>
   have ha':w6 xs ix a=some ys:=ha
   obtain⟨F,O,g,z⟩:=s
   refine hv a rfl F O H σ _ z λv F' H' gr r=>?_
   obtain⟨p,vs,h1,h2,h3,_⟩:=(z.grow gr).chg hs hh
   refine⟨_,h1,?_⟩
   refine hi ix rfl F' O H' σ _ (z.grow gr) λw F2 H2 ux rw=>?_
   cases rw
   obtain⟨p',vs',h1',h2',h3',h4'⟩:=((z.grow gr).grow ux).chg hs hh
   have e:=h1.symm.trans h1'
   cases e
   unfold w6 at ha'
   cases ej:rP xs.length ix with
   |none=>rw[ej] at ha';cases ha'
   |some jj =>
    rw[ej] at ha'
    cases ha'
    obtain⟨O',z'⟩:=h4' (vs'.set jj v) (xs.set jj a) (h3'.set (Rp.mono (xO ux (ju n)) r) jj)
    exact⟨p,vs',ix,jj,rfl,rfl,h2',by rw[h3'.len,ej],k _ _ ⟨F2,O',(g.trans gr.ff).trans ux.ff,z'⟩⟩
end
section
variable{K:PySem.W.Frag}{B:Bs}{F H F' H' G:Hp}{O:Own}{sl sl2:SL K}{σ:St}{md:Md}{α β γ:Type}[Rp K α][Rp K β][Rp K γ]{tb u v:TS}{te:TE}{m:Option α}{S S':Type}{al n:Bool}
theorem Vg{S α β:Type}(step:S->α->Option (Out S β)):∀(xs ys:List α)(s:S),uN step (xs++ys) s=(uN step xs s).bind λo=>o.aP λs'=>uN step ys s'
 |[],ys,s=>rfl
 |x::xs,ys,s=>by
  show(step s x).bind _=((step s x).bind _).bind _
  cases step s x with
  |none=>rfl
  |some o =>
   cases o with
   |nx s'=>exact Vg step xs ys s'
   |rt b=>rfl
theorem zOk{S α β:Type}{step:S->α->Option (Out S β)}{xs:List α}{s a:S}{x:α}(h:uN step (xs.take i) s=some (.nx a))(hx:xs[i]?=some x):uN step (xs.take (i+1)) s=step a x:=by
 have e2:xs.take (i+1)=xs.take i++[x]:=by rw[take_add_one,hx]<;>rfl
 rw[e2,Vg,h]
 show(step a x).bind _=step a x
 cases step a x with
 |none=>rfl
 |some o=>cases o<;>rfl
theorem zRf{S α β:Type}{step:S->α->Option (Out S β)}{xs:List α}{s:S}{o:Out S β}{b:β}(h:uN step xs s=some o)(hi:uN step (xs.take i) s=some (.rt b)):o=.rt b:=by
 rw[<-take_append_drop i xs,Vg,hi] at h
 cases h
 rfl
theorem zOl{S α β:Type}{step:S->α->Option (Out S β)}{xs:List α}{s:S}{o:Out S β}(i:Nat)(h:uN step xs s=some o):∃o',uN step (xs.take i) s=some o':=by
 rw[<-take_append_drop i xs,Vg] at h
 cases q:uN step (xs.take i) s with
 |none=>rw[q] at h;cases h
 |some o'=>exact⟨o',rfl⟩
def Yl(K:PySem.W.Frag)(B:Bs)(F':Hp)(n:Bool)(J:It){α:Type}[Rp K α](xs:List α):Prop:=∀(i:Nat)(F2:Hp)(O2:Own)(H2:Hp),Same F' F2->Ok B F2 O2 H2 ->
 (xs.length<=i->J.stop i H2)/\∀x,xs[i]?=some x->J.go i H2/\∀v H3,J.Ow i H2 v H3->∃F3,bK B F2 H2 O2 F3 H3/\rp K (reg B F3 H3 (ju n)) v x
def Ei(B:Bs)(sl:SL K)(n:Bool)(wi:TI){α:Type}[Rp K α](mi:Option (List α)):Prop :=
 ∀xs,mi=some xs->∀(F:Hp)(O:Own)(H:Hp)(σ:St)(R:It->Hp->Prop),At B sl F O H σ->(∀(J:It)(F' H':Hp),bK B F H O F' H'->Yl K B F' n J xs->R J H')->wi σ H R
def Tg(B:Bs)(sl:SL K)(n:Bool)(g:TG){α:Type}[Rp K α](L:α->SL K):Prop :=
 ∀(v:V)(x:α)(F:Hp)(O:Own)(H:Hp)(σ:St)(Q:St->Hp->Prop),At B sl F O H σ->rp K (reg B F H (ju n)) v x->(∀σ',At B (L x) F O H σ'->Q σ' H)->g v σ H Q
theorem zW(i:Nat)(hs:sl[i]?=some s)(ho:lY s=false):Tg B sl n (ug i) (λx:α=>sl.set i (.fz n x)):=λv x F O H σ Q a r k=>k _ ⟨a.1,a.2.put (λ_ _ _ z=>.fz r z) hs ho⟩
theorem Ga(k:Ok B F O H)(h:reg B F H (ju n) p=some o):H p=some o:=Fz k n p o h
theorem Je(i j:Nat)(hs:sl[i]?=some s)(ho:lY s=false)(hs':∀x:Slot K,(sl.set i x)[j]?=some s')(ho':lY s'=false) :
  Tg B sl n (Kf K 2 (Al (ug i) (Al (ug j) Qw))) (λx:α×β=>(sl.set i (.fz n x.1)).set j (.fz n x.2)):=λv x F O H σ Q a r k=>by
 obtain⟨p,w1,w2,rfl,h1,h2,h3⟩:=r
 refine⟨p,[w1,w2],rfl,.inl (.inl (Ga a.1 h1)),rfl,w1,[w2],rfl,w2,[],rfl,rfl,?_⟩
 exact k _ ⟨a.1,(a.2.put (s':=.fz n x.1) (λ_ _ _ z=>.fz h2 z) hs ho).put (λ_ _ _ z=>.fz h3 z) (hs' _) ho'⟩
theorem wK{L:S->SL K}{Lx:S->α->SL K}{step:S->α->Option S}(s0:S)(h0:Le sl (L s0))(hi:Ei B (L s0) n wi mi)(hg:∀s,Tg B (L s) n g (Lx s))(hb:∀s x,Sn B (Lx s x) tb L (step s x)) :
  Sn B sl (Ej wi g tb) L (mi.bind λxs=>xH step xs s0):=λs1 hs1 G D σ H q k=>by
 cases mi with
 |none=>cases hs1
 |some xs =>
  have hs1:xH step xs s0=some s1:=hs1
  obtain⟨F,O,g0,a⟩:=q.le h0
  refine hi xs rfl F O H σ _ a λJ F' H' gr yl=>?_
  refine⟨λi m σ H=>m=xs.length-i/\i<=xs.length/\∃s,xH step (xs.take i) s0=some s/\Sg B F' (L s) σ H,⟨xs.length,rfl,abf _,s0,rfl,F',O,.refl _,a.grow gr⟩,?_⟩
  rintro i m σ H ⟨rfl,hil,s,hs,F2,O2,sf,a2⟩
  obtain⟨y1,y2⟩:=yl i F2 O2 H sf a2.1
  by_cases hlt:i<xs.length
  ·obtain⟨go,y3⟩:=y2 xs[i] (aao hlt)
   obtain⟨s',s'',e1,e2,e3⟩:=zGo hs1 (aao hlt)
   rw[hs] at e1
   cases e1
   refine .inr ⟨go,Sg B F' (L s''),λσ' H' z=>⟨xs.length-(i+1),by omega,rfl,hlt,s'',e3,z⟩,λv H3 yd=>?_⟩
   obtain⟨F3,g3,r3⟩:=y3 v H3 yd
   exact hg s v xs[i] F3 O2 H3 σ _ (a2.grow g3) r3 λσ' a'=>hb s xs[i] s'' e2 F' _ σ' H3 ⟨F3,O2,sf.trans g3.ff,a'⟩ λσ2 H2 z=>z
  ·have e:i=xs.length:=by omega
   subst e
   rw[take_length,hs1] at hs
   cases hs
   exact .inl ⟨y1 (aaq _),k σ H ⟨F2,O2,(g0.trans gr.ff).trans sf,a2⟩⟩
theorem Rr{L:S->SL K}{Lx:S->α->SL K}{step:S->α->Option (Out S β)}(s0:S)(h0:Le sl (L s0))(hi:Ei B (L s0) n wi mi)(hg:∀s,Tg B (L s) n g (Lx s))(hb:∀s x,Sx B (Lx s x) tb al L (step s x)) :
  Sx B sl (Ej wi g tb) al L (mi.bind λxs=>uN step xs s0):=λo ho G D σ H q k=>by
 cases mi with
 |none=>cases ho
 |some xs =>
  have ho:uN step xs s0=some o:=ho
  obtain⟨F,O,g0,a⟩:=q.le h0
  refine hi xs rfl F O H σ _ a λJ F' H' gr yl=>?_
  refine⟨λi m σ H=>m=xs.length-i/\i<=xs.length/\∃s,uN step (xs.take i) s0=some (.nx s)/\Sg B F' (L s) σ H,⟨xs.length,rfl,abf _,s0,rfl,F',O,.refl _,a.grow gr⟩,?_⟩
  rintro i m σ H ⟨rfl,hil,s,hs,F2,O2,sf,a2⟩
  obtain⟨y1,y2⟩:=yl i F2 O2 H sf a2.1
  by_cases hlt:i<xs.length
  ·obtain⟨go,y3⟩:=y2 xs[i] (aao hlt)
   have e2:=zOk hs (aao hlt)
   obtain⟨o',e3⟩:=zOl (i+1) ho
   refine .inr ⟨go,λσ H=>∃s',o'=.nx s'/\Sg B F' (L s') σ H,λσ' H' ⟨s',e,z⟩=>⟨xs.length-(i+1),by omega,rfl,hlt,s',by rw[e3,e],z⟩,λv H3 yd=>?_⟩
   obtain⟨F3,g3,r3⟩:=y3 v H3 yd
   refine hg s v xs[i] F3 O2 H3 σ _ (a2.grow g3) r3 λσ' a'=>hb s xs[i] o' (by rw[<-e2,e3]) F' _ σ' H3 ⟨F3,O2,sf.trans g3.ff,a'⟩ ?_
   cases o' with
   |nx s'=>exactλσ2 H2 z=>⟨s',rfl,z⟩
   |rt b =>
    have:=zRf ho e3
    subst this
    exact k
  ·have e:i=xs.length:=by omega
   subst e
   rw[take_length,ho] at hs
   cases hs
   exact .inl ⟨y1 (aaq _),k σ H ⟨F2,O2,(g0.trans gr.ff).trans sf,a2⟩⟩
theorem zLx{L:S->SL K}{cM:S->Option Bool}{bM:S->Option S}(fuel:Nat)(s0:S)(h0:Le sl (L s0))(hc:∀s,Et B (L s) c (cM s))(hb:∀s,Sn B (L s) tb L (bM s)):Sn B sl (zU4 c tb) L (FQ cM bM fuel s0):=λs1 hs1 G D σ H q k=>by
 refine⟨λm σ H=>∃s,FQ cM bM m s=some s1/\Sg B G (L s) σ H,⟨fuel,s0,hs1,q.le h0⟩,?_⟩
 rintro m σ H ⟨s,hs,F,O,g,a⟩
 cases m with
 |zero=>cases hs
 |succ m =>
  have hs:((cM s).bind λb=>if b=true then(bM s).bind λs'=>FQ cM bM m s' else some s)=some s1:=hs
  cases e:cM s with
  |none=>rw[e] at hs;cases hs
  |some b =>
   rw[e] at hs
   refine hc s b e F O H σ _ a λF' H' gr=>?_
   cases b with
   |true =>
    have hs:((bM s).bind λs'=>FQ cM bM m s')=some s1:=by simpa using hs
    cases e2:bM s with
    |none=>rw[e2] at hs;cases hs
    |some s' =>
     rw[e2] at hs
     exact pP ⟨Sg B G (L s'),λσ' H' z=>⟨m,acv _,s',hs,z⟩,hb s s' e2 G _ σ H' (Sg.grow g a gr) λ_ _ z=>z⟩
   |false =>
    have hs:some s=some s1:=by simpa using hs
    cases hs
    exact pO (k σ H' (Sg.grow g a gr))
theorem yL{mi:Option (List α)}(h:Ex B sl (ju n) te mi):Ei B sl n (U0 K te) mi:=λxs hx F O H σ R a k=>by
 refine h xs hx F O H σ _ a λv F' H' gr r=>?_
 obtain⟨p,vs,rfl,h1,h2⟩:=r
 refine⟨p,rfl,⟨vs,bw.of (Fz gr.ok n p _ h1)⟩,k _ F' H' gr λi F2 O2 H2 sf k2=>?_⟩
 have hq:bw K H2 p vs:=bw.of (k2.fh _ _ (sf _ _ (by cases n with|true=>exact aW _ _ h1|false=>exact h1)))
 refine⟨λhl=>⟨vs,hq,by rw[h2.len];exact hl⟩,λx hx=>?_⟩
 obtain⟨w,hw,rw⟩:=h2.at2 hx
 refine⟨⟨vs,w,hq,hw⟩,λv H3 yd=>?_⟩
 obtain⟨e,y⟩:=yd
 subst e
 have:=(hw.symm.trans (y vs hq))
 cases this
 exact⟨F2,.refl k2,Rp.mono (vY n sf) rw⟩
theorem XC{k i:Nat}{x:Int}(h:((aat k).map adi)[i]?=some x):i<k/\x=i:=by
 rw[getElem?_map] at h
 by_cases q:i<k
 ·rw[getElem?_range q] at h;cases h;exact⟨q,rfl⟩
 ·rw[abz (by rw[length_range];omega)] at h;cases h
theorem xS(h:Ex B sl .hp te mi):Ei B sl n (Iw (xZ te bO)) (mi.bind wV):=λxs hx F O H σ R a k=>by
 cases mi with
 |none=>cases hx
 |some j =>
  have hx:wV j=some xs:=hx
  unfold wV at hx
  split at hx
  case isFalse=>cases hx
  rename_i hb
  cases hx
  refine h j rfl F O H σ _ a λv F' H' gr r=>?_
  cases r
  refine⟨j,rfl,hb.1,hb.2,k _ F' H' gr λi F2 O2 H2 sf k2=>⟨λhl=>?_,λx hx=>?_⟩⟩
  ·rw[length_map,length_range] at hl;exact hl
  ·obtain⟨h1,rfl⟩:=XC hx
   refine⟨h1,λv H3 yd=>?_⟩
   obtain⟨rfl,rfl⟩:=yd
   exact⟨F2,.refl k2,by show V.int (0+(i:Int))=V.int i;rw[Int.zero_add]⟩
def Bq{α:Type}(xs:List α):List (Int×α):=((aat xs.length).map adi).zip xs
theorem XD{α:Type}{xs:List α}{i:Nat}{x:Int×α}(h:(Bq xs)[i]?=some x):x.1=i/\xs[i]?=some x.2:=by
 unfold Bq at h
 rw[getElem?_zip_eq_some] at h
 exact⟨(XC h.1).2,h.2⟩
theorem zJx{α:Type}(xs:List α):(Bq xs).length=xs.length:=by unfold Bq;simp
theorem XF{mi:Option (List α)}(h:Ex B sl (ju n) te mi):Ei B sl n (Bh K (xZ te bO)) (mi.bind λxs=>some (Bq xs)):=λxs hx F O H σ R a k=>by
 cases mi with
 |none=>cases hx
 |some zs =>
  cases(show some (Bq zs)=some xs from hx)
  refine h zs rfl F O H σ _ a λv F' H' gr r=>?_
  obtain⟨p,vs,rfl,h1,h2⟩:=r
  refine⟨p,rfl,⟨vs,bw.of (Fz gr.ok n p _ h1)⟩,k _ F' H' gr λi F2 O2 H2 sf k2=>?_⟩
  have hq:bw K H2 p vs:=bw.of (k2.fh _ _ (sf _ _ (by cases n with|true=>exact aW _ _ h1|false=>exact h1)))
  refine⟨λhl=>⟨vs,hq,by rw[h2.len,<-zJx];exact hl⟩,λx hx=>?_⟩
  obtain⟨e1,e2⟩:=XD hx
  obtain⟨w,hw,rw⟩:=h2.at2 e2
  refine⟨⟨vs,w,hq,hw⟩,λv H3 yd=>?_⟩
  obtain⟨t,x',rfl,ht,rfl,y⟩:=yd
  have:=(hw.symm.trans (y vs hq))
  cases this
  have g3:=bK.new k2 ht (.tup [.int i,w])
  refine⟨_,g3,t,.int i,w,rfl,?_,?_,Rp.mono (vY n (sf.trans g3.ff)) rw⟩
  ·exact Rn k2 ht (ju n)
  ·rw[e1];rfl
def yW{α β:Type}(c:α->Option Bool)(f:α->Option β)(xs:List α):Option (List β):=if xs.length<cap then wJ c f xs else none
theorem Vh{α β:Type}(c:α->Option Bool)(f:α->Option β):∀(xs ys:List α),wJ c f (xs++ys)=(wJ c f xs).bind λa=>(wJ c f ys).bind λb=>some (a++b)
 |[],ys=>by
  rw[nil_append]
  show wJ c f ys=(wJ c f ys).bind λb=>some ([]++b)
  cases wJ c f ys<;>rfl
 |x::xs,ys=>by
  show(c x).bind _=((c x).bind _).bind _
  cases c x with
  |none=>rfl
  |some b =>
   cases b with
   |true =>
    show(f x).bind _=((f x).bind _).bind _
    cases f x with
    |none=>rfl
    |some y =>
     show(wJ c f (xs++ys)).bind _=((wJ c f xs).bind _).bind _
     rw[Vh c f xs ys]
     cases wJ c f xs with
     |none=>rfl
     |some a =>
      show((wJ c f ys).bind _).bind _=(wJ c f ys).bind _
      cases wJ c f ys<;>rfl
   |false=>exact Vh c f xs ys
theorem XH{α β:Type}(c:α->Option Bool)(f:α->Option β):∀{xs:List α}{ys:List β},wJ c f xs=some ys->ys.length<=xs.length
 |[],ys,h=>by cases h;exact aaq _
 |x::xs,ys,h=>by
  have h:((c x).bind λb=>if b=true then(f x).bind λy=>(wJ c f xs).bind λys=>some (y::ys) else wJ c f xs)=some ys:=h
  cases e:c x with
  |none=>rw[e] at h;cases h
  |some b =>
   rw[e] at h
   cases b with
   |true =>
    have h:((f x).bind λy=>(wJ c f xs).bind λys=>some (y::ys))=some ys:=by simpa using h
    cases e2:f x with
    |none=>rw[e2] at h;cases h
    |some y =>
     rw[e2] at h
     cases e3:wJ c f xs with
     |none=>rw[e3] at h;cases h
     |some zs =>
      rw[e3] at h
      cases h
      exact abl (XH c f e3)
   |false =>
    have h:wJ c f xs=some ys:=by simpa using h
    exact Nat.le_succ_of_le (XH c f h)
theorem zOw{α β:Type}{c:α->Option Bool}{f:α->Option β}{xs:List α}{zs:List β}(i:Nat)(h:wJ c f xs=some zs):∃ys,wJ c f (xs.take i)=some ys:=by
 rw[<-take_append_drop i xs,Vh] at h
 cases q:wJ c f (xs.take i) with
 |none=>rw[q] at h;cases h
 |some o'=>exact⟨o',rfl⟩
theorem zOx{α β:Type}{c:α->Option Bool}{f:α->Option β}{xs:List α}{zs ys:List β}{x:α}(h:wJ c f (xs.take (i+1))=some zs)(hy:wJ c f (xs.take i)=some ys)(hx:xs[i]?=some x) :
  (c x=some false/\zs=ys)\/∃y,c x=some true/\f x=some y/\zs=ys++[y]:=by
 have e2:xs.take (i+1)=xs.take i++[x]:=by rw[take_add_one,hx]<;>rfl
 rw[e2,Vh,hy] at h
 have h:(((c x).bind λb=>if b=true then(f x).bind λy=>some [y] else some []).bind λb=>some (ys++b))=some zs:=h
 cases e:c x with
 |none=>rw[e] at h;cases h
 |some b =>
  rw[e] at h
  cases b with
  |true =>
   have h:(((f x).bind λy=>some [y]).bind λb=>some (ys++b))=some zs:=by simpa using h
   cases e2:f x with
   |none=>rw[e2] at h;cases h
   |some y=>rw[e2] at h;cases h;exact .inr ⟨y,rfl,rfl,rfl⟩
  |false =>
   have h:some (ys++[])=some zs:=by simpa using h
   rw[append_nil] at h
   cases h
   exact .inl ⟨rfl,rfl⟩
abbrev Ru:Slot K->Slot K
 |.un=>.un
 |@Slot.fz _ n _ i a=>@Slot.fz _ n _ i a
 |@Slot.hs _ _ i a=>@Slot.hs _ _ i a
 |@Slot.nu _ _ i a=>@Slot.hs _ _ i a
 |@Slot.ow _ _ _ i xs=>@Slot.hs _ _ _ xs
 |@Slot.od _ _ _ _=>.un
theorem bK.lift(k:Ok B F O H)(g:bK B F H [] F' H'):bK B F H O F' H' :=
 ⟨g.ff,g.hh,⟨g.ok.fh,g.ok.h0,g.ok.fa,λx hx=>by
  obtain⟨a1,a2,a3⟩:=k.fo x hx
  exact⟨g.nw _ a1 (by rw[a3];intro z;cases z),a2,g.hh _ _ a3⟩,k.nd⟩,g.nw⟩
theorem Ok.nil(k:Ok B F O H):Ok B F [] H:=⟨k.fh,k.h0,k.fa,λx hx=>(by cases hx),(by simp)⟩
theorem ao.one(a:At B sl F O H σ)(L:Hp)(j:Nat)(hs:sl[j]?=some s):∀{sl':SL K}{σ':St},ao B F L H sl' σ' []->ao B F L H (Ru s::sl') ((σ[j]?).getD none::σ') []:=λ{sl' σ'} h=>by
 cases s with
 |un=>exact .un h
 |fz n b=>obtain⟨v,h1,h2⟩:=a.2.qR hs;rw[h1];exact .fz h2 h
 |hs b=>obtain⟨v,h1,h2⟩:=a.2.Rk hs;rw[h1];exact .hs h2 h
 |nu b=>obtain⟨v,h1,h2⟩:=a.2.Bk hs;rw[h1];exact .hs (Rp.mono (aW.trans lo_le) h2) h
 |ow n xs =>
  obtain⟨k,z0⟩:=a
  obtain⟨O1,O2,p,vs,rfl,h1,h2,_⟩:=z0.qT hs
  rw[h1]
  exact .hs ⟨p,vs,rfl,k.one.2.2,h2.imp λ_ _=>Rp.mono (Fz k n)⟩ h
 |od kvs=>exact .un h
def Ld(sl:SL K)(n:Nat)(ix:List Nat):SL K:=replicate n .un++ix.map λj=>Ru ((sl[j]?).getD .un)
theorem Gb(a:At B sl F O H σ)(L:Hp)(n:Nat):∀(ix:List Nat),(∀j∈ix,j<sl.length)->ao B F L H (Ld sl n ix) (oK σ n ix) []:=λix hix=>by
 unfold Ld oK
 induction n with
 |zero =>
  show ao B F L H ([]++_) ([]++_) []
  rw[nil_append,nil_append]
  induction ix with
  |nil=>exact .nil
  |cons j ix ih =>
   rw[map_cons,map_cons]
   have hl:=hix j mem_cons_self
   have hj:sl[j]?=some sl[j]:=aao hl
   have z:=ao.one a L j hj (ih λk hk=>hix k (mem_cons_of_mem _ hk))
   rw[show(sl[j]?).getD .un=sl[j] by rw[hj]<;>rfl]
   exact z
 |succ n ih=>exact .un ih
inductive su:SL K->SL K->Prop
 |nil:su [] []
 |eq {s:Slot K} {a b:SL K}:su a b->su (s::a) (s::b)
 |un {s:Slot K} {a b:SL K}:su a b->su (s::a) (.un::b)
theorem ao.le0(l:su sl sl2):∀{σ:St},ao B F L H sl σ []->ao B F L H sl2 σ []:=by
 induction l with
 |nil=>intro σ h;exact h
 |eq _ ih =>
  intro σ h
  cases h with
  |un h=>exact .un (ih h)
  |fz r h=>exact .fz r (ih h)
  |hs r h=>exact .hs r (ih h)
  |nu r h=>exact .nu r (ih h)
 |un _ ih =>
  intro σ h
  cases h with
  |un h=>exact .un (ih h)
  |fz r h=>exact .un (ih h)
  |hs r h=>exact .un (ih h)
  |nu r h=>exact .un (ih h)
theorem yR{c:α->Option Bool}{f:α->Option β}{ix:List Nat}(hix:(ix.all λj=>decide (j<sl.length))=true)(hI:i_=Ld sl no ix)(hi:Ei B sl n wi mi)(hg:Tg B i_ n g Lx)(hc:∀x,Et B (Lx x) tc (c x))(he:∀x,Ex B (Lx x) md te (f x))(hle:∀x,su (Lx x) i_) :
  Eo B sl md (Bg no ix wi g tc te) (mi.bind λxs=>yW c f xs):=λzs hz F O H σ Q a k=>by
 cases mi with
 |none=>cases hz
 |some xs =>
  have hz:yW c f xs=some zs:=hz
  unfold yW at hz
  split at hz
  case isFalse=>cases hz
  rename_i hcap
  have hcl:=K_ hcap
  refine hi xs rfl F O H σ _ a λJ F' H' gr yl=>?_
  have a':=a.grow gr
  refine⟨λi m ys σ2 H2=>m=xs.length-i/\i<=xs.length/\∃(F2:Hp)(ws:List β),wJ c f (xs.take i)=some ws/\bK B F' H' O F2 H2/\ao B F2 (lo F2 [] H2) H2 i_ σ2 []/\A2 (rp K (reg B F2 H2 md)) ys ws,
   ⟨xs.length,rfl,abf _,F',[],rfl,.refl a'.1,?_,trivial⟩,?_⟩
  ·rw[hI]
   exact Gb a' _ no ix λj hj=>by simpa using(all_eq_true.mp hix) j hj
  rintro i m ys σ2 H2 ⟨rfl,hil,F2,ws,hw,g2,s2,r2⟩
  have hyl:ys.length<=xs.length:=by
   rw[r2.len]
   exact aaz (XH c f hw) (by rw[length_take];omega)
  obtain⟨y1,y2⟩:=yl i F2 O H2 g2.ff g2.ok
  by_cases hlt:i<xs.length
  ·obtain⟨go,y3⟩:=y2 xs[i] (aao hlt)
   obtain⟨ws',hw'⟩:=zOw (i+1) hz
   refine .inr ⟨go,by omega,λys σ2 H2=>∃(F2:Hp),bK B F' H' O F2 H2/\ao B F2 (lo F2 [] H2) H2 i_ σ2 []/\A2 (rp K (reg B F2 H2 md)) ys ws',λys' σ' H' ⟨F3,z1,z2,z3⟩=>⟨xs.length-(i+1),by omega,rfl,hlt,F3,ws',hw',z1,z2,z3⟩,λv H3 yd=>?_⟩
   obtain⟨F3,g3,r3⟩:=y3 v H3 yd
   have g23:=g2.trans g3
   have at3:At B i_ F3 [] H3 σ2:=⟨g3.ok.nil,s2.mono g3.ff (zQw ⟨g3.ff,g3.hh,g3.ok.nil,g3.nw⟩) g3.hh⟩
   refine hg v xs[i] F3 [] H3 σ2 _ at3 r3 λσ4 a4=>?_
   have back:∀{F5 H5:Hp},bK B F3 H3 [] F5 H5->bK B F' H' O F5 H5/\ao B F5 (lo F5 [] H5) H5 i_ σ4 []:=λ{F5 H5} g5=>⟨g23.trans (bK.lift g3.ok g5),(a4.grow g5).2.le0 (hle xs[i])⟩
   rcases zOx hw' hw (aao hlt) with⟨e1,rfl⟩|⟨y,e1,e2,rfl⟩
   ·refine hc xs[i] false e1 F3 [] H3 σ4 _ a4 λF5 H5 g5=>pO ?_
    obtain⟨z1,z2⟩:=back g5
    exact⟨F5,z1,z2,r2.imp λ_ _=>Rp.mono (xO (g3.trans (bK.lift g3.ok g5)) md)⟩
   ·refine hc xs[i] true e1 F3 [] H3 σ4 _ a4 λF5 H5 g5=>pP ?_
    refine he xs[i] y e2 F5 [] H5 σ4 _ (a4.grow g5) λw F6 H6 g6 r6=>?_
    obtain⟨z1,z2⟩:=back (g5.trans g6)
    exact⟨F6,z1,z2,(r2.imp λ_ _=>Rp.mono (xO (g3.trans (bK.lift g3.ok (g5.trans g6))) md)).snoc r6⟩
  ·have e:i=xs.length:=by omega
   subst e
   rw[take_length,hz] at hw
   cases hw
   exact .inl ⟨y1 (aaq _),by omega,λp hp=>k p ys F2 H2 (gr.trans g2) hp r2⟩
abbrev isF:Slot K->Bool
 |@Slot.fz _ false _ _ _=>true
 |_=>false
theorem zEg{as:SL K}(k:Nat)(hf:as.all isF=true)(r:Ar F as vs):ao ⟨F,H⟩ F L' H (as++replicate k .un) (vs.map some++replicate k none) []:=by
 induction r with
 |nil =>
  show ao _ _ _ _ ([]++_) ([]++_) []
  rw[nil_append,nil_append]
  induction k with
  |zero=>exact .nil
  |succ k ih=>exact .un ih
 |@cons n _ _ _ _ _ _ r _ ih =>
  rw[all_cons,aas] at hf
  cases n with
  |false=>exact .fz r (ih hf.2)
  |true=>exact absurd hf.1 (by simp)
theorem Ar.len(r:Ar F as vs):vs.length=as.length:=by
 induction r with
 |nil=>rfl
 |cons _ _ ih=>rw[length_cons,length_cons,ih]
theorem zSz{A:Type}{as:A->SL K}{f:A->Option β}{N:List Str}(hf:∀a,(as a).all isF=true)(hl:∀a,(as a).length=np)(hb:∀Fa a,SB ⟨Fa,H⟩ (as a++replicate (N.length-np) .un) t al (f a))(h:cj K al as f vs H Q E):t { nx:=λ_ H'=>Q .non H',rt:=Q } (L2.start N vs) H:=by
 obtain⟨a,b,Fa,s,hfa,r,q⟩:=h
 have e:L2.start N vs=vs.map some++replicate (N.length-np) none:=by
  unfold L2.start
  rw[r.len,hl]
 rw[e]
 refine hb Fa a b hfa Fa _ _ H ⟨Fa,[],.refl _,⟨s,.refl _,λb o h=>.inl h,λx hx=>(by cases hx),(by simp)⟩,zEg _ (hf a) r⟩ (λv H' z=>q v H' z.1 z.2)
theorem zU7{A:Type}{as:A->SL K}{f:A->Option β}(hl:∀a,(as a).length=np)(h:cj K al as f vs H Q E):vs.length=np:=by
 obtain⟨a,b,Fa,s,hfa,r,q⟩:=h
 rw[r.len,hl]
end
open PySem.SeqAt (EqAt RcAt RcNeAt)
class Eqv (K:PySem.W.Frag) (α:Type) [Rp K α] [DecidableEq α] where
 dep:Nat
 det:∀{H:Hp}{v:V}{a b:α},rp K H v a->rp K H v b->a=b
 Br:∀{X:Cx}{pins:List (Addr×Obj)}{σ:St}{H:Hp}{s:Shared},Inv X pins σ H s->∀{A:Around},A.units+dep<cLine->∀{v w:V}{u u':Value}{a b:α},rp K H v a->rp K H w b->RelV v u->RelV w u'->EqAt A s u u' (decide (a=b))
 Lf:∀{X:Cx}{pins:List (Addr×Obj)}{σ:St}{H:Hp}{s:Shared},Inv X pins σ H s->∀{A:Around},A.units+dep<cLine->∀{v w:V}{u u':Value}{a b:α},rp K H v a->rp K H w b->RelV v u->RelV w u'->RcAt A s u u' (decide (a=b))
 Lg:∀{X:Cx}{pins:List (Addr×Obj)}{σ:St}{H:Hp}{s:Shared},Inv X pins σ H s->∀{A:Around},A.units+dep<cLine->∀{v w:V}{u u':Value}{a b:α},rp K H v a->rp K H w b->RelV v u->RelV w u'->RcNeAt A s u u' (!decide (a=b))
section
variable{K:PySem.W.Frag}
theorem ji{α:Type}[BEq α][LawfulBEq α][DecidableEq α](a b:α):(a==b)=decide (a=b):=by
 by_cases h:a=b
 ·subst h;simp
 ·simp[h]
instance:Eqv K Int where
 dep:=0
 det h1 h2:=by cases h1;cases h2;rfl
 Br _ _ _ _ _ _ _ _ _ h1 h2 r1 r2:=by cases h1;cases h2;obtain⟨t,rfl⟩:=r1;obtain⟨t',rfl⟩:=r2;rw[<-ji];exact EqAt.int_int _ _ _ _
 Lf _ _ _ _ _ _ _ _ _ h1 h2 r1 r2:=by cases h1;cases h2;obtain⟨t,rfl⟩:=r1;obtain⟨t',rfl⟩:=r2;rw[<-ji];exact RcAt.int_int _ _ _ _
 Lg _ _ _ _ _ _ _ _ _ h1 h2 r1 r2:=by cases h1;cases h2;obtain⟨t,rfl⟩:=r1;obtain⟨t',rfl⟩:=r2;rw[<-ji];exact RcNeAt.int_int _ _ _ _
instance:Eqv K Str where
 dep:=0
 det h1 h2:=by cases h1;cases h2;rfl
 Br _ _ _ _ _ _ _ _ _ h1 h2 r1 r2:=by cases h1;cases h2;obtain⟨t,rfl⟩:=r1;obtain⟨t',rfl⟩:=r2;rw[<-ji];exact EqAt.str_str _ _ _ _
 Lf _ _ _ _ _ _ _ _ _ h1 h2 r1 r2:=by cases h1;cases h2;obtain⟨t,rfl⟩:=r1;obtain⟨t',rfl⟩:=r2;rw[<-ji];exact RcAt.str_str _ _ _ _
 Lg _ _ _ _ _ _ _ _ _ h1 h2 r1 r2:=by cases h1;cases h2;obtain⟨t,rfl⟩:=r1;obtain⟨t',rfl⟩:=r2;rw[<-ji];exact RcNeAt.str_str _ _ _ _
instance:Eqv K Bool where
 dep:=0
 det h1 h2:=by cases h1;cases h2;rfl
 Br _ _ _ _ _ _ _ _ _ h1 h2 r1 r2:=by cases h1;cases h2;cases r1;cases r2;rw[<-ji];exact EqAt.bool_bool _ _
 Lf _ _ _ _ _ _ _ _ _ h1 h2 r1 r2:=by cases h1;cases h2;cases r1;cases r2;rw[<-ji];exact RcAt.bool_bool _ _
 Lg _ _ _ _ _ _ _ _ _ h1 h2 r1 r2:=by cases h1;cases h2;cases r1;cases r2;rw[<-ji];exact RcNeAt.bool_bool _ _
theorem XJ{a b:Int}:decide (some a=some b)=decide (a=b):=by simp
instance:Eqv K (Option Int) where
 dep:=0
 det {H v a b} h1 h2:=by
  cases a with
  |none=>cases b with
   |none=>rfl
   |some y=>exact absurd h1 h2.1
  |some x=>cases b with
   |none=>exact absurd h2 h1.1
   |some y=>cases h1.2;cases h2.2;rfl
 Br {X pins σ H s} _ {A} _ {v w u u' a b} h1 h2 r1 r2:=by
  cases a with
  |none =>
   cases h1;cases r1
   cases b with
   |none=>cases h2;cases r2;exact EqAt.same _
   |some y=>cases h2.2;obtain⟨t',rfl⟩:=r2;exact EqAt.none_int _ _
  |some x =>
   cases h1.2;obtain⟨t,rfl⟩:=r1
   cases b with
   |none=>cases h2;cases r2;exact EqAt.int_none _ _
   |some y=>cases h2.2;obtain⟨t',rfl⟩:=r2;rw[XJ,<-ji];exact EqAt.int_int _ _ _ _
 Lf {X pins σ H s} _ {A} _ {v w u u' a b} h1 h2 r1 r2:=by
  cases a with
  |none =>
   cases h1;cases r1
   cases b with
   |none=>cases h2;cases r2;exact RcAt.none_none
   |some y=>cases h2.2;obtain⟨t',rfl⟩:=r2;exact RcAt.none_int _ _
  |some x =>
   cases h1.2;obtain⟨t,rfl⟩:=r1
   cases b with
   |none=>cases h2;cases r2;exact RcAt.int_none _ _
   |some y=>cases h2.2;obtain⟨t',rfl⟩:=r2;rw[XJ,<-ji];exact RcAt.int_int _ _ _ _
 Lg {X pins σ H s} _ {A} _ {v w u u' a b} h1 h2 r1 r2:=by
  cases a with
  |none =>
   cases h1;cases r1
   cases b with
   |none=>cases h2;cases r2;exact RcNeAt.none_none
   |some y=>cases h2.2;obtain⟨t',rfl⟩:=r2;exact RcNeAt.none_int _ _
  |some x =>
   cases h1.2;obtain⟨t,rfl⟩:=r1
   cases b with
   |none=>cases h2;cases r2;exact RcNeAt.int_none _ _
   |some y=>cases h2.2;obtain⟨t',rfl⟩:=r2;rw[XJ,<-ji];exact RcNeAt.int_int _ _ _ _
theorem A2.det{α β:Type}{R:α->β->Prop}(h:∀x y z,R x y->R x z->y=z):∀{xs:List α}{ys zs:List β},A2 R xs ys->A2 R xs zs->ys=zs
 |[],[],[],_,_=>rfl
 |_::_,_::_,_::_,h1,h2=>by rw[h _ _ _ h1.1 h2.1,A2.det h h1.2 h2.2]
 |[],_::_,_,h1,_=>h1.elim
 |[],[],_::_,_,h2=>h2.elim
 |_::_,[],_,h1,_=>h1.elim
 |_::_,_::_,[],_,h2=>h2.elim
theorem Vi{α:Type}[DecidableEq α]:∀{xs ys:List α},xs.length=ys.length->((aat xs.length).all λj=>decide (xs[j]?=ys[j]?))=decide (xs=ys)
 |[],[],_=>by simp
 |x::xs,y::ys,h=>by
  have ih:=Vi (xs:=xs) (ys:=ys) (by simpa using h)
  rw[length_cons,range_succ_eq_map,all_cons,List.all_map]
  have e:((λj=>decide ((x::xs)[j]?=(y::ys)[j]?))∘Nat.succ)=λj=>decide (xs[j]?=ys[j]?):=by
   funext j
   simp
  rw[e,ih]
  by_cases h1:x=y<;>by_cases h2:xs=ys<;>simp[h1,h2]
 |[],_::_,h=>by simp at h
 |_::_,[],h=>by simp at h
theorem O8{α:Type}[Rp K α]{xs:List α}(r:Vals vs us)(h:A2 (rp K H) vs xs)(j:Nat)(hj:j<us.toArray.size):∃v x,xs[j]?=some x/\rp K H v x/\RelV v us.toArray[j]:=by
 have l1:j<vs.length:=by rw[r.length];simpa using hj
 obtain⟨u,hu,ru⟩:=r.get (aao l1)
 obtain⟨x,hx,rx⟩:=h.at1 (aao l1)
 refine⟨vs[j],x,hx,rx,?_⟩
 have e1:us.toArray[j]=u:=by
  have:us[j]?=some u:=hu
  rw[aao (by simpa using hj)] at this
  simpa using this
 rw[e1]
 exact ru
theorem Rv{A:Around}:A.in1.units=A.units+1:=rfl
instance{α:Type}[Rp K α][DecidableEq α][Eqv K α]:Eqv K (List α) where
 dep:=Eqv.dep K α+1
 det {H v a b} h1 h2:=by
  obtain⟨p,vs,rfl,h1,r1⟩:=h1
  obtain⟨p',vs',e,h2,r2⟩:=h2
  cases e
  cases h1.symm.trans h2
  exact A2.det (R:=rp K H) (λ_ _ _ z1 z2=>Eqv.det (K:=K) z1 z2) r1 r2
 Lf {X pins σ H s} I {A} hu {v w u u' a b} h1 h2 q1 q2:=by
  obtain⟨p,vs,rfl,h1,r1⟩:=h1
  obtain⟨p',ws,rfl,h2,r2⟩:=h2
  cases q1;cases q2
  obtain⟨us,s1,p1,_⟩:=I.list (bw.of h1)
  obtain⟨us',s2,p2,_⟩:=I.list (bw.of h2)
  have n1:us.toArray.size=a.length:=by rw[size_toArray,<-r1.len];exact s1.length.symm
  have n2:us'.toArray.size=b.length:=by rw[size_toArray,<-r2.len];exact s2.length.symm
  by_cases hl:a.length=b.length
  ·have z:=RcAt.lists (e:=λj=>decide (a[j]?=b[j]?)) p1.isList p2.isList (by rw[n1,n2];exact hl) (aa1 (abh _ _) hu) (λj h1 h2=>by
    obtain⟨v,x,e1,e2,e3⟩:=O8 s1 r1 j h1
    obtain⟨w,y,f1,f2,f3⟩:=O8 s2 r2 j h2
    rw[e1,f1]
    have z:=Eqv.Br (K:=K) I (A:=A.in1) (by rw[Rv];omega) e2 f2 e3 f3
    simpa using z)
   rw[n1,Vi hl] at z
   exact z
  ·rw[show decide (a=b)=false by simp;intro e;exact hl (by rw[e])]
   exact RcAt.lists_lengths p1.isList p2.isList (by rw[n1,n2];exact bne_iff_ne.mpr hl) (aa1 (abh _ _) hu)
 Lg {X pins σ H s} I {A} hu {v w u u' a b} h1 h2 q1 q2:=by
  obtain⟨p,vs,rfl,h1,r1⟩:=h1
  obtain⟨p',ws,rfl,h2,r2⟩:=h2
  cases q1;cases q2
  obtain⟨us,s1,p1,_⟩:=I.list (bw.of h1)
  obtain⟨us',s2,p2,_⟩:=I.list (bw.of h2)
  have n1:us.toArray.size=a.length:=by rw[size_toArray,<-r1.len];exact s1.length.symm
  have n2:us'.toArray.size=b.length:=by rw[size_toArray,<-r2.len];exact s2.length.symm
  by_cases hl:a.length=b.length
  ·have z:=RcNeAt.lists (e:=λj=>decide (a[j]?=b[j]?)) p1.isList p2.isList (by rw[n1,n2];exact hl) (aa1 (abh _ _) hu) (λj h1 h2=>by
    obtain⟨v,x,e1,e2,e3⟩:=O8 s1 r1 j h1
    obtain⟨w,y,f1,f2,f3⟩:=O8 s2 r2 j h2
    rw[e1,f1]
    have z:=Eqv.Br (K:=K) I (A:=A.in1) (by rw[Rv];omega) e2 f2 e3 f3
    simpa using z)
   rw[n1,Vi hl] at z
   exact z
  ·rw[show decide (a=b)=false by simp;intro e;exact hl (by rw[e])]
   exact RcNeAt.lists_lengths p1.isList p2.isList (by rw[n1,n2];exact bne_iff_ne.mpr hl) (aa1 (abh _ _) hu)
 Br {X pins σ H s} I {A} hu {v w u u' a b} h1 h2 q1 q2:=by
  obtain⟨p,vs,rfl,h1,r1⟩:=h1
  obtain⟨p',ws,rfl,h2,r2⟩:=h2
  cases q1;cases q2
  by_cases hp:p=p'
  ·subst hp
   cases h1.symm.trans h2
   rw[show a=b from A2.det (R:=rp K H) (λ_ _ _ z1 z2=>Eqv.det (K:=K) z1 z2) r1 r2]
   simp
   exact EqAt.same _
  ·refine EqAt.of_refs hp ?_
   obtain⟨us,s1,p1,_⟩:=I.list (bw.of h1)
   obtain⟨us',s2,p2,_⟩:=I.list (bw.of h2)
   have n1:us.toArray.size=a.length:=by rw[size_toArray,<-r1.len];exact s1.length.symm
   have n2:us'.toArray.size=b.length:=by rw[size_toArray,<-r2.len];exact s2.length.symm
   by_cases hl:a.length=b.length
   ·have z:=RcAt.lists (e:=λj=>decide (a[j]?=b[j]?)) p1.isList p2.isList (by rw[n1,n2];exact hl) (aa1 (abh _ _) hu) (λj h1 h2=>by
     obtain⟨v,x,e1,e2,e3⟩:=O8 s1 r1 j h1
     obtain⟨w,y,f1,f2,f3⟩:=O8 s2 r2 j h2
     rw[e1,f1]
     have z:=Eqv.Br (K:=K) I (A:=A.in1) (by rw[Rv];omega) e2 f2 e3 f3
     simpa using z)
    rw[n1,Vi hl] at z
    exact z
   ·rw[show decide (a=b)=false by simp;intro e;exact hl (by rw[e])]
    exact RcAt.lists_lengths p1.isList p2.isList (by rw[n1,n2];exact bne_iff_ne.mpr hl) (aa1 (abh _ _) hu)
theorem zTm{α β:Type}[DecidableEq α][DecidableEq β](a b:α×β):((aat (min 2 2)).all (λj=>if j=0 then decide (a.1=b.1) else decide (a.2=b.2))&&((2:Nat)==2))=decide (a=b):=by
 obtain⟨a1,a2⟩:=a
 obtain⟨b1,b2⟩:=b
 by_cases h1:a1=b1<;>by_cases h2:a2=b2<;>simp[range_succ,h1,h2]
section
variable{α β:Type}[Rp K α][DecidableEq α][Eqv K α][Rp K β][DecidableEq β][Eqv K β]{X:Cx}{pins:List (Addr×Obj)}{σ:St}{H:Hp}{s:Shared}{A:Around}{a b:α×β}{p p':Addr}{v1 v2 w1 w2:V}
theorem zNz(I:Inv X pins σ H s)(hu:A.units+(Eqv.dep K α+Eqv.dep K β+1)<cLine)(r1:rp K H v1 a.1)(r2:rp K H v2 a.2)(z1:rp K H w1 b.1)(z2:rp K H w2 b.2)(a1:RelV v1 u1)(a2:RelV v2 u2)(b1:RelV w1 t1)(b2:RelV w2 t2) :
  ∀(j:Nat)(h1:j < #[u1,u2].size)(h2:j < #[t1,t2].size),EqAt A.in1 s #[u1,u2][j] #[t1,t2][j] (if j=0 then decide (a.1=b.1) else decide (a.2=b.2)):=by
 intro j h1 h2
 have hj:j=0\/j=1:=by
  have:j<2:=h1
  omega
 rcases hj with rfl|rfl
 ·exact Eqv.Br (K:=K) I (A:=A.in1) (by rw[Rv];omega) r1 z1 a1 b1
 ·exact Eqv.Br (K:=K) I (A:=A.in1) (by rw[Rv];omega) r2 z2 a2 b2
theorem XM(I:Inv X pins σ H s)(hu:A.units+(Eqv.dep K α+Eqv.dep K β+1)<cLine)(h1:H p=some (.tup [v1,v2]))(h2:H p'=some (.tup [w1,w2]))(r1:rp K H v1 a.1)(r2:rp K H v2 a.2)(z1:rp K H w1 b.1)(z2:rp K H w2 b.2) :
  RcAt A s (.ref p) (.ref p') (decide (a=b))/\RcNeAt A s (.ref p) (.ref p') (!decide (a=b)):=by
 obtain⟨us,s1,p1,_⟩:=I.tuple (.inl (.inl h1))
 obtain⟨us',s2,p2,_⟩:=I.tuple (.inl (.inl h2))
 obtain⟨u1,u2,rfl,a1,a2⟩:=vals2 s1
 obtain⟨t1,t2,rfl,b1,b2⟩:=vals2 s2
 have he:=zNz (A:=A) I hu r1 r2 z1 z2 a1 a2 b1 b2
 have hu':A.units<cLine:=aa1 (abh _ _) hu
 have q1:=RcAt.tuples p1 p2 hu' he
 have q2:=RcNeAt.tuples p1 p2 hu' he
 rw[<-zTm]
 exact⟨q1,q2⟩
end
instance{α β:Type}[Rp K α][DecidableEq α][Eqv K α][Rp K β][DecidableEq β][Eqv K β]:Eqv K (α×β) where
 dep:=Eqv.dep K α+Eqv.dep K β+1
 det {H v a b} h1 h2:=by
  obtain⟨p,v1,v2,rfl,h1,r1,r2⟩:=h1
  obtain⟨p',w1,w2,e,h2,q1,q2⟩:=h2
  cases e
  cases h1.symm.trans h2
  exact Prod.ext (Eqv.det (K:=K) r1 q1) (Eqv.det (K:=K) r2 q2)
 Lf {X pins σ H s} I {A} hu {v w u u' a b} h1 h2 q1 q2:=by
  obtain⟨p,v1,v2,rfl,h1,r1,r2⟩:=h1
  obtain⟨p',w1,w2,rfl,h2,z1,z2⟩:=h2
  cases q1;cases q2
  exact(XM I hu h1 h2 r1 r2 z1 z2).1
 Lg {X pins σ H s} I {A} hu {v w u u' a b} h1 h2 q1 q2:=by
  obtain⟨p,v1,v2,rfl,h1,r1,r2⟩:=h1
  obtain⟨p',w1,w2,rfl,h2,z1,z2⟩:=h2
  cases q1;cases q2
  exact(XM I hu h1 h2 r1 r2 z1 z2).2
 Br {X pins σ H s} I {A} hu {v w u u' a b} h1 h2 q1 q2:=by
  obtain⟨p,v1,v2,rfl,h1,r1,r2⟩:=h1
  obtain⟨p',w1,w2,rfl,h2,z1,z2⟩:=h2
  cases q1;cases q2
  by_cases hp:p=p'
  ·subst hp
   cases h1.symm.trans h2
   rw[show a=b from Prod.ext (Eqv.det (K:=K) r1 z1) (Eqv.det (K:=K) r2 z2)]
   simp
   exact EqAt.same _
  ·exact EqAt.of_refs hp (XM I hu h1 h2 r1 r2 z1 z2).1
def Gd(K:PySem.W.Frag)(α:Type)[Rp K α][DecidableEq α](neg:Bool):R2:=λx y H Q=>∃a b:α,rp K H x a/\rp K H y b/\Q (.bl (if neg=true then !decide (a=b) else decide (a=b))) H
theorem vW(K:PySem.W.Frag)(α:Type)[Rp K α][DecidableEq α][Eqv K α]{X:Cx}(hr:bT k X.A)(hd:Eqv.dep K α<=64:=by exact Nat.le_of_ble_eq_true rfl):jO X (compareOp .Eq) (Gd K α false):=by
 intro pins s σ H x y v u Q I rx ry h
 obtain⟨a,b,h1,h2,q⟩:=h
 exact Eqv.Lf (K:=K) I (A:=X.A) (by have:=hr.units;omega) h1 h2 rx ry _ _ _ _ ⟨.bl (decide (a=b)),H,I,rfl,q⟩
theorem O9(K:PySem.W.Frag)(α:Type)[Rp K α][DecidableEq α][Eqv K α]{X:Cx}(hr:bT k X.A)(hd:Eqv.dep K α<=64:=by exact Nat.le_of_ble_eq_true rfl):jO X (compareOp .NotEq) (Gd K α true):=by
 intro pins s σ H x y v u Q I rx ry h
 obtain⟨a,b,h1,h2,q⟩:=h
 exact Eqv.Lg (K:=K) I (A:=X.A) (by have:=hr.units;omega) h1 h2 rx ry _ _ _ _ ⟨.bl (!decide (a=b)),H,I,rfl,q⟩
variable{B:Bs}{sl:SL K}{md md1:Md}{α β:Type}[Rp K α][Rp K β]{t1 t2 t:TE}
theorem vX[DecidableEq α]{m1 m2:Option α}(h1:Ex B sl .hp t1 m1)(h2:Ex B sl .hp t2 m2):Ex B sl md (gP (Gd K α false) t1 t2) (m1.bind λa=>m2.bind λb=>some (decide (a=b))) :=
 wz (f:=λa b=>some (decide (a=b))) (λa b c v w H Q e r1 r2 q=>by cases e;exact⟨a,b,r1,r2,q⟩) h1 h2
theorem O_[DecidableEq α]{m1 m2:Option α}(h1:Ex B sl .hp t1 m1)(h2:Ex B sl .hp t2 m2):Ex B sl md (gP (Gd K α true) t1 t2) (m1.bind λa=>m2.bind λb=>some (!decide (a=b))) :=
 wz (f:=λa b=>some (!decide (a=b))) (λa b c v w H Q e r1 r2 q=>by cases e;exact⟨a,b,r1,r2,q⟩) h1 h2
section
variable{m1 m2:Option Int}
theorem Pa{g:Int->Int->V}{f:Int->Int->α}[Sc K α](hg:∀i j,g i j=Sc.val K (f i j))(h1:Ex B sl .hp t1 m1)(h2:Ex B sl .hp t2 m2):Ex B sl md (gP (qI g) t1 t2) (m1.bind λa=>m2.bind λb=>some (f a b)) :=
 wz (f:=λa b=>some (f a b)) (λa b c v w H Q e r1 r2 q=>by cases e;cases r1;cases r2;exact⟨a,b,rfl,rfl,by rw[hg];exact q⟩) h1 h2
theorem xY(h1:Ex B sl .hp t1 m1)(h2:Ex B sl .hp t2 m2):Ex B sl md (gP (qI λi j=>.int (i+j)) t1 t2) (m1.bind λa=>m2.bind λb=>some (a+b)):=Pa (λ_ _=>rfl) h1 h2
theorem Lh(h1:Ex B sl .hp t1 m1)(h2:Ex B sl .hp t2 m2):Ex B sl md (gP (qI λi j=>.int (i-j)) t1 t2) (m1.bind λa=>m2.bind λb=>some (a-b)):=Pa (λ_ _=>rfl) h1 h2
theorem Jf(h1:Ex B sl .hp t1 m1)(h2:Ex B sl .hp t2 m2):Ex B sl md (gP (qI λi j=>.bl (decide (i<j))) t1 t2) (m1.bind λa=>m2.bind λb=>some (decide (a<b))):=Pa (λ_ _=>rfl) h1 h2
theorem Rw(h1:Ex B sl .hp t1 m1)(h2:Ex B sl .hp t2 m2):Ex B sl md (gP (qI λi j=>.bl (decide (j<i))) t1 t2) (m1.bind λa=>m2.bind λb=>some (decide (b<a))):=Pa (λ_ _=>rfl) h1 h2
theorem Jg(h1:Ex B sl .hp t1 m1)(h2:Ex B sl .hp t2 m2):Ex B sl md (gP (qI λi j=>.bl (decide (j<=i))) t1 t2) (m1.bind λa=>m2.bind λb=>some (decide (b<=a))):=Pa (λ_ _=>rfl) h1 h2
def mulM(a b:Int):Option Int:=if(-(2^64)<a/\a<2^64)\/(-(2^64)<b/\b<2^64) then some (a*b) else none
def cF(a b:Int):Option Int:=if 0<b then some (a%b) else none
def gZ(a b:Int):Option Int:=if 0<b/\b<1073741824 then some (a/b) else none
def pQ(a b:Int):Option Int:=if 0<=b/\b<=1000000/\a.natAbs<2^64 then some (a^b.toNat) else none
theorem Li(h1:Ex B sl .hp t1 m1)(h2:Ex B sl .hp t2 m2):Ex B sl md (gP (rI Er λi j=>.int (i*j)) t1 t2) (m1.bind λa=>m2.bind λb=>mulM a b) :=
 wz (f:=mulM) (λa b c v w H Q e r1 r2 q=>by
  unfold mulM at e
  split at e
  case isFalse=>cases e
  rename_i hc
  cases e;cases r1;cases r2
  exact⟨a,b,rfl,rfl,hc,q⟩) h1 h2
theorem wN(h1:Ex B sl .hp t1 m1)(h2:Ex B sl .hp t2 m2):Ex B sl md (gP (rI (λ_ j=>0<j) λi j=>.int (i%j)) t1 t2) (m1.bind λa=>m2.bind λb=>cF a b) :=
 wz (f:=cF) (λa b c v w H Q e r1 r2 q=>by
  unfold cF at e
  split at e
  case isFalse=>cases e
  rename_i hc
  cases e;cases r1;cases r2
  exact⟨a,b,rfl,rfl,hc,q⟩) h1 h2
theorem Bt(h1:Ex B sl .hp t1 m1)(h2:Ex B sl .hp t2 m2):Ex B sl md (gP (rI QC λi j=>.int (i/j)) t1 t2) (m1.bind λa=>m2.bind λb=>gZ a b) :=
 wz (f:=gZ) (λa b c v w H Q e r1 r2 q=>by
  unfold gZ at e
  split at e
  case isFalse=>cases e
  rename_i hc
  cases e;cases r1;cases r2
  exact⟨a,b,rfl,rfl,hc,q⟩) h1 h2
theorem XQ(h1:Ex B sl .hp t1 m1)(h2:Ex B sl .hp t2 m2):Ex B sl md (gP (rI Ep λi j=>.int (i^j.toNat)) t1 t2) (m1.bind λa=>m2.bind λb=>pQ a b) :=
 wz (f:=pQ) (λa b c v w H Q e r1 r2 q=>by
  unfold pQ at e
  split at e
  case isFalse=>cases e
  rename_i hc
  cases e;cases r1;cases r2
  exact⟨a,b,rfl,rfl,hc,q⟩) h1 h2
end
theorem A2.aV(h:A2 R vs xs)(e:L2.aV xs i=some a):∃v,L2.aV vs i=some v/\R v a:=by
 unfold L2.aV at e ⊢
 rw[h.len]
 cases q:rP xs.length i with
 |none=>rw[q] at e;cases e
 |some j=>rw[q] at e;exact h.at2 e
theorem wI{m1:Option (List α)}{m2:Option Int}(h1:Ex B sl md t1 m1)(h2:Ex B sl .hp t2 m2):Ex B sl md (gP (wk K) t1 t2) (m1.bind λxs=>m2.bind λi=>L2.aV xs i):=λc hc F O H σ Q s k=>by
 obtain⟨xs,i,e1,e2,e3⟩:=qU hc
 refine h1 xs e1 F O H σ _ s λv F' H' g r1=>?_
 refine h2 i e2 F' O H' σ _ (s.grow g) λw F2 H2 g2 r2=>?_
 cases r2
 obtain⟨p,vs,rfl,z1,z2⟩:=r1
 obtain⟨u,y1,y2⟩:=z2.aV e3
 have hle:Same (reg B F' H' md) H2:=(match md with
  |.nw=>aW.trans g.ok.fh
  |.fz=>g.ok.fh
  |.hp=>.refl _:Same (reg B F' H' md) H').trans g2.hh
 exact⟨p,vs,i,u,rfl,rfl,bw.of (hle _ _ z1),y1,k u F2 H2 (g.trans g2) (Rp.mono (xO g2 md) y2)⟩
theorem Lj{n:Bool}{xs:List α}{m2:Option Int}(i:Nat)(hs:sl[i]?=some (.ow n xs))(h2:Ex B sl .hp t2 m2):Ex B sl (ju n) (gP (wk K) (eO i) t2) (m2.bind λi=>L2.aV xs i):=λc hc F O H σ Q s k=>by
 cases m2 with
 |none=>cases hc
 |some j =>
  have hc:L2.aV xs j=some c:=hc
  obtain⟨O1,O2,p,vs,rfl,y1,y2,_⟩:=s.2.qT hs
  refine⟨_,y1,?_⟩
  refine h2 j rfl F _ H σ _ s λw F2 H2 g2 r2=>?_
  cases r2
  obtain⟨u,z1,z2⟩:=y2.aV hc
  exact⟨p,vs,j,u,rfl,rfl,bw.of (g2.hh _ _ s.1.one.2.2),z1,k u F2 H2 g2 (Rp.mono (xO g2 (ju n)) z2)⟩
theorem Lk{m:Option (α×β)}(h1:Ex B sl md t1 m)(h2:Ex B sl .hp t2 (some (0:Int))):Ex B sl md (gP (Az K) t1 t2) (m.bind λx=>some x.1):=λc hc F O H σ Q s k=>by
 cases m with
 |none=>cases hc
 |some x =>
  cases(show some x.1=some c from hc)
  refine h1 x rfl F O H σ _ s λv F' H' g r1=>?_
  refine h2 0 rfl F' O H' σ _ (s.grow g) λw F2 H2 g2 r2=>?_
  cases r2
  obtain⟨p,v1,v2,rfl,z1,z2,z3⟩:=r1
  have hle:Same (reg B F' H' md) H2:=(match md with
   |.nw=>aW.trans g.ok.fh
   |.fz=>g.ok.fh
   |.hp=>.refl _:Same (reg B F' H' md) H').trans g2.hh
  exact⟨p,[v1,v2],0,v1,rfl,rfl,.inl (.inl (hle _ _ z1)),rfl,k v1 F2 H2 (g.trans g2) (Rp.mono (xO g2 md) z2)⟩
theorem XR{m:Option (α×β)}(h1:Ex B sl md t1 m)(h2:Ex B sl .hp t2 (some (1:Int))):Ex B sl md (gP (Az K) t1 t2) (m.bind λx=>some x.2):=λc hc F O H σ Q s k=>by
 cases m with
 |none=>cases hc
 |some x =>
  cases(show some x.2=some c from hc)
  refine h1 x rfl F O H σ _ s λv F' H' g r1=>?_
  refine h2 1 rfl F' O H' σ _ (s.grow g) λw F2 H2 g2 r2=>?_
  cases r2
  obtain⟨p,v1,v2,rfl,z1,z2,z3⟩:=r1
  have hle:Same (reg B F' H' md) H2:=(match md with
   |.nw=>aW.trans g.ok.fh
   |.fz=>g.ok.fh
   |.hp=>.refl _:Same (reg B F' H' md) H').trans g2.hh
  exact⟨p,[v1,v2],1,v2,rfl,rfl,.inl (.inl (hle _ _ z1)),rfl,k v2 F2 H2 (g.trans g2) (Rp.mono (xO g2 md) z3)⟩
abbrev Bu(K:PySem.W.Frag):List V->Hp->VK->Prop:=λxs H Q=>∃p ys,xs=[.ref p]/\(bw K H p ys\/kj K H p ys)/\Q (.int ys.length) H
theorem uO{m:Option (List α)}(h:Ex B sl .hp t m):Ex B sl md (uo (Bu K) (xZ t bO)) (m.bind λxs=>some (xs.length:Int)):=λc hc F O H σ Q s k=>by
 cases m with
 |none=>cases hc
 |some xs =>
  cases(show some (xs.length:Int)=some c from hc)
  refine h xs rfl F O H σ _ s λv F' H' g r1=>?_
  obtain⟨p,vs,rfl,z1,z2⟩:=r1
  exact⟨p,vs,rfl,.inl (bw.of z1),k _ F' H' g (by show V.int vs.length=V.int xs.length;rw[z2.len])⟩
abbrev Jh(K:PySem.W.Frag):List V->Hp->VK->Prop:=λxs H Q=>∃p ys,xs=[V.ref p]/\(bw K H p ys\/kj K H p ys)/\∀l,H l=none->Q (.ref l) (upd H l (.lst ys))
theorem A2.sc{F F':Hp}[Sc K α]{vs:List V}{xs:List α}(h:A2 (rp K F) vs xs):A2 (rp K F') vs xs:=h.imp λ_ _=>Vc
theorem Ji[Sc K α]{m:Option (List α)}(h:Ex B sl .hp t m):Eo B sl md (uo (Jh K) (xZ t bO)) m:=λc hc F O H σ Q s k=>by
 refine h c hc F O H σ _ s λv F' H' g r1=>?_
 obtain⟨p,vs,rfl,z1,z2⟩:=r1
 exact⟨p,vs,rfl,.inl (bw.of z1),λl hl=>k l vs F' H' g hl z2.sc⟩
class Fl (K:PySem.W.Frag) (α:Type) [Rp K α] [Sc K α] [DecidableEq α]:Prop where
 flat:∀a:α,Dq (Sc.val K a)=true
 eq:∀a b:α,Ft (Sc.val K a) (Sc.val K b)=decide (a=b)
instance:Fl K Int:=⟨λ_=>rfl,λa b=>by show(a==b)=_;exact ji a b⟩
instance:Fl K Str:=⟨λ_=>rfl,λa b=>by show(a==b)=_;exact ji a b⟩
instance:Fl K Bool:=⟨λ_=>rfl,λa b=>by show(a==b)=_;exact ji a b⟩
instance:Fl K (Option Int):=⟨λa=>by cases a<;>rfl,λa b=>by
 cases a with
 |none=>cases b with
  |none=>rfl
  |some y=>rfl
 |some x=>cases b with
  |none=>rfl
  |some y=>show(x==y)=_;rw[ji];simp⟩
theorem A2.vals[Sc K α]:∀{vs:List V}{xs:List α},A2 (rp K F) vs xs->vs=xs.map (Sc.val K)
 |[],[],_=>rfl
 |_::_,_::_,h=>by rw[map_cons,Sc.is.mp h.1,A2.vals h.2]
 |[],_::_,h=>h.elim
 |_::_,[],h=>h.elim
theorem Rx[Sc K α][DecidableEq α][Fl K α](a:α):∀xs:List α,inV (Sc.val K a) (xs.map (Sc.val K))=decide (a∈xs)
 |[]=>by simp[inV]
 |x::xs=>by
  have ih:=Rx a xs
  unfold inV at ih ⊢
  rw[map_cons,any_cons,ih,Fl.eq]
  by_cases h1:x=a
  ·subst h1;simp
  ·by_cases h2:a∈xs<;>simp[h1,h2,abt h1]
theorem Vj[Sc K α][DecidableEq α][Fl K α](xs:List α):(xs.map (Sc.val K)).all Dq=true:=by
 rw[List.all_map,all_eq_true]
 intro x _
 exact Fl.flat x
theorem Ry[Sc K α][DecidableEq α][Fl K α]{m1:Option α}{m2:Option (List α)}(h1:Ex B sl .hp t1 m1)(h2:Ex B sl .hp t2 m2):Ex B sl md (gP (Jb K false) t1 t2) (m1.bind λa=>m2.bind λxs=>some (decide (a∈xs))) :=
 wz (f:=λa xs=>some (decide (a∈xs))) (λa b c v w H Q e r1 r2 q=>by
  cases e
  obtain⟨p,vs,rfl,z1,z2⟩:=r2
  have ev:=Sc.is.mp r1
  have es:=z2.vals
  subst ev es
  refine⟨p,_,rfl,.inl (bw.of z1),Fl.flat a,Vj b,?_⟩
  have:=Rx (K:=K) a b
  simp only[aaw,if_false]
  rw[this]
  exact q) h1 h2
theorem XS[Sc K α][DecidableEq α][Fl K α]{m1:Option α}{m2:Option (List α)}(h1:Ex B sl .hp t1 m1)(h2:Ex B sl .hp t2 m2):Ex B sl md (gP (Jb K true) t1 t2) (m1.bind λa=>m2.bind λxs=>some (!decide (a∈xs))) :=
 wz (f:=λa xs=>some (!decide (a∈xs))) (λa b c v w H Q e r1 r2 q=>by
  cases e
  obtain⟨p,vs,rfl,z1,z2⟩:=r2
  have ev:=Sc.is.mp r1
  have es:=z2.vals
  subst ev es
  refine⟨p,_,rfl,.inl (bw.of z1),Fl.flat a,Vj b,?_⟩
  have:=Rx (K:=K) a b
  simp only[if_true]
  rw[this]
  exact q) h1 h2
theorem Vk{m:Option (Option α)}(h:Ex B sl .hp t m):Ex B sl md (Qq t) (m.bind λa=>some a.isNone):=λc hc F O H σ Q s k=>by
 cases m with
 |none=>cases hc
 |some a =>
  cases(show some a.isNone=some c from hc)
  refine h a rfl F O H σ _ s λv F' H' g r1=>?_
  cases a with
  |none=>cases r1;exact k _ F' H' g rfl
  |some x=>rw[decide_eq_false r1.1];exact k _ F' H' g rfl
theorem Ge{m:Option (Option α)}(h:Ex B sl .hp t m):Ex B sl md (Im t) (m.bind λa=>some a.isSome):=λc hc F O H σ Q s k=>by
 cases m with
 |none=>cases hc
 |some a =>
  cases(show some a.isSome=some c from hc)
  refine h a rfl F O H σ _ s λv F' H' g r1=>?_
  cases a with
  |none=>cases r1;exact k _ F' H' g rfl
  |some x=>rw[decide_eq_false r1.1];exact k _ F' H' g rfl
theorem X3{m:Option (Option α)}(h:Ex B sl md t m):Ex B sl md t (m.bind λa=>a):=λc hc F O H σ Q s k=>by
 cases m with
 |none=>cases hc
 |some a =>
  cases a with
  |none=>cases hc
  |some x =>
   have e:x=c:=aay hc
   subst e
   exact h (some x) rfl F O H σ _ s λv F' H' g r1=>k v F' H' g r1.2
theorem zRi{m:Option wu}(h:Ex B sl .hp t m):Ex B sl md (uo (Bu K) (xZ t bO)) (m.bind λxs=>some (xs.ns.length:Int)):=λc hc F O H σ Q s k=>by
 cases m with
 |none=>cases hc
 |some xs =>
  cases(show some (xs.ns.length:Int)=some c from hc)
  refine h xs rfl F O H σ _ s λv F' H' g r1=>?_
  obtain⟨p,rfl,z1⟩:=r1
  exact⟨p,_,rfl,.inl z1,k _ F' H' g (by show V.int (xs.ns.map V.int).length=V.int xs.ns.length;rw[length_map])⟩
theorem Gf(h:L2.aV ns i=some z):L2.aV (ns.map V.int) i=some (.int z):=by
 unfold L2.aV at h ⊢
 rw[length_map]
 cases q:rP ns.length i with
 |none=>rw[q] at h;cases h
 |some j =>
  rw[q] at h
  show(ns.map V.int)[j]?=_
  have h:ns[j]?=some z:=h
  rw[getElem?_map,h]<;>rfl
theorem Ln{m1:Option wu}{m2:Option Int}(h1:Ex B sl .hp t1 m1)(h2:Ex B sl .hp t2 m2):Ex B sl md (gP (wk K) t1 t2) (m1.bind λxs=>m2.bind λi=>L2.aV xs.ns i) :=
 wz (f:=λ(xs:wu) (i:Int)=>L2.aV xs.ns i) (λa b c v w H Q e r1 r2 q=>by
  have r2:w=.int b:=r2
  subst r2
  obtain⟨p,rfl,z1⟩:=r1
  have q:Q (.int c) H:=q
  exact⟨p,a.ns.map V.int,b,.int c,rfl,rfl,z1,Gf e,q⟩) h1 h2
theorem Gg{m1 m2:Option Int}(h1:Ex B sl .hp t1 m1)(h2:Ex B sl .hp t2 m2):Ex B sl md (uo (λxs H Q=>∃i j,xs=[.int i,.int j]/\Q (.int (if j > i then j else i)) H) (xZ t1 (xZ t2 bO))) (m1.bind λa=>m2.bind λb=>some (max a b)):=λc hc F O H σ Q s k=>by
 obtain⟨a,b,e1,e2,e3⟩:=qU hc
 cases e3
 refine h1 a e1 F O H σ _ s λv F' H' g r1=>?_
 refine h2 b e2 F' O H' σ _ (s.grow g) λw F2 H2 g2 r2=>?_
 cases r1;cases r2
 exact⟨a,b,rfl,by rw[show(if b > a then b else a)=max a b by split<;>omega];exact k _ F2 H2 (g.trans g2) rfl⟩
class Ty (K:PySem.W.Frag) (α:Type) [Rp K α] where
 ty:Value
 is:∀{H:Hp}{v:V}{a:α},rp K H v a->jR K H v ty
instance:Ty K Int:=⟨.type "int",λh=>by cases h;exact .int _⟩
instance:Ty K Bool:=⟨.type "bool",λh=>by cases h;exact .bl _⟩
instance:Ty K Str:=⟨.type "str",λh=>by cases h;exact .str _⟩
instance:Ty K (List α):=⟨.type "list",λ⟨p,vs,e,h,_⟩=>by rw[e];exact .lst h⟩
instance:Ty K (α×β):=⟨.type "tuple",λ⟨p,_,_,e,h,_⟩=>by rw[e];exact .tup h⟩
theorem Du[Ty K α]{c:Value}{y:V}{b:Bool}{m:Option α}(hb:kitOne K (Ty.ty K α) c=some b)(hy:RelV y c)(h:Ex B sl .hp t m):Ex B sl md (uo (Fy K c) (xZ t (xZ (tC y) bO))) (m.bind λ_=>some b):=λd hd F O H σ Q s k=>by
 cases m with
 |none=>cases hd
 |some a =>
  cases(show some b=some d from hd)
  refine h a rfl F O H σ _ s λv F' H' g r1=>?_
  exact⟨v,y,_,b,rfl,hy,Ty.is r1,hb,k _ F' H' g rfl⟩
end
def src(xss:List LI)(j:Nat):LI:=((aat xss.length).filter λk=>decide ((j:Int)∈xss.getD k [])).map adi
theorem eU{α:Type}{p q:α->Bool}:∀{l:List α},(∀x∈l,p x=q x)->l.filter p=l.filter q
 |[],_=>rfl
 |a::l,h=>by
  rw[filter_cons,filter_cons,h a mem_cons_self,eU λx hx=>h x (mem_cons_of_mem _ hx)]
theorem zSy(xss:List LI)(xs:LI)(j:Nat):src (xss++[xs]) j=src xss j++(if(j:Int)∈xs then[(xss.length:Int)] else[]):=by
 unfold src
 rw[length_append,length_singleton,range_succ,List.filter_append,map_append]
 congr 1
 ·congr 1
  refine eU λk hk=>?_
  have hk':k<xss.length:=mem_range.mp hk
  rw[getD_eq_getElem?_getD,getD_eq_getElem?_getD,getElem?_append_left hk']
 ·rw[filter_cons,List.filter_nil,getD_eq_getElem?_getD,getElem?_append_right (aaq _),Nat.sub_self]
  by_cases h:(j:Int)∈xs
  ·simp[h]
  ·simp[h]
theorem zSx{xss:List LI}{i:Nat}{xs:LI}(h:xss[i]?=some xs)(j:Nat):src (xss.take (i+1)) j=src (xss.take i) j++(if(j:Int)∈xs then[(i:Int)] else[]):=by
 have hi:i<xss.length:=(aa2.mp h).1
 rw[take_add_one,h]
 have e:(some xs:Option LI).toList=[xs]:=rfl
 rw[e,zSy,length_take,Nat.min_eq_left (ach hi)]
theorem Gh(xss:List LI)(j:Nat):(src xss j).length<=xss.length:=by
 unfold src
 rw[length_map]
 exact aaz (length_filter_le _ _) (by rw[length_range];exact aaq _)
theorem int_at{ns:LI}{i:Nat}{y:V}(h:(ns.map V.int)[i]?=some y):∃z,y=.int z/\ns[i]?=some z:=by
 rw[getElem?_map] at h
 cases e:ns[i]? with
 |none=>rw[e] at h;cases h
 |some z=>rw[e] at h;exact⟨z,(aay h).symm,rfl⟩
theorem Lp{bs:List Addr}{i:Nat}{y:V}(h:(bs.map V.ref)[i]?=some y):∃b,y=.ref b/\bs[i]?=some b:=by
 rw[getElem?_map] at h
 cases e:bs[i]? with
 |none=>rw[e] at h;cases h
 |some z=>rw[e] at h;exact⟨z,(aay h).symm,rfl⟩
theorem Gi{bs:List Addr}{i:Nat}{b:Addr}(h:bs[i]?=some b):(bs.map V.ref)[i]?=some (.ref b):=by rw[getElem?_map,h]<;>rfl
theorem xJ{α:Type}{xs:List α}{x:α}(h:xs[i]?=some x):i<xs.length:=(aa2.mp h).1
theorem zQv{i:Nat}(h:i<1920):((i:Int)).natAbs.log2<1920:=by
 rw[Int.natAbs_natCast]
 exact aa1 (Nat.log2_le_self i) h
theorem zGf{ns:LI}(nd:ns.Nodup)(h:ns[i]?=some z):¬z∈ns.take i:=λhz=>by
 obtain⟨j,hj⟩:=mem_iff_getElem?.mp hz
 have hji:j<i:=by
  have:=xJ hj
  rw[length_take] at this
  omega
 rw[getElem?_take_of_lt hji] at hj
 have hi:=xJ h
 have hjl:=xJ hj
 rw[aao hi] at h
 rw[aao hjl] at hj
 have e:ns[j]=ns[i]:=(aay hj).trans (aay h).symm
 have:=(getElem_inj nd).mp e
 omega
theorem uS{α:Type}{ns:List α}{z x:α}(h:ns[i]?=some z):x∈ns.take (i+1)↔x∈ns.take i\/x=z:=by
 rw[take_add_one,h]
 simp
def qW(K:PySem.W.Frag)(H:Hp)(bs:List Addr)(xss:List LI):Prop:=bs.length=xss.length/\∀(i:Nat)(b:Addr),bs[i]?=some b->∃xs:LI,xss[i]?=some xs/\bw K H b (xs.map V.int)
theorem qW.same(r:qW K H bs xss)(s:Same H H'):qW K H' bs xss:=⟨r.1,λi b h=>let⟨xs,h1,h2⟩:=r.2 i b h;⟨xs,h1,s.seq h2⟩⟩
def Vl(n:Nat)(xss:List LI):Prop:=xss.length=n/\∀xs∈xss,xs≠[]/\xs.Nodup/\xs.length<=100/\∀z∈xs,0<=z/\z<(n:Int)
def qX(H:Hp)(cs:List Addr)(row:Nat->LI):Prop:=∀(j:Nat)(c:Addr),cs[j]?=some c->H c=some (.lst ((row j).map V.int))
structure Bl(K:PySem.W.Frag)(mg:Str->Option Value):Prop where
 len:mg "len" = none
 range:mg "range" = none
 jw:mg "isinstance" = none
 int:mg "int" = none
 bool:mg "bool" = none
 list:mg "list" = none
 enum:mg "enumerate" = none
 ii:kitOne K (.type "int") (.type "int")=some true
 ib:kitOne K (.type "int") (.type "bool")=some false
 ll:kitOne K (.type "list") (.type "list")=some true
theorem RB:kitOne K (.type "int") (.type "int")=some true:=rfl
theorem RD:kitOne K (.type "list") (.type "list")=some true:=rfl
theorem RG:kitOne K (.type "int") (.type "bool")=some false:=by
 first|rfl|(unfold kitOne kitCls;decide +kernel)
theorem xM:bootBuiltins "isinstance" = some (.builtin "isinstance"):=by decide +kernel
theorem X4:bootBuiltins "int" = some (.type "int"):=by decide +kernel
theorem X5:bootBuiltins "bool" = some (.type "bool"):=by decide +kernel
theorem Gj:bootBuiltins "list" = some (.type "list"):=by decide +kernel
structure News(H H':Hp)(cs:List Addr)(xss:List (List V)):Prop where
 len:cs.length=xss.length
 at_:∀(i:Nat)(c:Addr),cs[i]?=some c->∃xs,xss[i]?=some xs/\H' c=some (.lst xs)
 new:∀c∈cs,H c=none
 nd:cs.Nodup
theorem News.nil:News H H' [] []:=⟨rfl,λi c h=>(by simp at h),λc h=>(by cases h),nodup_nil⟩
theorem News.snoc(n:News H H1 cs xss)(s:Same H H1)(h:H1 l=none):News H (upd H1 l (.lst xs)) (cs++[l]) (xss++[xs]):=by
 have hl:∀c∈cs,c≠l:=λc hc e=>by
  obtain⟨i,hi⟩:=mem_iff_getElem?.mp hc
  obtain⟨ys,_,q⟩:=n.at_ i c hi
  rw[e,h] at q
  cases q
 refine⟨by rw[length_append,length_append,n.len]<;>rfl,λi c hc=>?_,λc hc=>?_,?_⟩
 ·by_cases hi:i<cs.length
  ·rw[getElem?_append_left hi] at hc
   obtain⟨ys,h1,h2⟩:=n.at_ i c hc
   refine⟨ys,?_,?_⟩
   ·rw[getElem?_append_left (by rw[<-n.len];exact hi)];exact h1
   ·rw[zV (hl c (mem_of_getElem? hc))];exact h2
  ·rw[getElem?_append_right (by omega)] at hc
   have hi2:i-cs.length=0:=by
    have:=xJ hc
    simp at this
    omega
   rw[hi2] at hc
   have e:l=c:=aay hc
   subst e
   refine⟨xs,?_,zR⟩
   rw[getElem?_append_right (by rw[<-n.len];omega),<-n.len,hi2]<;>rfl
 ·rcases mem_append.mp hc with hc|hc
  ·exact n.new c hc
  ·rw[mem_singleton.mp hc];exact s.free h
 ·rw[nodup_append]
  refine⟨n.nd,by simp,λa ha b hb e=>?_⟩
  rw[mem_singleton.mp hb] at e
  exact hl a ha e
theorem News.RJ(n:News H H' cs xss)(h:H' r=none):r∉cs:=λhc=>by
 obtain⟨i,hi⟩:=mem_iff_getElem?.mp hc
 obtain⟨ys,_,q⟩:=n.at_ i r hi
 rw[h] at q
 cases q
structure au(C:Addr) where
 steps:List LI
 marks:List (Str×LI)
 fair:List LI
 sources:List LI
def X6:List Str:=["many","next_of","before","marked","fair_at","names_at"]
def srcs(xss:List LI):List LI:=(aat xss.length).map (src xss)
def hid(H:Hp)(p:Addr):Hp:=λb=>if b=p then none else H b
section
variable{K:PySem.W.Frag}{C:Addr}
instance:Rp K (au C):=⟨λF v m=>∃p dx fs vS vM vF vB,v=.ref p/\F p=some (.ins C dx fs)/\fs.lookup ("steps":Str)=some vS/\rp K F vS m.steps/\fs.lookup ("marks":Str)=some vM/\rp K F vM m.marks/\fs.lookup ("fair":Str)=some vF/\rp K F vF m.fair /\
 fs.lookup ("sources":Str)=some vB/\rp K F vB m.sources/\∀g∈X6,fs.lookup g=none,
 λs ⟨p,dx,fs,vS,vM,vF,vB,h1,h2,h3,h4,h5,h6,h7,h8,h9,h10,h11⟩=>⟨p,dx,fs,vS,vM,vF,vB,h1,s _ _ h2,h3,Rp.mono s h4,h5,Rp.mono s h6,h7,Rp.mono s h8,h9,Rp.mono s h10,h11⟩⟩
instance:Nn K (au C):=⟨λ⟨_,_,_,_,_,_,_,h,_⟩=>by rw[h];intro e;cases e⟩
theorem Jj(ns:LI):A2 (rp K F) (ns.map V.int) ns:=A2.of_map (R:=rp K F) (f:=V.int) (λ_=>rfl) ns
theorem zSb:∀{cs:List Addr}{xss:List LI},cs.length=xss.length->(∀(i:Nat)(c:Addr),cs[i]?=some c->∃xs,xss[i]?=some xs/\F c=some (.lst (xs.map V.int)))->A2 (rp K F) (cs.map V.ref) xss
 |[],[],_,_=>trivial
 |c::cs,xs::xss,hl,h=>by
  obtain⟨ys,e1,e2⟩:=h 0 c rfl
  cases e1
  exact⟨⟨c,_,rfl,e2,Jj _⟩,zSb (by simpa using hl) λi c' hc=>h (i+1) c' hc⟩
 |[],_::_,hl,_=>by simp at hl
 |_::_,[],hl,_=>by simp at hl
theorem zPl{xss:List LI}(h:i<xss.length):(srcs xss)[i]?=some (src xss i):=by
 unfold srcs
 rw[getElem?_map,getElem?_range h]
 rfl
theorem Gk{cs:List Addr}{xss:List LI}(hl:cs.length=xss.length)(n:qX H' cs (src xss))(h:∀c∈cs,∀o,H' c=some o->D c=some o):A2 (rp K D) (cs.map V.ref) (srcs xss):=by
 refine zSb (by rw[hl];unfold srcs;simp) λi c hc=>?_
 have hi:=xJ hc
 exact⟨_,zPl (by omega),h c (mem_of_getElem? hc) _ (n i c hc)⟩
end
section
variable{K:PySem.W.Frag}{B:Bs}{F H F' H' G:Hp}{O:Own}{sl:SL K}{σ:St}{md:Md}{α β:Type}[Rp K α][Rp K β]{te ta:TE}{C:Addr}
theorem Vm{pr:au C->α}(cl:Cls K C)(na:aY K C f)(hp:∀(R:Hp) (v:V) (x:au C),rp K R v x->∃p dx fs w,v=.ref p/\R p=some (.ins C dx fs)/\fs.lookup f=some w/\rp K R w (pr x))(h:Ex B sl md ta m) :
  Ex B sl md (pJ K ta f) (m.bind λx=>some (pr x)):=λc hc F O H σ Q s k=>by
 cases m with
 |none=>cases hc
 |some x =>
  cases(show some (pr x)=some c from hc)
  refine h x rfl F O H σ _ s λv F' H' g r=>?_
  obtain⟨p,dx,fs,w,rfl,h1,h2,h3⟩:=hp _ v x r
  have hle:Same (reg B F' H' md) H':=match md with
   |.nw=>aW.trans g.ok.fh
   |.fz=>g.ok.fh
   |.hp=>.refl _
  exact⟨p,C,dx,fs,w,rfl,hle _ _ h1,cl,na,h2,k w F' H' g h3⟩
theorem zJt{m:Option (au C)}(cl:Cls K C)(na:aY K C "steps")(h:Ex B sl md ta m):Ex B sl md (pJ K ta "steps") (m.bind λx=>some x.steps) :=
 Vm cl na (λR v x ⟨p,dx,fs,vS,vM,vF,vB,h1,h2,h3,h4,_⟩=>⟨p,dx,fs,vS,h1,h2,h3,h4⟩) h
theorem zRq{m:Option (au C)}(cl:Cls K C)(na:aY K C "marks")(h:Ex B sl md ta m):Ex B sl md (pJ K ta "marks") (m.bind λx=>some x.marks) :=
 Vm cl na (λR v x ⟨p,dx,fs,vS,vM,vF,vB,h1,h2,_,_,h5,h6,_⟩=>⟨p,dx,fs,vM,h1,h2,h5,h6⟩) h
theorem zMm{m:Option (au C)}(cl:Cls K C)(na:aY K C "fair")(h:Ex B sl md ta m):Ex B sl md (pJ K ta "fair") (m.bind λx=>some x.fair) :=
 Vm cl na (λR v x ⟨p,dx,fs,vS,vM,vF,vB,h1,h2,_,_,_,_,h7,h8,_⟩=>⟨p,dx,fs,vF,h1,h2,h7,h8⟩) h
theorem zLh{m:Option (au C)}(cl:Cls K C)(na:aY K C "sources")(h:Ex B sl md ta m):Ex B sl md (pJ K ta "sources") (m.bind λx=>some x.sources) :=
 Vm cl na (λR v x ⟨p,dx,fs,vS,vM,vF,vB,h1,h2,_,_,_,_,_,_,h9,h10,_⟩=>⟨p,dx,fs,vB,h1,h2,h9,h10⟩) h
theorem Dv{A:Type}{as:A->SL K}{f:au C×A->Option β}{ma:Option A}(hg:g∈X6)(h0:Ex B sl .hp ta mm)(h:Ea B sl .hp t as ma) :
  Ex B sl md (QH C g (cj K false (λx:au C×A=>.fz false x.1::as x.2) f) [] E0 ta t) (mm.bind λx=>ma.bind λa=>f (x,a)):=λc hc F O H σ Q s kk=>by
 cases mm with
 |none=>cases hc
 |some x =>
  cases ma with
  |none=>cases hc
  |some a =>
   have hc:f (x,a)=some c:=hc
   refine h0 x rfl F O H σ _ s λv F1 H1 g1 r1=>?_
   obtain⟨p,dx,fs,vS,vM,vF,vB,rfl,h2,h3,h4,h5,h6,h7,h8,h9,h10,h11⟩:=id r1
   refine⟨p,dx,fs,rfl,h2,h11 g hg,?_⟩
   refine h a rfl F1 O H1 σ _ (s.grow g1) λvs F' H' g2 r=>?_
   rw[append_nil]
   refine⟨(x,a),c,H',.refl _,hc,.cons (Rp.mono g2.hh r1) r,λv H2 s2 r2=>?_⟩
   have g3:=g2.ok.called s2
   refine kk v _ H2 (g1.trans (g2.trans g3)) ?_
   have r3:=Rp.mono (Xr (F:=F') g2.ok.h0 s2) r2
   exact match md with
   |.nw=>r3
   |.fz=>Rp.mono aW r3
   |.hp=>Rp.mono (aW.trans g3.ok.fh) r3
def En(B:Bs)(sl:SL K)(t:TE){α:Type}[Rp K α](m:Option α):Prop :=
 ∀a,m=some a->∀(F:Hp)(O:Own)(H:Hp)(σ:St)(Q:VK),At B sl F O H σ->(∀(v:V)(F' H1 H2:Hp),bK B F H O F' H1->Same H1 H2->rp K (dif H2 H1) v a->Q v H2)->t σ H Q
theorem Gm{A:Type}{as:A->SL K}{f:A->Option β}{ta:TA}{ma:Option A}(h:Ea B sl .hp ta as ma):En B sl (QG (cj K false as f) [] E0 ta) (ma.bind f):=λc hc F O H σ Q s kk=>by
 cases ma with
 |none=>cases hc
 |some a =>
  refine h a rfl F O H σ _ s λvs F' H' g r=>?_
  rw[append_nil]
  exact⟨a,c,H',.refl _,hc,r,λv H2 s2 r2=>kk v F' H' H2 g s2 r2⟩
theorem En.ex{m:Option α}(h:En B sl te m):Ex B sl md te m:=λc hc F O H σ Q s kk=>h c hc F O H σ Q s λv F' H1 H2 g s2 r2=>by
 have g2:=g.ok.called s2
 refine kk v _ H2 (g.trans g2) ?_
 have r3:=Rp.mono (Xr (F:=F') g.ok.h0 s2) r2
 exact match md with
 |.nw=>r3
 |.fz=>Rp.mono aW r3
 |.hp=>Rp.mono (aW.trans g2.ok.fh) r3
theorem RK(h1:F b=none)(h2:∀x∈O,x.1≠b):lo F O H b=H b:=by
 unfold lo
 rw[if_neg]
 rw[h1]
 simp
 exactλx hx=>h2 _ hx rfl
theorem RL{s:Slot K}{m:Option α}(i:Nat)(hs:sl[i]?=some s)(ho:lY s=false)(h:En B sl te m):Sn B sl (mH te (ug i)) (λa=>sl.set i (.nu a)) m:=λa ha G D σ H s k=>by
 obtain⟨F,O,g,z⟩:=s
 refine h a ha F O H σ _ z λv F' H1 H2 gr s2 r=>k _ _ ?_
 have z1:=z.grow gr
 have k2:Ok B F' O H2:=⟨gr.ok.fh.trans s2,gr.ok.h0.trans s2,gr.ok.fa,λx hx=>⟨(gr.ok.fo x hx).1,(gr.ok.fo x hx).2.1,s2 _ _ (gr.ok.fo x hx).2.2⟩,gr.ok.nd⟩
 have hlo:Same (lo F' O H1) (lo F' O H2):=λb o e=>by
  unfold lo at e ⊢
  split at e
  ·cases e
  ·rename_i hh
   rw[if_neg hh]
   exact s2 _ _ e
 refine⟨F',O,g.trans gr.ff,k2,(z1.2.mono (.refl _) hlo s2).put (λ_ _ _ y=>.nu (Rp.mono (λb o e=>?_) r) y) hs ho⟩
 have hb:H1 b=none:=by
  cases q:H1 b with
  |none=>rfl
  |some u=>unfold dif at e;rw[q] at e;cases e
 rw[uw (gr.ok.h0.free hb),RK (gr.ok.fh.free hb) λx hx q=>by rw[<-q,(gr.ok.fo x hx).2.2] at hb;cases hb]
 exact aW _ _ e
structure RM where
 n:Unit
instance:Rp K RM:=⟨λF v _=>∃p vs,v=.ref p/\F p=some (.lst vs),λs ⟨p,vs,h1,h2⟩=>⟨p,vs,h1,s _ _ h2⟩⟩
class IsL (K:PySem.W.Frag) (α:Type) [Rp K α]:Prop where
 il:∀{F:Hp}{v:V}{a:α},rp K F v a->∃p vs,v=.ref p/\F p=some (.lst vs)
instance:IsL K (List α):=⟨λ⟨p,vs,h1,h2,_⟩=>⟨p,vs,h1,h2⟩⟩
instance:IsL K RM:=⟨λh=>h⟩
instance(n:Nat)(xss:List LI):Decidable (Vl n xss):=by unfold Vl;infer_instance
theorem zU8{s:Slot K}(i:Nat)(hs:sl[i]?=some (.fz n x))(h:Ex B sl .hp te m):Sn B sl (Qy i te (UW f)) (λa=>sl.set i (.fz true a)) (m.bind λy=>some (f x y)):=λa ha G D σ H s k=>by
 cases m with
 |none=>cases ha
 |some y =>
  cases(show some (f x y)=some a from ha)
  obtain⟨F,O,g,z⟩:=s
  obtain⟨v,h1,h2⟩:=z.2.qR hs
  have h2:v=.int x:=Sc.is.mp h2
  subst h2
  refine⟨_,h1,h y rfl F O H σ _ z λw F' H' gr r=>?_⟩
  cases r
  exact⟨x,y,rfl,rfl,k _ _ (Sg.set (n:=true) (a:=f x y) (g.trans gr.ff) (z.grow gr) hs rfl rfl)⟩
end
section
variable{K:PySem.W.Frag}{X:Cx}
theorem Lq(K:PySem.W.Frag)(h:X.K=K:=by rfl):jO X (compareOp .In) (Jb K false):=by subst h;exact zQb
theorem X7(K:PySem.W.Frag)(h:X.K=K:=by rfl):jO X (compareOp .NotIn) (Jb K true):=by subst h;exact zI9
theorem bx(K:PySem.W.Frag)(h:X.K=K:=by rfl):QM X (wk K):=by subst h;exact zQ3
theorem mK(K:PySem.W.Frag)(h:X.K=K:=by rfl):QM X (Az K):=by subst h;exact KQ
theorem wS(K:PySem.W.Frag)(h:X.K=K:=by rfl):rT X (.builtin "len") (Bu K):=by subst h;exact zJ5
theorem Jk(K:PySem.W.Frag)(h:X.K=K:=by rfl):rT X (.type "list") (Jh K):=by subst h;exact zJ4
theorem xL(K:PySem.W.Frag)(hc:∀y u,RelV y c->RelV y u->u=c)(h:X.K=K:=by rfl):rT X (.builtin "isinstance") (Fy K c):=by subst h;exact zUp hc
theorem Gn(K:PySem.W.Frag)(he:PE X e ta)(h:X.K=K:=by rfl)(hb:attributeBase e f X.env (eval e X.env)=eval e X.env:=by rfl):PE X (.Attribute e f pos) (pJ K ta f):=by subst h;exact zVf he hb
theorem yI(K:PySem.W.Frag)(hl:PE X l tl)(h:X.K=K:=by rfl):PI X tg l (U0 K tl):=by subst h;exact WQ hl
theorem X8(K:PySem.W.Frag)(hm:X.mg "enumerate" = none)(ha:PA X [a] ta)(h:X.K=K:=by rfl)(hg:Gl X "enumerate":=by rfl)(hs:starEach [a] X.env=[(false,eval a X.env)]:=by rfl) :
  PI X (.Tuple elts k tp) (.Call (.Name "enumerate" p) [a] [] pos) (Bh K ta):=by subst h;exact zP7 hg hm ha hs
theorem xg(K:PySem.W.Frag){o e:Expr}{es:List Expr}{to:TE}{t:TA}{name:Str}{apos cpos:Pos}{T id:String}{r:V->List V->Hp->VK->Prop}(pa:PlainAttrs T)(slot:PySem.Slot T name id)(hty:typeOf (.builtin id)=pure (.type "method_descriptor"))(hm:O6 X id r)(ho:PE X o to)(ha:PA X (e::es) t)(h:X.K=K:=by rfl)(hbase:attributeBase o name X.env (eval o X.env)=eval o X.env:=by rfl)(hfew:((backTo cpos (starEach (e::es) X.env)).all (λx=>!x.1)&&(backToKw cpos (keywordEach [] X.env)).all (λx=>x.1.isSome)
   && decide ((e::es).length+([]:List Keyword).length+(if([]:List Keyword).isEmpty then 0 else 1)<30))=true:=by rfl)(hline:(apos.endLine==cpos.line)=true:=by rfl)(hs:starEach (e::es) X.env=(false,eval e X.env)::starEach es X.env:=by rfl)(hplain:(backTo cpos (starEach es X.env)).any (·.1)=false:=by rfl) :
  PE X (.Call (.Attribute o name apos) (e::es) [] cpos) (QX K T r to t):=by subst h;exact Jc pa slot hty hm ho ha hbase hfew hline hs hplain
theorem zVg(K:PySem.W.Frag){o:Expr}{to:TE}{name:Str}{apos cpos:Pos}{T id:String}{r:V->List V->Hp->VK->Prop}(pa:PlainAttrs T)(slot:PySem.Slot T name id)(hty:typeOf (.builtin id)=pure (.type "method_descriptor"))(hm:O6 X id r)(ho:PE X o to)(h:X.K=K:=by rfl)(hbase:attributeBase o name X.env (eval o X.env)=eval o X.env:=by rfl)(hline:(apos.endLine==cpos.line)=true:=by rfl):PE X (.Call (.Attribute o name apos) [] [] cpos) (Fv K T r to):=by subst h;exact KZ pa slot hty hm ho hbase hline
theorem Lr:bootBuiltins "max" = some (.builtin "max"):=by decide +kernel
theorem Ls:bootBuiltins "any" = some (.builtin "any"):=by decide +kernel
theorem Lw:bootBuiltins "all" = some (.builtin "all"):=by decide +kernel
theorem X_:bootBuiltins "sorted" = some (.builtin "sorted"):=by decide +kernel
theorem sy:Et B sl K5 (some true):=λa ha F O H σ Q s k=>by cases ha;exact k F H (.refl s.1)
theorem Yb{S:Type}{L:S->SL K}{m:Option S}(l:Le sl sl2)(h:Sn B sl2 t L m):Sn B sl t L m:=λa ha G D σ H q k=>h a ha G D σ H (q.le l) k
theorem Ly{B:Bs}{sl sl2:SL K}{t:TS}{al:Bool}{β:Type}[Rp K β]{m:Option β}(l:Le sl sl2)(h:SB B sl2 t al m):SB B sl t al m:=λa ha G D σ H q k=>h a ha G D σ H (q.le l) k
theorem Vn{α:Type}:∀c:List α,some []=some c->c.length<=0:=λc h=>by cases h;exact aaq _
theorem xq{α:Type}{m:Option α}{ma:Option (List α)}(h:∀b,ma=some b->b.length<=n):∀c,(m.bind λa=>ma.bind λb=>some (a::b))=some c->c.length<=n+1:=λc e=>by
 cases m with
 |none=>cases e
 |some a =>
  cases ma with
  |none=>cases e
  |some b=>cases e;exact abl (h b rfl)
theorem bnd{α β:Type}(a:α)(f:α->Option β):(some a).bind f=f a:=(λ(x:Option α) (e:x=some a)=>by subst e;rfl:∀x:Option α,x=some a->x.bind f=f a) _ rfl
def fuel:Nat:=100000
structure bC(P:Program)(w:World)(K:PySem.W.Frag)(mg:Str->Option Value)(base:Heap)(k:Nat)(x:Str)(ps:List Str)(sp:Sp):Prop where
 ex:∃f fd,aq P w K mg base aO k f fd ps sp/\Binds K fd ps []/\keepIn K (.ref f)=true/\mg x=some (.ref f)
structure fQ(P:Program)(w:World)(K:PySem.W.Frag)(mg:Str->Option Value)(base:Heap)(k:Nat)(C:Addr)(m:Str)(ps:List Str)(sp:Sp):Prop where
 ex:∃f fd,aq P w K mg base aO k f fd ps sp/\Binds K fd ps []/\Meth K C m f
 cl:Cls K C
theorem bC.mono(c:bC P w K mg base j x ps sp)(h:j<=k):bC P w K mg base k x ps sp:=by
 obtain⟨f,fd,h1,h2⟩:=c.ex
 exact⟨f,fd,h1.mono h,h2⟩
theorem fQ.mono(c:fQ P w K mg base j C x ps sp)(h:j<=k):fQ P w K mg base k C x ps sp:=by
 obtain⟨f,fd,h1,h2⟩:=c.ex
 exact⟨⟨f,fd,h1.mono h,h2⟩,c.cl⟩
theorem yB(c:bC X.prog X.w X.K X.mg X.base k x ps sp)(hr:bT k X.A)(ha:PA X (e::es) t)(hg:Gl X x:=by rfl)(hdb:(x==("__debug__":Str))=false:=by decide)(he:starEach (e::es) X.env=(false,eval e X.env)::starEach es X.env:=by rfl)(hpl:(backTo pos (starEach es X.env)).any (·.1)=false:=by rfl):PE X (.Call (.Name x p) (e::es) [] pos) (QG sp [] E0 t):=by
 obtain⟨f,fd,h1,h2,h3,h4⟩:=c.ex
 exact EY h1 hr hg h4 h3 h2 .nil vV ha hdb he hpl
theorem Pb(c:fQ X.prog X.w X.K X.mg X.base k C m ps sp)(hr:bT k X.A)(he:PE X o ta)(ha:PA X (e::es) t)(hst:starEach (e::es) X.env=(false,eval e X.env)::starEach es X.env:=by rfl)(hpl:(backTo pos (starEach es X.env)).any (·.1)=false:=by rfl)(ht:eval (.Call (.Attribute o m apos) (e::es) [] pos) X.env=(do
   let ov <-eval o X.env
   standAt apos.atName
   let(f,first) <-holding [ov] (getMethod ov m pl)
   callWith pos f first (backTo pos (starEach (e::es) X.env)) (backToKw pos (keywordEach [] X.env))):=by rfl):PE X (.Call (.Attribute o m apos) (e::es) [] pos) (QH C m sp [] E0 ta t):=by
 obtain⟨f,fd,h1,h2,h3⟩:=c.ex
 exact E_ he c.cl h3 h1 hr h2 .nil vV ha hst hpl ht
theorem Vo(c:fQ X.prog X.w X.K X.mg X.base k C m ps sp)(hr:bT k X.A)(he:PE X o ta)(ht:eval (.Call (.Attribute o m apos) [] [] pos) X.env=(do
   let ov <-eval o X.env
   standAt apos.atName
   let(f,first) <-holding [ov] (getMethod ov m pl)
   callWith pos f first (backTo pos (starEach [] X.env)) (backToKw pos (keywordEach [] X.env))):=by rfl):PE X (.Call (.Attribute o m apos) [] [] pos) (QH C m sp [] E0 ta bO):=by
 obtain⟨f,fd,h1,h2,h3⟩:=c.ex
 exact zTj he c.cl h3 h1 hr h2 .nil vV ht
end
section
variable{P:Program}{w:World}{K:PySem.W.Frag}{mg:Str->Option Value}{base:Heap}
theorem yF{A β:Type}[Rp K β]{as:A->SL K}{fM:A->Option β}(F:aU K x qual st f fd)(S:ak N ps (zI st))(hf:∀a,(as a).all isF=true)(hl:∀a,(as a).length=ps.length)(hb:∀(cdv:Value) (A:Around) (outer:List Env) (s:Shared) (H:Hp) (E:XK),bT k (A.deeper (aef qual (zI st) s.heap.objs.size f cdv)) ->
   ∃t,qN (pL aO P w K mg base N qual (zI st) f cdv A outer s H E).Ir (wR st) t/\∀Fa a,SB ⟨Fa,H⟩ (as a++replicate (N.length-ps.length) .un) t al (fM a)) :
  aq P w K mg base aO (k+1) f fd ps (cj K al as fM) :=
 F.ok S (λvs H Q E h=>zU7 hl h) λcdv A outer s H vs Q E hr h=>by
  obtain⟨t,p,q⟩:=hb cdv A outer s H E hr
  exact⟨t,p,zSz hf hl q h⟩
end
def W{α:Type}(m:Option α)(P:α->Prop):Prop:=∃a,m=some a/\P a
section
variable{α β S:Type}
theorem aj:W (some a) P↔P a:=⟨λ⟨_,e,h⟩=>by cases e;exact h,λh=>⟨a,rfl,h⟩⟩
theorem Dw:W (none:Option α) P↔False:=⟨λ⟨_,e,_⟩=>(by cases e),abo⟩
theorem zC{m:Option α}:W (m.bind f) Q↔W m λa=>W (f a) Q:=by
 cases m with
 |none=>exact⟨λ⟨_,e,_⟩=>(by cases e),λ⟨_,e,_⟩=>(by cases e)⟩
 |some a=>exact⟨λh=>⟨a,rfl,h⟩,λ⟨_,e,h⟩=>by cases e;exact h⟩
theorem RN:W ((Out.nx s:Out S β).els f) Q↔W (f s) Q:=afh
theorem W.imp{Q:α->Prop}(h:W m P)(f:∀a,P a->Q a):W m Q:=let⟨a,e,p⟩:=h;⟨a,e,f a p⟩
theorem qJ:W (cF a b) Q↔0<b/\Q (a%b):=by
 unfold cF
 split
 ·rename_i h;rw[aj];exact⟨λq=>⟨h,q⟩,λq=>q.2⟩
 ·rename_i h;rw[Dw];exact⟨abo,λq=>h q.1⟩
theorem Bv:W (gZ a b) Q↔(0<b/\b<1073741824)/\Q (a/b):=by
 unfold gZ
 split
 ·rename_i h;rw[aj];exact⟨λq=>⟨h,q⟩,λq=>q.2⟩
 ·rename_i h;rw[Dw];exact⟨abo,λq=>h q.1⟩
theorem Vp:W (mulM a b) Q↔((-(2^64)<a/\a<2^64)\/(-(2^64)<b/\b<2^64))/\Q (a*b):=by
 unfold mulM
 split
 ·rename_i h;rw[aj];exact⟨λq=>⟨h,q⟩,λq=>q.2⟩
 ·rename_i h;rw[Dw];exact⟨abo,λq=>h q.1⟩
theorem Vq:W (pQ a b) Q↔(0<=b/\b<=1000000/\a.natAbs<2^64)/\Q (a^b.toNat):=by
 unfold pQ
 split
 ·rename_i h;rw[aj];exact⟨λq=>⟨h,q⟩,λq=>q.2⟩
 ·rename_i h;rw[Dw];exact⟨abo,λq=>h q.1⟩
theorem sE:W (push xs a) Q↔xs.length<cap/\Q (xs++[a]):=by
 unfold push
 split
 ·rename_i h;rw[aj];exact⟨λq=>⟨h,q⟩,λq=>q.2⟩
 ·rename_i h;rw[Dw];exact⟨abo,λq=>h q.1⟩
def rng(n:Int):LI:=(aat n.toNat).map adi
theorem vE:W (wV n) Q↔(-(2^62)<=n/\n<2^62)/\Q (rng n):=by
 unfold wV rng
 split
 ·rename_i h;rw[aj];exact⟨λq=>⟨h,q⟩,λq=>q.2⟩
 ·rename_i h;rw[Dw];exact⟨abo,λq=>h q.1⟩
theorem wW(h:0<=n):((rng n).length:Int)=n:=by
 unfold rng
 rw[length_map,length_range]
 omega
theorem Ab{n:Int}{i:Nat}{x:Int}(h:(rng n)[i]?=some x):x=i/\(i:Int)<n:=by
 obtain⟨a,b⟩:=XC h
 exact⟨b,by omega⟩
theorem d_:x∈rng n↔0<=x/\x<n:=by
 unfold rng
 rw[mem_map]
 constructor
 ·rintro⟨a,h,rfl⟩
  rw[mem_range] at h
  exact⟨ac8 _,by show(a:Int)<n;omega⟩
 ·intro⟨h1,h2⟩
  exact⟨x.toNat,mem_range.mpr (by omega),by show((x.toNat:Nat):Int)=x;omega⟩
theorem zVy(h:0<=i):L2.aV xs i=xs[i.toNat]?:=by
 unfold L2.aV rP
 rw[if_pos h]
 by_cases q:i<xs.length
 ·rw[if_pos q];rfl
 ·rw[if_neg q,abz (by omega)];rfl
theorem cJ(h0:0<=i):W (L2.aV xs i) Q↔∃a,xs[i.toNat]?=some a/\Q a:=by
 rw[zVy h0]
 exact afh
theorem zS6{xs:List α}{i:Int}{a:α}(h0:0<=i)(h1:i<xs.length):w6 xs i a=some (xs.set i.toNat a):=by
 unfold w6 rP
 rw[if_pos h0,if_pos h1]
 rfl
theorem RP{xs:List α}{i:Int}{a:α}{Q:List α->Prop}(h0:0<=i)(h1:i<xs.length):W (w6 xs i a) Q↔Q (xs.set i.toNat a):=by
 rw[zS6 h0 h1,aj]
theorem xP{step:S->α->Option S}{Q:S->Prop}(I:Nat->S->Prop)(h0:I 0 s)(hs:∀i x s,xs[i]?=some x->I i s->W (step s x) (I (i+1)))(hd:∀s,I xs.length s->Q s):W (xH step xs s) Q:=by
 have key:∀(ys:List α)(i:Nat)(s:S),(∀j x,ys[j]?=some x->xs[i+j]?=some x)->i+ys.length=xs.length->I i s->W (xH step ys s) Q:=by
  intro ys
  induction ys with
  |nil=>intro i s _ hl h;exact⟨s,rfl,hd s ((show i=xs.length from hl)▸h)⟩
  |cons y ys ih =>
   intro i s hy hl h
   show W ((step s y).bind λs'=>xH step ys s') Q
   rw[zC]
   refine(hs i y s (hy 0 y rfl) h).imp λs' h'=>ih (i+1) s' (λj x hx=>?_) (by rw[length_cons] at hl;omega) h'
   have:=hy (j+1) x (by simpa using hx)
   rw[show i+1+j=i+(j+1) by omega]
   exact this
 exact key xs 0 s (λj x h=>by rw[ac1];exact h) (ac1 _) h0
theorem zGn{step:S->α->Option (Out S β)}:uN step (x::xs) s=(step s x).bind λo=>o.aP λs'=>uN step xs s':=by
 rw[uN]
 congr 1
theorem Yc{step:S->α->Option (Out S β)}{Q:Out S β->Prop}(I:Nat->S->Prop)(h0:I 0 s)(hs:∀i x s,xs[i]?=some x->I i s->W (step s x) λo=>∃s',o=.nx s'/\I (i+1) s')(hd:∀s,I xs.length s->Q (.nx s)):W (uN step xs s) Q:=by
 have key:∀(ys:List α)(i:Nat)(s:S),(∀j x,ys[j]?=some x->xs[i+j]?=some x)->i+ys.length=xs.length->I i s->W (uN step ys s) Q:=by
  intro ys
  induction ys with
  |nil=>intro i s _ hl h;exact⟨.nx s,rfl,hd s ((show i=xs.length from hl)▸h)⟩
  |cons y ys ih =>
   intro i s hy hl h
   rw[zGn,zC]
   refine(hs i y s (hy 0 y rfl) h).imp ?_
   rintro o ⟨s',rfl,h'⟩
   refine ih (i+1) s' (λj x hx=>?_) (by rw[length_cons] at hl;omega) h'
   have:=hy (j+1) x (by simpa using hx)
   rw[show i+1+j=i+(j+1) by omega]
   exact this
 exact key xs 0 s (λj x h=>by rw[ac1];exact h) (ac1 _) h0
theorem zSc{c:S->Option Bool}{body:S->Option S}(I:S->Prop)(μ:S->Nat)(h0:I s)(hk:μ s<k)(hs:∀s,I s->W (c s) λb=>if b=true then W (body s) λs'=>I s'/\μ s'<μ s else Q s):W (FQ c body k s) Q:=by
 induction k generalizing s with
 |zero=>omega
 |succ k ih =>
  show W ((c s).bind λb=>if b=true then(body s).bind λs'=>FQ c body k s' else some s) Q
  rw[zC]
  refine(hs s h0).imp λb h=>?_
  cases b with
  |true =>
   have h:W (body s) λs'=>I s'/\μ s'<μ s:=by simpa using h
   simp only[if_true]
   rw[zC]
   exact h.imp λs' ⟨h1,h2⟩=>ih h1 (by omega)
  |false=>simpa[aj] using h
theorem zJ2(c:α->Bool)(f:α->β):∀xs:List α,wJ (λx=>some (c x)) (λx=>some (f x)) xs=some ((xs.filter c).map f)
 |[]=>rfl
 |x::xs=>by
  have ih:=zJ2 c f xs
  show(some (c x)).bind _=_
  cases h:c x with
  |true =>
   show((some (f x)).bind λy=>(wJ _ _ xs).bind λys=>some (y::ys))=_
   rw[ih,filter_cons,if_pos h]
   rfl
  |false =>
   show wJ _ _ xs=_
   rw[ih,filter_cons,if_neg (by rw[h];decide)]
theorem Yd(c:α->Bool)(f:α->β):W (yW (λx=>some (c x)) (λx=>some (f x)) xs) Q↔xs.length<cap/\Q ((xs.filter c).map f):=by
 unfold yW
 split
 ·rename_i h;rw[zJ2,aj];exact⟨λq=>⟨h,q⟩,λq=>q.2⟩
 ·rename_i h;rw[Dw];exact⟨abo,λq=>h q.1⟩
theorem zRg(xs:List α):xs.filter (λ_=>true)=xs:=filter_eq_self.mpr λ_ _=>rfl
theorem Lz(f:α->β):W (yW (λ_=>some true) (λx=>some (f x)) xs) Q↔xs.length<cap/\Q (xs.map f):=by
 rw[Yd (λ_=>true) f,zRg]
theorem Ac[Decidable c]:W (if c then a else b) Q↔(c->W a Q)/\(¬c->W b Q):=by
 by_cases h:c
 ·rw[if_pos h];exact⟨λq=>⟨λ_=>q,λn=>absurd h n⟩,λq=>q.1 h⟩
 ·rw[if_neg h];exact⟨λq=>⟨λn=>absurd n h,λ_=>q⟩,λq=>q.2 h⟩
theorem yE(h:n<=1000):n<cap:=aa1 h (by decide)
def bQ(n:Int)(xs:LI):Prop:=xs.Pairwise (· < ·)/\∀x∈xs,0<=x/\x<n
theorem bQ.nodup(h:bQ n xs):xs.Nodup:=h.1.imp λq=>Int.ne_of_lt q
theorem Ye:bQ n []:=⟨.nil,λx h=>by cases h⟩
theorem Yg(h:bQ k xs)(h0:0<=k)(hk:k<n):bQ n (xs++[k]):=by
 refine⟨List.pairwise_append.mpr ⟨h.1,by simp,λx hx y hy=>?_⟩,λx hx=>?_⟩
 ·rw[mem_singleton.mp hy];exact(h.2 x hx).2
 ·rcases mem_append.mp hx with q|q
  ·have:=h.2 x q;omega
  ·rw[mem_singleton.mp q];omega
theorem Yh(h:bQ n xs)(l:n<=m):bQ m xs:=⟨h.1,λx hx=>by have:=h.2 x hx;omega⟩
theorem wM:∀{n:Nat}{xs:LI},xs.Nodup->(∀x∈xs,0<=x/\x<(n:Int))->xs.length<=n
 |0,xs,_,h=>by
  cases xs with
  |nil=>exact aaq _
  |cons x xs=>have:=h x mem_cons_self;omega
 |n+1,xs,nd,h=>by
  by_cases q:(n:Int)∈xs
  ·have l:=List.length_erase_of_mem q
   have ih:=wM (n:=n) (xs:=xs.erase (n:Int)) (nd.erase _) λx hx=>by
    have h1:=h x (List.mem_of_mem_erase hx)
    have h2:x≠(n:Int):=λe=>by rw[e] at hx;exact(List.Nodup.not_mem_erase nd) hx
    omega
   omega
  ·have ih:=wM (n:=n) nd λx hx=>by
    have h1:=h x hx
    have h2:x≠(n:Int):=λe=>q (e▸hx)
    omega
   omega
end
end Ts
namespace L2
open PySem PySem.Spec PyProof.Rows
theorem Yi:∀{ns:LI}{its:List Value},Vals (ns.map V.int) its->IntsAre its ns
 |[],[],_=>.nil
 |n::ns,_::its,h=>by
  cases h with
  |cons r t =>
   obtain⟨k,rfl⟩:=r
   exact .cons n k (Yi t)
theorem Vr:∀{ns:LI}{its:List Value},IntsAre its ns->Vals (ns.map V.int) its
 |_,_,.nil=>.nil
 |_,_,.cons n t h=>.cons ⟨t,rfl⟩ (Vr h)
section
variable{X:Cx}
def Jl(K:PySem.W.Frag):List V->Hp->VK->Prop:=λxs H Q=>∃(p:Addr)(ns:LI),xs=[.ref p]/\bw K H p (ns.map V.int)/\ns.length<64/\∀(l:Addr)(ns':LI),H l=none->ns'.Perm ns->ns'.Pairwise (· <= ·)->Q (.ref l) (upd H l (.lst (ns'.map V.int)))
theorem Yj(K:PySem.W.Frag)(hK:X.K=K:=by rfl):rT X (.builtin "sorted") (Jl K):=by
 subst hK
 intro pins s σ H xs us Q I r h
 obtain⟨p,ns,rfl,hq,h64,q⟩:=h
 obtain⟨u,rfl,rx⟩:=IW r
 cases rx
 obtain⟨its,r',pl,hz⟩:=I.list hq
 have hl:=r'.length
 rw[length_map] at hl
 refine sorted_ints pl.isList (Yi r') (by omega) λout ns' a1 a2 a3=>?_
 obtain⟨e,he⟩:=sortedAll_at s.heap its out
 have fr:H (s.heap.objs.size+1)=none:=I.hok.fresh (ab6 _)
 refine⟨.ref (s.heap.objs.size+1),_,I.laid (t':=s.toks) (o:=.lst (ns'.map V.int)) (λb ob w=>sortedAll_old w) (ab6 _) ?_,rfl,q _ ns' fr a2 a3⟩
 refine⟨?_,out.toList,e,Vr a1,?_⟩
 ·rw[length_map,a2.length_eq]
  exact ach (adk h64 (by decide))
 ·rw[toArray_toList]
  exact he
theorem zEd{bs:List Bool}(r:Vals (bs.map V.bl) its):TruthOf prog w A (λi v=>its.toArray[i]?=some v) (λi=>bs.getD i false):=by
 intro i v s Q E hv hq
 have hv:its[i]?=some v:=by simpa using hv
 have hi:i<bs.length:=by
  have:=(aa2.mp hv).1
  rw[<-r.length,length_map] at this
  exact this
 obtain⟨u,h1,h2⟩:=r.get (i:=i) (x:=.bl bs[i]) (by rw[getElem?_map,aao hi]<;>rfl)
 rw[hv] at h1
 cases h1
 cases h2
 have hq:Q (bs.getD i false) s:=hq
 rw[getD_eq_getElem?_getD,aao hi] at hq
 exact acd hq
theorem zP0{bs:List Bool}:((aat bs.length).any λi=>bs.getD i false)=bs.any id:=by
 rw[abm,any_eq_true,any_eq_true]
 constructor
 ·rintro⟨i,h1,h2⟩
  have hi:=mem_range.mp h1
  rw[getD_eq_getElem?_getD,aao hi] at h2
  exact⟨_,getElem_mem hi,h2⟩
 ·rintro⟨x,h1,h2⟩
  obtain⟨i,hi,e⟩:=getElem_of_mem h1
  refine⟨i,mem_range.mpr hi,?_⟩
  rw[getD_eq_getElem?_getD,aao hi,e]
  exact h2
theorem zP1{bs:List Bool}:((aat bs.length).all λi=>bs.getD i false)=bs.all id:=by
 rw[abm,all_eq_true,all_eq_true]
 constructor
 ·intro h x hx
  obtain⟨i,hi,e⟩:=getElem_of_mem hx
  have z:=h i (mem_range.mpr hi)
  rw[getD_eq_getElem?_getD,aao hi,e] at z
  exact z
 ·intro h i hi
  have hi:=mem_range.mp hi
  rw[getD_eq_getElem?_getD,aao hi]
  exact h _ (getElem_mem hi)
def Yk(K:PySem.W.Frag)(f:List Bool->Bool):List V->Hp->VK->Prop:=λxs H Q=>∃(p:Addr)(bs:List Bool),xs=[.ref p]/\bw K H p (bs.map V.bl)/\Q (.bl (f bs)) H
theorem Jm{s:Shared}{h':Heap}(hk:∀b o,b∉[s.heap.objs.size]->(s.heap.push { cls:=.type "list_iterator",data:=.fields #[.ref l,.int 0 0] }).get? b=some o->h'.get? b=some o) :
  ∀b o,s.heap.get? b=some o->h'.get? b=some o:=λb o e=>hk b o (λm=>abu _ (mem_singleton.mp m▸lt_size e)) (get?_push_of_some _ e)
theorem zR5(K:PySem.W.Frag)(hc:X.calm=true)(hK:X.K=K:=by rfl):rT X (.builtin "any") (Yk K λbs=>bs.any id):=by
 subst hK
 intro pins s σ H xs us Q I r h
 obtain⟨p,bs,rfl,hq,q⟩:=h
 obtain⟨u,rfl,rx⟩:=IW r
 cases rx
 obtain⟨its,r',pl,hz⟩:=I.list hq
 have hl:=pl.isList
 have hlt:p<s.heap.objs.size:=by obtain⟨_,e,_⟩:=hl;exact lt_size e
 refine call_any_walk (ad8 hl ?_)
 refine⟨_,_,_,_,_,_,_,rfl,Walks.list (A:=X.A.in1) (I.ok.hd hc) s.heap.objs.size p (aav hlt) its.toArray,⟨⟨_,get?_push_size _ rfl,rfl,rfl⟩,hl.push _⟩,zEd r',λh' tk hk=>?_⟩
 have hn:its.toArray.size=bs.length:=by
  rw[size_toArray,<-r'.length,length_map]
 rw[hn,zP0]
 exact⟨.bl (bs.any id),H,I.kept (Jm hk),rfl,q⟩
theorem zR6(K:PySem.W.Frag)(hc:X.calm=true)(hK:X.K=K:=by rfl):rT X (.builtin "all") (Yk K λbs=>bs.all id):=by
 subst hK
 intro pins s σ H xs us Q I r h
 obtain⟨p,bs,rfl,hq,q⟩:=h
 obtain⟨u,rfl,rx⟩:=IW r
 cases rx
 obtain⟨its,r',pl,hz⟩:=I.list hq
 have hl:=pl.isList
 have hlt:p<s.heap.objs.size:=by obtain⟨_,e,_⟩:=hl;exact lt_size e
 refine call_all_walk (ad8 hl ?_)
 refine⟨_,_,_,_,_,_,_,rfl,Walks.list (A:=X.A.in1) (I.ok.hd hc) s.heap.objs.size p (aav hlt) its.toArray,⟨⟨_,get?_push_size _ rfl,rfl,rfl⟩,hl.push _⟩,zEd r',λh' tk hk=>?_⟩
 have hn:its.toArray.size=bs.length:=by
  rw[size_toArray,<-r'.length,length_map]
 rw[hn,zP1]
 exact⟨.bl (bs.all id),H,I.kept (Jm hk),rfl,q⟩
end
section
variable{prog:Program}{w:World}{A:Around}{R:Result->Shared->Prop}{It:Addr}{fp wr:List Addr}{n:Nat}{P:Nat->Value->Prop}{St:Nat->Heap->Prop}{kw:List (Str×Value)}
end
section
variable{X:Cx}{e e2:Expr}{te td:TE}{p pos kpos:Pos}
end
end L2
namespace Ts
open PySem L2
def Vs(ns:LI):LI:=ns.mergeSort (λa b=>decide (a<=b))
def Gp(ns:LI):Option LI:=if ns.length<64 then some (Vs ns) else none
theorem uE(ns:LI):(Vs ns).Perm ns:=List.mergeSort_perm _ _
theorem zDz(ns:LI):(Vs ns).Pairwise (· <= ·):=by
 have:=List.pairwise_mergeSort (le:=λa b:Int=>decide (a<=b)) (λa b c h1 h2=>by simp at *;omega) (λa b=>by simp;omega) ns
 exact this.imp λh=>by simpa using h
theorem zEf:∀{xs ys:LI},xs.Perm ys->xs.Pairwise (· <= ·)->ys.Pairwise (· <= ·)->xs=ys
 |[],ys,p,_,_=>(Perm.nil_eq p)
 |x::xs,[],p,_,_=>by have:=p.length_eq;simp at this
 |x::xs,y::ys,p,h1,h2=>by
  have a1:=pairwise_cons.mp h1
  have a2:=pairwise_cons.mp h2
  have e:x=y:=by
   have q1:x∈y::ys:=p.subset mem_cons_self
   have q2:y∈x::xs:=p.symm.subset mem_cons_self
   rcases mem_cons.mp q1 with q1|q1
   ·exact q1
   ·rcases mem_cons.mp q2 with q2|q2
    ·exact q2.symm
    ·have:=a1.1 y q2;have:=a2.1 x q1;omega
  subst e
  rw[zEf (Perm.cons_inv p) a1.2 a2.2]
section
variable{K:PySem.W.Frag}{B:Bs}{sl:SL K}{md:Md}{t t1 t2:TE}{n:Bool}
theorem Ym(h:Ex B sl .hp t m):Eo B sl md (uo (Jl K) (xZ t bO)) (m.bind Gp):=λc hc F O H σ Q s k=>by
 cases m with
 |none=>cases hc
 |some ns =>
  have hc:Gp ns=some c:=hc
  unfold Gp at hc
  split at hc
  case isFalse=>cases hc
  rename_i hl
  cases hc
  refine h ns rfl F O H σ _ s λv F' H' g r1=>?_
  obtain⟨p,vs,rfl,z1,z2⟩:=r1
  have z3:vs=ns.map V.int:=z2.vals
  subst z3
  refine⟨p,ns,rfl,bw.of z1,hl,λl ns' hn p1 p2=>?_⟩
  rw[zEf (p1.trans (uE ns).symm) p2 (zDz ns)]
  exact k l _ F' H' g hn (Jj _)
theorem zMo(h:Ex B sl .hp t m):Ex B sl md (uo (Yk K f) (xZ t bO)) (m.bind λbs=>some (f bs)):=λc hc F O H σ Q s k=>by
 cases m with
 |none=>cases hc
 |some bs =>
  cases(show some (f bs)=some c from hc)
  refine h bs rfl F O H σ _ s λv F' H' g r1=>?_
  obtain⟨p,vs,rfl,z1,z2⟩:=r1
  have z3:vs=bs.map V.bl:=z2.vals
  subst z3
  exact⟨p,bs,rfl,bw.of z1,k _ F' H' g rfl⟩
theorem zVo(h:Ex B sl .hp t m):Ex B sl md (tUn (rU λi=>.int (-i)) t) (m.bind λa=>some (-a)):=λc hc F O H σ Q s k=>by
 cases m with
 |none=>cases hc
 |some a =>
  cases(show some (-a)=some c from hc)
  refine h a rfl F O H σ _ s λv F' H' g r1=>?_
  cases r1
  exact⟨a,rfl,k _ F' H' g rfl⟩
end
section
variable{β:Type}
def gK(kvs:List (Key×β))(k:Key):Option β:=(kvs.find? λkv=>decide (kv.1=k)).map (·.2)
def pK(kvs:List (Key×β))(k:Key)(v:β):List (Key×β):=if(kvs.any λkv=>decide (kv.1=k))=true then kvs.map (λkv=>if kv.1=k then(kv.1,v) else kv) else kvs++[(k,v)]
abbrev dw(kvs:List (Key×β))(k:Int):Option β:=gK kvs (abg k)
def dput(kvs:List (Key×β))(k:Int)(v:β):Option (List (Key×β)):=if kvs.length<cap then some (pK kvs (abg k) v) else none
theorem zRe:∀{kvs:List (Key×β)}{k:Key},(kvs.any λkv=>decide (kv.1=k))=(gK kvs k).isSome
 |[],_=>rfl
 |x::kvs,k=>by
  unfold gK
  rw[any_cons,find?_cons]
  by_cases e:x.1=k
  ·rw[decide_eq_true e];rfl
  ·rw[decide_eq_false e,aea];exact zRe
theorem zVm:∀(kvs:List (Key×β))(k j:Key)(v:β),gK (pK kvs k v) j=if j=k then some v else gK kvs j:=λkvs k j v=>by
 unfold pK
 cases a:(kvs.any λkv=>decide (kv.1=k)) with
 |true =>
  rw[if_pos rfl]
  induction kvs with
  |nil=>cases a
  |cons x kvs ih =>
   unfold gK at ih ⊢
   rw[map_cons,find?_cons,find?_cons]
   by_cases e:x.1=k
   ·rw[if_pos e]
    by_cases f:j=k
    ·subst f
     rw[decide_eq_true (show(x.1,v).1=j from e),if_pos rfl];rfl
    ·rw[decide_eq_false (show¬(x.1,v).1=j fromλz=>f (z.symm.trans e)),if_neg f]
     show Option.map (λx=>x.2) (List.find? (λkv=>decide (kv.1=j)) (List.map (λkv=>if kv.1=k then(kv.1,v) else kv) kvs))=Option.map (λx=>x.2) (List.find? (λkv=>decide (kv.1=j)) kvs)
     clear ih a
     induction kvs with
     |nil=>rfl
     |cons y kvs ih =>
      rw[map_cons,find?_cons,find?_cons]
      by_cases g:y.1=k
      ·rw[if_pos g,decide_eq_false (show¬(y.1,v).1=j fromλz=>f (z.symm.trans g))];exact ih
      ·rw[if_neg g]
       by_cases h:y.1=j
       ·rw[decide_eq_true h]
       ·rw[decide_eq_false h];exact ih
   ·rw[if_neg e]
    have a':(kvs.any λkv=>decide (kv.1=k))=true:=by rw[any_cons,decide_eq_false e,aea] at a;exact a
    by_cases f:x.1=j
    ·rw[decide_eq_true f,if_neg λz=>e (f.trans z)]
    ·rw[decide_eq_false f];exact ih a'
 |false =>
  rw[if_neg (by decide)]
  unfold gK
  rw[List.find?_append]
  have hn:kvs.find? (λkv=>decide (kv.1=k))=none:=by
   rw[List.find?_eq_none]
   intro x hx
   have:=any_eq_false.mp a x hx
   exact this
  by_cases f:j=k
  ·subst f;rw[hn,if_pos rfl];simp
  ·rw[if_neg f]
   cases kvs.find? (λkv=>decide (kv.1=j)) with
   |none=>simp[abt f]
   |some y=>rfl
theorem zVh(kvs:List (Key×β))(k:Key)(v:β):(pK kvs k v).length<=kvs.length+1:=by
 unfold pK
 split
 ·rw[length_map];omega
 ·rw[length_append];exact aaq _
end
section
variable{K:PySem.W.Frag}{α:Type}[Rp K α]
abbrev DR(K:PySem.W.Frag){α:Type}[Rp K α](F:Hp):Key×V->Key×α->Prop:=λx y=>x.1=y.1/\rp K F x.2 y.2
theorem A2.any:∀{ks:List (Key×V)}{kvs:List (Key×α)},A2 (DR K F) ks kvs->(ks.any λkv=>decide (kv.1=k))=(kvs.any λkv=>decide (kv.1=k))
 |[],[],_=>rfl
 |_::_,_::_,h=>by rw[any_cons,any_cons,h.1.1,A2.any h.2]
 |[],_::_,h=>h.elim
 |_::_,[],h=>h.elim
theorem A2.val:∀{ks:List (Key×V)}{kvs:List (Key×α)},A2 (DR K F) ks kvs->(gK kvs k=none/\gY ks k=none)\/∃a v,gK kvs k=some a/\gY ks k=some v/\rp K F v a
 |[],[],_=>.inl ⟨rfl,rfl⟩
 |x::ks,y::kvs,h=>by
  unfold gK gY
  rw[find?_cons,find?_cons,h.1.1]
  by_cases e:y.1=k
  ·rw[decide_eq_true e];exact .inr ⟨y.2,x.2,rfl,rfl,h.1.2⟩
  ·rw[decide_eq_false e];exact A2.val h.2
 |[],_::_,h=>h.elim
 |_::_,[],h=>h.elim
theorem A2.RQ(r:rp K F v a):∀{ks:List (Key×V)}{kvs:List (Key×α)},A2 (DR K F) ks kvs->A2 (DR K F) (ks.map λkv=>if kv.1=k then(kv.1,v) else kv) (kvs.map λkv=>if kv.1=k then(kv.1,a) else kv)
 |[],[],_=>trivial
 |x::ks,y::kvs,h=>by
  rw[map_cons,map_cons]
  refine⟨?_,A2.RQ r h.2⟩
  by_cases e:x.1=k
  ·rw[if_pos e,if_pos (h.1.1▸e)];exact⟨h.1.1,r⟩
  ·rw[if_neg e,if_neg (h.1.1▸e)];exact h.1
 |[],_::_,h=>h.elim
 |_::_,[],h=>h.elim
theorem A2.put{F:Hp}{k:Key}{v:V}{a:α}(r:rp K F v a){ks:List (Key×V)}{kvs:List (Key×α)}(h:A2 (DR K F) ks kvs):A2 (DR K F) (putK ks k v) (pK kvs k a):=by
 unfold putK pK
 rw[h.any]
 split
 ·exact h.RQ r
 ·exact h.snoc ⟨rfl,r⟩
structure Dc(α:Type) where
 kv:List (Key×α)
instance:Rp K (Dc α):=⟨λF v d=>∃p ks,v=.ref p/\F p=some (.dK ks)/\A2 (DR K F) ks d.kv,λs ⟨p,ks,h1,h2,h3⟩=>⟨p,ks,h1,s _ _ h2,h3.imp λ_ _ z=>⟨z.1,Rp.mono s z.2⟩⟩⟩
instance:Nn K (Dc α):=⟨λ⟨_,_,h,_⟩=>by rw[h];intro e;cases e⟩
variable{B:Bs}{sl:SL K}{md:Md}{t t2:TE}{F H G:Hp}{O:Own}{σ:St}{u:TS}{al:Bool}
theorem Vt{kvs:List (Key×α)}(i:Nat)(hs:sl[i]?=some (.od kvs)):Ex B sl .hp (eO i) (some (Dc.mk kvs)):=λa' ha F O H σ Q s k=>by
 cases ha
 obtain⟨k0,z0⟩:=s
 obtain⟨O1,O2,p,ks,rfl,h1,h2,_⟩:=z0.Bo hs
 exact⟨_,h1,k _ F H (.refl k0) ⟨p,ks,rfl,k0.one.2.2,h2.imp λ_ _ z=>⟨z.1,Rp.mono k0.fh z.2⟩⟩⟩
theorem RT{m:Option Int}{m2:Option (Dc α)}(h:Ex B sl .hp t m)(h2:Ex B sl .hp t2 m2):Ex B sl md (KJ t t2) (m.bind λk=>m2.bind λd=>some (dw d.kv k).isSome):=λc hc F O H σ Q s kk=>by
 obtain⟨k,d,e1,e2,e3⟩:=qU hc
 cases e3
 refine h k e1 F O H σ _ s λv F' H' g r1=>?_
 refine h2 d e2 F' O H' σ _ (s.grow g) λw F2 H2 g2 r2=>?_
 cases r1
 obtain⟨p,ks,rfl,z1,z2⟩:=r2
 refine⟨p,_,rfl,pN.k (k:=abg k) z1,?_⟩
 have e:(gY ks (abg k:Key)).isSome=(dw d.kv k).isSome:=by
  rcases z2.val (k:=abg k) with⟨q1,q2⟩|⟨a,v,q1,q2,_⟩
  ·show _=(gK d.kv (abg k)).isSome;rw[q1,q2];rfl
  ·show _=(gK d.kv (abg k)).isSome;rw[q1,q2];rfl
 rw[e]
 exact kk _ F2 H2 (g.trans g2) rfl
theorem zJu{m:Option Int}{m2:Option (Dc α)}(h:Ex B sl .hp t m)(h2:Ex B sl .hp t2 m2):Ex B sl md (zPi t t2) (m.bind λk=>m2.bind λd=>some !(dw d.kv k).isSome):=λc hc F O H σ Q s kk=>by
 obtain⟨k,d,e1,e2,e3⟩:=qU hc
 cases e3
 refine h k e1 F O H σ _ s λv F' H' g r1=>?_
 refine h2 d e2 F' O H' σ _ (s.grow g) λw F2 H2 g2 r2=>?_
 cases r1
 obtain⟨p,ks,rfl,z1,z2⟩:=r2
 refine⟨p,_,rfl,pN.k (k:=abg k) z1,?_⟩
 have e:(gY ks (abg k:Key)).isSome=(dw d.kv k).isSome:=by
  rcases z2.val (k:=abg k) with⟨q1,q2⟩|⟨a,v,q1,q2,_⟩
  ·show _=(gK d.kv (abg k)).isSome;rw[q1,q2];rfl
  ·show _=(gK d.kv (abg k)).isSome;rw[q1,q2];rfl
 rw[e]
 exact kk _ F2 H2 (g.trans g2) rfl
theorem Yn{kvs:List (Key×α)}{m:Option α}{mi:Option Int}{te ti:TE}(i:Nat)(hs:sl[i]?=some (.od kvs))(hh:sl.all (λs=>!kE s)=true)(hv:Ex B sl .fz te m)(hi:Ex B sl .hp ti mi) :
  Sn B sl (Ax (eO i) ti te) (λys=>sl.set i (.od ys)) (m.bind λa=>mi.bind λk=>dput kvs k a):=λys ha G D σ H s k=>by
 obtain⟨a,ix,e1,e2,e3⟩:=qU ha
 unfold dput at e3
 split at e3
 case isFalse=>cases e3
 rename_i hl
 cases e3
 obtain⟨F,O,g,z⟩:=s
 refine hv a e1 F O H σ _ z λv F' H' gr r=>?_
 obtain⟨p,ks,h1,h2,h3,_⟩:=(z.grow gr).FZ hs hh
 refine⟨_,h1,?_⟩
 refine hi ix e2 F' O H' σ _ (z.grow gr) λw F2 H2 ux rw=>?_
 cases rw
 obtain⟨p',ks',h1',h2',h3',h4'⟩:=((z.grow gr).grow ux).FZ hs hh
 have e:=h1.symm.trans h1'
 cases e
 obtain⟨O',z'⟩:=h4' (putK ks' (abg ix) v) (pK kvs (abg ix) a) (h3'.put (Rp.mono ux.ff r))
 exact⟨p,_,rfl,wj.k (k:=abg ix) h2' (K_ (by rw[h3'.len];exact hl)),k _ _ ⟨F2,O',(g.trans gr.ff).trans ux.ff,z'⟩⟩
theorem Gq[Sc K α]{kvs:List (Key×α)}(i:Nat)(hs:sl[i]?=some (.od kvs)):SB B sl (oH (Ec (eO i)) u) al (some (Dc.mk kvs)):=λb hb G D σ H s k=>by
 cases hb
 obtain⟨F,O,g,k0,z0⟩:=s
 obtain⟨O1,O2,p,ks,rfl,h1,h2,_⟩:=z0.Bo hs
 obtain⟨a1,a2,a3⟩:=k0.one
 refine⟨_,h1,k _ H (Bp (al:=al) k0.freeze (!al) ⟨p,ks,rfl,?_,h2.imp λ_ _ z=>⟨z.1,Vc z.2⟩⟩ rfl)⟩
 cases al with
 |false=>exact(uw a2).trans zR
 |true=>exact zR
end
end Ts
namespace L2
open PySem PySem.Spec PyProof.Rows
section
variable{X:Cx}{tg:Expr}
end
end L2
namespace Ts
open PySem L2
section
variable{K:PySem.W.Frag}{B:Bs}{sl:SL K}{t1 t2 t3:TE}{n:Bool}
end
section
variable{K:PySem.W.Frag}{B:Bs}{sl:SL K}{md:Md}{t:TE}{u:TS}{al:Bool}{α:Type}[Rp K α]
abbrev RV:List V->Hp->VK->Prop:=λxs H Q=>(∃i,xs=[.int i]/\Q (.int i) H)\/∃k,xs=[.bl k]/\Q (.int (if k then 1 else 0)) H
theorem Gs(h:Ex B sl .hp t m):Ex B sl md (uo RV (xZ t bO)) (m.bind λb=>some (if b=true then(1:Int) else 0)):=λc hc F O H σ Q s k=>by
 cases m with
 |none=>cases hc
 |some b =>
  cases(show some (if b=true then(1:Int) else 0)=some c from hc)
  refine h b rfl F O H σ _ s λv F' H' g r1=>?_
  cases r1
  exact .inr ⟨b,rfl,k _ F' H' g rfl⟩
end
end Ts
namespace L2
open PySem PySem.Spec PyProof.Rows
section
variable{X:Cx}
end
end L2
namespace Ts
open PySem L2
section
variable{K:PySem.W.Frag}{B:Bs}{sl:SL K}{md:Md}{t:TE}{α:Type}[Rp K α]
theorem zS3(i j:Nat)(hj:sl[j]?=some (.fz n x))(hs:sl[i]?=some s)(ho:lY s=false):Sn B sl (mH (Ay [(eO j,tC (.bl b))]) (ug i)) (λkvs=>sl.set i (.od kvs)) (some [((abg x:Key),b)]):=λa ha G D σ H s k=>by
 cases ha
 obtain⟨F,O,g,k0,z0⟩:=s
 obtain⟨v,hv,rv⟩:=z0.qR hj
 cases rv
 intro p hp
 refine⟨_,hv,?_⟩
 refine⟨zR,[(abg x,.bl b)],rfl,by show 1<=15;omega,k _ _ ?_⟩
 obtain⟨O1,O2,rfl,z'⟩:=z0.own (s':=.od [((abg x:Key),b)]) (x:=some (.ref p)) (c:=(p,.dK [(abg x,.bl b)])) (λ_ _ _ z=>.od ⟨⟨rfl,rfl⟩,trivial⟩ z) hs ho
 rw[show upd (upd H p (.dK [])) p (.dK (O4 [] [(abg x,V.bl b)]))=upd H p (.dK [(abg x,V.bl b)]) from DW]
 exact⟨F,_,g,k0.add hp,z'.mono (.refl _) (Xq hp) (aL hp _)⟩
variable{S:Type}{n:Bool}{tb:TS}
def EiC(B:Bs)(sl sl2:SL K)(n:Bool)(wi:TI){α:Type}[Rp K α](mi:Option (List α)):Prop :=
 ∀xs,mi=some xs->∀(F:Hp)(O:Own)(H:Hp)(σ:St)(R:It->Hp->Prop),At B sl F O H σ->(∀(J:It)(F':Hp)(O':Own)(H':Hp),Same F F'->At B sl2 F' O' H' σ->Yl K B F' n J xs->R J H')->wi σ H R
theorem zUk{n:Bool}{ws:LI}{mE:Option (List (List α))}{te:TE}(i:Nat)(hs:sl[i]?=some (.ow n ws))(hh:sl.all (λs=>!kE s)=true)(h1:Ex B sl (ju false) te mE) :
  EiC B sl (sl.set i (.ow n ws.dropLast)) false (U0 K (gP (wk K) te (Fv K "list" Q_ (eO i)))) (mE.bind λE=>ws.getLast?.bind λy=>L2.aV E y):=λxs hx F O H σ R a k=>by
 cases mE with
 |none=>cases hx
 |some E =>
  cases e2:ws.getLast? with
  |none=>simp[e2] at hx
  |some y =>
   have hx:L2.aV E y=some xs:=by simpa[e2] using hx
   refine h1 E rfl F O H σ _ a λv F' H' gr r1=>?_
   have a1:=a.grow gr
   obtain⟨p,vs,z1,z2,z3,z4⟩:=a1.chg hs hh
   have z5:vs=ws.map V.int:=z3.vals
   subst z5
   obtain⟨O',a2⟩:=z4 (ws.map V.int).dropLast ws.dropLast (by rw[<-List.map_dropLast];exact Jj _)
   obtain⟨q,us,rfl,y1,y2⟩:=r1
   obtain⟨u,w1,w2⟩:=y2.aV hx
   obtain⟨l,ts,rfl,t1,t2⟩:=w2
   refine⟨_,z1,.inl ⟨rfl,_,bw.of z2⟩,p,ws.map V.int,V.int y,rfl,rfl,z2,?_,?_⟩
   ·rw[length_map,getElem?_map,<-List.getLast?_eq_getElem?,e2];rfl
   refine⟨q,us,y,.ref l,rfl,rfl,bw.of (a2.1.fh _ _ y1),w1,l,rfl,⟨ts,bw.of (a2.1.fh _ _ t1)⟩,k _ F' O' _ gr.ff a2 λi F2 O2 H2 sf k2=>?_⟩
   have hq:bw K H2 l ts:=bw.of (k2.fh _ _ (sf _ _ t1))
   refine⟨λhl=>⟨ts,hq,by rw[t2.len];exact hl⟩,λx hx=>?_⟩
   obtain⟨w,hw,rw⟩:=t2.at2 hx
   refine⟨⟨ts,w,hq,hw⟩,λv H3 yd=>?_⟩
   obtain⟨e,y⟩:=yd
   subst e
   have:=(hw.symm.trans (y ts hq))
   cases this
   exact⟨F2,.refl k2,Rp.mono (vY false sf) rw⟩
theorem Gu{L:S->SL K}{Lx:S->α->SL K}{step:S->α->Option S}(s0:S)(h0:Le sl sl0)(hi:EiC B sl0 (L s0) n wi mi)(hg:∀s,Tg B (L s) n g (Lx s))(hb:∀s x,Sn B (Lx s x) tb L (step s x)) :
  Sn B sl (Ej wi g tb) L (mi.bind λxs=>xH step xs s0):=λs1 hs1 G D σ H q k=>by
 cases mi with
 |none=>cases hs1
 |some xs =>
  have hs1:xH step xs s0=some s1:=hs1
  obtain⟨F,O,g0,a⟩:=q.le h0
  refine hi xs rfl F O H σ _ a λJ F' O' H' gr a' yl=>?_
  refine⟨λi m σ H=>m=xs.length-i/\i<=xs.length/\∃s,xH step (xs.take i) s0=some s/\Sg B F' (L s) σ H,⟨xs.length,rfl,abf _,s0,rfl,F',O',.refl _,a'⟩,?_⟩
  rintro i m σ H ⟨rfl,hil,s,hs,F2,O2,sf,a2⟩
  obtain⟨y1,y2⟩:=yl i F2 O2 H sf a2.1
  by_cases hlt:i<xs.length
  ·obtain⟨go,y3⟩:=y2 xs[i] (aao hlt)
   obtain⟨s',s'',e1,e2,e3⟩:=zGo hs1 (aao hlt)
   rw[hs] at e1
   cases e1
   refine .inr ⟨go,Sg B F' (L s''),λσ' H' z=>⟨xs.length-(i+1),by omega,rfl,hlt,s'',e3,z⟩,λv H3 yd=>?_⟩
   obtain⟨F3,g3,r3⟩:=y3 v H3 yd
   exact hg s v xs[i] F3 O2 H3 σ _ (a2.grow g3) r3 λσ' a'=>hb s xs[i] s'' e2 F' _ σ' H3 ⟨F3,O2,sf.trans g3.ff,a'⟩ λσ2 H2 z=>z
  ·have e:i=xs.length:=by omega
   subst e
   rw[take_length,hs1] at hs
   cases hs
   exact .inl ⟨y1 (aaq _),k σ H ⟨F2,O2,(g0.trans gr).trans sf,a2⟩⟩
end
end Ts
namespace L2
open PySem
theorem zTl(hk:PE X k tk)(hv:PE X v tv):PE X (.Dict [some k] [v] pos) (Ay [(tk,tv)]):=Fg (zTg hk hv Fe) rfl rfl (by simp) (by show 1<=15;omega)
open PySem PySem.Spec PyProof.Rows
def Its(x:Str):It:=⟨λi _=>i<x.cps.size,λi H v H'=>H'=H/\∃c,x.cps[i]?=some c/\v=.str ⟨#[c]⟩,λi _=>x.cps.size<=i⟩
theorem zNk{P:Program}{w:World}{K:PySem.W.Frag}{tg:Expr}(it:Addr)(x:Str)(t:Tok):Turn P w K tg (Its x) [it] it (λi h=>h.IsStrIter it "str_ascii_iterator" x t i) where
 mem:=mem_singleton.mpr rfl
 obj:=λi h st b hb=>by
  have e:b=it:=mem_singleton.mp hb
  subst e
  obtain⟨o,ho,hc,hd⟩:=st
  refine⟨o,ho,λv z=>?_⟩
  rw[hd] at z
  cases z
 keep:=λi h h' st k=>by
  obtain⟨o,ho,r⟩:=st
  exact⟨o,k it (mem_singleton.mpr rfl) _ ho,r⟩
 item:=by
  intro X hP hw hK hc i pins s σ H E I hf st hg
  subst hP hw hK
  obtain⟨f0,f1,f2,f3,f4,f5⟩:=hf it (mem_singleton.mpr rfl)
  refine(Walks.strAscii (prog:=X.prog) (w:=X.w) (I.ok.hd hc) it x t).item i s _ _ hg st λv h' tk hv st' kk=>?_
  obtain⟨c,u,hx,rfl⟩:=hv
  have I1:Inv X pins σ H { s with heap:=h',toks:=tk }:=I.turned (λb o hb e=>kk b o (λz=>hb (mem_singleton.mp z)) e) f0 f1 f3 f4 f5
  obtain⟨o,ho,hc,hd⟩:=id st'
  exact⟨_,rfl,QB (s:={ s with heap:=h',toks:=tk }) (n:="str_ascii_iterator") ho hc hd (by decide) ⟨.str ⟨#[c]⟩,H,I1,⟨u,rfl⟩,⟨rfl,c,hx,rfl⟩,st',λb hb=>(hf b hb).1⟩⟩
 done:=by
  intro X hP hw hK hc i pins s σ H E I hf st hg
  subst hP hw hK
  obtain⟨f0,f1,f2,f3,f4,f5⟩:=hf it (mem_singleton.mpr rfl)
  exact wpAny_pyNext_ascii_end (I.ok.hd hc) st (aa9 hg) λh' eb=>⟨rfl,I.turned (t':=s.toks) (λb o hb e=>eb b o hb e) f0 f1 f3 f4 f5⟩
 self:=λ_ _ _ _ _ st h=>wpAny_pyIter_striter_ascii st h
theorem zPa{P:Program}{w:World}{K:PySem.W.Frag}{tg:Expr}(it:Addr)(x:Str)(t:Tok):Turn P w K tg (Its x) [it] it (λi h=>h.IsStrIter it "str_iterator" x t i) where
 mem:=mem_singleton.mpr rfl
 obj:=λi h st b hb=>by
  have e:b=it:=mem_singleton.mp hb
  subst e
  obtain⟨o,ho,hc,hd⟩:=st
  refine⟨o,ho,λv z=>?_⟩
  rw[hd] at z
  cases z
 keep:=λi h h' st k=>by
  obtain⟨o,ho,r⟩:=st
  exact⟨o,k it (mem_singleton.mpr rfl) _ ho,r⟩
 item:=by
  intro X hP hw hK hc i pins s σ H E I hf st hg
  subst hP hw hK
  obtain⟨f0,f1,f2,f3,f4,f5⟩:=hf it (mem_singleton.mpr rfl)
  refine(Walks.strWide (prog:=X.prog) (w:=X.w) (I.ok.hd hc) it x t).item i s _ _ hg st λv h' tk hv st' kk=>?_
  obtain⟨c,u,hx,rfl⟩:=hv
  have I1:Inv X pins σ H { s with heap:=h',toks:=tk }:=I.turned (λb o hb e=>kk b o (λz=>hb (mem_singleton.mp z)) e) f0 f1 f3 f4 f5
  obtain⟨o,ho,hc,hd⟩:=id st'
  exact⟨_,rfl,QB (s:={ s with heap:=h',toks:=tk }) (n:="str_iterator") ho hc hd (by decide) ⟨.str ⟨#[c]⟩,H,I1,⟨u,rfl⟩,⟨rfl,c,hx,rfl⟩,st',λb hb=>(hf b hb).1⟩⟩
 done:=by
  intro X hP hw hK hc i pins s σ H E I hf st hg
  subst hP hw hK
  obtain⟨f0,f1,f2,f3,f4,f5⟩:=hf it (mem_singleton.mpr rfl)
  exact wpAny_pyNext_wide_end (I.ok.hd hc) st (aa9 hg) λh' eb=>⟨rfl,I.turned (t':=s.toks) (λb o hb e=>eb b o hb e) f0 f1 f3 f4 f5⟩
 self:=λ_ _ _ _ _ st h=>wpAny_pyIter_striter_wide st h
section
variable{X:Cx}{tg:Expr}
def RW(tl:TE):TI:=λσ H R=>tl σ H λx H1=>∃y,x=.str y/\R (Its y) H1
theorem LC(hl:PE X l tl):PI X tg l (RW tl):=by
 intro pins s σ H R I h
 refine aP (hl pins s σ H _ I h) λv s1 ⟨x,H1,I1,r1,q1⟩=>?_
 obtain⟨y,e,q⟩:=q1
 subst e
 obtain⟨t,rfl⟩:=r1
 have fp:∀b∈[s1.heap.objs.size],lW X pins H1 b:=λb hb=>by
  have e:b=s1.heap.objs.size:=mem_singleton.mp hb
  subst e
  exact I1.oJ (aaq _) (I1.hok.fresh (aaq _))
 cases ha:y.cps.all (· < 128)
 ·exact wpAny_pyIter_wide ha ⟨s1.heap.objs.size,[s1.heap.objs.size],_,_,H1,rfl,I1.kept (t':=s1.toks) λb o e=>get?_push_of_some _ e,zPa _ y t,⟨_,get?_push_size _ rfl,rfl,rfl⟩,fp,q⟩
 ·exact wpAny_pyIter_ascii ha ⟨s1.heap.objs.size,[s1.heap.objs.size],_,_,H1,rfl,I1.kept (t':=s1.toks) λb o e=>get?_push_of_some _ e,zNk _ y t,⟨_,get?_push_size _ rfl,rfl,rfl⟩,fp,q⟩
end
end L2
namespace Ts
open PySem L2
section
variable{K:PySem.W.Frag}{B:Bs}{sl:SL K}{md:Md}{t ta tb tc:TE}{n:Bool}
def Jo(x:Str):List Str:=x.cps.toList.map λc=>(⟨#[c]⟩:Str)
theorem LK(h:Ex B sl .hp t mi):Ei B sl n (RW t) (mi.bind λx=>some (Jo x)):=λxs hx F O H σ R a k=>by
 cases mi with
 |none=>cases hx
 |some x =>
  cases(show some (Jo x)=some xs from hx)
  refine h x rfl F O H σ _ a λv F' H' gr r=>?_
  cases r
  refine⟨x,rfl,k _ F' H' gr λi F2 O2 H2 sf k2=>⟨λhl=>?_,λy hy=>?_⟩⟩
  ·show x.cps.size<=i
   unfold Jo at hl
   rw[length_map,length_toList] at hl
   exact hl
  ·unfold Jo at hy
   rw[getElem?_map,getElem?_toList] at hy
   cases e:x.cps[i]? with
   |none=>rw[e] at hy;cases hy
   |some c =>
    rw[e] at hy
    cases hy
    have hi:i<x.cps.size:=(Array.getElem?_eq_some_iff.mp e).1
    refine⟨hi,λv H3 yd=>?_⟩
    obtain⟨rfl,c',e',rfl⟩:=yd
    rw[e] at e'
    cases e'
    exact⟨F2,.refl k2,rfl⟩
theorem zMn{f g:Int->Int->Bool}(h1:Ex B sl .hp ta m1)(h2:Ex B sl .hp tb m2)(h3:Ex B sl .hp tc m3) :
  Ex B sl md (zU6 (qI λi j=>.bl (f i j)) (qI λi j=>.bl (g i j)) ta tb tc) (m1.bind λa=>m2.bind λb=>if f a b=true then m3.bind λc=>some (g b c) else some false):=λd hd F O H σ Q s k=>by
 obtain⟨a,b,e1,e2,e3⟩:=qU hd
 refine h1 a e1 F O H σ _ s λv F' H' g1 r1=>?_
 refine h2 b e2 F' O H' σ _ (s.grow g1) λw F2 H2 g2 r2=>?_
 cases r1
 cases r2
 refine⟨a,b,rfl,rfl,_,rfl,?_⟩
 by_cases q:f a b=true
 ·rw[if_pos q] at e3 ⊢
  cases m3 with
  |none=>cases e3
  |some c =>
   cases(show some (g b c)=some d from e3)
   refine h3 c rfl F2 O H2 σ _ ((s.grow g1).grow g2) λu F3 H3 g3 r3=>?_
   cases r3
   exact⟨b,c,rfl,rfl,k _ F3 H3 ((g1.trans g2).trans g3) rfl⟩
 ·rw[if_neg q] at e3 ⊢
  cases e3
  exact k _ F2 H2 (g1.trans g2) rfl
def Jp:List V->Hp->VK->Prop:=λxs H Q=>∃x:Str,xs=[.str x]/\x.length<cap/\Q (.int x.length) H
theorem zR3:rT X (.builtin "len") Jp:=by
 intro pins s σ H xs us Q I r h
 obtain⟨x,rfl,hl,q⟩:=h
 exact zUo pins s σ H _ us Q I r ⟨_,_,rfl,⟨ach (K_ hl),rfl⟩,q⟩
def Bw(x:Str):Option Int:=if x.length<cap then some (x.length:Int) else none
theorem Gv(h:Ex B sl .hp t m):Ex B sl md (uo Jp (xZ t bO)) (m.bind Bw):=λc hc F O H σ Q s k=>by
 cases m with
 |none=>cases hc
 |some x =>
  have hc:Bw x=some c:=hc
  unfold Bw at hc
  split at hc
  case isFalse=>cases hc
  rename_i hl
  cases hc
  refine h x rfl F O H σ _ s λv F' H' g r1=>?_
  cases r1
  exact⟨x,rfl,hl,k _ F' H' g rfl⟩
def Vu(i j:Str):Bool:=!(ad2 j i 0 j.length 1).isEmpty
abbrev Yo:R2:=λx y H Q=>∃i j,x=.str i/\y=.str j/\Q (.bl (!(ad2 j i 0 j.length 1).isEmpty)) H
theorem LQ(h1:Ex B sl .hp ta m1)(h2:Ex B sl .hp tb m2):Ex B sl md (gP Yo ta tb) (m1.bind λa=>m2.bind λb=>some (Vu a b)) :=
 wz (f:=λa b=>some (Vu a b)) (λa b c v w H Q e r1 r2 q=>by
  cases e
  cases r1
  cases r2
  exact⟨a,b,rfl,rfl,q⟩) h1 h2
theorem LR{ws:List Str}(hT:∀H,kj K H p (ws.map V.str))(h:Ex B sl .hp t m):Ex B sl md (gP (Jb K false) t (tC (.ref p))) (m.bind λx=>some (decide (x∈ws))):=λc hc F O H σ Q s k=>by
 cases m with
 |none=>cases hc
 |some x =>
  cases(show some (decide (x∈ws))=some c from hc)
  refine h x rfl F O H σ _ s λv F' H' g r1=>?_
  cases r1
  refine⟨p,_,rfl,.inr (hT H'),Fl.flat (K:=K) x,Vj (K:=K) ws,?_⟩
  have:=Rx (K:=K) x ws
  simp only[aaw,if_false]
  rw[show inV (V.str x) (ws.map V.str)=decide (x∈ws) from this]
  exact k _ F' H' g rfl
end
section
variable{P:Program}{w:World}{K:PySem.W.Frag}{mg:Str->Option Value}{base:Heap}{B:Bs}{sl:SL K}{al:Bool}{S β:Type}[Rp K β]
theorem xB:Sn B sl WD L none:=λa ha=>by cases ha
theorem zL1:SB B sl WD al (none:Option β):=λa ha=>by cases ha
theorem Vv{A:Type}{as:A->SL K}{fM:A->Option Unit}(F:aU K x qual st f fd)(S:ak N ps (zI st))(hf:∀a,(as a).all isF=true)(hl:∀a,(as a).length=ps.length)(hb:∀(cdv:Value) (A:Around) (outer:List Env) (s:Shared) (H:Hp) (E:XK),bT k (A.deeper (aef qual (zI st) s.heap.objs.size f cdv)) ->
   ∃t,qN (pL aO P w K mg base N qual (zI st) f cdv A outer s H E).Ir (wR st) t/\∀Fa a,∃L:Unit->SL K,Sn ⟨Fa,H⟩ (as a++replicate (N.length-ps.length) .un) t L (fM a)) :
  aq P w K mg base aO (k+1) f fd ps (cj K al as fM) :=
 F.ok S (λvs H Q E h=>zU7 hl h) λcdv A outer s H vs Q E hr h=>by
  obtain⟨t,p,q⟩:=hb cdv A outer s H E hr
  refine⟨t,p,?_⟩
  obtain⟨a,b,Fa,s,hfa,r,kk⟩:=h
  have e:L2.start N vs=vs.map some++replicate (N.length-ps.length) none:=by
   unfold L2.start
   rw[r.len,hl]
  rw[e]
  obtain⟨L,q⟩:=q Fa a
  exact q b hfa Fa _ _ H ⟨Fa,[],.refl _,⟨s,.refl _,λb o h=>.inl h,λx hx=>(by cases hx),(by simp)⟩,zEg _ (hf a) r⟩ λσ' H' ⟨F',O',g,a'⟩=>kk .non H' a'.1.h0 rfl
def L_(a:Str)(i:Int):Option Str:=if i.natAbs.log2<1920 then some (a++ac2 (toString i)) else none
def Pg(a z:Str):Option Str:=if z.length<=1000 then some (a++z) else none
theorem zVq(a:Str)(h:Ex B sl .hp t m):Ex B sl md (Xo a t) (m.bind (L_ a)):=λc hc F O H σ Q s k=>by
 cases m with
 |none=>cases hc
 |some i =>
  have hc:L_ a i=some c:=hc
  unfold L_ at hc
  split at hc
  case isFalse=>cases hc
  rename_i hl
  cases hc
  refine h i rfl F O H σ _ s λv F' H' g r1=>?_
  cases r1
  exact .inl ⟨i,rfl,hl,k _ F' H' g rfl⟩
theorem Ma(a:Str)(h:Ex B sl .hp t m):Ex B sl md (Xo a t) (m.bind (Pg a)):=λc hc F O H σ Q s k=>by
 cases m with
 |none=>cases hc
 |some i =>
  have hc:Pg a i=some c:=hc
  unfold Pg at hc
  split at hc
  case isFalse=>cases hc
  rename_i hl
  cases hc
  refine h i rfl F O H σ _ s λv F' H' g r1=>?_
  cases r1
  exact .inr ⟨i,rfl,hl,k _ F' H' g rfl⟩
theorem Jq:kitOne K (.type "str") (.type "str")=some true:=rfl
theorem zVu:bootBuiltins "str" = some (.type "str"):=by decide +kernel
end
section
variable{β:Type}
abbrev Jr(kvs:List (Key×β))(k:Str):Option β:=gK kvs (ab3 k)
def RX(kvs:List (Key×β))(k:Str)(v:β):Option (List (Key×β)):=if kvs.length<cap then some (pK kvs (ab3 k) v) else none
end
section
variable{K:PySem.W.Frag}{α:Type}[Rp K α]
variable{B:Bs}{sl:SL K}{md:Md}{t t2:TE}{F H G:Hp}{O:Own}{σ:St}{u:TS}{al:Bool}
theorem Gw{m:Option Str}{m2:Option (Dc α)}(h:Ex B sl .hp t m)(h2:Ex B sl .hp t2 m2):Ex B sl md (KJ t t2) (m.bind λk=>m2.bind λd=>some (Jr d.kv k).isSome):=λc hc F O H σ Q s kk=>by
 obtain⟨k,d,e1,e2,e3⟩:=qU hc
 cases e3
 refine h k e1 F O H σ _ s λv F' H' g r1=>?_
 refine h2 d e2 F' O H' σ _ (s.grow g) λw F2 H2 g2 r2=>?_
 cases r1
 obtain⟨p,ks,rfl,z1,z2⟩:=r2
 refine⟨p,_,rfl,pN.k (k:=ab3 k) z1,?_⟩
 have e:(gY ks (ab3 k:Key)).isSome=(Jr d.kv k).isSome:=by
  rcases z2.val (k:=ab3 k) with⟨q1,q2⟩|⟨a,v,q1,q2,_⟩
  ·show _=(gK d.kv (ab3 k)).isSome;rw[q1,q2];rfl
  ·show _=(gK d.kv (ab3 k)).isSome;rw[q1,q2];rfl
 rw[e]
 exact kk _ F2 H2 (g.trans g2) rfl
theorem zS2{kvs:List (Key×α)}{m:Option α}{mi:Option Str}{te ti:TE}(i:Nat)(hs:sl[i]?=some (.od kvs))(hh:sl.all (λs=>!kE s)=true)(hv:Ex B sl .fz te m)(hi:Ex B sl .hp ti mi) :
  Sn B sl (Ax (eO i) ti te) (λys=>sl.set i (.od ys)) (m.bind λa=>mi.bind λk=>RX kvs k a):=λys ha G D σ H s k=>by
 obtain⟨a,ix,e1,e2,e3⟩:=qU ha
 unfold RX at e3
 split at e3
 case isFalse=>cases e3
 rename_i hl
 cases e3
 obtain⟨F,O,g,z⟩:=s
 refine hv a e1 F O H σ _ z λv F' H' gr r=>?_
 obtain⟨p,ks,h1,h2,h3,_⟩:=(z.grow gr).FZ hs hh
 refine⟨_,h1,?_⟩
 refine hi ix e2 F' O H' σ _ (z.grow gr) λw F2 H2 ux rw=>?_
 cases rw
 obtain⟨p',ks',h1',h2',h3',h4'⟩:=((z.grow gr).grow ux).FZ hs hh
 have e:=h1.symm.trans h1'
 cases e
 obtain⟨O',z'⟩:=h4' (putK ks' (ab3 ix) v) (pK kvs (ab3 ix) a) (h3'.put (Rp.mono ux.ff r))
 exact⟨p,_,rfl,wj.k (k:=ab3 ix) h2' (K_ (by rw[h3'.len];exact hl)),k _ _ ⟨F2,O',(g.trans gr.ff).trans ux.ff,z'⟩⟩
end
abbrev LLI:=List LI
abbrev Dy:=List (Str×LI)
structure g8(p:Addr) where
 u:Unit
def Vw(C:Addr)(fS:LLI->Option Unit)(fM:Dy->Int->Option Unit)(fF:LLI->Int->Option Unit)(fC fO:LLI->Option LLI)(xss:LLI)(mo:Option Dy)(fo:Option LLI):Option (au C) :=
 (fS xss).bind λ_=>(fM (mo.getD []) (xss.length:Int)).bind λ_=>(fF (fo.getD []) (xss.length:Int)).bind λ_=>(fC xss).bind λa=>(yW (λ_=>some true) (λx:Str×LI=>some (x.1,x.2)) (mo.getD [])).bind λb =>
  (fC (fo.getD [])).bind λc=>(fO a).bind λd=>some ⟨a,b,c,d⟩
theorem Dz{α β:Type}{m:Option α}{f:α->Option β}{b:β}(h:m.bind f=some b):∃a,m=some a/\f a=some b:=by
 cases m with
 |none=>cases h
 |some a=>exact⟨a,rfl,h⟩
section
variable{K:PySem.W.Frag}{C:Addr}{B:Bs}{sl:SL K}{F H:Hp}{O:Own}{σ:St}
instance:Rp K (g8 p):=⟨λ_ v _=>v=.ref p,λ_ h=>h⟩
def RZ(K:PySem.W.Frag)(C:Addr)(mk:LLI->Option Dy->Option LLI->Option (au C)):Sp:=λvs H Q _=>∃(p dx:Addr)(vS vM vF:V)(xss:LLI)(mo:Option Dy)(fo:Option LLI)(M:au C),vs=[.ref p,vS,vM,vF]/\H p=some (.ins C dx []) /\
 rp K (hid H p) vS xss/\rp K (hid H p) vM mo/\rp K (hid H p) vF fo/\mk xss mo fo=some M/\∀H':Hp,(∀b o,b≠p->H b=some o->H' b=some o)->rp K (dif H' (hid H p)) (.ref p) M->Q .non H'
variable{mk:LLI->Option Dy->Option LLI->Option (au C)}
theorem zS0{H1:Hp}{x dx:Addr}(nx:H1 x=none)(ndx:H1 dx=none){vS vM vF:V}{xss:LLI}{mo:Option Dy}{fo:Option LLI}{c:au C}(rS:rp K H1 vS xss)(rM:rp K H1 vM mo)(rF:rp K H1 vF fo)(hc:mk xss mo fo=some c){Q:VK}{E:XK}(k:∀H2:Hp,Same H1 H2->rp K (dif H2 H1) (.ref x) c->Q (.ref x) H2):RZ K C mk [.ref x,vS,vM,vF] (upd (upd H1 dx (.own x)) x (.ins C dx [])) (λv H2=>v=.non/\Q (.ref x) H2) E:=by
 have sG:Same H1 (upd (upd H1 dx (.own x)) x (.ins C dx [])):=λb o e=>by rw[zV (zS e nx),zV (zS e ndx)];exact e
 have sh:Same H1 (hid (upd (upd H1 dx (.own x)) x (.ins C dx [])) x):=λb o e=>by
  unfold hid
  rw[if_neg (zS e nx)]
  exact sG b o e
 refine⟨x,dx,vS,vM,vF,xss,mo,fo,c,rfl,zR,Rp.mono sh rS,Rp.mono sh rM,Rp.mono sh rF,hc,λH2 kp r2=>⟨rfl,?_⟩⟩
 refine k H2 (λb o e=>kp b o (zS e nx) (sG b o e)) (Rp.mono (λb o e=>?_) r2)
 have hb:H1 b=none:=by
  cases q:H1 b with
  |none=>rfl
  |some u =>
   have:hid (upd (upd H1 dx (.own x)) x (.ins C dx [])) x b=some u:=sh b u q
   unfold dif at e
   rw[this] at e
   cases e
 rw[uw hb]
 exact aW _ _ e
theorem zRu(h1:Ex B sl .hp t1 m1)(h2:Ex B sl .hp t2 m2)(h3:Ex B sl .hp t3 m3) :
  En B sl (OD C (RZ K C mk) [] E0 (xZ t1 (xZ t2 (xZ t3 bO)))) (m1.bind λa=>m2.bind λb=>m3.bind λc=>mk a (some b) (some c)):=λc hc F O H σ Q s kk=>by
 obtain⟨a,rfl,hc⟩:=Dz (m:=m1) hc
 obtain⟨b,rfl,hc⟩:=Dz (m:=m2) hc
 obtain⟨d,rfl,hc⟩:=Dz (m:=m3) hc
 refine h1 a rfl F O H σ _ s λv1 F1 H1 g1 r1=>?_
 refine h2 b rfl F1 O H1 σ _ (s.grow g1) λv2 F2 H2 g2 r2=>?_
 refine h3 d rfl F2 O H2 σ _ ((s.grow g1).grow g2) λv3 F3 H3 g3 r3=>?_
 intro x dx nx ndx nex
 have r2':rp K H2 v2 b:=r2
 have r3':rp K H3 v3 d:=r3
 exact zS0 nx ndx (Rp.mono (g2.hh.trans g3.hh) r1) (show rp K H3 v2 (some b) from⟨Nn.nn (K:=K) r2',Rp.mono g3.hh r2⟩) (show rp K H3 v3 (some d) from⟨Nn.nn (K:=K) r3',r3⟩) hc λH4 s4 r4=>kk _ F3 H3 H4 (g1.trans (g2.trans g3)) s4 r4
theorem Mf(h:b≠p):hid H p b=H b:=by unfold hid;rw[if_neg h]
theorem Ph:hid H p p=none:=by unfold hid;rw[if_pos rfl]
theorem R3:Same (hid H p) H:=λb o e=>by
 by_cases q:b=p
 ·subst q;rw[Ph] at e;cases e
 ·rw[Mf q] at e;exact e
theorem Pj(s:Same H H'):Same (hid H p) (hid H' p):=λb o e=>by
 by_cases q:b=p
 ·subst q;rw[Ph] at e;cases e
 ·rw[Mf q] at e ⊢;exact s b o e
theorem Js:hid (upd H p o) p=hid H p:=by
 funext b
 by_cases q:b=p
 ·subst q;rw[Ph,Ph]
 ·rw[Mf q,Mf q,zV q]
theorem Vx(kp:∀b o,b≠p->H b=some o->Hi b=some o)(hp:Hi p≠none):Same (dif H' Hi) (dif (hid H' p) (hid H p)):=λb o e=>by
 have hb:Hi b=none:=by
  cases q:Hi b with
  |none=>rfl
  |some u=>unfold dif at e;rw[q] at e;cases e
 have nb:b≠p:=λq=>hp (by rw[<-q];exact hb)
 rw[uw hb] at e
 have h0:hid H p b=none:=by
  rw[Mf nb]
  cases q:H b with
  |none=>rfl
  |some u=>rw[kp b u nb q] at hb;cases hb
 rw[uw h0,Mf nb]
 exact e
theorem zVx(hs:ao (K:=K) ⟨hid Hi p,Hi⟩ (hid Hi p) (lo (hid Hi p) [] Hi) Hi sl σ []):At (K:=K) ⟨hid Hi p,Hi⟩ sl (hid Hi p) [] Hi σ :=
 ⟨⟨R3,.refl _,λb o h=>.inl h,λx hx=>(by cases hx),by simp⟩,hs⟩
end
end Ts
namespace qY
open PySem
def Rz(xs:Array Nat):Prop:=∀i k a b:Nat,i<k->xs[i]?=some a->xs[k]?=some b->a<b
theorem Yp(hr:Rz xs):∀(fuel lo hi:Nat),hi-lo<=fuel->lo<=hi->hi<=xs.size->(∀i a,i<lo->xs[i]?=some a->a<j)->(∀i a,hi<=i->xs[i]?=some a->j<=a) ->
  (below.go xs j fuel lo hi)<=xs.size/\(∀i a,i<below.go xs j fuel lo hi->xs[i]?=some a->a<j)/\(∀i a,below.go xs j fuel lo hi<=i->xs[i]?=some a->j<=a)
 |0,lo,hi,hf,hl,hz,h1,h2=>by
  have e:lo=hi:=by omega
  subst e
  unfold below.go
  exact⟨hz,h1,h2⟩
 |fuel+1,lo,hi,hf,hl,hz,h1,h2=>by
  unfold below.go
  by_cases hlt:lo<hi
  ·rw[if_pos hlt]
   have hm:(lo+hi)/2<hi:=by omega
   have hm0:lo<=(lo+hi)/2:=by omega
   have hms:(lo+hi)/2<xs.size:=by omega
   have e:xs.getD ((lo+hi)/2) j=xs[(lo+hi)/2]:=by simp[Array.getD,hms]
   dsimp only
   rw[e]
   by_cases hc:xs[(lo+hi)/2]<j
   ·rw[if_pos hc]
    refine Yp hr fuel _ hi (by omega) (by omega) hz (λi a hi' ha=>?_) h2
    by_cases hi2:i=(lo+hi)/2
    ·subst hi2
     rw[aar hms] at ha
     cases ha
     exact hc
    ·exact adk (hr i ((lo+hi)/2) a _ (by omega) ha (aar hms)) hc
   ·rw[if_neg hc]
    refine Yp hr fuel lo _ (by omega) (by omega) (by omega) h1 (λi a hi' ha=>?_)
    by_cases hi2:i=(lo+hi)/2
    ·subst hi2
     rw[aar hms] at ha
     cases ha
     omega
    ·have:=hr ((lo+hi)/2) i _ a (by omega) (aar hms) ha
     omega
  ·rw[if_neg hlt]
   have e:lo=hi:=by omega
   subst e
   exact⟨hz,h1,h2⟩
theorem Yq(hr:Rz xs)(j:Nat):below xs j<=xs.size/\(∀i a,i<below xs j->xs[i]?=some a->a<j)/\(∀i a,below xs j<=i->xs[i]?=some a->j<=a) :=
 Yp hr xs.size 0 xs.size (by omega) (abf _) (aaq _) (λi a h=>absurd h (aed _)) (λi a h1 h2=>by
  rw[aa9 h1] at h2
  cases h2)
theorem Mg{α:Type}(xs:Array α)(p:Nat)(x:α)(hp:p<=xs.size)(i:Nat):(insertAt xs p x)[i]?=if i<p then xs[i]? else if i=p then some x else xs[i-1]?:=by
 have e:insertAt xs p x=(xs.toList.take p++x::xs.toList.drop p).toArray:=by
  unfold insertAt
  apply Array.ext'
  simp
  rw[List.take_of_length_le (by rw[List.length_drop,length_toList];exact aaq _)]
 rw[e,getElem?_toArray]
 have hl:p<=xs.toList.length:=by simpa using hp
 by_cases h1:i<p
 ·rw[if_pos h1,getElem?_append_left (by rw[length_take];omega),getElem?_take_of_lt h1,getElem?_toList]
 ·rw[if_neg h1,getElem?_append_right (by rw[length_take];omega),length_take,Nat.min_eq_left hl]
  by_cases h2:i=p
  ·subst h2;simp
  ·rw[if_neg h2]
   obtain⟨k,rfl⟩:∃k,i=p+1+k:=⟨i-(p+1),by omega⟩
   rw[show p+1+k-p=k+1 by omega,List.getElem?_cons_succ,List.getElem?_drop,getElem?_toList]
   congr 1
   omega
theorem Mh(hr:Rz xs)(hn:xs[below xs j]?≠some j):Rz (insertAt xs (below xs j) j):=by
 obtain⟨b1,b2,b3⟩:=Yq hr j
 intro i k a b hik ha hb
 rw[Mg _ _ _ b1] at ha hb
 generalize below xs j=p at *
 have up:∀m c,p<=m->xs[m]?=some c->j<c:=λm c hm hc=>by
  have h1:=b3 m c hm hc
  by_cases e:m=p
  ·subst e
   have:c≠j:=λz=>hn (by rw[hc,z])
   omega
  ·have hp:p<xs.size:=by
    have:m<xs.size:=by
     by_cases z:m<xs.size
     ·exact z
     ·rw[aa9 (by omega)] at hc;cases hc
    omega
   have h2:=hr p m _ c (by omega) (aar hp) hc
   have h3:=b3 p _ (aaq _) (aar hp)
   omega
 by_cases i1:i<p
 ·rw[if_pos i1] at ha
  have ja:=b2 i a i1 ha
  by_cases k1:k<p
  ·rw[if_pos k1] at hb;exact hr i k a b hik ha hb
  ·rw[if_neg k1] at hb
   by_cases k2:k=p
   ·rw[if_pos k2] at hb;cases hb;exact ja
   ·rw[if_neg k2] at hb
    exact adk ja (up (k-1) b (by omega) hb)
 ·rw[if_neg i1] at ha
  have k1:¬k<p:=by omega
  have k2:¬k=p:=by omega
  rw[if_neg k1,if_neg k2] at hb
  by_cases i2:i=p
  ·rw[if_pos i2] at ha;cases ha;exact up (k-1) b (by omega) hb
  ·rw[if_neg i2] at ha
   exact hr (i-1) (k-1) a b (by omega) ha hb
def Free(t:SetTable)(j:Nat):Prop:=t.place[below t.place j]?≠some j
theorem zIy{t:SetTable}(h:∀i,t.slot j≠.live i):Free t j:=λe=>by
 refine h (below t.place j) ?_
 unfold SetTable.slot
 simp[e]
theorem Yr:∀(fuel:Nat)(p:SetTable.Probe)(j:Nat)(d:Option Nat),(∀d,p.dummy=some d->Free t d)->probe.go t f h fuel p=some (.empty j d)->Free t j/\∀e,d=some e->Free t e
 |0,p,j,d,hd,e=>by unfold probe.go at e;cases e
 |fuel+1,p,j,d,hd,e=>by
  have adv:∀q:SetTable.Probe,(t.advance q).dummy=q.dummy:=λq=>by
   unfold SetTable.advance
   split
   ·rfl
   ·rfl
  unfold probe.go at e
  cases hs:t.slot p.j with
  |empty =>
   rw[hs] at e
   cases e
   exact⟨zIy (λi z=>by rw[hs] at z;cases z),hd⟩
  |dummy =>
   rw[hs] at e
   refine Yr fuel _ j d (λd' h'=>?_) e
   rw[adv] at h'
   cases h'
   exact zIy λi z=>by rw[hs] at z;cases z
  |live i =>
   rw[hs] at e
   dsimp only at e
   split at e
   ·cases e
   ·exact Yr fuel _ j d (λd' h'=>hd d' (by rw[adv] at h';exact h')) e
theorem zH2{t:SetTable}(e:t.freeSlot h=some (j,b)):Free t j:=by
 unfold SetTable.freeSlot at e
 split at e
 ·rename_i j' d hp
  cases e
  have q:=Yr (t:=t) _ _ j' d (λd h'=>by cases h') hp
  cases d with
  |none=>exact q.1
  |some d=>exact q.2 d rfl
 ·cases e
structure Tb(led:Bool)(t:SetTable):Prop where
 led:t.led=led
 rz:t.plain=true->Rz t.place
theorem Vy(h:Tb led t)(n:Nat):Tb led (t.standIn n):=⟨h.led,λz=>by cases z⟩
theorem R5(h:Tb led t)(n:Nat):Tb led (t.orStandIn n):=by
 unfold SetTable.orStandIn
 split
 ·exact h
 ·exact Vy h n
theorem Mi(hb:Tb led t)(es:Array (Int×Value))(h:Int)(x:Value):Tb led (layNew t es h x).2.1:=by
 unfold layNew
 cases e:t.freeSlot h with
 |none=>exact Vy hb _
 |some q =>
  obtain⟨j,b⟩:=q
  dsimp only
  refine R5 (t:=(t.put j).1) ⟨hb.led,λz=>?_⟩ _
  exact Mh (hb.rz z) (zH2 e)
theorem zI4(f:Nat->Option Nat)(n:Nat):Rz (((aat n).filterMap λj=>(f j).map (j,·)).map (·.1)).toArray:=by
 have hp:(((aat n).filterMap λj=>(f j).map (j,·)).map (·.1)).Pairwise (· < ·):=by
  rw[List.pairwise_map]
  refine Pairwise.filterMap _ ?_ (List.pairwise_lt_range (n:=n))
  intro a b hab x hx y hy
  cases ea:f a with
  |none=>rw[ea] at hx;cases hx
  |some u =>
   cases eb:f b with
   |none=>rw[eb] at hy;cases hy
   |some v =>
    rw[ea] at hx
    rw[eb] at hy
    cases hx
    cases hy
    exact hab
 intro i k a b hik ha hb
 rw[getElem?_toArray] at ha hb
 obtain⟨h1,e1⟩:=aa2.mp ha
 obtain⟨h2,e2⟩:=aa2.mp hb
 rw[<-e1,<-e2]
 exact List.pairwise_iff_getElem.mp hp i k h1 h2 hik
theorem zSu(hb:Tb led t)(es:Array (Int×Value))(n:Nat):Tb led (relayAll t es n).2.1:=by
 unfold relayAll
 cases e:t.relaid (es.map (·.1)) n with
 |none=>exact Vy hb _
 |some q =>
  obtain⟨t',order⟩:=q
  dsimp only
  split
  ·unfold SetTable.relaid SetTable.laid at e
   cases e2:SetTable.layClean (SetTable.sizeAbove n-1) (es.map (·.1)) with
   |none=>rw[e2] at e;cases e
   |some owner =>
    rw[e2] at e
    cases e
    exact⟨hb.led,λ_=>zI4 _ _⟩
  ·exact Vy hb _
theorem zSv(led:Bool):Tb led (.fresh 0 0 led):=⟨rfl,λ_=>λi k a b _ h _=>by
 have:(#[]:Array Nat)[i]?=some a:=h
 simp at this⟩
section
variable{prog:Program}{w:World}{κ:Type}[DecidableEq κ](knd:KeyKind prog w κ)(dec:Value->κ)
def Good(led:Bool)(h:Heap)(a:Addr)(ks:List κ):Prop :=
 ∃o es ep t,h.get? a=some o/\o.ExactSet/\o.data=.set es ep t/\ElemsOf knd es.toList/\(es.toList.map λe=>dec e.2).Perm ks/\ks.Nodup/\es.size<scanBound/\t.fits es.size=true/\Tb led t
variable{knd}{dec}{led:Bool}{A:Around}{E:Value->Shared->Prop}{s:Shared}
theorem Good.len(g:Good knd dec led h a ks):ks.length<scanBound:=by
 obtain⟨o,es,ep,t,_,_,_,_,p,_,hb,_⟩:=g
 rw[<-p.length_eq,length_map,length_toList]
 exact hb
theorem Good.keep{h':Heap}(g:Good knd dec led h a ks)(k:∀o,h.get? a=some o->h'.get? a=some o):Good knd dec led h' a ks:=by
 obtain⟨o,es,ep,t,h1,rest⟩:=g
 exact⟨o,es,ep,t,k _ h1,rest⟩
theorem zJr(hdec:∀k v,knd.is k v=true->dec v=k)(hel:ElemsOf knd es)(k:κ):es.findIdx? (λe=>knd.is k e.2)=none↔k∉es.map λe=>dec e.2:=by
 rw[List.findIdx?_eq_none_iff]
 constructor
 ·intro h hm
  obtain⟨e,he,rfl⟩:=mem_map.mp hm
  obtain⟨⟨k',hk,_⟩,_⟩:=hel e he
  have:=h e he
  rw[hdec k' _ hk,hk] at this
  cases this
 ·intro h e he
  cases q:knd.is k e.2 with
  |false=>rfl
  |true=>exact absurd (mem_map.mpr ⟨e,he,hdec _ _ q⟩) h
theorem Jt{h:Heap}(ho:h.get? a=some o)(hd:o.data=.set es ep t):(h.update a (afc es' t')).get? a=some { o with data:=.set es' (ep+1) t' }:=by
 have q:=get?_update_self (afc es' t') ho (by rw[putSet_of es' t' hd];rfl)
 rw[putSet_of es' t' hd] at q
 exact q
theorem Ys{Q:Unit->Shared->Prop}(h:Q () s1):wpAny (model prog w) A (match b with|true=>rule "set.scan.the-table-gave-way" | false=>pure ()) Q E s1:=by
 cases b
 ·exact aap h
 ·exact ad1 h
theorem zM1{g:Bool->Sem Unit}(hg:∀(b:Bool) (s₁:Shared) (Q':Unit->Shared->Prop),Q' () s₁->wpAny (model prog w) A (g b) Q' E s₁){es1:Array (Int×Value)}{t2:SetTable}{R:Option Bool->Shared->Prop}(ho:s.heap.get? a=some o)(hx:o.ExactSet)(hd:o.data=.set es ep t)(hel:ElemsOf knd es1.toList)(hp:(es1.toList.map λe=>dec e.2).Perm ks)(nd:ks.Nodup)(hb:es1.size<scanBound)(hf:t2.fits es1.size=true)(tb:Tb led t2)(h:∀h',SameBut a s.heap h'->Good knd dec led h' a ks->R (some true) { s with heap:=h' }) :
  wpAny (model prog w) A (storeSet a es1 t2 >>= λ_=>if(!R7&&t2.tooFull)=true then(g (relayAll t2 es1 (grown es1.size)).2.2 >>= λ_=>storeSet a (relayAll t2 es1 (grown es1.size)).1 (relayAll t2 es1 (grown es1.size)).2.1 >>= λ_=>pure (some true)) else pure (some true)) R E s:=by
 refine aan (acj ho hd ?_ (aci hb))
 have o1:=Jt (es':=es1) (t':=t2) ho hd
 have sb:=SameBut.update s.heap a (afc es1 t2)
 split
 ·have rp:=relayAll_perm t2 es1 (grown es1.size)
  have rf:=relayAll_fits t2 es1 (grown es1.size)
  have rt:=zSu tb es1 (grown es1.size)
  generalize relayAll t2 es1 (grown es1.size)=L at rp rf rt ⊢
  obtain⟨es2,t3,gv⟩:=L
  dsimp only at rp rf rt ⊢
  have sz:es2.size=es1.size:=by rw[<-length_toList,rp.length_eq,length_toList]
  refine aan (hg _ _ _ (aan (acj o1 rfl (aap (h _ (sb.trans (SameBut.update _ a _)) ⟨_,es2,_,t3,Jt (es':=es2) (t':=t3) o1 rfl,hx,rfl,hel.perm rp,(rp.map _).trans hp,nd,by rw[sz];exact hb,rf,rt⟩)) (aci (by rw[sz];exact hb)))))
 ·exact aap (h _ sb ⟨_,es1,_,t2,o1,hx,rfl,hel,hp,nd,hb,hf,tb⟩)
theorem Mj(h:Tb led t):Tb led { t with plain:=false }:=⟨h.led,λz=>by cases z⟩
theorem Yt(hdec:∀k v,knd.is k v=true->dec v=k){Q:Bool->Shared->Prop}(hk:knd.is k x=true)(hs:x.scannable=true)(g:Good knd dec led s.heap a ks)(room:ks.length+1<scanBound)(h:∀(h':Heap) (b:Bool),SameBut a s.heap h'->Good knd dec led h' a (if k∈ks then ks else k::ks)->Q b { s with heap:=h' }) :
  wpAny (model prog w) A (setAddHashed a x (knd.hash k)) Q E s:=by
 obtain⟨o,es,ep,t,ho,hx,hd,hel,hp,nd,hb,hf,tb⟩:=g
 have n:es.size=ks.length:=by rw[<-hp.length_eq,length_map,length_toList]
 unfold setAddHashed setAddHashedIn
 refine abj (aan (aa5 ho hd hf ?_))
 dsimp only
 rw[byScan_of hs hb hel]
 simp only[↓reduceIte]
 unfold setAddByScan
 refine aan (aan (ad1 (aan (wpAny_setScan_of hk ho hd hf hel ?_))))
 have fi:=zJr hdec hel k
 cases hr:List.findIdx? (λe=>knd.is k e.2) es.toList with
 |some j =>
  have hm:k∈ks:=by
   refine hp.mem_iff.mp (Classical.byContradiction λz=>?_)
   rw[fi.mpr z] at hr
   cases hr
  dsimp only
  refine aap (aap ?_)
  have q:=h s.heap false (SameBut.refl a s.heap)
  rw[if_pos hm] at q
  exact q ⟨o,es,ep,t,ho,hx,hd,hel,hp,nd,hb,hf,tb⟩
 |none =>
  have hm:k∉ks:=λz=>fi.mp hr (hp.mem_iff.mpr z)
  dsimp only
  have lp:=layNew_perm t es (knd.hash k) x
  have lf:=layNew_fits t es (knd.hash k) x
  have lt:=Mi tb es (knd.hash k) x
  generalize layNew t es (knd.hash k) x=L at lp lf lt ⊢
  obtain⟨es1,t1,R7,gave⟩:=L
  dsimp only at lp lf lt ⊢
  rw[toList_push] at lp
  have sz:es1.size=es.size+1:=by rw[<-length_toList,lp.length_eq,length_append,length_toList];rfl
  have hp1:(es1.toList.map λe=>dec e.2).Perm (k::ks):=by
   refine(lp.map _).trans ?_
   rw[map_append]
   show(_++[dec x]).Perm _
   rw[hdec k x hk]
   exact Perm.trans (l₂:=k::es.toList.map λ(e:Int×Value)=>dec e.2) List.perm_append_comm (hp.cons k)
  have fin:∀h',SameBut a s.heap h'->Good knd dec led h' a (k::ks)->Q true { s with heap:=h' }:=λh' sb g'=>by
   have q:=h h' true sb
   rw[if_neg hm] at q
   exact q g'
  have nd1:(k::ks).Nodup:=nodup_cons.mpr ⟨hm,nd⟩
  refine aan (Ys ?_)
  split
  ·refine aan ?_
   rw[hashByValue_scannable 8 hs]
   refine aap ?_
   refine zM1 (led:=led) (R7:=R7) (λb s₁ Q' hq=>Ys hq) ho hx hd ((hel.push hk hs).perm lp) hp1 nd1 (by rw[sz,n];exact room) ?_ ?_ λh' sb g'=>?_
   ·split
    ·exact lf
    ·exact SetTable.fits_plain_off lf
   ·split
    ·exact lt
    ·exact Mj lt
   ·exact aap (fin h' sb g')
  ·refine aan (aap ?_)
   simp only[↓reduceIte]
   refine zM1 (led:=led) (R7:=R7) (λb s₁ Q' hq=>Ys hq) ho hx hd ((hel.push hk hs).perm lp) hp1 nd1 (by rw[sz,n];exact room) lf lt λh' sb g'=>?_
   exact aap (fin h' sb g')
end
open PySem PySem.Spec PyProof.Rows
section
variable{κ:Type}[DecidableEq κ]
def met(val:Nat->κ):Nat->List κ
 |0=>[]
 |i+1=>if val i∈met val i then met val i else val i::met val i
theorem zQq(val:Nat->κ):∀i,(met val i).length<=i
 |0=>aaq _
 |i+1=>by
  have ih:=zQq val i
  unfold met
  split
  ·omega
  ·rw[length_cons];omega
theorem zQr(val:Nat->κ)(k:κ):∀i,k∈met val i↔∃j,j<i/\val j=k
 |0=>by simp[met]
 |i+1=>by
  have ih:=zQr val k i
  have lt:(∃j,j<i+1/\val j=k)↔(∃j,j<i/\val j=k)\/val i=k:=by
   constructor
   ·rintro⟨j,hj,e⟩
    by_cases q:j=i
    ·subst q;exact .inr e
    ·exact .inl ⟨j,by omega,e⟩
   ·rintro(⟨j,hj,e⟩|e)
    ·exact⟨j,by omega,e⟩
    ·exact⟨i,by omega,e⟩
  rw[lt,<-ih]
  show k∈(if val i∈met val i then met val i else val i::met val i)↔_
  split
  ·rename_i hm
   exact⟨.inl,λh=>h.elim id λe=>e▸hm⟩
  ·rw[mem_cons]
   exact⟨λh=>h.elim (λe=>.inr e.symm) .inl,λh=>h.elim .inr λe=>.inl e.symm⟩
variable{prog:Program}{w:World}{knd:KeyKind prog w κ}{dec:Value->κ}{led:Bool}{A:Around}{R:Result->Shared->Prop}{I:Addr}{fp wr:List Addr}{G:Array GenState->Array GenState->Prop}{n:Nat}{P:Nat->Value->Prop}{St:Nat->Shared->Prop}
theorem Gx(hdec:∀k v,knd.is k v=true->dec v=k)(W:WalksS prog w A.in1 I fp wr G n P St)(S:Addr)(off:S∉fp)(val:Nat->κ)(hval:∀i v,P i v->knd.is (val i) v=true/\v.scannable=true)(hb:n+1<scanBound) :
  ∀(k i:Nat)(s:Shared),n-i=k->i<=n->St i s->Good knd dec led s.heap S (met val i)->(∀s',Moved (S::wr) G s s'->Good knd dec led s'.heap S (met val n)->R (.ok (.ret .none)) s')->codeAny (model prog w) A (.builtin "set.update.loop" ⟨[.ref S,.ref I],[]⟩) R s:=by
 have R8:S∉wr:=λh=>off (W.sub _ h)
 have sub:∀b∈wr,b∈S::wr:=λb hb=>mem_cons_of_mem _ hb
 intro k
 induction k with
 |zero =>
  intro i s hk hi st g fin
  have e:i=n:=by omega
  subst e
  refine acr F.entry_set_update_loop ?_
  rw[ab4 ad3 _]
  refine aan (m:=pyNext (.ref I)) (W.done s _ _ st λs' hm=>?_)
  exact aap (fin s' (hm.mono sub) (g.keep λo h=>hm.heap S o R8 h))
 |succ k ih =>
  intro i s hk hi st g fin
  have lt:i<n:=by omega
  refine acr F.entry_set_update_loop ?_
  rw[ab4 ad3 _]
  refine aan (m:=pyNext (.ref I)) (W.item i s _ _ lt st λv s' hP st' hm=>?_)
  obtain⟨his,hsc⟩:=hval i v hP
  refine aan (m:=holding [v] (setAdd S v)) (abj ?_)
  unfold setAdd
  refine abj (aan (knd.pyHash (k:=val i) his ?_))
  refine Yt (led:=led) (s:={ s' with toks:=s'.toks+1 }) hdec his hsc (g.keep λo h=>hm.heap S o R8 h) (by have:=zQq val i;omega) λh' b sb g'=>?_
  refine aap ⟨adb ad3 _,ih (i+1) _ (by omega) lt (W.frame _ s' _ _ st' (ab6 _) λb hb o e=>?_) g' λs'' hm'' g''=>?_⟩
  ·rw[sb.2 b (λh:b=S=>off (by rw[<-h];exact hb))];exact e
  ·refine fin s'' (Moved.trans W.gtrans ((hm.mono sub).then_heap (ab6 _) λb o hb e=>?_) hm'') g''
   rw[sb.2 b (λh:b=S=>hb (h▸mem_cons_self))];exact e
end
section
variable{prog:Program}{w:World}{A:Around}{E:Value->Shared->Prop}{s:Shared}
def yA(w:World):Bool:=!w.params.followText "set-order"
theorem zTy(a:Value){Q₁:Value->Shared->Prop}(h:Q₁ (.ref s.heap.objs.size) { s with heap:=s.heap.push { cls:=.type "set",dict:=none,data:=.set #[] 0 (.fresh 0 0 (yA w)) } }) :
  codeAny (model prog w) A (.call (.builtin "set.__new__") ⟨[.type "set",a],[]⟩) (wants Q₁ E) s:=by
 refine codeAny_of_tree (aan (m:=checkBuiltinCall "set.__new__" ⟨[.type "set",a],[]⟩) (wpAny_of_eq (F.newCall_set_1 a) (aap ⟨adb F.plain_set_new _,acr F.entry_set_new ?_⟩)))
 rw[ab4 F.plain_set_new _]
 unfold Builtin.«set.__new__» Builtin.Frozenset.newClass
 have sub:=aex
 obtain⟨hp,g,d,tk,os⟩:=s
 dsimp only
 wp_walk
 refine ado (aap ?_)
 dsimp only
 simp only[newObj]
 exact aan (wpAny_alloc (aap (aap h)))
theorem R9{κ:Type}[DecidableEq κ]{knd:KeyKind prog w κ}{dec:Value->κ}{h:Heap}(e:h.get? a=some { cls:=.type "set",dict:=none,data:=.set #[] 0 (.fresh 0 0 led) }):Good knd dec led h a [] :=
 ⟨_,#[],0,.fresh 0 0 led,e,⟨rfl,rfl,rfl⟩,rfl,λx hx=>by simp at hx,by simp,nodup_nil,by show 0<4096;decide,by cases led<;>rfl,zSv led⟩
set_option maxHeartbeats 4000000 in
theorem zUn{κ:Type}[DecidableEq κ]{knd:KeyKind prog w κ}{dec:Value->κ}(hdec:∀k v,knd.is k v=true->dec v=k){Q:Value->Shared->Prop}(val:Nat->κ)(hh:A.handled=none)(hl:s.heap.IsList l items)(hi:∀(i:Nat) (v:Value),items[i]?=some v->knd.is (val i) v=true/\v.scannable=true)(hb:items.size+1<scanBound)(h:∀(h':Heap) (tk:Nat),Good knd dec (yA w) h' s.heap.objs.size (met val items.size)->(∀b o,b<s.heap.objs.size->s.heap.get? b=some o->h'.get? b=some o)->Q (.ref s.heap.objs.size) { s with heap:=h',toks:=tk }) :
  wpAny (model prog w) A (call (.type "set") [.ref l]) Q E s:=by
 obtain⟨c,tl,hmro⟩:=F.called_set.mro
 have hmade:=F.called_set.made
 have hsub:=F.called_set.sub
 refine wpAny_call (codeAny_of_tree (aap ⟨Code.quiet_builtin _ (by decide +kernel),acr F.entry_type_call ?_⟩))
 rw[Around.under_plain (weight_type_call_type "set" [.ref l] []) rfl]
 have h1:=F.called_set.notType
 have h2:=F.called_set.canCreate
 have hct:=F.typeCall_set_1 (.ref l)
 repeat(any_goals (first|assumption|wp_step))
 refine adn (zTy (.ref l) (E:=E) (Q₁:=λobj s₁=>obj=.ref s.heap.objs.size/\s₁={ s with heap:=s.heap.push { cls:=.type "set",dict:=none,data:=.set #[] 0 (.fresh 0 0 (yA w)) } }) ⟨rfl,rfl⟩) λr s₁ hr=>?_
 cases r with
 |error e=>exact hr
 |ok fl =>
  cases fl with
  |ret obj =>
   obtain⟨rfl,rfl⟩:=hr
   have hS:(s.heap.push { cls:=.type "set",dict:=none,data:=.set #[] 0 (.fresh 0 0 (yA w)) }).get? s.heap.objs.size=some { cls:=.type "set",dict:=none,data:=.set #[] 0 (.fresh 0 0 (yA w)) }:=get?_push_size _ rfl
   have hT:Shared.TypeIs { s with heap:=s.heap.push { cls:=.type "set",dict:=none,data:=.set #[] 0 (.fresh 0 0 (yA w)) } } (.ref s.heap.objs.size) "set":=⟨_,hS,rfl⟩
   have hli:=F.called_set.init.lookup
   have hbi:=F.called_set.init.bind (.ref s.heap.objs.size)
   repeat(any_goals (first|assumption|wp_step))
   refine adn (codeAny_call_builtin (R:=wants (λr s₂=>r=.none/\∃h' tk,s₂={ s with heap:=h',toks:=tk }/\Good knd dec (yA w) h' s.heap.objs.size (met val items.size)/\(∀b o,b<s.heap.objs.size->s.heap.get? b=some o->h'.get? b=some o)) E)
    F.called_set.init.plain F.entry_set_init (check_set_init_1 hT ?_)) λr₂ s₂ hr₂=>?_
   ·obtain⟨ol,hol,hcl,nl,hdl⟩:=hl
    obtain⟨ocls,odict,odata,oslots⟩:=ol
    simp only at hcl hdl
    subst hcl
    subst hdl
    have hol':(s.heap.push { cls:=.type "set",dict:=none,data:=.set #[] 0 (.fresh 0 0 (yA w)) }).get? l=some { cls:=.type "list",dict:=odict,data:=.seq items nl,slots:=oslots }:=get?_push_of_some _ hol
    have hsls:=F.sub_list_set
    have hslf:=F.sub_list_frozenset
    have hne:(acw "list" == acw "dict")=false:=by decide
    have hl1:(s.heap.push { cls:=.type "set",dict:=none,data:=.set #[] 0 (.fresh 0 0 (yA w)) }).IsList l items:=⟨_,hol',rfl,nl,rfl⟩
    unfold Builtin.«set.__init__» noKeywords Builtin.Frozenset.updateFrom
    generalize hPI:pyIter=PI
    wp_walk
    subst hPI
    refine ad8 hl1 (aan (wpAny_runValue ?_))
    have hlS:l<s.heap.objs.size:=lt_size hol
    have sz:(s.heap.push { cls:=.type "set",dict:=none,data:=.set #[] 0 (.fresh 0 0 (yA w)) }).objs.size=s.heap.objs.size+1:=size_push ..
    have hneI:l≠(s.heap.push { cls:=.type "set",dict:=none,data:=.set #[] 0 (.fresh 0 0 (yA w)) }).objs.size:=by rw[sz];exact aav (ade hlS)
    refine Gx (led:=yA w) hdec ((Walks.list (by simp[hh]) _ l hneI items).toS) s.heap.objs.size (by
     rw[sz]
     intro z
     rcases mem_cons.mp z with z|z
     ·exact absurd z (aav (acv _))
     ·exact absurd (mem_singleton.mp z) (adl hlS)) val hi hb (items.size-0) 0 _ (by omega) (abf _) ⟨⟨_,get?_push_size _ rfl,rfl,rfl⟩,hl1.push _⟩ (R9 (get?_push_of_some _ hS)) λs' hm g'=>?_
    obtain⟨h',g1,d1,tk',os1⟩:=s'
    have eg:g1=s.gens:=hm.gens
    have ed:d1=s.drawn:=hm.drawn
    have eo:os1=s.os:=hm.os
    subst eg ed eo
    refine aap ?_
    refine aap ⟨rfl,h',tk',rfl,g',λb o hb e=>hm.heap b o (λz=>?_) (get?_push_of_some _ (get?_push_of_some _ e))⟩
    rcases mem_cons.mp z with z|z
    ·exact absurd z (aav hb)
    ·have z:=mem_singleton.mp z
     rw[sz] at z
     exact absurd z (aav (ade hb))
   ·cases r₂ with
    |error e=>exact hr₂
    |ok fl₂ =>
     cases fl₂ with
     |ret r =>
      obtain⟨rfl,h',tk,rfl,hS',hk'⟩:=hr₂
      repeat(any_goals (first|assumption|wp_step))
      exact h _ _ hS' hk'
     |_=>exact hr₂.elim
  |_=>exact hr.elim
end
set_option maxRecDepth 100000
theorem zLy:Manifest.owners.lookup (String.ofList ['r','o','t','a','r','e','t','i','_','t','e','s'].reverse)=some Manifest.sig_set_iterator:=by kernel_rfl
theorem jT:Slot "set_iterator" "__next__" "set_iterator.__next__":=.of (owner:="set_iterator") (n:="__next__") (by rw[ady,acy];kernel_rfl) (by decide +kernel) (by decide +kernel) (by decide +kernel) (by first|exact .inl (by decide +kernel)|exact .inr (by decide +kernel)) (by rw[isSubtype_type];kernel_rfl)
theorem zG9:entryFor table "set_iterator.__next__" = some Builtin.«set_iterator.__next__»:=entryFor_of_tree (by kernel_rfl)
theorem zI0(a:Value):argsOk "set_iterator.__next__" ⟨[a],[]⟩:=by unfold argsOk;rw[signature?_of (id:="set_iterator.__next__") (n:=['_','_','t','x','e','n','_','_']) (o:=['r','o','t','a','r','e','t','i','_','t','e','s']) (by kernel_rfl) zLy];kernel_rfl
theorem zPr:Slot "set_iterator" "__iter__" "set_iterator.__iter__":=.of (owner:="set_iterator") (n:="__iter__") (by rw[ady,acy];kernel_rfl) (by decide +kernel) (by decide +kernel) (by decide +kernel) (by first|exact .inl (by decide +kernel)|exact .inr (by decide +kernel)) (by rw[isSubtype_type];kernel_rfl)
theorem zHa:entryFor table "set_iterator.__iter__" = some Builtin.«dict_keyiterator.__iter__»:=aeh (id':="dict_keyiterator.__iter__") (by kernel_rfl) rfl (by decide +kernel) (by kernel_rfl)
theorem zI1(a:Value):argsOk "set_iterator.__iter__" ⟨[a],[]⟩:=by unfold argsOk;rw[signature?_of (id:="set_iterator.__iter__") (n:=['_','_','r','e','t','i','_','_']) (o:=['r','o','t','a','r','e','t','i','_','t','e','s']) (by kernel_rfl) zLy];kernel_rfl
theorem zFx:entryFor table "set.__iter__" = some Builtin.«frozenset.__iter__»:=aeh (id':="frozenset.__iter__") (by kernel_rfl) rfl (by decide +kernel) (by kernel_rfl)
theorem pR:typeLookup (.type "set") "__len__" = pure (some (.builtin "set.__len__")):=by rw[ady,acy];kernel_rfl
set_option maxRecDepth 100000
section
variable{prog:Program}{w:World}{A:Around}{E:Value->Shared->Prop}{s:Shared}
theorem Vz{α:Type}:∀{l:List α}{i:Nat}(h:i<l.length),(l[i]::l.eraseIdx i).Perm l
 |x::l,0,h=>.refl _
 |x::l,i+1,h=>by
  have hi:i<l.length:=by simpa using h
  have ih:=Vz (l:=l) (i:=i) hi
  show(l[i]::x::l.eraseIdx i).Perm (x::l)
  exact(Perm.swap _ _ _).trans (ih.cons x)
theorem zO0{Q:Nat->Shared->Prop}(hn:0<n)(h:∀i d,i<n->Q i { s with drawn:=d }):wpAny (model prog w) A (choose src n) Q E s :=
 λ_ _ _=>⟨adl hn,h _ _ (afa _ hn)⟩
theorem zRv{α:Type}:∀(n:Nat)(xs:List α)(s:Shared)(Q:List α->Shared->Prop),xs.length=n->(∀ys d,ys.Perm xs->Q ys { s with drawn:=d })->wpAny (model prog w) A (drawOrder n xs) Q E s
 |0,xs,s,Q,hl,h=>by
  have e:xs=[]:=length_eq_zero_iff.mp hl
  subst e
  unfold drawOrder
  exact aap (h [] s.drawn (.refl _))
 |n+1,[],s,Q,hl,h=>by simp at hl
 |n+1,x::xs,s,Q,hl,h=>by
  unfold drawOrder
  refine aan (zO0 (by rw[hl];omega) λi d hi=>?_)
  have e:(x::xs)[i]?=some (x::xs)[i]:=aao hi
  rw[e]
  refine aan (zRv n _ _ _ (by rw[length_eraseIdx,if_pos hi,hl];rfl) λys d' p=>?_)
  exact aap (h _ d' ((p.cons _).trans (Vz hi)))
theorem zP6{α:Type}(next:Nat->Nat):∀(fuel k:Nat)(left:List α)(out:Array α),left.length=fuel->(afj next fuel k left out).toList.Perm (out.toList++left)
 |0,k,left,out,hl=>by
  have e:left=[]:=length_eq_zero_iff.mp hl
  subst e
  unfold afj
  rw[append_nil]
 |fuel+1,k,left,out,hl=>by
  have hi:next k%left.length<left.length:=afa _ (by omega)
  unfold afj
  rw[aao hi]
  dsimp only
  refine(zP6 next fuel (k+1) _ _ (by rw[length_eraseIdx,if_pos hi,hl];rfl)).trans ?_
  rw[toList_push,List.append_assoc]
  exact Perm.append_left _ (Vz hi)
theorem Pk{α:Type}(next:Nat->Nat)(xs:Array α):(pickOrder next xs).toList.Perm xs.toList:=by
 have q:=zP6 next xs.size 0 xs.toList #[] (by simp)
 have e:(#[]:Array α).toList++xs.toList=xs.toList:=rfl
 rw[e] at q
 exact q
variable{a it T:Addr}{o:Obj}{es:Array (Int×Value)}{ep:Nat}{t:SetTable}
theorem Ml{Q:Bool->Shared->Prop}(h:Q (w.params.followText "set-order") s):wpAny (model prog w) A setsByText Q E s:=by
 unfold setsByText
 exact aan (ado (aap h))
theorem zUl{Q:Bool->Shared->Prop}(ho:s.heap.get? a=some o)(hd:o.data=.set es ep t)(hf:t.fits es.size=true)(h:Q (!w.params.followText "set-order" && (!t.plain&&decide (es.size > 1))) s):wpAny (model prog w) A (setDrawn a) Q E s:=by
 unfold setDrawn
 refine aan (aa5 ho hd hf ?_)
 exact aan (Ml (aap h))
theorem VB{Q:Array (Int×Value)->Shared->Prop}(ho:s.heap.get? a=some o)(hd:o.data=.set es ep t)(hf:t.fits es.size=true)(h:Q es s):wpAny (model prog w) A (setEntries a) Q E s:=by
 unfold setEntries
 exact aan (aa5 ho hd hf (aap h))
theorem zJj{Q:Option (Value×Nat)->Shared->Prop}(ho:s.heap.get? a=some o)(hd:o.data=.set es ep t)(hf:t.fits es.size=true)(hb:w.params.followText "set-order" = true)(h:Q (((pickOrder (w.params.setOrder a ep) es)[i]?).map λe=>(e.2,slot)) s):wpAny (model prog w) A (setNext a slot i ep) Q E s:=by
 unfold setNext
 refine aan (aa5 ho hd hf ?_)
 refine aan (Ml ?_)
 rw[hb]
 simp only[↓reduceIte,bne_self_eq_false,aaw]
 refine aan ?_
 unfold setWalk
 refine aan (aa5 ho hd hf ?_)
 refine aan (Ml ?_)
 rw[hb]
 simp only[↓reduceIte]
 refine aan (ado (aap ?_))
 exact aap h
theorem zGg{Q:Option (Value×Nat)->Shared->Prop}(ho:s.heap.get? a=some o)(hd:o.data=.set es ep t)(hf:t.fits es.size=true)(hb:w.params.followText "set-order" = false)(hl:t.led=true)(hn:(!t.plain&&decide (es.size > 1))=false)(h:Q (match es[below t.place slot]?,t.place[below t.place slot]? with|some (_,x),some j=>some (x,j+1)|_,_=>none) s):wpAny (model prog w) A (setNext a slot i ep) Q E s:=by
 unfold setNext
 refine aan (aa5 ho hd hf ?_)
 refine aan (Ml ?_)
 rw[hb]
 simp only[↓reduceIte,aaw]
 show wpAny _ _ (if(!t.plain&&decide (es.size > 1))=true then _ else _) _ _ _
 rw[if_neg (by rw[hn];exact aa0)]
 refine aan ?_
 show wpAny _ _ (if(!t.led&&!es.isEmpty)=true then _ else pure ()) _ _ _
 rw[if_neg (by rw[hl];exact aa0)]
 exact aap (aap h)
theorem zOb{Q:Value->Shared->Prop}(ho:s.heap.get? a=some o)(hd:o.data=.set es ep t)(hf:t.fits es.size=true)(hx:es[place]?=some x)(h:Q x.2 s):wpAny (model prog w) A (setNextDrawn a place ep) Q E s:=by
 unfold setNextDrawn
 refine aan (aa5 ho hd hf ?_)
 simp only[bne_self_eq_false,aaw,↓reduceIte,hx]
 exact aap h
def oO(first:Value)(i:Nat)(a:Addr)(n ep:Nat):Obj:={ cls:=.type "set_iterator",data:=.fields #[first,.int i 0,.ref a,.int n 0,.int ep 0] }
theorem zT7{Q:Value->Shared->Prop}(ho:s.heap.get? a=some o)(hx:o.ExactSet)(hd:o.data=.set es ep t)(hf:t.fits es.size=true)(h1:(!w.params.followText "set-order" && (!t.plain&&decide (es.size > 1)))=false->Q (.ref s.heap.objs.size) { s with heap:=s.heap.push (oO (.int 0 0) 0 a es.size ep) })(h2:(!w.params.followText "set-order" && (!t.plain&&decide (es.size > 1)))=true->es.size<=sizeLine/\∀(d:Drawn) (ps:List Nat),ps.Perm (aat es.size)->Q (.ref (s.heap.objs.size+1)) { s with drawn:=d,heap:=(s.heap.push { cls:=.type "tuple",data:=.seq (ps.map λ(i:Nat)=>ab7 i 0).toArray }).push (oO (.ref s.heap.objs.size) 0 a es.size ep) }) :
  wpAny (model prog w) A (pyIter (.ref a)) Q E s:=by
 have hT:s.TypeIs (.ref a) "set":=⟨o,ho,hx.1⟩
 refine wpAny_pyIter_slot hT F.slot_set_iter (acf F.slot_set_iter hT zFx ?_ (F.args_set_iter_1 _))
 unfold Builtin.«frozenset.__iter__»
 refine aan (aap ?_)
 refine aan ?_
 unfold adw
 refine aan (VB ho hd hf (aap ?_))
 refine aan (zUl ho hd hf ?_)
 cases hc:(!w.params.followText "set-order" && (!t.plain&&decide (es.size > 1))) with
 |false =>
  simp only[aaw,↓reduceIte]
  refine aan (aap ?_)
  refine aan (ab9 ho hd hf ?_)
  exact aan (ac3 (aap ⟨_,rfl,"set_iterator",_,⟨_,get?_push_size _ rfl,rfl⟩,jT.lookup,h1 hc⟩))
 |true =>
  obtain⟨hz,h2⟩:=h2 hc
  simp only[↓reduceIte]
  refine aan (zRv _ _ _ _ (by simp) λps d hp=>?_)
  refine aan (wpAny_newTuple ?_ (by rw[length_map,hp.length_eq,length_range];exact hz))
  have ho':=get?_push_of_some ({ cls:=.type "tuple",data:=.seq (ps.map λ(i:Nat)=>rawInt i).toArray }:Obj) ho
  refine aan (ab9 (s:={ s with drawn:=d,heap:=_ }) ho' hd hf ?_)
  refine aan (ac3 (aap ⟨_,rfl,"set_iterator",_,⟨_,get?_push_size _ rfl,rfl⟩,jT.lookup,?_⟩))
  have q:=h2 d ps hp
  have sz:(s.heap.push ({ cls:=.type "tuple",data:=.seq (ps.map λ(i:Nat)=>ab7 i 0).toArray }:Obj)).objs.size=s.heap.objs.size+1:=size_push ..
  rw[<-sz] at q
  exact q
end
set_option maxRecDepth 100000
section
variable{prog:Program}{w:World}{A:Around}{E:Value->Shared->Prop}{s:Shared}{a it T:Addr}{o:Obj}{es:Array (Int×Value)}{ep:Nat}{t:SetTable}{i:Nat}{first:Value}
theorem VD{Q:Option Value->Shared->Prop}(hi:s.heap.get? it=some (oO first i a es.size ep))(ho:s.heap.get? a=some o)(hd:o.data=.set es ep t)(hf:t.fits es.size=true)(h:wpAny (model prog w) A.in1 (if let .int slot _:=first then do
    match <-setNext a slot.toNat (i:Int).toNat (ep:Int).toNat with
    |some (x,next) =>
     setField (.ref it) 0 (rawInt next)
     setField (.ref it) 1 (rawInt ((i:Int)+1))
     ret x
    |none=>setField (.ref it) 2 .none;raiseNew (<-newExc (.type "StopIteration") [])
   else do
    let some places <-seqItems? first|unsupported "internal:set_iterator"
    match places[(i:Int).toNat]? with
    |some (.int place _) =>
     let x <-setNextDrawn a place.toNat (ep:Int).toNat
     setField (.ref it) 1 (rawInt ((i:Int)+1))
     ret x
    |some _=>unsupported "internal:set_iterator"
    |none=>setField (.ref it) 0 (rawInt 0);setField (.ref it) 2 .none;raiseNew (<-newExc (.type "StopIteration") []))
   (λfin s'=>∃v,fin=.done (.ret v)/\Q (some v) s')
   (λe s'=>s'.TypeIs e "StopIteration" /\ Q none s') s):wpAny (model prog w) A (pyNext (.ref it)) Q E s:=by
 have hT:s.TypeIs (.ref it) "set_iterator":=⟨_,hi,rfl⟩
 unfold pyNext
 refine aan (ae8 (ad5 (name:=ac2 "__next__") hT jT (acf jT hT zG9 ?_ (zI0 _))))
 unfold Builtin.«set_iterator.__next__»
 refine aan (aap ?_)
 refine aan (wpAny_fieldsOf hi rfl ?_)
 dsimp only
 refine aan (VB ho hd hf ?_)
 rw[if_neg (by simp)]
 exact acg h (λfin s' ⟨v,e,q⟩=>⟨v,e,aap q⟩) λe s' ⟨ty,q⟩=>aan (adq (T:="StopIteration") (b:=true) ty isSubtype_stop (aap q))
theorem zPk{α:Type}{Q:α->Shared->Prop}{E':Value->Shared->Prop}(hh:A.handled=none)(h:∀(e:Value) (h':Heap),(∀b u,s.heap.get? b=some u->h'.get? b=some u)->({ s with heap:=h' }:Shared).TypeIs e "StopIteration"->E' e { s with heap:=h' }) :
  wpAny (model prog w) A (newExc (.type "StopIteration") [] >>= λe=>(raiseNew e:Sem α)) Q E' s:=by
 refine aan ?_
 simp only[newExc,newTuple]
 refine aan (ac3 (aan (m:=firstArgMember _ _) (wpAny_of_eq (a:=ac5) (by first|rfl|(simp only[firstArgMember];rfl)) (ac3 ?_ (by size_fits)))) (by size_fits))
 simp only[raiseNew]
 refine aan (wpAny_handled ?_)
 rw[hh]
 refine aan (aap (wpAny_throw ?_))
 refine h _ _ (λb u e=>get?_push_of_some _ (get?_push_of_some _ e)) ?_
 exact⟨_,get?_push_size _ rfl,rfl⟩
theorem VF{f:Obj->Obj}(hi:s.heap.get? it=some u)(hn:(f u).isFreed=false):(s.heap.update it f).get? it=some (f u):=get?_update_self f hi hn
theorem Pn(hb:b≠it)(e:s.heap.get? b=some u):(s.heap.update it f).get? b=some u:=(get?_update_other _ _ (abt hb)).trans e
theorem zGi{Q:Option Value->Shared->Prop}{slot next:Nat}{tk:Tok}{x:Value}(hi:s.heap.get? it=some (oO (.int slot tk) i a es.size ep))(ho:s.heap.get? a=some o)(hd:o.data=.set es ep t)(hf:t.fits es.size=true)(hs:∀(R:Option (Value×Nat)->Shared->Prop) (E':Value->Shared->Prop),R (some (x,next)) s->wpAny (model prog w) A.in1 (setNext a slot i ep) R E' s)(h:∀h',h'.get? it=some (oO (.int next 0) (i+1) a es.size ep)->(∀b u,b≠it->s.heap.get? b=some u->h'.get? b=some u)->Q (some x) { s with heap:=h' }):wpAny (model prog w) A (pyNext (.ref it)) Q E s:=by
 refine VD hi ho hd hf ?_
 dsimp only
 refine aan (hs _ _ ?_)
 dsimp only
 refine aan (adh hi rfl (by simp) ?_)
 have h1:=VF (f:=aeo (·.setIfInBounds 0 (rawInt next))) hi rfl
 refine aan (adh (s:={ s with heap:=_ }) h1 rfl (by simp) ?_)
 have h2:=VF (s:={ s with heap:=_ }) (f:=aeo (·.setIfInBounds 1 (rawInt ((i:Int)+1)))) h1 rfl
 exact aap ⟨x,rfl,h _ h2 λb u hb e=>Pn (s:={ s with heap:=_ }) hb (Pn hb e)⟩
theorem zJy{Q:Option Value->Shared->Prop}{slot:Nat}{tk:Tok}(hh:A.handled=none)(hi:s.heap.get? it=some (oO (.int slot tk) i a es.size ep))(ho:s.heap.get? a=some o)(hd:o.data=.set es ep t)(hf:t.fits es.size=true)(hs:∀(R:Option (Value×Nat)->Shared->Prop) (E':Value->Shared->Prop),R none s->wpAny (model prog w) A.in1 (setNext a slot i ep) R E' s)(h:∀h',(∀b u,b≠it->s.heap.get? b=some u->h'.get? b=some u)->Q none { s with heap:=h' }):wpAny (model prog w) A (pyNext (.ref it)) Q E s:=by
 refine VD hi ho hd hf ?_
 dsimp only
 refine aan (hs _ _ ?_)
 dsimp only
 refine aan (adh hi rfl (by simp) ?_)
 exact zPk (s:={ s with heap:=_ }) (by simp[hh]) λe h' k ty=>⟨ty,h h' λb u hb e=>k b u (Pn hb e)⟩
theorem zOg{Q:Option Value->Shared->Prop}{ps:List Nat}(hi:s.heap.get? it=some (oO (.ref T) i a es.size ep))(ho:s.heap.get? a=some o)(hd:o.data=.set es ep t)(hf:t.fits es.size=true)(hT:s.heap.get? T=some { cls:=.type "tuple",data:=.seq (ps.map λ(i:Nat)=>ab7 i 0).toArray })(hp:ps[i]?=some place)(hx:es[place]?=some x)(h:∀h',h'.get? it=some (oO (.ref T) (i+1) a es.size ep)->(∀b u,b≠it->s.heap.get? b=some u->h'.get? b=some u)->Q (some x.2) { s with heap:=h' }):wpAny (model prog w) A (pyNext (.ref it)) Q E s:=by
 refine VD hi ho hd hf ?_
 dsimp only
 refine aan (ad9 hT rfl ?_)
 have e:((ps.map λ(i:Nat)=>ab7 i 0).toArray)[(i:Int).toNat]?=some (.int (place:Nat) 0):=by
  rw[abr,getElem?_toArray,getElem?_map,hp]
  rfl
 dsimp only
 rw[e]
 dsimp only
 refine aan (zOb ho hd hf (x:=x) (by rw[abr];exact hx) ?_)
 refine aan (adh hi rfl (by simp) ?_)
 have h1:=VF (f:=aeo (·.setIfInBounds 1 (rawInt ((i:Int)+1)))) hi rfl
 exact aap ⟨x.2,rfl,h _ h1 λb u hb e=>Pn hb e⟩
theorem zRt{Q:Option Value->Shared->Prop}{ps:List Nat}(hh:A.handled=none)(hi:s.heap.get? it=some (oO (.ref T) i a es.size ep))(ho:s.heap.get? a=some o)(hd:o.data=.set es ep t)(hf:t.fits es.size=true)(hT:s.heap.get? T=some { cls:=.type "tuple",data:=.seq (ps.map λ(i:Nat)=>ab7 i 0).toArray })(hp:ps[i]?=none)(h:∀h',(∀b u,b≠it->s.heap.get? b=some u->h'.get? b=some u)->Q none { s with heap:=h' }):wpAny (model prog w) A (pyNext (.ref it)) Q E s:=by
 refine VD hi ho hd hf ?_
 dsimp only
 refine aan (ad9 hT rfl ?_)
 have e:((ps.map λ(i:Nat)=>ab7 i 0).toArray)[(i:Int).toNat]?=none:=by
  rw[abr,getElem?_toArray,getElem?_map,hp]
  rfl
 dsimp only
 rw[e]
 dsimp only
 refine aan (adh hi rfl (by simp) ?_)
 have h1:=VF (f:=aeo (·.setIfInBounds 0 (rawInt 0))) hi rfl
 refine aan (adh (s:={ s with heap:=_ }) h1 rfl (by simp) ?_)
 exact zPk (s:={ s with heap:=_ }) (by simp[hh]) λe h' k ty=>⟨ty,h h' λb u hb e=>k b u (Pn (s:={ s with heap:=_ }) hb (Pn hb e))⟩
end
set_option maxRecDepth 100000
section
variable{prog:Program}{w:World}{A:Around}{E:Value->Shared->Prop}{s:Shared}{a it T:Addr}{o:Obj}{es:Array (Int×Value)}{ep:Nat}{t:SetTable}
theorem Yu{Q:Value->Shared->Prop}(hi:s.heap.get? it=some (oO first i a n ep))(h:Q (.ref it) s):wpAny (model prog w) A (pyIter (.ref it)) Q E s:=by
 have hT:s.TypeIs (.ref it) "set_iterator":=⟨_,hi,rfl⟩
 refine wpAny_pyIter_slot hT zPr (acf zPr hT zHa ?_ (zI1 _))
 refine aan (aap ?_)
 exact aap ⟨_,rfl,"set_iterator",_,hT,jT.lookup,h⟩
theorem Yv(hf:t.fits es.size=true):t.place.size=es.size:=by
 unfold fits at hf
 rw[aas] at hf
 exact ab8 hf.1
theorem zOy(hr:Rz xs):below xs 0=0:=by
 obtain⟨b1,b2,b3⟩:=Yq hr 0
 cases e:below xs 0 with
 |zero=>rfl
 |succ k =>
  rw[e] at b1 b2
  have h0:0<xs.size:=by omega
  exact absurd (b2 0 _ (aeg k) (aar h0)) (aed _)
theorem zOz(hr:Rz xs)(h:xs[i]?=some j):below xs (j+1)=i+1:=by
 obtain⟨b1,b2,b3⟩:=Yq hr (j+1)
 generalize below xs (j+1)=p at *
 have hi:i<xs.size:=by
  by_cases z:i<xs.size
  ·exact z
  ·rw[aa9 (by omega)] at h;cases h
 have h1:i<p:=by
  by_cases z:i<p
  ·exact z
  ·have:=b3 i j (by omega) h;omega
 by_cases z:p=i+1
 ·exact z
 ·have hp:i+1<xs.size:=by omega
  have q1:=b2 (i+1) _ (by omega) (aar hp)
  have q2:=hr i (i+1) j _ (by omega) h (aar hp)
  omega
theorem zS9{xs:Array Nat}(h:xs.size<=1):Rz xs:=λi k a b hik ha hb=>by
 rw[aa9 (by omega)] at hb
 cases hb
theorem zM9(hh:A.handled=none)(hne:a≠it)(hd:o.data=.set es ep t)(hf:t.fits es.size=true)(hb:w.params.followText "set-order" = false)(hl:t.led=true)(hn:(!t.plain&&decide (es.size > 1))=false)(hr:Rz t.place) :
  Walks prog w A it [it,a] [it] es.size (λi v=>(es.toList.map (·.2))[i]?=some v) (λi h=>h.get? a=some o/\∃(slot:Nat)(tk:Tok),h.get? it=some (oO (.int slot tk) i a es.size ep)/\below t.place slot=i) where
 sub:=λb hb=>by simp at hb;simp[hb]
 frame:=λi h h' ⟨h1,slot,tk,h2,h3⟩ k=>⟨k a (by simp) _ h1,slot,tk,k it (by simp) _ h2,h3⟩
 item:=λi s Q E hi ⟨h1,slot,tk,h2,h3⟩ hQ=>by
  have hp:i<t.place.size:=by rw[Yv hf];exact hi
  refine zGi (x:=es[i].2) (next:=t.place[i]+1) h2 h1 hd hf (λR E' hR=>zGg h1 hd hf hb hl hn ?_) λh' hi' k=>?_
  ·rw[h3,aar hi,aar hp]
   exact hR
  ·refine hQ _ h' s.toks (by simp[hi]) ⟨k a o hne h1,_,_,hi',zOz hr (aar hp)⟩ λb u hb e=>k b u (λz=>hb (by simp[z])) e
 done:=λs Q E ⟨h1,slot,tk,h2,h3⟩ hQ=>by
  refine zJy hh h2 h1 hd hf (λR E' hR=>zGg h1 hd hf hb hl hn ?_) λh' k=>hQ h' s.toks λb u hb e=>k b u (λz=>hb (by simp[z])) e
  rw[h3,aa9 (aaq _)]
  exact hR
 self:=λi s Q E ⟨h1,slot,tk,h2,h3⟩ hQ=>Yu h2 hQ
theorem zO2(hh:A.handled=none)(hne:a≠it)(hd:o.data=.set es ep t)(hf:t.fits es.size=true)(hb:w.params.followText "set-order" = true) :
  Walks prog w A it [it,a] [it] es.size (λi v=>((pickOrder (w.params.setOrder a ep) es).toList.map (·.2))[i]?=some v) (λi h=>h.get? a=some o/\∃(slot:Nat)(tk:Tok),h.get? it=some (oO (.int slot tk) i a es.size ep)) where
 sub:=λb hb=>by simp at hb;simp[hb]
 frame:=λi h h' ⟨h1,slot,tk,h2⟩ k=>⟨k a (by simp) _ h1,slot,tk,k it (by simp) _ h2⟩
 item:=λi s Q E hi ⟨h1,slot,tk,h2⟩ hQ=>by
  have hz:i<(pickOrder (w.params.setOrder a ep) es).size:=by rw[<-length_toList,(Pk _ es).length_eq,length_toList];exact hi
  refine zGi (x:=(pickOrder (w.params.setOrder a ep) es)[i].2) (next:=slot) h2 h1 hd hf (λR E' hR=>zJj h1 hd hf hb ?_) λh' hi' k=>?_
  ·rw[aar hz]
   exact hR
  ·refine hQ _ h' s.toks (by simp[hz]) ⟨k a o hne h1,_,_,hi'⟩ λb u hb e=>k b u (λz=>hb (by simp[z])) e
 done:=λs Q E ⟨h1,slot,tk,h2⟩ hQ=>by
  have hz:(pickOrder (w.params.setOrder a ep) es).size=es.size:=by rw[<-length_toList,(Pk _ es).length_eq,length_toList]
  refine zJy hh h2 h1 hd hf (λR E' hR=>zJj h1 hd hf hb ?_) λh' k=>hQ h' s.toks λb u hb e=>k b u (λz=>hb (by simp[z])) e
  rw[aa9 (by rw[hz];exact aaq _)]
  exact hR
 self:=λi s Q E ⟨h1,slot,tk,h2⟩ hQ=>Yu h2 hQ
theorem zNa{ps:List Nat}(hh:A.handled=none)(hne:a≠it)(hnT:T≠it)(hd:o.data=.set es ep t)(hf:t.fits es.size=true)(hp:ps.Perm (aat es.size)) :
  Walks prog w A it [it,a,T] [it] es.size (λi v=>(ps.map λp=>((es[p]?).map (·.2)).getD .none)[i]?=some v)
   (λi h=>h.get? a=some o/\h.get? T=some { cls:=.type "tuple",data:=.seq (ps.map λ(i:Nat)=>ab7 i 0).toArray }/\h.get? it=some (oO (.ref T) i a es.size ep)) where
 sub:=λb hb=>by simp at hb;simp[hb]
 frame:=λi h h' ⟨h1,h2,h3⟩ k=>⟨k a (by simp) _ h1,k T (by simp) _ h2,k it (by simp) _ h3⟩
 item:=λi s Q E hi ⟨h1,h2,h3⟩ hQ=>by
  have hl:ps.length=es.size:=by rw[hp.length_eq,length_range]
  have hi':i<ps.length:=by omega
  have hm:ps[i]<es.size:=mem_range.mp (hp.mem_iff.mp (getElem_mem hi'))
  refine zOg (place:=ps[i]) (x:=es[ps[i]]) h3 h1 hd hf h2 (aao hi') (aar hm) λh' hi' k=>?_
  refine hQ _ h' s.toks ?_ ⟨k a o hne h1,k T _ hnT h2,hi'⟩ λb u hb e=>k b u (λz=>hb (by simp[z])) e
  rw[getElem?_map,aao (by omega),Option.map_some,aar hm]
  rfl
 done:=λs Q E ⟨h1,h2,h3⟩ hQ=>by
  have hl:ps.length=es.size:=by rw[hp.length_eq,length_range]
  exact zRt hh h3 h1 hd hf h2 (abz (by omega)) λh' k=>hQ h' s.toks λb u hb e=>k b u (λz=>hb (by simp[z])) e
 self:=λi s Q E ⟨h1,h2,h3⟩ hQ=>Yu h3 hQ
end
set_option maxRecDepth 100000
section
variable{prog:Program}{w:World}{A:Around}{E:Value->Shared->Prop}{s:Shared}{a it T:Addr}{o:Obj}{es:Array (Int×Value)}{ep:Nat}{t:SetTable}
theorem zUc{Q:Bool->Shared->Prop}(hT:s.TypeIs (.ref a) "set")(h:Q false s):wpAny (model prog w) A (acu (.ref a)) Q E s:=by
 unfold acu
 refine aan (aez hT F.slot_set_len.lookup ?_)
 generalize hid:("set.__len__":String)=id0
 wp_delta
 rw[show splitId id0=some ("set","__len__") from by subst hid;decide +kernel]
 subst hid
 refine aan (adq (T:="set") (b:=true) hT aex (aey (λhab=>absurd hab (by decide)) λ_=>aey (λ_=>aan (afl hT (aap h))) λhab=>absurd (by decide +kernel) hab))
theorem zQt{R:Result->Shared->Prop}{P:Nat->Value->Prop}{St:Nat->Heap->Prop}(W:Walks prog w A.in1 it fp [it] n P St)(hn:n<=sizeLine)(off:S∉fp)(st:St 0 s.heap)(hS:s.heap.get? S=some { cls:=.type "list",data:=.seq #[] c₁ })(hR:∀h' tk acc c',(∀b u,b≠S->b≠it->s.heap.get? b=some u->h'.get? b=some u)->h'.get? S=some { cls:=.type "list",dict:=none,data:=.seq acc c',slots:=#[] }->ItemsOf P acc n->R (.ok (.ret res)) { s with heap:=h',toks:=tk }) :
  codeAny (model prog w) A (.builtin "list.extend.loop" ⟨[.ref S,.ref it,res],[]⟩) R s:=by
 refine codeAny_extend_loopS W.toS hn S off res n 0 _ #[] c₁ rfl (abf _) st hS (ItemsOf.nil _) λs' acc c' hm hS' hacc=>?_
 rw[Moved.eq_with hm]
 refine hR s'.heap s'.toks acc c' (λb u h1 h2 e=>hm.heap b u (λz=>?_) e) hS' hacc
 rcases mem_cons.mp z with z|z
 ·exact h1 z
 ·exact h2 (mem_singleton.mp z)
theorem Yw{R:Result->Shared->Prop}{P:Nat->Value->Prop}{St:Nat->Heap->Prop}(W:Walks prog w A.in1 it fp [it] n P St)(hn:n<=sizeLine)(off:S∉fp)(hT:s.TypeIs (.ref a) "set")(st:St 0 s.heap)(hS:s.heap.get? S=some { cls:=.type "list",data:=.seq #[] c₀ })(hR:∀h' tk acc c',(∀b u,b≠S->b≠it->s.heap.get? b=some u->h'.get? b=some u)->h'.get? S=some { cls:=.type "list",dict:=none,data:=.seq acc c',slots:=#[] }->ItemsOf P acc n->R (.ok (.ret res)) { s with heap:=h',toks:=tk }) :
  wpAny (model prog w) A.in1 (holding [.ref it] (acu (.ref a)) >>= λroom=>if(room||b)=true then(rule "list.extend.makes-room" >>= λ_=>Builtin.List.listTouch (.ref S) >>= λ_=>again (.builtin "list.extend.loop" ⟨[.ref S,.ref it,res],[]⟩)) else again (.builtin "list.extend.loop" ⟨[.ref S,.ref it,res],[]⟩))
   (λfin s'=>match fin with|.done f=>R (.ok f) s'|.again c'=>c'.quiet=true/\codeAny (model prog w) A c' R s') (λe s'=>R (.error e) s') s:=by
 refine aan (abj (zUc hT ?_))
 refine aey (λ_=>?_) λ_=>aap ⟨adb acs _,zQt W hn off st hS hR⟩
 refine aan (ad1 ?_)
 refine aan ?_
 show wpAny _ _ (updateSeq S (·.push .none) >>= λ_=>updateSeq S (·.pop)) _ _ _
 refine aan (ac9 hS rfl ?_)
 have hS2:=get?_update_self (abw (·.push ac5)) hS rfl
 refine ac9 (hz:=by seq_fits) hS2 rfl ?_
 have hS3:=get?_update_self (abw (·.pop)) hS2 rfl
 have keep:∀c u,c≠S->s.heap.get? c=some u->((s.heap.update S (abw (·.push ac5))).update S (abw (·.pop))).get? c=some u:=λc u hc e=>(get?_update_other _ _ (abt hc)).trans ((get?_update_other _ _ (abt hc)).trans e)
 refine aap ⟨adb acs _,zQt (s:={ s with heap:=_ }) W hn off (W.frame 0 _ _ st λc hc u e=>keep c u (λz=>off (z▸hc)) e) hS3 λh' tk acc c' k h1 h2=>hR h' tk acc c' (λc u n1 n2 e=>k c u n1 n2 (keep c u n1 e)) h1 h2⟩
theorem Yx(h:ItemsOf (λi v=>ord[i]?=some v) acc n)(hl:ord.length=n):acc.toList=ord:=by
 apply ext_getElem?
 intro i
 rw[getElem?_toList]
 by_cases hi:i<acc.size
 ·rw[aar hi]
  exact(h.2 i _ (aar hi)).symm
 ·rw[aa9 (by omega),abz (by rw[hl,<-h.1];omega)]
theorem zNx(es:Array (Int×Value)):(aat es.size).map (λp=>((es[p]?).map (·.2)).getD ac5)=es.toList.map (·.2):=by
 apply List.ext_getElem (by simp)
 intro i h1 h2
 have hi:i<es.size:=by simpa using h1
 simp[hi]
theorem zOo{R:Result->Shared->Prop}(hh:A.handled=none)(ho:s.heap.get? a=some o)(hx:o.ExactSet)(hd:o.data=.set es ep t)(hf:t.fits es.size=true)(tb:Tb (yA w) t)(hz:es.size<=sizeLine)(Yy:S≠a)(hS:s.heap.get? S=some { cls:=.type "list",data:=.seq #[] c₀ })(hR:∀h' tk d acc c',(∀b u,b≠S->s.heap.get? b=some u->h'.get? b=some u)->h'.get? S=some { cls:=.type "list",dict:=none,data:=.seq acc c',slots:=#[] }->acc.toList.Perm (es.toList.map (·.2))->R (.ok (.ret res)) { s with heap:=h',toks:=tk,drawn:=d }) :
  wpAny (model prog w) A.in1 (abx (.ref S) (.ref a) res)
   (λfin s'=>match fin with|.done f=>R (.ok f) s'|.again c'=>c'.quiet=true/\codeAny (model prog w) A c' R s') (λe s'=>R (.error e) s') s:=by
 have hT:s.TypeIs (.ref a) "set":=⟨o,ho,hx.1⟩
 have lta:a<s.heap.objs.size:=lt_size ho
 have ltS:S<s.heap.objs.size:=lt_size hS
 have hi:A.in1.handled=none:=by simp[hh]
 unfold abx
 refine aan (afl hT ?_)
 have h1:ac4 (.ref S) (.ref a)=false:=by simp[ac4,Yy]
 simp only[h1,show(acw "set" == acw "list")=false by decide,show(acw "set" == acw "tuple")=false by decide,Bool.or_false,aaw,if_false]
 have old:∀{b:Addr}{u:Obj}{n:Nat},s.heap.get? b=some u->s.heap.objs.size<=n->b≠n:=λe hn z=>absurd (lt_size e) (by rw[z];exact Nat.not_lt_of_le hn)
 refine aan (zT7 ho hx hd hf (λhc=>?_) λhc=>⟨hz,λd ps hp=>?_⟩)
 ·have hS':=get?_push_of_some (oO (.int 0 0) 0 a es.size ep) hS
  have ho':=get?_push_of_some (oO (.int 0 0) 0 a es.size ep) ho
  have hI:(s.heap.push (oO (.int 0 0) 0 a es.size ep)).get? s.heap.objs.size=some (oO (.int 0 0) 0 a es.size ep):=get?_push_size _ rfl
  have off:S∉[s.heap.objs.size,a]:=λz=>by
   rcases mem_cons.mp z with z|z
   ·exact old hS (aaq _) z
   ·exact Yy (mem_singleton.mp z)
  have hne:a≠s.heap.objs.size:=old ho (aaq _)
  cases hb:w.params.followText "set-order" with
  |true =>
   refine Yw (s:={ s with heap:=_ }) (zO2 hi hne hd hf hb) hz off ⟨o,ho',hx.1⟩ ⟨ho',0,0,hI⟩ hS' λh' tk acc c' k h2 h3=>?_
   refine hR h' tk s.drawn acc c' (λb u n e=>k b u n (old e (aaq _)) (get?_push_of_some _ e)) h2 ?_
   rw[Yx h3 (by rw[length_map,(Pk _ es).length_eq,length_toList])]
   exact(Pk _ es).map _
  |false =>
   have hl:t.led=true:=by rw[tb.led];unfold yA;rw[hb];rfl
   have hn:(!t.plain&&decide (es.size > 1))=false:=by rw[hb] at hc;exact hc
   have hr:Rz t.place:=by
    cases hp:t.plain with
    |true=>exact tb.rz hp
    |false =>
     rw[hp] at hn
     refine zS9 ?_
     rw[Yv hf]
     have:¬es.size > 1:=of_decide_eq_false (by simpa using hn)
     omega
   refine Yw (s:={ s with heap:=_ }) (zM9 hi hne hd hf hb hl hn hr) hz off ⟨o,ho',hx.1⟩ ⟨ho',0,0,hI,zOy hr⟩ hS' λh' tk acc c' k h2 h3=>?_
   refine hR h' tk s.drawn acc c' (λb u n e=>k b u n (old e (aaq _)) (get?_push_of_some _ e)) h2 ?_
   rw[Yx h3 (by rw[length_map,length_toList])]
 ·have e0:∀{b:Addr}{u:Obj},s.heap.get? b=some u->((s.heap.push { cls:=.type "tuple",data:=.seq (ps.map λ(i:Nat)=>ab7 i 0).toArray }).push (oO (.ref s.heap.objs.size) 0 a es.size ep)).get? b=some u:=λe=>get?_push_of_some _ (get?_push_of_some _ e)
  have sz:(s.heap.push ({ cls:=.type "tuple",data:=.seq (ps.map λ(i:Nat)=>ab7 i 0).toArray }:Obj)).objs.size=s.heap.objs.size+1:=size_push ..
  have hI:((s.heap.push { cls:=.type "tuple",data:=.seq (ps.map λ(i:Nat)=>ab7 i 0).toArray }).push (oO (.ref s.heap.objs.size) 0 a es.size ep)).get? (s.heap.objs.size+1)=some (oO (.ref s.heap.objs.size) 0 a es.size ep):=by
   rw[<-sz];exact get?_push_size _ rfl
  have hTT:((s.heap.push { cls:=.type "tuple",data:=.seq (ps.map λ(i:Nat)=>ab7 i 0).toArray }).push (oO (.ref s.heap.objs.size) 0 a es.size ep)).get? s.heap.objs.size=some { cls:=.type "tuple",data:=.seq (ps.map λ(i:Nat)=>ab7 i 0).toArray }:=get?_push_of_some _ (get?_push_size _ rfl)
  have off:S∉[s.heap.objs.size+1,a,s.heap.objs.size]:=λz=>by
   rcases mem_cons.mp z with z|z
   ·exact old hS (ab6 _) z
   ·rcases mem_cons.mp z with z|z
    ·exact Yy z
    ·exact old hS (aaq _) (mem_singleton.mp z)
  refine Yw (s:={ s with drawn:=d,heap:=_ }) (zNa hi (old ho (ab6 _)) (aav (acv _)) hd hf hp) hz off ⟨o,e0 ho,hx.1⟩ ⟨e0 ho,hTT,hI⟩ (e0 hS) λh' tk acc c' k h2 h3=>?_
  refine hR h' tk d acc c' (λb u n e=>k b u n (old e (ab6 _)) (e0 e)) h2 ?_
  rw[Yx h3 (by rw[length_map,hp.length_eq,length_range])]
  have e1:=zNx es
  rw[<-e1]
  exact hp.map _
theorem zLl{R:List Value->Shared->Prop}(hh:A.handled=none)(ho:s.heap.get? a=some o)(hx:o.ExactSet)(hd:o.data=.set es ep t)(hf:t.fits es.size=true)(tb:Tb (yA w) t)(hz:es.size<=sizeLine)(h:∀h' tk d (acc:List Value),(∀b u,s.heap.get? b=some u->h'.get? b=some u)->acc.Perm (es.toList.map (·.2))->R acc { s with heap:=h',toks:=tk,drawn:=d }) :
  wpAny (model prog w) A (collect (.ref a)) R E s:=by
 have lt:a<s.heap.objs.size:=lt_size ho
 unfold collect
 refine aan (wpAny_runValue (acr entry_proto_collect' ?_))
 rw[ab4 F.plain_proto_collect _]
 refine aan (m:=newList []) (ac3 (aap ⟨adb F.plain_list_iadd _,acr entry_list_iadd' ?_⟩))
 rw[ab4 F.plain_list_iadd _]
 have hS:(s.heap.push { cls:=.type "list",data:=.seq ([]:List Value).toArray }).get? s.heap.objs.size=some { cls:=.type "list",data:=.seq #[] }:=get?_push_size _ rfl
 have key:=zOo (prog:=prog) (A:=A) (S:=s.heap.objs.size) (res:=.ref s.heap.objs.size) (s:={ s with heap:=s.heap.push { cls:=.type "list",data:=.seq ([]:List Value).toArray } })
  (R:=λ(q:Result) (s':Shared)=>∃(h':Heap)(tk:Nat)(d:Drawn)(acc:Array Value)(c':Nat),q=.ok (.ret (.ref s.heap.objs.size))/\s'={ s with heap:=h',toks:=tk,drawn:=d }/\(∀b u,s.heap.get? b=some u->h'.get? b=some u) /\
   h'.get? s.heap.objs.size=some { cls:=.type "list",dict:=none,data:=.seq acc c',slots:=#[] }/\acc.toList.Perm (es.toList.map (·.2)))
  hh (get?_push_of_some _ ho) hx hd hf tb hz (adl lt) hS λh' tk d acc c' k h1 h2=>⟨h',tk,d,acc,c',rfl,rfl,λb u e=>k b u (aav (lt_size e)) (get?_push_of_some _ e),h1,h2⟩
 refine acg key (λfin s' x=>?_) λe s' x=>?_
 ·cases fin with
  |done f =>
   obtain⟨h',tk,d,acc,c',e,rfl,k,h1,h2⟩:=x
   cases e
   refine aan (m:=load s.heap.objs.size) (wpAny_load h1 ?_)
   exact aap (h h' tk d acc.toList k h2)
  |again c1 =>
   refine⟨x.1,adn x.2 λq s2 y=>?_⟩
   obtain⟨h',tk,d,acc,c',rfl,rfl,k,h1,h2⟩:=y
   refine aan (m:=load s.heap.objs.size) (wpAny_load h1 ?_)
   exact aap (h h' tk d acc.toList k h2)
 ·obtain⟨_,_,_,_,_,e',_⟩:=x
  cases e'
end
end qY
namespace L2
open PySem PySem.Spec PyProof.Rows qY
def qZ:Value->Int
 |.int k _=>k
 |_=>0
theorem Yz:∀k v,(intKind P w).is k v=true->qZ v=k:=λk v h=>by
 obtain⟨t,rfl⟩:=adf h
 rfl
theorem Inv.drew(I:Inv X pins σ H s)(d:Drawn):Inv X pins σ H { s with drawn:=d }:=⟨I.ok,I.os,I.bare,I.base,I.loc,I.cell,I.free,I.gR,I.pin,I.hok,I.len⟩
abbrev Mp:=St->Hp->(LI->Hp->Prop)->Prop
def StP(X:Cx)(pins:List (Addr×Obj))(σ:St)(Q:LI->Hp->Prop)(v:Value)(s':Shared):Prop :=
 ∃(a:Addr)(ks:LI)(H':Hp),v=.ref a/\Inv X pins σ H' s'/\Good (intKind X.prog X.w) qZ (yA X.w) s'.heap a ks/\lW X pins H' a/\Q ks H'
def Ju(X:Cx)(e:Expr)(t:Mp):Prop:=∀(pins:List (Addr×Obj))(s:Shared)(σ:St)(H:Hp)(Q:LI->Hp->Prop),Inv X pins σ H s->t σ H Q->wpAny (model X.prog X.w) X.A (eval e X.env) (StP X pins σ Q) X.xe s
section
variable{X:Cx}
theorem zVz:∀{ns:LI}{its:List Value},IntsAre its ns->∀{i:Nat}{v:Value},its[i]?=some v->∃t,v=.int (ns.getD i 0) t
 |_,_,.nil,i,v,h=>by simp at h
 |_,_,.cons n t r,0,v,h=>by simp at h;subst h;exact⟨t,rfl⟩
 |_,_,.cons n t r,i+1,v,h=>by
  obtain⟨t',e⟩:=zVz r (by simpa using h)
  exact⟨t',e⟩
theorem zR9:∀{ns:LI}{its:List Value},IntsAre its ns->its.length=ns.length
 |_,_,.nil=>rfl
 |_,_,.cons n t r=>congrArg (· + 1) (zR9 r)
def Pq(K:PySem.W.Frag)(te:TE):Mp:=λσ H Q=>xZ te bO σ H λvs H1=>∃(p:Addr)(ns:LI),vs=[.ref p]/\bw K H1 p (ns.map V.int)/\ns.length<4000/\∀ks:LI,ks.Nodup->(∀z,z∈ks↔z∈ns)->Q ks H1
theorem Mq:bootBuiltins "set" = some (.type "set"):=by decide +kernel
theorem R_(K:PySem.W.Frag)(hc:X.calm=true)(hm:X.mg "set" = none)(he:PE X e te)(hK:X.K=K:=by rfl)(hg:Gl X "set":=by rfl)(hs:starEach [e] X.env=[(false,eval e X.env)]:=by rfl):Ju X (.Call (.Name "set" p) [e] [] pos) (Pq K te):=by
 subst hK
 intro pins s σ H Q I h
 refine abp (Ak I hg hm Mq ?_)
 have ha:PA X [e] (xZ te bO):=zA he zF hs
 refine abk (aP (ha pos pins s σ H _ I h) λus s1 ⟨vs,H1,I1,r1,q1⟩=>?_) hs rfl
 obtain⟨l,ns,e1,hq,h4,q⟩:=q1
 subst e1
 cases r1 with
 |cons r rr =>
  cases rr
  cases r
  obtain⟨its,rv,pl,hz⟩:=I1.list hq
  have hi:IntsAre its ns:=Yi rv
  have hl:=zR9 hi
  refine zUn (knd:=intKind X.prog X.w) (dec:=qZ) Yz (λi=>ns.getD i 0) (I1.ok.hd hc) pl.isList (λi v hv=>?_) (by rw[size_toArray,hl];show ns.length+1<4096;omega) λh' tk g k=>?_
  ·obtain⟨t,rfl⟩:=zVz hi (by rw[getElem?_toArray] at hv;exact hv)
   exact⟨intKind_is _ _ _ _,rfl⟩
  ·have I2:=I1.kept (h':=h') (t':=tk) λb o e=>k b o (lt_size e) e
   obtain⟨_,_,_,_,_,_,_,_,_,nd,_⟩:=id g
   refine⟨_,_,H1,rfl,I2,g,I1.oJ (aaq _) (I1.hok.fresh (aaq _)),q _ nd λz=>?_⟩
   rw[zQr,size_toArray,hl]
   constructor
   ·rintro⟨j,hj,rfl⟩
    rw[getD_eq_getElem?_getD,aao hj]
    exact getElem_mem hj
   ·intro hz
    obtain⟨j,hj,e⟩:=getElem_of_mem hz
    exact⟨j,hj,by rw[getD_eq_getElem?_getD,aao hj];exact e⟩
def VG(ts:Mp):TE:=λσ H Q=>ts σ H λks H1=>ks.length<64/\∀(l:Addr)(ms:LI),H1 l=none->ms.Perm ks->ms.Pairwise (· <= ·)->Q (.ref l) (upd H1 l (.lst (ms.map V.int)))
theorem zMi:∀{vs:List Value},(∀v∈vs,∃k,(intKind P w).is k v=true)->IntsAre vs (vs.map qZ)
 |[],_=>.nil
 |v::vs,h=>by
  obtain⟨k,hk⟩:=h v mem_cons_self
  obtain⟨t,rfl⟩:=adf hk
  exact .cons k t (zMi (P:=P) (w:=w) λu hu=>h u (mem_cons_of_mem _ hu))
theorem zS1(hc:X.calm=true)(I:Inv X pins σ H s)(g:Good (intKind X.prog X.w) qZ (yA X.w) s.heap a ks)(h64:ks.length<64)(q:∀(l:Addr) (ms:LI),H l=none->ms.Perm ks->ms.Pairwise (· <= ·)->Q (.ref l) (upd H l (.lst (ms.map V.int)))):wpAny (model X.prog X.w) X.A (call (.builtin "sorted") [.ref a]) (EP X pins σ Q) X.xe s:=by
 obtain⟨o,es,ep,t,ho,hx,hd,hel,hp,nd,hb,hf,tb⟩:=g
 have hsz:es.size=ks.length:=by rw[<-hp.length_eq,length_map,length_toList]
 refine PySem.Calls.call_function_entry kind_sorted plain_sorted entry_sorted (args_sorted1 _) ?_
 unfold Builtin.«sorted»
 refine aan (m:=checkCount "sorted" 1 1 _) (aap ?_)
 refine aan (zLl (A:=X.A.in1) (I.ok.hd hc) ho hx hd hf tb (aci hb) λh' tk d acc hkeep hacc=>?_)
 have I':Inv X pins σ H { s with heap:=h',toks:=tk,drawn:=d }:=(I.kept (h':=h') (t':=tk) hkeep).drew d
 have hI:IntsAre acc (acc.map qZ):=zMi (P:=X.prog) (w:=X.w) λv hv=>by
  obtain⟨e,he,rfl⟩:=mem_map.mp (hacc.mem_iff.mp hv)
  obtain⟨⟨k,hk,_⟩,_⟩:=hel e he
  exact⟨k,hk⟩
 have hpk:(acc.map qZ).Perm ks:=by
  refine(hacc.map qZ).trans ?_
  rw[map_map]
  exact hp
 have hal:acc.length=ks.length:=by rw[<-hpk.length_eq,length_map]
 have hsl:acc.length<=sizeLine:=by rw[hal];exact ach (adk h64 (by decide))
 refine aan (wpAny_newList ?_ hsl)
 have hoL:(h'.push (seqObj "list" acc.toArray 0)).get? h'.objs.size=some (seqObj "list" acc.toArray 0):=get?_push_size _ rfl
 refine aan (abj (acf slot_list_sort ⟨_,hoL,rfl⟩ entry_list_sort (list_sort_tree hoL hI (by omega) λout ns' a1 a2 a3=>⟨_,rfl,?_⟩) (args_list_sort _)))
 refine aap ⟨_,rfl,?_⟩
 obtain⟨e,he⟩:=sortedHeap_at (out:=out) hoL
 refine⟨.ref h'.objs.size,_,I'.laid (t':=tk) (o:=.lst (ns'.map V.int)) (λb ob w=>?_) (aaq _) ?_,rfl,q _ ns' (I'.hok.fresh (aaq _)) (a2.trans hpk) a3⟩
 ·have hb:h'.get? b=some ob:=w
  have hlt:=lt_size hb
  rw[sortedHeap_old (aav hlt) (by rw[size_push'];exact ade hlt),Heap.get?_push_ne _ _ _ (aav hlt)]
  exact hb
 ·refine⟨?_,out.toList,e,Vr a1,?_⟩
  ·rw[length_map,a2.length_eq,length_map];exact hsl
  ·rw[toArray_toList];exact he
theorem YB(hc:X.calm=true)(hm:X.mg "sorted" = none)(he:Ju X e ts)(hg:Gl X "sorted":=by rfl)(hs:starEach [e] X.env=[(false,eval e X.env)]:=by rfl):PE X (.Call (.Name "sorted" p) [e] [] pos) (VG ts):=by
 intro pins s σ H Q I h
 refine abp (Ak I hg hm (by decide +kernel:bootBuiltins "sorted" = some (.builtin "sorted")) ?_)
 refine PyProof.Rows.callWith_builtin1 (Q:=_) ?_ hs rfl
 rw[hs]
 show wpAny _ _ (spliced ((false,eval e X.env)::backTo pos [])) _ _ s
 refine adz (aP (he pins s σ H _ I h) λu s1 ⟨a,ks,H1,e1,I1,g,fo,h64,q⟩=>?_)
 subst e1
 refine ad6 ?_
 exact zS1 hc I1 g h64 q
end
end L2
namespace Ts
open PySem L2
def pU(z:Int):LI->LI
 |[]=>[z]
 |y::ys=>if z<y then z::y::ys else if z=y then y::ys else y::pU z ys
def vT(ns:LI):LI:=ns.foldr pU []
def Pr(ns:LI):Option LI:=if ns.length<64 then some (vT ns) else none
theorem mL:∀{ys:LI},x∈pU z ys↔x=z\/x∈ys
 |[]=>by simp[pU]
 |y::ys=>by
  unfold pU
  split
  ·simp
  ·split
   ·rename_i h;subst h;simp
   ·rw[mem_cons,mL,mem_cons]
    exact⟨λh=>h.elim (λh=>.inr (.inl h)) λh=>h.elim .inl λh=>.inr (.inr h),λh=>h.elim (λh=>.inr (.inl h)) λh=>h.elim .inl λh=>.inr (.inr h)⟩
theorem zQ7:∀{ys:LI},ys.Pairwise (· < ·)->(pU z ys).Pairwise (· < ·)
 |[],_=>by simp[pU]
 |y::ys,h=>by
  have h1:=pairwise_cons.mp h
  unfold pU
  split
  ·rename_i hz
   refine pairwise_cons.mpr ⟨λx hx=>?_,h⟩
   rcases mem_cons.mp hx with e|e
   ·rw[e];exact hz
   ·exact Int.lt_trans hz (h1.1 x e)
  ·split
   ·exact h
   ·refine pairwise_cons.mpr ⟨λx hx=>?_,zQ7 h1.2⟩
    rcases mL.mp hx with e|e
    ·rw[e];omega
    ·exact h1.1 x e
theorem cI:∀{ns:LI},x∈vT ns↔x∈ns
 |[]=>by simp[vT]
 |n::ns=>by
  show x∈pU n (vT ns)↔_
  rw[mL,cI,mem_cons]
theorem Pu:∀ns:LI,(vT ns).Pairwise (· < ·)
 |[]=>.nil
 |n::ns=>zQ7 (Pu ns)
theorem Px:∀{xs ys:LI},xs.Pairwise (· < ·)->ys.Pairwise (· < ·)->(∀s,s∈xs↔s∈ys)->xs=ys
 |[],[],_,_,_=>rfl
 |[],y::ys,_,_,h=>absurd ((h y).mpr mem_cons_self) (by simp)
 |x::xs,[],_,_,h=>absurd ((h x).mp mem_cons_self) (by simp)
 |x::xs,y::ys,hx,hy,h=>by
  have h1:=pairwise_cons.mp hx
  have h2:=pairwise_cons.mp hy
  have e:x=y:=by
   rcases mem_cons.mp ((h x).mp mem_cons_self) with e|e
   ·exact e
   ·rcases mem_cons.mp ((h y).mpr mem_cons_self) with e'|e'
    ·exact e'.symm
    ·have a1:=h2.1 x e
     have a2:=h1.1 y e'
     omega
  subst e
  rw[Px h1.2 h2.2 λs=>?_]
  constructor
  ·intro hs
   rcases mem_cons.mp ((h s).mp (mem_cons_of_mem _ hs)) with e|e
   ·have:=h1.1 s hs;omega
   ·exact e
  ·intro hs
   rcases mem_cons.mp ((h s).mpr (mem_cons_of_mem _ hs)) with e|e
   ·have:=h2.1 s hs;omega
   ·exact e
theorem Py:∀{ks ns:LI},ks.Nodup->(∀z∈ks,z∈ns)->ks.length<=ns.length
 |[],_,_,_=>abf _
 |k::ks,ns,nd,h=>by
  obtain⟨a,b,e⟩:=List.append_of_mem (h k mem_cons_self)
  have nd':=nodup_cons.mp nd
  have q:=Py (ks:=ks) (ns:=a++b) nd'.2 λz hz=>by
   have hm:=h z (mem_cons_of_mem _ hz)
   rw[e] at hm
   rcases mem_append.mp hm with m|m
   ·exact mem_append.mpr (.inl m)
   ·rcases mem_cons.mp m with m|m
    ·exact absurd (m▸hz) nd'.1
    ·exact mem_append.mpr (.inr m)
  rw[e,length_append,length_cons,length_cons]
  rw[length_append] at q
  omega
theorem Sd:∀{ms:LI},ms.Pairwise (· <= ·)->ms.Nodup->ms.Pairwise (· < ·)
 |[],_,_=>.nil
 |m::ms,h,nd=>by
  have h1:=pairwise_cons.mp h
  have n1:=nodup_cons.mp nd
  refine pairwise_cons.mpr ⟨λx hx=>?_,Sd h1.2 n1.2⟩
  have a:=h1.1 x hx
  have b:m≠x:=λe=>n1.1 (e▸hx)
  omega
section
variable{K:PySem.W.Frag}{B:Bs}{sl:SL K}{md:Md}{t:TE}
theorem zOt(h:Ex B sl .hp t m):Eo B sl md (VG (Pq K t)) (m.bind Pr):=λc hc F O H σ Q s k=>by
 cases m with
 |none=>cases hc
 |some ns =>
  have hc:Pr ns=some c:=hc
  unfold Pr at hc
  split at hc
  case isFalse=>cases hc
  rename_i hl
  cases hc
  refine h ns rfl F O H σ _ s λv F' H' g r1=>?_
  obtain⟨p,vs,rfl,z1,z2⟩:=r1
  have z3:vs=ns.map V.int:=z2.vals
  subst z3
  refine⟨p,ns,rfl,bw.of z1,by omega,λks nd hm=>⟨aa1 (Py nd λz hz=>(hm z).mp hz) hl,λl ms hn p1 p2=>?_⟩⟩
  have e:ms=vT ns:=Px (Sd p2 (p1.nodup_iff.mpr nd)) (Pu ns) λz=>by rw[p1.mem_iff,hm,cI]
  subst e
  exact k l _ F' H' g hn (Jj _)
end
end Ts
namespace qY
open PySem PySem.Spec PyProof.Rows
set_option maxRecDepth 100000
theorem zHe:entryFor table "set.__and__" = some Builtin.«frozenset.__and__»:=aeh (id':="frozenset.__and__") (by kernel_rfl) rfl (by decide +kernel) (by kernel_rfl)
section
variable{prog:Program}{w:World}{κ:Type}[DecidableEq κ]{knd:KeyKind prog w κ}{dec:Value->κ}{led:Bool}{A:Around}{E:Value->Shared->Prop}{s:Shared}
theorem Good.setOf(hdec:∀k v,knd.is k v=true->dec v=k)(g:Good knd dec led h a ks):h.SetOf knd a (λk=>decide (k∈ks)) ks.length:=by
 obtain⟨o,es,ep,t,h1,h2,h3,hel,hp,nd,hb,hf,tb⟩:=g
 refine⟨o,es,ep,t,h1,h2,h3,hel,λk=>?_,hb,hf,by rw[<-hp.length_eq,length_map,length_toList]⟩
 rw[decide_eq_true_iff,<-hp.mem_iff,mem_map]
 constructor
 ·rintro⟨e,he,rfl⟩
  obtain⟨⟨k',hk,_⟩,_⟩:=hel e he
  exact⟨e,he,by rw[hdec k' _ hk];exact hk⟩
 ·rintro⟨e,he,hk⟩
  exact⟨e,he,hdec _ _ hk⟩
theorem Good.size(g:Good knd dec led h a ks):∃o es ep t,h.get? a=some o/\o.ExactSet/\o.data=.set es ep t/\t.fits es.size=true/\es.size=ks.length/\Tb led t/\ElemsOf knd es.toList/\(es.toList.map λe=>dec e.2).Perm ks:=by
 obtain⟨o,es,ep,t,h1,h2,h3,hel,hp,nd,hb,hf,tb⟩:=g
 exact⟨o,es,ep,t,h1,h2,h3,hf,by rw[<-hp.length_eq,length_map,length_toList],tb,hel,hp⟩
theorem Good.type{s:Shared}(g:Good knd dec led s.heap a ks):s.TypeIs (.ref a) "set":=by
 obtain⟨o,_,_,_,h1,h2,_⟩:=g
 exact⟨o,h1,h2.1⟩
theorem Mr{Q:Bool->Shared->Prop}(hT:s.TypeIs (.ref a) "set")(h:Q true s):wpAny (model prog w) A (Builtin.Frozenset.isAnySet (.ref a)) Q E s:=by
 unfold Builtin.Frozenset.isAnySet
 refine aan (adq (T:="set") (b:=true) hT aex ?_)
 exact aap h
theorem Pz{Q:Nat->Shared->Prop}(g:Good knd dec led s.heap a ks)(h:Q ks.length s):wpAny (model prog w) A (adw a) Q E s:=by
 obtain⟨o,es,ep,t,h1,h2,h3,hf,hl,_⟩:=g.size
 unfold adw
 refine aan (VB h1 h3 hf (aap ?_))
 rw[hl]
 exact h
theorem zL7(sets:List Addr)(hs:∀a∈sets,∃ks:List κ,Good knd dec led s.heap a ks)(hn:∀k v,knd.is k v=true->∀b,v≠.ref b){Q:Bool->Shared->Prop}(h:Q true s):wpAny (model prog w) A (setsQuiet sets) Q E s:=by
 unfold setsQuiet
 refine aan (acg (adp (β:=Option Bool×Unit) _ (λl b s'=>s'=s/\b=(none,())/\∀a∈l,∃ks:List κ,Good knd dec led s.heap a ks) (λb s'=>s'=s/\b=(none,())) ?turn (λb s' hI=>⟨hI.1,hI.2.1⟩) sets _ ⟨rfl,rfl,hs⟩) ?post (λ_ _ h=>h))
 case post =>
  rintro b s' ⟨rfl,rfl⟩
  exact aap h
 case turn =>
  rintro a rest b s' ⟨rfl,rfl,hg⟩
  obtain⟨ks,g⟩:=hg a mem_cons_self
  obtain⟨o,es,ep,t,h1,h2,h3,hf,hl,tb,hel,hp⟩:=g.size
  refine aan (VB h1 h3 hf ?_)
  rw[<-forIn_toList]
  refine aan (acg (adp (β:=Option Bool×Unit) _ (λl b s''=>s''=s'/\b=(none,())/\∀e∈l,∀c,e.2≠.ref c) (λb s''=>s''=s'/\b=(none,())) ?t2 (λb s' hI=>⟨hI.1,hI.2.1⟩) es.toList _ ⟨rfl,rfl,?p0⟩) ?p2 (λ_ _ h=>h))
  case p0 =>
   intro e he c z
   obtain⟨⟨k,hk,_⟩,_⟩:=hel e he
   exact hn k _ hk c z
  case p2 =>
   rintro b s'' ⟨rfl,rfl⟩
   exact aap ⟨rfl,rfl,λa ha=>hg a (mem_cons_of_mem _ ha)⟩
  case t2 =>
   rintro⟨hh,x⟩ l b s'' ⟨rfl,rfl,hl⟩
   have hx:=hl _ mem_cons_self
   dsimp only at hx ⊢
   split
   ·exact absurd rfl (hx _)
   ·exact aap ⟨rfl,rfl,λe he=>hl e (mem_cons_of_mem _ he)⟩
theorem zO3(g:Good knd dec (yA w) s.heap a ks)(hq:w.params.followText "set-order" = false->∀o es ep t,s.heap.get? a=some o->o.data=.set es ep t->(!t.plain&&decide (es.size > 1))=false){Q:Array (Int×Value)->Shared->Prop}(h:∀es:Array (Int×Value),ElemsOf knd es.toList->(es.toList.map λe=>dec e.2).Perm ks->Q es s):wpAny (model prog w) A (setWalk a) Q E s:=by
 obtain⟨o,es,ep,t,h1,h2,h3,hf,hl,tb,hel,hp⟩:=g.size
 unfold setWalk
 refine aan (aa5 h1 h3 hf ?_)
 dsimp only
 refine aan (Ml ?_)
 cases hb:w.params.followText "set-order" with
 |true =>
  simp only[↓reduceIte]
  refine aan (ado (aap ?_))
  exact h _ (hel.perm (Pk _ es)) (((Pk _ es).map _).trans hp)
 |false =>
  have q:=hq hb o es ep t h1 h3
  have YC:t.led=true:=by rw[tb.led];unfold yA;rw[hb];rfl
  simp only[aaw,↓reduceIte]
  show wpAny _ _ (if(!t.plain&&decide (es.size > 1))=true then _ else _) _ _ _
  rw[if_neg (by rw[q];exact aa0)]
  refine aan ?_
  show wpAny _ _ (if(!t.led&&decide (es.size > 1))=true then _ else pure ()) _ _ _
  rw[if_neg (by rw[YC];exact aa0)]
  exact aap (aap (h es hel hp))
theorem zIs(g:Good knd dec (yA w) s.heap a ks)(gf:Good knd dec (yA w) s.heap f kf)(hs:∀b∈others,∃ks:List κ,Good knd dec (yA w) s.heap b ks)(hn:∀k v,knd.is k v=true->∀b,v≠.ref b){Q:Array (Int×Value)->Shared->Prop}(h:∀(es:Array (Int×Value)) (h':Heap),ElemsOf knd es.toList->(es.toList.map λe=>dec e.2).Perm ks->SameBut f s.heap h'->Good knd dec (yA w) h' f kf->Q es { s with heap:=h' }):wpAny (model prog w) A (setWalkUnseen a others (some f)) Q E s:=by
 obtain⟨o,es,ep,t,h1,h2,h3,hf,hl,tb,hel,hp⟩:=g.size
 unfold setWalkUnseen
 refine aan (aa5 h1 h3 hf ?_)
 dsimp only
 refine aan (Ml ?_)
 split
 ·rename_i c
  refine zO3 g (λhb o' es' ep' t' h1' h3'=>?_) λes' pW hp'=>h es' s.heap pW hp' (SameBut.refl f s.heap) gf
  rw[h1] at h1'
  cases h1'
  rw[h3] at h3'
  cases h3'
  rw[hb] at c
  simp only[aea,acn,aas,decide_eq_true_eq] at c
  rcases c with⟨_,c⟩|c
  ·rw[c];rfl
  ·rw[decide_eq_false (by omega),ae0]
 ·refine aan (zL7 (knd:=knd) (dec:=dec) (led:=yA w) (a::others) (λb hb=>(mem_cons.mp hb).elim (λe=>e▸⟨ks,g⟩) (hs b)) hn ?_)
  simp only[abn,aaw,↓reduceIte]
  refine aan (ad1 ?_)
  obtain⟨of,ef,epf,tf,f1,f2,f3,ff,fl,tbf,YD,fp⟩:=gf.size
  refine aan (aa5 f1 f3 ff ?_)
  dsimp only
  split
  ·have gl:=gf.len
   refine aan (acj f1 f3 ?_ (aci (by rw[fl];exact gl)))
   obtain⟨_,_,_,_,e1,_,_,_,_,nd,hb,_,_⟩:=gf
   refine aap (h es _ hel hp (SameBut.update _ f _) ⟨_,ef,_,_,Jt (es':=ef) (t':=_) f1 f3,f2,rfl,YD,fp,nd,?_,?_,?_⟩)
   ·rw[fl];exact gl
   ·exact ff
   ·refine⟨?_,λz=>?_⟩
    ·show(tf.led&&t.led)=_
     rw[tbf.led,tb.led,ae5]
    ·exact tbf.rz (Bool.and_eq_true_iff.mp z).1
  ·exact aap (h es s.heap hel hp (SameBut.refl f s.heap) gf)
theorem zGk(hdec:∀k v,knd.is k v=true->dec v=k)(id:String)(hn:∀k v,knd.is k v=true->∀b,v≠.ref b)(YF:x≠r)(VH:y≠r)(gx:Good knd dec (yA w) s.heap x ka)(gy:Good knd dec (yA w) s.heap y ky)(gr:Good knd dec (yA w) s.heap r []){Q:Unit->Shared->Prop}(h:∀(h':Heap) (kr:List κ),SameBut r s.heap h'->Good knd dec (yA w) h' r kr->(∀k,k∈kr↔k∈ka/\k∈ky)->Q () { s with heap:=h' }) :
  wpAny (model prog w) A (do
   let was <-setEpoch y
   for (h,x') in <-setWalkUnseen y [x,r] (some r) do
    holding [x'] do
     if(<-setFind x x' h).isSome then
      let _ <-setAddHashed r x' h
    abq id y was) Q E s:=by
 obtain⟨o,es,ep,t,h1,h2,h3,hf,hl,tb,hel,hp⟩:=gy.size
 refine aan (ab9 h1 h3 hf ?_)
 refine aan (zIs gy gr (λb hb=>(mem_cons.mp hb).elim (λe=>e▸⟨ka,gx⟩) λe=>(mem_singleton.mp e)▸⟨[],gr⟩) hn λes' h' pW hp' sb YG=>?_)
 rw[<-forIn_toList]
 have ln:es'.toList.length=ky.length:=by rw[<-hp'.length_eq,length_map]
 refine aan (acg (adp (β:=Unit) _ (λl _ s'=>∃h2 kr,s'={ s with heap:=h2 }/\SameBut r s.heap h2/\Good knd dec (yA w) h2 r kr/\ElemsOf knd l/\kr.length+l.length<=ky.length/\∀k,(k∈kr\/(k∈ka/\k∈l.map λe=>dec e.2))↔(k∈ka/\k∈ky)) (λ_ s'=>∃h2 kr,s'={ s with heap:=h2 }/\SameBut r s.heap h2/\Good knd dec (yA w) h2 r kr/\∀k,k∈kr↔k∈ka/\k∈ky) ?turn ?fin es'.toList () ⟨h',[],rfl,sb,YG,pW,by rw[ln,length_nil];omega,λk=>?_⟩) ?post (λ_ _ h=>h))
 case turn =>
  rintro⟨hs,v⟩ l b s' ⟨h2,kr,rfl,mO,g2,hl2,hlen,hm⟩
  obtain⟨⟨k,hk,hh⟩,hsc⟩:=hl2 _ mem_cons_self
  dsimp only at hk hh hsc ⊢
  subst hh
  have kx:∀o,s.heap.get? x=some o->h2.get? x=some o:=λo e=>by rw[mO.2 x YF];exact e
  have ky':∀o,s.heap.get? y=some o->h2.get? y=some o:=λo e=>by rw[mO.2 y VH];exact e
  have YH:=gx.keep kx
  have dv:dec v=k:=hdec k v hk
  rw[length_cons] at hlen
  have cont:∀(h3':Heap)(Bx:List κ),SameBut r s.heap h3'->Good knd dec (yA w) h3' r Bx->Bx.length+l.length<=ky.length->(∀c,(c∈Bx\/(c∈ka/\c∈l.map λe=>dec e.2))↔(c∈ka/\c∈ky)) ->
    wpAny (model prog w) A (abq id y ep) (λ_ s''=>wpAny (model prog w) A (pure (aco ())) (λq s''=>match q with|.yield _=>∃h2 kr,s''={ s with heap:=h2 }/\SameBut r s.heap h2/\Good knd dec (yA w) h2 r kr/\ElemsOf knd l/\kr.length+l.length<=ky.length/\∀k,(k∈kr\/(k∈ka/\k∈l.map λe=>dec e.2))↔(k∈ka/\k∈ky)|.done _=>∃h2 kr,s''={ s with heap:=h2 }/\SameBut r s.heap h2/\Good knd dec (yA w) h2 r kr/\∀k,k∈kr↔k∈ka/\k∈ky) E s'') E { s with heap:=h3' }:=λh3' Bx uy g3 l3 m3=>by
   unfold abq
   refine aan (ab9 (s:={ s with heap:=h3' }) (by show h3'.get? y=_;rw[uy.2 y VH];exact h1) h3 hf ?_)
   simp only[bne_self_eq_false,aaw,↓reduceIte]
   exact aap (aap ⟨h3',Bx,rfl,uy,g3,λe he=>hl2 e (mem_cons_of_mem _ he),l3,m3⟩)
  refine aan (abj (aan (wpAny_setFind_of (s:={ s with heap:=h2 }) hk hsc (YH.setOf hdec) λq hq=>?_)))
  cases q with
  |none =>
   have nk:k∉ka:=by simpa using hq.symm
   simp only[Option.isSome_none,aaw,↓reduceIte]
   refine aap (aan (cont h2 kr mO g2 (by omega) λc=>?_))
   rw[<-hm c,map_cons,mem_cons]
   show _↔(c∈kr\/c∈ka/\(c=dec v\/_))
   rw[dv]
   constructor
   ·rintro(z|⟨z1,z2⟩)
    ·exact .inl z
    ·exact .inr ⟨z1,.inr z2⟩
   ·rintro(z|⟨z1,z2|z2⟩)
    ·exact .inl z
    ·exact absurd (z2▸z1) nk
    ·exact .inr ⟨z1,z2⟩
  |some j =>
   have mk:k∈ka:=by simpa using hq.symm
   simp only[ad0,↓reduceIte]
   refine aan (Yt (led:=yA w) (s:={ s with heap:=h2 }) hdec hk hsc g2 (by have:=gy.len;omega) λh3' b' uy g3=>?_)
   refine aap (aan (cont h3' _ (mO.trans uy) g3 ?_ λc=>?_))
   ·split
    ·omega
    ·rw[length_cons];omega
   ·rw[<-hm c,map_cons,mem_cons]
    show _↔(c∈kr\/c∈ka/\(c=dec v\/_))
    rw[dv]
    have e:c∈(if k∈kr then kr else k::kr)↔c=k\/c∈kr:=by
     split
     ·rename_i z
      exact⟨.inr,λq=>q.elim (λq=>q▸z) λq=>q⟩
     ·exact mem_cons
    rw[e]
    constructor
    ·rintro((z|z)|⟨z1,z2⟩)
     ·exact .inr ⟨z▸mk,.inl z⟩
     ·exact .inl z
     ·exact .inr ⟨z1,.inr z2⟩
    ·rintro(z|⟨z1,z2|z2⟩)
     ·exact .inl (.inr z)
     ·exact .inl (.inl z2)
     ·exact .inr ⟨z1,z2⟩
 case fin =>
  rintro b s' ⟨h2,kr,rfl,mO,g2,_,_,hm⟩
  refine⟨h2,kr,rfl,mO,g2,λk=>?_⟩
  rw[<-hm k]
  simp
 case post =>
  rintro b s' ⟨h2,kr,rfl,mO,g2,hm⟩
  exact aap (h h2 kr mO g2 hm)
 ·rw[hp'.mem_iff]
  simp
theorem YJ(hT:s.TypeIs (.ref a) "set"){Q:Value->Shared->Prop}(h:Q (.type "set") s):wpAny (model prog w) A (Builtin.Frozenset.baseOf a) Q E s:=by
 unfold Builtin.Frozenset.baseOf
 refine aan (adq (T:="set") (b:=true) hT aex ?_)
 exact aap h
theorem YK{Q:Value->Shared->Prop}(h:Q (.ref s.heap.objs.size) { s with heap:=s.heap.push { cls:=.type "set",dict:=none,data:=.set #[] 0 (.fresh 0 0 (yA w)) } }):wpAny (model prog w) A (newSet (.type "set")) Q E s:=by
 unfold newSet setsByText
 refine aan (aan (ado (aap ?_)))
 dsimp only
 simp only[newObj]
 exact aan (wpAny_alloc (aap h))
theorem zT9(hdec:∀k v,knd.is k v=true->dec v=k)(id:String)(hn:∀k v,knd.is k v=true->∀b,v≠.ref b)(hab:b≠a)(ga:Good knd dec (yA w) s.heap a ka)(gb:Good knd dec (yA w) s.heap b kb){Q:Value->Shared->Prop}(h:∀(h':Heap) (kr:List κ),Good knd dec (yA w) h' s.heap.objs.size kr->(∀k,k∈kr↔k∈ka/\k∈kb)->(∀c o,c<s.heap.objs.size->s.heap.get? c=some o->h'.get? c=some o)->Q (.ref s.heap.objs.size) { s with heap:=h' }) :
  wpAny (model prog w) A (Builtin.Frozenset.intersection id a (.ref b)) Q E s:=by
 have la:a<s.heap.objs.size:=by obtain⟨o,_,_,_,h1,_⟩:=ga;exact lt_size h1
 have lb:b<s.heap.objs.size:=by obtain⟨o,_,_,_,h1,_⟩:=gb;exact lt_size h1
 unfold Builtin.Frozenset.intersection
 rw[if_neg (λe=>hab (ae7 (ab8 e)))]
 refine aan (YJ ga.type (aan (YK ?_)))
 refine aan (aap ?_)
 have up:∀c o,s.heap.get? c=some o->(s.heap.push { cls:=.type "set",dict:=none,data:=.set #[] 0 (.fresh 0 0 (yA w)) }).get? c=some o:=λc o e=>get?_push_of_some _ e
 have Jv:=ga.keep (up a)
 have Jw:=gb.keep (up b)
 have PB:Good knd dec (yA w) (s.heap.push { cls:=.type "set",dict:=none,data:=.set #[] 0 (.fresh 0 0 (yA w)) }) s.heap.objs.size []:=R9 (get?_push_size _ rfl)
 generalize hp:s.heap.push { cls:=.type "set",dict:=none,data:=.set #[] 0 (.fresh 0 0 (yA w)) }=hq at up Jv Jw PB ⊢
 have fin:∀(h':Heap)(kr:List κ),SameBut s.heap.objs.size hq h'->Good knd dec (yA w) h' s.heap.objs.size kr->(∀k,k∈kr↔k∈ka/\k∈kb)->Q (.ref s.heap.objs.size) { s with heap:=h' }:=λh' kr sb g m =>
  h h' kr g m λc o hc e=>by rw[sb.2 c (aav hc)];exact up c o e
 refine aan (abj (aan (Mr (s:={ s with heap:=hq }) (Good.type (s:={ s with heap:=hq }) Jw) ?_)))
 simp only[↓reduceIte]
 refine aan (aap ?_)
 refine aan (Pz (s:={ s with heap:=hq }) Jw (aan (Pz (s:={ s with heap:=hq }) Jv ?_)))
 split
 ·exact zGk (s:={ s with heap:=hq }) hdec id hn (aav lb) (aav la) Jw Jv PB λh' kr sb g m=>aap (fin h' kr sb g λk=>by rw[m k,and_comm])
 ·exact zGk (s:={ s with heap:=hq }) hdec id hn (aav la) (aav lb) Jv Jw PB λh' kr sb g m=>aap (fin h' kr sb g m)
theorem Ms(hdec:∀k v,knd.is k v=true->dec v=k)(hn:∀k v,knd.is k v=true->∀b,v≠.ref b)(hab:b≠a)(ga:Good knd dec (yA w) s.heap a ka)(gb:Good knd dec (yA w) s.heap b kb){Q:Value->Shared->Prop}(h:∀(h':Heap) (kr:List κ),Good knd dec (yA w) h' s.heap.objs.size kr->(∀k,k∈kr↔k∈ka/\k∈kb)->(∀c o,c<s.heap.objs.size->s.heap.get? c=some o->h'.get? c=some o)->Q (.ref s.heap.objs.size) { s with heap:=h' }) :
  wpAny (model prog w) A (binaryOp .BitAnd (.ref a) (.ref b)) Q E s:=by
 refine wpAny_binaryOp_same (op:=.BitAnd) (T:="set") ga.type gb.type F.fills_set_and F.slot_set_and (acf F.slot_set_and ga.type zHe ?_ (F.args_set_and_2 _ _))
 refine aan (m:=ac6 "__and__" ⟨[.ref a,.ref b],[]⟩) ?_
 unfold ac6 slotArgs
 refine aap ?_
 dsimp only
 refine aan (aan (Mr ga.type ?_))
 refine Mr gb.type ?_
 simp only[abn,aaw,↓reduceIte]
 refine aan (aap (aan (zT9 hdec _ hn hab ga gb λh' kr g m k=>aap ⟨.ref s.heap.objs.size,rfl,?_,h h' kr g m k⟩)))
 exactλz=>Value.noConfusion z
end
end qY
namespace L2
open PySem PySem.Spec PyProof.Rows qY
section
variable{X:Cx}
def Jx(ta tb:Mp):Mp:=λσ H Q=>ta σ H λks H1=>tb σ H1 λjs H2=>∀rs:LI,rs.Nodup->(∀z,z∈rs↔z∈ks/\z∈js)->Q rs H2
theorem Gy(ha:Ju X a ta)(hb:Ju X b tb):Ju X (.BinOp a .BitAnd b pos) (Jx ta tb):=by
 intro pins s σ H Q I h
 refine wpAny_BinOp (aP (ha pins s σ H _ I h) λu s1 ⟨p,ks,H1,e,I1,g,fo,h1⟩=>?_)
 subst e
 obtain⟨o,es,ep,t,go,gx,gd,_⟩:=id g
 have YL:=I1.pinned (fp:=[p]) (λb hb=>by rw[mem_singleton.mp hb];exact fo) (λb hb=>by
  rw[mem_singleton.mp hb]
  exact⟨o,go,λv z=>by rw[gd] at z;cases z⟩)
 refine aP (hb _ s1 σ H1 _ YL h1) λu2 s2 ⟨p2,js,H2,e2,I2,g2,YM,q2⟩=>?_
 subst e2
 have pm:(p,o)∈X.pn++(pins++Kq [p] s1.heap):=mem_append_right _ (mem_append_right _ (uW (mem_singleton.mpr rfl) go))
 have kp:s2.heap.get? p=some o:=(I2.pin (p,o) pm).1
 have g1:=g.keep (h':=s2.heap) λo' e'=>by rw[go] at e';cases e';exact kp
 have ne:p2≠p:=abt (YM.2.2.2.2.2 (p,o) pm)
 have I3:=I2.gW
 refine Ms Yz (λk v hk b z=>?_) ne g1 g2 λh' kr g3 m k=>?_
 ·obtain⟨t,rfl⟩:=adf hk
  cases z
 ·have I4:=I3.kept (h':=h') (t':=s2.toks) λb o e=>k b o (lt_size e) e
  obtain⟨_,_,_,_,_,_,_,_,_,nd,_⟩:=id g3
  exact⟨_,kr,H2,rfl,I4,g3,I3.oJ (aaq _) (I3.hok.fresh (aaq _)),q2 kr nd m⟩
end
end L2
namespace Ts
open PySem L2
def VJ(ns ms:LI):Option LI:=if(ns.length<64\/ms.length<64)/\ns.length<4000/\ms.length<4000 then some (vT (ns.filter λz=>decide (z∈ms))) else none
section
variable{K:PySem.W.Frag}{B:Bs}{sl:SL K}{md:Md}{t1 t2:TE}
theorem zOu(h1:Ex B sl .hp t1 m1)(h2:Ex B sl .hp t2 m2):Eo B sl md (VG (Jx (Pq K t1) (Pq K t2))) (m1.bind λa=>m2.bind λb=>VJ a b):=λc hc F O H σ Q s k=>by
 obtain⟨ns,ms,ha,hb,hf⟩:=qU hc
 unfold VJ at hf
 split at hf
 case isFalse=>cases hf
 rename_i hl
 cases hf
 refine h1 ns ha F O H σ _ s λv F' H' g r1=>?_
 obtain⟨p,vs,rfl,z1,z2⟩:=r1
 have z3:vs=ns.map V.int:=z2.vals
 subst z3
 refine⟨p,ns,rfl,bw.of z1,hl.2.1,λks nd hm=>?_⟩
 refine h2 ms hb F' O H' σ _ (s.grow g) λw F2 H2 g2 r2=>?_
 obtain⟨p',vs',rfl,y1,y2⟩:=r2
 have y3:vs'=ms.map V.int:=y2.vals
 subst y3
 refine⟨p',ms,rfl,bw.of y1,hl.2.2,λjs jd hj rs rd hr=>⟨hl.1.elim (aa1 (Py rd λz hz=>(hm z).mp ((hr z).mp hz).1)) (aa1 (Py rd λz hz=>(hj z).mp ((hr z).mp hz).2)),λl us hn p1 p2=>?_⟩⟩
 have e:us=vT (ns.filter λz=>decide (z∈ms)):=Px (Sd p2 (p1.nodup_iff.mpr rd)) (Pu _) λz=>by rw[p1.mem_iff,hr,hm,hj,cI,mem_filter,decide_eq_true_iff]
 subst e
 exact k l _ F2 H2 (g.trans g2) hn (Jj _)
end
end Ts
namespace L2
open PySem PySem.Spec PyProof.Rows
section
variable{X:Cx}
theorem Jy:UJ X .BitOr (UW λi j=>ada i j):=by
 intro pins s σ H x y v u Q I r1 r2 h
 obtain⟨i,j,e1,e2,q⟩:=h
 subst e1;subst e2
 obtain⟨t,rfl⟩:=r1
 obtain⟨t',rfl⟩:=r2
 exact ior_int ⟨.int _,H,I.tok _,⟨_,rfl⟩,q⟩
def Jz(K:PySem.W.Frag):V->V->Hp->VK->Prop:=λx y H Q=>∃p xs i v,x=.ref p/\y=.int i/\0<=i/\bw K H p xs/\aV xs i=some v/\Q v H
theorem zRd(K:PySem.W.Frag)(h:X.K=K:=by rfl):Qz X (Jz K):=by
 subst h
 intro pins s σ H o i ov iv Q I rx ry h
 obtain⟨p,xs,i,z,rfl,rfl,h0,hq,he,q⟩:=h
 cases rx
 obtain⟨t,rfl⟩:=ry
 obtain⟨its,r,pl,hz⟩:=I.list hq
 obtain⟨j,h1,h2,h3,h4,h5⟩:=Xa he
 obtain⟨w,ew,QS⟩:=r.get h2
 have hl:=r.length
 have hn:=Ky
 have hj:i.toNat=j:=by
  rw[ae3 h0 h5] at h1
  exact aay h1
 exact wpAny_getItem_list pl.isList h0 (by omega) (by rw[hj];simpa using ew) ⟨z,H,I,QS,q⟩
theorem YQ(K:PySem.W.Frag)(ha:PE X a ta)(hK:X.K=K:=by rfl)(he:∀whole,isTrue a X.env whole=(do let v <-whole;standAt a.pos;holding [v] (truthy v)):=by intro _;rfl) :
  PT X a (λσ H Q=>ta σ H λx H'=>∃k,Eu K x H' k/\Q k H'):=by
 subst hK
 exact zTf ha he
def tLR(ta:TA):TE:=λσ H Q=>ta σ H λvs H1=>∃j:Int,vs=[.int j] /\ -(2^62)<=j/\j<1000000/\∀l,H1 l=none->Q (.ref l) (upd H1 l (.lst (((aat j.toNat).map adi).map V.int)))
theorem Gz{acc:List Value}:∀{ns:LI},acc.length=ns.length->(∀(i:Nat)(v:Value),acc[i]?=some v->∃t:Tok,v=ab7 (ns.getD i 0) t)->IntsAre acc ns:=by
 induction acc with
 |nil =>
  intro ns h _
  cases ns with
  |nil=>exact .nil
  |cons n ns=>simp at h
 |cons v acc ih =>
  intro ns h g
  cases ns with
  |nil=>simp at h
  |cons n ns =>
   obtain⟨t,e⟩:=g 0 v rfl
   subst e
   exact .cons n t (ih (by simpa using h) λi v hv=>g (i+1) v hv)
theorem YS(hc:X.calm=true)(hg:Gl X "list")(hm:X.mg "list" = none)(hg2:Gl X "range")(hm2:X.mg "range" = none)(ha:PA X [a] ta)(hs:starEach [a] X.env=[(false,eval a X.env)]:=by rfl)(hs2:starEach [Expr.Call (.Name "range" p2) [a] [] pos2] X.env=[(false,eval (Expr.Call (.Name "range" p2) [a] [] pos2) X.env)]:=by rfl):PE X (.Call (.Name "list" p) [.Call (.Name "range" p2) [a] [] pos2] [] pos) (tLR ta):=by
 intro pins s σ H Q I h
 refine abp (Ak I hg hm (by decide +kernel:bootBuiltins "list" = some (.type "list")) ?_)
 refine abk ?_ hs2 rfl
 rw[hs2]
 show wpAny _ _ (spliced ((false,eval (Expr.Call (.Name "range" p2) [a] [] pos2) X.env)::backTo pos [])) _ _ s
 refine adz (abp (Ak I hg2 hm2 boot_range (abk (aP (ha pos2 pins s σ H _ I h) λus s1 ⟨vs,H1,I1,r1,q1⟩=>?_) hs rfl)))
 obtain⟨j,e,q1,q2,q⟩:=q1
 subst e
 cases r1 with
 |cons r rr =>
  cases rr
  obtain⟨t,rfl⟩:=r
  refine call_range_1 (ad6 ?_)
  have I2:Inv X pins σ H1 { s1 with heap:=s1.heap.push { cls:=.type "range",data:=.fields #[.int 0 s1.toks,.int j t,.int 1 (s1.toks+1)] },toks:=s1.toks+1+1 }:=I1.kept λb o e=>get?_push_of_some _ e
  refine call_list_range (n:=j.toNat) (I2.ok.hd hc) (IsRange.new ..) (small_one (by omega) (by omega) q1 (by omega)) (by rw[rangeSize_one];split<;>omega) (by omega) λh' tk acc' c' hk hS hacc=>?_
  have hI:IntsAre acc'.toList ((aat j.toNat).map adi):=Gz (by rw[length_toList,hacc.1,length_map,length_range]) λi v hv=>by
   rw[getElem?_toList] at hv
   obtain⟨t',rfl⟩:=hacc.2 i v hv
   have hi:i<j.toNat:=by
    have:=(Array.getElem?_eq_some_iff.mp hv).1
    rw[hacc.1] at this
    exact this
   refine⟨t',?_⟩
   have e:((aat j.toNat).map adi).getD i 0=(i:Int):=by
    rw[getD_eq_getElem?_getD,getElem?_map,getElem?_range hi]
    rfl
   rw[e]
   simp
  refine⟨.ref _,_,I2.laid (h':=h') (t':=tk) (o:=.lst (((aat j.toNat).map adi).map V.int)) (λb ob w=>hk b ob w) (aaq _) ?_,rfl,q _ (I2.hok.fresh (aaq _))⟩
  refine⟨?_,acc'.toList,c',Vr hI,?_⟩
  ·rw[length_map,length_map,length_range]
   exact aaz (show j.toNat<=1000000 by omega) (by decide)
  ·rw[toArray_toList];exact hS
end
end L2
namespace Ts
open PySem L2
def xu(a b:Int):Option Int:=if 0<=b/\b<=1000000/\a.natAbs<2^64 then some (a*2^b.toNat) else none
def jF(a b:Int):Option Int:=if 0<=b then some (a/2^b.toNat) else none
section
variable{K:PySem.W.Frag}{B:Bs}{sl:SL K}{md:Md}{t t1 t2 te:TE}{m1 m2:Option Int}
theorem Sh(h1:Ex B sl .hp t1 m1)(h2:Ex B sl .hp t2 m2):Ex B sl md (gP (qI λi j=>.int (abd i j)) t1 t2) (m1.bind λa=>m2.bind λb=>some (abd a b)):=Pa (λ_ _=>rfl) h1 h2
theorem Mt(h1:Ex B sl .hp t1 m1)(h2:Ex B sl .hp t2 m2):Ex B sl md (gP (rI Ep λi j=>.int (i*2^j.toNat)) t1 t2) (m1.bind λa=>m2.bind λb=>xu a b) :=
 wz (f:=xu) (λa b c v w H Q e r1 r2 q=>by
  unfold xu at e
  split at e
  case isFalse=>cases e
  rename_i hc
  cases e;cases r1;cases r2
  exact⟨a,b,rfl,rfl,hc,q⟩) h1 h2
theorem VL(h1:Ex B sl .hp t1 m1)(h2:Ex B sl .hp t2 m2):Ex B sl md (gP (rI (λ_ j=>0<=j) λi j=>.int (i/2^j.toNat)) t1 t2) (m1.bind λa=>m2.bind λb=>jF a b) :=
 wz (f:=jF) (λa b c v w H Q e r1 r2 q=>by
  unfold jF at e
  split at e
  case isFalse=>cases e
  rename_i hc
  cases e;cases r1;cases r2
  exact⟨a,b,rfl,rfl,hc,q⟩) h1 h2
theorem YT{m:Option Int}(h:Ex B sl .hp t m):Et B sl (λσ H Q=>t σ H λx H'=>∃k,Eu K x H' k/\Q k H') (m.bind λi=>some (i != 0)):=λc hc F O H σ Q s k=>by
 cases m with
 |none=>cases hc
 |some i =>
  cases(show some (i != 0)=some c from hc)
  refine h i rfl F O H σ _ s λv F' H' g r=>?_
  cases r
  exact⟨_,rfl,k F' H' g⟩
def Ad(n:Int):Option LI:=if -(2^62)<=n/\n<1000000 then some ((aat n.toNat).map adi) else none
theorem YW(h:Ex B sl .hp t m):Eo B sl md (tLR (xZ t bO)) (m.bind Ad):=λc hc F O H σ Q s k=>by
 cases m with
 |none=>cases hc
 |some n =>
  have hc:Ad n=some c:=hc
  unfold Ad at hc
  split at hc
  case isFalse=>cases hc
  rename_i hl
  cases hc
  refine h n rfl F O H σ _ s λv F' H' g r1=>?_
  cases r1
  exact⟨n,rfl,hl.1,hl.2,λl hn=>k l _ F' H' g hn (Jj _)⟩
def BJ(xs ys:LI):Option LI:=if xs.length+ys.length<cap then some (xs++ys) else none
theorem zPp(i:Nat)(hs:sl[i]?=some (.ow n xs))(hh:sl.all (λs=>!kE s)=true)(h:Ex B sl .hp te m) :
  Sn B sl (Ot (QX K "list" Xc (eO i) (xZ te bO))) (λys=>sl.set i (.ow n ys)) (m.bind λa=>BJ xs a):=λys ha G D σ H s k=>by
 cases m with
 |none=>cases ha
 |some a =>
  have ha':BJ xs a=some ys:=ha
  unfold BJ at ha'
  split at ha'
  case isFalse=>cases ha'
  rename_i hl
  cases ha'
  obtain⟨F,O,g,z⟩:=s
  obtain⟨p,vs,h1,h2,h3,_⟩:=z.chg hs hh
  refine⟨_,h1,.inl ⟨rfl,_,bw.of h2⟩,?_⟩
  refine h a rfl F O H σ _ z λv F' H' gr r=>?_
  obtain⟨p',vs',h1',h2',h3',h4'⟩:=(z.grow gr).chg hs hh
  have e:=h1.symm.trans h1'
  cases e
  obtain⟨q,us,rfl,z1,z2⟩:=r
  have z3:us=a.map V.int:=z2.vals
  subst z3
  have e3:vs'=xs.map V.int:=h3'.vals
  subst e3
  obtain⟨O',z'⟩:=h4' (xs.map V.int++a.map V.int) (xs++a) (by rw[<-map_append];exact Jj _)
  exact⟨p,q,_,_,rfl,rfl,h2',z1,by rw[length_map,length_map];exact ach (K_ hl),k _ _ ⟨F',O',g.trans gr.ff,z'⟩⟩
def GC(f:Int->Int->Int)(xs:LI)(ix:Int)(y:Int):Option LI:=if 0<=ix then(L2.aV xs ix).bind λx=>w6 xs ix (f x y) else none
theorem zS4(i:Nat)(hs:sl[i]?=some (.ow n xs))(hh:sl.all (λs=>!kE s)=true)(hi:Ex B sl .hp ti mi)(hv:Ex B sl .hp te m) :
  Sn B sl (Iv (eO i) ti te (Jz K) (UW f) A_) (λys=>sl.set i (.ow n ys)) (mi.bind λk=>m.bind λa=>GC f xs k a):=λys ha G D σ H s k=>by
 obtain⟨ix,a,e1,e2,ha'⟩:=qU ha
 unfold GC at ha'
 split at ha'
 case isFalse=>cases ha'
 rename_i h0
 obtain⟨x,ex,ha'⟩:=Option.bind_eq_some_iff.mp ha'
 obtain⟨F,O,g,z⟩:=s
 obtain⟨p,vs,h1,h2,h3,_⟩:=z.chg hs hh
 refine⟨_,h1,?_⟩
 refine hi ix e1 F O H σ _ z λv F' H' gr r=>?_
 cases r
 obtain⟨p',vs',h1',h2',h3',h4'⟩:=(z.grow gr).chg hs hh
 have e:=h1.symm.trans h1'
 cases e
 obtain⟨xv,exv,rx⟩:=h3'.aV ex
 have rx:xv=.int x:=Sc.is.mp rx
 subst rx
 refine⟨p,vs',ix,_,rfl,rfl,h0,bw.of h2',exv,?_⟩
 refine hv a e2 F' O H' σ _ (z.grow gr) λw F2 H2 ux rw=>?_
 cases rw
 obtain⟨p2,vs2,y1,y2,y3,y4⟩:=((z.grow gr).grow ux).chg hs hh
 have e:=h1.symm.trans y1
 cases e
 refine⟨x,a,rfl,rfl,?_⟩
 unfold w6 at ha'
 cases ej:rP xs.length ix with
 |none=>rw[ej] at ha';cases ha'
 |some jj =>
  rw[ej] at ha'
  cases ha'
  obtain⟨O',z'⟩:=y4 (vs2.set jj (.int (f x a))) (xs.set jj (f x a)) (y3.set (Sc.is.mpr rfl) jj)
  exact⟨p,vs2,ix,jj,rfl,rfl,y2,by rw[y3.len,ej],k _ _ ⟨F2,O',(g.trans gr.ff).trans ux.ff,z'⟩⟩
end
section
variable{K:PySem.W.Frag}{B:Bs}{sl:SL K}{F H H2:Hp}{O:Own}{σ:St}{te:TE}
end
section
variable{K:PySem.W.Frag}{B:Bs}{sl sl2:SL K}{G F H:Hp}{O:Own}{σ:St}{te:TE}
theorem zPn{α β:Type}[Rp K α][Rp K β]{m:Option (α×β)}{L:α×β->SL K}(h:Ex B sl (ju n) te m)(hg:Tg B sl n g L):Sn B sl (mH te g) L m:=λa ha G D σ H s k=>by
 obtain⟨F,O,g0,z⟩:=s
 exact h a ha F O H σ _ z λv F' H' gr r=>hg v a F' O H' σ _ (z.grow gr) r λσ' z'=>k _ _ ⟨F',O,g0.trans gr.ff,z'⟩
inductive YX{α:Type}[Rp K α](kvs:List (Key×α)):SL K->SL K->Prop
 |here {a:SL K}:YX kvs (.od kvs::a) (.fz false (Dc.mk kvs)::a)
 |skip {s:Slot K} {a b:SL K}:YX kvs a b->YX kvs (s::a) (s::b)
end
section
variable{K:PySem.W.Frag}{B:Bs}{sl:SL K}{md:Md}{t t2:TE}{α β:Type}[Rp K α][Rp K β]
theorem JB:kitOne K (.type "tuple") (.type "tuple")=some true:=by
 first|rfl|(unfold kitOne kitCls;decide +kernel)
theorem zMy:bootBuiltins "tuple" = some (.type "tuple"):=by decide +kernel
theorem GD{m:Option (α×β)}(h:Ex B sl .hp t m):Ex B sl md (uo (Bu K) (xZ t bO)) (m.bind λ_=>some (2:Int)):=λd hd F O H σ Q s k=>by
 cases m with
 |none=>cases hd
 |some a =>
  cases(show some (2:Int)=some d from hd)
  refine h a rfl F O H σ _ s λv F' H' g r1=>?_
  obtain⟨p,w1,w2,rfl,h1,h2,h3⟩:=r1
  exact⟨p,[w1,w2],rfl,.inr (.inl (.inl h1)),k _ F' H' g rfl⟩
end
section
variable{P:Program}{w:World}{K:PySem.W.Frag}{mg:Str->Option Value}{base:Heap}{B:Bs}{sl:SL K}{md:Md}{α β:Type}[Rp K α][Rp K β]{tA:Addr}{tO:HO}{te t1 t2:TE}
end
section
variable{X:Cx}{pos pos':Pos}{x:Str}{e:Expr}{te:TE}
theorem yN(i:Nat)(hN:X.N.Nodup)(he:PE X e te)(hi:X.N[i]?=some x:=by rfl)(hx:Loc X.env.scope x:=by first|exact .inl rfl|exact .inr rfl)(hs:swapsWith e (some (.Name x pos')) pos.line X.env=pure false:=by rfl)(hf:X.fn x=true\/X.env.scope.names.lookup x=some .local:=by first|exact .inl rfl|exact .inr rfl|assumption):PS X (.Assign [.Name x pos'] e pos) (mH te (ug i)):=WK hN hi hx he hs hf
theorem bH(i:Nat)(hN:X.N.Nodup)(hi:X.N[i]?=some x:=by rfl)(hx:Loc X.env.scope x:=by first|exact .inl rfl|exact .inr rfl)(hf:X.fn x=true\/X.env.scope.names.lookup x=some .local:=by first|exact .inl rfl|exact .inr rfl|assumption):PG X (.Name x pos) (ug i):=yJ hN hi hx hf
end
theorem esc{K:PySem.W.Frag}{B:Bs}{sl:SL K}{md:Md}{α:Type}[Rp K α][Sc K α]{t:TE}{m:Option α}(h:Ex B sl .hp t m):Ex B sl md t m:=h.sc
theorem fsc{N P:List Str}{s:Scope}(h1:s.kind=.function:=by rfl)(h2:s.isCoroutine=false:=by rfl)(h3:s.isGenerator=false:=by rfl)(h4:N.Nodup:=by decide +kernel)(h5:N.take P.length=P:=by rfl)(h6:∀x∈P,s.names.lookup x=some .local\/s.names.lookup x=some .cell:=by decide +kernel)(h7:∀y∈s.names,y.2≠.free:=by decide +kernel):ak N P s:=⟨h1,h2,h3,h4,h5,h6,h7⟩
section
variable{K:PySem.W.Frag}{x y:Str}{st:Stmt}{f:Addr}{fd:FuncData}{p0 p1 p2 p3 p4:Str}
theorem yc(F:aU K x y st f fd)(h:∀kV dc pm an cd ct u0,bindArgs (fnOf x y (uG st) (wR st) (zI st) .none kV dc pm an cd ct) ⟨[u0],[]⟩=pure [(p0,u0)]:=by intros;rfl):Binds K fd [p0] []:=F.binds λa b c d e g us hl=>match us,hl with|[u0],_=>h a b c d e g u0
theorem g_(F:aU K x y st f fd)(h:∀kV dc pm an cd ct u0 u1,bindArgs (fnOf x y (uG st) (wR st) (zI st) .none kV dc pm an cd ct) ⟨[u0,u1],[]⟩=pure [(p0,u0),(p1,u1)]:=by intros;rfl):Binds K fd [p0,p1] []:=F.binds λa b c d e g us hl=>match us,hl with|[u0,u1],_=>h a b c d e g u0 u1
theorem rQ(F:aU K x y st f fd)(h:∀kV dc pm an cd ct u0 u1 u2,bindArgs (fnOf x y (uG st) (wR st) (zI st) .none kV dc pm an cd ct) ⟨[u0,u1,u2],[]⟩=pure [(p0,u0),(p1,u1),(p2,u2)]:=by intros;rfl):Binds K fd [p0,p1,p2] []:=F.binds λa b c d e g us hl=>match us,hl with|[u0,u1,u2],_=>h a b c d e g u0 u1 u2
theorem PJ(F:aU K x y st f fd)(h:∀kV dc pm an cd ct u0 u1 u2 u3,bindArgs (fnOf x y (uG st) (wR st) (zI st) .none kV dc pm an cd ct) ⟨[u0,u1,u2,u3],[]⟩=pure [(p0,u0),(p1,u1),(p2,u2),(p3,u3)]:=by intros;rfl):Binds K fd [p0,p1,p2,p3] []:=F.binds λa b c d e g us hl=>match us,hl with|[u0,u1,u2,u3],_=>h a b c d e g u0 u1 u2 u3
theorem bi5(F:aU K x y st f fd)(h:∀kV dc pm an cd ct u0 u1 u2 u3 u4,bindArgs (fnOf x y (uG st) (wR st) (zI st) .none kV dc pm an cd ct) ⟨[u0,u1,u2,u3,u4],[]⟩=pure [(p0,u0),(p1,u1),(p2,u2),(p3,u3),(p4,u4)]:=by intros;rfl):Binds K fd [p0,p1,p2,p3,p4] []:=F.binds λa b c d e g us hl=>match us,hl with|[u0,u1,u2,u3,u4],_=>h a b c d e g u0 u1 u2 u3 u4
end
theorem aM{K:PySem.W.Frag}{a b:SL K}(h:Le a b:=by repeat(first|exact Le.nil|refine Le.eq ?_|refine Le.un ?_|refine Le.fr ?_)):Le a b:=h
theorem cT{K:PySem.W.Frag}{a b:SL K}(h:su a b:=by repeat(first|exact su.nil|refine su.eq ?_|refine su.un ?_)):su a b:=h
abbrev Slot.z{α:Type}[Rp K α](a:α):Slot K:=.fz false a
abbrev Slot.y{α:Type}[Rp K α](a:α):Slot K:=.fz true a
end Ts
namespace qY
open PySem PySem.SetTable
set_option maxRecDepth 100000
def VN(m:Nat):Nat->Nat->Nat
 |0,i=>i
 |t+1,i=>VN m t ((i*5+1)%m)
def seen(m:Nat):Nat->Nat->Nat->Nat
 |0,_,acc=>acc
 |t+1,i,acc=>seen m t ((i*5+1)%m) (acc|||1 <<< i)
theorem zL0(m j:Nat):∀(t i acc:Nat),(seen m t i acc).testBit j=true->acc.testBit j=true\/∃u,u<t/\VN m u i=j
 |0,i,acc,h=>.inl h
 |t+1,i,acc,h=>by
  rcases zL0 m j t _ _ h with z|⟨u,hu,e⟩
  ·rw[Nat.testBit_or,acn] at z
   rcases z with z|z
   ·exact .inl z
   ·rw[Nat.testBit_shiftLeft,aas,decide_eq_true_eq] at z
    obtain⟨z1,z2⟩:=z
    have:j-i=0:=by
     cases q:j-i with
     |zero=>rfl
     |succ n =>
      rw[q] at z2
      have:(1:Nat).testBit (n+1)=false:=Nat.testBit_lt_two_pow (aax (by decide) (Nat.pow_le_pow_right (by decide) (abl (abf n))))
      rw[this] at z2
      cases z2
    exact .inr ⟨0,aeg _,by show i=j;omega⟩
  ·exact .inr ⟨u+1,Nat.succ_lt_succ hu,e⟩
def yg(m:Nat):Bool:=(aat m).all λi=>seen m m i 0==2^m-1
theorem GF(h:yg m=true)(hi:i<m)(hj:j<m):∃u,u<m/\VN m u i=j:=by
 have q:=all_eq_true.mp h i (mem_range.mpr hi)
 have e:seen m m i 0=2^m-1:=by simpa using q
 have t:(seen m m i 0).testBit j=true:=by rw[e,Nat.testBit_two_pow_sub_one];simpa using hj
 rcases zL0 m j m i 0 t with z|z
 ·rw[Nat.zero_testBit] at z;cases z
 ·exact z
theorem Sq:yg 8=true:=by decide +kernel
theorem Ss:yg 16=true:=by decide +kernel
theorem Sv:yg 32=true:=by decide +kernel
theorem Sw:yg 64=true:=by decide +kernel
theorem Mu:yg 128=true:=by decide +kernel
theorem Mv:yg 256=true:=by decide +kernel
theorem SJ{owner:Array (Option Nat)}{mask i:Nat}(h:owner.getD i (some 0)=none):(aat (runEnd mask i+1-i)).find? (λk=>(owner.getD (i+k) (some 0)).isNone)≠none:=λe=>by
 have q:=List.find?_eq_none.mp e 0 (mem_range.mpr (by unfold runEnd;split<;>omega))
 apply q
 show(owner.getD (i+0) (some 0)).isNone=true
 rw[Nat.add_zero,h];rfl
theorem zJp{owner:Array (Option Nat)}{mask:Nat}:∀(fuel i p j:Nat),layClean.free mask owner fuel i p=some j->owner.getD j (some 0)=none
 |0,_,_,_,h=>by cases h
 |fuel+1,i,p,j,h=>by
  unfold layClean.free at h
  split at h
  ·rename_i k hk
   cases h
   have:=List.find?_some hk
   simpa using this
  ·exact zJp fuel _ _ j h
theorem zJq{owner:Array (Option Nat)}{mask j:Nat}(hj:owner.getD j (some 0)=none):∀(fuel u i:Nat),u<fuel->VN (mask+1) u i=j->layClean.free mask owner fuel i 0≠none
 |0,u,i,h,_=>absurd h (aed _)
 |fuel+1,0,i,_,e=>by
  have e':i=j:=e
  subst e'
  unfold layClean.free
  cases q:(aat (runEnd mask i+1-i)).find? λk=>(owner.getD (i+k) (some 0)).isNone with
  |none=>exact absurd q (SJ hj)
  |some k=>exactλz=>by cases z
 |fuel+1,u+1,i,h,e=>by
  unfold layClean.free
  cases q:(aat (runEnd mask i+1-i)).find? λk=>(owner.getD (i+k) (some 0)).isNone with
  |none=>exact zJq hj fuel u _ (Nat.lt_of_succ_lt_succ h) e
  |some k=>exactλz=>by cases z
theorem zMj{owner:Array (Option Nat)}{mask:Nat}(fuel:Nat)(h0:∀i,i<=mask->layClean.free mask owner fuel i 0≠none):∀(d i p:Nat),i<=mask->p<32^d->layClean.free mask owner (fuel+d) i p≠none
 |0,i,p,hi,hp=>by
  have e:p=0:=by rw[Nat.pow_zero] at hp;omega
  subst e
  exact h0 i hi
 |d+1,i,p,hi,hp=>by
  show layClean.free mask owner (fuel+d+1) i p≠none
  unfold layClean.free
  cases q:(aat (runEnd mask i+1-i)).find? λk=>(owner.getD (i+k) (some 0)).isNone with
  |none=>exact zMj fuel h0 d _ _ (aek (afa _ (aeg _))) (by rw[Nat.pow_succ] at hp;show p/32<_;omega)
  |some k=>exactλz=>by cases z
theorem GJ{owner:Array (Option Nat)}{mask j:Nat}(hc:yg (mask+1)=true)(hs:j<=mask)(hj:owner.getD j (some 0)=none)(h:Int):∃k,layClean.free mask owner (turns mask) (bits h%(mask+1)) (bits h)=some k/\owner.getD k (some 0)=none:=by
 have q:layClean.free mask owner (mask+2+13) (bits h%(mask+1)) (bits h)≠none:=zMj (mask+2) (λi hi=>by
  obtain⟨u,hu,e⟩:=GF hc (Nat.lt_succ_of_le hi) (Nat.lt_succ_of_le hs)
  exact zJq hj _ u i (by omega) e) 13 _ _ (aek (afa _ (aeg _))) (by unfold bits;have:=ace h (b:=2^64) (by decide);have:=acp h (b:=2^64) (by decide);omega)
 unfold turns
 cases e:layClean.free mask owner (mask+15) (bits h%(mask+1)) (bits h) with
 |none=>exact absurd e q
 |some k=>exact⟨k,rfl,zJp _ _ _ _ e⟩
theorem YZ{α:Type}(v:α):∀(l:List (Option α))(j:Nat),l[j]?=some none->((l.set j (some v)).filterMap id).Perm (v::l.filterMap id)
 |[],j,h=>by simp at h
 |x::l,0,h=>by
  have e:x=none:=by simpa using h
  subst e
  exact .refl _
 |none::l,j+1,h=>by
  show((l.set j (some v)).filterMap id).Perm (v::l.filterMap id)
  exact YZ v l j (by simpa using h)
 |some x::l,j+1,h=>by
  show(x::(l.set j (some v)).filterMap id).Perm (v::x::l.filterMap id)
  exact((YZ v l j (by simpa using h)).cons x).trans (.swap _ _ _)
theorem zIw:∀(l:List (Option Nat)),(l.filterMap id).length<l.length->∃j,j<l.length/\l[j]?=some none
 |[],h=>by simp at h
 |none::l,_=>⟨0,by simp,rfl⟩
 |some x::l,h=>by
  obtain⟨j,hj,e⟩:=zIw l (by simpa using h)
  exact⟨j+1,by simpa using hj,e⟩
theorem getD_none{owner:Array (Option Nat)}:owner.getD j (some 0)=none↔owner.toList[j]?=some none:=by
 rw[Array.getD_eq_getD_getElem?,getElem?_toList]
 cases owner[j]? with
 |none=>simp
 |some x=>simp
theorem zVk{mask:Nat}(hc:yg (mask+1)=true):∀(hs:LI)(owner:Array (Option Nat))(k:Nat),owner.size=mask+1->(owner.toList.filterMap id).Perm (aat k)->k+hs.length<=mask ->
  ∃sH,hs.foldl (λacc h=>do
   let(owner,k) <-acc
   let j <-layClean.free mask owner (turns mask) (bits h%(mask+1)) (bits h)
   pure (owner.setIfInBounds j (some k),k+1)) (some (owner,k))=some (sH,k+hs.length)/\sH.size=mask+1/\(sH.toList.filterMap id).Perm (aat (k+hs.length))
 |[],owner,k,h1,h2,h3=>⟨owner,rfl,h1,h2⟩
 |h::hs,owner,k,h1,h2,h3=>by
  obtain⟨j,hj,ej⟩:=zIw owner.toList (by rw[h2.length_eq,length_range,length_toList,h1];rw[length_cons] at h3;omega)
  obtain⟨i,ei,fi⟩:=GJ hc (owner:=owner) (j:=j) (by rw[length_toList,h1] at hj;omega) (getD_none.mpr ej) h
  have q:=zVk hc hs (owner.setIfInBounds i (some k)) (k+1) (by rw[Array.size_setIfInBounds];exact h1) ?_ (by rw[length_cons] at h3;omega)
  ·obtain⟨o',e,z1,z2⟩:=q
   have ek:k+(h::hs).length=k+1+hs.length:=by rw[length_cons];omega
   refine⟨o',?_,z1,by rw[ek];exact z2⟩
   rw[ek,List.foldl_cons,<-e]
   refine congrArg (λz=>List.foldl _ z hs) ?_
   show(layClean.free mask owner (turns mask) (bits h%(mask+1)) (bits h)).bind _=_
   rw[ei]
   rfl
  ·rw[Array.toList_setIfInBounds,range_succ]
   exact((YZ k owner.toList i (getD_none.mp fi)).trans (h2.cons k)).trans (List.perm_append_singleton k _).symm
theorem zI6:∀(l:List (Option Nat)),(aat l.length).filterMap (λj=>(l[j]?).getD none)=l.filterMap id
 |[]=>rfl
 |x::l=>by
  rw[length_cons,range_succ_eq_map,filterMap_cons,List.filterMap_map]
  have e:((λj=>((x::l)[j]?).getD none)∘Nat.succ)=λj=>(l[j]?).getD none:=rfl
  rw[e,zI6 l]
  cases x<;>rfl
theorem zQz{mask:Nat}(hc:yg (mask+1)=true)(finger moves:Nat)(led plain:Bool)(hs:Array Int)(hn:hs.size<=mask) :
  ∃t order,laid mask finger moves led plain hs=some (t,order)/\order.toList.Perm (aat hs.size)/\t.place.size=hs.size/\t.dummies=#[]/\t.mask=mask/\t.led=led/\t.plain=plain/\Rz t.place:=by
 obtain⟨o',e,z1,z2⟩:=zVk hc hs.toList (Array.replicate (mask+1) none) 0 (by rw[Array.size_replicate]) (by rw[Array.toList_replicate,List.filterMap_replicate_of_none rfl];exact .refl _) (by rw[ac1,length_toList];exact hn)
 rw[ac1,length_toList] at z2
 have el:layClean mask hs=some o':=by
  unfold layClean
  rw[<-Array.foldl_toList,e]
  rfl
 have eo:((aat (mask+1)).filterMap λj=>(o'.getD j none).map λk=>(j,k)).map (·.2)=o'.toList.filterMap id:=by
  rw[<-zI6 o'.toList,length_toList,z1,List.map_filterMap]
  refine congrArg (λf=>filterMap f _) (funext λj=>?_)
  rw[Array.getD_eq_getD_getElem?,getElem?_toList]
  cases(o'[j]?).getD none<;>rfl
 refine⟨_,_,by unfold laid;rw[el];rfl,?_,?_,rfl,rfl,rfl,rfl,zI4 (λj=>o'.getD j none) _⟩
 ·show((aat (mask+1)).filterMap λj=>(o'.getD j none).map λk=>(j,k)).map (·.2) |>.Perm _
  rw[eo]
  exact z2
 ·show(((aat (mask+1)).filterMap λj=>(o'.getD j none).map λk=>(j,k)).map (·.1)).length=_
  rw[length_map,<-length_map (f:=(·.2)),eo,z2.length_eq,length_range]
theorem zUs(h:n<=255):∃m,sizeAbove n=m+1/\n<=m/\yg (m+1)=true/\m<=255:=by
 by_cases h1:n<8
 ·exact⟨7,by unfold sizeAbove;unfold sizeAbove.go;rw[if_neg (by omega)],by omega,Sq,by omega⟩
 by_cases h2:n<16
 ·exact⟨15,by unfold sizeAbove;unfold sizeAbove.go;rw[if_pos (by omega)];unfold sizeAbove.go;rw[if_neg (by omega)],by omega,Ss,by omega⟩
 by_cases h3:n<32
 ·exact⟨31,by unfold sizeAbove;unfold sizeAbove.go;rw[if_pos (by omega)];unfold sizeAbove.go;rw[if_pos (by omega)];unfold sizeAbove.go;rw[if_neg (by omega)],by omega,Sv,by omega⟩
 by_cases h4:n<64
 ·exact⟨63,by unfold sizeAbove;unfold sizeAbove.go;rw[if_pos (by omega)];unfold sizeAbove.go;rw[if_pos (by omega)];unfold sizeAbove.go;rw[if_pos (by omega)];unfold sizeAbove.go;rw[if_neg (by omega)],by omega,Sw,by omega⟩
 by_cases h5:n<128
 ·exact⟨127,by unfold sizeAbove;unfold sizeAbove.go;rw[if_pos (by omega)];unfold sizeAbove.go;rw[if_pos (by omega)];unfold sizeAbove.go;rw[if_pos (by omega)];unfold sizeAbove.go;rw[if_pos (by omega)];unfold sizeAbove.go;rw[if_neg (by omega)],by omega,Mu,by omega⟩
 ·exact⟨255,by unfold sizeAbove;unfold sizeAbove.go;rw[if_pos (by omega)];unfold sizeAbove.go;rw[if_pos (by omega)];unfold sizeAbove.go;rw[if_pos (by omega)];unfold sizeAbove.go;rw[if_pos (by omega)];unfold sizeAbove.go;rw[if_pos (by omega)];unfold sizeAbove.go;rw[if_neg (by omega)],by omega,Mv,by omega⟩
open PySem PySem.Spec PyProof.Rows
set_option maxRecDepth 100000
section
variable{prog:Program}{w:World}{κ:Type}[DecidableEq κ]{knd:KeyKind prog w κ}{dec:Value->κ}{led:Bool}{A:Around}{E:Value->Shared->Prop}{s:Shared}
theorem zGd{α:Type}(es:Array α)(order:Array Nat)(h:order.toList.Perm (aat es.size)):(order.filterMap (es[·]?)).toList.Perm es.toList:=by
 rw[Array.toList_filterMap]
 refine(h.filterMap _).trans ?_
 have e:(aat es.size).filterMap (es[·]?)=es.toList:=by
  have:∀l:List α,(aat l.length).filterMap (λj=>l[j]?)=l:=λl=>by
   induction l with
   |nil=>rfl
   |cons x l ih =>
    rw[length_cons,range_succ_eq_map,filterMap_cons,List.filterMap_map]
    show x::filterMap (λj=>l[j]?) _=_
    rw[ih]
  have q:=this es.toList
  rw[length_toList] at q
  rw[<-q]
  refine congrArg (λf=>filterMap f _) (funext λj=>?_)
  rw[getElem?_toList]
 rw[e]
theorem zL6{Q:Unit->Shared->Prop}(ho:s.heap.get? a=some o)(hd:o.data=.set es ep t)(hf:t.fits es.size=true)(hw:wanted<=255)(hn:es.size<=wanted)(h:∀(es':Array (Int×Value)) (t':SetTable),es'.toList.Perm es.toList->t'.place.size=es.size->t'.dummies=#[]->wanted<=t'.mask->yg (t'.mask+1)=true->t'.led=t.led->Rz t'.place->Q () { s with heap:=s.heap.update a (afc es' t') }):wpAny (model prog w) A (setRelay a wanted) Q E s:=by
 obtain⟨m,e1,e2,e3,e4⟩:=zUs hw
 unfold setRelay
 refine aan (aa5 ho hd hf ?_)
 dsimp only
 rw[if_neg (by rw[e1];show¬m+1 > 2^24;omega)]
 obtain⟨t',order,q1,q2,q3,q4,q5,q6,q7,q8⟩:=zQz (mask:=m) e3 t.finger (t.movedTo m) t.led t.plain (es.map (·.1)) (by rw[size_map];omega)
 rw[size_map] at q2 q3
 have er:t.relaid (es.map (·.1)) wanted=some (t',order):=by
  unfold SetTable.relaid
  rw[e1]
  exact q1
 rw[er]
 have p:=zGd es order q2
 have sz:(order.filterMap (es[·]?)).size=es.size:=by rw[<-length_toList,p.length_eq,length_toList]
 refine aan (m:=(if((order.filterMap (es[·]?)).size != es.size)=true then unsupported "internal:set-table-lost-an-element" else pure (order.filterMap (es[·]?),t'))) ?_
 rw[if_neg (by rw[sz];simp)]
 refine aap ?_
 exact acj ho hd (h _ t' p q3 q4 (by rw[q5];exact e2) (by rw[q5];exact e3) q6 q8) (by rw[sz];show es.size<=2^24;omega)
theorem Y0{t':SetTable}(h1:t'.place.size=n)(h2:t'.dummies=#[])(h3:wanted<=t'.mask)(h4:n<=wanted):t'.fits n=true:=by
 unfold fits aer
 rw[h1,h2]
 simp
 omega
theorem zTd{Q:Unit->Shared->Prop}(g:Good knd dec led s.heap a ks)(hw:wanted<=255)(hn:ks.length<=wanted)(h:∀h',SameBut a s.heap h'->Good knd dec led h' a ks->Q () { s with heap:=h' }):wpAny (model prog w) A (setRelay a wanted) Q E s:=by
 obtain⟨o,es,ep,t,ho,hx,hd,hel,hp,nd,hb,hf,tb⟩:=g
 have ln:es.size=ks.length:=by rw[<-hp.length_eq,length_map,length_toList]
 refine zL6 ho hd hf hw (by rw[ln];exact hn) λes' t' p q3 q4 q5 q6 q7 q8=>h _ (SameBut.update _ a _) ?_
 have sz:es'.size=es.size:=by rw[<-length_toList,p.length_eq,length_toList]
 exact⟨_,es',_,t',Jt (es':=es') (t':=t') ho hd,hx,rfl,hel.perm p,(p.map _).trans hp,nd,by rw[sz];exact hb,by rw[sz];exact Y0 q3 q4 q5 (by rw[ln];exact hn),⟨q7.trans tb.led,λ_=>q8⟩⟩
theorem zLc{Q:Unit->Shared->Prop}(hr:s.heap.get? r=some { cls:=.type "set",dict:=none,data:=.set #[] 0 (.fresh 0 0 (yA w)) })(hne:r≠o)(g:Good knd dec (yA w) s.heap o ks)(hl:ks.length<=127)(h:∀h',SameBut r s.heap h'->Good knd dec (yA w) h' r ks->Q () { s with heap:=h' }):wpAny (model prog w) A (setMerge r o each) Q E s:=by
 obtain⟨ob,es,ep,t,ho,hx,hd,hel,hp,nd,hb,hf,tb⟩:=id g
 have ln:es.size=ks.length:=by rw[<-hp.length_eq,length_map,length_toList]
 unfold setMerge
 rw[if_neg (by simpa using hne)]
 refine aan (aa5 ho hd hf ?_)
 dsimp only
 by_cases hemp:es.isEmpty=true
 ·rw[if_pos hemp]
  have e0:es.size=0:=by simpa[Array.isEmpty] using hemp
  have k0:ks=[]:=length_eq_zero_iff.mp (by rw[<-ln];exact e0)
  subst k0
  exact aap (h _ (SameBut.refl r s.heap) (R9 hr))
 rw[if_neg hemp]
 refine aan (acg (Q:=λ_ s'=>∃(h1:Heap)(o1:Obj)(ep1:Nat)(t1:SetTable),s'={ s with heap:=h1 }/\SameBut r s.heap h1/\h1.get? r=some o1/\o1.ExactSet/\o1.data=.set #[] ep1 t1/\t1.place.size=0/\t1.dummies=#[]/\t1.led=yA w/\yg (t1.mask+1)=true/\es.size<=t1.mask) ?first ?post (λ_ _ h=>h))
 case post =>
  rintro _ _ ⟨h1,o1,ep1,t1,rfl,sb,g1,x1,d1,pl,du,le,cy,rm⟩
  refine aan (aa5 (s:={ s with heap:=h1 }) g1 d1 (by show t1.fits 0=true;exact Y0 pl du (abf _) (aaq 0)) ?_)
  dsimp only
  have hfill:t1.fill=0:=by unfold aer;rw[pl,du];rfl
  unfold SetTable.road
  rw[hfill]
  rw[if_neg (by simp)]
  by_cases hsl:(t1.mask==t.mask&&t.dummies.isEmpty)=true
  ·rw[if_pos hsl]
   refine acj (s:={ s with heap:=h1 }) g1 d1 (h _ (sb.trans (SameBut.update _ r _)) ⟨_,es,_,_,Jt (es':=es) (t':=_) g1 d1,x1,rfl,hel,hp,nd,hb,hf,⟨?_,λz=>tb.rz (Bool.and_eq_true_iff.mp z).2⟩⟩) (aci hb)
   show(t1.led&&t.led)=_
   rw[le,tb.led,ae5]
  ·rw[if_neg hsl]
   obtain⟨t',order,q1,q2,q3,q4,q5,q6,q7,q8⟩:=zQz (mask:=t1.mask) cy t1.finger t1.moves (t1.led&&t.led) (t1.plain&&t.plain) (es.map (·.1)) (by rw[size_map];exact rm)
   rw[size_map] at q2 q3
   dsimp only
   rw[q1]
   have p:=zGd es order q2
   have sz:(order.filterMap (es[·]?)).size=es.size:=by rw[<-length_toList,p.length_eq,length_toList]
   refine aan (m:=(if((order.filterMap (es[·]?)).size != es.size)=true then unsupported "internal:set-table-lost-an-element" else pure (order.filterMap (es[·]?),t'))) ?_
   rw[if_neg (by rw[sz];simp)]
   refine aap ?_
   refine acj (s:={ s with heap:=h1 }) g1 d1 (h _ (sb.trans (SameBut.update _ r _)) ⟨_,_,_,t',Jt (es':=order.filterMap (es[·]?)) (t':=t') g1 d1,x1,rfl,hel.perm p,(p.map _).trans hp,nd,by rw[sz];exact hb,by rw[sz];exact Y0 q3 q4 (by rw[q5];exact rm) (aaq _),⟨?_,λ_=>q8⟩⟩) (aci (by rw[sz];exact hb))
   rw[q6,le,tb.led,ae5]
 case first =>
  unfold setRoomFor
  refine aan (aa5 hr rfl rfl ?_)
  dsimp only
  have e1:(SetTable.fresh 0 0 (yA w)).roomFor es.size=if(es.size*5 ≥ 21) then some (es.size*2) else none:=by
   unfold SetTable.roomFor aer SetTable.fresh
   simp
  rw[e1]
  by_cases c:es.size*5 ≥ 21
  ·rw[if_pos c]
   refine zL6 hr rfl rfl (by omega) (abf _) λes' t' p q3 q4 q5 q6 q7 q8=>?_
   have ee:es'=#[]:=by
    have:=p.length_eq
    rw[length_toList] at this
    exact Array.eq_empty_of_size_eq_zero this
   subst ee
   exact⟨_,_,_,t',rfl,SameBut.update _ r _,Jt (es':=#[]) (t':=t') hr rfl,⟨rfl,rfl,rfl⟩,rfl,q3,q4,q7,q6,by omega⟩
  ·rw[if_neg c]
   exact aap ⟨s.heap,_,0,_,rfl,SameBut.refl r s.heap,hr,⟨rfl,rfl,rfl⟩,rfl,rfl,rfl,rfl,Sq,by show es.size<=7;omega⟩
end
set_option maxRecDepth 100000
section
variable{prog:Program}{w:World}{κ:Type}[DecidableEq κ]{knd:KeyKind prog w κ}{dec:Value->κ}{led:Bool}{A:Around}{E:Value->Shared->Prop}{s:Shared}
theorem GK{Q:Value->Shared->Prop}(g:Good knd dec (yA w) s.heap a ks)(hl:ks.length<=127)(h:∀(h':Heap),Good knd dec (yA w) h' s.heap.objs.size ks->(∀c o,c<s.heap.objs.size->s.heap.get? c=some o->h'.get? c=some o)->(ks=[]->h'=s.heap.push { cls:=.type "set",dict:=none,data:=.set #[] 0 (.fresh 0 0 (yA w)) })->Q (.ref s.heap.objs.size) { s with heap:=h' }) :
  wpAny (model prog w) A (Builtin.Frozenset.copyOf a) Q E s:=by
 have la:a<s.heap.objs.size:=by obtain⟨o,_,_,_,h1,_⟩:=g;exact lt_size h1
 have up:∀c o,s.heap.get? c=some o->(s.heap.push { cls:=.type "set",dict:=none,data:=.set #[] 0 (.fresh 0 0 (yA w)) }).get? c=some o:=λc o e=>get?_push_of_some _ e
 have g1:=g.keep (up a)
 unfold Builtin.Frozenset.copyOf
 refine aan (YJ g.type (aan (YK ?_)))
 refine aan (aap ?_)
 cases ks with
 |nil =>
  obtain⟨o,es,ep,t,ho,hx,hd,hel,hp,nd,hb,hf,tb⟩:=g1
  have e0:es.size=0:=by rw[<-length_toList];have:=hp.length_eq;rw[length_map] at this;exact this
  unfold setMerge
  rw[if_neg (by simpa using(adl la))]
  refine aan (aan (aa5 (s:={ s with heap:=_ }) ho hd hf ?_))
  dsimp only
  rw[if_pos (by simpa[Array.isEmpty] using e0)]
  refine aap (aap (h _ (R9 (get?_push_size _ rfl)) (λc o _ e=>up c o e) λ_=>rfl))
 |cons k0 ks0 =>
  refine aan (zLc (s:={ s with heap:=_ }) (get?_push_size _ rfl) (adl la) g1 hl λh' sb g'=>?_)
  exact aap (h h' g' (λc o hc e=>by rw[sb.2 c (aav hc)];exact up c o e) λz=>by cases z)
theorem SM{α:Type}(xs:Array α)(p:Nat):(eraseAt xs p).toList=xs.toList.eraseIdx p:=by
 unfold eraseAt
 rw[Array.toList_append,List.eraseIdx_eq_take_drop_succ,Array.toList_extract,Array.toList_extract]
 simp[List.extract_eq_take_drop]
 exact List.take_of_length_le (by rw[List.length_drop,length_toList];omega)
theorem zUa{α:Type}(xs:Array α)(p:Nat)(x:α):(insertAt xs p x).size=xs.size+1:=by
 unfold insertAt
 simp
 omega
theorem SN(hr:Rz xs)(p:Nat):Rz (eraseAt xs p):=by
 intro i k a b hik ha hb
 rw[<-getElem?_toList,SM,List.getElem?_eraseIdx] at ha hb
 have q:∀j,xs.toList[j]?=xs[j]?:=λj=>getElem?_toList
 split at ha<;>split at hb
 ·exact hr i k a b hik (by rw[<-q];exact ha) (by rw[<-q];exact hb)
 ·exact hr i (k+1) a b (by omega) (by rw[<-q];exact ha) (by rw[<-q];exact hb)
 ·omega
 ·exact hr (i+1) (k+1) a b (by omega) (by rw[<-q];exact ha) (by rw[<-q];exact hb)
theorem zOv(hdec:∀k v,knd.is k v=true->dec v=k){Q:Bool->Shared->Prop}(hk:knd.is k x=true)(hs:x.scannable=true)(g:Good knd dec led s.heap a ks)(h:∀(h':Heap) (b:Bool),SameBut a s.heap h'->Good knd dec led h' a (ks.erase k)->Q b { s with heap:=h' }) :
  wpAny (model prog w) A (setDiscardHashed a x (knd.hash k)) Q E s:=by
 obtain⟨o,es,ep,t,ho,hx,hd,hel,hp,nd,hb,hf,tb⟩:=id g
 unfold setDiscardHashed
 refine aan ?_
 unfold setFind setFindIn
 refine aan (aa5 ho hd hf ?_)
 dsimp only
 rw[byScan_of hs hb hel]
 simp only[↓reduceIte]
 refine aan (ad1 (aan (wpAny_setScan_of hk ho hd hf hel ?_)))
 have fi:=zJr hdec hel k
 cases hr:List.findIdx? (λe=>knd.is k e.2) es.toList with
 |none =>
  have hm:k∉ks:=λz=>fi.mp hr (hp.mem_iff.mpr z)
  dsimp only
  refine aap (aap ?_)
  have q:=h s.heap false (SameBut.refl a s.heap)
  rw[List.erase_of_not_mem hm] at q
  exact q g
 |some j =>
  obtain⟨hj,hpj,_⟩:=List.findIdx?_eq_some_iff_getElem.mp hr
  dsimp only
  rw[ac1]
  refine aap (aan (aa5 ho hd hf ?_))
  dsimp only
  have pl:t.place.size=es.size:=Yv hf
  have hj':j<t.place.size:=by rw[pl,<-length_toList];exact hj
  have sz:(eraseAt es j).size=es.size-1:=by rw[<-length_toList,SM,length_eraseIdx,if_pos hj,length_toList]
  have ed:t.drop j={ t with place:=eraseAt t.place j,dummies:=insertAt t.dummies (below t.dummies t.place[j]) t.place[j] }:=by
   unfold SetTable.drop
   rw[aar hj']
  have jz:j<es.size:=by rw[<-length_toList];exact hj
  have ft:(t.drop j).fits (eraseAt es j).size=true:=by
   rw[ed]
   unfold fits aer at hf ⊢
   have e1:(eraseAt t.place j).size=es.size-1:=by rw[<-length_toList,SM,length_eraseIdx,length_toList,if_pos hj',pl]
   dsimp only
   rw[e1,zUa,sz]
   rw[aas,decide_eq_true_eq] at hf
   rw[aas,decide_eq_true_eq]
   refine⟨by simp,?_⟩
   have:=hf.2
   omega
  have tb':Tb led (t.drop j):=by
   rw[ed]
   exact⟨tb.led,λz=>SN (tb.rz z) j⟩
  have hp':((eraseAt es j).toList.map λe=>dec e.2).Perm (ks.erase k):=by
   rw[SM]
   have p1:=((Vz hj).map λe=>dec e.2).trans hp
   rw[map_cons,hdec k _ hpj] at p1
   have p2:=p1.erase k
   rw[List.erase_cons_head] at p2
   exact p2
  refine aan (acj ho hd (aan (wpAny_point (aap (h _ true (SameBut.update _ a _) ⟨_,_,_,_,Jt (es':=eraseAt es j) (t':=t.drop j) ho hd,hx,rfl,λe he=>?_,hp',nd.erase k,by rw[sz];omega,ft,tb'⟩)))) (aci (by rw[sz];omega)))
  rw[SM] at he
  exact hel e (List.mem_of_mem_eraseIdx he)
theorem GP{Q:Unit->Shared->Prop}(g:Good knd dec led s.heap a ks)(hw:ks.length<=63)(h:∀h',SameBut a s.heap h'->Good knd dec led h' a ks->Q () { s with heap:=h' }):wpAny (model prog w) A (setTidy a) Q E s:=by
 obtain⟨o,es,ep,t,ho,hx,hd,hel,hp,nd,hb,hf,tb⟩:=id g
 have ln:es.size=ks.length:=by rw[<-hp.length_eq,length_map,length_toList]
 unfold setTidy
 refine aan (aa5 ho hd hf ?_)
 dsimp only
 split
 ·have e:grown es.size=ks.length*4:=by unfold grown;rw[if_neg (by omega),ln]
  rw[e]
  exact zTd g (by omega) (by omega) h
 ·exact aap (h _ (SameBut.refl a s.heap) g)
theorem zNg(g:Good knd dec (yA w) s.heap a ks)(hs:∀b∈others,∃ks:List κ,Good knd dec (yA w) s.heap b ks)(hn:∀k v,knd.is k v=true->∀b,v≠.ref b){Q:Array (Int×Value)->Shared->Prop}(h:∀(es:Array (Int×Value)),ElemsOf knd es.toList->(es.toList.map λe=>dec e.2).Perm ks->Q es s):wpAny (model prog w) A (setWalkUnseen a others none) Q E s:=by
 obtain⟨o,es,ep,t,h1,h2,h3,hf,hl,tb,hel,hp⟩:=g.size
 unfold setWalkUnseen
 refine aan (aa5 h1 h3 hf ?_)
 dsimp only
 refine aan (Ml ?_)
 split
 ·rename_i c
  refine zO3 g (λhb o' es' ep' t' h1' h3'=>?_) λes' pW hp'=>h es' pW hp'
  rw[h1] at h1'
  cases h1'
  rw[h3] at h3'
  cases h3'
  rw[hb] at c
  simp only[aea,acn,aas,decide_eq_true_eq] at c
  rcases c with⟨_,c⟩|c
  ·rw[c];rfl
  ·rw[decide_eq_false (by omega),ae0]
 ·refine aan (zL7 (knd:=knd) (dec:=dec) (led:=yA w) (a::others) (λb hb=>(mem_cons.mp hb).elim (λe=>e▸⟨ks,g⟩) (hs b)) hn ?_)
  simp only[abn,aaw,↓reduceIte]
  exact aan (ad1 (aap (h es hel hp)))
theorem GQ(hdec:∀k v,knd.is k v=true->dec v=k)(id:String)(hn:∀k v,knd.is k v=true->∀b,v≠.ref b)(hab:b≠r)(ga:Good knd dec (yA w) s.heap r ka)(gb:Good knd dec (yA w) s.heap b kb)(hl:ka.length<=63)(hs:¬kb.length/8 > ka.length){Q:Unit->Shared->Prop}(h:∀(h':Heap) (kr:List κ),SameBut r s.heap h'->Good knd dec (yA w) h' r kr->(∀k,k∈kr↔k∈ka/\k∉kb)->Q () { s with heap:=h' }) :
  wpAny (model prog w) A (Builtin.Frozenset.differenceUpdate id r (.ref b)) Q E s:=by
 obtain⟨o,es,ep,t,h1,h2,h3,hf,hlb,tb,hel,hp⟩:=gb.size
 have nda:ka.Nodup:=by obtain⟨_,_,_,_,_,_,_,_,_,nd,_⟩:=ga;exact nd
 unfold Builtin.Frozenset.differenceUpdate
 rw[if_neg (λe=>hab (ae7 (ab8 e)))]
 refine aan (Mr gb.type ?_)
 simp only[↓reduceIte]
 refine aan (aap ?_)
 refine aan (Pz gb (aan (Pz ga ?_)))
 rw[if_neg hs]
 refine aan (ab9 h1 h3 hf ?_)
 refine aan (abj (aan (zNg gb (λc hc=>(mem_singleton.mp hc)▸⟨ka,ga⟩) hn λes' pW hp'=>?_)))
 rw[<-forIn_toList]
 refine aan (acg (adp (β:=Unit) _ (λl _ s'=>∃h2 kr,s'={ s with heap:=h2 }/\SameBut r s.heap h2/\Good knd dec (yA w) h2 r kr/\ElemsOf knd l/\kr.length<=63/\∀k,(k∈kr/\k∉l.map λe=>dec e.2)↔(k∈ka/\k∉kb)) (λ_ s'=>∃h2 kr,s'={ s with heap:=h2 }/\SameBut r s.heap h2/\Good knd dec (yA w) h2 r kr/\kr.length<=63/\∀k,k∈kr↔k∈ka/\k∉kb) ?turn ?fin es'.toList () ⟨s.heap,ka,rfl,SameBut.refl r s.heap,ga,pW,hl,λk=>?_⟩) ?post (λ_ _ h=>h))
 case turn =>
  rintro⟨hs',v⟩ l b' s' ⟨h2',kr,rfl,mO,g2,hl2,hlen,hm⟩
  obtain⟨⟨k,hk,hh⟩,hsc⟩:=hl2 _ mem_cons_self
  dsimp only at hk hh hsc ⊢
  subst hh
  have dv:dec v=k:=hdec k v hk
  have ndr:kr.Nodup:=by obtain⟨_,_,_,_,_,_,_,_,_,nd,_⟩:=g2;exact nd
  refine aan (abj (zOv (led:=yA w) (s:={ s with heap:=h2' }) hdec hk hsc g2 λh3' b'' uy g3=>?_))
  refine aan ?_
  unfold abq
  refine aan (ab9 (s:={ s with heap:=h3' }) (by show h3'.get? b=_;rw[uy.2 b hab];show h2'.get? b=_;rw[mO.2 b hab];exact h1) h3 hf ?_)
  simp only[bne_self_eq_false,aaw,↓reduceIte]
  refine aap (aap ⟨h3',kr.erase k,rfl,mO.trans uy,g3,λe he=>hl2 e (mem_cons_of_mem _ he),?_,λc=>?_⟩)
  ·have:=List.length_erase_le (a:=k) (l:=kr)
   omega
  ·rw[<-hm c,map_cons,mem_cons]
   show _↔(c∈kr/\¬(c=dec v\/_))
   rw[dv,ndr.mem_erase_iff]
   constructor
   ·rintro⟨⟨z1,z2⟩,z3⟩
    exact⟨z2,λq=>q.elim z1 z3⟩
   ·rintro⟨z1,z2⟩
    exact⟨⟨λq=>z2 (.inl q),z1⟩,λq=>z2 (.inr q)⟩
 case fin =>
  rintro b' s' ⟨h2',kr,rfl,mO,g2,_,hlen,hm⟩
  refine⟨h2',kr,rfl,mO,g2,hlen,λk=>?_⟩
  rw[<-hm k]
  simp
 case post =>
  rintro b' s' ⟨h2',kr,rfl,mO,g2,hlen,hm⟩
  refine aap ?_
  exact GP (s:={ s with heap:=h2' }) g2 hlen λh3' uy g3=>h h3' kr (mO.trans uy) g3 hm
 ·rw[hp'.mem_iff]
end
set_option maxRecDepth 100000
theorem zHb:entryFor table "set.__sub__" = some Builtin.«frozenset.__sub__»:=aeh (id':="frozenset.__sub__") (by kernel_rfl) rfl (by decide +kernel) (by kernel_rfl)
section
variable{prog:Program}{w:World}{κ:Type}[DecidableEq κ]{knd:KeyKind prog w κ}{dec:Value->κ}{led:Bool}{A:Around}{E:Value->Shared->Prop}{s:Shared}
theorem zRx(hdec:∀k v,knd.is k v=true->dec v=k)(id:String)(hn:∀k v,knd.is k v=true->∀b,v≠.ref b)(YF:x≠r)(VH:y≠r)(gx:Good knd dec (yA w) s.heap x kx)(gy:Good knd dec (yA w) s.heap y ky)(gr:Good knd dec (yA w) s.heap r [])(hep:∀o es e t,s.heap.get? y=some o->o.data=.set es e t->e=ep){Q:Unit->Shared->Prop}(h:∀(h':Heap) (kr:List κ),SameBut r s.heap h'->Good knd dec (yA w) h' r kr->(∀k,k∈kr↔k∈ky/\k∉kx)->Q () { s with heap:=h' }) :
  wpAny (model prog w) A (do
   for (h,x') in <-setWalkUnseen y [x,r] (some r) do
    holding [x'] do
     let there <-pure (<-setFind x x' h).isSome
     if !there then
      let _ <-setAddHashed r x' h
    abq id y ep) Q E s:=by
 obtain⟨o,es,ep',t,h1,h2,h3,hf,hl,tb,hel,hp⟩:=gy.size
 have e1:=hep o es ep' t h1 h3
 subst e1
 refine aan (zIs gy gr (λb hb=>(mem_cons.mp hb).elim (λe=>e▸⟨kx,gx⟩) λe=>(mem_singleton.mp e)▸⟨[],gr⟩) hn λes' h' pW hp' sb YG=>?_)
 rw[<-forIn_toList]
 have ln:es'.toList.length=ky.length:=by rw[<-hp'.length_eq,length_map]
 refine aan (acg (adp (β:=Unit) _ (λl _ s'=>∃h2 kr,s'={ s with heap:=h2 }/\SameBut r s.heap h2/\Good knd dec (yA w) h2 r kr/\ElemsOf knd l/\kr.length+l.length<=ky.length/\∀k,(k∈kr\/(k∉kx/\k∈l.map λe=>dec e.2))↔(k∈ky/\k∉kx)) (λ_ s'=>∃h2 kr,s'={ s with heap:=h2 }/\SameBut r s.heap h2/\Good knd dec (yA w) h2 r kr/\∀k,k∈kr↔k∈ky/\k∉kx) ?turn ?fin es'.toList () ⟨h',[],rfl,sb,YG,pW,by rw[ln,length_nil];omega,λk=>?_⟩) ?post (λ_ _ h=>h))
 case turn =>
  rintro⟨hs,v⟩ l b s' ⟨h2,kr,rfl,mO,g2,hl2,hlen,hm⟩
  obtain⟨⟨k,hk,hh⟩,hsc⟩:=hl2 _ mem_cons_self
  dsimp only at hk hh hsc ⊢
  subst hh
  have kx':∀o,s.heap.get? x=some o->h2.get? x=some o:=λo e=>by rw[mO.2 x YF];exact e
  have YH:=gx.keep kx'
  have dv:dec v=k:=hdec k v hk
  rw[length_cons] at hlen
  have cont:∀(h3':Heap)(Bx:List κ),SameBut r s.heap h3'->Good knd dec (yA w) h3' r Bx->Bx.length+l.length<=ky.length->(∀c,(c∈Bx\/(c∉kx/\c∈l.map λe=>dec e.2))↔(c∈ky/\c∉kx)) ->
    wpAny (model prog w) A (abq id y ep') (λ_ s''=>wpAny (model prog w) A (pure (aco ())) (λq s''=>match q with|.yield _=>∃h2 kr,s''={ s with heap:=h2 }/\SameBut r s.heap h2/\Good knd dec (yA w) h2 r kr/\ElemsOf knd l/\kr.length+l.length<=ky.length/\∀k,(k∈kr\/(k∉kx/\k∈l.map λe=>dec e.2))↔(k∈ky/\k∉kx)|.done _=>∃h2 kr,s''={ s with heap:=h2 }/\SameBut r s.heap h2/\Good knd dec (yA w) h2 r kr/\∀k,k∈kr↔k∈ky/\k∉kx) E s'') E { s with heap:=h3' }:=λh3' Bx uy g3 l3 m3=>by
   unfold abq
   refine aan (ab9 (s:={ s with heap:=h3' }) (by show h3'.get? y=_;rw[uy.2 y VH];exact h1) h3 hf ?_)
   simp only[bne_self_eq_false,aaw,↓reduceIte]
   exact aap (aap ⟨h3',Bx,rfl,uy,g3,λe he=>hl2 e (mem_cons_of_mem _ he),l3,m3⟩)
  refine aan (abj (aan (wpAny_setFind_of (s:={ s with heap:=h2 }) hk hsc (YH.setOf hdec) λq hq=>aan (aap ?_))))
  cases q with
  |some j =>
   have nk:k∈kx:=by simpa using hq.symm
   simp only[ad0,abn,aaw,↓reduceIte]
   refine aap (aan (cont h2 kr mO g2 (by omega) λc=>?_))
   rw[<-hm c,map_cons,mem_cons]
   show _↔(c∈kr\/c∉kx/\(c=dec v\/_))
   rw[dv]
   constructor
   ·rintro(z|⟨z1,z2⟩)
    ·exact .inl z
    ·exact .inr ⟨z1,.inr z2⟩
   ·rintro(z|⟨z1,z2|z2⟩)
    ·exact .inl z
    ·exact absurd nk (z2▸z1)
    ·exact .inr ⟨z1,z2⟩
  |none =>
   have mk:k∉kx:=by simpa using hq.symm
   simp only[Option.isSome_none,ae1,↓reduceIte]
   refine aan (Yt (led:=yA w) (s:={ s with heap:=h2 }) hdec hk hsc g2 (by have:=gy.len;omega) λh3' b' uy g3=>?_)
   refine aap (aan (cont h3' _ (mO.trans uy) g3 ?_ λc=>?_))
   ·split
    ·omega
    ·rw[length_cons];omega
   ·rw[<-hm c,map_cons,mem_cons]
    show _↔(c∈kr\/c∉kx/\(c=dec v\/_))
    rw[dv]
    have e:c∈(if k∈kr then kr else k::kr)↔c=k\/c∈kr:=by
     split
     ·rename_i z
      exact⟨.inr,λq=>q.elim (λq=>q▸z) λq=>q⟩
     ·exact mem_cons
    rw[e]
    constructor
    ·rintro((z|z)|⟨z1,z2⟩)
     ·exact .inr ⟨z▸mk,.inl z⟩
     ·exact .inl z
     ·exact .inr ⟨z1,.inr z2⟩
    ·rintro(z|⟨z1,z2|z2⟩)
     ·exact .inl (.inr z)
     ·exact .inl (.inl z2)
     ·exact .inr ⟨z1,z2⟩
 case fin =>
  rintro b s' ⟨h2,kr,rfl,mO,g2,_,_,hm⟩
  refine⟨h2,kr,rfl,mO,g2,λk=>?_⟩
  rw[<-hm k]
  simp
 case post =>
  rintro b s' ⟨h2,kr,rfl,mO,g2,hm⟩
  exact aap (h h2 kr mO g2 hm)
 ·rw[hp'.mem_iff]
  constructor
  ·rintro(z|⟨z1,z2⟩)
   ·cases z
   ·exact⟨z2,z1⟩
  ·exactλ⟨z1,z2⟩=>.inr ⟨z2,z1⟩
theorem GR(hdec:∀k v,knd.is k v=true->dec v=k)(id:String)(hn:∀k v,knd.is k v=true->∀b,v≠.ref b)(hab:b≠a)(ga:Good knd dec (yA w) s.heap a ka)(gb:Good knd dec (yA w) s.heap b kb)(hl:ka.length<=63){Q:Value->Shared->Prop}(h:∀(h':Heap) (kr:List κ),Good knd dec (yA w) h' s.heap.objs.size kr->(∀k,k∈kr↔k∈ka/\k∉kb)->(∀c o,c<s.heap.objs.size->s.heap.get? c=some o->h'.get? c=some o)->Q (.ref s.heap.objs.size) { s with heap:=h' }) :
  wpAny (model prog w) A (Builtin.Frozenset.difference id a (.ref b)) Q E s:=by
 have la:a<s.heap.objs.size:=by obtain⟨o,_,_,_,h1,_⟩:=ga;exact lt_size h1
 have lb:b<s.heap.objs.size:=by obtain⟨o,_,_,_,h1,_⟩:=gb;exact lt_size h1
 unfold Builtin.Frozenset.difference
 refine aan (Mr gb.type ?_)
 simp only[abn,aaw,Bool.false_and,↓reduceIte]
 refine aan (aap ?_)
 refine aan (Pz gb (aan (Pz ga ?_)))
 split
 ·rename_i c
  refine aan (ad1 (aan (GK ga (by omega) λh' g' k' _=>?_)))
  refine aan (aap ?_)
  refine aan (abj (GQ (s:={ s with heap:=h' }) hdec id hn (aav lb) g' (gb.keep λo e=>k' b o lb e) hl (by omega) λh2 kr sb g2 m=>aap (h h2 kr g2 m λc o hc e=>?_)))
  rw[sb.2 c (aav hc)]
  exact k' c o hc e
 ·refine aan (YJ ga.type (aan (YK ?_)))
  refine aan (aap ?_)
  have up:∀c o,s.heap.get? c=some o->(s.heap.push { cls:=.type "set",dict:=none,data:=.set #[] 0 (.fresh 0 0 (yA w)) }).get? c=some o:=λc o e=>get?_push_of_some _ e
  have Jv:=ga.keep (up a)
  have Jw:=gb.keep (up b)
  have PB:Good knd dec (yA w) (s.heap.push { cls:=.type "set",dict:=none,data:=.set #[] 0 (.fresh 0 0 (yA w)) }) s.heap.objs.size []:=R9 (get?_push_size _ rfl)
  generalize hp:s.heap.push { cls:=.type "set",dict:=none,data:=.set #[] 0 (.fresh 0 0 (yA w)) }=hq at up Jv Jw PB ⊢
  obtain⟨o,es,ep,t,h1,h2,h3,hf,hl,tb,hel,hpp⟩:=Jv.size
  refine aan (ab9 (s:={ s with heap:=hq }) h1 h3 hf ?_)
  refine aan (abj (zRx (s:={ s with heap:=hq }) hdec id hn (aav lb) (aav la) Jw Jv PB (λo' es' e' t' z1 z2=>?_) λh' kr sb g m=>aap (h h' kr g m λc o hc e=>?_)))
  ·have z1':hq.get? a=some o':=z1
   rw[h1] at z1'
   cases z1'
   rw[h3] at z2
   cases z2
   rfl
  ·rw[sb.2 c (aav hc)];exact up c o e
theorem Mw(hdec:∀k v,knd.is k v=true->dec v=k)(hn:∀k v,knd.is k v=true->∀b,v≠.ref b)(hab:b≠a)(ga:Good knd dec (yA w) s.heap a ka)(gb:Good knd dec (yA w) s.heap b kb)(hl:ka.length<=63){Q:Value->Shared->Prop}(h:∀(h':Heap) (kr:List κ),Good knd dec (yA w) h' s.heap.objs.size kr->(∀k,k∈kr↔k∈ka/\k∉kb)->(∀c o,c<s.heap.objs.size->s.heap.get? c=some o->h'.get? c=some o)->Q (.ref s.heap.objs.size) { s with heap:=h' }) :
  wpAny (model prog w) A (binaryOp .Sub (.ref a) (.ref b)) Q E s:=by
 refine wpAny_binaryOp_same (op:=.Sub) (T:="set") ga.type gb.type F.fills_set_sub F.slot_set_sub (acf F.slot_set_sub ga.type zHb ?_ (F.args_set_sub_2 _ _))
 refine aan (m:=ac6 "__sub__" ⟨[.ref a,.ref b],[]⟩) ?_
 unfold ac6 slotArgs
 refine aap ?_
 dsimp only
 refine aan (aan (Mr ga.type ?_))
 refine Mr gb.type ?_
 simp only[abn,aaw,↓reduceIte]
 refine aan (aap (aan (GR hdec _ hn hab ga gb hl λh' kr g m k=>aap ⟨.ref s.heap.objs.size,rfl,?_,h h' kr g m k⟩)))
 exactλz=>Value.noConfusion z
end
set_option maxRecDepth 100000
section
variable{prog:Program}{w:World}{κ:Type}[DecidableEq κ]{knd:KeyKind prog w κ}{dec:Value->κ}{led:Bool}{A:Around}{E:Value->Shared->Prop}{s:Shared}
end
end qY
namespace L2
open PySem PySem.Spec PyProof.Rows qY
section
variable{X:Cx}
def JC(ta tb:Mp):Mp:=λσ H Q=>ta σ H λks H1=>ks.length<64/\tb σ H1 λjs H2=>∀rs:LI,rs.Nodup->(∀z,z∈rs↔z∈ks/\z∉js)->Q rs H2
theorem GX(ha:Ju X a ta)(hb:Ju X b tb):Ju X (.BinOp a .Sub b pos) (JC ta tb):=by
 intro pins s σ H Q I h
 refine wpAny_BinOp (aP (ha pins s σ H _ I h) λu s1 ⟨p,ks,H1,e,I1,g,fo,hl,h1⟩=>?_)
 subst e
 obtain⟨o,es,ep,t,go,gx,gd,_⟩:=id g
 have YL:=I1.pinned (fp:=[p]) (λb hb=>by rw[mem_singleton.mp hb];exact fo) (λb hb=>by
  rw[mem_singleton.mp hb]
  exact⟨o,go,λv z=>by rw[gd] at z;cases z⟩)
 refine aP (hb _ s1 σ H1 _ YL h1) λu2 s2 ⟨p2,js,H2,e2,I2,g2,YM,q2⟩=>?_
 subst e2
 have pm:(p,o)∈X.pn++(pins++Kq [p] s1.heap):=mem_append_right _ (mem_append_right _ (uW (mem_singleton.mpr rfl) go))
 have kp:s2.heap.get? p=some o:=(I2.pin (p,o) pm).1
 have g1:=g.keep (h':=s2.heap) λo' e'=>by rw[go] at e';cases e';exact kp
 have ne:p2≠p:=abt (YM.2.2.2.2.2 (p,o) pm)
 have I3:=I2.gW
 refine Mw Yz (λk v hk b z=>?_) ne g1 g2 (aek hl) λh' kr g3 m k=>?_
 ·obtain⟨t,rfl⟩:=adf hk
  cases z
 ·have I4:=I3.kept (h':=h') (t':=s2.toks) λb o e=>k b o (lt_size e) e
  obtain⟨_,_,_,_,_,_,_,_,_,nd,_⟩:=id g3
  exact⟨_,kr,H2,rfl,I4,g3,I3.oJ (aaq _) (I3.hok.fresh (aaq _)),q2 kr nd m⟩
end
end L2
namespace Ts
open PySem L2
def PK(ns ms:LI):Option LI:=if ns.length<64/\ms.length<4000 then some (vT (ns.filter λz=>!decide (z∈ms))) else none
section
variable{K:PySem.W.Frag}{B:Bs}{sl:SL K}{md:Md}{t1 t2:TE}
theorem zOs(h1:Ex B sl .hp t1 m1)(h2:Ex B sl .hp t2 m2):Eo B sl md (VG (JC (Pq K t1) (Pq K t2))) (m1.bind λa=>m2.bind λb=>PK a b):=λc hc F O H σ Q s k=>by
 obtain⟨ns,ms,ha,hb,hf⟩:=qU hc
 unfold PK at hf
 split at hf
 case isFalse=>cases hf
 rename_i hl
 cases hf
 refine h1 ns ha F O H σ _ s λv F' H' g r1=>?_
 obtain⟨p,vs,rfl,z1,z2⟩:=r1
 have z3:vs=ns.map V.int:=z2.vals
 subst z3
 refine⟨p,ns,rfl,bw.of z1,aax hl.1 (by decide),λks nd hm=>⟨aa1 (Py nd λz hz=>(hm z).mp hz) hl.1,?_⟩⟩
 refine h2 ms hb F' O H' σ _ (s.grow g) λw F2 H2 g2 r2=>?_
 obtain⟨p',vs',rfl,y1,y2⟩:=r2
 have y3:vs'=ms.map V.int:=y2.vals
 subst y3
 refine⟨p',ms,rfl,bw.of y1,hl.2,λjs jd hj rs rd hr=>⟨aa1 (Py rd λz hz=>(hm z).mp ((hr z).mp hz).1) hl.1,λl us hn p1 p2=>?_⟩⟩
 have e:us=vT (ns.filter λz=>!decide (z∈ms)):=Px (Sd p2 (p1.nodup_iff.mpr rd)) (Pu _) λz=>by rw[p1.mem_iff,hr,hm,hj,cI,mem_filter,Bool.not_eq_true',decide_eq_false_iff_not]
 subst e
 exact k l _ F2 H2 (g.trans g2) hn (Jj _)
end
end Ts
namespace L2
open PySem PySem.Spec PyProof.Rows
theorem yh:bootBuiltins "zip" = some (.type "zip"):=by decide +kernel
structure qK(K:PySem.W.Frag)(C:Addr)(m:Str)(f:Addr):Prop where
 sp:specialIn K (.ref C) "__getattribute__" = some (some (.builtin "type.__getattribute__"))
 rd:PySem.W.readsIn K C (.type "type")=true
 at_:PySem.W.findCls K (.ref C) (.type "type") m=some (.val (.ref f))
 kp:keepIn K (.ref f)=true
section
variable{X:Cx}{CX:wg}{k:Nat}{f C:Addr}{fd:FuncData}{ps:List Str}{sp:Sp}{lN:List V}{ds:List Value}{E:XK}{x m:Str}{p pos apos:Pos}{e o:Expr}{es:List Expr}{ta:TE}{t:TA}
theorem uX(hg:Gl X x)(hm:X.mg x=some (.ref C))(c:qK X.K C m f)(F:aq X.prog X.w X.K X.mg X.base CX k f fd ps sp)(hr:bT k X.A)(hb:Binds X.K fd ps ds)(hd:Vals lN ds)(hx:Ez CX X E)(ha:PA X (e::es) t)(hdb:(x==("__debug__":Str))=false:=by decide)(hst:starEach (e::es) X.env=(false,eval e X.env)::starEach es X.env:=by rfl)(hpl:(backTo pos (starEach es X.env)).any (·.1)=false:=by rfl)(ht:eval (.Call (.Attribute (.Name x p) m apos) (e::es) [] pos) X.env=(do
   let ov <-eval (.Name x p) X.env
   standAt apos.atName
   let(f,first) <-holding [ov] (getMethod ov m pl)
   callWith pos f first (backTo pos (starEach (e::es) X.env)) (backToKw pos (keywordEach [] X.env))):=by rfl) :
  PE X (.Call (.Attribute (.Name x p) m apos) (e::es) [] pos) (QG sp lN E t):=by
 intro pins s σ H Q I h
 refine aes (pl:=pl) (Qp I hg hm ?_ hdb) ht
 refine PySem.W.method_cls I.jP c.sp (PySem.W.cls_value I.jP c.rd c.at_ rfl ?_)
 have I':=I.tok (s.toks+1)
 refine aev (first:=[]) (h₀:=X.base) I.ok.mod.Oo c.kp (aP (ha pos pins _ σ H _ I' h) λus s1 ⟨vs,H1,I1,r,q⟩=>⟨I1.jP,?_⟩) hst hpl
 exact U6 F hr hb hd hx I1 r q
end
end L2
namespace Sy
open PySem L2
inductive Tr where
 |all
 |mark (x:Str)
 |one (i:Fin 7) (t:Tr)
 |two (i:Fin 4) (l r:Tr)
def w1(i:Fin 7):Str:=(["not","somenext","eachnext","somealways","eachalways","someever","eachever"]:List Str).getD i.val ad4
def w2(i:Fin 4):Str:=(["both","either","sometill","eachtill"]:List Str).getD i.val ad4
def Tr.depth:Tr->Nat
 |.all=>0
 |.mark _=>0
 |.one _ t=>t.depth+1
 |.two _ l r=>max l.depth r.depth+1
def Kp(p:Addr)(H H':Hp):Prop:=∀b o,b≠p->H b=some o->H' b=some o
theorem Kp.of(s:Same H H'):Kp p H H':=λb o _ e=>s b o e
theorem Kp.trans(a:Kp p H H1)(b:Kp p H1 H2):Kp p H H2:=λc o n e=>b c o n (a c o n e)
theorem Kp.put(p:Addr)(H:Hp)(o:HO):Kp p H (upd H p o):=λb u n e=>by rw[zV n];exact e
theorem aL(h:H p=none)(o:HO):Same H (upd H p o):=λb u q=>by rw[zV (zS q h)];exact q
def Ae(w:V)(q:Addr):List (Str×V):=aF "parts" (.ref q) (aF "word" w [])
def yj(w v:V)(q:Addr):List (Str×V):=aF "part" v (Ae w q)
def yp(w v u:V)(q:Addr):List (Str×V):=aF "right" u (aF "left" v (Ae w q))
def PL(x:V)(q:Addr):List (Str×V):=aF "name" x (Ae x q)
theorem bV(f:Str)(v:V):∀fs:List (Str×V),(aF f v fs).length<=fs.length+1
 |[]=>aaq _
 | (g,x)::r=>by
  unfold aF
  split
  ·exact ab6 _
  ·exact abl (bV f v r)
theorem VP(w:V)(q:Addr):(Ae w q).length<=2:=by
 have a1:=bV "parts" (V.ref q) (aF "word" w [])
 have a2:=bV "word" w []
 have a3:([]:List (Str×V)).length=0:=rfl
 show(aF "parts" (V.ref q) (aF "word" w [])).length<=2
 omega
structure gJ(K:PySem.W.Frag)(C:Addr):Prop where
 cl:Cls K C
 nW:aY K C "word"
 nP:aY K C "parts"
 n1:aY K C "part"
 nL:aY K C "left"
 nR:aY K C "right"
 nN:aY K C "name"
inductive Hd where
 |all
 |mark
 |one (i:Fin 7)
 |two (i:Fin 4)
def spS(K:PySem.W.Frag):Sp:=λvs H Q _=>∃(p C dx:Addr)(x y:V),vs=[.ref p,x,y]/\H p=some (.ins C dx [])/\gJ K C/\∀H':Hp,Kp p H H'->H' p=some (.ins C dx (aF "parts" y (aF "word" x [])))->Q .non H'
def q9(K:PySem.W.Frag):Sp:=λvs H Q _=>∃(p C dx:Addr)(x v:V),vs=[.ref p,x,v]/\H p=some (.ins C dx [])/\gJ K C/\∀(q:Addr)(H':Hp),Kp p H H'->H q=none->H' q=some (.tup [v])->H' p=some (.ins C dx (yj x v q))->Q .non H'
def BK(K:PySem.W.Frag):Sp:=λvs H Q _=>∃(p C dx:Addr)(x v u:V),vs=[.ref p,x,v,u]/\H p=some (.ins C dx [])/\gJ K C/\∀(q:Addr)(H':Hp),Kp p H H'->H q=none->H' q=some (.tup [v,u])->H' p=some (.ins C dx (yp x v u q))->Q .non H'
def Mx(C:Addr):Sp:=λvs H Q _=>∃(p dx:Addr),vs=[.ref p]/\H p=some (.ins C dx [])/\∀(q:Addr)(H':Hp),Kp p H H'->H q=none->H' q=some (.tup [])->H' p=some (.ins C dx (Ae (.str "all") q))->Q .non H'
def Mz(C:Addr):Sp:=λvs H Q _=>∃(p dx:Addr)(x:V),vs=[.ref p,x]/\H p=some (.ins C dx [])/\∀(q:Addr)(H':Hp),Kp p H H'->H q=none->H' q=some (.tup [])->H' p=some (.ins C dx (PL x q))->Q .non H'
def pX(C:Addr)(w:Str):Sp:=λvs H Q _=>∃(p dx:Addr)(v:V),vs=[.ref p,v]/\H p=some (.ins C dx [])/\∀(q:Addr)(H':Hp),Kp p H H'->H q=none->H' q=some (.tup [v])->H' p=some (.ins C dx (yj (.str w) v q))->Q .non H'
def BL(C:Addr)(w:Str):Sp:=λvs H Q _=>∃(p dx:Addr)(v u:V),vs=[.ref p,v,u]/\H p=some (.ins C dx [])/\∀(q:Addr)(H':Hp),Kp p H H'->H q=none->H' q=some (.tup [v,u])->H' p=some (.ins C dx (yp (.str w) v u q))->Q .non H'
inductive dH(cl:Hd->Addr)(H:Hp):Addr->Tr->Prop where
 |all {p q dx:Addr}:H p=some (.ins (cl .all) dx (Ae (.str "all") q))->H q=some (.tup [])->dH cl H p .all
 |mark {p q dx:Addr} {x:Str}:H p=some (.ins (cl .mark) dx (PL (.str x) q))->H q=some (.tup [])->dH cl H p (.mark x)
 |one {p q dx c:Addr} {i:Fin 7} {t:Tr}:H p=some (.ins (cl (.one i)) dx (yj (.str (w1 i)) (.ref c) q))->H q=some (.tup [.ref c])->dH cl H c t->dH cl H p (.one i t)
 |two {p q dx c d:Addr} {i:Fin 4} {l r:Tr}:H p=some (.ins (cl (.two i)) dx (yp (.str (w2 i)) (.ref c) (.ref d) q))->H q=some (.tup [.ref c,.ref d])->dH cl H c l->dH cl H d r->dH cl H p (.two i l r)
theorem dH.same(h:dH cl H p t)(s:Same H H'):dH cl H' p t:=by
 induction h with
 |all h1 h2=>exact .all (s _ _ h1) (s _ _ h2)
 |mark h1 h2=>exact .mark (s _ _ h1) (s _ _ h2)
 |one h1 h2 _ ih=>exact .one (s _ _ h1) (s _ _ h2) ih
 |two h1 h2 _ _ ih1 ih2=>exact .two (s _ _ h1) (s _ _ h2) ih1 ih2
def hd:Tr->Hd
 |.all=>.all
 |.mark _=>.mark
 |.one i _=>.one i
 |.two i _ _=>.two i
def hw:Tr->Str
 |.all=>"all"
 |.mark x=>x
 |.one i _=>w1 i
 |.two i _ _=>w2 i
def pts:Tr->List Tr
 |.all=>[]
 |.mark _=>[]
 |.one _ t=>[t]
 |.two _ l r=>[l,r]
theorem kw1:¬(("word":Str) = "parts"):=by decide +kernel
theorem kw2:¬(("word":Str) = "part"):=by decide +kernel
theorem kw3:¬(("word":Str) = "left"):=by decide +kernel
theorem kw4:¬(("word":Str) = "right"):=by decide +kernel
theorem kw5:¬(("word":Str) = "name"):=by decide +kernel
theorem kp2:¬(("parts":Str) = "part"):=by decide +kernel
theorem kp3:¬(("parts":Str) = "left"):=by decide +kernel
theorem kp4:¬(("parts":Str) = "right"):=by decide +kernel
theorem kp5:¬(("parts":Str) = "name"):=by decide +kernel
theorem VR(w:V)(q:Addr):(Ae w q).lookup ("word":Str)=some w:=by unfold Ae;rw[zP,if_neg kw1,zP,if_pos rfl]
theorem V0(w:V)(q:Addr):(Ae w q).lookup ("parts":Str)=some (.ref q):=by unfold Ae;rw[zP,if_pos rfl]
theorem V1(w:V)(q:Addr){m:Str}(h1:¬m = "parts")(h2:¬m = "word"):(Ae w q).lookup m=none:=by
 unfold Ae
 rw[zP,if_neg h1,zP,if_neg h2]
 rfl
theorem dH.look(h:dH cl H p t):∃(dx q:Addr)(fs:List (Str×V))(cs:List Addr),H p=some (.ins (cl (hd t)) dx fs)/\fs.lookup ("word":Str)=some (.str (hw t))/\fs.lookup ("parts":Str)=some (.ref q) /\
  (∀m:Str,¬m = "word"->¬m = "parts"->¬m = "part"->¬m = "left"->¬m = "right"->¬m = "name"->fs.lookup m=none)/\H q=some (.tup (cs.map V.ref))/\Paired (dH cl H) cs (pts t):=by
 cases h with
 |all h1 h2=>exact⟨_,_,_,[],h1,VR _ _,V0 _ _,λm a b _ _ _ _=>V1 _ _ b a,h2,.nil⟩
 |mark h1 h2 =>
  refine⟨_,_,_,[],h1,?_,?_,λm a b _ _ _ f=>?_,h2,.nil⟩
  ·unfold PL;rw[zP,if_neg kw5];exact VR _ _
  ·unfold PL;rw[zP,if_neg kp5];exact V0 _ _
  ·unfold PL;rw[zP,if_neg f];exact V1 _ _ b a
 |one h1 h2 h3 =>
  refine⟨_,_,_,[_],h1,?_,?_,λm a b c _ _ _=>?_,h2,.cons h3 .nil⟩
  ·unfold yj;rw[zP,if_neg kw2];exact VR _ _
  ·unfold yj;rw[zP,if_neg kp2];exact V0 _ _
  ·unfold yj;rw[zP,if_neg c];exact V1 _ _ b a
 |two h1 h2 h3 h4 =>
  refine⟨_,_,_,[_,_],h1,?_,?_,λm a b _ c d _=>?_,h2,.cons h3 (.cons h4 .nil)⟩
  ·unfold yp;rw[zP,if_neg kw4,zP,if_neg kw3];exact VR _ _
  ·unfold yp;rw[zP,if_neg kp4,zP,if_neg kp3];exact V0 _ _
  ·unfold yp;rw[zP,if_neg d,zP,if_neg c];exact V1 _ _ b a
def n1(i:Fin 7):Str:=(["Not","SomeNext","EachNext","SomeAlways","EachAlways","SomeEver","EachEver"]:List Str).getD i.val ad4
def n2(i:Fin 4):Str:=(["Both","Either","SomeTill","EachTill"]:List Str).getD i.val ad4
structure Ini(P:Program)(w:World)(K:PySem.W.Frag)(mg:Str->Option Value)(base:Heap)(k:Nat)(cl fi:Hd->Addr)(di:Hd->FuncData):Prop where
 made:∀h,Mk K (cl h) (fi h)
 iA:aq P w K mg base aO k (fi .all) (di .all) ["self"] (Mx (cl .all))
 bA:Binds K (di .all) ["self"] []
 iM:aq P w K mg base aO k (fi .mark) (di .mark) ["self","name"] (Mz (cl .mark))
 bM:Binds K (di .mark) ["self","name"] []
 i1:∀i,aq P w K mg base aO k (fi (.one i)) (di (.one i)) ["self","part"] (pX (cl (.one i)) (w1 i))
 b1:∀i,Binds K (di (.one i)) ["self","part"] []
 i2:∀i,aq P w K mg base aO k (fi (.two i)) (di (.two i)) ["self","left","right"] (BL (cl (.two i)) (w2 i))
 b2:∀i,Binds K (di (.two i)) ["self","left","right"] []
 mA:mg "All" = some (.ref (cl .all))
 mM:mg "Mark" = some (.ref (cl .mark))
 m1:∀i,mg (n1 i)=some (.ref (cl (.one i)))
 m2:∀i,mg (n2 i)=some (.ref (cl (.two i)))
theorem zQs(nx:H x=none)(nd:H dx=none):Same H (upd (upd H dx (.own x)) x (.ins C dx [])):=λb o e=>by
 rw[zV (zS e nx),zV (zS e nd)]
 exact e
theorem Y4(nx:H x=none)(nd:H dx=none)(k:Kp x (upd (upd H dx (.own x)) x (.ins C dx [])) H'):Same H H':=λb o e=>k b o (zS e nx) (zQs nx nd b o e)
end Sy
namespace Ts
open PySem L2 Sy
structure bh(cl:Hd->Addr) where
 t:Tr
def bF:Hd->Tr->Bool
 |.all,.all=>true
 |.mark,.mark _=>true
 |.one i,.one j _=>decide (j=i)
 |.two i,.two j _ _=>decide (j=i)
 |_,_=>false
def bh.parts(x:bh cl):List (bh cl):=(pts x.t).map bh.mk
def bh.name(x:bh cl):Option Str:=match x.t with
 |.mark s=>some s
 |_=>none
structure lZ(P:Program)(w:World)(K:PySem.W.Frag)(mg:Str->Option Value)(base:Heap)(k:Nat)(cl fi:Hd->Addr)(di:Hd->FuncData):Prop where
 ini:Ini P w K mg base k cl fi di
 kd:∀h,gJ K (cl h)
 jw:∀h h':Hd,∀t:Tr,hd t=h->kitOne K (.ref (cl h)) (.ref (cl h'))=some (bF h' t)
 c1:∀h,findIn K (.ref (cl h)) "__class__" = some (some (.builtin "object.__class__"))
 c2:specialIn K (.builtin "object.__class__") "__get__" = some (some (.builtin "getset_descriptor.__get__"))
 c3:takesIn K (.builtin "object.__class__")=some true
 c4:∀h,mroIn K (cl h) (.type "object")=some true
section
variable{K:PySem.W.Frag}{cl:Hd->Addr}
instance:Rp K (bh cl):=⟨λF v x=>∃p,v=.ref p/\dH cl F p x.t,λs ⟨p,h1,h2⟩=>⟨p,h1,h2.same s⟩⟩
instance:Nn K (bh cl):=⟨λ⟨_,h,_⟩=>by rw[h];intro e;cases e⟩
end
section
variable{K:PySem.W.Frag}{B:Bs}{F H H2:Hp}{O:Own}
theorem JD(k:Ok B F O H)(s:Same H H2)(hx:H x=none)(e:H2 x=some o):∀md:Md,reg B (ext F H H2) H2 md x=some o
 |.hp=>e
 |.fz=>by
  show ext F H H2 x=some o
  unfold ext
  rw[hx]
  exact e
 |.nw=>by
  show dif (ext F H H2) B.H0 x=some o
  rw[uw (k.h0.free hx)]
  unfold ext
  rw[hx]
  exact e
end
section
variable{P:Program}{w:World}{K:PySem.W.Frag}{mg:Str->Option Value}{base:Heap}{B:Bs}{sl:SL K}{md:Md}{te t1 t2:TE}{cl fi:Hd->Addr}{di:Hd->FuncData}{k:Nat}
theorem Y5(h:upd (upd H dx o1) x o2 q=none):H q=none:=by
 by_cases e1:q=x
 ·subst e1;rw[zR] at h;cases h
 ·rw[zV e1] at h
  by_cases e2:q=dx
  ·subst e2;rw[zR] at h;cases h
  ·rw[zV e2] at h;exact h
theorem GZ:Ex B sl md (OD (cl .all) (Mx (cl .all)) [] E0 bO) (some (bh.mk (cl:=cl) .all)):=λc hc F O H σ Q s kk=>by
 cases hc
 intro x dx nx nd ne
 refine⟨x,dx,rfl,zR,λq H2 k1 f0 e1 e2=>⟨rfl,?_⟩⟩
 have s2:=Y4 nx nd k1
 have g:=s.1.called s2
 exact kk (.ref x) _ H2 g ⟨x,rfl,.all (JD s.1 s2 nx e2 md) (JD s.1 s2 (Y5 f0) e1 md)⟩
theorem V2(h:Ex B sl md te m):Ex B sl md (OD (cl .mark) (Mz (cl .mark)) [] E0 (xZ te bO)) (m.bind λa=>some (bh.mk (cl:=cl) (.mark a))):=λc hc F O H σ Q s kk=>by
 cases m with
 |none=>cases hc
 |some a =>
  cases hc
  refine h a rfl F O H σ _ s λv F' H' g r1=>?_
  cases r1
  intro x dx nx nd ne
  refine⟨x,dx,.str a,rfl,zR,λq H2 k1 f0 e1 e2=>⟨rfl,?_⟩⟩
  have s2:=Y4 nx nd k1
  have g2:=g.ok.called s2
  exact kk (.ref x) _ H2 (g.trans g2) ⟨x,rfl,.mark (JD g.ok s2 nx e2 md) (JD g.ok s2 (Y5 f0) e1 md)⟩
theorem V3(i:Fin 7){m:Option (bh cl)}(h:Ex B sl md te m):Ex B sl md (OD (cl (.one i)) (pX (cl (.one i)) (w1 i)) [] E0 (xZ te bO)) (m.bind λa=>some (bh.mk (cl:=cl) (.one i a.t))):=λc hc F O H σ Q s kk=>by
 cases m with
 |none=>cases hc
 |some a =>
  cases hc
  refine h a rfl F O H σ _ s λv F' H' g r1=>?_
  obtain⟨p,rfl,sa⟩:=r1
  intro x dx nx nd ne
  refine⟨x,dx,.ref p,rfl,zR,λq H2 k1 f0 e1 e2=>⟨rfl,?_⟩⟩
  have s2:=Y4 nx nd k1
  have g2:=g.ok.called s2
  exact kk (.ref x) _ H2 (g.trans g2) ⟨x,rfl,.one (JD g.ok s2 nx e2 md) (JD g.ok s2 (Y5 f0) e1 md) (sa.same (xO g2 md))⟩
theorem yX(I:lZ P w K mg base k cl fi di)(hh:Hd){m:Option (bh cl)}(h:Ex B sl .hp te m):Ex B sl md (uo (Fy K (.ref (cl hh))) (xZ te (xZ (tC (.ref (cl hh))) bO))) (m.bind λa=>some (bF hh a.t)):=λc hc F O H σ Q s kk=>by
 cases m with
 |none=>cases hc
 |some a =>
  cases hc
  refine h a rfl F O H σ _ s λv F' H' g r1=>?_
  obtain⟨p,rfl,sa⟩:=r1
  obtain⟨dx,q,fs,cs,l1,_⟩:=sa.look
  exact⟨.ref p,.ref (cl hh),_,_,rfl,rfl,.ins l1 (I.kd (hd a.t)).cl (I.c1 _) I.c2 I.c3 (I.c4 _),I.jw (hd a.t) hh a.t rfl,kk _ F' H' g rfl⟩
theorem zOp(I:lZ P w K mg base k cl fi di){m:Option (bh cl)}(h:Ex B sl .hp te m):Ex B sl md (pJ K te "name") (m.bind λa=>a.name):=λc hc F O H σ Q s kk=>by
 cases m with
 |none=>cases hc
 |some a =>
  obtain⟨t⟩:=a
  cases t with
  |mark x =>
   cases hc
   refine h _ rfl F O H σ _ s λv F' H' g r1=>?_
   obtain⟨p,rfl,sa⟩:=r1
   cases sa with
   |mark e1 e2=>exact⟨p,_,_,_,_,rfl,e1,(I.kd .mark).cl,(I.kd .mark).nN,by unfold PL;rw[zP,if_pos rfl],kk _ F' H' g rfl⟩
  |_=>cases hc
theorem JF:∀{cs:List Addr}{ts:List Tr},Paired (dH cl F) cs ts->A2 (rp K F) (cs.map V.ref) (ts.map (bh.mk (cl:=cl)))
 |_,_,.nil=>trivial
 |_,_,.cons h r=>⟨⟨_,rfl,h⟩,JF r⟩
theorem zMr{n:Bool}(I:lZ P w K mg base k cl fi di){mi:Option (bh cl)}(h:Ex B sl (ju n) te mi):Ei B sl n (Km K (pJ K te "parts")) (mi.bind λa=>some a.parts):=λxs hx F O H σ R a kk=>by
 cases mi with
 |none=>cases hx
 |some y =>
  cases hx
  refine h y rfl F O H σ _ a λv F' H' gr r=>?_
  obtain⟨p,rfl,sa⟩:=r
  obtain⟨dx,q,fs,cs,l1,l2,l3,l4,l5,l6⟩:=sa.look
  have h2:A2 (rp K (reg B F' H' (ju n))) (cs.map V.ref) y.parts:=JF l6
  have e1:=Fz gr.ok n p _ l1
  refine⟨p,_,dx,fs,.ref q,rfl,e1,(I.kd _).cl,(I.kd _).nP,l3,q,rfl,⟨_,kj.of (Fz gr.ok n q _ l5)⟩,kk _ F' H' gr λi F2 O2 H2 sf k2=>?_⟩
  have hq:kj K H2 q (cs.map V.ref):=kj.of (k2.fh _ _ (sf _ _ (by cases n with|true=>exact aW _ _ l5|false=>exact l5)))
  refine⟨λhl=>⟨_,hq,by rw[h2.len];exact hl⟩,λx hx=>?_⟩
  obtain⟨w,hw,rw⟩:=h2.at2 hx
  refine⟨⟨_,w,hq,hw⟩,λv H3 yd=>?_⟩
  obtain⟨e,y'⟩:=yd
  subst e
  have:=(hw.symm.trans (y' _ hq))
  cases this
  exact⟨F2,.refl k2,Rp.mono (vY n sf) rw⟩
end
theorem zVl(K:PySem.W.Frag)(hl:PE X l tl)(h:X.K=K:=by rfl):PI X tg l (Km K tl):=by subst h;exact Ko hl
section
variable{K:PySem.W.Frag}{B:Bs}{sl:SL K}{md:Md}{te:TE}{α:Type}[Rp K α]
def BP{α:Type}(xs ys:List α):Option (List α):=if xs.length+ys.length<cap then some (xs++ys) else none
theorem zNo{n:Bool}{xs:List α}{m:Option (List α)}(i:Nat)(hs:sl[i]?=some (.ow n xs))(hh:sl.all (λs=>!kE s)=true)(h:Ex B sl (ju n) te m) :
  Sn B sl (Ot (QX K "list" Xc (eO i) (xZ te bO))) (λys=>sl.set i (.ow n ys)) (m.bind λa=>BP xs a):=λys ha G D σ H s k=>by
 cases m with
 |none=>cases ha
 |some a =>
  have ha':BP xs a=some ys:=ha
  unfold BP at ha'
  split at ha'
  case isFalse=>cases ha'
  rename_i hl
  cases ha'
  obtain⟨F,O,g,z⟩:=s
  obtain⟨p,vs,h1,h2,h3,_⟩:=z.chg hs hh
  refine⟨_,h1,.inl ⟨rfl,_,bw.of h2⟩,?_⟩
  refine h a rfl F O H σ _ z λv F' H' gr r=>?_
  obtain⟨p',vs',h1',h2',h3',h4'⟩:=(z.grow gr).chg hs hh
  have e:=h1.symm.trans h1'
  cases e
  obtain⟨q,us,rfl,z1,z2⟩:=r
  obtain⟨O',z'⟩:=h4' (vs'++us) (xs++a) (h3'.app z2)
  exact⟨p,q,_,_,rfl,rfl,h2',Fz gr.ok n q _ z1,by rw[h3'.len,z2.len];exact ach (K_ hl),k _ _ ⟨F',O',g.trans gr.ff,z'⟩⟩
end
end Ts
namespace SQ
open PySem PySem.Spec PyProof.Rows
set_option maxRecDepth 100000
section
variable{prog:Program}{w:World}{A:Around}{E:Value->Shared->Prop}{s:Shared}
theorem zUr{Q:Option Obj->Shared->Prop}(h:Q (s.heap.get? a) s):wpAny (model prog w) A (loadIfAlive a) Q E s:=λ_ _ _=>h
abbrev pY(h:Heap)(z TI TO T:Addr)(b:Bool):Prop :=
 h.get? z=some { cls:=.type "zip",dict:=none,data:=.fields #[rawInt T,.bool b,.bool false,.ref TI,.ref TO],slots:=#[] }
theorem zRa{Q:Bool->Shared->Prop}(hz:pY s.heap z TI TO T b)(hT:s.heap.get? T=some o)(h:∀h',pY h' z TI TO T true->SameBut z s.heap h'->Q false { s with heap:=h' }) :
  wpAny (model prog w) A (ab0 (.ref z)) Q E s:=by
 unfold ab0
 refine aan (aeb hz rfl (x:=rawInt T) rfl ?_)
 show wpAny _ _ (loadIfAlive ((T:Int)).toNat >>= λo=>if o.isNone=true then pure true else(field (.ref z) 1 >>= λx=>if(x != .bool true)=true then(setField (.ref z) 1 (.bool true) >>= λ_=>pure false) else pure false)) _ _ _
 refine aan (zUr ?_)
 rw[abr,hT]
 simp only[Option.isNone_some,aaw,↓reduceIte]
 refine aan (aeb hz rfl (x:=.bool b) rfl ?_)
 cases b with
 |true =>
  rw[if_neg (by decide)]
  exact aap (h s.heap hz (SameBut.refl z s.heap))
 |false =>
  rw[if_pos (by decide)]
  exact aan (wpAny_setField_rec hz (by simp) λh₁ hz₁ hs₁=>aap (h h₁ hz₁ hs₁))
theorem zOa{Q:Value->Shared->Prop}(D:ZipApart z TI TO i1 i2 l1 l2)(hz:pY s.heap z TI TO T bb)(hT:s.heap.get? T=some o)(hTI:IsPair s.heap TI (.ref i1) (.ref i2))(h1:s.heap.IsListIter i1 l1 k1)(h2:s.heap.IsListIter i2 l2 k2)(hl1:s.heap.IsList l1 xs)(hl2:s.heap.IsList l2 ys)(hx:xs[k1]?=some x)(hy:ys[k2]?=some y)(hQ:∀h',pY h' z TI TO T true->h'.IsListIter i1 l1 (k1+1)->h'.IsListIter i2 l2 (k2+1)->IsPair h' s.heap.objs.size x y->h'.objs.size=s.heap.objs.size+1 ->
   (∀c o,c≠z->c≠i1->c≠i2->s.heap.get? c=some o->h'.get? c=some o)->Q (.ref s.heap.objs.size) { s with heap:=h' }) :
  wpAny (model prog w) A (Builtin.«zip.__next__» ⟨[.ref z],[]⟩) (λfin s'=>∃v,fin=.done (.ret v)/\Q v s') E s:=by
 show wpAny _ _ (field (.ref z) 2 >>= _) _ _ _
 refine aan (aeb hz rfl (x:=.bool false) rfl ?_)
 show wpAny _ _ (field (.ref z) 3 >>= _) _ _ _
 refine aan (aeb hz rfl (x:=.ref TI) rfl ?_)
 refine aan (ad9 hTI rfl ?_)
 show wpAny _ _ (ab0 (.ref z) >>= _) _ _ _
 refine aan (zRa hz hT λh₁ hz₁ hs₁=>?_)
 simp only[aaw,↓reduceIte]
 rw[<-forIn_toList]
 refine aan ?_
 simp only[forIn_cons,forIn_nil]
 refine aan (aan (abj ?_))
 show wpAny _ _ (adt (.ref i1) >>= _) _ _ _
 refine aan (wpAny_nextOf_list_item (h1.extBut hs₁.extBut D.i1z) (hl1.extBut hs₁.extBut D.l1z) hx λh₂ h1₂ hs₂=>aap ?_)
 refine aap ?_
 refine aan (aan (abj ?_))
 show wpAny _ _ (adt (.ref i2) >>= _) _ _ _
 refine aan (wpAny_nextOf_list_item ((h2.extBut hs₁.extBut D.i2z).extBut hs₂.extBut D.i12.symm) ((hl2.extBut hs₁.extBut D.l2z).extBut hs₂.extBut D.l2i1) hy λh₄ h2₄ hs₄=>aap ?_)
 refine aap (aap ?_)
 refine aan (wpAny_newTuple ?_ (by show 2<=sizeLine;decide))
 have hsz:h₄.objs.size=s.heap.objs.size:=by rw[hs₄.1,hs₂.1,hs₁.1]
 have hz₄:pY h₄ z TI TO T true:=hs₄.extBut _ _ D.i2z.symm (hs₂.extBut _ _ D.i1z.symm hz₁)
 refine aap ⟨_,rfl,?_⟩
 show Q (.ref h₄.objs.size) _
 rw[hsz]
 refine hQ _ (get?_push_of_some _ hz₄) ((h1₂.extBut hs₄.extBut D.i12).at λo e=>get?_push_of_some _ e) (h2₄.at λo e=>get?_push_of_some _ e) ?_ (by rw[size_push,hsz]) λc o c1 c3 c4 e=>get?_push_of_some _ (hs₄.extBut _ _ c4 (hs₂.extBut _ _ c3 (hs₁.extBut _ _ c1 e)))
 rw[<-hsz]
 exact get?_push_size _ rfl
theorem zQn(hh:A.handled=none)(D:ZipApart z TI TO i1 i2 l1 l2)(hz:pY s.heap z TI TO T bb)(hT:s.heap.get? T=some o)(hTI:IsPair s.heap TI (.ref i1) (.ref i2))(h1:s.heap.IsListIter i1 l1 k1)(hl1:s.heap.IsList l1 xs)(hend:xs[k1]?=none)(hE:∀h' e,(∀c o,c≠z->c≠i1->s.heap.get? c=some o->h'.get? c=some o)->(∃o,h'.get? e=some o/\o.cls=.type "StopIteration")->E (.ref e) { s with heap:=h' }) :
  wpAny (model prog w) A (Builtin.«zip.__next__» ⟨[.ref z],[]⟩) Q E s:=by
 show wpAny _ _ (field (.ref z) 2 >>= _) _ _ _
 refine aan (aeb hz rfl (x:=.bool false) rfl ?_)
 show wpAny _ _ (field (.ref z) 3 >>= _) _ _ _
 refine aan (aeb hz rfl (x:=.ref TI) rfl ?_)
 refine aan (ad9 hTI rfl ?_)
 show wpAny _ _ (ab0 (.ref z) >>= _) _ _ _
 refine aan (zRa hz hT λh₁ hz₁ hs₁=>?_)
 simp only[aaw,↓reduceIte]
 rw[<-forIn_toList]
 refine aan ?_
 simp only[forIn_cons,forIn_nil]
 refine aan (aan (abj ?_))
 show wpAny _ _ (adt (.ref i1) >>= _) _ _ _
 refine aan (wpAny_nextOf_list_end hh (h1.extBut hs₁.extBut D.i1z) (hl1.extBut hs₁.extBut D.l1z) hend λh₂ e hs₂ he=>?_)
 exact hE h₂ e (λc o c1 c3 x=>hs₂ _ _ c3 (hs₁.extBut _ _ c1 x)) he
structure SX(h:Heap)(S z TI TO i1 i2 l1 l2 N i:Nat)(xs ys acc:Array Value):Prop where
 sz:h.objs.size=N+i
 zz:(i=0/\IsZip h z TI TO .none/\∃a b,IsPair h TO a b)\/(0<i/\∃b,pY h z TI TO N b)
 ti:IsPair h TI (.ref i1) (.ref i2)
 h1:h.IsListIter i1 l1 i
 h2:h.IsListIter i2 l2 i
 q1:h.IsList l1 xs
 q2:h.IsList l2 ys
 ls:∃c,h.get? S=some { cls:=.type "list",dict:=none,data:=.seq acc c,slots:=#[] }
 al:acc.toList=(aat i).map λj=>abe (N+j)
 tp:∀j x y,j<i->xs[j]?=some x->ys[j]?=some y->IsPair h (N+j) x y
theorem SX.fr{h':Heap}(Z:SX h S z TI TO i1 i2 l1 l2 N i xs ys acc)(hne:∀b∈[z,TI,TO,i1,i2,l1,l2],b≠S)(hN:S<N)(hs:h'.objs.size=h.objs.size)(ot:∀b o,b≠S->h.get? b=some o->h'.get? b=some o)(hS:h'.get? S=some { cls:=.type "list",dict:=none,data:=.seq acc c,slots:=#[] }):SX h' S z TI TO i1 i2 l1 l2 N i xs ys acc:=by
 obtain⟨sz,zz,ti,h1,h2,q1,q2,_,al,tp⟩:=Z
 refine⟨by rw[hs];exact sz,?_,ot _ _ (hne _ (by simp)) ti,h1.at λo e=>ot _ o (hne _ (by simp)) e,h2.at λo e=>ot _ o (hne _ (by simp)) e,q1.at λo e=>ot _ o (hne _ (by simp)) e,q2.at λo e=>ot _ o (hne _ (by simp)) e,⟨_,hS⟩,al,λj x y hj a b=>ot _ _ (by omega) (tp j x y hj a b)⟩
 rcases zz with⟨z0,z1,a,b,z2⟩|⟨z0,b,z1⟩
 ·exact .inl ⟨z0,ot _ _ (hne _ (by simp)) z1,a,b,ot _ _ (hne _ (by simp)) z2⟩
 ·exact .inr ⟨z0,b,ot _ _ (hne _ (by simp)) z1⟩
variable{R:Result->Shared->Prop}
theorem zT3{S z TI TO i1 i2 l1 l2 N n:Nat}{xs ys:Array Value}{res:Value}(hh:A.handled=none)(D:ZipApart z TI TO i1 i2 l1 l2)(hne:∀b∈[z,TI,TO,i1,i2,l1,l2],b≠S)(hlt:∀b∈[S,z,TI,TO,i1,i2,l1,l2],b<N)(hx:xs.size=n)(hy:ys.size=n)(hn:n<=1000) :
  ∀(k i:Nat)(s:Shared)(acc:Array Value),n-i=k->i<=n->SX s.heap S z TI TO i1 i2 l1 l2 N i xs ys acc ->
  (∀h' c,(∀b o,b∉[S,z,TI,TO,i1,i2]->s.heap.get? b=some o->h'.get? b=some o)->h'.get? S=some { cls:=.type "list",dict:=none,data:=.seq ((aat n).map λj=>abe (N+j)).toArray c,slots:=#[] } ->
   (∀j x y,j<n->xs[j]?=some x->ys[j]?=some y->IsPair h' (N+j) x y)->R (.ok (.ret res)) { s with heap:=h' }) ->
  codeAny (model prog w) A (.builtin "list.extend.loop" ⟨[.ref S,.ref z,res],[]⟩) R s:=by
 have lt:∀{b:Nat},b∈[S,z,TI,TO,i1,i2,l1,l2]->∀j,N+j≠b:=λhb j e=>by have:=hlt _ hb;omega
 intro k
 induction k with
 |zero =>
  intro i s acc hk hi Z hR
  have hin:i=n:=by omega
  subst hin
  obtain⟨sz,zz,ti,h1,h2,q1,q2,⟨c,ls⟩,al,tp⟩:=Z
  refine acr F.entry_extend_loop ?_
  rw[ab4 acs _]
  show wpAny _ A.in1 (pyNext (.ref z) >>= _) _ _ s
  have ea:acc=((aat i).map λj=>abe (N+j)).toArray:=Array.toList_inj.mp al
  rcases zz with⟨z0,z1,a,b,z2⟩|⟨z0,b,z1⟩
  ·refine aan (wpAny_pyNext_zip_end (by simp[hh]) D z1 ti z2 h1 h2 q1 q2 (.inl (by rw[aa9];omega)) λh' kk=>aap (hR h' c (λb o hb e=>kk b o (λz=>hb (by simp[z])) (λz=>hb (by simp[z])) (λz=>hb (by simp[z])) (λz=>hb (by simp[z])) e) ?_ λj x y hj=>by omega))
   rw[<-ea]
   exact kk _ _ (abt (hne z (by simp))) (abt (hne TO (by simp))) (abt (hne i1 (by simp))) (abt (hne i2 (by simp))) ls
  ·have hT:∃o,s.heap.get? N=some o:=by
    have x0:xs[0]?=some xs[0]:=aar (by omega)
    have y0:ys[0]?=some ys[0]:=aar (by omega)
    exact⟨_,tp 0 _ _ z0 x0 y0⟩
   obtain⟨oT,hT⟩:=hT
   have ty:s.TypeIs (.ref z) "zip":=⟨_,z1,rfl⟩
   refine aan ?_
   unfold pyNext
   refine aan (ae8 (ad5 (name:=ac2 "__next__") ty aec
    (acf aec ty F.entry_zip_next (zQn (by simp[hh]) D z1 hT ti h1 q1 (by rw[aa9];omega) λh' e kk he=>?_) (F.args_zip_next_1 _))))
   obtain⟨o,ho,hc⟩:=he
   refine aan (adq (T:="StopIteration") (b:=true) ⟨o,ho,hc⟩ isSubtype_stop (aap (aap (hR h' c (λb o hb e=>kk b o (λz=>hb (by simp[z])) (λz=>hb (by simp[z])) e) ?_ λj x y hj a b=>kk _ _ (lt (by simp) j) (lt (by simp) j) (tp j x y hj a b)))))
   rw[<-ea]
   exact kk _ _ (abt (hne z (by simp))) (abt (hne i1 (by simp))) ls
 |succ k ih =>
  intro i s acc hk hi Z hR
  have hl:i<n:=by omega
  obtain⟨sz,zz,ti,h1,h2,q1,q2,⟨c,ls⟩,al,tp⟩:=Z
  refine acr F.entry_extend_loop ?_
  rw[ab4 acs _]
  show wpAny _ A.in1 (pyNext (.ref z) >>= _) _ _ s
  have xi:xs[i]?=some xs[i]:=aar (by omega)
  have yi:ys[i]?=some ys[i]:=aar (by omega)
  have asz:acc.size=i:=by rw[<-length_toList,al];simp
  have big:1000<=sizeLine:=by decide
  have szl:acc.size<=sizeLine:=by omega
  have go:∀h',(pY h' z TI TO N true\/pY h' z TI TO N false)->h'.IsListIter i1 l1 (i+1)->h'.IsListIter i2 l2 (i+1)->IsPair h' s.heap.objs.size xs[i] ys[i]->h'.objs.size=s.heap.objs.size+1 ->
    (∀c o,c≠z->c≠TO->c≠i1->c≠i2->s.heap.get? c=some o->h'.get? c=some o)->wpAny (model prog w) A.in1 (updateSeq S (·.push (.ref s.heap.objs.size)) >>= λ_=>again (.builtin "list.extend.loop" ⟨[.ref S,.ref z,res],[]⟩)) (λfin s'=>match fin with|.done f=>R (.ok f) s'|.again c'=>c'.quiet=true/\codeAny (model prog w) A c' R s') (λe s'=>R (.error e) s') { s with heap:=h' }:=λh' hz a1 a2 a3 a4 kk=>by
   have lS:h'.get? S=some { cls:=.type "list",dict:=none,data:=.seq acc c,slots:=#[] }:=kk _ _ (abt (hne z (by simp))) (abt (hne TO (by simp))) (abt (hne i1 (by simp))) (abt (hne i2 (by simp))) ls
   have ot:∀b o,b≠S->h'.get? b=some o->(h'.update S (abw (·.push (abe s.heap.objs.size)))).get? b=some o:=λb o n e=>(get?_update_other _ _ (abt n)).trans e
   have kL:∀b o,b≠S->b≠z->b≠TO->b≠i1->b≠i2->s.heap.get? b=some o->(h'.update S (abw (·.push (abe s.heap.objs.size)))).get? b=some o:=λb o n0 n1 n2 n3 n4 e=>ot b o n0 (kk b o n1 n2 n3 n4 e)
   refine aan (ac9 (s:={ s with heap:=h' }) lS rfl (aap ⟨adb acs _,ih (i+1) _ (acc.push (.ref s.heap.objs.size)) (by omega) hl ⟨?_,.inr ⟨aeg _,?_⟩,kL _ _ (hne _ (by simp)) D.TIz D.TITO D.TIi1 D.TIi2 ti,a1.at λo e=>ot _ o (hne _ (by simp)) e,a2.at λo e=>ot _ o (hne _ (by simp)) e,q1.at λo e=>kL _ o (hne _ (by simp)) D.l1z D.l1TO D.l1i1 D.l1i2 e,q2.at λo e=>kL _ o (hne _ (by simp)) D.l2z D.l2TO D.l2i1 D.l2i2 e,⟨_,get?_update_self _ lS rfl⟩,?_,λj x y hj a b=>?_⟩ λh2' c2 k2 e2 p2=>hR h2' c2 (λb o hb e=>k2 b o hb ?_) e2 p2⟩) szl)
   ·show(h'.update S _).objs.size=_
    rw[size_update,a4,sz];omega
   ·rcases hz with hz|hz
    ·exact⟨true,ot _ _ (hne _ (by simp)) hz⟩
    ·exact⟨false,ot _ _ (hne _ (by simp)) hz⟩
   ·rw[toList_push,al,range_succ,map_append,sz];rfl
   ·by_cases hji:j=i
    ·subst hji
     rw[xi] at a
     rw[yi] at b
     cases a
     cases b
     rw[<-sz]
     exact ot _ _ (by rw[sz];exact lt (by simp) j) a3
    ·exact kL _ _ (lt (by simp) j) (lt (by simp) j) (lt (by simp) j) (lt (by simp) j) (lt (by simp) j) (tp j x y (by omega) a b)
   ·exact kL b o (λz=>hb (by simp[z])) (λz=>hb (by simp[z])) (λz=>hb (by simp[z])) (λz=>hb (by simp[z])) (λz=>hb (by simp[z])) e
  rcases zz with⟨z0,z1,a,b,z2⟩|⟨z0,b,z1⟩
  ·refine aan (wpAny_pyNext_zip_item D z1 ti z2 h1 h2 q1 q2 xi yi λh' b1 b2 b3 b4 b5 b6 b7=>go h' (.inr ?_) b3 b4 b5 b6 b7)
   have e0:s.heap.objs.size=N:=by rw[sz,z0,Nat.add_zero]
   rw[e0] at b1
   exact b1
  ·have hT:∃o,s.heap.get? N=some o:=by
    have x0:xs[0]?=some xs[0]:=aar (by omega)
    have y0:ys[0]?=some ys[0]:=aar (by omega)
    exact⟨_,tp 0 _ _ z0 x0 y0⟩
   obtain⟨oT,hT⟩:=hT
   have ty:s.TypeIs (.ref z) "zip":=⟨_,z1,rfl⟩
   refine aan ?_
   unfold pyNext
   exact aan (ae8 (ad5 (name:=ac2 "__next__") ty aec
    (acf aec ty F.entry_zip_next
     (zOa D z1 hT ti h1 h2 q1 q2 xi yi λh' b1 b3 b4 b5 b6 b7=>aap (go h' (.inl b1) b3 b4 b5 b6 λc o c1 _ c3 c4 e=>b7 c o c1 c3 c4 e)) (F.args_zip_next_1 _))))
theorem zM7:typeLookup (.type "zip") "__len__" = pure none:=by rw[ady,acy];kernel_rfl
theorem zKk:typeLookup (.type "zip") "__length_hint__" = pure none:=by rw[ady,acy];kernel_rfl
theorem zOn{xs ys:Array Value}(hh:A.handled=none)(D:ZipApart z TI TO i1 i2 l1 l2)(hne:∀b∈[z,TI,TO,i1,i2,l1,l2],b≠S)(hlt:∀b∈[S,z,TI,TO,i1,i2,l1,l2],b<N)(hx:xs.size=n)(hy:ys.size=n)(hn:n<=1000)(hz:IsZip s.heap z TI TO .none)(hS:s.heap.get? S=some { cls:=.type "list",data:=.seq #[] c₀ })(Z:SX s.heap S z TI TO i1 i2 l1 l2 N 0 xs ys #[])(hR:∀h' c,(∀b o,b∉[S,z,TI,TO,i1,i2]->s.heap.get? b=some o->h'.get? b=some o)->h'.get? S=some { cls:=.type "list",dict:=none,data:=.seq ((aat n).map λj=>abe (N+j)).toArray c,slots:=#[] } ->
   (∀j x y,j<n->xs[j]?=some x->ys[j]?=some y->IsPair h' (N+j) x y)->R (.ok (.ret res)) { s with heap:=h' }) :
  wpAny (model prog w) A.in1 (abx (.ref S) (.ref z) res)
   (λfin s'=>match fin with|.done f=>R (.ok f) s'|.again c'=>c'.quiet=true/\codeAny (model prog w) A c' R s') (λe s'=>R (.error e) s') s:=by
 have hT:s.TypeIs (.ref z) "zip":=⟨_,hz,rfl⟩
 have hSI:S≠z:=abt (hne z (by simp))
 unfold abx
 refine aan (afl hT ?_)
 have h1:ac4 (.ref S) (.ref z)=false:=by simp[ac4,hSI]
 have h2:(acw "zip" == acw "list")=false:=by decide
 have h3:(acw "zip" == acw "tuple")=false:=by decide
 simp only[h1,h2,h3,Bool.or_false,aaw,if_false]
 refine aan (wpAny_pyIter_zip hz ?_)
 refine aan (abj ?_)
 unfold acu
 refine aan (aez hT zM7 ?_)
 show wpAny _ A.in1 (specialOf (abe z) (ac2 "__length_hint__") >>= _) _ _ _
 refine aan (aez hT zKk ?_)
 refine aap ?_
 show wpAny _ A.in1 (rule "list.extend.makes-room" >>= λ_=>Builtin.List.listTouch (.ref S) >>= λ_ =>
  again (.builtin "list.extend.loop" ⟨[.ref S,.ref z,res],[]⟩)) _ _ _
 refine aan (ad1 ?_)
 refine aan ?_
 show wpAny _ A.in1 (updateSeq S (·.push .none) >>= λ_=>updateSeq S (·.pop)) _ _ _
 refine aan (ac9 hS rfl ?_)
 have hS₂:=get?_update_self (abw (·.push ac5)) hS rfl
 refine ac9 (hz:=by seq_fits) hS₂ rfl ?_
 have hS₃:=get?_update_self (abw (·.pop)) hS₂ rfl
 have oth:∀b o,b≠S->s.heap.get? b=some o->((s.heap.update S (abw (·.push ac5))).update S (abw (·.pop))).get? b=some o :=
  λb o hb e=>(get?_update_other _ _ (abt hb)).trans ((get?_update_other _ _ (abt hb)).trans e)
 refine aap ⟨adb acs _,zT3 hh D hne hlt hx hy hn n 0 _ #[] rfl (abf _) (Z.fr hne (hlt S (by simp)) (by rw[size_update,size_update]) oth hS₃) λh' c k e p=>?_⟩
 exact hR h' c (λb o hb e=>k b o hb (oth b o (λz=>hb (by simp[z])) e)) e p
end
section
variable{prog:Program}{w:World}{A:Around}{E:Value->Shared->Prop}{s:Shared}
theorem zIe{xs ys:Array Value}{Q:Value->Shared->Prop}(hh:A.handled=none)(D:ZipApart z TI TO i1 i2 l1 l2)(hlt:∀b∈[z,TI,TO,i1,i2,l1,l2],b<s.heap.objs.size)(hx:xs.size=n)(hy:ys.size=n)(hn:n<=1000)(hz:IsZip s.heap z TI TO .none)(hTI:IsPair s.heap TI (.ref i1) (.ref i2))(hTO:IsPair s.heap TO a b)(h1:s.heap.IsListIter i1 l1 0)(h2:s.heap.IsListIter i2 l2 0)(q1:s.heap.IsList l1 xs)(q2:s.heap.IsList l2 ys)(h:∀h' c,(∀b o,b∉[z,TI,TO,i1,i2]->s.heap.get? b=some o->h'.get? b=some o)->h'.get? s.heap.objs.size=some { cls:=.type "list",dict:=none,data:=.seq ((aat n).map λj=>abe (s.heap.objs.size+1+j)).toArray c,slots:=#[] } ->
   (∀j x y,j<n->xs[j]?=some x->ys[j]?=some y->IsPair h' (s.heap.objs.size+1+j) x y)->Q (.ref s.heap.objs.size) { s with heap:=h' }) :
  wpAny (model prog w) A (call (.type "list") [.ref z]) Q E s:=by
 refine callType_codes (Q₁:=λobj s₁=>obj=.ref s.heap.objs.size/\s₁={ s with heap:=s.heap.push { cls:=.type "list",data:=.seq #[] } }) F.called_list (F.typeCall_list_1 _) F.entry_list_init
  (code_list_new _ ⟨rfl,rfl⟩) λobj s₁ h₁=>?_
 obtain⟨rfl,rfl⟩:=h₁
 have hS:(s.heap.push { cls:=.type "list",data:=.seq #[] }).get? s.heap.objs.size=some { cls:=.type "list",data:=.seq #[] }:=get?_push_size _ rfl
 refine⟨⟨_,hS,rfl⟩,F.args_list_init_2 _ _,?_⟩
 have up:∀c o,s.heap.get? c=some o->(s.heap.push { cls:=.type "list",data:=.seq #[] }).get? c=some o:=λc o e=>get?_push_of_some _ e
 generalize hS0:s.heap.objs.size=S at *
 have sz1:(s.heap.push { cls:=.type "list",data:=.seq #[] }).objs.size=S+1:=by rw[size_push,hS0]
 generalize hpp:s.heap.push { cls:=.type "list",data:=.seq #[] }=hp at *
 show wpAny _ A.in1.in1 (do let old <-Builtin.List.listItems (.ref S);Builtin.List.listUpdate (.ref S) (λ_=>#[]);letGo old.toList.reverse;abx (.ref S) (.ref z) .none) _ _ _
 refine aan ?_
 unfold Builtin.List.listItems
 refine aan (ad9 (s:={ s with heap:=hp }) hS rfl (aap ?_))
 show wpAny _ A.in1.in1 (updateSeq S (λ_=>#[]) >>= λ_=>letGo (#[]:Array Value).toList.reverse >>= λ_=>abx (.ref S) (.ref z) .none) _ _ _
 refine aan (ac9 (s:={ s with heap:=hp }) hS rfl ?_)
 have hS₂:=get?_update_self (abw (λ_=>(#[]:Array Value))) hS rfl
 have oth:∀b o,b≠S->hp.get? b=some o->(hp.update S (abw (λ_=>(#[]:Array Value)))).get? b=some o:=λb o hb e=>(get?_update_other _ _ (abt hb)).trans e
 have JG:∀b o,b∈[z,TI,TO,i1,i2,l1,l2]->s.heap.get? b=some o->(hp.update S (abw (λ_=>(#[]:Array Value)))).get? b=some o:=λb o hb e=>oth b o (aav (hlt b hb)) (up b o e)
 refine aan (wpAny_letGo ?_)
 have hne:∀b∈[z,TI,TO,i1,i2,l1,l2],b≠S:=λb hb=>aav (hlt b hb)
 refine zOn (s:={ s with heap:=_ }) (N:=S+1) (by simp[hh]) D hne (λb hb=>?_) hx hy hn (JG _ _ (by simp) hz) hS₂ ⟨by rw[size_update,sz1],.inl ⟨rfl,JG _ _ (by simp) hz,a,b,JG _ _ (by simp) hTO⟩,JG _ _ (by simp) hTI,h1.at λo e=>JG _ o (by simp) e,h2.at λo e=>JG _ o (by simp) e,q1.at λo e=>JG _ o (by simp) e,q2.at λo e=>JG _ o (by simp) e,⟨_,hS₂⟩,rfl,λj x y hj=>absurd hj (aed _)⟩ λh' c k e p=>⟨rfl,h h' c (λb o hb e=>?_) e p⟩
 ·rcases mem_cons.mp hb with rfl|hb
  ·exact acv _
  ·exact ade (hlt b hb)
 ·have hbS:b≠S:=by rw[<-hS0];exact aav (lt_size e)
  exact k b o (λz=>(mem_cons.mp z).elim hbS hb) (oth b o hbS (up b o e))
end
end SQ
namespace L2
open PySem PySem.Spec PyProof.Rows SQ
theorem Inv.BR{h':Heap}(I:Inv X pins σ H s)(k:∀b u,s.heap.get? b=some u->h'.get? b=some u)(hH:∀b,b<s.heap.objs.size->H' b=H b)(sm:Same H H')(new:∀b o,H' b=some o->s.heap.objs.size<=b->aZ X.prog X.w H' h' b o):Inv X pins σ H' { s with heap:=h',toks:=t' }:=by
 have U:Un (frs X.stack) [] H H' s.heap h' :=
  ⟨λb o q _ _ _=>k b o q,λb o q _ _ _=>⟨o.slots,k b o q⟩,λb o q n _=>by rw[hH b (lt_size q)];exact n,λb o q _=>⟨o,k b o q⟩,
   λb ys q=>sm _ _ q,λb o ys q=>sm _ _ q,λb ps q=>⟨#[],by rw[sm _ _ q];simp⟩⟩
 have ok:gQ X.prog X.w H' h':=λb o q=>by
  by_cases hb:b<s.heap.objs.size
  ·rw[hH b hb] at q
   exact(I.hok b o q).stay (λc v _ z=>k c v z) (λc z=>sm _ _ z) λc ys z=>sm _ _ z
  ·exact new b o q (Nat.le_of_not_lt hb)
 exact I.call (h':=h') (g':=s.gens) (t':=t') (d':=s.drawn) (ch:=[]) U ok I.bare λb hb=>by cases hb
def zLw(K:PySem.W.Frag)(ta:TA):TE:=λσ H Q=>ta σ H λvs H1=>∃(a b:Addr)(xs ys:List V),vs=[.ref a,.ref b]/\bw K H1 a xs/\bw K H1 b ys/\xs.length=ys.length/\xs.length<=1000 /\
 ∀(l:Addr)(ts:List Addr)(H2:Hp),H1 l=none->Same H1 H2->H2 l=some (.lst (ts.map V.ref))->ts.length=xs.length->(∀(i:Nat) t x y,ts[i]?=some t->xs[i]?=some x->ys[i]?=some y->H1 t=none/\H2 t=some (.tup [x,y]))->Q (.ref l) H2
def mQ(H:Hp)(S:Nat)(xs ys:List V)(b:Nat):Option HO:=if b=S then some (.lst ((aat xs.length).map λj=>V.ref (S+1+j))) else if S<b/\b<=S+xs.length then some (.tup [xs.getD (b-S-1) .non,ys.getD (b-S-1) .non]) else H b
theorem G3(H:Hp)(S:Nat)(xs ys:List V)(j:Nat)(hj:j<xs.length):mQ H S xs ys (S+1+j)=some (.tup [xs.getD j .non,ys.getD j .non]):=by
 have e:S+1+j-S-1=j:=by omega
 unfold mQ
 rw[if_neg (by omega),if_pos (by omega),e]
theorem MF(H:Hp)(S:Nat)(xs ys:List V):mQ H S xs ys S=some (.lst ((aat xs.length).map λj=>V.ref (S+1+j))):=by unfold mQ;rw[if_pos rfl]
theorem G4(H:Hp)(S:Nat)(xs ys:List V)(b:Nat)(hb:b<S):mQ H S xs ys b=H b:=by
 unfold mQ
 rw[if_neg (by omega),if_neg (by omega)]
theorem zM8(H:Hp)(S:Nat)(xs ys:List V)(b:Nat)(o:HO)(e:mQ H S xs ys b=some o):(b=S/\o=.lst ((aat xs.length).map λj=>V.ref (S+1+j)))\/(∃j,j<xs.length/\b=S+1+j/\o=.tup [xs.getD j .non,ys.getD j .non])\/H b=some o:=by
 unfold mQ at e
 split at e
 ·rename_i h;exact .inl ⟨h,(aay e).symm⟩
 ·split at e
  ·rename_i h1 h2
   exact .inr (.inl ⟨b-S-1,by omega,by omega,(aay e).symm⟩)
  ·exact .inr (.inr e)
theorem zF6(S:Nat):∀(l:List Nat),Vals (l.map λj=>V.ref (S+1+j)) (l.map λj=>abe (S+1+j))
 |[]=>.nil
 |j::l=>.cons rfl (zF6 S l)
theorem sI:bootBuiltins "list" = some (.type "list"):=by decide +kernel
theorem zNy{X:Cx}(K:PySem.W.Frag)(hc:X.calm=true)(hm:X.mg "list" = none)(hmz:X.mg "zip" = none)(ha:PA X [a,b] ta)(hK:X.K=K:=by rfl)(hg:Gl X "list":=by rfl)(hgz:Gl X "zip":=by rfl)(hs0:starEach [.Call (.Name "zip" p2) [a,b] [] pos2] X.env=[(false,eval (.Call (.Name "zip" p2) [a,b] [] pos2) X.env)]:=by rfl)(hs:starEach [a,b] X.env=[(false,eval a X.env),(false,eval b X.env)]:=by rfl)(hs2:starEach [b] X.env=[(false,eval b X.env)]:=by rfl) :
  PE X (.Call (.Name "list" p) [.Call (.Name "zip" p2) [a,b] [] pos2] [] pos) (zLw K ta):=by
 subst hK
 intro pins s σ H Q I h
 refine abp (Ak I hg hm sI ?_)
 refine abk ?_ hs0 rfl
 rw[hs0]
 show wpAny _ _ (spliced ((false,eval (.Call (.Name "zip" p2) [a,b] [] pos2) X.env)::backTo pos [])) _ _ s
 refine adz ?_
 refine abp (Ak I hgz hmz yh ?_)
 refine abk (aP (ha pos2 pins s σ H _ I h) λus s1 ⟨vs,H1,I1,r1,q1⟩=>?_) (by rw[hs,hs2]) (by rw[hs2];rfl)
 obtain⟨l1,l2,xs,ys,e,hq1,hq2,hlen,S5,q⟩:=q1
 subst e
 obtain⟨u,v,rfl,ru,rv⟩:=r1.two
 cases ru
 cases rv
 obtain⟨us,K6,p1,z1⟩:=I1.list hq1
 obtain⟨vs,rv2,p2',z2⟩:=I1.list hq2
 have ln1:=K6.length
 have ln2:=rv2.length
 have lt1:l1<s1.heap.objs.size:=by obtain⟨o,_,e,_⟩:=p1;exact lt_size e
 have lt2:l2<s1.heap.objs.size:=by obtain⟨o,_,e,_⟩:=p2';exact lt_size e
 refine call_zip_2 p1.isList p2'.isList λh1 hz hTI hTO hi1 hi2 hsz hk=>?_
 refine ad6 ?_
 refine zIe (s:={ s1 with heap:=h1 }) (n:=xs.length) (I1.ok.hd hc) (zipApart_new lt1 lt2) (λb hb=>?_) (by rw[size_toArray,<-ln1]) (by rw[size_toArray,<-ln2,hlen]) S5 hz hTI hTO hi1 hi2 (p1.isList.at λo e=>hk l1 o e) (p2'.isList.at λo e=>hk l2 o e) λh2 c k2 e2 t2=>?_
 ·show b<h1.objs.size
  rw[hsz]
  simp only[mem_cons,aeu,or_false] at hb
  rcases hb with e|e|e|e|e|e|e<;>rw[e]
  ·exact adu (by decide) _
  ·exact adu (by decide) _
  ·exact adu (by decide) _
  ·exact Nat.lt_add_of_pos_right (by decide)
  ·exact adu (by decide) _
  ·exact aax lt1 (abh _ _)
  ·exact aax lt2 (abh _ _)
 ·generalize hS:h1.objs.size=S at *
  have Y6:s1.heap.objs.size<S:=by omega
  have kk:∀b u,s1.heap.get? b=some u->h2.get? b=some u:=λb u e=>k2 b u (λhb=>by
   have lb:=lt_size e
   simp only[mem_cons,aeu,or_false] at hb
   rcases hb with e|e|e|e|e<;>rw[e] at lb
   ·exact absurd lb (afb.mpr (abh _ _))
   ·exact absurd lb (afb.mpr (abh _ _))
   ·exact absurd lb (afb.mpr (abh _ _))
   ·exact absurd lb (abu _)
   ·exact absurd lb (afb.mpr (abh _ _))) (hk b u e)
  have fr:∀b,s1.heap.objs.size<=b->H1 b=none:=λb hb=>I1.hok.fresh hb
  have lo:∀b:Nat,b<s1.heap.objs.size->mQ H1 S xs ys b=H1 b:=λb hb=>G4 H1 S xs ys b (adk hb Y6)
  have sm:Same H1 (mQ H1 S xs ys):=λb o e=>by
   have:b<s1.heap.objs.size:=Nat.lt_of_not_le λz=>by rw[fr b z] at e;cases e
   rw[lo b this]
   exact e
  have I2:=I1.BR (H':=mQ H1 S xs ys) (h':=h2) (t':=s1.toks) kk lo sm (λb o e hb=>by
   rcases zM8 H1 S xs ys b o e with⟨rfl,rfl⟩|⟨j,hj,rfl,rfl⟩|e
   ·exact⟨by rw[length_map,length_range];exact aaz S5 (by decide),_,c,zF6 b (aat xs.length),e2⟩
   ·have x1:xs[j]?=some (xs.getD j .non):=by rw[getD_eq_getElem?_getD,aao hj];rfl
    have y1:ys[j]?=some (ys.getD j .non):=by rw[getD_eq_getElem?_getD,aao (by rw[<-hlen];exact hj)];rfl
    obtain⟨u,hu,ru⟩:=K6.get x1
    obtain⟨v,hv,rv⟩:=rv2.get y1
    have tt:=t2 j u v hj (by rw[getElem?_toArray];exact hu) (by rw[getElem?_toArray];exact hv)
    exact⟨by show 2<=sizeLine;decide,[u,v],.cons ru (.cons rv .nil),⟨_,tt,rfl,_,rfl⟩⟩
   ·rw[fr b hb] at e;cases e)
  refine⟨.ref S,_,I2,rfl,q S ((aat xs.length).map λj=>S+1+j) _ (fr S (ach Y6)) sm (by rw[MF,map_map];rfl) (by rw[length_map,length_range]) λi t x y ht hx hy=>?_⟩
  have hi:i<xs.length:=(aa2.mp hx).1
  rw[getElem?_map,getElem?_range hi] at ht
  cases ht
  have x1:xs.getD i .non=x:=by rw[getD_eq_getElem?_getD,hx];rfl
  have y1:ys.getD i .non=y:=by rw[getD_eq_getElem?_getD,hy];rfl
  refine⟨fr _ (aaz (ach Y6) (aaz (ab6 S) (abh _ _))),?_⟩
  have q1:=G3 H1 S xs ys i hi
  rw[x1,y1] at q1
  exact q1
end L2
namespace Ts
open PySem L2
section
variable{K:PySem.W.Frag}{B:Bs}{sl:SL K}{md:Md}{t1 t2:TE}{α β:Type}[Rp K α][Rp K β]
def BW{α β:Type}(xs:List α)(ys:List β):Option (List (α×β)):=if xs.length=ys.length/\xs.length<=1000 then some (xs.zip ys) else none
theorem zV1:∀{ts:List Addr}{vs us:List V}{xs:List α}{ys:List β},A2 (rp K F) vs xs->A2 (rp K F) us ys->xs.length=ys.length->ts.length=vs.length->(∀(i:Nat) t x y,ts[i]?=some t->vs[i]?=some x->us[i]?=some y->F t=some (.tup [x,y]))->A2 (rp K F) (ts.map V.ref) (xs.zip ys)
 |[],[],[],[],[],_,_,_,_,_=>trivial
 |t::ts,v::vs,u::us,x::xs,y::ys,h1,h2,hl,ht,h=>⟨⟨t,v,u,rfl,h 0 t v u rfl rfl rfl,h1.1,h2.1⟩,zV1 h1.2 h2.2 (by simpa using hl) (by simpa using ht) λi t' x' y' e1 e2 e3=>h (i+1) t' x' y' e1 e2 e3⟩
 |_,[],_,_::_,_,h,_,_,_,_=>h.elim
 |_,_::_,_,[],_,h,_,_,_,_=>h.elim
 |_,_,[],_,_::_,_,h,_,_,_=>h.elim
 |_,_,_::_,_,[],_,h,_,_,_=>h.elim
 |[],_::_,_,_,_,_,_,_,h,_=>by simp at h
 |_::_,[],_,_,_,_,_,_,h,_=>by simp at h
 |_,[],_::_,[],_::_,_,_,h,_,_=>by simp at h
 |_,_::_,[],_::_,[],_,_,h,_,_=>by simp at h
theorem zOq{m1:Option (List α)}{m2:Option (List β)}(h1:Ex B sl md t1 m1)(h2:Ex B sl md t2 m2):Ex B sl md (zLw K (xZ t1 (xZ t2 bO))) (m1.bind λa=>m2.bind λb=>BW a b):=λc hc F O H σ Q s kk=>by
 obtain⟨xs,ys,ha,hb,hf⟩:=qU hc
 unfold BW at hf
 split at hf
 case isFalse=>cases hf
 rename_i hl
 cases hf
 refine h1 xs ha F O H σ _ s λv F' H' g r1=>?_
 refine h2 ys hb F' O H' σ _ (s.grow g) λw F2 H2 g2 r2=>?_
 have r1':=Rp.mono (xO g2 md) r1
 obtain⟨p,vs,rfl,z1,z2⟩:=r1'
 obtain⟨p',us,rfl,y1,y2⟩:=r2
 have hle:Same (reg B F2 H2 md) H2:=match md with
  |.nw=>aW.trans g2.ok.fh
  |.fz=>g2.ok.fh
  |.hp=>.refl _
 refine⟨p,p',vs,us,rfl,bw.of (hle _ _ z1),bw.of (hle _ _ y1),by rw[z2.len,y2.len];exact hl.1,by rw[z2.len];exact hl.2,λl ts H3 hn sm hl3 hts htu=>?_⟩
 have g3:=g2.ok.called sm
 refine kk (.ref l) _ H3 (g.trans (g2.trans g3)) ⟨l,ts.map V.ref,rfl,JD g2.ok sm hn hl3 md,zV1 (z2.imp λ_ _=>Rp.mono (xO g3 md)) (y2.imp λ_ _=>Rp.mono (xO g3 md)) hl.1 hts λi t x y e1 e2 e3=>?_⟩
 obtain⟨n1,n2⟩:=htu i t x y e1 e2 e3
 exact JD g2.ok sm n1 n2 md
end
open PySem L2 Sy
inductive dZ where
 |none
 |step (n:Int)
 |shut
 |walk (xs:LI)
 |out
 |loop (xs ys:LI)
 |rank (n:Int) (o:Option Int)
 |here
 |dead
 |plain
def dZ.word:dZ->Str
 |.none=>"none"
 |.step _=>"step"
 |.shut=>"shut"
 |.walk _=>"walk"
 |.out=>"out"
 |.loop _ _=>"loop"
 |.rank _ _=>"rank"
 |.here=>"here"
 |.dead=>"dead"
 |.plain=>"plain"
def dZ.len:dZ->Int
 |.step _=>2
 |.walk _=>2
 |.loop _ _=>3
 |.rank _ _=>3
 |_=>1
def dZ.at1:dZ->Option Int
 |.step n=>some n
 |.rank n _=>some n
 |_=>afm
section
variable{K:PySem.W.Frag}
def dZ.rest(K:PySem.W.Frag)(F:Hp):dZ->List V->Prop
 |.step n,vs=>vs=[.int n]
 |.walk xs,vs=>∃a,vs=[a]/\rp K F a xs
 |.loop xs ys,vs=>∃a b,vs=[a,b]/\rp K F a xs/\rp K F b ys
 |.rank n o,vs=>∃b,vs=[.int n,b]/\rp K F b o
 |_,vs=>vs=[]
theorem dZ.yq(s:Same F F'):∀{r:dZ}{vs:List V},r.rest K F vs->r.rest K F' vs
 |.step _,_,h=>h
 |.walk _,_,⟨a,h1,h2⟩=>⟨a,h1,Rp.mono s h2⟩
 |.loop _ _,_,⟨a,b,h1,h2,h3⟩=>⟨a,b,h1,Rp.mono s h2,Rp.mono s h3⟩
 |.rank _ _,_,⟨b,h1,h2⟩=>⟨b,h1,Rp.mono s h2⟩
 |.none,_,h=>h
 |.shut,_,h=>h
 |.out,_,h=>h
 |.here,_,h=>h
 |.dead,_,h=>h
 |.plain,_,h=>h
theorem dZ.BX:∀{r:dZ}{vs:List V},r.rest K F vs->((vs.length+1:Nat):Int)=r.len
 |.step _,_,h=>by cases h;rfl
 |.walk _,_,⟨a,h1,h2⟩=>by cases h1;rfl
 |.loop _ _,_,⟨a,b,h1,h2,h3⟩=>by cases h1;rfl
 |.rank _ _,_,⟨b,h1,h2⟩=>by cases h1;rfl
 |.none,_,h=>by cases h;rfl
 |.shut,_,h=>by cases h;rfl
 |.out,_,h=>by cases h;rfl
 |.here,_,h=>by cases h;rfl
 |.dead,_,h=>by cases h;rfl
 |.plain,_,h=>by cases h;rfl
instance:Rp K dZ:=⟨λF v r=>∃p vs,v=.ref p/\F p=some (.tup (.str r.word::vs))/\r.rest K F vs,λs ⟨p,vs,h1,h2,h3⟩=>⟨p,vs,h1,s _ _ h2,dZ.yq s h3⟩⟩
instance:Nn K dZ:=⟨λ⟨_,_,h,_⟩=>by rw[h];intro e;cases e⟩
instance:Ty K dZ:=⟨.type "tuple",λ⟨p,_,e,h,_⟩=>by rw[e];exact .tup h⟩
end
section
variable{K:PySem.W.Frag}{B:Bs}{sl:SL K}{md:Md}{te t1 t2:TE}
theorem MJ(r:dZ)(hr:∀F:Hp,r.rest K F []):Ex B sl md (Aq (xZ (tC (.str r.word)) bO)) (some r):=λc hc F O H σ Q s kk=>by
 cases hc
 refine⟨by show 1<=sizeLine;decide,λp hp=>?_⟩
 have g3:=bK.new s.1 hp (.tup [.str r.word])
 exact kk _ _ _ g3 ⟨p,[],rfl,Rn s.1 hp md,hr _⟩
theorem zRj(h:Ex B sl md te m):Ex B sl md (Aq (xZ (tC (.str "step")) (xZ te bO))) (m.bind λn=>some (dZ.step n)):=λc hc F O H σ Q s kk=>by
 cases m with
 |none=>cases hc
 |some a =>
  cases hc
  refine h a rfl F O H σ _ s λv F' H' g r1=>?_
  cases r1
  refine⟨by show 2<=sizeLine;decide,λp hp=>?_⟩
  have g3:=bK.new g.ok hp (.tup [.str "step",.int a])
  exact kk _ _ _ (g.trans g3) ⟨p,_,rfl,Rn g.ok hp md,rfl⟩
theorem MN{α:Type}[Rp K α]{f:dZ->Option α}(i:Int)(hf:∀(F:Hp) (r:dZ) (vs:List V) (a:α),r.rest K F vs->f r=some a->∃v,aV (V.str r.word::vs) i=some v/\rp K F v a)(h:Ex B sl md te m)(h2:Ex B sl .hp t2 (some i)):Ex B sl md (gP (Az K) te t2) (m.bind f):=λc hc F O H σ Q s k=>by
 cases m with
 |none=>cases hc
 |some x =>
  have hc':f x=some c:=hc
  refine h x rfl F O H σ _ s λv F' H' g r1=>?_
  refine h2 i rfl F' O H' σ _ (s.grow g) λw F2 H2 g2 r2=>?_
  cases r2
  obtain⟨p,vs,rfl,z1,z2⟩:=r1
  have hle:Same (reg B F' H' md) H2:=(match md with
   |.nw=>aW.trans g.ok.fh
   |.fz=>g.ok.fh
   |.hp=>.refl _:Same (reg B F' H' md) H').trans g2.hh
  obtain⟨u,e1,e2⟩:=hf _ x vs c z2 hc'
  exact⟨p,_,i,u,rfl,rfl,.inl (.inl (hle _ _ z1)),e1,k u F2 H2 (g.trans g2) (Rp.mono (xO g2 md) e2)⟩
theorem V4:∀(F:Hp)(r:dZ)(vs:List V)(a:Str),r.rest K F vs->some r.word=some a->∃v,aV (V.str r.word::vs) 0=some v/\rp K F v a:=λF r vs a _ e=>by
 cases e
 exact⟨_,by simp[aV,rP],rfl⟩
theorem Y7:∀(F:Hp)(r:dZ)(vs:List V)(a:Int),r.rest K F vs->r.at1=some a->∃v,aV (V.str r.word::vs) 1=some v/\rp K F v a
 |F,.step n,vs,a,h,e=>by cases h;cases e;exact⟨_,rfl,rfl⟩
 |F,.rank n o,vs,a,⟨b,h,_⟩,e=>by cases h;cases e;exact⟨_,rfl,rfl⟩
 |F,.walk _,_,_,_,e=>by cases e
 |F,.loop _ _,_,_,_,e=>by cases e
 |F,.none,_,_,_,e=>by cases e
 |F,.shut,_,_,_,e=>by cases e
 |F,.out,_,_,_,e=>by cases e
 |F,.here,_,_,_,e=>by cases e
 |F,.dead,_,_,_,e=>by cases e
 |F,.plain,_,_,_,e=>by cases e
theorem Y8{m:Option dZ}(h:Ex B sl .hp te m):Ex B sl md (uo (Bu K) (xZ te bO)) (m.bind λr=>some r.len):=λd hd F O H σ Q s k=>by
 cases m with
 |none=>cases hd
 |some a =>
  cases(show some a.len=some d from hd)
  refine h a rfl F O H σ _ s λv F' H' g r1=>?_
  obtain⟨p,vs,rfl,h1,h2⟩:=r1
  refine⟨p,_,rfl,.inr (.inl (.inl h1)),k _ F' H' g ?_⟩
  rw[length_cons,dZ.BX h2]
  rfl
end
end Ts
namespace L2
open PySem PySem.Spec PyProof.Rows
section
variable{X:Cx}
def S6:V->Option Int->Option Int->Hp->VK->Prop:=λx lo hi H Q=>∃z j,x=.str z/\lo=none/\hi=some j/\z.length<=sizeLine/\Q (.str (Txt.slice z none (some j))) H
theorem M4:SlR X S6:=by
 intro pins s σ H x v vl vu lo hi sl Q I rx hs pl pu h
 obtain⟨z,j,rfl,rfl,rfl,hz,q⟩:=h
 obtain⟨t,rfl⟩:=rx
 cases pl
 cases pu with
 |int _ tk =>
  refine⟨"str",_,PySem.F.slot_str_getitem.lookup,typeIs_str _ _ _,?_⟩
  exact wpAny_getItem_str_slice (l:=none) (u:=some (j,tk)) (st:=none) hs rfl (post_val_or_str ⟨aaz (Txt.slice_le z _ _) hz,λt' k=>⟨.str _,H,I.tok k,⟨t',rfl⟩,q⟩⟩)
def JH:R2:=λx y H Q=>∃i j,x=.str i/\y=.str j/\i.length+j.length<=sizeLine/\Q (.str (i++j)) H
theorem zQd:jO X (binaryOp .Add) JH:=zN0
def JK:R2:=λx y H Q=>∃z i c,x=.str z/\y=.int i/\0<=i/\i<2^63/\i<z.length/\z.cps[i.toNat]?=some c/\Q (.str ⟨#[c]⟩) H
theorem M5(ha:PE X a ta)(hb:PE X b tb)(hs:zM6 b):PE X (.Subscript a b pos) (gP JK ta tb):=zKx ha hb hs
end
end L2
namespace Ts
open PySem L2
section
variable{K:PySem.W.Frag}{B:Bs}{sl:SL K}{md:Md}{t t1 t2:TE}
def q_(a b:Str):Option Str:=if a.length+b.length<=1000 then some (a++b) else none
theorem zRr(h1:Ex B sl .hp t1 m1)(h2:Ex B sl .hp t2 m2):Ex B sl md (gP JH t1 t2) (m1.bind λa=>m2.bind λb=>q_ a b):=λc hc F O H σ Q s k=>by
 obtain⟨a,b,ha,hb,hf⟩:=qU hc
 unfold q_ at hf
 split at hf
 case isFalse=>cases hf
 rename_i hl
 cases hf
 refine h1 a ha F O H σ _ s λv F' H' g r1=>?_
 refine h2 b hb F' O H' σ _ (s.grow g) λw F2 H2 g2 r2=>?_
 cases r1
 cases r2
 exact⟨a,b,rfl,rfl,aaz hl (by decide),k _ F2 H2 (g.trans g2) rfl⟩
def PN(z:Str)(i:Int):Option Str:=if 0<=i/\i<2^63/\i<z.length then(z.cps[i.toNat]?).map λc=>⟨#[c]⟩ else none
theorem M6(h1:Ex B sl .hp t1 m1)(h2:Ex B sl .hp t2 m2):Ex B sl md (gP JK t1 t2) (m1.bind λa=>m2.bind λb=>PN a b):=λc hc F O H σ Q s k=>by
 obtain⟨a,b,ha,hb,hf⟩:=qU hc
 unfold PN at hf
 split at hf
 case isFalse=>cases hf
 rename_i hl
 cases e:a.cps[b.toNat]? with
 |none=>rw[e] at hf;cases hf
 |some z =>
  rw[e] at hf
  cases hf
  refine h1 a ha F O H σ _ s λv F' H' g r1=>?_
  refine h2 b hb F' O H' σ _ (s.grow g) λw F2 H2 g2 r2=>?_
  cases r1
  cases r2
  exact⟨a,b,z,rfl,rfl,hl.1,hl.2.1,hl.2.2,e,k _ F2 H2 (g.trans g2) rfl⟩
def BZ(z:Str)(j:Int):Option Str:=if z.length<=1000 then some (Txt.slice z none (some j)) else none
theorem G5(h1:Ex B sl .hp t1 m1)(h2:Ex B sl .hp t2 m2):Ex B sl md (tSl S6 t1 zPe (Ja t2)) (m1.bind λa=>m2.bind λb=>BZ a b):=λc hc F O H σ Q s k=>by
 obtain⟨a,b,ha,hb,hf⟩:=qU hc
 unfold BZ at hf
 split at hf
 case isFalse=>cases hf
 rename_i hl
 cases hf
 refine h1 a ha F O H σ _ s λv F' H' g r1=>?_
 refine h2 b hb F' O H' σ _ (s.grow g) λw F2 H2 g2 r2=>?_
 cases r1
 cases r2
 exact⟨b,rfl,a,b,rfl,rfl,rfl,aaz hl (by decide),k _ F2 H2 (g.trans g2) rfl⟩
def B_:List Str->TA
 |[]=>bO
 |w::ws=>xZ (tC (.str w)) (B_ ws)
theorem zQy:∀(ws:List Str)(σ:St)(H:Hp)(Q:List V->Hp->Prop),Q (ws.map V.str) H->B_ ws σ H Q
 |[],_,_,_,h=>h
 |_::ws,σ,H,_,h=>zQy ws σ H _ h
theorem zUi(ws:List Str)(hw:ws.length<=1000)(h:Ex B sl .hp t m):Ex B sl md (gP (Jb K false) t (Aq (B_ ws))) (m.bind λx=>some (decide (x∈ws))):=λc hc F O H σ Q s k=>by
 cases m with
 |none=>cases hc
 |some x =>
  cases(show some (decide (x∈ws))=some c from hc)
  refine h x rfl F O H σ _ s λv F' H' g r1=>?_
  cases r1
  refine zQy ws σ H' _ ⟨by rw[length_map];exact aaz hw (by decide),λp hp=>?_⟩
  have g2:=bK.new g.ok hp (.tup (ws.map V.str))
  refine⟨p,_,rfl,.inr (kj.of zR),Fl.flat (K:=K) x,Vj (K:=K) ws,?_⟩
  have:=Rx (K:=K) x ws
  simp only[aaw,if_false]
  rw[show inV (V.str x) (ws.map V.str)=decide (x∈ws) from this]
  exact k _ _ _ (g.trans g2) rfl
end
theorem S7:kitOne K (.type "bool") (.type "bool")=some true:=rfl
section
variable{K:PySem.W.Frag}{B:Bs}{sl:SL K}{F H H' L L':Hp}{O:Own}{σ:St}{α:Type}[Rp K α]
abbrev S8:Slot K->Bool
 |@Slot.nu _ _ _ _=>true
 |_=>false
theorem ao.Y9(h:ao B F L H sl σ O)(hn:sl.all (λs=>!kE s&&!S8 s)=true):ao B F L' H' sl σ O:=by
 induction h with
 |nil=>exact .nil
 |un _ ih=>exact .un (ih (by rw[all_cons,aas] at hn;exact hn.2))
 |fz r _ ih=>exact .fz (Rp.mono (vY _ (.refl _)) r) (ih (by rw[all_cons,aas] at hn;exact hn.2))
 |hs r _ ih=>rw[all_cons,aas] at hn;exact absurd hn.1 (by simp)
 |nu r _ ih=>rw[all_cons,aas] at hn;exact absurd hn.1 (by simp)
 |ow r _ ih=>exact .ow (r.imp λ_ _=>Rp.mono (vY _ (.refl _))) (ih (by rw[all_cons,aas] at hn;exact hn.2))
 |od r _ ih=>exact .od r (ih (by rw[all_cons,aas] at hn;exact hn.2))
theorem zPq{xs:List α}(i:Nat)(hs:sl[i]?=some (.nu xs))(hh:(sl.set i .un).all (λs=>!kE s&&!S8 s)=true):Sn B sl (Ot (Fv K "list" zVb (eO i))) (λ_:Unit=>sl.set i .un) (some ()):=λa ha G D σ H s k=>by
 obtain⟨F,O,g,z⟩:=s
 obtain⟨v,h1,p,vs,rfl,h2,h3⟩:=z.2.Bk hs
 have b0:B.H0 p=none:=by
  cases q:B.H0 p with
  |none=>rfl
  |some u=>unfold dif at h2;rw[q] at h2;cases h2
 rw[uw b0] at h2
 unfold lo at h2
 split at h2
 case isTrue=>cases h2
 rename_i hlo
 rw[acn,not_or] at hlo
 have f0:F p=none:=by
  cases q:F p with
  |none=>rfl
  |some u=>exact absurd (by rw[q];rfl) hlo.1
 have o0:∀x∈O,x.1≠p:=λx hx e=>hlo.2 (any_eq_true.mpr ⟨x,hx,by simpa using e⟩)
 refine⟨_,h1,.inl ⟨rfl,vs,bw.of h2⟩,p,vs,rfl,rfl,h2,k _ _ ⟨F,O,g,?_⟩⟩
 refine⟨⟨z.1.fh.put f0 _,z.1.h0.put b0 _,z.1.fa,λx hx=>?_,z.1.nd⟩,?_⟩
 ·obtain⟨a1,a2,a3⟩:=z.1.fo x hx
  exact⟨a1,a2,by rw[zV (o0 x hx)];exact a3⟩
 ·have q:=z.2.put (s':=.un) (x:=some (.ref p)) (λsl σ O h=>.un h) hs rfl
  have e:σ.set i (some (.ref p))=σ:=by
   apply ext_getElem?
   intro j
   rw[List.getElem?_set]
   split
   ·rename_i hij
    subst hij
    split
    ·exact h1.symm
    ·rename_i hlt
     rw[abz (by omega)] at h1
     cases h1
   ·rfl
  rw[e] at q
  exact q.Y9 hh
end
def top(i:Nat):Stmt:=PySem.Challenge.pw_treesay_k51_reasons_of_next.main.body.getD i (.Pass ⟨0,0,0,0⟩)
abbrev fV:Stmt:=top 2
abbrev pZ:Stmt:=top 3
abbrev mR:Stmt:=top 4
abbrev mU:Stmt:=top 5
abbrev kI:Stmt:=top 7
abbrev h_:Stmt:=top 9
abbrev jG:Stmt:=top 10
abbrev fW:Stmt:=top 11
abbrev eV:Stmt:=top 12
abbrev kJ:Stmt:=top 17
abbrev eX:Stmt:=top 18
abbrev p7:Stmt:=top 19
abbrev ig:Stmt:=top 20
abbrev fX:Stmt:=top 21
abbrev mV:Stmt:=top 22
abbrev sJ:Stmt:=top 23
abbrev s_alive:Stmt:=top 24
abbrev jU:Stmt:=xN (top 30) 0
abbrev kO:Stmt:=xN (top 31) 0
abbrev kW:Stmt:=xN (top 32) 0
abbrev mW:Stmt:=xN (top 33) 0
abbrev mj:Stmt:=xN (top 34) 0
abbrev mX:Stmt:=xN (top 35) 0
abbrev mq:Stmt:=xN (top 36) 0
abbrev jV:Stmt:=xN (top 37) 0
abbrev jk:Stmt:=xN (top 38) 0
abbrev jm:Stmt:=xN (top 39) 0
abbrev jo:Stmt:=xN (top 40) 0
abbrev jq:Stmt:=xN (top 41) 0
abbrev gM:Stmt:=xN (top 42) 0
abbrev gO:Stmt:=xN (top 43) 0
abbrev jr:Stmt:=xN (top 44) 0
abbrev jt:Stmt:=xN (top 45) 0
abbrev iu:Stmt:=top 47
abbrev bW:Stmt:=top 51
abbrev kY:Stmt:=top 52
abbrev eY:Stmt:=top 53
abbrev p8:Stmt:=top 54
abbrev qb:Stmt:=top 55
abbrev eZ:Stmt:=top 57
abbrev dI:Stmt:=top 58
abbrev kZ:Stmt:=top 65
abbrev sO:Stmt:=top 66
abbrev jH:Stmt:=top 77
abbrev dJ:Stmt:=top 78
abbrev fj:Stmt:=top 79
abbrev lg:Stmt:=top 80
abbrev fu:Stmt:=top 81
abbrev fY:Stmt:=top 82
abbrev mY:Stmt:=top 83
abbrev V5:Stmt:=top 84
abbrev Ca:Stmt:=xN (top 85) 0
abbrev dM:Stmt:=xN (top 85) 1
abbrev cL:Stmt:=xN (top 85) 2
abbrev cU:Stmt:=xN (top 85) 3
abbrev cV:Stmt:=xN (top 85) 4
abbrev cN:Stmt:=xN (top 85) 6
abbrev iw:Stmt:=top 87
abbrev lq:Stmt:=top 88
abbrev qd:Stmt:=top 89
abbrev fZ:Stmt:=top 90
abbrev jJ:Stmt:=top 91
abbrev iy:Stmt:=top 92
abbrev gj:Stmt:=top 93
abbrev lu:Stmt:=top 94
abbrev iz:Stmt:=top 95
abbrev lA:Stmt:=top 96
abbrev iB:Stmt:=top 97
abbrev lB:Stmt:=top 98
abbrev iC:Stmt:=top 99
abbrev mZ:Stmt:=top 100
abbrev pA:Stmt:=top 101
section
variable{P:Program}{w:World}{K:PySem.W.Frag}{mg:Str->Option Value}{base:Heap}
def Y_(K:PySem.W.Frag):Sp:=λvs H Q _=>∃(a:Addr)(bs:List Addr)(xss:List LI),vs=[.ref a]/\bw K H a (bs.map V.ref)/\qW K H bs xss/\xss.length<=60/\Vl xss.length xss /\
 ∀(r:Addr)(cs:List Addr)(H':Hp),Same H H'->H r=none->H' r=some (.lst (cs.map V.ref))->cs.length=xss.length->qX H' cs (src xss)->(∀c∈cs,H c=none)->Q (.ref r) H'
theorem Cd:ak ["steps","sources","stand","targets","target"] ["steps"] (zI V5):=⟨rfl,rfl,rfl,by decide +kernel,rfl,by decide +kernel,by decide +kernel⟩
theorem Za:(["stand"]:List Str).Nodup:=by decide +kernel
theorem M7{cs:List Addr}(nd:cs.Nodup){i j:Nat}{c:Addr}(h1:cs[i]?=some c)(h2:cs[j]?=some c):i=j:=by
 obtain⟨k1,e1⟩:=aa2.mp h1
 obtain⟨k2,e2⟩:=aa2.mp h2
 exact(getElem_inj nd).mp (e1.trans e2.symm)
theorem qX.put{M8:Nat->LI}(r:qX H cs row)(nd:cs.Nodup)(hc:cs[j]?=some c)(e:M8 j=xs)(e':∀k,k≠j->M8 k=row k):qX (upd H c (.lst (xs.map V.int))) cs M8:=λk d hd=>by
 by_cases hk:k=j
 ·subst hk
  rw[hc] at hd
  cases hd
  rw[zR,e]
 ·rw[zV (λz=>hk (M7 nd hd (by rw[z];exact hc))),e' k hk]
  exact r k d hd
theorem S9(F:aU K "sources_of" "sources_of" V5 f fd)(B:Bl K mg):aq P w K mg base aO 1 f fd ["steps"] (Y_ K):=by
 refine F.ok Cd (λvs H Q E h=>?_) (λcdv A outer s H vs Q E hr h=>?_)
 ·obtain⟨a,bs,xss,rfl,_⟩:=h
  rfl
 obtain⟨a,bs,xss,rfl,hS,hR,qL,hV,q⟩:=h
 have hbl:(bs.map V.ref).length=xss.length:=by rw[length_map];exact hR.1
 refine⟨_,zB (Dr (i:=1) (own:=["stand"]) (ix:=[]) Cd.nd rfl rfl rfl rfl rfl (WQ (pv 0)) (λC s H fp=>yJ (i:=0) Za rfl (Or.inl rfl)) (λC s H fp=>wX) (λC s H fp=>wZ zF))
  (zB (xD aau rfl (zP7 rfl B.enum (zA (pv 0) zF)) (Iu rfl (xI (yJ (i:=2) Cd.nd rfl (Or.inl rfl)) (xI (yJ (i:=3) Cd.nd rfl (Or.inl rfl)) Ef)))
   (xV (xD aau rfl (WQ (pv 3)) (yJ (i:=4) Cd.nd rfl (Or.inl rfl))
    (xV (yH (Jc aa3 aa7 aa8 wH (yV zQ3 (pv 1) (pv 4) (λ_ _=>rfl)) (zA (pv 2) zF)))))))
  (xV (zU (pv 1)))),?_⟩
 refine⟨_,rfl,a,rfl,⟨_,hS⟩,zR1 (K:=K) (a:=a) (xs:=bs.map V.ref) (λi ys σ H2=>∃(cs:List Addr)(v:Option V),ys=cs.map V.ref/\σ=[v]/\Same H H2/\News H H2 cs (replicate i [])/\cs.length=i)
  ⟨[],none,rfl,rfl,Same.refl H,News.nil,rfl⟩ (λi ys σ H2 _ ⟨cs,v,e,_,s2,_,hi⟩=>⟨s2.seq hS,by rw[e,length_map,hi];exact aaq _⟩) (zIx (by omega)) ?_ ?_⟩
 ·rintro i y ys σ H2 hi ⟨cs,v,rfl,rfl,s2,hN,Zb⟩
  refine zTz ?_
  refine⟨(by show 0<=sizeLine;decide),λl hl'=>?_⟩
  refine⟨cs++[l],_,by rw[map_append]<;>rfl,rfl,s2.trans (aL hl' _),?_,by rw[length_append,Zb]<;>rfl⟩
  have e:replicate (i+1) ([]:List V)=replicate i []++[[]]:=List.replicate_succ'
  rw[e]
  exact hN.snoc s2 hl'
 rintro ys σ H2 ⟨cs,v,rfl,rfl,s2,hN,Zb⟩ r hr0
 have hcl:cs.length=xss.length:=by rw[Zb,hbl]
 have s3:Same H (upd H2 r (.lst (cs.map V.ref))):=s2.trans (aL hr0 _)
 have hrH:H r=none:=s2.free hr0
 have nrc:r∉cs:=hN.RJ hr0
 have R0:qX (upd H2 r (.lst (cs.map V.ref))) cs (src (xss.take 0)):=λj c hc=>by
  obtain⟨xs,h1,h2⟩:=hN.at_ j c hc
  have e:xs=[]:=by
   rw[getElem?_replicate] at h1
   split at h1
   ·exact(aay h1).symm
   ·cases h1
  subst e
  rw[zV (λz=>nrc (by rw[<-z];exact mem_of_getElem? hc)),h2]
  rfl
 refine⟨_,rfl,a,rfl,⟨_,s3.seq hS⟩,zUg (K:=K) (a:=a) (xs:=bs.map V.ref) (λi σ H4=>∃u v t,σ=[some (.ref a),some (.ref r),u,v,t]/\Same H H4/\H4 r=some (.lst (cs.map V.ref))/\qX H4 cs (src (xss.take i)))
  ⟨none,none,none,rfl,s3,zR,R0⟩ (λi σ H4 _ ⟨_,_,_,_,s4,_⟩=>s4.seq hS) ?_ ?_⟩
 ·rintro i x t σ H4 hi ht ⟨u,v,t',rfl,s4,Zc,R4⟩
  obtain⟨b,rfl,hb⟩:=Lp hi
  obtain⟨xs,hx,hsq⟩:=hR.2 i b hb
  obtain⟨ne,nd,len,vr⟩:=hV.2 xs (mem_of_getElem? hx)
  have il:=xJ hx
  have st:Same H4 (upd H4 t (.tup [.int i,.ref b])):=aL ht _
  have s5:=s4.trans st
  refine⟨t,_,rfl,kj.of zR,rfl,_,_,rfl,_,_,rfl,rfl,?_⟩
  refine⟨_,rfl,b,rfl,⟨_,s5.seq hsq⟩,zUf (K:=K) (a:=b) (xs:=xs.map V.int) (λm σ H6=>∃tt,σ=[some (.ref a),some (.ref r),some (.int i),some (.ref b),tt]/\Same H H6/\H6 r=some (.lst (cs.map V.ref)) /\
   qX H6 cs λj=>src (xss.take i) j++(if(j:Int)∈xs.take m then[(i:Int)] else[])) ⟨t',rfl,s5,st _ _ Zc,λj c hc=>?_⟩ (λm σ H6 _ ⟨_,_,s6,_⟩=>s6.seq hsq) ?_ ?_⟩
  ·rw[st _ _ (R4 j c hc)]
   simp
  ·rintro m y σ H6 hm ⟨tt,rfl,s6,V6,R6⟩
   obtain⟨z,rfl,hz⟩:=int_at hm
   obtain⟨z0,z1⟩:=vr z (mem_of_getElem? hz)
   have zl:z.toNat<cs.length:=by rw[hcl];omega
   have hc:cs[z.toNat]?=some cs[z.toNat]:=aao zl
   have hz':((z.toNat:Nat):Int)=z:=by omega
   have hrow:=R6 z.toNat _ hc
   have hno:¬z∈xs.take m:=zGf nd hz
   simp only[hz',if_neg hno,append_nil] at hrow
   have hix:aV (cs.map V.ref) z=some (.ref cs[z.toNat]):=by
    have:=Fp (Gi hc)
    rw[hz'] at this
    exact this
   refine⟨_,rfl,_,rfl,r,_,z,_,rfl,rfl,bw.of V6,hix,.inl ⟨rfl,_,bw.of hrow⟩,_,rfl,_,_,_,rfl,rfl,hrow,?_,?_⟩
   ·have:=Gh (xss.take i) z.toNat
    rw[length_take] at this
    refine zIx ?_
    rw[length_map]
    omega
   ·have cH:H cs[z.toNat]=none:=hN.new _ (mem_of_getElem? hc)
    have cr:r≠cs[z.toNat]:=λe=>nrc (by rw[e];exact mem_of_getElem? hc)
    refine⟨_,rfl,s6.put cH _,by rw[zV cr];exact V6,?_⟩
    have em:(src (xss.take i) z.toNat).map V.int++[V.int i]=(src (xss.take i) z.toNat++[(i:Int)]).map V.int:=by rw[map_append]<;>rfl
    rw[em]
    refine R6.put hN.nd hc ?_ λk hk=>?_
    ·rw[hz',if_pos ((uS hz).mpr (.inr rfl))]
    ·have hk':((k:Int)∈xs.take (m+1))=((k:Int)∈xs.take m):=by
      rw[uS hz]
      refine propext ⟨λh=>h.elim id λe=>absurd (by omega) hk,.inl⟩
     simp only[hk']
  ·rintro σ H6 ⟨tt,rfl,s6,V6,R6⟩
   refine⟨_,_,_,rfl,s6,V6,λj c hc=>?_⟩
   rw[R6 j c hc,zSx hx j,length_map,take_length]
 ·rintro σ H4 ⟨u,v,t,rfl,s4,Zc,R4⟩
  refine⟨_,rfl,?_⟩
  have e:xss.take (bs.map V.ref).length=xss:=by rw[hbl];exact take_length
  rw[e] at R4
  exact q r cs H4 s4 hrH Zc hcl R4 hN.new
end
structure Ce(K:PySem.W.Frag)(x qual:Str)(st:Stmt)(dV:Value)(f:Addr)(fd:FuncData):Prop where
 ex:∃(oc:Value)(od:Option Addr)(kV doc pm:Value)(an:Option Addr)(cdv ct:Value)(osl:Array (Option Value)),
  fd=fnOf x qual (uG st) (wR st) (zI st) dV kV doc pm an cdv ct/\K.lookup f=some ⟨oc,od,.func fd,osl⟩/\codeIn K cdv qual=true
 kp:keepIn K (.ref f)=true
section
variable{P:Program}{w:World}{K:PySem.W.Frag}{mg:Str->Option Value}{base:Heap}
theorem Ce.ok(F:Ce K x qual st dV f fd)(S:ak N ps (zI st))(len:∀vs H Q E,sp vs H Q E->vs.length=ps.length)(hbody:∀(cdv:Value) (A:Around) (outer:List Env) (s:Shared) (H:Hp) (vs:List V) (Q:VK) (E:XK),bT k (A.deeper (aef qual (zI st) s.heap.objs.size f cdv))->sp vs H Q E ->
   ∃t,qN (pL aO P w K mg base N qual (zI st) f cdv A outer s H E).Ir (wR st) t/\t { nx:=λ_ H'=>Q .non H',rt:=Q } (start N vs) H):aq P w K mg base aO (k+1) f fd ps sp:=by
 obtain⟨oc,od,kV,doc,pm,an,cdv,ct,osl,rfl,lk,hcd⟩:=F.ex
 refine I8 lk hcd S len λA outer s H vs Q E hr hsp=>?_
 obtain⟨t,h,q⟩:=hbody cdv A outer s H vs Q E hr hsp
 exact⟨t,h.Ir,q⟩
structure Cl(K:PySem.W.Frag)(mg:Str->Option Value)(C:Addr):Prop where
 cl:Cls K C
 nS:aY K C "steps"
 nM:aY K C "marks"
 nF:aY K C "fair"
 nB:aY K C "sources"
 mgC:mg "Machine" = some (.ref C)
theorem M9:ak ["self","steps","marks","fair","given_marks","given_fair"] ["self","steps","marks","fair"] (zI Ca):=⟨rfl,rfl,rfl,by decide +kernel,rfl,by decide +kernel,by decide +kernel⟩
theorem S_:(["name","stands"]:List Str).Nodup:=by decide +kernel
theorem bV(f:Str)(v:V):∀fs:List (Str×V),(aF f v fs).length<=fs.length+1
 |[]=>aaq _
 | (g,x)::r=>by
  unfold aF
  split
  ·exact ab6 _
  ·exact abl (bV f v r)
theorem zPx:∀{vs:List V}{xss:List LI},A2 (rp K R) vs xss->∃bs:List Addr,vs=bs.map V.ref/\qW K R bs xss
 |[],[],_=>⟨[],rfl,rfl,λi b h=>by simp at h⟩
 |v::vs,xs::xss,h=>by
  obtain⟨bs,e,h1,h2⟩:=zPx h.2
  obtain⟨p,ws,rfl,h3,h4⟩:=h.1
  have h5:ws=xs.map V.int:=h4.vals
  refine⟨p::bs,by rw[e,map_cons],by rw[length_cons,length_cons,h1],λi b hb=>?_⟩
  cases i with
  |zero=>simp at hb;subst hb;exact⟨xs,rfl,bw.of (by rw[h3,h5])⟩
  |succ i=>exact h2 i b (by simpa using hb)
 |[],_::_,h=>h.elim
 |_::_,[],h=>h.elim
def PX(xss:LLI):Option LLI:=if xss.length<=60/\Vl xss.length xss then some (srcs xss) else none
theorem M_(F:aU K "sources_of" "sources_of" V5 f fd)(B:Bl K mg):aq P w K mg base aO 1 f fd ["steps"] (cj K false (λa:LLI×Unit=>([.fz false a.1]:SL K)) λa=>PX a.1):=by
 refine(S9 F B).imp λvs H Q E h=>?_
 obtain⟨⟨xss,⟨⟩⟩,b,Fa,s,hb,r,q⟩:=h
 have hb:PX xss=some b:=hb
 unfold PX at hb
 split at hb
 case isFalse=>cases hb
 rename_i hv
 cases hb
 cases r with
 |cons r1 r2 =>
  cases r2
  obtain⟨a,ws,rfl,h1,h2⟩:=r1
  obtain⟨bs,rfl,h3⟩:=zPx (K:=K) h2
  refine⟨a,bs,xss,rfl,bw.of (s _ _ h1),h3.same s,hv.1,hv.2,λrr cs H' s' hr e l R N=>q _ _ s' ?_⟩
  refine⟨rr,_,rfl,by show dif H' H rr=_;rw[uw hr];exact e,?_⟩
  exact Gk (K:=K) l R λc hc o e=>by show dif H' H c=_;rw[uw (N c hc)];exact e
theorem Nb{fS:LLI->Option Unit}{fM:Dy->Int->Option Unit}{fF:LLI->Int->Option Unit}{fC fO:LLI->Option LLI}(F:Ce K "__init__" "Machine.__init__" Ca dV f fd)(T:Cl K mg C)(B:Bl K mg)(CS:bC P w K mg base k "check_steps" ["steps"] (cj K false (λa:LLI×Unit=>([.fz false a.1]:SL K)) λa=>fS a.1))(CM:bC P w K mg base k "check_marks" ["marks","many"] (cj K false (λa:Dy×Int×Unit=>([.fz false a.1,.fz false a.2.1]:SL K)) λa=>fM a.1 a.2.1))(CF:bC P w K mg base k "check_fair" ["fair","many"] (cj K false (λa:LLI×Int×Unit=>([.fz false a.1,.fz false a.2.1]:SL K)) λa=>fF a.1 a.2.1))(CC:bC P w K mg base k "copied" ["lists"] (cj K false (λa:LLI×Unit=>([.fz false a.1]:SL K)) λa=>fC a.1))(CO:bC P w K mg base k "sources_of" ["steps"] (cj K false (λa:LLI×Unit=>([.fz false a.1]:SL K)) λa=>fO a.1)) :
  aq P w K mg base aO (k+1) f fd ["self","steps","marks","fair"] (RZ K C (Vw C fS fM fF fC fO)):=by
 refine F.ok M9 (λvs H Q E h=>?_) (λcdv A outer s H vs Q E hr h=>?_)
 ·obtain⟨p,dx,vS,vM,vF,xss,mo,fo,M,rfl,_⟩:=h
  rfl
 obtain⟨p,dx,vS,vM,vF,xss,mo,fo,M,rfl,hp,rS,rM,rF,hm,q⟩:=h
 unfold Vw at hm
 obtain⟨⟨⟩,e1,hm⟩:=Dz hm
 obtain⟨⟨⟩,e2,hm⟩:=Dz hm
 obtain⟨⟨⟩,e3,hm⟩:=Dz hm
 obtain⟨a,e4,hm⟩:=Dz hm
 obtain⟨b,e5,hm⟩:=Dz hm
 obtain⟨c,e6,hm⟩:=Dz hm
 obtain⟨d,e7,hm⟩:=Dz hm
 cases hm
 refine⟨_,zB (WK (i:=4) M9.nd rfl (Or.inl rfl) (zMa (v7 (Uy (pv 2))) (wZ zF) (pv 2)))
  (zB (WK (i:=5) M9.nd rfl (Or.inl rfl) (zMa (v7 (Uy (pv 3))) (wZ zF) (pv 3)))
  (zB (yH (yB CS hr (zA (pv 1) zF)))
  (zB (yH (yB CM hr (zA (pv 4) (zA (zO (wS K) rfl B.len aa4 (zA (pv 1) zF)) zF))))
  (zB (yH (yB CF hr (zA (pv 5) (zA (zO (wS K) rfl B.len aa4 (zA (pv 1) zF)) zF))))
  (zB (Dp (pv 0) (yB CC hr (zA (pv 1) zF)) rfl)
  (zB (Dp (pv 0) (wA (own:=["name","stands"]) (ix:=[]) rfl rfl rfl (yI K (pv 4)) (λC s H fp=>zP8 (K:=K) (n:=2) rfl rfl (xI (yJ (i:=0) S_ rfl (Or.inl rfl)) (xI (yJ (i:=1) S_ rfl (Or.inl rfl)) Ef))) (λC s H fp=>wX)
   (λC s H fp=>uh (zA (pv 0) (zA (vL (Jk K) rfl B.list Gj (zA (pv 1) zF)) zF)))) rfl)
  (zB (Dp (pv 0) (yB CC hr (zA (pv 5) zF)) rfl)
  (xV (Dp (pv 0) (yB CO hr (zA (zVf (pv 0) rfl) zF)) rfl))))))))),?_⟩
 have sg0:Sg (K:=K) ⟨hid H p,H⟩ (hid H p) [.fz false (g8.mk ():g8 p),.fz false xss,.fz false mo,.fz false fo,.un,.un] [some (.ref p),some vS,some vM,some vF,none,none] H :=
  ⟨hid H p,[],.refl _,zVx (.fz (show rp K _ _ (g8.mk ():g8 p) from rfl) (.fz rS (.fz rM (.fz rF (.un (.un .nil))))))⟩
 refine(Sn.of (zZ false 4 rfl rfl (zVp (aR (md:=.hp) (Vk (zD 2 rfl))) (Eo.ex (uQ (α:=Str×LI))) (X3 (yK 2 rfl)))) (show _=some (mo.getD []) by cases mo<;>rfl)) _ rfl (hid H p) _ _ H sg0 λσ1 H1 sg1=>?_
 refine(Sn.of (zZ false 5 rfl rfl (zVp (aR (md:=.hp) (Vk (zD 3 rfl))) (Eo.ex (uQ (α:=LI))) (X3 (yK 3 rfl)))) (show _=some (fo.getD []) by cases fo<;>rfl)) _ rfl (hid H p) _ _ H1 sg1 λσ2 H2 sg2=>?_
 refine(Sn.of (O7 (md:=.hp) (zN (f:=λa:LLI×Unit=>fS a.1) (zH (zD 1 rfl) zQ))) (show _=fS xss from rfl)) () e1 (hid H p) _ _ H2 sg2 λσ3 H3 sg3=>?_
 refine(Sn.of (O7 (md:=.hp) (zN (f:=λa:Dy×Int×Unit=>fM a.1 a.2.1) (zH (zD 4 rfl) (zH (Ex.sc (md:=.hp) (uO (zD 1 rfl))) zQ)))) (show _=fM (mo.getD []) (xss.length:Int) from rfl)) () e2 (hid H p) _ _ H3 sg3 λσ4 H4 sg4=>?_
 refine(Sn.of (O7 (md:=.hp) (zN (f:=λa:LLI×Int×Unit=>fF a.1 a.2.1) (zH (zD 5 rfl) (zH (Ex.sc (md:=.hp) (uO (zD 1 rfl))) zQ)))) (show _=fF (fo.getD []) (xss.length:Int) from rfl)) () e3 (hid H p) _ _ H4 sg4 λσ5 H5 sg5=>?_
 obtain⟨F5,O5,g5,k5,s5⟩:=sg5
 have s5:ao (K:=K) ⟨hid H p,H⟩ F5 (lo F5 O5 H5) H5 [.fz false (g8.mk ():g8 p),.fz false xss,.fz false mo,.fz false fo,.fz false (mo.getD []),.fz false (fo.getD [])] σ5 O5:=s5
 cases s5 with|fz r0 s5 =>
 cases s5 with|fz r1 s5 =>
 cases s5 with|fz r2 s5 =>
 cases s5 with|fz r3 s5 =>
 cases s5 with|fz r4 s5 =>
 cases s5 with|fz r5 s5 =>
 cases s5
 rename_i v0 v1 v2 v3 v4 v5
 have r0:v0=.ref p:=r0
 subst r0
 have hF:Same F5 (hid H5 p):=λb o e=>by
  by_cases z:b=p
  ·subst z
   rcases k5.fa b o e with z|z
   ·have z:hid H b b=some o:=z
    rw[Ph] at z
    cases z
   ·have z:H b=none:=z
    rw[hp] at z
    cases z
  ·rw[Mf z];exact k5.fh b o e
 have r1:rp K (hid H5 p) v1 xss:=Rp.mono hF r1
 have r2:rp K (hid H5 p) v2 mo:=Rp.mono hF r2
 have r3:rp K (hid H5 p) v3 fo:=Rp.mono hF r3
 have r4:rp K (hid H5 p) v4 (mo.getD []):=Rp.mono hF r4
 have r5:rp K (hid H5 p) v5 (fo.getD []):=Rp.mono hF r5
 have Zd:Same H H5:=k5.h0
 have hp5:H5 p=some (.ins C dx []):=Zd _ _ hp
 refine⟨_,rfl,(xss,()),a,H5,.refl _,e4,.cons (Rp.mono R3 r1) .nil,λy1 H6 s6 t1=>?_⟩
 have t1:rp K (dif H6 H5) y1 a:=t1
 have hp6:=s6 _ _ hp5
 refine⟨_,rfl,p,C,dx,[],rfl,hp6,T.cl,T.nS,(by show 0<1000;decide),?_⟩
 have f1:=Rp.mono (Vx (H:=H) (p:=p) (λb o _ e=>Zd b o e) (by rw[hp5];intro z;cases z)) t1
 have kp6:∀b o,b≠p->H b=some o->(upd H6 p (.ins C dx (aF "steps" y1 []))) b=some o:=λb o n e=>by rw[zV n];exact s6 _ _ (Zd _ _ e)
 have h6:Same (hid H5 p) (hid (upd H6 p (.ins C dx (aF "steps" y1 []))) p):=by rw[Js];exact Pj s6
 have E2:Ex (K:=K) ⟨hid (upd H6 p (.ins C dx (aF "steps" y1 []))) p,upd H6 p (.ins C dx (aF "steps" y1 []))⟩ [.fz false (g8.mk ():g8 p),.fz false xss,.fz false mo,.fz false fo,.fz false (mo.getD []),.fz false (fo.getD [])] .nw _ _ :=
  (yR (n:=false) (i_:=[.un,.un]) (no:=2) (ix:=[]) rfl rfl (yL (yK 4 rfl)) (Je 0 1 rfl rfl (λ_=>rfl) rfl) (λx=>sy) (λx=>Lb (zE 0 rfl) (Ji (zD 1 rfl)).ex) (λx=>su.un (su.un su.nil))).ex
 refine E2 b e5 (hid (upd H6 p (.ins C dx (aF "steps" y1 []))) p) [] _ _ _ (zVx (.fz (show rp K _ _ (g8.mk ():g8 p) from rfl) (.fz (Rp.mono h6 r1) (.fz (Rp.mono h6 r2) (.fz (Rp.mono h6 r3) (.fz (Rp.mono h6 r4) (.fz (Rp.mono h6 r5) .nil))))))) λy2 F7 H7 g7 t2=>?_
 have s7:=g7.hh
 have t2:rp K (dif H7 (upd H6 p (.ins C dx (aF "steps" y1 [])))) y2 b:=Rp.mono (vD g7.ok.fh) t2
 have hp7:H7 p=some (.ins C dx (aF "steps" y1 [])):=s7 _ _ zR
 refine⟨_,rfl,p,C,dx,_,rfl,hp7,T.cl,T.nM,(by show 1<1000;decide),?_⟩
 have f2:=Rp.mono (Vx (H:=H) (p:=p) kp6 (by rw[zR];intro z;cases z)) t2
 have kp7:∀b o,b≠p->H b=some o->(upd H7 p (.ins C dx (aF "marks" y2 (aF "steps" y1 [])))) b=some o:=λb o n e=>by rw[zV n];exact s7 _ _ (kp6 _ _ n e)
 have h7:Same (hid (upd H6 p (.ins C dx (aF "steps" y1 []))) p) (hid (upd H7 p (.ins C dx (aF "marks" y2 (aF "steps" y1 [])))) p):=by rw[Js (H:=H7)];exact Pj s7
 refine⟨_,rfl,(fo.getD [],()),c,_,.refl _,e6,.cons (Rp.mono (h6.trans (h7.trans R3)) r5) .nil,λy3 H8 s8 t3=>?_⟩
 have t3:rp K (dif H8 (upd H7 p (.ins C dx (aF "marks" y2 (aF "steps" y1 []))))) y3 c:=t3
 have hp8:H8 p=some (.ins C dx (aF "marks" y2 (aF "steps" y1 []))):=s8 _ _ zR
 have l2:(aF "marks" y2 (aF "steps" y1 [])).length<1000:=by
  have a1:=bV "marks" y2 (aF "steps" y1 [])
  have a2:=bV "steps" y1 []
  have a3:([]:List (Str×V)).length=0:=rfl
  omega
 refine⟨_,rfl,p,C,dx,_,rfl,hp8,T.cl,T.nF,l2,?_⟩
 have f3:=Rp.mono (Vx (H:=H) (p:=p) kp7 (by rw[zR];intro z;cases z)) t3
 have kp8:∀b o,b≠p->H b=some o->(upd H8 p (.ins C dx (aF "fair" y3 (aF "marks" y2 (aF "steps" y1 []))))) b=some o:=λb o n e=>by rw[zV n];exact s8 _ _ (kp7 _ _ n e)
 have h8:Same (hid (upd H7 p (.ins C dx (aF "marks" y2 (aF "steps" y1 [])))) p) (hid (upd H8 p (.ins C dx (aF "fair" y3 (aF "marks" y2 (aF "steps" y1 []))))) p):=by rw[Js (H:=H8)];exact Pj s8
 have lk:(aF "fair" y3 (aF "marks" y2 (aF "steps" y1 []))).lookup ("steps":Str)=some y1:=by
  rw[zP,if_neg (by decide +kernel),zP,if_neg (by decide +kernel),zP,if_pos rfl]
 have d1:Same (dif (hid H6 p) (hid H p)) (hid (upd H8 p (.ins C dx (aF "fair" y3 (aF "marks" y2 (aF "steps" y1 []))))) p):=aW.trans ((by rw[Js];exact .refl _:Same (hid H6 p) (hid (upd H6 p (.ins C dx (aF "steps" y1 []))) p)).trans (h7.trans h8))
 refine⟨_,rfl,p,C,dx,_,_,rfl,zR,T.cl,T.nS,lk,(a,()),d,_,.refl _,e7,.cons (Rp.mono (d1.trans R3) f1) .nil,λy4 H9 s9 t4=>?_⟩
 have t4:rp K (dif H9 (upd H8 p (.ins C dx (aF "fair" y3 (aF "marks" y2 (aF "steps" y1 [])))))) y4 d:=t4
 have hp9:H9 p=some (.ins C dx (aF "fair" y3 (aF "marks" y2 (aF "steps" y1 [])))):=s9 _ _ zR
 have l3:(aF "fair" y3 (aF "marks" y2 (aF "steps" y1 []))).length<1000:=by
  have a0:=bV "fair" y3 (aF "marks" y2 (aF "steps" y1 []))
  have a1:=bV "marks" y2 (aF "steps" y1 [])
  have a2:=bV "steps" y1 []
  have a3:([]:List (Str×V)).length=0:=rfl
  omega
 refine⟨_,rfl,p,C,dx,_,rfl,hp9,T.cl,T.nB,l3,?_⟩
 have f4:=Rp.mono (Vx (H:=H) (p:=p) kp8 (by rw[zR];intro z;cases z)) t4
 have kp9:∀b o,b≠p->H b=some o->(upd H9 p (.ins C dx (aF "sources" y4 (aF "fair" y3 (aF "marks" y2 (aF "steps" y1 [])))))) b=some o:=λb o n e=>by rw[zV n];exact s9 _ _ (kp8 _ _ n e)
 have u9:Same (hid H9 p) (upd H9 p (.ins C dx (aF "sources" y4 (aF "fair" y3 (aF "marks" y2 (aF "steps" y1 [])))))):=(by rw[Js];exact .refl _:Same (hid H9 p) (hid (upd H9 p (.ins C dx (aF "sources" y4 (aF "fair" y3 (aF "marks" y2 (aF "steps" y1 [])))))) p)).trans R3
 have u8:Same (hid H8 p) (hid H9 p):=(by rw[Js];exact .refl _:Same (hid H8 p) (hid (upd H8 p (.ins C dx (aF "fair" y3 (aF "marks" y2 (aF "steps" y1 []))))) p)).trans (Pj s9)
 have u7:Same (hid H7 p) (hid H8 p):=(by rw[Js];exact .refl _:Same (hid H7 p) (hid (upd H7 p (.ins C dx (aF "marks" y2 (aF "steps" y1 [])))) p)).trans (Pj s8)
 have u6:Same (hid H6 p) (hid H7 p):=(by rw[Js];exact .refl _:Same (hid H6 p) (hid (upd H6 p (.ins C dx (aF "steps" y1 []))) p)).trans (Pj s7)
 refine q _ kp9 ⟨p,dx,aF "sources" y4 (aF "fair" y3 (aF "marks" y2 (aF "steps" y1 []))),y1,y2,y3,y4,rfl,?_,?_,Rp.mono (vD (u6.trans (u7.trans (u8.trans u9)))) f1,?_,Rp.mono (vD (u7.trans (u8.trans u9))) f2,?_,Rp.mono (vD (u8.trans u9)) f3,?_,Rp.mono (vD u9) f4,?_⟩
 ·rw[uw Ph];exact zR
 ·rw[zP,if_neg (by decide +kernel)];exact lk
 ·rw[zP,if_neg (by decide +kernel),zP,if_neg (by decide +kernel),zP,if_pos rfl]
 ·rw[zP,if_neg (by decide +kernel),zP,if_pos rfl]
 ·rw[zP,if_pos rfl]
 ·intro g hg
  simp only[X6,mem_cons,aeu,or_false] at hg
  rcases hg with rfl|rfl|rfl|rfl|rfl|rfl<;>(rw[zP,if_neg (by decide +kernel),zP,if_neg (by decide +kernel),zP,if_neg (by decide +kernel),zP,if_neg (by decide +kernel)];rfl)
end
end Ts
namespace Sy
open PySem L2
abbrev Ze:Stmt:=Ts.jU
abbrev Zf:Stmt:=Ts.kO
abbrev Zg:Stmt:=Ts.kW
abbrev Nf:Stmt:=Ts.mW
abbrev Cg:Stmt:=Ts.mj
abbrev Ng:Stmt:=Ts.mX
abbrev Zh:Stmt:=Ts.jk
abbrev Zi:Stmt:=Ts.jm
abbrev Zj:Stmt:=Ts.gM
abbrev Zk:Stmt:=Ts.gO
abbrev Zm:Stmt:=Ts.jr
abbrev Zn:Stmt:=Ts.jt
abbrev Ci:Stmt:=Ts.mq
abbrev Zo:Stmt:=Ts.jV
abbrev Zq:Stmt:=Ts.jo
abbrev Zr:Stmt:=Ts.jq
section
variable{P:Program}{w:World}{K:PySem.W.Frag}{mg:Str->Option Value}{base:Heap}
theorem zS7:ak ["self","word","parts"] ["self","word","parts"] (zI Ze):=⟨rfl,rfl,rfl,by decide +kernel,rfl,by decide +kernel,by decide +kernel⟩
theorem zQj(F:aU K "__init__" "Saying.__init__" Ze f fd):aq P w K mg base aO 1 f fd ["self","word","parts"] (spS K):=by
 refine F.ok zS7 (λvs H Q E h=>?_) (λcdv A outer s H vs Q E hr h=>?_)
 ·obtain⟨p,C,dx,x,y,rfl,_⟩:=h
  rfl
 obtain⟨p,C,dx,x,y,rfl,hp,T,q⟩:=h
 refine⟨_,zB (Dp (pv 0) (pv 1) rfl) (xV (Dp (pv 0) (pv 2) rfl)),?_⟩
 refine⟨_,rfl,_,rfl,p,C,dx,[],rfl,hp,T.cl,T.nW,(by show 0<1000;decide),_,rfl,_,rfl,p,C,dx,_,rfl,zR,T.cl,T.nP,(by show 1<1000;decide),?_⟩
 exact q _ ((Kp.put p H _).trans (Kp.put p _ _)) zR
theorem G6:ak ["self","word","part"] ["self","word","part"] (zI Zf):=⟨rfl,rfl,rfl,by decide +kernel,rfl,by decide +kernel,by decide +kernel⟩
theorem zTv(F:aU K "__init__" "OfOne.__init__" Zf f fd)(mD:mg "Saying" = some (.ref D))(cD:qK K D "__init__" g)(G:aq P w K mg base aO 1 g gd ["self","word","parts"] (spS K))(bG:Binds K gd ["self","word","parts"] []) :
  aq P w K mg base aO 2 f fd ["self","word","part"] (q9 K):=by
 refine F.ok G6 (λvs H Q E h=>?_) (λcdv A outer s H vs Q E hr h=>?_)
 ·obtain⟨p,C,dx,x,v,rfl,_⟩:=h
  rfl
 obtain⟨p,C,dx,x,v,rfl,hp,T,q⟩:=h
 refine⟨_,zB (yH (uX rfl mD cD G hr bG .nil vV (zA (pv 0) (zA (pv 1) (zA (uh (zA (pv 2) zF)) zF))))) (xV (Dp (pv 0) (pv 2) rfl)),?_⟩
 refine⟨_,rfl,_,rfl,_,rfl,(by show 1<=sizeLine;decide),λt ht=>?_⟩
 have hp1:=aL ht (.tup [v]) _ _ hp
 refine⟨p,C,dx,_,_,rfl,hp1,T,λH' k1 e1=>?_⟩
 have pt:t≠p:=(zS hp ht).symm
 refine⟨_,rfl,_,rfl,p,C,dx,_,rfl,e1,T.cl,T.n1,aa1 (VP x t) (by decide),?_⟩
 exact q t _ (((Kp.of (aL ht _)).trans k1).trans (Kp.put p _ _)) ht (by rw[zV pt];exact k1 _ _ pt zR) zR
theorem G7:ak ["self","word","left","right"] ["self","word","left","right"] (zI Zg):=⟨rfl,rfl,rfl,by decide +kernel,rfl,by decide +kernel,by decide +kernel⟩
theorem zTu(F:aU K "__init__" "OfTwo.__init__" Zg f fd)(mD:mg "Saying" = some (.ref D))(cD:qK K D "__init__" g)(G:aq P w K mg base aO 1 g gd ["self","word","parts"] (spS K))(bG:Binds K gd ["self","word","parts"] []) :
  aq P w K mg base aO 2 f fd ["self","word","left","right"] (BK K):=by
 refine F.ok G7 (λvs H Q E h=>?_) (λcdv A outer s H vs Q E hr h=>?_)
 ·obtain⟨p,C,dx,x,v,u,rfl,_⟩:=h
  rfl
 obtain⟨p,C,dx,x,v,u,rfl,hp,T,q⟩:=h
 refine⟨_,zB (yH (uX rfl mD cD G hr bG .nil vV (zA (pv 0) (zA (pv 1) (zA (uh (zA (pv 2) (zA (pv 3) zF))) zF))))) (zB (Dp (pv 0) (pv 2) rfl) (xV (Dp (pv 0) (pv 3) rfl))),?_⟩
 refine⟨_,rfl,_,rfl,_,rfl,_,rfl,(by show 2<=sizeLine;decide),λt ht=>?_⟩
 have hp1:=aL ht (.tup [v,u]) _ _ hp
 refine⟨p,C,dx,_,_,rfl,hp1,T,λH' k1 e1=>?_⟩
 have pt:t≠p:=(zS hp ht).symm
 refine⟨_,rfl,_,rfl,p,C,dx,_,rfl,e1,T.cl,T.nL,aa1 (VP x t) (by decide),?_⟩
 refine⟨_,rfl,_,rfl,p,C,dx,_,rfl,zR,T.cl,T.nR,aa1 (aaz (bV "left" v _) (abl (VP x t))) (by decide),?_⟩
 exact q t _ ((((Kp.of (aL ht _)).trans k1).trans (Kp.put p _ _)).trans (Kp.put p _ _)) ht (by rw[zV pt,zV pt];exact k1 _ _ pt zR) zR
theorem Tc:ak ["self"] ["self"] (zI Nf):=⟨rfl,rfl,rfl,by decide +kernel,rfl,by decide +kernel,by decide +kernel⟩
theorem Nh(F:aU K "__init__" "All.__init__" Nf f fd)(T:gJ K C)(mD:mg "Saying" = some (.ref D))(cD:qK K D "__init__" g)(G:aq P w K mg base aO 1 g gd ["self","word","parts"] (spS K))(bG:Binds K gd ["self","word","parts"] []) :
  aq P w K mg base aO 2 f fd ["self"] (Mx C):=by
 refine F.ok Tc (λvs H Q E h=>?_) (λcdv A outer s H vs Q E hr h=>?_)
 ·obtain⟨p,dx,rfl,_⟩:=h
  rfl
 obtain⟨p,dx,rfl,hp,q⟩:=h
 refine⟨_,xV (yH (uX rfl mD cD G hr bG .nil vV (zA (pv 0) (zA xK (zA (uh zF) zF))))),?_⟩
 refine⟨_,rfl,(by show 0<=sizeLine;decide),λt ht=>?_⟩
 have hp1:=aL ht (.tup []) _ _ hp
 have pt:t≠p:=(zS hp ht).symm
 exact⟨p,C,dx,_,_,rfl,hp1,T,λH' k1 e1=>q t H' ((Kp.of (aL ht _)).trans k1) ht (k1 _ _ pt zR) e1⟩
theorem Ni:ak ["self","name"] ["self","name"] (zI Cg):=⟨rfl,rfl,rfl,by decide +kernel,rfl,by decide +kernel,by decide +kernel⟩
theorem G8(F:aU K "__init__" "Mark.__init__" Cg f fd)(T:gJ K C)(mD:mg "Saying" = some (.ref D))(cD:qK K D "__init__" g)(G:aq P w K mg base aO 1 g gd ["self","word","parts"] (spS K))(bG:Binds K gd ["self","word","parts"] []) :
  aq P w K mg base aO 2 f fd ["self","name"] (Mz C):=by
 refine F.ok Ni (λvs H Q E h=>?_) (λcdv A outer s H vs Q E hr h=>?_)
 ·obtain⟨p,dx,x,rfl,_⟩:=h
  rfl
 obtain⟨p,dx,x,rfl,hp,q⟩:=h
 refine⟨_,zB (yH (uX rfl mD cD G hr bG .nil vV (zA (pv 0) (zA (pv 1) (zA (uh zF) zF))))) (xV (Dp (pv 0) (pv 1) rfl)),?_⟩
 refine⟨_,rfl,_,rfl,(by show 0<=sizeLine;decide),λt ht=>?_⟩
 have hp1:=aL ht (.tup []) _ _ hp
 have pt:t≠p:=(zS hp ht).symm
 refine⟨p,C,dx,_,_,rfl,hp1,T,λH' k1 e1=>?_⟩
 refine⟨_,rfl,_,rfl,p,C,dx,_,rfl,e1,T.cl,T.nN,aa1 (VP x t) (by decide),?_⟩
 exact q t _ (((Kp.of (aL ht _)).trans k1).trans (Kp.put p _ _)) ht (by rw[zV pt];exact k1 _ _ pt zR) zR
end
section
variable{P:Program}{w:World}{K:PySem.W.Frag}{mg:Str->Option Value}{base:Heap}
theorem Td:ak ["self","part"] ["self","part"] (zI Ng):=⟨rfl,rfl,rfl,by decide +kernel,rfl,by decide +kernel,by decide +kernel⟩
theorem Nj(F:aU K "__init__" "Not.__init__" Ng f fd)(T:gJ K C)(mD:mg "OfOne" = some (.ref D))(cD:qK K D "__init__" g)(G:aq P w K mg base aO 2 g gd ["self","word","part"] (q9 K))(bG:Binds K gd ["self","word","part"] []) :
  aq P w K mg base aO 3 f fd ["self","part"] (pX C "not"):=by
 refine F.ok Td (λvs H Q E h=>?_) (λcdv A outer s H vs Q E hr h=>?_)
 ·obtain⟨p,dx,c,rfl,_⟩:=h
  rfl
 obtain⟨p,dx,c,rfl,hp,q⟩:=h
 refine⟨_,xV (yH (uX rfl mD cD G hr bG .nil vV (zA (pv 0) (zA xK (zA (pv 1) zF))))),?_⟩
 exact⟨_,rfl,_,rfl,p,C,dx,_,_,rfl,hp,T,λq0 H' k1 f0 e1 e2=>q q0 H' k1 f0 e1 e2⟩
theorem zNs:ak ["self","part"] ["self","part"] (zI Zh):=⟨rfl,rfl,rfl,by decide +kernel,rfl,by decide +kernel,by decide +kernel⟩
theorem zK4(F:aU K "__init__" "SomeNext.__init__" Zh f fd)(T:gJ K C)(mD:mg "OfOne" = some (.ref D))(cD:qK K D "__init__" g)(G:aq P w K mg base aO 2 g gd ["self","word","part"] (q9 K))(bG:Binds K gd ["self","word","part"] []) :
  aq P w K mg base aO 3 f fd ["self","part"] (pX C "somenext"):=by
 refine F.ok zNs (λvs H Q E h=>?_) (λcdv A outer s H vs Q E hr h=>?_)
 ·obtain⟨p,dx,c,rfl,_⟩:=h
  rfl
 obtain⟨p,dx,c,rfl,hp,q⟩:=h
 refine⟨_,xV (yH (uX rfl mD cD G hr bG .nil vV (zA (pv 0) (zA xK (zA (pv 1) zF))))),?_⟩
 exact⟨_,rfl,_,rfl,p,C,dx,_,_,rfl,hp,T,λq0 H' k1 f0 e1 e2=>q q0 H' k1 f0 e1 e2⟩
theorem zNv:ak ["self","part"] ["self","part"] (zI Zi):=⟨rfl,rfl,rfl,by decide +kernel,rfl,by decide +kernel,by decide +kernel⟩
theorem zK7(F:aU K "__init__" "EachNext.__init__" Zi f fd)(T:gJ K C)(mD:mg "OfOne" = some (.ref D))(cD:qK K D "__init__" g)(G:aq P w K mg base aO 2 g gd ["self","word","part"] (q9 K))(bG:Binds K gd ["self","word","part"] []) :
  aq P w K mg base aO 3 f fd ["self","part"] (pX C "eachnext"):=by
 refine F.ok zNv (λvs H Q E h=>?_) (λcdv A outer s H vs Q E hr h=>?_)
 ·obtain⟨p,dx,c,rfl,_⟩:=h
  rfl
 obtain⟨p,dx,c,rfl,hp,q⟩:=h
 refine⟨_,xV (yH (uX rfl mD cD G hr bG .nil vV (zA (pv 0) (zA xK (zA (pv 1) zF))))),?_⟩
 exact⟨_,rfl,_,rfl,p,C,dx,_,_,rfl,hp,T,λq0 H' k1 f0 e1 e2=>q q0 H' k1 f0 e1 e2⟩
theorem zI2:ak ["self","part"] ["self","part"] (zI Zj):=⟨rfl,rfl,rfl,by decide +kernel,rfl,by decide +kernel,by decide +kernel⟩
theorem zHv(F:aU K "__init__" "SomeAlways.__init__" Zj f fd)(T:gJ K C)(mD:mg "OfOne" = some (.ref D))(cD:qK K D "__init__" g)(G:aq P w K mg base aO 2 g gd ["self","word","part"] (q9 K))(bG:Binds K gd ["self","word","part"] []) :
  aq P w K mg base aO 3 f fd ["self","part"] (pX C "somealways"):=by
 refine F.ok zI2 (λvs H Q E h=>?_) (λcdv A outer s H vs Q E hr h=>?_)
 ·obtain⟨p,dx,c,rfl,_⟩:=h
  rfl
 obtain⟨p,dx,c,rfl,hp,q⟩:=h
 refine⟨_,xV (yH (uX rfl mD cD G hr bG .nil vV (zA (pv 0) (zA xK (zA (pv 1) zF))))),?_⟩
 exact⟨_,rfl,_,rfl,p,C,dx,_,_,rfl,hp,T,λq0 H' k1 f0 e1 e2=>q q0 H' k1 f0 e1 e2⟩
theorem zI3:ak ["self","part"] ["self","part"] (zI Zk):=⟨rfl,rfl,rfl,by decide +kernel,rfl,by decide +kernel,by decide +kernel⟩
theorem zHw(F:aU K "__init__" "EachAlways.__init__" Zk f fd)(T:gJ K C)(mD:mg "OfOne" = some (.ref D))(cD:qK K D "__init__" g)(G:aq P w K mg base aO 2 g gd ["self","word","part"] (q9 K))(bG:Binds K gd ["self","word","part"] []) :
  aq P w K mg base aO 3 f fd ["self","part"] (pX C "eachalways"):=by
 refine F.ok zI3 (λvs H Q E h=>?_) (λcdv A outer s H vs Q E hr h=>?_)
 ·obtain⟨p,dx,c,rfl,_⟩:=h
  rfl
 obtain⟨p,dx,c,rfl,hp,q⟩:=h
 refine⟨_,xV (yH (uX rfl mD cD G hr bG .nil vV (zA (pv 0) (zA xK (zA (pv 1) zF))))),?_⟩
 exact⟨_,rfl,_,rfl,p,C,dx,_,_,rfl,hp,T,λq0 H' k1 f0 e1 e2=>q q0 H' k1 f0 e1 e2⟩
theorem zNt:ak ["self","part"] ["self","part"] (zI Zm):=⟨rfl,rfl,rfl,by decide +kernel,rfl,by decide +kernel,by decide +kernel⟩
theorem zK5(F:aU K "__init__" "SomeEver.__init__" Zm f fd)(T:gJ K C)(mD:mg "OfOne" = some (.ref D))(cD:qK K D "__init__" g)(G:aq P w K mg base aO 2 g gd ["self","word","part"] (q9 K))(bG:Binds K gd ["self","word","part"] []) :
  aq P w K mg base aO 3 f fd ["self","part"] (pX C "someever"):=by
 refine F.ok zNt (λvs H Q E h=>?_) (λcdv A outer s H vs Q E hr h=>?_)
 ·obtain⟨p,dx,c,rfl,_⟩:=h
  rfl
 obtain⟨p,dx,c,rfl,hp,q⟩:=h
 refine⟨_,xV (yH (uX rfl mD cD G hr bG .nil vV (zA (pv 0) (zA xK (zA (pv 1) zF))))),?_⟩
 exact⟨_,rfl,_,rfl,p,C,dx,_,_,rfl,hp,T,λq0 H' k1 f0 e1 e2=>q q0 H' k1 f0 e1 e2⟩
theorem zNw:ak ["self","part"] ["self","part"] (zI Zn):=⟨rfl,rfl,rfl,by decide +kernel,rfl,by decide +kernel,by decide +kernel⟩
theorem zK8(F:aU K "__init__" "EachEver.__init__" Zn f fd)(T:gJ K C)(mD:mg "OfOne" = some (.ref D))(cD:qK K D "__init__" g)(G:aq P w K mg base aO 2 g gd ["self","word","part"] (q9 K))(bG:Binds K gd ["self","word","part"] []) :
  aq P w K mg base aO 3 f fd ["self","part"] (pX C "eachever"):=by
 refine F.ok zNw (λvs H Q E h=>?_) (λcdv A outer s H vs Q E hr h=>?_)
 ·obtain⟨p,dx,c,rfl,_⟩:=h
  rfl
 obtain⟨p,dx,c,rfl,hp,q⟩:=h
 refine⟨_,xV (yH (uX rfl mD cD G hr bG .nil vV (zA (pv 0) (zA xK (zA (pv 1) zF))))),?_⟩
 exact⟨_,rfl,_,rfl,p,C,dx,_,_,rfl,hp,T,λq0 H' k1 f0 e1 e2=>q q0 H' k1 f0 e1 e2⟩
theorem Nk:ak ["self","left","right"] ["self","left","right"] (zI Ci):=⟨rfl,rfl,rfl,by decide +kernel,rfl,by decide +kernel,by decide +kernel⟩
theorem G9(F:aU K "__init__" "Both.__init__" Ci f fd)(T:gJ K C)(mD:mg "OfTwo" = some (.ref D))(cD:qK K D "__init__" g)(G:aq P w K mg base aO 2 g gd ["self","word","left","right"] (BK K))(bG:Binds K gd ["self","word","left","right"] []) :
  aq P w K mg base aO 3 f fd ["self","left","right"] (BL C "both"):=by
 refine F.ok Nk (λvs H Q E h=>?_) (λcdv A outer s H vs Q E hr h=>?_)
 ·obtain⟨p,dx,c,d,rfl,_⟩:=h
  rfl
 obtain⟨p,dx,c,d,rfl,hp,q⟩:=h
 refine⟨_,xV (yH (uX rfl mD cD G hr bG .nil vV (zA (pv 0) (zA xK (zA (pv 1) (zA (pv 2) zF)))))),?_⟩
 exact⟨_,rfl,_,rfl,_,rfl,p,C,dx,_,_,_,rfl,hp,T,λq0 H' k1 f0 e1 e2=>q q0 H' k1 f0 e1 e2⟩
theorem zS8:ak ["self","left","right"] ["self","left","right"] (zI Zo):=⟨rfl,rfl,rfl,by decide +kernel,rfl,by decide +kernel,by decide +kernel⟩
theorem zQk(F:aU K "__init__" "Either.__init__" Zo f fd)(T:gJ K C)(mD:mg "OfTwo" = some (.ref D))(cD:qK K D "__init__" g)(G:aq P w K mg base aO 2 g gd ["self","word","left","right"] (BK K))(bG:Binds K gd ["self","word","left","right"] []) :
  aq P w K mg base aO 3 f fd ["self","left","right"] (BL C "either"):=by
 refine F.ok zS8 (λvs H Q E h=>?_) (λcdv A outer s H vs Q E hr h=>?_)
 ·obtain⟨p,dx,c,d,rfl,_⟩:=h
  rfl
 obtain⟨p,dx,c,d,rfl,hp,q⟩:=h
 refine⟨_,xV (yH (uX rfl mD cD G hr bG .nil vV (zA (pv 0) (zA xK (zA (pv 1) (zA (pv 2) zF)))))),?_⟩
 exact⟨_,rfl,_,rfl,_,rfl,p,C,dx,_,_,_,rfl,hp,T,λq0 H' k1 f0 e1 e2=>q q0 H' k1 f0 e1 e2⟩
theorem zNr:ak ["self","left","right"] ["self","left","right"] (zI Zq):=⟨rfl,rfl,rfl,by decide +kernel,rfl,by decide +kernel,by decide +kernel⟩
theorem zK3(F:aU K "__init__" "SomeTill.__init__" Zq f fd)(T:gJ K C)(mD:mg "OfTwo" = some (.ref D))(cD:qK K D "__init__" g)(G:aq P w K mg base aO 2 g gd ["self","word","left","right"] (BK K))(bG:Binds K gd ["self","word","left","right"] []) :
  aq P w K mg base aO 3 f fd ["self","left","right"] (BL C "sometill"):=by
 refine F.ok zNr (λvs H Q E h=>?_) (λcdv A outer s H vs Q E hr h=>?_)
 ·obtain⟨p,dx,c,d,rfl,_⟩:=h
  rfl
 obtain⟨p,dx,c,d,rfl,hp,q⟩:=h
 refine⟨_,xV (yH (uX rfl mD cD G hr bG .nil vV (zA (pv 0) (zA xK (zA (pv 1) (zA (pv 2) zF)))))),?_⟩
 exact⟨_,rfl,_,rfl,_,rfl,p,C,dx,_,_,_,rfl,hp,T,λq0 H' k1 f0 e1 e2=>q q0 H' k1 f0 e1 e2⟩
theorem zNu:ak ["self","left","right"] ["self","left","right"] (zI Zr):=⟨rfl,rfl,rfl,by decide +kernel,rfl,by decide +kernel,by decide +kernel⟩
theorem zK6(F:aU K "__init__" "EachTill.__init__" Zr f fd)(T:gJ K C)(mD:mg "OfTwo" = some (.ref D))(cD:qK K D "__init__" g)(G:aq P w K mg base aO 2 g gd ["self","word","left","right"] (BK K))(bG:Binds K gd ["self","word","left","right"] []) :
  aq P w K mg base aO 3 f fd ["self","left","right"] (BL C "eachtill"):=by
 refine F.ok zNu (λvs H Q E h=>?_) (λcdv A outer s H vs Q E hr h=>?_)
 ·obtain⟨p,dx,c,d,rfl,_⟩:=h
  rfl
 obtain⟨p,dx,c,d,rfl,hp,q⟩:=h
 refine⟨_,xV (yH (uX rfl mD cD G hr bG .nil vV (zA (pv 0) (zA xK (zA (pv 1) (zA (pv 2) zF)))))),?_⟩
 exact⟨_,rfl,_,rfl,_,rfl,p,C,dx,_,_,_,rfl,hp,T,λq0 H' k1 f0 e1 e2=>q q0 H' k1 f0 e1 e2⟩
end
end Sy
set_option maxHeartbeats 4000000
namespace Ts
open PySem L2 Sy
section
variable{P:Program}{w:World}{K:PySem.W.Frag}{mg:Str->Option Value}{base:Heap}
def Te(q0:Int)(q1:Int):Option Bool:=if true=true then if(!false)=true then if decide ((0:Int)<=q0)=true then some (decide (q0<q1)) else some false else some false else some false
theorem lO:ak ["thing","many"] ["thing","many"] (zI jH):=fsc
abbrev zGu(K:PySem.W.Frag):Sp:=cj K false (λa:Int×Int×Unit=>([.z a.1,.z a.2.1]:SL K)) (λa=>Te a.1 a.2.1)
theorem zK1(F:aU K "is_stand" "is_stand" jH f fd)(B:Bl K mg):aq P w K mg base aO (k+1) f fd ["thing","many"] (zGu K):=by
 refine yF F lO (λ_=>rfl) (λ_=>rfl) λcdv A outer s H E hr=>?_
 have nd:=lO.nd
 refine⟨_,(zB (zU (Kc (zO (xL K (Ds (n:="int"))) rfl B.jw xM (zA (pv 0) (zA (Dm (v:=.ty "int") rfl B.int X4 rfl) zF))) (Kc (zVd (zO (xL K (Ds (n:="bool"))) rfl B.jw xM (zA (pv 0) (zA (Dm (v:=.ty "bool") rfl B.bool X5 rfl) zF)))) (Oq (zMb Ao Es zK (pv 0) (pv 1)))))) zG),?_⟩
 rintro Fa ⟨q0,q1,⟨⟩⟩
 exact SB.of (zX (esc (K9 (Du B.ii rfl (zE 0 rfl)) (K9 (zVn (Du B.ib rfl (zE 0 rfl))) (zMn (f:=(λi j=>decide (i<=j))) (g:=(λi j=>decide (i<j))) (zJ 0) (zE 0 rfl) (zE 1 rfl)))))) (by unfold Te;simp only[bnd])
def xQ(q0:LI)(q1:Int)(q2:Str):Option Unit:=(some ()).bind λsS=>((some q0).bind λxs=>xH (λ(s2:List (Key×Bool)) (x4:Int)=>(((Te x4 q1).bind λa5=>some (!a5)).bind λb=>if b=true then none else some ()).bind λs6=>(if((dw (Dc.mk s2).kv x4).isSome)=true then none else some ()).bind λs8=>(dput s2 x4 true).bind λgk=>some gk) xs (([]:List (Key×Bool)))).bind λs3=>some ()
theorem gF:ak ["stands","many","where","ahead","stand"] ["stands","many","where"] (zI dJ):=fsc
abbrev uI(K:PySem.W.Frag):Sp:=cj K false (λa:LI×Int×Str×Unit=>([.z a.1,.z a.2.1,.z a.2.2.1]:SL K)) (λa=>xQ a.1 a.2.1 a.2.2.1)
theorem zEz(F:aU K "check_stands" "check_stands" dJ f fd)(B:Bl K mg)(jK:bC P w K mg base k "is_stand" ["thing","many"] (zGu K)):aq P w K mg base aO (k+1) f fd ["stands","many","where"] (uI K):=by
 refine Vv F gF (λ_=>rfl) (λ_=>rfl) λcdv A outer s H E hr=>?_
 have nd:=gF.nd
 have hu:=Ra hr
 refine⟨_,(zB (yN 3 nd W9) (zB (xD aau rfl (yI K (pv 0)) (bH 4 nd) (zB (yP (v8 (yS (yB jK hr (zA (pv 4) (zA (pv 1) zF))))) yO zG) (zB (yP (v7 (OJ hu (pv 4) (pv 3))) yO zG) (zB (U8 hu (pv 3) (pv 4) oE rfl) zG)))) zG)),?_⟩
 rintro Fa ⟨q0,q1,q2,⟨⟩⟩
 exact⟨_,Sn.of (zL (Xx (α:=Bool) 3 rfl rfl) (λsS=>(zL (wK (n:=false) (L:=(λs2:List (Key×Bool)=>([.z q0,.z q1,.z q2,.od (s2:List (Key×Bool)),.un]:SL K))) (([]:List (Key×Bool))) aM (yL (yK 0 rfl)) (λs2=>(zW 4 rfl rfl)) (λs2 x4=>(zL (wT (w5 (aR (md:=.hp) (zN (zH (esc (zE 4 rfl)) (zH (esc (zE 1 rfl)) zQ))))) xB (zT (λs7:Unit=>([.z q0,.z q1,.z q2,.od (s2:List (Key×Bool)),.z x4]:SL K)) () aM)) (λs6=>(zL (wT (aR (md:=.hp) (RT (zE 4 rfl) (Vt 3 rfl))) xB (zT (λs9:Unit=>([.z q0,.z q1,.z q2,.od (s2:List (Key×Bool)),.z x4]:SL K)) () aM)) (λs8=>(zL (Yn 3 rfl rfl (esc (oM true)) (zE 4 rfl)) (λgk=>(zT (λs2:List (Key×Bool)=>([.z q0,.z q1,.z q2,.od (s2:List (Key×Bool)),.un]:SL K)) gk aM))))))))) (λs3=>(zT (λ_:Unit=>([.un,.un,.un,.un,.un]:SL K)) () aM))))) (by unfold xQ;simp only[bnd])⟩
def vQ(q0:List LI):Option Unit:=(some (q0.length:Int)).bind λmany1=>((if(decide (many1<(1:Int)))=true then some true else some (decide ((60:Int)<many1))).bind λb=>if b=true then none else some ()).bind λs2=>((some (Bq q0)).bind λxs=>xH (λ(s4:Unit) (x6:Int×LI)=>(((((L_ "steps of stand " x6.1).bind λa8=>some ((a8,()))).bind λb9=>some (many1,b9)).bind λb10=>some (x6.2,b10)).bind λz7=>xQ z7.1 z7.2.1 z7.2.2.1).bind λu11=>(if(decide ((x6.2.length:Int)=(0:Int)))=true then none else some ()).bind λs12=>some ()) xs ()).bind λs5=>some ()
theorem iD:ak ["steps","many","stand","targets"] ["steps"] (zI fj):=fsc
abbrev zIl(K:PySem.W.Frag):Sp:=cj K false (λa:((List LI))×Unit=>([.z a.1]:SL K)) (λa=>vQ a.1)
theorem zF2(F:aU K "check_steps" "check_steps" fj f fd)(B:Bl K mg)(oR:mg "MOST_STANDS" = some (.int 60 oV))(aN:bC P w K mg base k "check_stands" ["stands","many","where"] (uI K)):aq P w K mg base aO (k+1) f fd ["steps"] (zIl K):=by
 refine Vv F iD (λ_=>rfl) (λ_=>rfl) λcdv A outer s H E hr=>?_
 have nd:=iD.nd
 refine⟨_,(zB (yN 1 nd (zO (wS K) rfl B.len aa4 (zA (pv 0) zF))) (zB (yP (PW.pt (pw_or (yC Es (pv 1) zK (aG _)) (pw_or1 (yC QF (pv 1) (xC (v:=.int 60) rfl oR ⟨_,rfl⟩) (aG _))))) yO zG) (zB (xD aau rfl (X8 K B.enum (zA (pv 0) zF)) (Iu rfl (xI (bH 2 nd) (xI (bH 3 nd) Ef))) (zB (yH (yB aN hr (zA (pv 3) (zA (pv 1) (zA (Bj (pv 2) (by decide)) zF))))) (zB (yP (yC (vW K Int hr) (zO (wS K) rfl B.len aa4 (zA (pv 3) zF)) zK (aG _)) yO zG) zG))) zG))),?_⟩
 rintro Fa ⟨q0,⟨⟩⟩
 exact⟨_,Sn.of (zL (zZ true 1 rfl rfl (esc (uO (zD 0 rfl)))) (λmany1=>(zL (wT (FN (yD (md:=.hp) (Jf (zE 1 rfl) (zJ 1))) (yD (md:=.hp) (Rw (zE 1 rfl) (zJ 60)))) xB (zT (λs3:Unit=>([.z q0,.y many1,.un,.un]:SL K)) () aM)) (λs2=>(zL (wK (n:=false) (L:=(λs4:Unit=>([.z q0,.y many1,.un,.un]:SL K))) () aM (XF (yK 0 rfl)) (λs4=>(Je 2 3 rfl rfl (λ_=>rfl) rfl)) (λs4 x6=>(zL (O7 (md:=.hp) (zN (zH (zD 3 rfl) (zH (esc (zE 1 rfl)) (zH (esc (zVq "steps of stand " (zE 2 rfl))) zQ))))) (λu11=>(zL (wT (yD (md:=.hp) (vX (uO (zD 3 rfl)) (zJ 0))) xB (zT (λoF:Unit=>([.z q0,.y many1,.z x6.1,.z x6.2]:SL K)) () aM)) (λs12=>(zT (λs4:Unit=>([.z q0,.y many1,.un,.un]:SL K)) () aM))))))) (λs5=>(zT (λ_:Unit=>([.un,.un,.un,.un]:SL K)) () aM))))))) (by unfold vQ;simp only[bnd])⟩
def Nm(q0:Str):Option Bool:=(if(!true)=true then some true else some (decide (q0∈(["all","not","both","either","somenext","eachnext","sometill","eachtill","someever","eachever"]:List Str)))).bind λb=>if b=true then some false else((Bw q0).bind λb1=>if decide ((1:Int)<=b1)=true then some (decide (b1<=(8:Int))) else some false).bind λc4=>if c4=true then((some (Jo q0)).bind λxs=>yW (λ(x2:Str)=>some true) (λ(x2:Str)=>some (Vu x2 ("abcdefghijklmnopqrstuvwxyz":Str))) xs).bind λa3=>some (a3.all id) else some false
theorem m5:ak ["name"] ["name"] (zI lg):=fsc
abbrev zKg(K:PySem.W.Frag):Sp:=cj K false (λa:Str×Unit=>([.z a.1]:SL K)) (λa=>Nm a.1)
theorem zN8(F:aU K "is_name" "is_name" lg f fd)(B:Bl K mg)(yr:mg "LETTERS" = some (.str "abcdefghijklmnopqrstuvwxyz" yt))(m6:mg "LONGEST_NAME" = some (.int 8 m7))(m8:mg "SAYING_WORDS" = some (.ref bY))(dN:∀H,kj K H bY ((["all","not","both","either","somenext","eachnext","sometill","eachtill","someever","eachever"]:List Str).map V.str))(Np:mg "all" = none)(Cj:mg "str" = none):aq P w K mg base aO (k+1) f fd ["name"] (zKg K):=by
 refine yF F m5 (λ_=>rfl) (λ_=>rfl) λcdv A outer s H E hr=>?_
 have nd:=m5.nd
 refine⟨_,(zB (yP (PW.pt (pw_or (v8 (yS (zO (xL K (Ds (n:="str"))) rfl B.jw xM (zA (pv 0) (zA (Dm (v:=.ty "str") rfl Cj zVu rfl) zF))))) (pw_or1 (yC (Lq K) (pv 0) (xC (v:=.ref bY) rfl m8 rfl) (by with_unfolding_all rfl))))) (zB (zU oE) zG) zG) (zB (zU (Kc (zMb Ao Ao zK (zO zR3 rfl B.len aa4 (zA (pv 0) zF)) (xC (v:=.int 8) rfl m6 ⟨_,rfl⟩)) (Oq (zO (zR6 K rfl) rfl Np Lw (zA (wA (own:=["sign"]) (ix:=[]) rfl rfl rfl (LC (pv 0)) (λC s H fp=>yJ (i:=0) (show(["sign"]:List Str).Nodup from by decide +kernel) rfl (Or.inl rfl)) (λC s H fp=>wX) (λC s H fp=>(Dn zQa (pv 0) (xC (v:=.str "abcdefghijklmnopqrstuvwxyz") rfl yr ⟨_,rfl⟩) (by with_unfolding_all rfl)))) zF))))) zG)),?_⟩
 rintro Fa ⟨q0,⟨⟩⟩
 exact SB.of (vJ (FN (w5 (aR (md:=.hp) (Du Jq rfl (zE 0 rfl)))) (yD (md:=.hp) (LR dN (zE 0 rfl)))) (zX (esc (oM false))) (zX (esc (K9 (zMn (f:=(λi j=>decide (i<=j))) (g:=(λi j=>decide (i<=j))) (zJ 1) (Gv (zE 0 rfl)) (zJ 8)) (zMo (yR (n:=true) (i_:=[.un]) (no:=1) (ix:=[]) rfl rfl (LK (zE 0 rfl)) (zW 0 rfl rfl) (λx2=>sy) (λx2=>(esc (LQ (zE 0 rfl) (K8 "abcdefghijklmnopqrstuvwxyz")))) (λx2=>cT)).ex))))) (by unfold Nm;simp only[bnd])
def vR(q0:List (Str×LI))(q1:Int):Option Unit:=(some ()).bind λsS=>((some q0).bind λxs=>xH (λ(s2:List (Key×Bool)) (x4:Str×LI)=>(((Nm x4.1).bind λa5=>some (!a5)).bind λb=>if b=true then none else some ()).bind λs6=>(if((Jr (Dc.mk s2).kv x4.1).isSome)=true then none else some ()).bind λs8=>(RX s2 x4.1 true).bind λgk=>(((((Pg "mark " x4.1).bind λa12=>some ((a12,()))).bind λb13=>some (q1,b13)).bind λTf=>some (x4.2,Tf)).bind λZt=>xQ Zt.1 Zt.2.1 Zt.2.2.1).bind λu15=>some gk) xs (([]:List (Key×Bool)))).bind λs3=>some ()
theorem iG:ak ["marks","many","ahead","name","stands"] ["marks","many"] (zI fu):=fsc
abbrev zIm(K:PySem.W.Frag):Sp:=cj K false (λa:((List (Str×LI)))×Int×Unit=>([.z a.1,.z a.2.1]:SL K)) (λa=>vR a.1 a.2.1)
theorem zF3(F:aU K "check_marks" "check_marks" fu f fd)(B:Bl K mg)(aN:bC P w K mg base k "check_stands" ["stands","many","where"] (uI K))(lC:bC P w K mg base k "is_name" ["name"] (zKg K)):aq P w K mg base aO (k+1) f fd ["marks","many"] (zIm K):=by
 refine Vv F iG (λ_=>rfl) (λ_=>rfl) λcdv A outer s H E hr=>?_
 have nd:=iG.nd
 have hu:=Ra hr
 refine⟨_,(zB (yN 2 nd W9) (zB (xD aau rfl (yI K (pv 0)) (Iu rfl (xI (bH 3 nd) (xI (bH 4 nd) Ef))) (zB (yP (v8 (yS (yB lC hr (zA (pv 3) zF)))) yO zG) (zB (yP (v7 (OJ hu (pv 3) (pv 2))) yO zG) (zB (U8 hu (pv 2) (pv 3) oE rfl) (zB (yH (yB aN hr (zA (pv 4) (zA (pv 1) (zA (Bj (pv 3) (by decide)) zF))))) zG))))) zG)),?_⟩
 rintro Fa ⟨q0,q1,⟨⟩⟩
 exact⟨_,Sn.of (zL (Xx (α:=Bool) 2 rfl rfl) (λsS=>(zL (wK (n:=false) (L:=(λs2:List (Key×Bool)=>([.z q0,.z q1,.od (s2:List (Key×Bool)),.un,.un]:SL K))) (([]:List (Key×Bool))) aM (yL (yK 0 rfl)) (λs2=>(Je 3 4 rfl rfl (λ_=>rfl) rfl)) (λs2 x4=>(zL (wT (w5 (aR (md:=.hp) (zN (zH (esc (zE 3 rfl)) zQ)))) xB (zT (λs7:Unit=>([.z q0,.z q1,.od (s2:List (Key×Bool)),.z x4.1,.z x4.2]:SL K)) () aM)) (λs6=>(zL (wT (aR (md:=.hp) (Gw (zE 3 rfl) (Vt 2 rfl))) xB (zT (λs9:Unit=>([.z q0,.z q1,.od (s2:List (Key×Bool)),.z x4.1,.z x4.2]:SL K)) () aM)) (λs8=>(zL (zS2 2 rfl rfl (esc (oM true)) (zE 3 rfl)) (λgk=>(zL (O7 (md:=.hp) (zN (zH (zD 4 rfl) (zH (esc (zE 1 rfl)) (zH (esc (Ma "mark " (zE 3 rfl))) zQ))))) (λu15=>(zT (λs2:List (Key×Bool)=>([.z q0,.z q1,.od (s2:List (Key×Bool)),.un,.un]:SL K)) gk aM))))))))))) (λs3=>(zT (λ_:Unit=>([.un,.un,.un,.un,.un]:SL K)) () aM))))) (by unfold vR;simp only[bnd])⟩
def uM(q0:List LI)(q1:Int):Option Unit:=((some (Bq q0)).bind λxs=>xH (λ(s1:Unit) (x3:Int×LI)=>(((((L_ "fair set " x3.1).bind λa5=>some ((a5,()))).bind λb6=>some (q1,b6)).bind λb7=>some (x3.2,b7)).bind λz4=>xQ z4.1 z4.2.1 z4.2.2.1).bind λu8=>some ()) xs ()).bind λs2=>some ()
theorem jx:ak ["fair","many","number","stands"] ["fair","many"] (zI fY):=fsc
abbrev zKh(K:PySem.W.Frag):Sp:=cj K false (λa:((List LI))×Int×Unit=>([.z a.1,.z a.2.1]:SL K)) (λa=>uM a.1 a.2.1)
theorem zHu(F:aU K "check_fair" "check_fair" fY f fd)(B:Bl K mg)(aN:bC P w K mg base k "check_stands" ["stands","many","where"] (uI K)):aq P w K mg base aO (k+1) f fd ["fair","many"] (zKh K):=by
 refine Vv F jx (λ_=>rfl) (λ_=>rfl) λcdv A outer s H E hr=>?_
 have nd:=jx.nd
 refine⟨_,(zB (xD aau rfl (X8 K B.enum (zA (pv 0) zF)) (Iu rfl (xI (bH 2 nd) (xI (bH 3 nd) Ef))) (zB (yH (yB aN hr (zA (pv 3) (zA (pv 1) (zA (Bj (pv 2) (by decide)) zF))))) zG)) zG),?_⟩
 rintro Fa ⟨q0,q1,⟨⟩⟩
 exact⟨_,Sn.of (zL (wK (n:=false) (L:=(λs1:Unit=>([.z q0,.z q1,.un,.un]:SL K))) () aM (XF (yK 0 rfl)) (λs1=>(Je 2 3 rfl rfl (λ_=>rfl) rfl)) (λs1 x3=>(zL (O7 (md:=.hp) (zN (zH (zD 3 rfl) (zH (esc (zE 1 rfl)) (zH (esc (zVq "fair set " (zE 2 rfl))) zQ))))) (λu8=>(zT (λs1:Unit=>([.z q0,.z q1,.un,.un]:SL K)) () aM))))) (λs2=>(zT (λ_:Unit=>([.un,.un,.un,.un]:SL K)) () aM))) (by unfold uM;simp only[bnd])⟩
def P0(q0:List LI):Option (List LI):=(some q0).bind λxs=>yW (λ(x1:LI)=>some true) (λ(x1:LI)=>some x1) xs
theorem pB:ak ["lists"] ["lists"] (zI mY):=fsc
abbrev zUx(K:PySem.W.Frag):Sp:=cj K false (λa:((List LI))×Unit=>([.z a.1]:SL K)) (λa=>P0 a.1)
theorem zQi(F:aU K "copied" "copied" mY f fd)(B:Bl K mg):aq P w K mg base aO (k+1) f fd ["lists"] (zUx K):=by
 refine yF F pB (λ_=>rfl) (λ_=>rfl) λcdv A outer s H E hr=>?_
 have nd:=pB.nd
 refine⟨_,(zB (zU (wA (own:=["things"]) (ix:=[]) rfl rfl rfl (yI K (pv 0)) (λC s H fp=>yJ (i:=0) (show(["things"]:List Str).Nodup from by decide +kernel) rfl (Or.inl rfl)) (λC s H fp=>wX) (λC s H fp=>(vL (Jk K) rfl B.list Gj (zA (pv 0) zF))))) zG),?_⟩
 rintro Fa ⟨q0,⟨⟩⟩
 exact SB.of (zX (yR (n:=false) (i_:=[.un]) (no:=1) (ix:=[]) rfl rfl (yL (yK 0 rfl)) (zW 0 rfl rfl) (λx1=>sy) (λx1=>(Ji (zD 0 rfl)).ex) (λx1=>cT)).ex) (by unfold P0;simp only[bnd])
end
abbrev Ti(C:Addr):=Vw C vQ vR uM P0 PX
section
variable{P:Program}{w:World}{K:PySem.W.Frag}{mg:Str->Option Value}{base:Heap}
def xG(q0:au C):Option Int:=some (q0.steps.length:Int)
theorem gG:ak ["self"] ["self"] (zI dM):=fsc
abbrev vC(K:PySem.W.Frag)(C:Addr):Sp:=cj K false (λa:(au C)×Unit=>([.z a.1]:SL K)) (λa=>xG a.1)
theorem zE0(F:aU K "many" "Machine.many" dM f fd)(B:Bl K mg)(T:Cl K mg C):aq P w K mg base aO (k+1) f fd ["self"] (vC K C):=by
 refine yF F gG (λ_=>rfl) (λ_=>rfl) λcdv A outer s H E hr=>?_
 have nd:=gG.nd
 refine⟨_,(zB (zU (zO (wS K) rfl B.len aa4 (zA (Gn K (pv 0)) zF))) zG),?_⟩
 rintro Fa ⟨q0,⟨⟩⟩
 exact SB.of (zX (esc (uO (zJt T.cl T.nS (zD 0 rfl))))) (by unfold xG;simp only[bnd])
def yM(q0:au C)(q1:Int):Option LI:=(aV q0.steps q1).bind λa1=>Gp a1
theorem dO:ak ["self","stand"] ["self","stand"] (zI cL):=fsc
abbrev wU(K:PySem.W.Frag)(C:Addr):Sp:=cj K false (λa:(au C)×Int×Unit=>([.z a.1,.z a.2.1]:SL K)) (λa=>yM a.1 a.2.1)
theorem zCs(F:aU K "next_of" "Machine.next_of" cL f fd)(B:Bl K mg)(T:Cl K mg C)(cg:mg "sorted" = none):aq P w K mg base aO (k+1) f fd ["self","stand"] (wU K C):=by
 refine yF F dO (λ_=>rfl) (λ_=>rfl) λcdv A outer s H E hr=>?_
 have nd:=dO.nd
 refine⟨_,(zB (zU (zO (Yj K) rfl cg X_ (zA (yV (bx K) (Gn K (pv 0)) (pv 1) (λ_ _=>rfl)) zF))) zG),?_⟩
 rintro Fa ⟨q0,q1,⟨⟩⟩
 exact SB.of (zX (Ym (wI (zJt T.cl T.nS (zD 0 rfl)) (zE 1 rfl))).ex) (by unfold yM;simp only[bnd])
def wG(q0:au C)(q1:Int):Option LI:=aV q0.sources q1
theorem eE:ak ["self","stand"] ["self","stand"] (zI cU):=fsc
abbrev zBj(K:PySem.W.Frag)(C:Addr):Sp:=cj K false (λa:(au C)×Int×Unit=>([.z a.1,.z a.2.1]:SL K)) (λa=>wG a.1 a.2.1)
theorem zDm(F:aU K "before" "Machine.before" cU f fd)(B:Bl K mg)(T:Cl K mg C):aq P w K mg base aO (k+1) f fd ["self","stand"] (zBj K C):=by
 refine yF F eE (λ_=>rfl) (λ_=>rfl) λcdv A outer s H E hr=>?_
 have nd:=eE.nd
 refine⟨_,(zB (zU (vL (Jk K) rfl B.list Gj (zA (yV (bx K) (Gn K (pv 0)) (pv 1) (λ_ _=>rfl)) zF))) zG),?_⟩
 rintro Fa ⟨q0,q1,⟨⟩⟩
 exact SB.of (zX (Ji (wI (zLh T.cl T.nB (zD 0 rfl)) (zE 1 rfl))).ex) (by unfold wG;simp only[bnd])
def yY(q0:au C)(q1:Str):Option LI:=((some q0.marks).bind λxs=>uN (λ(s1:Unit) (x3:Str×LI)=>if(decide (x3.1=q1))=true then(Gp x3.2).bind λb=>some (.rt b) else some (.nx ())) xs ()).bind λo=>o.els λs2=>some ([]:LI)
theorem eF:ak ["self","name","known","stands"] ["self","name"] (zI cV):=fsc
abbrev zBi(K:PySem.W.Frag)(C:Addr):Sp:=cj K false (λa:(au C)×Str×Unit=>([.z a.1,.z a.2.1]:SL K)) (λa=>yY a.1 a.2.1)
theorem zDl(F:aU K "marked" "Machine.marked" cV f fd)(B:Bl K mg)(T:Cl K mg C)(cg:mg "sorted" = none):aq P w K mg base aO (k+1) f fd ["self","name"] (zBi K C):=by
 refine yF F eF (λ_=>rfl) (λ_=>rfl) λcdv A outer s H E hr=>?_
 have nd:=eF.nd
 refine⟨_,(zB (xD aau rfl (yI K (Gn K (pv 0))) (Iu rfl (xI (bH 2 nd) (xI (bH 3 nd) Ef))) (zB (yP (yC (vW K Str hr) (pv 2) (pv 1) (aG _)) (zB (zU (zO (Yj K) rfl cg X_ (zA (pv 3) zF))) zG) zG) zG)) (zB (zU (wZ zF)) zG)),?_⟩
 rintro Fa ⟨q0,q1,⟨⟩⟩
 exact SB.of (Ro (Rr (n:=false) (L:=(λs1:Unit=>([.z q0,.z q1,.un,.un]:SL K))) () aM (yL (zRq T.cl T.nM (yK 0 rfl))) (λs1=>(Je 2 3 rfl rfl (λ_=>rfl) rfl)) (λs1 x3=>(Jd (yD (md:=.hp) (vX (zE 2 rfl) (zE 1 rfl))) (zX (Ym (zD 3 rfl)).ex) (Rq (λs1:Unit=>([.z q0,.z q1,.un,.un]:SL K)) () aM)))) (λs2=>(zX (uQ (α:=Int)).ex))) (by unfold yY;simp only[bnd])
def xW(q0:au C)(q1:Int):Option LI:=(aV q0.fair q1).bind λa1=>Gp a1
theorem dR:ak ["self","number"] ["self","number"] (zI cN):=fsc
abbrev zBb(K:PySem.W.Frag)(C:Addr):Sp:=cj K false (λa:(au C)×Int×Unit=>([.z a.1,.z a.2.1]:SL K)) (λa=>xW a.1 a.2.1)
theorem zCt(F:aU K "fair_at" "Machine.fair_at" cN f fd)(B:Bl K mg)(T:Cl K mg C)(cg:mg "sorted" = none):aq P w K mg base aO (k+1) f fd ["self","number"] (zBb K C):=by
 refine yF F dR (λ_=>rfl) (λ_=>rfl) λcdv A outer s H E hr=>?_
 have nd:=dR.nd
 refine⟨_,(zB (zU (zO (Yj K) rfl cg X_ (zA (yV (bx K) (Gn K (pv 0)) (pv 1) (λ_ _=>rfl)) zF))) zG),?_⟩
 rintro Fa ⟨q0,q1,⟨⟩⟩
 exact SB.of (zX (Ym (wI (zMm T.cl T.nF (zD 0 rfl)) (zE 1 rfl))).ex) (by unfold xW;simp only[bnd])
def xE(q0:au C):Option LI:=(xG q0).bind λa1=>Ad a1
theorem jy:ak ["machine"] ["machine"] (zI fV):=fsc
abbrev vH(K:PySem.W.Frag)(C:Addr):Sp:=cj K false (λa:(au C)×Unit=>([.z a.1]:SL K)) (λa=>xE a.1)
theorem zHt(F:aU K "everywhere" "everywhere" fV f fd)(B:Bl K mg)(aJ:fQ P w K mg base k C "many" ["self"] (vC K C)):aq P w K mg base aO (k+1) f fd ["machine"] (vH K C):=by
 refine yF F jy (λ_=>rfl) (λ_=>rfl) λcdv A outer s H E hr=>?_
 have nd:=jy.nd
 refine⟨_,(zB (zU (YS rfl rfl B.list rfl B.range (zA (Vo aJ hr (pv 0)) zF))) zG),?_⟩
 rintro Fa ⟨q0,⟨⟩⟩
 exact SB.of (zX (YW (Dv (by decide +kernel) (zD 0 rfl) zQ)).ex) (by unfold xE;simp only[bnd])
def JL(q0:au C)(q1:LI):Option (List Bool):=(((xG q0).bind λa2=>wV a2).bind λxs=>yW (λ(x3:Int)=>some true) (λ(x3:Int)=>some false) xs).bind λdU=>((some q1).bind λxs=>xH (λ(s4:List Bool) (x6:Int)=>(w6 s4 x6 true).bind λCk=>some Ck) xs dU).bind λs5=>some s5
theorem rA:ak ["machine","stands","told","stand"] ["machine","stands"] (zI pZ):=fsc
abbrev V7(K:PySem.W.Frag)(C:Addr):Sp:=cj K false (λa:(au C)×LI×Unit=>([.z a.1,.z a.2.1]:SL K)) (λa=>JL a.1 a.2.1)
theorem zTs(F:aU K "flags" "flags" pZ f fd)(B:Bl K mg)(aJ:fQ P w K mg base k C "many" ["self"] (vC K C)):aq P w K mg base aO (k+1) f fd ["machine","stands"] (V7 K C):=by
 refine yF F rA (λ_=>rfl) (λ_=>rfl) λcdv A outer s H E hr=>?_
 have nd:=rA.nd
 refine⟨_,(zB (Dr (i:=2) (own:=["stand"]) (ix:=[]) nd rfl rfl rfl rfl rfl (yZ rfl B.range (zA (Vo aJ hr (pv 0)) zF)) (λC s H fp=>yJ (i:=0) (show(["stand"]:List Str).Nodup from by decide +kernel) rfl (Or.inl rfl)) (λC s H fp=>wX) (λC s H fp=>oE)) (zB (xD aau rfl (yI K (pv 1)) (bH 3 nd) (zB (Ov oE (UL (pv 2) (pv 3) QT)) zG)) (zB (zU (pv 2)) zG))),?_⟩
 rintro Fa ⟨q0,q1,⟨⟩⟩
 exact SB.of (zM (uP true 2 rfl rfl (yR (n:=true) (i_:=[.un]) (no:=1) (ix:=[]) rfl rfl (xS (Dv (by decide +kernel) (zD 0 rfl) zQ)) (zW 0 rfl rfl) (λx3=>sy) (λx3=>(esc (oM false))) (λx3=>cT))) (λdU=>(zM (wK (n:=false) (L:=(λs4:List Bool=>([.z q0,.z q1,.ow true s4,.un]:SL K))) dU aM (yL (yK 1 rfl)) (λs4=>(zW 3 rfl rfl)) (λs4 x6=>(zL (Vf 2 rfl rfl (esc (oM true)) (zE 3 rfl)) (λCk=>(zT (λs4:List Bool=>([.z q0,.z q1,.ow true s4,.un]:SL K)) Ck aM))))) (λs5=>(FW 2 rfl rfl))))) (by unfold JL;simp only[bnd])
def uY(q0:LI)(q1:LI):Option LI:=PK q0 q1
theorem m9:ak ["one","other"] ["one","other"] (zI kI):=fsc
abbrev Zu(K:PySem.W.Frag):Sp:=cj K false (λa:LI×LI×Unit=>([.z a.1,.z a.2.1]:SL K)) (λa=>uY a.1 a.2.1)
theorem zN1(F:aU K "without" "without" kI f fd)(B:Bl K mg)(cg:mg "sorted" = none)(qe:mg "set" = none):aq P w K mg base aO (k+1) f fd ["one","other"] (Zu K):=by
 refine yF F m9 (λ_=>rfl) (λ_=>rfl) λcdv A outer s H E hr=>?_
 have nd:=m9.nd
 refine⟨_,(zB (zU (YB rfl cg (GX (R_ K rfl qe (pv 0)) (R_ K rfl qe (pv 1))))) zG),?_⟩
 rintro Fa ⟨q0,q1,⟨⟩⟩
 exact SB.of (zX (zOs (zD 0 rfl) (zD 1 rfl)).ex) (by unfold uY;simp only[bnd])
def vO(q0:au C)(q1:LI):Option LI:=((xE q0).bind λa2=>some ((a2,(q1,())))).bind λz1=>uY z1.1 z1.2.1
theorem pC:ak ["machine","stands"] ["machine","stands"] (zI mR):=fsc
abbrev Zv(K:PySem.W.Frag)(C:Addr):Sp:=cj K false (λa:(au C)×LI×Unit=>([.z a.1,.z a.2.1]:SL K)) (λa=>vO a.1 a.2.1)
theorem zQf(F:aU K "others" "others" mR f fd)(B:Bl K mg)(aH:bC P w K mg base k "everywhere" ["machine"] (vH K C))(dF:bC P w K mg base k "without" ["one","other"] (Zu K)):aq P w K mg base aO (k+1) f fd ["machine","stands"] (Zv K C):=by
 refine yF F pC (λ_=>rfl) (λ_=>rfl) λcdv A outer s H E hr=>?_
 have nd:=pC.nd
 refine⟨_,(zB (zU (yB dF hr (zA (yB aH hr (zA (pv 0) zF)) (zA (pv 1) zF)))) zG),?_⟩
 rintro Fa ⟨q0,q1,⟨⟩⟩
 exact SB.of (zX (zN (zH (zN (zH (zD 0 rfl) zQ)) (zH (zD 1 rfl) zQ)))) (by unfold vO;simp only[bnd])
def wC(q0:LI)(q1:LI):Option LI:=VJ q0 q1
theorem pD:ak ["one","other"] ["one","other"] (zI mU):=fsc
abbrev Tj(K:PySem.W.Frag):Sp:=cj K false (λa:LI×LI×Unit=>([.z a.1,.z a.2.1]:SL K)) (λa=>wC a.1 a.2.1)
theorem zQe(F:aU K "shared" "shared" mU f fd)(B:Bl K mg)(cg:mg "sorted" = none)(qe:mg "set" = none):aq P w K mg base aO (k+1) f fd ["one","other"] (Tj K):=by
 refine yF F pD (λ_=>rfl) (λ_=>rfl) λcdv A outer s H E hr=>?_
 have nd:=pD.nd
 refine⟨_,(zB (zU (YB rfl cg (Gy (R_ K rfl qe (pv 0)) (R_ K rfl qe (pv 1))))) zG),?_⟩
 rintro Fa ⟨q0,q1,⟨⟩⟩
 exact SB.of (zX (zOu (zD 0 rfl) (zD 1 rfl)).ex) (by unfold wC;simp only[bnd])
def Tn(q0:au C)(q1:LI)(q2:LI):Option (List (Option Int)):=(JL q0 q1).bind λbJ=>(((xG q0).bind λa3=>wV a3).bind λxs=>yW (λ(x4:Int)=>some true) (λ(x4:Int)=>some (none:Option Int)) xs).bind λCm=>((some q2).bind λxs=>xH (λ(s5:List (Option Int)) (x7:Int)=>(w6 s5 x7 (some (0:Int))).bind λCp=>some Cp) xs Cm).bind λs6=>(some q2).bind λNq=>(some (0:Int)).bind λqg=>(FQ (λcu:(List (Option Int))×LI×Int=>some (decide (cu.2.2<(cu.2.1.length:Int)))) (λcu:(List (Option Int))×LI×Int=>(aV cu.2.1 cu.2.2).bind λgn=>((wG q0 gn).bind λxs=>xH (λ(jW:(List (Option Int))×LI) (rB:Int)=>(((aV bJ rB).bind λc18=>if c18=true then(aV jW.1 rB).bind λa17=>some a17.isNone else some false).bind λb=>if b=true then(((((aV jW.1 gn).bind λa22=>a22).bind λa23=>some (a23+(1:Int))).bind λa24=>some (some a24)).bind λa25=>w6 jW.1 rB a25).bind λgq=>(push jW.2 rB).bind λCq=>some (gq,Cq) else some (jW.1,jW.2)).bind λqM=>some (qM.1,qM.2)) xs (cu.1,cu.2.1)).bind λuz=>(some (cu.2.2+(1:Int))).bind λqj=>some (uz.1,uz.2,qj)) fuel (s6,Nq,qg)).bind λs12=>some s12.1
theorem jX:ak ["machine","through","goal","passable","told","stand","row","place","source"] ["machine","through","goal"] (zI h_):=fsc
abbrev zFw(K:PySem.W.Frag)(C:Addr):Sp:=cj K false (λa:(au C)×LI×LI×Unit=>([.z a.1,.z a.2.1,.z a.2.2.1]:SL K)) (λa=>Tn a.1 a.2.1 a.2.2.1)
theorem zJi(F:aU K "distances" "distances" h_ f fd)(B:Bl K mg)(cW:fQ P w K mg base k C "before" ["self","stand"] (zBj K C))(aJ:fQ P w K mg base k C "many" ["self"] (vC K C))(dz:bC P w K mg base k "flags" ["machine","stands"] (V7 K C)):aq P w K mg base aO (k+1) f fd ["machine","through","goal"] (zFw K C):=by
 refine yF F jX (λ_=>rfl) (λ_=>rfl) λcdv A outer s H E hr=>?_
 have nd:=jX.nd
 refine⟨_,(zB (yN 3 nd (yB dz hr (zA (pv 0) (zA (pv 1) zF)))) (zB (Dr (i:=4) (own:=["stand"]) (ix:=[]) nd rfl rfl rfl rfl rfl (yZ rfl B.range (zA (Vo aJ hr (pv 0)) zF)) (λC s H fp=>yJ (i:=0) (show(["stand"]:List Str).Nodup from by decide +kernel) rfl (Or.inl rfl)) (λC s H fp=>wX) (λC s H fp=>zVe)) (zB (xD aau rfl (yI K (pv 2)) (bH 5 nd) (zB (Ov zK (UL (pv 4) (pv 5) QT)) zG)) (zB (yN 6 nd (vL (Jk K) rfl B.list Gj (zA (pv 2) zF))) (zB (yN 7 nd zK) (zB (zL8 aau (yC Es (pv 7) (zO (wS K) rfl B.len aa4 (zA (pv 6) zF)) (aG _)) (zB (yN 5 nd (yV (bx K) (pv 6) (pv 7) (λ_ _=>rfl))) (zB (xD aau rfl (yI K (Pb cW hr (pv 0) (zA (pv 5) zF))) (bH 8 nd) (zB (yP (PW.pt (pw_and (yS (yV (bx K) (pv 3) (pv 8) (λ_ _=>rfl))) (pw_and1 (v7 (Uy (yV (bx K) (pv 4) (pv 8) (λ_ _=>rfl))))))) (zB (Ov (zY xX (yV (bx K) (pv 4) (pv 5) (λ_ _=>rfl)) zK) (UL (pv 4) (pv 8) QT)) (zB (yH (xg K aa3 aa7 aa8 wH (pv 6) (zA (pv 8) zF))) zG)) zG) zG)) (zB (zVc (i:=7) nd rfl (by first|exact .inl rfl|exact .inr rfl) zK Kl) zG)))) (zB (zU (pv 4)) zG))))))),?_⟩
 rintro Fa ⟨q0,q1,q2,⟨⟩⟩
 exact SB.of (zM (zZ true 3 rfl rfl (zN (zH (zD 0 rfl) (zH (zD 1 rfl) zQ)))) (λbJ=>(zM (uP true 4 rfl rfl (yR (n:=true) (i_:=[.un]) (no:=1) (ix:=[]) rfl rfl (xS (Dv (by decide +kernel) (zD 0 rfl) zQ)) (zW 0 rfl rfl) (λx4=>sy) (λx4=>(esc (zRl (α:=Int)))) (λx4=>cT))) (λCm=>(zM (wK (n:=false) (L:=(λs5:List (Option Int)=>([.z q0,.z q1,.z q2,.y bJ,.ow true s5,.un,.un,.un,.un]:SL K))) Cm aM (yL (yK 2 rfl)) (λs5=>(zW 5 rfl rfl)) (λs5 x7=>(zL (Vf 4 rfl rfl (esc (Xu (zJ 0))) (zE 5 rfl)) (λCp=>(zT (λs5:List (Option Int)=>([.z q0,.z q1,.z q2,.y bJ,.ow true s5,.un,.un,.un,.un]:SL K)) Cp aM))))) (λs6=>(zM (uP true 6 rfl rfl (Ji (zD 2 rfl))) (λNq=>(zM (zZ true 7 rfl rfl (esc (zJ 0))) (λqg=>(zM (zLx (L:=(λcu:(List (Option Int))×LI×Int=>([.z q0,.z q1,.z q2,.y bJ,.ow true cu.1,.un,.ow true cu.2.1,.y cu.2.2,.un]:SL K))) fuel (s6,Nq,qg) aM (λcu=>(yD (md:=.hp) (Jf (zE 7 rfl) (uO (Dt 6 rfl))))) (λcu=>(zL (zZ true 5 rfl rfl (esc (esc (wI (Dt 6 rfl) (zE 7 rfl))))) (λgn=>(zL (wK (n:=true) (L:=(λjW:(List (Option Int))×LI=>([.z q0,.z q1,.z q2,.y bJ,.ow true jW.1,.y gn,.ow true jW.2,.y cu.2.2,.un]:SL K))) (cu.1,cu.2.1) aM (yL (Dv (by decide +kernel) (zD 0 rfl) (zH (esc (zE 5 rfl)) zQ))) (λjW=>(zW 8 rfl rfl)) (λjW rB=>(zL (wT (Rm (aR (md:=.hp) (esc (wI (zD 3 rfl) (zE 8 rfl)))) (aR (md:=.hp) (Vk (esc (wI (Dt 4 rfl) (zE 8 rfl)))))) (zL (Vf 4 rfl rfl (esc (Xu (xY (X3 (esc (wI (Dt 4 rfl) (zE 5 rfl)))) (zJ 1)))) (zE 8 rfl)) (λgq=>(zL (wO 6 rfl rfl (esc (zE 8 rfl))) (λCq=>(zT (λsV:(List (Option Int))×LI=>([.z q0,.z q1,.z q2,.y bJ,.ow true sV.1,.y gn,.ow true sV.2,.y cu.2.2,.y rB]:SL K)) (gq,Cq) aM))))) (zT (λsV:(List (Option Int))×LI=>([.z q0,.z q1,.z q2,.y bJ,.ow true sV.1,.y gn,.ow true sV.2,.y cu.2.2,.y rB]:SL K)) (jW.1,jW.2) aM)) (λqM=>(zT (λjW:(List (Option Int))×LI=>([.z q0,.z q1,.z q2,.y bJ,.ow true jW.1,.y gn,.ow true jW.2,.y cu.2.2,.un]:SL K)) (qM.1,qM.2) aM))))) (λuz=>(zL (zU8 (s:=.un) 7 rfl (zJ 1)) (λqj=>(zT (λcu:(List (Option Int))×LI×Int=>([.z q0,.z q1,.z q2,.y bJ,.ow true cu.1,.un,.ow true cu.2.1,.y cu.2.2,.un]:SL K)) (uz.1,uz.2,qj) aM))))))))) (λs12=>(FW 4 rfl rfl))))))))))))) (by unfold Tn;simp only[bnd])
def uV(q0:au C)(q1:LI)(q2:LI):Option LI:=(Tn q0 q1 q2).bind λJM=>(some (Bq JM)).bind λxs=>yW (λ(x2:Int×(Option Int))=>some x2.2.isSome) (λ(x2:Int×(Option Int))=>some x2.1) xs
theorem lQ:ak ["machine","through","goal","away"] ["machine","through","goal"] (zI jG):=fsc
abbrev zGv(K:PySem.W.Frag)(C:Addr):Sp:=cj K false (λa:(au C)×LI×LI×Unit=>([.z a.1,.z a.2.1,.z a.2.2.1]:SL K)) (λa=>uV a.1 a.2.1 a.2.2.1)
theorem zK2(F:aU K "comes_to" "comes_to" jG f fd)(B:Bl K mg)(iH:bC P w K mg base k "distances" ["machine","through","goal"] (zFw K C)):aq P w K mg base aO (k+1) f fd ["machine","through","goal"] (zGv K C):=by
 refine yF F lQ (λ_=>rfl) (λ_=>rfl) λcdv A outer s H E hr=>?_
 have nd:=lQ.nd
 refine⟨_,(zB (yN 3 nd (yB iH hr (zA (pv 0) (zA (pv 1) (zA (pv 2) zF))))) (zB (zU (wA (own:=["stand","steps"]) (ix:=[]) rfl rfl rfl (X8 K B.enum (zA (pv 3) zF)) (λC s H fp=>zP8 (K:=K) (n:=2) rfl rfl (xI (yJ (i:=0) (show(["stand","steps"]:List Str).Nodup from by decide +kernel) rfl (Or.inl rfl)) (xI (yJ (i:=1) (show(["stand","steps"]:List Str).Nodup from by decide +kernel) rfl (Or.inl rfl)) Ef))) (λC s H fp=>vZ (v7 (Eb (pv 1)))) (λC s H fp=>(pv 0)))) zG)),?_⟩
 rintro Fa ⟨q0,q1,q2,⟨⟩⟩
 exact SB.of (zM (zZ true 3 rfl rfl (zN (zH (zD 0 rfl) (zH (zD 1 rfl) (zH (zD 2 rfl) zQ))))) (λJM=>(zX (yR (n:=true) (i_:=[.un,.un]) (no:=2) (ix:=[]) rfl rfl (XF (yK 3 rfl)) (Je 0 1 rfl rfl (λ_=>rfl) rfl) (λx2=>(aR (md:=.hp) (Ge (zE 1 rfl)))) (λx2=>(esc (zE 0 rfl))) (λx2=>cT)).ex))) (by unfold uV;simp only[bnd])
def uJ(q0:au C)(q1:Int)(q2:List Bool):Option Bool:=((yM q0 q1).bind λxs=>yW (λ(x1:Int)=>some true) (λ(x1:Int)=>aV q2 x1) xs).bind λa2=>some (a2.any id)
theorem jA:ak ["machine","stand","hit"] ["machine","stand","hit"] (zI fW):=fsc
abbrev zD0(K:PySem.W.Frag)(C:Addr):Sp:=cj K false (λa:(au C)×Int×(List Bool)×Unit=>([.z a.1,.z a.2.1,.z a.2.2.1]:SL K)) (λa=>uJ a.1 a.2.1 a.2.2.1)
theorem zHp(F:aU K "steps_into" "steps_into" fW f fd)(B:Bl K mg)(Nr:mg "any" = none)(aK:fQ P w K mg base k C "next_of" ["self","stand"] (wU K C)):aq P w K mg base aO (k+1) f fd ["machine","stand","hit"] (zD0 K C):=by
 refine yF F jA (λ_=>rfl) (λ_=>rfl) λcdv A outer s H E hr=>?_
 have nd:=jA.nd
 refine⟨_,(zB (zU (zO (zR5 K rfl) rfl Nr Ls (zA (wA (own:=["after"]) (ix:=[2]) rfl rfl rfl (yI K (Pb aK hr (pv 0) (zA (pv 1) zF))) (λC s H fp=>yJ (i:=0) (show(["after","hit"]:List Str).Nodup from by decide +kernel) rfl (Or.inl rfl)) (λC s H fp=>wX) (λC s H fp=>(yV (bx K) (pv 1) (pv 0) (λ_ _=>rfl)))) zF))) zG),?_⟩
 rintro Fa ⟨q0,q1,q2,⟨⟩⟩
 exact SB.of (zX (esc (zMo (yR (n:=true) (i_:=[.un,.z q2]) (no:=1) (ix:=[2]) rfl rfl (yL (Dv (by decide +kernel) (zD 0 rfl) (zH (esc (zE 1 rfl)) zQ))) (zW 0 rfl rfl) (λx1=>sy) (λx1=>(esc (esc (wI (zD 1 rfl) (zE 0 rfl))))) (λx1=>cT)).ex))) (by unfold uJ;simp only[bnd])
def vN(q0:au C)(q1:LI)(q2:LI):Option LI:=(JL q0 q2).bind λhit1=>(some q1).bind λxs=>yW (λ(x2:Int)=>uJ q0 x2 hit1) (λ(x2:Int)=>some x2) xs
theorem iI:ak ["machine","among","goal","hit"] ["machine","among","goal"] (zI eV):=fsc
abbrev zC8(K:PySem.W.Frag)(C:Addr):Sp:=cj K false (λa:(au C)×LI×LI×Unit=>([.z a.1,.z a.2.1,.z a.2.2.1]:SL K)) (λa=>vN a.1 a.2.1 a.2.2.1)
theorem zFz(F:aU K "stepping_to" "stepping_to" eV f fd)(B:Bl K mg)(dz:bC P w K mg base k "flags" ["machine","stands"] (V7 K C))(gw:bC P w K mg base k "steps_into" ["machine","stand","hit"] (zD0 K C)):aq P w K mg base aO (k+1) f fd ["machine","among","goal"] (zC8 K C):=by
 refine yF F iI (λ_=>rfl) (λ_=>rfl) λcdv A outer s H E hr=>?_
 have nd:=iI.nd
 refine⟨_,(zB (yN 3 nd (yB dz hr (zA (pv 0) (zA (pv 2) zF)))) (zB (zU (wA (own:=["stand"]) (ix:=[0,3]) rfl rfl rfl (yI K (pv 1)) (λC s H fp=>yJ (i:=0) (show(["stand","machine","hit"]:List Str).Nodup from by decide +kernel) rfl (Or.inl rfl)) (λC s H fp=>vZ (yS (yB gw hr (zA (pv 1) (zA (pv 0) (zA (pv 2) zF)))))) (λC s H fp=>(pv 0)))) zG)),?_⟩
 rintro Fa ⟨q0,q1,q2,⟨⟩⟩
 exact SB.of (zM (zZ true 3 rfl rfl (zN (zH (zD 0 rfl) (zH (zD 2 rfl) zQ)))) (λhit1=>(zX (yR (n:=false) (i_:=[.un,.z q0,.y hit1]) (no:=1) (ix:=[0,3]) rfl rfl (yL (yK 1 rfl)) (zW 0 rfl rfl) (λx2=>(aR (md:=.hp) (zN (zH (zD 1 rfl) (zH (esc (zE 0 rfl)) (zH (zD 2 rfl) zQ)))))) (λx2=>(esc (zE 0 rfl))) (λx2=>cT)).ex))) (by unfold vN;simp only[bnd])
def P_(q0:LI):Option Int:=(some (0:Int)).bind λdU=>((some q0).bind λxs=>xH (λ(s2:Int) (x4:Int)=>((xu (1:Int) x4).bind λa6=>some (ada s2 a6)).bind λm_=>some m_) xs dU).bind λs3=>some s3
theorem ni:ak ["stands","told","stand"] ["stands"] (zI kJ):=fsc
abbrev zKi(K:PySem.W.Frag):Sp:=cj K false (λa:LI×Unit=>([.z a.1]:SL K)) (λa=>P_ a.1)
theorem zN9(F:aU K "bits_of" "bits_of" kJ f fd)(B:Bl K mg):aq P w K mg base aO (k+1) f fd ["stands"] (zKi K):=by
 refine yF F ni (λ_=>rfl) (λ_=>rfl) λcdv A outer s H E hr=>?_
 have nd:=ni.nd
 refine⟨_,(zB (yN 1 nd zK) (zB (xD aau rfl (yI K (pv 0)) (bH 2 nd) (zB (zVc (i:=1) nd rfl (by first|exact .inl rfl|exact .inr rfl) (zY Kv zK (pv 2)) Jy) zG)) (zB (zU (pv 1)) zG))),?_⟩
 rintro Fa ⟨q0,⟨⟩⟩
 exact SB.of (zM (zZ true 1 rfl rfl (esc (zJ 0))) (λdU=>(zM (wK (n:=false) (L:=(λs2:Int=>([.z q0,.y s2,.un]:SL K))) dU aM (yL (yK 0 rfl)) (λs2=>(zW 2 rfl rfl)) (λs2 x4=>(zL (zU8 (s:=.un) 1 rfl (Mt (zJ 1) (zE 2 rfl))) (λm_=>(zT (λs2:Int=>([.z q0,.y s2,.un]:SL K)) m_ aM))))) (λs3=>(zX (esc (zE 1 rfl))))))) (by unfold P_;simp only[bnd])
def vP(q0:au C)(q1:LI):Option LI:=(P_ q1).bind λcY=>(((xG q0).bind λa3=>wV a3).bind λxs=>yW (λ(x4:Int)=>some true) (λ(x4:Int)=>some (0:Int)) xs).bind λdW=>((some q1).bind λxs=>xH (λ(s5:LI) (x7:Int)=>(((((yM q0 x7).bind λa10=>some ((a10,()))).bind λz9=>P_ z9.1).bind λa11=>some (abd a11 cY)).bind λa12=>w6 s5 x7 a12).bind λCr=>some Cr) xs dW).bind λs6=>((some q1).bind λxs=>xH (λ(oF:LI) (DG:Int)=>((some q1).bind λxs=>xH (λ(rC:LI) (x18:Int)=>(((((aV rC x18).bind λa19=>jF a19 DG).bind λa20=>some (abd a20 (1:Int))).bind λa21=>some (a21 != 0)).bind λb=>if b=true then((aV rC DG).bind λb25=>GC (λi j=>ada i j) rC x18 b25).bind λsW=>some sW else some rC).bind λyu=>some yu) xs oF).bind λNt=>some Nt) xs s6).bind λjW=>some jW
theorem iJ:ak ["machine","within","inside","rows","stand","middle"] ["machine","within"] (zI eX):=fsc
abbrev zDb(K:PySem.W.Frag)(C:Addr):Sp:=cj K false (λa:(au C)×LI×Unit=>([.z a.1,.z a.2.1]:SL K)) (λa=>vP a.1 a.2.1)
theorem zF1(F:aU K "onward_bits" "onward_bits" eX f fd)(B:Bl K mg)(aJ:fQ P w K mg base k C "many" ["self"] (vC K C))(aK:fQ P w K mg base k C "next_of" ["self","stand"] (wU K C))(jc:bC P w K mg base k "bits_of" ["stands"] (zKi K)):aq P w K mg base aO (k+1) f fd ["machine","within"] (zDb K C):=by
 refine yF F iJ (λ_=>rfl) (λ_=>rfl) λcdv A outer s H E hr=>?_
 have nd:=iJ.nd
 refine⟨_,(zB (yN 2 nd (yB jc hr (zA (pv 1) zF))) (zB (Dr (i:=3) (own:=["stand"]) (ix:=[]) nd rfl rfl rfl rfl rfl (yZ rfl B.range (zA (Vo aJ hr (pv 0)) zF)) (λC s H fp=>yJ (i:=0) (show(["stand"]:List Str).Nodup from by decide +kernel) rfl (Or.inl rfl)) (λC s H fp=>wX) (λC s H fp=>zK)) (zB (xD aau rfl (yI K (pv 1)) (bH 4 nd) (zB (Ov (zY QD (yB jc hr (zA (Pb aK hr (pv 0) (zA (pv 4) zF)) zF)) (pv 2)) (UL (pv 3) (pv 4) QT)) zG)) (zB (xD aau rfl (yI K (pv 1)) (bH 5 nd) (zB (xD aau rfl (yI K (pv 1)) (bH 4 nd) (zB (yP (YQ K (zY QD (zY U4 (yV (bx K) (pv 3) (pv 4) (λ_ _=>rfl)) (pv 5)) zK)) (zB (Eh (pv 3) (pv 4) (zRd K) (yV (bx K) (pv 3) (pv 5) (λ_ _=>rfl)) Jy QT) zG) zG) zG)) zG)) (zB (zU (pv 3)) zG))))),?_⟩
 rintro Fa ⟨q0,q1,⟨⟩⟩
 exact SB.of (zM (zZ true 2 rfl rfl (esc (zN (zH (zD 1 rfl) zQ)))) (λcY=>(zM (uP true 3 rfl rfl (yR (n:=true) (i_:=[.un]) (no:=1) (ix:=[]) rfl rfl (xS (Dv (by decide +kernel) (zD 0 rfl) zQ)) (zW 0 rfl rfl) (λx4=>sy) (λx4=>(esc (zJ 0))) (λx4=>cT))) (λdW=>(zM (wK (n:=false) (L:=(λs5:LI=>([.z q0,.z q1,.y cY,.ow true s5,.un,.un]:SL K))) dW aM (yL (yK 1 rfl)) (λs5=>(zW 4 rfl rfl)) (λs5 x7=>(zL (Vf 3 rfl rfl (esc (Sh (zN (zH (Dv (by decide +kernel) (zD 0 rfl) (zH (esc (zE 4 rfl)) zQ)) zQ)) (zE 2 rfl))) (zE 4 rfl)) (λCr=>(zT (λs5:LI=>([.z q0,.z q1,.y cY,.ow true s5,.un,.un]:SL K)) Cr aM))))) (λs6=>(zM (wK (n:=false) (L:=(λoF:LI=>([.z q0,.z q1,.y cY,.ow true oF,.un,.un]:SL K))) s6 aM (yL (yK 1 rfl)) (λoF=>(zW 5 rfl rfl)) (λoF DG=>(zL (wK (n:=false) (L:=(λrC:LI=>([.z q0,.z q1,.y cY,.ow true rC,.un,.z DG]:SL K))) oF aM (yL (yK 1 rfl)) (λrC=>(zW 4 rfl rfl)) (λrC x18=>(zL (wT (YT (Sh (VL (esc (wI (Dt 3 rfl) (zE 4 rfl))) (zE 5 rfl)) (zJ 1))) (zL (zS4 3 rfl rfl (zE 4 rfl) (esc (wI (Dt 3 rfl) (zE 5 rfl)))) (λsW=>(zT (λCu:LI=>([.z q0,.z q1,.y cY,.ow true Cu,.z x18,.z DG]:SL K)) sW aM))) (zT (λCu:LI=>([.z q0,.z q1,.y cY,.ow true Cu,.z x18,.z DG]:SL K)) rC aM)) (λyu=>(zT (λrC:LI=>([.z q0,.z q1,.y cY,.ow true rC,.un,.z DG]:SL K)) yu aM))))) (λNt=>(zT (λoF:LI=>([.z q0,.z q1,.y cY,.ow true oF,.un,.un]:SL K)) Nt aM))))) (λjW=>(FW 3 rfl rfl))))))))) (by unfold vP;simp only[bnd])
def Tp(q0:au C)(q1:LI):Option (List LI):=(Pr q1).bind λcZ=>(vP q0 cZ).bind λdW=>(some (([]:List LI))).bind λCv=>(some ()).bind λTq=>((some cZ).bind λxs=>xH (λ(s5:(List LI)×(List (Key×Bool))) (x7:Int)=>((if(!(dw (Dc.mk s5.2).kv x7).isSome)=true then(((aV dW x7).bind λa8=>jF a8 x7).bind λa9=>some (abd a9 (1:Int))).bind λa10=>some (a10 != 0) else some false).bind λb=>if b=true then((some cZ).bind λxs=>yW (λ(u5:Int)=>((((aV dW x7).bind λa15=>jF a15 u5).bind λa17=>((aV dW u5).bind λa16=>jF a16 x7).bind λG_=>some (abd a17 G_)).bind λa19=>some (abd a19 (1:Int))).bind λa20=>some (a20 != 0)) (λ(u5:Int)=>some u5) xs).bind λnj=>(push s5.1 nj).bind λgq=>((some nj).bind λxs=>xH (λ(yu:List (Key×Bool)) (x24:Int)=>(dput yu x24 true).bind λsX=>some sX) xs s5.2).bind λCu=>some (gq,Cu) else some (s5.1,s5.2)).bind λcu=>some (cu.1,cu.2)) xs ((Cv,([]:List (Key×Bool))))).bind λs6=>some s6.1
theorem rD:ak ["machine","within","stands","rows","told","done","stand","ring","other"] ["machine","within"] (zI p7):=fsc
abbrev zSi(K:PySem.W.Frag)(C:Addr):Sp:=cj K false (λa:(au C)×LI×Unit=>([.z a.1,.z a.2.1]:SL K)) (λa=>Tp a.1 a.2.1)
theorem zTp(F:aU K "rings" "rings" p7 f fd)(B:Bl K mg)(cg:mg "sorted" = none)(qe:mg "set" = none)(fG:bC P w K mg base k "onward_bits" ["machine","within"] (zDb K C)):aq P w K mg base aO (k+1) f fd ["machine","within"] (zSi K C):=by
 refine yF F rD (λ_=>rfl) (λ_=>rfl) λcdv A outer s H E hr=>?_
 have nd:=rD.nd
 have hu:=Ra hr
 refine⟨_,(zB (yN 2 nd (YB rfl cg (R_ K rfl qe (pv 1)))) (zB (yN 3 nd (yB fG hr (zA (pv 0) (zA (pv 2) zF)))) (zB (yN 4 nd (wZ zF)) (zB (yN 5 nd W9) (zB (xD aau rfl (yI K (pv 2)) (bH 6 nd) (zB (yP (PW.pt (pw_and (v7 (zI7 hu (pv 6) (pv 5))) (pw_and1 (YQ K (zY QD (zY U4 (yV (bx K) (pv 3) (pv 6) (λ_ _=>rfl)) (pv 6)) zK))))) (zB (Dr (i:=7) (own:=["other"]) (ix:=[3,6]) nd rfl rfl rfl rfl rfl (yI K (pv 2)) (λC s H fp=>yJ (i:=0) (show(["other","rows","stand"]:List Str).Nodup from by decide +kernel) rfl (Or.inl rfl)) (λC s H fp=>vZ (YQ K (zY QD (zY QD (zY U4 (yV (bx K) (pv 1) (pv 2) (λ_ _=>rfl)) (pv 0)) (zY U4 (yV (bx K) (pv 1) (pv 0) (λ_ _=>rfl)) (pv 2))) zK))) (λC s H fp=>(pv 0))) (zB (yH (xg K aa3 aa7 aa8 wH (pv 4) (zA (pv 7) zF))) (zB (xD aau rfl (yI K (pv 7)) (bH 8 nd) (zB (U8 hu (pv 5) (pv 8) oE rfl) zG)) zG))) zG) zG)) (zB (zU (pv 4)) zG)))))),?_⟩
 rintro Fa ⟨q0,q1,⟨⟩⟩
 exact SB.of (zM (zZ true 2 rfl rfl (zOt (zD 1 rfl)).ex) (λcZ=>(zM (zZ true 3 rfl rfl (zN (zH (zD 0 rfl) (zH (zD 2 rfl) zQ)))) (λdW=>(zM (uP true 4 rfl rfl (uQ (α:=LI))) (λCv=>(zM (Xx (α:=Bool) 5 rfl rfl) (λTq=>(zM (wK (n:=true) (L:=(λs5:(List LI)×(List (Key×Bool))=>([.z q0,.z q1,.y cZ,.y dW,.ow true s5.1,.od (s5.2:List (Key×Bool)),.un,.un,.un]:SL K))) ((Cv,([]:List (Key×Bool)))) aM (yL (yK 2 rfl)) (λs5=>(zW 6 rfl rfl)) (λs5 x7=>(zL (wT (Rm (aR (md:=.hp) (zJu (zE 6 rfl) (Vt 5 rfl))) (YT (Sh (VL (esc (wI (zD 3 rfl) (zE 6 rfl))) (zE 6 rfl)) (zJ 1)))) (zL (zZ true 7 rfl rfl (yR (n:=true) (i_:=[.un,.y dW,.y x7]) (no:=1) (ix:=[3,6]) rfl rfl (yL (yK 2 rfl)) (zW 0 rfl rfl) (λu5=>(YT (Sh (Sh (VL (esc (wI (zD 1 rfl) (zE 2 rfl))) (zE 0 rfl)) (VL (esc (wI (zD 1 rfl) (zE 0 rfl))) (zE 2 rfl))) (zJ 1)))) (λu5=>(esc (zE 0 rfl))) (λu5=>cT)).ex) (λnj=>(zL (wO 4 rfl rfl (yK 7 rfl)) (λgq=>(zL (wK (n:=true) (L:=(λyu:List (Key×Bool)=>([.z q0,.z q1,.y cZ,.y dW,.ow true gq,.od (yu:List (Key×Bool)),.y x7,.y nj,.un]:SL K))) s5.2 aM (yL (yK 7 rfl)) (λyu=>(zW 8 rfl rfl)) (λyu x24=>(zL (Yn 5 rfl rfl (esc (oM true)) (zE 8 rfl)) (λsX=>(zT (λyu:List (Key×Bool)=>([.z q0,.z q1,.y cZ,.y dW,.ow true gq,.od (yu:List (Key×Bool)),.y x7,.y nj,.un]:SL K)) sX aM))))) (λCu=>(zT (λs12:(List LI)×(List (Key×Bool))=>([.z q0,.z q1,.y cZ,.y dW,.ow true s12.1,.od (s12.2:List (Key×Bool)),.y x7,.un,.un]:SL K)) (gq,Cu) aM))))))) (zT (λs12:(List LI)×(List (Key×Bool))=>([.z q0,.z q1,.y cZ,.y dW,.ow true s12.1,.od (s12.2:List (Key×Bool)),.y x7,.un,.un]:SL K)) (s5.1,s5.2) aM)) (λcu=>(zT (λs5:(List LI)×(List (Key×Bool))=>([.z q0,.z q1,.y cZ,.y dW,.ow true s5.1,.od (s5.2:List (Key×Bool)),.un,.un,.un]:SL K)) (cu.1,cu.2) aM))))) (λs6=>(FW 4 rfl rfl))))))))))) (by unfold Tp;simp only[bnd])
def Tt(q0:au C)(q1:LI):Option (Option Int):=((wV (q0.fair.length:Int)).bind λxs=>uN (λ(s1:Unit) (x3:Int)=>((((((xW q0 x3).bind λa5=>some ((a5,()))).bind λb6=>some (q1,b6)).bind λz4=>wC z4.1 z4.2.1).bind λa7=>some (a7.length:Int)).bind λa8=>some (decide (a8=(0:Int)))).bind λb=>if b=true then(some (some x3)).bind λb=>some (.rt b) else some (.nx ())) xs ()).bind λo=>o.els λs2=>some (none:Option Int)
theorem jY:ak ["machine","ring","number"] ["machine","ring"] (zI ig):=fsc
abbrev zFq(K:PySem.W.Frag)(C:Addr):Sp:=cj K false (λa:(au C)×LI×Unit=>([.z a.1,.z a.2.1]:SL K)) (λa=>Tt a.1 a.2.1)
theorem zJc(F:aU K "missed_by" "missed_by" ig f fd)(B:Bl K mg)(T:Cl K mg C)(cO:fQ P w K mg base k C "fair_at" ["self","number"] (zBb K C))(bI:bC P w K mg base k "shared" ["one","other"] (Tj K)):aq P w K mg base aO (k+1) f fd ["machine","ring"] (zFq K C):=by
 refine yF F jY (λ_=>rfl) (λ_=>rfl) λcdv A outer s H E hr=>?_
 have nd:=jY.nd
 refine⟨_,(zB (xD aau rfl (yZ rfl B.range (zA (zO (wS K) rfl B.len aa4 (zA (Gn K (pv 0)) zF)) zF)) (bH 2 nd) (zB (yP (yC (vW K Int hr) (zO (wS K) rfl B.len aa4 (zA (yB bI hr (zA (pv 1) (zA (Pb cO hr (pv 0) (zA (pv 2) zF)) zF))) zF)) zK (aG _)) (zB (zU (pv 2)) zG) zG) zG)) (zB (zU zVe) zG)),?_⟩
 rintro Fa ⟨q0,q1,⟨⟩⟩
 exact SB.of (Ro (Rr (n:=true) (L:=(λs1:Unit=>([.z q0,.z q1,.un]:SL K))) () aM (xS (uO (zMm T.cl T.nF (zD 0 rfl)))) (λs1=>(zW 2 rfl rfl)) (λs1 x3=>(Jd (yD (md:=.hp) (vX (uO (zN (zH (zD 1 rfl) (zH (Dv (by decide +kernel) (zD 0 rfl) (zH (esc (zE 2 rfl)) zQ)) zQ)))) (zJ 0))) (zX (esc (Xu (zE 2 rfl)))) (Rq (λs1:Unit=>([.z q0,.z q1,.un]:SL K)) () aM)))) (λs2=>(zX (esc (zRl (α:=Int)))))) (by unfold Tt;simp only[bnd])
def vG(q0:au C)(q1:LI):Option (List LI):=(Tp q0 q1).bind λxs=>yW (λ(x1:LI)=>(Tt q0 x1).bind λa2=>some a2.isNone) (λ(x1:LI)=>some x1) xs
theorem jB:ak ["machine","within"] ["machine","within"] (zI fX):=fsc
abbrev zD3(K:PySem.W.Frag)(C:Addr):Sp:=cj K false (λa:(au C)×LI×Unit=>([.z a.1,.z a.2.1]:SL K)) (λa=>vG a.1 a.2.1)
theorem zHs(F:aU K "fair_rings" "fair_rings" fX f fd)(B:Bl K mg)(iK:bC P w K mg base k "missed_by" ["machine","ring"] (zFq K C))(ql:bC P w K mg base k "rings" ["machine","within"] (zSi K C)):aq P w K mg base aO (k+1) f fd ["machine","within"] (zD3 K C):=by
 refine yF F jB (λ_=>rfl) (λ_=>rfl) λcdv A outer s H E hr=>?_
 have nd:=jB.nd
 refine⟨_,(zB (zU (wA (own:=["ring"]) (ix:=[0]) rfl rfl rfl (yI K (yB ql hr (zA (pv 0) (zA (pv 1) zF)))) (λC s H fp=>yJ (i:=0) (show(["ring","machine"]:List Str).Nodup from by decide +kernel) rfl (Or.inl rfl)) (λC s H fp=>vZ (v7 (Uy (yB iK hr (zA (pv 1) (zA (pv 0) zF)))))) (λC s H fp=>(pv 0)))) zG),?_⟩
 rintro Fa ⟨q0,q1,⟨⟩⟩
 exact SB.of (zX (yR (n:=true) (i_:=[.un,.z q0]) (no:=1) (ix:=[0]) rfl rfl (yL (zN (zH (zD 0 rfl) (zH (zD 1 rfl) zQ)))) (zW 0 rfl rfl) (λx1=>(aR (md:=.hp) (Vk (zN (zH (zD 1 rfl) (zH (zD 0 rfl) zQ)))))) (λx1=>(yK 0 rfl)) (λx1=>cT)).ex) (by unfold vG;simp only[bnd])
def Nu(q0:List LI):Option LI:=(some ([]:LI)).bind λdU=>((some q0).bind λxs=>xH (λ(s2:LI) (x4:LI)=>(BJ s2 x4).bind λm_=>some m_) xs dU).bind λs3=>some s3
theorem pF:ak ["lists","told","things"] ["lists"] (zI mV):=fsc
abbrev zM5(K:PySem.W.Frag):Sp:=cj K false (λa:((List LI))×Unit=>([.z a.1]:SL K)) (λa=>Nu a.1)
theorem zQh(F:aU K "joined" "joined" mV f fd)(B:Bl K mg):aq P w K mg base aO (k+1) f fd ["lists"] (zM5 K):=by
 refine yF F pF (λ_=>rfl) (λ_=>rfl) λcdv A outer s H E hr=>?_
 have nd:=pF.nd
 refine⟨_,(zB (yN 1 nd (wZ zF)) (zB (xD aau rfl (yI K (pv 0)) (bH 2 nd) (zB (yH (xg K aa3 PySem.F.slot_list_extend PySem.F.type_list_extend zJk (pv 1) (zA (pv 2) zF))) zG)) (zB (zU (pv 1)) zG))),?_⟩
 rintro Fa ⟨q0,⟨⟩⟩
 exact SB.of (zM (uP true 1 rfl rfl (uQ (α:=Int))) (λdU=>(zM (wK (n:=false) (L:=(λs2:LI=>([.z q0,.ow true s2,.un]:SL K))) dU aM (yL (yK 0 rfl)) (λs2=>(zW 2 rfl rfl)) (λs2 x4=>(zL (zPp 1 rfl rfl (zD 2 rfl)) (λm_=>(zT (λs2:LI=>([.z q0,.ow true s2,.un]:SL K)) m_ aM))))) (λs3=>(FW 1 rfl rfl))))) (by unfold Nu;simp only[bnd])
def Tv(q0:au C)(q1:LI):Option LI:=((((((vG q0 q1).bind λa2=>some ((a2,()))).bind λz1=>Nu z1.1).bind λa4=>some ((a4,()))).bind λb5=>some (q1,b5)).bind λb6=>some (q0,b6)).bind λz3=>uV z3.1 z3.2.1 z3.2.2.1
theorem u_:ak ["machine","within"] ["machine","within"] (zI sJ):=fsc
abbrev zV5(K:PySem.W.Frag)(C:Addr):Sp:=cj K false (λa:(au C)×LI×Unit=>([.z a.1,.z a.2.1]:SL K)) (λa=>Tv a.1 a.2.1)
theorem Hf(F:aU K "core" "core" sJ f fd)(B:Bl K mg)(jL:bC P w K mg base k "comes_to" ["machine","through","goal"] (zGv K C))(gA:bC P w K mg base k "fair_rings" ["machine","within"] (zD3 K C))(nq:bC P w K mg base k "joined" ["lists"] (zM5 K)):aq P w K mg base aO (k+1) f fd ["machine","within"] (zV5 K C):=by
 refine yF F u_ (λ_=>rfl) (λ_=>rfl) λcdv A outer s H E hr=>?_
 have nd:=u_.nd
 refine⟨_,(zB (zU (yB jL hr (zA (pv 0) (zA (pv 1) (zA (yB nq hr (zA (yB gA hr (zA (pv 0) (zA (pv 1) zF))) zF)) zF))))) zG),?_⟩
 rintro Fa ⟨q0,q1,⟨⟩⟩
 exact SB.of (zX (zN (zH (zD 0 rfl) (zH (zD 1 rfl) (zH (zN (zH (zN (zH (zD 0 rfl) (zH (zD 1 rfl) zQ))) zQ)) zQ))))) (by unfold Tv;simp only[bnd])
def Qa(q0:au C):Option LI:=(((xE q0).bind λa2=>some ((a2,()))).bind λb3=>some (q0,b3)).bind λz1=>Tv z1.1 z1.2.1
theorem rE:ak ["machine"] ["machine"] (zI s_alive):=fsc
abbrev Zw(K:PySem.W.Frag)(C:Addr):Sp:=cj K false (λa:(au C)×Unit=>([.z a.1]:SL K)) (λa=>Qa a.1)
theorem zTt(F:aU K "alive" "alive" s_alive f fd)(B:Bl K mg)(sY:bC P w K mg base k "core" ["machine","within"] (zV5 K C))(aH:bC P w K mg base k "everywhere" ["machine"] (vH K C)):aq P w K mg base aO (k+1) f fd ["machine"] (Zw K C):=by
 refine yF F rE (λ_=>rfl) (λ_=>rfl) λcdv A outer s H E hr=>?_
 have nd:=rE.nd
 refine⟨_,(zB (zU (yB sY hr (zA (pv 0) (zA (yB aH hr (zA (pv 0) zF)) zF)))) zG),?_⟩
 rintro Fa ⟨q0,⟨⟩⟩
 exact SB.of (zX (zN (zH (zD 0 rfl) (zH (zN (zH (zD 0 rfl) zQ)) zQ)))) (by unfold Qa;simp only[bnd])
def wP(q0:au C)(q1:LI)(q2:LI):Option LI:=(((xE q0).bind λa3=>((wC q1 q2).bind λa2=>some ((a2,()))).bind λb4=>some (a3,b4)).bind λb5=>some (q0,b5)).bind λz1=>vN z1.1 z1.2.1 z1.2.2.1
theorem jZ:ak ["machine","living","part"] ["machine","living","part"] (zI iu):=fsc
abbrev zFp(K:PySem.W.Frag)(C:Addr):Sp:=cj K false (λa:(au C)×LI×LI×Unit=>([.z a.1,.z a.2.1,.z a.2.2.1]:SL K)) (λa=>wP a.1 a.2.1 a.2.2.1)
theorem zJb(F:aU K "some_next" "some_next" iu f fd)(B:Bl K mg)(aH:bC P w K mg base k "everywhere" ["machine"] (vH K C))(bI:bC P w K mg base k "shared" ["one","other"] (Tj K))(fH:bC P w K mg base k "stepping_to" ["machine","among","goal"] (zC8 K C)):aq P w K mg base aO (k+1) f fd ["machine","living","part"] (zFp K C):=by
 refine yF F jZ (λ_=>rfl) (λ_=>rfl) λcdv A outer s H E hr=>?_
 have nd:=jZ.nd
 refine⟨_,(zB (zU (yB fH hr (zA (pv 0) (zA (yB aH hr (zA (pv 0) zF)) (zA (yB bI hr (zA (pv 1) (zA (pv 2) zF))) zF))))) zG),?_⟩
 rintro Fa ⟨q0,q1,q2,⟨⟩⟩
 exact SB.of (zX (zN (zH (zD 0 rfl) (zH (zN (zH (zD 0 rfl) zQ)) (zH (zN (zH (zD 1 rfl) (zH (zD 2 rfl) zQ))) zQ))))) (by unfold wP;simp only[bnd])
def xA(q0:au C)(q1:LI)(q2:bh cl)(q3:List LI):Option LI:=if(bF (.one 1) q2.t)=true then((((aV q3 (0:Int)).bind λa2=>some ((a2,()))).bind λb3=>some (q1,b3)).bind λb4=>some (q0,b4)).bind λz1=>wP z1.1 z1.2.1 z1.2.2.1 else if(bF (.one 2) q2.t)=true then((((((((((aV q3 (0:Int)).bind λa6=>some ((a6,()))).bind λb7=>some (q0,b7)).bind λz5=>vO z5.1 z5.2.1).bind λa9=>some ((a9,()))).bind λb10=>some (q1,b10)).bind λZx=>some (q0,Zx)).bind λz8=>wP z8.1 z8.2.1 z8.2.2.1).bind λa13=>some ((a13,()))).bind λTf=>some (q0,Tf)).bind λz12=>vO z12.1 z12.2.1 else(if(bF (.two 2) q2.t)=true then none else some ()).bind λuz=>(if(bF (.two 3) q2.t)=true then none else some ()).bind λNt=>(if(bF (.one 3) q2.t)=true then none else some ()).bind λqM=>(if(bF (.one 4) q2.t)=true then none else some ()).bind λZy=>(if(bF (.one 5) q2.t)=true then none else some ()).bind λCu=>none
theorem cR:ak ["machine","living","saying","sets"] ["machine","living","saying","sets"] (zI bW):=fsc
abbrev uR(K:PySem.W.Frag)(C:Addr)(cl:Hd->Addr):Sp:=cj K false (λa:(au C)×LI×(bh cl)×((List LI))×Unit=>([.z a.1,.z a.2.1,.z a.2.2.1,.z a.2.2.2.1]:SL K)) (λa=>xA a.1 a.2.1 a.2.2.1 a.2.2.2.1)
theorem zBr(F:aU K "meaning_over_walks" "meaning_over_walks" bW f fd)(B:Bl K mg)(I:lZ P w K mg base kS cl fi di)(dX:bC P w K mg base k "others" ["machine","stands"] (Zv K C))(eN:bC P w K mg base k "some_next" ["machine","living","part"] (zFp K C)):aq P w K mg base aO (k+1) f fd ["machine","living","saying","sets"] (uR K C cl):=by
 refine yF F cR (λ_=>rfl) (λ_=>rfl) λcdv A outer s H E hr=>?_
 have nd:=cR.nd
 refine⟨_,(zB (yP (yS (zO (xL K (xU (a:=cl (.one 1)))) rfl B.jw xM (zA (pv 2) (zA (xC (v:=.ref (cl (.one 1))) rfl (I.ini.m1 1) rfl) zF)))) (zB (zU (yB eN hr (zA (pv 0) (zA (pv 1) (zA (yV (bx K) (pv 3) zK (λ_ _=>rfl)) zF))))) zG) zG) (zB (yP (yS (zO (xL K (xU (a:=cl (.one 2)))) rfl B.jw xM (zA (pv 2) (zA (xC (v:=.ref (cl (.one 2))) rfl (I.ini.m1 2) rfl) zF)))) (zB (zU (yB dX hr (zA (pv 0) (zA (yB eN hr (zA (pv 0) (zA (pv 1) (zA (yB dX hr (zA (pv 0) (zA (yV (bx K) (pv 3) zK (λ_ _=>rfl)) zF))) zF)))) zF)))) zG) zG) (zB (yP (yS (zO (xL K (xU (a:=cl (.two 2)))) rfl B.jw xM (zA (pv 2) (zA (xC (v:=.ref (cl (.two 2))) rfl (I.ini.m2 2) rfl) zF)))) yO zG) (zB (yP (yS (zO (xL K (xU (a:=cl (.two 3)))) rfl B.jw xM (zA (pv 2) (zA (xC (v:=.ref (cl (.two 3))) rfl (I.ini.m2 3) rfl) zF)))) yO zG) (zB (yP (yS (zO (xL K (xU (a:=cl (.one 3)))) rfl B.jw xM (zA (pv 2) (zA (xC (v:=.ref (cl (.one 3))) rfl (I.ini.m1 3) rfl) zF)))) yO zG) (zB (yP (yS (zO (xL K (xU (a:=cl (.one 4)))) rfl B.jw xM (zA (pv 2) (zA (xC (v:=.ref (cl (.one 4))) rfl (I.ini.m1 4) rfl) zF)))) yO zG) (zB (yP (yS (zO (xL K (xU (a:=cl (.one 5)))) rfl B.jw xM (zA (pv 2) (zA (xC (v:=.ref (cl (.one 5))) rfl (I.ini.m1 5) rfl) zF)))) yO zG) yO))))))),?_⟩
 rintro Fa ⟨q0,q1,q2,q3,⟨⟩⟩
 exact SB.of (vJ (aR (md:=.hp) (yX I (.one 1) (zD 2 rfl))) (zX (zN (zH (zD 0 rfl) (zH (zD 1 rfl) (zH (wI (zD 3 rfl) (zJ 0)) zQ))))) (vJ (aR (md:=.hp) (yX I (.one 2) (zD 2 rfl))) (zX (zN (zH (zD 0 rfl) (zH (zN (zH (zD 0 rfl) (zH (zD 1 rfl) (zH (zN (zH (zD 0 rfl) (zH (wI (zD 3 rfl) (zJ 0)) zQ))) zQ)))) zQ)))) (zM (wT (aR (md:=.hp) (yX I (.two 2) (zD 2 rfl))) xB (zT (λrC:Unit=>([.z q0,.z q1,.z q2,.z q3]:SL K)) () aM)) (λuz=>(zM (wT (aR (md:=.hp) (yX I (.two 3) (zD 2 rfl))) xB (zT (λs18:Unit=>([.z q0,.z q1,.z q2,.z q3]:SL K)) () aM)) (λNt=>(zM (wT (aR (md:=.hp) (yX I (.one 3) (zD 2 rfl))) xB (zT (λsV:Unit=>([.z q0,.z q1,.z q2,.z q3]:SL K)) () aM)) (λqM=>(zM (wT (aR (md:=.hp) (yX I (.one 4) (zD 2 rfl))) xB (zT (λyu:Unit=>([.z q0,.z q1,.z q2,.z q3]:SL K)) () aM)) (λZy=>(zM (wT (aR (md:=.hp) (yX I (.one 5) (zD 2 rfl))) xB (zT (λDK:Unit=>([.z q0,.z q1,.z q2,.z q3]:SL K)) () aM)) (λCu=>zL1)))))))))))) (by unfold xA;simp only[bnd])
def vA(q0:au C)(q1:LI)(q2:bh cl)(q3:List LI):Option LI:=if(bF .all q2.t)=true then xE q0 else if(bF .mark q2.t)=true then(q2.name.bind λa2=>some ((a2,()))).bind λz1=>yY q0 z1.1 else if(bF (.one 0) q2.t)=true then(((aV q3 (0:Int)).bind λa4=>some ((a4,()))).bind λb5=>some (q0,b5)).bind λz3=>vO z3.1 z3.2.1 else(if(bF (.two 0) q2.t)=true then none else some ()).bind λs6=>(if(bF (.two 1) q2.t)=true then none else some ()).bind λs8=>xA q0 q1 q2 q3
theorem nA:ak ["machine","living","saying","sets"] ["machine","living","saying","sets"] (zI kY):=fsc
abbrev Zz(K:PySem.W.Frag)(C:Addr)(cl:Hd->Addr):Sp:=cj K false (λa:(au C)×LI×(bh cl)×((List LI))×Unit=>([.z a.1,.z a.2.1,.z a.2.2.1,.z a.2.2.2.1]:SL K)) (λa=>vA a.1 a.2.1 a.2.2.1 a.2.2.2.1)
theorem zN3(F:aU K "meaning" "meaning" kY f fd)(B:Bl K mg)(I:lZ P w K mg base kS cl fi di)(cX:fQ P w K mg base k C "marked" ["self","name"] (zBi K C))(aH:bC P w K mg base k "everywhere" ["machine"] (vH K C))(bZ:bC P w K mg base k "meaning_over_walks" ["machine","living","saying","sets"] (uR K C cl))(dX:bC P w K mg base k "others" ["machine","stands"] (Zv K C)):aq P w K mg base aO (k+1) f fd ["machine","living","saying","sets"] (Zz K C cl):=by
 refine yF F nA (λ_=>rfl) (λ_=>rfl) λcdv A outer s H E hr=>?_
 have nd:=nA.nd
 refine⟨_,(zB (yP (yS (zO (xL K (xU (a:=cl .all))) rfl B.jw xM (zA (pv 2) (zA (xC (v:=.ref (cl .all)) rfl I.ini.mA rfl) zF)))) (zB (zU (yB aH hr (zA (pv 0) zF))) zG) zG) (zB (yP (yS (zO (xL K (xU (a:=cl .mark))) rfl B.jw xM (zA (pv 2) (zA (xC (v:=.ref (cl .mark)) rfl I.ini.mM rfl) zF)))) (zB (zU (Pb cX hr (pv 0) (zA (Gn K (pv 2)) zF))) zG) zG) (zB (yP (yS (zO (xL K (xU (a:=cl (.one 0)))) rfl B.jw xM (zA (pv 2) (zA (xC (v:=.ref (cl (.one 0))) rfl (I.ini.m1 0) rfl) zF)))) (zB (zU (yB dX hr (zA (pv 0) (zA (yV (bx K) (pv 3) zK (λ_ _=>rfl)) zF)))) zG) zG) (zB (yP (yS (zO (xL K (xU (a:=cl (.two 0)))) rfl B.jw xM (zA (pv 2) (zA (xC (v:=.ref (cl (.two 0))) rfl (I.ini.m2 0) rfl) zF)))) yO zG) (zB (yP (yS (zO (xL K (xU (a:=cl (.two 1)))) rfl B.jw xM (zA (pv 2) (zA (xC (v:=.ref (cl (.two 1))) rfl (I.ini.m2 1) rfl) zF)))) yO zG) (zB (zU (yB bZ hr (zA (pv 0) (zA (pv 1) (zA (pv 2) (zA (pv 3) zF)))))) zG)))))),?_⟩
 rintro Fa ⟨q0,q1,q2,q3,⟨⟩⟩
 exact SB.of (vJ (aR (md:=.hp) (yX I .all (zD 2 rfl))) (zX (zN (zH (zD 0 rfl) zQ))) (vJ (aR (md:=.hp) (yX I .mark (zD 2 rfl))) (zX (Dv (by decide +kernel) (zD 0 rfl) (zH (esc (esc (zOp I (zD 2 rfl)))) zQ))) (vJ (aR (md:=.hp) (yX I (.one 0) (zD 2 rfl))) (zX (zN (zH (zD 0 rfl) (zH (wI (zD 3 rfl) (zJ 0)) zQ)))) (zM (wT (aR (md:=.hp) (yX I (.two 0) (zD 2 rfl))) xB (zT (λs7:Unit=>([.z q0,.z q1,.z q2,.z q3]:SL K)) () aM)) (λs6=>(zM (wT (aR (md:=.hp) (yX I (.two 1) (zD 2 rfl))) xB (zT (λs9:Unit=>([.z q0,.z q1,.z q2,.z q3]:SL K)) () aM)) (λs8=>(zX (zN (zH (zD 0 rfl) (zH (zD 1 rfl) (zH (zD 2 rfl) (zH (zD 3 rfl) zQ))))))))))))) (by unfold vA;simp only[bnd])
def yQ(rec:(au C)->LI->(bh cl)->Option (List LI))(q0:au C)(q1:LI)(q2:bh cl):Option (List LI):=(some (([]:List LI))).bind λdU=>(some (([]:List LI))).bind λnD=>((some q2.parts).bind λxs=>xH (λ(s3:(List LI)×(List LI)) (x5:bh cl)=>((rec q0 q1 x5).bind λa7=>BP s3.1 a7).bind λvd=>((aV vd (-(1:Int))).bind λa9=>push s3.2 a9).bind λCw=>some (vd,Cw)) xs (dU,nD)).bind λs4=>((vA q0 q1 q2 s4.2).bind λa11=>push s4.1 a11).bind λCy=>some Cy
def yT:Nat->(au C)->LI->(bh cl)->Option (List LI)
 |0=>λ_ _ _=>none
 |n+1=>yQ (yT n)
theorem iQ:ak ["machine","living","saying","told","sets","part"] ["machine","living","saying"] (zI eY):=fsc
abbrev uT(K:PySem.W.Frag)(C:Addr)(cl:Hd->Addr)(rec:(au C)->LI->(bh cl)->Option (List LI)):Sp:=cj K false (λa:(au C)×LI×(bh cl)×Unit=>([.z a.1,.z a.2.1,.z a.2.2.1]:SL K)) (λa=>rec a.1 a.2.1 a.2.2.1)
abbrev zC7(K:PySem.W.Frag)(C:Addr)(cl:Hd->Addr):Sp:=uT K C cl (yT 6 )
theorem zFy(F:aU K "table_among" "table_among" eY f fd)(B:Bl K mg)(I:lZ P w K mg base kS cl fi di)(dG:bC P w K mg base k "meaning" ["machine","living","saying","sets"] (Zz K C cl))(cG:bC P w K mg base k "table_among" ["machine","living","saying"] (uT K C cl rec)):aq P w K mg base aO (k+1) f fd ["machine","living","saying"] (uT K C cl (yQ rec)):=by
 refine yF F iQ (λ_=>rfl) (λ_=>rfl) λcdv A outer s H E hr=>?_
 have nd:=iQ.nd
 refine⟨_,(zB (yN 3 nd (wZ zF)) (zB (yN 4 nd (wZ zF)) (zB (xD aau rfl (zVl K (Gn K (pv 2))) (bH 5 nd) (zB (yH (xg K aa3 PySem.F.slot_list_extend PySem.F.type_list_extend zJk (pv 3) (zA (yB cG hr (zA (pv 0) (zA (pv 1) (zA (pv 5) zF)))) zF))) (zB (yH (xg K aa3 aa7 aa8 wH (pv 4) (zA (yV (bx K) (pv 3) (Iz zU2 zK) (λ_ _=>rfl)) zF))) zG))) (zB (yH (xg K aa3 aa7 aa8 wH (pv 3) (zA (yB dG hr (zA (pv 0) (zA (pv 1) (zA (pv 2) (zA (pv 4) zF))))) zF))) (zB (zU (pv 3)) zG))))),?_⟩
 rintro Fa ⟨q0,q1,q2,⟨⟩⟩
 exact SB.of (zM (uP true 3 rfl rfl (uQ (α:=LI))) (λdU=>(zM (uP true 4 rfl rfl (uQ (α:=LI))) (λnD=>(zM (wK (n:=false) (L:=(λs3:(List LI)×(List LI)=>([.z q0,.z q1,.z q2,.ow true s3.1,.ow true s3.2,.un]:SL K))) (dU,nD) aM (zMr I (yK 2 rfl)) (λs3=>(zW 5 rfl rfl)) (λs3 x5=>(zL (zNo 3 rfl rfl (zN (zH (zD 0 rfl) (zH (zD 1 rfl) (zH (zD 5 rfl) zQ))))) (λvd=>(zL (wO 4 rfl rfl (Lj 3 rfl (zVo (zJ 1)))) (λCw=>(zT (λs3:(List LI)×(List LI)=>([.z q0,.z q1,.z q2,.ow true s3.1,.ow true s3.2,.un]:SL K)) (vd,Cw) aM))))))) (λs4=>(zM (wO 3 rfl rfl (zN (zH (zD 0 rfl) (zH (zD 1 rfl) (zH (zD 2 rfl) (zH (Dt 4 rfl) zQ)))))) (λCy=>(FW 3 rfl rfl))))))))) (by unfold yQ;simp only[bnd])
def V8(q0:au C)(q1:bh cl):Option (List LI):=(((Qa q0).bind λa2=>some ((a2,(q1,())))).bind λb3=>some (q0,b3)).bind λz1=>yT 6 z1.1 z1.2.1 z1.2.2.1
theorem rG:ak ["machine","saying"] ["machine","saying"] (zI p8):=fsc
abbrev zSh(K:PySem.W.Frag)(C:Addr)(cl:Hd->Addr):Sp:=cj K false (λa:(au C)×(bh cl)×Unit=>([.z a.1,.z a.2.1]:SL K)) (λa=>V8 a.1 a.2.1)
theorem zTo(F:aU K "table" "table" p8 f fd)(B:Bl K mg)(je:bC P w K mg base k "alive" ["machine"] (Zw K C))(cG:bC P w K mg base k "table_among" ["machine","living","saying"] (zC7 K C cl)):aq P w K mg base aO (k+1) f fd ["machine","saying"] (zSh K C cl):=by
 refine yF F rG (λ_=>rfl) (λ_=>rfl) λcdv A outer s H E hr=>?_
 have nd:=rG.nd
 refine⟨_,(zB (zU (yB cG hr (zA (pv 0) (zA (yB je hr (zA (pv 0) zF)) (zA (pv 1) zF))))) zG),?_⟩
 rintro Fa ⟨q0,q1,⟨⟩⟩
 exact SB.of (zX (zN (zH (zD 0 rfl) (zH (zN (zH (zD 0 rfl) zQ)) (zH (zD 1 rfl) zQ))))) (by unfold V8;simp only[bnd])
def Tw(q0:au C)(q1:bh cl):Option LI:=(V8 q0 q1).bind λa1=>aV a1 (-(1:Int))
theorem rH:ak ["machine","saying"] ["machine","saying"] (zI qb):=fsc
abbrev zSj(K:PySem.W.Frag)(C:Addr)(cl:Hd->Addr):Sp:=cj K false (λa:(au C)×(bh cl)×Unit=>([.z a.1,.z a.2.1]:SL K)) (λa=>Tw a.1 a.2.1)
theorem zTr(F:aU K "holds" "holds" qb f fd)(B:Bl K mg)(qm:bC P w K mg base k "table" ["machine","saying"] (zSh K C cl)):aq P w K mg base aO (k+1) f fd ["machine","saying"] (zSj K C cl):=by
 refine yF F rH (λ_=>rfl) (λ_=>rfl) λcdv A outer s H E hr=>?_
 have nd:=rH.nd
 refine⟨_,(zB (zU (yV (bx K) (yB qm hr (zA (pv 0) (zA (pv 1) zF))) (Iz zU2 zK) (λ_ _=>rfl))) zG),?_⟩
 rintro Fa ⟨q0,q1,⟨⟩⟩
 exact SB.of (zX (wI (zN (zH (zD 0 rfl) (zH (zD 1 rfl) zQ))) (zVo (zJ 1)))) (by unfold Tw;simp only[bnd])
def wB(q0:LI):Option dZ:=if(decide ((q0.length:Int)=(0:Int)))=true then some dZ.none else(aV q0 (0:Int)).bind λa1=>some (dZ.step a1)
theorem iR:ak ["targets"] ["targets"] (zI eZ):=fsc
abbrev zC9(K:PySem.W.Frag):Sp:=cj K false (λa:LI×Unit=>([.z a.1]:SL K)) (λa=>wB a.1)
theorem zF0(F:aU K "step_reason" "step_reason" eZ f fd)(B:Bl K mg):aq P w K mg base aO (k+1) f fd ["targets"] (zC9 K):=by
 refine yF F iR (λ_=>rfl) (λ_=>rfl) λcdv A outer s H E hr=>?_
 have nd:=iR.nd
 refine⟨_,(zB (yP (yC (vW K Int hr) (zO (wS K) rfl B.len aa4 (zA (pv 0) zF)) zK (aG _)) (zB (zU (uh (zA xK zF))) zG) zG) (zB (zU (uh (zA xK (zA (yV (bx K) (pv 0) zK (λ_ _=>rfl)) zF)))) zG)),?_⟩
 rintro Fa ⟨q0,⟨⟩⟩
 exact SB.of (vJ (yD (md:=.hp) (vX (uO (zD 0 rfl)) (zJ 0))) (zX (MJ .none (λ_=>rfl))) (zX (zRj (esc (esc (wI (zD 0 rfl) (zJ 0))))))) (by unfold wB;simp only[bnd])
def yU(q0:au C)(q1:LI):Option (List dZ):=(xE q0).bind λxs=>yW (λ(x1:Int)=>some true) (λ(x1:Int)=>((((yM q0 x1).bind λa3=>some ((a3,(q1,())))).bind λz2=>wC z2.1 z2.2.1).bind λa5=>some ((a5,()))).bind λz4=>wB z4.1) xs
theorem gH:ak ["machine","goal"] ["machine","goal"] (zI dI):=fsc
abbrev zCc(K:PySem.W.Frag)(C:Addr):Sp:=cj K false (λa:(au C)×LI×Unit=>([.z a.1,.z a.2.1]:SL K)) (λa=>yU a.1 a.2.1)
theorem zEy(F:aU K "step_reasons" "step_reasons" dI f fd)(B:Bl K mg)(aK:fQ P w K mg base k C "next_of" ["self","stand"] (wU K C))(aH:bC P w K mg base k "everywhere" ["machine"] (vH K C))(bI:bC P w K mg base k "shared" ["one","other"] (Tj K))(fJ:bC P w K mg base k "step_reason" ["targets"] (zC9 K)):aq P w K mg base aO (k+1) f fd ["machine","goal"] (zCc K C):=by
 refine yF F gH (λ_=>rfl) (λ_=>rfl) λcdv A outer s H E hr=>?_
 have nd:=gH.nd
 refine⟨_,(zB (zU (wA (own:=["stand"]) (ix:=[0,1]) rfl rfl rfl (yI K (yB aH hr (zA (pv 0) zF))) (λC s H fp=>yJ (i:=0) (show(["stand","machine","goal"]:List Str).Nodup from by decide +kernel) rfl (Or.inl rfl)) (λC s H fp=>wX) (λC s H fp=>(yB fJ hr (zA (yB bI hr (zA (Pb aK hr (pv 1) (zA (pv 0) zF)) (zA (pv 2) zF))) zF))))) zG),?_⟩
 rintro Fa ⟨q0,q1,⟨⟩⟩
 exact SB.of (zX (yR (n:=true) (i_:=[.un,.z q0,.z q1]) (no:=1) (ix:=[0,1]) rfl rfl (yL (zN (zH (zD 0 rfl) zQ))) (zW 0 rfl rfl) (λx1=>sy) (λx1=>(zN (zH (zN (zH (Dv (by decide +kernel) (zD 1 rfl) (zH (esc (zE 0 rfl)) zQ)) (zH (zD 2 rfl) zQ))) zQ))) (λx1=>cT)).ex) (by unfold yU;simp only[bnd])
def uZ(q0:au C)(q1:LI)(q2:bh cl)(q3:List LI)(q4:LI):Option (List dZ):=if(bF (.one 1) q2.t)=true then((((((aV q3 (0:Int)).bind λa2=>some ((a2,()))).bind λb3=>some (q1,b3)).bind λz1=>wC z1.1 z1.2.1).bind λa5=>some ((a5,()))).bind λb6=>some (q0,b6)).bind λz4=>yU z4.1 z4.2.1 else if(bF (.one 2) q2.t)=true then((((((aV q3 (0:Int)).bind λa8=>some ((a8,()))).bind λb9=>some (q1,b9)).bind λz7=>uY z7.1 z7.2.1).bind λa11=>some ((a11,()))).bind λZC=>some (q0,ZC)).bind λz10=>yU z10.1 z10.2.1 else(if(bF (.two 2) q2.t)=true then none else some ()).bind λoF=>(if(bF (.one 5) q2.t)=true then none else some ()).bind λuz=>(if(bF (.one 4) q2.t)=true then none else some ()).bind λNt=>(if(bF (.one 3) q2.t)=true then none else some ()).bind λqM=>(if(bF (.two 3) q2.t)=true then none else some ()).bind λZy=>(if(bF (.one 6) q2.t)=true then none else some ()).bind λCu=>none
theorem nG:ak ["machine","living","saying","sets","holding"] ["machine","living","saying","sets","holding"] (zI kZ):=fsc
abbrev zKb(K:PySem.W.Frag)(C:Addr)(cl:Hd->Addr):Sp:=cj K false (λa:(au C)×LI×(bh cl)×((List LI))×LI×Unit=>([.z a.1,.z a.2.1,.z a.2.2.1,.z a.2.2.2.1,.z a.2.2.2.2.1]:SL K)) (λa=>uZ a.1 a.2.1 a.2.2.1 a.2.2.2.1 a.2.2.2.2.1)
theorem zN2(F:aU K "reasons" "reasons" kZ f fd)(B:Bl K mg)(I:lZ P w K mg base kS cl fi di)(bI:bC P w K mg base k "shared" ["one","other"] (Tj K))(cP:bC P w K mg base k "step_reasons" ["machine","goal"] (zCc K C))(dF:bC P w K mg base k "without" ["one","other"] (Zu K)):aq P w K mg base aO (k+1) f fd ["machine","living","saying","sets","holding"] (zKb K C cl):=by
 refine yF F nG (λ_=>rfl) (λ_=>rfl) λcdv A outer s H E hr=>?_
 have nd:=nG.nd
 refine⟨_,(zB (yP (yS (zO (xL K (xU (a:=cl (.one 1)))) rfl B.jw xM (zA (pv 2) (zA (xC (v:=.ref (cl (.one 1))) rfl (I.ini.m1 1) rfl) zF)))) (zB (zU (yB cP hr (zA (pv 0) (zA (yB bI hr (zA (pv 1) (zA (yV (bx K) (pv 3) zK (λ_ _=>rfl)) zF))) zF)))) zG) zG) (zB (yP (yS (zO (xL K (xU (a:=cl (.one 2)))) rfl B.jw xM (zA (pv 2) (zA (xC (v:=.ref (cl (.one 2))) rfl (I.ini.m1 2) rfl) zF)))) (zB (zU (yB cP hr (zA (pv 0) (zA (yB dF hr (zA (pv 1) (zA (yV (bx K) (pv 3) zK (λ_ _=>rfl)) zF))) zF)))) zG) zG) (zB (yP (yS (zO (xL K (xU (a:=cl (.two 2)))) rfl B.jw xM (zA (pv 2) (zA (xC (v:=.ref (cl (.two 2))) rfl (I.ini.m2 2) rfl) zF)))) yO zG) (zB (yP (yS (zO (xL K (xU (a:=cl (.one 5)))) rfl B.jw xM (zA (pv 2) (zA (xC (v:=.ref (cl (.one 5))) rfl (I.ini.m1 5) rfl) zF)))) yO zG) (zB (yP (yS (zO (xL K (xU (a:=cl (.one 4)))) rfl B.jw xM (zA (pv 2) (zA (xC (v:=.ref (cl (.one 4))) rfl (I.ini.m1 4) rfl) zF)))) yO zG) (zB (yP (yS (zO (xL K (xU (a:=cl (.one 3)))) rfl B.jw xM (zA (pv 2) (zA (xC (v:=.ref (cl (.one 3))) rfl (I.ini.m1 3) rfl) zF)))) yO zG) (zB (yP (yS (zO (xL K (xU (a:=cl (.two 3)))) rfl B.jw xM (zA (pv 2) (zA (xC (v:=.ref (cl (.two 3))) rfl (I.ini.m2 3) rfl) zF)))) yO zG) (zB (yP (yS (zO (xL K (xU (a:=cl (.one 6)))) rfl B.jw xM (zA (pv 2) (zA (xC (v:=.ref (cl (.one 6))) rfl (I.ini.m1 6) rfl) zF)))) yO zG) yO)))))))),?_⟩
 rintro Fa ⟨q0,q1,q2,q3,q4,⟨⟩⟩
 exact SB.of (vJ (aR (md:=.hp) (yX I (.one 1) (zD 2 rfl))) (zX (zN (zH (zD 0 rfl) (zH (zN (zH (zD 1 rfl) (zH (wI (zD 3 rfl) (zJ 0)) zQ))) zQ)))) (vJ (aR (md:=.hp) (yX I (.one 2) (zD 2 rfl))) (zX (zN (zH (zD 0 rfl) (zH (zN (zH (zD 1 rfl) (zH (wI (zD 3 rfl) (zJ 0)) zQ))) zQ)))) (zM (wT (aR (md:=.hp) (yX I (.two 2) (zD 2 rfl))) xB (zT (λjW:Unit=>([.z q0,.z q1,.z q2,.z q3,.z q4]:SL K)) () aM)) (λoF=>(zM (wT (aR (md:=.hp) (yX I (.one 5) (zD 2 rfl))) xB (zT (λrC:Unit=>([.z q0,.z q1,.z q2,.z q3,.z q4]:SL K)) () aM)) (λuz=>(zM (wT (aR (md:=.hp) (yX I (.one 4) (zD 2 rfl))) xB (zT (λs18:Unit=>([.z q0,.z q1,.z q2,.z q3,.z q4]:SL K)) () aM)) (λNt=>(zM (wT (aR (md:=.hp) (yX I (.one 3) (zD 2 rfl))) xB (zT (λsV:Unit=>([.z q0,.z q1,.z q2,.z q3,.z q4]:SL K)) () aM)) (λqM=>(zM (wT (aR (md:=.hp) (yX I (.two 3) (zD 2 rfl))) xB (zT (λyu:Unit=>([.z q0,.z q1,.z q2,.z q3,.z q4]:SL K)) () aM)) (λZy=>(zM (wT (aR (md:=.hp) (yX I (.one 6) (zD 2 rfl))) xB (zT (λDK:Unit=>([.z q0,.z q1,.z q2,.z q3,.z q4]:SL K)) () aM)) (λCu=>zL1)))))))))))))) (by unfold uZ;simp only[bnd])
def JN(q0:au C)(q1:bh cl):Option (List (Bool×dZ)):=(Qa q0).bind λqp=>((some q1.parts).bind λxs=>yW (λ(x3:bh cl)=>some true) (λ(x3:bh cl)=>Tw q0 x3) xs).bind λnD=>(vA q0 qp q1 nD).bind λnH=>(JL q0 nH).bind λa5=>(uZ q0 qp q1 nD nH).bind λb6=>BW a5 b6
theorem vf:ak ["machine","saying","living","sets","holding"] ["machine","saying"] (zI sO):=fsc
abbrev zV4(K:PySem.W.Frag)(C:Addr)(cl:Hd->Addr):Sp:=cj K false (λa:(au C)×(bh cl)×Unit=>([.z a.1,.z a.2.1]:SL K)) (λa=>JN a.1 a.2.1)
theorem Hg(F:aU K "whys" "whys" sO f fd)(B:Bl K mg)(I:lZ P w K mg base kS cl fi di)(Nv:mg "zip" = none)(je:bC P w K mg base k "alive" ["machine"] (Zw K C))(dz:bC P w K mg base k "flags" ["machine","stands"] (V7 K C))(qt:bC P w K mg base k "holds" ["machine","saying"] (zSj K C cl))(dG:bC P w K mg base k "meaning" ["machine","living","saying","sets"] (Zz K C cl))(lD:bC P w K mg base k "reasons" ["machine","living","saying","sets","holding"] (zKb K C cl)):aq P w K mg base aO (k+1) f fd ["machine","saying"] (zV4 K C cl):=by
 refine yF F vf (λ_=>rfl) (λ_=>rfl) λcdv A outer s H E hr=>?_
 have nd:=vf.nd
 refine⟨_,(zB (yN 2 nd (yB je hr (zA (pv 0) zF))) (zB (Dr (i:=3) (own:=["part"]) (ix:=[0]) nd rfl rfl rfl rfl rfl (zVl K (Gn K (pv 1))) (λC s H fp=>yJ (i:=0) (show(["part","machine"]:List Str).Nodup from by decide +kernel) rfl (Or.inl rfl)) (λC s H fp=>wX) (λC s H fp=>(yB qt hr (zA (pv 1) (zA (pv 0) zF))))) (zB (yN 4 nd (yB dG hr (zA (pv 0) (zA (pv 2) (zA (pv 1) (zA (pv 3) zF)))))) (zB (zU (zNy K rfl B.list Nv (zA (yB dz hr (zA (pv 0) (zA (pv 4) zF))) (zA (yB lD hr (zA (pv 0) (zA (pv 2) (zA (pv 1) (zA (pv 3) (zA (pv 4) zF)))))) zF)))) zG)))),?_⟩
 rintro Fa ⟨q0,q1,⟨⟩⟩
 exact SB.of (zM (zZ true 2 rfl rfl (zN (zH (zD 0 rfl) zQ))) (λqp=>(zM (zZ true 3 rfl rfl (yR (n:=false) (i_:=[.un,.z q0]) (no:=1) (ix:=[0]) rfl rfl (zMr I (yK 1 rfl)) (zW 0 rfl rfl) (λx3=>sy) (λx3=>(zN (zH (zD 1 rfl) (zH (zD 0 rfl) zQ)))) (λx3=>cT)).ex) (λnD=>(zM (zZ true 4 rfl rfl (zN (zH (zD 0 rfl) (zH (zD 2 rfl) (zH (zD 1 rfl) (zH (zD 3 rfl) zQ)))))) (λnH=>(zX (zOq (zN (zH (zD 0 rfl) (zH (zD 4 rfl) zQ))) (zN (zH (zD 0 rfl) (zH (zD 2 rfl) (zH (zD 1 rfl) (zH (zD 3 rfl) (zH (zD 4 rfl) zQ)))))))))))))) (by unfold JN;simp only[bnd])
def wD(q0:wu)(q1:Int):Option Int:=if(decide (q1<(q0.ns.length:Int)))=true then aV q0.ns q1 else some (0:Int)
theorem j4:ak ["_law_script","_law_k"] ["_law_script","_law_k"] (zI iw):=fsc
abbrev ZD(K:PySem.W.Frag):Sp:=cj K false (λa:wu×Int×Unit=>([.z a.1,.z a.2.1]:SL K)) (λa=>wD a.1 a.2.1)
theorem zJh(F:aU K "_law_cell_at" "_law_cell_at" iw f fd)(B:Bl K mg):aq P w K mg base aO (k+1) f fd ["_law_script","_law_k"] (ZD K):=by
 refine yF F j4 (λ_=>rfl) (λ_=>rfl) λcdv A outer s H E hr=>?_
 have nd:=j4.nd
 refine⟨_,(zB (yP (yC Es (pv 1) (zO (wS K) rfl B.len aa4 (zA (pv 0) zF)) (aG _)) (zB (zU (yV (bx K) (pv 0) (pv 1) (λ_ _=>rfl))) zG) zG) (zB (zU zK) zG)),?_⟩
 rintro Fa ⟨q0,q1,⟨⟩⟩
 exact SB.of (vJ (yD (md:=.hp) (Jf (zE 1 rfl) (zRi (zD 0 rfl)))) (zX (esc (Ln (zD 0 rfl) (zE 1 rfl)))) (zX (esc (zJ 0)))) (by unfold wD;simp only[bnd])
def Qc(q0:Int):Option Bool:=if true=true then some (!false) else some false
theorem nJ:ak ["_law_found"] ["_law_found"] (zI lq):=fsc
abbrev zKc(K:PySem.W.Frag):Sp:=cj K false (λa:Int×Unit=>([.z a.1]:SL K)) (λa=>Qc a.1)
theorem zN4(F:aU K "_law_whole" "_law_whole" lq f fd)(B:Bl K mg):aq P w K mg base aO (k+1) f fd ["_law_found"] (zKc K):=by
 refine yF F nJ (λ_=>rfl) (λ_=>rfl) λcdv A outer s H E hr=>?_
 have nd:=nJ.nd
 refine⟨_,(zB (zU (Kc (zO (xL K (Ds (n:="int"))) rfl B.jw xM (zA (pv 0) (zA (Dm (v:=.ty "int") rfl B.int X4 rfl) zF))) (Oq (zVd (zO (xL K (Ds (n:="bool"))) rfl B.jw xM (zA (pv 0) (zA (Dm (v:=.ty "bool") rfl B.bool X5 rfl) zF))))))) zG),?_⟩
 rintro Fa ⟨q0,⟨⟩⟩
 exact SB.of (zX (esc (K9 (Du B.ii rfl (zE 0 rfl)) (zVn (Du B.ib rfl (zE 0 rfl)))))) (by unfold Qc;simp only[bnd])
def uC(q0:Int)(q1:Int):Option Int:=((((((mulM (2:Int) q1).bind λb2=>some ((48271:Int)+b2)).bind λb3=>mulM q0 b3).bind λa4=>(mulM (7919:Int) q1).bind λb5=>some (a4+b5)).bind λa6=>some (a6+(5:Int))).bind λa7=>cF a7 (99991:Int)).bind λNx=>(mulM Nx ((Nx+(3:Int))+q1)).bind λa8=>cF a8 (99989:Int)
theorem rJ:ak ["_law_cell","_law_k","_law_one"] ["_law_cell","_law_k"] (zI qd):=fsc
abbrev V9(K:PySem.W.Frag):Sp:=cj K false (λa:Int×Int×Unit=>([.z a.1,.z a.2.1]:SL K)) (λa=>uC a.1 a.2.1)
theorem zTq(F:aU K "_law_mix" "_law_mix" qd f fd)(B:Bl K mg):aq P w K mg base aO (k+1) f fd ["_law_cell","_law_k"] (V9 K):=by
 refine yF F rJ (λ_=>rfl) (λ_=>rfl) λcdv A outer s H E hr=>?_
 have nd:=rJ.nd
 refine⟨_,(zB (yN 2 nd (zY wL (zY xX (zY xX (zY Ku (pv 0) (zY xX zK (zY Ku zK (pv 1)))) (zY Ku zK (pv 1))) zK) zK)) (zB (zU (zY wL (zY Ku (pv 2) (zY xX (zY xX (pv 2) zK) (pv 1))) zK)) zG)),?_⟩
 rintro Fa ⟨q0,q1,⟨⟩⟩
 exact SB.of (zM (zZ true 2 rfl rfl (esc (wN (xY (xY (Li (zE 0 rfl) (xY (zJ 48271) (Li (zJ 2) (zE 1 rfl)))) (Li (zJ 7919) (zE 1 rfl))) (zJ 5)) (zJ 99991)))) (λNx=>(zX (esc (wN (Li (zE 2 rfl) (xY (xY (zE 2 rfl) (zJ 3)) (zE 1 rfl))) (zJ 99989)))))) (by unfold uC;simp only[bnd])
def uK(q0:wu)(q1:Int):Option (List LI):=(some (([]:List LI))).bind λsZ=>((wV q1).bind λxs=>xH (λ(s2:List LI) (x4:Int)=>(((((cF x4 (max (1:Int) ((q0.ns.length:Int)-(4:Int)))).bind λb6=>some ((4:Int)+b6)).bind λa8=>some ((a8,()))).bind λb9=>some (q0,b9)).bind λz7=>wD z7.1 z7.2.1).bind λiT=>(some ([]:LI)).bind λCz=>(((((uC iT x4).bind λa14=>cF a14 (3:Int)).bind λTz=>some ((1:Int)+Tz)).bind λa16=>wV a16).bind λxs=>xH (λ(cu:LI) (rR:Int)=>(((((((mulM (70:Int) rR).bind λG_=>some (x4+G_)).bind λa19=>some (a19+(70:Int))).bind λa21=>some ((a21,()))).bind λTF=>some (iT+rR,TF)).bind λDN=>uC DN.1 DN.2.1).bind λa23=>cF a23 q1).bind λqu=>((((uC iT (((300:Int)+x4)+rR)).bind λa24=>cF a24 (3:Int)).bind λa25=>some (decide (a25=(0:Int)))).bind λb=>if b=true then(cF (x4+(1:Int)) q1).bind λqw=>some qw else some qu).bind λTJ=>(if(!decide (TJ∈cu))=true then(push cu TJ).bind λCG=>some CG else some cu).bind λZF=>some ZF) xs Cz).bind λs12=>(push s2 s12).bind λqx=>some qx) xs sZ).bind λs3=>some s3
theorem jC:ak ["_law_script","_law_many","_law_steps","_law_stand","_law_cell","_law_row","_law_k","_law_other"] ["_law_script","_law_many"] (zI fZ):=fsc
abbrev zD1(K:PySem.W.Frag):Sp:=cj K false (λa:wu×Int×Unit=>([.z a.1,.z a.2.1]:SL K)) (λa=>uK a.1 a.2.1)
theorem zHq(F:aU K "_law_steps_by" "_law_steps_by" fZ f fd)(B:Bl K mg)(Ny:mg "max" = none)(aX:bC P w K mg base k "_law_cell_at" ["_law_script","_law_k"] (ZD K))(bN:bC P w K mg base k "_law_mix" ["_law_cell","_law_k"] (V9 K)):aq P w K mg base aO (k+1) f fd ["_law_script","_law_many"] (zD1 K):=by
 refine yF F jC (λ_=>rfl) (λ_=>rfl) λcdv A outer s H E hr=>?_
 have nd:=jC.nd
 refine⟨_,(zB (yN 2 nd (wZ zF)) (zB (xD aau rfl (yZ rfl B.range (zA (pv 1) zF)) (bH 3 nd) (zB (yN 4 nd (yB aX hr (zA (pv 0) (zA (zY xX zK (zY wL (pv 3) (zO (zR2 rfl) rfl Ny Lr (zA zK (zA (zY Ks (zO (wS K) rfl B.len aa4 (zA (pv 0) zF)) zK) zF))))) zF)))) (zB (yN 5 nd (wZ zF)) (zB (xD aau rfl (yZ rfl B.range (zA (zY xX zK (zY wL (yB bN hr (zA (pv 4) (zA (pv 3) zF))) zK)) zF)) (bH 6 nd) (zB (yN 7 nd (zY wL (yB bN hr (zA (zY xX (pv 4) (pv 6)) (zA (zY xX (zY xX (pv 3) (zY Ku zK (pv 6))) zK) zF))) (pv 1))) (zB (yP (yC (vW K Int hr) (zY wL (yB bN hr (zA (pv 4) (zA (zY xX (zY xX zK (pv 3)) (pv 6)) zF))) zK) zK (aG _)) (zB (yN 7 nd (zY wL (zY xX (pv 3) zK) (pv 1))) zG) zG) (zB (yP (yC (X7 K) (pv 7) (pv 5) (by with_unfolding_all rfl)) (zB (yH (xg K aa3 aa7 aa8 wH (pv 5) (zA (pv 7) zF))) zG) zG) zG)))) (zB (yH (xg K aa3 aa7 aa8 wH (pv 2) (zA (pv 5) zF))) zG))))) (zB (zU (pv 2)) zG))),?_⟩
 rintro Fa ⟨q0,q1,⟨⟩⟩
 exact SB.of (zM (uP true 2 rfl rfl (uQ (α:=LI))) (λsZ=>(zM (wK (n:=true) (L:=(λs2:List LI=>([.z q0,.z q1,.ow true s2,.un,.un,.un,.un,.un]:SL K))) sZ aM (xS (zE 1 rfl)) (λs2=>(zW 3 rfl rfl)) (λs2 x4=>(zL (zZ true 4 rfl rfl (esc (zN (zH (zD 0 rfl) (zH (esc (xY (zJ 4) (wN (zE 3 rfl) (Gg (zJ 1) (Lh (zRi (zD 0 rfl)) (zJ 4)))))) zQ))))) (λiT=>(zL (uP true 5 rfl rfl (uQ (α:=Int))) (λCz=>(zL (wK (n:=true) (L:=(λcu:LI=>([.z q0,.z q1,.ow true s2,.y x4,.y iT,.ow true cu,.un,.un]:SL K))) Cz aM (xS (xY (zJ 1) (wN (zN (zH (esc (zE 4 rfl)) (zH (esc (zE 3 rfl)) zQ))) (zJ 3)))) (λcu=>(zW 6 rfl rfl)) (λcu rR=>(zL (zZ true 7 rfl rfl (esc (wN (zN (zH (esc (xY (zE 4 rfl) (zE 6 rfl))) (zH (esc (xY (xY (zE 3 rfl) (Li (zJ 70) (zE 6 rfl))) (zJ 70))) zQ))) (zE 1 rfl)))) (λqu=>(zL (wT (yD (md:=.hp) (vX (wN (zN (zH (esc (zE 4 rfl)) (zH (esc (xY (xY (zJ 300) (zE 3 rfl)) (zE 6 rfl))) zQ))) (zJ 3)) (zJ 0))) (zL (zZ true 7 rfl rfl (esc (wN (xY (zE 3 rfl) (zJ 1)) (zE 1 rfl)))) (λqw=>(zT (λNz:Int=>([.z q0,.z q1,.ow true s2,.y x4,.y iT,.ow true cu,.y rR,.y Nz]:SL K)) qw aM))) (zT (λNz:Int=>([.z q0,.z q1,.ow true s2,.y x4,.y iT,.ow true cu,.y rR,.y Nz]:SL K)) qu aM)) (λTJ=>(zL (wT (yD (md:=.hp) (XS (zE 7 rfl) (Dt 5 rfl))) (zL (wO 5 rfl rfl (esc (zE 7 rfl))) (λCG=>(zT (λZG:LI=>([.z q0,.z q1,.ow true s2,.y x4,.y iT,.ow true ZG,.y rR,.y TJ]:SL K)) CG aM))) (zT (λZG:LI=>([.z q0,.z q1,.ow true s2,.y x4,.y iT,.ow true ZG,.y rR,.y TJ]:SL K)) cu aM)) (λZF=>(zT (λcu:LI=>([.z q0,.z q1,.ow true s2,.y x4,.y iT,.ow true cu,.un,.un]:SL K)) ZF aM))))))))) (λs12=>(zL (Yb (sl2:=[.z q0,.z q1,.ow true s2,.y x4,.y iT,.y s12,.un,.un]) aM (wO 2 rfl rfl (yK 5 rfl))) (λqx=>(zT (λs2:List LI=>([.z q0,.z q1,.ow true s2,.un,.un,.un,.un,.un]:SL K)) qx aM))))))))))) (λs3=>(FW 2 rfl rfl))))) (by unfold uK;simp only[bnd])
def uU(q0:Int)(q1:Int)(q2:Int):Option LI:=(some ([]:LI)).bind λcQ=>(gZ q0 (216:Int)).bind λj5=>(((cF q0 (2:Int)).bind λa3=>some (decide (a3=(1:Int)))).bind λb=>if b=true then((wV q1).bind λxs=>xH (λ(s6:Int) (x8:Int)=>(gZ s6 (6:Int)).bind λCJ=>some CJ) xs j5).bind λs7=>some s7 else some j5).bind λs4=>((wV q1).bind λxs=>xH (λ(qy:LI×Int) (x12:Int)=>(uC q0 (x12+(1:Int))).bind λCK=>(((pQ (10:Int) (18:Int)).bind λTf=>some (decide (Tf<=q0))).bind λb=>if b=true then(some qy.2).bind λCN=>some CN else some CK).bind λuz=>(((cF uz (6:Int)).bind λa18=>some (decide (a18<q2))).bind λb=>if b=true then(push qy.1 x12).bind λtu=>some tu else some qy.1).bind λqM=>(gZ qy.2 (6:Int)).bind λtD=>some (qM,tD)) xs (cQ,s4)).bind λcu=>some cu.1
theorem lR:ak ["_law_cell","_law_many","_law_way","_law_some","_law_rest","_law_stand","_law_one"] ["_law_cell","_law_many","_law_way"] (zI jJ):=fsc
abbrev zGt(K:PySem.W.Frag):Sp:=cj K false (λa:Int×Int×Int×Unit=>([.z a.1,.z a.2.1,.z a.2.2.1]:SL K)) (λa=>uU a.1 a.2.1 a.2.2.1)
theorem zK0(F:aU K "_law_set_by" "_law_set_by" jJ f fd)(B:Bl K mg)(bN:bC P w K mg base k "_law_mix" ["_law_cell","_law_k"] (V9 K)):aq P w K mg base aO (k+1) f fd ["_law_cell","_law_many","_law_way"] (zGt K):=by
 refine yF F lR (λ_=>rfl) (λ_=>rfl) λcdv A outer s H E hr=>?_
 have nd:=lR.nd
 refine⟨_,(zB (yN 3 nd (wZ zF)) (zB (yN 4 nd (zY Am (pv 0) zK)) (zB (yP (yC (vW K Int hr) (zY wL (pv 0) zK) zK (aG _)) (zB (xD aau rfl (yZ rfl B.range (zA (pv 1) zF)) (bH 5 nd) (zB (yN 4 nd (zY Am (pv 4) zK)) zG)) zG) zG) (zB (xD aau rfl (yZ rfl B.range (zA (pv 1) zF)) (bH 5 nd) (zB (yN 6 nd (yB bN hr (zA (pv 0) (zA (zY xX (pv 5) zK) zF)))) (zB (yP (yC IK (pv 0) (zY WX zK zK) (aG _)) (zB (yN 6 nd (pv 4)) zG) zG) (zB (yP (yC Es (zY wL (pv 6) zK) (pv 2) (aG _)) (zB (yH (xg K aa3 aa7 aa8 wH (pv 3) (zA (pv 5) zF))) zG) zG) (zB (yN 4 nd (zY Am (pv 4) zK)) zG))))) (zB (zU (pv 3)) zG))))),?_⟩
 rintro Fa ⟨q0,q1,q2,⟨⟩⟩
 exact SB.of (zM (uP true 3 rfl rfl (uQ (α:=Int))) (λcQ=>(zM (zZ true 4 rfl rfl (esc (Bt (zE 0 rfl) (zJ 216)))) (λj5=>(zM (wT (yD (md:=.hp) (vX (wN (zE 0 rfl) (zJ 2)) (zJ 1))) (zL (wK (n:=true) (L:=(λs6:Int=>([.z q0,.z q1,.z q2,.ow true cQ,.y s6,.un,.un]:SL K))) j5 aM (xS (zE 1 rfl)) (λs6=>(zW 5 rfl rfl)) (λs6 x8=>(zL (zZ true 4 rfl rfl (esc (Bt (zE 4 rfl) (zJ 6)))) (λCJ=>(zT (λs6:Int=>([.z q0,.z q1,.z q2,.ow true cQ,.y s6,.un,.un]:SL K)) CJ aM))))) (λs7=>(zT (λs5:Int=>([.z q0,.z q1,.z q2,.ow true cQ,.y s5,.un,.un]:SL K)) s7 aM))) (zT (λs5:Int=>([.z q0,.z q1,.z q2,.ow true cQ,.y s5,.un,.un]:SL K)) j5 aM)) (λs4=>(zM (wK (n:=true) (L:=(λqy:LI×Int=>([.z q0,.z q1,.z q2,.ow true qy.1,.y qy.2,.un,.un]:SL K))) (cQ,s4) aM (xS (zE 1 rfl)) (λqy=>(zW 5 rfl rfl)) (λqy x12=>(zL (zZ true 6 rfl rfl (esc (zN (zH (esc (zE 0 rfl)) (zH (esc (xY (zE 5 rfl) (zJ 1))) zQ))))) (λCK=>(zL (wT (yD (md:=.hp) (Jg (zE 0 rfl) (XQ (zJ 10) (zJ 18)))) (zL (zZ true 6 rfl rfl (esc (zE 4 rfl))) (λCN=>(zT (λrC:Int=>([.z q0,.z q1,.z q2,.ow true qy.1,.y qy.2,.y x12,.y rC]:SL K)) CN aM))) (zT (λrC:Int=>([.z q0,.z q1,.z q2,.ow true qy.1,.y qy.2,.y x12,.y rC]:SL K)) CK aM)) (λuz=>(zL (wT (yD (md:=.hp) (Jf (wN (zE 6 rfl) (zJ 6)) (zE 2 rfl))) (zL (wO 3 rfl rfl (esc (zE 5 rfl))) (λtu=>(zT (λsV:LI=>([.z q0,.z q1,.z q2,.ow true sV,.y qy.2,.y x12,.y uz]:SL K)) tu aM))) (zT (λsV:LI=>([.z q0,.z q1,.z q2,.ow true sV,.y qy.2,.y x12,.y uz]:SL K)) qy.1 aM)) (λqM=>(zL (zZ true 4 rfl rfl (esc (Bt (zE 4 rfl) (zJ 6)))) (λtD=>(zT (λqy:LI×Int=>([.z q0,.z q1,.z q2,.ow true qy.1,.y qy.2,.un,.un]:SL K)) (qM,tD) aM))))))))))) (λcu=>(FW 3 rfl rfl))))))))) (by unfold uU;simp only[bnd])
def TQ(q0:Int)(q1:Int):Option (List LI):=(some (([]:List LI))).bind λCP=>(gZ q0 (4:Int)).bind λj5=>(((cF q0 (4:Int)).bind λa6=>wV a6).bind λxs=>xH (λ(s3:Int×(List LI)) (x5:Int)=>(some ([]:LI)).bind λCQ=>(((uC q0 ((400:Int)+x5)).bind λa9=>cF a9 (5:Int)).bind λb10=>aV ([(1:Int),(2:Int),(2:Int),(3:Int),(6:Int)]) b10).bind λmz=>((wV q1).bind λxs=>xH (λ(cu:LI×Int) (rR:Int)=>(((((((((mulM (61:Int) x5).bind λTz=>some ((500:Int)+Tz)).bind λa16=>some (a16+rR)).bind λa18=>some ((a18,()))).bind λTV=>some (q0,TV)).bind λz17=>uC z17.1 z17.2.1).bind λa20=>cF a20 (6:Int)).bind λa21=>some (decide (a21<mz))).bind λa22=>some (if a22=true then(1:Int) else 0)).bind λCT=>(((pQ (10:Int) (18:Int)).bind λTX=>some (decide (TX<=q0))).bind λb=>if b=true then(cF cu.2 (2:Int)).bind λCV=>some CV else some CT).bind λDK=>(if(decide (DK=(1:Int)))=true then(push cu.1 rR).bind λtE=>some tE else some cu.1).bind λNz=>(gZ cu.2 (2:Int)).bind λtH=>some (Nz,tH)) xs (CQ,s3.1)).bind λs12=>((if(decide (s12.1=([]:LI)))=true then((pQ (10:Int) (18:Int)).bind λZJ=>some (decide (q0<ZJ))).bind λZK=>if ZK=true then((uC q0 ((450:Int)+x5)).bind λa32=>cF a32 (8:Int)).bind λa33=>some (decide ((0:Int)<a33)) else some false else some false).bind λb=>if b=true then(((uC q0 ((460:Int)+x5)).bind λa38=>cF a38 q1).bind λa39=>some (a39::([]))).bind λtK=>some tK else some s12.1).bind λZL=>(push s3.2 ZL).bind λtL=>some (s12.2,tL)) xs (j5,CP)).bind λs4=>some s4.2
theorem j6:ak ["_law_cell","_law_many","_law_fair","_law_rest","_law_k","_law_some","_law_way","_law_stand","_law_one"] ["_law_cell","_law_many"] (zI iy):=fsc
abbrev zFv(K:PySem.W.Frag):Sp:=cj K false (λa:Int×Int×Unit=>([.z a.1,.z a.2.1]:SL K)) (λa=>TQ a.1 a.2.1)
theorem zJg(F:aU K "_law_fair_by" "_law_fair_by" iy f fd)(B:Bl K mg)(bN:bC P w K mg base k "_law_mix" ["_law_cell","_law_k"] (V9 K)):aq P w K mg base aO (k+1) f fd ["_law_cell","_law_many"] (zFv K):=by
 refine yF F j6 (λ_=>rfl) (λ_=>rfl) λcdv A outer s H E hr=>?_
 have nd:=j6.nd
 refine⟨_,(zB (yN 2 nd (wZ zF)) (zB (yN 3 nd (zY Am (pv 0) zK)) (zB (xD aau rfl (yZ rfl B.range (zA (zY wL (pv 0) zK) zF)) (bH 4 nd) (zB (yN 5 nd (wZ zF)) (zB (yN 6 nd (yV (bx K) (wZ (zA zK (zA zK (zA zK (zA zK (zA zK zF)))))) (zY wL (yB bN hr (zA (pv 0) (zA (zY xX zK (pv 4)) zF))) zK) (λ_ _=>rfl))) (zB (xD aau rfl (yZ rfl B.range (zA (pv 1) zF)) (bH 7 nd) (zB (yN 8 nd (vL zR4 rfl B.int X4 (zA (Dn Es (zY wL (yB bN hr (zA (pv 0) (zA (zY xX (zY xX zK (zY Ku zK (pv 4))) (pv 7)) zF))) zK) (pv 6) (aG _)) zF))) (zB (yP (yC IK (pv 0) (zY WX zK zK) (aG _)) (zB (yN 8 nd (zY wL (pv 3) zK)) zG) zG) (zB (yP (yC (vW K Int hr) (pv 8) zK (aG _)) (zB (yH (xg K aa3 aa7 aa8 wH (pv 5) (zA (pv 7) zF))) zG) zG) (zB (yN 3 nd (zY Am (pv 3) zK)) zG))))) (zB (yP (PW.pt (pw_and (yC (vW K LI hr) (pv 5) (wZ zF) (aG _)) (pw_and (yC Es (pv 0) (zY WX zK zK) (aG _)) (pw_and1 (yC QF (zY wL (yB bN hr (zA (pv 0) (zA (zY xX zK (pv 4)) zF))) zK) zK (aG _)))))) (zB (yN 5 nd (wZ (zA (zY wL (yB bN hr (zA (pv 0) (zA (zY xX zK (pv 4)) zF))) (pv 1)) zF))) zG) zG) (zB (yH (xg K aa3 aa7 aa8 wH (pv 2) (zA (pv 5) zF))) zG)))))) (zB (zU (pv 2)) zG)))),?_⟩
 rintro Fa ⟨q0,q1,⟨⟩⟩
 exact SB.of (zM (uP true 2 rfl rfl (uQ (α:=LI))) (λCP=>(zM (zZ true 3 rfl rfl (esc (Bt (zE 0 rfl) (zJ 4)))) (λj5=>(zM (wK (n:=true) (L:=(λs3:Int×(List LI)=>([.z q0,.z q1,.ow true s3.2,.y s3.1,.un,.un,.un,.un,.un]:SL K))) (j5,CP) aM (xS (wN (zE 0 rfl) (zJ 4))) (λs3=>(zW 4 rfl rfl)) (λs3 x5=>(zL (uP true 5 rfl rfl (uQ (α:=Int))) (λCQ=>(zL (zZ true 6 rfl rfl (esc (esc (wI (Ve (uF (esc (zJ 1)) (uF (esc (zJ 2)) (uF (esc (zJ 2)) (uF (esc (zJ 3)) (uF (esc (zJ 6)) Vd))))) (λa h=>aaz ((xq (xq (xq (xq (xq Vn))))) a h) (by decide))).ex (wN (zN (zH (esc (zE 0 rfl)) (zH (esc (xY (zJ 400) (zE 4 rfl))) zQ))) (zJ 5)))))) (λmz=>(zL (wK (n:=true) (L:=(λcu:LI×Int=>([.z q0,.z q1,.ow true s3.2,.y cu.2,.y x5,.ow true cu.1,.y mz,.un,.un]:SL K))) (CQ,s3.1) aM (xS (zE 1 rfl)) (λcu=>(zW 7 rfl rfl)) (λcu rR=>(zL (zZ true 8 rfl rfl (esc (Gs (Jf (wN (zN (zH (esc (zE 0 rfl)) (zH (esc (xY (xY (zJ 500) (Li (zJ 61) (zE 4 rfl))) (zE 7 rfl))) zQ))) (zJ 6)) (zE 6 rfl))))) (λCT=>(zL (wT (yD (md:=.hp) (Jg (zE 0 rfl) (XQ (zJ 10) (zJ 18)))) (zL (zZ true 8 rfl rfl (esc (wN (zE 3 rfl) (zJ 2)))) (λCV=>(zT (λNK:Int=>([.z q0,.z q1,.ow true s3.2,.y cu.2,.y x5,.ow true cu.1,.y mz,.y rR,.y NK]:SL K)) CV aM))) (zT (λNK:Int=>([.z q0,.z q1,.ow true s3.2,.y cu.2,.y x5,.ow true cu.1,.y mz,.y rR,.y NK]:SL K)) CT aM)) (λDK=>(zL (wT (yD (md:=.hp) (vX (zE 8 rfl) (zJ 1))) (zL (wO 5 rfl rfl (esc (zE 7 rfl))) (λtE=>(zT (λZM:LI=>([.z q0,.z q1,.ow true s3.2,.y cu.2,.y x5,.ow true ZM,.y mz,.y rR,.y DK]:SL K)) tE aM))) (zT (λZM:LI=>([.z q0,.z q1,.ow true s3.2,.y cu.2,.y x5,.ow true ZM,.y mz,.y rR,.y DK]:SL K)) cu.1 aM)) (λNz=>(zL (zZ true 3 rfl rfl (esc (Bt (zE 3 rfl) (zJ 2)))) (λtH=>(zT (λcu:LI×Int=>([.z q0,.z q1,.ow true s3.2,.y cu.2,.y x5,.ow true cu.1,.y mz,.un,.un]:SL K)) (Nz,tH) aM))))))))))) (λs12=>(zL (wT (Rm (yD (md:=.hp) (vX (Dt 5 rfl) (uQ (α:=Int)).ex)) (Rm (yD (md:=.hp) (Jf (zE 0 rfl) (XQ (zJ 10) (zJ 18)))) (yD (md:=.hp) (Rw (wN (zN (zH (esc (zE 0 rfl)) (zH (esc (xY (zJ 450) (zE 4 rfl))) zQ))) (zJ 8)) (zJ 0))))) (zL (Yb (sl2:=[.z q0,.z q1,.ow true s3.2,.y s12.2,.y x5,.un,.y mz,.un,.un]) aM (uP true 5 rfl rfl (Ve (uF (esc (wN (zN (zH (esc (zE 0 rfl)) (zH (esc (xY (zJ 460) (zE 4 rfl))) zQ))) (zE 1 rfl))) Vd) (λa h=>aaz ((xq Vn) a h) (by decide))))) (λtK=>(zT (λZP:LI=>([.z q0,.z q1,.ow true s3.2,.y s12.2,.y x5,.ow true ZP,.y mz,.un,.un]:SL K)) tK aM))) (zT (λZP:LI=>([.z q0,.z q1,.ow true s3.2,.y s12.2,.y x5,.ow true ZP,.y mz,.un,.un]:SL K)) s12.1 aM)) (λZL=>(zL (Yb (sl2:=[.z q0,.z q1,.ow true s3.2,.y s12.2,.y x5,.y ZL,.y mz,.un,.un]) aM (wO 2 rfl rfl (yK 5 rfl))) (λtL=>(zT (λs3:Int×(List LI)=>([.z q0,.z q1,.ow true s3.2,.y s3.1,.un,.un,.un,.un,.un]:SL K)) (s12.2,tL) aM))))))))))))) (λs4=>(FW 2 rfl rfl))))))) (by unfold TQ;simp only[bnd])
def uL(q0:Int):Option Int:=((cF q0 (8:Int)).bind λa1=>some (decide (a1=(5:Int)))).bind λb=>if b=true then((gZ q0 (8:Int)).bind λa2=>cF a2 (12:Int)).bind λb3=>some ((1:Int)+b3) else((gZ q0 (8:Int)).bind λa4=>cF a4 (8:Int)).bind λb5=>some ((1:Int)+b5)
theorem jD:ak ["_law_cell"] ["_law_cell"] (zI gj):=fsc
abbrev zD2(K:PySem.W.Frag):Sp:=cj K false (λa:Int×Unit=>([.z a.1]:SL K)) (λa=>uL a.1)
theorem zHr(F:aU K "_law_small_by" "_law_small_by" gj f fd)(B:Bl K mg):aq P w K mg base aO (k+1) f fd ["_law_cell"] (zD2 K):=by
 refine yF F jD (λ_=>rfl) (λ_=>rfl) λcdv A outer s H E hr=>?_
 have nd:=jD.nd
 refine⟨_,(zB (yP (yC (vW K Int hr) (zY wL (pv 0) zK) zK (aG _)) (zB (zU (zY xX zK (zY wL (zY Am (pv 0) zK) zK))) zG) zG) (zB (zU (zY xX zK (zY wL (zY Am (pv 0) zK) zK))) zG)),?_⟩
 rintro Fa ⟨q0,⟨⟩⟩
 exact SB.of (vJ (yD (md:=.hp) (vX (wN (zE 0 rfl) (zJ 8)) (zJ 5))) (zX (esc (xY (zJ 1) (wN (Bt (zE 0 rfl) (zJ 8)) (zJ 12))))) (zX (esc (xY (zJ 1) (wN (Bt (zE 0 rfl) (zJ 8)) (zJ 8)))))) (by unfold uL;simp only[bnd])
def Qd(q0:List LI)(q1:LI)(q2:Int):Option (Dc Bool):=(some [((abg q2:Key),true)]).bind λtM=>(some ([q2])).bind λnO=>(FQ (λs3:(List (Key×Bool))×LI=>some (!decide (s3.2=([]:LI)))) (λs3:(List (Key×Bool))×LI=>((s3.2.getLast?.bind λy=>aV q0 y).bind λxs=>xH (λ(s5:(List (Key×Bool))×LI) (x7:Int)=>((if(decide (x7∈q1))=true then some (!(dw (Dc.mk s5.1).kv x7).isSome) else some false).bind λb=>if b=true then(dput s5.1 x7 true).bind λqz=>(push s5.2 x7).bind λlE=>some (qz,lE) else some (s5.1,s5.2)).bind λs8=>some (s8.1,s8.2)) xs (s3.1,s3.2.dropLast)).bind λs6=>some (s6.1,s6.2)) fuel (tM,nO)).bind λs4=>some (Dc.mk s4.1)
theorem nQ:ak ["_law_steps","_law_keys","_law_stand","_law_found","_law_waiting","_law_other"] ["_law_steps","_law_keys","_law_stand"] (zI lu):=fsc
abbrev zKd(K:PySem.W.Frag):Sp:=cj K false (λa:((List LI))×LI×Int×Unit=>([.z a.1,.z a.2.1,.z a.2.2.1]:SL K)) (λa=>Qd a.1 a.2.1 a.2.2.1)
theorem zN5(F:aU K "_law_reach" "_law_reach" lu f fd)(B:Bl K mg):aq P w K mg base aO (k+1) f fd ["_law_steps","_law_keys","_law_stand"] (zKd K):=by
 refine yF F nQ (λ_=>rfl) (λ_=>rfl) λcdv A outer s H E hr=>?_
 have nd:=nQ.nd
 have hu:=Ra hr
 refine⟨_,(zB (yN 3 nd (zTl (pv 2) oE)) (zB (yN 4 nd (wZ (zA (pv 2) zF))) (zB (zL8 aau (yC (O9 K LI hr) (pv 4) (wZ zF) (aG _)) (zB (xD aau rfl (yI K (yV (bx K) (pv 0) (zVg K aa3 PySem.F.slot_list_pop PySem.F.type_list_pop K1 (pv 4)) (λ_ _=>rfl))) (bH 5 nd) (zB (yP (PW.pt (pw_and (yC (Lq K) (pv 5) (pv 1) (by with_unfolding_all rfl)) (pw_and1 (v7 (zI7 hu (pv 5) (pv 3)))))) (zB (U8 hu (pv 3) (pv 5) oE rfl) (zB (yH (xg K aa3 aa7 aa8 wH (pv 4) (zA (pv 5) zF))) zG)) zG) zG)) zG)) (zB (zU (pv 3)) zG)))),?_⟩
 rintro Fa ⟨q0,q1,q2,⟨⟩⟩
 exact SB.of (zM (zS3 3 2 rfl rfl rfl) (λtM=>(zM (uP true 4 rfl rfl (Ve (uF (esc (zE 2 rfl)) Vd) (λa h=>aaz ((xq Vn) a h) (by decide)))) (λnO=>(zM (zLx (L:=(λs3:(List (Key×Bool))×LI=>([.z q0,.z q1,.z q2,.od (s3.1:List (Key×Bool)),.ow true s3.2,.un]:SL K))) fuel (tM,nO) aM (λs3=>(yD (md:=.hp) (O_ (Dt 4 rfl) (uQ (α:=Int)).ex))) (λs3=>(zL (Gu (n:=false) (L:=(λs5:(List (Key×Bool))×LI=>([.z q0,.z q1,.z q2,.od (s5.1:List (Key×Bool)),.ow true s5.2,.un]:SL K))) (s3.1,s3.2.dropLast) (Le.eq (Le.eq (Le.eq (Le.eq (Le.eq (Le.un Le.nil)))))) (zUk 4 rfl rfl (yK 0 rfl)) (λs5=>(zW 5 rfl rfl)) (λs5 x7=>(zL (wT (Rm (yD (md:=.hp) (Ry (zE 5 rfl) (zD 1 rfl))) (aR (md:=.hp) (zJu (zE 5 rfl) (Vt 3 rfl)))) (zL (Yn 3 rfl rfl (esc (oM true)) (zE 5 rfl)) (λqz=>(zL (wO 4 rfl rfl (esc (zE 5 rfl))) (λlE=>(zT (λs9:(List (Key×Bool))×LI=>([.z q0,.z q1,.z q2,.od (s9.1:List (Key×Bool)),.ow true s9.2,.z x7]:SL K)) (qz,lE) aM))))) (zT (λs9:(List (Key×Bool))×LI=>([.z q0,.z q1,.z q2,.od (s9.1:List (Key×Bool)),.ow true s9.2,.z x7]:SL K)) (s5.1,s5.2) aM)) (λs8=>(zT (λs5:(List (Key×Bool))×LI=>([.z q0,.z q1,.z q2,.od (s5.1:List (Key×Bool)),.ow true s5.2,.un]:SL K)) (s8.1,s8.2) aM))))) (λs6=>(zT (λs3:(List (Key×Bool))×LI=>([.z q0,.z q1,.z q2,.od (s3.1:List (Key×Bool)),.ow true s3.2,.un]:SL K)) (s6.1,s6.2) aM))))) (λs4=>(Gq 3 rfl))))))) (by unfold Qd;simp only[bnd])
def TY(q0:Int)(q1:Int):Option Str:=(some ("abcdefghijklmnopqrstuvwxyz":Str)).bind λcQ=>((cF q0 (8:Int)).bind λb3=>some ((1:Int)+b3)).bind λj7=>(some ("":Str)).bind λCW=>((wV j7).bind λxs=>xH (λ(s5:Str) (x7:Int)=>((gZ q0 (64:Int)).bind λa9=>(mulM x7 x7).bind λb10=>some (a9+b10)).bind λV_=>((((gZ q0 (8:Int)).bind λa11=>cF a11 j7).bind λZC=>some (decide (x7=ZC))).bind λb=>if b=true then(some (V_+q1)).bind λNP=>some NP else some V_).bind λoF=>(((cF oF (26:Int)).bind λT3=>PN cQ T3).bind λG_=>q_ s5 G_).bind λnU=>some nU) xs CW).bind λs6=>(if(decide (s6∈(["all","not","both","either","somenext","eachnext","sometill","eachtill","someever","eachever"]:List Str)))=true then((BZ s6 (1:Int)).bind λa22=>q_ a22 ("q":Str)).bind λnY=>some nY else some s6).bind λqM=>some qM
theorem j8:ak ["_law_cell","_law_k","_law_some","_law_size","_law_word","_law_place","_law_at"] ["_law_cell","_law_k"] (zI iz):=fsc
abbrev zFs(K:PySem.W.Frag):Sp:=cj K false (λa:Int×Int×Unit=>([.z a.1,.z a.2.1]:SL K)) (λa=>TY a.1 a.2.1)
theorem zJd(F:aU K "_law_word_by" "_law_word_by" iz f fd)(B:Bl K mg):aq P w K mg base aO (k+1) f fd ["_law_cell","_law_k"] (zFs K):=by
 refine yF F j8 (λ_=>rfl) (λ_=>rfl) λcdv A outer s H E hr=>?_
 have nd:=j8.nd
 refine⟨_,(zB (yN 2 nd xK) (zB (yN 3 nd (zY xX zK (zY wL (pv 0) zK))) (zB (yN 4 nd xK) (zB (xD aau rfl (yZ rfl B.range (zA (pv 3) zF)) (bH 5 nd) (zB (yN 6 nd (zY xX (zY Am (pv 0) zK) (zY Ku (pv 5) (pv 5)))) (zB (yP (yC (vW K Int hr) (pv 5) (zY wL (zY Am (pv 0) zK) (pv 3)) (aG _)) (zB (yN 6 nd (zY xX (pv 6) (pv 1))) zG) zG) (zB (yN 4 nd (zY zQd (pv 4) (M5 (pv 2) (zY wL (pv 6) zK) (λ_ _=>rfl)))) zG)))) (zB (yP (yC (Lq K) (pv 4) (uh (zA xK (zA xK (zA xK (zA xK (zA xK (zA xK (zA xK (zA xK (zA xK (zA xK zF))))))))))) (by with_unfolding_all rfl)) (zB (yN 4 nd (zY zQd (zTi M4 (pv 4) Fi (Fj zK)) xK)) zG) zG) (zB (zU (pv 4)) zG)))))),?_⟩
 rintro Fa ⟨q0,q1,⟨⟩⟩
 exact SB.of (zM (zZ true 2 rfl rfl (esc (K8 "abcdefghijklmnopqrstuvwxyz"))) (λcQ=>(zM (zZ true 3 rfl rfl (esc (xY (zJ 1) (wN (zE 0 rfl) (zJ 8))))) (λj7=>(zM (zZ true 4 rfl rfl (esc (K8 ""))) (λCW=>(zM (wK (n:=true) (L:=(λs5:Str=>([.z q0,.z q1,.y cQ,.y j7,.y s5,.un,.un]:SL K))) CW aM (xS (zE 3 rfl)) (λs5=>(zW 5 rfl rfl)) (λs5 x7=>(zL (zZ true 6 rfl rfl (esc (xY (Bt (zE 0 rfl) (zJ 64)) (Li (zE 5 rfl) (zE 5 rfl))))) (λV_=>(zL (wT (yD (md:=.hp) (vX (zE 5 rfl) (wN (Bt (zE 0 rfl) (zJ 8)) (zE 3 rfl)))) (zL (zZ true 6 rfl rfl (esc (xY (zE 6 rfl) (zE 1 rfl)))) (λNP=>(zT (λjW:Int=>([.z q0,.z q1,.y cQ,.y j7,.y s5,.y x7,.y jW]:SL K)) NP aM))) (zT (λjW:Int=>([.z q0,.z q1,.y cQ,.y j7,.y s5,.y x7,.y jW]:SL K)) V_ aM)) (λoF=>(zL (zZ true 4 rfl rfl (esc (zRr (zE 4 rfl) (esc (M6 (zE 2 rfl) (wN (zE 6 rfl) (zJ 26))))))) (λnU=>(zT (λs5:Str=>([.z q0,.z q1,.y cQ,.y j7,.y s5,.un,.un]:SL K)) nU aM))))))))) (λs6=>(zM (wT (yD (md:=.hp) (zUi (["all","not","both","either","somenext","eachnext","sometill","eachtill","someever","eachever"]:List Str) (by decide) (zE 4 rfl))) (zL (zZ true 4 rfl rfl (esc (zRr (esc (G5 (zE 4 rfl) (zJ 1))) (K8 "q")))) (λnY=>(zT (λsV:Str=>([.z q0,.z q1,.y cQ,.y j7,.y sV,.un,.un]:SL K)) nY aM))) (zT (λsV:Str=>([.z q0,.z q1,.y cQ,.y j7,.y sV,.un,.un]:SL K)) s6 aM)) (λqM=>(zX (esc (zE 4 rfl))))))))))))) (by unfold TY;simp only[bnd])
def T4(q0:List LI)(q1:List LI):Option LI:=(Ad (q0.length:Int)).bind λbL=>((some bL).bind λxs=>yW (λ(x3:Int)=>some true) (λ(x3:Int)=>Qd q0 bL x3) xs).bind λb_=>(some ([]:LI)).bind λtQ=>((some bL).bind λxs=>xH (λ(s5:LI) (x7:Int)=>((((aV q0 x7).bind λxs=>yW (λ(x9:Int)=>(aV b_ x9).bind λb10=>some ((dw b10.kv x7).isSome)) (λ(x9:Int)=>some x9) xs).bind λa11=>some (a11.length:Int)).bind λa12=>some (decide ((0:Int)<a12))).bind λCZ=>((some q1).bind λxs=>xH (λ(oF:Bool) (DG:LI)=>((some DG).bind λxs=>yW (λ(x17:Int)=>(aV b_ x7).bind λG_=>some ((dw G_.kv x17).isSome)) (λ(x17:Int)=>some x17) xs).bind λJQ=>(if oF=true then(((some JQ).bind λxs=>yW (λ(x20:Int)=>(aV b_ x20).bind λb21=>some ((dw b21.kv x7).isSome)) (λ(x20:Int)=>some x20) xs).bind λa22=>some (a22.length:Int)).bind λa23=>some (decide ((0:Int)<a23)) else some false).bind λtR=>some tR) xs CZ).bind λjW=>(if jW=true then(push s5 x7).bind λqC=>some qC else some s5).bind λDK=>some DK) xs tQ).bind λs6=>(some bL).bind λxs=>yW (λ(x27:Int)=>(((some s6).bind λxs=>yW (λ(x28:Int)=>(aV b_ x27).bind λb29=>some ((dw b29.kv x28).isSome)) (λ(x28:Int)=>some x28) xs).bind λa30=>some (a30.length:Int)).bind λa31=>some (decide ((0:Int)<a31))) (λ(x27:Int)=>some x27) xs
theorem nZ:ak ["_law_steps","_law_fair","_law_every","_law_comes","_law_bases","_law_stand","_law_good","_law_some","_law_met"] ["_law_steps","_law_fair"] (zI lA):=fsc
abbrev zKf(K:PySem.W.Frag):Sp:=cj K false (λa:((List LI))×((List LI))×Unit=>([.z a.1,.z a.2.1]:SL K)) (λa=>T4 a.1 a.2.1)
theorem zN7(F:aU K "_law_alive" "_law_alive" lA f fd)(B:Bl K mg)(lF:bC P w K mg base k "_law_reach" ["_law_steps","_law_keys","_law_stand"] (zKd K)):aq P w K mg base aO (k+1) f fd ["_law_steps","_law_fair"] (zKf K):=by
 refine yF F nZ (λ_=>rfl) (λ_=>rfl) λcdv A outer s H E hr=>?_
 have nd:=nZ.nd
 have hu:=Ra hr
 refine⟨_,(zB (yN 2 nd (YS rfl rfl B.list rfl B.range (zA (zO (wS K) rfl B.len aa4 (zA (pv 0) zF)) zF))) (zB (yN 3 nd (wA (own:=["_law_stand"]) (ix:=[0,2]) rfl rfl rfl (yI K (pv 2)) (λC s H fp=>yJ (i:=0) (show(["_law_stand","_law_steps","_law_every"]:List Str).Nodup from by decide +kernel) rfl (Or.inl rfl)) (λC s H fp=>wX) (λC s H fp=>(yB lF hr (zA (pv 1) (zA (pv 2) (zA (pv 0) zF))))))) (zB (yN 4 nd (wZ zF)) (zB (xD aau rfl (yI K (pv 2)) (bH 5 nd) (zB (yN 6 nd (Dn QF (zO (wS K) rfl B.len aa4 (zA (wA (own:=["_law_other"]) (ix:=[5,3]) rfl rfl rfl (yI K (yV (bx K) (pv 0) (pv 5) (λ_ _=>rfl))) (λC s H fp=>yJ (i:=0) (show(["_law_other","_law_stand","_law_comes"]:List Str).Nodup from by decide +kernel) rfl (Or.inl rfl)) (λC s H fp=>vZ (v7 (OJ hu (pv 1) (yV (bx K) (pv 2) (pv 0) (λ_ _=>rfl))))) (λC s H fp=>(pv 0))) zF)) zK (aG _))) (zB (xD aau rfl (yI K (pv 1)) (bH 7 nd) (zB (Dr (i:=8) (own:=["_law_other"]) (ix:=[3,5]) nd rfl rfl rfl rfl rfl (yI K (pv 7)) (λC s H fp=>yJ (i:=0) (show(["_law_other","_law_comes","_law_stand"]:List Str).Nodup from by decide +kernel) rfl (Or.inl rfl)) (λC s H fp=>vZ (v7 (OJ hu (pv 0) (yV (bx K) (pv 1) (pv 2) (λ_ _=>rfl))))) (λC s H fp=>(pv 0))) (zB (yN 6 nd (Kc (pv 6) (Oq (Dn QF (zO (wS K) rfl B.len aa4 (zA (wA (own:=["_law_other"]) (ix:=[5,3]) rfl rfl rfl (yI K (pv 8)) (λC s H fp=>yJ (i:=0) (show(["_law_other","_law_stand","_law_comes"]:List Str).Nodup from by decide +kernel) rfl (Or.inl rfl)) (λC s H fp=>vZ (v7 (OJ hu (pv 1) (yV (bx K) (pv 2) (pv 0) (λ_ _=>rfl))))) (λC s H fp=>(pv 0))) zF)) zK (aG _))))) zG))) (zB (yP (yS (pv 6)) (zB (yH (xg K aa3 aa7 aa8 wH (pv 4) (zA (pv 5) zF))) zG) zG) zG)))) (zB (zU (wA (own:=["_law_stand"]) (ix:=[4,3]) rfl rfl rfl (yI K (pv 2)) (λC s H fp=>yJ (i:=0) (show(["_law_stand","_law_bases","_law_comes"]:List Str).Nodup from by decide +kernel) rfl (Or.inr rfl)) (λC s H fp=>vZ (yC QF (zO (wS K) rfl B.len aa4 (zA (wA (own:=["_law_base"]) (ix:=[2,0]) rfl rfl rfl (yI K (pv 1)) (λC s H fp=>yJ (i:=0) (show(["_law_base","_law_comes","_law_stand"]:List Str).Nodup from by decide +kernel) rfl (Or.inl rfl)) (λC s H fp=>vZ (v7 (OJ hu (pv 0) (yV (bx K) (pv 1) (pv 2) (λ_ _=>rfl))))) (λC s H fp=>(pv 0))) zF)) zK (aG _))) (λC s H fp=>(pv 0)))) zG))))),?_⟩
 rintro Fa ⟨q0,q1,⟨⟩⟩
 exact SB.of (zM (zZ true 2 rfl rfl (YW (uO (zD 0 rfl))).ex) (λbL=>(zM (zZ true 3 rfl rfl (yR (n:=true) (i_:=[.un,.z q0,.y bL]) (no:=1) (ix:=[0,2]) rfl rfl (yL (yK 2 rfl)) (zW 0 rfl rfl) (λx3=>sy) (λx3=>(zN (zH (zD 1 rfl) (zH (zD 2 rfl) (zH (esc (zE 0 rfl)) zQ))))) (λx3=>cT)).ex) (λb_=>(zM (uP true 4 rfl rfl (uQ (α:=Int))) (λtQ=>(zM (wK (n:=true) (L:=(λs5:LI=>([.z q0,.z q1,.y bL,.y b_,.ow true s5,.un,.un,.un,.un]:SL K))) tQ aM (yL (yK 2 rfl)) (λs5=>(zW 5 rfl rfl)) (λs5 x7=>(zL (zZ true 6 rfl rfl (esc (Rw (uO (yR (n:=false) (i_:=[.un,.y x7,.y b_]) (no:=1) (ix:=[5,3]) rfl rfl (yL (wI (yK 0 rfl) (zE 5 rfl))) (zW 0 rfl rfl) (λx9=>(aR (md:=.hp) (RT (zE 1 rfl) (wI (zD 2 rfl) (zE 0 rfl))))) (λx9=>(esc (zE 0 rfl))) (λx9=>cT)).ex) (zJ 0)))) (λCZ=>(zL (wK (n:=false) (L:=(λoF:Bool=>([.z q0,.z q1,.y bL,.y b_,.ow true s5,.y x7,.y oF,.un,.un]:SL K))) CZ aM (yL (yK 1 rfl)) (λoF=>(zW 7 rfl rfl)) (λoF DG=>(zL (zZ true 8 rfl rfl (yR (n:=false) (i_:=[.un,.y b_,.y x7]) (no:=1) (ix:=[3,5]) rfl rfl (yL (yK 7 rfl)) (zW 0 rfl rfl) (λx17=>(aR (md:=.hp) (RT (zE 0 rfl) (wI (zD 1 rfl) (zE 2 rfl))))) (λx17=>(esc (zE 0 rfl))) (λx17=>cT)).ex) (λJQ=>(zL (zZ true 6 rfl rfl (esc (K9 (zE 6 rfl) (Rw (uO (yR (n:=true) (i_:=[.un,.y x7,.y b_]) (no:=1) (ix:=[5,3]) rfl rfl (yL (yK 8 rfl)) (zW 0 rfl rfl) (λx20=>(aR (md:=.hp) (RT (zE 1 rfl) (wI (zD 2 rfl) (zE 0 rfl))))) (λx20=>(esc (zE 0 rfl))) (λx20=>cT)).ex) (zJ 0))))) (λtR=>(zT (λoF:Bool=>([.z q0,.z q1,.y bL,.y b_,.ow true s5,.y x7,.y oF,.un,.un]:SL K)) tR aM))))))) (λjW=>(zL (wT (aR (md:=.hp) (zE 6 rfl)) (zL (wO 4 rfl rfl (esc (zE 5 rfl))) (λqC=>(zT (λNK:LI=>([.z q0,.z q1,.y bL,.y b_,.ow true NK,.y x7,.y jW,.un,.un]:SL K)) qC aM))) (zT (λNK:LI=>([.z q0,.z q1,.y bL,.y b_,.ow true NK,.y x7,.y jW,.un,.un]:SL K)) s5 aM)) (λDK=>(zT (λs5:LI=>([.z q0,.z q1,.y bL,.y b_,.ow true s5,.un,.un,.un,.un]:SL K)) DK aM))))))))) (λs6=>(Ly (sl2:=[.z q0,.z q1,.y bL,.y b_,.y s6,.un,.un,.un,.un]) aM (zX (yR (n:=true) (i_:=[.un,.y s6,.y b_]) (no:=1) (ix:=[4,3]) rfl rfl (yL (yK 2 rfl)) (zW 0 rfl rfl) (λx27=>(yD (md:=.hp) (Rw (uO (yR (n:=true) (i_:=[.un,.y b_,.y x27]) (no:=1) (ix:=[2,0]) rfl rfl (yL (yK 1 rfl)) (zW 0 rfl rfl) (λx28=>(aR (md:=.hp) (RT (zE 0 rfl) (wI (zD 1 rfl) (zE 2 rfl))))) (λx28=>(esc (zE 0 rfl))) (λx28=>cT)).ex) (zJ 0)))) (λx27=>(esc (zE 0 rfl))) (λx27=>cT)).ex)))))))))) (by unfold T4;simp only[bnd])
def uB(cl:Hd->Addr)(q0:Int)(q1:List Str)(q2:List LI)(q3:Int):Option ((bh cl)×LI):=(Ad q3).bind λbL=>(cF q0 (9:Int)).bind λyw=>if(decide (yw=(0:Int)))=true then some (((bh.mk .all:bh cl),bL)) else if(decide (yw=(7:Int)))=true then((aV q1 (2:Int)).bind λa3=>some ((bh.mk (.mark a3):bh cl))).bind λa4=>some ((a4,([]:LI))) else if(decide (yw=(8:Int)))=true then(((aV q1 (2:Int)).bind λa5=>some ((bh.mk (.mark a5):bh cl))).bind λa6=>some ((bh.mk (.one 0 a6.t):bh cl))).bind λa7=>some (a7,bL) else(cF yw (2:Int)).bind λyx=>if(decide (yw<(5:Int)))=true then((aV q1 yx).bind λa9=>some ((bh.mk (.mark a9):bh cl))).bind λa10=>(aV q2 yx).bind λZx=>some (a10,Zx) else(((aV q1 yx).bind λa12=>some ((bh.mk (.mark a12):bh cl))).bind λa13=>some ((bh.mk (.one 0 a13.t):bh cl))).bind λa16=>((some bL).bind λxs=>yW (λ(u5:Int)=>(aV q2 yx).bind λTz=>some (!decide (u5∈Tz))) (λ(u5:Int)=>some u5) xs).bind λT3=>some (a16,T3)
theorem j9:ak ["_law_cell","_law_names","_law_sets","_law_many","_law_every","_law_way","_law_one"] ["_law_cell","_law_names","_law_sets","_law_many"] (zI iB):=fsc
abbrev zFu(K:PySem.W.Frag)(cl:Hd->Addr):Sp:=cj K false (λa:Int×(List Str)×((List LI))×Int×Unit=>([.z a.1,.z a.2.1,.z a.2.2.1,.z a.2.2.2.1]:SL K)) (λa=>uB cl a.1 a.2.1 a.2.2.1 a.2.2.2.1)
theorem zJf(F:aU K "_law_part_by" "_law_part_by" iB f fd)(B:Bl K mg)(I:lZ P w K mg base kS cl fi di)(hS:kS+1<=k):aq P w K mg base aO (k+1) f fd ["_law_cell","_law_names","_law_sets","_law_many"] (zFu K cl):=by
 refine yF F j9 (λ_=>rfl) (λ_=>rfl) λcdv A outer s H E hr=>?_
 have nd:=j9.nd
 refine⟨_,(zB (yN 4 nd (YS rfl rfl B.list rfl B.range (zA (pv 3) zF))) (zB (yN 5 nd (zY wL (pv 0) zK)) (zB (yP (yC (vW K Int hr) (pv 5) zK (aG _)) (zB (zU (uh (zA (zTk (I.ini.made .all) I.ini.iA (hr.mono hS) rfl I.ini.mA I.ini.bA .nil vV) (zA (pv 4) zF)))) zG) zG) (zB (yP (yC (vW K Int hr) (pv 5) zK (aG _)) (zB (zU (uh (zA (Fb (I.ini.made .mark) I.ini.iM (hr.mono hS) rfl I.ini.mM I.ini.bM .nil vV (zA (yV (bx K) (pv 1) zK (λ_ _=>rfl)) zF)) (zA (wZ zF) zF)))) zG) zG) (zB (yP (yC (vW K Int hr) (pv 5) zK (aG _)) (zB (zU (uh (zA (Fb (I.ini.made (.one 0)) (I.ini.i1 0) (hr.mono hS) rfl (I.ini.m1 0) (I.ini.b1 0) .nil vV (zA (Fb (I.ini.made .mark) I.ini.iM (hr.mono hS) rfl I.ini.mM I.ini.bM .nil vV (zA (yV (bx K) (pv 1) zK (λ_ _=>rfl)) zF)) zF)) (zA (pv 4) zF)))) zG) zG) (zB (yN 6 nd (zY wL (pv 5) zK)) (zB (yP (yC Es (pv 5) zK (aG _)) (zB (zU (uh (zA (Fb (I.ini.made .mark) I.ini.iM (hr.mono hS) rfl I.ini.mM I.ini.bM .nil vV (zA (yV (bx K) (pv 1) (pv 6) (λ_ _=>rfl)) zF)) (zA (vL (Jk K) rfl B.list Gj (zA (yV (bx K) (pv 2) (pv 6) (λ_ _=>rfl)) zF)) zF)))) zG) zG) (zB (zU (uh (zA (Fb (I.ini.made (.one 0)) (I.ini.i1 0) (hr.mono hS) rfl (I.ini.m1 0) (I.ini.b1 0) .nil vV (zA (Fb (I.ini.made .mark) I.ini.iM (hr.mono hS) rfl I.ini.mM I.ini.bM .nil vV (zA (yV (bx K) (pv 1) (pv 6) (λ_ _=>rfl)) zF)) zF)) (zA (wA (own:=["_law_stand"]) (ix:=[2,6]) rfl rfl rfl (yI K (pv 4)) (λC s H fp=>yJ (i:=0) (show(["_law_stand","_law_sets","_law_one"]:List Str).Nodup from by decide +kernel) rfl (Or.inl rfl)) (λC s H fp=>vZ (yC (X7 K) (pv 0) (yV (bx K) (pv 1) (pv 2) (λ_ _=>rfl)) (by with_unfolding_all rfl))) (λC s H fp=>(pv 0))) zF)))) zG)))))))),?_⟩
 rintro Fa ⟨q0,q1,q2,q3,⟨⟩⟩
 exact SB.of (zM (zZ true 4 rfl rfl (YW (zE 3 rfl)).ex) (λbL=>(zM (zZ true 5 rfl rfl (esc (wN (zE 0 rfl) (zJ 9)))) (λyw=>(vJ (yD (md:=.hp) (vX (zE 5 rfl) (zJ 0))) (zX (Lb (GZ (cl:=cl)) (yK 4 rfl))) (vJ (yD (md:=.hp) (vX (zE 5 rfl) (zJ 7))) (zX (Lb (V2 (cl:=cl) (esc (esc (wI (zD 1 rfl) (zJ 2))))) (uQ (α:=Int)).ex)) (vJ (yD (md:=.hp) (vX (zE 5 rfl) (zJ 8))) (zX (Lb (V3 0 (V2 (cl:=cl) (esc (esc (wI (zD 1 rfl) (zJ 2)))))) (yK 4 rfl))) (zM (zZ true 6 rfl rfl (esc (wN (zE 5 rfl) (zJ 2)))) (λyx=>(vJ (yD (md:=.hp) (Jf (zE 5 rfl) (zJ 5))) (zX (Lb (V2 (cl:=cl) (esc (esc (wI (zD 1 rfl) (zE 6 rfl))))) (Ji (wI (zD 2 rfl) (zE 6 rfl))).ex)) (zX (Lb (V3 0 (V2 (cl:=cl) (esc (esc (wI (zD 1 rfl) (zE 6 rfl)))))) (yR (n:=true) (i_:=[.un,.z q2,.y yx]) (no:=1) (ix:=[2,6]) rfl rfl (yL (yK 4 rfl)) (zW 0 rfl rfl) (λu5=>(yD (md:=.hp) (XS (zE 0 rfl) (wI (zD 1 rfl) (zE 2 rfl))))) (λu5=>(esc (zE 0 rfl))) (λu5=>cT)).ex)))))))))))) (by unfold uB;simp only[bnd])
def T5(q0:List (Bool×dZ))(q1:Int):Option Bool:=(if(!true)=true then some true else some (!decide ((q0.length:Int)=q1))).bind λb=>if b=true then some false else((some q0).bind λxs=>uN (λ(s1:Unit) (x3:Bool×dZ)=>(if(!true)=true then some true else if(!decide ((2:Int)=(2:Int)))=true then some true else some (!true)).bind λb=>if b=true then(some false).bind λb=>some (.rt b) else(if(!true)=true then some true else if(decide (x3.2.len<(1:Int)))=true then some true else some (!true)).bind λb=>if b=true then(some false).bind λb=>some (.rt b) else some (.nx ())) xs ()).bind λo=>o.els λs2=>some true
theorem n8:ak ["_law_found","_law_many","_law_pair"] ["_law_found","_law_many"] (zI lB):=fsc
abbrev zKe(K:PySem.W.Frag):Sp:=cj K false (λa:((List (Bool×dZ)))×Int×Unit=>([.z a.1,.z a.2.1]:SL K)) (λa=>T5 a.1 a.2.1)
theorem zN6(F:aU K "_law_pairs" "_law_pairs" lB f fd)(B:Bl K mg)(Cj:mg "str" = none)(qD:mg "tuple" = none):aq P w K mg base aO (k+1) f fd ["_law_found","_law_many"] (zKe K):=by
 refine yF F n8 (λ_=>rfl) (λ_=>rfl) λcdv A outer s H E hr=>?_
 have nd:=n8.nd
 refine⟨_,(zB (yP (PW.pt (pw_or (v8 (yS (zO (xL K (Ds (n:="list"))) rfl B.jw xM (zA (pv 0) (zA (Dm (v:=.ty "list") rfl B.list Gj rfl) zF))))) (pw_or1 (yC (O9 K Int hr) (zO (wS K) rfl B.len aa4 (zA (pv 0) zF)) (pv 1) (aG _))))) (zB (zU oE) zG) zG) (zB (xD aau rfl (yI K (pv 0)) (bH 2 nd) (zB (yP (PW.pt (pw_or (v8 (yS (zO (xL K (Ds (n:="tuple"))) rfl B.jw xM (zA (pv 2) (zA (Dm (v:=.ty "tuple") rfl qD zMy rfl) zF))))) (pw_or (yC (O9 K Int hr) (zO (wS K) rfl B.len aa4 (zA (pv 2) zF)) zK (aG _)) (pw_or1 (v8 (yS (zO (xL K (Ds (n:="bool"))) rfl B.jw xM (zA (yV (mK K) (pv 2) zK (λ_ _=>rfl)) (zA (Dm (v:=.ty "bool") rfl B.bool X5 rfl) zF))))))))) (zB (zU oE) zG) zG) (zB (yP (PW.pt (pw_or (v8 (yS (zO (xL K (Ds (n:="tuple"))) rfl B.jw xM (zA (yV (mK K) (pv 2) zK (λ_ _=>rfl)) (zA (Dm (v:=.ty "tuple") rfl qD zMy rfl) zF))))) (pw_or (yC Es (zO (wS K) rfl B.len aa4 (zA (yV (mK K) (pv 2) zK (λ_ _=>rfl)) zF)) zK (aG _)) (pw_or1 (v8 (yS (zO (xL K (Ds (n:="str"))) rfl B.jw xM (zA (yV (mK K) (yV (mK K) (pv 2) zK (λ_ _=>rfl)) zK (λ_ _=>rfl)) (zA (Dm (v:=.ty "str") rfl Cj zVu rfl) zF))))))))) (zB (zU oE) zG) zG) zG))) (zB (zU oE) zG))),?_⟩
 rintro Fa ⟨q0,q1,⟨⟩⟩
 exact SB.of (vJ (FN (w5 (aR (md:=.hp) (Du B.ll rfl (zD 0 rfl)))) (yD (md:=.hp) (O_ (uO (zD 0 rfl)) (zE 1 rfl)))) (zX (esc (oM false))) (Ro (Rr (n:=false) (L:=(λs1:Unit=>([.z q0,.z q1,.un]:SL K))) () aM (yL (yK 0 rfl)) (λs1=>(zW 2 rfl rfl)) (λs1 x3=>(Jd (FN (w5 (aR (md:=.hp) (Du JB rfl (zD 2 rfl)))) (FN (yD (md:=.hp) (O_ (GD (zD 2 rfl)) (zJ 2))) (w5 (aR (md:=.hp) (Du S7 rfl (esc (Lk (zD 2 rfl) (zJ 0)))))))) (zX (esc (oM false))) (Jd (FN (w5 (aR (md:=.hp) (Du JB rfl (XR (zD 2 rfl) (zJ 1))))) (FN (yD (md:=.hp) (Jf (Y8 (XR (zD 2 rfl) (zJ 1))) (zJ 1))) (w5 (aR (md:=.hp) (Du Jq rfl (esc (MN (f:=λr=>some r.word) 0 V4 (XR (zD 2 rfl) (zJ 1)) (zJ 0)))))))) (zX (esc (oM false))) (Rq (λs1:Unit=>([.z q0,.z q1,.un]:SL K)) () aM))))) (λs2=>(zX (esc (oM true)))))) (by unfold T5;simp only[bnd])
def uA(q0:dZ)(q1:List LI)(q2:Int)(q3:LI):Option Bool:=if(decide (q0.word=("none":Str)))=true then if(decide (q0.len=(1:Int)))=true then(((aV q1 q2).bind λxs=>yW (λ(x1:Int)=>some (decide (x1∈q3))) (λ(x1:Int)=>some x1) xs).bind λa2=>some (a2.length:Int)).bind λa3=>some (decide (a3=(0:Int))) else some false else(if(!decide (q0.word=("step":Str)))=true then some true else if(!decide (q0.len=(2:Int)))=true then some true else(((dZ.at1 q0).bind λa5=>some ((a5,()))).bind λz4=>Qc z4.1).bind λa6=>some (!a6)).bind λb=>if b=true then some false else((dZ.at1 q0).bind λa7=>(aV q1 q2).bind λb8=>some (decide (a7∈b8))).bind λZQ=>if ZQ=true then(dZ.at1 q0).bind λa9=>some (decide (a9∈q3)) else some false
theorem j_:ak ["_law_reason","_law_steps","_law_stand","_law_goal"] ["_law_reason","_law_steps","_law_stand","_law_goal"] (zI iC):=fsc
abbrev zFt(K:PySem.W.Frag):Sp:=cj K false (λa:dZ×((List LI))×Int×LI×Unit=>([.z a.1,.z a.2.1,.z a.2.2.1,.z a.2.2.2.1]:SL K)) (λa=>uA a.1 a.2.1 a.2.2.1 a.2.2.2.1)
theorem zJe(F:aU K "_law_stepped" "_law_stepped" iC f fd)(B:Bl K mg)(lG:bC P w K mg base k "_law_whole" ["_law_found"] (zKc K)):aq P w K mg base aO (k+1) f fd ["_law_reason","_law_steps","_law_stand","_law_goal"] (zFt K):=by
 refine yF F j_ (λ_=>rfl) (λ_=>rfl) λcdv A outer s H E hr=>?_
 have nd:=j_.nd
 refine⟨_,(zB (yP (yC (vW K Str hr) (yV (mK K) (pv 0) zK (λ_ _=>rfl)) xK (aG _)) (zB (zU (Kc (Dn (vW K Int hr) (zO (wS K) rfl B.len aa4 (zA (pv 0) zF)) zK (aG _)) (Oq (Dn (vW K Int hr) (zO (wS K) rfl B.len aa4 (zA (wA (own:=["_law_other"]) (ix:=[3]) rfl rfl rfl (yI K (yV (bx K) (pv 1) (pv 2) (λ_ _=>rfl))) (λC s H fp=>yJ (i:=0) (show(["_law_other","_law_goal"]:List Str).Nodup from by decide +kernel) rfl (Or.inl rfl)) (λC s H fp=>vZ (yC (Lq K) (pv 0) (pv 1) (by with_unfolding_all rfl))) (λC s H fp=>(pv 0))) zF)) zK (aG _))))) zG) zG) (zB (yP (PW.pt (pw_or (yC (O9 K Str hr) (yV (mK K) (pv 0) zK (λ_ _=>rfl)) xK (aG _)) (pw_or (yC (O9 K Int hr) (zO (wS K) rfl B.len aa4 (zA (pv 0) zF)) zK (aG _)) (pw_or1 (v8 (yS (yB lG hr (zA (yV (mK K) (pv 0) zK (λ_ _=>rfl)) zF)))))))) (zB (zU oE) zG) zG) (zB (zU (Kc (Dn (Lq K) (yV (mK K) (pv 0) zK (λ_ _=>rfl)) (yV (bx K) (pv 1) (pv 2) (λ_ _=>rfl)) (by with_unfolding_all rfl)) (Oq (Dn (Lq K) (yV (mK K) (pv 0) zK (λ_ _=>rfl)) (pv 3) (by with_unfolding_all rfl))))) zG))),?_⟩
 rintro Fa ⟨q0,q1,q2,q3,⟨⟩⟩
 exact SB.of (vJ (yD (md:=.hp) (vX (esc (MN (f:=λr=>some r.word) 0 V4 (zD 0 rfl) (zJ 0))) (K8 "none"))) (zX (esc (K9 (vX (Y8 (zD 0 rfl)) (zJ 1)) (vX (uO (yR (n:=false) (i_:=[.un,.z q3]) (no:=1) (ix:=[3]) rfl rfl (yL (wI (yK 1 rfl) (zE 2 rfl))) (zW 0 rfl rfl) (λx1=>(yD (md:=.hp) (Ry (zE 0 rfl) (zD 1 rfl)))) (λx1=>(esc (zE 0 rfl))) (λx1=>cT)).ex) (zJ 0))))) (vJ (FN (yD (md:=.hp) (O_ (esc (MN (f:=λr=>some r.word) 0 V4 (zD 0 rfl) (zJ 0))) (K8 "step"))) (FN (yD (md:=.hp) (O_ (Y8 (zD 0 rfl)) (zJ 2))) (w5 (aR (md:=.hp) (zN (zH (esc (esc (MN (f:=dZ.at1) 1 Y7 (zD 0 rfl) (zJ 1)))) zQ)))))) (zX (esc (oM false))) (zX (esc (K9 (Ry (esc (MN (f:=dZ.at1) 1 Y7 (zD 0 rfl) (zJ 1))) (wI (zD 1 rfl) (zE 2 rfl))) (Ry (esc (MN (f:=dZ.at1) 1 Y7 (zD 0 rfl) (zJ 1))) (zD 3 rfl))))))) (by unfold uA;simp only[bnd])
def Qe(q0:List (Bool×dZ))(q1:List LI)(q2:LI)(q3:Bool):Option Bool:=((T5 q0 (q1.length:Int)).bind λa1=>some (!a1)).bind λb=>if b=true then some false else((wV (q1.length:Int)).bind λxs=>uN (λ(s2:Unit) (x4:Int)=>(aV q0 x4).bind λv5=>((uA v5.2 q1 x4 q2).bind λa6=>some (!a6)).bind λb=>if b=true then(some false).bind λb=>some (.rt b) else if(!decide (v5.1=(decide ((decide (v5.2.word=("step":Str)))=q3))))=true then(some false).bind λb=>some (.rt b) else some (.nx ())) xs ()).bind λo=>o.els λs3=>some true
theorem pG:ak ["_law_found","_law_steps","_law_goal","_law_some","_law_stand","_law_truth","_law_reason"] ["_law_found","_law_steps","_law_goal","_law_some"] (zI mZ):=fsc
abbrev zM4(K:PySem.W.Frag):Sp:=cj K false (λa:((List (Bool×dZ)))×((List LI))×LI×Bool×Unit=>([.z a.1,.z a.2.1,.z a.2.2.1,.z a.2.2.2.1]:SL K)) (λa=>Qe a.1 a.2.1 a.2.2.1 a.2.2.2.1)
theorem zQg(F:aU K "_law_told" "_law_told" mZ f fd)(B:Bl K mg)(lH:bC P w K mg base k "_law_pairs" ["_law_found","_law_many"] (zKe K))(iU:bC P w K mg base k "_law_stepped" ["_law_reason","_law_steps","_law_stand","_law_goal"] (zFt K)):aq P w K mg base aO (k+1) f fd ["_law_found","_law_steps","_law_goal","_law_some"] (zM4 K):=by
 refine yF F pG (λ_=>rfl) (λ_=>rfl) λcdv A outer s H E hr=>?_
 have nd:=pG.nd
 refine⟨_,(zB (yP (v8 (yS (yB lH hr (zA (pv 0) (zA (zO (wS K) rfl B.len aa4 (zA (pv 1) zF)) zF))))) (zB (zU oE) zG) zG) (zB (xD aau rfl (yZ rfl B.range (zA (zO (wS K) rfl B.len aa4 (zA (pv 1) zF)) zF)) (bH 4 nd) (zB (Ov (yV (bx K) (pv 0) (pv 4) (λ_ _=>rfl)) (Iu rfl (xI (bH 5 nd) (xI (bH 6 nd) Ef)))) (zB (yP (v8 (yS (yB iU hr (zA (pv 6) (zA (pv 1) (zA (pv 4) (zA (pv 2) zF))))))) (zB (zU oE) zG) zG) (zB (yP (yC (O9 K Bool hr) (pv 5) (Dn (vW K Bool hr) (Dn (vW K Str hr) (yV (mK K) (pv 6) zK (λ_ _=>rfl)) xK (aG _)) (pv 3) (aG _)) (aG _)) (zB (zU oE) zG) zG) zG)))) (zB (zU oE) zG))),?_⟩
 rintro Fa ⟨q0,q1,q2,q3,⟨⟩⟩
 exact SB.of (vJ (w5 (aR (md:=.hp) (zN (zH (zD 0 rfl) (zH (esc (uO (zD 1 rfl))) zQ))))) (zX (esc (oM false))) (Ro (Rr (n:=true) (L:=(λs2:Unit=>([.z q0,.z q1,.z q2,.z q3,.un,.un,.un]:SL K))) () aM (xS (uO (zD 1 rfl))) (λs2=>(zW 4 rfl rfl)) (λs2 x4=>(Xw (zPn (n:=false) (wI (yK 0 rfl) (zE 4 rfl)) (Je 5 6 rfl rfl (λ_=>rfl) rfl)) (λv5=>(Jd (w5 (aR (md:=.hp) (zN (zH (zD 6 rfl) (zH (zD 1 rfl) (zH (esc (zE 4 rfl)) (zH (zD 2 rfl) zQ))))))) (zX (esc (oM false))) (Jd (yD (md:=.hp) (O_ (zE 5 rfl) (vX (vX (esc (MN (f:=λr=>some r.word) 0 V4 (zD 6 rfl) (zJ 0))) (K8 "step")) (zE 3 rfl)))) (zX (esc (oM false))) (Rq (λs2:Unit=>([.z q0,.z q1,.z q2,.z q3,.un,.un,.un]:SL K)) () aM))))))) (λs3=>(zX (esc (oM true)))))) (by unfold Qe;simp only[bnd])
def Wa(C:Addr)(cl:Hd->Addr)(q0:wu):Option Bool:=(((wD q0 (0:Int)).bind λa3=>some ((a3,()))).bind λz2=>uL z2.1).bind λmany1=>(uK q0 many1).bind λjM=>(((wD q0 (1:Int)).bind λa7=>some ((a7,(many1,())))).bind λz6=>TQ z6.1 z6.2.1).bind λrK=>(wD q0 (2:Int)).bind λlU=>((wV (3:Int)).bind λxs=>yW (λ(x10:Int)=>some true) (λ(x10:Int)=>((gZ lU (36:Int)).bind λa14=>some ((a14,(x10,())))).bind λz13=>TY z13.1 z13.2.1) xs).bind λnames9=>((wV (2:Int)).bind λxs=>yW (λ(rB:Int)=>some true) (λ(rB:Int)=>(((((((gZ lU (6:Int)).bind λa17=>some (a17+rB)).bind λa18=>cF a18 (6:Int)).bind λTV=>aV ([(3:Int),(5:Int),(1:Int),(4:Int),(2:Int),(6:Int)]) TV).bind λa21=>some ((a21,()))).bind λTF=>some (many1,TF)).bind λTX=>some (lU+rB,TX)).bind λDN=>uU DN.1 DN.2.1 DN.2.2.1) xs).bind λlJ=>((wV (2:Int)).bind λxs=>yW (λ(x25:Int)=>some true) (λ(x25:Int)=>(aV names9 x25).bind λa26=>(aV lJ x25).bind λZR=>some (a26,ZR)) xs).bind λmF=>(((some jM).bind λxs=>yW (λ(x29:LI)=>some true) (λ(x29:LI)=>some x29) xs).bind λa31=>((some rK).bind λxs=>yW (λ(x30:LI)=>some true) (λ(x30:LI)=>some x30) xs).bind λa32=>Ti C a31 (some mF) (some a32)).bind λfU=>(((wD q0 (3:Int)).bind λa35=>some ((a35,(names9,(lJ,(many1,())))))).bind λWb=>uB cl Wb.1 Wb.2.1 Wb.2.2.1 Wb.2.2.2.1).bind λC_=>(T4 jM rK).bind λiV=>((some iV).bind λxs=>yW (λ(x38:Int)=>some (decide (x38∈C_.2))) (λ(x38:Int)=>some x38) xs).bind λqF=>((some iV).bind λxs=>yW (λ(x40:Int)=>some (!decide (x40∈C_.2))) (λ(x40:Int)=>some x40) xs).bind λvg=>((wV (2:Int)).bind λxs=>uN (λ(Wc:Unit) (x43:Int)=>(JN fU ((bh.mk (.one 1 C_.1.t):bh cl))).bind λvh=>((Qe vh jM qF true).bind λa45=>some (!a45)).bind λb=>if b=true then(some false).bind λb=>some (.rt b) else(some ()).bind λHh=>((((JN fU ((bh.mk (.one 2 C_.1.t):bh cl))).bind λa48=>some ((a48,(jM,(vg,(false,())))))).bind λWd=>Qe Wd.1 Wd.2.1 Wd.2.2.1 Wd.2.2.2.1).bind λa49=>some (!a49)).bind λb=>if b=true then(some false).bind λb=>some (.rt b) else some (.nx ())) xs ()).bind λo=>o.els λs42=>some true
theorem Dd:ak ["_law_script","_law_many","_law_steps","_law_fair","_law_cell","_law_names","_law_sets","_law_marks","_law_machine","_law_part","_law_within","_law_living","_law_good","_law_bad","_law_turn","_law_found"] ["_law_script"] (zI pA):=fsc
abbrev T6(K:PySem.W.Frag)(C:Addr)(cl:Hd->Addr):Sp:=cj K false (λa:wu×Unit=>([.z a.1]:SL K)) (λa=>Wa C cl a.1)
theorem NQ(F:aU K "law" "law" pA f fd)(B:Bl K mg)(T:Cl K mg C)(I:lZ P w K mg base kS cl fi di)(hS:kS+1<=k0+1)(MK:Mk K C fI)(GI:aq P w K mg base aO k0 fI Wf ["self","steps","marks","fair"] (RZ K C (Ti C)))(ZS:Binds K Wf ["self","steps","marks","fair"] [])(lK:bC P w K mg base (k0+1) "_law_alive" ["_law_steps","_law_fair"] (zKf K))(aX:bC P w K mg base (k0+1) "_law_cell_at" ["_law_script","_law_k"] (ZD K))(iW:bC P w K mg base (k0+1) "_law_fair_by" ["_law_cell","_law_many"] (zFv K))(iY:bC P w K mg base (k0+1) "_law_part_by" ["_law_cell","_law_names","_law_sets","_law_many"] (zFu K cl))(jN:bC P w K mg base (k0+1) "_law_set_by" ["_law_cell","_law_many","_law_way"] (zGt K))(gB:bC P w K mg base (k0+1) "_law_small_by" ["_law_cell"] (zD2 K))(gC:bC P w K mg base (k0+1) "_law_steps_by" ["_law_script","_law_many"] (zD1 K))(kh:bC P w K mg base (k0+1) "_law_told" ["_law_found","_law_steps","_law_goal","_law_some"] (zM4 K))(iZ:bC P w K mg base (k0+1) "_law_word_by" ["_law_cell","_law_k"] (zFs K))(qG:bC P w K mg base (k0+1) "whys" ["machine","saying"] (zV4 K C cl)):aq P w K mg base aO ((k0+1)+1) f fd ["_law_script"] (T6 K C cl):=by
 refine yF F Dd (λ_=>rfl) (λ_=>rfl) λcdv A outer s H E hr=>?_
 have nd:=Dd.nd
 refine⟨_,(zB (yN 1 nd (yB gB hr (zA (yB aX hr (zA (pv 0) (zA zK zF))) zF))) (zB (yN 2 nd (yB gC hr (zA (pv 0) (zA (pv 1) zF)))) (zB (yN 3 nd (yB iW hr (zA (yB aX hr (zA (pv 0) (zA zK zF))) (zA (pv 1) zF)))) (zB (yN 4 nd (yB aX hr (zA (pv 0) (zA zK zF)))) (zB (yN 5 nd (wA (own:=["_law_k"]) (ix:=[4]) rfl rfl rfl (yZ rfl B.range (zA zK zF)) (λC s H fp=>yJ (i:=0) (show(["_law_k","_law_cell"]:List Str).Nodup from by decide +kernel) rfl (Or.inl rfl)) (λC s H fp=>wX) (λC s H fp=>(yB iZ hr (zA (zY Am (pv 1) zK) (zA (pv 0) zF)))))) (zB (yN 6 nd (wA (own:=["_law_k"]) (ix:=[4,1]) rfl rfl rfl (yZ rfl B.range (zA zK zF)) (λC s H fp=>yJ (i:=0) (show(["_law_k","_law_cell","_law_many"]:List Str).Nodup from by decide +kernel) rfl (Or.inl rfl)) (λC s H fp=>wX) (λC s H fp=>(yB jN hr (zA (zY xX (pv 1) (pv 0)) (zA (pv 2) (zA (yV (bx K) (wZ (zA zK (zA zK (zA zK (zA zK (zA zK (zA zK zF))))))) (zY wL (zY xX (zY Am (pv 1) zK) (pv 0)) zK) (λ_ _=>rfl)) zF))))))) (zB (Dr (i:=7) (own:=["_law_k"]) (ix:=[5,6]) nd rfl rfl rfl rfl rfl (yZ rfl B.range (zA zK zF)) (λC s H fp=>yJ (i:=0) (show(["_law_k","_law_names","_law_sets"]:List Str).Nodup from by decide +kernel) rfl (Or.inl rfl)) (λC s H fp=>wX) (λC s H fp=>(uh (zA (yV (bx K) (pv 1) (pv 0) (λ_ _=>rfl)) (zA (vL (Jk K) rfl B.list Gj (zA (yV (bx K) (pv 2) (pv 0) (λ_ _=>rfl)) zF)) zF))))) (zB (yN 8 nd (Fb MK GI hr rfl T.mgC ZS .nil vV (zA (wA (own:=["_law_row"]) (ix:=[]) rfl rfl rfl (yI K (pv 2)) (λC s H fp=>yJ (i:=0) (show(["_law_row"]:List Str).Nodup from by decide +kernel) rfl (Or.inl rfl)) (λC s H fp=>wX) (λC s H fp=>(vL (Jk K) rfl B.list Gj (zA (pv 0) zF)))) (zA (pv 7) (zA (wA (own:=["_law_some"]) (ix:=[]) rfl rfl rfl (yI K (pv 3)) (λC s H fp=>yJ (i:=0) (show(["_law_some"]:List Str).Nodup from by decide +kernel) rfl (Or.inl rfl)) (λC s H fp=>wX) (λC s H fp=>(vL (Jk K) rfl B.list Gj (zA (pv 0) zF)))) zF))))) (zB (Ov (yB iY hr (zA (yB aX hr (zA (pv 0) (zA zK zF))) (zA (pv 5) (zA (pv 6) (zA (pv 1) zF))))) (Iu rfl (xI (bH 9 nd) (xI (bH 10 nd) Ef)))) (zB (yN 11 nd (yB lK hr (zA (pv 2) (zA (pv 3) zF)))) (zB (Dr (i:=12) (own:=["_law_stand"]) (ix:=[10]) nd rfl rfl rfl rfl rfl (yI K (pv 11)) (λC s H fp=>yJ (i:=0) (show(["_law_stand","_law_within"]:List Str).Nodup from by decide +kernel) rfl (Or.inl rfl)) (λC s H fp=>vZ (yC (Lq K) (pv 0) (pv 1) (by with_unfolding_all rfl))) (λC s H fp=>(pv 0))) (zB (Dr (i:=13) (own:=["_law_stand"]) (ix:=[10]) nd rfl rfl rfl rfl rfl (yI K (pv 11)) (λC s H fp=>yJ (i:=0) (show(["_law_stand","_law_within"]:List Str).Nodup from by decide +kernel) rfl (Or.inl rfl)) (λC s H fp=>vZ (yC (X7 K) (pv 0) (pv 1) (by with_unfolding_all rfl))) (λC s H fp=>(pv 0))) (zB (xD aau rfl (yZ rfl B.range (zA zK zF)) (bH 14 nd) (zB (yN 15 nd (yB qG hr (zA (pv 8) (zA (Fb (I.ini.made (.one 1)) (I.ini.i1 1) (hr.mono hS) rfl (I.ini.m1 1) (I.ini.b1 1) .nil vV (zA (pv 9) zF)) zF)))) (zB (yP (v8 (yS (yB kh hr (zA (pv 15) (zA (pv 2) (zA (pv 12) (zA oE zF))))))) (zB (zU oE) zG) zG) (zB (yH (zVg K aa3 PySem.F.slot_list_clear PySem.F.type_list_clear zT0 (pv 15))) (zB (yP (v8 (yS (yB kh hr (zA (yB qG hr (zA (pv 8) (zA (Fb (I.ini.made (.one 2)) (I.ini.i1 2) (hr.mono hS) rfl (I.ini.m1 2) (I.ini.b1 2) .nil vV (zA (pv 9) zF)) zF))) (zA (pv 2) (zA (pv 13) (zA oE zF))))))) (zB (zU oE) zG) zG) zG))))) (zB (zU oE) zG)))))))))))))),?_⟩
 rintro Fa ⟨q0,⟨⟩⟩
 exact SB.of (zM (zZ true 1 rfl rfl (esc (zN (zH (esc (zN (zH (zD 0 rfl) (zH (esc (zJ 0)) zQ)))) zQ)))) (λmany1=>(zM (zZ true 2 rfl rfl (zN (zH (zD 0 rfl) (zH (esc (zE 1 rfl)) zQ)))) (λjM=>(zM (zZ true 3 rfl rfl (zN (zH (esc (zN (zH (zD 0 rfl) (zH (esc (zJ 1)) zQ)))) (zH (esc (zE 1 rfl)) zQ)))) (λrK=>(zM (zZ true 4 rfl rfl (esc (zN (zH (zD 0 rfl) (zH (esc (zJ 2)) zQ))))) (λlU=>(zM (zZ true 5 rfl rfl (yR (n:=true) (i_:=[.un,.y lU]) (no:=1) (ix:=[4]) rfl rfl (xS (zJ 3)) (zW 0 rfl rfl) (λx10=>sy) (λx10=>(esc (zN (zH (esc (Bt (zE 1 rfl) (zJ 36))) (zH (esc (zE 0 rfl)) zQ))))) (λx10=>cT)).ex) (λnames9=>(zM (zZ true 6 rfl rfl (yR (n:=true) (i_:=[.un,.y lU,.y many1]) (no:=1) (ix:=[4,1]) rfl rfl (xS (zJ 2)) (zW 0 rfl rfl) (λrB=>sy) (λrB=>(zN (zH (esc (xY (zE 1 rfl) (zE 0 rfl))) (zH (esc (zE 2 rfl)) (zH (esc (esc (wI (Ve (uF (esc (zJ 3)) (uF (esc (zJ 5)) (uF (esc (zJ 1)) (uF (esc (zJ 4)) (uF (esc (zJ 2)) (uF (esc (zJ 6)) Vd)))))) (λa h=>aaz ((xq (xq (xq (xq (xq (xq Vn)))))) a h) (by decide))).ex (wN (xY (Bt (zE 1 rfl) (zJ 6)) (zE 0 rfl)) (zJ 6))))) zQ))))) (λrB=>cT)).ex) (λlJ=>(zM (zZ true 7 rfl rfl (yR (n:=true) (i_:=[.un,.y names9,.y lJ]) (no:=1) (ix:=[5,6]) rfl rfl (xS (zJ 2)) (zW 0 rfl rfl) (λx25=>sy) (λx25=>(Lb (esc (wI (zD 1 rfl) (zE 0 rfl))) (Ji (wI (zD 2 rfl) (zE 0 rfl))).ex)) (λx25=>cT)).ex) (λmF=>(zM (zZ true 8 rfl rfl (zRu (yR (n:=true) (i_:=[.un]) (no:=1) (ix:=[]) rfl rfl (yL (yK 2 rfl)) (zW 0 rfl rfl) (λx29=>sy) (λx29=>(Ji (zD 0 rfl)).ex) (λx29=>cT)).ex (zD 7 rfl) (yR (n:=true) (i_:=[.un]) (no:=1) (ix:=[]) rfl rfl (yL (yK 3 rfl)) (zW 0 rfl rfl) (λx30=>sy) (λx30=>(Ji (zD 0 rfl)).ex) (λx30=>cT)).ex).ex) (λfU=>(zM (zPn (n:=true) (zN (zH (esc (zN (zH (zD 0 rfl) (zH (esc (zJ 3)) zQ)))) (zH (zD 5 rfl) (zH (zD 6 rfl) (zH (esc (zE 1 rfl)) zQ))))) (Je 9 10 rfl rfl (λ_=>rfl) rfl)) (λC_=>(zM (zZ true 11 rfl rfl (zN (zH (zD 2 rfl) (zH (zD 3 rfl) zQ)))) (λiV=>(zM (zZ true 12 rfl rfl (yR (n:=true) (i_:=[.un,.y C_.2]) (no:=1) (ix:=[10]) rfl rfl (yL (yK 11 rfl)) (zW 0 rfl rfl) (λx38=>(yD (md:=.hp) (Ry (zE 0 rfl) (zD 1 rfl)))) (λx38=>(esc (zE 0 rfl))) (λx38=>cT)).ex) (λqF=>(zM (zZ true 13 rfl rfl (yR (n:=true) (i_:=[.un,.y C_.2]) (no:=1) (ix:=[10]) rfl rfl (yL (yK 11 rfl)) (zW 0 rfl rfl) (λx40=>(yD (md:=.hp) (XS (zE 0 rfl) (zD 1 rfl)))) (λx40=>(esc (zE 0 rfl))) (λx40=>cT)).ex) (λvg=>(Ro (Rr (n:=true) (L:=(λWc:Unit=>([.z q0,.y many1,.y jM,.y rK,.y lU,.y names9,.y lJ,.y mF,.y fU,.y C_.1,.y C_.2,.y iV,.y qF,.y vg,.un,.un]:SL K))) () aM (xS (zJ 2)) (λWc=>(zW 14 rfl rfl)) (λWc x43=>(Xw (RL 15 rfl rfl (Gm (zH (zD 8 rfl) (zH (V3 1 (zD 9 rfl)) zQ)))) (λvh=>(Jd (w5 (aR (md:=.hp) (zN (zH (FJ 15 rfl) (zH (zD 2 rfl) (zH (zD 12 rfl) (zH (esc (oM true)) zQ))))))) (zX (esc (oM false))) (Xw (zPq 15 rfl rfl) (λHh=>(Jd (w5 (aR (md:=.hp) (zN (zH (zN (zH (zD 8 rfl) (zH (V3 2 (zD 9 rfl)) zQ))) (zH (zD 2 rfl) (zH (zD 13 rfl) (zH (esc (oM false)) zQ))))))) (zX (esc (oM false))) (Rq (λWc:Unit=>([.z q0,.y many1,.y jM,.y rK,.y lU,.y names9,.y lJ,.y mF,.y fU,.y C_.1,.y C_.2,.y iV,.y qF,.y vg,.un,.un]:SL K)) () aM))))))))) (λs42=>(zX (esc (oM true))))))))))))))))))))))))))))) (by unfold Wa;simp only[bnd])
end
open PySem L2
theorem T7(za:wu)(h:0<=k):W (wD za k) λ_=>True:=by
 unfold wD
 rw[Ac]
 refine⟨λq=>?_,λ_=>aj.mpr trivial⟩
 have q:k<(za.ns.length:Int):=by simpa using q
 rw[cJ h]
 exact⟨_,aao (by omega),trivial⟩
theorem Hj(c:Int)(h0:0<=k)(h1:k<=1000000):W (uC c k) λr=>0<=r/\r<99989:=by
 unfold uC
 simp only[zC,Vp,qJ,aj]
 refine⟨.inl ⟨by decide,by decide⟩,.inr ⟨by omega,by omega⟩,.inl ⟨by decide,by decide⟩,by decide,.inl ⟨?_,?_⟩,by decide,?_,?_⟩
 ·have:=acp (c*(48271+2*k)+7919*k+5) (show(99991:Int)≠0 by decide)
  omega
 ·have:=ace (c*(48271+2*k)+7919*k+5) (show(0:Int)<99991 by decide)
  omega
 ·exact acp _ (by decide)
 ·exact ace _ (by decide)
theorem T8(c:Int)(w:Int)(h0:0<=n)(h1:n<=60):W (uU c n w) (bQ n):=by
 unfold uU
 simp only[zC,qJ,Bv,aj,Ac]
 refine⟨⟨by decide,by decide⟩,by decide,λ_=>?_,λ_=>?_⟩
 all_goals simp only[vE]
 ·refine⟨⟨by omega,by omega⟩,xP (λ_ _=>True) trivial (λi x s _ _=>?_) λs _=>?_⟩
  ·simp only[zC,Bv,aj]
   exact⟨⟨by decide,by decide⟩,trivial⟩
  ·refine⟨⟨by omega,by omega⟩,xP (λi s=>bQ i s.1/\s.1.length<=i) ⟨Ye,aaq _⟩ (λi x s hi hI=>?_) λs hI=>?_⟩
   ·obtain⟨rfl,hx⟩:=Ab hi
    simp only[zC,Bv,Vq,qJ,aj,Ac,sE]
    refine(Hj c (by omega) (by omega)).imp λr _=>⟨⟨by decide,by decide,by decide⟩,λ_=>?_,λ_=>?_⟩
    all_goals exact⟨by decide,λ_=>⟨yE (by omega),⟨by decide,by decide⟩,Yg hI.1 (by omega) (by omega),by rw[length_append];exact abl hI.2⟩,λ_=>⟨⟨by decide,by decide⟩,Yh hI.1 (by omega),by omega⟩⟩
   ·have e:=wW h0
    rw[e] at hI
    exact hI.1
 ·refine⟨⟨by omega,by omega⟩,xP (λi s=>bQ i s.1/\s.1.length<=i) ⟨Ye,aaq _⟩ (λi x s hi hI=>?_) λs hI=>?_⟩
  ·obtain⟨rfl,hx⟩:=Ab hi
   simp only[zC,Bv,Vq,qJ,aj,Ac,sE]
   refine(Hj c (by omega) (by omega)).imp λr _=>⟨⟨by decide,by decide,by decide⟩,λ_=>?_,λ_=>?_⟩
   all_goals exact⟨by decide,λ_=>⟨yE (by omega),⟨by decide,by decide⟩,Yg hI.1 (by omega) (by omega),by rw[length_append];exact abl hI.2⟩,λ_=>⟨⟨by decide,by decide⟩,Yh hI.1 (by omega),by omega⟩⟩
  ·have e:=wW h0
   rw[e] at hI
   exact hI.1
def Wg(n:Int)(xs:LI):Prop:=xs≠[]/\xs.Nodup/\xs.length<=3/\∀z∈xs,0<=z/\z<n
theorem Hl(za:wu)(h0:1<=n)(h1:n<=60):W (uK za n) λxss=>(xss.length:Int)=n/\∀xs∈xss,Wg n xs:=by
 unfold uK
 simp only[zC,aj,vE]
 refine⟨⟨by omega,by omega⟩,xP (λi s=>s.length=i/\∀xs∈s,Wg n xs) ⟨rfl,λxs h=>by cases h⟩ (λi x s hi hI=>?_) λs hI=>?_⟩
 ·obtain⟨rfl,hx⟩:=Ab hi
  simp only[zC,aj,vE,qJ,sE]
  refine⟨by omega,?_⟩
  have hm:=acp (i:Int) (show max (1:Int) ((za.ns.length:Int)-4)≠0 by omega)
  refine(T7 za (by omega)).imp λcell _=>(Hj cell (by omega) (by omega)).imp λr hr=>?_
  refine⟨by decide,⟨by omega,by omega⟩,xP (λj row=>(j=0->row=[])/\(0<j->row≠[])/\row.Nodup/\row.length<=j/\∀z∈row,0<=z/\z<n) ⟨λ_=>rfl,λh=>by omega,nodup_nil,aaq _,λz h=>by cases h⟩ (λj y row hj vm=>?_) λrow vm=>?_⟩
  ·obtain⟨rfl,hy⟩:=Ab hj
   simp only[zC,aj,qJ,Vp,Ac,sE]
   refine⟨.inl ⟨by decide,by decide⟩,(Hj _ (by omega) (by omega)).imp λo _=>⟨by omega,(Hj _ (by omega) (by omega)).imp λr2 _=>⟨by decide,λ_=>?_,λ_=>?_⟩⟩⟩
   ·have z0:=acp ((i:Int)+1) (show n≠0 by omega)
    have z1:=ace ((i:Int)+1) (show 0<n by omega)
    refine⟨by omega,λq=>⟨yE (by omega),by omega,λ_=>by simp,?_,by rw[length_append];exact abl vm.2.2.2.1,?_⟩,λq=>?_⟩
    ·rw[nodup_append]
     refine⟨vm.2.2.1,by simp,λa ha b hb e=>?_⟩
     rw[mem_singleton.mp hb] at e
     subst e
     simp at q
     exact q ha
    ·intro z hz
     rcases mem_append.mp hz with hz|hz
     ·exact vm.2.2.2.2 z hz
     ·rw[mem_singleton.mp hz];exact⟨z0,z1⟩
    ·simp at q
     exact⟨by omega,λ_ e=>(by rw[e] at q;cases q),vm.2.2.1,by omega,vm.2.2.2.2⟩
   ·have z0:=acp o (show n≠0 by omega)
    have z1:=ace o (show 0<n by omega)
    refine⟨λq=>⟨yE (by omega),by omega,λ_=>by simp,?_,by rw[length_append];exact abl vm.2.2.2.1,?_⟩,λq=>?_⟩
    ·rw[nodup_append]
     refine⟨vm.2.2.1,by simp,λa ha b hb e=>?_⟩
     rw[mem_singleton.mp hb] at e
     subst e
     simp at q
     exact q ha
    ·intro z hz
     rcases mem_append.mp hz with hz|hz
     ·exact vm.2.2.2.2 z hz
     ·rw[mem_singleton.mp hz];exact⟨z0,z1⟩
    ·simp at q
     exact⟨by omega,λ_ e=>(by rw[e] at q;cases q),vm.2.2.1,by omega,vm.2.2.2.2⟩
  ·have e:((rng (1+r%3)).length:Int)=1+r%3:=wW (by omega)
   refine⟨yE (by omega),by rw[length_append,hI.1]<;>rfl,λxs hxs=>?_⟩
   rcases mem_append.mp hxs with q|q
   ·exact hI.2 xs q
   ·rw[mem_singleton.mp q]
    exact⟨vm.2.1 (by omega),vm.2.2.1,by omega,vm.2.2.2.2⟩
 ·have e:=wW (n:=n) (by omega)
  exact⟨by rw[hI.1];exact e,hI.2⟩
structure Gr{C:Addr}(m:au C)(n:Int):Prop where
 len:(m.steps.length:Int)=n
 pos:1<=n
 few:n<=60
 row:∀xs∈m.steps,xs≠[]/\xs.Nodup/\∀z∈xs,0<=z/\z<n
 src:m.sources=srcs m.steps
def nxt(xss:List LI)(s:Int):LI:=xss.getD s.toNat []
theorem Ho:x∈src xss j↔0<=x/\x<(xss.length:Int)/\(j:Int)∈nxt xss x:=by
 unfold src nxt
 rw[mem_map]
 constructor
 ·rintro⟨k,h,rfl⟩
  rw[mem_filter,mem_range] at h
  have h2:=of_decide_eq_true h.2
  exact⟨ac8 _,by show(k:Int)<_;omega,h2⟩
 ·intro⟨h0,h1,h2⟩
  refine⟨x.toNat,?_,by show((x.toNat:Nat):Int)=x;omega⟩
  rw[mem_filter,mem_range]
  exact⟨by omega,decide_eq_true h2⟩
theorem Wh{C:Addr}{m:au C}(g:Gr m n):xG m=some n:=by
 unfold xG
 rw[g.len]
theorem zSr{C:Addr}{m:au C}(g:Gr m n)(h0:0<=s)(h1:s<n):W (wG m s) λxs=>∀x,x∈xs↔0<=x/\x<n/\s∈nxt m.steps x:=by
 unfold wG
 rw[cJ h0,g.src]
 have hl:=g.len
 refine⟨_,zPl (by omega),λx=>?_⟩
 rw[Ho,hl,show((s.toNat:Nat):Int)=s by omega]
theorem T9{α:Type}{xs:List α}{a d:α}(h:i<xs.length):(xs.set i a).getD j d=if j=i then a else xs.getD j d:=by
 rw[getD_eq_getElem?_getD,getD_eq_getElem?_getD,List.getElem?_set]
 by_cases e:i=j
 ·subst e;simp[h]
 ·rw[if_neg e,if_neg (abt e)]
theorem ZV{C:Addr}{m:au C}(g:Gr m n)(hx:∀x∈xs,0<=x/\x<n):W (JL m xs) λfl=>(fl.length:Int)=n/\∀s:Int,0<=s->s<n->fl.getD s.toNat false=decide (s∈xs):=by
 unfold JL
 have hp:=g.pos
 have hf:=g.few
 simp only[zC,aj,Wh g,vE]
 refine⟨⟨by omega,by omega⟩,?_⟩
 rw[Lz (λ_=>false)]
 have e:=wW (n:=n) (by omega)
 refine⟨yE (by omega),xP (λi fl=>(fl.length:Int)=n/\∀s:Int,0<=s->s<n->fl.getD s.toNat false=decide (s∈xs.take i)) ⟨by rw[length_map];exact e,λs _ _=>?_⟩ (λi x fl hi hI=>?_) λfl hI=>?_⟩
 ·rw[getD_eq_getElem?_getD,getElem?_map]
  cases(rng n)[s.toNat]?<;>simp
 ·have hxx:=hx x (mem_of_getElem? hi)
  simp only[zC,aj]
  rw[RP hxx.1 (by omega)]
  refine⟨by rw[length_set];exact hI.1,λs s0 s1=>?_⟩
  rw[T9 (by omega)]
  have tk:xs.take (i+1)=xs.take i++[x]:=by rw[take_add_one,hi]<;>rfl
  by_cases q:s.toNat=x.toNat
  ·have:s=x:=by omega
   subst this
   rw[if_pos rfl,tk];simp
  ·have:s≠x:=λz=>q (by rw[z])
   rw[if_neg q,hI.2 s s0 s1,tk]
   simp[this]
 ·rw[take_length] at hI
  exact hI
abbrev dg(d:List (Option Int))(s:Int):Option Int:=d.getD s.toNat none
structure tV(xss:List LI)(through goal:LI)(n:Int)(d:List (Option Int)):Prop where
 len:(d.length:Int)=n
 pos:∀s k,0<=s->s<n->dg d s=some k->0<=k/\k<n
 zero:∀s,0<=s->s<n->(dg d s=some 0↔s∈goal)
 via:∀s k,0<=s->s<n->dg d s=some k->s∉goal->s∈through/\∃t∈nxt xss s,0<=t/\t<n/\dg d t=some (k-1)
 near:∀s t k,0<=s->s<n->0<=t->t<n->s∈through->t∈nxt xss s->dg d t=some k->∃j,dg d s=some j/\j<=k+1
structure Bf(xss:List LI)(pass:Int->Prop)(goal:LI)(n:Int)(d:List (Option Int))(row:LI)(place:Nat):Prop where
 len:(d.length:Int)=n
 rng:∀s∈row,0<=s/\s<n
 nd:row.Nodup
 iff:∀s:Int,0<=s->s<n->((dg d s).isSome=true↔s∈row)
 idx:∀(i:Nat)(s:Int),row[i]?=some s->∃k:Int,dg d s=some k/\0<=k/\k<=i
 mono:∀(i j:Nat)(s t k l:Int),i<=j->row[i]?=some s->row[j]?=some t->dg d s=some k->dg d t=some l->k<=l
 top:∀(j:Nat)(s t k l:Int),row[place]?=some s->row[j]?=some t->dg d s=some k->dg d t=some l->l<=k+1
 zero:∀s:Int,0<=s->s<n->(dg d s=some 0↔s∈goal)
 via:∀(s k:Int),s∈row->dg d s=some k->s∉goal->pass s/\∃t∈nxt xss s,0<=t/\t<n/\dg d t=some (k-1)
 done:∀(i:Nat)(s t k:Int),i<place->row[i]?=some t->dg d t=some k->0<=s->s<n->pass s->t∈nxt xss s->∃j,dg d s=some j/\j<=k+1
theorem ZW{d:List (Option Int)}(hl:(d.length:Int)=n)(h0:0<=s)(h1:s<n)(t0:0<=t):dg (d.set s.toNat v) t=if t=s then v else dg d t:=by
 show(d.set s.toNat v).getD t.toNat none=_
 rw[T9 (by omega)]
 by_cases e:t=s
 ·rw[if_pos e,if_pos (by rw[e])]
 ·rw[if_neg e,if_neg (by omega)]
theorem Qf{row:LI}{i:Nat}{s x:Int}(h:(row++[x])[i]?=some s):row[i]?=some s\/(i=row.length/\s=x):=by
 by_cases q:i<row.length
 ·rw[getElem?_append_left q] at h;exact .inl h
 ·rw[getElem?_append_right (by omega)] at h
  have:i-row.length=0:=by
   have:=xJ h
   simp at this
   omega
  rw[this] at h
  exact .inr ⟨by omega,(aay h).symm⟩
structure Bm(xss:List LI)(pass:Int->Prop)(goal:LI)(n:Int)(d:List (Option Int))(row:LI)(place:Nat)(t k:Int)(seen:LI):Prop where
 bf:Bf xss pass goal n d row place
 at_:row[place]?=some t
 k_:dg d t=some k
 vo:∀s∈seen,pass s->∃j,dg d s=some j/\j<=k+1
theorem Bm.put(b:Bm xss pass goal n d row place t k seen)(hx0:0<=x)(hx1:x<n)(hp:pass x)(hn:dg d x=none)(ht:t∈nxt xss x) :
  Bm xss pass goal n (d.set x.toNat (some (k+1))) (row++[x]) place t k (seen++[x]):=by
 have B:=b.bf
 have tr:=B.rng t (mem_of_getElem? b.at_)
 have xr:x∉row:=λh=>by have:=(B.iff x hx0 hx1).mpr h;rw[hn] at this;cases this
 have tx:t≠x:=λe=>xr (e▸mem_of_getElem? b.at_)
 obtain⟨k',e1,k0,kp⟩:=B.idx place t b.at_
 rw[b.k_] at e1
 cases e1
 have pl:=xJ b.at_
 have old:∀s:Int,0<=s->s≠x->dg (d.set x.toNat (some (k+1))) s=dg d s:=λs s0 q=>by rw[ZW B.len hx0 hx1 s0,if_neg q]
 have new:dg (d.set x.toNat (some (k+1))) x=some (k+1):=by rw[ZW B.len hx0 hx1 hx0,if_pos rfl]
 have inr:∀{i:Nat}{s:Int},row[i]?=some s->0<=s/\s<n/\s≠x:=λh=>by
  have:=B.rng _ (mem_of_getElem? h)
  exact⟨this.1,this.2,λe=>xr (e▸mem_of_getElem? h)⟩
 refine⟨⟨by rw[length_set];exact B.len,λs hs=>?_,?_,λs s0 s1=>?_,λi s h=>?_,λi j s u a l ij h1 h2 h3 h4=>?_,λj s u a l h1 h2 h3 h4=>?_,λs s0 s1=>?_,λs a hs h1 h2=>?_,λi s u a hi h1 h2 s0 s1 ps hu=>?_⟩,?_,?_,λs hs ps=>?_⟩
 ·rcases mem_append.mp hs with q|q
  ·exact B.rng s q
  ·rw[mem_singleton.mp q];exact⟨hx0,hx1⟩
 ·rw[nodup_append]
  exact⟨B.nd,by simp,λa ha c hc e=>by rw[mem_singleton.mp hc] at e;exact xr (e▸ha)⟩
 ·by_cases e:s=x
  ·subst e;rw[new];simp
  ·rw[old s s0 e,B.iff s s0 s1];simp[e]
 ·rcases Qf h with h|⟨rfl,rfl⟩
  ·obtain⟨a1,a2,a3⟩:=inr h
   rw[old s a1 a3];exact B.idx i s h
  ·exact⟨k+1,new,by omega,by omega⟩
 ·rcases Qf h1 with g1|⟨rfl,rfl⟩
  ·obtain⟨a1,a2,a3⟩:=inr g1
   rw[old s a1 a3] at h3
   rcases Qf h2 with g2|⟨rfl,rfl⟩
   ·obtain⟨b1,b2,b3⟩:=inr g2
    rw[old u b1 b3] at h4
    exact B.mono i j s u a l ij g1 g2 h3 h4
   ·rw[new] at h4
    cases h4
    exact B.top i t s k a b.at_ g1 b.k_ h3
  ·rcases Qf h2 with h2|⟨rfl,rfl⟩
   ·have:=xJ h2;omega
   ·rw[h3] at h4;cases h4;exact aej _
 ·have h1':s=t:=by
   rcases Qf h1 with h1|⟨e,_⟩
   ·rw[b.at_] at h1;exact(aay h1).symm
   ·omega
  subst h1'
  rw[old s tr.1 tx,b.k_] at h3
  cases h3
  rcases Qf h2 with h2|⟨rfl,rfl⟩
  ·obtain⟨b1,b2,b3⟩:=inr h2
   rw[old u b1 b3] at h4
   exact B.top j s u k l b.at_ h2 b.k_ h4
  ·rw[new] at h4;cases h4;exact aej _
 ·by_cases e:s=x
  ·subst e
   rw[new]
   constructor
   ·intro q;have q:=aay q;omega
   ·intro q;have:=(B.zero s s0 s1).mpr q;rw[hn] at this;cases this
  ·rw[old s s0 e];exact B.zero s s0 s1
 ·rcases mem_append.mp hs with q|q
  ·have sr:=B.rng s q
   have sx:s≠x:=λe=>xr (e▸q)
   rw[old s sr.1 sx] at h1
   obtain⟨p1,u,u1,u2,u3,u4⟩:=B.via s a q h1 h2
   refine⟨p1,u,u1,u2,u3,?_⟩
   rw[old u u2 λe=>by rw[e,hn] at u4;cases u4]
   exact u4
  ·have:=mem_singleton.mp q
   subst this
   rw[new] at h1
   cases h1
   exact⟨hp,t,ht,tr.1,tr.2,by rw[old t tr.1 tx,b.k_,show k+1-1=k by omega]⟩
 ·have h1':row[i]?=some u:=by rw[getElem?_append_left (by omega)] at h1;exact h1
  obtain⟨b1,b2,b3⟩:=inr h1'
  rw[old u b1 b3] at h2
  obtain⟨j,q1,q2⟩:=B.done i s u a hi h1' h2 s0 s1 ps hu
  by_cases e:s=x
  ·subst e;rw[hn] at q1;cases q1
  ·exact⟨j,by rw[old s s0 e];exact q1,q2⟩
 ·rw[getElem?_append_left pl];exact b.at_
 ·rw[old t tr.1 tx];exact b.k_
 ·rcases mem_append.mp hs with q|q
  ·obtain⟨j,q1,q2⟩:=b.vo s q ps
   by_cases e:s=x
   ·subst e;rw[hn] at q1;cases q1
   ·by_cases s0:0<=s
    ·exact⟨j,by rw[old s s0 e];exact q1,q2⟩
    ·refine⟨j,?_,q2⟩
     show(d.set x.toNat (some (k+1))).getD s.toNat none=some j
     have z:s.toNat=0:=by omega
     rw[T9 (by have:=B.len;omega)]
     by_cases w:s.toNat=x.toNat
     ·have xz:x=0:=by omega
      have q1':d.getD s.toNat none=some j:=q1
      have hn':d.getD x.toNat none=none:=hn
      rw[w] at q1'
      rw[q1'] at hn'
      cases hn'
     ·rw[if_neg w];exact q1
  ·rw[mem_singleton.mp q];exact⟨k+1,new,aej _⟩
theorem zKm{C:Addr}{m:au C}(g:Gr m n){goal:LI}(ht:∀x∈through,0<=x/\x<n)(hg:goal.Nodup/\∀x∈goal,0<=x/\x<n):W (Tn m through goal) (tV m.steps through goal n):=by
 unfold Tn
 have hp:=g.pos
 have hf:=g.few
 simp only[zC,aj,Wh g,vE]
 refine(ZV g ht).imp λfl ⟨fl1,fl2⟩=>⟨⟨by omega,by omega⟩,?_⟩
 rw[Lz (λ_=>(none:Option Int))]
 have e:=wW (n:=n) (by omega)
 refine⟨yE (by omega),xP (λi (d:List (Option Int))=>(d.length:Int)=n/\∀s:Int,0<=s->s<n->dg d s=if s∈goal.take i then some 0 else none) ⟨by rw[length_map];exact e,λs _ _=>?_⟩ (λi x d hi hI=>?_) λd hd=>?_⟩
 ·show(List.map (λ_=>(none:Option Int)) (rng n)).getD s.toNat none=_
  rw[getD_eq_getElem?_getD,getElem?_map]
  cases(rng n)[s.toNat]?<;>simp
 ·have hx:=hg.2 x (mem_of_getElem? hi)
  simp only[zC,aj]
  rw[RP hx.1 (by omega)]
  refine⟨by rw[length_set];exact hI.1,λs s0 s1=>?_⟩
  have tk:goal.take (i+1)=goal.take i++[x]:=by rw[take_add_one,hi]<;>rfl
  rw[ZW hI.1 hx.1 hx.2 s0,hI.2 s s0 s1,tk]
  by_cases q:s=x<;>simp[q]
 rw[take_length] at hd
 have base:Bf m.steps (· ∈ through) goal n d goal 0:=by
  have z:∀s:Int,0<=s->s<n->∀k,dg d s=some k->k=0/\s∈goal:=λs s0 s1 k h=>by
   rw[hd.2 s s0 s1] at h
   split at h
   ·rename_i q;cases h;exact⟨rfl,q⟩
   ·cases h
  refine⟨hd.1,hg.2,hg.1,λs s0 s1=>?_,λi s h=>?_,λi j s t k l _ h1 h2 h3 h4=>?_,λj s t k l h1 h2 h3 h4=>?_,λs s0 s1=>?_,λs k hs h1 h2=>absurd hs h2,λi s t k hi=>by omega⟩
  ·rw[hd.2 s s0 s1];by_cases q:s∈goal<;>simp[q]
  ·have hs:=mem_of_getElem? h
   have:=hg.2 s hs
   exact⟨0,by rw[hd.2 s this.1 this.2,if_pos hs],aej _,by omega⟩
  ·have a1:=hg.2 s (mem_of_getElem? h1)
   have a2:=hg.2 t (mem_of_getElem? h2)
   have:=(z s a1.1 a1.2 k h3).1
   have:=(z t a2.1 a2.2 l h4).1
   omega
  ·have a1:=hg.2 s (mem_of_getElem? h1)
   have a2:=hg.2 t (mem_of_getElem? h2)
   have:=(z s a1.1 a1.2 k h3).1
   have:=(z t a2.1 a2.2 l h4).1
   omega
  ·rw[hd.2 s s0 s1];by_cases q:s∈goal<;>simp[q]
 have ZX:n.toNat<=60:=by omega
 refine zSc (λs=>∃pl:Nat,s.2.2=(pl:Int)/\Bf m.steps (· ∈ through) goal n s.1 s.2.1 pl) (λs=>n.toNat-s.2.2.toNat) ⟨0,rfl,base⟩ (show n.toNat-(0:Int).toNat<fuel from aa1 (Nat.sub_le _ _) (aa1 ZX (by decide))) λs ⟨pl,hpl,B⟩=>?_
 rw[aj]
 have rl:s.2.1.length<=n.toNat:=wM B.nd λx hx=>by have:=B.rng x hx;omega
 by_cases lt:s.2.2<(s.2.1.length:Int)
 ·rw[decide_eq_true lt,if_pos rfl]
  simp only[zC,aj]
  rw[cJ (by omega)]
  have pll:pl<s.2.1.length:=by omega
  have e1:s.2.2.toNat=pl:=by omega
  rw[e1]
  refine⟨_,aao pll,?_⟩
  have hat:s.2.1[pl]?=some s.2.1[pl]:=aao pll
  generalize s.2.1[pl]=t at hat
  have tr:=B.rng t (mem_of_getElem? hat)
  obtain⟨k,hk,k0,k1⟩:=B.idx pl t hat
  refine(zSr g tr.1 tr.2).imp λxs hxs=>?_
  refine xP (λi (r:List (Option Int)×LI)=>Bm m.steps (· ∈ through) goal n r.1 r.2 pl t k (xs.take i)) ⟨B,hat,hk,λs hs=>by cases hs⟩ (λi x r hi b=>?_) λr b=>?_
  ·have hx:=(hxs x).mp (mem_of_getElem? hi)
   have tk:xs.take (i+1)=xs.take i++[x]:=by rw[take_add_one,hi]<;>rfl
   rw[tk]
   simp only[zC,aj]
   rw[cJ hx.1]
   have fx:=fl2 x hx.1 hx.2.1
   have fl3:x.toNat<fl.length:=by omega
   refine⟨_,aao fl3,?_⟩
   rw[getD_eq_getElem?_getD,aao fl3] at fx
   have fx:fl[x.toNat]=decide (x∈through):=fx
   rw[fx]
   have dl:x.toNat<r.1.length:=by have:=b.bf.len;omega
   have dx:dg r.1 x=r.1[x.toNat]:=by show r.1.getD x.toNat none=_;rw[getD_eq_getElem?_getD,aao dl];rfl
   by_cases px:x∈through
   ·rw[decide_eq_true px,if_pos rfl,zC,cJ hx.1]
    refine⟨_,aao dl,?_⟩
    rw[<-dx,aj]
    cases hdx:dg r.1 x with
    |none =>
     simp only[Option.isNone_none,if_true,zC,aj]
     have tr':t.toNat<r.1.length:=by have:=b.bf.len;omega
     rw[cJ tr.1]
     refine⟨_,aao tr',?_⟩
     have ek:r.1[t.toNat]=some k:=by
      have:=b.k_
      have z:r.1.getD t.toNat none=some k:=this
      rw[getD_eq_getElem?_getD,aao tr'] at z
      exact z
     rw[ek,aj,RP hx.1 (by have:=b.bf.len;omega),sE]
     have rl2:r.2.length<=n.toNat:=wM b.bf.nd λx hx=>by have:=b.bf.rng x hx;omega
     exact⟨yE (by omega),b.put hx.1 hx.2.1 px hdx hx.2.2⟩
    |some j =>
     simp only[Option.isNone_some,aaw,if_false,aj]
     refine⟨b.bf,b.at_,b.k_,λs hs ps=>?_⟩
     rcases mem_append.mp hs with q|q
     ·exact b.vo s q ps
     ·rw[mem_singleton.mp q]
      have hin:x∈r.2:=(b.bf.iff x hx.1 hx.2.1).mp (by rw[hdx];rfl)
      obtain⟨ii,hii⟩:=mem_iff_getElem?.mp hin
      exact⟨j,hdx,b.bf.top ii t x k j b.at_ hii b.k_ hdx⟩
   ·rw[decide_eq_false px,if_neg (by decide),aj]
    simp only[aaw,if_false,aj]
    refine⟨b.bf,b.at_,b.k_,λs hs ps=>?_⟩
    rcases mem_append.mp hs with q|q
    ·exact b.vo s q ps
    ·rw[mem_singleton.mp q] at ps;exact absurd ps px
  ·rw[take_length] at b
   refine⟨⟨pl+1,by show s.2.2+1=_;omega,?_⟩,?_⟩
   ·have B':=b.bf
    refine⟨B'.len,B'.rng,B'.nd,B'.iff,B'.idx,B'.mono,λj u v a l h1 h2 h3 h4=>?_,B'.zero,B'.via,λi u v a hi h1 h2 u0 u1 pu hu=>?_⟩
    ·have q1:=B'.mono pl (pl+1) t u k a (by omega) b.at_ h1 b.k_ h3
     have q2:=B'.top j t v k l b.at_ h2 b.k_ h4
     omega
    ·by_cases q:i=pl
     ·subst q
      rw[b.at_] at h1
      cases h1
      rw[b.k_] at h2
      cases h2
      exact b.vo u ((hxs u).mpr ⟨u0,u1,hu⟩) pu
     ·exact B'.done i u v a (by omega) h1 h2 u0 u1 pu hu
   ·show n.toNat-(s.2.2+1).toNat<n.toNat-pl
    omega
 ·rw[decide_eq_false lt,if_neg (by decide)]
  have all:∀t∈s.2.1,∃i,i<pl/\s.2.1[i]?=some t:=λt h=>by
   obtain⟨i,hi⟩:=mem_iff_getElem?.mp h
   exact⟨i,by have:=xJ hi;omega,hi⟩
  refine⟨B.len,λu k u0 u1 h=>?_,B.zero,λu k u0 u1 h hu=>?_,λu t k u0 u1 t0 t1 hu ht hk=>?_⟩
  ·have hin:=(B.iff u u0 u1).mp (by rw[h];rfl)
   obtain⟨i,hi⟩:=mem_iff_getElem?.mp hin
   obtain⟨k',e1,e2,e3⟩:=B.idx i u hi
   rw[h] at e1
   cases e1
   have:=xJ hi
   exact⟨e2,by omega⟩
  ·exact B.via u k ((B.iff u u0 u1).mp (by rw[h];rfl)) h hu
  ·obtain⟨i,h1,h2⟩:=all t ((B.iff t t0 t1).mp (by rw[hk];rfl))
   exact B.done i u t k h1 h2 hk u0 u1 hu ht
theorem NT{xss:List LI}(hl:(xss.length:Int)=n)(h0:0<=s)(h1:s<n):xss[s.toNat]?=some (nxt xss s):=by
 have:s.toNat<xss.length:=by omega
 unfold nxt
 rw[getD_eq_getElem?_getD,aao this]
 rfl
theorem Z0(n:Int):(rng n).Pairwise (· < ·):=by
 unfold rng
 rw[List.pairwise_map]
 exact List.pairwise_lt_range.imp λh=>by show(_:Int)<_;simpa using h
def pick(n:Int)(p:Int->Bool):LI:=(rng n).filter p
theorem dY:s∈pick n p↔0<=s/\s<n/\p s=true:=by
 unfold pick
 rw[mem_filter,d_,and_assoc]
theorem Qg(n:Int)(p:Int->Bool):bQ n (pick n p):=⟨(Z0 n).filter p,λx hx=>by have:=dY.mp hx;omega⟩
theorem zTh(p:Int->Bool)(h:n<=60):(pick n p).length<=60:=by
 unfold pick
 refine aaz (length_filter_le _ _) ?_
 unfold rng
 rw[length_map,length_range]
 omega
theorem zUj{d:List (Option Int)}(hl:(d.length:Int)=n):Bq d=(rng n).map λs=>(s,dg d s):=by
 refine ext_getElem? λi=>?_
 have e:n.toNat=d.length:=by omega
 by_cases q:i<d.length
 ·have h1:(rng n)[i]?=some (i:Int):=by unfold rng;rw[getElem?_map,getElem?_range (by omega)];rfl
  rw[getElem?_map,h1]
  unfold Bq
  rw[getElem?_zip_eq_some (z:=((i:Int),dg d i))|>.mpr ⟨?_,?_⟩]
  ·rfl
  ·rw[getElem?_map,getElem?_range q];rfl
  ·show d[i]?=some (d.getD ((i:Int).toNat) none)
   rw[abr,getD_eq_getElem?_getD,aao q];rfl
 ·rw[abz (by rw[zJx];omega),abz (by rw[length_map];unfold rng;rw[length_map,length_range];omega)]
theorem Hq:W (dput kvs k v) Q↔kvs.length<cap/\Q (pK kvs (abg k) v):=by
 unfold dput
 rw[Ac]
 constructor
 ·intro⟨h1,h2⟩
  by_cases h:kvs.length<cap
  ·exact⟨h,aj.mp (h1 h)⟩
  ·exact absurd (h2 h) (by rw[Dw];exact id)
 ·intro⟨h,q⟩
  exact⟨λ_=>aj.mpr q,λz=>absurd h z⟩
theorem zUv:W (RX kvs k v) Q↔kvs.length<cap/\Q (pK kvs (ab3 k) v):=by
 unfold RX
 rw[Ac]
 constructor
 ·intro⟨h1,h2⟩
  by_cases h:kvs.length<cap
  ·exact⟨h,aj.mp (h1 h)⟩
  ·exact absurd (h2 h) (by rw[Dw];exact id)
 ·intro⟨h,q⟩
  exact⟨λ_=>aj.mpr q,λz=>absurd h z⟩
def vp(n:Int)(xs:LI):Prop:=xs.Nodup/\xs.length<=100/\∀z∈xs,0<=z/\z<n
theorem zO6(h:0<=z/\z<n):Te z n=some true:=by
 unfold Te
 rw[if_pos rfl,if_pos (show(!false)=true from rfl),decide_eq_true h.1,if_pos rfl,decide_eq_true h.2]
theorem Z1(h:vp n xs)(x:Str):W (xQ xs n x) λ_=>True:=by
 unfold xQ
 rw[zC,aj,zC,zC,aj]
 refine xP (λi s=>s.length<=i/\∀z,(dw s z).isSome=true->z∈xs.take i) ⟨abf _,λz hz=>by cases hz⟩ (λi y s hi hI=>?_) λs _=>aj.mpr trivial
 have il:=xJ hi
 rw[zO6 (h.2.2 y (mem_of_getElem? hi)),zC,zC,zC,aj,aj,abn,if_neg (by decide),aj,zC]
 have hn:(dw s y).isSome=false:=by
  cases q:(dw s y).isSome with
  |false=>rfl
  |true=>exact absurd (hI.2 y q) (zGf h.1 hi)
 have hn':(dw (Dc.mk s).kv y).isSome=false:=hn
 rw[hn',if_neg (by decide),aj,zC,Hq]
 have l1:=h.2.1
 refine⟨yE (by omega),?_⟩
 rw[aj]
 have l2:=zVh s (abg y) true
 refine⟨by omega,λz hz=>?_⟩
 rw[uS hi]
 have e:dw (pK s (abg y) true) z=if(abg z:Key)=abg y then some true else dw s z:=zVm s (abg y) (abg z) true
 rw[e] at hz
 by_cases q:(abg z:Key)=abg y
 ·exact .inr (afn q)
 ·rw[if_neg q] at hz
  exact .inl (hI.2 z hz)
theorem JR(a:Str){i:Nat}(h:i<1000):W (L_ a (i:Int)) λ_=>True:=by
 unfold L_
 rw[if_pos (zQv (by omega)),aj]
 trivial
theorem zNd{xss:List LI}(hl:(xss.length:Int)=n)(h0:1<=n)(h1:n<=60)(h:∀xs∈xss,xs≠[]/\vp n xs):W (vQ xss) λ_=>True:=by
 unfold vQ
 rw[zC,aj,zC,zC,hl,decide_eq_false (by omega),if_neg (by decide),aj,decide_eq_false (by omega),if_neg (by decide),aj,zC,zC,aj]
 refine xP (λ_ _=>True) trivial (λi y s hi _=>?_) λs _=>aj.mpr trivial
 obtain⟨e1,e2⟩:=XD hi
 have il:=xJ e2
 obtain⟨ne,ok⟩:=h y.2 (mem_of_getElem? e2)
 rw[e1]
 simp only[zC]
 refine(JR "steps of stand " (i:=i) (by omega)).imp λt _=>?_
 rw[aj,aj,aj]
 refine(Z1 ok t).imp λ_ _=>?_
 rw[decide_eq_false (λz=>ne (length_eq_zero_iff.mp (by omega))),if_neg (by decide),aj,aj]
 trivial
theorem zO8{xss:List LI}(hl:xss.length<=100)(h:∀xs∈xss,vp n xs):W (uM xss n) λ_=>True:=by
 unfold uM
 rw[zC,zC,aj]
 refine xP (λ_ _=>True) trivial (λi y s hi _=>?_) λs _=>aj.mpr trivial
 obtain⟨e1,e2⟩:=XD hi
 have il:=xJ e2
 rw[e1]
 simp only[zC]
 refine(JR "fair set " (i:=i) (by omega)).imp λt _=>?_
 rw[aj,aj,aj]
 refine(Z1 (h y.2 (mem_of_getElem? e2)) t).imp λ_ _=>?_
 rw[aj]
 trivial
def zSk(n:Int)(ms:List (Str×LI)):Prop:=(ms.map (·.1)).Nodup/\ms.length<=100/\∀m∈ms,Nm m.1=some true/\m.1.length<=1000/\vp n m.2
theorem zNe(h:zSk n ms):W (vR ms n) λ_=>True:=by
 unfold vR
 rw[zC,aj,zC,zC,aj]
 refine xP (λi s=>s.length<=i/\∀z,(Jr s z).isSome=true->z∈(ms.map (·.1)).take i) ⟨abf _,λz hz=>by cases hz⟩ (λi y s hi hI=>?_) λs _=>aj.mpr trivial
 have il:=xJ hi
 have hi':(ms.map (·.1))[i]?=some y.1:=by rw[getElem?_map,hi];rfl
 obtain⟨nm,ln,ok⟩:=h.2.2 y (mem_of_getElem? hi)
 have nin:y.1∉(ms.map (·.1)).take i:=λhz=>by
  obtain⟨j,hj⟩:=mem_iff_getElem?.mp hz
  have hji:j<i:=by
   have:=xJ hj
   rw[length_take] at this
   omega
  rw[getElem?_take_of_lt hji] at hj
  have a1:=xJ hi'
  have a2:=xJ hj
  rw[aao a1] at hi'
  rw[aao a2] at hj
  have e:(ms.map (·.1))[j]=(ms.map (·.1))[i]:=(aay hj).trans (aay hi').symm
  have:=(getElem_inj h.1).mp e
  omega
 rw[nm,zC,zC,zC,aj,aj,abn,if_neg (by decide),aj,zC]
 have hn:(Jr (Dc.mk s).kv y.1).isSome=false:=by
  cases q:(Jr s y.1).isSome with
  |false=>rfl
  |true=>exact absurd (hI.2 y.1 q) nin
 rw[hn,if_neg (by decide),aj,zC,zUv]
 have l1:=h.2.1
 refine⟨yE (by omega),?_⟩
 simp only[zC]
 have fs:W (Pg "mark " y.1) λ_=>True:=by
  unfold Pg
  rw[if_pos ln,aj]
  trivial
 refine fs.imp λt _=>?_
 rw[aj,aj,aj]
 refine(Z1 ok t).imp λ_ _=>?_
 rw[aj]
 have l2:=zVh s (ab3 y.1) true
 refine⟨by omega,λz hz=>?_⟩
 rw[uS hi']
 have e:Jr (pK s (ab3 y.1) true) z=if(ab3 z:Key)=ab3 y.1 then some true else Jr s z:=zVm s (ab3 y.1) (ab3 z) true
 rw[e] at hz
 by_cases q:(ab3 z:Key)=ab3 y.1
 ·exact .inr (Sum.inr.inj q)
 ·rw[if_neg q] at hz
  exact .inl (hI.2 z hz)
theorem zLu{xss:List LI}(h:xss.length<=100):P0 xss=some xss:=by
 have q:W (P0 xss) (· = xss):=by
  unfold P0
  rw[zC,aj,Lz (λx=>x),map_id']
  exact⟨yE (by omega),rfl⟩
 obtain⟨a,e,rfl⟩:=q
 exact e
theorem T_(C:Addr){xss:List LI}{mo:Option Dy}{fo:Option LLI}(hl:(xss.length:Int)=n)(h0:1<=n)(h1:n<=60)(h:∀xs∈xss,xs≠[]/\vp n xs)(hm:zSk n (mo.getD []))(hf:(fo.getD []).length<=100/\∀xs∈fo.getD [],vp n xs) :
  W (Ti C xss mo fo) λm=>Gr m n/\m.steps=xss/\m.marks=mo.getD []/\m.fair=fo.getD []:=by
 unfold Ti Vw
 rw[zC]
 refine(zNd hl h0 h1 h).imp λ_ _=>?_
 rw[zC,hl]
 refine(zNe hm).imp λ_ _=>?_
 rw[zC]
 refine(zO8 hf.1 hf.2).imp λ_ _=>?_
 have m1:=hm.2.1
 rw[zLu (by omega),zC,aj,zC,Lz (λx:Str×LI=>(x.1,x.2))]
 refine⟨yE (by omega),?_⟩
 have e:(mo.getD []).map (λx:Str×LI=>(x.1,x.2))=mo.getD []:=map_id' _
 rw[zLu hf.1,zC,aj,zC]
 have hv:PX xss=some (srcs xss):=by
  unfold PX
  rw[if_pos ⟨by omega,rfl,λxs hx=>by obtain⟨a,b,c,d⟩:=h xs hx;exact⟨a,b,c,λz hz=>by have:=d z hz;omega⟩⟩]
 rw[hv,aj,aj,e]
 exact⟨⟨hl,h0,h1,λxs hx=>by obtain⟨a,b,c,d⟩:=h xs hx;exact⟨a,b,d⟩,rfl⟩,rfl,rfl,rfl⟩
theorem Z2(h:bQ n xs)(qL:n<=60):vp n xs:=⟨h.nodup,by
 by_cases hn:0<=n
 ·have:=wM (n:=n.toNat) h.nodup λx hx=>by have:=h.2 x hx;omega
  omega
 ·cases xs with
  |nil=>exact abf _
  |cons x xs=>have:=h.2 x mem_cons_self;omega,h.2⟩
theorem Hr(h:Wg n xs):xs≠[]/\vp n xs:=⟨h.1,h.2.1,by have:=h.2.2.1;omega,h.2.2.2⟩
theorem Z4(hx:0<=x)(hy:0<=y):abd x y=((x.toNat&&&y.toNat:Nat):Int):=by
 unfold abd
 rw[decide_eq_true hx,decide_eq_true hy]
theorem zM0(hx:0<=x)(hy:0<=y):ada x y=((x.toNat|||y.toNat:Nat):Int):=by
 have h1:¬0<=ac7 x:=by unfold ac7;omega
 have h2:¬0<=ac7 y:=by unfold ac7;omega
 have nn:∀z:Int,ac7 (ac7 z)=z:=λz=>by unfold ac7;omega
 unfold ada abd
 rw[decide_eq_false h1,decide_eq_false h2]
 dsimp only
 rw[nn,nn,nn]
def bt(x t:Int):Bool:=x.toNat.testBit t.toNat
theorem JT(hx:0<=x)(hy:0<=y)(t:Int):bt (ada x y) t=(bt x t||bt y t):=by
 unfold bt
 rw[zM0 hx hy,abr,Nat.testBit_or]
theorem zVw(hx:0<=x)(hy:0<=y)(t:Int):bt (abd x y) t=(bt x t&&bt y t):=by
 unfold bt
 rw[Z4 hx hy,abr,Nat.testBit_and]
theorem JV(hx:0<=x)(hy:0<=y):0<=ada x y:=by rw[zM0 hx hy];exact ac8 _
theorem zV0(hx:0<=x)(hy:0<=y):0<=abd x y:=by rw[Z4 hx hy];exact ac8 _
theorem Hs(t:Int):bt 0 t=false:=by unfold bt;simp
theorem NZ(ht:0<=t)(hu:0<=u):bt (1*2^t.toNat) u=decide (u=t):=by
 unfold bt
 rw[Int.one_mul,show((2:Int)^t.toNat).toNat=2^t.toNat by
  rw[show((2:Int)^t.toNat)=((2^t.toNat:Nat):Int) by simp]
  exact abr _,Nat.testBit_two_pow]
 rw[abm,decide_eq_true_iff,decide_eq_true_iff]
 omega
theorem Z5{x:Int}(hx:0<=x)(k:Nat):0<=x/2^k:=Int.ediv_nonneg hx (Int.le_of_lt (Int.pow_pos (by decide)))
theorem Ht{x:Int}(hx:0<=x)(k:Nat):(x/2^k).toNat=x.toNat>>>k:=by
 obtain⟨m,rfl⟩:=Int.eq_ofNat_of_zero_le hx
 rw[Nat.shiftRight_eq_div_pow,abr]
 have:((m:Int)/2^k)=((m/2^k:Nat):Int):=by simp
 rw[this,abr]
theorem Z6{t:Int}(hx:0<=x):bt (x/2^t.toNat) 0=bt x t:=by
 unfold bt
 rw[Ht hx,Int.toNat_zero,Nat.testBit_shiftRight]
 rfl
theorem zVv(hx:0<=x):(abd x 1 != 0)=bt x 0:=by
 rw[Z4 hx (by decide)]
 unfold bt
 rw[Nat.testBit]
 simp only[Int.toNat_zero,Nat.shiftRight_zero,show(1:Int).toNat=1 from rfl]
 rw[Nat.and_comm]
 rw[abm]
 simp only[bne_iff_ne,ne_eq]
 omega
theorem zU1(h:∀x∈xs,0<=x/\x<n)(qL:n<=60):W (P_ xs) λb=>0<=b/\∀t:Int,0<=t->bt b t=decide (t∈xs):=by
 unfold P_
 rw[zC,aj,zC,zC,aj]
 refine xP (λi s=>0<=s/\∀t:Int,0<=t->bt s t=decide (t∈xs.take i)) ⟨by decide,λt _=>by rw[Hs];simp⟩ (λi x s hi hI=>?_) λs hI=>?_
 ·obtain⟨h0,hb⟩:=hI
  have xb:=h x (mem_of_getElem? hi)
  have e:xu 1 x=some (1*2^x.toNat):=by unfold xu;rw[if_pos ⟨xb.1,by omega,by decide⟩]
  have tk:xs.take (i+1)=xs.take i++[x]:=by rw[take_add_one,hi]<;>rfl
  have p0:(0:Int)<=1*2^x.toNat:=by rw[Int.one_mul];exact Int.le_of_lt (Int.pow_pos (by decide))
  rw[zC,zC,e,aj,aj,aj]
  refine⟨JV h0 p0,λt ht=>?_⟩
  rw[JT h0 p0,hb t ht,NZ xb.1 ht,tk,abm]
  simp
 ·rw[aj]
  rw[take_length] at hI
  exact hI
def rb(rows:LI)(s t:Int):Bool:=bt (rows.getD s.toNat 0) t
theorem Ua{rows:LI}(hl:(rows.length:Int)=n)(h0:0<=s)(h1:s<n):L2.aV rows s=some (rows.getD s.toNat 0):=by
 rw[zVy h0,getD_eq_getElem?_getD,aao (by omega)]
 rfl
def JW(rows:LI):Prop:=∀i:Nat,0<=rows.getD i 0
theorem zMz{rows:LI}{n s t:Int}(hl:(rows.length:Int)=n)(nn:JW rows)(h0:0<=s)(h1:s<n)(t0:0<=t) :
  ((((L2.aV rows s).bind λa=>jF a t).bind λa=>some (abd a 1)).bind λa=>some (a != 0))=some (rb rows s t):=by
 rw[Ua hl h0 h1]
 show(((jF _ t).bind _).bind _)=_
 unfold jF
 rw[if_pos t0]
 show some (abd (rows.getD s.toNat 0/2^t.toNat) 1 != 0)=_
 rw[zVv (Z5 (nn _) _),Z6 (nn _)]
 rfl
theorem zSt{rows:LI}{n s t:Int}(hl:(rows.length:Int)=n)(nn:JW rows)(h0:0<=s)(h1:s<n)(t0:0<=t)(t1:t<n) :
  (((((L2.aV rows s).bind λa=>jF a t).bind λa=>((L2.aV rows t).bind λb=>jF b s).bind λb=>some (abd a b)).bind λa=>some (abd a 1)).bind λa=>some (a != 0))=some (rb rows s t&&rb rows t s):=by
 rw[Ua hl h0 h1,Ua hl t0 t1]
 show((((jF _ t).bind λa=>(jF _ s).bind _).bind _).bind _)=_
 unfold jF
 rw[if_pos t0,if_pos h0]
 show some (abd (abd (rows.getD s.toNat 0/2^t.toNat) (rows.getD t.toNat 0/2^s.toNat)) 1 != 0)=_
 have a1:=Z5 (nn s.toNat) t.toNat
 have a2:=Z5 (nn t.toNat) s.toNat
 rw[zVv (zV0 a1 a2),zVw a1 a2,Z6 (nn _),Z6 (nn _)]
 rfl
theorem zVa{rows:LI}(hl:(rows.length:Int)=n)(x0:0<=x)(x1:x<n)(s0:0<=s):rb (rows.set x.toNat v) s t=if s=x then bt v t else rb rows s t:=by
 unfold rb
 rw[T9 (by omega)]
 by_cases e:s=x
 ·subst e;rw[if_pos rfl,if_pos rfl]
 ·rw[if_neg (by omega),if_neg e]
theorem zVi{rows:LI}(hl:(rows.length:Int)=n)(x0:0<=x)(x1:x<n)(nn:JW rows)(hv:0<=v):JW (rows.set x.toNat v):=λi=>by
 rw[T9 (by omega)]
 split
 ·exact hv
 ·exact nn i
inductive jf(xss:List LI)(U:LI):Int->Int->Prop
 |one {s t:Int}:t∈nxt xss s->t∈U->jf xss U s t
 |step {s u t:Int}:u∈nxt xss s->u∈U->jf xss U u t->jf xss U s t
theorem jf.trans(h:jf xss U s t)(k:jf xss U t u):jf xss U s u:=by
 induction h with
 |one a b=>exact .step a b k
 |step a b _ ih=>exact .step a b (ih k)
theorem jf.mem(h:jf xss U s t):t∈U:=by
 induction h with
 |one _ b=>exact b
 |step _ _ _ ih=>exact ih
theorem jf.mono{xss:List LI}{U V:LI}{s t:Int}(h:jf xss U s t)(k:∀x∈U,x∈V):jf xss V s t:=by
 induction h with
 |one a b=>exact .one a (k _ b)
 |step a b _ ih=>exact .step a (k _ b) ih
structure n_(xss:List LI)(U rows:LI):Prop where
 nn:JW rows
 edge:∀s∈U,∀t∈U,t∈nxt xss s->rb rows s t=true
 sound:∀s∈U,∀t:Int,0<=t->rb rows s t=true->jf xss U s t
 trans:∀s∈U,∀u∈U,∀t:Int,0<=t->rb rows s u=true->rb rows u t=true->rb rows s t=true
theorem zMv{α β:Type}{c:α->Option Bool}{f:α->Option β}{p:α->Bool}{g:α->β}:∀{xs:List α},(∀x∈xs,c x=some (p x))->(∀x∈xs,f x=some (g x))->wJ c f xs=some ((xs.filter p).map g)
 |[],_,_=>rfl
 |x::xs,hc,hf=>by
  have ih:=zMv (xs:=xs) (λy hy=>hc y (mem_cons_of_mem _ hy)) λy hy=>hf y (mem_cons_of_mem _ hy)
  show((c x).bind λb=>if b=true then(f x).bind λy=>(wJ c f xs).bind λys=>some (y::ys) else wJ c f xs)=_
  rw[hc x mem_cons_self,bnd,hf x mem_cons_self,ih,filter_cons]
  cases p x with
  |true=>rw[if_pos rfl,if_pos rfl];rfl
  |false=>rw[if_neg (by decide),if_neg (by decide)]
theorem xT{α β:Type}{c:α->Option Bool}{f:α->Option β}{p:α->Bool}{g:α->β}{xs:List α}(hl:xs.length<cap)(hc:∀x∈xs,c x=some (p x))(hf:∀x∈xs,f x=some (g x)):yW c f xs=some ((xs.filter p).map g):=by
 unfold yW
 rw[if_pos hl]
 exact zMv hc hf
theorem zU9{C:Addr}{m:au C}(g:Gr m n)(h0:0<=s)(h1:s<n):nxt m.steps s∈m.steps:=mem_of_getElem? (NT g.len h0 h1)
theorem Z7{C:Addr}{m:au C}(g:Gr m n)(h0:0<=s)(h1:s<n):W (yM m s) λxs=>xs.length<=60/\∀x,x∈xs↔x∈nxt m.steps s:=by
 unfold yM
 have f:=g.few
 obtain⟨_,nd,rg⟩:=g.row _ (zU9 g h0 h1)
 have l:=wM (n:=n.toNat) nd λx hx=>by have:=rg x hx;omega
 rw[zC,cJ h0]
 refine⟨_,NT g.len h0 h1,?_⟩
 unfold Gp
 rw[if_pos (by omega),aj]
 refine⟨by rw[(uE _).length_eq];omega,λx=>(uE _).mem_iff⟩
def dl(xs:LI):List (Key×Bool):=xs.map λx=>((abg x:Key),true)
theorem Ub:∀(xs:LI)(x:Int),(dw (dl xs) x).isSome=decide (x∈xs)
 |[],x=>by simp[dl,dw,gK]
 |y::xs,x=>by
  have ih:=Ub xs x
  unfold dw gK dl at ih ⊢
  rw[map_cons,find?_cons]
  by_cases e:y=x
  ·subst e;simp
  ·rw[decide_eq_false (show¬((abg y:Key),true).1=(abg x:Key) fromλz=>e (afn z))]
   rw[ih,abm,decide_eq_true_eq,decide_eq_true_eq,mem_cons]
   exact⟨.inr,λh=>h.resolve_left λz=>e z.symm⟩
theorem zVs(h:x∉xs):pK (dl xs) (abg x) true=dl (xs++[x]):=by
 unfold pK
 have:((dl xs).any λkv=>decide (kv.1=(abg x:Key)))=false:=by
  rw[zRe]
  have:=Ub xs x
  rw[decide_eq_false h] at this
  exact this
 rw[if_neg (by rw[this];decide)]
 unfold dl
 rw[map_append]
 rfl
theorem Wi(xs:LI):(dl xs).length=xs.length:=length_map ..
theorem zV2:W (dput kvs k v) Q↔kvs.length<cap/\Q (pK kvs (abg k) v):=by
 unfold dput
 split
 ·rename_i h;rw[aj];exact⟨λq=>⟨h,q⟩,λq=>q.2⟩
 ·rename_i h;rw[Dw];exact⟨abo,λq=>h q.1⟩
section
variable{S α β:Type}
theorem zSe{step:S->α->Option (Out S β)}{Q:Out S β->Prop}(I:Nat->S->Prop)(h0:I 0 s)(hs:∀i x s,xs[i]?=some x->I i s->W (step s x) λo=>(∃s',o=.nx s'/\I (i+1) s')\/∃b,o=.rt b/\Q (.rt b))(hd:∀s,I xs.length s->Q (.nx s)):W (uN step xs s) Q:=by
 have key:∀(ys:List α)(i:Nat)(s:S),(∀j x,ys[j]?=some x->xs[i+j]?=some x)->i+ys.length=xs.length->I i s->W (uN step ys s) Q:=by
  intro ys
  induction ys with
  |nil=>intro i s _ hl h;exact⟨.nx s,rfl,hd s ((show i=xs.length from hl)▸h)⟩
  |cons y ys ih =>
   intro i s hy hl h
   rw[zGn,zC]
   refine(hs i y s (hy 0 y rfl) h).imp ?_
   rintro o (⟨s',rfl,h'⟩|⟨b,rfl,h'⟩)
   ·refine ih (i+1) s' (λj x hx=>?_) (by rw[length_cons] at hl;omega) h'
    have:=hy (j+1) x (by simpa using hx)
    rw[show i+1+j=i+(j+1) by omega]
    exact this
   ·exact⟨.rt b,rfl,h'⟩
 exact key xs 0 s (λj x h=>by rw[ac1];exact h) (ac1 _) h0
end
theorem Uc{α:Type}{xs:List α}{x:α}(h:xs[i]?=some x):xs.take (i+1)=xs.take i++[x]:=by rw[take_add_one,h]<;>rfl
theorem JX{xs:LI}{i:Nat}{x s:Int}(h:xs[i]?=some x):s∈xs.take (i+1)↔s∈xs.take i\/s=x:=by rw[Uc h,mem_append,mem_singleton]
theorem N5{C:Addr}{m:au C}(g:Gr m n)(h0:0<=s)(h1:s<n):∀x∈nxt m.steps s,0<=x/\x<n:=(g.row _ (zU9 g h0 h1)).2.2
theorem zSl{C:Addr}{m:au C}(g:Gr m n)(hU:∀x∈U,0<=x/\x<n):W (vP m U) λrows=>(rows.length:Int)=n/\n_ m.steps U rows:=by
 unfold vP
 have few:=g.few
 have pos:=g.pos
 rw[zC]
 refine(zU1 hU few).imp λinside ⟨i0,ib⟩=>?_
 rw[zC,zC,zC,Wh g,aj,vE]
 refine⟨⟨by omega,by omega⟩,?_⟩
 have rl:=wW (n:=n) (by omega)
 rw[Lz (λ_=>(0:Int))]
 refine⟨yE (by omega),?_⟩
 rw[zC,zC,aj]
 refine xP (λi rows=>(rows.length:Int)=n/\JW rows/\∀s∈U.take i,∀t:Int,0<=t->rb rows s t=decide (t∈nxt m.steps s/\t∈U)) ⟨by rw[length_map];exact rl,λi=>?_,λs hs=>by simp at hs⟩ (λi x rows hi hI=>?_) λrows hI=>?_
 ·rw[getD_eq_getElem?_getD,getElem?_map]
  cases(rng n)[i]?<;>exact aej 0
 ·obtain⟨hl,nn,hb⟩:=hI
  have xb:=hU x (mem_of_getElem? hi)
  rw[zC,zC,zC,zC,zC]
  refine(Z7 g xb.1 xb.2).imp λns ⟨_,hns⟩=>?_
  rw[aj]
  refine(zU1 (xs:=ns) (λy hy=>N5 g xb.1 xb.2 y ((hns y).mp hy)) few).imp λb ⟨b0,bb⟩=>?_
  rw[aj,RP xb.1 (by omega),aj]
  refine⟨by rw[length_set];exact hl,zVi hl xb.1 xb.2 nn (zV0 b0 i0),λs hs t ht=>?_⟩
  rw[JX hi] at hs
  have s0:0<=s:=hs.elim (λh=>(hU s (List.mem_of_mem_take h)).1) λh=>h▸xb.1
  rw[zVa hl xb.1 xb.2 s0]
  by_cases e:s=x
  ·subst e
   rw[if_pos rfl,zVw b0 i0,bb t ht,ib t ht,abm]
   simp[hns]
  ·rw[if_neg e]
   exact hb s (hs.resolve_right e) t ht
 ·obtain⟨hl,nn,hb⟩:=hI
  rw[take_length] at hb
  rw[zC,zC,aj]
  refine xP (λi rows=>(rows.length:Int)=n/\JW rows/\(∀s∈U,∀t∈U,t∈nxt m.steps s->rb rows s t=true)/\(∀s∈U,∀t:Int,0<=t->rb rows s t=true->jf m.steps U s t)/\∀u∈U.take i,∀s∈U,∀t:Int,0<=t->rb rows s u=true->rb rows u t=true->rb rows s t=true)
   ⟨hl,nn,λs hs t ht h=>by rw[hb s hs t (hU t ht).1];exact decide_eq_true ⟨h,ht⟩,λs hs t ht h=>by
    rw[hb s hs t ht] at h
    have:=of_decide_eq_true h
    exact .one this.1 this.2,λu hu=>by simp at hu⟩ (λi u R0 hi hI=>?_) λrows hI=>?_
  ·obtain⟨hl0,nn0,ed0,Z8,tr0⟩:=hI
   have um:=mem_of_getElem? hi
   have ub:=hU u um
   rw[zC,zC,aj]
   refine xP (λj rows=>(rows.length:Int)=n/\JW rows/\∀s∈U,∀t:Int,0<=t->rb rows s t=(rb R0 s t||(decide (s∈U.take j)&&(rb R0 s u&&rb R0 u t)))) ⟨hl0,nn0,λs _ t _=>by simp⟩ (λj x rows hj hJ=>?_) λrows hJ=>?_
   ·obtain⟨hl1,Df,hb1⟩:=hJ
    have xm:=mem_of_getElem? hj
    have xb:=hU x xm
    have ex:rb rows x u=rb R0 x u:=by
     rw[hb1 x xm u ub.1]
     cases rb R0 x u<;>simp
    have eu:∀t:Int,0<=t->rb rows u t=rb R0 u t:=λt ht=>by
     rw[hb1 u um t ht]
     cases rb R0 u t<;>simp
    rw[zMz hl1 Df xb.1 xb.2 ub.1,zC,zC,aj,ex]
    by_cases c:rb R0 x u=true
    ·rw[c,if_pos rfl,zC,zC,Ua hl1 ub.1 ub.2,aj]
     unfold GC
     rw[if_pos xb.1,Ua hl1 xb.1 xb.2]
     show W (w6 rows x _) _
     rw[RP xb.1 (by omega),aj,aj]
     refine⟨by rw[length_set];exact hl1,zVi hl1 xb.1 xb.2 Df (JV (Df _) (Df _)),λs hs t ht=>?_⟩
     rw[zVa hl1 xb.1 xb.2 (hU s hs).1]
     by_cases e:s=x
     ·subst e
      rw[if_pos rfl,JT (Df _) (Df _)]
      show(rb rows s t||rb rows u t)=_
      rw[hb1 s hs t ht,eu t ht,c,decide_eq_true ((JX hj).mpr (.inr rfl))]
      cases rb R0 s t<;>cases rb R0 u t<;>simp
     ·rw[if_neg e,hb1 s hs t ht]
      have:decide (s∈U.take (j+1))=decide (s∈U.take j):=by
       rw[abm,decide_eq_true_iff,decide_eq_true_iff,JX hj]
       exact⟨λh=>h.resolve_right e,.inl⟩
      rw[this]
    ·have c:rb R0 x u=false:=by simpa using c
     rw[c,if_neg (by decide),aj,aj]
     refine⟨hl1,Df,λs hs t ht=>?_⟩
     rw[hb1 s hs t ht]
     by_cases e:s=x
     ·subst e
      rw[c]
      simp
     ·have:decide (s∈U.take (j+1))=decide (s∈U.take j):=by
       rw[abm,decide_eq_true_iff,decide_eq_true_iff,JX hj]
       exact⟨λh=>h.resolve_right e,.inl⟩
      rw[this]
   ·obtain⟨hl1,Df,hb1⟩:=hJ
    rw[take_length] at hb1
    have nw:∀s∈U,∀t:Int,0<=t->(rb rows s t=true↔rb R0 s t=true\/(rb R0 s u=true/\rb R0 u t=true)):=λs hs t ht=>by
     rw[hb1 s hs t ht,decide_eq_true hs]
     simp
    rw[aj]
    refine⟨hl1,Df,λs hs t ht h=>(nw s hs t (hU t ht).1).mpr (.inl (ed0 s hs t ht h)),λs hs t ht h=>?_,λv hv s hs t ht h1 h2=>?_⟩
    ·rcases(nw s hs t ht).mp h with h|⟨h,k⟩
     ·exact Z8 s hs t ht h
     ·exact(Z8 s hs u ub.1 h).trans (Z8 u um t ht k)
    ·rw[JX hi] at hv
     refine(nw s hs t ht).mpr ?_
     rcases hv with hv|rfl
     ·have vU:=List.mem_of_mem_take hv
      have v0:=(hU v vU).1
      have T:=tr0 v hv
      rcases(nw s hs v v0).mp h1 with a|⟨a,b⟩<;>rcases(nw v vU t ht).mp h2 with c|⟨c,d⟩
      ·exact .inl (T s hs t ht a c)
      ·exact .inr ⟨T s hs u ub.1 a c,d⟩
      ·exact .inr ⟨a,T u um t ht b c⟩
      ·exact .inr ⟨a,d⟩
     ·have a:rb R0 s v=true:=((nw s hs v ub.1).mp h1).elim id And.left
      have b:rb R0 v t=true:=((nw v um t ht).mp h2).elim id And.right
      exact .inr ⟨a,b⟩
  ·obtain⟨hl1,Df,ed,so,tr⟩:=hI
   rw[take_length] at tr
   rw[aj]
   exact⟨hl1,Df,ed,so,λs hs u hu t ht=>tr u hu s hs t ht⟩
def ring(rows U:LI)(s:Int):LI:=U.filter λt=>rb rows s t&&rb rows t s
theorem aQ:t∈ring rows U s↔t∈U/\rb rows s t=true/\rb rows t s=true:=by
 unfold ring
 rw[mem_filter,aas]
structure tW(xss:List LI)(U G:LI):Prop where
 sub:∀s∈G,s∈U
 nd:G.Nodup
 go:∀s∈G,∀t∈G,jf xss G s t
theorem n_.full(R:n_ xss U rows)(h0:∀x∈U,0<=x)(h:jf xss U s t):s∈U->rb rows s t=true:=by
 induction h with
 |one a b=>exactλhs=>R.edge _ hs _ b a
 |step a b p ih=>exactλhs=>R.trans _ hs _ b _ (h0 _ p.mem) (R.edge _ hs _ b a) (ih b)
theorem zPz(R:n_ xss U rows)(h0:∀x∈U,0<=x)(nd:U.Nodup)(ho:o∈U):tW xss U (ring rows U o):=by
 have key:∀{s t:Int},jf xss U s t->s∈ring rows U o->t∈ring rows U o->jf xss (ring rows U o) s t:=by
  intro s t h
  induction h with
  |one a b=>exactλ_ ht=>.one a ht
  |@step s u t a b p ih =>
   intro hs ht
   obtain⟨sU,s1,s2⟩:=aQ.mp hs
   obtain⟨tU,t1,t2⟩:=aQ.mp ht
   have u1:rb rows o u=true:=R.trans o ho s sU u (h0 u b) s1 (R.edge s sU u b a)
   have u2:rb rows u o=true:=R.trans u b t tU o (h0 o ho) (R.full h0 p b) t2
   have hu:=aQ.mpr ⟨b,u1,u2⟩
   exact .step a hu (ih hu ht)
 refine⟨λs hs=>(aQ.mp hs).1,nd.filter _,λs hs t ht=>?_⟩
 obtain⟨sU,s1,s2⟩:=aQ.mp hs
 obtain⟨tU,t1,t2⟩:=aQ.mp ht
 exact key (R.sound s sU t (h0 t tU) (R.trans s sU o ho t (h0 t tU) s2 t1)) hs ht
structure Hu(rows U:LI)(told:List LI):Prop where
 are:∀G∈told,∃s∈U,rb rows s s=true/\G=ring rows U s
 nd:told.flatten.Nodup
 all:∀s∈U,rb rows s s=true->s∈told.flatten
theorem zO4(h:∀x∈xs,0<=x/\x<n)(hl:xs.length<64):Pr xs=some (vT xs)/\bQ n (vT xs):=by
 unfold Pr
 rw[if_pos hl]
 exact⟨rfl,Pu xs,λx hx=>h x (cI.mp hx)⟩
theorem Hv{C:Addr}{m:au C}(g:Gr m n)(hx:∀x∈xs,0<=x/\x<n)(hl:xs.length<64):W (Tp m xs) λtold=>∃rows,n_ m.steps (vT xs) rows/\Hu rows (vT xs) told:=by
 obtain⟨e,hR⟩:=zO4 hx hl
 have few:=g.few
 have pos:=g.pos
 unfold Tp
 rw[e,zC,aj,zC]
 generalize vT xs=U at hR ⊢
 have h0:∀x∈U,0<=x:=λx hx=>(hR.2 x hx).1
 have Ul:U.length<=n.toNat:=wM hR.nodup λx hx=>by have:=hR.2 x hx;omega
 refine(zSl g hR.2).imp λrows ⟨rl,R⟩=>?_
 rw[zC,aj,zC,aj,zC,zC,aj]
 refine xP (λi z=>∃told:List LI,z=(told,dl told.flatten)/\(∀G∈told,∃s∈U,rb rows s s=true/\G=ring rows U s)/\told.flatten.Nodup/\(∀s∈U.take i,rb rows s s=true->s∈told.flatten)/\told.length<=i) ⟨[],rfl,λG hG=>(by cases hG),by simp,λs hs=>(by simp at hs),aaq _⟩ (λi x z hi hI=>?_) λz hI=>?_
 ·obtain⟨told,rfl,are,nd,all,tl⟩:=hI
  have xm:=mem_of_getElem? hi
  have xb:=hR.2 x xm
  have sub:∀t∈told.flatten,t∈U:=λt ht=>by
   obtain⟨G,hG,tG⟩:=mem_flatten.mp ht
   obtain⟨s,_,_,rfl⟩:=are G hG
   exact(aQ.mp tG).1
  have il:i<U.length:=(aa2.mp hi).1
  rw[zC,zC]
  show W (if(!(dw (dl told.flatten) x).isSome)=true then _ else _) _
  rw[Ub]
  by_cases xf:x∈told.flatten
  ·rw[decide_eq_true xf,abn,if_neg (by decide),aj,if_neg (by decide),aj,aj]
   exact⟨told,rfl,are,nd,λs hs h=>((JX hi).mp hs).elim (λq=>all s q h) λq=>q▸xf,by omega⟩
  ·rw[decide_eq_false xf,ae1,if_pos rfl,zMz rl R.nn xb.1 xb.2 xb.1,aj]
   by_cases c:rb rows x x=true
   ·have dis:∀t∈ring rows U x,t∉told.flatten:=λt ht tf=>by
     obtain⟨G,hG,tG⟩:=mem_flatten.mp tf
     obtain⟨s,sU,_,rfl⟩:=are G hG
     obtain⟨tU,t1,t2⟩:=aQ.mp ht
     obtain⟨_,t3,t4⟩:=aQ.mp tG
     exact xf (mem_flatten.mpr ⟨_,hG,aQ.mpr ⟨xm,R.trans s sU t tU x xb.1 t3 t2,R.trans x xm t tU s (h0 s sU) t1 t4⟩⟩)
    have rn:(ring rows U x).Nodup:=hR.nodup.filter _
    have DP:(told.flatten++ring rows U x).Nodup:=by
     rw[nodup_append]
     exact⟨nd,rn,λa ha b hb e=>dis b hb (e▸ha)⟩
    have ln:(told.flatten++ring rows U x).length<=n.toNat:=wM DP λy hy=>by
     have:y∈U:=(mem_append.mp hy).elim (sub y) λq=>(aQ.mp q).1
     have:=hR.2 y this
     omega
    rw[c,if_pos rfl,zC,zC,aj,xT (p:=λt=>rb rows x t&&rb rows t x) (g:=λt=>t) (yE (by omega)) (λt ht=>zSt rl R.nn xb.1 xb.2 (hR.2 t ht).1 (hR.2 t ht).2) (λt _=>rfl),aj,map_id']
    show W ((push told (ring rows U x)).bind _) _
    rw[zC,sE]
    refine⟨yE (by omega),?_⟩
    rw[zC,zC,aj]
    refine xP (λk d=>d=dl (told.flatten++(ring rows U x).take k)) (by rw[List.take_zero,append_nil]) (λk y d hk hd=>?_) λd hd=>?_
    ·subst hd
     have hk:(ring rows U x)[k]?=some y:=hk
     have ym:=mem_of_getElem? hk
     have kl:=(aa2.mp hk).1
     have yn:y∉told.flatten++(ring rows U x).take k:=λq=>by
      rcases mem_append.mp q with q|q
      ·exact dis y ym q
      ·obtain⟨j,hj,e⟩:=getElem_of_mem q
       rw[List.getElem_take] at e
       rw[length_take] at hj
       have e2:=(aa2.mp hk).2
       have:=(List.nodup_iff_pairwise_ne.mp rn)
       have ne:=List.pairwise_iff_getElem.mp this j k (by omega) kl (by omega)
       exact ne (e.trans e2.symm)
     rw[zC,zV2,zVs yn,Wi]
     refine⟨yE ?_,?_⟩
     ·rw[length_append] at ln ⊢
      rw[length_take]
      omega
     ·rw[aj,Uc hk,List.append_assoc]
    ·subst hd
     rw[show(ring rows U x).take (U.filter λt=>rb rows x t&&rb rows t x).length=ring rows U x from take_length,aj,aj]
     refine⟨told++[ring rows U x],by rw[flatten_append,flatten_singleton],λG hG=>?_,by rw[flatten_append,flatten_singleton];exact DP,λs hs h=>?_,by rw[length_append];exact abl tl⟩
     ·rcases mem_append.mp hG with q|q
      ·exact are G q
      ·exact⟨x,xm,c,mem_singleton.mp q⟩
     ·rw[flatten_append,flatten_singleton,mem_append]
      exact((JX hi).mp hs).elim (λq=>.inl (all s q h)) λq=>.inr (by rw[q];exact aQ.mpr ⟨xm,c,c⟩)
   ·have c':rb rows x x=false:=by simpa using c
    rw[c',if_neg (by decide),aj,aj]
    exact⟨told,rfl,are,nd,λs hs h=>((JX hi).mp hs).elim (λq=>all s q h) λq=>absurd (q▸h) c,by omega⟩
 ·obtain⟨told,rfl,are,nd,all,_⟩:=hI
  rw[take_length] at all
  rw[aj]
  exact⟨rows,R,are,nd,all⟩
def Af(n:Int)(fair:List LI):Prop:=fair.length<=100/\∀F∈fair,vp n F
def wQ(fair:List LI)(G:LI):Bool:=fair.all λF=>G.any λx=>decide (x∈F)
theorem pR(h:vp n xs)(qL:n<=60)(h0:0<=n):xs.length<=60:=by
 have:=wM (n:=n.toNat) h.1 λx hx=>by have:=h.2.2 x hx;omega
 omega
theorem zSq{C:Addr}{m:au C}{n:Int}(g:Gr m n)(hf:Af n m.fair){i:Nat}{F:LI}(hi:m.fair[i]?=some F):W (xW m (i:Int)) λxs=>xs.length<=60/\∀x,x∈xs↔x∈F:=by
 unfold xW
 have few:=g.few
 have pos:=g.pos
 have l:=pR (hf.2 F (mem_of_getElem? hi)) few (by omega)
 rw[zC,cJ (by omega)]
 refine⟨F,by rw[abr];exact hi,?_⟩
 unfold Gp
 rw[if_pos (by omega),aj]
 exact⟨by rw[(uE _).length_eq];exact l,λx=>(uE _).mem_iff⟩
theorem zO5{xs ys:LI}(h:xs.length<64\/ys.length<64)(h1:xs.length<4000)(h2:ys.length<4000):wC xs ys=some (vT (xs.filter λz=>decide (z∈ys))):=by
 unfold wC VJ
 rw[if_pos ⟨h,h1,h2⟩]
theorem Z9{xs ys:LI}(h1:xs.length<64)(h2:ys.length<4000):wC xs ys=some (vT (xs.filter λz=>decide (z∈ys))):=zO5 (.inl h1) (by omega) h2
theorem lM:(vT xs).length=0↔xs=[]:=by
 rw[length_eq_zero_iff]
 constructor
 ·intro h
  cases xs with
  |nil=>rfl
  |cons x xs =>
   have:=(cI (x:=x) (ns:=x::xs)).mpr mem_cons_self
   rw[h] at this
   cases this
 ·intro h;subst h;rfl
theorem zSm{C:Addr}{m:au C}(g:Gr m n)(hf:Af n m.fair){G:LI}(hG:G.length<64):W (Tt m G) λo=>o.isNone=wQ m.fair G:=by
 unfold Tt
 have hl:=hf.1
 rw[zC,zC,vE]
 refine⟨⟨by omega,by omega⟩,zSe (λi _=>∀F∈m.fair.take i,(G.any λx=>decide (x∈F))=true) (λF hF=>by simp at hF) (λi x s hi hI=>?_) λs hI=>?_⟩
 ·obtain⟨rfl,hx⟩:=Ab hi
  have il:i<m.fair.length:=by omega
  have hF:m.fair[i]?=some m.fair[i]:=aao il
  rw[zC,zC,zC,zC,zC,zC]
  refine(zSq g hf hF).imp λys ⟨yl,ym⟩=>?_
  rw[aj,aj]
  show W (wC G ys) _
  rw[Z9 hG (by omega),aj,aj,aj]
  by_cases e:G.filter (λz=>decide (z∈ys))=[]
  ·rw[decide_eq_true (show((vT (G.filter λz=>decide (z∈ys))).length:Int)=0 by have:=lM.mpr e;omega),if_pos rfl,zC,aj,aj]
   refine .inr ⟨_,rfl,?_⟩
   show W (some (some (i:Int))) _
   rw[aj]
   symm
   show wQ m.fair G=false
   have:(G.any λx=>decide (x∈m.fair[i]))=false:=by
    rw[any_eq_false]
    intro x hx q
    have q:=of_decide_eq_true q
    have:x∈G.filter (λz=>decide (z∈ys)):=mem_filter.mpr ⟨hx,decide_eq_true ((ym x).mpr q)⟩
    rw[e] at this
    cases this
   unfold wQ
   rw[List.all_eq_false]
   exact⟨_,getElem_mem il,by rw[this];decide⟩
  ·rw[decide_eq_false (λz=>e (lM.mp (by omega))),if_neg (by decide),aj]
   refine .inl ⟨(),rfl,λF hF'=>?_⟩
   rw[Uc hF,mem_append,mem_singleton] at hF'
   rcases hF' with q|q
   ·exact hI F q
   ·subst q
    obtain⟨x,hx⟩:=List.exists_mem_of_ne_nil _ e
    rw[mem_filter] at hx
    exact any_eq_true.mpr ⟨x,hx.1,decide_eq_true ((ym x).mp (of_decide_eq_true hx.2))⟩
 ·have e:(rng (m.fair.length:Int)).length=m.fair.length:=by have:=wW (n:=(m.fair.length:Int)) (by omega);omega
  rw[e,take_length] at hI
  rw[RN,aj]
  symm
  show wQ m.fair G=true
  exact all_eq_true.mpr hI
theorem zTb{U:LI}(h:U.length<=k):(ring rows U s).length<=k:=aaz (length_filter_le ..) h
structure tX(xss:List LI)(fair:List LI)(U goal:LI):Prop where
 nd:goal.Nodup
 sub:∀s∈goal,s∈U
 of:∀s∈goal,∃G:LI,tW xss U G/\s∈G/\wQ fair G=true/\∀t∈G,t∈goal
 all:∀s∈U,∀G:LI,(∀t,t∈G↔t∈U/\jf xss U s t/\jf xss U t s)->jf xss U s s->wQ fair G=true->s∈goal
theorem zJl(h:∀t,t∈G↔t∈G'):wQ fair G=wQ fair G':=by
 unfold wQ
 congr 1
 funext F
 rw[abm,any_eq_true,any_eq_true]
 exact⟨λ⟨x,a,b⟩=>⟨x,(h x).mp a,b⟩,λ⟨x,a,b⟩=>⟨x,(h x).mpr a,b⟩⟩
theorem Hw{C:Addr}{m:au C}(g:Gr m n)(hf:Af n m.fair)(hx:∀x∈xs,0<=x/\x<n)(hl:xs.length<64) :
  W (vG m xs) λa=>a.length<=60/\(∀G∈a,tW m.steps (vT xs) G/\wQ m.fair G=true)/\W (Nu a) λgoal=>goal=a.flatten/\tX m.steps m.fair (vT xs) goal:=by
 have few:=g.few
 have pos:=g.pos
 have hR:=(zO4 hx hl).2
 have h0:∀x∈vT xs,0<=x:=λx hx=>(hR.2 x hx).1
 have Ul:(vT xs).length<=n.toNat:=wM hR.nodup λx hx=>by have:=hR.2 x hx;omega
 unfold vG
 rw[zC]
 refine(Hv g hx hl).imp λtold ⟨rows,R,T⟩=>?_
 have tl:told.length<=60/\told.flatten.length<=60:=by
  have f:told.flatten.length<=n.toNat:=wM T.nd λy hy=>by
   obtain⟨G,hG,yG⟩:=mem_flatten.mp hy
   obtain⟨s,_,_,rfl⟩:=T.are G hG
   have:=hR.2 y (aQ.mp yG).1
   omega
  refine⟨?_,by omega⟩
  have ne:∀G∈told,1<=G.length:=λG hG=>by
   obtain⟨s,sU,c,rfl⟩:=T.are G hG
   exact length_pos_of_mem (aQ.mpr ⟨sU,c,c⟩)
  have:∀l:List LI,(∀G∈l,1<=G.length)->l.length<=l.flatten.length:=λl=>by
   induction l with
   |nil=>intro _;exact abf _
   |cons G l ih =>
    intro h
    rw[flatten_cons,length_append,length_cons]
    have a:=ih λG' hG'=>h G' (mem_cons_of_mem _ hG')
    have b:=h G mem_cons_self
    omega
  have:=this told ne
  omega
 have gl:∀G∈told,G.length<64:=λG hG=>by
  obtain⟨s,_,_,rfl⟩:=T.are G hG
  have:=zTb (rows:=rows) (s:=s) Ul
  omega
 rw[xT (p:=wQ m.fair) (g:=λG=>G) (yE (by omega)) (λG hG=>by
  obtain⟨o,e,q⟩:=zSm g hf (gl G hG)
  rw[e]
  exact congrArg some q) (λ_ _=>rfl),aj,map_id']
 have fl:∀l:List LI,(l.filter (wQ m.fair)).flatten.Sublist l.flatten:=λl=>by
  induction l with
  |nil=>exact List.Sublist.refl _
  |cons G l ih =>
   rw[filter_cons]
   split
   ·rw[flatten_cons,flatten_cons];exact(List.Sublist.refl _).append ih
   ·rw[flatten_cons];exact ih.trans (List.sublist_append_right ..)
 have js:W (Nu (told.filter (wQ m.fair))) (· = (told.filter (wQ m.fair)).flatten):=by
  unfold Nu
  rw[zC,aj,zC,zC,aj]
  refine xP (λi s=>s=((told.filter (wQ m.fair)).take i).flatten) (by rw[List.take_zero];rfl) (λi G s hi hI=>?_) λs hI=>?_
  ·subst hI
   unfold BJ
   have e:((told.filter (wQ m.fair)).take i).flatten++G=((told.filter (wQ m.fair)).take (i+1)).flatten:=by rw[Uc hi,flatten_append,flatten_singleton]
   have l:(((told.filter (wQ m.fair)).take i).flatten++G).length<=60:=by
    rw[e]
    have a:((told.filter (wQ m.fair)).take (i+1)).flatten.Sublist (told.filter (wQ m.fair)).flatten:=by
     have e2:(told.filter (wQ m.fair)).flatten=((told.filter (wQ m.fair)).take (i+1)).flatten++((told.filter (wQ m.fair)).drop (i+1)).flatten:=by rw[<-flatten_append,take_append_drop]
     rw[e2]
     exact List.sublist_append_left ..
    have:=(a.trans (fl told)).length_le
    omega
   rw[length_append] at l
   rw[if_pos (yE (by omega)),zC,aj,aj,e]
  ·subst hI
   rw[take_length,aj]
 refine⟨aaz (length_filter_le ..) tl.1,λG hG=>?_,js.imp λgoal e=>⟨e,?_⟩⟩
 ·obtain⟨o,oU,_,rfl⟩:=T.are G (mem_filter.mp hG).1
  exact⟨zPz R h0 hR.nodup oU,(mem_filter.mp hG).2⟩
 subst e
 refine⟨T.nd.sublist (fl told),λs hs=>?_,λs hs=>?_,λs sU G hG p q=>?_⟩
 ·obtain⟨G,hG,sG⟩:=mem_flatten.mp hs
  obtain⟨o,_,_,rfl⟩:=T.are G (mem_filter.mp hG).1
  exact(aQ.mp sG).1
 ·obtain⟨G,hG,sG⟩:=mem_flatten.mp hs
  obtain⟨o,oU,_,rfl⟩:=T.are G (mem_filter.mp hG).1
  exact⟨_,zPz R h0 hR.nodup oU,sG,(mem_filter.mp hG).2,λt ht=>mem_flatten.mpr ⟨_,hG,ht⟩⟩
 ·obtain⟨G',hG',sG⟩:=mem_flatten.mp (T.all s sU (R.full h0 p sU))
  obtain⟨o,oU,oo,rfl⟩:=T.are G' hG'
  obtain⟨_,s1,s2⟩:=aQ.mp sG
  refine mem_flatten.mpr ⟨_,mem_filter.mpr ⟨hG',?_⟩,sG⟩
  rw[<-q]
  refine zJl λt=>?_
  rw[hG t,aQ]
  constructor
  ·rintro⟨tU,t1,t2⟩
   exact⟨tU,R.sound s sU t (h0 t tU) (R.trans s sU o oU t (h0 t tU) s2 t1),R.sound t tU s (h0 s sU) (R.trans t tU o oU s (h0 s sU) t2 s1)⟩
  ·rintro⟨tU,t1,t2⟩
   exact⟨tU,R.trans o oU s sU t (h0 t tU) s1 (R.full h0 t1 sU),R.trans t tU s sU o (h0 o oU) (R.full h0 t2 tU) s2⟩
theorem N6{C:Addr}{m:au C}(g:Gr m n)(hf:Af n m.fair)(hx:∀x∈xs,0<=x/\x<n)(hl:xs.length<64) :
  W ((vG m xs).bind λa=>Nu a) (tX m.steps m.fair (vT xs)):=by
 rw[zC]
 exact(Hw g hf hx hl).imp λa ⟨_,_,h⟩=>h.imp λ_ q=>q.2
theorem Hx{C:Addr}{m:au C}(g:Gr m n){goal:LI}(ht:∀x∈through,0<=x/\x<n)(hg:goal.Nodup/\∀x∈goal,0<=x/\x<n):W (uV m through goal) λR=>∃d,tV m.steps through goal n d/\R=pick n λs=>(dg d s).isSome:=by
 unfold uV
 have few:=g.few
 have pos:=g.pos
 rw[zC]
 refine(zKm g ht hg).imp λd D=>?_
 have rl:=wW (n:=n) (by omega)
 rw[zC,aj,zUj D.len]
 have e:yW (λx:Int×Option Int=>some x.2.isSome) (λx:Int×Option Int=>some x.1) ((rng n).map λs=>(s,dg d s))=some (pick n λs=>(dg d s).isSome):=by
  rw[xT (p:=λx:Int×Option Int=>x.2.isSome) (g:=λx:Int×Option Int=>x.1) (yE (by rw[length_map];omega)) (λ_ _=>rfl) (λ_ _=>rfl)]
  congr 1
  rw[List.filter_map,map_map]
  exact map_id' _
 rw[e,aj]
 exact⟨d,D,rfl⟩
structure Z_(xss fair:List LI)(n:Int)(U R:LI):Prop where
 rise:bQ n R
 sub:∀s∈R,s∈U
 go:∀s∈R,∃t∈nxt xss s,t∈R
 come:∀s∈R,∀F∈fair,∃x∈F,x=s\/jf xss R s x
theorem Hy(c:Int):W (uL c) λn=>1<=n/\n<=12:=by
 unfold uL
 simp only[zC,qJ,Bv,aj,Ac]
 refine⟨by decide,λ_=>⟨⟨by decide,by decide⟩,by decide,by omega⟩,λ_=>⟨⟨by decide,by decide⟩,by decide,by omega⟩⟩
theorem zSp(c:Int)(h0:1<=n)(h1:n<=60):W (TQ c n) (Af n):=by
 unfold TQ
 rw[zC,aj,zC,Bv]
 refine⟨⟨by decide,by decide⟩,?_⟩
 rw[zC,zC,zC,qJ]
 refine⟨by decide,?_⟩
 have c4:0<=c%4/\c%4<4:=by omega
 rw[vE]
 refine⟨⟨by omega,by omega⟩,?_⟩
 have rl:=wW (n:=c%4) c4.1
 refine xP (λi z=>z.2.length<=i/\∀F∈z.2,vp n F) ⟨aaq _,λF hF=>by cases hF⟩ (λi x z hi hI=>?_) λz hI=>?_
 ·obtain⟨rfl,hx⟩:=Ab hi
  obtain⟨rest,fair⟩:=z
  obtain⟨fl,fo⟩:=hI
  dsimp only at fl fo
  rw[zC,aj,zC,zC,zC]
  refine(Hj c (k:=400+(i:Int)) (by omega) (by omega)).imp λr hr=>?_
  rw[qJ]
  refine⟨by decide,?_⟩
  have r5:0<=r%5/\r%5<5:=by omega
  rw[cJ r5.1]
  refine⟨_,aao (by simp;omega),?_⟩
  generalize([(1:Int),2,2,3,6])[(r%5).toNat]'_=way
  rw[zC,zC,vE]
  refine⟨⟨by omega,by omega⟩,?_⟩
  have rn:=wW (n:=n) (by omega)
  refine xP (λj z=>bQ j z.1/\z.1.length<=j) ⟨Ye,aaq _⟩ (λj y z hj hJ=>?_) λz hJ=>?_
  ·obtain⟨rfl,hy⟩:=Ab hj
   simp only[zC,Bv,Vq,qJ,Vp,aj,Ac,sE]
   refine⟨.inl ⟨by decide,by decide⟩,(Hj c (by omega) (by omega)).imp λr2 _=>⟨by decide,⟨by decide,by decide,by decide⟩,λ_=>⟨by decide,?_⟩,λ_=>?_⟩⟩
   all_goals exact⟨λ_=>⟨yE (by omega),⟨by decide,by decide⟩,Yg hJ.1 (by omega) (by omega),by rw[length_append];exact abl hJ.2⟩,λ_=>⟨⟨by decide,by decide⟩,Yh hJ.1 (by omega),by omega⟩⟩
  ·obtain⟨cQ,Ud⟩:=z
   obtain⟨sr,_⟩:=hJ
   rw[rn] at sr
   have s1:vp n cQ:=Z2 sr h1
   have JZ:∀F:LI,vp n F->W ((push fair F).bind λf=>some (Ud,f)) λz=>z.2.length<=i+1/\∀F∈z.2,vp n F:=λF hF=>by
    rw[zC,sE]
    refine⟨yE (by omega),?_⟩
    rw[aj]
    refine⟨by show(fair++[F]).length<=_;rw[length_append];exact abl fl,λF' hF'=>?_⟩
    rcases mem_append.mp hF' with q|q
    ·exact fo F' q
    ·exact(mem_singleton.mp q)▸hF
   rw[zC,zC]
   have cond:W (if(decide (cQ=([]:LI)))=true then((pQ ((10:Int)) ((18:Int))).bind λZJ=>some (decide ((c)<(ZJ)))).bind λZK=>if ZK=true then((uC (c) (((450:Int))+((i:Int)))).bind λa32=>cF (a32) ((8:Int))).bind λa33=>some (decide (((0:Int))<(a33))) else some false else some false) λ_=>True:=by
    rw[Ac]
    refine⟨λ_=>?_,λ_=>aj.mpr trivial⟩
    rw[zC,zC,Vq]
    refine⟨⟨by decide,by decide,by decide⟩,?_⟩
    rw[aj,Ac]
    refine⟨λ_=>?_,λ_=>aj.mpr trivial⟩
    rw[zC,zC]
    refine(Hj c (k:=450+(i:Int)) (by omega) (by omega)).imp λr2 _=>?_
    rw[qJ]
    exact⟨by decide,aj.mpr trivial⟩
   refine cond.imp λb _=>?_
   rw[Ac]
   refine⟨λ_=>?_,λ_=>?_⟩
   ·rw[zC,zC,zC]
    refine(Hj c (k:=460+(i:Int)) (by omega) (by omega)).imp λr2 hr2=>?_
    rw[qJ]
    refine⟨by omega,?_⟩
    rw[aj,aj]
    refine JZ _ ⟨by simp,by simp,λz hz=>?_⟩
    rw[mem_singleton.mp hz]
    exact⟨acp _ (by omega),ace _ (by omega)⟩
   ·rw[aj]
    exact JZ _ s1
 ·rw[aj]
  exact⟨by omega,hI.2⟩
theorem Wj(h:bQ n U):vT U=U:=Px (Pu U) h.1 λ_=>cI
inductive Rc(xss:List LI)(U:LI)(s:Int):Int->Prop
 |here:Rc xss U s s
 |on {t u:Int}:Rc xss U s t->u∈nxt xss t->u∈U->Rc xss U s u
theorem Rc.mem(h:Rc xss U s t)(hs:s∈U):t∈U:=by
 cases h with
 |here=>exact hs
 |on _ _ h=>exact h
theorem Rc.trans(h:Rc xss U s t)(k:Rc xss U t u):Rc xss U s u:=by
 induction k with
 |here=>exact h
 |on _ a b ih=>exact .on ih a b
theorem Rc.pth(h:Rc xss U s t):t=s\/jf xss U s t:=by
 induction h with
 |here=>exact .inl rfl
 |@on t u _ a b ih =>
  rcases ih with rfl|ih
  ·exact .inr (.one a b)
  ·exact .inr (ih.trans (.one a b))
theorem jf.rc(h:jf xss U s t):Rc xss U s t:=by
 induction h with
 |one a b=>exact .on .here a b
 |step a b _ ih=>exact(Rc.on .here a b).trans ih
def zV3(xss:List LI)(U:LI)(s:Int)(D:Dc Bool):Prop:=∃seen:LI,D=Dc.mk (dl seen)/\∀t,t∈seen↔Rc xss U s t
theorem zSn{xss:List LI}(hl:(xss.length:Int)=n)(qL:n<=60)(sf:s∈found)(hb:∀x∈found,0<=x/\x<n):W (Qd xss found s) (zV3 xss found s):=by
 unfold Qd
 have N7:∀{row:LI},row.Nodup->(∀x∈row,x∈found/\Rc xss found s x)->row.length<=n.toNat:=λnd sub=>wM nd λx hx=>by have:=hb x (sub x hx).1;omega
 rw[zC,aj,zC,aj,zC]
 refine zSc (λst=>∃seen:LI,st.1=dl seen/\seen.Nodup/\(∀x∈seen,x∈found/\Rc xss found s x)/\(∀x∈st.2,x∈seen)/\s∈seen/\st.2.length<=seen.length/\∀x∈seen,x∈st.2\/∀u∈nxt xss x,u∈found->u∈seen) (λst=>2*(100-st.1.length)+st.2.length)
  ⟨[s],rfl,by simp,λx hx=>by rw[mem_singleton.mp hx];exact⟨sf,.here⟩,λx hx=>hx,by simp,aaq _,λx hx=>.inl hx⟩ (show 2*(100-1)+1<fuel by decide) λst hst=>?_
 obtain⟨st1,wt⟩:=st
 obtain⟨seen,rfl,nd,sub,Ue,ss,wl,cl⟩:=hst
 rw[aj]
 by_cases we:wt=[]
 ·subst we
  rw[show(!decide (((dl seen,([]:LI)):(List (Key×Bool))×LI).2=([]:LI)))=false from rfl,if_neg (by decide),aj]
  refine⟨seen,rfl,λt=>⟨λh=>(sub t h).2,λh=>?_⟩⟩
  induction h with
  |here=>exact ss
  |on _ a b ih=>exact((cl _ ih).resolve_left (λz=>by cases z)) _ a b
 ·obtain⟨pre,y,rfl⟩:∃pre y,wt=pre++[y]:=⟨_,_,(List.dropLast_concat_getLast we).symm⟩
  rw[show(!decide (((dl seen,pre++[y]):(List (Key×Bool))×LI).2=([]:LI)))=true by
   show(!decide (pre++[y]=[]))=true
   rw[decide_eq_false we];rfl,if_pos rfl]
  have ys:y∈seen:=Ue y (by simp)
  have yb:=hb y (sub y ys).1
  show W (((((pre++[y]).getLast?.bind λy=>L2.aV xss y)).bind λxs=>_).bind _) _
  rw[List.getLast?_concat,zC,zC,zC,aj,cJ yb.1]
  refine⟨_,NT hl yb.1 yb.2,?_⟩
  refine xP (λi z=>∃(dh Dg:LI),z=(dl dh,Dg)/\dh.Nodup/\(∀x∈dh,x∈found/\Rc xss found s x)/\(∀x∈Dg,x∈dh)/\seen <+: dh/\pre <+: Dg/\(∀x∈dh,x∈seen\/x∈Dg)/\(∀u∈(nxt xss y).take i,u∈found->u∈dh)/\dh.length+pre.length=Dg.length+seen.length)
   ⟨seen,pre,by show(dl seen,(pre++[y]).dropLast)=_;rw[List.dropLast_concat],nd,sub,λx hx=>Ue x (mem_append.mpr (.inl hx)),List.prefix_rfl,List.prefix_rfl,λx hx=>.inl hx,λu hu=>by simp at hu,by omega⟩ (λi u z hi hI=>?_) λz hI=>?_
  ·obtain⟨dh,Dg,rfl,DP,tY,Ug,pr2,pw2,new2,cl2,len2⟩:=hI
   have tk:(nxt xss y).take (i+1)=(nxt xss y).take i++[u]:=by rw[take_add_one,hi]<;>rfl
   have old:∀v∈(nxt xss y).take i++[u],v∈found->v∈dh\/v=u:=λv hv vu=>by
    rcases mem_append.mp hv with a|a
    ·exact .inl (cl2 v a vu)
    ·exact .inr (mem_singleton.mp a)
   rw[zC,zC]
   by_cases uf:u∈found
   ·rw[decide_eq_true uf,if_pos rfl,aj]
    show W (if(!(dw (dl dh) u).isSome)=true then _ else _) _
    rw[Ub]
    by_cases ur:u∈dh
    ·rw[decide_eq_true ur,abn,if_neg (by decide),aj,aj]
     exact⟨dh,Dg,rfl,DP,tY,Ug,pr2,pw2,new2,λv hv vu=>by
      rw[tk] at hv
      exact(old v hv vu).elim id λe=>e▸ur,len2⟩
    ·rw[decide_eq_false ur,ae1,if_pos rfl,zC,zV2,zVs ur,Wi]
     have l2:=N7 DP tY
     have l1:=N7 nd sub
     have pl:pre.length+1<=seen.length:=by have:(pre++[y]).length<=seen.length:=wl;rw[length_append] at this;exact this
     refine⟨yE (by omega),?_⟩
     rw[zC,sE]
     refine⟨yE (show Dg.length<=1000 by omega),?_⟩
     rw[aj,aj]
     refine⟨dh++[u],Dg++[u],rfl,?_,λx hx=>?_,λx hx=>?_,pr2.trans (List.prefix_append ..),pw2.trans (List.prefix_append ..),λx hx=>?_,λv hv vu=>?_,by rw[length_append,length_append];simp;omega⟩
     ·rw[nodup_append]
      exact⟨DP,by simp,λa ha b hb e=>ur (by rw[mem_singleton.mp hb] at e;exact e▸ha)⟩
     ·rcases mem_append.mp hx with a|a
      ·exact tY x a
      ·rw[mem_singleton.mp a];exact⟨uf,.on (sub y ys).2 (mem_of_getElem? hi) uf⟩
     ·rw[mem_append] at hx ⊢
      exact hx.imp (Ug x) id
     ·rw[mem_append] at hx
      rw[mem_append]
      rcases hx with a|a
      ·exact(new2 x a).imp id .inl
      ·exact .inr (.inr a)
     ·rw[tk] at hv
      rw[mem_append,mem_singleton]
      exact old v hv vu
   ·rw[decide_eq_false uf,if_neg (by decide),aj,if_neg (by decide),aj,aj]
    exact⟨dh,Dg,rfl,DP,tY,Ug,pr2,pw2,new2,λv hv vu=>by
     rw[tk] at hv
     exact(old v hv vu).elim id λe=>absurd (e▸vu) uf,len2⟩
  ·obtain⟨dh,Dg,rfl,DP,tY,Ug,⟨tl,rfl⟩,⟨tw,rfl⟩,new2,cl2,len2⟩:=hI
   rw[take_length] at cl2
   rw[aj]
   have l2:=N7 DP tY
   have pl:pre.length+1<=seen.length:=by have:(pre++[y]).length<=seen.length:=wl;rw[length_append] at this;exact this
   refine⟨⟨seen++tl,rfl,DP,tY,Ug,mem_append.mpr (.inl ss),by show(pre++tw).length<=_;omega,λx hx=>?_⟩,?_⟩
   ·rcases new2 x hx with a|a
    ·rcases cl x a with b|b
     ·rcases mem_append.mp b with b|b
      ·exact .inl (mem_append.mpr (.inl b))
      ·rw[mem_singleton.mp b];exact .inr cl2
     ·exact .inr λu hu uf=>mem_append.mpr (.inl (b u hu uf))
    ·exact .inl a
   ·show 2*(100-(dl (seen++tl)).length)+(pre++tw).length<2*(100-(dl seen).length)+(pre++[y]).length
    rw[Wi,Wi]
    rw[length_append] at len2 l2 ⊢
    rw[length_append] at len2
    simp only[length_append,length_singleton] at len2 l2 ⊢
    omega
theorem cls(P:Int->Prop):∃p:Int->Bool,∀x,p x=true↔P x:=⟨λx=>@decide _ (ab5 (P x)),λx=>by
 constructor
 ·intro h;exact@of_decide_eq_true _ (ab5 _) h
 ·intro h;exact@decide_eq_true _ (ab5 _) h⟩
def Qh(xss fair:List LI)(U:LI)(b:Int):Prop:=jf xss U b b/\∀F∈fair,∃x∈F,Rc xss U b x/\Rc xss U x b
theorem zUh{U:LI}{p:Int->Bool}{i:Nat}{x:Int}(h:U[i]?=some x):(U.take (i+1)).filter p=(U.take i).filter p++(if p x=true then[x] else[]):=by
 rw[Uc h,List.filter_append]
 congr 1
 by_cases c:p x=true<;>simp[c]
theorem Hz(D:tV xss U goal n d)(G:tX xss fair U goal)(hU:∀x∈U,0<=x/\x<n)(s:Int):s∈pick n (λs=>(dg d s).isSome)↔s∈U/\∃b∈U,Qh xss fair U b/\Rc xss U s b:=by
 have base:∀b∈U,(b∈goal↔Qh xss fair U b):=λb bU=>by
  constructor
  ·intro h
   obtain⟨R,RO,bR,met,_⟩:=G.of b h
   have up:∀{x y:Int},x∈R->y∈R->jf xss U x y:=λhx hy=>(RO.go _ hx _ hy).mono RO.sub
   refine⟨up bR bR,λF hF=>?_⟩
   obtain⟨x,xR,xF⟩:=any_eq_true.mp (all_eq_true.mp met F hF)
   exact⟨x,of_decide_eq_true xF,(up bR xR).rc,(up xR bR).rc⟩
  ·rintro⟨p,m⟩
   obtain⟨f,hf⟩:=cls λt=>jf xss U b t/\jf xss U t b
   refine G.all b bU (U.filter f) (λt=>by rw[mem_filter,hf t]) p ?_
   refine all_eq_true.mpr λF hF=>?_
   obtain⟨x,xF,r1,r2⟩:=m F hF
   have p1:jf xss U b x:=r1.pth.elim (λe=>e▸p) id
   have p2:jf xss U x b:=r2.pth.elim (λe=>by rw[<-e];exact e▸p) id
   exact any_eq_true.mpr ⟨x,mem_filter.mpr ⟨p1.mem,(hf x).mpr ⟨p1,p2⟩⟩,decide_eq_true xF⟩
 have key:∀(k:Nat)(s:Int),0<=s->s<n->dg d s=some (k:Int)->s∈U/\∃b∈goal,Rc xss U s b:=by
  intro k
  induction k with
  |zero =>
   intro s s0 s1 e
   have hg:=(D.zero s s0 s1).mp e
   exact⟨G.sub s hg,s,hg,.here⟩
  |succ k ih =>
   intro s s0 s1 e
   have ng:s∉goal:=λhg=>by
    have:=(D.zero s s0 s1).mpr hg
    rw[e] at this
    have:=aay this
    omega
   obtain⟨sU,t,tn,t0,t1,e2⟩:=D.via s _ s0 s1 e ng
   obtain⟨tU,b,bg,r⟩:=ih t t0 t1 (by rw[e2];congr 1;omega)
   exact⟨sU,b,bg,(Rc.on .here tn tU).trans r⟩
 have back:∀{s t:Int},Rc xss U s t->s∈U->(dg d t).isSome=true->(dg d s).isSome=true:=λh=>by
  induction h with
  |here=>exactλ_ q=>q
  |@on t u r a b ih =>
   intro sU q
   have tU:=r.mem sU
   obtain⟨k,e⟩:=ab2.mp q
   obtain⟨j,ej,_⟩:=D.near t u k (hU t tU).1 (hU t tU).2 (hU u b).1 (hU u b).2 tU a e
   exact ih sU (by rw[ej];rfl)
 rw[dY]
 constructor
 ·rintro⟨s0,s1,q⟩
  obtain⟨k,e⟩:=ab2.mp q
  have kp:=D.pos s k s0 s1 e
  obtain⟨sU,b,bg,r⟩:=key k.toNat s s0 s1 (by rw[e];congr 1;omega)
  exact⟨sU,b,G.sub b bg,(base b (G.sub b bg)).mp bg,r⟩
 ·rintro⟨sU,b,bU,bB,r⟩
  refine⟨(hU s sU).1,(hU s sU).2,back r sU ?_⟩
  rw[(D.zero b (hU b bU).1 (hU b bU).2).mpr ((base b bU).mpr bB)]
  rfl
theorem HB{C:Addr}{m:au C}(g:Gr m n)(hf:Af n m.fair)(hU:bQ n U):W (Tv m U) λR=>bQ n R/\∀s,s∈R↔s∈U/\∃b∈U,Qh m.steps m.fair U b/\Rc m.steps U s b:=by
 unfold Tv
 have few:=g.few
 have Ul:U.length<=n.toNat:=wM hU.nodup λx hx=>by have:=hU.2 x hx;omega
 have q:=N6 g hf hU.2 (by omega)
 rw[Wj hU,zC] at q
 rw[zC,zC,zC,zC,zC,zC]
 refine q.imp λa qa=>?_
 rw[aj]
 refine qa.imp λgoal G=>?_
 rw[aj,aj,aj]
 show W (uV m U goal) _
 refine(Hx g hU.2 ⟨G.nd,λx h=>hU.2 x (G.sub x h)⟩).imp λR ⟨d,D,e⟩=>?_
 subst e
 exact⟨Qg n _,Hz D G hU.2⟩
theorem Uh{C:Addr}{m:au C}(g:Gr m n):xE m=some (rng n):=by
 unfold xE
 rw[Wh g]
 have:=g.pos
 have:=g.few
 show Ad n=_
 unfold Ad
 rw[if_pos ⟨by omega,by omega⟩]
 rfl
theorem Ui(h:n<=60)(h0:0<=n):(rng n).length<=60:=by have:=wW (n:=n) h0;omega
theorem zG0{C:Addr}{m:au C}(g:Gr m n){xs:LI}(hl:xs.length<4000):vO m xs=some (pick n λz=>!decide (z∈xs)):=by
 unfold vO
 rw[Uh g]
 have r:=Ui g.few (by have:=g.pos;omega)
 show PK (rng n) xs=_
 unfold PK
 rw[if_pos ⟨by omega,hl⟩]
 exact congrArg some (Wj (Qg n _))
theorem vK(h:bQ n xs)(qL:n<=60):xs.length<=60:=by
 by_cases h0:0<=n
 ·have:=wM (n:=n.toNat) h.nodup λx hx=>by have:=h.2 x hx;omega
  omega
 ·cases xs with
  |nil=>exact abf _
  |cons a l=>have:=h.2 a mem_cons_self;omega
theorem zIo{ys:LI}(hx:bQ n xs)(qL:n<=60)(hy:ys.length<4000):wC xs ys=some (xs.filter λz=>decide (z∈ys)):=by
 rw[Z9 (by have:=vK hx qL;omega) hy]
 exact congrArg some (Wj (n:=n) ⟨hx.1.filter _,λx h=>hx.2 x (mem_filter.mp h).1⟩)
theorem zNb{ys:LI}(hx:bQ n xs)(qL:n<=60)(hy:ys.length<4000):uY xs ys=some (xs.filter λz=>!decide (z∈ys)):=by
 unfold uY PK
 rw[if_pos ⟨by have:=vK hx qL;omega,hy⟩]
 exact congrArg some (Wj (n:=n) ⟨hx.1.filter _,λx h=>hx.2 x (mem_filter.mp h).1⟩)
def Uj(xss fair:List LI)(n:Int)(L:LI):Prop:=bQ n L/\∀s,s∈L↔s∈rng n/\∃b∈rng n,Qh xss fair (rng n) b/\Rc xss (rng n) s b
theorem zL4(n:Int):bQ n (rng n):=⟨Z0 n,λx hx=>d_.mp hx⟩
theorem zKn{C:Addr}{m:au C}(g:Gr m n)(hf:Af n m.fair):W (Qa m) (Uj m.steps m.fair n):=by
 unfold Qa
 rw[Uh g]
 exact HB g hf (zL4 n)
def into(xss:List LI)(G:LI)(s:Int):Bool:=(nxt xss s).any λt=>decide (t∈G)
theorem N8{C:Addr}{m:au C}(g:Gr m n)(h0:0<=s)(h1:s<n){fl:List Bool}(hl:(fl.length:Int)=n)(hh:∀t:Int,0<=t->t<n->fl.getD t.toNat false=decide (t∈G)):uJ m s fl=some (into m.steps G s):=by
 unfold uJ
 obtain⟨xs,e,xl,xm⟩:=Z7 g h0 h1
 rw[e]
 have bd:∀x∈xs,0<=x/\x<n:=λx hx=>by
  have hx':=(xm x).mp hx
  have hr:nxt m.steps s∈m.steps:=mem_of_getElem? (NT g.len h0 h1)
  exact(g.row _ hr).2.2 x hx'
 show((yW _ _ xs).bind _)=_
 rw[xT (p:=λ_=>true) (g:=λx=>decide (x∈G)) (yE (by omega)) (λ_ _=>rfl) (λx hx=>?_)]
 ·show some _=some _
  congr 1
  rw[filter_eq_self.mpr (λ_ _=>rfl)]
  unfold into
  rw[abm,any_eq_true,any_eq_true]
  constructor
  ·rintro⟨b,hb,e⟩
   obtain⟨x,hx,rfl⟩:=mem_map.mp hb
   exact⟨x,(xm x).mp hx,e⟩
  ·rintro⟨x,hx,e⟩
   exact⟨_,mem_map.mpr ⟨x,(xm x).mpr hx,rfl⟩,e⟩
 ·obtain⟨x0,x1⟩:=bd x hx
  have q:W (aV fl x) (· = decide (x∈G)):=by
   rw[cJ x0]
   refine⟨fl.getD x.toNat false,?_,hh x x0 x1⟩
   rw[getD_eq_getElem?_getD,aao (by omega)]
   rfl
  obtain⟨a,ea,e2⟩:=q
  rw[ea,e2]
theorem zNc{C:Addr}{m:au C}(g:Gr m n)(hG:∀x∈G,0<=x/\x<n):vN m (rng n) G=some (pick n (into m.steps G)):=by
 unfold vN
 obtain⟨fl,e,hl,hh⟩:=ZV g hG
 rw[e]
 have r:=Ui g.few (by have:=g.pos;omega)
 show yW _ _ (rng n)=_
 rw[xT (p:=into m.steps G) (g:=λx=>x) (yE (by omega)) (λx hx=>?_) (λ_ _=>rfl),map_id']
 ·rfl
 ·obtain⟨x0,x1⟩:=d_.mp hx
  exact N8 g x0 x1 hl hh
theorem aac{α:Type}{m:Option α}{a:α}(h:m=some a):W m (· = a):=⟨a,h,rfl⟩
theorem oW{α:Type}{m:Option α}{a:α}(h:W m (· = a)):m=some a:=by obtain⟨b,e,rfl⟩:=h;exact e
theorem zF5{C:Addr}{m:au C}(g:Gr m n)(hL:bQ n L)(hS:bQ n S):wP m L S=some (pick n (into m.steps (L.filter λz=>decide (z∈S)))):=by
 apply oW
 unfold wP
 rw[zC,zC,zC,Uh g,aj,zC,zC,zIo hL g.few (by have:=vK hS g.few;omega),aj,aj,aj,aj]
 exact aac (zNc g λx hx=>hL.2 x (mem_filter.mp hx).1)
def Wk(xss:List LI)(G:LI)(s:Int)(r:dZ):Prop:=(into xss G s=false/\r=.none)\/∃t,t∈nxt xss s/\t∈G/\r=.step t
theorem zIn{C:Addr}{m:au C}(g:Gr m n){G:LI}(hG:G.length<4000)(h0:0<=s)(h1:s<n):W (((((yM m s).bind λa3=>some ((a3,(G,())))).bind λz2=>wC z2.1 z2.2.1).bind λa5=>some ((a5,()))).bind λz4=>wB z4.1) (Wk m.steps G s):=by
 obtain⟨xs,e,xl,xm⟩:=Z7 g h0 h1
 rw[e]
 show W (((wC xs G).bind _).bind _) _
 rw[Z9 (by omega) hG]
 show W (wB (vT (xs.filter λz=>decide (z∈G)))) _
 unfold wB
 by_cases c:xs.filter (λz=>decide (z∈G))=[]
 ·rw[c,if_pos (by rfl),aj]
  refine .inl ⟨?_,rfl⟩
  cases q:into m.steps G s with
  |false=>rfl
  |true =>
   unfold into at q
   obtain⟨t,ht,e⟩:=any_eq_true.mp q
   have:t∈xs.filter λz=>decide (z∈G):=mem_filter.mpr ⟨(xm t).mpr ht,e⟩
   rw[c] at this
   cases this
 ·have hne:vT (xs.filter λz=>decide (z∈G))≠[]:=λz=>by
   have:=lM (xs:=xs.filter λz=>decide (z∈G))
   rw[z] at this
   exact c (this.mp rfl)
  obtain⟨t,l,e2⟩:=List.exists_cons_of_ne_nil hne
  rw[e2,if_neg (by rw[decide_eq_true_eq,length_cons];omega),zC,cJ (by omega)]
  refine⟨t,rfl,?_⟩
  rw[aj]
  have tm:t∈vT (xs.filter λz=>decide (z∈G)):=by rw[e2];exact mem_cons_self
  obtain⟨t1,t2⟩:=mem_filter.mp (cI.mp tm)
  exact .inr ⟨t,(xm t).mp t1,of_decide_eq_true t2,rfl⟩
theorem Wm{α β:Type}{f:α->Option β}{R:α->β->Prop}:∀{xs:List α},(∀x∈xs,W (f x) (R x))->∃ys:List β,ys.length=xs.length/\wJ (λ_=>some true) f xs=some ys/\∀(i:Nat) x,xs[i]?=some x->∃y,ys[i]?=some y/\R x y
 |[],_=>⟨[],rfl,rfl,λi x e=>by simp at e⟩
 |x::xs,h=>by
  obtain⟨y,ey,ry⟩:=h x mem_cons_self
  obtain⟨ys,l,e,r⟩:=Wm (xs:=xs) λz hz=>h z (mem_cons_of_mem _ hz)
  refine⟨y::ys,by rw[length_cons,length_cons,l],?_,λi z hz=>?_⟩
  ·unfold wJ
   show(f x).bind (λy=>(wJ (λ_=>some true) f xs).bind λys=>some (y::ys))=_
   rw[ey]
   show(wJ (λ_=>some true) f xs).bind _=_
   rw[e]
   rfl
  ·cases i with
   |zero=>simp at hz;subst hz;exact⟨y,rfl,ry⟩
   |succ i=>exact r i z (by simpa using hz)
theorem rN{α:Type}{pre:List α}{x:α}:L2.aV (pre++[x]) (-(1:Int))=some x:=by
 unfold L2.aV rP
 rw[if_neg (by decide),if_pos (by rw[length_append,length_singleton];omega)]
 show(pre++[x])[((-(1:Int))+((pre++[x]).length:Nat)).toNat]?=some x
 have e:((-(1:Int))+((pre++[x]).length:Nat)).toNat=pre.length:=by rw[length_append,length_singleton];omega
 rw[e,getElem?_append_right (aaq _),Nat.sub_self]
 rfl
theorem zOh(h:bQ n xs):Vs xs=xs :=
 Px (Sd (zDz xs) ((uE xs).nodup_iff.mpr h.nodup)) h.1 λs=>(uE xs).mem_iff
theorem zLt{C:Addr}{m:au C}(qL:n<=60)(hs:∀mk∈m.marks,bQ n mk.2)(x:Str):W (yY m x) λS=>(∃mk∈m.marks,mk.1=x/\S=mk.2)\/((∀mk∈m.marks,mk.1≠x)/\S=[]):=by
 unfold yY
 rw[zC,zC,aj]
 refine zSe (λi _=>∀mk∈m.marks.take i,mk.1≠x) (λmk h=>by simp at h) (λi mk _ hi hI=>?_) λ_ hI=>?_
 ·have mm:=mem_of_getElem? hi
  by_cases c:mk.1=x
  ·rw[decide_eq_true c,if_pos rfl,zC]
   have r:=vK (hs mk mm) qL
   unfold Gp
   rw[if_pos (by omega),aj,aj,zOh (hs mk mm)]
   refine .inr ⟨_,rfl,?_⟩
   show W (some mk.2) _
   rw[aj]
   exact .inl ⟨mk,mm,c,rfl⟩
  ·rw[decide_eq_false c,if_neg (by decide),aj]
   refine .inl ⟨(),rfl,λmk' h=>?_⟩
   rw[take_add_one,hi,mem_append] at h
   rcases h with h|h
   ·exact hI mk' h
   ·have e:mk'=mk:=by simpa using h
    rw[e];exact c
 ·rw[take_length] at hI
  rw[RN,aj]
  exact .inr ⟨hI,rfl⟩
inductive Pl{C:Addr}(m:au C)(n:Int):Tr->LI->Prop
 |all:Pl m n .all (rng n)
 |mark {mk:Str×LI}:mk∈m.marks->Pl m n (.mark mk.1) mk.2
 |aG {x:Str}:(∀mk∈m.marks,mk.1≠x)->Pl m n (.mark x) []
 |no {t:Tr} {S:LI}:Pl m n t S->Pl m n (.one 0 t) (pick n λz=>!decide (z∈S))
theorem Pl.rise{C:Addr}{m:au C}(hs:∀mk∈m.marks,bQ n mk.2)(h:Pl m n t S):bQ n S:=by
 cases h with
 |all=>exact zL4 n
 |mark h=>exact hs _ h
 |aG _=>exact⟨.nil,λx h=>by cases h⟩
 |no _=>exact Qg n _
theorem zO9{ms:List (Str×LI)}(nd:(ms.map (·.1)).Nodup)(ha:a∈ms)(hb:b∈ms)(e:a.1=b.1):a=b:=by
 induction ms with
 |nil=>cases ha
 |cons x l ih =>
  rw[map_cons,nodup_cons] at nd
  rcases mem_cons.mp ha with rfl|ha'
  ·rcases mem_cons.mp hb with rfl|hb'
   ·rfl
   ·exact absurd (mem_map.mpr ⟨b,hb',e.symm⟩) nd.1
  ·rcases mem_cons.mp hb with rfl|hb'
   ·exact absurd (mem_map.mpr ⟨a,ha',e⟩) nd.1
   ·exact ih nd.2 ha' hb'
theorem HD{C:Addr}{m:au C}(g:Gr m n)(nd:(m.marks.map (·.1)).Nodup)(hs:∀mk∈m.marks,bQ n mk.2)(L:LI)(h:Pl m n t S):∀k,t.depth<k->k<=100->W (yT k m L (bh.mk (cl:=cl) t)) λT=>∃pre,T=pre++[S]/\T.length<=k:=by
 induction h with
 |all =>
  intro k hk h100
  obtain⟨k,rfl⟩:∃j,k=j+1:=⟨k-1,by omega⟩
  show W (yQ (yT k) m L _) _
  unfold yQ
  rw[zC,aj,zC,aj,zC,zC,aj]
  show W (xH _ [] _) _
  refine xP (λ_ z=>z=([],[])) rfl (λi x z hi=>by simp at hi) λz hz=>?_
  subst hz
  rw[zC,zC]
  show W (xE m) _
  rw[Uh g,aj,sE]
  refine⟨yE (by simp),?_⟩
  rw[aj]
  exact⟨[],rfl,by simp⟩
 |mark hm =>
  intro k hk h100
  obtain⟨k,rfl⟩:∃j,k=j+1:=⟨k-1,by omega⟩
  show W (yQ (yT k) m L _) _
  unfold yQ
  rw[zC,aj,zC,aj,zC,zC,aj]
  show W (xH _ [] _) _
  refine xP (λ_ z=>z=([],[])) rfl (λi x z hi=>by simp at hi) λz hz=>?_
  subst hz
  rw[zC,zC]
  show W (yY m _) _
  refine(zLt g.few hs _).imp λS hS=>?_
  rw[sE]
  refine⟨yE (by simp),?_⟩
  rw[aj]
  rcases hS with⟨mk,h1,h2,rfl⟩|⟨h1,_⟩
  ·rw[zO9 nd h1 hm h2]
   exact⟨[],rfl,by simp⟩
  ·exact absurd rfl (h1 _ hm)
 |aG hm =>
  intro k hk h100
  obtain⟨k,rfl⟩:∃j,k=j+1:=⟨k-1,by omega⟩
  show W (yQ (yT k) m L _) _
  unfold yQ
  rw[zC,aj,zC,aj,zC,zC,aj]
  show W (xH _ [] _) _
  refine xP (λ_ z=>z=([],[])) rfl (λi x z hi=>by simp at hi) λz hz=>?_
  subst hz
  rw[zC,zC]
  show W (yY m _) _
  refine(zLt g.few hs _).imp λS hS=>?_
  rw[sE]
  refine⟨yE (by simp),?_⟩
  rw[aj]
  rcases hS with⟨mk,h1,h2,rfl⟩|⟨_,rfl⟩
  ·exact absurd h2 (hm mk h1)
  ·exact⟨[],rfl,by simp⟩
 |@no t S hp ih =>
  intro k hk h100
  obtain⟨k,rfl⟩:∃j,k=j+1:=⟨k-1,by omega⟩
  have hk':t.depth<k:=by
   have:(Tr.one 0 t).depth=t.depth+1:=rfl
   omega
  show W (yQ (yT k) m L _) _
  unfold yQ
  rw[zC,aj,zC,aj,zC,zC,aj]
  show W (xH _ [bh.mk t] _) _
  refine xP (λi z=>(i=0/\z=([],[]))\/(i=1/\z.2=[S]/\z.1.length<=k)) (.inl ⟨rfl,rfl⟩) (λi x z hi hz=>?_) λz hz=>?_
  ·have hi0:i=0/\x=bh.mk t:=by
    cases i with
    |zero=>simp at hi;exact⟨rfl,hi.symm⟩
    |succ i=>simp at hi
   obtain⟨rfl,rfl⟩:=hi0
   rcases hz with⟨_,rfl⟩|⟨z1,_⟩
   ·rw[zC,zC]
    refine(ih k hk' (by omega)).imp λT ⟨pre,e,hl⟩=>?_
    subst e
    unfold BP
    rw[if_pos (yE (by show 0+_<=1000;omega)),aj,zC,zC]
    show W (L2.aV (pre++[S]) (-(1:Int))) _
    rw[rN,aj,sE]
    refine⟨yE (by simp),?_⟩
    rw[aj]
    exact .inr ⟨rfl,rfl,hl⟩
   ·cases z1
  ·obtain⟨told,sets⟩:=z
   rcases hz with⟨z1,_⟩|⟨_,z2,z3⟩
   ·cases z1
   ·have z2':sets=[S]:=z2
    subst z2'
    have z3':told.length<=k:=z3
    rw[zC,zC]
    show W (((((L2.aV [S] (0:Int)).bind λa4=>some ((a4,()))).bind λb5=>some (m,b5)).bind λz3=>vO z3.1 z3.2.1)) _
    rw[zC,zC,zC,cJ (by decide)]
    refine⟨S,rfl,?_⟩
    rw[aj,aj]
    show W (vO m S) _
    rw[zG0 g (by have:=vK (hp.rise hs) g.few;omega),aj,sE]
    refine⟨yE (by show told.length<=1000;omega),?_⟩
    rw[aj]
    exact⟨told,rfl,by show(told++[_]).length<=_;rw[length_append];exact abl z3'⟩
theorem zO7{C:Addr}{m:au C}(g:Gr m n)(hf:Af n m.fair)(nd:(m.marks.map (·.1)).Nodup)(hs:∀mk∈m.marks,bQ n mk.2)(h:Pl m n t S)(hd:t.depth<6):Tw m (bh.mk (cl:=cl) t)=some S:=by
 apply oW
 unfold Tw V8
 rw[zC,zC,zC,zC]
 refine(zKn g hf).imp λL _=>?_
 rw[aj,aj]
 show W (yT 6 m L (bh.mk t)) _
 refine(HD g nd hs L h 6 hd (by decide)).imp λT ⟨pre,e,_⟩=>?_
 subst e
 rw[rN,aj]
def Wn(xss:List LI)(n:Int)(G:LI)(b:Bool)(R:List (Bool×dZ)):Prop:=(R.length:Int)=n/\∀s:Int,0<=s->s<n->∃r,R[s.toNat]?=some (decide (into xss G s=b),r)/\Wk xss G s r
theorem zGy{C:Addr}{m:au C}(g:Gr m n){G:LI}(hG:G.length<4000):W (yU m G) λrs=>(rs.length:Int)=n/\∀s:Int,0<=s->s<n->∃r,rs[s.toNat]?=some r/\Wk m.steps G s r:=by
 unfold yU
 rw[zC,Uh g,aj]
 have r:=Ui g.few (by have:=g.pos;omega)
 obtain⟨ys,l,e,q⟩:=Wm (f:=λ(x1:Int)=>((((yM m x1).bind λa3=>some ((a3,(G,())))).bind λz2=>wC z2.1 z2.2.1).bind λa5=>some ((a5,()))).bind λz4=>wB z4.1) (R:=λs r=>Wk m.steps G s r) (xs:=rng n) λx hx=>by
  obtain⟨x0,x1⟩:=d_.mp hx
  exact zIn g hG x0 x1
 unfold yW
 rw[if_pos (yE (by omega)),e,aj]
 refine⟨by rw[l];exact wW (by have:=g.pos;omega),λs s0 s1=>?_⟩
 refine q s.toNat s ?_
 have hl:=wW (n:=n) (by omega)
 have:(rng n)[s.toNat]?=some (rng n)[s.toNat]:=aao (by omega)
 rw[this]
 have:=Ab this
 congr 1
 omega
theorem zU0{C:Addr}{m:au C}(g:Gr m n){G:LI}(hG:G.length<4000)(hh:bQ n hold)(ht:∀s,0<=s->s<n->(s∈hold↔into m.steps G s=b)):W ((JL m hold).bind λa5=>(yU m G).bind λb6=>BW a5 b6) (Wn m.steps n G b):=by
 rw[zC]
 refine(ZV g hh.2).imp λfl ⟨l1,h1⟩=>?_
 rw[zC]
 refine(zGy g hG).imp λrs ⟨l2,h2⟩=>?_
 have:=g.few
 have hl:fl.length=rs.length:=by omega
 unfold BW
 rw[if_pos ⟨hl,by omega⟩,aj]
 refine⟨by rw[List.length_zip,<-hl,Nat.min_self];exact l1,λs s0 s1=>?_⟩
 obtain⟨r,e,q⟩:=h2 s s0 s1
 refine⟨r,?_,q⟩
 have e1:fl[s.toNat]?=some (decide (into m.steps G s=b)):=by
  have q1:=h1 s s0 s1
  rw[getD_eq_getElem?_getD,aao (by omega)] at q1
  rw[aao (by omega)]
  have q2:fl[s.toNat]'(by omega)=decide (s∈hold):=q1
  rw[q2]
  congr 1
  exact decide_eq_decide.mpr (ht s s0 s1)
 rw[getElem?_zip_eq_some]
 exact⟨e1,e⟩
section
variable{C:Addr}{cl:Hd->Addr}{m:au C}{n:Int}{t:Tr}{S:LI}
theorem HF(h:W (wP m L S) Q):W (vA m L (bh.mk (cl:=cl) (.one 1 t)) [S]) Q:=by
 unfold vA
 rw[if_neg (show¬bF .all (bh.mk (cl:=cl) (.one 1 t)).t=true from aa0),if_neg (show¬bF .mark (bh.mk (cl:=cl) (.one 1 t)).t=true from aa0),if_neg (show¬bF (.one 0) (bh.mk (cl:=cl) (.one 1 t)).t=true by show¬decide ((1:Fin 7)=0)=true;decide),zC,if_neg (show¬bF (.two 0) (bh.mk (cl:=cl) (.one 1 t)).t=true from aa0),aj,zC,if_neg (show¬bF (.two 1) (bh.mk (cl:=cl) (.one 1 t)).t=true from aa0),aj]
 unfold xA
 rw[if_pos (show bF (.one 1) (bh.mk (cl:=cl) (.one 1 t)).t=true by show decide ((1:Fin 7)=1)=true;decide),zC,zC,zC,zC,cJ (by decide)]
 refine⟨S,rfl,?_⟩
 rw[aj,aj,aj]
 exact h
theorem HJ(h:W (vO m S) λS'=>W (wP m L S') λX=>W (vO m X) Q):W (vA m L (bh.mk (cl:=cl) (.one 2 t)) [S]) Q:=by
 unfold vA
 rw[if_neg (show¬bF .all (bh.mk (cl:=cl) (.one 2 t)).t=true from aa0),if_neg (show¬bF .mark (bh.mk (cl:=cl) (.one 2 t)).t=true from aa0),if_neg (show¬bF (.one 0) (bh.mk (cl:=cl) (.one 2 t)).t=true by show¬decide ((2:Fin 7)=0)=true;decide),zC,if_neg (show¬bF (.two 0) (bh.mk (cl:=cl) (.one 2 t)).t=true from aa0),aj,zC,if_neg (show¬bF (.two 1) (bh.mk (cl:=cl) (.one 2 t)).t=true from aa0),aj]
 unfold xA
 rw[if_neg (show¬bF (.one 1) (bh.mk (cl:=cl) (.one 2 t)).t=true by show¬decide ((2:Fin 7)=1)=true;decide),if_pos (show bF (.one 2) (bh.mk (cl:=cl) (.one 2 t)).t=true by show decide ((2:Fin 7)=2)=true;decide),zC,zC,zC,zC,zC,zC,zC,zC,zC,zC,cJ (by decide)]
 refine⟨S,rfl,?_⟩
 rw[aj,aj]
 refine W.imp h λS' h1=>?_
 rw[aj,aj,aj]
 refine W.imp h1 λX h2=>?_
 rw[aj,aj]
 exact h2
theorem HN(h:W (wC L S) λG=>W (yU m G) Q):W (uZ m L (bh.mk (cl:=cl) (.one 1 t)) [S] hold) Q:=by
 unfold uZ
 rw[if_pos (show bF (.one 1) (bh.mk (cl:=cl) (.one 1 t)).t=true by show decide ((1:Fin 7)=1)=true;decide),zC,zC,zC,zC,zC,zC,cJ (by decide)]
 refine⟨S,rfl,?_⟩
 rw[aj,aj]
 refine W.imp h λG h1=>?_
 rw[aj,aj]
 exact h1
theorem HS(h:W (uY L S) λG=>W (yU m G) Q):W (uZ m L (bh.mk (cl:=cl) (.one 2 t)) [S] hold) Q:=by
 unfold uZ
 rw[if_neg (show¬bF (.one 1) (bh.mk (cl:=cl) (.one 2 t)).t=true by show¬decide ((2:Fin 7)=1)=true;decide),if_pos (show bF (.one 2) (bh.mk (cl:=cl) (.one 2 t)).t=true by show decide ((2:Fin 7)=2)=true;decide),zC,zC,zC,zC,zC,zC,cJ (by decide)]
 refine⟨S,rfl,?_⟩
 rw[aj,aj]
 refine W.imp h λG h1=>?_
 rw[aj,aj]
 exact h1
theorem HW(g:Gr m n)(hf:Af n m.fair)(nd:(m.marks.map (·.1)).Nodup)(hs:∀mk∈m.marks,bQ n mk.2)(h:Pl m n t S)(hd:t.depth<6):W (JN m (bh.mk (cl:=cl) (.one 1 t))) λR=>∃L,Uj m.steps m.fair n L/\Wn m.steps n (L.filter λz=>decide (z∈S)) true R:=by
 have rS:=h.rise hs
 have lS:=vK rS g.few
 unfold JN
 rw[zC]
 refine(zKn g hf).imp λL hL=>?_
 have lL:=vK hL.1 g.few
 rw[zC,zC,aj]
 show W (yW _ _ [bh.mk t]) _
 rw[xT (p:=λ_=>true) (g:=λ_=>S) (yE (by simp)) (λ_ _=>rfl) (λx hx=>by rw[mem_singleton.mp hx];exact zO7 g hf nd hs h hd),aj]
 show W ((vA m L (bh.mk (.one 1 t)) [S]).bind _) _
 rw[zC]
 refine HF ?_
 rw[zF5 g hL.1 rS,aj]
 have q:=zU0 g (G:=L.filter λz=>decide (z∈S)) (b:=true) (by have:=length_filter_le (λz=>decide (z∈S)) L;omega) (Qg n (into m.steps (L.filter λz=>decide (z∈S)))) λs s0 s1=>by rw[dY];exact⟨λq=>q.2.2,λq=>⟨s0,s1,q⟩⟩
 rw[zC] at q ⊢
 refine W.imp q λfl q1=>?_
 rw[zC] at q1 ⊢
 refine HN ?_
 rw[zIo hL.1 g.few (show S.length<4000 by omega),aj]
 exact W.imp q1 λrs q2=>W.imp q2 λR hR=>⟨L,hL,hR⟩
theorem HX(g:Gr m n)(hf:Af n m.fair)(nd:(m.marks.map (·.1)).Nodup)(hs:∀mk∈m.marks,bQ n mk.2)(h:Pl m n t S)(hd:t.depth<6):W (JN m (bh.mk (cl:=cl) (.one 2 t))) λR=>∃L,Uj m.steps m.fair n L/\Wn m.steps n (L.filter λz=>!decide (z∈S)) false R:=by
 have rS:=h.rise hs
 have lS:=vK rS g.few
 unfold JN
 rw[zC]
 refine(zKn g hf).imp λL hL=>?_
 have lL:=vK hL.1 g.few
 have eG:(L.filter λz=>decide (z∈pick n λz=>!decide (z∈S)))=L.filter λz=>!decide (z∈S):=by
  refine eU λz hz=>?_
  have zb:=hL.1.2 z hz
  rw[abm,decide_eq_true_iff,dY]
  exact⟨λq=>q.2.2,λq=>⟨zb.1,zb.2,q⟩⟩
 rw[zC,zC,aj]
 show W (yW _ _ [bh.mk t]) _
 rw[xT (p:=λ_=>true) (g:=λ_=>S) (yE (by simp)) (λ_ _=>rfl) (λx hx=>by rw[mem_singleton.mp hx];exact zO7 g hf nd hs h hd),aj]
 show W ((vA m L (bh.mk (.one 2 t)) [S]).bind _) _
 rw[zC]
 refine HJ ?_
 rw[zG0 g (by omega),aj,zF5 g hL.1 (Qg n _),aj,eG]
 rw[zG0 g (by have:=zTh (n:=n) (into m.steps (L.filter λz=>!decide (z∈S))) g.few;omega),aj]
 generalize hH:(pick n λz=>!decide (z∈pick n (into m.steps (L.filter λz=>!decide (z∈S)))))=hold
 have hmem:∀s,0<=s->s<n->(s∈hold↔into m.steps (L.filter λz=>!decide (z∈S)) s=false):=λs s0 s1=>by
  rw[<-hH,dY]
  constructor
  ·rintro⟨_,_,q⟩
   cases c:into m.steps (L.filter λz=>!decide (z∈S)) s with
   |false=>rfl
   |true =>
    have:s∈pick n (into m.steps (L.filter λz=>!decide (z∈S))):=dY.mpr ⟨s0,s1,c⟩
    rw[decide_eq_true this] at q
    cases q
  ·intro q
   refine⟨s0,s1,?_⟩
   rw[decide_eq_false]
   ·rfl
   ·intro z
    have:=(dY.mp z).2.2
    rw[q] at this
    cases this
 have q:=zU0 g (G:=L.filter λz=>!decide (z∈S)) (b:=false) (by have:=length_filter_le (λz=>!decide (z∈S)) L;omega) (by rw[<-hH];exact Qg n _) hmem
 rw[zC] at q ⊢
 refine W.imp q λfl q1=>?_
 rw[zC] at q1 ⊢
 refine HS ?_
 rw[zNb hL.1 g.few (show S.length<4000 by omega),aj]
 exact W.imp q1 λrs q2=>W.imp q2 λR hR=>⟨L,hL,hR⟩
end
theorem zUz{xss:List LI}(hl:(xss.length:Int)=n)(h1:1<=n)(qL:n<=60)(hr:∀xs∈xss,xs.length<=60)(hG:∀x,x∈G↔x∈G')(h:Wn xss n G b R):W (Qe R xss G' b) (· = true):=by
 obtain⟨l,hR⟩:=h
 have ei:∀s,into xss G s=into xss G' s:=λs=>by
  unfold into
  rw[abm,any_eq_true,any_eq_true]
  exact⟨λ⟨t,a,e⟩=>⟨t,a,decide_eq_true ((hG t).mp (of_decide_eq_true e))⟩,λ⟨t,a,e⟩=>⟨t,a,decide_eq_true ((hG t).mpr (of_decide_eq_true e))⟩⟩
 unfold Qe
 have ep:T5 R (xss.length:Int)=some true:=by
  apply oW
  unfold T5
  rw[zC]
  rw[if_neg (by decide),aj,decide_eq_true (show(R.length:Int)=(xss.length:Int) by omega),abn,if_neg (by decide),zC,zC,aj]
  refine Yc (λ_ _=>True) trivial (λi x _ hi _=>?_) λ_ _=>by rw[RN,aj]
  have ln:¬x.2.len<1:=by
   cases x.2<;>simp[dZ.len]
  rw[zC,if_neg (by decide),if_neg (by decide),aj,if_neg (by decide),zC,if_neg (by decide),decide_eq_false ln,if_neg (by decide),aj,if_neg (by decide),aj]
  exact⟨(),rfl,trivial⟩
 rw[zC,zC,ep,aj,aj,abn,if_neg (by decide),zC,zC,vE]
 refine⟨⟨by omega,by omega⟩,?_⟩
 refine Yc (λ_ _=>True) trivial (λi x _ hi _=>?_) λ_ _=>by rw[RN,aj]
 obtain⟨rfl,hx⟩:=Ab hi
 obtain⟨r,e,q⟩:=hR (i:Int) (by omega) (by omega)
 rw[zC,cJ (by omega)]
 refine⟨_,e,?_⟩
 have hrow:xss[(i:Int).toNat]?=some (nxt xss (i:Int)):=NT hl (by omega) (by omega)
 have rl:=hr _ (mem_of_getElem? hrow)
 have es:uA r xss (i:Int) G'=some true/\(decide (r.word=("step":Str))=into xss G (i:Int)):=by
  rcases q with⟨q1,rfl⟩|⟨t,q1,q2,rfl⟩
  ·refine⟨?_,by rw[q1];decide +kernel⟩
   apply oW
   unfold uA
   rw[if_pos (by decide +kernel),if_pos (by decide +kernel),zC,zC,zC,cJ (by omega)]
   refine⟨_,hrow,?_⟩
   rw[xT (p:=λx=>decide (x∈G')) (g:=λx=>x) (yE (by omega)) (λ_ _=>rfl) (λ_ _=>rfl),map_id',aj,aj,aj]
   have:(nxt xss (i:Int)).filter (λx=>decide (x∈G'))=[]:=by
    rw[List.filter_eq_nil_iff]
    intro a ha z
    rw[ei] at q1
    unfold into at q1
    have:((nxt xss (i:Int)).any λt=>decide (t∈G'))=true:=any_eq_true.mpr ⟨a,ha,z⟩
    rw[q1] at this
    cases this
   rw[this]
   rfl
  ·refine⟨?_,?_⟩
   ·apply oW
    unfold uA
    have wh:Qc t=some true:=rfl
    rw[if_neg (by show¬decide (("step":Str) = "none")=true;decide +kernel),zC,if_neg (by show¬(!decide (("step":Str) = "step"))=true;decide +kernel),if_neg (by show¬(!decide ((2:Int)=2))=true;decide)]
    show W ((((some t).bind λa5=>some ((a5,()))).bind λz4=>Qc z4.1).bind λa6=>some (!a6)) _
    rw[zC,zC,zC,aj,aj]
    show W (Qc t) _
    rw[wh,aj,aj,abn,if_neg (by decide)]
    show W (((some t).bind λa7=>(L2.aV xss (i:Int)).bind λb8=>some (decide (a7∈b8))).bind λZQ=>if ZQ=true then(some t).bind λa9=>some (decide (a9∈G')) else some false) _
    rw[zC,zC,aj,zC,cJ (by omega)]
    refine⟨_,hrow,?_⟩
    rw[aj,decide_eq_true q1,if_pos rfl,zC,aj,aj,decide_eq_true ((hG t).mp q2)]
   ·have:into xss G (i:Int)=true:=any_eq_true.mpr ⟨t,q1,decide_eq_true q2⟩
    rw[this]
    show decide (("step":Str) = "step")=true
    decide +kernel
 rw[zC,zC,es.1,aj,aj,abn,if_neg (by decide)]
 have et:(decide (into xss G (i:Int)=b))=decide ((decide (r.word=("step":Str)))=b):=by rw[es.2]
 rw[if_neg (by show¬(!decide ((decide (into xss G (i:Int)=b))=decide ((decide (r.word=("step":Str)))=b)))=true;rw[decide_eq_true et];decide),aj]
 exact⟨(),rfl,trivial⟩
theorem zSo{xss:List LI}(hl:(xss.length:Int)=n)(h1:1<=n)(qL:n<=60)(hr:∀xs∈xss,Wg n xs)(hf:Af n fair):W (T4 xss fair) (Uj xss fair n):=by
 have rl:=Ui qL (by omega)
 have hrl:=wW (n:=n) (by omega)
 obtain⟨rc,HY⟩:∃rc:Int->Int->Bool,∀x y,rc x y=true↔Rc xss (rng n) x y:=⟨λx y=>@decide _ (ab5 (Rc xss (rng n) x y)),λx y=>⟨λh=>@of_decide_eq_true _ (ab5 _) h,λh=>@decide_eq_true _ (ab5 _) h⟩⟩
 unfold T4
 have el:Ad (xss.length:Int)=some (rng n):=by
  unfold Ad
  rw[if_pos ⟨by omega,by omega⟩,hl]
  rfl
 rw[zC,el,aj,zC,zC,aj]
 obtain⟨cs,cl,ce,cq⟩:=Wm (f:=λ(x3:Int)=>Qd xss (rng n) x3) (R:=λs D=>zV3 xss (rng n) s D) (xs:=rng n) λx hx=>zSn hl qL hx λy hy=>d_.mp hy
 unfold yW
 rw[if_pos (yE (by omega)),ce,aj]
 have Wo:∀x y:Int,0<=x->x<n->((L2.aV cs x).bind λb=>some ((dw b.kv y).isSome))=some (rc x y):=λx y x0 x1=>by
  apply oW
  have hx:(rng n)[x.toNat]?=some x:=by
   have q:(rng n)[x.toNat]?=some (rng n)[x.toNat]:=aao (by omega)
   have e:=(Ab q).1
   rw[q]
   exact congrArg some (by omega)
  obtain⟨D,e,seen,rfl,hs⟩:=cq x.toNat x hx
  rw[zC,cJ x0]
  refine⟨_,e,?_⟩
  rw[aj]
  show(dw (dl seen) y).isSome=_
  rw[Ub,abm,decide_eq_true_iff,hs,HY]
 have nb:∀s,0<=s->s<n->∀t∈nxt xss s,0<=t/\t<n:=λs s0 s1 t ht=>(hr _ (mem_of_getElem? (NT hl s0 s1))).2.2.2 t ht
 obtain⟨p,hp⟩:=cls (Qh xss fair (rng n))
 have inR:∀{t:Int},0<=t->t<n->t∈rng n:=λa b=>d_.mpr ⟨a,b⟩
 rw[zC,aj,zC,zC,aj]
 refine xP (λi s=>s=((rng n).take i).filter p) (by simp) (λi x s hi hI=>?_) λs hI=>?_
 ·subst hI
  obtain⟨rfl,hx⟩:=Ab hi
  have x0:(0:Int)<=(i:Int):=by omega
  have row:=NT hl x0 (by omega)
  have rlen:=(hr _ (mem_of_getElem? row)).2.2.1
  rw[zC,zC,zC,zC,cJ x0]
  refine⟨_,row,?_⟩
  show W (yW _ _ _) _
  rw[xT (p:=λt=>rc t (i:Int)) (g:=λt=>t) (yE (by omega)) (λt ht=>Wo t _ (nb _ x0 (by omega) t ht).1 (nb _ x0 (by omega) t ht).2) (λ_ _=>rfl),map_id',aj,aj,aj]
  have again:(0:Int)<(((nxt xss (i:Int)).filter λt=>rc t (i:Int)).length:Int)↔jf xss (rng n) (i:Int) (i:Int):=by
   constructor
   ·intro h
    obtain⟨t,ht⟩:=exists_mem_of_length_pos (show 0<((nxt xss (i:Int)).filter λt=>rc t (i:Int)).length by omega)
    obtain⟨t1,t2⟩:=mem_filter.mp ht
    have tb:=nb _ x0 (by omega) t t1
    rcases((HY _ _).mp t2).pth with q|q
    ·rw[<-q] at t1
     exact .one t1 (inR x0 (by omega))
    ·exact .step t1 (inR tb.1 tb.2) q
   ·intro q
    have:∃t,t∈nxt xss (i:Int)/\Rc xss (rng n) t (i:Int):=by
     cases q with
     |one a b=>exact⟨_,a,.here⟩
     |step a b r=>exact⟨_,a,r.rc⟩
    obtain⟨t,t1,t2⟩:=this
    have:=length_pos_of_mem (mem_filter.mpr ⟨t1,(HY _ _).mpr t2⟩:t∈(nxt xss (i:Int)).filter λt=>rc t (i:Int))
    omega
  rw[zC,zC,aj]
  obtain⟨b0,hb0⟩:∃b0:Bool,b0=decide ((0:Int)<(((nxt xss (i:Int)).filter λt=>rc t (i:Int)).length:Int)):=⟨_,rfl⟩
  rw[<-hb0]
  have aad:b0=true↔jf xss (rng n) (i:Int) (i:Int):=by rw[hb0,decide_eq_true_iff];exact again
  refine xP (λj b=>b=true↔(jf xss (rng n) (i:Int) (i:Int)/\∀F∈fair.take j,∃x∈F,Rc xss (rng n) (i:Int) x/\Rc xss (rng n) x (i:Int))) (by rw[aad];simp) (λj F b hj hJ=>?_) λb hJ=>?_
  ·have Fm:=mem_of_getElem? hj
   have Fo:=hf.2 F Fm
   have Fl:=pR Fo qL (by omega)
   rw[zC,zC,aj]
   show W (yW _ _ F) _
   rw[xT (p:=λt=>rc (i:Int) t) (g:=λt=>t) (yE (by omega)) (λt _=>Wo _ t x0 (by omega)) (λ_ _=>rfl),map_id',aj,zC]
   have tk:fair.take (j+1)=fair.take j++[F]:=by rw[take_add_one,hj]<;>rfl
   cases b with
   |false =>
    rw[if_neg (by decide),aj,aj]
    refine⟨λz=>(by cases z),λz=>?_⟩
    have:=hJ.mpr ⟨z.1,λF' hF'=>z.2 F' (by rw[tk];exact mem_append.mpr (.inl hF'))⟩
    cases this
   |true =>
    obtain⟨j1,j2⟩:=hJ.mp rfl
    rw[if_pos rfl,zC,zC,zC,aj]
    show W (yW _ _ (F.filter λt=>rc (i:Int) t)) _
    have fl2:=length_filter_le (λt=>rc (i:Int) t) F
    rw[xT (p:=λt=>rc t (i:Int)) (g:=λt=>t) (yE (by omega)) (λt ht=>Wo t _ (Fo.2.2 t (mem_filter.mp ht).1).1 (Fo.2.2 t (mem_filter.mp ht).1).2) (λ_ _=>rfl),map_id',aj,aj,aj,aj,decide_eq_true_iff]
    constructor
    ·intro h
     obtain⟨t,ht⟩:=exists_mem_of_length_pos (show 0<((F.filter λt=>rc (i:Int) t).filter λt=>rc t (i:Int)).length by omega)
     obtain⟨t1,t2⟩:=mem_filter.mp ht
     obtain⟨t3,t4⟩:=mem_filter.mp t1
     refine⟨j1,λF' hF'=>?_⟩
     rw[tk] at hF'
     rcases mem_append.mp hF' with z|z
     ·exact j2 F' z
     ·rw[mem_singleton.mp z]
      exact⟨t,t3,(HY _ _).mp t4,(HY _ _).mp t2⟩
    ·intro h
     obtain⟨t,t1,t2,t3⟩:=h.2 F (by rw[tk];exact mem_append.mpr (.inr (by simp)))
     have:=length_pos_of_mem (mem_filter.mpr ⟨mem_filter.mpr ⟨t1,(HY _ _).mpr t2⟩,(HY _ _).mpr t3⟩:t∈(F.filter λt=>rc (i:Int) t).filter λt=>rc t (i:Int))
     omega
  ·rw[take_length] at hJ
   have fl:(((rng n).take i).filter p).length<=1000:=by
    have:=length_filter_le p ((rng n).take i)
    rw[length_take] at this
    omega
   rw[zC,zUh hi]
   by_cases c:b=true
   ·rw[if_pos c,zC,sE]
    refine⟨yE fl,?_⟩
    rw[aj,aj,if_pos ((hp _).mpr (hJ.mp c))]
   ·rw[if_neg c,aj,aj,if_neg (λz=>c (hJ.mpr ((hp _).mp z))),append_nil]
 ·subst hI
  rw[take_length]
  have bl:=length_filter_le p (rng n)
  obtain⟨q,hq⟩:=cls λs=>∃b∈rng n,Qh xss fair (rng n) b/\Rc xss (rng n) s b
  rw[zC,aj]
  show W (yW _ _ (rng n)) _
  rw[xT (p:=q) (g:=λx=>x) (yE (by omega)) (λx hx=>?_) (λ_ _=>rfl),map_id',aj]
  ·refine⟨⟨(Z0 n).filter q,λx hx=>d_.mp (mem_filter.mp hx).1⟩,λs=>?_⟩
   rw[mem_filter,hq s]
  ·obtain⟨x0,x1⟩:=d_.mp hx
   apply oW
   rw[zC,zC,zC,aj]
   show W (yW _ _ ((rng n).filter p)) _
   rw[xT (p:=λy=>rc x y) (g:=λy=>y) (yE (by omega)) (λy _=>Wo x y x0 x1) (λ_ _=>rfl),map_id',aj,aj,aj,abm,decide_eq_true_iff,hq x]
   constructor
   ·intro h
    obtain⟨b,hb⟩:=exists_mem_of_length_pos (show 0<(((rng n).filter p).filter λy=>rc x y).length by omega)
    obtain⟨b1,b2⟩:=mem_filter.mp hb
    obtain⟨b3,b4⟩:=mem_filter.mp b1
    exact⟨b,b3,(hp b).mp b4,(HY _ _).mp b2⟩
   ·rintro⟨b,bU,bB,r⟩
    have:=length_pos_of_mem (mem_filter.mpr ⟨mem_filter.mpr ⟨bU,(hp b).mpr bB⟩,(HY _ _).mpr r⟩:b∈((rng n).filter p).filter λy=>rc x y)
    omega
def resv:List Str:=["all","not","both","either","somenext","eachnext","sometill","eachtill","someever","eachever"]
def Qi(w:Str):Str:=⟨#[w.cps.getD 0 0,113]⟩
theorem zS5:∀w∈resv,((BZ w (1:Int)).bind λa22=>q_ a22 ("q":Str))=some (Qi w):=by decide +kernel
theorem zNp:∀w∈resv,Nm (Qi w)=some true:=by decide +kernel
theorem zL5:∀w∈resv,3<=w.cps.size:=by decide +kernel
def ham(w v:Str):Nat:=((aat 8).filter λj=>decide (w.cps[j]?≠v.cps[j]?)).length
theorem zTc:∀w∈resv,∀v∈resv,w=v\/w.cps.size≠v.cps.size\/2<=ham w v:=by decide +kernel
theorem H_:∀i,i<26->(("abcdefghijklmnopqrstuvwxyz":Str).cps)[i]?=some (97+i):=by decide +kernel
theorem Ia:∀i,i<26->Vu ⟨#[97+i]⟩ ("abcdefghijklmnopqrstuvwxyz":Str)=true:=by decide +kernel
theorem zUq:("abcdefghijklmnopqrstuvwxyz":Str).length=26:=by decide +kernel
theorem zT6(x:Int):PN ("abcdefghijklmnopqrstuvwxyz":Str) (x%26)=some ⟨#[97+(x%26).toNat]⟩:=by
 have h0:0<=x%26/\x%26<26:=by omega
 unfold PN
 rw[if_pos ⟨h0.1,by omega,by rw[zUq];exact h0.2⟩,H_ _ (by omega)]
 rfl
def idx(c k size:Int)(j:Nat):Nat:=97+((if(j:Int)=c/8%size then c/64+(j:Int)*(j:Int)+k else c/64+(j:Int)*(j:Int))%26).toNat
def vI(c k size:Int):Str:=⟨((aat size.toNat).map (idx c k size)).toArray⟩
theorem Ib(a b:Str):(a++b).cps=a.cps++b.cps:=by
 first
  |rfl
  | (show(Str.append a b).cps=_;unfold Str.append;rfl)
theorem N_(c k size:Int)(j:Nat):∃i,i<26/\idx c k size j=97+i:=⟨_,by
 have:∀x:Int,(x%26).toNat<26:=λx=>by omega
 exact this _,rfl⟩
theorem Oa(c:Int):W (TY c k) λs=>s=(if vI c k (1+c%8)∈resv then Qi (vI c k (1+c%8)) else vI c k (1+c%8)):=by
 have h8:0<=c%8/\c%8<8:=by omega
 unfold TY
 rw[zC,aj,zC,zC,qJ]
 refine⟨by decide,?_⟩
 rw[aj]
 generalize hsz:1+c%8=size
 have s1:1<=size/\size<=8:=by omega
 rw[zC,aj,zC,zC,vE]
 refine⟨⟨by omega,by omega⟩,?_⟩
 have rl:=wW (n:=size) (by omega)
 refine xP (λi s=>s=⟨((aat i).map (idx c k size)).toArray⟩) rfl (λi x s hi hI=>?_) λs hI=>?_
 ·subst hI
  obtain⟨rfl,hx⟩:=Ab hi
  rw[zC,zC,Bv]
  refine⟨⟨by decide,by decide⟩,?_⟩
  rw[zC,Vp]
  refine⟨.inl ⟨by omega,by omega⟩,?_⟩
  rw[aj,zC,zC,zC,zC,Bv]
  refine⟨⟨by decide,by decide⟩,?_⟩
  rw[qJ]
  refine⟨by omega,?_⟩
  rw[aj]
  have fin:∀z:Int,97+(z%26).toNat=idx c k size i->W ((((cF z (26:Int)).bind λT3=>PN ("abcdefghijklmnopqrstuvwxyz":Str) T3).bind λG_=>q_ ⟨((aat i).map (idx c k size)).toArray⟩ G_).bind λnU=>some nU) λs=>s=⟨((aat (i+1)).map (idx c k size)).toArray⟩:=λz hz=>by
   rw[zC,zC,zC,qJ]
   refine⟨by decide,?_⟩
   rw[zT6,aj]
   unfold q_
   have la:(⟨((aat i).map (idx c k size)).toArray⟩:Str).length=i:=by
    show((aat i).map (idx c k size)).toArray.size=i
    rw[size_toArray,length_map,length_range]
   have lb:(⟨#[97+(z%26).toNat]⟩:Str).length=1:=rfl
   rw[if_pos (by rw[la,lb];omega),aj,aj]
   have e:((⟨((aat i).map (idx c k size)).toArray⟩:Str)++(⟨#[97+(z%26).toNat]⟩:Str)).cps=((aat (i+1)).map (idx c k size)).toArray:=by
    rw[Ib,range_succ,map_append,hz]
    simp
   generalize((⟨((aat i).map (idx c k size)).toArray⟩:Str)++(⟨#[97+(z%26).toNat]⟩:Str))=y at e ⊢
   obtain⟨cps⟩:=y
   dsimp only at e
   rw[e]
  by_cases cc:(i:Int)=c/8%size
  ·rw[decide_eq_true cc,if_pos rfl,zC,aj,aj]
   exact fin _ (by unfold idx;rw[if_pos cc])
  ·rw[decide_eq_false cc,if_neg (by decide),aj]
   exact fin _ (by unfold idx;rw[if_neg cc])
 ·subst hI
  have el:(rng size).length=size.toNat:=by omega
  rw[el]
  show W (((if(decide (vI c k size∈resv))=true then((BZ (vI c k size) (1:Int)).bind λa22=>q_ a22 ("q":Str)).bind λnY=>some nY else some (vI c k size))).bind λqM=>some qM) _
  rw[zC]
  by_cases cc:vI c k size∈resv
  ·rw[decide_eq_true cc,if_pos rfl,zC,zS5 _ cc,aj,aj,aj,if_pos cc]
  ·rw[decide_eq_false cc,if_neg (by decide),aj,aj,if_neg cc]
theorem uH:(vI c k size).cps.size=size.toNat:=by
 show((aat size.toNat).map (idx c k size)).toArray.size=_
 rw[size_toArray,length_map,length_range]
theorem Wq{size:Int}(h:j<size.toNat):(vI c k size).cps[j]?=some (idx c k size j):=by
 show((aat size.toNat).map (idx c k size)).toArray[j]?=_
 rw[getElem?_toArray,getElem?_map,getElem?_range h]
 rfl
def vq(c k:Int):Str:=if vI c k (1+c%8)∈resv then Qi (vI c k (1+c%8)) else vI c k (1+c%8)
theorem zQp(c k:Int):Nm (vq c k)=some true/\(vq c k).length<=1000:=by
 have h8:0<=c%8/\c%8<8:=by omega
 unfold vq
 by_cases cc:vI c k (1+c%8)∈resv
 ·rw[if_pos cc]
  exact⟨zNp _ cc,by show 2<=1000;decide⟩
 ·rw[if_neg cc]
  have ln:(vI c k (1+c%8)).length=(1+c%8).toNat:=uH
  refine⟨?_,by rw[ln];omega⟩
  have cc':=cc
  unfold resv at cc'
  apply oW
  unfold Nm
  rw[zC,if_neg (by decide),aj,if_neg (λz=>cc' (of_decide_eq_true z)),zC,zC]
  unfold Bw
  rw[if_pos (yE (by rw[ln];omega)),aj,decide_eq_true (by rw[ln];omega),if_pos rfl,aj,decide_eq_true (by rw[ln];omega),if_pos rfl,zC,zC,aj]
  have lsg:(Jo (vI c k (1+c%8))).length<=1000:=by
   unfold Jo
   rw[length_map,length_toList,uH]
   omega
  rw[xT (p:=λ_=>true) (g:=λ_=>true) (yE lsg) (λ_ _=>rfl) (λx hx=>?_),aj,aj]
  ·rw[all_eq_true]
   intro x hx
   obtain⟨y,_,rfl⟩:=mem_map.mp hx
   rfl
  ·unfold Jo at hx
   obtain⟨y,hy,rfl⟩:=mem_map.mp hx
   have hy':y∈(aat (1+c%8).toNat).map (idx c k (1+c%8)):=hy
   obtain⟨j,_,rfl⟩:=mem_map.mp hy'
   obtain⟨i,hi,e⟩:=N_ c k (1+c%8) j
   rw[e,Ia i hi]
theorem zK9(c:Int)(h0:0<=k)(h2:k<=2)(h0':0<=k')(h2':k'<=2)(hk:k≠k'):vq c k≠vq c k':=by
 have h8:0<=c%8/\c%8<8:=by omega
 unfold vq
 generalize hsz:1+c%8=size
 have s1:1<=size/\size<=8:=by omega
 have j0:0<=c/8%size/\c/8%size<size:=⟨acp _ (by omega),ace _ (by omega)⟩
 have same:∀j:Nat,(j:Int)≠c/8%size->idx c k size j=idx c k' size j:=λj hj=>by unfold idx;rw[if_neg hj,if_neg hj]
 have diff:idx c k size (c/8%size).toNat≠idx c k' size (c/8%size).toNat:=λe=>by
  unfold idx at e
  have ej:(((c/8%size).toNat:Nat):Int)=c/8%size:=by omega
  rw[if_pos ej,if_pos ej,ej] at e
  generalize c/64+c/8%size*(c/8%size)=z at e
  omega
 have ne:vI c k size≠vI c k' size:=λe=>by
  have a:=Wq (c:=c) (k:=k) (size:=size) (j:=(c/8%size).toNat) (by omega)
  rw[e,Wq (by omega)] at a
  exact diff (aay a).symm
 by_cases a:vI c k size∈resv
 ·rw[if_pos a]
  by_cases b:vI c k' size∈resv
  ·rw[if_pos b]
   exfalso
   rcases zTc _ a _ b with q|q|q
   ·exact ne q
   ·exact q (by rw[uH,uH])
   ·have:ham (vI c k size) (vI c k' size)<=1:=by
     unfold ham
     have sub:∀j∈(aat 8).filter λj=>decide ((vI c k size).cps[j]?≠(vI c k' size).cps[j]?),j=(c/8%size).toNat:=λj hj=>by
      obtain⟨_,h⟩:=mem_filter.mp hj
      have h':=of_decide_eq_true h
      refine Classical.byContradiction λz=>h' ?_
      by_cases jl:j<size.toNat
      ·rw[Wq jl,Wq jl,same j (by omega)]
      ·rw[aa9 (by rw[uH];omega),aa9 (by rw[uH];omega)]
     have nd:((aat 8).filter λj=>decide ((vI c k size).cps[j]?≠(vI c k' size).cps[j]?)).Nodup:=List.nodup_range.filter _
     generalize(aat 8).filter (λj=>decide ((vI c k size).cps[j]?≠(vI c k' size).cps[j]?))=l at sub nd ⊢
     match l,sub,nd with
     |[],_,_=>exact abf _
     |[_],_,_=>exact aaq _
     |x::y::l,sub,nd =>
      have e1:=sub x (by simp)
      have e2:=sub y (by simp)
      rw[nodup_cons] at nd
      exact absurd (by rw[e1,<-e2];simp) nd.1
    omega
  ·rw[if_neg b]
   intro e
   have l1:(Qi (vI c k size)).cps.size=2:=rfl
   rw[e,uH] at l1
   have:=zL5 _ a
   rw[uH] at this
   omega
 ·rw[if_neg a]
  by_cases b:vI c k' size∈resv
  ·rw[if_pos b]
   intro e
   have l1:(Qi (vI c k' size)).cps.size=2:=rfl
   rw[<-e,uH] at l1
   have:=zL5 _ b
   rw[uH] at this
   omega
  ·rw[if_neg b]
   exact ne
theorem Ob{C:Addr}{m:au C}(h1:1<=n)(qL:n<=60)(c:Int)(hm:m.marks=[(N0,S0),(N1,S1)])(n0:N0≠N2)(n1:N1≠N2):W (uB cl c [N0,N1,N2] [S0,S1] n) λv=>Pl m n v.1.t v.2/\v.1.t.depth<6:=by
 have rl:=Ui qL (by omega)
 have el:Ad n=some (rng n):=by
  unfold Ad
  rw[if_pos ⟨by omega,by omega⟩]
  rfl
 have m0:(N0,S0)∈m.marks:=by rw[hm];simp
 have m1:(N1,S1)∈m.marks:=by rw[hm];simp
 have m2:∀mk∈m.marks,mk.1≠N2:=λmk h=>by
  rw[hm] at h
  simp at h
  rcases h with rfl|rfl
  ·exact n0
  ·exact n1
 unfold uB
 rw[zC,el,aj,zC,qJ]
 refine⟨by decide,?_⟩
 generalize hw:c%9=way
 have wb:0<=way/\way<9:=by omega
 by_cases c0:way=0
 ·rw[decide_eq_true c0,if_pos rfl,aj]
  exact⟨.all,by show 0<6;decide⟩
 rw[decide_eq_false c0,if_neg (by decide)]
 by_cases c7:way=7
 ·rw[decide_eq_true c7,if_pos rfl,zC,zC,cJ (by decide)]
  refine⟨N2,rfl,?_⟩
  rw[aj,aj]
  exact⟨.aG m2,by show 0<6;decide⟩
 rw[decide_eq_false c7,if_neg (by decide)]
 by_cases c8:way=8
 ·rw[decide_eq_true c8,if_pos rfl,zC,zC,zC,cJ (by decide)]
  refine⟨N2,rfl,?_⟩
  rw[aj,aj,aj]
  refine⟨?_,by show 0+1<6;decide⟩
  have e:rng n=pick n λz=>!decide (z∈([]:LI)):=by
   unfold pick
   rw[filter_eq_self.mpr]
   intro a _
   simp
  show Pl m n (.one 0 (.mark N2)) (rng n)
  rw[e]
  exact .no (.aG m2)
 rw[decide_eq_false c8,if_neg (by decide),zC,qJ]
 refine⟨by decide,?_⟩
 have two:∃(N:Str)(S:LI),[N0,N1,N2][(way%2).toNat]?=some N/\[S0,S1][(way%2).toNat]?=some S/\(N,S)∈m.marks:=by
  rcases(show way%2=0\/way%2=1 by omega) with q|q
  ·rw[q];exact⟨N0,S0,rfl,rfl,m0⟩
  ·rw[q];exact⟨N1,S1,rfl,rfl,m1⟩
 obtain⟨N,S,e1,e2,mm⟩:=two
 have p2:0<=way%2:=by omega
 by_cases c5:way<5
 ·rw[decide_eq_true c5,if_pos rfl,zC,zC,cJ p2]
  refine⟨N,e1,?_⟩
  rw[aj,zC,cJ p2]
  refine⟨S,e2,?_⟩
  rw[aj]
  exact⟨.mark (mk:=(N,S)) mm,by show 0<6;decide⟩
 ·rw[decide_eq_false c5,if_neg (by decide),zC,zC,zC,cJ p2]
  refine⟨N,e1,?_⟩
  rw[aj,aj,zC,zC,aj]
  have at2:L2.aV [S0,S1] (way%2)=some S:=by
   have q:W (L2.aV [S0,S1] (way%2)) (· = S):=by
    rw[cJ p2]
    exact⟨S,e2,rfl⟩
   exact oW q
  rw[xT (p:=λz=>!decide (z∈S)) (g:=λz=>z) (yE (by omega)) (λz _=>by rw[at2];rfl) (λ_ _=>rfl),map_id',aj,aj]
  exact⟨.no (.mark (mk:=(N,S)) mm),by show 0+1<6;decide⟩
theorem aae:rng 3=[0,1,2]:=by decide
theorem Uk:rng 2=[0,1]:=by decide
theorem zT4(C:Addr)(cl:Hd->Addr)(za:wu):W (Wa C cl za) (· = true):=by
 unfold Wa
 rw[zC,zC,zC]
 refine(T7 za (by decide)).imp λc0 _=>?_
 rw[aj]
 refine(Hy c0).imp λn ⟨n1,n12⟩=>?_
 have Ag:n<=60:=by omega
 rw[zC]
 refine(Hl za n1 Ag).imp λxss ⟨hl,hr⟩=>?_
 rw[zC,zC,zC]
 refine(T7 za (by decide)).imp λc1 _=>?_
 rw[aj]
 refine(zSp c1 n1 Ag).imp λfair hf=>?_
 have xl:xss.length<=60:=by omega
 have fl:=hf.1
 rw[zC]
 refine(T7 za (by decide)).imp λc2 _=>?_
 rw[zC,zC,vE]
 refine⟨⟨by decide,by decide⟩,?_⟩
 rw[aae,xT (p:=λ_=>true) (g:=λx=>vq (c2/36) x) (yE (by decide)) (λ_ _=>rfl) (λx _=>by
  apply oW
  rw[zC,zC,Bv]
  refine⟨⟨by decide,by decide⟩,?_⟩
  rw[aj]
  exact Oa (c2/36)),aj]
 show W (((wV (2:Int)).bind _).bind _) _
 rw[zC,zC,vE]
 refine⟨⟨by decide,by decide⟩,?_⟩
 rw[Uk]
 obtain⟨ss,sl,se,sq⟩:=Wm (f:=λ(rB:Int)=>(((((((gZ c2 (6:Int)).bind λa17=>some (a17+rB)).bind λa18=>cF a18 (6:Int)).bind λTV=>L2.aV ([(3:Int),(5:Int),(1:Int),(4:Int),(2:Int),(6:Int)]) TV).bind λa21=>some ((a21,()))).bind λTF=>some (n,TF)).bind λTX=>some (c2+rB,TX)).bind λDN=>uU DN.1 DN.2.1 DN.2.2.1) (R:=λ_ S=>bQ n S) (xs:=[(0:Int),1]) λx _=>by
  rw[zC,zC,zC,zC,zC,zC,zC,Bv]
  refine⟨⟨by decide,by decide⟩,?_⟩
  rw[aj,qJ]
  refine⟨by decide,?_⟩
  have b6:0<=(c2/6+x)%6/\(c2/6+x)%6<6:=by omega
  rw[cJ b6.1]
  refine⟨_,aao (by simp;omega),?_⟩
  rw[aj,aj,aj]
  exact T8 (c2+x) (n:=n) _ (show 0<=n by omega) Ag
 unfold yW
 rw[if_pos (yE (by decide)),se,aj]
 obtain⟨S0,e0,r0⟩:=sq 0 0 rfl
 obtain⟨S1,e1,r1⟩:=sq 1 1 rfl
 have ess:ss=[S0,S1]:=by
  match ss,sl,e0,e1 with
  |[a,b],_,e0,e1 =>
   have q0:a=S0:=by simpa using e0
   have q1:b=S1:=by simpa using e1
   rw[q0,q1]
 subst ess
 have enm:((([(0:Int),1,2]).filter λ_=>true).map λx=>vq (c2/36) x)=[vq (c2/36) 0,vq (c2/36) 1,vq (c2/36) 2]:=rfl
 rw[enm]
 have k0:=zQp (c2/36) 0
 have k1:=zQp (c2/36) 1
 have Wr:=zK9 (c2/36) (k:=0) (k':=1) (by decide) (by decide) (by decide) (by decide) (by decide)
 have d02:=zK9 (c2/36) (k:=0) (k':=2) (by decide) (by decide) (by decide) (by decide) (by decide)
 have Um:=zK9 (c2/36) (k:=1) (k':=2) (by decide) (by decide) (by decide) (by decide) (by decide)
 generalize vq (c2/36) 0=N0 at k0 Wr d02 ⊢
 generalize vq (c2/36) 1=N1 at k1 Wr Um ⊢
 generalize vq (c2/36) 2=N2 at d02 Um ⊢
 rw[zC,zC,vE]
 refine⟨⟨by decide,by decide⟩,?_⟩
 rw[Uk]
 have em:wJ (λ(x25:Int)=>some true) (λ(x25:Int)=>(L2.aV [N0,N1,N2] x25).bind λa26=>(L2.aV [S0,S1] x25).bind λZR=>some (a26,ZR)) [0,1]=some [(N0,S0),(N1,S1)]:=rfl
 rw[if_pos (yE (by decide)),em,aj]
 rw[zC,zC,zC,aj]
 show W (yW (λ(x29:LI)=>some true) (λ(x29:LI)=>some x29) xss) _
 rw[Lz (λx=>x),map_id']
 refine⟨yE (show xss.length<=1000 by omega),?_⟩
 rw[zC,zC,aj]
 show W (yW (λ(x29:LI)=>some true) (λ(x29:LI)=>some x29) fair) _
 rw[Lz (λx=>x),map_id']
 refine⟨yE (show fair.length<=1000 by omega),?_⟩
 refine(T_ C (mo:=some [(N0,S0),(N1,S1)]) (fo:=some fair) hl n1 Ag (λxs hx=>Hr (hr xs hx)) ⟨by simp[Wr],by simp,λmk hm=>?_⟩ hf).imp λm ⟨g,es,em',ef⟩=>?_
 ·have hm':mk=(N0,S0)\/mk=(N1,S1):=by simpa using hm
  rcases hm' with rfl|rfl
  ·exact⟨k0.1,k0.2,Z2 r0 Ag⟩
  ·exact⟨k1.1,k1.2,Z2 r1 Ag⟩
 have em2:m.marks=[(N0,S0),(N1,S1)]:=em'
 have ef2:m.fair=fair:=ef
 have hf':Af n m.fair:=by rw[ef2];exact hf
 have nd:(m.marks.map (·.1)).Nodup:=by rw[em2];simp[Wr]
 have hs:∀mk∈m.marks,bQ n mk.2:=λmk h=>by
  rw[em2] at h
  have h':mk=(N0,S0)\/mk=(N1,S1):=by simpa using h
  rcases h' with rfl|rfl
  ·exact r0
  ·exact r1
 rw[zC,zC,zC]
 refine(T7 za (by decide)).imp λc3 _=>?_
 rw[aj]
 show W (uB cl c3 [N0,N1,N2] [S0,S1] n) _
 refine(Ob (m:=m) n1 Ag c3 em2 d02 Um).imp λv ⟨hP,hd⟩=>?_
 obtain⟨⟨t⟩,S⟩:=v
 dsimp only at hP hd
 have rS:=hP.rise hs
 have lS:=vK rS Ag
 rw[zC]
 refine(zSo hl n1 Ag hr hf).imp λL hL=>?_
 have lL:=vK hL.1 Ag
 rw[zC,zC,aj]
 show W (yW (λ(x38:Int)=>some (decide (x38∈S))) (λ(x38:Int)=>some x38) L) _
 rw[Yd (λx=>decide (x∈S)) (λx=>x),map_id']
 refine⟨yE (by omega),?_⟩
 rw[zC,zC,aj]
 show W (yW (λ(x38:Int)=>some (!decide (x38∈S))) (λ(x38:Int)=>some x38) L) _
 rw[Yd (λx=>!decide (x∈S)) (λx=>x),map_id']
 refine⟨yE (by omega),?_⟩
 have hrl:∀xs∈xss,xs.length<=60:=λxs hx=>by have:=(hr xs hx).2.2.1;omega
 have sm:∀L2:LI,Uj m.steps m.fair n L2->∀x,x∈L2↔x∈L:=λL2 h x=>by rw[h.2 x,hL.2 x,es,ef2]
 rw[zC,zC,vE]
 refine⟨⟨by decide,by decide⟩,?_⟩
 refine Yc (λ_ _=>True) trivial (λi x _ hi _=>?_) λ_ _=>by rw[RN,aj]
 rw[zC]
 refine(HW (cl:=cl) g hf' nd hs hP hd).imp λR ⟨L1,hL1,hR⟩=>?_
 rw[es] at hR
 rw[zC,zC]
 refine(zUz hl n1 Ag hrl (G':=L.filter λx=>decide (x∈S)) (λx=>?_) hR).imp λb hb=>?_
 ·rw[mem_filter,mem_filter,sm L1 hL1]
 subst hb
 rw[aj,abn,if_neg (by decide),zC,aj,zC,zC,zC,zC]
 refine(HX (cl:=cl) g hf' nd hs hP hd).imp λR2 ⟨L2,hL2,hR2⟩=>?_
 rw[es] at hR2
 rw[aj]
 refine(zUz hl n1 Ag hrl (G':=L.filter λx=>!decide (x∈S)) (λx=>?_) hR2).imp λb hb=>?_
 ·rw[mem_filter,mem_filter,sm L2 hL2]
 subst hb
 rw[aj,abn,if_neg (by decide),aj]
 exact⟨(),rfl,trivial⟩
end Ts
namespace Sy
open PySem L2
section
variable{K:PySem.W.Frag}{C D:Addr}
theorem Ie(hc:isClsIn K D=true)(ht:typeIn K (.ref D)=some (.type "type"))(hm:mroIn K C (.ref D)=some true):kitOne K (.ref C) (.ref D)=some true:=by
 unfold kitOne
 split
 ·rfl
 ·unfold kitCls PySem.W.subIn
  dsimp only
  rw[ht,hm,show(PySem.W.clsIn K D).isSome=true from hc]
  rfl
theorem Oc(hc:isClsIn K D=true)(ht:typeIn K (.ref D)=some (.type "type"))(hm:mroIn K C (.ref D)=some false)(hs:mroIn K C (.ref C)=some true):kitOne K (.ref C) (.ref D)=some false:=by
 have ne:C≠D:=λe=>by
  subst e
  rw[hm] at hs
  cases hs
 unfold kitOne
 rw[if_neg (λe=>ne (ae7 (ab8 e)))]
 unfold kitCls PySem.W.subIn
 dsimp only
 rw[ht,hm,show(PySem.W.clsIn K D).isSome=true from hc]
 rfl
def Ws(K:PySem.W.Frag)(C:Addr):List Addr->Prop
 |[]=>True
 |D::r=>mroIn K C (.ref D)=some false/\Ws K C r
def Dh(K:PySem.W.Frag):List Addr->List Addr->Prop
 |_,[]=>True
 |p,C::r=>mroIn K C (.ref C)=some true/\Ws K C p/\Ws K C r/\Dh K (C::p) r
theorem zMg(h:Ws K C ds)(m:D∈ds):mroIn K C (.ref D)=some false:=by
 induction ds with
 |nil=>cases m
 |cons E r ih =>
  cases m with
  |head=>exact h.1
  |tail _ m=>exact ih h.2 m
theorem Uo:∀{p:List Addr},Dh K p r->∀{i:Nat},r[i]?=some C->mroIn K C (.ref C)=some true/\(D∈p->mroIn K C (.ref D)=some false)/\∀{j:Nat},r[j]?=some D->j≠i->mroIn K C (.ref D)=some false:=by
 induction r with
 |nil=>intro p _ i e;cases e
 |cons E r ih =>
  intro p h i e
  cases i with
  |zero =>
   cases e
   refine⟨h.1,zMg h.2.1,λ{j} f n=>?_⟩
   cases j with
   |zero=>exact absurd rfl n
   |succ j=>exact zMg h.2.2.1 (mem_of_getElem? f)
  |succ i =>
   obtain⟨a,b,c⟩:=ih h.2.2.2 e
   refine⟨a,λm=>b (.tail _ m),λ{j} f n=>?_⟩
   cases j with
   |zero=>cases f;exact b (.head _)
   |succ j=>exact c f λq=>n (congrArg _ q)
end
def hix:Hd->Nat
 |.all=>0
 |.mark=>1
 |.one i=>i.val+2
 |.two i=>i.val+9
theorem Ig(h:Hd)(t:Tr):Ts.bF h t=decide (hix h=hix (hd t)):=by
 cases h<;>cases t
 case one.one i j _=>exact decide_eq_decide.2 ⟨λe=>by subst e;rfl,λe=>Fin.ext (by have e:i.val+2=j.val+2:=e;omega)⟩
 case two.two i j _ _=>exact decide_eq_decide.2 ⟨λe=>by subst e;rfl,λe=>Fin.ext (by have e:i.val+9=j.val+9:=e;omega)⟩
 all_goals first|rfl|(symm;apply decide_eq_false;intro e;simp only[hix,hd] at e;omega)
theorem Ih:∀i:Fin 7,i=0\/i=1\/i=2\/i=3\/i=4\/i=5\/i=6:=by decide
theorem Ii:∀i:Fin 4,i=0\/i=1\/i=2\/i=3:=by decide
abbrev HdR(K:PySem.W.Frag)(C:Addr):Prop:=findIn K (.ref C) "__class__" = some (some (.builtin "object.__class__"))/\mroIn K C (.type "object")=some true/\isClsIn K C=true/\typeIn K (.ref C)=some (.type "type")
abbrev tZ(K:PySem.W.Frag)(C:Addr)(x y:Str)(st:Stmt):Prop:=nsIn K abb x=some (some (.ref C))/\(∃f fd,Mk K C f/\aU K "__init__" y st f fd)/\Cls K C/\(findIn K (.ref C) "word" = some none/\findIn K (.ref C) "parts" = some none/\findIn K (.ref C) "part" = some none/\findIn K (.ref C) "left" = some none/\findIn K (.ref C) "right" = some none/\findIn K (.ref C) "name" = some none)/\HdR K C
abbrev Wt(K:PySem.W.Frag)(C:Addr)(x y:Str)(st:Stmt):Prop:=nsIn K abb x=some (some (.ref C))/\∃f fd,qK K C "__init__" f/\aU K "__init__" y st f fd
def HdQ(K:PySem.W.Frag)(C f:Addr):Prop:=Mk K C f/\gJ K C/\HdR K C
section
variable{K:PySem.W.Frag}{h:Heap}{mg:Str->Option Value}{C:Addr}{x y:Str}{st:Stmt}
theorem Od(a:nsIn K abb x=some (some (.ref C)))(c:qK K C "__init__" f)(F:aU K "__init__" y st f fd):Wt K C x y st:=⟨a,f,fd,c,F⟩
theorem Oe(a:nsIn K abb x=some (some (.ref C)))(m:Mk K C f)(F:aU K "__init__" y st f fd)(c:Cls K C)(n:(findIn K (.ref C) "word" = some none/\findIn K (.ref C) "parts" = some none/\findIn K (.ref C) "part" = some none/\findIn K (.ref C) "left" = some none/\findIn K (.ref C) "right" = some none/\findIn K (.ref C) "name" = some none)/\HdR K C):tZ K C x y st:=⟨a,⟨f,fd,m,F⟩,c,n⟩
theorem zc(X:K.In h)(G:h.Ns abb mg)(p:tZ K C x y st):mg x=some (.ref C)/\∃f fd,aU K "__init__" y st f fd/\HdQ K C f:=by
 obtain⟨a,⟨f,fd,m,F⟩,c,⟨n1,n2,n3,n4,n5,n6⟩,r⟩:=p
 exact⟨mg_of X G a,f,fd,F,m,⟨c,n1,n2,n3,n4,n5,n6⟩,r⟩
end
set_option maxHeartbeats 8000000 in
theorem Og{l:PySem.W.OpenLaw}{K:PySem.W.Frag}(X:K.In h)(G:h.Ns abb mg)(bA:Wt K CA "Saying" "Saying.__init__" Ze)(bB:Wt K CB "OfOne" "OfOne.__init__" Zf)(bD:Wt K CD "OfTwo" "OfTwo.__init__" Zg)(h0:tZ K C0 "All" "All.__init__" Nf)(h1:tZ K C1 "Mark" "Mark.__init__" Cg)(h2:tZ K C2 "Not" "Not.__init__" Ng)(h3:tZ K C3 "SomeNext" "SomeNext.__init__" Zh)(h4:tZ K C4 "EachNext" "EachNext.__init__" Zi)(h5:tZ K C5 "SomeAlways" "SomeAlways.__init__" Zj)(h6:tZ K C6 "EachAlways" "EachAlways.__init__" Zk)(h7:tZ K C7 "SomeEver" "SomeEver.__init__" Zm)(h8:tZ K C8 "EachEver" "EachEver.__init__" Zn)(h9:tZ K C9 "Both" "Both.__init__" Ci)(h10:tZ K C10 "Either" "Either.__init__" Zo)(h11:tZ K C11 "SomeTill" "SomeTill.__init__" Zq)(h12:tZ K C12 "EachTill" "EachTill.__init__" Zr)(m:Dh K [] [C0,C1,C2,C3,C4,C5,C6,C7,C8,C9,C10,C11,C12])(hn:specialIn K (.builtin "object.__class__") "__get__" = some (some (.builtin "getset_descriptor.__get__")))(ht:takesIn K (.builtin "object.__class__")=some true)
   :∃(cl fi:Hd->Addr)(di:Hd->FuncData),∀base:Heap,Ts.lZ l.prog w K mg base 3 cl fi di:=by
 obtain⟨aA,fA,dA,cA,FA⟩:=bA
 have aA:=mg_of X G aA
 obtain⟨aB,fB,dB,cB,FB⟩:=bB
 have aB:=mg_of X G aB
 obtain⟨aD,fD,dD,cD,FD⟩:=bD
 have aD:=mg_of X G aD
 obtain⟨a0,f0,d0,F0,Q0⟩:=zc X G h0
 obtain⟨a1,f1,d1,F1,Q1⟩:=zc X G h1
 obtain⟨a2,f2,d2,F2,Q2⟩:=zc X G h2
 obtain⟨a3,f3,d3,F3,Q3⟩:=zc X G h3
 obtain⟨a4,f4,d4,F4,Q4⟩:=zc X G h4
 obtain⟨a5,f5,d5,F5,Q5⟩:=zc X G h5
 obtain⟨a6,f6,d6,F6,Q6⟩:=zc X G h6
 obtain⟨a7,f7,d7,F7,Q7⟩:=zc X G h7
 obtain⟨a8,f8,d8,F8,Q8⟩:=zc X G h8
 obtain⟨a9,f9,d9,F9,Q9⟩:=zc X G h9
 obtain⟨a10,f10,d10,F10,Q10⟩:=zc X G h10
 obtain⟨a11,f11,d11,F11,Q11⟩:=zc X G h11
 obtain⟨a12,f12,Um,F12,Q12⟩:=zc X G h12
 refine⟨λh=>([C0,C1,C2,C3,C4,C5,C6,C7,C8,C9,C10,C11,C12]:List Addr).getD (hix h) 0,λh=>([f0,f1,f2,f3,f4,f5,f6,f7,f8,f9,f10,f11,f12]:List Addr).getD (hix h) 0,λh=>([d0,d1,d2,d3,d4,d5,d6,d7,d8,d9,d10,d11,Um]:List FuncData).getD (hix h) d0,λbase=>?_⟩
 have Z:∀h,HdQ K (([C0,C1,C2,C3,C4,C5,C6,C7,C8,C9,C10,C11,C12]:List Addr).getD (hix h) 0) (([f0,f1,f2,f3,f4,f5,f6,f7,f8,f9,f10,f11,f12]:List Addr).getD (hix h) 0)/\([C0,C1,C2,C3,C4,C5,C6,C7,C8,C9,C10,C11,C12]:List Addr)[hix h]?=some (([C0,C1,C2,C3,C4,C5,C6,C7,C8,C9,C10,C11,C12]:List Addr).getD (hix h) 0):=λh=>by
  rcases h with _|_|i|i
  ·exact⟨Q0,rfl⟩
  ·exact⟨Q1,rfl⟩
  ·rcases Ih i with rfl|rfl|rfl|rfl|rfl|rfl|rfl<;>exact⟨by assumption,rfl⟩
  ·rcases Ii i with rfl|rfl|rfl|rfl<;>exact⟨by assumption,rfl⟩
 have oA:=zQj (P:=l.prog) (w:=w) (mg:=mg) (base:=base) FA
 have bA:=Ts.rQ (p0:="self") (p1:="word") (p2:="parts") FA
 have oB:=zTv FB aA cA oA bA
 have bB:=Ts.rQ (p0:="self") (p1:="word") (p2:="part") FB
 have oD:=zTu FD aA cA oA bA
 have bD:=Ts.PJ (p0:="self") (p1:="word") (p2:="left") (p3:="right") FD
 have o0:=Nh F0 Q0.2.1 aA cA oA bA
 have o1:=G8 F1 Q1.2.1 aA cA oA bA
 have o2:=Nj F2 Q2.2.1 aB cB oB bB
 have o3:=zK4 F3 Q3.2.1 aB cB oB bB
 have o4:=zK7 F4 Q4.2.1 aB cB oB bB
 have o5:=zHv F5 Q5.2.1 aB cB oB bB
 have o6:=zHw F6 Q6.2.1 aB cB oB bB
 have o7:=zK5 F7 Q7.2.1 aB cB oB bB
 have o8:=zK8 F8 Q8.2.1 aB cB oB bB
 have o9:=G9 F9 Q9.2.1 aD cD oD bD
 have o10:=zQk F10 Q10.2.1 aD cD oD bD
 have o11:=zK3 F11 Q11.2.1 aD cD oD bD
 have o12:=zK6 F12 Q12.2.1 aD cD oD bD
 refine⟨⟨λh=>(Z h).1.1,o0.mono (by decide),Ts.yc F0,o1.mono (by decide),Ts.g_ F1,λi=>by rcases Ih i with rfl|rfl|rfl|rfl|rfl|rfl|rfl<;>assumption,λi=>by rcases Ih i with rfl|rfl|rfl|rfl|rfl|rfl|rfl<;>(first|exact Ts.g_ F2|exact Ts.g_ F3|exact Ts.g_ F4|exact Ts.g_ F5|exact Ts.g_ F6|exact Ts.g_ F7|exact Ts.g_ F8),λi=>by rcases Ii i with rfl|rfl|rfl|rfl<;>assumption,λi=>by rcases Ii i with rfl|rfl|rfl|rfl<;>(first|exact Ts.rQ F9|exact Ts.rQ F10|exact Ts.rQ F11|exact Ts.rQ F12),a0,a1,λi=>by rcases Ih i with rfl|rfl|rfl|rfl|rfl|rfl|rfl<;>assumption,λi=>by rcases Ii i with rfl|rfl|rfl|rfl<;>assumption⟩,λh=>(Z h).1.2.1,λh h' t e=>?_,λh=>(Z h).1.2.2.1,hn,ht,λh=>(Z h).1.2.2.2.1⟩
 subst e
 rw[Ig]
 obtain⟨x,_,y⟩:=Uo (D:=_) m (Z (hd t)).2
 by_cases e:hix h'=hix (hd t)
 ·rw[decide_eq_true e]
  exact Ie (Z h').1.2.2.2.2.1 (Z h').1.2.2.2.2.2 (by rw[e];exact x)
 ·rw[decide_eq_false e]
  exact Oc (Z h').1.2.2.2.2.1 (Z h').1.2.2.2.2.2 (y (Z h').2 e) x
end Sy
namespace Ts
open PySem L2 Sy
def Di(K:PySem.W.Frag):Sp:=λvs H Q _=>∃(a:Addr)(ns:LI),vs=[.ref a]/\bw K H a (ns.map V.int)/\ns.length<=63/\∀H',Q (.bl true) H'
section
variable{P:Program}{w:World}{K:PySem.W.Frag}{mg:Str->Option Value}{base h:Heap}{j k:Nat}{f C:Addr}{fd:FuncData}{ps:List Str}{sp:Sp}{x y:Str}{st:Stmt}
theorem aaf(no:∀vs H Q E,¬sp vs H Q E):aq P w K mg base aO k f fd ps sp :=
 ⟨λvs H Q E h=>absurd h (no vs H Q E),λA outer s H args us vs Q E _ _ _ _ h=>absurd h (no vs H Q E)⟩
abbrev FP(K:PySem.W.Frag)(x:Str)(st:Stmt):Prop:=∃f fd,nsIn K abb x=some (some (.ref f))/\aU K x x st f fd
abbrev MP(K:PySem.W.Frag)(C:Addr)(x y:Str)(st:Stmt):Prop:=∃f fd,Meth K C x f/\aU K x y st f fd
def J0(K:PySem.W.Frag):List Str->Prop
 |[]=>True
 |x::r=>nsIn K abb x=some none/\J0 K r
theorem Uq(a:nsIn K abb x=some (some (.ref f)))(F:aU K x x st f fd):FP K x st:=⟨f,fd,a,F⟩
theorem Ur(a:Meth K C x f)(F:aU K x y st f fd):MP K C x y st:=⟨f,fd,a,F⟩
theorem Ij{dV oc kV doc pm cdv ct:Value}{od an:Option Addr}{osl:Array (Option Value)}(l:K.lookup f=some ⟨oc,od,.func (fnOf x y (uG st) (wR st) (zI st) dV kV doc pm an cdv ct),osl⟩)(c:codeIn K cdv y=true)(k:keepIn K (.ref f)=true):Ce K x y st dV f (fnOf x y (uG st) (wR st) (zI st) dV kV doc pm an cdv ct):=⟨⟨oc,od,kV,doc,pm,an,cdv,ct,osl,rfl,l,c⟩,k⟩
theorem Oh(X:K.In h)(G:h.Ns abb mg)(p:FP K x st)(t:∀f fd,aU K x x st f fd->aq P w K mg base aO k f fd ps sp/\Binds K fd ps []):bC P w K mg base k x ps sp:=by
 obtain⟨f,fd,a,F⟩:=p
 exact⟨f,fd,(t f fd F).1,(t f fd F).2,F.kp,mg_of X G a⟩
theorem Ik(c:Cls K C)(p:MP K C x y st)(t:∀f fd,aU K x y st f fd->aq P w K mg base aO k f fd ps sp/\Binds K fd ps []):fQ P w K mg base k C x ps sp:=by
 obtain⟨f,fd,a,F⟩:=p
 exact⟨⟨f,fd,(t f fd F).1,(t f fd F).2,a⟩,c⟩
theorem bC.m(c:bC P w K mg base j x ps sp)(h:j<=k:=by decide):bC P w K mg base k x ps sp:=c.mono h
theorem fQ.m(c:fQ P w K mg base j C x ps sp)(h:j<=k:=by decide):fQ P w K mg base k C x ps sp:=c.mono h
end
set_option maxHeartbeats 8000000 in
theorem all_mk{l:PySem.W.OpenLaw}{K:PySem.W.Frag}(X:K.In h)(G:h.Ns abb mg)(hfa:mg "law" = some (.ref fa))(SY:∃(cl fi:Hd->Addr) (di:Hd->FuncData),∀base:Heap,lZ l.prog w K mg base 3 cl fi di)(h1:FP K "sources_of" V5)(h2:FP K "is_stand" jH)(h3:FP K "check_stands" dJ)(h4:FP K "check_steps" fj)(h5:FP K "is_name" lg)(h6:FP K "check_marks" fu)(h7:FP K "check_fair" fY)(h8:FP K "copied" mY)(h9:FP K "everywhere" fV)(h10:FP K "flags" pZ)(h11:FP K "without" kI)(h12:FP K "others" mR)(h13:FP K "shared" mU)(h14:FP K "distances" h_)(h15:FP K "comes_to" jG)(h16:FP K "steps_into" fW)(h17:FP K "stepping_to" eV)(h18:FP K "bits_of" kJ)(h19:FP K "onward_bits" eX)(h20:FP K "rings" p7)(h21:FP K "missed_by" ig)(h22:FP K "fair_rings" fX)(h23:FP K "joined" mV)(h24:FP K "core" sJ)(h25:FP K "alive" s_alive)(h26:FP K "some_next" iu)(h27:FP K "meaning_over_walks" bW)(h28:FP K "meaning" kY)(h29:FP K "table_among" eY)(h30:FP K "table" p8)(h31:FP K "holds" qb)(h32:FP K "step_reason" eZ)(h33:FP K "step_reasons" dI)(h34:FP K "reasons" kZ)(h35:FP K "whys" sO)(h36:FP K "_law_cell_at" iw)(h37:FP K "_law_whole" lq)(h38:FP K "_law_mix" qd)(h39:FP K "_law_steps_by" fZ)(h40:FP K "_law_set_by" jJ)(h41:FP K "_law_fair_by" iy)(h42:FP K "_law_small_by" gj)(h43:FP K "_law_reach" lu)(h44:FP K "_law_word_by" iz)(h45:FP K "_law_alive" lA)(h46:FP K "_law_part_by" iB)(h47:FP K "_law_pairs" lB)(h48:FP K "_law_stepped" iC)(h49:FP K "_law_told" mZ)(h50:FP K "law" pA)(aC:nsIn K abb "Machine" = some (some (.ref C)))(mk:Mk K C fI)(FI:Ce K "__init__" "Machine.__init__" Ca (.ref TD) fI Wf)(lT:K.lookup TD=some ⟨ocT,odT,.seq #[.none,.none] nT,slT⟩)(m0:MP K C "many" "Machine.many" dM)(m1:MP K C "next_of" "Machine.next_of" cL)(m2:MP K C "before" "Machine.before" cU)(m3:MP K C "marked" "Machine.marked" cV)(m4:MP K C "fair_at" "Machine.fair_at" cN)(cC:Cls K C)(nC:findIn K (.ref C) "steps" = some none/\findIn K (.ref C) "marks" = some none/\findIn K (.ref C) "fair" = some none/\findIn K (.ref C) "sources" = some none)(oh:nsIn K abb "LETTERS" = some (some (.str "abcdefghijklmnopqrstuvwxyz" yt)))(fK:nsIn K abb "LONGEST_NAME" = some (some (.int 8 m7)))(gD:nsIn K abb "MOST_STANDS" = some (some (.int 60 oV)))(fL:nsIn K abb "SAYING_WORDS" = some (some (.ref bY)))(oX:K.lookup bY=some ⟨.type "tuple",none,.seq #[.str "all" zf,.str "not" zj,.str "both" zm,.str "either" zp,.str "somenext" zq,.str "eachnext" zu,.str "sometill" zx,.str "eachtill" zy,.str "someever" z_,.str "eachever" Aa] Dj,Ah⟩)(z:J0 K ["len","range","isinstance","int","bool","list","enumerate","max","any","all","sorted","str","set","tuple","zip"]) :
  ∃fd:FuncData,(∀(s:Shared)(v:Value),BindsTo s fd ⟨[v],[]⟩ [("_law_script",v)])/\∀base:Heap,K.In base->base.Ns abb mg->aq l.prog w K mg base aO 16 fa fd ["_law_script"] (Di K):=by
 obtain⟨f,fd,a,⟨oc,od,kV,dc,pm,an,cd,ct,sl,rfl,lk,ck⟩,kp⟩:=h50
 have e:=hfa.symm.trans (mg_of X G a)
 cases e
 obtain⟨cl,fi,di,I0⟩:=SY
 obtain⟨aag,Oi,rO,aah,Us,Ut,t_,Ny,Nr,Np,cg,Cj,qe,qD,Nv,_⟩:=z
 obtain⟨nS,nM,nF,nB⟩:=nC
 have N:∀{x:Str},nsIn K abb x=some none->mg x=none:=λe=>PySem.W.mg_none_of X G e
 have B:Bl K mg:=⟨N aag,N Oi,N rO,N aah,N Us,N Ut,N t_,RB,RG,RD⟩
 have aai:=N Ny
 have aaj:=N Nr
 have aak:=N Np
 have jg:=N cg
 have Uu:=N Cj
 have Oj:=N qe
 have Ol:=N qD
 have aal:=N Nv
 have oh:=mg_of X G oh
 have fK:=mg_of X G fK
 have gD:=mg_of X G gD
 have fL:=mg_of X G fL
 have T:Cl K mg C:=⟨cC,nS,nM,nF,nB,mg_of X G aC⟩
 have ZS:Binds K Wf ["self","steps","marks","fair"] []:=λs us KX hl=>by
  obtain⟨_,_,_,_,_,_,_,_,_,rfl,_⟩:=FI.ex
  have h2:us.length=4:=by
   rw[length_append] at hl
   have:([]:List Value).length=0:=rfl
   have h4:(["self","steps","marks","fair"]:List Str).length=4:=rfl
   omega
  match us,h2 with
  |[u0,u1,u2,u3],_=>exact BindsTo.of_defaults rfl (KX _ _ lT) rfl rfl rfl
 refine⟨fnOf "law" "law" (uG pA) (wR pA) (zI pA) .none kV dc pm an cd ct,λs v=>.of_eq rfl,λbase _ _=>?_⟩
 have cal:∀{k:Nat}{x:Str}{st:Stmt}{ps:List Str}{sp:Sp},FP K x st->(∀f fd,aU K x x st f fd->aq l.prog w K mg base aO k f fd ps sp/\Binds K fd ps [])->bC l.prog w K mg base k x ps sp:=λh t=>Oh X G h t
 have Dk:∀{k:Nat}{x y:Str}{st:Stmt}{ps:List Str}{sp:Sp},MP K C x y st->(∀f fd,aU K x y st f fd->aq l.prog w K mg base aO k f fd ps sp/\Binds K fd ps [])->fQ l.prog w K mg base k C x ps sp:=λh t=>Ik cC h t
 have I:=I0 base
 have dN:∀H:Hp,kj K H bY ((["all","not","both","either","somenext","eachnext","sometill","eachtill","someever","eachever"]:List Str).map V.str):=λH=>.inr ⟨_,_,_,oX,rfl,rfl,(by show 10<=sizeLine;decide),by repeat(first|exact Paired.nil|refine Paired.cons ⟨_,rfl⟩ ?_)⟩
 have jK:=cal h2 λ_ _ F=>⟨zK1 (k:=0) F B,g_ F⟩
 have aN:=cal h3 λ_ _ F=>⟨zEz (k:=1) F B jK.m,rQ F⟩
 have oY:=cal h4 λ_ _ F=>⟨zF2 (k:=2) F B gD aN.m,yc F⟩
 have lC:=cal h5 λ_ _ F=>⟨zN8 (k:=0) F B oh fK fL dN aak Uu,yc F⟩
 have oZ:=cal h6 λ_ _ F=>⟨zF3 (k:=2) F B aN.m lC.m,g_ F⟩
 have qH:=cal h7 λ_ _ F=>⟨zHu (k:=2) F B aN.m,g_ F⟩
 have Dl:=cal h8 λ_ _ F=>⟨zQi (k:=0) F B,yc F⟩
 have aam:=cal h1 λ_ _ F=>⟨M_ F B,yc F⟩
 have OI:aq l.prog w K mg base aO 4 fI Wf ["self","steps","marks","fair"] (RZ K C (Ti C)):=Nb (k:=3) FI T B oY.m oZ.m qH.m Dl.m aam.m
 have aJ:=Dk m0 λ_ _ F=>⟨zE0 (k:=0) (C:=C) F B T,yc F⟩
 have aK:=Dk m1 λ_ _ F=>⟨zCs (k:=0) (C:=C) F B T jg,g_ F⟩
 have cW:=Dk m2 λ_ _ F=>⟨zDm (k:=0) (C:=C) F B T,g_ F⟩
 have cX:=Dk m3 λ_ _ F=>⟨zDl (k:=0) (C:=C) F B T jg,g_ F⟩
 have cO:=Dk m4 λ_ _ F=>⟨zCt (k:=0) (C:=C) F B T jg,g_ F⟩
 have aH:=cal h9 λ_ _ F=>⟨zHt (k:=1) (C:=C) F B aJ.m,yc F⟩
 have dz:=cal h10 λ_ _ F=>⟨zTs (k:=1) (C:=C) F B aJ.m,g_ F⟩
 have dF:=cal h11 λ_ _ F=>⟨zN1 (k:=0) F B jg Oj,g_ F⟩
 have dX:=cal h12 λ_ _ F=>⟨zQf (k:=2) (C:=C) F B aH.m dF.m,g_ F⟩
 have bI:=cal h13 λ_ _ F=>⟨zQe (k:=0) F B jg Oj,g_ F⟩
 have iH:=cal h14 λ_ _ F=>⟨zJi (k:=2) (C:=C) F B cW.m aJ.m dz.m,rQ F⟩
 have jL:=cal h15 λ_ _ F=>⟨zK2 (k:=3) (C:=C) F B iH.m,rQ F⟩
 have gw:=cal h16 λ_ _ F=>⟨zHp (k:=1) (C:=C) F B aaj aK.m,rQ F⟩
 have fH:=cal h17 λ_ _ F=>⟨zFz (k:=2) (C:=C) F B dz.m gw.m,rQ F⟩
 have jc:=cal h18 λ_ _ F=>⟨zN9 (k:=0) F B,yc F⟩
 have fG:=cal h19 λ_ _ F=>⟨zF1 (k:=1) (C:=C) F B aJ.m aK.m jc.m,g_ F⟩
 have ql:=cal h20 λ_ _ F=>⟨zTp (k:=2) (C:=C) F B jg Oj fG.m,g_ F⟩
 have iK:=cal h21 λ_ _ F=>⟨zJc (k:=1) (C:=C) F B T cO.m bI.m,g_ F⟩
 have gA:=cal h22 λ_ _ F=>⟨zHs (k:=3) (C:=C) F B iK.m ql.m,g_ F⟩
 have nq:=cal h23 λ_ _ F=>⟨zQh (k:=0) F B,yc F⟩
 have sY:=cal h24 λ_ _ F=>⟨Hf (k:=4) (C:=C) F B jL.m gA.m nq.m,g_ F⟩
 have je:=cal h25 λ_ _ F=>⟨zTt (k:=5) (C:=C) F B sY.m aH.m,yc F⟩
 have eN:=cal h26 λ_ _ F=>⟨zJb (k:=3) (C:=C) F B aH.m bI.m fH.m,rQ F⟩
 have bZ:=cal h27 λ_ _ F=>⟨zBr (k:=4) (C:=C) (cl:=cl) F B I dX.m eN.m,PJ F⟩
 have dG:=cal h28 λ_ _ F=>⟨zN3 (k:=5) (C:=C) (cl:=cl) F B I cX.m aH.m bZ.m dX.m,PJ F⟩
 have ou:∀n:Nat,bC l.prog w K mg base (6+n) "table_among" ["machine","living","saying"] (uT K C cl (yT n)):=λn=>by
  induction n with
  |zero=>exact cal h29 λ_ _ F=>⟨aaf (λvs H Q E ⟨_,_,_,_,z,_⟩=>by cases z),rQ F⟩
  |succ n ih=>exact cal h29 λ_ _ F=>⟨zFy (k:=6+n) F B I (dG.mono (aaz (by decide) (abh 6 n))) ih,rQ F⟩
 have cG:bC l.prog w K mg base 12 "table_among" ["machine","living","saying"] (zC7 K C cl):=ou 6
 have qm:=cal h30 λ_ _ F=>⟨zTo (k:=12) (C:=C) (cl:=cl) F B je.m cG.m,g_ F⟩
 have qt:=cal h31 λ_ _ F=>⟨zTr (k:=13) (C:=C) (cl:=cl) F B qm.m,g_ F⟩
 have fJ:=cal h32 λ_ _ F=>⟨zF0 (k:=0) F B,yc F⟩
 have cP:=cal h33 λ_ _ F=>⟨zEy (k:=2) (C:=C) F B aK.m aH.m bI.m fJ.m,g_ F⟩
 have lD:=cal h34 λ_ _ F=>⟨zN2 (k:=3) (C:=C) (cl:=cl) F B I bI.m cP.m dF.m,bi5 F⟩
 have qG:=cal h35 λ_ _ F=>⟨Hg (k:=14) (C:=C) (cl:=cl) F B I aal je.m dz.m qt.m dG.m lD.m,g_ F⟩
 have aX:=cal h36 λ_ _ F=>⟨zJh (k:=0) F B,g_ F⟩
 have lG:=cal h37 λ_ _ F=>⟨zN4 (k:=0) F B,yc F⟩
 have bN:=cal h38 λ_ _ F=>⟨zTq (k:=0) F B,g_ F⟩
 have gC:=cal h39 λ_ _ F=>⟨zHq (k:=1) F B aai aX.m bN.m,g_ F⟩
 have jN:=cal h40 λ_ _ F=>⟨zK0 (k:=1) F B bN.m,rQ F⟩
 have iW:=cal h41 λ_ _ F=>⟨zJg (k:=1) F B bN.m,g_ F⟩
 have gB:=cal h42 λ_ _ F=>⟨zHr (k:=0) F B,yc F⟩
 have lF:=cal h43 λ_ _ F=>⟨zN5 (k:=0) F B,rQ F⟩
 have iZ:=cal h44 λ_ _ F=>⟨zJd (k:=0) F B,g_ F⟩
 have lK:=cal h45 λ_ _ F=>⟨zN7 (k:=1) F B lF.m,g_ F⟩
 have iY:=cal h46 λ_ _ F=>⟨zJf (k:=4) (cl:=cl) F B I (by decide),PJ F⟩
 have lH:=cal h47 λ_ _ F=>⟨zN6 (k:=0) F B Uu Ol,g_ F⟩
 have iU:=cal h48 λ_ _ F=>⟨zJe (k:=1) F B lG.m,PJ F⟩
 have kh:=cal h49 λ_ _ F=>⟨zQg (k:=2) F B lH.m iU.m,PJ F⟩
 refine aq.imp (NQ (k0:=14) (C:=C) (cl:=cl) (mJ lk ck kp) B T I (by decide) mk (OI.mono (by decide)) ZS lK.m aX.m iW.m iY.m jN.m gB.m gC.m kh.m iZ.m qG.m) λvs H Q E h=>?_
 obtain⟨a,ns,rfl,hS,h63,hQ⟩:=h
 obtain⟨b,e1,e2⟩:=zT4 C cl ⟨ns⟩
 subst e2
 exact⟨(⟨ns⟩,()),true,H,.refl _,e1,.cons ⟨a,rfl,hS⟩ .nil,λv H' _ r=>by cases r;exact hQ H'⟩
theorem walk{l:PySem.W.OpenLaw}{YP:World->Heap->Prop}{d:DefRec}{K:Params->PySem.W.Frag}(hn:l.most=some 63)(hdf:d.params.defaults=[])(hY:∀(w:World) (h:Heap),YP w h->(K w.params).In h)(F:∀(w:World) (mg:Str->Option Value) (fa:Addr) (h:Heap),(K w.params).In h->h.Ns abb mg->mg d.name=some (.ref fa) ->
   ∃fd:FuncData,(∀(s:Shared) (u:Value),BindsTo s fd ⟨[u],[]⟩ [("_law_script",u)])/\∀base:Heap,(K w.params).In base->base.Ns abb mg->aq l.prog w (K w.params) mg base aO 16 fa fd ["_law_script"] (Di (K w.params))) :
  PySem.W.WalkO q loose XP YP l.row.toRowW d [] (λf vs=>PySem.call f vs) :=
 L2.Fx (n:=63) (k:=16) (x:="_law_script") (CX:=λ_=>aO) (sp:=λw=>Di (K w.params)) hn (by decide) hdf ⟨rfl,by decide,by decide⟩ hY F (λ_ _ a ns hl _ hS=>⟨a,ns,rfl,hS,hl,λ_=>rfl⟩) λ_ _ _ _ _ z=>z
end Ts
namespace PySem.W.Fast
def tw10225304946114048506:=0
def tw15789516842002178864:=0
def tw380449144981627175:=0
def tw8985200870268863847:=0
def tw3114560172295805556:=0
def tw13012819865379500095:=0
def tw14511504830824530394:=0
def tw7932828441776848850:=0
def tw14564164187873463237:=0
def tw11391033350387380279:=0
def tw287154582933515776:=0
def tw10142099761681625794:=0
def tw11968127229311211248:=0
def tw3150412795356328535:=0
def tw13815460292193680313:=0
def tw6216203907437147089:=0
def tw9494656261559473675:=0
def tw6717212992635975154:=0
def tw8891646278982070965:=0
def tw12979832000906221669:=0
def tw15718618937138925251:=0
def tw17125156984789095531:=0
def tw10614692392835584663:=0
def tw8728307174403787548:=0
def tw8141297462815202201:=0
def tw1722876922368514513:=0
def tw6095883502118039391:=0
def tw15787126446558986196:=0
def tw2933485602726205448:=0
def tw11718226218445731369:=0
def tw16484361895605025291:=0
def tw9114815548516351721:=0
def tw324771981800337831:=0
def tw2442794795817813067:=0
def tw2308571691535629500:=0
def tw12511833433795422183:=0
def tw13509827080501829204:=0
def tw8976406831241049997:=0
def tw9758389298907965278:=0
def tw1695230766124778079:=0
def tw7432104464635483187:=0
def tw17620967733381536550:=0
def tw3495720954906021487:=0
def tw2793245492468498359:=0
def tw9401382916548866689:=0
def tw3671766829789336469:=0
def tw2376094273461084857:=0
def tw5587717394934056633:=0
def tw3524373386003353437:=0
def tw17930966788954705327:=0
def tw15339819447850630478:=0
def tw770652437058838144:=0
def tw1181076455614556776:=0
def tw9414915808617820523:=0
def tw13731070195406306528:=0
def tw9013721563158642914:=0
def tw13862680837977482204:=0
def tw6481278588598308275:=0
def tw2499405095201188021:=0
def tw9667751180053784574:=0
def tw10815303020924362990:=0
def tw12578774488938485490:=0
def tw2807759267567652960:=0
def tw1703040421053480526:=0
def tw6356559855754360242:=0
def tw1444458080515520036:=0
def tw14845479515177657809:=0
def tw2406740489196980955:=0
def tw15438529577957426868:=0
def tw2355344814517678893:=0
def tw9123781239467666933:=0
def tw12707848737859085522:=0
def tw9923410641562682699:=0
def tw16081085353410828747:=0
def tw3330388319322010631:=0
def tw14732785534284794747:=0
def tw7899158899396370994:=0
def tw3476996403728119708:=0
def tw2401743843325062385:=0
def tw14568323783151731583:=0
def tw512281359314340618:=0
def tw2627216837396306995:=0
def tw5593516412707415230:=0
def tw14633340403592487308:=0
def tw3909572385645331261:=0
def tw14471347792950672146:=0
def tw17001897672000340916:=0
def tw14115160118664478030:=0
def tw16262069686125797254:=0
def tw11319700691067074978:=0
def tw12444186239177402400:=0
def tw3381428959265576931:=0
def tw46734652338372625:=0
def tw1194174067013117593:=0
def tw18228827783075942890:=0
def tw10538960932731680066:=0
def tw6868327271675265414:=0
def tw13482012944369120875:=0
def tw12632049257448426353:=0
def tw9944778514140829761:=0
def tw17031516032834809073:=0
def tw11733396457531637140:=0
def tw5484811343823417252:=0
def tw17833414754273854213:=0
def tw4821996754688177122:=0
def tw2521599804155813292:=0
def tw17727233186816944184:=0
def tw14663247251082348936:=0
def tw10571531998774875098:=0
def tw9561619889994758578:=0
def tw16821426441226641547:=0
def tw1455109343843550929:=0
def tw12074693653007716898:=0
def tw16128304193983585949:=0
def tw4228574247972351858:=0
def tw13741300310812007090:=0
def tw9410733481438757972:=0
def tw8739241206606210967:=0
def tw8191547844725791443:=0
def tw5716129752106238563:=0
def tw1845449999815205382:=0
def tw18179930792110743552:=0
def tw15938283368262973160:=0
def tw598110858077300936:=0
def tw4987967488317005076:=0
def tw6427860176644181345:=0
def tw7217704874873077753:=0
def tw8620593742600898447:=0
def tw17793801937400076922:=0
def tw1151880573840059078:=0
def tw3856066604870998974:=0
def tw9130409131836539669:=0
def tw14780159093322781804:=0
def tw48426683293872624:=0
def tw2962080060287856451:=0
def tw17044390730606908173:=0
def tw14872698435840257923:=0
def tw16379273275123118631:=0
def tw7407043886999937297:=0
def tw12453002002422111049:=0
def tw7640833508562254002:=0
def tw13922964462012212684:=0
def tw12901479531619247260:=0
def tw18407151574971650072:=0
def tw3282892085391108055:=0
def tw10929279164243039694:=0
def tw12337684340386826516:=0
def tw3929095169016249209:=0
def tw2238126198180518879:=0
def tw15214517562918602388:=0
def tw4124755245284914749:=0
def tw11672955647011299748:=0
def tw4385583952862434075:=0
def tw8708266736110440246:=0
def tw3810087042853042339:=0
def tw11140565962624697600:=0
def tw10398761851462944868:=0
def tw11361897764812812369:=0
def tw1442419262908382253:=0
def tw16208341233727499909:=0
def tw177189273276081759:=0
def tw16615089295600528007:=0
def tw12769195966586146756:=0
def tw15830742715447851981:=0
def tw13334595988143431188:=0
def tw7722658325449062381:=0
def tw5943898891724230040:=0
def tw17783842385279308619:=0
def tw10944278299464085033:=0
def tw3962953116598393426:=0
def tw6864458952255431311:=0
def tw979462464845335149:=0
def tw10281887313439931472:=0
def tw10843577082070404820:=0
def tw7466802210846330484:=0
def tw13505241893192875370:=0
def tw17679916304344109627:=0
def tw10080213238922553037:=0
def tw5067084200179914053:=0
def tw4240391057351209793:=0
def tw7167504905109059536:=0
def tw2204466013573578911:=0
def tw12748422847350859076:=0
def tw14185005870179365340:=0
def tw18420925374003775215:=0
def tw2932007503798093857:=0
def tw16880947459748741392:=0
def tw11897994444816420112:=0
def tw7289019247792798932:=0
def tw15355336955334944615:=0
def tw4983931124459140417:=0
def tw11906321203510277447:=0
def tw18151932078388504670:=0
def tw6382771402444227981:=0
def tw7266000123838775385:=0
def tw1110528290976449182:=0
def tw842002888219835899:=0
def tw15113753791207236238:=0
def tw7956314043898875419:=0
def tw4551040799273152677:=0
def tw9262949417181497475:=0
def tw1868972600705209700:=0
def tw12805581498370473414:=0
def tw16685645125420926655:=0
def tw3322566432847878409:=0
def tw17390234650801425947:=0
def tw7916102512752917348:=0
def tw14979801485719840698:=0
def tw12227522800613068825:=0
def tw14416154131567452051:=0
def tw16089965331645069559:=0
def tw16857421477246444353:=0
def tw638778727395109560:=0
def tw14087268100563940982:=0
def tw17439971637941733990:=0
def tw12406871964591016225:=0
def tw11579241732512882789:=0
def tw228618524073997580:=0
def tw14931836508878727450:=0
def tw10916631072788942595:=0
def tw5428318324283158996:=0
def tw2301114149014553391:=0
def tw16493957325849214337:=0
def tw11643586899993229852:=0
def tw11357853813094275083:=0
def tw17762637908620736471:=0
def tw3704541324477174273:=0
def tw2204659245823251149:=0
def tw8273330254512959056:=0
def tw2689879486685319690:=0
def tw16376041891754586258:=0
def tw2520734827764849086:=0
def tw14178648352197334997:=0
def tw8576670947005856618:=0
def tw10303385865239967789:=0
def tw10922221839030527054:=0
def tw7221258972009742766:=0
def tw5505491947412310408:=0
def tw12906049036403135335:=0
def tw13694083058450695644:=0
def tw15671676568690582259:=0
def tw15986775743151461771:=0
def tw10497703798120204357:=0
def tw5930249343702748282:=0
def tw18050735592077402035:=0
def tw6475163343291911524:=0
def tw17343655284411718228:=0
def tw9025033984614760730:=0
def tw4709492531023081249:=0
def tw16524659566556652212:=0
def tw6261866512221439209:=0
def tw17307535361244993612:=0
def tw10195533901398609242:=0
def tw2825347401460008335:=0
def tw11647451576669696782:=0
def tw6291846348786290706:=0
end PySem.W.Fast
open PySem PySem.W PyProof.Rows
set_option maxRecDepth 100000 in
set_option maxHeartbeats 0 in
theorem PySem.Challenge.cw_treesay_k51_reasons_of_next_holds : PySem.Challenge.rw_treesay_k51_reasons_of_next.Holds := by
 w_on; o_law; k_head; (case hw=>w_witness2)
 k_fill
 refine Ts.walk (l:=PySem.Challenge.rw_treesay_k51_reasons_of_next) rfl rfl (fun w h Y=>by first | exact PySem.W.kIn_of Y | exact PySem.W.km_in_of Y) ?F
 case F =>
  intro w mg fa h KX G hmg
  refine' Ts.all_mk KX G hmg (Sy.Og KX G ?_ ?_ ?_ ?_ ?_ ?_ ?_ ?_ ?_ ?_ ?_ ?_ ?_ ?_ ?_ ?_ ?_ ?_ ?_) ?_ ?_ ?_ ?_ ?_ ?_ ?_ ?_ ?_ ?_ ?_ ?_ ?_ ?_ ?_ ?_ ?_ ?_ ?_ ?_ ?_ ?_ ?_ ?_ ?_ ?_ ?_ ?_ ?_ ?_ ?_ ?_ ?_ ?_ ?_ ?_ ?_ ?_ ?_ ?_ ?_ ?_ ?_ ?_ ?_ ?_ ?_ ?_ ?_ ?_ ?_ ?_ ?_ ?_ ?_ ?_ ?_ ?_ ?_ ?_ ?_ ?_ ?_ ?_ ?_ ?_ ?_
  all_goals first | refine' Sy.Oe ?_ ⟨?_,?_,?_,?_⟩ (L2.mJ ?_ ?_ ?_) ⟨?_,?_,?_,?_⟩ ?_ | refine' Sy.Od ?_ ⟨?_,?_,?_,?_⟩ (L2.mJ ?_ ?_ ?_) | refine' Ts.Ur ⟨?_,?_,?_⟩ (L2.mJ ?_ ?_ ?_) | refine' Ts.Uq ?_ (L2.mJ ?_ ?_ ?_) | refine' Ts.Ij ?_ ?_ ?_ | refine' ⟨?_,?_,?_,?_⟩ | skip
  all_goals repeat' first | refine' And.intro ?_ ?_ | exact True.intro
  all_goals first | k_is | skip
  all_goals first | k_is | skip
