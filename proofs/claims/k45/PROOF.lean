import PyProof.Rows.All
import Wide.All
import OpenK.AllK
import Wide.FinOn
import Lean
import PyProof.EqAt
import PyProof.EqKinds
import PyProof.TupleCall
import PyProof.NeKinds
import PyProof.EnumStmt
import PyProof.EnumMake
import PyProof.CompFree
import PyProof.Rows.FStr
import PySem.Challenge.RW_treesay_k45_contraries
open PySem renaming wpAny_bind->aam,wpAny_pure->aan,wpAny_setState_of->aaz,mainGlobals->aa6,wpAny_holding->abf,boot_len->abg,mem_of_lookup->abq,wpAny_newObj_type->abr,wpAny_setEpoch_of->abt,Spec->abv,wpAny_Call_Name_kw->abw,wpAny_mono->ab4,wpAny_truthy_bool->ab5,wpAny_call_entry->ab9,fits_of_scanBound->acd,wpAny_storeSet_of->ace,wpAny_passesOwn->acj,wpAny_forIn_list->acy,codeAny_builtin->ac3,wpAny_setField->ac9,codeAny_mono->adf,wpAny_askSetting->adg,entryFor_alias->ad0,wpAny_pyIter_list->ad2,builtinLookup_eq_fast->ad3,wpAny_isInstance->ad5,wpAny_rule->ad6,plainId_quiet->ad9,wpAny_execs_nil->aea,wpAny_binaryOp_same->aeb,tupleKind_room_in1->aed,sub_set_self->aer,typeLookup_type->aes,wpAny_ite_split->aeu,seqIndex_of->aex,sizeLine_eq->aey,wpAny_BinOp->aez,wpAny_standAt->ae3,call_meets->ae7,Within->afb,seqIndex_neg->afd,wpAny_typeOf->afe
open Bool renaming false_ne_true->aao,and_eq_true->aar,false_eq_true->aax,eq_iff_iff->abb,or_eq_true->abp,not_true->aby,false_or->ad7,and_false->aev,and_self->ae1
open List renaming getElem?_eq_getElem->aap,getElem?_eq_some_iff->aay,range->aa1,getElem?_eq_none->aa9,getElem?_set->aco,lookup->acp
open Nat renaming le_refl->aaq,ne_of_lt->aau,lt_of_le_of_lt->aav,lt_of_lt_of_le->aaw,le_trans->aa0,zero_le->aa5,lt_irrefl->abx,succ_le_succ->ab2,le_succ->ab6,le_add_right->ab7,lt_succ_self->ab8,not_lt_zero->aci,le_of_lt->acq,zero_add->acr,le_of_lt_succ->ac6,ne_of_gt->adb,lt_succ_of_lt->ady,lt_trans->adz,le_of_succ_le->aeg,succ_pos->aeo,mod_lt->ae4
open Option.some renaming inj->aas
open Array renaming getElem?_eq_getElem->aat,getElem?_eq_none->abk
open PySem.PassesOwn renaming never->aa2
open PySem.NameKind renaming free->aa3,cell->abz
open PySem.F renaming plainAttrs_list->aa4,slot_list_append->abd,type_list_append->abe
open PySem.Builtin renaming bitAnd->aa7,bitNot->acw,bitOr->ac4
open PySem.Builtin.Frozenset renaming unchanged->aa8,slot1->ab1,updateFrom->ac2,copyOf->adk,sizeOf->adl
open Sum renaming inl->abh,inr->ab0
open PySem.Value renaming ref->abj,int->ab3,isInt_shape->acs,none->ac7,type->adq,noConfusion->aej,str->ae0,bool->ae6,float->afk
open Option renaming isSome_iff_exists->abl,isSome_some->adp,isSome_map->aeh,none->afh
open PyProof.Rows renaming callWith_type1->abm,envOfC->adi,Constant_none->ae2
open False renaming elim->abn
open Int renaming toNat_natCast->abo,emod_lt_of_pos->acz,natCast_nonneg->ac0,ofNat->ada,emod_nonneg->ado,le_refl->aef
open LawfulBEq renaming eq_of_beq->abu
open ForInStep renaming yield->acf
open Ne renaming symm->acg
open PySem.Builtin.Slice renaming slicePlaces->ach,sliceAdjust->adh
open PySem.Around renaming under_plainId->acn,under->ae8
open PySem.Builtin.Tuple renaming tupleExact->acu
open True renaming intro->acv
open PySem.Obj renaming mapSeq->ac1,mapFields->aek,putSet->ae5
open PySem.Builtin.List renaming listLengthHint->ac5,listTooLong->adn
open PySem.W renaming cellsFrom_some->ac8,kia_one->ad1,methodCall_KW->aen,callWith_K->aep,plainGet_of->aew
open PySem.Str renaming ofString->ade,empty->adx
open PySem.Builtin.Str renaming occurrences->adt
open Classical renaming propDecidable->adu
open PyProof.Rows.F renaming plain_set_update_loop->adw
open PySem.SeqAt renaming EqAt->ad4
open PySem.SetTable renaming fill->ad8
open PySem.Calls renaming spliced_cons->aec,spliced_nil->aee
open Prod.mk renaming inj->aei
open PySem.Paired renaming length->ael,snoc->afi
open PySem.Value.ref renaming inj->aem
open PySem.Code renaming isFrame->ae9
open Iff renaming rfl->afa
open PySem.pickOrder renaming go->afc
open PySem.Data renaming fields->afg
open Sum.inl renaming inj->afj
open PySem.W (instObj methodObj lookIn plainGet hasDictIn findIn plainGet_of isFn takerIn typeIn emptyDict specialIn keepIn takesIn mroIn kitOne kia_one callWith_K methodCall_KW cellsFrom_some fnOf codeIn kitCls isClsIn nsIn mg_of)
open List (getElem?_eq_none_iff mem_filter mem_range filterMap_cons mem_cons_self mem_cons_of_mem mem_cons mem_append mem_append_left getElem_inj mem_append_right size_toArray any_eq_false length_cons map_cons length_map append_nil nodup_cons of_mem_zip replicate length_take getElem?_append_right getElem?_replicate getElem?_append_left getElem?_map getElem?_take_of_lt mem_of_getElem? length_append find?_cons any_cons length_nil filterMap_map length_drop length_set all_cons reverse_cons length_singleton Pairwise lookup_cons all_eq_true lookup_append getD_eq_getElem?_getD toArray getElem?_cons_zero map_append mem_map any_append take_append_drop take_add_one take_length getElem?_range length_range nil_append range_succ_eq_map range_succ filter_cons length_filter_le mem_iff_getElem? mem_singleton nodup_append any_eq_true getElem_mem getElem_of_mem Perm pairwise_cons getElem?_toArray length_eq_zero_iff length_eraseIdx append_assoc ext_getElem? filterMap set_set map_id' mem_flatten flatten_append flatten_singleton flatten_cons)
open PySem.Heap (lt_size SameBut get?_push_of_some get?_push_size size_push get?_update_self get?_update_other)
open Array (length_toList getElem?_toList toArray_toList forIn_toList size_map isEmpty)
open PySem.SetTable (below insertAt probe grown fits eraseAt)
set_option Elab.async false
set_option linter.all false
set_option maxRecDepth 100000
abbrev LI:=List Int
namespace L2
open PySem PySem.Spec PyProof.Rows
abbrev Key:=Sum Int Str
def N8:Key->Value->Bool
 |.inl k,v=>Value.isInt k v
 |.inr x,v=>Value.isStrOf x v
def Ws(w:World):Key->Int
 |.inl k=>hashInt k
 |.inr x=>hashStr w x
theorem xO:∀{k:Key}{v:Value},N8 k v=true->(∃i t,k=abh i/\v=ab3 i t)\/(∃x t,k=ab0 x/\v=ae0 x t)
 |.inl i,v,h=>by
  obtain⟨t,e⟩:=acs (k:=i) (v:=v) h
  exact .inl ⟨i,t,rfl,e⟩
 |.inr x,v,h=>by
  obtain⟨t,e⟩:=Value.isStrOf_shape (x:=x) (v:=v) h
  exact .inr ⟨x,t,rfl,e⟩
theorem zQc(i:Int)(t:Tok):N8 (.inl i) (.int i t)=true:=by simp[N8,Value.isInt]
theorem zQb(x:Str)(t:Tok):N8 (.inr x) (.str x t)=true:=by simp[N8,Value.isStrOf]
theorem Jm(a b:Int):decide ((abh a:Key)=abh b)=(a==b):=by
 by_cases e:a=b
 ·subst e;simp
 ·have h:¬(abh a:Key)=abh b:=λq=>e (afj q)
  rw[decide_eq_false h]
  exact(beq_eq_false_iff_ne.mpr e).symm
theorem Jo(a b:Str):decide ((ab0 a:Key)=ab0 b)=decide (a=b):=by
 by_cases e:a=b
 ·subst e;simp
 ·have h:¬(ab0 a:Key)=ab0 b:=λq=>e (Sum.inr.inj q)
  rw[decide_eq_false h,decide_eq_false e]
theorem Jp(a:Int)(b:Str):decide ((abh a:Key)=ab0 b)=false:=decide_eq_false (λq=>nomatch q)
theorem Jq(a:Str)(b:Int):decide ((ab0 a:Key)=abh b)=false:=decide_eq_false (λq=>nomatch q)
def vG(prog:Program)(w:World):PySem.KeyKind prog w Key where
 is:=N8
 hash:=Ws w
 inj:=λv a b ha hb=>by
  rcases xO ha with⟨i,t,rfl,rfl⟩|⟨x,t,rfl,rfl⟩
  ·rcases xO hb with⟨j,u,rfl,e⟩|⟨y,u,rfl,e⟩
   ·injection e with e1 _;rw[e1]
   ·exact nomatch e
  ·rcases xO hb with⟨j,u,rfl,e⟩|⟨y,u,rfl,e⟩
   ·exact nomatch e
   ·injection e with e1 _;rw[e1]
 byValue:=λk v h=>by
  rcases xO h with⟨i,t,rfl,rfl⟩|⟨x,t,rfl,rfl⟩<;>rfl
 pyHash:=λhv h=>by
  rcases xO hv with⟨i,t,rfl,rfl⟩|⟨x,t,rfl,rfl⟩
  ·exact wpAny_pyHash_int h
  ·exact wpAny_pyHash_str h
 eqBool:=λhu hv h=>by
  rcases xO hu with⟨i,t,rfl,rfl⟩|⟨x,t,rfl,rfl⟩
  ·rcases xO hv with⟨j,u,rfl,rfl⟩|⟨y,u,rfl,rfl⟩
   ·rw[Jm] at h;exact wpAny_eqBool_int h
   ·rw[Jp] at h;exact SeqAt.EqAt.int_str i t y u _ _ _ _ h
  ·rcases xO hv with⟨j,u,rfl,rfl⟩|⟨y,u,rfl,rfl⟩
   ·rw[Jq] at h;exact SeqAt.EqAt.str_int x t j u _ _ _ _ h
   ·rw[Jo] at h;exact wpAny_eqBool_str h
 «strs»:=λk x t v h=>by
  rcases xO h with⟨i,u,rfl,e⟩|⟨y,u,rfl,e⟩
  ·exact nomatch e
  ·injection e with e1 _
   subst e1
   cases v<;>rfl
theorem zKe(prog:Program)(w:World)(i:Int)(t:Tok):(vG prog w).is (.inl i) (.int i t)=true:=zQc i t
theorem zKd(prog:Program)(w:World)(x:Str)(t:Tok):(vG prog w).is (.inr x) (.str x t)=true:=zQb x t
inductive V where
 |non|bl (b:Bool)|int (i:Int)|str (x:Str)|qT (b:Array UInt8)|flt (b:UInt64)|ref (a:Addr)|ty (n:String)
 deriving DecidableEq
def RelV:V->Value->Prop
 |.non,u=>u=ac7
 |.bl b,u=>u=ae6 b
 |.int i,u=>∃t,u=ab3 i t
 |.str x,u=>∃t,u=ae0 x t
 |.qT b,u=>∃t,u=Value.bytes b t
 |.flt b,u=>∃t,u=afk b t
 |.ref a,u=>u=abj a
 |.ty n,u=>u=adq n
abbrev Vals:List V->List Value->Prop:=Paired RelV
theorem Vals.length(r:Vals xs us):xs.length=us.length:=ael r
theorem Vals.get:∀{xs:List V}{us:List Value}{i:Nat}{x:V},Vals xs us->xs[i]?=some x->∃u,us[i]?=some u/\RelV x u
 |_,_,_,_,.nil,e=>by simp at e
 |_,_,0,_,.cons r _,e=>by simp at e;subst e;exact⟨_,rfl,r⟩
 |_,_,i+1,x,.cons _ t,e=>by
  obtain⟨u,h1,h2⟩:=Vals.get (i:=i) (x:=x) t (by simpa using e)
  exact⟨u,by simpa using h1,h2⟩
theorem Vals.set(r:RelV x u):∀{xs:List V}{us:List Value}(i:Nat),Vals xs us->Vals (xs.set i x) (us.set i u)
 |_,_,_,.nil=>.nil
 |_,_,0,.cons _ t=>.cons r t
 |_,_,i+1,.cons q t=>.cons q (Vals.set r i t)
theorem Vals.append:∀{xs ys:List V}{us ws:List Value},Vals xs us->Vals ys ws->Vals (xs++ys) (us++ws)
 |_,_,_,_,.nil,s=>s
 |_,_,_,_,.cons r t,s=>.cons r (Vals.append t s)
theorem Vals.take:∀{xs:List V}{us:List Value}(n:Nat),Vals xs us->Vals (xs.take n) (us.take n)
 |_,_,0,_=>.nil
 |_,_,_+1,.nil=>.nil
 |_,_,n+1,.cons r t=>.cons r (Vals.take n t)
theorem Vals.drop:∀{xs:List V}{us:List Value}(n:Nat),Vals xs us->Vals (xs.drop n) (us.drop n)
 |_,_,0,r=>r
 |_,_,_+1,.nil=>.nil
 |_,_,n+1,.cons _ t=>Vals.drop n t
theorem Vals.none_of:∀{xs:List V}{us:List Value}{i:Nat},Vals xs us->xs[i]?=none->us[i]?=none:=λ{xs us i} r e=>by
 have h1:=r.length
 have h2:xs.length<=i:=getElem?_eq_none_iff.mp e
 exact getElem?_eq_none_iff.mpr (by omega)
def iG:Option V->Option Value->Prop
 |some v,some u=>RelV v u
 |none,none=>True
 |_,_=>False
def KV{κ:Type}:List (κ×V)->List (κ×Value)->Prop:=Paired λ(p:κ×V) (q:κ×Value)=>p.1=q.1/\RelV p.2 q.2
def kV:Key->V
 |.inl i=>.int i
 |.inr x=>.str x
inductive HO where
 |lst (xs:List V)
 |tup (xs:List V)
 |dK (kvs:List (Key×V))|dT (kvs:List (List Key×V))
 |set (S:Int->Bool) (n:Nat)
 |ins (C dx:Addr) (fs:List (Str×V))
 |own (x:Addr)
 |xd (fs:List (Str×V))
 |met (f x:Addr)
 |rng (lo hi:Int)
 |su (o:Obj) (u:HO)
 |Jr (ps:Array Value)
 |ext (φ:Heap->Prop)
abbrev Hp:=Addr->Option HO
def upd(H:Hp)(a:Addr)(o:HO):Hp:=λb=>if b=a then some o else H b
theorem zJ:upd H a o a=some o:=by unfold upd;rw[if_pos rfl]
theorem zP(h:b≠a):upd H a o b=H b:=by unfold upd;rw[if_neg h]
theorem GR{H:Hp}{a b:Addr}{o u:HO}(h:H a=some o)(h':H b=some u)(d:o≠u):a≠b:=by
 intro e;subst e;rw[h] at h';exact d (aas h')
theorem zN{H:Hp}{a b:Addr}{o:HO}(h:H a=some o)(h':H b=none):a≠b:=by
 intro e;subst e;rw[h] at h';cases h'
section
variable(P:Program)(w:World)
def bx(H:Hp)(h:Heap)(a:Addr):HO->Prop
 |.lst xs=>xs.length<=sizeLine/\∃(its:List Value)(n:Nat),Vals xs its/\h.get? a=some { cls:=.type "list",data:=.seq its.toArray n }
 |.tup xs=>xs.length<=sizeLine/\∃its:List Value,Vals xs its/\IsTup h a its.toArray
 |.dK kvs=>kvs.length<=sizeLine/\(a==sysModules)=false/\∃vs,KV kvs vs/\h.DictOf (vG P w) a vs
 |.dT kvs=>kvs.length<=sizeLine/\(a==sysModules)=false/\∃xs:List (List Key×Addr×Value),
   Paired (λ(p:List Key×V) (q:List Key×Addr×Value)=>p.1=q.1/\H q.2.1=some (.tup (p.1.map kV))/\RelV p.2 q.2.2) kvs xs /\
   ∃o es ep,h.get? a=some o/\o.ExactDict/\o.data=.dict es ep/\es.toList=xs.map (entryOfKey (tupleKind (vG P w)))/\(xs.map (·.1)).Nodup
 |.set S n=>h.SetOf (intKind P w) a S n
 |.ins C dx fs=>H dx=some (.own a)/\fs.length<=1000/\dx≠a/\h.get? a=some (instObj C dx) /\
   ∃mA,h.Ns1 dx mA/\(∀f,iG (fs.lookup f) (mA f))/\afb mA (fs.map (·.1))
 |.own _=>∃o,h.get? a=some o
 |.xd fs=>∃mA,h.Ns1 a mA/\∀f,iG (fs.lookup f) (mA f)
 |.rng lo hi=>∃t u v,h.get? a=some { cls:=.type "range",data:=.fields #[.int lo t,.int hi u,.int 1 v] }
 |.su o u=>h.get? a=some o/\bx H h a u
 |.Jr ps=>h.get? a=some { cls:=.none,data:=.fields ps }
 |.met f x=>h.get? a=some (methodObj (.ref f) (.ref x))
 |.ext φ=>φ h/\(∃o,h.get? a=some o)/\∀h1 h2:Heap,φ h1->(∀o,h1.get? a=some o->h2.get? a=some o)->φ h2
def gJ(H:Hp)(h:Heap):Prop:=∀a o,H a=some o->bx P w H h a o
end
section
variable{P:Program}{w:World}{H H':Hp}{h h':Heap}{a:Addr}{o:HO}
theorem bx.lt(x:bx P w H h a o):a<h.objs.size:=by
 cases o with
 |lst xs=>obtain⟨_,_,_,_,e⟩:=x;exact lt_size e
 |tup xs=>obtain⟨_,_,_,p⟩:=x;exact p.lt
 |dK kvs=>obtain⟨_,_,_,_,o,_,_,e,_⟩:=x;exact lt_size e
 |dT kvs=>obtain⟨_,_,_,_,o,_,_,e,_⟩:=x;exact lt_size e
 |set S n=>obtain⟨o,_,_,_,e,_⟩:=x;exact lt_size e
 |ins C dx fs=>obtain⟨_,_,_,e,_⟩:=x;exact lt_size e
 |own y=>obtain⟨_,e⟩:=x;exact lt_size e
 |xd fs=>obtain⟨_,⟨_,_,_,e,_⟩,_⟩:=x;exact lt_size e
 |rng lo hi=>obtain⟨_,_,_,e⟩:=x;exact lt_size e
 |su ob u=>obtain⟨e,_⟩:=x;exact lt_size e
 |Jr ps=>exact lt_size (show h.get? a=some _ from x)
 |met f y=>exact lt_size (show h.get? a=some _ from x)
 |ext φ=>obtain⟨_,⟨_,e⟩,_⟩:=x;exact lt_size e
theorem Paired.Js{α β:Type}{F G:α->β->Prop}:∀{l₁:List α}{l₂:List β},Paired F l₁ l₂->(∀a b,F a b->G a b)->Paired G l₁ l₂
 |_,_,.nil,_=>.nil
 |_,_,.cons r t,f=>.cons (f _ _ r) (Paired.Js t f)
theorem bx.stay(x:bx P w H h a o)(k:∀b u,(b=a\/H b=some (.own a))->h.get? b=some u->h'.get? b=some u)(ho:∀b,H b=some (.own a)->H' b=some (.own a))(ht:∀b xs,H b=some (.tup xs)->H' b=some (.tup xs)):bx P w H' h' a o:=by
 induction o with
 |lst xs=>obtain⟨z,its,n,r,e⟩:=x;exact⟨z,its,n,r,k _ _ (.inl rfl) e⟩
 |tup xs=>obtain⟨z,its,r,ob,e,c⟩:=x;exact⟨z,its,r,ob,k _ _ (.inl rfl) e,c⟩
 |dK kvs=>obtain⟨z,y,vs,r,ob,es,ep,e,c⟩:=x;exact⟨z,y,vs,r,ob,es,ep,k _ _ (.inl rfl) e,c⟩
 |dT kvs =>
  obtain⟨z,y,xs,r,ob,es,ep,e,c⟩:=x
  exact⟨z,y,xs,Paired.Js r λp q z=>⟨z.1,ht _ _ z.2.1,z.2.2⟩,ob,es,ep,k _ _ (.inl rfl) e,c⟩
 |set S n=>obtain⟨ob,es,ep,t,e,c⟩:=x;exact⟨ob,es,ep,t,k _ _ (.inl rfl) e,c⟩
 |ins C dx fs =>
  obtain⟨d,z,ne,e,mA,⟨od,es,ep,e2,c⟩,r⟩:=x
  exact⟨ho _ d,z,ne,k _ _ (.inl rfl) e,mA,⟨od,es,ep,k _ _ (.inr d) e2,c⟩,r⟩
 |own y=>obtain⟨ob,e⟩:=x;exact⟨ob,k _ _ (.inl rfl) e⟩
 |xd fs=>obtain⟨mA,⟨od,es,ep,e,c⟩,r⟩:=x;exact⟨mA,⟨od,es,ep,k _ _ (.inl rfl) e,c⟩,r⟩
 |rng lo hi=>obtain⟨t,u,v,e⟩:=x;exact⟨t,u,v,k _ _ (.inl rfl) e⟩
 |su ob u ih=>obtain⟨e,q⟩:=x;exact⟨k _ _ (.inl rfl) e,ih q⟩
 |Jr ps =>
  have e:h.get? a=some { cls:=.none,data:=.fields ps }:=x
  show h'.get? a=some { cls:=.none,data:=.fields ps }
  exact k a _ (.inl rfl) e
 |met f y =>
  have e:h.get? a=some (methodObj (.ref f) (.ref y)):=x
  show h'.get? a=some (methodObj (.ref f) (.ref y))
  exact k a _ (.inl rfl) e
 |ext φ=>obtain⟨p,⟨o,e⟩,st⟩:=x;exact⟨st _ _ p λo q=>k _ _ (.inl rfl) q,⟨o,k _ _ (.inl rfl) e⟩,st⟩
theorem gJ.lt(x:gJ P w H h)(e:H a=some o):a<h.objs.size:=(x a o e).lt
theorem gJ.fresh(x:gJ P w H h)(e:h.objs.size<=a):H a=none:=by
 cases q:H a with
 |none=>rfl
 |some u=>exact absurd (aaw (x.lt q) e) (abx _)
theorem gJ.kept(x:gJ P w H h)(k:∀b u,h.get? b=some u->h'.get? b=some u):gJ P w H h':=λa o e =>
 (x a o e).stay (λb u _ q=>k b u q) (λ_ q=>q) λ_ _ q=>q
theorem gJ.laid(x:gJ P w H h)(k:∀b u,h.get? b=some u->h'.get? b=some u)(hp:h.objs.size<=a)(new:bx P w (upd H a o) h' a o):gJ P w (upd H a o) h':=λb u e=>by
 have hn:=x.fresh hp
 by_cases hb:b=a
 ·subst hb;rw[zJ] at e;cases e;exact new
 ·rw[zP hb] at e
  exact(x b u e).stay (λc v _ q=>k c v q) (λc q=>by rw[zP (zN q hn)];exact q) λc xs q=>by rw[zP (zN q hn)];exact q
end
def Rd(H:Hp)(a:Addr)(u:HO):Prop:=H a=some u\/∃o,H a=some (.su o u)
theorem Rd.ok(r:Rd H a u)(x:gJ P w H h):bx P w H h a u:=by
 rcases r with r|⟨o,r⟩
 ·exact x a u r
 ·obtain⟨_,q⟩:=x a _ r
  exact q
def Qa:Option HO->Prop
 |some (.lst _)=>True
 |some (.dK _)=>True
 |some (.dT _)=>True
 |some (.set _ _)=>True
 |some (.ins _ _ _)=>True
 |some (.ext _)=>True
 |_=>False
section
variable{P:Program}{w:World}{H:Hp}{h h':Heap}{x e:Addr}{o':HO}
theorem gJ.write(ok:gJ P w H h)(mu:Qa (H x))(he:e=x\/H e=some (.own x))(k:∀b u,b≠e->h.get? b=some u->h'.get? b=some u)(heo:∃u,h'.get? e=some u)(new:bx P w (upd H x o') h' x o'):gJ P w (upd H x o') h':=λb u q=>by
 have Qc:∀c y,H c=some (.own y)->c≠x:=λc y r z=>by subst z;rw[r] at mu;exact mu
 have Wt:∀c xs,H c=some (.tup xs)->c≠x:=λc xs r z=>by subst z;rw[r] at mu;exact mu
 by_cases hb:b=x
 ·subst hb;rw[zJ] at q;cases q;exact new
 ·rw[zP hb] at q
  by_cases hbe:b=e
  ·have q':H b=some (.own x):=by
    rcases he with z|z
    ·exact absurd (hbe.trans z) hb
    ·rw[hbe];exact z
   rw[q] at q';cases q'
   obtain⟨v,hv⟩:=heo
   exact⟨v,by rw[hbe];exact hv⟩
  ·refine(ok b u q).stay (λc v hc r=>k c v ?_ r) (λc r=>by rw[zP (Qc c b r)];exact r) λc xs r=>by rw[zP (Wt c xs r)];exact r
   rcases hc with rfl|hc
   ·exact hbe
   ·rintro rfl
    rcases he with z|z
    ·exact Qc c b hc z
    ·rw[hc] at z;cases z;exact hb rfl
end
structure Un(fs ex:List Addr)(H H':Hp)(h h':Heap):Prop where
 keep:∀b o,h.get? b=some o->H b=none->b∉fs->b∉ex->h'.get? b=some o
 slot:∀b o,h.get? b=some o->H b=none->b∈fs->b∉ex->∃sl,h'.get? b=some { o with slots:=sl }
 free:∀b o,h.get? b=some o->H b=none->b∉ex->H' b=none
 there:∀b o,h.get? b=some o->b∉ex->∃o',h'.get? b=some o'
 tups:∀b xs,H b=some (.tup xs)->H' b=some (.tup xs)
 lW:∀b o u,H b=some (.su o u)->H' b=some (.su o u)
 oh:∀b ps,H b=some (.Jr ps)->∃more,H' b=some (.Jr (ps++more))
section
variable{fs fs' ex ex':List Addr}{H H1 H2:Hp}{h h1 h2 h':Heap}{a x e:Addr}{o:HO}
theorem Un.any(u:Un fs ex H H1 h h1)(q:h.get? b=some ob)(n:H b=none)(hx:b∉ex):∃sl,h1.get? b=some { ob with slots:=sl }:=by
 by_cases hb:b∈fs
 ·exact u.slot b ob q n hb hx
 ·exact⟨ob.slots,u.keep b ob q n hb hx⟩
theorem Un.kept(k:∀b u,h.get? b=some u->h'.get? b=some u):Un fs ex H H h h' :=
 ⟨λb ob q _ _ _=>k b ob q,λb ob q _ _ _=>⟨ob.slots,k b ob q⟩,λ_ _ _ n _=>n,λb ob q _=>⟨ob,k b ob q⟩,λ_ _ q=>q,λ_ _ _ q=>q,λ_ ps q=>⟨#[],by rw[q];simp⟩⟩
theorem Un.refl:Un fs ex H H h h:=Un.kept λ_ _ q=>q
theorem Un.laid(k:∀b u,h.get? b=some u->h'.get? b=some u)(hp:h.objs.size<=a)(hn:H a=none):Un fs ex H (upd H a o) h h' where
 keep:=λb u q _ _ _=>k b u q
 slot:=λb u q _ _ _=>⟨u.slots,k b u q⟩
 free:=λb u q n _=>by rw[zP (aau (aaw (lt_size q) hp))];exact n
 there:=λb u q _=>⟨u,k b u q⟩
 tups:=λb xs q=>by rw[zP (zN q hn)];exact q
 lW:=λb u xs q=>by rw[zP (zN q hn)];exact q
 oh:=λb ps q=>⟨#[],by rw[zP (zN q hn),q];simp⟩
theorem Un.write(mu:Qa (H x))(he:e=x\/H e=some (.own x))(k:∀b u,b≠e->h.get? b=some u->h'.get? b=some u)(heo:∃u,h'.get? e=some u):Un fs ex H (upd H x o) h h':=by
 have hx:∀b,H b=none->b≠x:=λb n z=>by subst z;rw[n] at mu;exact mu
 have hb:∀b,H b=none->b≠e:=λb n z=>by
  subst z
  rcases he with r|r
  ·exact hx b n r
  ·rw[n] at r;cases r
 have hm:∀b u,H b=some u->¬Qa (some u)->b≠x:=λb u q nm z=>by subst z;rw[q] at mu;exact nm mu
 refine⟨λb u q n _ _=>k b u (hb b n) q,λb u q n _ _=>⟨u.slots,k b u (hb b n) q⟩,λb u q n _=>by rw[zP (hx b n)];exact n,λb u q _=>?_,
  λb xs q=>by rw[zP (hm b _ q λz=>z)];exact q,λb u xs q=>by rw[zP (hm b _ q λz=>z)];exact q,λb ps q=>⟨#[],by rw[zP (hm b _ q λz=>z),q];simp⟩⟩
 by_cases hbe:b=e
 ·subst hbe;exact heo
 ·exact⟨u,k b u hbe q⟩
end
def Uh(h:Heap)(H:Hp):List Addr:=(aa1 h.objs.size).filter λa=>(H a).isSome
def pH(h:Heap)(H:Hp):Heap:=PySem.W.hideAll h (Uh h H)
theorem zQj(h:Heap)(H:Hp):(pH h H).objs.size=h.objs.size:=PySem.W.hideAll_size _ _
theorem zTk{h:Heap}(e:h.get? b=some o)(n:H b=none):(pH h H).get? b=some o :=
 PySem.W.hideAll_get _ e λhm=>by
  have q:(H b).isSome=true:=(mem_filter.mp hm).2
  rw[n] at q;simp at q
theorem Cr(e:(pH h H).get? b=some o):h.get? b=some o/\H b=none:=by
 have e':h.get? b=some o:=PySem.W.of_hideAll (Uh h H) e
 refine⟨e',?_⟩
 cases q:H b with
 |none=>rfl
 |some x =>
  have hm:b∈Uh h H:=mem_filter.mpr ⟨mem_range.mpr (lt_size e'),by simp[q]⟩
  have z:(pH h H).get? b=none:=PySem.W.hideAll_none (Uh h H) hm
  rw[z] at e;cases e
def Cu(g h:Heap)(L:Addr):List (Addr×Obj):=(aa1 h.objs.size).filterMap λa=>if a=L\/(g.get? a).isSome=true then none else(h.get? a).map λo=>(a,o)
def rest(g h:Heap)(L d:Addr):List (Addr×Obj):=(Cu g h L).filter λp=>decide (p.1≠d)
structure Mod(K:PySem.W.Frag)(mg:Str->Option Value)(base:Heap):Prop where
 N_:K.In base
 glob:base.Ns aa6 mg
 blt:∃mb,base.Ns builtinsNs mb/\∀x:Str,x ≠ "__name__"->mb x=bootBuiltins x
 nolimit:base.NoLimit
structure Cx where
 prog:Program
 w:World
 K:PySem.W.Frag
 mg:Str->Option Value
 base:Heap
 A:Around
 N:List Str
 s₀:Shared
 H₀:Hp
 env:Env
 outer:List Env
 stack:List Env
 ex:List Addr
 fn:Str->Bool
 calm:Bool
 pn:List (Addr×Obj)
 xe:Value->Shared->Prop
def frs(l:List Env):List Addr:=l.filterMap (·.frame)
abbrev Cx.fs(X:Cx):List Addr:=frs X.outer
def Qd(sc:Scope)(x:Str):Prop:=sc.names.lookup x=some .local\/sc.names.lookup x=some .cell\/sc.names.lookup x=some .free
def Loc(sc:Scope)(x:Str):Prop:=sc.names.lookup x=some .local\/sc.names.lookup x=some .cell
def Look(env:Env)(h:Heap)(m:Str->Option Value)(x:Str)(u:Value):Prop :=
 (env.kindOf x=some .local/\m x=some u)\/((env.kindOf x=some .cell\/env.kindOf x=some .free)/\∃c,env.cells.lookup x=some c/\h.IsCell c (some u))
structure Cx.Ok(X:Cx):Prop where
 mod:Mod X.K X.mg X.base
 kind:X.env.scope.kind=.function
 glob:X.env.globals=aa6
 blt:X.env.builtins=builtinsNs
 above:X.s₀.heap.objs.size<=X.env.locals
 inj:∀x y c,X.env.cells.lookup x=some c->X.env.cells.lookup y=some c->x=y
 has:∀x,(X.env.kindOf x=some .cell\/X.env.kindOf x=some .free)->∃c,X.env.cells.lookup x=some c
 cab:∀x c,X.fn x=true->X.env.cells.lookup x=some c->X.s₀.heap.objs.size<=c
 hd:X.calm=true->X.A.handled=none
 frames:X.A.frames=some X.stack
 stk:X.stack=X.outer\/(X.stack=X.env::X.outer/\X.env.frame=some X.env.locals)
 Ui:∀b∈X.ex,b≠X.env.locals/\∀x c,X.env.cells.lookup x=some c->c≠b
 bs:∀b o,X.base.get? b=some o->X.s₀.heap.get? b=some o/\X.H₀ b=none
 Cv:X.base.objs.size<=X.s₀.heap.objs.size
 wz:∀b o,X.base.get? b=some o->b∉X.ex
 w5:∀b∈X.ex,b∉X.fs
 lC:X.s₀.heap.FunFrames X.base X.outer
 Jt:∀b∈X.fs,X.H₀ b=none
structure Inv(X:Cx)(pins:List (Addr×Obj))(σ:List (Option V))(H:Hp)(s:Shared):Prop where
 ok:X.Ok
 os:s.os=X.s₀.os
 bare:AllBare s.gens
 base:Un X.fs X.ex X.H₀ H X.s₀.heap s.heap
 loc:∃m,s.heap.Ns X.env.locals m/\∀(i:Nat)(x:Str)(v:V),X.N[i]?=some x->σ[i]?=some (some v)->Qd X.env.scope x->∃u,RelV v u/\Look X.env s.heap m x u
 cell:∀x c,X.env.cells.lookup x=some c->∃v,s.heap.IsCell c v
 free:H X.env.locals=none
 gM:∀x c,X.env.cells.lookup x=some c->H c=none
 pin:∀p∈X.pn++pins,s.heap.get? p.1=some p.2/\H p.1=none/\p.1≠X.env.locals/\p.1∉X.fs/\∀v,p.2.data≠.cell v
 hok:gJ X.prog X.w H s.heap
 len:σ.length=X.N.length
section
variable{X:Cx}{pins:List (Addr×Obj)}{σ:List (Option V)}{H H':Hp}{s:Shared}{h':Heap}
theorem Cx.Ok.Wu(ok:X.Ok)(e:X.base.get? b=some o):b∉X.fs:=λhb=>by
 have:=(ok.lC.mem hb).1
 rw[e] at this;cases this
theorem Inv.bs(I:Inv X pins σ H s):∀b o,X.base.get? b=some o->s.heap.get? b=some o/\H b=none:=λb o e =>
 ⟨I.base.keep b o (I.ok.bs b o e).1 (I.ok.bs b o e).2 (I.ok.Wu e) (I.ok.wz b o e),I.base.free b o (I.ok.bs b o e).1 (I.ok.bs b o e).2 (I.ok.wz b o e)⟩
theorem Inv.bk(I:Inv X pins σ H s):∀b o,X.base.get? b=some o->s.heap.get? b=some o:=λb o e=>(I.bs b o e).1
theorem Inv.mod(I:Inv X pins σ H s):Mod X.K X.mg X.base:=I.ok.mod
theorem Inv.jH(I:Inv X pins σ H s):X.K.In s.heap:=I.ok.mod.N_.keeps I.bk
theorem Inv.nolimit(I:Inv X pins σ H s):s.heap.NoLimit:=I.ok.mod.nolimit.keeps I.bk
theorem Inv.lt(I:Inv X pins σ H s):X.env.locals<s.heap.objs.size:=let⟨_,hn,_⟩:=I.loc;hn.lt
theorem Inv.sz(I:Inv X pins σ H s):X.s₀.heap.objs.size<=s.heap.objs.size:=aa0 I.ok.above (acq I.lt)
theorem Inv.Ju(I:Inv X pins σ H s)(h:s.heap.objs.size<=a):a∉X.fs:=λhb=>by
 obtain⟨_,o,ho,_⟩:=I.ok.lC.mem hb
 exact absurd (aaw (lt_size ho) (aa0 I.sz h)) (abx _)
theorem Inv.Jv(I:Inv X pins σ H s):∀x c,X.env.cells.lookup x=some c->c≠X.env.locals:=λx c e z=>by
 obtain⟨v,o,ho,hd⟩:=I.cell x c e
 obtain⟨m,⟨o',es,ep,ho',hd',_⟩,_⟩:=I.loc
 rw[z,ho'] at ho;cases ho;rw[hd'] at hd;cases hd
theorem Inv.lC(I:Inv X pins σ H s):s.heap.FunFrames X.base X.outer:=by
 have all:∀(l:List Env),(∀b∈frs l,b∈X.fs)->X.s₀.heap.FunFrames X.base l->s.heap.FunFrames X.base l:=by
  intro l
  induction l with
  |nil=>intro _ _;trivial
  |cons env r ih =>
   intro hs hl
   obtain⟨hk,⟨L,o,hf,hn,ho,hd⟩,hr⟩:=hl
   have hL:L∈X.fs:=hs L (by unfold frs;rw[filterMap_cons,hf];exact mem_cons_self)
   obtain⟨sl,e⟩:=I.base.slot L o ho (I.ok.Jt L hL) hL λz=>I.ok.w5 L z hL
   exact⟨hk,⟨L,_,hf,hn,e,hd⟩,ih (λb hb=>hs b (by unfold frs;rw[filterMap_cons,hf];exact mem_cons_of_mem _ hb)) hr⟩
 exact all X.outer (λ_ hb=>hb) I.ok.lC
theorem Inv.stack(I:Inv X pins σ H s):s.heap.FunFrames X.base X.stack:=by
 rcases I.ok.stk with e|⟨e,hf⟩
 ·rw[e];exact I.lC
 ·rw[e]
  obtain⟨m,hn,_⟩:=I.loc
  refine .cons (by rw[I.ok.kind];decide) hf hn ?_ I.lC
  exact Heap.get?_none_of_le (aa0 I.ok.Cv I.ok.above)
theorem Inv.pI(I:Inv X pins σ H s):∀b∈frs X.stack,b∈X.env.locals::X.fs:=λb hb=>by
 rcases I.ok.stk with e|⟨e,hf⟩
 ·rw[e] at hb;exact mem_cons_of_mem _ hb
 ·rw[e] at hb
  unfold frs at hb
  rw[filterMap_cons,hf] at hb
  exact hb
theorem Inv.sy(I:Inv X pins σ H s):∀b∈frs X.stack,H b=none:=λb hb=>by
 rcases mem_cons.mp (I.pI b hb) with e|hb
 ·rw[e];exact I.free
 ·obtain⟨_,o,ho,_⟩:=I.ok.lC.mem hb
  exact I.base.free b o ho (I.ok.Jt b hb) λz=>I.ok.w5 b z hb
theorem Inv.step{g':Array GenState}{t':Nat}{d':Drawn}{ch:List Addr}(I:Inv X pins σ H s)(hch:∀b∈ch,(b∈X.ex\/X.s₀.heap.objs.size<=b)/\b≠X.env.locals/\(∀x c,X.env.cells.lookup x=some c->c≠b)/\∀p∈X.pn++pins,p.1≠b)(keep:∀b o,b≠X.env.locals->b∉X.fs->b∉ch->s.heap.get? b=some o->H b=none->h'.get? b=some o)(slot:∀b o,b≠X.env.locals->b∈X.fs->b∉ch->s.heap.get? b=some o->H b=none->∃sl,h'.get? b=some { o with slots:=sl })(free:∀b o,b∉ch->s.heap.get? b=some o->H b=none->H' b=none)(there:∀b o,b∉ch->s.heap.get? b=some o->∃o',h'.get? b=some o')(tups:∀b xs,H b=some (.tup xs)->H' b=some (.tup xs))(lW:∀b o u,H b=some (.su o u)->H' b=some (.su o u))(oh:∀b ps,H b=some (.Jr ps)->∃more,H' b=some (.Jr (ps++more)))(ns:∀m,s.heap.Ns X.env.locals m->h'.Ns X.env.locals m)(hok:gJ X.prog X.w H' h')(hg:AllBare g') :
  Inv X pins σ H' { s with heap:=h',gens:=g',drawn:=d',toks:=t' }:=by
 have neL:∀b o,X.s₀.heap.get? b=some o->b≠X.env.locals:=λb o e=>aau (aaw (lt_size e) I.ok.above)
 have Uj:∀b o,X.s₀.heap.get? b=some o->b∉X.ex->b∉ch:=λb o e hx hb=>by
  rcases(hch b hb).1 with z|z
  ·exact hx z
  ·exact absurd (aaw (lt_size e) z) (abx _)
 have cellK:∀x c,X.env.cells.lookup x=some c->∀v,s.heap.IsCell c v->h'.IsCell c v:=λx c e v ⟨o,ho,hd⟩=>by
  have Qe:c∉ch:=λz=>(hch c z).2.2.1 x c e rfl
  by_cases hc:c∈X.fs
  ·obtain⟨sl,q⟩:=slot c o (I.Jv x c e) hc Qe ho (I.gM x c e)
   exact⟨_,q,hd⟩
  ·exact⟨o,keep c o (I.Jv x c e) hc Qe ho (I.gM x c e),hd⟩
 refine⟨I.ok,I.os,hg,⟨λb o e n hb hx=>?_,λb o e n hb hx=>?_,λb o e n hx=>?_,λb o e hx=>?_,λb xs e=>tups b xs (I.base.tups b xs e),λb o xs e=>lW b o xs (I.base.lW b o xs e),λb ps e=>?_⟩,?_,λx c e=>?_,?_,λx c e=>?_,λp hp=>?_,hok,I.len⟩
 ·exact keep b o (neL b o e) hb (Uj b o e hx) (I.base.keep b o e n hb hx) (I.base.free b o e n hx)
 ·obtain⟨sl,e1⟩:=I.base.slot b o e n hb hx
  obtain⟨sl',e2⟩:=slot b _ (neL b o e) hb (Uj b o e hx) e1 (I.base.free b o e n hx)
  exact⟨sl',e2⟩
 ·obtain⟨o',e1⟩:=I.base.there b o e hx
  exact free b o' (Uj b o e hx) e1 (I.base.free b o e n hx)
 ·obtain⟨o',e1⟩:=I.base.there b o e hx
  exact there b o' (Uj b o e hx) e1
 ·obtain⟨m1,e1⟩:=I.base.oh b ps e
  obtain⟨m2,e2⟩:=oh b _ e1
  exact⟨m1++m2,by rw[e2,Array.append_assoc]⟩
 ·obtain⟨m,hn,hl⟩:=I.loc
  refine⟨m,ns m hn,λi x v e1 e2 e3=>?_⟩
  obtain⟨u,r,l⟩:=hl i x v e1 e2 e3
  refine⟨u,r,?_⟩
  rcases l with l|⟨k,c,e,z⟩
  ·exact .inl l
  ·exact .inr ⟨k,c,e,cellK x c e _ z⟩
 ·obtain⟨v,z⟩:=I.cell x c e
  exact⟨v,cellK x c e v z⟩
 ·obtain⟨m,⟨o,_,_,ho,_⟩,_⟩:=I.loc
  exact free _ o (λz=>(hch _ z).2.1 rfl) ho I.free
 ·obtain⟨v,o,ho,hd⟩:=I.cell x c e
  exact free c o (λz=>(hch c z).2.2.1 x c e rfl) ho (I.gM x c e)
 ·obtain⟨e,n,ne,nf,d⟩:=I.pin p hp
  have Qe:p.1∉ch:=λz=>(hch p.1 z).2.2.2 p hp rfl
  exact⟨keep p.1 p.2 ne nf Qe e n,free p.1 p.2 Qe e n,ne,nf,d⟩
theorem Inv.un(I:Inv X pins σ H s)(u:Un X.fs [] H H' s.heap h')(hok:gJ X.prog X.w H' h'):Inv X pins σ H' { s with heap:=h',toks:=t' }:=by
 obtain⟨m,⟨o,es,ep,ho,r⟩,_⟩:=id I.loc
 obtain⟨sl,hL⟩:=u.any ho I.free (by simp)
 exact I.step (g':=s.gens) (d':=s.drawn) (ch:=[]) (λ_ z=>nomatch z) (λb o _ hb _ e n=>u.keep b o e n hb (by simp)) (λb o _ hb _ e n=>u.slot b o e n hb (by simp)) (λb o _ e n=>u.free b o e n (by simp)) (λb o _ e=>u.there b o e (by simp)) u.tups u.lW u.oh (λm' hm=>by
  obtain⟨o',es',ep',ho',r'⟩:=hm
  rw[ho] at ho';cases ho'
  exact⟨_,es',ep',hL,r'⟩) hok I.bare
theorem Inv.call(I:Inv X pins σ H s)(u:Un (frs X.stack) ch H H' s.heap h')(hok:gJ X.prog X.w H' h')(hg:AllBare g')(hch:∀b∈ch,(b∈X.ex\/X.s₀.heap.objs.size<=b)/\b≠X.env.locals/\(∀x c,X.env.cells.lookup x=some c->c≠b)/\∀p∈X.pn++pins,p.1≠b) :
  Inv X pins σ H' { s with heap:=h',gens:=g',drawn:=d',toks:=t' }:=by
 obtain⟨m,⟨o,es,ep,ho,r⟩,_⟩:=id I.loc
 obtain⟨sl,hL⟩:=u.any ho I.free λz=>(hch _ z).2.1 rfl
 exact I.step (ch:=ch) hch (λb o hL hb hc e n=>u.keep b o e n (λz=>(mem_cons.mp (I.pI b z)).elim hL hb) hc) (λb o _ _ hc e n=>u.any e n hc) (λb o hc e n=>u.free b o e n hc) (λb o hc e=>u.there b o e hc) u.tups u.lW u.oh (λm' hm=>by
  obtain⟨o',es',ep',ho',r'⟩:=hm
  rw[ho] at ho';cases ho'
  exact⟨_,es',ep',hL,r'⟩) hok hg
theorem Inv.turned(I:Inv X pins σ H s)(k:∀b o,b≠it->s.heap.get? b=some o->h'.get? b=some o)(hn:H it=none)(hL:it≠X.env.locals)(h1:it∈X.ex\/X.s₀.heap.objs.size<=it)(h2:∀x c,X.env.cells.lookup x=some c->c≠it)(h3:∀p∈X.pn++pins,p.1≠it):Inv X pins σ H { s with heap:=h',toks:=t' }:=by
 have nit:∀b u,H b=some u->b≠it:=λb u e z=>by rw[z,hn] at e;cases e
 refine I.step (g':=s.gens) (d':=s.drawn) (ch:=[it]) (λb hb=>?_) (λb o _ _ hc e _=>k b o (λz=>hc (by simp[z])) e) (λb o _ _ hc e _=>⟨o.slots,k b o (λz=>hc (by simp[z])) e⟩) (λ_ _ _ _ n=>n)
  (λb o hc e=>⟨o,k b o (λz=>hc (by simp[z])) e⟩) (λ_ _ e=>e) (λ_ _ _ e=>e) (λb ps e=>⟨#[],by rw[e];simp⟩) (λm hm=>?_) (λb u e=>?_) I.bare
 ·have e:b=it:=by simpa using hb
  subst e
  exact⟨h1,hL,h2,h3⟩
 ·obtain⟨o,es,ep,ho,r⟩:=hm
  exact⟨o,es,ep,k _ o (acg hL) ho,r⟩
 ·refine(I.hok b u e).stay (λc v hc q=>k c v ?_ q) (λ_ q=>q) λ_ _ q=>q
  rcases hc with z|z
  ·rw[z];exact nit b u e
  ·exact nit c _ z
theorem Inv.tok(I:Inv X pins σ H s)(t:Nat):Inv X pins σ H { s with toks:=t }:=I.un (h':=s.heap) (t':=t) Un.refl I.hok
theorem Inv.kept(I:Inv X pins σ H s)(k:∀b u,s.heap.get? b=some u->h'.get? b=some u):Inv X pins σ H { s with heap:=h',toks:=t' }:=I.un (Un.kept k) (I.hok.kept k)
theorem Inv.laid(I:Inv X pins σ H s)(k:∀b u,s.heap.get? b=some u->h'.get? b=some u)(hp:s.heap.objs.size<=a)(new:bx X.prog X.w (upd H a o) h' a o) :
  Inv X pins σ (upd H a o) { s with heap:=h',toks:=t' }:=I.un (Un.laid k hp (I.hok.fresh hp)) (I.hok.laid k hp new)
theorem Inv.write(I:Inv X pins σ H s)(mu:Qa (H x))(he:e=x\/H e=some (.own x))(k:∀b u,b≠e->s.heap.get? b=some u->h'.get? b=some u)(heo:∃u,h'.get? e=some u)(new:bx X.prog X.w (upd H x o) h' x o):Inv X pins σ (upd H x o) { s with heap:=h',toks:=t' }:=I.un (Un.write mu he k heo) (I.hok.write mu he k heo new)
theorem Inv.jJ(I:Inv X pins σ H s)(h:∀p∈GX,s.heap.get? p.1=some p.2/\H p.1=none/\p.1≠X.env.locals/\p.1∉X.fs/\∀v,p.2.data≠.cell v):Inv X GX σ H s :=
 ⟨I.ok,I.os,I.bare,I.base,I.loc,I.cell,I.free,I.gM,λp hp=>(mem_append.mp hp).elim (λz=>I.pin p (mem_append_left _ z)) (h p),I.hok,I.len⟩
theorem zLh{N:List Str}(hN:N.Nodup){i j:Nat}{x:Str}(a:N[i]?=some x)(b:N[j]?=some x):i=j:=by
 obtain⟨h1,e1⟩:=aay.mp a
 obtain⟨h2,e2⟩:=aay.mp b
 exact(getElem_inj hN).mp (e1.trans e2.symm)
theorem zHz{Q:Unit->Shared->Prop}(I:Inv X pins σ H s)(hN:X.N.Nodup)(hi:X.N[i]?=some x)(hx:Loc X.env.scope x)(r:RelV v u)(h:∀s',Inv X pins (σ.set i (some v)) H s'->(∃a,SameBut a s.heap s'.heap/\(a=X.env.locals\/X.env.cells.lookup x=some a))->Q () s')(hf:X.fn x=true\/X.env.scope.names.lookup x=some .local:=by first|exact .inl rfl|exact .inr rfl|assumption):wpAny M A (storeName X.env x u) Q E s:=by
 obtain⟨m,hn,hl⟩:=id I.loc
 have hcls:(X.env.scope.kind==.class||(X.env.scope.kind==.module&&X.env.locals != X.env.globals))=false:=by rw[I.ok.kind];rfl
 have Qf:i<σ.length:=by rw[I.len];exact(aay.mp hi).1
 have Jv:=I.Jv
 have tracked:∀{a:Addr}{h':Heap},(∃o,s.heap.get? a=some o/\H a=none)->SameBut a s.heap h'->gJ X.prog X.w H h':=λ{a h'} ha hs b ob e=>by
  obtain⟨_,_,hfree⟩:=ha
  refine(I.hok b ob e).stay (λc w' hc q=>(hs.2 c ?_).trans q) (λ_ q=>q) λ_ _ q=>q
  rintro rfl
  rcases hc with rfl|hc
  ·rw[hfree] at e;cases e
  ·rw[hfree] at hc;cases hc
 rcases hx with hk|hk
 ·refine wpAny_storeName_local hk hn (λh' hn' hs=>?_) hcls
  obtain⟨oL,_,_,hoL,_⟩:=id hn
  refine h _ ⟨I.ok,I.os,I.bare,⟨λb o e n hb hx=>?_,λb o e n hb hx=>?_,I.base.free,λb o e hx=>?_,I.base.tups,I.base.lW,I.base.oh⟩,⟨_,hn',λj y v' e1 e2 e3=>?_⟩,λy c e=>?_,I.free,I.gM,λp hp=>?_,tracked ⟨oL,hoL,I.free⟩ hs,by simpa using I.len⟩ ⟨_,hs,.inl rfl⟩
  ·exact(hs.2 b (aau (aaw (lt_size e) I.ok.above))).trans (I.base.keep b o e n hb hx)
  ·obtain⟨sl,e1⟩:=I.base.slot b o e n hb hx
   exact⟨sl,(hs.2 b (aau (aaw (lt_size e) I.ok.above))).trans e1⟩
  ·obtain⟨o',e1⟩:=I.base.there b o e hx
   exact⟨o',(hs.2 b (aau (aaw (lt_size e) I.ok.above))).trans e1⟩
  ·by_cases hj:j=i
   ·subst hj
    rw[hi] at e1;cases e1
    rw[List.getElem?_set_self Qf] at e2
    cases e2
    exact⟨u,r,.inl ⟨hk,by simp⟩⟩
   ·rw[List.getElem?_set_ne (acg hj)] at e2
    obtain⟨u',r',q⟩:=hl j y v' e1 e2 e3
    refine⟨u',r',?_⟩
    rcases q with⟨k,e⟩|⟨k,c,e,z⟩
    ·refine .inl ⟨k,?_⟩
     have:y≠x:=λe=>hj (zLh hN e1 (e▸hi))
     simp[this,e]
    ·exact .inr ⟨k,c,e,z.sameBut hs (Jv y c e)⟩
  ·obtain⟨w',z⟩:=I.cell y c e
   exact⟨w',z.sameBut hs (Jv y c e)⟩
  ·obtain⟨e,n,ne,nf,d⟩:=I.pin p hp
   exact⟨(hs.2 p.1 ne).trans e,n,ne,nf,d⟩
 ·have hfn:X.fn x=true:=by
   rcases hf with z|z
   ·exact z
   ·rw[z] at hk;cases hk
  obtain⟨c,hc⟩:=I.ok.has x (.inl hk)
  obtain⟨w',z⟩:=I.cell x c hc
  refine wpAny_storeName_cell I.ok.kind hk hc z (λh' hc' hs=>?_)
  obtain⟨oc,hoc,Wv⟩:=id z
  refine h { s with heap:=h' } ⟨I.ok,I.os,I.bare,⟨λb o e n hb hx=>?_,λb o e n hb hx=>?_,I.base.free,λb o e hx=>?_,I.base.tups,I.base.lW,I.base.oh⟩,⟨m,hn.sameBut hs (acg (Jv x c hc)),λj y v' e1 e2 e3=>?_⟩,λy c' e=>?_,I.free,I.gM,λp hp=>?_,tracked ⟨oc,hoc,I.gM x c hc⟩ hs,by simpa using I.len⟩ ⟨c,hs,.inr hc⟩
  ·exact(hs.2 b (aau (aaw (lt_size e) (I.ok.cab x c hfn hc)))).trans (I.base.keep b o e n hb hx)
  ·obtain⟨sl,e1⟩:=I.base.slot b o e n hb hx
   exact⟨sl,(hs.2 b (aau (aaw (lt_size e) (I.ok.cab x c hfn hc)))).trans e1⟩
  ·obtain⟨o',e1⟩:=I.base.there b o e hx
   exact⟨o',(hs.2 b (aau (aaw (lt_size e) (I.ok.cab x c hfn hc)))).trans e1⟩
  ·by_cases hj:j=i
   ·subst hj
    rw[hi] at e1;cases e1
    rw[List.getElem?_set_self Qf] at e2
    cases e2
    exact⟨u,r,.inr ⟨.inl hk,c,hc,hc'⟩⟩
   ·rw[List.getElem?_set_ne (acg hj)] at e2
    obtain⟨u',r',q⟩:=hl j y v' e1 e2 e3
    refine⟨u',r',?_⟩
    rcases q with q|⟨k,c',e,z'⟩
    ·exact .inl q
    ·refine .inr ⟨k,c',e,z'.sameBut hs ?_⟩
     rintro rfl
     exact hj (zLh hN e1 (I.ok.inj _ _ _ e hc▸hi))
  ·by_cases hcc:c'=c
   ·subst hcc;exact⟨_,hc'⟩
   ·obtain⟨w2,z2⟩:=I.cell y c' e
    exact⟨w2,z2.sameBut hs hcc⟩
  ·obtain⟨e,n,ne,nf,d⟩:=I.pin p hp
   refine⟨(hs.2 p.1 ?_).trans e,n,ne,nf,d⟩
   intro q
   rw[q,hoc] at e
   have q':oc=p.2:=aas e
   exact d w' (by rw[<-q'];exact Wv)
theorem Ww{Q:Unit->Shared->Prop}(I:Inv X pins σ H s)(hN:X.N.Nodup)(hi:X.N[i]?=some x)(hx:Loc X.env.scope x)(r:RelV v u)(h:∀s',Inv X pins (σ.set i (some v)) H s'->Q () s')(hf:X.fn x=true\/X.env.scope.names.lookup x=some .local:=by first|exact .inl rfl|exact .inr rfl|assumption):wpAny M A (storeName X.env x u) Q E s :=
 zHz I hN hi hx r (λs' I' _=>h s' I') hf
theorem Inv.call'{s':Shared}(I:Inv X pins σ H s)(ho:s'.os=s.os)(u:Un (frs X.stack) ch H H' s.heap s'.heap)(hok:gJ X.prog X.w H' s'.heap)(hg:AllBare s'.gens)(hch:∀b∈ch,(b∈X.ex\/X.s₀.heap.objs.size<=b)/\b≠X.env.locals/\(∀x c,X.env.cells.lookup x=some c->c≠b)/\∀p∈X.pn++pins,p.1≠b):Inv X pins σ H' s':=by
 obtain⟨h',g',d',t',o'⟩:=s'
 have e:o'=s.os:=ho
 subst e
 exact I.call (g':=g') (t':=t') (d':=d') u hok hg hch
end
abbrev XK:=Value->Option Addr->Hp->Prop
abbrev St:=List (Option V)
abbrev VK:=V->Hp->Prop
abbrev TE:=St->Hp->VK->Prop
abbrev TT:=St->Hp->(Bool->Hp->Prop)->Prop
abbrev TA:=St->Hp->(List V->Hp->Prop)->Prop
structure Ends where
 nx:St->Hp->Prop
 rt:VK
 bk:St->Hp->Prop:=λ_ _=>False
 ct:St->Hp->Prop:=λ_ _=>False
abbrev TS:=Ends->St->Hp->Prop
def EP(X:Cx)(pins:List (Addr×Obj))(σ:St)(Q:VK)(u:Value)(s':Shared):Prop:=∃v H',Inv X pins σ H' s'/\RelV v u/\Q v H'
def TP(X:Cx)(pins:List (Addr×Obj))(σ:St)(Q:Bool->Hp->Prop)(b:Bool)(s':Shared):Prop:=∃H',Inv X pins σ H' s'/\Q b H'
def AP(X:Cx)(pins:List (Addr×Obj))(σ:St)(Q:List V->Hp->Prop)(us:List Value)(s':Shared):Prop:=∃vs H',Inv X pins σ H' s'/\Vals vs us/\Q vs H'
def SP(X:Cx)(pins:List (Addr×Obj))(D:Ends)(f:Flow)(s':Shared):Prop :=
 match f with
 |.next=>∃σ' H',Inv X pins σ' H' s'/\D.nx σ' H'
 |.brk=>∃σ' H',Inv X pins σ' H' s'/\D.bk σ' H'
 |.cont=>∃σ' H',Inv X pins σ' H' s'/\D.ct σ' H'
 |.ret u=>∃v σ' H',Inv X pins σ' H' s'/\RelV v u/\D.rt v H'
def PE(X:Cx)(e:Expr)(t:TE):Prop :=
 ∀(pins:List (Addr×Obj))(s:Shared)(σ:St)(H:Hp)(Q:VK),Inv X pins σ H s->t σ H Q->wpAny (model X.prog X.w) X.A (eval e X.env) (EP X pins σ Q) X.xe s
def PT(X:Cx)(e:Expr)(t:TT):Prop :=
 ∀(pins:List (Addr×Obj))(s:Shared)(σ:St)(H:Hp)(Q:Bool->Hp->Prop),Inv X pins σ H s->t σ H Q->wpAny (model X.prog X.w) X.A (isTrue e X.env (eval e X.env)) (TP X pins σ Q) X.xe s
def PW(X:Cx)(e:Expr)(t:TT):Prop :=
 ∀(whole:Sem Value)(pins:List (Addr×Obj))(s:Shared)(σ:St)(H:Hp)(Q:Bool->Hp->Prop),Inv X pins σ H s->t σ H Q->wpAny (model X.prog X.w) X.A (isTrue e X.env whole) (TP X pins σ Q) X.xe s
theorem PW.pt(h:PW X e t):PT X e t:=h _
def PA(X:Cx)(es:List Expr)(t:TA):Prop :=
 ∀(pos:Pos)(pins:List (Addr×Obj))(s:Shared)(σ:St)(H:Hp)(Q:List V->Hp->Prop),Inv X pins σ H s->t σ H Q->wpAny (model X.prog X.w) X.A (spliced (backTo pos (starEach es X.env))) (AP X pins σ Q) X.xe s
def PS(X:Cx)(st:Stmt)(t:TS):Prop :=
 ∀(pins:List (Addr×Obj))(s:Shared)(σ:St)(H:Hp)(D:Ends),Inv X pins σ H s->t D σ H->wpAny (model X.prog X.w) X.A (exec st X.env) (SP X pins D) X.xe s
def qe(X:Cx)(st:List Stmt)(t:TS):Prop :=
 ∀(pins:List (Addr×Obj))(s:Shared)(σ:St)(H:Hp)(D:Ends),Inv X pins σ H s->t D σ H->wpAny (model X.prog X.w) X.A (execs st X.env) (SP X pins D) X.xe s
theorem aP{α:Type}{t:Sem α}{Q Q':α->Shared->Prop}(h:wpAny M A t Q E s)(hQ:∀a s,Q a s->Q' a s):wpAny M A t Q' E s:=ab4 h hQ λ_ _ x=>x
section
variable{X:Cx}
def cj(i:Nat):TE:=λσ H Q=>∃v,σ[i]?=some (some v)/\Q v H
def tC(v:V):TE:=λ_ H Q=>Q v H
theorem Jw(hN:X.N[i]?=some x)(hv:Qd X.env.scope x)(hd:(x==("__debug__":Str))=false:=by decide)(hcd:(x==("__classdict__":Str))=false:=by decide):PE X (.Name x pos) (cj i):=by
 intro pins s σ H Q I h
 obtain⟨v,e,h⟩:=h
 obtain⟨m,hn,hl⟩:=I.loc
 obtain⟨u,r,l⟩:=hl i x v hN e hv
 have fin:EP X pins σ Q u s:=⟨v,H,I,r,h⟩
 rcases l with⟨hk,hm⟩|⟨hk,c,hc,hcell⟩
 ·exact wpAny_Name (wpAny_loadName_local I.ok.kind hk hn hm fin) hd
 ·rcases hk with hk|hk
  ·exact wpAny_Name (wpAny_loadName_cell I.ok.kind hk hc hcell fin) hd
  ·exact wpAny_Name (wpAny_loadName_free I.ok.kind hk hc hcell fin hcd) hd
theorem zK{i j pos}:PE X (.Constant (.int i) j pos) (tC (.int i)):=λ_ _ _ H _ I h=>wpAny_Constant_int ⟨.int i,H,I.tok _,⟨_,rfl⟩,h⟩
theorem Cw{b j pos}:PE X (.Constant (.bool b) j pos) (tC (.bl b)):=λ_ _ _ H _ I h=>Constant_bool ⟨.bl b,H,I,rfl,h⟩
theorem zUv{j pos}:PE X (.Constant .none j pos) (tC .non):=λ_ _ _ H _ I h=>ae2 ⟨.non,H,I,rfl,h⟩
theorem yF{x j pos}:PE X (.Constant (.str x) j pos) (tC (.str x)):=λ_ _ _ H _ I h=>Calls.Constant_str ⟨.str x,H,I.tok _,⟨_,rfl⟩,h⟩
def Gl(X:Cx)(x:Str):Prop:=X.env.kindOf x=some .globalImplicit
theorem Qg{Q:Value->Shared->Prop}(I:Inv X pins σ H s)(hg:Gl X x)(hm:X.mg x=some u)(h:Q u s)(hd:(x==("__debug__":Str))=false:=by decide):wpAny (model X.prog X.w) X.A (eval (.Name x pos) X.env) Q E s :=
 Calls.Name_function_global I.ok.kind hg (Calls.loadGlobal_global (by rw[I.ok.glob];exact I.mod.glob.keeps I.bk) hm h) hd
theorem Bu{Q:Value->Shared->Prop}(I:Inv X pins σ H s)(hg:Gl X x)(hm:X.mg x=none)(hv:bootBuiltins x=some u)(h:Q u s)(hn:x ≠ "__name__":=by decide)(hd:(x==("__debug__":Str))=false:=by decide):wpAny (model X.prog X.w) X.A (eval (.Name x pos) X.env) Q E s:=by
 obtain⟨mb,h1,h2⟩:=I.mod.blt
 exact Calls.Name_function_global I.ok.kind hg (Calls.loadGlobal_builtin (by rw[I.ok.glob];exact I.mod.glob.keeps I.bk) hm (by rw[I.ok.blt];exact h1.keeps I.bk) ((h2 x hn).trans hv) h) hd
theorem wF(hg:Gl X x)(hm:X.mg x=some u)(r:RelV v u)(hd:(x==("__debug__":Str))=false:=by decide):PE X (.Name x pos) (tC v) :=
 λ_ _ _ H _ I h=>Qg I hg hm ⟨v,H,I,r,h⟩ hd
theorem Uk(hg:Gl X x)(hm:X.mg x=none)(hv:bootBuiltins x=some u)(r:RelV v u)(hn:x ≠ "__name__":=by decide)(hd:(x==("__debug__":Str))=false:=by decide):PE X (.Name x pos) (tC v) :=
 λ_ _ _ H _ I h=>Bu I hg hm hv ⟨v,H,I,r,h⟩ hn hd
variable{a b:Expr}{ta tb:TE}{pos:Pos}
def PC(X:Cx)(op:CmpOp)(a b:Expr)(t:TE):Prop :=
 ∀(pins:List (Addr×Obj))(s:Shared)(σ:St)(H:Hp)(Q:VK),Inv X pins σ H s->t σ H Q ->
  wpAny (model X.prog X.w) X.A (eval a X.env) (λv s₁=>wpAny (model X.prog X.w) X.A (eval b X.env) (λu s₂=>wpAny (model X.prog X.w) X.A (compareOp op v u) (EP X pins σ Q) X.xe s₂) X.xe s₁) X.xe s
theorem zS5(b:Expr)(h:op≠.In)(h2:op≠.NotIn):behindInMarks op b=false:=by
 have e1:(op==CmpOp.In)=false:=by cases op<;>first|rfl|exact absurd rfl h
 have e2:(op==CmpOp.NotIn)=false:=by cases op<;>first|rfl|exact absurd rfl h2
 cases b<;>simp[behindInMarks,e1,e2]
def Qh(ta:TE):TE:=λσ H Q=>ta σ H λx H1=>Q (.bl (decide (x=.non))) H1
def GZ(ta:TE):TE:=λσ H Q=>ta σ H λx H1=>Q (.bl (!decide (x=.non))) H1
theorem RelV.qm(r:RelV x v):(v==ac7)=decide (x=.non):=by
 cases x with
 |non=>cases r;rfl
 |bl _=>cases r;rfl
 |int _=>obtain⟨t,rfl⟩:=r;rfl
 |str _=>obtain⟨t,rfl⟩:=r;rfl
 |qT _=>obtain⟨t,rfl⟩:=r;rfl
 |flt _=>obtain⟨t,rfl⟩:=r;rfl
 |ref _=>cases r;rfl
 |ty _=>cases r;rfl
theorem Um{j pos'}(ha:PE X a ta):PC X .Is a (.Constant .none j pos') (Qh ta):=by
 intro pins s σ H Q I h
 refine aP (ha pins s σ H _ I h) λv s1 ⟨x,H1,I1,r1,q1⟩=>?_
 exact ae2 (is_none_gen ⟨.bl _,H1,I1,by rw[r1.qm];rfl,q1⟩)
theorem Cy{j pos'}(ha:PE X a ta):PC X .IsNot a (.Constant .none j pos') (GZ ta):=by
 intro pins s σ H Q I h
 refine aP (ha pins s σ H _ I h) λv s1 ⟨x,H1,I1,r1,q1⟩=>?_
 exact ae2 (isnot_none_gen ⟨.bl _,H1,I1,by rw[r1.qm];rfl,q1⟩)
def tB(t:TE):TT:=λσ H Q=>t σ H λx H1=>∃c,x=.bl c/\Q c H1
theorem G3(h:PC X op a b t)(h1:behindInMarks op b=false:=by first|exact zS5 _ (by decide) (by decide)|rfl):PT X (.Compare a [op] [b] pos) (tB t):=by
 intro pins s σ H Q I hw
 refine wpAny_isTrue_Compare1 (aP (h pins s σ H _ I hw) λv s1 h1=>aP h1 λu s2 h2=>aP h2 λc s3 ⟨x,H1,I1,r1,q1⟩=>?_) h1
 obtain⟨d,rfl,q⟩:=q1
 cases r1
 exact ab5 ⟨H1,I1,q⟩
theorem wV(h:PE X e t)(he:∀whole,isTrue e X.env whole=(do let v <-whole;standAt e.pos;holding [v] (truthy v)):=by intro _;rfl):PT X e (tB t):=by
 intro pins s σ H Q I hw
 refine isTrue_plain (aP (h pins s σ H _ I hw) λv s1 ⟨x,H1,I1,r1,q1⟩=>?_) (he _)
 obtain⟨d,rfl,q⟩:=q1
 cases r1
 exact ab5 ⟨H1,I1,q⟩
variable{tA Uo:TT}{rest:List Expr}
def Qi(t u:TT):TT:=λσ H Q=>t σ H λc H1=>if c=true then u σ H1 Q else Q false H1
def Wx(t u:TT):TT:=λσ H Q=>t σ H λc H1=>if c=true then Q true H1 else u σ H1 Q
def Qj(t:TT):TT:=λσ H Q=>t σ H λc H1=>Q (!c) H1
theorem pw_and1(ha:PT X a tA):PW X (.BoolOp .And [a] pos) tA:=by
 intro wh pins s σ H Q I h
 refine isTrue_and (aP (ha pins s σ H Q I h) λc s1 e=>?_)
 cases c with
 |true=>exact isTrue_and_nil e
 |false=>exact e
theorem pw_or1(ha:PT X a tA):PW X (.BoolOp .Or [a] pos) tA:=by
 intro wh pins s σ H Q I h
 refine isTrue_or (aP (ha pins s σ H Q I h) λc s1 e=>?_)
 cases c with
 |false=>exact isTrue_or_nil e
 |true=>exact e
theorem pw_and(ha:PT X a tA)(hb:PW X (.BoolOp .And (b::rest) pos) Uo):PW X (.BoolOp .And (a::b::rest) pos) (Qi tA Uo):=by
 intro wh pins s σ H Q I h
 refine isTrue_and (aP (ha pins s σ H _ I h) λc s1 ⟨H1,I1,q1⟩=>?_)
 cases c with
 |true=>exact hb wh pins s1 σ H1 Q I1 q1
 |false=>exact⟨H1,I1,q1⟩
theorem pw_or(ha:PT X a tA)(hb:PW X (.BoolOp .Or (b::rest) pos) Uo):PW X (.BoolOp .Or (a::b::rest) pos) (Wx tA Uo):=by
 intro wh pins s σ H Q I h
 refine isTrue_or (aP (ha pins s σ H _ I h) λc s1 ⟨H1,I1,q1⟩=>?_)
 cases c with
 |true=>exact⟨H1,I1,q1⟩
 |false=>exact hb wh pins s1 σ H1 Q I1 q1
theorem Qk(ha:PT X a tA):PT X (.UnaryOp .Not a pos) (Qj tA):=by
 intro pins s σ H Q I h
 exact isTrue_not (ha pins s σ H (λc H1=>Q (!c) H1) I h)
def G4(ta tb:TE):TE:=λσ H Q=>ta σ H λx H1=>∃c,x=.bl c/\if c=true then tb σ H1 Q else Q (.bl false) H1
def G5(ta:TE):TE:=λσ H Q=>ta σ H λx H1=>∃c,x=.bl c/\Q (.bl (!c)) H1
theorem zUu{op}(h:PE X a t):PE X (.BoolOp op [a] pos) t:=λpins s σ H Q I hw=>BoolOp_one (h pins s σ H Q I hw)
theorem Wy(ha:PE X a ta)(hb:PE X (.BoolOp .And (b::rest) pos) tb):PE X (.BoolOp .And (a::b::rest) pos) (G4 ta tb):=by
 intro pins s σ H Q I h
 refine BoolOp_and (aP (ha pins s σ H _ I h) λv s1 ⟨x,H1,I1,r1,q1⟩=>?_)
 obtain⟨c,rfl,q1⟩:=q1
 cases r1
 refine ab5 ?_
 cases c with
 |true=>exact hb pins s1 σ H1 Q I1 q1
 |false=>exact⟨.bl false,H1,I1,rfl,q1⟩
theorem Jx(ha:PE X a ta):PE X (.UnaryOp .Not a pos) (G5 ta):=by
 intro pins s σ H Q I h
 refine UnaryOp_ (aP (ha pins s σ H _ I h) λv s1 ⟨x,H1,I1,r1,q1⟩=>?_)
 obtain⟨c,rfl,q1⟩:=q1
 cases r1
 exact not_of (ab5 ⟨.bl (!c),H1,I1,rfl,q1⟩)
def tIf(t:TT)(ta tb:TE):TE:=λσ H Q=>t σ H λc H1=>if c=true then ta σ H1 Q else tb σ H1 Q
theorem zLb(hc:PT X c tA)(ha:PE X a ta)(hb:PE X b tb):PE X (.IfExp c a b pos) (tIf tA ta tb):=by
 intro pins s σ H Q I h
 refine wpAny_IfExp (aP (hc pins s σ H _ I h) λd s1 ⟨H1,I1,q1⟩=>?_)
 cases d with
 |true=>exact ha pins s1 σ H1 Q I1 q1
 |false=>exact hb pins s1 σ H1 Q I1 q1
end
def aV(K:PySem.W.Frag)(H:Hp)(a:Addr)(xs:List V):Prop :=
 Rd H a (.lst xs) \/
  ∃(o:Obj)(its:Array Value)(n:Nat),K.lookup a=some o/\o.cls=.type "list" /\ o.dict=none/\o.data=.seq its n/\its.size<=sizeLine/\Vals xs its.toList
def cI(K:PySem.W.Frag)(H:Hp)(a:Addr)(xs:List V):Prop :=
 Rd H a (.tup xs) \/
  ∃(o:Obj)(its:Array Value)(n:Nat),K.lookup a=some o/\o.cls=.type "tuple" /\ o.data=.seq its n/\its.size<=sizeLine/\Vals xs its.toList
def Wz:Value->Option V
 |.none=>some .non
 |.bool b=>some (.bl b)
 |.int i _=>some (.int i)
 |.str x _=>some (.str x)
 |.bytes b _=>some (.qT b)
 |.float b _=>some (.flt b)
 |.ref a=>some (.ref a)
 |.type n=>some (.ty n)
 |_=>none
theorem RelV.abs(r:RelV x u):Wz u=some x:=by
 cases x with
 |non=>cases r;rfl
 |bl _=>cases r;rfl
 |int _=>obtain⟨t,rfl⟩:=r;rfl
 |str _=>obtain⟨t,rfl⟩:=r;rfl
 |qT _=>obtain⟨t,rfl⟩:=r;rfl
 |flt _=>obtain⟨t,rfl⟩:=r;rfl
 |ref _=>cases r;rfl
 |ty _=>cases r;rfl
theorem RelV.inj(r:RelV x u)(q:RelV y u):x=y:=aas (r.abs.symm.trans q.abs)
theorem Vals.inj:∀{xs ys:List V}{us:List Value},Vals xs us->Vals ys us->xs=ys
 |_,_,_,.nil,.nil=>rfl
 |_,_,_,.cons r t,.cons r' t'=>by rw[r.inj r',Vals.inj t t']
section
variable{X:Cx}{pins:List (Addr×Obj)}{σ:St}{H:Hp}{s:Shared}{a:Addr}{xs ys:List V}
theorem aV.of{K:PySem.W.Frag}(h:H a=some (.lst xs)):aV K H a xs:=.inl (.inl h)
theorem cI.of{K:PySem.W.Frag}(h:H a=some (.tup xs)):cI K H a xs:=.inl (.inl h)
theorem Inv.list(I:Inv X pins σ H s)(h:aV X.K H a xs):∃its:List Value,Vals xs its/\PlainL s.heap a its.toArray/\xs.length<=sizeLine:=by
 rcases h with h|⟨o,its,n,hk,hc,hd,hs,hz,r⟩
 ·obtain⟨z,its,n,r,e⟩:=h.ok I.hok
  exact⟨its,r,⟨_,n,e,rfl,rfl,rfl⟩,z⟩
 ·refine⟨its.toList,r,⟨o,n,I.jH a o hk,hc,hd,by simpa using hs⟩,?_⟩
  have e:=r.length
  simp only[length_toList] at e
  omega
theorem Inv.tuple(I:Inv X pins σ H s)(h:cI X.K H a xs):∃its:List Value,Vals xs its/\IsTup s.heap a its.toArray/\xs.length<=sizeLine:=by
 rcases h with h|⟨o,its,n,hk,hc,hs,hz,r⟩
 ·obtain⟨z,its,r,p⟩:=h.ok I.hok
  exact⟨its,r,p,z⟩
 ·refine⟨its.toList,r,⟨o,I.jH a o hk,hc,n,by simpa using hs⟩,?_⟩
  have e:=r.length
  simp only[length_toList] at e
  omega
theorem Inv.lX(I:Inv X pins σ H s)(h:aV X.K H a xs)(h':aV X.K H a ys):xs=ys:=by
 obtain⟨its,r,⟨o,n,e,_,_,d⟩,_⟩:=I.list h
 obtain⟨its',r',⟨o',n',e',_,_,d'⟩,_⟩:=I.list h'
 rw[e] at e';cases e'
 rw[d] at d'
 injection d' with d1 _
 have:its=its':=by simpa using congrArg Array.toList d1
 subst this
 exact r.inj r'
theorem Inv.tD(I:Inv X pins σ H s)(h:cI X.K H a xs)(h':cI X.K H a ys):xs=ys:=by
 obtain⟨its,r,⟨o,e,_,n,d⟩,_⟩:=I.tuple h
 obtain⟨its',r',⟨o',e',_,n',d'⟩,_⟩:=I.tuple h'
 rw[e] at e';cases e'
 rw[d] at d'
 injection d' with d1 _
 have:its=its':=by simpa using congrArg Array.toList d1
 subst this
 exact r.inj r'
end
abbrev Cx.wish(X:Cx)(E:Value->Shared->Prop):Cx:={ X with xe:=E }
abbrev Cx.Cz(X:Cx):Cx:=X.wish λ_ _=>False
theorem Cx.Ok.wish{X:Cx}(ok:X.Ok)(E:Value->Shared->Prop):(X.wish E).Ok :=
 ⟨ok.mod,ok.kind,ok.glob,ok.blt,ok.above,ok.inj,ok.has,ok.cab,ok.hd,ok.frames,ok.stk,ok.Ui,ok.bs,ok.Cv,ok.wz,ok.w5,ok.lC,ok.Jt⟩
theorem Cx.Ok.gO{X:Cx}(ok:(X.wish E).Ok):X.Ok :=
 ⟨ok.mod,ok.kind,ok.glob,ok.blt,ok.above,ok.inj,ok.has,ok.cab,ok.hd,ok.frames,ok.stk,ok.Ui,ok.bs,ok.Cv,ok.wz,ok.w5,ok.lC,ok.Jt⟩
section
variable{X:Cx}{pins:List (Addr×Obj)}{σ:St}{H:Hp}{s:Shared}{E:Value->Shared->Prop}
theorem Inv.wish(I:Inv X pins σ H s)(E:Value->Shared->Prop):Inv (X.wish E) pins σ H s:=⟨I.ok.wish E,I.os,I.bare,I.base,I.loc,I.cell,I.free,I.gM,I.pin,I.hok,I.len⟩
theorem Inv.gO(I:Inv (X.wish E) pins σ H s):Inv X pins σ H s:=⟨I.ok.gO,I.os,I.bare,I.base,I.loc,I.cell,I.free,I.gM,I.pin,I.hok,I.len⟩
theorem SP.gO(h:SP (X.wish E) pins D f s'):SP X pins D f s':=by
 cases f with
 |next=>obtain⟨σ',H',I,q⟩:=h;exact⟨σ',H',I.gO,q⟩
 |brk=>obtain⟨σ',H',I,q⟩:=h;exact⟨σ',H',I.gO,q⟩
 |cont=>obtain⟨σ',H',I,q⟩:=h;exact⟨σ',H',I.gO,q⟩
 |ret u=>obtain⟨v,σ',H',I,r,q⟩:=h;exact⟨v,σ',H',I.gO,r,q⟩
theorem qe.Cz{st:List Stmt}{t:TS}(h:qe X.Cz st t):qe X st t:=λpins s σ H D I hw =>
 ab4 (h pins s σ H D (I.wish _) hw) (λ_ _ q=>q.gO) λ_ _ z=>abn z
end
section
variable{X:Cx}{st:Stmt}{rest:List Stmt}{t u:TS}{e:Expr}{te:TE}{pos:Pos}
def Jy:TS:=λD σ H=>D.nx σ H
def iH(t u:TS):TS:=λD σ H=>t { D with nx:=u D } σ H
theorem zG:qe X [] Jy:=λ_ _ σ H _ I h=>aea ⟨σ,H,I,h⟩
theorem zB(h1:PS X st t)(h2:qe X rest u):qe X (st::rest) (iH t u):=by
 intro pins s σ H D I h
 refine wpAny_execs_cons (aP (h1 pins s σ H { D with nx:=u D } I h) λf s1 q=>?_)
 cases f with
 |next =>
  obtain⟨σ',H',I',q⟩:=q
  exact h2 pins s1 σ' H' D I' q
 |ret v=>exact q
 |brk=>exact q
 |cont=>exact q
theorem yA(h1:PS X st t):qe X [st] t:=by
 intro pins s σ H D I h
 refine wpAny_execs_cons (aP (h1 pins s σ H D I h) λf s1 q=>?_)
 cases f with
 |next=>exact aea q
 |ret v=>exact q
 |brk=>exact q
 |cont=>exact q
theorem Inv.quiet(I:Inv X pins σ H s):interactive X.env=false:=by simp[interactive,I.ok.kind]
def Oa(te:TE):TS:=λD σ H=>te σ H λ_ H1=>D.nx σ H1
theorem yJ(he:PE X e te)(hs:swapsWith e none pos.line X.env=pure false:=by rfl):PS X (.Expr e pos) (Oa te):=by
 intro pins s σ H D I h
 exact wpAny_Expr_any (aP (he pins s σ H _ I h) λv s1 ⟨x,H1,I1,r1,q1⟩=>⟨σ,H1,I1,q1⟩) I.quiet hs
def qU(te:TE):TS:=λD σ H=>te σ H D.rt
theorem zQ(he:PE X e te):PS X (.Return (some e) pos) (qU te):=by
 intro pins s σ H D I h
 exact wpAny_Return_some (aP (he pins s σ H _ I h) λv s1 ⟨x,H1,I1,r1,q1⟩=>⟨x,σ,H1,I1,r1,q1⟩)
def tE(c:TT)(t u:TS):TS:=λD σ H=>c σ H λb H1=>if b=true then t D σ H1 else u D σ H1
theorem yX(hc:PT X c tc)(ha:qe X a t)(hb:qe X b u):PS X (.If c a b pos) (tE tc t u):=by
 intro pins s σ H D I h
 refine wpAny_If (aP (hc pins s σ H _ I h) λd s1 ⟨H1,I1,q1⟩=>?_)
 cases d with
 |true=>exact ha pins s1 σ H1 D I1 q1
 |false=>exact hb pins s1 σ H1 D I1 q1
def zUj:TS:=λ_ _ _=>False
theorem Ob:qe X sts zUj:=λ_ _ _ _ _ _ h=>h.elim
end
abbrev TG:=V->St->Hp->(St->Hp->Prop)->Prop
abbrev Oc:=List V->St->Hp->(St->Hp->Prop)->Prop
def PG(X:Cx)(target:Expr)(t:TG):Prop :=
 ∀(pins:List (Addr×Obj))(s:Shared)(σ:St)(H:Hp)(v:V)(u:Value)(Q:St->Hp->Prop),Inv X pins σ H s->RelV v u->t v σ H Q ->
  wpAny (model X.prog X.w) X.A (assign target X.env u) (λ_ s'=>∃σ' H',Inv X pins σ' H' s'/\Q σ' H') X.xe s
def Ql(X:Cx)(ts:List Expr)(t:Oc):Prop :=
 ∀(pins:List (Addr×Obj))(s:Shared)(σ:St)(H:Hp)(vs:List V)(us:List Value)(Q:St->Hp->Prop),Inv X pins σ H s->Vals vs us->t vs σ H Q ->
  wpAny (model X.prog X.w) X.A (assignInOrder ((assignEach ts X.env).map (·.2)) us) (λ_ s'=>∃σ' H',Inv X pins σ' H' s'/\Q σ' H') X.xe s
abbrev Jz:=V->V->V->Hp->(Hp->Prop)->Prop
def JB(X:Cx)(t:Jz):Prop :=
 ∀(pins:List (Addr×Obj))(s:Shared)(σ:St)(H:Hp)(o i v:V)(ov iv u:Value)(Q:Hp->Prop),Inv X pins σ H s->RelV o ov->RelV i iv->RelV v u->t o i v H Q ->
  wpAny (model X.prog X.w) X.A (setItem ov iv u) (λ_ s'=>∃H',Inv X pins σ H' s'/\Q H') X.xe s
abbrev Uq:=V->V->Hp->VK->Prop
def Ur(X:Cx)(op:Operator)(t:Uq):Prop :=
 ∀(pins:List (Addr×Obj))(s:Shared)(σ:St)(H:Hp)(x y:V)(v u:Value)(Q:VK),Inv X pins σ H s->RelV x v->RelV y u->t x y H Q ->
  wpAny (model X.prog X.w) X.A (inplaceOp op v u) (EP X pins σ Q) X.xe s
section
variable{X:Cx}{pos:Pos}
def ou(i:Nat):TG:=λv σ H Q=>Q (σ.set i (some v)) H
theorem yO(hN:X.N.Nodup)(hi:X.N[i]?=some x)(hx:Loc X.env.scope x)(hf:X.fn x=true\/X.env.scope.names.lookup x=some .local:=by first|exact .inl rfl|exact .inr rfl|assumption):PG X (.Name x pos) (ou i):=by
 intro pins s σ H v u Q I r h
 exact wpAny_assign_Name (Ww I hN hi hx r (λs' I'=>⟨_,H,I',h⟩) hf)
def JC:Oc:=λvs σ H Q=>vs=[]/\Q σ H
def Od(t:TG)(u:Oc):Oc:=λvs σ H Q=>∃v r,vs=v::r/\t v σ H λσ' H'=>u r σ' H' Q
theorem Bv:Ql X [] JC:=by
 intro pins s σ H vs us Q I r h
 obtain⟨e,h⟩:=h
 subst e
 cases r
 exact assignInOrder_nil ⟨σ,H,I,h⟩
theorem yP(h1:PG X e t)(h2:Ql X es u)(hs:(assignEach (e::es) X.env).map (·.2)=assign e X.env::(assignEach es X.env).map (·.2):=by rfl):Ql X (e::es) (Od t u):=by
 intro pins s σ H vs us Q I r h
 obtain⟨v,vr,e1,h⟩:=h
 subst e1
 cases r with
 |cons r rr =>
  rw[hs]
  refine assignInOrder_cons (aP (h1 pins s σ H _ _ _ I r h) λ_ s1 ⟨σ1,H1,I1,q1⟩=>?_)
  exact h2 pins s1 σ1 H1 _ _ Q I1 rr q1
def CG(K:PySem.W.Frag)(n:Nat)(t:Oc):TG:=λv σ H Q=>∃a xs,v=.ref a/\cI K H a xs/\xs.length=n/\t xs σ H Q
theorem G6(hc:X.calm=true)(h:Ql X es t)(hn:(assignEach es X.env).length=n:=by rfl)(hst:(assignEach es X.env).findIdx? (·.1)=none:=by rfl):PG X (.Tuple es k pos) (CG X.K n t):=by
 intro pins s σ H v u Q I r hw
 obtain⟨a,xs,e1,hq,hl,hw⟩:=hw
 subst e1
 cases r
 obtain⟨its,rv,ht,hz⟩:=I.tuple hq
 refine assign_Tuple_tuple (I.ok.hd hc) ht (by simp[hn,<-hl,rv.length]) hst λh' hx=>?_
 have I1:Inv X pins σ H { s with heap:=h' }:=I.kept (t':=s.toks) λb o e=>hx b o (aau (lt_size e)) e
 exact h pins _ σ H xs _ Q I1 (by simpa using rv) hw
def Qm(to ti:TE)(t:Jz):TG:=λv σ H Q=>to σ H λo H1=>ti σ H1 λi H2=>t o i v H2 λH3=>Q σ H3
theorem Qn(ho:PE X o to)(hi:PE X i ti)(hs:JB X t)(ha:∀v,assign (.Subscript o i pos) X.env v=(do
   let ov <-holding [v] (eval o X.env)
   let iv <-holding [v,ov] (eval i X.env)
   standAt pos
   holding [v,ov,iv] (setItem ov iv v)
   release [v,ov,iv] []):=by intro _;rfl):PG X (.Subscript o i pos) (Qm to ti t):=by
 intro pins s σ H v u Q I r h
 rw[ha]
 refine aam (abf (aP (ho pins s σ H _ I h) λov s1 ⟨x,H1,I1,r1,q1⟩=>?_))
 refine aam (abf (aP (hi pins s1 σ H1 _ I1 q1) λiv s2 ⟨y,H2,I2,r2,q2⟩=>?_))
 refine aam (ae3 (aam (abf (aP (hs pins s2 σ H2 x y v ov iv u _ I2 r1 r2 r q2) λ_ s3 ⟨H3,I3,q3⟩=>?_))))
 exact wpAny_release ⟨σ,H3,I3,q3⟩
def lD(te:TE)(g:TG):TS:=λD σ H=>te σ H λx H1=>g x σ H1 D.nx
theorem Oe(he:PE X e te)(hg:PG X tg g)(hs:swapsWithSole [tg] e pos.line X.env=pure false:=by rfl)(hw:swappedStores [tg] e X.env=pure none:=by rfl)(h1:(assignEach [tg] X.env).map (·.2)=[assign tg X.env]:=by rfl):PS X (.Assign [tg] e pos) (lD te g):=by
 intro pins s σ H D I h
 refine wpAny_Assign_stores (aP (he pins s σ H _ I h) λv s1 ⟨x,H1,I1,r1,q1⟩=>?_) hs hw
 rw[h1]
 exact aP (hg pins s1 σ H1 x v _ I1 r1 q1) λ_ s2 q=>q
theorem G7(hN:X.N.Nodup)(hi:X.N[i]?=some x)(hx:Loc X.env.scope x)(he:PE X e te)(hs:swapsWith e (some (.Name x pos')) pos.line X.env=pure false:=by rfl)(hf:X.fn x=true\/X.env.scope.names.lookup x=some .local:=by first|exact .inl rfl|exact .inr rfl|assumption) :
  PS X (.Assign [.Name x pos'] e pos) (lD te (ou i)):=by
 intro pins s σ H D I h
 refine wpAny_Assign_Name (aP (he pins s σ H _ I h) λv s1 ⟨y,H1,I1,r1,q1⟩=>?_) hs
 exact Ww I1 hN hi hx r1 (λs2 I2=>⟨_,H1,I2,q1⟩) hf
def Qo(i:Nat)(te:TE)(ti:Uq):TS:=λD σ H=>∃x,σ[i]?=some (some x)/\te σ H λy H1=>ti x y H1 λz H2=>D.nx (σ.set i (some z)) H2
theorem zUs(hN:X.N.Nodup)(hi:X.N[i]?=some x)(hx:Loc X.env.scope x)(he:PE X e te)(ho:Ur X op ti)(hf:X.fn x=true\/X.env.scope.names.lookup x=some .local:=by first|exact .inl rfl|exact .inr rfl|assumption) :
  PS X (.AugAssign (.Name x pos') op e pos) (Qo i te ti):=by
 intro pins s σ H D I h
 obtain⟨v,e1,h⟩:=h
 obtain⟨m,hn,hl⟩:=I.loc
 have vis:Qd X.env.scope x:=by rcases hx with k|k;exact .inl k;exact .inr (.inl k)
 obtain⟨u,r,l⟩:=hl i x v hi e1 vis
 refine wpAny_AugAssign_Name ?_
 have go:wpAny (model X.prog X.w) X.A (eval e X.env) (λw s₂=>wpAny (model X.prog X.w) X.A (inplaceOp op u w) (λr s₃=>wpAny (model X.prog X.w) X.A (storeName X.env x r) (λ_=>SP X pins D .next) X.xe s₃) X.xe s₂) X.xe s:=by
  refine aP (he pins s σ H _ I h) λw s1 ⟨y,H1,I1,r1,q1⟩=>?_
  refine aP (ho pins s1 σ H1 v y u w _ I1 r r1 q1) λz s2 ⟨zv,H2,I2,r2,q2⟩=>?_
  exact Ww I2 hN hi hx r2 (λs3 I3=>⟨_,H2,I3,q2⟩) hf
 rcases l with⟨hk,hm⟩|⟨hk,c,hc,hcell⟩
 ·exact wpAny_loadName_local I.ok.kind hk hn hm go
 ·rcases hk with hk|hk
  ·exact wpAny_loadName_cell I.ok.kind hk hc hcell go
  ·rcases hx with k|k
   ·have:X.env.scope.names.lookup x=some .free:=hk
    rw[k] at this;cases this
   ·have:X.env.scope.names.lookup x=some .free:=hk
    rw[k] at this;cases this
def G8(to ti te:TE)(JD:V->V->Hp->VK->Prop)(WD:Uq)(JF:Jz):TS:=λD σ H=>to σ H λo H1=>ti σ H1 λi H2=>JD o i H2 λx H3=>te σ H3 λy H4=>WD x y H4 λz H5=>JF o i z H5 λH6=>D.nx σ H6
def Qp(X:Cx)(t:V->V->Hp->VK->Prop):Prop :=
 ∀(pins:List (Addr×Obj))(s:Shared)(σ:St)(H:Hp)(o i:V)(ov iv:Value)(Q:VK),Inv X pins σ H s->RelV o ov->RelV i iv->t o i H Q ->
  wpAny (model X.prog X.w) X.A (getItem ov iv) (EP X pins σ Q) X.xe s
theorem CJ(ho:PE X o to)(hi:PE X i ti)(hg:Qp X JD)(he:PE X e te)(hp:Ur X op WD)(hs:JB X JF)(ha:∀ov iv new,augStore i ov iv new=(do holding [new,ov,iv] (setItem ov iv new);release [new,ov,iv] [];pure .next):=by intros;rfl):PS X (.AugAssign (.Subscript o i tpos) op e pos) (G8 to ti te JD WD JF):=by
 intro pins s σ H D I h
 refine wpAny_AugAssign_SubscriptAny (aP (ho pins s σ H _ I h) λov s1 ⟨x1,H1,I1,r1,q1⟩=>?_) ha
 refine aP (hi pins s1 σ H1 _ I1 q1) λiv s2 ⟨x2,H2,I2,r2,q2⟩=>?_
 refine aP (hg pins s2 σ H2 x1 x2 ov iv _ I2 r1 r2 q2) λold s3 ⟨x3,H3,I3,r3,q3⟩=>?_
 refine aP (he pins s3 σ H3 _ I3 q3) λv s4 ⟨x4,H4,I4,r4,q4⟩=>?_
 refine aP (hp pins s4 σ H4 x3 x4 old v _ I4 r3 r4 q4) λnew s5 ⟨x5,H5,I5,r5,q5⟩=>?_
 exact aP (hs pins s5 σ H5 x1 x2 x5 ov iv new _ I5 r1 r2 r5 q5) λ_ s6 ⟨H6,I6,q6⟩=>⟨σ,H6,I6,q6⟩
def Us(f:Int->Int->Int):Uq:=λx y H Q=>∃i j,x=.int i/\y=.int j/\Q (.int (f i j)) H
theorem JG:Ur X .Add (Us λi j=>i+j):=by
 intro pins s σ H x y v u Q I r1 r2 h
 obtain⟨i,j,e1,e2,q⟩:=h
 subst e1;subst e2
 obtain⟨t,rfl⟩:=r1
 obtain⟨t',rfl⟩:=r2
 exact iadd_int ⟨.int _,H,I.tok _,⟨_,rfl⟩,q⟩
end
section
variable{X:Cx}{pos:Pos}
def zUi(c:TT)(tb:TS):TS:=λD σ H=>∃W:Nat->St->Hp->Prop,(∃m,W m σ H)/\∀m σ H,W m σ H ->
 c σ H λb H1=>if b=true then∃N:St->Hp->Prop,(∀σ' H',N σ' H'->∃m',m'<m/\W m' σ' H')/\tb { D with nx:=N,ct:=N,bk:=D.nx } σ H1 else D.nx σ H1
theorem zSs(hp:PassesOwn (model X.prog X.w) X.A X.env X.xe)(hc:PT X c tc)(hb:qe X body tb):PS X (.While c body [] pos) (zUi tc tb):=by
 intro pins s σ H D I h
 obtain⟨W,⟨m0,w0⟩,turn⟩:=h
 refine wpAny_While (codeAny_whileLoop (λn s'=>∃σ' H',Inv X pins σ' H' s'/\W n σ' H') ?_ m0 ⟨σ,H,I,w0⟩)
 rintro n s1 ⟨σ1,H1,I1,w1⟩
 refine acj hp (aP (hc pins s1 σ1 H1 _ I1 (turn n σ1 H1 w1)) λb s2 ⟨H2,I2,q2⟩=>?_)
 cases b with
 |true =>
  obtain⟨N,hN,q2⟩:=q2
  rw[if_pos rfl]
  refine acj hp (aP (hb pins s2 σ1 H2 _ I2 q2) λf s3 q3=>?_)
  cases f with
  |next =>
   obtain⟨σ3,H3,I3,n3⟩:=q3
   obtain⟨m',hm,w3⟩:=hN σ3 H3 n3
   exact⟨m',hm,σ3,H3,I3,w3⟩
  |cont =>
   obtain⟨σ3,H3,I3,n3⟩:=q3
   obtain⟨m',hm,w3⟩:=hN σ3 H3 n3
   exact⟨m',hm,σ3,H3,I3,w3⟩
  |brk=>exact q3
  |ret v=>exact q3
 |false =>
  rw[if_neg aao]
  exact aea ⟨σ1,H2,I2,q2⟩
end
structure It where
 go:Nat->Hp->Prop
 Og:Nat->Hp->V->Hp->Prop
 stop:Nat->Hp->Prop
def lE(X:Cx)(pins:List (Addr×Obj))(H:Hp)(b:Addr):Prop :=
 H b=none/\b≠X.env.locals/\b∉X.fs/\(b∈X.ex\/X.s₀.heap.objs.size<=b)/\(∀x c,X.env.cells.lookup x=some c->c≠b)/\∀p∈X.pn++pins,p.1≠b
theorem Inv.lF(I:Inv X pins σ H s)(hb:s.heap.objs.size<=b)(hn:H' b=none):lE X pins H' b:=by
 refine⟨hn,adb (aaw I.lt hb),I.Ju hb,.inr (aa0 I.sz hb),λx c e z=>?_,λp hp z=>?_⟩
 ·obtain⟨v,q⟩:=I.cell x c e
  exact absurd (aaw q.lt (by rw[z];exact hb)) (abx _)
 ·exact absurd (aaw (lt_size (I.pin p hp).1) (by rw[z];exact hb)) (abx _)
structure Turn(P:Program)(w:World)(K:PySem.W.Frag)(tg:Expr)(J:It)(fp:List Addr)(it:Addr)(tn:Nat->Heap->Prop):Prop where
 mem:it∈fp
 obj:∀i h,tn i h->∀b∈fp,∃o,h.get? b=some o/\∀v,o.data≠.cell v
 keep:∀i h h',tn i h->(∀b∈fp,∀o,h.get? b=some o->h'.get? b=some o)->tn i h'
 item:∀(X:Cx),X.prog=P->X.w=w->X.K=K->X.calm=true->∀(i:Nat)(pins:List (Addr×Obj))(s:Shared)(σ:St)(H:Hp)(E:Value->Shared->Prop),Inv X pins σ H s->(∀b∈fp,lE X pins H b)->tn i s.heap->J.go i H ->
  wpAny (model P w) X.A (pyNext (.ref it)) (λr s1=>∃u,r=some u /\
   wpAny (model P w) X.A (letOwnedTupleGo tg (.ref it) u) (λ_ s2=>∃x H',Inv X pins σ H' s2/\RelV x u/\J.Og i H x H'/\tn (i+1) s2.heap/\∀b∈fp,H' b=none) E s1) E s
 done:∀(X:Cx),X.prog=P->X.w=w->X.K=K->X.calm=true->∀(i:Nat)(pins:List (Addr×Obj))(s:Shared)(σ:St)(H:Hp)(E:Value->Shared->Prop),Inv X pins σ H s->(∀b∈fp,lE X pins H b)->tn i s.heap->J.stop i H ->
  wpAny (model P w) X.A (pyNext (.ref it)) (λr s1=>r=none/\Inv X pins σ H s1) E s
 self:∀(A:Around)(i:Nat)(s:Shared)(Q:Value->Shared->Prop)(E:Value->Shared->Prop),tn i s.heap->Q (.ref it) s->wpAny (model P w) A (pyIter (.ref it)) Q E s
abbrev TI:=St->Hp->(It->Hp->Prop)->Prop
def PIE(X:Cx)(pins:List (Addr×Obj))(σ:St)(tg:Expr)(R:It->Hp->Prop)(itv:Value)(s2:Shared):Prop :=
 ∃(it:Addr)(fp:List Addr)(tn:Nat->Heap->Prop)(J:It)(H':Hp),itv=.ref it/\Inv X pins σ H' s2/\Turn X.prog X.w X.K tg J fp it tn/\tn 0 s2.heap/\(∀b∈fp,lE X pins H' b)/\R J H'
def PI(X:Cx)(tg iter:Expr)(wi:TI):Prop :=
 ∀(pins:List (Addr×Obj))(s:Shared)(σ:St)(H:Hp)(R:It->Hp->Prop),Inv X pins σ H s->wi σ H R ->
  wpAny (model X.prog X.w) X.A (eval iter X.env) (λv s1=>wpAny (model X.prog X.w) X.A (pyIter v) (PIE X pins σ tg R) X.xe s1) X.xe s
theorem Oh{s:Shared}{Q:Unit->Shared->Prop}(ho:s.heap.get? it=some o)(hc:o.cls=.type n)(hd:o.data=.fields vs)(hn:["enumerate","zip","dict_itemiterator","dict_reverseitemiterator","odict_iterator","itertools.zip_longest","itertools.pairwise"].contains n=false)(hQ:Q () s):wpAny M A (letOwnedTupleGo tg (.ref it) u) Q E s:=by
 unfold letOwnedTupleGo
 cases tg<;>first
  |exact aan hQ
  | (cases u<;>first
    |exact aan hQ
    | (refine aam (wpAny_load ho ?_)
       rw[hc,hd]
       show wpAny M A (if(["enumerate","zip","dict_itemiterator","dict_reverseitemiterator","odict_iterator","itertools.zip_longest","itertools.pairwise"].contains n&&vs[0]?==some (rawInt _))=true then _ else _) Q E s
       rw[if_neg (by intro h;rw[hn,Bool.false_and] at h;cases h)]
       exact aan hQ))
def Oi(K:PySem.W.Frag)(a:Addr):It :=
 ⟨λi H=>∃xs x,aV K H a xs/\xs[i]?=some x,λi H x H'=>H'=H/\∀xs,aV K H a xs->xs[i]?=some x,λi H=>∃xs,aV K H a xs/\xs.length<=i⟩
def Ut(K:PySem.W.Frag)(a:Addr):It :=
 ⟨λi H=>∃xs x,cI K H a xs/\xs[i]?=some x,λi H x H'=>H'=H/\∀xs,cI K H a xs->xs[i]?=some x,λi H=>∃xs,cI K H a xs/\xs.length<=i⟩
def WK(lo:Int)(n:Nat):It:=⟨λi _=>i<n,λi H x H'=>H'=H/\x=.int (lo+i),λi _=>n<=i⟩
theorem zOh{P:Program}{w:World}{K:PySem.W.Frag}{tg:Expr}(a it:Addr):Turn P w K tg (Oi K a) [it] it (λi h=>h.IsListIter it a i) where
 mem:=by simp
 obj:=λi h st b hb=>by
  have e:b=it:=by simpa using hb
  subst e
  obtain⟨o,e,c,d⟩:=st
  exact⟨o,e,λv z=>by rw[d] at z;cases z⟩
 keep:=λi h h' st k=>st.at λo e=>k it (by simp) o e
 item:=by
  intro X hP hw hK hc i pins s σ H E I hf st hg
  subst hP hw hK
  obtain⟨xs,x,hq,hx⟩:=hg
  obtain⟨its,rv,p,hz⟩:=I.list hq
  obtain⟨u,hu,ru⟩:=rv.get hx
  obtain⟨f0,f1,f2,f3,f4,f5⟩:=hf it (by simp)
  refine wpAny_pyNext_list_item st p.isList (x:=u) (by simpa using hu) λh' st' sb=>?_
  have I1:Inv X pins σ H { s with heap:=h' }:=I.turned (t':=s.toks) (λb o hb e=>(sb.2 b hb).trans e) f0 f1 f3 f4 f5
  obtain⟨o,e,c,d⟩:=id st'
  exact⟨u,rfl,Oh (s:={ s with heap:=h' }) e c d (by decide) ⟨x,H,I1,ru,⟨rfl,λys hy=>by rw[I.lX hy hq];exact hx⟩,st',λb hb=>(hf b hb).1⟩⟩
 done:=by
  intro X hP hw hK hc i pins s σ H E I hf st hg
  subst hP hw hK
  obtain⟨xs,hq,hx⟩:=hg
  obtain⟨its,rv,p,hz⟩:=I.list hq
  obtain⟨f0,f1,f2,f3,f4,f5⟩:=hf it (by simp)
  have hl:=rv.length
  exact wpAny_pyNext_list_end (I.ok.hd hc) st p.isList (by simp;omega) λh' eb=>⟨rfl,I.turned (t':=s.toks) (λb o hb e=>eb b o hb e) f0 f1 f3 f4 f5⟩
 self:=λ_ _ _ _ _ st h=>wpAny_pyIter_listiter st h
theorem zMl{P:Program}{w:World}{K:PySem.W.Frag}{tg:Expr}(a it:Addr):Turn P w K tg (Ut K a) [it] it (λi h=>h.IsTupleIter it a i) where
 mem:=by simp
 obj:=λi h st b hb=>by
  have e:b=it:=by simpa using hb
  subst e
  obtain⟨o,e,c,d⟩:=st
  exact⟨o,e,λv z=>by rw[d] at z;cases z⟩
 keep:=λi h h' st k=>st.at λo e=>k it (by simp) o e
 item:=by
  intro X hP hw hK hc i pins s σ H E I hf st hg
  subst hP hw hK
  obtain⟨xs,x,hq,hx⟩:=hg
  obtain⟨its,rv,p,hz⟩:=I.tuple hq
  obtain⟨u,hu,ru⟩:=rv.get hx
  obtain⟨f0,f1,f2,f3,f4,f5⟩:=hf it (by simp)
  refine wpAny_pyNext_tuple_item st (show s.heap.IsTuple a its.toArray from p) (x:=u) (by simpa using hu) λh' st' sb=>?_
  have I1:Inv X pins σ H { s with heap:=h' }:=I.turned (t':=s.toks) (λb o hb e=>(sb.2 b hb).trans e) f0 f1 f3 f4 f5
  obtain⟨o,e,c,d⟩:=id st'
  exact⟨u,rfl,Oh (s:={ s with heap:=h' }) e c d (by decide) ⟨x,H,I1,ru,⟨rfl,λys hy=>by rw[I.tD hy hq];exact hx⟩,st',λb hb=>(hf b hb).1⟩⟩
 done:=by
  intro X hP hw hK hc i pins s σ H E I hf st hg
  subst hP hw hK
  obtain⟨xs,hq,hx⟩:=hg
  obtain⟨its,rv,p,hz⟩:=I.tuple hq
  obtain⟨f0,f1,f2,f3,f4,f5⟩:=hf it (by simp)
  have hl:=rv.length
  exact wpAny_pyNext_tuple_end (I.ok.hd hc) st (show s.heap.IsTuple a its.toArray from p) (by simp;omega) λh' eb=>⟨rfl,I.turned (t':=s.toks) (λb o hb e=>eb b o hb e) f0 f1 f3 f4 f5⟩
 self:=λ_ _ _ _ _ st h=>wpAny_pyIter_tupleiter st h
theorem zMm{P:Program}{w:World}{K:PySem.W.Frag}{tg:Expr}(it:Addr)(lo:Int)(n:Nat):Turn P w K tg (WK lo n) [it] it (λi h=>IsRangeIter h it (lo+(i:Nat)*1) ((n:Int)-(i:Nat)) 1) where
 mem:=by simp
 obj:=λi h st b hb=>by
  have e:b=it:=by simpa using hb
  subst e
  exact⟨_,st,λv z=>by
   have z':afg _=Data.cell v:=z
   cases z'⟩
 keep:=λi h h' st k=>k it (by simp) _ st
 item:=by
  intro X hP hw hK hc i pins s σ H E I hf st hg
  subst hP hw hK
  obtain⟨f0,f1,f2,f3,f4,f5⟩:=hf it (by simp)
  have W:=Walks.range (prog:=X.prog) (w:=X.w) (I.ok.hd hc) it lo 1 n
  refine W.item i s _ _ hg st λv h' tk hv st' kk=>?_
  obtain⟨t,rfl⟩:=hv
  have I1:Inv X pins σ H { s with heap:=h',toks:=tk }:=I.turned (λb o hb e=>kk b o (by simpa using hb) e) f0 f1 f3 f4 f5
  refine⟨_,rfl,Oh (s:={ s with heap:=h',toks:=tk }) (n:="range_iterator") st' rfl rfl (by decide) ⟨.int (lo+i),H,I1,⟨t,?_⟩,⟨rfl,rfl⟩,st',λb hb=>(hf b hb).1⟩⟩
  rw[Int.mul_one]
 done:=by
  intro X hP hw hK hc i pins s σ H E I hf st hg
  subst hP hw hK
  obtain⟨f0,f1,f2,f3,f4,f5⟩:=hf it (by simp)
  exact wpAny_pyNext_range_end (I.ok.hd hc) st (by have:n<=i:=hg;omega) λh' eb=>⟨rfl,I.turned (t':=s.toks) (λb o hb e=>eb b o hb e) f0 f1 f3 f4 f5⟩
 self:=λ_ _ _ _ _ st h=>wpAny_pyIter_rangeiter st h
section
variable{X:Cx}{tg:Expr}
def w6(K:PySem.W.Frag)(tl:TE):TI:=λσ H R=>tl σ H λx H1=>∃a,x=.ref a/\(∃xs,aV K H1 a xs)/\R (Oi K a) H1
def JH(K:PySem.W.Frag)(tl:TE):TI:=λσ H R=>tl σ H λx H1=>∃a,x=.ref a/\(∃xs,cI K H1 a xs)/\R (Ut K a) H1
theorem WL(hl:PE X l tl):PI X tg l (w6 X.K tl):=by
 intro pins s σ H R I h
 refine aP (hl pins s σ H _ I h) λv s1 ⟨x,H1,I1,r1,q1⟩=>?_
 obtain⟨a,e,⟨xs,hq⟩,q⟩:=q1
 subst e
 cases r1
 obtain⟨its,rv,p,hz⟩:=I1.list hq
 refine ad2 p.isList ?_
 refine⟨s1.heap.objs.size,[s1.heap.objs.size],_,_,H1,rfl,I1.kept (t':=s1.toks) λb o e=>get?_push_of_some _ e,zOh a _,⟨_,get?_push_size _ rfl,rfl,rfl⟩,λb hb=>?_,q⟩
 have e:b=s1.heap.objs.size:=by simpa using hb
 subst e
 exact I1.lF (aaq _) (I1.hok.fresh (aaq _))
theorem zUt(hl:PE X l tl):PI X tg l (JH X.K tl):=by
 intro pins s σ H R I h
 refine aP (hl pins s σ H _ I h) λv s1 ⟨x,H1,I1,r1,q1⟩=>?_
 obtain⟨a,e,⟨xs,hq⟩,q⟩:=q1
 subst e
 cases r1
 obtain⟨its,rv,p,hz⟩:=I1.tuple hq
 refine wpAny_pyIter_tuple (show s1.heap.IsTuple a its.toArray from p) ?_
 refine⟨s1.heap.objs.size,[s1.heap.objs.size],_,_,H1,rfl,I1.kept (t':=s1.toks) λb o e=>get?_push_of_some _ e,zMl a _,⟨_,get?_push_size _ rfl,rfl,rfl⟩,λb hb=>?_,q⟩
 have e:b=s1.heap.objs.size:=by simpa using hb
 subst e
 exact I1.lF (aaq _) (I1.hok.fresh (aaq _))
theorem zSq{pins:List (Addr×Obj)}{σ:St}{H:Hp}{s:Shared}{R:It->Hp->Prop}{E:Value->Shared->Prop}{lo hi:Int}{t u v:Tok}{tk:Nat}(I:Inv X pins σ H s)(h1:-(2^62)<=lo)(h2:lo<2^62)(h3:-(2^62)<=hi)(h4:hi<2^62)(q:R (WK lo (hi-lo).toNat) H):wpAny (model X.prog X.w) X.A (pyIter (.ref s.heap.objs.size)) (PIE X pins σ tg R) E { s with heap:=s.heap.push { cls:=.type "range",data:=.fields #[.int lo t,.int hi u,.int 1 v] },toks:=tk }:=by
 refine wpAny_pyIter_range (IsRange.new ..) (small_one h1 h2 h3 h4) ?_
 have I1:Inv X pins σ H { s with heap:=s.heap.push { cls:=.type "range",data:=.fields #[.int lo t,.int hi u,.int 1 v] },toks:=tk }:=I.kept λb o e=>get?_push_of_some _ e
 refine⟨(s.heap.push { cls:=.type "range",data:=.fields #[.int lo t,.int hi u,.int 1 v] }).objs.size,[(s.heap.push { cls:=.type "range",data:=.fields #[.int lo t,.int hi u,.int 1 v] }).objs.size],_,_,H,rfl,
  I1.kept (t':=tk) λb o e=>get?_push_of_some _ e,zMm _ lo (hi-lo).toNat,?_,λb hb=>?_,q⟩
 ·have e1:lo+((0:Nat):Int)*1=lo:=by simp
  have e2:(((hi-lo).toNat:Nat):Int)-((0:Nat):Int)=Builtin.Range.rangeSize lo hi 1:=by rw[rangeSize_one];split<;>omega
  show IsRangeIter _ _ (lo+((0:Nat):Int)*1) ((((hi-lo).toNat:Nat):Int)-((0:Nat):Int)) 1
  rw[e1,e2]
  exact get?_push_size _ rfl
 ·have e:b=(s.heap.push { cls:=.type "range",data:=.fields #[.int lo t,.int hi u,.int 1 v] }).objs.size:=by simpa using hb
  subst e
  exact I1.lF (aaq _) (I1.hok.fresh (aaq _))
def G9(ta:TA):TI:=λσ H R=>ta σ H λvs H1=>∃j:Int,vs=[.int j] /\ -(2^62)<=j/\j<2^62/\R (WK 0 j.toNat) H1
theorem wW(hg:Gl X "range")(hm:X.mg "range" = none)(ha:PA X [a] ta)(hs:starEach [a] X.env=[(false,eval a X.env)]:=by rfl):PI X tg (.Call (.Name "range" p) [a] [] pos) (G9 ta):=by
 intro pins s σ H R I h
 refine Call_ (Bu I hg hm boot_range (abm (aP (ha pos pins s σ H _ I h) λus s1 ⟨vs,H1,I1,r1,q1⟩=>?_) hs rfl))
 obtain⟨j,e,q1,q2,q⟩:=q1
 subst e
 cases r1 with
 |cons r rr =>
  cases rr
  obtain⟨t,rfl⟩:=r
  exact call_range_1 (zSq I1 (by omega) (by omega) q1 q2 (by simpa using q))
def JK(wi:TI)(g:TG)(tb:TS):TS:=λD σ H=>wi σ H λJ H1=>∃W:Nat->Nat->St->Hp->Prop,(∃m,W 0 m σ H1)/\∀i m σ H,W i m σ H ->
 (J.stop i H/\D.nx σ H)\/(J.go i H/\∃N:St->Hp->Prop,(∀σ' H',N σ' H'->∃m',m'<m/\W (i+1) m' σ' H')/\∀x H',J.Og i H x H'->g x σ H' λσ2 H2=>tb { D with nx:=N,ct:=N,bk:=D.nx } σ2 H2)
def G_(fp:List Addr)(h:Heap):List (Addr×Obj):=fp.filterMap λb=>(h.get? b).map λo=>(b,o)
theorem vP{h:Heap}(hb:b∈fp)(e:h.get? b=some o):(b,o)∈G_ fp h:=List.mem_filterMap.mpr ⟨b,hb,by rw[e];rfl⟩
theorem zPz(hp:p∈G_ fp h):p.1∈fp/\h.get? p.1=some p.2:=by
 obtain⟨b,hb,e⟩:=List.mem_filterMap.mp hp
 cases q:h.get? b with
 |none=>rw[q] at e;cases e
 |some o =>
  rw[q] at e
  have e':(b,o)=p:=aas e
  subst e'
  exact⟨hb,q⟩
theorem Inv.pinned(I:Inv X pins σ H s)(hf:∀b∈fp,lE X pins H b)(ho:∀b∈fp,∃o,s.heap.get? b=some o/\∀v,o.data≠.cell v):Inv X (pins++G_ fp s.heap) σ H s :=
 I.jJ λp hp=>(mem_append.mp hp).elim (λz=>I.pin p (mem_append_right _ z)) λz=>by
  obtain⟨hb,e⟩:=zPz z
  obtain⟨f0,f1,f2,_⟩:=hf p.1 hb
  obtain⟨o,e',d⟩:=ho p.1 hb
  rw[e] at e';cases e'
  exact⟨e,f0,f1,f2,d⟩
theorem Inv.fK(I:Inv X (pins++pl) σ H s):Inv X pins σ H s:=I.jJ λp hp=>I.pin p (mem_append_right _ (mem_append_left _ hp))
theorem xV(hp:PassesOwn (model X.prog X.w) X.A X.env X.xe)(hc:X.calm=true)(hi:PI X tg iter wi)(hg:PG X tg g)(hb:qe X body tb)(hs:∀x,foldedSetIterable iter X.env x=pure x:=by intro _;rfl):PS X (.For tg iter body [] pos) (JK wi g tb):=by
 intro pins s σ H D I h
 refine wpAny_For (aP (hi pins s σ H _ I h) λv s1 h1=>aP h1 λitv s2 h2=>?_) hs
 obtain⟨it,fp,tn,J,H2,e,I2,T,st2,f2,W,⟨m0,w0⟩,turn⟩:=h2
 subst e
 have stat:∀{H':Hp},(∀b∈fp,H' b=none)->∀b∈fp,lE X pins H' b:=λhn b hb=>⟨hn b hb,(f2 b hb).2⟩
 refine codeAny_forLoop_any (λn s'=>∃i σ' H',Inv X pins σ' H' s'/\tn i s'.heap/\(∀b∈fp,H' b=none)/\W i n σ' H') ?_ m0 ⟨0,σ,H2,I2,st2,λb hb=>(f2 b hb).1,w0⟩
 rintro n s3 ⟨i,σ3,H3,I3,st3,Uu,w3⟩
 rcases turn i n σ3 H3 w3 with⟨stop,qn⟩|⟨go,N,hN,step⟩
 ·refine acj hp (aP (T.done X rfl rfl rfl hc i pins s3 σ3 H3 X.xe I3 (stat Uu) st3 stop) λr s4 ⟨hr,I4⟩=>?_)
  subst hr
  exact aea ⟨σ3,H3,I4,qn⟩
 ·refine acj hp (aP (T.item X rfl rfl rfl hc i pins s3 σ3 H3 X.xe I3 (stat Uu) st3 go) λr s4 ⟨u,hr,h4⟩=>?_)
  subst hr
  refine acj hp (aP h4 λ_ s5 ⟨x,H5,I5,r5,y5,WM,fr5⟩=>?_)
  have I5':=I5.pinned (stat fr5) (T.obj _ _ WM)
  refine acj hp (aP (hg _ s5 σ3 H5 x u _ I5' r5 (step x H5 y5)) λ_ s6 ⟨σ6,H6,I6,q6⟩=>?_)
  refine acj hp (aP (hb _ s6 σ6 H6 _ I6 q6) λf s7 q7=>?_)
  have again:∀{σ7:St}{H7:Hp},Inv X (pins++G_ fp s5.heap) σ7 H7 s7->N σ7 H7->∃m,m<n/\∃i σ' H',Inv X pins σ' H' s7/\tn i s7.heap/\(∀b∈fp,H' b=none)/\W i m σ' H':=λ{σ7 H7} I7 n7=>by
   obtain⟨m',hm,w7⟩:=hN σ7 H7 n7
   refine⟨m',hm,i+1,σ7,H7,I7.fK,T.keep _ _ _ WM λb hb o e=>(I7.pin (b,o) (mem_append_right _ (mem_append_right _ (vP hb e)))).1,λb hb=>?_,w7⟩
   obtain⟨o,e,d⟩:=T.obj _ _ WM b hb
   exact(I7.pin (b,o) (mem_append_right _ (mem_append_right _ (vP hb e)))).2.1
  cases f with
  |next=>obtain⟨σ7,H7,I7,n7⟩:=q7;exact again I7 n7
  |cont=>obtain⟨σ7,H7,I7,n7⟩:=q7;exact again I7 n7
  |brk=>obtain⟨σ7,H7,I7,q7⟩:=q7;exact⟨σ7,H7,I7.fK,q7⟩
  |ret v=>obtain⟨x7,σ7,H7,I7,r7,q7⟩:=q7;exact⟨x7,σ7,H7,I7.fK,r7,q7⟩
end
theorem zTm{K:PySem.W.Frag}{a:Addr}{xs:List V}{g:TG}{tb:TS}{D:Ends}{σ:St}{H:Hp}(Pv:Nat->St->Hp->Prop)(h0:Pv 0 σ H)(hl:∀i σ H,i<=xs.length->Pv i σ H->aV K H a xs)(hs:∀i x σ H,xs[i]?=some x->Pv i σ H->g x σ H λσ2 H2=>tb { D with nx:=Pv (i+1),ct:=Pv (i+1),bk:=D.nx } σ2 H2)(hd:∀σ H,Pv xs.length σ H->D.nx σ H) :
  ∃W:Nat->Nat->St->Hp->Prop,(∃m,W 0 m σ H)/\∀i m σ H,W i m σ H ->
   ((Oi K a).stop i H/\D.nx σ H)\/((Oi K a).go i H/\∃N:St->Hp->Prop,(∀σ' H',N σ' H'->∃m',m'<m/\W (i+1) m' σ' H')/\∀x H',(Oi K a).Og i H x H'->g x σ H' λσ2 H2=>tb { D with nx:=N,ct:=N,bk:=D.nx } σ2 H2):=by
 refine⟨λi m σ H=>m=xs.length-i/\i<=xs.length/\Pv i σ H,⟨xs.length,by simp,aa5 _,h0⟩,?_⟩
 rintro i m σ H ⟨rfl,hi,p⟩
 have q:=hl i σ H hi p
 by_cases hlt:i<xs.length
 ·refine .inr ⟨⟨xs,xs[i],q,by simp[hlt]⟩,Pv (i+1),λσ' H' p'=>⟨xs.length-(i+1),by omega,rfl,hlt,p'⟩,λx H' y=>?_⟩
  obtain⟨e,y⟩:=y
  subst e
  exact hs i x σ _ (y xs q) p
 ·have e:i=xs.length:=by omega
  subst e
  exact .inl ⟨⟨xs,q,aaq _⟩,hd σ H p⟩
abbrev R2:=V->V->Hp->VK->Prop
def jY(X:Cx)(f:Value->Value->Sem Value)(r:R2):Prop :=
 ∀(pins:List (Addr×Obj))(s:Shared)(σ:St)(H:Hp)(x y:V)(v u:Value)(Q:VK),Inv X pins σ H s->RelV x v->RelV y u->r x y H Q ->
  wpAny (model X.prog X.w) X.A (f v u) (EP X pins σ Q) X.xe s
def WQ(X:Cx)(f:Value->Sem Value)(r:V->Hp->VK->Prop):Prop :=
 ∀(pins:List (Addr×Obj))(s:Shared)(σ:St)(H:Hp)(x:V)(v:Value)(Q:VK),Inv X pins σ H s->RelV x v->r x H Q ->
  wpAny (model X.prog X.w) X.A (f v) (EP X pins σ Q) X.xe s
def sE(X:Cx)(f:Value)(r:List V->Hp->VK->Prop):Prop :=
 ∀(pins:List (Addr×Obj))(s:Shared)(σ:St)(H:Hp)(xs:List V)(us:List Value)(Q:VK),Inv X pins σ H s->Vals xs us->r xs H Q ->
  wpAny (model X.prog X.w) X.A (call f us) (EP X pins σ Q) X.xe s
def WR(X:Cx)(r:V->Hp->(Bool->Hp->Prop)->Prop):Prop :=
 ∀(pins:List (Addr×Obj))(s:Shared)(σ:St)(H:Hp)(x:V)(v:Value)(Q:Bool->Hp->Prop),Inv X pins σ H s->RelV x v->r x H Q ->
  wpAny (model X.prog X.w) X.A (truthy v) (TP X pins σ Q) X.xe s
def jE(r:R2)(ta tb:TE):TE:=λσ H Q=>ta σ H λx H1=>tb σ H1 λy H2=>r x y H2 Q
def tUn(r:V->Hp->VK->Prop)(ta:TE):TE:=λσ H Q=>ta σ H λx H1=>r x H1 Q
def rI(C:Int->Int->Prop)(g:Int->Int->V):R2:=λx y H Q=>∃i j,x=.int i/\y=.int j/\C i j/\Q (g i j) H
def qW(g:Int->Int->V):R2:=λx y H Q=>∃i j,x=.int i/\y=.int j/\Q (g i j) H
def rU(g:Int->V):V->Hp->VK->Prop:=λx H Q=>∃i,x=.int i/\Q (g i) H
section
variable{X:Cx}{a b c:Expr}{ta tb tc:TE}{pos:Pos}
theorem JL(ha:PE X a ta)(hb:PE X b tb){R:V->V->Hp->Prop}(I:Inv X pins σ H s)(h:ta σ H λx H1=>tb σ H1 λy H2=>R x y H2){f:Value->Value->Sem Value}(hf:∀v u s2 x y H2,Inv X pins σ H2 s2->RelV x v->RelV y u->R x y H2->wpAny (model X.prog X.w) X.A (f v u) Q X.xe s2) :
  wpAny (model X.prog X.w) X.A (eval a X.env) (λv s₁=>wpAny (model X.prog X.w) X.A (eval b X.env) (λu s₂=>wpAny (model X.prog X.w) X.A (f v u) Q X.xe s₂) X.xe s₁) X.xe s:=by
 refine aP (ha pins s σ H _ I h) λv s1 ⟨x,H1,I1,r1,q1⟩=>?_
 refine aP (hb pins s1 σ H1 _ I1 q1) λu s2 ⟨y,H2,I2,r2,q2⟩=>?_
 exact hf v u s2 x y H2 I2 r1 r2 q2
theorem xL(ho:jY X (binaryOp op) r)(ha:PE X a ta)(hb:PE X b tb):PE X (.BinOp a op b pos) (jE r ta tb):=by
 intro pins s σ H Q I h
 exact aez (JL ha hb I h λv u s2 x y H2 I2 rx ry q=>ho pins s2 σ H2 x y v u Q I2 rx ry q)
theorem Qq(ho:WQ X (unaryOp op) r)(ha:PE X a ta):PE X (.UnaryOp op a pos) (tUn r ta):=by
 intro pins s σ H Q I h
 exact UnaryOp_ (aP (ha pins s σ H _ I h) λv s1 ⟨x,H1,I1,r1,q1⟩=>ho pins s1 σ H1 x v Q I1 r1 q1)
theorem Qs{f:Value->Value->Sem Value}{C:Int->Int->Prop}{g:Int->Int->Int}(rule:∀(i j:Int) (t u:Tok) (s:Shared) (Q:Value->Shared->Prop) (E:Value->Shared->Prop),C i j->Q (.int (g i j) s.toks) { s with toks:=s.toks+1 }->wpAny (model X.prog X.w) X.A (f (.int i t) (.int j u)) Q E s) :
  jY X f (rI C λi j=>.int (g i j)):=by
 intro pins s σ H x y v u Q I rx ry h
 obtain⟨i,j,rfl,rfl,hc,q⟩:=h
 obtain⟨t,rfl⟩:=rx
 obtain⟨t',rfl⟩:=ry
 exact rule i j t t' s _ _ hc ⟨.int (g i j),H,I.tok _,⟨_,rfl⟩,q⟩
theorem JM{f:Value->Value->Sem Value}{g:Int->Int->Int}(rule:∀(i j:Int) (t u:Tok) (s:Shared) (Q:Value->Shared->Prop) (E:Value->Shared->Prop),Q (.int (g i j) s.toks) { s with toks:=s.toks+1 }->wpAny (model X.prog X.w) X.A (f (.int i t) (.int j u)) Q E s) :
  jY X f (qW λi j=>.int (g i j)):=by
 intro pins s σ H x y v u Q I rx ry h
 obtain⟨i,j,rfl,rfl,q⟩:=h
 obtain⟨t,rfl⟩:=rx
 obtain⟨t',rfl⟩:=ry
 exact rule i j t t' s _ _ ⟨.int (g i j),H,I.tok _,⟨_,rfl⟩,q⟩
theorem JN{f:Value->Value->Sem Value}{g:Int->Int->Bool}(rule:∀(i j:Int) (t u:Tok) (s:Shared) (Q:Value->Shared->Prop) (E:Value->Shared->Prop),Q (.bool (g i j)) s->wpAny (model X.prog X.w) X.A (f (.int i t) (.int j u)) Q E s) :
  jY X f (qW λi j=>.bl (g i j)):=by
 intro pins s σ H x y v u Q I rx ry h
 obtain⟨i,j,rfl,rfl,q⟩:=h
 obtain⟨t,rfl⟩:=rx
 obtain⟨t',rfl⟩:=ry
 exact rule i j t t' s _ _ ⟨.bl (g i j),H,I,rfl,q⟩
def JQ(i j:Int):Prop:=0<j/\j<1073741824
def Qt(i j:Int):Prop:=0<=j/\j<=1000000/\i.natAbs<2^64
def CK(i j:Int):Prop:=(-(2^64)<i/\i<2^64)\/(-(2^64)<j/\j<2^64)
theorem CK.ok(h:CK i j):IntMulOk i j:=by
 rcases h with⟨h1,h2⟩|⟨h1,h2⟩
 ·exact .of_left (intBits_le_64 h1 h2)
 ·exact .of_right (intBits_le_64 h1 h2)
theorem zMk(k:Nat):(0:Int)<=2^k:=by
 rw[two_pow_cast]
 exact ac0 _
theorem Uv:jY X (binaryOp .Add) (qW λi j=>.int (i+j)):=JM λ_ _ _ _ _ _ _ q=>add_int q
theorem WT:jY X (binaryOp .Sub) (qW λi j=>.int (i-j)):=JM λ_ _ _ _ _ _ _ q=>sub_int q
theorem JR:jY X (binaryOp .Mult) (rI CK λi j=>.int (i*j)):=Qs λ_ _ _ _ _ _ _ hc q=>mul_int q hc.ok
theorem Hf:jY X (binaryOp .FloorDiv) (rI JQ λi j=>.int (i/j)):=Qs λi j _ _ _ _ _ hc q=>by
 have h1:(0:Int)<j:=hc.1
 have h2:j<1073741824:=hc.2
 exact floordiv_int (by omega) (by rw[Int.fdiv_eq_ediv_of_nonneg i (by omega)];exact q) (.inl (PyProof.noPylong_small (by omega)))
theorem xg:jY X (binaryOp .Mod) (rI (λ_ j=>0<j) λi j=>.int (i%j)):=Qs λi j _ _ _ _ _ hc q=>by
 have h1:(0:Int)<j:=hc
 exact mod_int' (by omega) (by rw[Int.fmod_eq_emod_of_nonneg i (by omega)];exact q)
theorem JT:jY X (binaryOp .LShift) (rI Qt λi j=>.int (i*2^j.toNat)):=Qs λ_ _ _ _ _ _ _ hc q=>lshift_int_small hc.1 hc.2.1 hc.2.2 q
theorem Uw:jY X (binaryOp .RShift) (rI (λ_ j=>0<=j) λi j=>.int (i/2^j.toNat)):=Qs λi j _ _ _ _ _ hc q =>
 rshift_int hc (by rw[Int.fdiv_eq_ediv_of_nonneg i (zMk _)];exact q)
theorem Qu:jY X (binaryOp .BitAnd) (qW λi j=>.int (aa7 i j)):=JM λ_ _ _ _ _ _ _ q=>and_int q
theorem unI{f:Value->Sem Value}{g:Int->Int}(rule:∀(i:Int) (t:Tok) (s:Shared) (Q:Value->Shared->Prop) (E:Value->Shared->Prop),Q (.int (g i) s.toks) { s with toks:=s.toks+1 }->wpAny (model X.prog X.w) X.A (f (.int i t)) Q E s) :
  WQ X f (rU λi=>.int (g i)):=by
 intro pins s σ H x v Q I rx h
 obtain⟨i,rfl,q⟩:=h
 obtain⟨t,rfl⟩:=rx
 exact rule i t s _ _ ⟨.int (g i),H,I.tok _,⟨_,rfl⟩,q⟩
theorem Qv:WQ X (unaryOp .USub) (rU λi=>.int (-i)):=unI λ_ _ _ _ _ q=>neg_int q
end
def WW:V->V->Bool
 |.non,.non=>true|.non,.int _=>true|.int _,.non=>true|.non,.bl _=>true|.bl _,.non=>true|.non,.str _=>true|.str _,.non=>true
 |.int _,.int _=>true|.bl _,.bl _=>true|.str _,.str _=>true|.qT _,.qT _=>true
 |.int _,.str _=>true|.str _,.int _=>true|.bl _,.str _=>true|.str _,.bl _=>true
 |_,_=>false
def WX:R2:=λx y H Q=>WW x y=true/\Q (.bl (decide (x=y))) H
theorem CN:decide (V.int i=V.int j)=(i==j):=by
 rw[abb]
 simp
theorem JV:decide (V.bl i=V.bl j)=(i==j):=by
 rw[abb]
 simp
theorem CP:decide (V.str i=V.str j)=(i==j):=by
 rw[abb]
 simp
theorem CQ:decide (V.qT i=V.qT j)=(i.toList==j.toList):=by
 rw[abb]
 cases i
 cases j
 simp
section
variable{X:Cx}{a b c:Expr}{ta tb tc:TE}{pos:Pos}
theorem uD(I:Inv X pins σ H s)(q:Q (.bl k) H)(e:k=k'):EP X pins σ Q (.bool k') s:=by
 subst e
 exact⟨.bl k,H,I,rfl,q⟩
theorem qQ:jY X (compareOp .Eq) WX:=by
 intro pins s σ H x y v u Q I rx ry h
 obtain⟨hs,q⟩:=h
 cases x with
 |non =>
  cases rx
  cases y with
  |non=>cases ry;exact PySem.EqNone.eq_none_none (uD I q (by simp))
  |bl j=>cases ry;exact PySem.EqNone.eq_none_bool (uD I q (by simp))
  |int j=>obtain⟨t',rfl⟩:=ry;exact PySem.EqNone.eq_none_int (uD I q (by simp))
  |str j=>obtain⟨t',rfl⟩:=ry;exact PySem.EqNone.eq_none_str (uD I q (by simp))
  |_=>exact absurd (show false=true from hs) aao
 |bl i =>
  cases rx
  cases y with
  |non=>cases ry;exact PySem.EqNone.eq_bool_none (uD I q (by simp))
  |bl j=>cases ry;exact eq_bool (uD I q JV)
  |str j=>obtain⟨t',rfl⟩:=ry;exact PySem.EqMixed.eq_bool_str (uD I q (by simp))
  |_=>exact absurd (show false=true from hs) aao
 |int i =>
  obtain⟨t,rfl⟩:=rx
  cases y with
  |non=>cases ry;exact PySem.EqNone.eq_int_none (uD I q (by simp))
  |int j=>obtain⟨t',rfl⟩:=ry;exact eq_int (uD I q CN)
  |str j=>obtain⟨t',rfl⟩:=ry;exact PySem.EqMixed.eq_int_str (uD I q (by simp))
  |_=>exact absurd (show false=true from hs) aao
 |str i =>
  obtain⟨t,rfl⟩:=rx
  cases y with
  |non=>cases ry;exact PySem.EqNone.eq_str_none (uD I q (by simp))
  |bl j=>cases ry;exact PySem.EqMixed.eq_str_bool (uD I q (by simp))
  |int j=>obtain⟨t',rfl⟩:=ry;exact PySem.EqMixed.eq_str_int (uD I q (by simp))
  |str j=>obtain⟨t',rfl⟩:=ry;exact eq_str (uD I q CP)
  |_=>exact absurd (show false=true from hs) aao
 |qT i =>
  obtain⟨t,rfl⟩:=rx
  cases y with
  |qT j=>obtain⟨t',rfl⟩:=ry;exact PySem.W.eq_bytes (uD I q CQ)
  |_=>exact absurd (show false=true from hs) aao
 |_=>cases y<;>exact absurd (show false=true from hs) aao
theorem Qw:jY X (compareOp .Lt) (qW λi j=>.bl (decide (i<j))):=JN λ_ _ _ _ _ _ _ q=>lt_int q
theorem xq:jY X (compareOp .LtE) (qW λi j=>.bl (decide (i<=j))):=JN λ_ _ _ _ _ _ _ q=>le_int q
theorem Hg:jY X (compareOp .Gt) (qW λi j=>.bl (decide (j<i))):=JN λ_ _ _ _ _ _ _ q=>gt_int q
theorem zPm:jY X (compareOp .In) (λx y H Q=>∃i j,x=.str i/\y=.str j/\Q (.bl (!(adt j i 0 j.length 1).isEmpty)) H):=by
 intro pins s σ H x y v u Q I rx ry h
 obtain⟨i,j,rfl,rfl,q⟩:=h
 obtain⟨t,rfl⟩:=rx
 obtain⟨t',rfl⟩:=ry
 exact in_str (uD I q rfl)
theorem yS(b:Expr)(h:op≠.In:=by decide)(h2:op≠.NotIn:=by decide):behindInMarks op b=false:=by
 have e1:(op==CmpOp.In)=false:=by cases op<;>first|rfl|exact absurd rfl h
 have e2:(op==CmpOp.NotIn)=false:=by cases op<;>first|rfl|exact absurd rfl h2
 cases b<;>simp[behindInMarks,e1,e2]
theorem WY(ho:jY X (compareOp op) r)(ha:PE X a ta)(hb:PE X b tb)(hm:behindInMarks op b=false):PE X (.Compare a [op] [b] pos) (jE r ta tb):=by
 intro pins s σ H Q I h
 exact wpAny_Compare1 (JL ha hb I h λv u s2 x y H2 I2 rx ry q=>ho pins s2 σ H2 x y v u Q I2 rx ry q) hm
def Ux(t:TE):TT:=λσ H Q=>t σ H λx H'=>∃k,x=.bl k/\Q k H'
theorem yH(ho:jY X (compareOp op) r)(ha:PE X a ta)(hb:PE X b tb)(hm:behindInMarks op b=false):PT X (.Compare a [op] [b] pos) (Ux (jE r ta tb)):=by
 intro pins s σ H Q I h
 refine wpAny_isTrue_Compare1 (aP (ha pins s σ H _ I h) λv s1 ⟨x,H1,I1,r1,q1⟩=>aP (hb pins s1 σ H1 _ I1 q1) λu s2 ⟨y,H2,I2,r2,q2⟩ =>
  aP (ho pins s2 σ H2 x y v u _ I2 r1 r2 q2) λc s3 ⟨z,H3,I3,r3,k,e,q3⟩=>?_) hm
 subst e
 cases r3
 exact ab5 ⟨H3,I3,q3⟩
def zUl(r r':R2)(ta tb tc:TE):TE:=λσ H Q=>ta σ H λx H1=>tb σ H1 λy H2=>r x y H2 λz H3=>∃k,z=.bl k /\
 (if k=true then tc σ H3 λw' H4=>r' y w' H4 Q else Q (.bl false) H3)
theorem zLc(ho:jY X (compareOp op) r)(ho':jY X (compareOp op') r')(ha:PE X a ta)(hb:PE X b tb)(hc:PE X c tc)(hm:lastMarks [op,op'] [b,c]=false:=by with_unfolding_all rfl):PE X (.Compare a [op,op'] [b,c] pos) (zUl r r' ta tb tc):=by
 intro pins s σ H Q I h
 refine Compare_chain (aP (ha pins s σ H _ I h) λv s1 ⟨x,H1,I1,r1,q1⟩=>chain_link (aP (hb pins s1 σ H1 _ I1 q1) λu s2 ⟨y,H2,I2,r2,q2⟩ =>
  aP (ho pins s2 σ H2 x y v u _ I2 r1 r2 q2) λd s3 ⟨z,H3,I3,r3,k,e,q3⟩=>?_)) hm
 subst e
 cases r3
 refine ab5 ?_
 cases k with
 |false=>exact ite_ff ⟨.bl false,H3,I3,rfl,q3⟩
 |true=>exact ite_tt (chain_last (aP (hc pins s3 σ H3 _ I3 q3) λw' s4 ⟨z',H4,I4,r4,q4⟩=>ho' pins s4 σ H4 y z' u w' Q I4 r2 r4 q4))
def CT(K:PySem.W.Frag)(x:V)(H:Hp)(k:Bool):Prop :=
 match x with
 |.non=>k=false
 |.bl b=>k=b
 |.int i=>k=(i != 0)
 |.str y=>y.length<=sizeLine/\k=((y.length:Int) != 0)
 |.qT y=>y.size<=sizeLine/\k=((y.size:Int) != 0)
 |.ref p=>(∃xs,aV K H p xs/\k=!xs.isEmpty)\/(∃xs,cI K H p xs/\k=!xs.isEmpty)\/∃kvs,H p=some (.dK kvs)/\k=!kvs.isEmpty
 |_=>False
theorem zNi{κ:Type}{kvs:List (κ×V)}{vs:List (κ×Value)}(r:KV kvs vs):(!vs.isEmpty)=!kvs.isEmpty:=by
 cases r<;>rfl
theorem zGf(r:Vals xs its):(!its.toArray.isEmpty)=!xs.isEmpty:=by
 cases r<;>simp
theorem JW:(sizeLine:Nat)<2^63:=by rw[aey];decide
theorem JX:WR X (λx H Q=>∃k,CT X.K x H k/\Q k H):=by
 intro pins s σ H x v Q I rx h
 obtain⟨k,e,q⟩:=h
 have hl:=JW
 have hs:sizeLine=16777216:=aey
 cases x with
 |non =>
  cases rx
  have e':k=false:=e
  subst e'
  exact truthy_none ⟨H,I,q⟩
 |bl b =>
  cases rx
  have e':k=b:=e
  subst e'
  exact ab5 ⟨H,I,q⟩
 |int i =>
  obtain⟨t,rfl⟩:=rx
  have e':k=(i != 0):=e
  subst e'
  exact PySem.P.truthy_int ⟨H,I,q⟩
 |str y =>
  obtain⟨t,rfl⟩:=rx
  obtain⟨hy,e'⟩:y.length<=sizeLine/\k=((y.length:Int) != 0):=e
  subst e'
  exact PySem.P.truthy_str (by omega) ⟨H,I.tok _,q⟩
 |qT y =>
  obtain⟨t,rfl⟩:=rx
  obtain⟨hy,e'⟩:y.size<=sizeLine/\k=((y.size:Int) != 0):=e
  subst e'
  exact PySem.W.truthy_bytes (by omega) ⟨H,I.tok _,q⟩
 |ref p =>
  cases rx
  have e':(∃xs,aV X.K H p xs/\k=!xs.isEmpty)\/(∃xs,cI X.K H p xs/\k=!xs.isEmpty)\/∃kvs,H p=some (.dK kvs)/\k=!kvs.isEmpty:=e
  rcases e' with⟨xs,hx,e'⟩|⟨xs,hx,e'⟩|⟨kvs,hx,e'⟩
  ·subst e'
   obtain⟨its,r,pl,hz⟩:=I.list hx
   have hlen:=r.length
   exact wpAny_truthy_list pl.isList (by simp only[size_toArray];omega) ⟨H,I.tok _,by rw[zGf r];exact q⟩
  ·subst e'
   obtain⟨its,r,pl,hz⟩:=I.tuple hx
   have hlen:=r.length
   exact truthy_tuple pl (by simp only[size_toArray];omega) ⟨H,I.tok _,by rw[zGf r];exact q⟩
  ·subst e'
   obtain⟨hz,hS,vs,r,m⟩:kvs.length<=sizeLine/\(p==sysModules)=false/\∃vs,KV kvs vs/\s.heap.DictOf (vG X.prog X.w) p vs:=I.hok p _ hx
   have hlen:kvs.length=vs.length:=ael r
   exact wpAny_truthy_dict hS m (by omega) ⟨H,I.tok _,by rw[zNi r];exact q⟩
 |_=>exact(show False from e).elim
theorem zSr(ha:PE X a ta)(he:∀whole,isTrue a X.env whole=(do let v <-whole;standAt a.pos;holding [v] (truthy v))) :
  PT X a (λσ H Q=>ta σ H λx H'=>∃k,CT X.K x H' k/\Q k H'):=by
 intro pins s σ H Q I h
 exact isTrue_plain (aP (ha pins s σ H _ I h) λv s1 ⟨x,H1,I1,r1,q1⟩=>JX pins s1 σ H1 x v Q I1 r1 q1) (he _)
theorem Hh(r:Vals [x] us):∃u,us=[u]/\RelV x u:=by
 cases r with
 |cons r1 r2=>cases r2;exact⟨_,rfl,r1⟩
theorem vals2(r:Vals [x,y] us):∃u w',us=[u,w']/\RelV x u/\RelV y w':=by
 cases r with
 |cons r1 r2 =>
  cases r2 with
  |cons r3 r4=>cases r4;exact⟨_,_,rfl,r1,r3⟩
theorem zRd:sE X (.type "int") (λxs H Q=>(∃i,xs=[.int i]/\Q (.int i) H)\/∃k,xs=[.bl k]/\Q (.int (if k then 1 else 0)) H):=by
 intro pins s σ H xs us Q I r h
 rcases h with⟨i,rfl,q⟩|⟨k,rfl,q⟩
 ·obtain⟨u,rfl,t,rfl⟩:=Hh r
  exact call_int_int ⟨.int i,H,I,⟨_,rfl⟩,q⟩
 ·obtain⟨u,rfl,r1⟩:=Hh r
  cases r1
  exact call_int_bool ⟨.int (if k then 1 else 0),H,I.tok _,⟨_,rfl⟩,q⟩
def W0(K:PySem.W.Frag)(x:V)(H:Hp)(n:Nat):Prop :=
 match x with
 |.str y=>y.length<=sizeLine/\n=y.length
 |.qT y=>y.size<=sizeLine/\n=y.size
 |.ref p=>(∃xs,aV K H p xs/\n=xs.length)\/∃xs,cI K H p xs/\n=xs.length
 |_=>False
theorem zT5:sE X (.builtin "len") (λxs H Q=>∃x n,xs=[x]/\W0 X.K x H n/\Q (.int n) H):=by
 intro pins s σ H xs us Q I r h
 obtain⟨x,n,rfl,e,q⟩:=h
 obtain⟨u,rfl,rx⟩:=Hh r
 have hl:=JW
 have hs:sizeLine=16777216:=aey
 cases x with
 |str y =>
  obtain⟨t,rfl⟩:=rx
  obtain⟨hy,e'⟩:y.length<=sizeLine/\n=y.length:=e
  subst e'
  exact len_str (by omega) ⟨.int _,H,I.tok _,⟨_,rfl⟩,q⟩
 |qT y =>
  obtain⟨t,rfl⟩:=rx
  obtain⟨hy,e'⟩:y.size<=sizeLine/\n=y.size:=e
  subst e'
  exact PySem.W.len_bytes (by omega) ⟨.int _,H,I.tok _,⟨_,rfl⟩,q⟩
 |ref p =>
  cases rx
  have e':(∃xs,aV X.K H p xs/\n=xs.length)\/∃xs,cI X.K H p xs/\n=xs.length:=e
  rcases e' with⟨xs,hx,e'⟩|⟨xs,hx,e'⟩
  ·subst e'
   obtain⟨its,r',pl,hz⟩:=I.list hx
   have hlen:=r'.length
   exact Calls.call_len_list pl.isList (by simp only[size_toArray];omega) ⟨.int xs.length,H,I.tok _,⟨_,by simp only[size_toArray];rw[hlen]⟩,q⟩
  ·subst e'
   obtain⟨its,r',pl,hz⟩:=I.tuple hx
   have hlen:=r'.length
   exact len_tuple pl (by simp only[size_toArray];omega) ⟨.int xs.length,H,I.tok _,⟨_,by simp only[size_toArray];rw[hlen]⟩,q⟩
 |_=>exact(show False from e).elim
end
structure qX(h:Heap)(x dx C:Addr)(mA:Str->Option Value):Prop where
 obj:h.get? x=some (instObj C dx)
 ns:h.Ns1 dx mA
 ne:dx≠x
theorem zP6{h:Heap}(n:h.Ns1 dx mA):∃od,h.get? dx=some od/\∀name,lookIn name od=some (mA name):=by
 obtain⟨o,es,ep,ho,hd,hk,_,hm⟩:=n
 refine⟨o,ho,λname=>?_⟩
 have e:=hm name
 unfold nsFind findBy at e
 rw[<-Array.find?_toList] at e
 unfold lookIn
 rw[hd]
 dsimp only
 split
 ·rename_i y q
  rw[q] at e
  exact congrArg some e
 ·rename_i q
  rw[q] at e
  have a:es.toList.any (·.refKey)=false:=by
   rw[any_eq_false]
   intro y hy
   obtain⟨z,t,hkey⟩:=hk y (Array.mem_toList_iff.mp hy)
   simp[DictEntry.refKey,hkey]
  have a':¬es.toList.any (·.refKey)=true:=by rw[a];exact aao
  rw[if_neg a']
  exact congrArg some e
theorem qX.look(I:qX h x dx C mA):∃od,PySem.W.InstAt h x (instObj C dx) C (some od)/\∀name,lookIn name od=some (mA name) :=
 let⟨od,ho,hl⟩:=zP6 I.ns
 ⟨od,⟨I.obj,rfl,rfl,ho⟩,hl⟩
section
variable{prog:Program}{w:World}{A:Around}{E:Value->Shared->Prop}{s:Shared}{K:PySem.W.Frag}{x dx C f:Addr}{mA:Str->Option Value}{name:Str}{v:Value}
theorem get_map{Q:Value->Shared->Prop}(X:K.In s.heap)(I:qX s.heap x dx C mA)(hg:plainGet K C name=true)(hh:hasDictIn K C=true)(ha:findIn K (.ref C) name=some none)(hv:mA name=some v)(hv':PySem.W.handedIn v=true)(h:Q v { s with toks:=s.toks+1 }) :
  wpAny (model prog w) A (getAttr (.ref x) name expr) Q E s:=by
 obtain⟨od,J,hl⟩:=I.look
 exact PySem.W.get_value X J (aew hg).1 (PySem.W.findObj_own hh ha rfl (by rw[hl,hv])) hv' h
theorem zTl{Q:Value×List Value->Shared->Prop}(X:K.In s.heap)(I:qX s.heap x dx C mA)(hg:plainGet K C name=true)(hf:findIn K (.ref C) name=some (some (.ref f)))(ht:isFn K (.ref f)=true)(hv:mA name=none)(h:Q (.ref f,[.ref x]) s) :
  wpAny (model prog w) A (getMethod (.ref x) name pl) Q E s:=by
 obtain⟨od,J,hl⟩:=I.look
 exact PySem.W.method_fn X J (aew hg).1 (aew hg).2 hf (beq_iff_eq.mp ht) (by show(lookIn name od).map (·.isSome)=some false;rw[hl,hv];rfl) h
theorem CV{Q:Unit->Shared->Prop}(X:K.In s.heap)(I:qX s.heap x dx C mA)(hs:findIn K (.ref C) "__setattr__" = some (some (.builtin "object.__setattr__")))(hp:PySem.W.plainOver K C=true)(ht:takerIn K C name=some none)(hh:hasDictIn K C=true)(hw:afb mA ns)(hsz:ns.length<=sizeLine)(h:∀h',qX h' x dx C (λy=>if y=name then some v else mA y)->SameBut dx s.heap h'->Q () { s with heap:=h',toks:=s.toks+2 }) :
  wpAny (model prog w) A (setAttr (.ref x) name v) Q E s:=by
 obtain⟨od,J,hl⟩:=I.look
 refine PySem.W.set_plain X J hs (PySem.W.osa_open (s:={ s with toks:=s.toks+1 }) (r:=none) X J hp ht λb=>?_)
 obtain⟨cd,hc,hd'⟩:=PySem.W.any_some hh
 have hx:s.heap.get? x=some ⟨.ref C,some dx,.plain,#[]⟩:=I.obj
 refine aam (aan (aam (aam (wpAny_loadPart hx (aam (PySem.W.Looks.here (s:={ s with toks:=s.toks+1 }) (PySem.W.looks_clsIn X hc) ?_))))))
 rw[hd']
 refine aan (a:=some dx) (aam (aan (aam ?_)))
 refine wpAny_nsSet1 (s:={ s with toks:=s.toks+1 }) I.ns λh' hn2 hs2=>?_
 obtain⟨oD,esD,epD,hoD,hdD,hcD⟩:=hn2.count (PySem.Within.cons name v hw)
 refine aam (wpAny_lookBehind hoD (by rw[hdD];exact pastItsLine_dict (aa0 hcD (by rw[length_cons];omega))) ?_)
 exact aan (h _ ⟨(hs2.2 _ (acg I.ne)).trans I.obj,hn2,I.ne⟩ hs2)
theorem zTa(X:K.In s.heap)(hm:PySem.W.makesIn K C=true)(hi:findIn K (.ref C) "__init__" = some (some (.ref f)))(hf:typeIn K (.ref f)=some (.type "function"))(h:codeAny (model prog w) (A.under (.builtin "type.__call__" ⟨.ref C::vs,kw⟩)) (.call (.ref f) ⟨.ref (s.heap.objs.size+1)::vs,kw⟩) (PySem.W.InitBack (s.heap.objs.size+1) R)
   { s with heap:=(s.heap.push emptyDict).push (instObj C s.heap.objs.size) }) :
  codeAny (model prog w) A (.call (.ref C) ⟨vs,kw⟩) R s:=by
 obtain⟨hh,g,d,t,os⟩:=s
 exact PySem.W.make_core (PySem.W.makes_of X hm) (PySem.W.looks_findIn X hi) (λself=>PySem.W.bind_fn X self hf) (.inl rfl) h
end
def aG(f:Str)(v:V):List (Str×V)->List (Str×V)
 |[]=>[(f,v)]
 | (g,x)::r=>if g=f then(g,v)::r else(g,x)::aG f v r
theorem zL(f g:Str)(v:V):∀fs:List (Str×V),(aG f v fs).lookup g=if g=f then some v else fs.lookup g
 |[]=>by
  show acp g [(f,v)]=_
  by_cases h:g=f
  ·have hb:(g==f)=true:=beq_iff_eq.mpr h
   simp only[acp,hb,if_pos h]
  ·have hb:(g==f)=false:=beq_eq_false_iff_ne.mpr h
   simp only[acp,hb,if_neg h]
 | (k,x)::r=>by
  have ih:=zL f g v r
  rw[show aG f v ((k,x)::r)=(if k=f then(k,v)::r else(k,x)::aG f v r) from rfl]
  by_cases hk:k=f
  ·rw[if_pos hk]
   by_cases h:g=k
   ·have hb:(g==k)=true:=beq_iff_eq.mpr h
    simp only[acp,hb,if_pos (h.trans hk)]
   ·have hb:(g==k)=false:=beq_eq_false_iff_ne.mpr h
    simp only[acp,hb,if_neg (λe:g=f=>h (e.trans hk.symm))]
  ·rw[if_neg hk]
   by_cases h:g=k
   ·have hb:(g==k)=true:=beq_iff_eq.mpr h
    simp only[acp,hb,if_neg (λe:g=f=>hk (h.symm.trans e))]
   ·have hb:(g==k)=false:=beq_eq_false_iff_ne.mpr h
    simp only[acp,hb]
    exact ih
theorem W2(f:Str)(v:V):∀fs:List (Str×V),f∈(aG f v fs).map (·.1)/\∀g,g∈fs.map (·.1)->g∈(aG f v fs).map (·.1)
 |[]=>⟨by simp[aG],λg h=>by simp at h⟩
 | (k,x)::r=>by
  obtain⟨i1,i2⟩:=W2 f v r
  rw[show aG f v ((k,x)::r)=(if k=f then(k,v)::r else(k,x)::aG f v r) from rfl]
  by_cases hk:k=f
  ·rw[if_pos hk]
   subst hk
   exact⟨by simp,λg h=>by simpa using h⟩
  ·rw[if_neg hk]
   refine⟨?_,λg h=>?_⟩
   ·rw[map_cons]
    exact mem_cons_of_mem _ i1
   ·rw[map_cons] at h ⊢
    rcases mem_cons.mp h with e|e
    ·exact mem_cons.mpr (.inl e)
    ·exact mem_cons_of_mem _ (i2 g e)
theorem zE9(f:Str)(v:V):∀fs:List (Str×V),(aG f v fs).length<=fs.length+1
 |[]=>by simp[aG]
 | (k,x)::r=>by
  have ih:=zE9 f v r
  rw[show aG f v ((k,x)::r)=(if k=f then(k,v)::r else(k,x)::aG f v r) from rfl]
  by_cases hk:k=f
  ·rw[if_pos hk,length_cons,length_cons];omega
  ·rw[if_neg hk,length_cons,length_cons];omega
theorem iG.some_of(r:iG (some v) o):∃u,o=some u/\RelV v u:=by
 cases o with
 |none=>exact(show False from r).elim
 |some u=>exact⟨u,rfl,r⟩
theorem iG.none_of(r:iG none o):o=none:=by
 cases o with
 |none=>rfl
 |some u=>exact(show False from r).elim
theorem zQk(r:RelV v u):PySem.W.handedIn u=true:=by
 cases v with
 |non=>cases(show u=ac7 from r);rfl
 |bl b=>cases(show u=ae6 b from r);rfl
 |int i=>obtain⟨t,e⟩:=(show∃t,u=ab3 i t from r);cases e;rfl
 |str x=>obtain⟨t,e⟩:=(show∃t,u=ae0 x t from r);cases e;rfl
 |qT b=>obtain⟨t,e⟩:=(show∃t,u=Value.bytes b t from r);cases e;rfl
 |flt b=>obtain⟨t,e⟩:=(show∃t,u=afk b t from r);cases e;rfl
 |ref a=>cases(show u=abj a from r);rfl
 |ty n=>cases(show u=adq n from r);rfl
section
variable{P:Program}{w:World}{H H':Hp}{h h':Heap}{a C dx:Addr}{fs fs':List (Str×V)}
theorem Uy(hok:gJ P w H h)(e:H a=some (.ins C dx fs)):∃mA,qX h a dx C mA/\(∀f,iG (fs.lookup f) (mA f))/\afb mA (fs.map (·.1))/\fs.length<=1000/\H dx=some (.own a):=by
 obtain⟨d,z,ne,ob,mA,n,r,q⟩:=(show bx P w H h a (.ins C dx fs) from hok a _ e)
 exact⟨mA,⟨ob,n,ne⟩,r,q,z,d⟩
end
structure Cls(K:PySem.W.Frag)(C:Addr):Prop where
 pg:plainGet K C adx=true
 hd:hasDictIn K C=true
 po:PySem.W.plainOver K C=true
 sa:findIn K (.ref C) "__setattr__" = some (some (.builtin "object.__setattr__"))
theorem Cls.get{K:PySem.W.Frag}{C:Addr}(c:Cls K C)(f:Str):plainGet K C f=true:=c.pg
def bw(K:PySem.W.Frag)(C:Addr)(f:Str):Prop:=findIn K (.ref C) f=some none
theorem bw.taker{K:PySem.W.Frag}{C:Addr}{f:Str}(n:bw K C f):takerIn K C f=some none:=by
 unfold takerIn
 rw[show findIn K (.ref C) f=some none from n]
 rfl
structure Con(K:PySem.W.Frag)(C:Addr)(f:Str)(v:V)(u:Value):Prop where
 at_:findIn K (.ref C) f=some (some u)
 rel:RelV v u
 get:specialIn K u "__get__" = some none
 cp:PySem.W.copiedNames.contains f=false
structure Meth(K:PySem.W.Frag)(C:Addr)(m:Str)(f:Addr):Prop where
 at_:findIn K (.ref C) m=some (some (.ref f))
 fn:isFn K (.ref f)=true
 kp:keepIn K (.ref f)=true
section
variable{X:Cx}{pins:List (Addr×Obj)}{σ:St}{H:Hp}{s:Shared}{a C dx:Addr}{fs:List (Str×V)}{f:Str}{v:V}{A:Around}{E:Value->Shared->Prop}
theorem zNk{Q:Value->Shared->Prop}(I:Inv X pins σ H s)(e:H a=some (.ins C dx fs))(c:Cls X.K C)(n:bw X.K C f)(l:fs.lookup f=some v)(h:∀u s',Inv X pins σ H s'->RelV v u->Q u s'):wpAny (model X.prog X.w) A (getAttr (.ref a) f b) Q E s:=by
 obtain⟨mA,O,r,_,_,_⟩:=Uy I.hok e
 obtain⟨u,hu,ru⟩:=iG.some_of (v:=v) (o:=mA f) (by rw[<-l];exact r f)
 exact get_map I.jH O (c.get f) c.hd n hu (zQk ru) (h u _ (I.tok _) ru)
theorem zGi{Q:Value×List Value->Shared->Prop}(I:Inv X pins σ H s)(e:H a=some (.ins C dx fs))(c:Cls X.K C)(k:Meth X.K C m g)(l:fs.lookup m=none)(h:Q (.ref g,[.ref a]) s):wpAny (model X.prog X.w) A (getMethod (.ref a) m pl) Q E s:=by
 obtain⟨mA,O,r,_,_,_⟩:=Uy I.hok e
 have hn:mA m=none:=iG.none_of (by rw[<-l];exact r m)
 exact zTl I.jH O (c.get m) k.at_ k.fn hn h
theorem zMt{Q:Unit->Shared->Prop}(I:Inv X pins σ H s)(e:H a=some (.ins C dx fs))(c:Cls X.K C)(n:bw X.K C f)(hl:fs.length<1000)(ry:RelV y u)(h:∀s',Inv X pins σ (upd H a (.ins C dx (aG f y fs))) s'->Q () s'):wpAny (model X.prog X.w) A (setAttr (.ref a) f u) Q E s:=by
 obtain⟨mA,O,r,wi,_,ho⟩:=Uy I.hok e
 have hz:(fs.map (·.1)).length<=sizeLine:=by rw[length_map,aey];omega
 refine CV I.jH O c.sa c.po n.taker c.hd wi hz λh' O' sb=>h _ ?_
 have hd:∃o,h'.get? dx=some o:=let⟨o,_,_,e',_⟩:=O'.ns;⟨o,e'⟩
 refine I.write (x:=a) (e:=dx) (by rw[e];exact acv) (.inr ho) (λb q hb z=>(sb.2 b hb).trans z) hd ?_
 refine⟨by rw[zP O.ne];exact ho,?_,O.ne,O'.obj,_,O'.ns,λg=>?_,λg hg=>?_⟩
 ·have:=zE9 f y fs;omega
 ·show iG ((aG f y fs).lookup g) (if g=f then some u else mA g)
  rw[zL]
  by_cases q:g=f
  ·rw[if_pos q,if_pos q];exact ry
  ·rw[if_neg q,if_neg q];exact r g
 ·by_cases q:g=f
  ·rw[q];exact(W2 f y fs).1
  ·refine(W2 f y fs).2 g (wi g λz=>hg ?_)
   show(if g=f then some u else mA g)=none
   rw[if_neg q];exact z
theorem Inv.made(I:Inv X pins σ H s):Inv X pins σ (upd (upd H s.heap.objs.size (.own (s.heap.objs.size+1))) (s.heap.objs.size+1) (.ins C s.heap.objs.size []))
  { s with heap:=(s.heap.push emptyDict).push (instObj C s.heap.objs.size) }:=by
 have e1:(s.heap.push emptyDict).get? s.heap.objs.size=some emptyDict:=get?_push_size s.heap rfl
 have e2:((s.heap.push emptyDict).push (instObj C s.heap.objs.size)).get? (s.heap.objs.size+1)=some (instObj C s.heap.objs.size):=by
  have:=get?_push_size (s.heap.push emptyDict) (o:=instObj C s.heap.objs.size) rfl
  rwa [size_push] at this
 have e3:(s.heap.push emptyDict).Ns s.heap.objs.size (λ_=>none):=⟨emptyDict,#[],_,e1,rfl,(λe he=>absurd he (by simp)),λ_=>rfl⟩
 have I1:=I.laid (a:=s.heap.objs.size) (o:=.own (s.heap.objs.size+1)) (h':=s.heap.push emptyDict) (t':=s.toks) (λb u q=>get?_push_of_some _ q) (aaq _) ⟨_,e1⟩
 refine I1.laid (a:=s.heap.objs.size+1) (o:=.ins C s.heap.objs.size []) (t':=s.toks) (λb u q=>get?_push_of_some _ q) (Nat.le_of_eq (size_push _ _)) ?_
 have ne:s.heap.objs.size≠s.heap.objs.size+1:=aau (ab8 _)
 refine⟨by rw[zP ne,zJ],aa5 _,ne,e2,λ_=>none,(Heap.Ns1.of_empty e3).at λo q=>get?_push_of_some _ q,λ_=>acv,λy hy=>absurd rfl hy⟩
theorem CW(hb:attributeBase e f env (eval e env)=eval e env)(h:wpAny (model prog w) A (eval e env) (λo s₁=>wpAny (model prog w) A (getAttr o f true) Q E s₁) E s):wpAny (model prog w) A (eval (.Attribute e f pos) env) Q E s :=
 Attribute_any_ h (by rw[arm_eval_Attribute,hb])
end
def pJ(K:PySem.W.Frag)(ta:TE)(f:Str):TE:=λσ H Q=>ta σ H λx H1=>∃a C dx fs v,x=.ref a/\H1 a=some (.ins C dx fs)/\Cls K C/\bw K C f/\fs.lookup f=some v/\Q v H1
def W3(K:PySem.W.Frag)(ta tv:TE)(f:Str):TS:=λD σ H=>tv σ H λy H1=>ta σ H1 λx H2=>∃a C dx fs,x=.ref a/\H2 a=some (.ins C dx fs)/\Cls K C/\bw K C f/\fs.length<1000 /\
 D.nx σ (upd H2 a (.ins C dx (aG f y fs)))
section
variable{X:Cx}{o e value:Expr}{f:Str}{pos pos' tpos:Pos}{ta tv:TE}
theorem zUw(he:PE X e ta)(hb:attributeBase e f X.env (eval e X.env)=eval e X.env):PE X (.Attribute e f pos) (pJ X.K ta f):=by
 intro pins s σ H Q I h
 refine CW hb (aP (he pins s σ H _ I h) λu s1 ⟨x,H1,I1,rx,a,C,dx,fs,v,ex,ea,c,n,l,q⟩=>?_)
 subst ex
 obtain rfl:u=abj a:=rx
 exact zNk I1 ea c n l λu' s2 I2 ru=>⟨v,H1,I2,ru,q⟩
theorem Bw(ha:PE X o ta)(hv:PE X value tv)(hs:swapsWith value (some (.Attribute o f pos')) pos.line X.env=pure false):PS X (.Assign [.Attribute o f pos'] value pos) (W3 X.K ta tv f):=by
 intro pins s σ H D I h
 refine plainObj_wpAny_Assign_Attribute (aP (hv pins s σ H _ I h) λu s1 ⟨y,H1,I1,ry,q⟩=>aP (ha pins s1 σ H1 _ I1 q) λov s2 ⟨x,H2,I2,rx,a,C,dx,fs,ex,ea,c,n,l,q2⟩=>?_) hs
 subst ex
 obtain rfl:ov=abj a:=rx
 exact zMt I2 ea c n l ry λs3 I3=>⟨σ,_,I3,q2⟩
end
section
variable{X:Cx}{pins:List (Addr×Obj)}{σ:St}{H:Hp}{s:Shared}{A:Around}{E:Value->Shared->Prop}{Q:Value->Shared->Prop}{c:Value}{b:Bool}
inductive jK(K:PySem.W.Frag)(H:Hp):V->Value->Prop where
 |non:jK K H .non (.type "NoneType")
 |bl (x:Bool):jK K H (.bl x) (.type "bool")
 |int (i:Int):jK K H (.int i) (.type "int")
 |str (x:Str):jK K H (.str x) (.type "str")
 |flt (x:UInt64):jK K H (.flt x) (.type "float")
 |lst {a:Addr} {xs:List V} (e:H a=some (.lst xs)):jK K H (.ref a) (.type "list")
 |su {a:Addr} {o:Obj} {xs:List V} (e:H a=some (.su o (.lst xs))):jK K H (.ref a) (.type "list")
 |tup {a:Addr} {xs:List V} (e:H a=some (.tup xs)):jK K H (.ref a) (.type "tuple")
 |dK {a:Addr} {kvs:List (Key×V)} (e:H a=some (.dK kvs)):jK K H (.ref a) (.type "dict")
 |dT {a:Addr} {kvs:List (List Key×V)} (e:H a=some (.dT kvs)):jK K H (.ref a) (.type "dict")
 |ins {a C dx:Addr} {fs:List (Str×V)} (e:H a=some (.ins C dx fs)) (cl:Cls K C) (ha:findIn K (.ref C) "__class__" = some (some (.builtin "object.__class__")))
   (hn:specialIn K (.builtin "object.__class__") "__get__" = some (some (.builtin "getset_descriptor.__get__"))) (htk:takesIn K (.builtin "object.__class__")=some true)
   (hm:mroIn K C (.type "object")=some true):jK K H (.ref a) (.ref C)
theorem zQf(I:Inv X pins σ H s)(rx:RelV x u)(ty:jK X.K H x t)(e:kitOne X.K t c=some b)(h:∀tk,Q (.bool b) { s with toks:=tk }) :
  wpAny (model X.prog X.w) A (call (.builtin "isinstance") [u,c]) Q E s:=by
 cases ty with
 |non=>cases(show u=ac7 from rx);exact ad1 PySem.W.kitx_none I.jH acv e (λz=>nomatch z) h
 |bl y=>cases(show u=ae6 y from rx);exact ad1 PySem.W.kitx_bool I.jH acv e (λz=>nomatch z) h
 |int i=>obtain⟨t,q⟩:=(show∃t,u=ab3 i t from rx);cases q;exact ad1 PySem.W.kitx_int I.jH acv e (λz=>nomatch z) h
 |str y=>obtain⟨t,q⟩:=(show∃t,u=ae0 y t from rx);cases q;exact ad1 PySem.W.kitx_str I.jH acv e (λz=>nomatch z) h
 |flt y=>obtain⟨t,q⟩:=(show∃t,u=afk y t from rx);cases q;exact ad1 PySem.W.kitx_float I.jH acv e (λz=>nomatch z) h
 |@lst a xs ea =>
  cases(show u=abj a from rx)
  obtain⟨_,_,n,_,h1⟩:=(show bx X.prog X.w H s.heap a (.lst xs) from I.hok a _ ea)
  exact ad1 PySem.W.kitx_list I.jH ⟨_,h1,rfl⟩ e (λz=>nomatch z) h
 |@su a ob xs ea =>
  cases(show u=abj a from rx)
  obtain⟨_,_,_,n,_,h1⟩:=(show bx X.prog X.w H s.heap a (.su ob (.lst xs)) from I.hok a _ ea)
  exact ad1 PySem.W.kitx_list I.jH ⟨_,h1,rfl⟩ e (λz=>nomatch z) h
 |@tup a xs ea =>
  cases(show u=abj a from rx)
  obtain⟨_,_,_,p⟩:=(show bx X.prog X.w H s.heap a (.tup xs) from I.hok a _ ea)
  obtain⟨o,h1,h2,_⟩:=p
  exact ad1 PySem.W.kitx_tuple I.jH ⟨o,h1,h2⟩ e (λz=>nomatch z) h
 |@dK a kvs ea =>
  cases(show u=abj a from rx)
  obtain⟨_,_,vs,_,p⟩:=(show bx X.prog X.w H s.heap a (.dK kvs) from I.hok a _ ea)
  obtain⟨o,es,ep,h1,h2,_⟩:=p
  exact ad1 PySem.W.kitx_dict I.jH ⟨o,h1,h2.1⟩ e (λz=>nomatch z) h
 |@dT a kvs ea =>
  cases(show u=abj a from rx)
  obtain⟨_,_,xs,_,o,es,ep,h1,h2,_⟩:=(show bx X.prog X.w H s.heap a (.dT kvs) from I.hok a _ ea)
  exact ad1 PySem.W.kitx_dict I.jH ⟨o,h1,h2.1⟩ e (λz=>nomatch z) h
 |@ins a C dx fs ea cl ha hn htk hm =>
  cases(show u=abj a from rx)
  obtain⟨mA,O,_⟩:=Uy I.hok ea
  obtain⟨od,J,_⟩:=O.look
  exact ad1 (PySem.W.kitx_own (cl.get _) cl.hd ha hn htk hm) I.jH J e (λz=>nomatch z) h
end
structure bO(k:Nat)(A:Around):Prop where
 hd:A.handled=none
 dp:A.depth+3*k+5<recursionLimit
 un:A.units+16*k+200<cLine
theorem bO.mono(r:bO k A)(h:j<=k):bO j A:=⟨r.hd,by have:=r.dp;omega,by have:=r.un;omega⟩
theorem bO.deeper(r:bO (k+1) A)(env:Env):bO k (A.deeper env) :=
 ⟨r.hd,by have:=r.dp;show A.depth+1+3*k+5<_;omega,by have:=r.un;show A.units+3+16*k+200<_;omega⟩
theorem zNe{A:Around}:(A.under (.builtin "type.__call__" ⟨.ref C::us,kw⟩)).depth=A.depth+1:=by
 first|rfl|simp[ae8,Code.weight,Code.isCreation,Code.isGuard,Code.isCaller,Code.frames,ae9,guardIds]
theorem zNd{A:Around}:(A.under (.builtin "type.__call__" ⟨.ref C::us,kw⟩)).units=A.units+1:=by
 first|rfl|simp[ae8,Code.cUnits,Code.frames,ae9]
theorem bO.make(r:bO (k+1) A)(C:Addr)(us:List Value)(kw:List (Str×Value)):bO k (A.under (.builtin "type.__call__" ⟨.ref C::us,kw⟩)) :=
 ⟨r.hd,by have:=r.dp;rw[zNe];omega,by have:=r.un;rw[zNd];omega⟩
theorem bO.depth(r:bO k A):A.depth<recursionLimit:=by have:=r.dp;omega
theorem bO.units(r:bO k A):A.units+64<cLine:=by have:=r.un;omega
def bh:TA:=λ_ H Q=>Q [] H
def yM(ta:TE)(tr:TA):TA:=λσ H Q=>ta σ H λx H1=>tr σ H1 λxs H2=>Q (x::xs) H2
section
variable{X:Cx}{e:Expr}{es:List Expr}{te:TE}{t:TA}{pos:Pos}
theorem zD:PA X [] bh:=λ_ _ _ _ H Q I h=>aee ⟨[],H,I,.nil,h⟩
theorem zA(ha:PE X e te)(hr:PA X es t)(hs:starEach (e::es) X.env=(false,eval e X.env)::starEach es X.env:=by rfl):PA X (e::es) (yM te t):=by
 intro pos pins s σ H Q I h
 rw[hs]
 show wpAny _ _ (spliced ((false,eval e X.env)::backTo pos (starEach es X.env))) _ _ s
 refine aec (aP (ha pins s σ H _ I h) λu s1 ⟨x,H1,I1,r1,q1⟩=>?_)
 exact aP (hr pos pins s1 σ H1 _ I1 q1) λus s2 ⟨xs,H2,I2,r2,q2⟩=>⟨x::xs,H2,I2,.cons r1 r2,q2⟩
def tH(t:TA):TE:=λσ H Q=>t σ H λxs H1=>xs.length<=sizeLine/\∀p,H1 p=none->Q (.ref p) (upd H1 p (.tup xs))
def JZ(t:TA):TE:=λσ H Q=>t σ H λxs H1=>xs.length<=sizeLine/\∀p,H1 p=none->Q (.ref p) (upd H1 p (.lst xs))
theorem wX{x1}(h:PA X es t):PE X (.Tuple es x1 pos) (tH t):=by
 intro pins s σ H Q I hq
 refine wpAny_Tuple_spliced (aP (h pos pins s σ H _ I hq) λus s1 ⟨xs,H1,I1,r,z,q⟩=>⟨by rw[<-r.length];exact z,?_⟩)
 have hf:H1 s1.heap.objs.size=none:=I1.hok.fresh (aaq _)
 refine⟨.ref s1.heap.objs.size,upd H1 s1.heap.objs.size (.tup xs),I1.laid (t':=s1.toks) (λb u e=>get?_push_of_some _ e) (aaq _) ?_,rfl,q _ hf⟩
 exact⟨z,us,r,⟨_,get?_push_size _ rfl,rfl,_,rfl⟩⟩
theorem wC(h:PA X es t):PE X (.List es pos) (JZ t):=by
 intro pins s σ H Q I hq
 refine wpAny_List_spliced (aP (h pos pins s σ H _ I hq) λus s1 ⟨xs,H1,I1,r,z,q⟩=>⟨by rw[<-r.length];exact z,?_⟩)
 have hf:H1 s1.heap.objs.size=none:=I1.hok.fresh (aaq _)
 refine⟨.ref s1.heap.objs.size,upd H1 s1.heap.objs.size (.lst xs),I1.laid (t':=s1.toks) (λb u e=>get?_push_of_some _ e) (aaq _) ?_,rfl,q _ hf⟩
 exact⟨z,us,0,r,get?_push_size _ rfl⟩
end
abbrev Sp:=List V->Hp->VK->XK->Prop
abbrev tK:=List Env->Hp->Shared->XK->Value->Shared->Prop
structure qY(P:Program)(w:World)(K:PySem.W.Frag)(mg:Str->Option Value)(base:Heap)(A:Around)(outer:List Env)(s:Shared)(H:Hp):Prop where
 frames:A.frames=some outer
 mod:Mod K mg base
 bs:∀b o,base.get? b=some o->s.heap.get? b=some o/\H b=none
 Cv:base.objs.size<=s.heap.objs.size
 lC:s.heap.FunFrames base outer
 Jt:∀b∈frs outer,H b=none
 hok:gJ P w H s.heap
 bare:AllBare s.gens
def CE(outer:List Env)(P:Program)(w:World)(H:Hp)(s:Shared)(Q:VK)(u:Value)(s':Shared):Prop :=
 ∃v H',s'.os=s.os/\AllBare s'.gens/\Un (frs outer) [] H H' s.heap s'.heap/\gJ P w H' s'.heap/\RelV v u/\Q v H'
def CR(CX:tK)(outer:List Env)(P:Program)(w:World)(H:Hp)(s:Shared)(Q:VK)(E:XK)(r:Result)(s':Shared):Prop :=
 match r with
 |.ok (.ret u)=>CE outer P w H s Q u s'
 |.ok _=>False
 |.error e=>CX outer H s E e s'
structure aq(P:Program)(w:World)(K:PySem.W.Frag)(mg:Str->Option Value)(base:Heap)(CX:tK)(k:Nat)(f:Addr)(fd:FuncData)(ps:List Str)(sp:Sp):Prop where
 len:∀vs H Q E,sp vs H Q E->vs.length=ps.length
 run:∀(A:Around)(outer:List Env)(s:Shared)(H:Hp)(args:Args)(us:List Value)(vs:List V)(Q:VK)(E:XK),bO k A->qY P w K mg base A outer s H->BindsTo s fd args (ps.zip us)->Vals vs us->sp vs H Q E ->
  codeAny (model P w) A (.call (.ref f) args) (CR CX outer P w H s Q E) s
theorem aq.mono{P:Program}{w:World}{K:PySem.W.Frag}{mg:Str->Option Value}{base:Heap}{CX:tK}{j k:Nat}{f:Addr}{fd:FuncData}{ps:List Str}{sp:Sp}(F:aq P w K mg base CX j f fd ps sp)(h:j<=k) :
  aq P w K mg base CX k f fd ps sp:=⟨F.len,λA outer s H args us vs Q E hr=>F.run A outer s H args us vs Q E (hr.mono h)⟩
theorem aq.imp{P:Program}{w:World}{K:PySem.W.Frag}{mg:Str->Option Value}{base:Heap}{CX:tK}{k:Nat}{f:Addr}{fd:FuncData}{ps:List Str}{sp sp':Sp}(F:aq P w K mg base CX k f fd ps sp)(h:∀vs H Q E,sp' vs H Q E->sp vs H Q E):aq P w K mg base CX k f fd ps sp' :=
 ⟨λvs H Q E q=>F.len vs H Q E (h _ _ _ _ q),λA outer s H args us vs Q E hr he hb hv hs=>F.run A outer s H args us vs Q E hr he hb hv (h _ _ _ _ hs)⟩
theorem qY.make{P:Program}{w:World}{K:PySem.W.Frag}{mg:Str->Option Value}{base:Heap}{A:Around}{outer:List Env}{s:Shared}{H:Hp}(e:qY P w K mg base A outer s H)(C:Addr)(us:List Value)(kw:List (Str×Value)) :
  qY P w K mg base (A.under (.builtin "type.__call__" ⟨.ref C::us,kw⟩)) outer s H:=⟨by first|exact e.frames|(simpa[ae8,Code.envs,ae9,pushEnvs] using e.frames),e.mod,e.bs,e.Cv,e.lC,e.Jt,e.hok,e.bare⟩
section
variable{X:Cx}{pins:List (Addr×Obj)}{σ:St}{H:Hp}{s s':Shared}
theorem Inv.env0(I:Inv X pins σ H s):qY X.prog X.w X.K X.mg X.base X.A X.stack s H :=
 ⟨I.ok.frames,I.ok.mod,I.bs,aa0 I.ok.Cv I.sz,I.stack,I.sy,I.hok,I.bare⟩
theorem Inv.after(I:Inv X pins σ H s)(h:CE X.stack X.prog X.w H s Q u s'):EP X pins σ Q u s':=by
 obtain⟨v,H',os,bare,un,hok,r,q⟩:=h
 obtain⟨hh,g,d,t,os'⟩:=s'
 obtain rfl:os'=s.os:=os
 exact⟨v,H',I.call (h':=hh) (g':=g) (d':=d) (t':=t) (ch:=[]) un hok bare (λb z=>absurd z (by simp)),r,q⟩
end
def tM(sp:Sp)(kZ:List V)(E:XK)(t:TA):TE:=λσ H Q=>t σ H λvs H1=>sp (vs++kZ) H1 Q E
def Qx(C:Addr)(m:Str)(sp:Sp)(kZ:List V)(E:XK)(ta:TE)(t:TA):TE:=λσ H Q=>ta σ H λx H1=>∃a dx fs,x=.ref a/\H1 a=some (.ins C dx fs)/\fs.lookup m=none /\
 t σ H1 λvs H2=>sp (x::(vs++kZ)) H2 Q E
def Hj(C:Addr)(sp:Sp)(kZ:List V)(E:XK)(t:TA):TE:=λσ H Q=>t σ H λvs H1=>∀x dx,H1 x=none->H1 dx=none->dx≠x ->
 sp (.ref x::(vs++kZ)) (upd (upd H1 dx (.own x)) x (.ins C dx [])) (λv H2=>v=.non/\Q (.ref x) H2) E
def Binds(K:PySem.W.Frag)(fd:FuncData)(ps:List Str)(ds:List Value):Prop :=
 ∀(s:Shared)(us:List Value),K.In s.heap->(us++ds).length=ps.length->BindsTo s fd ⟨us,[]⟩ (ps.zip (us++ds))
theorem Binds.all{K:PySem.W.Frag}{fd:FuncData}{ps:List Str}(h:∀us:List Value,us.length=ps.length->bindArgs fd ⟨us,[]⟩=pure (ps.zip us)):Binds K fd ps []:=λs us _ hl=>by
 rw[append_nil] at hl ⊢
 exact .of_eq (h us hl)
def CZ(CX:tK)(X:Cx)(E:XK):Prop:=∀(pins:List (Addr×Obj))(σ:St)(H:Hp)(s:Shared)(e:Value)(s':Shared),Inv X pins σ H s->CX X.stack H s E e s'->X.xe e s'
section
variable{X:Cx}{CX:tK}{k:Nat}{f C:Addr}{fd:FuncData}{ps:List Str}{sp:Sp}{kZ:List V}{ds:List Value}{E:XK}{x m:Str}{p pos apos:Pos}{e o:Expr}{es:List Expr}{ta:TE}{t:TA}
theorem Uz(F:aq X.prog X.w X.K X.mg X.base CX k f fd ps sp)(hr:bO k X.A)(hb:Binds X.K fd ps ds)(hd:Vals kZ ds)(hx:CZ CX X E)(I:Inv X pins σ H s)(r:Vals vs us)(h:sp (vs++kZ) H Q E):wpAny (model X.prog X.w) X.A (call (.ref f) us) (EP X pins σ Q) X.xe s:=by
 have r2:Vals (vs++kZ) (us++ds):=r.append hd
 have hl:(us++ds).length=ps.length:=by rw[<-r2.length];exact F.len _ _ _ _ h
 refine wpAny_call (adf (F.run X.A X.stack s H ⟨us,[]⟩ (us++ds) (vs++kZ) Q E hr I.env0 (hb s us I.jH hl) r2 h) λr s' hq=>?_)
 cases r with
 |error e=>exact hx pins σ H s e s' I hq
 |ok fl =>
  cases fl with
  |ret u=>exact I.after hq
  |next=>exact abn hq
  |brk=>exact abn hq
  |cont=>exact abn hq
theorem J0(F:aq X.prog X.w X.K X.mg X.base CX k f fd ps sp)(hr:bO k X.A)(hg:Gl X x)(hm:X.mg x=some (.ref f))(hk:keepIn X.K (.ref f)=true)(hb:Binds X.K fd ps ds)(hd:Vals kZ ds)(hx:CZ CX X E)(ha:PA X (e::es) t)(hdb:(x==("__debug__":Str))=false:=by decide)(he:starEach (e::es) X.env=(false,eval e X.env)::starEach es X.env:=by rfl)(hpl:(backTo pos (starEach es X.env)).any (·.1)=false:=by rfl) :
  PE X (.Call (.Name x p) (e::es) [] pos) (tM sp kZ E t):=by
 intro pins s σ H Q I h
 refine abw (Qg I hg hm ?_ hdb)
 refine aep (h₀:=X.base) I.ok.mod.N_ hk (aP (ha pos pins s σ H _ I h) λus s1 ⟨vs,H1,I1,r,q⟩=>⟨I1.jH,?_⟩) he hpl
 exact Uz F hr hb hd hx I1 r q
theorem C_(he:PE X o ta)(c:Cls X.K C)(hm:Meth X.K C m f)(F:aq X.prog X.w X.K X.mg X.base CX k f fd ps sp)(hr:bO k X.A)(hb:Binds X.K fd ps ds)(hd:Vals kZ ds)(hx:CZ CX X E)(ha:PA X (e::es) t)(hst:starEach (e::es) X.env=(false,eval e X.env)::starEach es X.env:=by rfl)(hpl:(backTo pos (starEach es X.env)).any (·.1)=false:=by rfl)(ht:eval (.Call (.Attribute o m apos) (e::es) [] pos) X.env=(do
   let ov <-eval o X.env
   standAt apos.atName
   let(f,first) <-holding [ov] (getMethod ov m pl)
   callWith pos f first (backTo pos (starEach (e::es) X.env)) (backToKw pos (keywordEach [] X.env))):=by rfl) :
  PE X (.Call (.Attribute o m apos) (e::es) [] pos) (Qx C m sp kZ E ta t):=by
 intro pins s σ H Q I h
 refine aen (pl:=pl) (aP (he pins s σ H _ I h) λu s1 ⟨x,H1,I1,rx,a,dx,fs,ex,ea,l,q⟩=>?_) ht
 subst ex
 obtain rfl:u=abj a:=rx
 refine zGi I1 ea c hm l ?_
 refine aep (first:=[.ref a]) (h₀:=X.base) I.ok.mod.N_ hm.kp (aP (ha pos pins s1 σ H1 _ I1 q) λus s2 ⟨vs,H2,I2,r,q2⟩=>⟨I2.jH,?_⟩) hst hpl
 exact Uz (us:=.ref a::us) (vs:=.ref a::vs) F hr hb hd hx I2 (.cons rfl r) q2
theorem zSu(he:PE X o ta)(c:Cls X.K C)(hm:Meth X.K C m f)(F:aq X.prog X.w X.K X.mg X.base CX k f fd ps sp)(hr:bO k X.A)(hb:Binds X.K fd ps ds)(hd:Vals kZ ds)(hx:CZ CX X E)(ht:eval (.Call (.Attribute o m apos) [] [] pos) X.env=(do
   let ov <-eval o X.env
   standAt apos.atName
   let(f,first) <-holding [ov] (getMethod ov m pl)
   callWith pos f first (backTo pos (starEach [] X.env)) (backToKw pos (keywordEach [] X.env))):=by rfl) :
  PE X (.Call (.Attribute o m apos) [] [] pos) (Qx C m sp kZ E ta bh):=by
 intro pins s σ H Q I h
 refine aen (pl:=pl) (aP (he pins s σ H _ I h) λu s1 ⟨x,H1,I1,rx,a,dx,fs,ex,ea,l,q⟩=>?_) ht
 subst ex
 obtain rfl:u=abj a:=rx
 refine zGi I1 ea c hm l ?_
 exact PySem.W.callWith_K0 (first:=[.ref a]) I1.jH hm.kp (Uz (us:=[.ref a]) (vs:=[.ref a]) F hr hb hd hx I1 (.cons rfl .nil) q)
structure Mk(K:PySem.W.Frag)(C f:Addr):Prop where
 makes:PySem.W.makesIn K C=true
 init:findIn K (.ref C) "__init__" = some (some (.ref f))
 fn:isFn K (.ref f)=true
 kp:keepIn K (.ref C)=true
theorem zK4(M:Mk X.K C f)(F:aq X.prog X.w X.K X.mg X.base CX k f fd ps sp)(hr:bO (k+1) X.A)(hb:Binds X.K fd ps ds)(hd:Vals kZ ds)(hx:CZ CX X E)(I:Inv X pins σ H s)(r:Vals vs us)(h:∀x dx,H x=none->H dx=none->dx≠x->sp (.ref x::(vs++kZ)) (upd (upd H dx (.own x)) x (.ins C dx [])) (λv H2=>v=.non/\Q (.ref x) H2) E) :
  wpAny (model X.prog X.w) X.A (call (.ref C) us) (EP X pins σ Q) X.xe s:=by
 have hq:=h (s.heap.objs.size+1) s.heap.objs.size (I.hok.fresh (ab6 _)) (I.hok.fresh (aaq _)) (aau (ab8 _))
 have I2:=Inv.made (C:=C) I
 have r2:Vals (V.ref (s.heap.objs.size+1)::(vs++kZ)) (abj (s.heap.objs.size+1)::(us++ds)):=.cons rfl (r.append hd)
 have hl:(abj (s.heap.objs.size+1)::us++ds).length=ps.length:=by
  have e:=r2.length
  rw[F.len _ _ _ _ hq] at e
  exact e.symm
 refine wpAny_call (zTa (f:=f) I.jH M.makes M.init (beq_iff_eq.mp M.fn) (adf (F.run _ X.stack _ _ ⟨abj (s.heap.objs.size+1)::us,[]⟩ (abj (s.heap.objs.size+1)::(us++ds)) _ _ E (hr.make C us [])
  (I2.env0.make C us []) (hb _ (abj (s.heap.objs.size+1)::us) I2.jH hl) r2 hq) λr s' hq'=>?_))
 cases r with
 |error e=>exact hx pins σ _ _ e s' I2 hq'
 |ok fl =>
  cases fl with
  |ret u =>
   obtain⟨v,H',I3,rv,ev,q3⟩:=I2.after hq'
   subst ev
   exact⟨rv,⟨V.ref (s.heap.objs.size+1),H',I3,rfl,q3⟩⟩
  |next=>exact abn hq'
  |brk=>exact abn hq'
  |cont=>exact abn hq'
theorem zX(M:Mk X.K C f)(F:aq X.prog X.w X.K X.mg X.base CX k f fd ps sp)(hr:bO (k+1) X.A)(hg:Gl X x)(hm:X.mg x=some (.ref C))(hb:Binds X.K fd ps ds)(hd:Vals kZ ds)(hx:CZ CX X E)(ha:PA X (e::es) t)(hdb:(x==("__debug__":Str))=false:=by decide)(he:starEach (e::es) X.env=(false,eval e X.env)::starEach es X.env:=by rfl)(hpl:(backTo pos (starEach es X.env)).any (·.1)=false:=by rfl) :
  PE X (.Call (.Name x p) (e::es) [] pos) (Hj C sp kZ E t):=by
 intro pins s σ H Q I h
 refine abw (Qg I hg hm ?_ hdb)
 refine aep (h₀:=X.base) I.ok.mod.N_ M.kp (aP (ha pos pins s σ H _ I h) λus s1 ⟨vs,H1,I1,r,q⟩=>⟨I1.jH,?_⟩) he hpl
 exact zK4 M F hr hb hd hx I1 r q
theorem W4(M:Mk X.K C f)(F:aq X.prog X.w X.K X.mg X.base CX k f fd ps sp)(hr:bO (k+1) X.A)(hg:Gl X x)(hm:X.mg x=some (.ref C))(hb:Binds X.K fd ps ds)(hd:Vals kZ ds)(hx:CZ CX X E)(hdb:(x==("__debug__":Str))=false:=by decide):PE X (.Call (.Name x p) [] [] pos) (Hj C sp kZ E bh):=by
 intro pins s σ H Q I h
 refine abw (Qg I hg hm ?_ hdb)
 exact PySem.W.callWith_K0 I.jH M.kp (zK4 (us:=[]) M F hr hb hd hx I .nil h)
end
section
variable{X:Cx}{CX:tK}{k:Nat}{f C:Addr}{fd:FuncData}{ps ks:List Str}{sp:Sp}{E:XK}{x m:Str}{p pos apos kpos:Pos}{e o:Expr}{es:List Expr}{kws:List Keyword}{te ta:TE}{t tk:TA}{nm:Option Str}
structure W5(K:PySem.W.Frag)(fd:FuncData)(ps ks:List Str)(g:List Value->List Value->List Value)(gV:List V->List V->List V):Prop where
 to:∀(s:Shared)(us ws:List Value),K.In s.heap->(g us ws).length=ps.length->BindsTo s fd ⟨us,ks.zip ws⟩ (ps.zip (g us ws))
 rel:∀{vs:List V}{us:List Value}{zs:List V}{ws:List Value},Vals vs us->Vals zs ws->Vals (gV vs zs) (g us ws)
variable{g:List Value->List Value->List Value}{gV:List V->List V->List V}
end
structure ao(N P:List Str)(sc:Scope):Prop where
 kind:sc.kind=.function
 co:sc.isCoroutine=false
 gen:sc.isGenerator=false
 nd:N.Nodup
 pre:N.take P.length=P
 par:∀x∈P,sc.names.lookup x=some .local\/sc.names.lookup x=some .cell
 J2:∀y∈sc.names,y.2≠.free
theorem zI6{kindOf:Str->Option NameKind}{x:Str}:∀{binds:List (Str×Value)}{m:Str->Option Value},(∀v,(x,v)∉binds)->bindL kindOf binds m x=m x
 |[],_,_=>rfl
 | (n,v)::r,m,h=>by
  unfold bindL
  rw[zI6 λw hw=>h w (mem_cons_of_mem _ hw)]
  split
  ·have:x≠n:=by rintro rfl;exact h v mem_cons_self
   simp[this]
  ·rfl
theorem zI8{kindOf:Str->Option NameKind}{x:Str}:∀{binds:List (Str×Value)}{m:Str->Option Value},(∀v,(x,v)∉binds)->bindC kindOf binds m x=m x
 |[],_,_=>rfl
 | (n,v)::r,m,h=>by
  unfold bindC
  rw[zI8 λw hw=>h w (mem_cons_of_mem _ hw)]
  split
  ·rfl
  ·have:x≠n:=by rintro rfl;exact h v mem_cons_self
   simp[this]
theorem zI7{kindOf:Str->Option NameKind}:∀{P:List Str}{vs:List Value}{i:Nat}{m:Str->Option Value},P.Nodup->P[i]?=some x->vs[i]?=some v->kindOf x=some .local ->
  bindL kindOf (P.zip vs) m x=some v
 |[],_,_,_,_,h,_,_=>by simp at h
 |_::_,[],_,_,_,_,h,_=>by simp at h
 |p::P,w::vs,0,m,nd,h1,h2,hk=>by
  simp at h1 h2;subst h1;subst h2
  show bindL kindOf ((p,w)::P.zip vs) m p=_
  unfold bindL
  rw[zI6 λv hv=>(nodup_cons.mp nd).1 (of_mem_zip hv).1,if_pos hk]
  simp
 |p::P,w::vs,i+1,m,nd,h1,h2,hk=>by
  show bindL kindOf ((p,w)::P.zip vs) m x=_
  unfold bindL
  exact zI7 (i:=i) (nodup_cons.mp nd).2 (by simpa using h1) (by simpa using h2) hk
theorem zI9{kindOf:Str->Option NameKind}:∀{P:List Str}{vs:List Value}{i:Nat}{m:Str->Option Value},P.Nodup->P[i]?=some x->vs[i]?=some v->kindOf x≠some .local ->
  bindC kindOf (P.zip vs) m x=some v
 |[],_,_,_,_,h,_,_=>by simp at h
 |_::_,[],_,_,_,_,h,_=>by simp at h
 |p::P,w::vs,0,m,nd,h1,h2,hk=>by
  simp at h1 h2;subst h1;subst h2
  show bindC kindOf ((p,w)::P.zip vs) m p=_
  unfold bindC
  rw[zI8 λv hv=>(nodup_cons.mp nd).1 (of_mem_zip hv).1,if_neg hk]
  simp
 |p::P,w::vs,i+1,m,nd,h1,h2,hk=>by
  show bindC kindOf ((p,w)::P.zip vs) m x=_
  unfold bindC
  exact zI9 (i:=i) (nodup_cons.mp nd).2 (by simpa using h1) (by simpa using h2) hk
def start(N:List Str)(vs:List V):St:=vs.map some++replicate (N.length-vs.length) none
def oE(CX:tK)(P:Program)(w:World)(K:PySem.W.Frag)(mg:Str->Option Value)(base:Heap)(N:List Str)(qual:Str)(scope:Scope)(f:Addr)(cd:Value)(A:Around)(outer:List Env)(s:Shared)(H:Hp)(E:XK):Cx where
 prog:=P
 w:=w
 K:=K
 mg:=mg
 base:=base
 A:=A.deeper (envOfC qual scope s.heap.objs.size f cd)
 N:=N
 s₀:=s
 H₀:=H
 env:=envOfC qual scope s.heap.objs.size f cd
 outer:=outer
 stack:=envOfC qual scope s.heap.objs.size f cd::outer
 ex:=[]
 calm:=true
 fn:=λ_=>true
 pn:=[]
 xe:=λe s'=>wpAny (model P w) (A.deeper (envOfC qual scope s.heap.objs.size f cd)) (leaving (envOfC qual scope s.heap.objs.size f cd) e) (λ_ s''=>CX outer H s E e s'') (λe' s''=>CX outer H s E e' s'') s'
theorem zL1{sc:Scope}(h:sc.names.lookup x=some .cell):∃c,(cellsFrom n sc.names []).lookup x=some c:=by
 have q:=ac8 sc.names n [] (.inl h)
 exact abl.mp q
theorem zQg{CX:tK}{P:Program}{w:World}{K:PySem.W.Frag}{mg:Str->Option Value}{base:Heap}{N ps:List Str}{qual:Str}{scope:Scope}{f:Addr}{cd:Value}{A:Around}{outer:List Env}{s s1:Shared}{H:Hp}{E:XK}{us:List Value}{vs:List V}(S:ao N ps scope)(hd:A.handled=none)(e0:qY P w K mg base A outer s H)(hl:vs.length=ps.length)(r:Vals vs us)(x:InCallC s s.heap.objs.size (bindL (envOfC qual scope s.heap.objs.size f cd).kindOf (ps.zip us) λ_=>none) (cellsFrom (s.heap.objs.size+1) scope.names []) (bindC (envOfC qual scope s.heap.objs.size f cd).kindOf (ps.zip us) λ_=>none) s1) :
  Inv (oE CX P w K mg base N qual scope f cd A outer s H E) [] (start N vs) H s1:=by
 have hpl:ps.length<=N.length:=by have:=congrArg List.length S.pre;rw[length_take] at this;omega
 obtain⟨h1,tk,rfl,hk⟩:=x.done
 have Qy:∀b:Addr,b∉(oE CX P w K mg base N qual scope f cd A outer s H E).ex:=λb z=>absurd (show b∈([]:List Addr) from z) (by simp)
 refine⟨⟨e0.mod,S.kind,rfl,rfl,aaq _,λy z c h1 h2=>?_,λy hy=>?_,λy c _ h=>?_,λ_=>hd,Around.frames_deeper e0.frames,.inr ⟨rfl,rfl⟩,λb z=>absurd z (Qy b),e0.bs,e0.Cv,λb _ _=>Qy b,λb z=>absurd z (Qy b),e0.lC,e0.Jt⟩,
  rfl,e0.bare,Un.kept hk,⟨_,x.toInCall.ns,λi y v h1 h2 h3=>?_⟩,λy c h=>⟨_,x.cell y c h⟩,e0.hok.fresh (aaq _),λy c h=>?_,λp hp=>absurd (show p∈([]:List (Addr×Obj)) from hp) (by simp),e0.hok.kept hk,?_⟩
 ·exact name_of_addr x.apart (abq h1) (abq h2)
 ·have hy:scope.names.lookup y=some .cell\/scope.names.lookup y=some .free:=hy
  rcases hy with hy|hy
  ·exact zL1 hy
  ·exact absurd rfl (S.J2 _ (abq hy))
 ·exact acq (x.above y c (abq h))
 ·have hi:i<vs.length:=by
   unfold start at h2
   by_cases hi:i<vs.length
   ·exact hi
   ·rw[getElem?_append_right (by simpa using hi)] at h2
    rw[getElem?_replicate] at h2
    split at h2<;>cases h2
  have ha:vs[i]?=some v:=by
   unfold start at h2
   rw[getElem?_append_left (by simpa using hi),getElem?_map] at h2
   cases e:vs[i]? with
   |none=>rw[e] at h2;cases h2
   |some a=>rw[e] at h2;cases h2;rfl
  obtain⟨u,hu,rv⟩:=r.get ha
  have hp:ps[i]?=some y:=by
   rw[<-S.pre,getElem?_take_of_lt (by omega)];exact h1
  have ndP:ps.Nodup:=by rw[<-S.pre];exact S.nd.sublist (List.take_sublist _ _)
  refine⟨u,rv,?_⟩
  rcases S.par y (mem_of_getElem? hp) with k|k
  ·exact .inl ⟨k,zI7 ndP hp hu k⟩
  ·obtain⟨c,e⟩:=zL1 (n:=s.heap.objs.size+1) k
   refine .inr ⟨.inl k,c,e,?_⟩
   have q:=x.cell y c e
   rw[zI9 ndP hp hu (by show scope.names.lookup y≠_;rw[k];decide)] at q
   exact q
 ·exact e0.hok.fresh (acq (x.above y c (abq h)))
 ·unfold start
  show _=N.length
  rw[length_append,length_map,List.length_replicate]
  omega
theorem Hl{CX:tK}{P:Program}{w:World}{K:PySem.W.Frag}{mg:Str->Option Value}{base:Heap}{k:Nat}{f:Addr}{name qual:Str}{params:Arguments}{body:List Stmt}{scope:Scope}{dV kV doc pm cdv ct oc:Value}{an od:Option Addr}{osl:Array (Option Value)}{N ps:List Str}{sp:Sp}(lk:K.lookup f=some ⟨oc,od,.func (fnOf name qual params body scope dV kV doc pm an cdv ct),osl⟩)(hcd:codeIn K cdv qual=true)(S:ao N ps scope)(len:∀vs H Q E,sp vs H Q E->vs.length=ps.length)(hbody:∀(A:Around) (outer:List Env) (s:Shared) (H:Hp) (vs:List V) (Q:VK) (E:XK),bO k (A.deeper (envOfC qual scope s.heap.objs.size f cdv))->sp vs H Q E ->
   ∃t,qe (oE CX P w K mg base N qual scope f cdv A outer s H E) body t/\t { nx:=λ_ H'=>Q .non H',rt:=Q } (start N vs) H) :
  aq P w K mg base CX (k+1) f (fnOf name qual params body scope dV kV doc pm an cdv ct) ps sp:=by
 refine⟨len,λA outer s H args us vs Q E hr e0 hb r hsp=>?_⟩
 have hl:=len _ _ _ _ hsp
 have KX:K.In s.heap:=e0.mod.N_.keeps λb o e=>(e0.bs b o e).1
 have lim:s.heap.NoLimit:=e0.mod.nolimit.keeps λb o e=>(e0.bs b o e).1
 have hkind:∀y∈ps.zip us,scope.names.lookup y.1=some .local\/(scope.names.lookup y.1=some .cell/\((cellsFrom (s.heap.objs.size+1) scope.names []).lookup y.1).isSome=true):=λ⟨n,v⟩ hy=>by
  rcases S.par n (of_mem_zip hy).1 with q|q
  ·exact .inl q
  ·exact .inr ⟨q,ac8 _ _ _ (.inl q)⟩
 refine codeAny_call_function hr.depth (KX _ _ lk) rfl S.co S.gen rfl (PySem.W.codeRec_of KX hcd) (hb _ _ _ _ ?_)
 refine wpAny_newFunctionEnv_cells S.kind hkind λenv he s1 x=>?_
 subst he
 refine⟨lim.keeps x.toInCall.keep,codeAny_func ?_⟩
 obtain⟨t,ht,hq⟩:=hbody A outer s H vs Q E (hr.deeper _) hsp
 have I:Inv (oE CX P w K mg base N qual scope f cdv A outer s H E) [] (start N vs) H s1:=zQg S hr.hd e0 hl r x
 refine ab4 (ht [] s1 (start N vs) H _ I hq) (λfl s' hs=>?_) λe s' hs=>hs
 have fin:∀{σ':St}{H':Hp}{v:V}{u:Value},Inv (oE CX P w K mg base N qual scope f cdv A outer s H E) [] σ' H' s'->RelV v u->Q v H'->CE outer P w H s Q u s' :=
  λ{σ' H' v u} J rv q=>⟨v,H',J.os,J.bare,J.base,J.hok,rv,q⟩
 cases fl with
 |ret u =>
  obtain⟨v,σ',H',J,rv,q⟩:=hs
  exact fin J rv q
 |next =>
  obtain⟨σ',H',J,q⟩:=hs
  exact fin (v:=V.non) (u:=ac7) J rfl q
 |brk =>
  obtain⟨_,_,_,q⟩:=hs
  exact abn q
 |cont =>
  obtain⟨_,_,_,q⟩:=hs
  exact abn q
section
variable{X:Cx}{x:Str}{p pos:Pos}{e:Expr}{es:List Expr}{t:TA}{id T:String}{r:List V->Hp->VK->Prop}
def tQ(r:List V->Hp->VK->Prop)(t:TA):TE:=λσ H Q=>t σ H λvs H1=>r vs H1 Q
theorem zU(hc:sE X (.builtin id) r)(hg:Gl X x)(hm:X.mg x=none)(hv:bootBuiltins x=some (.builtin id))(ha:PA X (e::es) t)(hn:x ≠ "__name__":=by decide)(hdb:(x==("__debug__":Str))=false:=by decide)(he:starEach (e::es) X.env=(false,eval e X.env)::starEach es X.env:=by rfl)(hpl:(backTo pos (starEach es X.env)).any (·.1)=false:=by rfl):PE X (.Call (.Name x p) (e::es) [] pos) (tQ r t):=by
 intro pins s σ H Q I h
 refine abw (Bu I hg hm hv ?_ hn hdb)
 exact PyProof.Rows.callWith_builtin1 (aP (ha pos pins s σ H _ I h) λus s1 ⟨vs,H1,I1,r1,q1⟩=>hc pins s1 σ H1 vs us Q I1 r1 q1) he hpl
theorem vX(hc:sE X (.type T) r)(hg:Gl X x)(hm:X.mg x=none)(hv:bootBuiltins x=some (.type T))(ha:PA X (e::es) t)(hn:x ≠ "__name__":=by decide)(hdb:(x==("__debug__":Str))=false:=by decide)(he:starEach (e::es) X.env=(false,eval e X.env)::starEach es X.env:=by rfl)(hpl:(backTo pos (starEach es X.env)).any (·.1)=false:=by rfl):PE X (.Call (.Name x p) (e::es) [] pos) (tQ r t):=by
 intro pins s σ H Q I h
 refine abw (Bu I hg hm hv ?_ hn hdb)
 exact abm (aP (ha pos pins s σ H _ I h) λus s1 ⟨vs,H1,I1,r1,q1⟩=>hc pins s1 σ H1 vs us Q I1 r1 q1) he hpl
end
section
variable{κ:Type}[DecidableEq κ]
def gP(kvs:List (κ×V))(k:κ):Option V:=(kvs.find? λkv=>decide (kv.1=k)).map (·.2)
def putK(kvs:List (κ×V))(k:κ)(v:V):List (κ×V) :=
 if(kvs.any λkv=>decide (kv.1=k))=true then kvs.map (λkv=>if kv.1=k then(kv.1,v) else kv) else kvs++[(k,v)]
theorem W6{p:κ×V}{r:List (κ×V)}{k:κ}(e:p.1=k):gP (p::r) k=some p.2:=by simp[gP,find?_cons,e]
theorem W7{p:κ×V}{r:List (κ×V)}{k:κ}(e:¬p.1=k):gP (p::r) k=gP r k:=by simp[gP,find?_cons,e]
theorem zKz(k:κ):∀kvs:List (κ×V),(kvs.any λkv=>decide (kv.1=k))=(gP kvs k).isSome
 |[]=>rfl
 |p::r=>by
  rw[any_cons]
  by_cases e:p.1=k
  ·simp only[W6 e,decide_eq_true e,Bool.true_or,adp]
  ·rw[W7 e,decide_eq_false e,ad7];exact zKz k r
theorem zE8(kvs:List (κ×V))(k:κ)(v:V):(putK kvs k v).length<=kvs.length+1:=by
 unfold putK
 split
 ·rw[length_map];omega
 ·rw[length_append,length_cons,length_nil];omega
theorem iG.fL(r:iG o u):o.isSome=u.isSome:=by
 cases o with
 |none=>cases u with
  |none=>rfl
  |some _=>exact(show False from r).elim
 |some _=>cases u with
  |none=>exact(show False from r).elim
  |some _=>rfl
theorem iG.getD(r:iG o u)(rd:RelV d d'):RelV (o.getD d) (u.getD d'):=by
 cases o with
 |none=>cases u with
  |none=>exact rd
  |some _=>exact(show False from r).elim
 |some _=>cases u with
  |none=>exact(show False from r).elim
  |some _=>exact r
theorem KV.val(r:KV kvs vs)(k:κ):iG (gP kvs k) (valueAt vs k):=by
 unfold KV at r
 induction r with
 |nil=>exact acv
 |@cons p q ps qs h t ih =>
  obtain⟨h1,h2⟩:=h
  by_cases e:p.1=k
  ·have e':q.1=k:=h1.symm.trans e
   have b:valueAt (q::qs) k=some q.2:=by simp[valueAt,find?_cons,e']
   rw[W6 e,b];exact h2
  ·have e':¬q.1=k:=λz=>e (h1.trans z)
   have b:valueAt (q::qs) k=valueAt qs k:=by simp[valueAt,find?_cons,e']
   rw[W7 e,b];exact ih
theorem KV.any(r:KV kvs vs)(k:κ):(kvs.any λkv=>decide (kv.1=k))=vs.any λkv=>decide (kv.1=k):=by
 unfold KV at r
 induction r with
 |nil=>rfl
 |cons h t ih=>rw[any_cons,any_cons,ih,h.1]
theorem KV.repl(r:KV kvs vs)(k:κ)(ry:RelV y u) :
  KV (kvs.map λkv=>if kv.1=k then(kv.1,y) else kv) (vs.map λkv=>if kv.1=k then(kv.1,u) else kv):=by
 unfold KV at r ⊢
 induction r with
 |nil=>exact .nil
 |@cons p q ps qs h t ih =>
  rw[map_cons,map_cons]
  refine .cons ?_ ih
  obtain⟨h1,h2⟩:=h
  by_cases e:p.1=k
  ·rw[if_pos e,if_pos (h1.symm.trans e)];exact⟨h1,ry⟩
  ·rw[if_neg e,if_neg (λz=>e (h1.trans z))];exact⟨h1,h2⟩
theorem KV.put(r:KV kvs vs)(k:κ)(ry:RelV y u):KV (putK kvs k y) (stored vs k u):=by
 unfold putK stored
 rw[r.any k]
 by_cases e:(vs.any λkv=>decide (kv.1=k))=true
 ·rw[if_pos e,if_pos e];exact r.repl k ry
 ·rw[if_neg e,if_neg e];exact afi r ⟨rfl,ry⟩
theorem KV.length(r:KV kvs vs):kvs.length=vs.length:=ael r
end
theorem UG(r:RelV (kV k) u):(vG P w).is k u=true:=by
 cases k with
 |inl i=>obtain⟨t,e⟩:=(show∃t,u=ab3 i t from r);subst e;exact zKe P w i t
 |inr x=>obtain⟨t,e⟩:=(show∃t,u=ae0 x t from r);subst e;exact zKd P w x t
theorem zIq:∀{ks:List Key}{us:List Value},Vals (ks.map kV) us->ItemsAre (vG P w) ks us
 |[],_,r=>by rw[List.map_nil] at r;cases r;exact .nil
 |k::ks,_,r=>by
  rw[map_cons] at r
  cases r with
  |cons h t=>exact .cons (UG h) (zIq t)
abbrev KT(H:Hp):List (List Key×V)->List (List Key×Addr×Value)->Prop:=Paired λp q=>p.1=q.1/\H q.2.1=some (.tup (p.1.map kV))/\RelV p.2 q.2.2
theorem KT.val(r:KT H kvs xs)(k:List Key):iG (gP kvs k) ((atKey xs k).map (·.2)):=by
 induction r with
 |nil=>exact acv
 |@cons p q ps qs h t ih =>
  obtain⟨h1,_,h2⟩:=h
  by_cases e:p.1=k
  ·have e':q.1=k:=h1.symm.trans e
   have b:atKey (q::qs) k=some q.2:=by simp[atKey,find?_cons,e']
   rw[W6 e,b];exact h2
  ·have e':¬q.1=k:=λz=>e (h1.trans z)
   have b:atKey (q::qs) k=atKey qs k:=by simp[atKey,find?_cons,e']
   rw[W7 e,b];exact ih
theorem KT.repl(r:KT H kvs xs)(k:List Key)(ry:RelV y u) :
  KT H (kvs.map λkv=>if kv.1=k then(kv.1,y) else kv) (xs.map (putAt k u)):=by
 induction r with
 |nil=>exact .nil
 |@cons p q ps qs h t ih =>
  rw[map_cons,map_cons]
  refine .cons ?_ ih
  obtain⟨h1,h2,h3⟩:=h
  unfold putAt
  by_cases e:p.1=k
  ·rw[if_pos e,if_pos (h1.symm.trans e)];exact⟨h1,h2,ry⟩
  ·rw[if_neg e,if_neg (λz=>e (h1.trans z))];exact⟨h1,h2,h3⟩
theorem KT.put(r:KT H kvs xs)(k:List Key)(hb:H b=some (.tup (k.map kV)))(ry:RelV y u) :
  KT H (putK kvs k y) (storedH xs k b u):=by
 have e:(kvs.any λkv=>decide (kv.1=k))=(atKey xs k).isSome:=by
  rw[zKz,(r.val k).fL,aeh]
 unfold putK storedH
 rw[e]
 by_cases q:(atKey xs k).isSome=true
 ·rw[if_pos q,if_pos q];exact r.repl k ry
 ·rw[if_neg q,if_neg q];exact afi r ⟨rfl,hb,ry⟩
theorem KT.keeps(r:KT H kvs xs)(ht:∀b ys,H b=some (.tup ys)->H' b=some (.tup ys)):KT H' kvs xs :=
 Paired.Js r λ_ _ z=>⟨z.1,ht _ _ z.2.1,z.2.2⟩
section
variable{P:Program}{w:World}{H:Hp}{h:Heap}{a:Addr}
theorem Ho(ok:gJ P w H h)(e:Rd H a u):bx P w H h a u:=e.ok ok
theorem xu(ok:gJ P w H h)(e:Rd H a (.dK kvs)):kvs.length<=sizeLine/\(a==sysModules)=false/\∃vs,KV kvs vs/\h.DictOf (vG P w) a vs :=
 show bx P w H h a (.dK kvs) from Ho ok e
theorem Qz(ok:gJ P w H h)(e:H a=some (.dK kvs)):kvs.length<=sizeLine/\(a==sysModules)=false/\∃vs,KV kvs vs/\h.DictOf (vG P w) a vs:=xu ok (.inl e)
theorem UJ{ks:List Key}(ok:gJ P w H h)(e:H a=some (.tup (ks.map kV))):(tupleKind (vG P w)).is h ks a:=by
 obtain⟨_,its,r,o,h1,h2,n,h3⟩:=(show bx P w H h a (.tup (ks.map kV)) from ok a _ e)
 exact⟨o,its.toArray,n,h1,h2,h3,by simpa using zIq r⟩
theorem yc(ok:gJ P w H h)(e:Rd H a (.dT kvs)):kvs.length<=sizeLine/\(a==sysModules)=false /\
  ∃xs,KT H kvs xs/\h.DictOfH (tupleKind (vG P w)) a xs:=by
 obtain⟨z,y,xs,r,o,es,ep,h1,h2,h3,h4,h5⟩:=(show bx P w H h a (.dT kvs) from Ho ok e)
 refine⟨z,y,xs,r,o,es,ep,h1,h2,h3,h4,λx hx=>?_,h5⟩
 have all:∀{l:List (List Key×V)}{m:List (List Key×Addr×Value)},KT H l m->∀x∈m,(tupleKind (vG P w)).is h x.1 x.2.1:=by
  intro l m q
  induction q with
  |nil=>intro x hx;exact nomatch hx
  |@cons p q ps qs hq t ih =>
   intro x hx
   rcases mem_cons.mp hx with e|hx
   ·subst e
    exact UJ ok (by rw[<-hq.1];exact hq.2.1)
   ·exact ih x hx
 exact all r x hx
theorem QB(ok:gJ P w H h)(e:H a=some (.dT kvs)):kvs.length<=sizeLine/\(a==sysModules)=false /\
  ∃xs,KT H kvs xs/\h.DictOfH (tupleKind (vG P w)) a xs:=yc ok (.inl e)
end
def pL(H:Hp)(a:Addr)(y:V)(r:Option V):Prop :=
 (∃kvs k,Rd H a (.dK kvs)/\y=kV k/\r=gP kvs k)\/∃kvs k b,Rd H a (.dT kvs)/\y=.ref b/\H b=some (.tup (k.map kV))/\r=gP kvs k
def tR(H:Hp)(a:Addr)(y v:V)(H':Hp):Prop :=
 (∃kvs k,H a=some (.dK kvs)/\y=kV k/\kvs.length<sizeLine/\H'=upd H a (.dK (putK kvs k v))) \/
 ∃kvs k b,H a=some (.dT kvs)/\y=.ref b/\H b=some (.tup (k.map kV))/\kvs.length<sizeLine/\H'=upd H a (.dT (putK kvs k v))
theorem pL.k{H:Hp}{a:Addr}{kvs:List (Key×V)}{k:Key}(e:H a=some (.dK kvs)):pL H a (kV k) (gP kvs k):=.inl ⟨kvs,k,.inl e,rfl,rfl⟩
theorem tR.k{H:Hp}{a:Addr}{kvs:List (Key×V)}{k:Key}{v:V}(e:H a=some (.dK kvs))(hl:kvs.length<sizeLine):tR H a (kV k) v (upd H a (.dK (putK kvs k v))):=.inl ⟨kvs,k,e,rfl,hl,rfl⟩
section
variable{X:Cx}{pins:List (Addr×Obj)}{σ:St}{H:Hp}{s:Shared}{a:Addr}{y v:V}{u r:Value}{o:Option V}{A:Around}{E:Value->Shared->Prop}
theorem Inv.big(I:Inv X pins σ H s):sysModules<s.heap.objs.size:=by
 have h:aa6<s.heap.objs.size:=(I.mod.glob.keeps I.bk).lt
 exact adz (by decide) h
theorem W8{Q:Value->Shared->Prop}(hu:A.units+1<cLine)(I:Inv X pins σ H s)(g:pL H a y o)(ry:RelV y u)(h:∀s',Inv X pins σ H s'->Q (.bool o.isSome) s') :
  wpAny (model X.prog X.w) A (compareOp .In u (.ref a)) Q E s:=by
 rcases g with⟨kvs,k,e,ey,l⟩|⟨kvs,k,b,e,ey,eb,l⟩
 ·subst ey
  obtain⟨z,hd,vs,rel,dd⟩:=xu I.hok e
  refine wpAny_in_of (UG ry) hd dd.mapOf ?_
  rw[<-(rel.val k).fL,<-l]
  exact h _ (I.tok _)
 ·subst ey
  cases(show u=abj b from ry)
  obtain⟨z,hd,xs,rel,dd⟩:=yc I.hok e
  refine wpAny_in_heap (aed hu) (UJ I.hok eb) hd dd ?_
  have q:=(rel.val k).fL
  rw[aeh] at q
  rw[<-q,<-l]
  exact h _ (I.tok _)
theorem Dd{Q:Value->Shared->Prop}(hu:A.units+1<cLine)(I:Inv X pins σ H s)(g:pL H a y o)(ry:RelV y u)(h:∀s',Inv X pins σ H s'->Q (.bool (!o.isSome)) s') :
  wpAny (model X.prog X.w) A (compareOp .NotIn u (.ref a)) Q E s:=by
 rcases g with⟨kvs,k,e,ey,l⟩|⟨kvs,k,b,e,ey,eb,l⟩
 ·subst ey
  obtain⟨z,hd,vs,rel,dd⟩:=xu I.hok e
  refine wpAny_notIn_of (UG ry) hd dd.mapOf ?_
  rw[<-(rel.val k).fL,<-l]
  exact h _ (I.tok _)
 ·subst ey
  cases(show u=abj b from ry)
  obtain⟨z,hd,xs,rel,dd⟩:=yc I.hok e
  refine wpAny_notIn_heap (aed hu) (UJ I.hok eb) hd dd ?_
  have q:=(rel.val k).fL
  rw[aeh] at q
  rw[<-q,<-l]
  exact h _ (I.tok _)
theorem zQ6(I:Inv X pins σ H s)(mu:Qa (H a))(hs:SameBut a s.heap h')(he:∃q,h'.get? a=some q)(new:bx X.prog X.w (upd H a ob) h' a ob) :
  Inv X pins σ (upd H a ob) { s with heap:=h',toks:=t' } :=
 I.write (x:=a) (e:=a) mu (.inl rfl) (λb q hb z=>(hs.2 b hb).trans z) he new
theorem J3{h':Heap}{kvs:List (Key×V)}(z:kvs.length<=sizeLine)(hd:(a==sysModules)=false)(rel:KV kvs vs)(dd:h'.DictOf (vG P w) a vs) :
  bx P w H' h' a (.dK kvs):=⟨z,hd,vs,rel,dd⟩
theorem zQ7{Q:Unit->Shared->Prop}(hu:A.units+1<cLine)(I:Inv X pins σ H s)(g:tR H a y v H')(ry:RelV y u)(rv:RelV v r)(h:∀s',Inv X pins σ H' s'->Q () s') :
  wpAny (model X.prog X.w) A (setItem (.ref a) u r) Q E s:=by
 rcases g with⟨kvs,k,e,ey,l,eH⟩|⟨kvs,k,b,e,ey,eb,l,eH⟩
 ·subst ey eH
  obtain⟨z,hd,vs,rel,dd⟩:=Qz I.hok e
  have hz:vs.length<=sizeLine:=by rw[<-rel.length];exact z
  have hl:(putK kvs k v).length<=sizeLine:=by have:=zE8 kvs k v;omega
  refine wpAny_setItem_pairs (hsz:=hz) (UG ry) dd λh' UL hs=>h _ ?_
  have he:∃q,h'.get? a=some q:=let⟨q,_,_,hq,_⟩:=UL;⟨q,hq⟩
  exact zQ6 I (by rw[e];exact acv) hs he (J3 hl hd (rel.put k rv) UL)
 ·subst ey eH
  cases(show u=abj b from ry)
  obtain⟨z,hd,xs,rel,dd⟩:=QB I.hok e
  have hz:xs.length<=sizeLine:=by rw[<-ael rel];exact z
  have hl:(putK kvs k v).length<=sizeLine:=by have:=zE8 kvs k v;omega
  refine wpAny_setItem_heap (hsz:=hz) (aed hu) (UJ I.hok eb) dd λh' UL hs=>h _ ?_
  obtain⟨q,es,ep,hq,h2,h3,h4,_,h5⟩:=UL
  refine zQ6 I (by rw[e];exact acv) hs ⟨q,hq⟩ ⟨hl,hd,_,(rel.put k eb rv).keeps λc ys ec=>?_,q,es,ep,hq,h2,h3,h4,h5⟩
  rw[zP (GR ec e (λz=>nomatch z))]
  exact ec
end
section
variable{X:Cx}{pins:List (Addr×Obj)}{σ:St}{H:Hp}{s:Shared}{a:Addr}{kvs:List (Key×V)}{k:Key}{u:Value}{A:Around}{E:Value->Shared->Prop}
end
def J4(ty td:TE):TE:=λσ H Q=>ty σ H λy H1=>td σ H1 λx H2=>∃a o,x=.ref a/\pL H2 a y o/\Q (.bl o.isSome) H2
def zOn(ty td:TE):TE:=λσ H Q=>ty σ H λy H1=>td σ H1 λx H2=>∃a o,x=.ref a/\pL H2 a y o/\Q (.bl (!o.isSome)) H2
def yg(td ty tv:TE):TS:=λD σ H=>tv σ H λv H1=>td σ H1 λx H2=>ty σ H2 λy H3=>∃a H4,x=.ref a/\tR H3 a y v H4/\D.nx σ H4
section
variable{X:Cx}{o i e value:Expr}{pos pos' tpos:Pos}{td ty tv:TE}
theorem zUx(hu:X.A.units+1<cLine)(hi:PE X i ty)(ho:PE X o td):PC X .In i o (J4 ty td):=by
 intro pins s σ H Q I h
 refine aP (hi pins s σ H _ I h) λiv s1 ⟨y,H1,I1,ry,q1⟩=>aP (ho pins s1 σ H1 _ I1 q1) λu s2 ⟨x,H2,I2,rx,a,ov,ex,g,q2⟩=>?_
 subst ex
 obtain rfl:u=abj a:=rx
 exact W8 hu I2 g ry λs3 I3=>⟨.bl ov.isSome,H2,I3,rfl,q2⟩
theorem zPi(hu:X.A.units+1<cLine)(hi:PE X i ty)(ho:PE X o td):PC X .NotIn i o (zOn ty td):=by
 intro pins s σ H Q I h
 refine aP (hi pins s σ H _ I h) λiv s1 ⟨y,H1,I1,ry,q1⟩=>aP (ho pins s1 σ H1 _ I1 q1) λu s2 ⟨x,H2,I2,rx,a,ov,ex,g,q2⟩=>?_
 subst ex
 obtain rfl:u=abj a:=rx
 exact Dd hu I2 g ry λs3 I3=>⟨.bl (!ov.isSome),H2,I3,rfl,q2⟩
theorem W9(hu:X.A.units+1<cLine)(ho:PE X o td)(hi:PE X i ty)(hv:PE X value tv)(hs:swapsWith value (some (.Subscript o i pos')) pos.line X.env=pure false) :
  PS X (.Assign [.Subscript o i pos'] value pos) (yg td ty tv):=by
 intro pins s σ H D I h
 refine wpAny_Assign_Subscript (aP (hv pins s σ H _ I h) λr s1 ⟨v,H1,I1,rv,q1⟩=>aP (ho pins s1 σ H1 _ I1 q1) λu s2 ⟨x,H2,I2,rx,q2⟩=>aP (hi pins s2 σ H2 _ I2 q2) λiv s3 ⟨y,H3,I3,ry,a,H4,ex,g,q3⟩=>?_) hs
 subst ex
 obtain rfl:u=abj a:=rx
 exact zQ7 hu I3 g ry rv λs4 I4=>⟨σ,H4,I4,q3⟩
end
theorem zTz(h:Heap)(hb:sysModules<h.objs.size):bx P w H (h.push { cls:=.type "dict",data:=.dict #[] }) h.objs.size (.dK []) :=
 ⟨aa5 _,beq_eq_false_iff_ne.mpr (acg (aau hb)),[],.nil,Heap.DictOf.new h⟩
def zUk:TE:=λ_ H Q=>∀p,H p=none->Q (.ref p) (upd H p (.dK []))
section
variable{X:Cx}{pos:Pos}
theorem W_:PE X (.Dict [] [] pos) zUk:=λpins s σ H Q I h =>
 wpAny_Dict_empty ⟨.ref s.heap.objs.size,_,I.laid (a:=s.heap.objs.size) (o:=.dK []) (t':=s.toks) (λ_ _ q=>get?_push_of_some _ q) (aaq _) (zTz s.heap I.big),rfl,h _ (I.hok.fresh (aaq _))⟩
end
structure M1(X:Cx)(o:Expr)(m:Str)(apos:Pos)(e:Expr)(cpos:Pos):Prop where
 base:attributeBase o m X.env (eval o X.env)=eval o X.env
 few:((backTo cpos (starEach [e] X.env)).all (λx=>!x.1)&&(backToKw cpos (keywordEach [] X.env)).all (λx=>x.1.isSome)
  && decide (([e]:List Expr).length+([]:List Keyword).length+(if([]:List Keyword).isEmpty then 0 else 1)<30))=true
 line:(apos.endLine==cpos.line)=true
 trees:backTo cpos (starEach [e] X.env)=[(false,eval e X.env)]
structure M2(X:Cx)(o:Expr)(m:Str)(apos:Pos)(e f:Expr)(cpos:Pos):Prop where
 base:attributeBase o m X.env (eval o X.env)=eval o X.env
 few:((backTo cpos (starEach [e,f] X.env)).all (λx=>!x.1)&&(backToKw cpos (keywordEach [] X.env)).all (λx=>x.1.isSome)
  && decide (([e,f]:List Expr).length+([]:List Keyword).length+(if([]:List Keyword).isEmpty then 0 else 1)<30))=true
 line:(apos.endLine==cpos.line)=true
 trees:backTo cpos (starEach [e,f] X.env)=[(false,eval e X.env),(false,eval f X.env)]
section
variable{X:Cx}{pins:List (Addr×Obj)}{σ:St}{H:Hp}{s:Shared}{a:Addr}{y d:V}{u r:Value}{o:Option V}{A:Around}{E:Value->Shared->Prop}
end
section
variable{X:Cx}{o e f:Expr}{apos cpos:Pos}{td ty tx:TE}
end
section
variable{X:Cx}{pins:List (Addr×Obj)}{σ:St}{H:Hp}{s:Shared}{a:Addr}{kvs:List (Key×V)}{A:Around}{E:Value->Shared->Prop}
end
section
variable{X:Cx}{pins:List (Addr×Obj)}{σ:St}{H:Hp}{s:Shared}{a:Addr}{y:V}{u:Value}{A:Around}{E:Value->Shared->Prop}
end
end L2
namespace HT
open PySem PyProof.Rows
section
open PySem.SeqAt
open PySem.AutoSeq1 (wpAny_loadPart')
open PySem.MeetsSeq PySem.MeetsSeq2 PySem.MeetsSeq3
end
section
variable{prog:Program}{w:World}{A:Around}{E:Value->Shared->Prop}{s:Shared}
def cT(n d:Nat):Option Int->Nat
 |none=>d
 |some v=>if v<0 then(v+(n:Int)).toNat else min v.toNat n
theorem Df(n d k:Nat):cT n d (some (k:Int))=min k n:=by
 show(if(k:Int)<0 then((k:Int)+(n:Int)).toNat else min (k:Int).toNat n)=min k n
 rw[if_neg (by omega),abo]
theorem J5(n d:Nat)(hd:d<=n)(o:Option Int):cT n d o<=n:=by
 cases o with
 |none=>exact hd
 |some v =>
  show(if v<0 then(v+(n:Int)).toNat else min v.toNat n)<=n
  by_cases hv:v<0
  ·rw[if_pos hv];omega
  ·rw[if_neg hv];exact Nat.min_le_right _ _
theorem zRb(v:Int)(n d:Nat):(if v<0 then max (v+(n:Int)) 0 else min v (n:Int))=((cT n d (some v):Nat):Int):=by
 show(if v<0 then max (v+(n:Int)) 0 else min v (n:Int))=(((if v<0 then(v+(n:Int)).toNat else min v.toNat n):Nat):Int)
 by_cases hv:v<0
 ·simp only[if_pos hv];omega
 ·simp only[if_neg hv];omega
theorem zN3(lo hi:Option Int)(n:Nat):adh lo hi 1 (n:Int)=(((cT n 0 lo:Nat):Int),((cT n n hi:Nat):Int)):=by
 have h1:¬((1:Int)<0):=by omega
 unfold adh
 simp only[h1,if_false]
 refine Prod.ext ?_ ?_
 ·cases lo with
  |none=>rfl
  |some v=>exact zRb v n 0
 ·cases hi with
  |none=>rfl
  |some v=>exact zRb v n n
theorem zM2(i j:Nat):ach (i:Int) (j:Int) 1=j-i:=by
 unfold ach
 have h1:(1:Int) > 0:=by omega
 simp only[h1,if_true,Int.ediv_one]
 split<;>omega
theorem zF8{Q:Option Int->Shared->Prop}(p:IsPart v o)(h:Q o s):wpAny (model prog w) A (Builtin.Slice.slicePartIndex v) Q E s:=by
 cases p with
 |none=>exact slicePart_none h
 |int i t=>exact slicePart_int h
theorem zD8{sl:Addr}{vl vu:Value}{lo hi:Option Int}{n:Nat}{Q:Int×Int×Nat->Shared->Prop}(hs:s.heap.IsSliceOf sl vl vu .none)(pl:IsPart vl lo)(pu:IsPart vu hi)(h:Q (((cT n 0 lo:Nat):Int),1,cT n n hi-cT n 0 lo) s):wpAny (model prog w) A (Builtin.Slice.sliceApplied (.ref sl) (pure (n:Int))) Q E s:=by
 obtain⟨os,hos,hcs,hds⟩:=id hs
 unfold Builtin.Slice.sliceApplied Builtin.Slice.sliceFields
 refine aam (aam (wpAny_field hos hds (x:=vl) rfl (aam (wpAny_field hos hds (x:=vu) rfl (aam (wpAny_field hos hds (x:=.none) rfl (aan ?_)))))))
 refine aam (slicePart_none ?_)
 show wpAny _ _ (if((1:Int)==0)=true then _ else _) _ _ s
 rw[if_neg (by decide)]
 refine aam (zF8 pl (aam (zF8 pu (aam (aan ?_)))))
 show wpAny _ _ (match adh lo hi 1 (n:Int) with|(lo,hi)=>pure (lo,(1:Int),ach lo hi 1)) _ _ s
 rw[zN3 lo hi n]
 show wpAny _ _ (pure (((cT n 0 lo:Nat):Int),(1:Int),ach ((cT n 0 lo:Nat):Int) ((cT n n hi:Nat):Int) 1)) _ _ s
 rw[zM2]
 exact aan h
theorem zSt(xs:Array Value)(i k:Nat):((aa1 k).filterMap λ(m:Nat)=>xs[((i:Int)+(m:Int)*1).toNat]?).toArray=((xs.toList.drop i).take k).toArray:=by
 have e:(λ(m:Nat)=>xs[((i:Int)+(m:Int)*1).toNat]?)=λm=>xs[i+m]?:=by
  funext m
  have:((i:Int)+(m:Int)*1).toNat=i+m:=by omega
  rw[this]
 rw[e]
 have:=pick_run xs i k
 rw[filterMap_map] at this
 have e2:((λx=>xs[x]?)∘λx=>i+x)=λm=>xs[i+m]?:=rfl
 rw[e2] at this
 rw[this]
theorem jL{t sl:Addr}{items:Array Value}{vl vu:Value}{lo hi:Option Int}{Q:Value->Shared->Prop}(ht:IsTup s.heap t items)(hs:s.heap.IsSliceOf sl vl vu .none)(pl:IsPart vl lo)(pu:IsPart vu hi)(hw:¬(cT items.size 0 lo=0/\cT items.size items.size hi=items.size))(h:Q (.ref s.heap.objs.size) { s with heap:=s.heap.push { cls:=.type "tuple",data:=.seq ((items.toList.drop (cT items.size 0 lo)).take (cT items.size items.size hi-cT items.size 0 lo)).toArray } })(hsz:items.size<=sizeLine):wpAny (model prog w) A (getItem (.ref t) (.ref sl)) Q E s:=by
 have sH:sizeOk (.seq ((items.toList.drop (cT items.size 0 lo)).take (cT items.size items.size hi-cT items.size 0 lo)).toArray):=by
  show((items.toList.drop (cT items.size 0 lo)).take (cT items.size items.size hi-cT items.size 0 lo)).toArray.size<=sizeLine
  rw[size_toArray,length_take,length_drop,length_toList]
  omega
 have hj:cT items.size items.size hi<=items.size:=J5 _ _ (aaq _) hi
 obtain⟨os,hos,hcs,hds⟩:=id hs
 have hTs:s.TypeIs (.ref sl) "slice":=⟨os,hos,hcs⟩
 unfold getItem
 try with_reducible refine abf ?_
 first|refine aam (aan ?_)|skip
 refine aam (wpAny_sequenceKey ht.typeIs (by decide) ?_)
 refine aam (wpAny_callSpecial?_slot (name:=ade "__getitem__") ht.typeIs PyProof.Rows.slot_tuple_getitem
  (ab9 PyProof.Rows.slot_tuple_getitem ht.typeIs entry_tuple_getitem ?_ (args_tuple_getitem _ _)))
 show wpAny _ _ (Builtin.Tuple.tupleItemsOf (.ref t) >>= _) _ _ s
 refine aam (tupleItemsOf_ ht ?_)
 refine aam (afe hTs ?_)
 rw[if_pos (by decide)]
 refine aam (zD8 hs pl pu ?_)
 have hno:¬((((cT items.size 0 lo:Nat):Int)==0&&(1:Int)==1&&(cT items.size items.size hi-cT items.size 0 lo)==items.size)=true):=by
  intro q
  rw[aar,aar] at q
  have q1:((cT items.size 0 lo:Nat):Int)=0:=abu q.1.1
  have q2:cT items.size items.size hi-cT items.size 0 lo=items.size:=abu q.2
  exact hw ⟨by omega,by omega⟩
 show wpAny _ _ (if(((cT items.size 0 lo:Nat):Int)==0&&(1:Int)==1&&(cT items.size items.size hi-cT items.size 0 lo)==items.size)=true then _ else _) _ _ s
 rw[if_neg hno,zSt]
 first
  |exact aam (m:=acu _) (abr (aan ⟨_,rfl,aan h⟩) sH)
  |exact aam (m:=acu _) (abr (aam (aan (aan ⟨_,rfl,aan h⟩))) sH)
  |exact aam (aam (m:=acu _) (abr (aan (aan ⟨_,rfl,aan h⟩)) sH))
  |exact aam (aam (m:=acu _) (abr (aan ⟨_,rfl,aan h⟩) sH))
end
end HT
namespace L2
open PySem PySem.Spec PyProof.Rows
abbrev TO:=St->Hp->(Option Int->Hp->Prop)->Prop
def PO(X:Cx)(e:Option Expr)(t:TO):Prop :=
 ∀(pins:List (Addr×Obj))(s:Shared)(σ:St)(H:Hp)(Q:Option Int->Hp->Prop),Inv X pins σ H s->t σ H Q ->
  wpAny (model X.prog X.w) X.A (evalPart e X.env) (λu s'=>∃o H',Inv X pins σ H' s'/\IsPart u o/\Q o H') X.xe s
def Xa:TO:=λ_ H Q=>Q none H
def QC(t:TE):TO:=λσ H Q=>t σ H λx H1=>∃i,x=.int i/\Q (some i) H1
section
variable{X:Cx}{e:Expr}{te:TE}{lo hi:Option Expr}{tl th:TO}{pos p2:Pos}
theorem Xb:PO X none Xa:=by
 intro pins s σ H Q I h
 rw[evalPart_none]
 exact aan ⟨none,H,I,.none,h⟩
theorem QD(h:PE X e te):PO X (some e) (QC te):=by
 intro pins s σ H Q I hw
 rw[evalPart_some]
 refine aP (h pins s σ H _ I hw) λu s1 ⟨x,H1,I1,r1,q1⟩=>?_
 obtain⟨i,rfl,q⟩:=q1
 obtain⟨t,rfl⟩:=r1
 exact⟨some i,H1,I1,.int i t,q⟩
def UW(X:Cx)(r:V->Option Int->Option Int->Hp->VK->Prop):Prop :=
 ∀(pins:List (Addr×Obj))(s:Shared)(σ:St)(H:Hp)(x:V)(v vl vu:Value)(lo hi:Option Int)(sl:Addr)(Q:VK),Inv X pins σ H s->RelV x v->s.heap.IsSliceOf sl vl vu .none->IsPart vl lo->IsPart vu hi->r x lo hi H Q ->
  ∃T id,typeLookup (.type T) "__getitem__" = pure (some (.builtin id))/\s.TypeIs v T/\wpAny (model X.prog X.w) X.A (getItem v (.ref sl)) (EP X pins σ Q) X.xe s
def U0(r:V->Option Int->Option Int->Hp->VK->Prop)(te:TE)(tl th:TO):TE:=λσ H Q=>te σ H λx H1=>tl σ H1 λl H2=>th σ H2 λu H3=>r x l u H3 Q
theorem U3(hr:UW X r)(he:PE X e te)(hl:PO X lo tl)(hu:PO X hi th):PE X (.Subscript e (.Slice lo hi none p2) pos) (U0 r te tl th):=by
 intro pins s σ H Q I h
 refine Subscript_ (aP (he pins s σ H _ I h) λv s1 ⟨x,H1,I1,r1,q1⟩=>?_)
 refine wpAny_Slice (aP (hl pins s1 σ H1 _ I1 q1) λvl s2 ⟨l,H2,I2,pl,q2⟩=>aP (hu pins s2 σ H2 _ I2 q2) λvu s3 ⟨u,H3,I3,pu,q3⟩=>?_)
 rw[evalPart_none]
 refine aan ?_
 have I4:Inv X pins σ H3 { s3 with heap:=s3.heap.push { cls:=.type "slice",data:=.fields #[vl,vu,.none] } }:=I3.kept (t':=s3.toks) λb ob q=>get?_push_of_some _ q
 obtain⟨T,id,hT,ht,hg⟩:=hr pins { s3 with heap:=s3.heap.push { cls:=.type "slice",data:=.fields #[vl,vu,.none] } } σ H3 x v vl vu l u s3.heap.objs.size Q I4 r1 (Heap.IsSliceOf.new ..) pl pu q3
 show wpAny (model X.prog X.w) X.A (subscriptTail e (.Slice lo hi none p2) v (.ref s3.heap.objs.size)) (EP X pins σ Q) X.xe { s3 with heap:=s3.heap.push { cls:=.type "slice",data:=.fields #[vl,vu,.none] } }
 exact tail_any (ops:=[.ref s3.heap.objs.size,v]) ht hT hg (by with_unfolding_all rfl)
def qp(xs:List V)(lo hi:Option Int):List V:=(xs.drop (HT.cT xs.length 0 lo)).take (HT.cT xs.length xs.length hi-HT.cT xs.length 0 lo)
theorem zFk(xs:List V)(lo hi:Option Int):(qp xs lo hi).length<=xs.length:=by
 unfold qp
 rw[length_take,length_drop]
 omega
def Xc(K:PySem.W.Frag):V->Option Int->Option Int->Hp->VK->Prop:=λx lo hi H Q=>∃a xs,x=.ref a/\cI K H a xs /\
 ¬(HT.cT xs.length 0 lo=0/\HT.cT xs.length xs.length hi=xs.length)/\∀p,H p=none->Q (.ref p) (upd H p (.tup (qp xs lo hi)))
theorem J6:UW X (Xc X.K):=by
 intro pins s σ H x v vl vu lo hi sl Q I rx hs pl pu h
 obtain⟨a,xs,rfl,hx,hw,q⟩:=h
 cases rx
 obtain⟨its,r,ht,hz⟩:=I.tuple hx
 have hlen:its.toArray.size=xs.length:=by rw[size_toArray];exact r.length.symm
 refine⟨"tuple",_,PyProof.Rows.slot_tuple_getitem.lookup,ht.typeIs,?_⟩
 refine HT.jL ht hs pl pu (by rw[hlen];exact hw) ?_ (by rw[hlen];exact hz)
 rw[hlen]
 refine⟨.ref s.heap.objs.size,_,I.laid (t':=s.toks) (o:=.tup (qp xs lo hi)) (λb ob q=>get?_push_of_some _ q) (aaq _) ?_,rfl,q _ (I.hok.fresh (aaq _))⟩
 exact⟨aa0 (zFk xs lo hi) hz,_,(r.drop (HT.cT xs.length 0 lo)).take (HT.cT xs.length xs.length hi-HT.cT xs.length 0 lo),IsTup.new _ _⟩
end
def sI(n:Nat)(i:Int):Option Nat:=if 0<=i then(if i<n then some i.toNat else none) else if -(n:Int)<=i then some (i+n).toNat else none
def cu{α:Type}(xs:List α)(i:Int):Option α:=(sI xs.length i).bind λj=>xs[j]?
theorem zQd(h:sI n i=some j):seqIndex? i n=some j/\j<n /\ -(n:Int)<=i/\i<n:=by
 unfold sI at h
 by_cases h0:0<=i
 ·rw[if_pos h0] at h
  by_cases h1:i<n
  ·rw[if_pos h1] at h
   have e:i.toNat=j:=aas h
   exact⟨by rw[aex h0 h1,e],by omega,by omega,h1⟩
  ·rw[if_neg h1] at h;cases h
 ·rw[if_neg h0] at h
  by_cases h1:-(n:Int)<=i
  ·rw[if_pos h1] at h
   have e:(i+n).toNat=j:=aas h
   exact⟨by rw[afd (by omega) h1,e],by omega,h1,by omega⟩
  ·rw[if_neg h1] at h;cases h
theorem Xd{α:Type}{xs:List α}{v:α}(h:cu xs i=some v):∃j,seqIndex? i xs.length=some j/\xs[j]?=some v/\j<xs.length /\ -(xs.length:Int)<=i/\i<xs.length:=by
 unfold cu at h
 cases e:sI xs.length i with
 |none=>rw[e] at h;cases h
 |some j =>
  rw[e] at h
  obtain⟨h1,h2,h3,h4⟩:=zQd e
  exact⟨j,h1,h,h2,h3,h4⟩
theorem zRh{α:Type}{xs:List α}{j:Nat}{v:α}(h:xs[j]?=some v):cu xs (j:Int)=some v:=by
 have hj:j<xs.length:=(aay.mp h).1
 have e:sI xs.length (j:Int)=some j:=by
  unfold sI
  rw[if_pos (by omega),if_pos (by omega)];simp
 unfold cu;rw[e];exact h
def Dg(b:Expr):Prop:=∀o i,subscripted b false o i=operate [o,i] (getItem o i)
def U4(X:Cx)(r:R2):Prop :=
 ∀(value slice:Expr)(pins:List (Addr×Obj))(s:Shared)(σ:St)(H:Hp)(x y:V)(v u:Value)(Q:VK),Inv X pins σ H s->RelV x v->RelV y u->r x y H Q ->
  subscripted slice false v u=operate [v,u] (getItem v u)->wpAny (model X.prog X.w) X.A (subscriptTail value slice v u) (EP X pins σ Q) X.xe s
def MtR(X:Cx)(id:String)(r:V->List V->Hp->VK->Prop):Prop :=
 ∀(pins:List (Addr×Obj))(s:Shared)(σ:St)(H:Hp)(x:V)(xs:List V)(v:Value)(us:List Value)(Q:VK),Inv X pins σ H s->RelV x v->Vals xs us->r x xs H Q ->
  wpAny (model X.prog X.w) X.A (call (.builtin id) (v::us)) (EP X pins σ Q) X.xe s
section
variable{X:Cx}{a b:Expr}{ta tb:TE}{pos:Pos}
theorem yQ(hr:U4 X r)(ha:PE X a ta)(hb:PE X b tb)(hs:Dg b):PE X (.Subscript a b pos) (jE r ta tb):=by
 intro pins s σ H Q I h
 exact Subscript_ (JL ha hb I h λv u s2 x y H2 I2 rx ry q=>hr a b pins s2 σ H2 x y v u Q I2 rx ry q (hs _ _))
def qZ(K:PySem.W.Frag):R2:=λx y H Q=>∃p xs i v,x=.ref p/\y=.int i/\aV K H p xs/\cu xs i=some v/\Q v H
def Xe(K:PySem.W.Frag):R2:=λx y H Q=>∃p xs i v,x=.ref p/\y=.int i/\cI K H p xs/\cu xs i=some v/\Q v H
theorem wK:U4 X (qZ X.K):=by
 intro value slice pins s σ H x y v u Q I rx ry h hs
 obtain⟨p,xs,i,z,rfl,rfl,hq,he,q⟩:=h
 cases rx
 obtain⟨t,rfl⟩:=ry
 obtain⟨its,r,pl,hz⟩:=I.list hq
 obtain⟨j,h1,h2,h3,h4,h5⟩:=Xd he
 obtain⟨w,ew,QF⟩:=r.get h2
 have hl:=r.length
 have hn:=JW
 have fin:EP X pins σ Q w s:=⟨z,H,I,QF,q⟩
 by_cases h0:0<=i
 ·have hj:i.toNat=j:=by
   rw[aex h0 h5] at h1
   exact aas h1
  exact item_listR pl.isList h0 (by omega) (by rw[hj];simpa using ew) fin hs
 ·have hj:(i+(its.toArray.size:Int)).toNat=j:=by
   rw[afd (by omega) h4] at h1
   rw[size_toArray,<-hl]
   exact aas h1
  exact subscriptTail_builtinR (x:=w) pl.isList.typeIs slot_list_getitem.lookup
   (wpAny_getItem_list_neg (Q:=λr s'=>r=w/\EP X pins σ Q r s') pl.isList (by omega) (by rw[size_toArray]<;>omega) (by omega) (by rw[hj];simpa using ew) ⟨rfl,fin⟩) hs
theorem Dh:U4 X (Xe X.K):=by
 intro value slice pins s σ H x y v u Q I rx ry h hs
 obtain⟨p,xs,i,z,rfl,rfl,hq,he,q⟩:=h
 cases rx
 obtain⟨t,rfl⟩:=ry
 obtain⟨its,r,pl,hz⟩:=I.tuple hq
 obtain⟨j,h1,h2,h3,h4,h5⟩:=Xd he
 obtain⟨w,ew,QF⟩:=r.get h2
 have hl:=r.length
 have hn:=JW
 have fin:EP X pins σ Q w s:=⟨z,H,I,QF,q⟩
 exact subscriptTail_builtinR (x:=w) pl.typeIs slot_tuple_getitem.lookup
  (getItem_tuple (j:=j) (Q:=λr s'=>r=w/\EP X pins σ Q r s') pl (by omega) (by omega) (by rw[size_toArray,<-hl];exact h1) (by simpa using ew) ⟨rfl,fin⟩) hs
theorem zNc(its:List Value)(n j:Nat)(u:Value):ac1 (·.setIfInBounds j u) { cls:=.type "list",data:=.seq its.toArray n }={ cls:=.type "list",data:=.seq (its.set j u).toArray n }:=by
 simp[ac1]
theorem Inv.lst(I:Inv X pins σ H s)(h:H p=some (.lst xs)) :
  ∃(its:List Value)(n:Nat),Vals xs its/\s.heap.get? p=some { cls:=.type "list",data:=.seq its.toArray n }/\xs.length<=sizeLine:=by
 obtain⟨z,its,n,r,e⟩:=I.hok p _ h
 exact⟨its,n,r,e,z⟩
theorem Inv.J7{its its':List Value}(I:Inv X pins σ H s)(h:H p=some (.lst xs))(ho:s.heap.get? p=some { cls:=.type "list",data:=.seq its.toArray n })(hf:f { cls:=.type "list",data:=.seq its.toArray n }={ cls:=.type "list",data:=.seq its'.toArray n' })(r:Vals ys its')(hz:ys.length<=sizeLine)(t:Nat) :
  Inv X pins σ (upd H p (.lst ys)) { s with heap:=s.heap.update p f,toks:=t }:=by
 have e:(s.heap.update p f).get? p=some { cls:=.type "list",data:=.seq its'.toArray n' }:=by
  rw[get?_update_self f ho (by rw[hf]<;>rfl),hf]
 refine I.write (x:=p) (e:=p) (by rw[h];trivial) (.inl rfl) (λb u hb q=>(get?_update_other _ _ (acg hb)).trans q) ⟨_,e⟩ ?_
 exact⟨hz,its',n',r,e⟩
def yh:V->V->V->Hp->(Hp->Prop)->Prop:=λo i v H Q=>∃p xs k j,o=.ref p/\i=.int k/\H p=some (.lst xs)/\sI xs.length k=some j/\Q (upd H p (.lst (xs.set j v)))
theorem Oj:JB X yh:=by
 intro pins s σ H o i v ov iv u Q I ro ri rv h
 obtain⟨p,xs,k,j,rfl,rfl,hp,hj,q⟩:=h
 cases ro
 obtain⟨t,rfl⟩:=ri
 obtain⟨its,n,r,ho,hz⟩:=I.lst hp
 obtain⟨h1,h2,h3,h4⟩:=zQd hj
 have hl:=r.length
 have hn:=JW
 have I':Inv X pins σ (upd H p (.lst (xs.set j v))) { s with heap:=s.heap.update p (ac1 (·.setIfInBounds j u)) } :=
  I.J7 hp ho (zNc its n j u) (r.set rv j) (by rw[length_set];exact hz) s.toks
 by_cases h0:0<=k
 ·have hk:k.toNat=j:=by
   rw[aex h0 h4] at h1
   exact aas h1
  exact PySem.W.ki_setAt ho h0 (by omega) (by rw[size_toArray,<-hl];exact h4) (by rw[hk];exact⟨_,I',q⟩)
 ·have hk:(k+(its.toArray.size:Int)).toNat=j:=by
   rw[afd (by omega) h3] at h1
   rw[size_toArray,<-hl]
   exact aas h1
  exact PySem.W.ki_setBack ho (by omega) (by rw[size_toArray,<-hl];exact h3) (by omega) (by rw[hk];exact⟨_,I',q⟩)
theorem zH3(lo hi:Option Int)(n:Nat):(sliceBounds lo hi none n).1=((HT.cT n 0 lo:Nat):Int)/\(sliceBounds lo hi none n).2.1=((HT.cT n n hi:Nat):Int)/\(sliceBounds lo hi none n).2.2=1:=by
 refine⟨?_,?_,rfl⟩
 ·cases lo with
  |none=>simp[sliceBounds,HT.cT]
  |some i =>
   simp only[sliceBounds,HT.cT,Option.getD_none,show(1:Int) > 0 by decide,if_true]
   by_cases h:i<0
   ·simp only[h,if_true]<;>omega
   ·simp only[h,if_false]<;>omega
 ·cases hi with
  |none=>simp[sliceBounds,HT.cT]
  |some i =>
   simp only[sliceBounds,HT.cT,Option.getD_none,show(1:Int) > 0 by decide,if_true]
   by_cases h:i<0
   ·simp only[h,if_true]<;>omega
   ·simp only[h,if_false]<;>omega
theorem zGs(its:List Value)(lo hi:Option Int):slicePick its.toArray lo hi none=((its.drop (HT.cT its.length 0 lo)).take (HT.cT its.length its.length hi-HT.cT its.length 0 lo)).toArray:=by
 obtain⟨h1,h2,h3⟩:=zH3 lo hi its.toArray.size
 unfold slicePick
 rw[h1,h2,h3]
 simp only[sliceRange_one,pick_run,size_toArray]<;>rfl
def yj(K:PySem.W.Frag):V->Option Int->Option Int->Hp->VK->Prop:=λx lo hi H Q=>∃a xs,x=.ref a/\aV K H a xs/\∀p,H p=none->Q (.ref p) (upd H p (.lst (qp xs lo hi)))
theorem Di:UW X (yj X.K):=by
 intro pins s σ H x v vl vu lo hi sl Q I rx hs pl pu h
 obtain⟨a,xs,rfl,hx,q⟩:=h
 cases rx
 obtain⟨its,r,ht,hz⟩:=I.list hx
 have hlen:=r.length
 refine⟨"list",_,slot_list_getitem.lookup,ht.isList.typeIs,?_⟩
 refine wpAny_getItem_list_slice ht.isList hs pl pu .none (by simp) ?_ (by rw[size_toArray]<;>omega)
 rw[zGs,<-hlen]
 refine⟨.ref s.heap.objs.size,_,I.laid (t':=s.toks) (o:=.lst (qp xs lo hi)) (λb ob q=>get?_push_of_some _ q) (aaq _) ?_,rfl,q _ (I.hok.fresh (aaq _))⟩
 exact⟨aa0 (zFk xs lo hi) hz,_,0,(r.drop (HT.cT xs.length 0 lo)).take (HT.cT xs.length xs.length hi-HT.cT xs.length 0 lo),get?_push_size _ rfl⟩
def Bx:V->Bool
 |.non=>true
 |.bl _=>true
 |.int _=>true
 |.str _=>true
 |_=>false
def BJ:V->V->Bool
 |.non,.non=>true
 |.bl a,.bl b=>a==b
 |.bl a,.int b=>(if a then 1 else 0)==b
 |.int a,.bl b=>a==(if b then 1 else 0)
 |.int a,.int b=>a==b
 |.str a,.str b=>a==b
 |_,_=>false
theorem zU9(ry:RelV y u)(rx:RelV x v)(fy:Bx y=true)(fx:Bx x=true):ad4 A s u v (BJ y x):=by
 cases y with
 |non =>
  cases ry
  cases x with
  |non=>cases rx;exact SeqAt.EqAt.same _
  |bl b=>cases rx;exact SeqAt.EqAt.none_bool b
  |int b=>obtain⟨t,rfl⟩:=rx;exact SeqAt.EqAt.none_int b t
  |str b=>obtain⟨t,rfl⟩:=rx;exact SeqAt.EqAt.none_str b t
  |_=>exact absurd (show false=true from fx) aao
 |bl a =>
  cases ry
  cases x with
  |non=>cases rx;exact SeqAt.EqAt.bool_none a
  |bl b=>cases rx;exact SeqAt.EqAt.bool_bool a b
  |int b=>obtain⟨t,rfl⟩:=rx;exact SeqAt.EqAt.bool_int a b t
  |str b=>obtain⟨t,rfl⟩:=rx;exact SeqAt.EqAt.bool_str a b t
  |_=>exact absurd (show false=true from fx) aao
 |int a =>
  obtain⟨t',rfl⟩:=ry
  cases x with
  |non=>cases rx;exact SeqAt.EqAt.int_none a t'
  |bl b=>cases rx;exact SeqAt.EqAt.int_bool a t' b
  |int b=>obtain⟨t,rfl⟩:=rx;exact SeqAt.EqAt.int_int a t' b t
  |str b=>obtain⟨t,rfl⟩:=rx;exact SeqAt.EqAt.int_str a t' b t
  |_=>exact absurd (show false=true from fx) aao
 |str a =>
  obtain⟨t',rfl⟩:=ry
  cases x with
  |non=>cases rx;exact SeqAt.EqAt.str_none a t'
  |bl b=>cases rx;exact SeqAt.EqAt.str_bool a t' b
  |int b=>obtain⟨t,rfl⟩:=rx;exact SeqAt.EqAt.str_int a t' b t
  |str b=>obtain⟨t,rfl⟩:=rx;exact SeqAt.EqAt.str_str a t' b t
  |_=>exact absurd (show false=true from fx) aao
 |_=>exact absurd (show false=true from fy) aao
def Dj(x:V)(u:Value):Bool:=match u with
 |.none=>BJ .non x
 |.bool b=>BJ (.bl b) x
 |.int i _=>BJ (.int i) x
 |.str z _=>BJ (.str z) x
 |_=>false
theorem zU8(r:RelV y u)(f:Bx y=true):Dj x u=BJ y x:=by
 cases y with
 |non=>cases r;rfl
 |bl b=>cases r;rfl
 |int i=>obtain⟨t,rfl⟩:=r;rfl
 |str z=>obtain⟨t,rfl⟩:=r;rfl
 |_=>exact absurd (show false=true from f) aao
theorem Xf:∀{xs:List V}{us:List Value},Vals xs us->xs.all Bx=true->us.any (Dj x)=xs.any λy=>BJ y x
 |_,_,.nil,_=>rfl
 |y::xs,u::us,.cons r t,f=>by
  rw[all_cons,aar] at f
  rw[any_cons,any_cons,zU8 r f.1,Xf t f.2]
theorem Xg(rx:RelV x v)(fx:Bx x=true):∀{xs:List V}{us:List Value},Vals xs us->xs.all Bx=true->∀u∈us,ad4 A s u v (Dj x u)
 |_,_,.nil,_=>λu hu=>by cases hu
 |y::xs,u::us,.cons r t,f=>λu' hu=>by
  rw[all_cons,aar] at f
  rcases mem_cons.mp hu with rfl|hu
  ·rw[zU8 r f.1];exact zU9 r rx f.1 fx
  ·exact Xg rx fx t f.2 u' hu
def inV(x:V)(xs:List V):Bool:=xs.any λy=>BJ y x
def U5(K:PySem.W.Frag)(neg:Bool):R2:=λx y H Q=>∃p xs,y=.ref p/\(aV K H p xs\/cI K H p xs)/\Bx x=true/\xs.all Bx=true/\Q (.bl (if neg then !inV x xs else inV x xs)) H
theorem zPn:jY X (compareOp .In) (U5 X.K false):=by
 intro pins s σ H x y v u Q I rx ry h
 obtain⟨p,xs,rfl,hq,fx,fs,q⟩:=h
 cases ry
 rcases hq with hq|hq
 ·obtain⟨its,r,pl,hz⟩:=I.list hq
  refine SeqAt.in_listAt (Dj x) pl.isList (λw hw=>Xg rx fx r fs w (by simpa using hw)) ⟨.bl _,H,I,rfl,?_⟩
  rw[show its.toArray.any (Dj x)=its.any (Dj x) by simp,Xf r fs]
  exact q
 ·obtain⟨its,r,pl,hz⟩:=I.tuple hq
  refine SeqAt.in_tupleAt (Dj x) pl (λw hw=>Xg rx fx r fs w (by simpa using hw)) ⟨.bl _,H,I,rfl,?_⟩
  rw[show its.toArray.any (Dj x)=its.any (Dj x) by simp,Xf r fs]
  exact q
theorem uA:sE X (.builtin "len") (λxs H Q=>∃p ys,xs=[.ref p]/\(aV X.K H p ys\/cI X.K H p ys)/\Q (.int ys.length) H):=by
 intro pins s σ H xs us Q I r h
 obtain⟨p,ys,rfl,hq,q⟩:=h
 obtain⟨u,rfl,rx⟩:=Hh r
 cases rx
 have hn:=JW
 rcases hq with hq|hq
 ·obtain⟨its,r',pl,hz⟩:=I.list hq
  have hlen:=r'.length
  exact Calls.call_len_list pl.isList (by simp only[size_toArray]<;>omega) ⟨.int ys.length,H,I.tok _,⟨s.toks+1,by rw[size_toArray,hlen]⟩,q⟩
 ·obtain⟨its,r',pl,hz⟩:=I.tuple hq
  have hlen:=r'.length
  exact len_tuple pl (by simp only[size_toArray]<;>omega) ⟨.int ys.length,H,I.tok _,⟨s.toks+1,by rw[size_toArray,hlen]⟩,q⟩
theorem zI5:sE X (.type "list") (λxs H Q=>∃p ys,xs=[.ref p]/\(aV X.K H p ys\/cI X.K H p ys)/\∀l,H l=none->Q (.ref l) (upd H l (.lst ys))):=by
 intro pins s σ H xs us Q I r h
 obtain⟨p,ys,rfl,hq,q⟩:=h
 obtain⟨u,rfl,rx⟩:=Hh r
 cases rx
 have fin:∀(its:List Value),Vals ys its->ys.length<=sizeLine->∀(h':Heap)(c':Nat),(∀b o',s.heap.get? b=some o'->h'.get? b=some o') ->
   h'.get? s.heap.objs.size=some { cls:=.type "list",dict:=none,data:=.seq its.toArray c',slots:=#[] }->EP X pins σ Q (.ref s.heap.objs.size) { s with heap:=h' }:=λits r' hz h' c' kp e =>
  ⟨.ref s.heap.objs.size,_,I.laid (t':=s.toks) kp (aaq _) (show bx X.prog X.w _ h' _ (.lst ys) from⟨hz,its,c',r',e⟩),rfl,q _ (I.hok.fresh (aaq _))⟩
 rcases hq with hq|hq
 ·obtain⟨its,r',pl,hz⟩:=I.list hq
  have hlen:=r'.length
  obtain⟨o,ho,hc,n,hd⟩:=pl.isList
  exact call_list_seq p (.inl rfl) ho hc hd (λh' c' kp e=>fin its r' hz h' c' kp e) (by simp only[size_toArray]<;>omega)
 ·obtain⟨its,r',pl,hz⟩:=I.tuple hq
  have hlen:=r'.length
  obtain⟨o,ho,hc,n,hd⟩:=pl
  exact call_list_seq p (.inr rfl) ho hc hd (λh' c' kp e=>fin its r' hz h' c' kp e) (by simp only[size_toArray]<;>omega)
def Xh(K:PySem.W.Frag)(T:String)(x:V)(H:Hp):Prop:=match x with
 |.str _=>T = "str"
 |.int _=>T = "int"
 |.ref p=>(T = "list" /\ ∃xs,aV K H p xs)\/(T = "tuple" /\ ∃o,K.lookup p=some o/\o.cls=.type "tuple" /\ o.dict=none) \/
   (T = "dict" /\ ((∃kvs,H p=some (.dK kvs))\/∃kvs,H p=some (.dT kvs)))\/(T = "set" /\ ∃S n,H p=some (.set S n))
 |_=>False
theorem zUh(I:Inv X pins σ H s)(r:RelV x v)(ty:Xh X.K T x H) :
  s.TypeIs v T/\∀a,v=.ref a->∃ob,s.heap.get? a=some ob/\ob.dict=none:=by
 cases x with
 |str z =>
  obtain⟨t,rfl⟩:=r
  cases(show T = "str" from ty)
  exact⟨typeIs_str s z t,λ_ e=>nomatch e⟩
 |int i =>
  obtain⟨t,rfl⟩:=r
  cases(show T = "int" from ty)
  exact⟨typeIs_int s i t,λ_ e=>nomatch e⟩
 |ref p =>
  cases r
  rcases ty with⟨rfl,xs,hq⟩|⟨rfl,o,hk,hc,hd⟩|⟨rfl,hk⟩|⟨rfl,S,n,hk⟩
  ·obtain⟨its,_,pl,_⟩:=I.list hq
   refine⟨pl.isList.typeIs,λa e=>?_⟩
   cases e
   obtain⟨o,n,e,c,hd,_⟩:=pl
   exact⟨o,e,hd⟩
  ·refine⟨⟨o,I.jH p o hk,hc⟩,λa e=>?_⟩
   cases e
   exact⟨o,I.jH _ o hk,hd⟩
  ·have z:∃o,s.heap.get? p=some o/\o.ExactDict:=by
    rcases hk with⟨kvs,hk⟩|⟨kvs,hk⟩
    ·obtain⟨_,_,_,_,o,_,_,e,ex,_⟩:=I.hok p _ hk
     exact⟨o,e,ex⟩
    ·obtain⟨_,_,_,_,o,_,_,e,ex,_⟩:=I.hok p _ hk
     exact⟨o,e,ex⟩
   obtain⟨o,e,ex⟩:=z
   refine⟨⟨o,e,ex.1⟩,λa e2=>?_⟩
   cases e2
   exact⟨o,e,ex.2.1⟩
  ·obtain⟨o,_,_,_,e,ex,_⟩:=I.hok p _ hk
   refine⟨⟨o,e,ex.1⟩,λa e2=>?_⟩
   cases e2
   exact⟨o,e,ex.2.1⟩
 |_=>exact abn ty
def J8(K:PySem.W.Frag)(T:String)(r:V->List V->Hp->VK->Prop)(to:TE):TE:=λσ H Q=>to σ H λx H1=>Xh K T x H1/\r x [] H1 Q
def Ol(K:PySem.W.Frag)(T:String)(r:V->List V->Hp->VK->Prop)(to:TE)(t:TA):TE:=λσ H Q=>to σ H λx H1=>Xh K T x H1/\t σ H1 λxs H2=>r x xs H2 Q
variable{o e:Expr}{es:List Expr}{to:TE}{t:TA}{name:Str}{apos cpos:Pos}{T id:String}{r:V->List V->Hp->VK->Prop}
theorem J9(pa:PlainAttrs T)(slot:Slot T name id)(hty:typeOf (.builtin id)=pure (.type "method_descriptor"))(hm:MtR X id r)(ho:PE X o to)(hbase:attributeBase o name X.env (eval o X.env)=eval o X.env:=by rfl)(hline:(apos.endLine==cpos.line)=true:=by rfl):PE X (.Call (.Attribute o name apos) [] [] cpos) (J8 X.K T r to):=by
 intro pins s σ H Q I h
 refine wpAny_Call_method0_late hbase hline (aP (ho pins s σ H _ I h) λv s1 ⟨x,H1,I1,r1,ty,q1⟩=>?_)
 obtain⟨h1,h2⟩:=zUh I1 r1 ty
 exact⟨T,id,pa,slot,hty,h1,h2,Calls.callWith_builtin rfl (PySem.evalArgs_none (hm pins s1 σ H1 x [] v [] Q I1 r1 .nil q1))⟩
theorem Hq(pa:PlainAttrs T)(slot:Slot T name id)(hty:typeOf (.builtin id)=pure (.type "method_descriptor"))(hm:MtR X id r)(ho:PE X o to)(ha:PA X (e::es) t)(hbase:attributeBase o name X.env (eval o X.env)=eval o X.env:=by rfl)(hfew:((backTo cpos (starEach (e::es) X.env)).all (λx=>!x.1)&&(backToKw cpos (keywordEach [] X.env)).all (λx=>x.1.isSome)
   && decide ((e::es).length+([]:List Keyword).length+(if([]:List Keyword).isEmpty then 0 else 1)<30))=true:=by rfl)(hline:(apos.endLine==cpos.line)=true:=by rfl)(hs:starEach (e::es) X.env=(false,eval e X.env)::starEach es X.env:=by rfl)(hplain:(backTo cpos (starEach es X.env)).any (·.1)=false:=by rfl) :
  PE X (.Call (.Attribute o name apos) (e::es) [] cpos) (Ol X.K T r to t):=by
 intro pins s σ H Q I h
 refine wpAny_Call_method_late hbase hfew hline rfl (aP (ho pins s σ H _ I h) λv s1 ⟨x,H1,I1,r1,ty,q1⟩=>?_)
 obtain⟨h1,h2⟩:=zUh I1 r1 ty
 refine⟨T,id,pa,slot,hty,h1,h2,?_⟩
 have hA:=ha cpos pins s1 σ H1 _ I1 q1
 rw[hs] at hA ⊢
 refine Calls.callWith_builtin (by show(false||(backTo cpos (starEach es X.env)).any (·.1))=false;rw[hplain]<;>rfl) (Calls.evalArgs_plain ?_)
 exact aP hA λus s2 ⟨vs,H2,I2,r2,q2⟩=>hm pins s2 σ H2 x vs v us Q I2 r1 r2 q2
end
def QG(X:Cx)(id:String)(r:V->List V->Hp->VK->Prop):Prop :=
 ∀(pins:List (Addr×Obj))(s:Shared)(σ:St)(H:Hp)(x:V)(xs:List V)(v:Value)(us:List Value)(Q:VK),Inv X pins σ H s->RelV x v->Vals xs us->r x xs H Q ->
  wpAny (model X.prog X.w) X.A (call (.builtin id) (v::us)) (EP X pins σ Q) X.xe s
theorem Vals.one:∀{x:V}{us:List Value},Vals [x] us->∃u,us=[u]/\RelV x u
 |_,_,.cons r .nil=>⟨_,rfl,r⟩
theorem Vals.two:∀{x y:V}{us:List Value},Vals [x,y] us->∃u v,us=[u,v]/\RelV x u/\RelV y v
 |_,_,_,.cons r (.cons q .nil)=>⟨_,_,rfl,r,q⟩
theorem Vals.zero:∀{us:List Value},Vals [] us->us=[]
 |_,.nil=>rfl
theorem Vals.dropLast(h:Vals xs us):Vals xs.dropLast us.dropLast:=by
 induction h with
 |nil=>exact .nil
 |cons r t ih =>
  cases t with
  |nil=>exact .nil
  |cons q t'=>exact .cons r ih
theorem Vals.eraseIdx:∀{xs:List V}{us:List Value}(i:Nat),Vals xs us->Vals (xs.eraseIdx i) (us.eraseIdx i)
 |_,_,_,.nil=>.nil
 |_,_,0,.cons _ t=>t
 |_,_,i+1,.cons r t=>.cons r (Vals.eraseIdx i t)
theorem Vals.reverse(h:Vals xs us):Vals xs.reverse us.reverse:=by
 induction h with
 |nil=>exact .nil
 |cons r t ih=>rw[reverse_cons,reverse_cons];exact Vals.append ih (.cons r .nil)
theorem zNs{α:Type}(l:List α):l.eraseIdx (l.length-1)=l.dropLast:=by
 induction l with
 |nil=>rfl
 |cons a r ih =>
  cases r with
  |nil=>rfl
  |cons b r =>
   have e:(a::b::r).length-1=((b::r).length-1)+1:=by
    have h1:(a::b::r).length=r.length+2:=rfl
    have h2:(b::r).length=r.length+1:=rfl
    omega
   rw[e,List.eraseIdx_cons_succ,ih]
   all_goals rfl
section
variable{X:Cx}{pins:List (Addr×Obj)}{σ:St}{H:Hp}{s:Shared}{l b:Addr}{xs ys zs:List V}
theorem Inv.J_{its its':List Value}{f:Array Value->Array Value}(I:Inv X pins σ H s)(hH:H l=some (.lst xs))(e:s.heap.get? l=some { cls:=.type "list",data:=.seq its.toArray n })(hf:f its.toArray=its'.toArray)(hv:Vals ys its')(hz:ys.length<=sizeLine) :
  Inv X pins σ (upd H l (.lst ys)) { s with heap:=s.heap.update l (ac1 f),toks:=t' }:=by
 have q:=PySem.IsL.update e f
 rw[hf] at q
 refine I.write (x:=l) (e:=l) (by rw[hH];exact trivial) (.inl rfl) (λb' u hb hu=>(get?_update_other s.heap (ac1 f) (acg hb)).trans hu) ⟨_,q⟩ ?_
 exact⟨hz,its',_,hv,q⟩
theorem Inv.Xi(I:Inv X pins σ H s)(hv:Vals ys its)(hz:ys.length<=sizeLine) :
  Inv X pins σ (upd H s.heap.objs.size (.lst ys)) { s with heap:=s.heap.push { cls:=.type "list",data:=.seq its.toArray },toks:=t' } :=
 I.laid (λ_ _ q=>get?_push_of_some _ q) (aaq _) ⟨hz,its,0,hv,get?_push_size _ rfl⟩
theorem Inv.fresh(I:Inv X pins σ H s):H s.heap.objs.size=none:=I.hok.fresh (aaq _)
theorem Inv.tV(I:Inv X pins σ H s)(hH:H l=some (.lst xs)):xs.length<=sizeLine/\∃(its:List Value)(n:Nat),Vals xs its/\xs.length=its.length/\s.heap.get? l=some { cls:=.type "list",data:=.seq its.toArray n }:=by
 obtain⟨z,its,n,r,e⟩:=I.hok l _ hH
 exact⟨z,its,n,r,r.length,e⟩
theorem zS4(h:n<=sizeLine):adn n=false:=by
 unfold adn
 exact decide_eq_false (by omega)
end
section
variable{X:Cx}
def Xj:V->List V->Hp->VK->Prop:=λx vs H Q=>∃l xs y,x=.ref l/\vs=[y]/\H l=some (.lst xs)/\xs.length<sizeLine/\Q .non (upd H l (.lst (xs++[y])))
theorem vE:QG X "list.append" Xj:=by
 intro pins s σ H x vs v us Q I rx rv h
 obtain⟨l,xs,y,rfl,rfl,hH,hz,q⟩:=h
 cases rx
 obtain⟨u,rfl,ru⟩:=rv.one
 obtain⟨z,its,n,r,hl,e⟩:=I.tV hH
 refine ae7 F.slot_list_append ⟨_,e,rfl⟩ F.entry_list_append (F.args_list_append_2 _ _) (PySem.list_append l its.toArray n u (by rw[size_toArray];omega)) ⟨e,?_⟩
 refine⟨.non,_,I.J_ (its':=its++[u]) hH e (by simp) (r.append (.cons ru .nil)) ?_,rfl,q⟩
 rw[length_append,length_singleton]
 omega
def Xk:V->List V->Hp->VK->Prop:=λx vs H Q=>∃l b xs zs,x=.ref l/\vs=[.ref b]/\H l=some (.lst xs)/\H b=some (.lst zs)/\xs.length+zs.length<=sizeLine/\Q .non (upd H l (.lst (xs++zs)))
theorem zIo:QG X "list.extend" Xk:=by
 intro pins s σ H x vs v us Q I rx rv h
 obtain⟨l,b,xs,zs,rfl,rfl,hH,hB,hz,q⟩:=h
 cases rx
 obtain⟨u,rfl,ru⟩:=rv.one
 cases ru
 obtain⟨z,its,n,r,hl,e⟩:=I.tV hH
 obtain⟨z2,its2,n2,r2,hl2,e2⟩:=I.tV hB
 have hsz:its.toArray.size+its2.toArray.size<=sizeLine:=by rw[size_toArray,size_toArray];omega
 have QH:¬(!its.toArray.isEmpty&&adn (its.toArray.size+its2.toArray.size))=true:=by
  rw[zS4 hsz,aev]
  exact aao
 refine ae7 F.slot_list_extend ⟨_,e,rfl⟩ F.entry_list_extend (F.args_list_extend_2 _ _)
  (AutoSeq1.list_extend_list_list_0 l its.toArray n b its2.toArray n2 QH (by rw[size_toArray];omega) (by omega)) ⟨e,e2,?_⟩
 refine⟨.non,_,I.J_ (its':=its++its2) hH e (by simp) (r.append r2) ?_,rfl,q⟩
 rw[length_append]
 omega
def QJ:V->List V->Hp->VK->Prop:=λx vs H Q=>∃l xs y,x=.ref l/\vs=[]/\H l=some (.lst xs)/\xs[xs.length-1]?=some y/\Q y (upd H l (.lst xs.dropLast))
theorem Ka:QG X "list.pop" QJ:=by
 intro pins s σ H x vs v us Q I rx rv h
 obtain⟨l,xs,y,rfl,rfl,hH,hy,q⟩:=h
 cases rx
 have hus:=rv.zero
 subst hus
 obtain⟨z,its,n,r,hl,e⟩:=I.tV hH
 obtain⟨u,hu,ru⟩:=r.get hy
 have hy':its.toArray[its.toArray.size-1]?=some u:=by
  show its.toArray[its.length-1]?=some u
  rw[<-getElem?_toList,<-hl]
  exact hu
 refine ae7 F.slot_list_pop ⟨_,e,rfl⟩ F.entry_list_pop (F.args_list_pop_1 _) (MeetsSeq.list_pop_last l its.toArray n u hy' (by rw[size_toArray];omega)) ⟨e,?_⟩
 refine⟨y,_,I.J_ (its':=its.dropLast) hH e ?_ r.dropLast ?_,ru,q⟩
 ·show its.toArray.eraseIdxIfInBounds (its.toArray.size-1)=its.dropLast.toArray
  rw[size_toArray,List.eraseIdxIfInBounds_toArray,zNs]
 ·rw[List.length_dropLast]
  omega
def QK:R2:=λx y H Q=>∃l b xs zs,x=.ref l/\y=.ref b/\H l=some (.lst xs)/\H b=some (.lst zs)/\xs.length+zs.length<=sizeLine/\∀p,H p=none->Q (.ref p) (upd H p (.lst (xs++zs)))
theorem Xl:jY X (binaryOp .Add) QK:=by
 intro pins s σ H x y v u Q I rx ry h
 obtain⟨l,b,xs,zs,rfl,rfl,hH,hB,hz,q⟩:=h
 cases rx
 cases ry
 obtain⟨z,its,n,r,hl,e⟩:=I.tV hH
 obtain⟨z2,its2,n2,r2,hl2,e2⟩:=I.tV hB
 refine PySem.P.add_list e e2 ?_ (by rw[size_toArray,size_toArray];omega)
 have ea:its.toArray++its2.toArray=(its++its2).toArray:=by simp
 rw[ea]
 exact⟨.ref _,_,I.Xi (t':=s.toks) (r.append r2) (by rw[length_append];omega),rfl,q _ I.fresh⟩
end
section
variable{prog:Program}{w:World}{A:Around}{E:Value->Shared->Prop}{s:Shared}
end
section
variable{X:Cx}
end
end L2
namespace Att
open PySem PySem.W PySem.Calls PyProof.Rows
theorem zFc:∀(ns:LI)(vs:List Value),WellAll P h vs (ns.map WData.int)->IntsAre vs ns:=by
 intro ns
 induction ns with
 |nil =>
  intro vs w
  rw[List.map_nil] at w
  cases w
  exact .nil
 |cons n ns ih =>
  intro vs w
  rw[map_cons] at w
  cases w with
  |cons a b =>
   cases a
   exact .cons _ _ (ih _ b)
theorem zOz{l:OpenLaw}(hn:l.most=some n)(hpre:l.row.toRowW.claim.pre args=true)(hwl:WellAll P h vals args) :
  ∃a vs ns,vals=[abj a]/\args=[WData.list (ns.map WData.int)]/\h.get? a=some { cls:=.type "list",data:=.seq vs.toArray }/\IntsAre vs ns/\ns.length<=n:=by
 have hsh:WShape.hasAll [] args [.list .int]=true:=(pre_splitW hpre).1
 have hc:l.pre.holds [] { args:=args }=true:=(pre_splitW hpre).2
 obtain⟨d,r,rfl,h1,h2⟩:=hasAllW_cons hsh
 obtain rfl:=hasAllW_nil h2
 obtain⟨xs,rfl,h3⟩:=hasW_list h1
 obtain⟨ns,rfl⟩:=items_int h3
 have hlen:ns.length<=n:=by
  unfold OpenLaw.pre at hc
  have h4:(WTm.not (.lt (.lit (.int (n:Int))) (.len (.arg 0)))).holds [] { args:=[.list (ns.map .int)] }=true:=by
   have h4:=(holds_andW hc).1
   rw[hn] at h4
   exact h4
  have h5:=condW_of h4 (w_not (w_lt w_lit (w_len_list (w_arg rfl))))
  rw[length_map] at h5
  refine Nat.le_of_not_lt λq=>?_
  have q':(n:Int)<((ns.length:Nat):Int):=by omega
  first
   | (rw[decide_eq_true q'] at h5;exact absurd h5 (by decide))
   | (simp at h5;omega)
 cases hwl with
 |cons w1 w2 =>
  cases w2
  cases w1 with
  |list ho hall=>exact⟨_,_,ns,rfl,rfl,ho,zFc ns _ hall,hlen⟩
theorem zPd(l:OpenLaw)(args:List WData):l.row.toRowW.claim.post args (.bool true) args=true :=
 postW_of (r:=l.row.toRowW) (X:=(true==true))
  (show WShape.has [] (.bool true) .bool=true by first|rfl|decide|simp[WShape.has,WShape.arms,WShape.armsAll])
  (show(WTm.eq .res (.lit (.bool true))).value [] { args:=args,res:=some (.bool true),after:=args }=some (.bool (true==true)) from w_eq_bool (w_res rfl) w_lit) rfl
theorem qt{l:OpenLaw}{YP:World->Heap->Prop}{d:DefRec}(hn:l.most=some n)(hdf:d.params.defaults=[])(call:∀(w:World) (s₀ s₁:Shared) (mg mb:Str->Option Value) (fa:Addr) (o:Obj) (pm cd doc:Value) (a:Addr) (vs:List Value) (ns:LI),
   Ground q loose [] XP w s₀ mg mb s₁.heap->YP w s₁.heap ->
   s₁.heap.get? fa=some o->o.data=.func (docDef d.name d.params d.body d.scope pm cd doc)->s₁.heap.CodeRec cd d.name->mg d.name=some (.ref fa) ->
   s₁.heap.get? a=some { cls:=.type "list",data:=.seq vs.toArray }->IntsAre vs ns->ns.length<=n->s₁.gens=#[] ->
   codeAny (model l.prog w) callerA (.call (.ref fa) ⟨[.ref a],[]⟩) (λr s'=>r=.ok (.ret (.bool true))/\OldK s₁.heap s'.heap/\s'.os=s₁.os/\AllBare s'.gens) s₁) :
  WalkO q loose XP YP l.row.toRowW d [] (λf vs=>PySem.call f vs):=by
 intro w s₀ s₁ mg mb G Y fa o pm cd doc dV kV ho hd hcd hD hmg hg args vals as hpre hlay hrd hwl hlo
 obtain rfl:dV=.none:=Dflts.none hD hdf
 obtain rfl:kV=.none:=Dflts.noKw hD
 obtain⟨a,vs,ns,rfl,rfl,hobj,hints,hlen⟩:=zOz hn hpre hwl
 refine enter_call (adf (call w s₀ s₁ mg mb fa o pm cd doc a vs ns G Y ho (fd_plain hd) hcd hmg hobj hints hlen hg) λr s' hq=>?_)
 obtain⟨rfl,h2,h3,h4⟩:=hq
 exact⟨.inl ⟨.bool true,.bool true,[],rfl,λ_=>rfl,.bool true,zPd l _,λ_=>⟨Pairwise.nil,λ_ hm=>(nomatch hm)⟩⟩,h2,h3,h4⟩
section
variable{prog:Program}{w:World}{A:Around}{E:Value->Shared->Prop}{s:Shared}{K:Frag}
end
end Att
namespace L2
open PySem PySem.Spec PyProof.Rows
theorem zHu:∀{vs:List Value}{ns:LI},IntsAre vs ns->Vals (ns.map V.int) vs
 |_,_,.nil=>.nil
 |_,_,.cons n t h=>.cons ⟨t,rfl⟩ (zHu h)
def Only(H:Hp):Prop:=∀b,H b=none\/∃o xs,H b=some (.su o (.lst xs))
theorem zTd{K:PySem.W.Frag}{s₁:Shared}{vs:List Value}(KX:K.In s₁.heap)(hns:s₁.heap.Ns aa6 mg)(hb:s₁.heap.Ns builtinsNs mb)(hbb:∀x:Str,x ≠ "__name__"->mb x=bootBuiltins x)(hlim:s₁.heap.NoLimit)(hg:s₁.gens=#[])(ha:s₁.heap.get? a=some { cls:=.type "list",data:=.seq vs.toArray })(hi:IntsAre vs ns)(hl:ns.length<=sizeLine)(hr:bO k callerA)(F:∀base:Heap,K.In base->base.Ns aa6 mg->aq P w K mg base CX k fa fd [x] sp)(hbind:∀(s:Shared) (u:Value),BindsTo s fd ⟨[u],[]⟩ [(x,u)])(hsp:∀H:Hp,Only H->aV K H a (ns.map V.int)->sp [.ref a] H (λv _=>v=.bl true) λ_ _ _=>False)(Xm:∀H e s',CX [] H s₁ (λ_ _ _=>False) e s'->False) :
  codeAny (model P w) callerA (.call (.ref fa) ⟨[.ref a],[]⟩) (λr s'=>r=.ok (.ret (.bool true))/\OldK s₁.heap s'.heap/\s'.os=s₁.os/\AllBare s'.gens) s₁:=by
 have rv:=zHu hi
 have lenV:=hi.length
 have core:∀H:Hp,Only H->aV K H a (ns.map V.int)->gJ P w H s₁.heap->(∀b,H b≠none->b=a)->(H a≠none->K.lookup a=none) ->
   codeAny (model P w) callerA (.call (.ref fa) ⟨[.ref a],[]⟩) (λr s'=>r=.ok (.ret (.bool true))/\OldK s₁.heap s'.heap/\s'.os=s₁.os/\AllBare s'.gens) s₁:=by
  intro H hO hS hok hA hK
  have sJ:∀{b:Addr}{o:Obj},s₁.heap.get? b=some o->H b=none->(pH s₁.heap H).get? b=some o:=λe n=>zTk e n
  have Qy:∀{b:Addr}{o:Obj}{es:Array DictEntry}{ep:Nat},s₁.heap.get? b=some o->o.data=.dict es ep->H b=none:=λ{b o es ep} e d=>by
   cases q:H b with
   |none=>rfl
   |some u =>
    have e':b=a:=hA b (by rw[q];simp)
    subst e'
    rw[ha] at e;cases e
    have d':Data.seq vs.toArray _=Data.dict es ep:=d
    cases d'
  have U6:∀{b:Addr}{m:Str->Option Value},s₁.heap.Ns b m->(pH s₁.heap H).Ns b m:=λ{b m} ⟨o,es,ep,e,d,r⟩=>⟨o,es,ep,sJ e (Qy e d),d,r⟩
  have hKb:K.In (pH s₁.heap H):=λb o e=>sJ (KX b o e) (by
   cases q:H b with
   |none=>rfl
   |some u =>
    have e':b=a:=hA b (by rw[q];simp)
    subst e'
    rw[hK (by rw[q];simp)] at e;cases e)
  have hM:Mod K mg (pH s₁.heap H):=⟨hKb,U6 hns,⟨mb,U6 hb,hbb⟩,let⟨mc,h1,h2⟩:=hlim;⟨mc,U6 h1,h2⟩⟩
  have e0:qY P w K mg (pH s₁.heap H) callerA [] s₁ H:=⟨rfl,hM,λb o e=>Cr e,Nat.le_of_eq (zQj _ _),trivial,λb hb=>absurd (show b∈([]:List Addr) from hb) (by simp),hok,.of_eq hg⟩
  refine adf ((F _ hKb (U6 hns)).run callerA [] s₁ H ⟨[.ref a],[]⟩ [.ref a] [.ref a] _ _ hr e0 (hbind s₁ (.ref a)) (.cons rfl .nil) (hsp H hO hS)) λr s' h=>?_
  cases r with
  |error e=>exact(Xm H e s' h).elim
  |ok fl =>
   cases fl with
   |next=>exact abn h
   |brk=>exact abn h
   |cont=>exact abn h
   |ret u =>
    obtain⟨v,H',os,bare,un,hok',r',q⟩:=h
    have q':v=.bl true:=q
    subst q'
    obtain rfl:u=ae6 true:=r'
    refine⟨rfl,OldK.of_keep λb o e=>?_,os,bare⟩
    cases q:H b with
    |none=>exact un.keep b o e q (by intro z;exact absurd (show b∈([]:List Addr) from z) (by simp)) (by simp)
    |some u =>
     rcases hO b with z|⟨ob,xs,z⟩
     ·rw[q] at z;cases z
     ·have z2:=un.lW b ob _ z
      obtain⟨e1,_⟩:=hok b _ z
      obtain⟨e2,_⟩:=hok' b _ z2
      rw[e] at e1;cases e1
      exact e2
 cases hk:K.lookup a with
 |some o =>
  have e:=KX a o hk
  rw[ha] at e
  cases e
  refine core (λ_=>none) (λ_=>.inl rfl) (.inr ⟨_,vs.toArray,_,hk,rfl,rfl,rfl,by rw[size_toArray,lenV];exact hl,by simpa using rv⟩) (λb u z=>by have z':(none:Option HO)=some u:=z;cases z') (λb z=>absurd rfl z) λz=>absurd rfl z
 |none =>
  refine core (λb=>if b=a then some (.su { cls:=.type "list",data:=.seq vs.toArray } (.lst (ns.map V.int))) else none) (λb=>?_) (.inl (.inr ⟨{ cls:=.type "list",data:=.seq vs.toArray },if_pos rfl⟩)) (λb u z=>?_) (λb z=>?_) λ_=>hk
  ·by_cases hb:b=a
   ·exact .inr ⟨_,_,if_pos hb⟩
   ·exact .inl (if_neg hb)
  ·by_cases hb:b=a
   ·have z':=(if_pos hb).symm.trans z
    cases z'
    subst hb
    exact⟨ha,by rw[length_map];exact hl,vs,_,rv,ha⟩
   ·have z':=(if_neg hb).symm.trans z
    cases z'
  ·by_cases hb:b=a
   ·exact hb
   ·exact absurd (if_neg hb) z
theorem Dk{l:PySem.W.OpenLaw}{YP:World->Heap->Prop}{d:DefRec}{K:Params->PySem.W.Frag}{CX:World->tK}{sp:World->Sp}(hn:l.most=some n)(hn2:n<=sizeLine)(hdf:d.params.defaults=[])(hr:bO k callerA)(hY:∀(w:World) (h:Heap),YP w h->(K w.params).In h)(F:∀(w:World) (mg:Str->Option Value) (fa:Addr) (h:Heap),(K w.params).In h->h.Ns aa6 mg->mg d.name=some (.ref fa) ->
   ∃fd:FuncData,(∀(s:Shared) (u:Value),BindsTo s fd ⟨[u],[]⟩ [(x,u)]) /\
    ∀base:Heap,(K w.params).In base->base.Ns aa6 mg->aq l.prog w (K w.params) mg base (CX w) k fa fd [x] (sp w))(hsp:∀(w:World) (H:Hp) (a:Addr) (ns:LI),ns.length<=n->Only H->aV (K w.params) H a (ns.map V.int)->sp w [.ref a] H (λv _=>v=.bl true) λ_ _ _=>False)(Xm:∀(w:World) (H:Hp) (s:Shared) (e:Value) (s':Shared),CX w [] H s (λ_ _ _=>False) e s'->False) :
  PySem.W.WalkO q loose XP YP l.row.toRowW d [] (λf vs=>PySem.call f vs):=by
 refine Att.qt hn hdf λw s₀ s₁ mg mb fa o pm cd doc a vs ns G Y ho hd hcd hmg hobj hints hlen hg=>?_
 have KX:=hY w _ Y
 obtain⟨fd,hb,hF⟩:=F w mg fa _ KX G.T.g hmg
 exact zTd KX G.T.g G.T.b G.T.builtins G.T.nolimit hg hobj hints (aa0 hlen hn2) hr hF hb (λH hO hS=>hsp w H a ns hlen hO hS) λH e s'=>Xm w H s₁ e s'
def xB(s:Stmt)(j:Nat):Stmt:=match s with
 |.ClassDef _ _ _ body _ _ _ _ _ _ _=>body.getD j (.Pass ⟨0,0,0,0⟩)
 |_=>.Pass ⟨0,0,0,0⟩
def uC(s:Stmt):Arguments:=match s with
 |.FunctionDef _ a _ _ _ _ _ _ _ _=>a
 |_=>{ posonlyargs:=[],args:=[],vararg:=none,kwonlyargs:=[],kw_defaults:=[],kwarg:=none,defaults:=[] }
def xZ(s:Stmt):List Stmt:=match s with
 |.FunctionDef _ _ b _ _ _ _ _ _ _=>b
 |_=>[]
def zH(s:Stmt):Scope:=match s with
 |.FunctionDef _ _ _ _ _ _ sc _ _ _=>sc
 |_=>{ kind:=.function,names:=[],isGenerator:=false,isCoroutine:=false }
abbrev aO:tK:=λ_ _ _ _ _ _=>False
abbrev E0:XK:=λ_ _ _=>False
theorem yE:CZ aO X E0:=λ_ _ _ _ _ _ _ h=>h.elim
structure aZ(K:PySem.W.Frag)(x qual:Str)(st:Stmt)(f:Addr)(fd:FuncData):Prop where
 ex:∃(oc:Value)(od:Option Addr)(kV doc pm:Value)(an:Option Addr)(cdv ct:Value)(osl:Array (Option Value)),
  fd=fnOf x qual (uC st) (xZ st) (zH st) .none kV doc pm an cdv ct/\K.lookup f=some ⟨oc,od,.func fd,osl⟩/\codeIn K cdv qual=true
 kp:keepIn K (.ref f)=true
section
variable{P:Program}{w:World}{K:PySem.W.Frag}{mg:Str->Option Value}{base:Heap}
theorem aZ.ok{x qual:Str}{st:Stmt}{f:Addr}{fd:FuncData}{N ps:List Str}{k:Nat}{sp:Sp}(F:aZ K x qual st f fd)(S:ao N ps (zH st))(len:∀vs H Q E,sp vs H Q E->vs.length=ps.length)(hbody:∀(cdv:Value) (A:Around) (outer:List Env) (s:Shared) (H:Hp) (vs:List V) (Q:VK) (E:XK),bO k (A.deeper (envOfC qual (zH st) s.heap.objs.size f cdv))->sp vs H Q E ->
   ∃t,qe (oE aO P w K mg base N qual (zH st) f cdv A outer s H E).Cz (xZ st) t/\t { nx:=λ_ H'=>Q .non H',rt:=Q } (start N vs) H):aq P w K mg base aO (k+1) f fd ps sp:=by
 obtain⟨oc,od,kV,doc,pm,an,cdv,ct,osl,rfl,lk,hcd⟩:=F.ex
 refine Hl lk hcd S len λA outer s H vs Q E hr hsp=>?_
 obtain⟨t,h,q⟩:=hbody cdv A outer s H vs Q E hr hsp
 exact⟨t,h.Cz,q⟩
theorem aZ.binds{x qual:Str}{st:Stmt}{f:Addr}{fd:FuncData}{ps:List Str}(F:aZ K x qual st f fd)(h:∀(kV doc pm:Value) (an:Option Addr) (cdv ct:Value) (us:List Value),us.length=ps.length->bindArgs (fnOf x qual (uC st) (xZ st) (zH st) .none kV doc pm an cdv ct) ⟨us,[]⟩=pure (ps.zip us)):Binds K fd ps []:=by
 obtain⟨oc,od,kV,doc,pm,an,cdv,ct,osl,rfl,lk,hcd⟩:=F.ex
 exact .all (h kV doc pm an cdv ct)
theorem lY{x qual:Str}{st:Stmt}{f:Addr}{oc:Value}{od an:Option Addr}{osl:Array (Option Value)}{kV doc pm cdv ct:Value}(l:K.lookup f=some ⟨oc,od,.func (fnOf x qual (uC st) (xZ st) (zH st) .none kV doc pm an cdv ct),osl⟩)(c:codeIn K cdv qual=true)(k:keepIn K (.ref f)=true):aZ K x qual st f (fnOf x qual (uC st) (xZ st) (zH st) .none kV doc pm an cdv ct):=⟨⟨oc,od,kV,doc,pm,an,cdv,ct,osl,rfl,l,c⟩,k⟩
end
theorem yp(hr:bO k A):A.units+1<cLine:=aav (Nat.add_le_add_left (by decide:1<=64) _) hr.units
theorem Xn(h:n<=1000):n<sizeLine:=aav h (by decide)
section
variable{X:Cx}
theorem pv(i:Nat)(hN:X.N[i]?=some x:=by rfl)(hv:Qd X.env.scope x:=by first|exact Or.inl rfl|exact Or.inr (Or.inl rfl)|exact Or.inr (Or.inr rfl))(hd:(x==("__debug__":Str))=false:=by decide)(hcd:(x==("__classdict__":Str))=false:=by decide):PE X (.Name x pos) (cj i):=Jw hN hv hd hcd
end
theorem lG{A B:Prop}(h:B):if false=true then A else B:=by
 rw[if_neg aao]
 exact h
theorem iI{A B:Prop}(h:A):if true=true then A else B:=by
 rw[if_pos rfl]
 exact h
theorem yq{c A B:Prop}[Decidable c](h1:c->A)(h2:¬c->B):if c then A else B:=by
 by_cases h:c
 ·rw[if_pos h]
  exact h1 h
 ·rw[if_neg h]
  exact h2 h
def Same(H H':Hp):Prop:=∀b o,H b=some o->H' b=some o
theorem Same.refl(H:Hp):Same H H:=λ_ _ h=>h
theorem Same.trans(a:Same H H1)(b:Same H1 H2):Same H H2:=λc o h=>b c o (a c o h)
theorem Same.free(e:Same H H')(h:H' l=afh):H l=afh:=by
 cases q:H l with
 |none=>rfl
 |some o =>
  rw[e l o q] at h
  cases h
theorem Same.seq{K:PySem.W.Frag}{H H':Hp}{a:Addr}{xs:List V}(e:Same H H')(h:aV K H a xs):aV K H' a xs:=by
 rcases h with(h|⟨o,h⟩)|h
 ·exact .inl (.inl (e _ _ h))
 ·exact .inl (.inr ⟨o,e _ _ h⟩)
 ·exact .inr h
section
variable{κ:Type}[DecidableEq κ]
end
open PySem
section
variable{prog:Program}{w:World}{A:Around}{R:Result->Shared->Prop}{s:Shared}
theorem vO{α:Type}{t:Sem α}{Q Q':α->Shared->Prop}(h:wpAny M A t Q (λ_ _=>False) s)(hQ:∀a s,Q a s->Q' a s):wpAny M A t Q' (notedBy M A env E) s :=
 ab4 h hQ λ_ _ z=>z.elim
theorem zI4(I:Nat->Shared->Prop)(turn:∀n s,I n s->wpAny (model prog w) A (pyNext it) (λr s₁=>match r with
   |none=>R (.ok .next) s₁
   |some v=>wpAny (model prog w) A (letOwnedTupleGo target it v) (λ_ s₂=>wpAny (model prog w) A (assign target env v) (λ_ s₃ =>
     wpAny (model prog w) A (forIn ifs true λc r=>if r=true then do let ok <-isTrue c env (eval c env);pure (acf ok) else pure (acf r)) (λok s₄ =>
      if ok=true then wpAny (model prog w) A (eval elt env) (λx s₅ =>
       wpAny (model prog w) A (call (.builtin "list.append") [acc,x]) (λ_ s₆=>∃m,m<n/\I m s₆) (λ_ _=>False) s₅) (λ_ _=>False) s₄
      else∃m,m<n/\I m s₄) (λ_ _=>False) s₃) (λ_ _=>False) s₂) (λ_ _=>False) s₁) (λ_ _=>False) s)(n:Nat)(h:I n s):codeAny (model prog w) A (.compLoop (.ListComp elt [⟨target,iter,ifs,0⟩] scope pos) 0 it acc env) R s:=by
 refine codeAny_loop rfl I (λn s hI=>?_) n h
 show wpAny _ A ((compTurn (.ListComp elt [⟨target,iter,ifs,0⟩] scope pos) 0 it acc env).onRaise (λx=>do noteFrame x env;theTreesLotGoes x)) _ _ s
 refine wpAny_noted ?_
 rw[compTurn_list]
 refine aam (ae3 (aam (vO (turn n s hI) λr s₁ h₁=>?_)))
 cases r with
 |none=>exact aan h₁
 |some v =>
  refine aam (vO h₁ λ_ s₂ h₂=>?_)
  refine aam (vO h₂ λ_ s₃ h₃=>aam (vO h₃ λok s₄ h₄=>?_))
  cases ok with
  |false=>exact aan ⟨rfl,h₄⟩
  |true =>
   exact aam (aam (vO h₄ λx s₅ h₅=>aam (vO h₅ λ_ s₆ h₆=>aan (aan ⟨rfl,h₆⟩))))
end
def oR(env:Env):List (Str×NameKind)->List (Str×Addr)->List (Str×Addr)
 |[],acc=>acc
 | (n,k)::r,acc=>if k==.free then oR env r ((n,(env.cells.lookup n).getD 0)::acc) else oR env r acc
theorem zCz{scope:Scope}{env:Env}(h:∀y∈scope.names,y.2=.free->∃c,env.cells.lookup y.1=some c):closureFor scope env=pure (oR env scope.names []):=by
 unfold closureFor
 generalize scope.names=l at h
 have go:∀(l:List (Str×NameKind))(acc:List (Str×Addr)),(∀y∈l,y.2=.free->∃c,env.cells.lookup y.1=some c) ->
    (forIn l acc (λ(x:Str×NameKind) (r:List (Str×Addr))=>match x with
    | (name,kind)=>if(kind==aa3)=true then(do let __do_lift <-cellOf env name;pure (acf ((name,__do_lift)::r))) else pure (acf r)):Sem (List (Str×Addr)))=pure (oR env l acc):=by
  intro l
  induction l with
  |nil=>intro acc _;rfl
  |cons x r ih =>
   intro acc hl
   obtain⟨n,k⟩:=x
   rw[List.forIn_cons]
   unfold oR
   by_cases hk:(k==aa3)=true
   ·obtain⟨c,hc⟩:=hl (n,k) mem_cons_self (abu hk)
    simp only[hk,if_true]
    have hc':env.cells.lookup n=some c:=hc
    unfold cellOf
    rw[hc']
    exact ih _ λy hy=>hl y (mem_cons_of_mem _ hy)
   ·simp only[hk,if_false]
    exact ih _ λy hy=>hl y (mem_cons_of_mem _ hy)
 have e:=go l [] h
 simp only[bind_pure]
 exact e
theorem Xo{env:Env}:∀(l:List (Str×NameKind))(acc:List (Str×Addr)),(∀x c,acc.lookup x=some c->(env.cells.lookup x).getD 0=c)->∀x c,(oR env l acc).lookup x=some c->(env.cells.lookup x).getD 0=c
 |[],_,h,x,c,e=>h x c e
 | (n,k)::r,acc,h,x,c,e=>by
  unfold oR at e
  by_cases hk:(k==aa3)=true
  ·rw[if_pos hk] at e
   refine Xo r _ (λy d q=>?_) x c e
   cases hy:y==n with
   |true =>
    rw[lookup_cons,hy] at q
    cases q
    rw[abu hy]
   |false =>
    rw[lookup_cons,hy] at q
    exact h y d q
  ·rw[if_neg hk] at e
   exact Xo r acc h x c e
theorem Xp:∀(l:List (Str×NameKind))(acc:List (Str×Addr))(x:Str)(c:Addr),(oR env l acc).lookup x=some c->(acc.lookup x).isSome=true\/(x,aa3)∈l
 |[],_,x,c,e=>.inl (by unfold oR at e;rw[e];rfl)
 | (n,k)::r,acc,x,c,e=>by
  unfold oR at e
  by_cases hk:(k==aa3)=true
  ·rw[if_pos hk] at e
   rcases Xp r _ x c e with h|h
   ·cases hy:x==n with
    |true =>
     have e1:=abu hy
     have e2:=abu hk
     subst e1;subst e2
     exact .inr mem_cons_self
    |false =>
     rw[lookup_cons,hy] at h
     exact .inl h
   ·exact .inr (mem_cons_of_mem _ h)
  ·rw[if_neg hk] at e
   rcases Xp r _ x c e with h|h
   ·exact .inl h
   ·exact .inr (mem_cons_of_mem _ h)
theorem U7:∀(l:List (Str×NameKind))(acc:List (Str×Addr))(x:Str),((acc.lookup x).isSome=true\/(x,aa3)∈l)->((oR env l acc).lookup x).isSome=true
 |[],_,x,h=>by
  rcases h with h|h
  ·exact h
  ·cases h
 | (n,k)::r,acc,x,h=>by
  unfold oR
  by_cases hk:(k==aa3)=true
  ·rw[if_pos hk]
   refine U7 r _ x ?_
   rcases h with h|h
   ·refine .inl ?_
    rw[lookup_cons]
    cases hy:x==n with
    |true=>rfl
    |false=>exact h
   ·rcases mem_cons.mp h with h|h
    ·cases h
     refine .inl ?_
     rw[lookup_cons,beq_self_eq_true]
     rfl
    ·exact .inr h
  ·rw[if_neg hk]
   refine U7 r _ x ?_
   rcases h with h|h
   ·exact .inl h
   ·rcases mem_cons.mp h with h|h
    ·cases h
     exact absurd rfl hk
    ·exact .inr h
theorem zDu{env:Env}:∀{names:List (Str×NameKind)}{x:Str},names.lookup x=some .free ->
  (names.map λ(n,k)=>if(k==aa3&&env.scope.kind==.function&&env.kindOf n==some .cell) then(n,abz) else(n,k)).lookup x=some .cell \/
  (names.map λ(n,k)=>if(k==aa3&&env.scope.kind==.function&&env.kindOf n==some .cell) then(n,abz) else(n,k)).lookup x=some .free
 |[],_,h=>by simp at h
 | (n,k)::r,x,h=>by
  have ih:=@zDu env r x
  show acp x ((if(k==aa3&&env.scope.kind==.function&&env.kindOf n==some .cell)=true then(n,abz) else(n,k))::_)=_\/acp x ((if(k==aa3&&env.scope.kind==.function&&env.kindOf n==some .cell)=true then(n,abz) else(n,k))::_)=_
  cases hx:x==n with
  |true =>
   simp only[lookup_cons,hx] at h
   cases h
   by_cases hc:(aa3==aa3&&env.scope.kind==.function&&env.kindOf n==some .cell)=true
   ·rw[if_pos hc];left;simp only[lookup_cons,hx]
   ·rw[if_neg hc];right;simp only[lookup_cons,hx]
  |false =>
   simp only[lookup_cons,hx] at h
   by_cases hc:(k==aa3&&env.scope.kind==.function&&env.kindOf n==some .cell)=true
   ·rw[if_pos hc];simp only[lookup_cons,hx];exact ih h
   ·rw[if_neg hc];simp only[lookup_cons,hx];exact ih h
theorem Xq{env:Env}:∀{names:List (Str×NameKind)}{x:Str}{k:NameKind},(k=.cell\/k=.free) ->
  (names.map λ(n,k)=>if(k==aa3&&env.scope.kind==.function&&env.kindOf n==some .cell) then(n,abz) else(n,k)).lookup x=some k->(x,aa3)∈names\/(x,abz)∈names
 |[],_,_,_,h=>by simp at h
 | (n,k')::r,x,k,hk,h=>by
  have ih:=@Xq env r x k hk
  have h':acp x ((if(k'==aa3&&env.scope.kind==.function&&env.kindOf n==some .cell)=true then(n,abz) else(n,k'))::(r.map λ(n,k)=>if(k==aa3&&env.scope.kind==.function&&env.kindOf n==some .cell) then(n,abz) else(n,k)))=some k:=h
  cases hx:x==n with
  |true =>
   have e:=abu hx
   subst e
   by_cases hd:(k'==aa3&&env.scope.kind==.function&&env.kindOf x==some .cell)=true
   ·have e2:k'=.free:=by
     rw[aar,aar] at hd
     exact abu hd.1.1
    subst e2
    exact .inl mem_cons_self
   ·rw[if_neg hd] at h'
    simp only[lookup_cons,hx] at h'
    cases h'
    rcases hk with e|e
    ·subst e;exact .inr mem_cons_self
    ·subst e;exact .inl mem_cons_self
  |false =>
   have g:(x,aa3)∈r\/(x,abz)∈r:=by
    refine ih ?_
    by_cases hd:(k'==aa3&&env.scope.kind==.function&&env.kindOf n==some .cell)=true
    ·rw[if_pos hd] at h';simp only[lookup_cons,hx] at h';exact h'
    ·rw[if_neg hd] at h';simp only[lookup_cons,hx] at h';exact h'
   rcases g with g|g
   ·exact .inl (mem_cons_of_mem _ g)
   ·exact .inr (mem_cons_of_mem _ g)
theorem xP:∀(l:List (Str×NameKind))(n:Nat)(acc:List (Str×Addr)),cellsFrom n l acc=cellsFrom n l []++acc
 |[],_,_=>rfl
 | (x,k)::r,n,acc=>by
  unfold cellsFrom
  split
  ·rw[xP r (n+1) ((x,n)::acc),xP r (n+1) [(x,n)]];simp
  ·exact xP r n acc
theorem Xr:∀(l:List (Str×NameKind))(n:Nat)(x:Str)(c:Addr),(x,c)∈cellsFrom n l []->(x,abz)∈l
 |[],_,_,_,h=>by cases h
 | (y,k)::r,n,x,c,h=>by
  unfold cellsFrom at h
  split at h
  ·rename_i hk
   rw[xP] at h
   rcases mem_append.mp h with h|h
   ·exact mem_cons_of_mem _ (Xr r _ x c h)
   ·have e:(x,c)=(y,n):=by simpa using h
    cases e
    rw[abu hk]
    exact mem_cons_self
  ·exact mem_cons_of_mem _ (Xr r _ x c h)
theorem zD7{s:Shared}{scope:Scope}{Q:Env->Shared->Prop}(hQ:∀h',h'.Ns s.heap.objs.size (λ_=>none)->(∀b o,s.heap.get? b=some o->h'.get? b=some o)->CellsOk h' (s.heap.objs.size+1) (cellsFrom (s.heap.objs.size+1) scope.names []) ->
   Q (newEnv scope s.heap.objs.size globals (cellsFrom (s.heap.objs.size+1) scope.names closure) qual none .none (some outer) builtinsNs) { s with heap:=h' }) :
  wpAny M A (newFunctionEnv scope globals closure [] qual none .none (some outer)) Q E s:=by
 simp only[newFunctionEnv,adp,if_true]
 refine aam (wpAny_alloc ?_)
 refine aam (wpAny_layCells _ (λname kind cells=>by cases hkc:kind==abz<;>simp[hkc]) _ _ _ _ ?_)
 have ok:=cellsFrom_ok scope.names (s.heap.push { cls:=.type "dict",data:=.dict #[] }) (s.heap.objs.size+1) [] ⟨λ_ _ hm=>(nomatch hm),Pairwise.nil⟩ (by rw[size_push];exact aaq _)
 rw[size_push] at ok
 rw[show({ s with heap:=s.heap.push { cls:=.type "dict",data:=.dict #[] } }:Shared).heap.objs.size=s.heap.objs.size+1 from size_push ..]
 refine aam ?_
 rw[List.forIn_nil]
 exact aan (aan (hQ _ ((Heap.Ns.new s.heap (.type "dict")).keeps (pushCells_keeps _ _)) (λb o e=>pushCells_keeps _ _ b o (get?_push_of_some _ e)) ok))
theorem gJ.track(x:gJ P w H h)(hn:H a=none)(new:bx P w (upd H a o) h a o):gJ P w (upd H a o) h:=λb u e=>by
 by_cases hb:b=a
 ·subst hb;rw[zJ] at e;cases e;exact new
 ·rw[zP hb] at e
  exact(x b u e).stay (λc v _ q=>q) (λc q=>by rw[zP (zN q hn)];exact q) λc xs q=>by rw[zP (zN q hn)];exact q
theorem Un.track(u:Un fs ex H H' h h')(h0:h.get? a=none)(hn:H a=none):Un fs ex H (upd H' a o) h h' where
 keep:=u.keep
 slot:=u.slot
 free:=λb ob q n hx=>by
  rw[zP (λz=>by rw[z,h0] at q;cases q)];exact u.free b ob q n hx
 there:=u.there
 tups:=λb xs q=>by rw[zP (zN q hn)];exact u.tups b xs q
 lW:=λb ob xs q=>by rw[zP (zN q hn)];exact u.lW b ob xs q
 oh:=λb ps q=>by rw[zP (zN q hn)];exact u.oh b ps q
def nIn(N:List Str)(own:List Str)(ix:List Nat):List Str:=own++ix.map λj=>N.getD j adx
def iJ(σ:St)(n:Nat)(ix:List Nat):St:=replicate n none++ix.map λj=>(σ[j]?).getD none
def dG(X:Cx)(scope:Scope)(own:List Str)(ix:List Nat)(C:Addr)(s:Shared)(H:Hp)(fp:List Addr):Cx :=
 { X with N:=nIn X.N own ix,s₀:=s,H₀:=H,env:=compEnvC scope (cellsFrom (C+1) scope.names (oR X.env scope.names [])) C X.env,outer:=X.stack,stack:=X.stack,ex:=fp,fn:=λx=>scope.names.lookup x==some .cell,pn:=[] }
def U8(Kc:Scope)(oN:List Str)(scope:Scope)(ix:List Nat):Bool :=
 scope.kind==.function &&
 (scope.names.all λy=>(y.2 != .cell||scope.names.lookup y.1==some .cell)&&(y.2 != .local||scope.names.lookup y.1==some .local)&&(y.2 != .free||(Kc.names.lookup y.1==some .cell||Kc.names.lookup y.1==some .free))) &&
 ix.all λj=>match oN[j]? with
  |some x=>scope.names.lookup x==some .free
  |none=>false
structure jo(Kc:Scope)(oN:List Str)(scope:Scope)(ix:List Nat):Prop where
 kind:scope.kind=.function
 clk:∀y∈scope.names,y.2=.cell->scope.names.lookup y.1=some .cell
 nm:∀y∈scope.names,y.2=.local->scope.names.lookup y.1=some .local
 fr:∀y∈scope.names,y.2=.free->Kc.names.lookup y.1=some .cell\/Kc.names.lookup y.1=some .free
 ix:∀j∈ix,∃x,oN[j]?=some x/\scope.names.lookup x=some .free
theorem zI2(h:U8 Kc oN scope ix=true):jo Kc oN scope ix:=by
 unfold U8 at h
 rw[aar,aar,all_eq_true,all_eq_true] at h
 obtain⟨⟨h1,h2⟩,h3⟩:=h
 refine⟨abu h1,λy hy e=>?_,λy hy e=>?_,λy hy e=>?_,λj hj=>?_⟩
 ·have q:=h2 y hy
  rw[aar,aar] at q
  rcases abp _ _▸q.1.1 with z|z
  ·exact absurd e (bne_iff_ne.mp z)
  ·exact abu z
 ·have q:=h2 y hy
  rw[aar,aar] at q
  rcases abp _ _▸q.1.2 with z|z
  ·exact absurd e (bne_iff_ne.mp z)
  ·exact abu z
 ·have q:=h2 y hy
  rw[aar,aar] at q
  rcases abp _ _▸q.2 with z|z
  ·exact absurd e (bne_iff_ne.mp z)
  ·rcases abp _ _▸z with z|z
   ·exact .inl (abu z)
   ·exact .inr (abu z)
 ·have q:=h3 j hj
  cases e:oN[j]? with
  |none=>rw[e] at q;cases q
  |some x=>rw[e] at q;exact⟨x,rfl,abu q⟩
section
variable{X:Cx}{pins:List (Addr×Obj)}{σ:St}{H:Hp}{s:Shared}{scope:Scope}{own:List Str}{ix:List Nat}
theorem Xu(I:Inv X pins σ H s)(sc:jo X.env.scope X.N scope ix):∀y∈scope.names,y.2=.free->∃c,X.env.cells.lookup y.1=some c:=λy hy e=>by
 rcases sc.fr y hy e with q|q
 ·exact I.ok.has y.1 (.inl q)
 ·exact I.ok.has y.1 (.inr q)
theorem zL0(I:Inv X pins σ H s)(sc:jo X.env.scope X.N scope ix)(e:(oR X.env scope.names []).lookup x=some c):X.env.cells.lookup x=some c:=by
 have h1:=Xo (env:=X.env) scope.names [] (λx c q=>by simp at q) x c e
 rcases Xp (env:=X.env) scope.names [] x c e with q|q
 ·simp at q
 ·obtain⟨c',hc⟩:=Xu I sc (x,.free) q rfl
  have hc':X.env.cells.lookup x=some c':=hc
  rw[hc'] at h1
  rw[hc']
  exact congrArg some h1
theorem zT3(I:Inv X pins σ H s)(sc:jo X.env.scope X.N scope ix)(hx:(x,aa3)∈scope.names)(e:X.env.cells.lookup x=some c):(oR X.env scope.names []).lookup x=some c:=by
 have h1:=U7 (env:=X.env) scope.names [] x (.inr hx)
 obtain⟨c',hc⟩:=abl.mp h1
 rw[hc]
 have:=zL0 I sc hc
 rw[e] at this
 exact this.symm
theorem uU(I:Inv X pins σ H s)(sc:jo X.env.scope X.N scope ix)(e:(cellsFrom (C+1) scope.names (oR X.env scope.names [])).lookup x=some c):(x,c)∈cellsFrom (C+1) scope.names []\/X.env.cells.lookup x=some c:=by
 rw[xP,lookup_append] at e
 cases h:(cellsFrom (C+1) scope.names []).lookup x with
 |some d=>rw[h] at e;cases e;exact .inl (abq h)
 |none=>rw[h] at e;exact .inr (zL0 I sc e)
theorem yr(h:(iJ σ n ix)[i]?=some (some v)):∃j,ix[i-n]?=some j/\σ[j]?=some (some v)/\n<=i:=by
 unfold iJ at h
 by_cases hi:i<n
 ·rw[getElem?_append_left (by simpa using hi),getElem?_replicate] at h
  rw[if_pos hi] at h
  cases h
 ·rw[getElem?_append_right (by simpa using hi),List.length_replicate,getElem?_map] at h
  cases e:ix[i-n]? with
  |none=>rw[e] at h;cases h
  |some j =>
   rw[e] at h
   have h':(σ[j]?).getD none=some v:=aas h
   refine⟨j,rfl,?_,by omega⟩
   cases e2:σ[j]? with
   |none=>rw[e2] at h';cases h'
   |some o=>rw[e2] at h';exact congrArg some h'
theorem Inv.comp{h₁:Heap}(I:Inv X pins σ H s)(sc:jo X.env.scope X.N scope ix)(fo:∀b∈fp,lE X pins H b)(QL:∀b∈fp,b<s.heap.objs.size)(hC:s.heap.objs.size<=C)(hns:h₁.Ns C m₀)(hk:∀b o,s.heap.get? b=some o->h₁.get? b=some o)(co:CellsOk h₁ (C+1) (cellsFrom (C+1) scope.names [])):Inv (dG X scope own ix C s H fp) [] (iJ σ own.length ix) H { s with heap:=h₁,toks:=t' }:=by
 have lt:∀{b:Addr},b<s.heap.objs.size->b≠C:=λ{b} hb=>aau (aaw hb hC)
 have QM:∀{x:Str}{c:Addr},X.env.cells.lookup x=some c->c<C+1:=λ{x c} e=>by
  obtain⟨v,q⟩:=I.cell x c e
  exact ady (aaw q.lt hC)
 have cellK:∀{x:Str}{c:Addr},X.env.cells.lookup x=some c->∀v,s.heap.IsCell c v->h₁.IsCell c v:=λ{x c} _ v ⟨o,ho,hd⟩=>⟨o,hk _ _ ho,hd⟩
 refine⟨⟨I.ok.mod,sc.kind,I.ok.glob,I.ok.blt,hC,λx y c h1 h2=>?_,λx hx=>?_,λx c h e=>by
  have h':scope.names.lookup x=some .cell:=abu h
  have e':(cellsFrom (C+1) scope.names (oR X.env scope.names [])).lookup x=some c:=e
  rw[xP,lookup_append] at e'
  obtain⟨d,hd⟩:=abl.mp (ac8 scope.names (C+1) [] (.inl h'))
  rw[hd] at e'
  cases e'
  exact aa0 hC (aeg (co.empty _ _ (abq hd)).2),I.ok.hd,I.ok.frames,.inl rfl,λb hb=>?_,I.bs,aa0 I.ok.Cv I.sz,λb o e hb=>?_,λb hb z=>?_,I.stack,I.sy⟩,
  rfl,I.bare,Un.kept hk,⟨m₀,hns,λi x v h1 h2 h3=>?_⟩,λx c h=>?_,I.hok.fresh hC,λx c h=>?_,λp hp=>?_,I.hok.kept hk,?_⟩
 ·rcases uU I sc h1 with q1|q1
  ·rcases uU I sc h2 with q2|q2
   ·exact name_of_addr co.apart q1 q2
   ·exact absurd (aaw (QM q2) (co.empty _ _ q1).2) (abx _)
  ·rcases uU I sc h2 with q2|q2
   ·exact absurd (aaw (QM q1) (co.empty _ _ q2).2) (abx _)
   ·exact I.ok.inj x y c q1 q2
 ·have hm:(x,aa3)∈scope.names\/(x,abz)∈scope.names:=by
   rcases hx with hx|hx
   ·exact Xq (env:=X.env) (.inl rfl) hx
   ·exact Xq (env:=X.env) (.inr rfl) hx
  refine abl.mp ?_
  show((cellsFrom (C+1) scope.names (oR X.env scope.names [])).lookup x).isSome=true
  rcases hm with hm|hm
  ·exact ac8 _ _ _ (.inr (U7 (env:=X.env) scope.names [] x (.inr hm)))
  ·exact ac8 _ _ _ (.inl (sc.clk _ hm rfl))
 ·obtain⟨f0,f1,f2,f3,f4,f5⟩:=fo b hb
  refine⟨lt (QL b hb),λx c h=>?_⟩
  rcases uU I sc h with q|q
  ·exactλz=>absurd (aaw (QL b hb) (aa0 hC (aeg (z▸(co.empty _ _ q).2)))) (abx _)
  ·exact f4 x c q
 ·obtain⟨f0,f1,f2,f3,f4,f5⟩:=fo b hb
  rcases f3 with z|z
  ·exact I.ok.wz b o e z
  ·exact absurd (aaw (lt_size e) (aa0 I.ok.Cv z)) (abx _)
 ·obtain⟨f0,f1,f2,f3,f4,f5⟩:=fo b hb
  rcases mem_cons.mp (I.pI b z) with z|z
  ·exact f1 z
  ·exact f2 z
 ·obtain⟨j,hj,hv,hn⟩:=yr h2
  obtain⟨y,hy,hf⟩:=sc.ix j (mem_of_getElem? hj)
  have e:y=x:=by
   have h1':(nIn X.N own ix)[i]?=some x:=h1
   unfold nIn at h1'
   rw[getElem?_append_right hn,getElem?_map,hj] at h1'
   have Dl:X.N.getD j adx=x:=aas h1'
   rw[getD_eq_getElem?_getD,hy] at Dl
   exact Dl
  subst e
  have hm:(y,aa3)∈scope.names:=abq hf
  have vis:Qd X.env.scope y:=by
   rcases sc.fr _ hm rfl with q|q
   ·exact .inr (.inl q)
   ·exact .inr (.inr q)
  obtain⟨m,_,hl⟩:=I.loc
  obtain⟨u,r,l⟩:=hl j y v hy hv vis
  refine⟨u,r,?_⟩
  rcases l with⟨hk',_⟩|⟨_,c,hc,hcell⟩
  ·have hk'':X.env.scope.names.lookup y=some .local:=hk'
   rcases sc.fr _ hm rfl with q|q
   ·have q':X.env.scope.names.lookup y=some .cell:=q
    rw[hk''] at q';cases q'
   ·have q':X.env.scope.names.lookup y=some .free:=q
    rw[hk''] at q';cases q'
  ·refine .inr ⟨zDu (env:=X.env) hf,c,?_,cellK hc _ hcell⟩
   show(cellsFrom (C+1) scope.names (oR X.env scope.names [])).lookup y=some c
   rw[xP,lookup_append,zT3 I sc hm hc]
   cases e:(cellsFrom (C+1) scope.names []).lookup y with
   |none=>rfl
   |some d =>
    have q:=sc.clk _ (Xr _ _ _ _ (abq e)) rfl
    have q':scope.names.lookup y=some .cell:=q
    rw[hf] at q';cases q'
 ·rcases uU I sc h with q|q
  ·exact⟨_,(co.empty _ _ q).1⟩
  ·obtain⟨v,z⟩:=I.cell x c q
   exact⟨v,cellK q v z⟩
 ·rcases uU I sc h with q|q
  ·exact I.hok.fresh (aa0 hC (aeg (co.empty _ _ q).2))
  ·exact I.gM x c q
 ·exact absurd (show p∈([]:List (Addr×Obj)) from hp) (by simp)
 ·show(iJ σ own.length ix).length=(nIn X.N own ix).length
  unfold iJ nIn
  simp
end
def yt(X:Cx)(ifs:List Expr)(t:TT):Prop :=
 ∀(pins:List (Addr×Obj))(s:Shared)(σ:St)(H:Hp)(Q:Bool->Hp->Prop),Inv X pins σ H s->t σ H Q ->
  wpAny (model X.prog X.w) X.A (forIn ifs true λc r=>if r=true then do let ok <-isTrue c X.env (eval c X.env);pure (acf ok) else pure (acf r)) (TP X pins σ Q) X.xe s
def tW:TT:=λ_ H Q=>Q true H
theorem wJ:yt X [] tW:=λ_ _ _ H _ I h=>wpAny_tests_nil ⟨H,I,h⟩
theorem QS(h:PT X c t):yt X [c] t:=λpins s σ H Q I q=>wpAny_tests_one (h pins s σ H Q I q)
def Om(n:Nat)(ix:List Nat)(g:TG)(tc:TT)(te:TE)(σ:St)(Q:VK)(J:It)(H1:Hp):Prop :=
 ∃W:Nat->Nat->List V->St->Hp->Prop,(∃m,W 0 m [] (iJ σ n ix) H1)/\∀i m ys σ2 H2,W i m ys σ2 H2 ->
  (J.stop i H2/\ys.length<=sizeLine/\∀p,H2 p=none->Q (.ref p) (upd H2 p (.lst ys))) \/
  (J.go i H2/\ys.length<sizeLine/\∃N:List V->St->Hp->Prop,(∀ys' σ' H',N ys' σ' H'->∃m',m'<m/\W (i+1) m' ys' σ' H') /\
   ∀x H3,J.Og i H2 x H3->g x σ2 H3 λσ4 H4=>tc σ4 H4 λb H5=>if b=true then te σ4 H5 λy H6=>N (ys++[y]) σ4 H6 else N ys σ4 H5)
def Oo(n:Nat)(ix:List Nat)(wi:TI)(g:TG)(tc:TT)(te:TE):TE:=λσ H Q=>wi σ H (Om n ix g tc te σ Q)
def Xv(X:Cx)(pins:List (Addr×Obj))(σ:St)(Q:VK)(acc:Value)(C:Addr)(s':Shared):Prop :=
 ∃p H',acc=.ref p/\Inv X pins σ H' s'/\(∃m,s'.heap.Ns C m)/\lE X pins H' C/\Q (.ref p) H'
theorem Xw{X:Cx}{α:Type}{t:Sem α}{Q Q':α->Shared->Prop}(hx:X.xe=λ_ _=>False)(h:wpAny M A t Q X.xe s)(hQ:∀a s,Q a s->Q' a s):wpAny M A t Q' E s :=
 ab4 h hQ λe s' z=>by rw[hx] at z;exact z.elim
section
variable{X:Cx}{elt tg iter:Expr}{ifs:List Expr}{scope:Scope}{pos:Pos}{own:List Str}{ix:List Nat}{wi:TI}{g:TG}{tc:TT}{te:TE}
theorem zGk{RR:Value->Addr->Result->Shared->Prop}(hx:X.xe=λ_ _=>False)(hc:X.calm=true)(sc:jo X.env.scope X.N scope ix)(I:Inv X pins σ H s)(T:Turn X.prog X.w X.K tg J fp it tn)(st:tn 0 s.heap)(fo:∀b∈fp,lE X pins H b)(hg:∀C s H fp,PG (dG X scope own ix C s H fp) tg g)(hif:∀C s H fp,yt (dG X scope own ix C s H fp) ifs tc)(he:∀C s H fp,PE (dG X scope own ix C s H fp) elt te)(rd:Om own.length ix g tc te σ Q J H)(hRR:∀acc C s',Xv X pins σ Q acc C s'->RR acc C (.ok .next) s') :
  wpAny (model X.prog X.w) X.A (newList []) (λacc s₃=>wpAny (model X.prog X.w) X.A (newFunctionEnv scope X.env.globals (oR X.env scope.names []) [] X.env.qual none .none (some X.env)) (λcenv s₄ =>
   codeAny (model X.prog X.w) X.A (.compStart (.ListComp elt [⟨tg,iter,ifs,0⟩] scope pos) 0 (.ref it) acc { cenv with scope:=relabel scope X.env }) (RR acc cenv.locals) s₄) E s₃) E s:=by
 refine abr (zD7 (λh₁ hns₁ hsb₁ co=>?_))
 dsimp only at hns₁ hsb₁ co ⊢
 generalize hD':s.heap.objs.size=D at hns₁ hsb₁ co ⊢
 generalize hH2:s.heap.push { cls:=.type "list",dict:=none,data:=.seq ([]:List Value).toArray }=G at hns₁ hsb₁ co ⊢
 generalize hC':G.objs.size=C at hns₁ hsb₁ co ⊢
 have hC:C=D+1:=by rw[<-hC',<-hH2,size_push,hD']
 have hDC:D≠C:=by rw[hC];exact aau (ab8 _)
 have hle:s.heap.objs.size<=C:=by rw[hC,hD'];exact ab6 _
 have old:∀b o,s.heap.get? b=some o->h₁.get? b=some o:=λb o e=>by
  exact hsb₁ b o (hH2▸get?_push_of_some _ e)
 have oD:h₁.get? D=some { cls:=.type "list",data:=.seq ([]:List Value).toArray 0 }:=by
  refine hsb₁ D _ ?_
  rw[<-hH2,<-hD']
  exact get?_push_size _ rfl
 have QL:∀b∈fp,b<s.heap.objs.size:=λb hb=>by
  obtain⟨o,e,_⟩:=T.obj 0 _ st b hb
  exact lt_size e
 have nDf:∀b∈fp,b≠D:=λb hb=>by rw[<-hD'];exact aau (QL b hb)
 have sD:s.heap.get? D=none:=by
  cases e:s.heap.get? D with
  |none=>rfl
  |some o=>exact absurd (lt_size e) (by rw[hD'];exact abx _)
 have hDn:H D=none:=I.hok.fresh (by rw[hD'];exact aaq _)
 have I0:Inv (dG X scope own ix C s H fp) [] (iJ σ own.length ix) H { s with heap:=h₁ }:=I.comp sc fo QL hle hns₁ old co
 have st0:tn 0 h₁:=T.keep 0 _ _ st λb _ o e=>old b o e
 have hx':(dG X scope own ix C s H fp).xe=λ_ _=>False:=hx
 have QT:D≠(dG X scope own ix C s H fp).env.locals:=hDC
 have Dex:D∈(dG X scope own ix C s H fp).ex\/(dG X scope own ix C s H fp).s₀.heap.objs.size<=D:=.inr (by show s.heap.objs.size<=D;rw[hD'];exact aaq _)
 have Dfs:D∉(dG X scope own ix C s H fp).fs:=I0.Ju (a:=D) |> λk=>λz=>by
  have z':D∈frs X.stack:=z
  rcases mem_cons.mp (I.pI D z') with q|q
  ·exact absurd (q▸I.lt) (by rw[hD'];exact abx _)
  ·exact I.Ju (by rw[hD'];exact aaq _) q
 have QV:∀x c,(dG X scope own ix C s H fp).env.cells.lookup x=some c->c≠D:=λx c e z=>by
  rcases uU I sc e with q|q
  ·have w1:=(co.empty _ _ q).2
   rw[z,hC] at w1
   omega
  ·obtain⟨v,q⟩:=I.cell x c q
   exact absurd (aaw q.lt (by rw[z,hD'];exact aaq _)) (abx _)
 have Xx:∀{H':Hp}{pl:List (Addr×Obj)},(∀b∈fp,H' b=none)->(∀p∈pl,p.1=D)->∀b∈fp,lE (dG X scope own ix C s H fp) pl H' b:=λ{H' pl} hn hp b hb=>by
  obtain⟨f0,f1,f2,f3,f4,f5⟩:=fo b hb
  refine⟨hn b hb,(I0.ok.Ui b hb).1,I0.ok.w5 b hb,.inl hb,(I0.ok.Ui b hb).2,λp hp' z=>?_⟩
  rcases mem_append.mp hp' with q|q
  ·exact absurd (show p∈([]:List (Addr×Obj)) from q) (by simp)
  ·exact nDf b hb (by rw[<-z];exact hp p q)
 obtain⟨W,⟨m0,w0⟩,step⟩:=rd
 have loop:codeAny (model X.prog X.w) X.A (.compLoop (.ListComp elt [⟨tg,iter,ifs,0⟩] scope pos) 0 (.ref it) (.ref D) (dG X scope own ix C s H fp).env) (RR (.ref D) C) { s with heap:=h₁ }:=by
  refine zI4 (λn s'=>∃i ys σ' H' its k,Inv (dG X scope own ix C s H fp) [] σ' H' s'/\tn i s'.heap/\(∀b∈fp,H' b=none)/\H' D=none/\s'.heap.get? D=some { cls:=.type "list",data:=.seq (toArray its) k }/\Vals ys its/\W i n ys σ' H') ?_ m0
   ⟨0,[],_,H,[],0,I0,st0,λb hb=>(fo b hb).1,hDn,oD,.nil,w0⟩
  rintro n s1 ⟨i,ys,σ1,H1,its,k,I1,tn1,U9,D1,o1,Kd,w1⟩
  have J1:Inv (dG X scope own ix C s H fp) [(D,{ cls:=.type "list",data:=.seq (toArray its) k })] σ1 H1 s1:=I1.jJ λp hp=>by
   have e:p=(D,{ cls:=.type "list",data:=.seq (toArray its) k }):=by simpa using hp
   subst e
   exact⟨o1,D1,QT,Dfs,λv z=>by cases z⟩
  have single:∀p∈[((D,{ cls:=.type "list",data:=.seq (toArray its) k }):Addr×Obj)],p.1=D:=λp hp=>by
   have e:p=(D,{ cls:=.type "list",data:=.seq (toArray its) k }):=by simpa using hp
   rw[e]
  rcases step i n ys σ1 H1 w1 with⟨stop,hz,qn⟩|⟨go,hz,N,hN,stp⟩
  ·refine aP (T.done (dG X scope own ix C s H fp) rfl rfl rfl hc i _ s1 σ1 H1 _ J1 (Xx U9 single) tn1 stop) λr s2 ⟨hr,I2⟩=>?_
   subst hr
   obtain⟨e2,_⟩:=I2.pin (D,{ cls:=.type "list",data:=.seq (toArray its) k }) (mem_append_right _ (by simp))
   obtain⟨m2,Xy,_⟩:=I2.loc
   refine hRR _ _ _ ⟨D,upd H1 D (.lst ys),rfl,?_,⟨m2,Xy⟩,?_,qn D D1⟩
   ·refine I.call' (ch:=fp) I2.os (Un.track I2.base sD hDn) (I2.hok.track D1 ⟨hz,its,k,Kd,e2⟩) I2.bare λb hb=>?_
    obtain⟨f0,f1,f2,f3,f4,f5⟩:=fo b hb
    exact⟨f3,f1,f4,f5⟩
   ·refine I.lF hle ?_
    rw[zP hDC.symm]
    exact I2.free
  ·refine aP (T.item (dG X scope own ix C s H fp) rfl rfl rfl hc i _ s1 σ1 H1 _ J1 (Xx U9 single) tn1 go) λr s2 ⟨u,hr,h2⟩=>?_
   subst hr
   refine aP h2 λ_ s3 ⟨x,H3,I3,rx,y3,Xz,Uu⟩=>?_
   have I3':=I3.pinned (Xx Uu single) (T.obj _ _ Xz)
   refine Xw hx' (hg C s H fp _ s3 σ1 H3 x u _ I3' rx (stp x H3 y3)) λ_ s4 ⟨σ4,H4,I4,q4⟩=>?_
   refine Xw hx' (hif C s H fp _ s4 σ4 H4 _ I4 q4) λb s5 ⟨H5,I5,q5⟩=>?_
   have back:∀{σ7:St}{H7:Hp}{s7:Shared},Inv (dG X scope own ix C s H fp) ([(D,{ cls:=.type "list",data:=.seq (toArray its) k })]++G_ fp s3.heap) σ7 H7 s7 ->
     tn (i+1) s7.heap/\(∀b∈fp,H7 b=none)/\H7 D=none/\s7.heap.get? D=some { cls:=.type "list",data:=.seq (toArray its) k }:=λ{σ7 H7 s7} I7=>by
    have QW:=I7.pin (D,{ cls:=.type "list",data:=.seq (toArray its) k }) (mem_append_right _ (mem_append_left _ (by simp)))
    refine⟨T.keep _ _ _ Xz λb hb o e=>(I7.pin (b,o) (mem_append_right _ (mem_append_right _ (vP hb e)))).1,λb hb=>?_,QW.2.1,QW.1⟩
    obtain⟨o,e,d⟩:=T.obj _ _ Xz b hb
    exact(I7.pin (b,o) (mem_append_right _ (mem_append_right _ (vP hb e)))).2.1
   cases b with
   |false =>
    obtain⟨m',hm,w'⟩:=hN _ _ _ (show N ys σ4 H5 from q5)
    obtain⟨b1,b2,b3,b4⟩:=back I5
    exact⟨m',hm,i+1,ys,σ4,H5,its,k,I5.jJ (λp hp=>absurd hp (by simp)),b1,b2,b3,b4,Kd,w'⟩
   |true =>
    rw[if_pos rfl]
    refine Xw hx' (he C s H fp _ s5 σ4 H5 _ I5 q5) λv s6 ⟨y,H6,I6,ry,q6⟩=>?_
    obtain⟨m',hm,w'⟩:=hN _ _ _ q6
    obtain⟨b1,b2,b3,b4⟩:=back I6
    have zl:its.length=ys.length:=Kd.length.symm
    refine ae7 F.slot_list_append ⟨_,b4,rfl⟩ F.entry_list_append (F.args_list_append_2 _ _) (PySem.list_append D its.toArray k v (by rw[size_toArray];omega)) ⟨b4,?_⟩
    have q:=PySem.IsL.update b4 (λxs=>xs.push v)
    have keep:∀b o,b≠D->s6.heap.get? b=some o->(s6.heap.update D (ac1 λxs=>xs.push v)).get? b=some o:=λb o hb e=>(get?_update_other s6.heap _ (acg hb)).trans e
    refine⟨m',hm,i+1,ys++[y],σ4,H6,its++[v],(if(its.toArray.push v).size==its.toArray.size then k else k+1),?_,T.keep _ _ _ b1 (λb hb o e=>keep b o (nDf b hb) e),b2,b3,?_,Kd.append (.cons ry .nil),w'⟩
    ·exact(I6.jJ (GX:=[]) λp hp=>absurd hp (by simp)).turned (t':=s6.toks) keep b3 QT Dex QV λp hp=>absurd (show p∈([]:List (Addr×Obj)) from hp) (by simp)
    ·rw[show(its++[v]).toArray=its.toArray.push v by simp]
     exact q
 exact codeAny_compStart_list loop (T.self X.A 0 _ _ _ st0 loop)
theorem BK(hx:X.xe=λ_ _=>False)(hc:X.calm=true)(ho:U8 X.env.scope X.N scope ix=true)(hi:PI X tg iter wi)(hg:∀C s H fp,PG (dG X scope own ix C s H fp) tg g)(hif:∀C s H fp,yt (dG X scope own ix C s H fp) ifs tc)(he:∀C s H fp,PE (dG X scope own ix C s H fp) elt te)(hs:∀x,foldedSetIterable iter X.env x=pure x:=by intro _;rfl):PE X (.ListComp elt [⟨tg,iter,ifs,0⟩] scope pos) (Oo own.length ix wi g tc te):=by
 intro pins s σ H Q I h
 have sc:=zI2 ho
 rw[eval_ListComp]
 refine wpAny_comprehension_free (use:=none) rfl hs (zCz (Xu I sc)) sc.kind sc.nm (aP (hi pins s σ H _ I h) λv s1 h1=>aP h1 λitv s2 h2=>?_)
 obtain⟨it,fp,tn,J,H2,e,I2,T,st2,f2,rd⟩:=h2
 subst e
 refine zGk (RR:=λacc C=>compPost (model X.prog X.w) X.A X.xe none (EP X pins σ Q) acc C) hx hc sc I2 T st2 f2 hg hif he rd ?_
 rintro acc C s' ⟨p,H',rfl,I',⟨m,hns⟩,fC,q⟩
 obtain⟨f0,f1,f2,f3,f4,f5⟩:=fC
 exact⟨m,hns,λh' hs'=>⟨.ref p,H',I'.turned (t':=s'.toks) (λb o hb e=>(hs'.2 b hb).trans e) f0 f1 f3 f4 f5,rfl,q⟩⟩
theorem BL{spos:Pos}(hN:X.N.Nodup)(hi':X.N[i]?=some x)(Oq:X.env.scope.names.lookup x=some .local)(hx:X.xe=λ_ _=>False)(hc:X.calm=true)(ho:U8 X.env.scope X.N scope ix=true)(hi:PI X tg iter wi)(hg:∀C s H fp,PG (dG X scope own ix C s H fp) tg g)(hif:∀C s H fp,yt (dG X scope own ix C s H fp) ifs tc)(he:∀C s H fp,PE (dG X scope own ix C s H fp) elt te)(hsw:swapsWith (.ListComp elt [⟨tg,iter,ifs,0⟩] scope pos) (some (.Name x pos')) spos.line X.env=pure true:=by rfl)(hs:∀x,foldedSetIterable iter X.env x=pure x:=by intro _;rfl):PS X (.Assign [.Name x pos'] (.ListComp elt [⟨tg,iter,ifs,0⟩] scope pos) spos) (lD (Oo own.length ix wi g tc te) (ou i)):=by
 intro pins s σ H D I h
 have sc:=zI2 ho
 rw[exec_Assign_Name_used _ _ _ _ hsw]
 refine aam (ae3 (aam ?_))
 show wpAny _ X.A (do let _ <-comprehension (.ListComp elt [⟨tg,iter,ifs,0⟩] scope pos) scope X.env _ (newList []) false (eval iter X.env) (some (assign (.Name x pos') X.env))) _ _ s
 refine aam (ab4 (wpAny_comprehension_free (use:=some (assign (.Name x pos') X.env)) (Q:=λ_ s'=>SP X pins D .next s') rfl hs (zCz (Xu I sc)) sc.kind sc.nm
  (aP (hi pins s σ H _ I h) λv s1 h1=>aP h1 λitv s2 h2=>?_)) (λ_ s' hq=>aan (aan hq)) λ_ _ e=>e)
 obtain⟨it,fp,tn,J,H2,e,I2,T,st2,f2,rd⟩:=h2
 subst e
 refine zGk (RR:=λacc C=>compPost (model X.prog X.w) X.A X.xe (some (assign (.Name x pos') X.env)) (λ_ s'=>SP X pins D .next s') acc C) hx hc sc I2 T st2 f2 hg hif he rd ?_
 rintro acc C s' ⟨p,H',rfl,I',⟨m,hns⟩,fC,q⟩
 obtain⟨f0,f1,f2,f3,f4,f5⟩:=fC
 show wpAny _ X.A (assign (.Name x pos') X.env (.ref p)) _ _ _
 refine wpAny_assign_Name (zHz (v:=.ref p) I' hN hi' (.inl Oq) rfl (λs'' I'' ⟨a,hsa,ha⟩=>?_) (.inr Oq))
 have haC:C≠a:=by
  rcases ha with ha|ha
  ·rw[ha];exact f1
  ·exact(f4 x a ha).symm
 exact⟨m,hns.sameBut hsa haC,λh' hs'=>⟨_,H',I''.turned (t':=s''.toks) (λb o hb e=>(hs'.2 b hb).trans e) f0 f1 f3 f4 f5,q⟩⟩
end
section
variable{n:Nat}{ix:List Nat}{g:TG}{tc:TT}{te:TE}{σ:St}{Q:VK}{H:Hp}
theorem zQ9{K:PySem.W.Frag}{a:Addr}{xs:List V}(Pv:Nat->List V->St->Hp->Prop)(h0:Pv 0 [] (iJ σ n ix) H)(hl:∀i ys σ H,i<=xs.length->Pv i ys σ H->aV K H a xs/\ys.length<=i)(hz:xs.length<sizeLine)(hs:∀i x ys σ H,xs[i]?=some x->Pv i ys σ H->g x σ H λσ4 H4=>tc σ4 H4 λb H5=>if b=true then te σ4 H5 λy H6=>Pv (i+1) (ys++[y]) σ4 H6 else Pv (i+1) ys σ4 H5)(hd:∀ys σ H,Pv xs.length ys σ H->∀p,H p=none->Q (.ref p) (upd H p (.lst ys))):Om n ix g tc te σ Q (Oi K a) H:=by
 refine⟨λi m ys σ H=>m=xs.length-i/\i<=xs.length/\Pv i ys σ H,⟨xs.length,by simp,aa5 _,h0⟩,?_⟩
 rintro i m ys σ H ⟨rfl,hi,p⟩
 obtain⟨q,hy⟩:=hl i ys σ H hi p
 by_cases hlt:i<xs.length
 ·refine .inr ⟨⟨xs,xs[i],q,by simp[hlt]⟩,by omega,Pv (i+1),λys' σ' H' p'=>⟨xs.length-(i+1),by omega,rfl,hlt,p'⟩,λx H' y=>?_⟩
  obtain⟨e,y⟩:=y
  subst e
  exact hs i x ys σ _ (y xs q) p
 ·have e:i=xs.length:=by omega
  subst e
  exact .inl ⟨⟨xs,q,aaq _⟩,by omega,hd ys σ H p⟩
theorem zT0{K:PySem.W.Frag}{a:Addr}{xs:List V}(Pv:Nat->List V->St->Hp->Prop)(h0:Pv 0 [] (iJ σ n ix) H)(hl:∀i ys σ H,i<=xs.length->Pv i ys σ H->cI K H a xs/\ys.length<=i)(hz:xs.length<sizeLine)(hs:∀i x ys σ H,xs[i]?=some x->Pv i ys σ H->g x σ H λσ4 H4=>tc σ4 H4 λb H5=>if b=true then te σ4 H5 λy H6=>Pv (i+1) (ys++[y]) σ4 H6 else Pv (i+1) ys σ4 H5)(hd:∀ys σ H,Pv xs.length ys σ H->∀p,H p=none->Q (.ref p) (upd H p (.lst ys))):Om n ix g tc te σ Q (Ut K a) H:=by
 refine⟨λi m ys σ H=>m=xs.length-i/\i<=xs.length/\Pv i ys σ H,⟨xs.length,by simp,aa5 _,h0⟩,?_⟩
 rintro i m ys σ H ⟨rfl,hi,p⟩
 obtain⟨q,hy⟩:=hl i ys σ H hi p
 by_cases hlt:i<xs.length
 ·refine .inr ⟨⟨xs,xs[i],q,by simp[hlt]⟩,by omega,Pv (i+1),λys' σ' H' p'=>⟨xs.length-(i+1),by omega,rfl,hlt,p'⟩,λx H' y=>?_⟩
  obtain⟨e,y⟩:=y
  subst e
  exact hs i x ys σ _ (y xs q) p
 ·have e:i=xs.length:=by omega
  subst e
  exact .inl ⟨⟨xs,q,aaq _⟩,by omega,hd ys σ H p⟩
end
def Ite(K:PySem.W.Frag)(a:Addr):It :=
 ⟨λi H=>∃xs x,aV K H a xs/\xs[i]?=some x,λi H v H'=>∃t x,v=.ref t/\H t=none/\H'=upd H t (.tup [.int i,x])/\∀xs,aV K H a xs->xs[i]?=some x,λi H=>∃xs,aV K H a xs/\xs.length<=i⟩
theorem zOi{P:Program}{w:World}{K:PySem.W.Frag}{elts:List Expr}{k:Nat}{tp:Pos}(a e it:Addr)(hne:e≠it) :
  Turn P w K (.Tuple elts k tp) (Ite K a) [e,it] e (λi h=>(∃old,IsEnum h e it ((i:Nat):Int) old)/\h.IsListIter it a i) where
 mem:=by simp
 obj:=λi h st b hb=>by
  obtain⟨⟨old,he⟩,o,ho,c,d⟩:=st
  have hb':b=e\/b=it:=by simpa using hb
  rcases hb' with rfl|rfl
  ·exact⟨_,he,λv z=>by
    have z':afg _=Data.cell v:=z
    cases z'⟩
  ·exact⟨o,ho,λv z=>by rw[d] at z;cases z⟩
 keep:=λi h h' st k=>⟨let⟨old,he⟩:=st.1;⟨old,k e (by simp) _ he⟩,st.2.at λo q=>k it (by simp) o q⟩
 item:=by
  intro X hP hw hK hc i pins s σ H E I hf st hg
  subst hP hw hK
  obtain⟨xs,x,hq,hx⟩:=hg
  obtain⟨its,rv,p,hz⟩:=I.list hq
  obtain⟨u,hu,ru⟩:=rv.get hx
  obtain⟨⟨old,he⟩,hit⟩:=st
  obtain⟨f0,f1,f2,f3,f4,f5⟩:=hf e (by simp)
  obtain⟨g0,g1,g2,g3,g4,g5⟩:=hf it (by simp)
  refine wpAny_pyNext_enum_item he hit p.isList (x:=u) (by simpa using hu) hne λh₁ heo hit₁ ht₁ hz₁ hk₁=>?_
  refine⟨_,rfl,wpAny_letOwnedTupleGo_enum (s:={ s with heap:=h₁,toks:=s.toks+1 }) heo λh₂ he₂ hs₂=>?_⟩
  replace hs₂:SameBut e h₁ h₂:=hs₂
  have hel:e<s.heap.objs.size:=lt_size he
  have nT:H s.heap.objs.size=none:=I.hok.fresh (aaq _)
  have ht₂:h₂.get? s.heap.objs.size=some { cls:=.type "tuple",data:=.seq #[.int i s.toks,u] }:=(hs₂.2 _ (adb hel)).trans ht₁
  have kk:∀b o,b≠e->b≠it->s.heap.get? b=some o->h₂.get? b=some o:=λb o h1 h2 q=>(hs₂.2 b h1).trans (hk₁ b o h1 h2 q)
  have lt:∀b o,s.heap.get? b=some o->b≠s.heap.objs.size:=λb o q=>aau (lt_size q)
  have there:∀b o,s.heap.get? b=some o->b∉[e,it]->∃o',h₂.get? b=some o':=λb o q hx=>⟨o,kk b o (λz=>hx (by simp[z])) (λz=>hx (by simp[z])) q⟩
  have U:Un (frs X.stack) [e,it] H (upd H s.heap.objs.size (.tup [.int i,x])) s.heap h₂ :=
   ⟨λb o q _ _ hx=>kk b o (λz=>hx (by simp[z])) (λz=>hx (by simp[z])) q,λb o q _ _ hx=>⟨o.slots,kk b o (λz=>hx (by simp[z])) (λz=>hx (by simp[z])) q⟩,
    λb o q n _=>by rw[zP (lt b o q)];exact n,there,λb ys q=>by rw[zP (zN q nT)];exact q,λb o ys q=>by rw[zP (zN q nT)];exact q,λb ps q=>⟨#[],by rw[zP (zN q nT),q];simp⟩⟩
  have ok:gJ X.prog X.w (upd H s.heap.objs.size (.tup [.int i,x])) h₂:=λb o q=>by
   by_cases hb:b=s.heap.objs.size
   ·subst hb
    rw[zJ] at q
    cases q
    exact⟨by show 2<=sizeLine;decide,[.int i s.toks,u],.cons ⟨_,rfl⟩ (.cons ru .nil),⟨_,ht₂,rfl,_,rfl⟩⟩
   ·rw[zP hb] at q
    refine(I.hok b o q).stay (λc v hc' z=>?_) (λc z=>by rw[zP (zN z nT)];exact z) λc ys z=>by rw[zP (zN z nT)];exact z
    have hcs:∃o',H c=some o':=by
     rcases hc' with rfl|hc'
     ·exact⟨o,q⟩
     ·exact⟨_,hc'⟩
    obtain⟨o',ho'⟩:=hcs
    exact kk c v (zN ho' f0) (zN ho' g0) z
  have I2:=I.call (h':=h₂) (g':=s.gens) (t':=s.toks+1) (d':=s.drawn) (ch:=[e,it]) U ok I.bare λb hb=>by
   have hb':b=e\/b=it:=by simpa using hb
   rcases hb' with rfl|rfl
   ·exact⟨f3,f1,f4,f5⟩
   ·exact⟨g3,g1,g4,g5⟩
  refine⟨.ref s.heap.objs.size,_,I2,rfl,⟨s.heap.objs.size,x,rfl,nT,rfl,λys hy=>by rw[I.lX hy hq];exact hx⟩,⟨⟨_,by rw[show((i+1:Nat):Int)=(i:Int)+1 by push_cast;rfl];exact he₂⟩,hit₁.extBut hs₂.extBut hne.symm⟩,λb hb=>?_⟩
  have hb':b=e\/b=it:=by simpa using hb
  obtain⟨o2,ho2,_⟩:=hit
  rcases hb' with rfl|rfl
  ·rw[zP (aau hel)];exact f0
  ·rw[zP (aau (lt_size ho2))];exact g0
 done:=by
  intro X hP hw hK hc i pins s σ H E I hf st hg
  subst hP hw hK
  obtain⟨xs,hq,hx⟩:=hg
  obtain⟨its,rv,p,hz⟩:=I.list hq
  obtain⟨⟨old,he⟩,hit⟩:=st
  obtain⟨g0,g1,g2,g3,g4,g5⟩:=hf it (by simp)
  have hl:=rv.length
  exact wpAny_pyNext_enum_end (I.ok.hd hc) he hit p.isList (by simp;omega) λh' eb=>⟨rfl,I.turned (t':=s.toks) (λb o hb e=>eb b o hb e) g0 g1 g3 g4 g5⟩
 self:=λ_ _ _ _ _ st h=>let⟨⟨_,he⟩,_⟩:=st;wpAny_pyIter_enum he h
def yu(K:PySem.W.Frag)(ta:TA):TI:=λσ H R=>ta σ H λvs H1=>∃a,vs=[.ref a]/\(∃xs,aV K H1 a xs)/\R (Ite K a) H1
theorem lH:bootBuiltins "enumerate" = some (.type "enumerate"):=by decide +kernel
theorem zPf(hg:Gl X "enumerate")(hm:X.mg "enumerate" = none)(ha:PA X [a] ta)(hs:starEach [a] X.env=[(false,eval a X.env)]:=by rfl) :
  PI X (.Tuple elts k tp) (.Call (.Name "enumerate" p) [a] [] pos) (yu X.K ta):=by
 intro pins s σ H R I h
 refine Call_ (Bu I hg hm lH (abm (aP (ha pos pins s σ H _ I h) λus s1 ⟨vs,H1,I1,r1,q1⟩=>?_) hs rfl))
 obtain⟨l,e,⟨xs,hq⟩,q⟩:=q1
 subst e
 cases r1 with
 |cons r rr =>
  cases rr
  cases r
  obtain⟨its,rv,p,hz⟩:=I1.list hq
  refine call_enumerate_list p.isList λh' hE hI hsz hk=>wpAny_pyIter_enum hE ?_
  have I2:Inv X pins σ H1 { s1 with heap:=h',toks:=s1.toks }:=I1.kept hk
  refine⟨s1.heap.objs.size+1,[s1.heap.objs.size+1,s1.heap.objs.size],_,_,H1,rfl,I2,zOi l _ _ (Nat.succ_ne_self _),⟨⟨.none,hE⟩,hI⟩,λb hb=>?_,q⟩
  have hb':b=s1.heap.objs.size+1\/b=s1.heap.objs.size:=by simpa using hb
  rcases hb' with rfl|rfl
  ·exact I1.lF (ab6 _) (I1.hok.fresh (ab6 _))
  ·exact I1.lF (aaq _) (I1.hok.fresh (aaq _))
theorem zTn{K:PySem.W.Frag}{a:Addr}{xs:List V}{g:TG}{tb:TS}{D:Ends}{σ:St}{H:Hp}(Pv:Nat->St->Hp->Prop)(h0:Pv 0 σ H)(hl:∀i σ H,i<=xs.length->Pv i σ H->aV K H a xs)(hs:∀i x t σ H,xs[i]?=some x->H t=none->Pv i σ H->g (.ref t) σ (upd H t (.tup [.int i,x])) λσ2 H2=>tb { D with nx:=Pv (i+1),ct:=Pv (i+1),bk:=D.nx } σ2 H2)(hd:∀σ H,Pv xs.length σ H->D.nx σ H) :
  ∃W:Nat->Nat->St->Hp->Prop,(∃m,W 0 m σ H)/\∀i m σ H,W i m σ H ->
   ((Ite K a).stop i H/\D.nx σ H)\/((Ite K a).go i H/\∃N:St->Hp->Prop,(∀σ' H',N σ' H'->∃m',m'<m/\W (i+1) m' σ' H')/\∀x H',(Ite K a).Og i H x H'->g x σ H' λσ2 H2=>tb { D with nx:=N,ct:=N,bk:=D.nx } σ2 H2):=by
 refine⟨λi m σ H=>m=xs.length-i/\i<=xs.length/\Pv i σ H,⟨xs.length,by simp,aa5 _,h0⟩,?_⟩
 rintro i m σ H ⟨rfl,hi,p⟩
 have q:=hl i σ H hi p
 by_cases hlt:i<xs.length
 ·refine .inr ⟨⟨xs,xs[i],q,by simp[hlt]⟩,Pv (i+1),λσ' H' p'=>⟨xs.length-(i+1),by omega,rfl,hlt,p'⟩,λx H' y=>?_⟩
  obtain⟨t,x',rfl,ht,rfl,y⟩:=y
  exact hs i x' t σ H (y xs q) ht p
 ·have e:i=xs.length:=by omega
  subst e
  exact .inl ⟨⟨xs,q,aaq _⟩,hd σ H p⟩
def XC(a:Str)(te:TE):TE:=λσ H Q=>te σ H λx H1=>(∃i,x=.int i/\i.natAbs.log2<1920/\Q (.str (a++ade (toString i))) H1)\/∃z,x=.str z/\z.length<=1000/\Q (.str (a++z)) H1
theorem zEn(x y:Str):(x++y).length=x.length+y.length:=by rw[<-strLen_append]
theorem yw{a:Str}(he:PE X e te)(hl:a.length<=1000):PE X (.JoinedStr [.Constant (.str a) j p1,.FormattedValue e (-1) none p2] pos) (XC a te):=by
 intro pins s σ H Q I h
 refine JoinedStr_many (joinParts_cons (Calls.Constant_str ?_))
 have e0:(adx++a)=a:=by
  cases a with
  |mk c=>show Str.mk _=_;simp[adx]
 refine⟨by rw[e0];exact aa0 hl (by decide),?_⟩
 rw[e0]
 have I0:=I.tok (s.toks+1)
 refine joinParts_cons (FormattedValue_plain (aP (he pins _ σ H _ I0 h) λu s1 ⟨x,H1,I1,r1,q1⟩=>?_))
 rcases q1 with⟨i,rfl,hd,q⟩|⟨z,rfl,hz,q⟩
 ·obtain⟨t,rfl⟩:=r1
  refine formatField_int_small hd ?_
  have len:(a++ade (toString i)).length<=sizeLine:=by
   have:=int_text_len_1921 hd
   rw[zEn]
   exact aa0 (show a.length+(ade (toString i)).length<=4000 by omega) (by decide)
  refine⟨len,joinParts_nil ?_ len⟩
  exact⟨.str (a++ade (toString i)),H1,(I1.tok (s1.toks+1+1)).tok _,⟨_,rfl⟩,q⟩
 ·obtain⟨t,rfl⟩:=r1
  have len:(a++z).length<=sizeLine:=by
   rw[zEn]
   exact aa0 (show a.length+z.length<=4000 by omega) (by decide)
  refine formatField_str (λt' tk=>?_) (aa0 hz (by decide))
  refine⟨len,joinParts_nil ?_ len⟩
  exact⟨.str (a++z),H1,(I1.tok tk).tok _,⟨_,rfl⟩,q⟩
def Dm(K:PySem.W.Frag)(c:Value):List V->Hp->VK->Prop:=λxs H Q=>∃x y t b,xs=[x,y]/\RelV y c/\jK K H x t/\kitOne K t c=some b/\Q (.bl b) H
theorem zT6(hc:∀y u,RelV y c->RelV y u->u=c):sE X (.builtin "isinstance") (Dm X.K c):=by
 intro pins s σ H xs us Q I r h
 obtain⟨x,y,t,b,rfl,ry,ty,e,q⟩:=h
 obtain⟨u,v,rfl,ru,rv⟩:=r.two
 obtain rfl:=hc y v ry rv
 exact zQf I ru ty e λtk=>⟨.bl b,H,I.tok tk,rfl,q⟩
theorem U_:∀y u,RelV y (.type n)->RelV y u->u=.type n:=λy u h1 h2=>by
 cases y<;>first
  | (cases h1;done)
  | (obtain⟨_,e⟩:=h1;cases e;done)
  | (cases h1;cases h2;rfl)
theorem uB:∀y u,RelV y (.ref a)->RelV y u->u=.ref a:=λy u h1 h2=>by
 cases y<;>first
  | (cases h1;done)
  | (obtain⟨_,e⟩:=h1;cases e;done)
  | (cases h1;cases h2;rfl)
def XD(t:TS):TS:=λD σ H=>∃I:St->Hp->Prop,t { D with nx:=I } σ H/\∀σ' H',I σ' H'->D.nx σ' H'
theorem Ke{X:Cx}{st:Stmt}{t:TS}(h:PS X st t):PS X st (XD t):=by
 intro pins s σ H D I hw
 obtain⟨J,h1,h2⟩:=hw
 refine aP (h pins s σ H _ I h1) λf s' q=>?_
 cases f with
 |next=>obtain⟨σ',H',I',q'⟩:=q;exact⟨σ',H',I',h2 _ _ q'⟩
 |brk=>exact q
 |cont=>exact q
 |ret u=>exact q
theorem zLj{σ:St}{A B:St->Hp->Prop}(h:A (σ.set i (some x)) H):ou i x σ H (λσ4 H4=>tW σ4 H4 λb H5=>if b=true then A σ4 H5 else B σ4 H5):=by
 show if true=true then A (σ.set i (some x)) H else B (σ.set i (some x)) H
 rw[if_pos rfl]
 exact h
theorem XF{X:Cx}{K:PySem.W.Frag}(h:X.K=K){es:List Expr}{k:Nat}{t:Oc}{n:Nat}{pos:Pos}(hc:X.calm=true)(ht:Ql X es t)(hn:(assignEach es X.env).length=n:=by rfl)(hst:(assignEach es X.env).findIdx? (·.1)=none:=by rfl):PG X (.Tuple es k pos) (CG K n t):=by
 subst h
 exact G6 hc ht hn hst
end L2
namespace Ts
open PySem L2
theorem au(h:H p=none)(o:HO):Same H (upd H p o):=λb u q=>by rw[zP (zN q h)];exact q
theorem _root_.L2.Same.put(s:Same H H')(h:H p=none)(o:HO):Same H (upd H' p o):=λb u q=>by rw[zP (zN q h)];exact s b u q
def A2{α β:Type}(R:α->β->Prop):List α->List β->Prop
 |[],[]=>True
 |x::xs,y::ys=>R x y/\A2 R xs ys
 |_,_=>False
section
variable{α β:Type}{R R':α->β->Prop}
theorem A2.len:∀{xs:List α}{ys:List β},A2 R xs ys->xs.length=ys.length
 |[],[],_=>rfl
 |_::_,_::_,h=>congrArg (· + 1) (A2.len h.2)
 |[],_::_,h=>h.elim
 |_::_,[],h=>h.elim
theorem A2.imp(f:∀x y,R x y->R' x y):∀{xs:List α}{ys:List β},A2 R xs ys->A2 R' xs ys
 |[],[],_=>trivial
 |_::_,_::_,h=>⟨f _ _ h.1,A2.imp f h.2⟩
 |[],_::_,h=>h.elim
 |_::_,[],h=>h.elim
theorem A2.app:∀{xs:List α}{ys:List β}{xs':List α}{ys':List β},A2 R xs ys->A2 R xs' ys'->A2 R (xs++xs') (ys++ys')
 |[],[],_,_,_,h=>h
 |_::_,_::_,_,_,h,h'=>⟨h.1,A2.app h.2 h'⟩
 |[],_::_,_,_,h,_=>h.elim
 |_::_,[],_,_,h,_=>h.elim
theorem A2.snoc(h:A2 R xs ys)(r:R x y):A2 R (xs++[x]) (ys++[y]):=h.app ⟨r,trivial⟩
theorem A2.at1:∀{xs:List α}{ys:List β}{i:Nat}{x:α},A2 R xs ys->xs[i]?=some x->∃y,ys[i]?=some y/\R x y
 |[],_,_,_,_,e=>by simp at e
 |_::_,_::_,0,_,h,e=>by simp at e;subst e;exact⟨_,rfl,h.1⟩
 |_::_,_::_,i+1,_,h,e=>by
  obtain⟨y,h1,h2⟩:=A2.at1 (i:=i) h.2 (by simpa using e)
  exact⟨y,by simpa using h1,h2⟩
 |_::_,[],_,_,h,_=>h.elim
theorem A2.at2:∀{xs:List α}{ys:List β}{i:Nat}{y:β},A2 R xs ys->ys[i]?=some y->∃x,xs[i]?=some x/\R x y
 |_,[],_,_,_,e=>by simp at e
 |_::_,_::_,0,_,h,e=>by simp at e;subst e;exact⟨_,rfl,h.1⟩
 |_::_,_::_,i+1,_,h,e=>by
  obtain⟨y,h1,h2⟩:=A2.at2 (i:=i) h.2 (by simpa using e)
  exact⟨y,by simpa using h1,h2⟩
 |[],_::_,_,_,h,_=>h.elim
theorem A2.set(r:R x y):∀{xs:List α}{ys:List β}(i:Nat),A2 R xs ys->A2 R (xs.set i x) (ys.set i y)
 |[],[],_,_=>trivial
 |_::_,_::_,0,h=>⟨r,h.2⟩
 |_::_,_::_,i+1,h=>⟨h.1,A2.set r i h.2⟩
 |[],_::_,_,h=>h.elim
 |_::_,[],_,h=>h.elim
theorem A2.rev:∀{xs:List α}{ys:List β},A2 R xs ys->A2 R xs.reverse ys.reverse
 |[],[],_=>trivial
 |_::_,_::_,h=>by
  rw[reverse_cons,reverse_cons]
  exact(A2.rev h.2).snoc h.1
 |[],_::_,h=>h.elim
 |_::_,[],h=>h.elim
theorem A2.tk:∀{xs:List α}{ys:List β}(i:Nat),A2 R xs ys->A2 R (xs.take i) (ys.take i)
 |[],[],_,_=>by simp[A2]
 |_::_,_::_,0,h=>trivial
 |_::_,_::_,i+1,h=>⟨h.1,A2.tk i h.2⟩
 |[],_::_,_,h=>h.elim
 |_::_,[],_,h=>h.elim
theorem A2.dr:∀{xs:List α}{ys:List β}(i:Nat),A2 R xs ys->A2 R (xs.drop i) (ys.drop i)
 |[],[],_,_=>by simp[A2]
 |_::_,_::_,0,h=>h
 |_::_,_::_,i+1,h=>A2.dr i h.2
 |[],_::_,_,h=>h.elim
 |_::_,[],_,h=>h.elim
theorem A2.of_map{f:β->α}(h:∀y,R (f y) y):∀ys:List β,A2 R (ys.map f) ys
 |[]=>trivial
 |y::ys=>⟨h y,A2.of_map h ys⟩
end
theorem A2.lZ{α β:Type}{f:β->α}:∀{xs:List α}{ys:List β},A2 (λx y=>x=f y) xs ys->xs=ys.map f
 |[],[],_=>rfl
 |_::_,_::_,h=>by rw[map_cons,h.1,A2.lZ h.2]
 |[],_::_,h=>h.elim
 |_::_,[],h=>h.elim
class Rp (K:PySem.W.Frag) (α:Type) where
 rp:Hp->V->α->Prop
 mono:∀{F F':Hp}{v:V}{a:α},Same F F'->rp F v a->rp F' v a
abbrev rp(K:PySem.W.Frag){α:Type}[Rp K α]:Hp->V->α->Prop:=Rp.rp (K:=K)
class Nn (K:PySem.W.Frag) (α:Type) [Rp K α]:Prop where
 nn:∀{F:Hp}{v:V}{a:α},rp K F v a->v≠.non
class Sc (K:PySem.W.Frag) (α:Type) [Rp K α] where
 val:α->V
 is:∀{F:Hp}{v:V}{a:α},rp K F v a↔v=val a
 inj:∀{a b:α},val a=val b->a=b
section
variable{K:PySem.W.Frag}
instance:Rp K Int:=⟨λ_ v n=>v=.int n,λ_ h=>h⟩
instance:Rp K Bool:=⟨λ_ v n=>v=.bl n,λ_ h=>h⟩
instance:Rp K Str:=⟨λ_ v n=>v=.str n,λ_ h=>h⟩
instance:Rp K Unit:=⟨λ_ v _=>v=.non,λ_ h=>h⟩
instance{α:Type}[Rp K α]:Rp K (Option α):=⟨λF v a=>match a with
 |none=>v=.non
 |some x=>v≠.non/\rp K F v x,λ{F F' v a} s h=>match a,h with
 |none,h=>h
 |some x,h=>⟨h.1,Rp.mono s h.2⟩⟩
instance{α:Type}[Rp K α]:Rp K (List α):=⟨λF v xs=>∃p vs,v=.ref p/\F p=some (.lst vs)/\A2 (rp K F) vs xs,λs ⟨p,vs,h1,h2,h3⟩=>⟨p,vs,h1,s _ _ h2,h3.imp λ_ _=>Rp.mono s⟩⟩
instance{α β:Type}[Rp K α][Rp K β]:Rp K (α×β):=⟨λF v x=>∃p a b,v=.ref p/\F p=some (.tup [a,b])/\rp K F a x.1/\rp K F b x.2,λs ⟨p,a,b,h1,h2,h3,h4⟩=>⟨p,a,b,h1,s _ _ h2,Rp.mono s h3,Rp.mono s h4⟩⟩
structure Kf where
 ns:LI
instance:Rp K Kf:=⟨λF v x=>∃p,v=.ref p/\aV K F p (x.ns.map V.int),λs ⟨p,h1,h2⟩=>⟨p,h1,s.seq h2⟩⟩
instance:Nn K Int:=⟨λh=>by cases h;intro e;cases e⟩
instance:Nn K Bool:=⟨λh=>by cases h;intro e;cases e⟩
instance:Nn K Str:=⟨λh=>by cases h;intro e;cases e⟩
instance{α:Type}[Rp K α]:Nn K (List α):=⟨λ⟨_,_,h,_⟩=>by rw[h];intro e;cases e⟩
instance{α β:Type}[Rp K α][Rp K β]:Nn K (α×β):=⟨λ⟨_,_,_,h,_⟩=>by rw[h];intro e;cases e⟩
instance:Sc K Int:=⟨V.int,afa,λh=>by cases h;rfl⟩
instance:Sc K Bool:=⟨V.bl,afa,λh=>by cases h;rfl⟩
instance:Sc K Str:=⟨V.str,afa,λh=>by cases h;rfl⟩
instance{α:Type}[Rp K α][Sc K α][Nn K α]:Sc K (Option α):=⟨λa=>match a with
 |none=>.non
 |some x=>Sc.val K x,λ{F v a}=>match a with
 |none=>afa
 |some x=>⟨λh=>Sc.is.mp h.2,λh=>⟨Nn.nn (K:=K) (F:=F) (a:=x) (Sc.is.mpr h),Sc.is.mpr h⟩⟩,λ{a b} h=>match a,b,h with
 |none,none,_=>rfl
 |some x,some y,h=>by rw[Sc.inj (K:=K) (a:=x) (b:=y) h]
 |none,some y,h=>absurd h.symm (Nn.nn (K:=K) (F:=λ_=>none) (a:=y) (Sc.is.mpr rfl))
 |some x,none,h=>absurd h (Nn.nn (K:=K) (F:=λ_=>none) (a:=x) (Sc.is.mpr rfl))⟩
theorem yx{α:Type}[Rp K α][Sc K α]{a:α}(h:rp K F v a):rp K F' v a:=Sc.is.mpr (Sc.is.mp h)
inductive Md|nw|fz|hp
def dif(H H0:Hp):Hp:=λb=>match H0 b with
 |none=>H b
 |some _=>none
def ext(Fa H0 H:Hp):Hp:=λb=>match H0 b with
 |none=>H b
 |some _=>Fa b
structure Bs where
 Fa:Hp
 H0:Hp
abbrev Own:=List (Addr×HO)
def reg(B:Bs)(F H:Hp):Md->Hp
 |.nw=>dif F B.H0
 |.fz=>F
 |.hp=>H
theorem aW:Same (dif H H0) H:=λb o h=>by
 unfold dif at h
 cases e:H0 b with
 |none=>rw[e] at h;exact h
 |some u=>rw[e] at h;cases h
theorem xT(h:H0 b=none):dif H H0 b=H b:=by
 unfold dif
 rw[h]
theorem yZ(s:Same H H'):Same (dif H H0) (dif H' H0):=λb o h=>by
 unfold dif at h ⊢
 cases e:H0 b with
 |none=>rw[e] at h;exact s b o h
 |some u=>rw[e] at h;cases h
structure Ok(B:Bs)(F:Hp)(O:Own)(H:Hp):Prop where
 fh:Same F H
 h0:Same B.H0 H
 fa:∀b o,F b=some o->B.Fa b=some o\/B.H0 b=none
 fo:∀x∈O,F x.1=none/\B.H0 x.1=none/\H x.1=some x.2
 nd:(O.map (·.1)).Nodup
structure bH(B:Bs)(F H:Hp)(O:Own)(F' H':Hp):Prop where
 ff:Same F F'
 hh:Same H H'
 ok:Ok B F' O H'
 nw:∀b,F b=none->H b≠none->F' b=none
section
variable{B:Bs}{F H F' H' F2 H2:Hp}{O:Own}
theorem bH.refl(k:Ok B F O H):bH B F H O F H:=⟨.refl _,.refl _,k,λ_ h _=>h⟩
theorem bH.trans(a:bH B F H O F' H')(b:bH B F' H' O F2 H2):bH B F H O F2 H2 :=
 ⟨a.ff.trans b.ff,a.hh.trans b.hh,b.ok,λq h1 h2=>b.nw q (a.nw q h1 h2) λe=>h2 (a.hh.free e)⟩
theorem bH.new(k:Ok B F O H)(h:H p=none)(o:HO):bH B F H O (upd F p o) (upd H p o):=by
 have fp:=k.fh.free h
 refine⟨au fp o,au h o,⟨λb u e=>?_,k.h0.put (k.h0.free h) o,λb u e=>?_,λx hx=>?_,k.nd⟩,λb h1 h2=>?_⟩
 ·by_cases q:b=p
  ·subst q;rw[zJ] at e ⊢;exact e
  ·rw[zP q] at e ⊢;exact k.fh b u e
 ·by_cases q:b=p
  ·subst q;exact .inr (k.h0.free h)
  ·rw[zP q] at e;exact k.fa b u e
 ·obtain⟨a1,a2,a3⟩:=k.fo x hx
  have q:x.1≠p:=zN a3 h
  exact⟨by rw[zP q];exact a1,a2,by rw[zP q];exact a3⟩
 ·rw[zP λe=>h2 (by rw[e];exact h)];exact h1
theorem xD(g:bH B F H O F' H')(md:Md):Same (reg B F H md) (reg B F' H' md):=match md with
 |.nw=>yZ g.ff
 |.fz=>g.ff
 |.hp=>g.hh
end
inductive Slot(K:PySem.W.Frag):Type 1
 |un
 |fz (n:Bool) {α:Type} [Rp K α] (a:α)
 |hs {α:Type} [Rp K α] (a:α)
 |nu {α:Type} [Rp K α] (a:α)
 |ow (n:Bool) {α:Type} [Rp K α] (xs:List α)
 |od {α:Type} [Rp K α] (kvs:List (Key×α))
abbrev SL(K:PySem.W.Frag):=List (Slot K)
abbrev d_:Bool->Md
 |true=>.nw
 |false=>.fz
def lo(F:Hp)(O:Own)(H:Hp):Hp:=λb=>if(F b).isSome||(O.any λx=>x.1==b) then none else H b
inductive ak(B:Bs)(F L H:Hp):SL K->St->Own->Prop
 |nil:ak B F L H [] [] []
 |un {sl:SL K} {σ:St} {O:Own} {x:Option V}:ak B F L H sl σ O->ak B F L H (.un::sl) (x::σ) O
 |fz {n:Bool} {α:Type} [Rp K α] {a:α} {sl:SL K} {σ:St} {O:Own} {v:V}:rp K (reg B F H (d_ n)) v a->ak B F L H sl σ O->ak B F L H (.fz n a::sl) (some v::σ) O
 |hs {α:Type} [Rp K α] {a:α} {sl:SL K} {σ:St} {O:Own} {v:V}:rp K H v a->ak B F L H sl σ O->ak B F L H (.hs a::sl) (some v::σ) O
 |nu {α:Type} [Rp K α] {a:α} {sl:SL K} {σ:St} {O:Own} {v:V}:rp K (dif L B.H0) v a->ak B F L H sl σ O->ak B F L H (.nu a::sl) (some v::σ) O
 |ow {n:Bool} {α:Type} [Rp K α] {xs:List α} {sl:SL K} {σ:St} {O:Own} {p:Addr} {vs:List V}:A2 (rp K (reg B F H (d_ n))) vs xs->ak B F L H sl σ O->ak B F L H (.ow n xs::sl) (some (.ref p)::σ) ((p,.lst vs)::O)
 |od {α:Type} [Rp K α] {kvs:List (Key×α)} {sl:SL K} {σ:St} {O:Own} {p:Addr} {ks:List (Key×V)}:A2 (λ(x:Key×V) (y:Key×α)=>x.1=y.1/\rp K F x.2 y.2) ks kvs->ak B F L H sl σ O->ak B F L H (.od kvs::sl) (some (.ref p)::σ) ((p,.dK ks)::O)
def At(B:Bs)(sl:SL K)(F:Hp)(O:Own)(H:Hp)(σ:St):Prop:=Ok B F O H/\ak B F (lo F O H) H sl σ O
abbrev iK:Slot K->Bool
 |@Slot.ow _ _ _ _ _=>true
 |@Slot.od _ _ _ _=>true
 |_=>false
abbrev cJ:Slot K->Bool
 |@Slot.hs _ _ _ _=>true
 |_=>false
section
variable{B:Bs}{F H F' H' L L':Hp}{O O':Own}{sl:SL K}{σ:St}
theorem wD(n:Bool)(hF:Same F F'):Same (reg B F H (d_ n)) (reg B F' H' (d_ n)):=match n with
 |true=>yZ hF
 |false=>hF
theorem ak.mono(hF:Same F F')(hL:Same L L')(hH:Same H H')(h:ak B F L H sl σ O):ak B F' L' H' sl σ O:=by
 induction h with
 |nil=>exact .nil
 |un _ ih=>exact .un ih
 |fz r _ ih=>exact .fz (Rp.mono (wD _ hF) r) ih
 |hs r _ ih=>exact .hs (Rp.mono hH r) ih
 |nu r _ ih=>exact .nu (Rp.mono (yZ hL) r) ih
 |ow r _ ih=>exact .ow (r.imp λ_ _=>Rp.mono (wD _ hF)) ih
 |od r _ ih=>exact .od (r.imp λ_ _ z=>⟨z.1,Rp.mono hF z.2⟩) ih
theorem ak.mut(hL:Same L L')(h:ak B F L H sl σ O)(hn:sl.all (λs=>!cJ s)=true):ak B F L' H' sl σ O:=by
 induction h with
 |nil=>exact .nil
 |un _ ih=>exact .un (ih (by rw[all_cons,aar] at hn;exact hn.2))
 |fz r _ ih=>exact .fz (Rp.mono (wD _ (.refl _)) r) (ih (by rw[all_cons,aar] at hn;exact hn.2))
 |hs r _ ih=>rw[all_cons,aar] at hn;exact absurd hn.1 (by simp)
 |nu r _ ih=>exact .nu (Rp.mono (yZ hL) r) (ih (by rw[all_cons,aar] at hn;exact hn.2))
 |ow r _ ih=>exact .ow (r.imp λ_ _=>Rp.mono (wD _ (.refl _))) (ih (by rw[all_cons,aar] at hn;exact hn.2))
 |od r _ ih=>exact .od r (ih (by rw[all_cons,aar] at hn;exact hn.2))
theorem XH(g:bH B F H O F' H'):Same (lo F O H) (lo F' O H'):=λb o h=>by
 unfold lo at h ⊢
 cases e:(F b).isSome||(O.any λx=>x.1==b) with
 |true=>rw[e] at h;cases h
 |false =>
  rw[e] at h
  have hb:H b=some o:=h
  rw[Bool.or_eq_false_iff] at e
  have f':F' b=none:=g.nw b (by cases q:F b with|none=>rfl|some u=>rw[q] at e;cases e.1) (by rw[hb];intro z;cases z)
  rw[f',e.2]
  exact g.hh b o hb
theorem At.grow(h:At B sl F O H σ)(g:bH B F H O F' H'):At B sl F' O H' σ:=⟨g.ok,h.2.mono g.ff (XH g) g.hh⟩
theorem ak.qu{α:Type}[Rp K α]{a:α}(h:ak B F L H sl σ O):∀{i:Nat},sl[i]?=some (.fz n a)->∃v,σ[i]?=some (some v)/\rp K (reg B F H (d_ n)) v a:=by
 induction h with
 |nil=>intro i e;simp at e
 |fz r _ ih =>
  intro i e
  cases i with
  |zero=>simp only[getElem?_cons_zero] at e;cases e;exact⟨_,rfl,r⟩
  |succ i=>exact ih (by simpa using e)
 |_ =>
  rename_i ih
  intro i e
  cases i with
  |zero=>simp only[getElem?_cons_zero] at e;cases e
  |succ i=>exact ih (by simpa using e)
theorem ak.QX{α:Type}[Rp K α]{a:α}(h:ak B F L H sl σ O):∀{i:Nat},sl[i]?=some (.hs a)->∃v,σ[i]?=some (some v)/\rp K H v a:=by
 induction h with
 |nil=>intro i e;simp at e
 |hs r _ ih =>
  intro i e
  cases i with
  |zero=>simp only[getElem?_cons_zero] at e;cases e;exact⟨_,rfl,r⟩
  |succ i=>exact ih (by simpa using e)
 |_ =>
  rename_i ih
  intro i e
  cases i with
  |zero=>simp only[getElem?_cons_zero] at e;cases e
  |succ i=>exact ih (by simpa using e)
theorem ak.za{α:Type}[Rp K α]{a:α}(h:ak B F L H sl σ O):∀{i:Nat},sl[i]?=some (.nu a)->∃v,σ[i]?=some (some v)/\rp K (dif L B.H0) v a:=by
 induction h with
 |nil=>intro i e;simp at e
 |nu r _ ih =>
  intro i e
  cases i with
  |zero=>simp only[getElem?_cons_zero] at e;cases e;exact⟨_,rfl,r⟩
  |succ i=>exact ih (by simpa using e)
 |_ =>
  rename_i ih
  intro i e
  cases i with
  |zero=>simp only[getElem?_cons_zero] at e;cases e
  |succ i=>exact ih (by simpa using e)
theorem ak.put(h:ak B F L H sl σ O)(new:∀(sl:SL K) (σ:St) (O:Own),ak B F L H sl σ O->ak B F L H (s'::sl) (x::σ) O):∀{i:Nat},sl[i]?=some s->iK s=false->ak B F L H (sl.set i s') (σ.set i x) O:=by
 induction h with
 |nil=>intro i e;simp at e
 |un g ih =>
  intro i e o
  cases i with
  |zero=>exact new _ _ _ g
  |succ i=>exact .un (ih (by simpa using e) o)
 |fz r g ih =>
  intro i e o
  cases i with
  |zero=>exact new _ _ _ g
  |succ i=>exact .fz r (ih (by simpa using e) o)
 |hs r g ih =>
  intro i e o
  cases i with
  |zero=>exact new _ _ _ g
  |succ i=>exact .hs r (ih (by simpa using e) o)
 |nu r g ih =>
  intro i e o
  cases i with
  |zero=>exact new _ _ _ g
  |succ i=>exact .nu r (ih (by simpa using e) o)
 |ow r g ih =>
  intro i e o
  cases i with
  |zero=>simp only[getElem?_cons_zero] at e;cases e;cases o
  |succ i=>exact .ow r (ih (by simpa using e) o)
 |od r g ih =>
  intro i e o
  cases i with
  |zero=>simp only[getElem?_cons_zero] at e;cases e;cases o
  |succ i=>exact .od r (ih (by simpa using e) o)
theorem ak.own(h:ak B F L H sl σ O)(new:∀(sl:SL K) (σ:St) (O:Own),ak B F L H sl σ O->ak B F L H (s'::sl) (x::σ) (c::O)) :
  ∀{i:Nat},sl[i]?=some s->iK s=false->∃O1 O2,O=O1++O2/\ak B F L H (sl.set i s') (σ.set i x) (O1++c::O2):=by
 induction h with
 |nil=>intro i e;simp at e
 |un g ih =>
  intro i e o
  cases i with
  |zero=>exact⟨[],_,rfl,new _ _ _ g⟩
  |succ i=>obtain⟨O1,O2,q,z⟩:=ih (by simpa using e) o;exact⟨O1,O2,q,.un z⟩
 |fz r g ih =>
  intro i e o
  cases i with
  |zero=>exact⟨[],_,rfl,new _ _ _ g⟩
  |succ i=>obtain⟨O1,O2,q,z⟩:=ih (by simpa using e) o;exact⟨O1,O2,q,.fz r z⟩
 |hs r g ih =>
  intro i e o
  cases i with
  |zero=>exact⟨[],_,rfl,new _ _ _ g⟩
  |succ i=>obtain⟨O1,O2,q,z⟩:=ih (by simpa using e) o;exact⟨O1,O2,q,.hs r z⟩
 |nu r g ih =>
  intro i e o
  cases i with
  |zero=>exact⟨[],_,rfl,new _ _ _ g⟩
  |succ i=>obtain⟨O1,O2,q,z⟩:=ih (by simpa using e) o;exact⟨O1,O2,q,.nu r z⟩
 |ow r g ih =>
  intro i e o
  cases i with
  |zero=>simp only[getElem?_cons_zero] at e;cases e;cases o
  |succ i=>obtain⟨O1,O2,q,z⟩:=ih (by simpa using e) o;exact⟨_::O1,O2,by rw[q]<;>rfl,.ow r z⟩
 |od r g ih =>
  intro i e o
  cases i with
  |zero=>simp only[getElem?_cons_zero] at e;cases e;cases o
  |succ i=>obtain⟨O1,O2,q,z⟩:=ih (by simpa using e) o;exact⟨_::O1,O2,by rw[q]<;>rfl,.od r z⟩
theorem ak.oV{α:Type}[Rp K α]{xs:List α}(h:ak B F L H sl σ O):∀{i:Nat},sl[i]?=some (.ow n xs) ->
  ∃O1 O2 p vs,O=O1++(p,.lst vs)::O2/\σ[i]?=some (some (.ref p))/\A2 (rp K (reg B F H (d_ n))) vs xs /\
   (∀(s':Slot K)(x:Option V)(c:Addr×HO),(∀(sl:SL K)(σ:St)(O:Own),ak B F L H sl σ O->ak B F L H (s'::sl) (x::σ) (c::O))->ak B F L H (sl.set i s') (σ.set i x) (O1++c::O2)) /\
   (∀(s':Slot K)(x:Option V),(∀(sl:SL K)(σ:St)(O:Own),ak B F L H sl σ O->ak B F L H (s'::sl) (x::σ) O)->ak B F L H (sl.set i s') (σ.set i x) (O1++O2)):=by
 induction h with
 |nil=>intro i e;simp at e
 |un g ih =>
  intro i e
  cases i with
  |zero=>simp only[getElem?_cons_zero] at e;cases e
  |succ i=>obtain⟨O1,O2,p,vs,q,h1,h2,h3,h4⟩:=ih (by simpa using e);exact⟨O1,O2,p,vs,q,h1,h2,λs' x c z=>.un (h3 s' x c z),λs' x z=>.un (h4 s' x z)⟩
 |fz r g ih =>
  intro i e
  cases i with
  |zero=>simp only[getElem?_cons_zero] at e;cases e
  |succ i=>obtain⟨O1,O2,p,vs,q,h1,h2,h3,h4⟩:=ih (by simpa using e);exact⟨O1,O2,p,vs,q,h1,h2,λs' x c z=>.fz r (h3 s' x c z),λs' x z=>.fz r (h4 s' x z)⟩
 |hs r g ih =>
  intro i e
  cases i with
  |zero=>simp only[getElem?_cons_zero] at e;cases e
  |succ i=>obtain⟨O1,O2,p,vs,q,h1,h2,h3,h4⟩:=ih (by simpa using e);exact⟨O1,O2,p,vs,q,h1,h2,λs' x c z=>.hs r (h3 s' x c z),λs' x z=>.hs r (h4 s' x z)⟩
 |nu r g ih =>
  intro i e
  cases i with
  |zero=>simp only[getElem?_cons_zero] at e;cases e
  |succ i=>obtain⟨O1,O2,p,vs,q,h1,h2,h3,h4⟩:=ih (by simpa using e);exact⟨O1,O2,p,vs,q,h1,h2,λs' x c z=>.nu r (h3 s' x c z),λs' x z=>.nu r (h4 s' x z)⟩
 |ow r g ih =>
  intro i e
  cases i with
  |zero=>simp only[getElem?_cons_zero] at e;cases e;exact⟨[],_,_,_,rfl,rfl,r,λs' x c z=>z _ _ _ g,λs' x z=>z _ _ _ g⟩
  |succ i=>obtain⟨O1,O2,p,vs,q,h1,h2,h3,h4⟩:=ih (by simpa using e);exact⟨_::O1,O2,p,vs,by rw[q]<;>rfl,h1,h2,λs' x c z=>.ow r (h3 s' x c z),λs' x z=>.ow r (h4 s' x z)⟩
 |od r g ih =>
  intro i e
  cases i with
  |zero=>simp only[getElem?_cons_zero] at e;cases e
  |succ i=>obtain⟨O1,O2,p,vs,q,h1,h2,h3,h4⟩:=ih (by simpa using e);exact⟨_::O1,O2,p,vs,by rw[q]<;>rfl,h1,h2,λs' x c z=>.od r (h3 s' x c z),λs' x z=>.od r (h4 s' x z)⟩
theorem ak.Hr{α:Type}[Rp K α]{kvs:List (Key×α)}(h:ak B F L H sl σ O):∀{i:Nat},sl[i]?=some (.od kvs) ->
  ∃O1 O2 p ks,O=O1++(p,.dK ks)::O2/\σ[i]?=some (some (.ref p))/\A2 (λ(x:Key×V) (y:Key×α)=>x.1=y.1/\rp K F x.2 y.2) ks kvs /\
   (∀(s':Slot K)(x:Option V)(c:Addr×HO),(∀(sl:SL K)(σ:St)(O:Own),ak B F L H sl σ O->ak B F L H (s'::sl) (x::σ) (c::O))->ak B F L H (sl.set i s') (σ.set i x) (O1++c::O2)) /\
   (∀(s':Slot K)(x:Option V),(∀(sl:SL K)(σ:St)(O:Own),ak B F L H sl σ O->ak B F L H (s'::sl) (x::σ) O)->ak B F L H (sl.set i s') (σ.set i x) (O1++O2)):=by
 induction h with
 |nil=>intro i e;simp at e
 |un g ih =>
  intro i e
  cases i with
  |zero=>simp only[getElem?_cons_zero] at e;cases e
  |succ i=>obtain⟨O1,O2,p,vs,q,h1,h2,h3,h4⟩:=ih (by simpa using e);exact⟨O1,O2,p,vs,q,h1,h2,λs' x c z=>.un (h3 s' x c z),λs' x z=>.un (h4 s' x z)⟩
 |fz r g ih =>
  intro i e
  cases i with
  |zero=>simp only[getElem?_cons_zero] at e;cases e
  |succ i=>obtain⟨O1,O2,p,vs,q,h1,h2,h3,h4⟩:=ih (by simpa using e);exact⟨O1,O2,p,vs,q,h1,h2,λs' x c z=>.fz r (h3 s' x c z),λs' x z=>.fz r (h4 s' x z)⟩
 |hs r g ih =>
  intro i e
  cases i with
  |zero=>simp only[getElem?_cons_zero] at e;cases e
  |succ i=>obtain⟨O1,O2,p,vs,q,h1,h2,h3,h4⟩:=ih (by simpa using e);exact⟨O1,O2,p,vs,q,h1,h2,λs' x c z=>.hs r (h3 s' x c z),λs' x z=>.hs r (h4 s' x z)⟩
 |nu r g ih =>
  intro i e
  cases i with
  |zero=>simp only[getElem?_cons_zero] at e;cases e
  |succ i=>obtain⟨O1,O2,p,vs,q,h1,h2,h3,h4⟩:=ih (by simpa using e);exact⟨O1,O2,p,vs,q,h1,h2,λs' x c z=>.nu r (h3 s' x c z),λs' x z=>.nu r (h4 s' x z)⟩
 |od r g ih =>
  intro i e
  cases i with
  |zero=>simp only[getElem?_cons_zero] at e;cases e;exact⟨[],_,_,_,rfl,rfl,r,λs' x c z=>z _ _ _ g,λs' x z=>z _ _ _ g⟩
  |succ i=>obtain⟨O1,O2,p,vs,q,h1,h2,h3,h4⟩:=ih (by simpa using e);exact⟨_::O1,O2,p,vs,by rw[q]<;>rfl,h1,h2,λs' x c z=>.od r (h3 s' x c z),λs' x z=>.od r (h4 s' x z)⟩
 |ow r g ih =>
  intro i e
  cases i with
  |zero=>simp only[getElem?_cons_zero] at e;cases e
  |succ i=>obtain⟨O1,O2,p,vs,q,h1,h2,h3,h4⟩:=ih (by simpa using e);exact⟨_::O1,O2,p,vs,by rw[q]<;>rfl,h1,h2,λs' x c z=>.ow r (h3 s' x c z),λs' x z=>.ow r (h4 s' x z)⟩
end
end
section
variable{K:PySem.W.Frag}{B:Bs}{F H F' H' L L':Hp}{O O' O1 O2:Own}{sl:SL K}{σ:St}{p:Addr}{o o':HO}
theorem XJ{α:Type}{a b:List α}{x:α}:(a++x::b).Nodup↔(a++b).Nodup/\x∉a++b:=by
 have q:(a++x::b).Perm (x::(a++b)):=List.perm_middle
 rw[q.nodup_iff,nodup_cons]
 exact⟨λh=>⟨h.2,h.1⟩,λh=>⟨h.2,h.1⟩⟩
theorem Ok.add(k:Ok B F (O1++O2) H)(h:H p=none):Ok B F (O1++(p,o)::O2) (upd H p o):=by
 refine⟨λb u e=>?_,k.h0.put (k.h0.free h) o,k.fa,λx hx=>?_,?_⟩
 ·rw[zP (zN (k.fh b u e) h)];exact k.fh b u e
 ·have hx':x=(p,o)\/x∈O1++O2:=by
   rcases mem_append.mp hx with z|z
   ·exact .inr (mem_append.mpr (.inl z))
   ·rcases mem_cons.mp z with z|z
    ·exact .inl z
    ·exact .inr (mem_append.mpr (.inr z))
  rcases hx' with rfl|hx'
  ·exact⟨k.fh.free h,k.h0.free h,zJ⟩
  ·obtain⟨a1,a2,a3⟩:=k.fo x hx'
   exact⟨a1,a2,by rw[zP (zN a3 h)];exact a3⟩
 ·rw[map_append,map_cons,XJ,<-map_append]
  refine⟨k.nd,λz=>?_⟩
  obtain⟨x,hx,e⟩:=mem_map.mp z
  obtain⟨_,_,a3⟩:=k.fo x hx
  have e':x.1=p:=e
  rw[e',h] at a3
  cases a3
theorem Ok.one(k:Ok B F (O1++(p,o)::O2) H):F p=none/\B.H0 p=none/\H p=some o:=k.fo (p,o) (mem_append.mpr (.inr mem_cons_self))
theorem Ok.ndp(k:Ok B F (O1++(p,o)::O2) H):∀x∈O1++O2,x.1≠p:=λx hx e=>by
 have q:=k.nd
 rw[map_append,map_cons,XJ,<-map_append] at q
 exact q.2 (mem_map.mpr ⟨x,hx,e⟩)
theorem Ok.drop(k:Ok B F (O1++(p,o)::O2) H):Ok B F (O1++O2) H:=by
 refine⟨k.fh,k.h0,k.fa,λx hx=>k.fo x ?_,?_⟩
 ·rcases mem_append.mp hx with z|z
  ·exact mem_append.mpr (.inl z)
  ·exact mem_append.mpr (.inr (mem_cons_of_mem _ z))
 ·have q:=k.nd
  rw[map_append,map_cons,XJ,<-map_append] at q
  exact q.1
theorem Ok.chg(k:Ok B F (O1++(p,o)::O2) H)(o':HO):Ok B F (O1++(p,o')::O2) (upd H p o'):=by
 obtain⟨a1,a2,a3⟩:=k.one
 refine⟨k.fh.put a1 o',k.h0.put a2 o',k.fa,λx hx=>?_,?_⟩
 ·have hx':x=(p,o')\/x∈O1++O2:=by
   rcases mem_append.mp hx with z|z
   ·exact .inr (mem_append.mpr (.inl z))
   ·rcases mem_cons.mp z with z|z
    ·exact .inl z
    ·exact .inr (mem_append.mpr (.inr z))
  rcases hx' with rfl|hx'
  ·exact⟨a1,a2,zJ⟩
  ·obtain⟨b1,b2,b3⟩:=k.drop.fo x hx'
   exact⟨b1,b2,by rw[zP (k.ndp x hx')];exact b3⟩
 ·have q:=k.nd
  rw[map_append,map_cons] at q ⊢
  exact q
theorem Ok.freeze(k:Ok B F (O1++(p,o)::O2) H):Ok B (upd F p o) (O1++O2) H:=by
 obtain⟨a1,a2,a3⟩:=k.one
 refine⟨λb u e=>?_,k.h0,λb u e=>?_,λx hx=>?_,k.drop.nd⟩
 ·by_cases q:b=p
  ·subst q;rw[zJ] at e;cases e;exact a3
  ·rw[zP q] at e;exact k.fh b u e
 ·by_cases q:b=p
  ·subst q;exact .inr a2
  ·rw[zP q] at e;exact k.fa b u e
 ·obtain⟨b1,b2,b3⟩:=k.drop.fo x hx
  exact⟨by rw[zP (k.ndp x hx)];exact b1,b2,b3⟩
theorem zU2(h:H p=none):Same (lo F (O1++O2) H) (lo F (O1++(p,o)::O2) (upd H p o)):=λb u e=>by
 unfold lo at e ⊢
 by_cases q:b=p
 ·subst q
  split at e
  ·cases e
  ·rw[h] at e;cases e
 ·rw[zP q]
  have z:((O1++(p,o)::O2).any λx=>x.1==b)=((O1++O2).any λx=>x.1==b):=by
   rw[any_append,any_append,any_cons]
   have:(p==b)=false:=by simp;exactλe=>q e.symm
   simp[this]
  rw[z]
  exact e
theorem zU1:Same (lo F (O1++(p,o)::O2) H) (lo F (O1++(p,o')::O2) (upd H p o')):=λb u e=>by
 unfold lo at e ⊢
 by_cases q:b=p
 ·subst q
  rw[any_append,any_cons] at e
  simp at e
 ·rw[zP q]
  have z:((O1++(p,o)::O2).any λx=>x.1==b)=((O1++(p,o')::O2).any λx=>x.1==b):=by
   rw[any_append,any_append,any_cons,any_cons]
  rw[<-z]
  exact e
theorem lQ:Same (lo F (O1++(p,o)::O2) H) (lo F (O1++O2) H):=λb u e=>by
 unfold lo at e ⊢
 split at e
 ·cases e
 ·rename_i h
  rw[if_neg]
  ·exact e
  ·rw[any_append,any_cons] at h
   rw[any_append]
   simp at h ⊢
   exact⟨h.1,h.2.1,h.2.2.2⟩
theorem oW:Same (lo F (O1++(p,o)::O2) H) (lo (upd F p o) (O1++O2) H):=λb u e=>by
 unfold lo at e ⊢
 split at e
 ·cases e
 ·rename_i h
  rw[any_append,any_cons] at h
  simp at h
  have q:b≠p:=λz=>h.2.2.1 z.symm
  rw[zP q,if_neg]
  ·exact e
  ·rw[any_append]
   simp
   exact⟨h.1,h.2.1,h.2.2.2⟩
theorem Ok.called(k:Ok B F O H)(s:Same H H'):bH B F H O (ext F H H') H':=by
 have e1:∀b o,ext F H H' b=some o->F b=some o\/H b=none:=λb o h=>by
  unfold ext at h
  cases q:H b with
  |none=>exact .inr rfl
  |some u=>rw[q] at h;exact .inl h
 refine⟨λb o h=>?_,s,⟨λb o h=>?_,k.h0.trans s,λb o h=>?_,λx hx=>?_,k.nd⟩,λb h1 h2=>?_⟩
 ·unfold ext
  rw[k.fh b o h]
  exact h
 ·unfold ext at h
  cases q:H b with
  |none=>rw[q] at h;exact h
  |some u=>rw[q] at h;rw[<-k.fh b o h];exact(s b u q).trans q.symm
 ·rcases e1 b o h with z|z
  ·exact k.fa b o z
  ·exact .inr (k.h0.free z)
 ·obtain⟨a1,a2,a3⟩:=k.fo x hx
  refine⟨?_,a2,s _ _ a3⟩
  unfold ext
  rw[a3]
  exact a1
 ·unfold ext
  cases q:H b with
  |none=>exact absurd q h2
  |some u=>exact h1
theorem Kg(h0:Same B.H0 H)(s:Same H H'):Same (dif H' H) (dif (ext F H H') B.H0):=λb o h=>by
 unfold dif at h
 cases q:H b with
 |none =>
  rw[q] at h
  rw[xT (h0.free q)]
  unfold ext
  rw[q]
  exact h
 |some u=>rw[q] at h;cases h
theorem zTq(s:Same H H'):Same (ext H H H') H':=λb o h=>by
 unfold ext at h
 cases q:H b with
 |none=>rw[q] at h;exact h
 |some u=>rw[q] at h;cases(show some u=some o from h);exact s b _ q
theorem Kh(h0:Same B.H0 H):Same (ext (dif F B.H0) H H') (dif (ext F H H') B.H0):=λb o h=>by
 unfold ext at h
 cases q:H b with
 |none =>
  rw[q] at h
  rw[xT (h0.free q)]
  unfold ext
  rw[q]
  exact h
 |some u =>
  rw[q] at h
  have z:B.H0 b=none:=by
   cases z:B.H0 b with
   |none=>rfl
   |some w =>
    unfold dif at h
    simp only[z] at h
    cases h
  rw[xT z] at h ⊢
  unfold ext
  rw[q]
  exact h
variable{md md1 md2:Md}{α β γ:Type}[Rp K α][Rp K β][Rp K γ]{t t1 t2:TE}{m:Option α}{m1:Option β}{m2:Option γ}
def Ex(B:Bs)(sl:SL K)(md:Md)(t:TE){α:Type}[Rp K α](m:Option α):Prop :=
 ∀a,m=some a->∀(F:Hp)(O:Own)(H:Hp)(σ:St)(Q:VK),At B sl F O H σ->(∀(v:V)(F' H':Hp),bH B F H O F' H'->rp K (reg B F' H' md) v a->Q v H')->t σ H Q
def Et(B:Bs)(sl:SL K)(t:TT)(m:Option Bool):Prop :=
 ∀a,m=some a->∀(F:Hp)(O:Own)(H:Hp)(σ:St)(Q:Bool->Hp->Prop),At B sl F O H σ->(∀(F' H':Hp),bH B F H O F' H'->Q a H')->t σ H Q
inductive Ar(R:Hp):SL K->List V->Prop
 |nil:Ar R [] []
 |cons {n:Bool} {α:Type} [Rp K α] {a:α} {v:V} {sl:SL K} {vs:List V}:rp K R v a->Ar R sl vs->Ar R (.fz n a::sl) (v::vs)
def Ea(B:Bs)(sl:SL K)(md:Md)(t:TA){A:Type}(as:A->SL K)(m:Option A):Prop :=
 ∀a,m=some a->∀(F:Hp)(O:Own)(H:Hp)(σ:St)(Q:List V->Hp->Prop),At B sl F O H σ->(∀(vs:List V)(F' H':Hp),bH B F H O F' H'->Ar (reg B F' H' md) (as a) vs->Q vs H')->t σ H Q
theorem Ex.sc[Sc K α](h:Ex B sl md t m):Ex B sl md1 t m:=λa ha F O H σ Q s k=>h a ha F O H σ Q s λv F' H' g r=>k v F' H' g (yx r)
theorem XM[Nn K α](h:Ex B sl md t m):Ex B sl md t (m.bind λa=>some (some a)):=λa ha F O H σ Q s k=>by
 cases m with
 |none=>cases ha
 |some a' =>
  cases(show some (some a')=some a from ha)
  exact h a' rfl F O H σ Q s λv F' H' g r=>k v F' H' g ⟨Nn.nn (K:=K) r,r⟩
theorem zW{n:Bool}{a:α}(i:Nat)(hs:sl[i]?=some (.fz n a)):Ex B sl (d_ n) (cj i) (some a):=λa' ha F O H σ Q s k=>by
 cases ha
 obtain⟨v,h1,h2⟩:=s.2.qu hs
 exact⟨v,h1,k v F H (.refl s.1) h2⟩
theorem zI[Sc K α]{n:Bool}{a:α}(i:Nat)(hs:sl[i]?=some (.fz n a)):Ex B sl md (cj i) (some a):=(zW i hs).sc
theorem lo_le:Same (lo F O H) H:=λb o h=>by
 unfold lo at h
 split at h
 ·cases h
 ·exact h
theorem zc(k:Ok B F O H)(n:Bool):Same (reg B F H (d_ n)) H:=match n with
 |true=>aW.trans k.fh
 |false=>k.fh
theorem zE{n:Bool}{a:α}(i:Nat)(hs:sl[i]?=some (.fz n a)):Ex B sl .hp (cj i) (some a):=λa' ha F O H σ Q s k=>by
 cases ha
 obtain⟨v,h1,h2⟩:=s.2.qu hs
 exact⟨v,h1,k v F H (.refl s.1) (Rp.mono (zc s.1 n) h2)⟩
theorem BP{n:Bool}{xs:List α}(i:Nat)(hs:sl[i]?=some (.ow n xs)):Ex B sl .hp (cj i) (some xs):=λa' ha F O H σ Q s k=>by
 cases ha
 obtain⟨O1,O2,p,vs,rfl,h1,h2,_⟩:=s.2.oV hs
 exact⟨_,h1,k _ F H (.refl s.1) ⟨p,vs,rfl,s.1.one.2.2,h2.imp λ_ _=>Rp.mono (zc s.1 n)⟩⟩
theorem Kl[Sc K α](a:α):Ex B sl md (tC (Sc.val K a)) (some a):=λa' ha F O H σ Q s k=>by cases ha;exact k _ F H (.refl s.1) (Sc.is.mpr rfl)
theorem zV(i:Int):Ex B sl md (tC (.int i)) (some i):=Kl (K:=K) i
theorem Dn(i:Bool):Ex B sl md (tC (.bl i)) (some i):=Kl (K:=K) i
theorem BR(i:Str):Ex B sl md (tC (.str i)) (some i):=Kl (K:=K) i
theorem zQr:Ex B sl md (tC .non) (some (none:Option α)):=λa' ha F O H σ Q s k=>by cases ha;exact k _ F H (.refl s.1) rfl
theorem qg{f:β->γ->Option α}(h:(m1.bind λa=>m2.bind λb=>f a b)=some c):∃a b,m1=some a/\m2=some b/\f a b=some c:=by
 cases m1 with
 |none=>cases h
 |some a =>
  cases m2 with
  |none=>cases h
  |some b=>exact⟨a,b,rfl,rfl,h⟩
theorem BW{f:β->γ->Option α}[Sc K α](hr:∀(a:β) (b:γ) (c:α) (v w:V) (H:Hp) (Q:VK),f a b=some c->rp K H v a->rp K H w b->Q (Sc.val K c) H->r v w H Q)(h1:Ex B sl .hp t1 m1)(h2:Ex B sl .hp t2 m2):Ex B sl md (jE r t1 t2) (m1.bind λa=>m2.bind λb=>f a b):=λc hc F O H σ Q s k=>by
 obtain⟨a,b,ha,hb,hf⟩:=qg hc
 refine h1 a ha F O H σ _ s λv F' H' g r1=>?_
 refine h2 b hb F' O H' σ _ (s.grow g) λw F2 H2 g2 r2=>?_
 exact hr a b c v w H2 Q hf (Rp.mono g2.hh r1) r2 (k _ F2 H2 (g.trans g2) (Sc.is.mpr rfl))
theorem vH(h:Ex B sl md t m'):Et B sl (Ux t) m':=λc hc F O H σ Q s k=>h c hc F O H σ _ s λv F' H' g r=>⟨c,r,k F' H' g⟩
theorem cU(h:Ex B sl md t m'):Et B sl (tB t) m':=λc hc F O H σ Q s k=>h c hc F O H σ _ s λv F' H' g r=>⟨c,r,k F' H' g⟩
theorem QZ{t:TT}{n:Option Bool}(h:Et B sl t n):Et B sl (Qj t) (n.bind λc=>some !c):=λc hc F O H σ Q s k=>by
 cases n with
 |none=>cases hc
 |some c' =>
  cases(show some (!c')=some c from hc)
  exact h c' rfl F O H σ _ s λF' H' g=>k F' H' g
theorem Km(h:Ex B sl .hp t n):Ex B sl md (G5 t) (n.bind λc=>some !c):=λc hc F O H σ Q s k=>by
 cases n with
 |none=>cases hc
 |some c' =>
  cases(show some (!c')=some c from hc)
  refine h c' rfl F O H σ _ s λv F' H' g r=>?_
  cases r
  exact⟨c',rfl,k _ F' H' g rfl⟩
theorem zU7{t u:TT}{n n':Option Bool}(h:Et B sl t n)(h':Et B sl u n'):Et B sl (Qi t u) (n.bind λc=>if c=true then n' else some false):=λc hc F O H σ Q s k=>by
 cases n with
 |none=>cases hc
 |some c' =>
  refine h c' rfl F O H σ _ s λF' H' g=>?_
  cases c' with
  |true=>exact iI (h' c (by simpa using hc) F' O H' σ _ (s.grow g) λF2 H2 g2=>k F2 H2 (g.trans g2))
  |false=>cases(show some false=some c from by simpa using hc);exact lG (k F' H' g)
theorem zf{t u:TT}{n n':Option Bool}(h:Et B sl t n)(h':Et B sl u n'):Et B sl (Wx t u) (n.bind λc=>if c=true then some true else n'):=λc hc F O H σ Q s k=>by
 cases n with
 |none=>cases hc
 |some c' =>
  refine h c' rfl F O H σ _ s λF' H' g=>?_
  cases c' with
  |true=>cases(show some true=some c from by simpa using hc);exact iI (k F' H' g)
  |false=>exact lG (h' c (by simpa using hc) F' O H' σ _ (s.grow g) λF2 H2 g2=>k F2 H2 (g.trans g2))
theorem XQ(h:Ex B sl .hp t1 n)(h':Ex B sl .hp t2 n'):Ex B sl md (G4 t1 t2) (n.bind λc=>if c=true then n' else some false):=λc hc F O H σ Q s k=>by
 cases n with
 |none=>cases hc
 |some c' =>
  refine h c' rfl F O H σ _ s λv F' H' g r=>?_
  cases r
  refine⟨c',rfl,?_⟩
  cases c' with
  |true=>exact iI (h' c (by simpa using hc) F' O H' σ _ (s.grow g) λv F2 H2 g2 r2=>k v F2 H2 (g.trans g2) (yx r2))
  |false=>cases(show some false=some c from by simpa using hc);exact lG (k _ F' H' g rfl)
theorem zU5{t:TT}{n:Option Bool}{m m':Option α}(h:Et B sl t n)(h1:Ex B sl md t1 m)(h2:Ex B sl md t2 m'):Ex B sl md (tIf t t1 t2) (n.bind λc=>if c=true then m else m'):=λc hc F O H σ Q s k=>by
 cases n with
 |none=>cases hc
 |some c' =>
  refine h c' rfl F O H σ _ s λF' H' g=>?_
  cases c' with
  |true=>exact iI (h1 c (by simpa using hc) F' O H' σ _ (s.grow g) λv F2 H2 g2 r2=>k v F2 H2 (g.trans g2) r2)
  |false=>exact lG (h2 c (by simpa using hc) F' O H' σ _ (s.grow g) λv F2 H2 g2 r2=>k v F2 H2 (g.trans g2) r2)
theorem zO:Ea B sl md bh (λ_:Unit=>[]) (some ()):=λa ha F O H σ Q s k=>k [] F H (.refl s.1) .nil
theorem zF{A:Type}{as:A->SL K}{ma:Option A}(h1:Ex B sl md t m)(h2:Ea B sl md tr as ma):Ea B sl md (yM t tr) (λx:α×A=>.fz false x.1::as x.2) (m.bind λa=>ma.bind λb=>some (a,b)):=λc hc F O H σ Q s k=>by
 cases m with
 |none=>cases hc
 |some a =>
  cases ma with
  |none=>cases hc
  |some b =>
   cases(show some (a,b)=some c from hc)
   refine h1 a rfl F O H σ _ s λv F' H' g r1=>?_
   refine h2 b rfl F' O H' σ _ (s.grow g) λvs F2 H2 g2 r2=>?_
   exact k (v::vs) F2 H2 (g.trans g2) (.cons (Rp.mono (xD g2 md) r1) r2)
theorem Ot(k:Ok B F O H)(h:H p=none)(md:Md):reg B (upd F p o) (upd H p o) md p=some o:=match md with
 |.nw=>by show dif (upd F p o) B.H0 p=_;rw[xT (k.h0.free h)];exact zJ
 |.fz=>zJ
 |.hp=>zJ
def cap:Nat:=100000
theorem BX(h:n<cap):n<sizeLine:=adz h (by decide)
theorem zVb(h:n<=cap):n<=sizeLine:=aa0 h (by decide)
def El(B:Bs)(sl:SL K)(md:Md)(t:TA){α:Type}[Rp K α](m:Option (List α)):Prop :=
 ∀a,m=some a->∀(F:Hp)(O:Own)(H:Hp)(σ:St)(Q:List V->Hp->Prop),At B sl F O H σ->(∀(vs:List V)(F' H':Hp),bH B F H O F' H'->A2 (rp K (reg B F' H' md)) vs a->Q vs H')->t σ H Q
theorem Hs:El B sl md bh (some ([]:List α)):=λa ha F O H σ Q s k=>by cases ha;exact k [] F H (.refl s.1) trivial
theorem xU(h1:Ex B sl md t m)(h2:El B sl md tr ma):El B sl md (yM t tr) (m.bind λa=>ma.bind λb=>some (a::b)):=λc hc F O H σ Q s k=>by
 cases m with
 |none=>cases hc
 |some a =>
  cases ma with
  |none=>cases hc
  |some b =>
   cases(show some (a::b)=some c from hc)
   refine h1 a rfl F O H σ _ s λv F' H' g r1=>?_
   refine h2 b rfl F' O H' σ _ (s.grow g) λvs F2 H2 g2 r2=>?_
   exact k (v::vs) F2 H2 (g.trans g2) ⟨Rp.mono (xD g2 md) r1,r2⟩
def Eo(B:Bs)(sl:SL K)(md:Md)(t:TE){α:Type}[Rp K α](m:Option (List α)):Prop :=
 ∀a,m=some a->∀(F:Hp)(O:Own)(H:Hp)(σ:St)(Q:VK),At B sl F O H σ->(∀(p:Addr)(vs:List V)(F' H':Hp),bH B F H O F' H'->H' p=none->A2 (rp K (reg B F' H' md)) vs a->Q (.ref p) (upd H' p (.lst vs)))->t σ H Q
theorem Eo.ex{m:Option (List α)}(h:Eo B sl md t m):Ex B sl md t m:=λa ha F O H σ Q s k=>h a ha F O H σ Q s λp vs F' H' g hp r=>by
 have g2:=bH.new g.ok hp (.lst vs)
 exact k _ _ _ (g.trans g2) ⟨p,vs,rfl,Ot g.ok hp md,r.imp λ_ _=>Rp.mono (xD g2 md)⟩
theorem zj:Eo B sl md (JZ bh) (some ([]:List α)):=λa ha F O H σ Q s k=>by
 cases ha
 exact⟨aa5 _,λp hp=>k p [] F H (.refl s.1) hp trivial⟩
theorem Ht{t:TA}{ma:Option (List α)}(h:El B sl md t ma)(hl:∀a,ma=some a->a.length<=cap):Eo B sl md (JZ t) ma:=λa ha F O H σ Q s k =>
 h a ha F O H σ _ s λvs F' H' g r=>⟨by rw[r.len];exact zVb (hl a ha),λp hp=>k p vs F' H' g hp r⟩
theorem Dp(h1:Ex B sl md t1 m1)(h2:Ex B sl md t2 m2):Ex B sl md (tH (yM t1 (yM t2 bh))) (m1.bind λa=>m2.bind λb=>some (a,b)):=λc hc F O H σ Q s kk=>by
 obtain⟨a,b,ha,hb,hf⟩:=qg hc
 cases hf
 refine h1 a ha F O H σ _ s λv F' H' g r1=>?_
 refine h2 b hb F' O H' σ _ (s.grow g) λw F2 H2 g2 r2=>?_
 refine⟨by show 2<=sizeLine;decide,λp hp=>?_⟩
 have g3:=bH.new g2.ok hp (.tup [v,w])
 exact kk _ _ _ (g.trans (g2.trans g3)) ⟨p,v,w,rfl,Ot g2.ok hp md,Rp.mono (xD (g2.trans g3) md) r1,Rp.mono (xD g3 md) r2⟩
def cL(K:PySem.W.Frag)(al:Bool){A β:Type}[Rp K β](as:A->SL K)(f:A->Option β):Sp:=λvs H Q _ =>
 ∃a b Fa,Same Fa H/\f a=some b/\Ar Fa (as a) vs/\∀v H',Same H H'->rp K (if al=true then ext Fa H H' else dif H' H) v b->Q v H'
theorem zM{A:Type}{as:A->SL K}{f:A->Option β}{ma:Option A}(h:Ea B sl .hp ta as ma):Ex B sl md (tM (cL K false as f) [] E0 ta) (ma.bind f):=λc hc F O H σ Q s kk=>by
 cases ma with
 |none=>cases hc
 |some a =>
  refine h a rfl F O H σ _ s λvs F' H' g r=>?_
  rw[append_nil]
  refine⟨a,c,H',.refl _,hc,r,λv H2 s2 r2=>?_⟩
  have g2:=g.ok.called s2
  refine kk v _ H2 (g.trans g2) ?_
  have r3:=Rp.mono (Kg (F:=F') g.ok.h0 s2) r2
  exact match md with
  |.nw=>r3
  |.fz=>Rp.mono aW r3
  |.hp=>Rp.mono (aW.trans g2.ok.fh) r3
theorem zTr{A:Type}{as:A->SL K}{f:A->Option β}{ma:Option A}(h:Ea B sl md ta as ma):Ex B sl md (tM (cL K true as f) [] E0 ta) (ma.bind f):=λc hc F O H σ Q s kk=>by
 cases ma with
 |none=>cases hc
 |some a =>
  refine h a rfl F O H σ _ s λvs F' H' g r=>?_
  rw[append_nil]
  have hle:Same (reg B F' H' md) H':=match md with
   |.nw=>aW.trans g.ok.fh
   |.fz=>g.ok.fh
   |.hp=>.refl _
  refine⟨a,c,reg B F' H' md,hle,hc,r,λv H2 s2 r2=>?_⟩
  have g2:=g.ok.called s2
  refine kk v _ H2 (g.trans g2) ?_
  exact match md,r2 with
  |.nw,r2=>Rp.mono (Kh g.ok.h0) r2
  |.fz,r2=>r2
  |.hp,r2=>Rp.mono (zTq s2) r2
end
def push{α:Type}(xs:List α)(a:α):Option (List α):=if xs.length<cap then some (xs++[a]) else none
def tX{α:Type}(xs:List α)(i:Int)(a:α):Option (List α):=(sI xs.length i).bind λj=>some (xs.set j a)
def uO(n:Int):Option LI:=if -(2^62)<=n/\n<2^62 then some ((aa1 n.toNat).map ada) else none
def wB{S α:Type}(step:S->α->Option S):List α->S->Option S
 |[],s=>some s
 |x::xs,s=>(step s x).bind λs'=>wB step xs s'
inductive Out(S β:Type)|nx (s:S)|rt (b:β)
def uK{S α β:Type}(step:S->α->Option (Out S β)):List α->S->Option (Out S β)
 |[],s=>some (.nx s)
 |x::xs,s=>(step s x).bind λo=>match o with
  |.nx s'=>uK step xs s'
  |.rt b=>some (.rt b)
def Hu{S:Type}(c:S->Option Bool)(body:S->Option S):Nat->S->Option S
 |0,_=>none
 |k+1,s=>(c s).bind λb=>if b=true then(body s).bind λs'=>Hu c body k s' else some s
def wG{α β:Type}(c:α->Option Bool)(f:α->Option β):List α->Option (List β)
 |[]=>some []
 |x::xs=>(c x).bind λb=>if b=true then(f x).bind λy=>(wG c f xs).bind λys=>some (y::ys) else wG c f xs
def Out.els{S β:Type}(o:Out S β)(f:S->Option β):Option β:=match o with
 |.nx s=>f s
 |.rt b=>some b
def Out.aP{S S' β:Type}(o:Out S β)(f:S->Option (Out S' β)):Option (Out S' β):=match o with
 |.nx s=>f s
 |.rt b=>some (.rt b)
theorem XR{S α:Type}(step:S->α->Option S):∀(xs ys:List α)(s:S),wB step (xs++ys) s=(wB step xs s).bind λs'=>wB step ys s'
 |[],ys,s=>rfl
 |x::xs,ys,s=>by
  show(step s x).bind _=((step s x).bind _).bind _
  cases step s x with
  |none=>rfl
  |some s'=>exact XR step xs ys s'
theorem zNo{S α:Type}{step:S->α->Option S}{xs:List α}{s s1:S}(h:wB step xs s=some s1){x:α}(hx:xs[i]?=some x):∃a b,wB step (xs.take i) s=some a/\step a x=some b/\wB step (xs.take (i+1)) s=some b:=by
 have e:xs=xs.take (i+1)++xs.drop (i+1):=(take_append_drop _ _).symm
 have e2:xs.take (i+1)=xs.take i++[x]:=by rw[take_add_one,hx]<;>rfl
 rw[e,XR] at h
 cases q:wB step (xs.take (i+1)) s with
 |none=>rw[q] at h;cases h
 |some b =>
  have q':=q
  rw[e2,XR] at q'
  cases z:wB step (xs.take i) s with
  |none=>rw[z] at q';cases q'
  |some a =>
   rw[z] at q'
   have q2:(step a x).bind (λs'=>some s')=some b:=q'
   refine⟨a,b,rfl,?_,rfl⟩
   cases w:step a x with
   |none=>rw[w] at q2;cases q2
   |some c=>rw[w] at q2;exact q2
section
variable{K:PySem.W.Frag}{B:Bs}{F H F' H' G:Hp}{O:Own}{sl sl2:SL K}{σ:St}{md:Md}{α β γ:Type}[Rp K α][Rp K β][Rp K γ]{t u v:TS}{te:TE}{m:Option α}{S S':Type}{al:Bool}
def Sg(B:Bs)(G:Hp)(sl:SL K)(σ:St)(H:Hp):Prop:=∃F O,Same G F/\At B sl F O H σ
def Rt(K:PySem.W.Frag){β:Type}[Rp K β](B:Bs)(al:Bool)(b:β)(v:V)(H':Hp):Prop:=Same B.H0 H'/\rp K (if al=true then ext B.Fa B.H0 H' else dif H' B.H0) v b
def Sn(B:Bs)(sl:SL K)(t:TS){S:Type}(L:S->SL K)(m:Option S):Prop :=
 ∀a,m=some a->∀(G:Hp)(D:Ends)(σ:St)(H:Hp),Sg B G sl σ H->(∀σ' H',Sg B G (L a) σ' H'->D.nx σ' H')->t D σ H
def SB(B:Bs)(sl:SL K)(t:TS)(al:Bool){β:Type}[Rp K β](m:Option β):Prop :=
 ∀b,m=some b->∀(G:Hp)(D:Ends)(σ:St)(H:Hp),Sg B G sl σ H->(∀v H',Rt K B al b v H'->D.rt v H')->t D σ H
def XE(B:Bs)(G:Hp)(al:Bool)(L:S->SL K)(D:Ends)(o:Out S β):Prop:=match o with
 |.nx s=>∀σ' H',Sg B G (L s) σ' H'->D.nx σ' H'
 |.rt b=>∀v H',Rt K B al b v H'->D.rt v H'
def Sx(B:Bs)(sl:SL K)(t:TS)(al:Bool){S β:Type}[Rp K β](L:S->SL K)(m:Option (Out S β)):Prop :=
 ∀o,m=some o->∀(G:Hp)(D:Ends)(σ:St)(H:Hp),Sg B G sl σ H->XE B G al L D o->t D σ H
theorem SB.of(h:SB B sl t al m)(q:m=m'):SB B sl t al m':=q▸h
theorem Sn.of(h:Sn B sl t L m)(q:m=m'):Sn B sl t L m':=q▸h
inductive Le:SL K->SL K->Prop
 |nil:Le [] []
 |eq {s:Slot K} {a b:SL K}:Le a b->Le (s::a) (s::b)
 |un {s:Slot K} {a b:SL K}:Le a b->Le (s::a) (.un::b)
 |fr {n:Bool} {α:Type} [Rp K α] {xs:List α} {a b:SL K}:Le a b->Le (.ow n xs::a) (.fz n xs::b)
 |old {α:Type} [Rp K α] {x:α} {a b:SL K}:Le a b->Le (.fz true x::a) (.fz false x::b)
theorem ak.le(h:Le sl sl2):∀{F:Hp}{σ:St}{O:Own},Ok B F (P++O) H->ak B F (lo F (P++O) H) H sl σ O->∃F' O',Same F F'/\Ok B F' (P++O') H/\Same (lo F (P++O) H) (lo F' (P++O') H)/\ak B F' (lo F' (P++O') H) H sl2 σ O':=by
 induction h generalizing P with
 |nil=>intro F σ O k h;cases h;exact⟨F,[],.refl _,k,.refl _,.nil⟩
 |eq _ ih =>
  intro F σ O k h
  cases h with
  |un h=>obtain⟨F',O',a,b,c,d⟩:=ih k h;exact⟨F',O',a,b,c,.un d⟩
  |fz r h=>obtain⟨F',O',a,b,c,d⟩:=ih k h;exact⟨F',O',a,b,c,.fz (Rp.mono (wD _ a) r) d⟩
  |hs r h=>obtain⟨F',O',a,b,c,d⟩:=ih k h;exact⟨F',O',a,b,c,.hs r d⟩
  |nu r h=>obtain⟨F',O',a,b,c,d⟩:=ih k h;exact⟨F',O',a,b,c,.nu (Rp.mono (yZ c) r) d⟩
  |@ow _ _ _ _ _ _ O p vs r h =>
   have e:P++(p,HO.lst vs)::O=(P++[(p,HO.lst vs)])++O:=by simp
   rw[e] at k h
   obtain⟨F',O',a,b,c,d⟩:=ih k h
   have e':(P++[(p,HO.lst vs)])++O'=P++(p,HO.lst vs)::O':=by simp
   rw[e'] at b c d
   rw[<-e] at c
   exact⟨F',_::O',a,b,c,.ow (r.imp λ_ _=>Rp.mono (wD _ a)) d⟩
  |@od _ _ _ _ _ O p vs r h =>
   have e:P++(p,HO.dK vs)::O=(P++[(p,HO.dK vs)])++O:=by simp
   rw[e] at k h
   obtain⟨F',O',a,b,c,d⟩:=ih k h
   have e':(P++[(p,HO.dK vs)])++O'=P++(p,HO.dK vs)::O':=by simp
   rw[e'] at b c d
   rw[<-e] at c
   exact⟨F',_::O',a,b,c,.od (r.imp λ_ _ z=>⟨z.1,Rp.mono a z.2⟩) d⟩
 |un _ ih =>
  intro F σ O k h
  cases h with
  |un h=>obtain⟨F',O',a,b,c,d⟩:=ih k h;exact⟨F',O',a,b,c,.un d⟩
  |fz r h=>obtain⟨F',O',a,b,c,d⟩:=ih k h;exact⟨F',O',a,b,c,.un d⟩
  |hs r h=>obtain⟨F',O',a,b,c,d⟩:=ih k h;exact⟨F',O',a,b,c,.un d⟩
  |nu r h=>obtain⟨F',O',a,b,c,d⟩:=ih k h;exact⟨F',O',a,b,c,.un d⟩
  |ow r h=>obtain⟨F',O',a,b,c,d⟩:=ih k.drop (h.mono (.refl _) lQ (.refl _));exact⟨F',O',a,b,lQ.trans c,.un d⟩
  |od r h=>obtain⟨F',O',a,b,c,d⟩:=ih k.drop (h.mono (.refl _) lQ (.refl _));exact⟨F',O',a,b,lQ.trans c,.un d⟩
 |@fr n _ _ _ _ _ _ ih =>
  intro F σ O k h
  cases h with
  |@ow _ _ _ _ _ _ O p vs r h =>
   obtain⟨a1,a2,a3⟩:=k.one
   have sf:Same F (upd F p (.lst vs)):=au a1 _
   obtain⟨F',O',a,b,c,d⟩:=ih k.freeze (h.mono sf oW (.refl _))
   refine⟨F',O',sf.trans a,b,oW.trans c,.fz ⟨p,vs,rfl,?_,r.imp λ_ _=>Rp.mono (wD _ (sf.trans a))⟩ d⟩
   cases n with
   |true=>exact(xT a2).trans (a _ _ zJ)
   |false=>exact a _ _ zJ
 |old _ ih =>
  intro F σ O k h
  cases h with
  |fz r h=>obtain⟨F',O',a,b,c,d⟩:=ih k h;exact⟨F',O',a,b,c,.fz (Rp.mono (aW.trans a) r) d⟩
theorem Sg.le(h:Sg B G sl σ H)(l:Le sl sl2):Sg B G sl2 σ H:=by
 obtain⟨F,O,g,k,s⟩:=h
 obtain⟨F',O',a,b,_,d⟩:=ak.le (P:=[]) l k s
 exact⟨F',O',g.trans a,b,d⟩
theorem Sg.grow(g:Same G F)(h:At B sl F O' H σ)(gr:bH B F H O' F' H'):Sg B G sl σ H':=⟨F',O',g.trans gr.ff,h.grow gr⟩
theorem yI(L:S->SL K)(s:S)(h:Le sl (L s)):Sn B sl Jy L (some s):=λa ha G D σ H q k=>by cases ha;exact k σ H (q.le h)
theorem zS{f:S->Option S'}(h1:Sn B sl t L m1)(h2:∀s,Sn B (L s) u L' (f s)):Sn B sl (iH t u) L' (m1.bind f):=λa ha G D σ H q k=>by
 cases m1 with
 |none=>cases ha
 |some s=>exact h1 s rfl G _ σ H q λσ' H' q'=>h2 s a ha G D σ' H' q' k
theorem zZ{f:S->Option β}(h1:Sn B sl t L m1)(h2:∀s,SB B (L s) u al (f s)):SB B sl (iH t u) al (m1.bind f):=λa ha G D σ H q k=>by
 cases m1 with
 |none=>cases ha
 |some s=>exact h1 s rfl G _ σ H q λσ' H' q'=>h2 s a ha G D σ' H' q' k
theorem XS{f:S->Option β}(h1:Sx B sl t al L m1)(h2:∀s,SB B (L s) u al (f s)):SB B sl (iH t u) al (m1.bind λo=>o.els f):=λa ha G D σ H q k=>by
 cases m1 with
 |none=>cases ha
 |some o =>
  cases o with
  |nx s=>exact h1 _ rfl G _ σ H q λσ' H' q'=>h2 s a ha G D σ' H' q' k
  |rt b=>cases ha;exact h1 _ rfl G { D with nx:=u D } σ H q k
theorem X3(L:S->SL K)(s:S)(h:Le sl (L s)):Sx B sl Jy al L (some (.nx s):Option (Out S β)):=λa ha G D σ H q k=>by cases ha;exact k σ H (q.le h)
theorem Hv(k:Ok B F' O H')(n:Bool){v:V}{b:β}(r:rp K (reg B F' H' (d_ n)) v b)(hn:n=!al):Rt K B al b v H':=by
 refine⟨k.h0,?_⟩
 cases al with
 |false=>subst hn;exact Rp.mono (yZ k.fh) r
 |true =>
  subst hn
  refine Rp.mono (λb o h=>?_) r
  have h:F' b=some o:=h
  show ext B.Fa B.H0 H' b=some o
  unfold ext
  cases q:B.H0 b with
  |none=>exact k.fh b o h
  |some u =>
   rcases k.fa b o h with z|z
   ·exact z
   ·rw[q] at z;cases z
theorem yC(h:Ex B sl (d_ !al) te m):SB B sl (iH (qU te) u) al m:=λb hb G D σ H s k=>by
 obtain⟨F,O,g,a⟩:=s
 exact h b hb F O H σ _ a λv F' H' gr r=>k v H' (Hv gr.ok (!al) r rfl)
theorem Dq(h:F p=none):Same (dif F H0) (dif (upd F p o) H0):=yZ (au h o)
theorem Hw{n:Bool}{xs:List α}(i:Nat)(hs:sl[i]?=some (.ow n xs))(hn:n=!al):SB B sl (iH (qU (cj i)) u) al (some xs):=λb hb G D σ H s k=>by
 cases hb
 obtain⟨F,O,g,a⟩:=s
 obtain⟨O1,O2,p,vs,rfl,h1,h2,_⟩:=a.2.oV hs
 obtain⟨a1,a2,a3⟩:=a.1.one
 refine⟨_,h1,k _ H (Hv a.1.freeze n ⟨p,vs,rfl,?_,h2.imp λ_ _=>Rp.mono ?_⟩ hn)⟩
 ·cases n with
  |true=>exact(xT a2).trans zJ
  |false=>exact zJ
 ·cases n with
  |true=>exact Dq a1
  |false=>exact au a1 _
theorem tY(hc:Et B sl c n)(h1:Sn B sl t L m1)(h2:Sn B sl u L m2):Sn B sl (tE c t u) L (n.bind λb=>if b=true then m1 else m2):=λa ha G D σ H s k=>by
 cases n with
 |none=>cases ha
 |some b =>
  obtain⟨F,O,g,z⟩:=s
  refine hc b rfl F O H σ _ z λF' H' gr=>?_
  cases b with
  |true=>exact iI (h1 a (by simpa using ha) G D σ H' (Sg.grow g z gr) k)
  |false=>exact lG (h2 a (by simpa using ha) G D σ H' (Sg.grow g z gr) k)
theorem uY{c:TT}{n:Option Bool}{m1 m2:Option β}(hc:Et B sl c n)(h1:SB B sl t al m1)(h2:SB B sl u al m2):SB B sl (iH (tE c t Jy) u) al (n.bind λb=>if b=true then m1 else m2):=λa ha G D σ H s k=>by
 cases n with
 |none=>cases ha
 |some b =>
  obtain⟨F,O,g,z⟩:=s
  refine hc b rfl F O H σ _ z λF' H' gr=>?_
  cases b with
  |true=>exact iI (h1 a (by simpa using ha) G _ σ H' (Sg.grow g z gr) k)
  |false=>exact lG (h2 a (by simpa using ha) G D σ H' (Sg.grow g z gr) k)
theorem X4{c:TT}{n:Option Bool}{m1:Option β}{L:S->SL K}{m2:Option (Out S β)}(hc:Et B sl c n)(h1:SB B sl t al m1)(h2:Sx B sl u al L m2) :
  Sx B sl (iH (tE c t Jy) u) al L (n.bind λb=>if b=true then m1.bind λb=>some (.rt b) else m2):=λa ha G D σ H s k=>by
 cases n with
 |none=>cases ha
 |some b =>
  obtain⟨F,O,g,z⟩:=s
  refine hc b rfl F O H σ _ z λF' H' gr=>?_
  cases b with
  |true =>
   have e:=(show(m1.bind λb=>some (Out.rt b))=some a by simpa using ha)
   cases m1 with
   |none=>cases e
   |some b=>cases e;exact iI (h1 b rfl G _ σ H' (Sg.grow g z gr) k)
  |false=>exact lG (h2 a (by simpa using ha) G D σ H' (Sg.grow g z gr) k)
theorem Sg.set{s:Slot K}{i:Nat}{n:Bool}{a:α}{v:V}{O:Own}(g:Same G F)(h:At B sl F O H σ)(hs:sl[i]?=some s)(ho:iK s=false)(r:rp K (reg B F H (d_ n)) v a):Sg B G (sl.set i (.fz n a)) (σ.set i (some v)) H :=
 ⟨F,O,g,h.1,h.2.put (λ_ _ _ z=>.fz r z) hs ho⟩
theorem xI(n:Bool)(i:Nat)(hs:sl[i]?=some s)(ho:iK s=false)(h:Ex B sl (d_ n) te m):Sn B sl (lD te (ou i)) (λa=>sl.set i (.fz n a)) m:=λa ha G D σ H s k=>by
 obtain⟨F,O,g,z⟩:=s
 exact h a ha F O H σ _ z λv F' H' gr r=>k _ _ (Sg.set (g.trans gr.ff) (z.grow gr) hs ho r)
theorem Ou(h:Ex B sl md te m):Sn B sl (Oa te) (λ_=>sl) m:=λa ha G D σ H s k=>by
 obtain⟨F,O,g,z⟩:=s
 exact h a ha F O H σ _ z λv F' H' gr r=>k _ _ (Sg.grow g z gr)
theorem At.own{s:Slot K}{i:Nat}{n:Bool}{xs:List α}{vs:List V}{p:Addr}(h:At B sl F O H σ)(hs:sl[i]?=some s)(ho:iK s=false)(hp:H p=none)(r:A2 (rp K (reg B F H (d_ n))) vs xs) :
  ∃O',At B (sl.set i (.ow n xs)) F O' (upd H p (.lst vs)) (σ.set i (some (.ref p))):=by
 obtain⟨k,z0⟩:=h
 obtain⟨O1,O2,rfl,z⟩:=z0.own (s':=.ow n xs) (x:=some (.ref p)) (c:=(p,.lst vs)) (λ_ _ _ z=>.ow r z) hs ho
 exact⟨_,k.add hp,z.mono (.refl _) (zU2 hp) (au hp _)⟩
theorem v9{s:Slot K}{m:Option (List α)}(n:Bool)(i:Nat)(hs:sl[i]?=some s)(ho:iK s=false)(h:Eo B sl (d_ n) te m):Sn B sl (lD te (ou i)) (λa=>sl.set i (.ow n a)) m:=λa ha G D σ H s k=>by
 obtain⟨F,O,g,z⟩:=s
 refine h a ha F O H σ _ z λp vs F' H' gr hp r=>k _ _ ?_
 obtain⟨O',z'⟩:=(z.grow gr).own hs ho hp r
 exact⟨F',O',g.trans gr.ff,z'⟩
theorem X5(i:Nat)(hs:sl[i]?=some s)(ho:iK s=false):Sn B sl (lD zUk (ou i)) (λ_=>sl.set i (.od ([]:List (Key×α)))) (some ()):=λa ha G D σ H s k=>by
 obtain⟨F,O,g,k0,z0⟩:=s
 intro p hp
 refine k _ _ ?_
 obtain⟨O1,O2,rfl,z'⟩:=z0.own (s':=.od ([]:List (Key×α))) (x:=some (.ref p)) (c:=(p,.dK [])) (λ_ _ _ z=>.od trivial z) hs ho
 exact⟨F,_,g,k0.add hp,z'.mono (.refl _) (zU2 hp) (au hp _)⟩
theorem X6{α:Type}:∀{l:List α}{i:Nat}{x:α},l[i]?=some x->l.set i x=l
 |[],_,_,h=>by simp at h
 |_::_,0,_,h=>by simp at h;subst h;rfl
 |_::l,i+1,_,h=>congrArg _ (X6 (l:=l) (i:=i) (by simpa using h))
theorem X7{P:Slot K->Bool}(hs:P s=true):∀{l:SL K}{i:Nat},l.all P=true->(l.set i s).all P=true
 |[],_,h=>h
 |_::_,0,h=>by rw[all_cons,aar] at h;rw[List.set_cons_zero,all_cons,aar];exact⟨hs,h.2⟩
 |_::l,i+1,h=>by rw[all_cons,aar] at h;rw[List.set_cons_succ,all_cons,aar];exact⟨h.1,X7 hs h.2⟩
theorem At.chg{i:Nat}{n:Bool}{xs:List α}(h:At B sl F O H σ)(hs:sl[i]?=some (.ow n xs))(hh:sl.all (λs=>!cJ s)=true):∃p vs,σ[i]?=some (some (.ref p))/\H p=some (.lst vs)/\A2 (rp K (reg B F H (d_ n))) vs xs /\
  ∀(ws:List V)(ys:List α),A2 (rp K (reg B F H (d_ n))) ws ys->∃O',At B (sl.set i (.ow n ys)) F O' (upd H p (.lst ws)) σ:=by
 obtain⟨k,z0⟩:=h
 obtain⟨O1,O2,p,vs,rfl,h1,h2,h3,_⟩:=z0.oV hs
 refine⟨p,vs,h1,k.one.2.2,h2,λws ys r=>⟨_,k.chg (.lst ws),?_⟩⟩
 have z:=h3 (.ow n ys) (some (.ref p)) (p,.lst ws) λ_ _ _ z=>.ow r z
 rw[X6 h1] at z
 exact z.mut zU1 (X7 rfl hh)
theorem At.Dr(h:At B sl F O H σ)(hs:sl[i]?=some (.od kvs))(hh:sl.all (λs=>!cJ s)=true):∃p ks,σ[i]?=some (some (.ref p))/\H p=some (.dK ks)/\A2 (λ(x:Key×V) (y:Key×α)=>x.1=y.1/\rp K F x.2 y.2) ks kvs /\
  ∀(ws:List (Key×V))(ys:List (Key×α)),A2 (λ(x:Key×V) (y:Key×α)=>x.1=y.1/\rp K F x.2 y.2) ws ys->∃O',At B (sl.set i (.od ys)) F O' (upd H p (.dK ws)) σ:=by
 obtain⟨k,z0⟩:=h
 obtain⟨O1,O2,p,vs,rfl,h1,h2,h3,_⟩:=z0.Hr hs
 refine⟨p,vs,h1,k.one.2.2,h2,λws ys r=>⟨_,k.chg (.dK ws),?_⟩⟩
 have z:=h3 (.od ys) (some (.ref p)) (p,.dK ws) λ_ _ _ z=>.od r z
 rw[X6 h1] at z
 exact z.mut zU1 (X7 rfl hh)
theorem uN(i:Nat)(hs:sl[i]?=some (.ow n xs))(hh:sl.all (λs=>!cJ s)=true)(h:Ex B sl (d_ n) te m) :
  Sn B sl (Oa (Ol K "list" Xj (cj i) (yM te bh))) (λys=>sl.set i (.ow n ys)) (m.bind λa=>push xs a):=λys ha G D σ H s k=>by
 cases m with
 |none=>cases ha
 |some a =>
  have ha':push xs a=some ys:=ha
  unfold push at ha'
  split at ha'
  case isFalse=>cases ha'
  rename_i hl
  cases ha'
  obtain⟨F,O,g,z⟩:=s
  obtain⟨p,vs,h1,h2,h3,_⟩:=z.chg hs hh
  refine⟨_,h1,.inl ⟨rfl,_,aV.of h2⟩,?_⟩
  refine h a rfl F O H σ _ z λv F' H' gr r=>?_
  obtain⟨p',vs',h1',h2',h3',h4'⟩:=(z.grow gr).chg hs hh
  have e:=h1.symm.trans h1'
  cases e
  obtain⟨O',z'⟩:=h4' (vs'++[v]) (xs++[a]) (h3'.snoc r)
  exact⟨p,vs',v,rfl,rfl,h2',BX (by rw[h3'.len];exact hl),k _ _ ⟨F',O',g.trans gr.ff,z'⟩⟩
theorem Va(i:Nat)(hs:sl[i]?=some (.ow n xs))(hh:sl.all (λs=>!cJ s)=true)(hv:Ex B sl (d_ n) te m)(hi:Ex B sl .hp ti mi) :
  Sn B sl (lD te (Qm (cj i) ti yh)) (λys=>sl.set i (.ow n ys)) (m.bind λa=>mi.bind λk=>tX xs k a):=λys ha G D σ H s k=>by
 cases m with
 |none=>cases ha
 |some a =>
  cases mi with
  |none=>cases ha
  |some ix =>
   have ha':tX xs ix a=some ys:=ha
   obtain⟨F,O,g,z⟩:=s
   refine hv a rfl F O H σ _ z λv F' H' gr r=>?_
   obtain⟨p,vs,h1,h2,h3,_⟩:=(z.grow gr).chg hs hh
   refine⟨_,h1,?_⟩
   refine hi ix rfl F' O H' σ _ (z.grow gr) λw F2 H2 sO rw=>?_
   cases rw
   obtain⟨p',vs',h1',h2',h3',h4'⟩:=((z.grow gr).grow sO).chg hs hh
   have e:=h1.symm.trans h1'
   cases e
   unfold tX at ha'
   cases ej:sI xs.length ix with
   |none=>rw[ej] at ha';cases ha'
   |some jj =>
    rw[ej] at ha'
    cases ha'
    obtain⟨O',z'⟩:=h4' (vs'.set jj v) (xs.set jj a) (h3'.set (Rp.mono (xD sO (d_ n)) r) jj)
    exact⟨p,vs',ix,jj,rfl,rfl,h2',by rw[h3'.len,ej],k _ _ ⟨F2,O',(g.trans gr.ff).trans sO.ff,z'⟩⟩
end
section
variable{K:PySem.W.Frag}{B:Bs}{F H F' H' G:Hp}{O:Own}{sl sl2:SL K}{σ:St}{md:Md}{α β γ:Type}[Rp K α][Rp K β][Rp K γ]{tb u v:TS}{te:TE}{m:Option α}{S S':Type}{al n:Bool}
theorem Vb{S α β:Type}(step:S->α->Option (Out S β)):∀(xs ys:List α)(s:S),uK step (xs++ys) s=(uK step xs s).bind λo=>o.aP λs'=>uK step ys s'
 |[],ys,s=>rfl
 |x::xs,ys,s=>by
  show(step s x).bind _=((step s x).bind _).bind _
  cases step s x with
  |none=>rfl
  |some o =>
   cases o with
   |nx s'=>exact Vb step xs ys s'
   |rt b=>rfl
theorem zNm{S α β:Type}{step:S->α->Option (Out S β)}{xs:List α}{s a:S}{x:α}(h:uK step (xs.take i) s=some (.nx a))(hx:xs[i]?=some x):uK step (xs.take (i+1)) s=step a x:=by
 have e2:xs.take (i+1)=xs.take i++[x]:=by rw[take_add_one,hx]<;>rfl
 rw[e2,Vb,h]
 show(step a x).bind _=step a x
 cases step a x with
 |none=>rfl
 |some o=>cases o<;>rfl
theorem zQn{S α β:Type}{step:S->α->Option (Out S β)}{xs:List α}{s:S}{o:Out S β}{b:β}(h:uK step xs s=some o)(hi:uK step (xs.take i) s=some (.rt b)):o=.rt b:=by
 rw[<-take_append_drop i xs,Vb,hi] at h
 cases h
 rfl
theorem zNn{S α β:Type}{step:S->α->Option (Out S β)}{xs:List α}{s:S}{o:Out S β}(i:Nat)(h:uK step xs s=some o):∃o',uK step (xs.take i) s=some o':=by
 rw[<-take_append_drop i xs,Vb] at h
 cases q:uK step (xs.take i) s with
 |none=>rw[q] at h;cases h
 |some o'=>exact⟨o',rfl⟩
def Yl(K:PySem.W.Frag)(B:Bs)(F':Hp)(n:Bool)(J:It){α:Type}[Rp K α](xs:List α):Prop:=∀(i:Nat)(F2:Hp)(O2:Own)(H2:Hp),Same F' F2->Ok B F2 O2 H2 ->
 (xs.length<=i->J.stop i H2)/\∀x,xs[i]?=some x->J.go i H2/\∀v H3,J.Og i H2 v H3->∃F3,bH B F2 H2 O2 F3 H3/\rp K (reg B F3 H3 (d_ n)) v x
def Ei(B:Bs)(sl:SL K)(n:Bool)(wi:TI){α:Type}[Rp K α](mi:Option (List α)):Prop :=
 ∀xs,mi=some xs->∀(F:Hp)(O:Own)(H:Hp)(σ:St)(R:It->Hp->Prop),At B sl F O H σ->(∀(J:It)(F' H':Hp),bH B F H O F' H'->Yl K B F' n J xs->R J H')->wi σ H R
def Tg(B:Bs)(sl:SL K)(n:Bool)(g:TG){α:Type}[Rp K α](L:α->SL K):Prop :=
 ∀(v:V)(x:α)(F:Hp)(O:Own)(H:Hp)(σ:St)(Q:St->Hp->Prop),At B sl F O H σ->rp K (reg B F H (d_ n)) v x->(∀σ',At B (L x) F O H σ'->Q σ' H)->g v σ H Q
theorem yK(i:Nat)(hs:sl[i]?=some s)(ho:iK s=false):Tg B sl n (ou i) (λx:α=>sl.set i (.fz n x)):=λv x F O H σ Q a r k=>k _ ⟨a.1,a.2.put (λ_ _ _ z=>.fz r z) hs ho⟩
theorem zOj(k:Ok B F O H)(h:reg B F H (d_ n) p=some o):H p=some o:=zc k n p o h
theorem Hx(i j:Nat)(hs:sl[i]?=some s)(ho:iK s=false)(hs':∀x:Slot K,(sl.set i x)[j]?=some s')(ho':iK s'=false) :
  Tg B sl n (CG K 2 (Od (ou i) (Od (ou j) JC))) (λx:α×β=>(sl.set i (.fz n x.1)).set j (.fz n x.2)):=λv x F O H σ Q a r k=>by
 obtain⟨p,w1,w2,rfl,h1,h2,h3⟩:=r
 refine⟨p,[w1,w2],rfl,.inl (.inl (zOj a.1 h1)),rfl,w1,[w2],rfl,w2,[],rfl,rfl,?_⟩
 exact k _ ⟨a.1,(a.2.put (s':=.fz n x.1) (λ_ _ _ z=>.fz h2 z) hs ho).put (λ_ _ _ z=>.fz h3 z) (hs' _) ho'⟩
theorem vI{L:S->SL K}{Lx:S->α->SL K}{step:S->α->Option S}(s0:S)(h0:Le sl (L s0))(hi:Ei B (L s0) n wi mi)(hg:∀s,Tg B (L s) n g (Lx s))(hb:∀s x,Sn B (Lx s x) tb L (step s x)) :
  Sn B sl (JK wi g tb) L (mi.bind λxs=>wB step xs s0):=λs1 hs1 G D σ H q k=>by
 cases mi with
 |none=>cases hs1
 |some xs =>
  have hs1:wB step xs s0=some s1:=hs1
  obtain⟨F,O,g0,a⟩:=q.le h0
  refine hi xs rfl F O H σ _ a λJ F' H' gr yl=>?_
  refine⟨λi m σ H=>m=xs.length-i/\i<=xs.length/\∃s,wB step (xs.take i) s0=some s/\Sg B F' (L s) σ H,⟨xs.length,rfl,aa5 _,s0,rfl,F',O,.refl _,a.grow gr⟩,?_⟩
  rintro i m σ H ⟨rfl,hil,s,hs,F2,O2,sf,a2⟩
  obtain⟨y1,y2⟩:=yl i F2 O2 H sf a2.1
  by_cases hlt:i<xs.length
  ·obtain⟨go,y3⟩:=y2 xs[i] (aap hlt)
   obtain⟨s',s'',e1,e2,e3⟩:=zNo hs1 (aap hlt)
   rw[hs] at e1
   cases e1
   refine .inr ⟨go,Sg B F' (L s''),λσ' H' z=>⟨xs.length-(i+1),by omega,rfl,hlt,s'',e3,z⟩,λv H3 yd=>?_⟩
   obtain⟨F3,g3,r3⟩:=y3 v H3 yd
   exact hg s v xs[i] F3 O2 H3 σ _ (a2.grow g3) r3 λσ' a'=>hb s xs[i] s'' e2 F' _ σ' H3 ⟨F3,O2,sf.trans g3.ff,a'⟩ λσ2 H2 z=>z
  ·have e:i=xs.length:=by omega
   subst e
   rw[take_length,hs1] at hs
   cases hs
   exact .inl ⟨y1 (aaq _),k σ H ⟨F2,O2,(g0.trans gr.ff).trans sf,a2⟩⟩
theorem X8{L:S->SL K}{Lx:S->α->SL K}{step:S->α->Option (Out S β)}(s0:S)(h0:Le sl (L s0))(hi:Ei B (L s0) n wi mi)(hg:∀s,Tg B (L s) n g (Lx s))(hb:∀s x,Sx B (Lx s x) tb al L (step s x)) :
  Sx B sl (JK wi g tb) al L (mi.bind λxs=>uK step xs s0):=λo ho G D σ H q k=>by
 cases mi with
 |none=>cases ho
 |some xs =>
  have ho:uK step xs s0=some o:=ho
  obtain⟨F,O,g0,a⟩:=q.le h0
  refine hi xs rfl F O H σ _ a λJ F' H' gr yl=>?_
  refine⟨λi m σ H=>m=xs.length-i/\i<=xs.length/\∃s,uK step (xs.take i) s0=some (.nx s)/\Sg B F' (L s) σ H,⟨xs.length,rfl,aa5 _,s0,rfl,F',O,.refl _,a.grow gr⟩,?_⟩
  rintro i m σ H ⟨rfl,hil,s,hs,F2,O2,sf,a2⟩
  obtain⟨y1,y2⟩:=yl i F2 O2 H sf a2.1
  by_cases hlt:i<xs.length
  ·obtain⟨go,y3⟩:=y2 xs[i] (aap hlt)
   have e2:=zNm hs (aap hlt)
   obtain⟨o',e3⟩:=zNn (i+1) ho
   refine .inr ⟨go,λσ H=>∃s',o'=.nx s'/\Sg B F' (L s') σ H,λσ' H' ⟨s',e,z⟩=>⟨xs.length-(i+1),by omega,rfl,hlt,s',by rw[e3,e],z⟩,λv H3 yd=>?_⟩
   obtain⟨F3,g3,r3⟩:=y3 v H3 yd
   refine hg s v xs[i] F3 O2 H3 σ _ (a2.grow g3) r3 λσ' a'=>hb s xs[i] o' (by rw[<-e2,e3]) F' _ σ' H3 ⟨F3,O2,sf.trans g3.ff,a'⟩ ?_
   cases o' with
   |nx s'=>exactλσ2 H2 z=>⟨s',rfl,z⟩
   |rt b =>
    have:=zQn ho e3
    subst this
    exact k
  ·have e:i=xs.length:=by omega
   subst e
   rw[take_length,ho] at hs
   cases hs
   exact .inl ⟨y1 (aaq _),k σ H ⟨F2,O2,(g0.trans gr.ff).trans sf,a2⟩⟩
theorem zSd{L:S->SL K}{cM:S->Option Bool}{bM:S->Option S}(fuel:Nat)(s0:S)(h0:Le sl (L s0))(hc:∀s,Et B (L s) c (cM s))(hb:∀s,Sn B (L s) tb L (bM s)):Sn B sl (zUi c tb) L (Hu cM bM fuel s0):=λs1 hs1 G D σ H q k=>by
 refine⟨λm σ H=>∃s,Hu cM bM m s=some s1/\Sg B G (L s) σ H,⟨fuel,s0,hs1,q.le h0⟩,?_⟩
 rintro m σ H ⟨s,hs,F,O,g,a⟩
 cases m with
 |zero=>cases hs
 |succ m =>
  have hs:((cM s).bind λb=>if b=true then(bM s).bind λs'=>Hu cM bM m s' else some s)=some s1:=hs
  cases e:cM s with
  |none=>rw[e] at hs;cases hs
  |some b =>
   rw[e] at hs
   refine hc s b e F O H σ _ a λF' H' gr=>?_
   cases b with
   |true =>
    have hs:((bM s).bind λs'=>Hu cM bM m s')=some s1:=by simpa using hs
    cases e2:bM s with
    |none=>rw[e2] at hs;cases hs
    |some s' =>
     rw[e2] at hs
     exact iI ⟨Sg B G (L s'),λσ' H' z=>⟨m,ab8 _,s',hs,z⟩,hb s s' e2 G _ σ H' (Sg.grow g a gr) λ_ _ z=>z⟩
   |false =>
    have hs:some s=some s1:=by simpa using hs
    cases hs
    exact lG (k σ H' (Sg.grow g a gr))
theorem yU{mi:Option (List α)}(h:Ex B sl (d_ n) te mi):Ei B sl n (w6 K te) mi:=λxs hx F O H σ R a k=>by
 refine h xs hx F O H σ _ a λv F' H' gr r=>?_
 obtain⟨p,vs,rfl,h1,h2⟩:=r
 refine⟨p,rfl,⟨vs,aV.of (zc gr.ok n p _ h1)⟩,k _ F' H' gr λi F2 O2 H2 sf k2=>?_⟩
 have hq:aV K H2 p vs:=aV.of (k2.fh _ _ (sf _ _ (by cases n with|true=>exact aW _ _ h1|false=>exact h1)))
 refine⟨λhl=>⟨vs,hq,by rw[h2.len];exact hl⟩,λx hx=>?_⟩
 obtain⟨w,hw,rw⟩:=h2.at2 hx
 refine⟨⟨vs,w,hq,hw⟩,λv H3 yd=>?_⟩
 obtain⟨e,y⟩:=yd
 subst e
 have:=(hw.symm.trans (y vs hq))
 cases this
 exact⟨F2,.refl k2,Rp.mono (wD n sf) rw⟩
theorem X_{k i:Nat}{x:Int}(h:((aa1 k).map ada)[i]?=some x):i<k/\x=i:=by
 rw[getElem?_map] at h
 by_cases q:i<k
 ·rw[getElem?_range q] at h;cases h;exact⟨q,rfl⟩
 ·rw[aa9 (by rw[length_range];omega)] at h;cases h
theorem uL(h:Ex B sl .hp te mi):Ei B sl n (G9 (yM te bh)) (mi.bind uO):=λxs hx F O H σ R a k=>by
 cases mi with
 |none=>cases hx
 |some j =>
  have hx:uO j=some xs:=hx
  unfold uO at hx
  split at hx
  case isFalse=>cases hx
  rename_i hb
  cases hx
  refine h j rfl F O H σ _ a λv F' H' gr r=>?_
  cases r
  refine⟨j,rfl,hb.1,hb.2,k _ F' H' gr λi F2 O2 H2 sf k2=>⟨λhl=>?_,λx hx=>?_⟩⟩
  ·rw[length_map,length_range] at hl;exact hl
  ·obtain⟨h1,rfl⟩:=X_ hx
   refine⟨h1,λv H3 yd=>?_⟩
   obtain⟨rfl,rfl⟩:=yd
   exact⟨F2,.refl k2,by show V.int (0+(i:Int))=V.int i;rw[Int.zero_add]⟩
def zp{α:Type}(xs:List α):List (Int×α):=((aa1 xs.length).map ada).zip xs
theorem Yb{α:Type}{xs:List α}{i:Nat}{x:Int×α}(h:(zp xs)[i]?=some x):x.1=i/\xs[i]?=some x.2:=by
 unfold zp at h
 rw[List.getElem?_zip_eq_some] at h
 exact⟨(X_ h.1).2,h.2⟩
theorem zIz{α:Type}(xs:List α):(zp xs).length=xs.length:=by unfold zp;simp
theorem Yc{mi:Option (List α)}(h:Ex B sl (d_ n) te mi):Ei B sl n (yu K (yM te bh)) (mi.bind λxs=>some (zp xs)):=λxs hx F O H σ R a k=>by
 cases mi with
 |none=>cases hx
 |some zs =>
  cases(show some (zp zs)=some xs from hx)
  refine h zs rfl F O H σ _ a λv F' H' gr r=>?_
  obtain⟨p,vs,rfl,h1,h2⟩:=r
  refine⟨p,rfl,⟨vs,aV.of (zc gr.ok n p _ h1)⟩,k _ F' H' gr λi F2 O2 H2 sf k2=>?_⟩
  have hq:aV K H2 p vs:=aV.of (k2.fh _ _ (sf _ _ (by cases n with|true=>exact aW _ _ h1|false=>exact h1)))
  refine⟨λhl=>⟨vs,hq,by rw[h2.len,<-zIz];exact hl⟩,λx hx=>?_⟩
  obtain⟨e1,e2⟩:=Yb hx
  obtain⟨w,hw,rw⟩:=h2.at2 e2
  refine⟨⟨vs,w,hq,hw⟩,λv H3 yd=>?_⟩
  obtain⟨t,x',rfl,ht,rfl,y⟩:=yd
  have:=(hw.symm.trans (y vs hq))
  cases this
  have g3:=bH.new k2 ht (.tup [.int i,w])
  refine⟨_,g3,t,.int i,w,rfl,?_,?_,Rp.mono (wD n (sf.trans g3.ff)) rw⟩
  ·exact Ot k2 ht (d_ n)
  ·rw[e1];rfl
def wR{α β:Type}(c:α->Option Bool)(f:α->Option β)(xs:List α):Option (List β):=if xs.length<cap then wG c f xs else none
theorem Vc{α β:Type}(c:α->Option Bool)(f:α->Option β):∀(xs ys:List α),wG c f (xs++ys)=(wG c f xs).bind λa=>(wG c f ys).bind λb=>some (a++b)
 |[],ys=>by
  rw[nil_append]
  show wG c f ys=(wG c f ys).bind λb=>some ([]++b)
  cases wG c f ys<;>rfl
 |x::xs,ys=>by
  show(c x).bind _=((c x).bind _).bind _
  cases c x with
  |none=>rfl
  |some b =>
   cases b with
   |true =>
    show(f x).bind _=((f x).bind _).bind _
    cases f x with
    |none=>rfl
    |some y =>
     show(wG c f (xs++ys)).bind _=((wG c f xs).bind _).bind _
     rw[Vc c f xs ys]
     cases wG c f xs with
     |none=>rfl
     |some a =>
      show((wG c f ys).bind _).bind _=(wG c f ys).bind _
      cases wG c f ys<;>rfl
   |false=>exact Vc c f xs ys
theorem Yd{α β:Type}(c:α->Option Bool)(f:α->Option β):∀{xs:List α}{ys:List β},wG c f xs=some ys->ys.length<=xs.length
 |[],ys,h=>by cases h;exact aaq _
 |x::xs,ys,h=>by
  have h:((c x).bind λb=>if b=true then(f x).bind λy=>(wG c f xs).bind λys=>some (y::ys) else wG c f xs)=some ys:=h
  cases e:c x with
  |none=>rw[e] at h;cases h
  |some b =>
   rw[e] at h
   cases b with
   |true =>
    have h:((f x).bind λy=>(wG c f xs).bind λys=>some (y::ys))=some ys:=by simpa using h
    cases e2:f x with
    |none=>rw[e2] at h;cases h
    |some y =>
     rw[e2] at h
     cases e3:wG c f xs with
     |none=>rw[e3] at h;cases h
     |some zs =>
      rw[e3] at h
      cases h
      exact ab2 (Yd c f e3)
   |false =>
    have h:wG c f xs=some ys:=by simpa using h
    exact Nat.le_succ_of_le (Yd c f h)
theorem zNy{α β:Type}{c:α->Option Bool}{f:α->Option β}{xs:List α}{zs:List β}(i:Nat)(h:wG c f xs=some zs):∃ys,wG c f (xs.take i)=some ys:=by
 rw[<-take_append_drop i xs,Vc] at h
 cases q:wG c f (xs.take i) with
 |none=>rw[q] at h;cases h
 |some o'=>exact⟨o',rfl⟩
theorem zNz{α β:Type}{c:α->Option Bool}{f:α->Option β}{xs:List α}{zs ys:List β}{x:α}(h:wG c f (xs.take (i+1))=some zs)(hy:wG c f (xs.take i)=some ys)(hx:xs[i]?=some x) :
  (c x=some false/\zs=ys)\/∃y,c x=some true/\f x=some y/\zs=ys++[y]:=by
 have e2:xs.take (i+1)=xs.take i++[x]:=by rw[take_add_one,hx]<;>rfl
 rw[e2,Vc,hy] at h
 have h:(((c x).bind λb=>if b=true then(f x).bind λy=>some [y] else some []).bind λb=>some (ys++b))=some zs:=h
 cases e:c x with
 |none=>rw[e] at h;cases h
 |some b =>
  rw[e] at h
  cases b with
  |true =>
   have h:(((f x).bind λy=>some [y]).bind λb=>some (ys++b))=some zs:=by simpa using h
   cases e2:f x with
   |none=>rw[e2] at h;cases h
   |some y=>rw[e2] at h;cases h;exact .inr ⟨y,rfl,rfl,rfl⟩
  |false =>
   have h:some (ys++[])=some zs:=by simpa using h
   rw[append_nil] at h
   cases h
   exact .inl ⟨rfl,rfl⟩
abbrev Q_:Slot K->Slot K
 |.un=>.un
 |@Slot.fz _ n _ i a=>@Slot.fz _ n _ i a
 |@Slot.hs _ _ i a=>@Slot.hs _ _ i a
 |@Slot.nu _ _ i a=>@Slot.hs _ _ i a
 |@Slot.ow _ _ _ i xs=>@Slot.hs _ _ _ xs
 |@Slot.od _ _ _ _=>.un
theorem bH.lift(k:Ok B F O H)(g:bH B F H [] F' H'):bH B F H O F' H' :=
 ⟨g.ff,g.hh,⟨g.ok.fh,g.ok.h0,g.ok.fa,λx hx=>by
  obtain⟨a1,a2,a3⟩:=k.fo x hx
  exact⟨g.nw _ a1 (by rw[a3];intro z;cases z),a2,g.hh _ _ a3⟩,k.nd⟩,g.nw⟩
theorem Ok.nil(k:Ok B F O H):Ok B F [] H:=⟨k.fh,k.h0,k.fa,λx hx=>(by cases hx),(by simp)⟩
theorem ak.one(a:At B sl F O H σ)(L:Hp)(j:Nat)(hs:sl[j]?=some s):∀{sl':SL K}{σ':St},ak B F L H sl' σ' []->ak B F L H (Q_ s::sl') ((σ[j]?).getD none::σ') []:=λ{sl' σ'} h=>by
 cases s with
 |un=>exact .un h
 |fz n b=>obtain⟨v,h1,h2⟩:=a.2.qu hs;rw[h1];exact .fz h2 h
 |hs b=>obtain⟨v,h1,h2⟩:=a.2.QX hs;rw[h1];exact .hs h2 h
 |nu b=>obtain⟨v,h1,h2⟩:=a.2.za hs;rw[h1];exact .hs (Rp.mono (aW.trans lo_le) h2) h
 |ow n xs =>
  obtain⟨k,z0⟩:=a
  obtain⟨O1,O2,p,vs,rfl,h1,h2,_⟩:=z0.oV hs
  rw[h1]
  exact .hs ⟨p,vs,rfl,k.one.2.2,h2.imp λ_ _=>Rp.mono (zc k n)⟩ h
 |od kvs=>exact .un h
def Ko(sl:SL K)(n:Nat)(ix:List Nat):SL K:=replicate n .un++ix.map λj=>Q_ ((sl[j]?).getD .un)
theorem Ds(a:At B sl F O H σ)(L:Hp)(n:Nat):∀(ix:List Nat),(∀j∈ix,j<sl.length)->ak B F L H (Ko sl n ix) (iJ σ n ix) []:=λix hix=>by
 unfold Ko iJ
 induction n with
 |zero =>
  show ak B F L H ([]++_) ([]++_) []
  rw[nil_append,nil_append]
  induction ix with
  |nil=>exact .nil
  |cons j ix ih =>
   rw[map_cons,map_cons]
   have hl:=hix j mem_cons_self
   have hj:sl[j]?=some sl[j]:=aap hl
   have z:=ak.one a L j hj (ih λk hk=>hix k (mem_cons_of_mem _ hk))
   rw[show(sl[j]?).getD .un=sl[j] by rw[hj]<;>rfl]
   exact z
 |succ n ih=>exact .un ih
inductive qR:SL K->SL K->Prop
 |nil:qR [] []
 |eq {s:Slot K} {a b:SL K}:qR a b->qR (s::a) (s::b)
 |un {s:Slot K} {a b:SL K}:qR a b->qR (s::a) (.un::b)
theorem ak.le0(l:qR sl sl2):∀{σ:St},ak B F L H sl σ []->ak B F L H sl2 σ []:=by
 induction l with
 |nil=>intro σ h;exact h
 |eq _ ih =>
  intro σ h
  cases h with
  |un h=>exact .un (ih h)
  |fz r h=>exact .fz r (ih h)
  |hs r h=>exact .hs r (ih h)
  |nu r h=>exact .nu r (ih h)
 |un _ ih =>
  intro σ h
  cases h with
  |un h=>exact .un (ih h)
  |fz r h=>exact .un (ih h)
  |hs r h=>exact .un (ih h)
  |nu r h=>exact .un (ih h)
theorem wL{c:α->Option Bool}{f:α->Option β}{ix:List Nat}(hix:(ix.all λj=>decide (j<sl.length))=true)(hI:jf=Ko sl no ix)(hi:Ei B sl n wi mi)(hg:Tg B jf n g Lx)(hc:∀x,Et B (Lx x) tc (c x))(he:∀x,Ex B (Lx x) md te (f x))(hle:∀x,qR (Lx x) jf) :
  Eo B sl md (Oo no ix wi g tc te) (mi.bind λxs=>wR c f xs):=λzs hz F O H σ Q a k=>by
 cases mi with
 |none=>cases hz
 |some xs =>
  have hz:wR c f xs=some zs:=hz
  unfold wR at hz
  split at hz
  case isFalse=>cases hz
  rename_i hcap
  have hcl:=BX hcap
  refine hi xs rfl F O H σ _ a λJ F' H' gr yl=>?_
  have a':=a.grow gr
  refine⟨λi m ys σ2 H2=>m=xs.length-i/\i<=xs.length/\∃(F2:Hp)(ws:List β),wG c f (xs.take i)=some ws/\bH B F' H' O F2 H2/\ak B F2 (lo F2 [] H2) H2 jf σ2 []/\A2 (rp K (reg B F2 H2 md)) ys ws,
   ⟨xs.length,rfl,aa5 _,F',[],rfl,.refl a'.1,?_,trivial⟩,?_⟩
  ·rw[hI]
   exact Ds a' _ no ix λj hj=>by simpa using(all_eq_true.mp hix) j hj
  rintro i m ys σ2 H2 ⟨rfl,hil,F2,ws,hw,g2,s2,r2⟩
  have hyl:ys.length<=xs.length:=by
   rw[r2.len]
   exact aa0 (Yd c f hw) (by rw[length_take];omega)
  obtain⟨y1,y2⟩:=yl i F2 O H2 g2.ff g2.ok
  by_cases hlt:i<xs.length
  ·obtain⟨go,y3⟩:=y2 xs[i] (aap hlt)
   obtain⟨ws',hw'⟩:=zNy (i+1) hz
   refine .inr ⟨go,by omega,λys σ2 H2=>∃(F2:Hp),bH B F' H' O F2 H2/\ak B F2 (lo F2 [] H2) H2 jf σ2 []/\A2 (rp K (reg B F2 H2 md)) ys ws',λys' σ' H' ⟨F3,z1,z2,z3⟩=>⟨xs.length-(i+1),by omega,rfl,hlt,F3,ws',hw',z1,z2,z3⟩,λv H3 yd=>?_⟩
   obtain⟨F3,g3,r3⟩:=y3 v H3 yd
   have g23:=g2.trans g3
   have Ov:At B jf F3 [] H3 σ2:=⟨g3.ok.nil,s2.mono g3.ff (XH ⟨g3.ff,g3.hh,g3.ok.nil,g3.nw⟩) g3.hh⟩
   refine hg v xs[i] F3 [] H3 σ2 _ Ov r3 λσ4 a4=>?_
   have back:∀{F5 H5:Hp},bH B F3 H3 [] F5 H5->bH B F' H' O F5 H5/\ak B F5 (lo F5 [] H5) H5 jf σ4 []:=λ{F5 H5} g5=>⟨g23.trans (bH.lift g3.ok g5),(a4.grow g5).2.le0 (hle xs[i])⟩
   rcases zNz hw' hw (aap hlt) with⟨e1,rfl⟩|⟨y,e1,e2,rfl⟩
   ·refine hc xs[i] false e1 F3 [] H3 σ4 _ a4 λF5 H5 g5=>lG ?_
    obtain⟨z1,z2⟩:=back g5
    exact⟨F5,z1,z2,r2.imp λ_ _=>Rp.mono (xD (g3.trans (bH.lift g3.ok g5)) md)⟩
   ·refine hc xs[i] true e1 F3 [] H3 σ4 _ a4 λF5 H5 g5=>iI ?_
    refine he xs[i] y e2 F5 [] H5 σ4 _ (a4.grow g5) λw F6 H6 g6 r6=>?_
    obtain⟨z1,z2⟩:=back (g5.trans g6)
    exact⟨F6,z1,z2,(r2.imp λ_ _=>Rp.mono (xD (g3.trans (bH.lift g3.ok (g5.trans g6))) md)).snoc r6⟩
  ·have e:i=xs.length:=by omega
   subst e
   rw[take_length,hz] at hw
   cases hw
   exact .inl ⟨y1 (aaq _),by omega,λp hp=>k p ys F2 H2 (gr.trans g2) hp r2⟩
abbrev isF:Slot K->Bool
 |@Slot.fz _ false _ _ _=>true
 |_=>false
theorem zEq{as:SL K}(k:Nat)(hf:as.all isF=true)(r:Ar F as vs):ak ⟨F,H⟩ F L' H (as++replicate k .un) (vs.map some++replicate k none) []:=by
 induction r with
 |nil =>
  show ak _ _ _ _ ([]++_) ([]++_) []
  rw[nil_append,nil_append]
  induction k with
  |zero=>exact .nil
  |succ k ih=>exact .un ih
 |@cons n _ _ _ _ _ _ r _ ih =>
  rw[all_cons,aar] at hf
  cases n with
  |false=>exact .fz r (ih hf.2)
  |true=>exact absurd hf.1 (by simp)
theorem Ar.len(r:Ar F as vs):vs.length=as.length:=by
 induction r with
 |nil=>rfl
 |cons _ _ ih=>rw[length_cons,length_cons,ih]
theorem zSa{A:Type}{as:A->SL K}{f:A->Option β}{N:List Str}(hf:∀a,(as a).all isF=true)(hl:∀a,(as a).length=np)(hb:∀Fa a,SB ⟨Fa,H⟩ (as a++replicate (N.length-np) .un) t al (f a))(h:cL K al as f vs H Q E):t { nx:=λ_ H'=>Q .non H',rt:=Q } (L2.start N vs) H:=by
 obtain⟨a,b,Fa,s,hfa,r,q⟩:=h
 have e:L2.start N vs=vs.map some++replicate (N.length-np) none:=by
  unfold L2.start
  rw[r.len,hl]
 rw[e]
 refine hb Fa a b hfa Fa _ _ H ⟨Fa,[],.refl _,⟨s,.refl _,λb o h=>.inl h,λx hx=>(by cases hx),(by simp)⟩,zEq _ (hf a) r⟩ (λv H' z=>q v H' z.1 z.2)
theorem zUm{A:Type}{as:A->SL K}{f:A->Option β}(hl:∀a,(as a).length=np)(h:cL K al as f vs H Q E):vs.length=np:=by
 obtain⟨a,b,Fa,s,hfa,r,q⟩:=h
 rw[r.len,hl]
end
open PySem.SeqAt (EqAt RcAt RcNeAt)
class Eqv (K:PySem.W.Frag) (α:Type) [Rp K α] [DecidableEq α] where
 dep:Nat
 det:∀{H:Hp}{v:V}{a b:α},rp K H v a->rp K H v b->a=b
 zq:∀{X:Cx}{pins:List (Addr×Obj)}{σ:St}{H:Hp}{s:Shared},Inv X pins σ H s->∀{A:Around},A.units+dep<cLine->∀{v w:V}{u u':Value}{a b:α},rp K H v a->rp K H w b->RelV v u->RelV w u'->EqAt A s u u' (decide (a=b))
 Kq:∀{X:Cx}{pins:List (Addr×Obj)}{σ:St}{H:Hp}{s:Shared},Inv X pins σ H s->∀{A:Around},A.units+dep<cLine->∀{v w:V}{u u':Value}{a b:α},rp K H v a->rp K H w b->RelV v u->RelV w u'->RcAt A s u u' (decide (a=b))
 Kr:∀{X:Cx}{pins:List (Addr×Obj)}{σ:St}{H:Hp}{s:Shared},Inv X pins σ H s->∀{A:Around},A.units+dep<cLine->∀{v w:V}{u u':Value}{a b:α},rp K H v a->rp K H w b->RelV v u->RelV w u'->RcNeAt A s u u' (!decide (a=b))
section
variable{K:PySem.W.Frag}
theorem iQ{α:Type}[BEq α][LawfulBEq α][DecidableEq α](a b:α):(a==b)=decide (a=b):=by
 by_cases h:a=b
 ·subst h;simp
 ·simp[h]
instance:Eqv K Int where
 dep:=0
 det h1 h2:=by cases h1;cases h2;rfl
 zq _ _ _ _ _ _ _ _ _ h1 h2 r1 r2:=by cases h1;cases h2;obtain⟨t,rfl⟩:=r1;obtain⟨t',rfl⟩:=r2;rw[<-iQ];exact EqAt.int_int _ _ _ _
 Kq _ _ _ _ _ _ _ _ _ h1 h2 r1 r2:=by cases h1;cases h2;obtain⟨t,rfl⟩:=r1;obtain⟨t',rfl⟩:=r2;rw[<-iQ];exact RcAt.int_int _ _ _ _
 Kr _ _ _ _ _ _ _ _ _ h1 h2 r1 r2:=by cases h1;cases h2;obtain⟨t,rfl⟩:=r1;obtain⟨t',rfl⟩:=r2;rw[<-iQ];exact RcNeAt.int_int _ _ _ _
instance:Eqv K Str where
 dep:=0
 det h1 h2:=by cases h1;cases h2;rfl
 zq _ _ _ _ _ _ _ _ _ h1 h2 r1 r2:=by cases h1;cases h2;obtain⟨t,rfl⟩:=r1;obtain⟨t',rfl⟩:=r2;rw[<-iQ];exact EqAt.str_str _ _ _ _
 Kq _ _ _ _ _ _ _ _ _ h1 h2 r1 r2:=by cases h1;cases h2;obtain⟨t,rfl⟩:=r1;obtain⟨t',rfl⟩:=r2;rw[<-iQ];exact RcAt.str_str _ _ _ _
 Kr _ _ _ _ _ _ _ _ _ h1 h2 r1 r2:=by cases h1;cases h2;obtain⟨t,rfl⟩:=r1;obtain⟨t',rfl⟩:=r2;rw[<-iQ];exact RcNeAt.str_str _ _ _ _
instance:Eqv K Bool where
 dep:=0
 det h1 h2:=by cases h1;cases h2;rfl
 zq _ _ _ _ _ _ _ _ _ h1 h2 r1 r2:=by cases h1;cases h2;cases r1;cases r2;rw[<-iQ];exact EqAt.bool_bool _ _
 Kq _ _ _ _ _ _ _ _ _ h1 h2 r1 r2:=by cases h1;cases h2;cases r1;cases r2;rw[<-iQ];exact RcAt.bool_bool _ _
 Kr _ _ _ _ _ _ _ _ _ h1 h2 r1 r2:=by cases h1;cases h2;cases r1;cases r2;rw[<-iQ];exact RcNeAt.bool_bool _ _
theorem Ye{a b:Int}:decide (some a=some b)=decide (a=b):=by simp
instance:Eqv K (Option Int) where
 dep:=0
 det {H v a b} h1 h2:=by
  cases a with
  |none=>cases b with
   |none=>rfl
   |some y=>exact absurd h1 h2.1
  |some x=>cases b with
   |none=>exact absurd h2 h1.1
   |some y=>cases h1.2;cases h2.2;rfl
 zq {X pins σ H s} _ {A} _ {v w u u' a b} h1 h2 r1 r2:=by
  cases a with
  |none =>
   cases h1;cases r1
   cases b with
   |none=>cases h2;cases r2;exact EqAt.same _
   |some y=>cases h2.2;obtain⟨t',rfl⟩:=r2;exact EqAt.none_int _ _
  |some x =>
   cases h1.2;obtain⟨t,rfl⟩:=r1
   cases b with
   |none=>cases h2;cases r2;exact EqAt.int_none _ _
   |some y=>cases h2.2;obtain⟨t',rfl⟩:=r2;rw[Ye,<-iQ];exact EqAt.int_int _ _ _ _
 Kq {X pins σ H s} _ {A} _ {v w u u' a b} h1 h2 r1 r2:=by
  cases a with
  |none =>
   cases h1;cases r1
   cases b with
   |none=>cases h2;cases r2;exact RcAt.none_none
   |some y=>cases h2.2;obtain⟨t',rfl⟩:=r2;exact RcAt.none_int _ _
  |some x =>
   cases h1.2;obtain⟨t,rfl⟩:=r1
   cases b with
   |none=>cases h2;cases r2;exact RcAt.int_none _ _
   |some y=>cases h2.2;obtain⟨t',rfl⟩:=r2;rw[Ye,<-iQ];exact RcAt.int_int _ _ _ _
 Kr {X pins σ H s} _ {A} _ {v w u u' a b} h1 h2 r1 r2:=by
  cases a with
  |none =>
   cases h1;cases r1
   cases b with
   |none=>cases h2;cases r2;exact RcNeAt.none_none
   |some y=>cases h2.2;obtain⟨t',rfl⟩:=r2;exact RcNeAt.none_int _ _
  |some x =>
   cases h1.2;obtain⟨t,rfl⟩:=r1
   cases b with
   |none=>cases h2;cases r2;exact RcNeAt.int_none _ _
   |some y=>cases h2.2;obtain⟨t',rfl⟩:=r2;rw[Ye,<-iQ];exact RcNeAt.int_int _ _ _ _
theorem A2.det{α β:Type}{R:α->β->Prop}(h:∀x y z,R x y->R x z->y=z):∀{xs:List α}{ys zs:List β},A2 R xs ys->A2 R xs zs->ys=zs
 |[],[],[],_,_=>rfl
 |_::_,_::_,_::_,h1,h2=>by rw[h _ _ _ h1.1 h2.1,A2.det h h1.2 h2.2]
 |[],_::_,_,h1,_=>h1.elim
 |[],[],_::_,_,h2=>h2.elim
 |_::_,[],_,h1,_=>h1.elim
 |_::_,_::_,[],_,h2=>h2.elim
theorem Vd{α:Type}[DecidableEq α]:∀{xs ys:List α},xs.length=ys.length->((aa1 xs.length).all λj=>decide (xs[j]?=ys[j]?))=decide (xs=ys)
 |[],[],_=>by simp
 |x::xs,y::ys,h=>by
  have ih:=Vd (xs:=xs) (ys:=ys) (by simpa using h)
  rw[length_cons,range_succ_eq_map,all_cons,List.all_map]
  have e:((λj=>decide ((x::xs)[j]?=(y::ys)[j]?))∘Nat.succ)=λj=>decide (xs[j]?=ys[j]?):=by
   funext j
   simp
  rw[e,ih]
  by_cases h1:x=y<;>by_cases h2:xs=ys<;>simp[h1,h2]
 |[],_::_,h=>by simp at h
 |_::_,[],h=>by simp at h
theorem Ow{α:Type}[Rp K α]{xs:List α}(r:Vals vs us)(h:A2 (rp K H) vs xs)(j:Nat)(hj:j<us.toArray.size):∃v x,xs[j]?=some x/\rp K H v x/\RelV v us.toArray[j]:=by
 have l1:j<vs.length:=by rw[r.length];simpa using hj
 obtain⟨u,hu,ru⟩:=r.get (aap l1)
 obtain⟨x,hx,rx⟩:=h.at1 (aap l1)
 refine⟨vs[j],x,hx,rx,?_⟩
 have e1:us.toArray[j]=u:=by
  have:us[j]?=some u:=hu
  rw[aap (by simpa using hj)] at this
  simpa using this
 rw[e1]
 exact ru
theorem Ra{A:Around}:A.in1.units=A.units+1:=rfl
instance{α:Type}[Rp K α][DecidableEq α][Eqv K α]:Eqv K (List α) where
 dep:=Eqv.dep K α+1
 det {H v a b} h1 h2:=by
  obtain⟨p,vs,rfl,h1,r1⟩:=h1
  obtain⟨p',vs',e,h2,r2⟩:=h2
  cases e
  cases h1.symm.trans h2
  exact A2.det (R:=rp K H) (λ_ _ _ z1 z2=>Eqv.det (K:=K) z1 z2) r1 r2
 Kq {X pins σ H s} I {A} hu {v w u u' a b} h1 h2 q1 q2:=by
  obtain⟨p,vs,rfl,h1,r1⟩:=h1
  obtain⟨p',ws,rfl,h2,r2⟩:=h2
  cases q1;cases q2
  obtain⟨us,s1,p1,_⟩:=I.list (aV.of h1)
  obtain⟨us',s2,p2,_⟩:=I.list (aV.of h2)
  have n1:us.toArray.size=a.length:=by rw[size_toArray,<-r1.len];exact s1.length.symm
  have n2:us'.toArray.size=b.length:=by rw[size_toArray,<-r2.len];exact s2.length.symm
  by_cases hl:a.length=b.length
  ·have z:=RcAt.lists (e:=λj=>decide (a[j]?=b[j]?)) p1.isList p2.isList (by rw[n1,n2];exact hl) (aav (ab7 _ _) hu) (λj h1 h2=>by
    obtain⟨v,x,e1,e2,e3⟩:=Ow s1 r1 j h1
    obtain⟨w,y,f1,f2,f3⟩:=Ow s2 r2 j h2
    rw[e1,f1]
    have z:=Eqv.zq (K:=K) I (A:=A.in1) (by rw[Ra];omega) e2 f2 e3 f3
    simpa using z)
   rw[n1,Vd hl] at z
   exact z
  ·rw[show decide (a=b)=false by simp;intro e;exact hl (by rw[e])]
   exact RcAt.lists_lengths p1.isList p2.isList (by rw[n1,n2];exact bne_iff_ne.mpr hl) (aav (ab7 _ _) hu)
 Kr {X pins σ H s} I {A} hu {v w u u' a b} h1 h2 q1 q2:=by
  obtain⟨p,vs,rfl,h1,r1⟩:=h1
  obtain⟨p',ws,rfl,h2,r2⟩:=h2
  cases q1;cases q2
  obtain⟨us,s1,p1,_⟩:=I.list (aV.of h1)
  obtain⟨us',s2,p2,_⟩:=I.list (aV.of h2)
  have n1:us.toArray.size=a.length:=by rw[size_toArray,<-r1.len];exact s1.length.symm
  have n2:us'.toArray.size=b.length:=by rw[size_toArray,<-r2.len];exact s2.length.symm
  by_cases hl:a.length=b.length
  ·have z:=RcNeAt.lists (e:=λj=>decide (a[j]?=b[j]?)) p1.isList p2.isList (by rw[n1,n2];exact hl) (aav (ab7 _ _) hu) (λj h1 h2=>by
    obtain⟨v,x,e1,e2,e3⟩:=Ow s1 r1 j h1
    obtain⟨w,y,f1,f2,f3⟩:=Ow s2 r2 j h2
    rw[e1,f1]
    have z:=Eqv.zq (K:=K) I (A:=A.in1) (by rw[Ra];omega) e2 f2 e3 f3
    simpa using z)
   rw[n1,Vd hl] at z
   exact z
  ·rw[show decide (a=b)=false by simp;intro e;exact hl (by rw[e])]
   exact RcNeAt.lists_lengths p1.isList p2.isList (by rw[n1,n2];exact bne_iff_ne.mpr hl) (aav (ab7 _ _) hu)
 zq {X pins σ H s} I {A} hu {v w u u' a b} h1 h2 q1 q2:=by
  obtain⟨p,vs,rfl,h1,r1⟩:=h1
  obtain⟨p',ws,rfl,h2,r2⟩:=h2
  cases q1;cases q2
  by_cases hp:p=p'
  ·subst hp
   cases h1.symm.trans h2
   rw[show a=b from A2.det (R:=rp K H) (λ_ _ _ z1 z2=>Eqv.det (K:=K) z1 z2) r1 r2]
   simp
   exact EqAt.same _
  ·refine EqAt.of_refs hp ?_
   obtain⟨us,s1,p1,_⟩:=I.list (aV.of h1)
   obtain⟨us',s2,p2,_⟩:=I.list (aV.of h2)
   have n1:us.toArray.size=a.length:=by rw[size_toArray,<-r1.len];exact s1.length.symm
   have n2:us'.toArray.size=b.length:=by rw[size_toArray,<-r2.len];exact s2.length.symm
   by_cases hl:a.length=b.length
   ·have z:=RcAt.lists (e:=λj=>decide (a[j]?=b[j]?)) p1.isList p2.isList (by rw[n1,n2];exact hl) (aav (ab7 _ _) hu) (λj h1 h2=>by
     obtain⟨v,x,e1,e2,e3⟩:=Ow s1 r1 j h1
     obtain⟨w,y,f1,f2,f3⟩:=Ow s2 r2 j h2
     rw[e1,f1]
     have z:=Eqv.zq (K:=K) I (A:=A.in1) (by rw[Ra];omega) e2 f2 e3 f3
     simpa using z)
    rw[n1,Vd hl] at z
    exact z
   ·rw[show decide (a=b)=false by simp;intro e;exact hl (by rw[e])]
    exact RcAt.lists_lengths p1.isList p2.isList (by rw[n1,n2];exact bne_iff_ne.mpr hl) (aav (ab7 _ _) hu)
theorem zSw{α β:Type}[DecidableEq α][DecidableEq β](a b:α×β):((aa1 (min 2 2)).all (λj=>if j=0 then decide (a.1=b.1) else decide (a.2=b.2))&&((2:Nat)==2))=decide (a=b):=by
 obtain⟨a1,a2⟩:=a
 obtain⟨b1,b2⟩:=b
 by_cases h1:a1=b1<;>by_cases h2:a2=b2<;>simp[range_succ,h1,h2]
theorem vals2(h:Vals [v1,v2] us):∃u1 u2,us=[u1,u2]/\RelV v1 u1/\RelV v2 u2:=by
 cases h with
 |cons a1 h=>cases h with
  |cons a2 h=>cases h;exact⟨_,_,rfl,a1,a2⟩
section
variable{α β:Type}[Rp K α][DecidableEq α][Eqv K α][Rp K β][DecidableEq β][Eqv K β]{X:Cx}{pins:List (Addr×Obj)}{σ:St}{H:Hp}{s:Shared}{A:Around}{a b:α×β}{p p':Addr}{v1 v2 w1 w2:V}
theorem zM3(I:Inv X pins σ H s)(hu:A.units+(Eqv.dep K α+Eqv.dep K β+1)<cLine)(r1:rp K H v1 a.1)(r2:rp K H v2 a.2)(z1:rp K H w1 b.1)(z2:rp K H w2 b.2)(a1:RelV v1 u1)(a2:RelV v2 u2)(b1:RelV w1 t1)(b2:RelV w2 t2) :
  ∀(j:Nat)(h1:j < #[u1,u2].size)(h2:j < #[t1,t2].size),EqAt A.in1 s #[u1,u2][j] #[t1,t2][j] (if j=0 then decide (a.1=b.1) else decide (a.2=b.2)):=by
 intro j h1 h2
 have hj:j=0\/j=1:=by
  have:j<2:=h1
  omega
 rcases hj with rfl|rfl
 ·exact Eqv.zq (K:=K) I (A:=A.in1) (by rw[Ra];omega) r1 z1 a1 b1
 ·exact Eqv.zq (K:=K) I (A:=A.in1) (by rw[Ra];omega) r2 z2 a2 b2
theorem Yg(I:Inv X pins σ H s)(hu:A.units+(Eqv.dep K α+Eqv.dep K β+1)<cLine)(h1:H p=some (.tup [v1,v2]))(h2:H p'=some (.tup [w1,w2]))(r1:rp K H v1 a.1)(r2:rp K H v2 a.2)(z1:rp K H w1 b.1)(z2:rp K H w2 b.2) :
  RcAt A s (.ref p) (.ref p') (decide (a=b))/\RcNeAt A s (.ref p) (.ref p') (!decide (a=b)):=by
 obtain⟨us,s1,p1,_⟩:=I.tuple (.inl (.inl h1))
 obtain⟨us',s2,p2,_⟩:=I.tuple (.inl (.inl h2))
 obtain⟨u1,u2,rfl,a1,a2⟩:=vals2 s1
 obtain⟨t1,t2,rfl,b1,b2⟩:=vals2 s2
 have he:=zM3 (A:=A) I hu r1 r2 z1 z2 a1 a2 b1 b2
 have hu':A.units<cLine:=aav (ab7 _ _) hu
 have q1:=RcAt.tuples p1 p2 hu' he
 have q2:=RcNeAt.tuples p1 p2 hu' he
 rw[<-zSw]
 exact⟨q1,q2⟩
end
instance{α β:Type}[Rp K α][DecidableEq α][Eqv K α][Rp K β][DecidableEq β][Eqv K β]:Eqv K (α×β) where
 dep:=Eqv.dep K α+Eqv.dep K β+1
 det {H v a b} h1 h2:=by
  obtain⟨p,v1,v2,rfl,h1,r1,r2⟩:=h1
  obtain⟨p',w1,w2,e,h2,q1,q2⟩:=h2
  cases e
  cases h1.symm.trans h2
  exact Prod.ext (Eqv.det (K:=K) r1 q1) (Eqv.det (K:=K) r2 q2)
 Kq {X pins σ H s} I {A} hu {v w u u' a b} h1 h2 q1 q2:=by
  obtain⟨p,v1,v2,rfl,h1,r1,r2⟩:=h1
  obtain⟨p',w1,w2,rfl,h2,z1,z2⟩:=h2
  cases q1;cases q2
  exact(Yg I hu h1 h2 r1 r2 z1 z2).1
 Kr {X pins σ H s} I {A} hu {v w u u' a b} h1 h2 q1 q2:=by
  obtain⟨p,v1,v2,rfl,h1,r1,r2⟩:=h1
  obtain⟨p',w1,w2,rfl,h2,z1,z2⟩:=h2
  cases q1;cases q2
  exact(Yg I hu h1 h2 r1 r2 z1 z2).2
 zq {X pins σ H s} I {A} hu {v w u u' a b} h1 h2 q1 q2:=by
  obtain⟨p,v1,v2,rfl,h1,r1,r2⟩:=h1
  obtain⟨p',w1,w2,rfl,h2,z1,z2⟩:=h2
  cases q1;cases q2
  by_cases hp:p=p'
  ·subst hp
   cases h1.symm.trans h2
   rw[show a=b from Prod.ext (Eqv.det (K:=K) r1 z1) (Eqv.det (K:=K) r2 z2)]
   simp
   exact EqAt.same _
  ·exact EqAt.of_refs hp (Yg I hu h1 h2 r1 r2 z1 z2).1
def Dt(K:PySem.W.Frag)(α:Type)[Rp K α][DecidableEq α](neg:Bool):R2:=λx y H Q=>∃a b:α,rp K H x a/\rp K H y b/\Q (.bl (if neg=true then !decide (a=b) else decide (a=b))) H
theorem Du(K:PySem.W.Frag)(α:Type)[Rp K α][DecidableEq α][Eqv K α]{X:Cx}(hr:bO k X.A)(hd:Eqv.dep K α<=64:=by exact Nat.le_of_ble_eq_true rfl):jY X (compareOp .Eq) (Dt K α false):=by
 intro pins s σ H x y v u Q I rx ry h
 obtain⟨a,b,h1,h2,q⟩:=h
 exact Eqv.Kq (K:=K) I (A:=X.A) (by have:=hr.units;omega) h1 h2 rx ry _ _ _ _ ⟨.bl (decide (a=b)),H,I,rfl,q⟩
theorem Ks(K:PySem.W.Frag)(α:Type)[Rp K α][DecidableEq α][Eqv K α]{X:Cx}(hr:bO k X.A)(hd:Eqv.dep K α<=64:=by exact Nat.le_of_ble_eq_true rfl):jY X (compareOp .NotEq) (Dt K α true):=by
 intro pins s σ H x y v u Q I rx ry h
 obtain⟨a,b,h1,h2,q⟩:=h
 exact Eqv.Kr (K:=K) I (A:=X.A) (by have:=hr.units;omega) h1 h2 rx ry _ _ _ _ ⟨.bl (!decide (a=b)),H,I,rfl,q⟩
variable{B:Bs}{sl:SL K}{md md1:Md}{α β:Type}[Rp K α][Rp K β]{t1 t2 t:TE}
theorem Dv[DecidableEq α]{m1 m2:Option α}(h1:Ex B sl .hp t1 m1)(h2:Ex B sl .hp t2 m2):Ex B sl md (jE (Dt K α false) t1 t2) (m1.bind λa=>m2.bind λb=>some (decide (a=b))) :=
 BW (f:=λa b=>some (decide (a=b))) (λa b c v w H Q e r1 r2 q=>by cases e;exact⟨a,b,r1,r2,q⟩) h1 h2
theorem Ku[DecidableEq α]{m1 m2:Option α}(h1:Ex B sl .hp t1 m1)(h2:Ex B sl .hp t2 m2):Ex B sl md (jE (Dt K α true) t1 t2) (m1.bind λa=>m2.bind λb=>some (!decide (a=b))) :=
 BW (f:=λa b=>some (!decide (a=b))) (λa b c v w H Q e r1 r2 q=>by cases e;exact⟨a,b,r1,r2,q⟩) h1 h2
section
variable{m1 m2:Option Int}
theorem Ve{g:Int->Int->V}{f:Int->Int->α}[Sc K α](hg:∀i j,g i j=Sc.val K (f i j))(h1:Ex B sl .hp t1 m1)(h2:Ex B sl .hp t2 m2):Ex B sl md (jE (qW g) t1 t2) (m1.bind λa=>m2.bind λb=>some (f a b)) :=
 BW (f:=λa b=>some (f a b)) (λa b c v w H Q e r1 r2 q=>by cases e;cases r1;cases r2;exact⟨a,b,rfl,rfl,by rw[hg];exact q⟩) h1 h2
theorem Vf(h1:Ex B sl .hp t1 m1)(h2:Ex B sl .hp t2 m2):Ex B sl md (jE (qW λi j=>.int (i+j)) t1 t2) (m1.bind λa=>m2.bind λb=>some (a+b)):=Ve (λ_ _=>rfl) h1 h2
theorem Hy(h1:Ex B sl .hp t1 m1)(h2:Ex B sl .hp t2 m2):Ex B sl md (jE (qW λi j=>.bl (decide (i<j))) t1 t2) (m1.bind λa=>m2.bind λb=>some (decide (a<b))):=Ve (λ_ _=>rfl) h1 h2
theorem Hz(h1:Ex B sl .hp t1 m1)(h2:Ex B sl .hp t2 m2):Ex B sl md (jE (qW λi j=>.bl (decide (j<i))) t1 t2) (m1.bind λa=>m2.bind λb=>some (decide (b<a))):=Ve (λ_ _=>rfl) h1 h2
def mulM(a b:Int):Option Int:=if(-(2^64)<a/\a<2^64)\/(-(2^64)<b/\b<2^64) then some (a*b) else none
def jq(a b:Int):Option Int:=if 0<b then some (a%b) else none
def lJ(a b:Int):Option Int:=if 0<b/\b<1073741824 then some (a/b) else none
theorem Kv(h1:Ex B sl .hp t1 m1)(h2:Ex B sl .hp t2 m2):Ex B sl md (jE (rI CK λi j=>.int (i*j)) t1 t2) (m1.bind λa=>m2.bind λb=>mulM a b) :=
 BW (f:=mulM) (λa b c v w H Q e r1 r2 q=>by
  unfold mulM at e
  split at e
  case isFalse=>cases e
  rename_i hc
  cases e;cases r1;cases r2
  exact⟨a,b,rfl,rfl,hc,q⟩) h1 h2
theorem Kw(h1:Ex B sl .hp t1 m1)(h2:Ex B sl .hp t2 m2):Ex B sl md (jE (rI (λ_ j=>0<j) λi j=>.int (i%j)) t1 t2) (m1.bind λa=>m2.bind λb=>jq a b) :=
 BW (f:=jq) (λa b c v w H Q e r1 r2 q=>by
  unfold jq at e
  split at e
  case isFalse=>cases e
  rename_i hc
  cases e;cases r1;cases r2
  exact⟨a,b,rfl,rfl,hc,q⟩) h1 h2
theorem Rb(h1:Ex B sl .hp t1 m1)(h2:Ex B sl .hp t2 m2):Ex B sl md (jE (rI JQ λi j=>.int (i/j)) t1 t2) (m1.bind λa=>m2.bind λb=>lJ a b) :=
 BW (f:=lJ) (λa b c v w H Q e r1 r2 q=>by
  unfold lJ at e
  split at e
  case isFalse=>cases e
  rename_i hc
  cases e;cases r1;cases r2
  exact⟨a,b,rfl,rfl,hc,q⟩) h1 h2
end
theorem A2.cu(h:A2 R vs xs)(e:L2.cu xs i=some a):∃v,L2.cu vs i=some v/\R v a:=by
 unfold L2.cu at e ⊢
 rw[h.len]
 cases q:sI xs.length i with
 |none=>rw[q] at e;cases e
 |some j=>rw[q] at e;exact h.at2 e
theorem wQ{m1:Option (List α)}{m2:Option Int}(h1:Ex B sl md t1 m1)(h2:Ex B sl .hp t2 m2):Ex B sl md (jE (qZ K) t1 t2) (m1.bind λxs=>m2.bind λi=>L2.cu xs i):=λc hc F O H σ Q s k=>by
 obtain⟨xs,i,e1,e2,e3⟩:=qg hc
 refine h1 xs e1 F O H σ _ s λv F' H' g r1=>?_
 refine h2 i e2 F' O H' σ _ (s.grow g) λw F2 H2 g2 r2=>?_
 cases r2
 obtain⟨p,vs,rfl,z1,z2⟩:=r1
 obtain⟨u,y1,y2⟩:=z2.cu e3
 have hle:Same (reg B F' H' md) H2:=(match md with
  |.nw=>aW.trans g.ok.fh
  |.fz=>g.ok.fh
  |.hp=>.refl _:Same (reg B F' H' md) H').trans g2.hh
 exact⟨p,vs,i,u,rfl,rfl,aV.of (hle _ _ z1),y1,k u F2 H2 (g.trans g2) (Rp.mono (xD g2 md) y2)⟩
theorem Ky{n:Bool}{xs:List α}{m2:Option Int}(i:Nat)(hs:sl[i]?=some (.ow n xs))(h2:Ex B sl .hp t2 m2):Ex B sl (d_ n) (jE (qZ K) (cj i) t2) (m2.bind λi=>L2.cu xs i):=λc hc F O H σ Q s k=>by
 cases m2 with
 |none=>cases hc
 |some j =>
  have hc:L2.cu xs j=some c:=hc
  obtain⟨O1,O2,p,vs,rfl,y1,y2,_⟩:=s.2.oV hs
  refine⟨_,y1,?_⟩
  refine h2 j rfl F _ H σ _ s λw F2 H2 g2 r2=>?_
  cases r2
  obtain⟨u,z1,z2⟩:=y2.cu hc
  exact⟨p,vs,j,u,rfl,rfl,aV.of (g2.hh _ _ s.1.one.2.2),z1,k u F2 H2 g2 (Rp.mono (xD g2 (d_ n)) z2)⟩
abbrev Kz(K:PySem.W.Frag):List V->Hp->VK->Prop:=λxs H Q=>∃p ys,xs=[.ref p]/\(aV K H p ys\/cI K H p ys)/\Q (.int ys.length) H
theorem BZ{m:Option (List α)}(h:Ex B sl .hp t m):Ex B sl md (tQ (Kz K) (yM t bh)) (m.bind λxs=>some (xs.length:Int)):=λc hc F O H σ Q s k=>by
 cases m with
 |none=>cases hc
 |some xs =>
  cases(show some (xs.length:Int)=some c from hc)
  refine h xs rfl F O H σ _ s λv F' H' g r1=>?_
  obtain⟨p,vs,rfl,z1,z2⟩:=r1
  exact⟨p,vs,rfl,.inl (aV.of z1),k _ F' H' g (by show V.int vs.length=V.int xs.length;rw[z2.len])⟩
abbrev HB(K:PySem.W.Frag):List V->Hp->VK->Prop:=λxs H Q=>∃p ys,xs=[V.ref p]/\(aV K H p ys\/cI K H p ys)/\∀l,H l=none->Q (.ref l) (upd H l (.lst ys))
theorem A2.sc{F F':Hp}[Sc K α]{vs:List V}{xs:List α}(h:A2 (rp K F) vs xs):A2 (rp K F') vs xs:=h.imp λ_ _=>yx
theorem KC[Sc K α]{m:Option (List α)}(h:Ex B sl .hp t m):Eo B sl md (tQ (HB K) (yM t bh)) m:=λc hc F O H σ Q s k=>by
 refine h c hc F O H σ _ s λv F' H' g r1=>?_
 obtain⟨p,vs,rfl,z1,z2⟩:=r1
 exact⟨p,vs,rfl,.inl (aV.of z1),λl hl=>k l vs F' H' g hl z2.sc⟩
class Fl (K:PySem.W.Frag) (α:Type) [Rp K α] [Sc K α] [DecidableEq α]:Prop where
 flat:∀a:α,Bx (Sc.val K a)=true
 eq:∀a b:α,BJ (Sc.val K a) (Sc.val K b)=decide (a=b)
instance:Fl K Int:=⟨λ_=>rfl,λa b=>by show(a==b)=_;exact iQ a b⟩
instance:Fl K Str:=⟨λ_=>rfl,λa b=>by show(a==b)=_;exact iQ a b⟩
instance:Fl K Bool:=⟨λ_=>rfl,λa b=>by show(a==b)=_;exact iQ a b⟩
instance:Fl K (Option Int):=⟨λa=>by cases a<;>rfl,λa b=>by
 cases a with
 |none=>cases b with
  |none=>rfl
  |some y=>rfl
 |some x=>cases b with
  |none=>rfl
  |some y=>show(x==y)=_;rw[iQ];simp⟩
theorem A2.vals[Sc K α]:∀{vs:List V}{xs:List α},A2 (rp K F) vs xs->vs=xs.map (Sc.val K)
 |[],[],_=>rfl
 |_::_,_::_,h=>by rw[map_cons,Sc.is.mp h.1,A2.vals h.2]
 |[],_::_,h=>h.elim
 |_::_,[],h=>h.elim
theorem Yh[Sc K α][DecidableEq α][Fl K α](a:α):∀xs:List α,inV (Sc.val K a) (xs.map (Sc.val K))=decide (a∈xs)
 |[]=>by simp[inV]
 |x::xs=>by
  have ih:=Yh a xs
  unfold inV at ih ⊢
  rw[map_cons,any_cons,ih,Fl.eq]
  by_cases h1:x=a
  ·subst h1;simp
  ·by_cases h2:a∈xs<;>simp[h1,h2,acg h1]
theorem zQo[Sc K α][DecidableEq α][Fl K α](xs:List α):(xs.map (Sc.val K)).all Bx=true:=by
 rw[List.all_map,all_eq_true]
 intro x _
 exact Fl.flat x
theorem Rf[Sc K α][DecidableEq α][Fl K α]{m1:Option α}{m2:Option (List α)}(h1:Ex B sl .hp t1 m1)(h2:Ex B sl .hp t2 m2):Ex B sl md (jE (U5 K false) t1 t2) (m1.bind λa=>m2.bind λxs=>some (decide (a∈xs))) :=
 BW (f:=λa xs=>some (decide (a∈xs))) (λa b c v w H Q e r1 r2 q=>by
  cases e
  obtain⟨p,vs,rfl,z1,z2⟩:=r2
  have ev:=Sc.is.mp r1
  have es:=z2.vals
  subst ev es
  refine⟨p,_,rfl,.inl (aV.of z1),Fl.flat a,zQo b,?_⟩
  have:=Yh (K:=K) a b
  simp only[aax,if_false]
  rw[this]
  exact q) h1 h2
theorem Vg{m:Option (Option α)}(h:Ex B sl .hp t m):Ex B sl md (Qh t) (m.bind λa=>some a.isNone):=λc hc F O H σ Q s k=>by
 cases m with
 |none=>cases hc
 |some a =>
  cases(show some a.isNone=some c from hc)
  refine h a rfl F O H σ _ s λv F' H' g r1=>?_
  cases a with
  |none=>cases r1;exact k _ F' H' g rfl
  |some x=>rw[decide_eq_false r1.1];exact k _ F' H' g rfl
theorem Dw{m:Option (Option α)}(h:Ex B sl .hp t m):Ex B sl md (GZ t) (m.bind λa=>some a.isSome):=λc hc F O H σ Q s k=>by
 cases m with
 |none=>cases hc
 |some a =>
  cases(show some a.isSome=some c from hc)
  refine h a rfl F O H σ _ s λv F' H' g r1=>?_
  cases a with
  |none=>cases r1;exact k _ F' H' g rfl
  |some x=>rw[decide_eq_false r1.1];exact k _ F' H' g rfl
theorem Yi{m:Option (Option α)}(h:Ex B sl md t m):Ex B sl md t (m.bind λa=>a):=λc hc F O H σ Q s k=>by
 cases m with
 |none=>cases hc
 |some a =>
  cases a with
  |none=>cases hc
  |some x =>
   have e:x=c:=aas hc
   subst e
   exact h (some x) rfl F O H σ _ s λv F' H' g r1=>k v F' H' g r1.2
class Ty (K:PySem.W.Frag) (α:Type) [Rp K α] where
 ty:Value
 is:∀{H:Hp}{v:V}{a:α},rp K H v a->jK K H v ty
instance:Ty K Int:=⟨.type "int",λh=>by cases h;exact .int _⟩
instance:Ty K Bool:=⟨.type "bool",λh=>by cases h;exact .bl _⟩
instance:Ty K Str:=⟨.type "str",λh=>by cases h;exact .str _⟩
instance:Ty K (List α):=⟨.type "list",λ⟨p,vs,e,h,_⟩=>by rw[e];exact .lst h⟩
instance:Ty K (α×β):=⟨.type "tuple",λ⟨p,_,_,e,h,_⟩=>by rw[e];exact .tup h⟩
theorem Vh[Ty K α]{c:Value}{y:V}{b:Bool}{m:Option α}(hb:kitOne K (Ty.ty K α) c=some b)(hy:RelV y c)(h:Ex B sl .hp t m):Ex B sl md (tQ (Dm K c) (yM t (yM (tC y) bh))) (m.bind λ_=>some b):=λd hd F O H σ Q s k=>by
 cases m with
 |none=>cases hd
 |some a =>
  cases(show some b=some d from hd)
  refine h a rfl F O H σ _ s λv F' H' g r1=>?_
  exact⟨v,y,_,b,rfl,hy,Ty.is r1,hb,k _ F' H' g rfl⟩
end
def src(xss:List LI)(j:Nat):LI:=((aa1 xss.length).filter λk=>decide ((j:Int)∈xss.getD k [])).map ada
theorem jg{α:Type}{p q:α->Bool}:∀{l:List α},(∀x∈l,p x=q x)->l.filter p=l.filter q
 |[],_=>rfl
 |a::l,h=>by
  rw[filter_cons,filter_cons,h a mem_cons_self,jg λx hx=>h x (mem_cons_of_mem _ hx)]
theorem zR8(xss:List LI)(xs:LI)(j:Nat):src (xss++[xs]) j=src xss j++(if(j:Int)∈xs then[(xss.length:Int)] else[]):=by
 unfold src
 rw[length_append,length_singleton,range_succ,List.filter_append,map_append]
 congr 1
 ·congr 1
  refine jg λk hk=>?_
  have hk':k<xss.length:=mem_range.mp hk
  rw[getD_eq_getElem?_getD,getD_eq_getElem?_getD,getElem?_append_left hk']
 ·rw[filter_cons,List.filter_nil,getD_eq_getElem?_getD,getElem?_append_right (aaq _),Nat.sub_self]
  by_cases h:(j:Int)∈xs
  ·simp[h]
  ·simp[h]
theorem zR7{xss:List LI}{i:Nat}{xs:LI}(h:xss[i]?=some xs)(j:Nat):src (xss.take (i+1)) j=src (xss.take i) j++(if(j:Int)∈xs then[(i:Int)] else[]):=by
 have hi:i<xss.length:=(aay.mp h).1
 rw[take_add_one,h]
 have e:(some xs:Option LI).toList=[xs]:=rfl
 rw[e,zR8,length_take,Nat.min_eq_left (acq hi)]
theorem Dy(xss:List LI)(j:Nat):(src xss j).length<=xss.length:=by
 unfold src
 rw[length_map]
 exact aa0 (length_filter_le _ _) (by rw[length_range];exact aaq _)
theorem int_at{ns:LI}{i:Nat}{y:V}(h:(ns.map V.int)[i]?=some y):∃z,y=.int z/\ns[i]?=some z:=by
 rw[getElem?_map] at h
 cases e:ns[i]? with
 |none=>rw[e] at h;cases h
 |some z=>rw[e] at h;exact⟨z,(aas h).symm,rfl⟩
theorem KD{bs:List Addr}{i:Nat}{y:V}(h:(bs.map V.ref)[i]?=some y):∃b,y=.ref b/\bs[i]?=some b:=by
 rw[getElem?_map] at h
 cases e:bs[i]? with
 |none=>rw[e] at h;cases h
 |some z=>rw[e] at h;exact⟨z,(aas h).symm,rfl⟩
theorem Dz{bs:List Addr}{i:Nat}{b:Addr}(h:bs[i]?=some b):(bs.map V.ref)[i]?=some (.ref b):=by rw[getElem?_map,h]<;>rfl
theorem yY{α:Type}{xs:List α}{x:α}(h:xs[i]?=some x):i<xs.length:=(aay.mp h).1
theorem zP7{i:Nat}(h:i<1920):((i:Int)).natAbs.log2<1920:=by
 rw[Int.natAbs_natCast]
 exact aav (Nat.log2_le_self i) h
theorem zGc{ns:LI}(nd:ns.Nodup)(h:ns[i]?=some z):¬z∈ns.take i:=λhz=>by
 obtain⟨j,hj⟩:=mem_iff_getElem?.mp hz
 have hji:j<i:=by
  have:=yY hj
  rw[length_take] at this
  omega
 rw[getElem?_take_of_lt hji] at hj
 have hi:=yY h
 have hjl:=yY hj
 rw[aap hi] at h
 rw[aap hjl] at hj
 have e:ns[j]=ns[i]:=(aas hj).trans (aas h).symm
 have:=(getElem_inj nd).mp e
 omega
theorem uJ{α:Type}{ns:List α}{z x:α}(h:ns[i]?=some z):x∈ns.take (i+1)↔x∈ns.take i\/x=z:=by
 rw[take_add_one,h]
 simp
def qw(K:PySem.W.Frag)(H:Hp)(bs:List Addr)(xss:List LI):Prop:=bs.length=xss.length/\∀(i:Nat)(b:Addr),bs[i]?=some b->∃xs:LI,xss[i]?=some xs/\aV K H b (xs.map V.int)
theorem qw.same(r:qw K H bs xss)(s:Same H H'):qw K H' bs xss:=⟨r.1,λi b h=>let⟨xs,h1,h2⟩:=r.2 i b h;⟨xs,h1,s.seq h2⟩⟩
def Vi(n:Nat)(xss:List LI):Prop:=xss.length=n/\∀xs∈xss,xs≠[]/\xs.Nodup/\xs.length<=100/\∀z∈xs,0<=z/\z<(n:Int)
def qx(H:Hp)(cs:List Addr)(row:Nat->LI):Prop:=∀(j:Nat)(c:Addr),cs[j]?=some c->H c=some (.lst ((row j).map V.int))
structure Bl(K:PySem.W.Frag)(mg:Str->Option Value):Prop where
 len:mg "len" = none
 range:mg "range" = none
 qj:mg "isinstance" = none
 int:mg "int" = none
 bool:mg "bool" = none
 list:mg "list" = none
 enum:mg "enumerate" = none
 ii:kitOne K (.type "int") (.type "int")=some true
 ib:kitOne K (.type "int") (.type "bool")=some false
 ll:kitOne K (.type "list") (.type "list")=some true
theorem Rg:kitOne K (.type "int") (.type "int")=some true:=rfl
theorem Rh:kitOne K (.type "list") (.type "list")=some true:=rfl
theorem Ri:kitOne K (.type "int") (.type "bool")=some false:=by
 first|rfl|(unfold kitOne kitCls;decide +kernel)
theorem uF:bootBuiltins "isinstance" = some (.builtin "isinstance"):=by decide +kernel
theorem zVd:bootBuiltins "int" = some (.type "int"):=by decide +kernel
theorem DG:bootBuiltins "bool" = some (.type "bool"):=by decide +kernel
theorem HD:bootBuiltins "list" = some (.type "list"):=by decide +kernel
structure News(H H':Hp)(cs:List Addr)(xss:List (List V)):Prop where
 len:cs.length=xss.length
 at_:∀(i:Nat)(c:Addr),cs[i]?=some c->∃xs,xss[i]?=some xs/\H' c=some (.lst xs)
 new:∀c∈cs,H c=none
 nd:cs.Nodup
theorem News.nil:News H H' [] []:=⟨rfl,λi c h=>(by simp at h),λc h=>(by cases h),List.nodup_nil⟩
theorem News.snoc(n:News H H1 cs xss)(s:Same H H1)(h:H1 l=none):News H (upd H1 l (.lst xs)) (cs++[l]) (xss++[xs]):=by
 have hl:∀c∈cs,c≠l:=λc hc e=>by
  obtain⟨i,hi⟩:=mem_iff_getElem?.mp hc
  obtain⟨ys,_,q⟩:=n.at_ i c hi
  rw[e,h] at q
  cases q
 refine⟨by rw[length_append,length_append,n.len]<;>rfl,λi c hc=>?_,λc hc=>?_,?_⟩
 ·by_cases hi:i<cs.length
  ·rw[getElem?_append_left hi] at hc
   obtain⟨ys,h1,h2⟩:=n.at_ i c hc
   refine⟨ys,?_,?_⟩
   ·rw[getElem?_append_left (by rw[<-n.len];exact hi)];exact h1
   ·rw[zP (hl c (mem_of_getElem? hc))];exact h2
  ·rw[getElem?_append_right (by omega)] at hc
   have hi2:i-cs.length=0:=by
    have:=yY hc
    simp at this
    omega
   rw[hi2] at hc
   have e:l=c:=aas hc
   subst e
   refine⟨xs,?_,zJ⟩
   rw[getElem?_append_right (by rw[<-n.len];omega),<-n.len,hi2]<;>rfl
 ·rcases mem_append.mp hc with hc|hc
  ·exact n.new c hc
  ·rw[mem_singleton.mp hc];exact s.free h
 ·rw[nodup_append]
  refine⟨n.nd,by simp,λa ha b hb e=>?_⟩
  rw[mem_singleton.mp hb] at e
  exact hl a ha e
theorem News.Rj(n:News H H' cs xss)(h:H' r=none):r∉cs:=λhc=>by
 obtain⟨i,hi⟩:=mem_iff_getElem?.mp hc
 obtain⟨ys,_,q⟩:=n.at_ i r hi
 rw[h] at q
 cases q
structure aF(C:Addr) where
 steps:List LI
 marks:List (Str×LI)
 fair:List LI
 sources:List LI
def Yj:List Str:=["many","next_of","before","marked","fair_at","names_at"]
def srcs(xss:List LI):List LI:=(aa1 xss.length).map (src xss)
def hid(H:Hp)(p:Addr):Hp:=λb=>if b=p then none else H b
section
variable{K:PySem.W.Frag}{C:Addr}
instance:Rp K (aF C):=⟨λF v m=>∃p dx fs vS vM vF vB,v=.ref p/\F p=some (.ins C dx fs)/\fs.lookup ("steps":Str)=some vS/\rp K F vS m.steps/\fs.lookup ("marks":Str)=some vM/\rp K F vM m.marks/\fs.lookup ("fair":Str)=some vF/\rp K F vF m.fair /\
 fs.lookup ("sources":Str)=some vB/\rp K F vB m.sources/\∀g∈Yj,fs.lookup g=none,
 λs ⟨p,dx,fs,vS,vM,vF,vB,h1,h2,h3,h4,h5,h6,h7,h8,h9,h10,h11⟩=>⟨p,dx,fs,vS,vM,vF,vB,h1,s _ _ h2,h3,Rp.mono s h4,h5,Rp.mono s h6,h7,Rp.mono s h8,h9,Rp.mono s h10,h11⟩⟩
instance:Nn K (aF C):=⟨λ⟨_,_,_,_,_,_,_,h,_⟩=>by rw[h];intro e;cases e⟩
theorem HF(ns:LI):A2 (rp K F) (ns.map V.int) ns:=A2.of_map (R:=rp K F) (f:=V.int) (λ_=>rfl) ns
theorem zRj:∀{cs:List Addr}{xss:List LI},cs.length=xss.length->(∀(i:Nat)(c:Addr),cs[i]?=some c->∃xs,xss[i]?=some xs/\F c=some (.lst (xs.map V.int)))->A2 (rp K F) (cs.map V.ref) xss
 |[],[],_,_=>trivial
 |c::cs,xs::xss,hl,h=>by
  obtain⟨ys,e1,e2⟩:=h 0 c rfl
  cases e1
  exact⟨⟨c,_,rfl,e2,HF _⟩,zRj (by simpa using hl) λi c' hc=>h (i+1) c' hc⟩
 |[],_::_,hl,_=>by simp at hl
 |_::_,[],hl,_=>by simp at hl
theorem zOs{xss:List LI}(h:i<xss.length):(srcs xss)[i]?=some (src xss i):=by
 unfold srcs
 rw[getElem?_map,getElem?_range h]
 rfl
theorem DK{cs:List Addr}{xss:List LI}(hl:cs.length=xss.length)(n:qx H' cs (src xss))(h:∀c∈cs,∀o,H' c=some o->D c=some o):A2 (rp K D) (cs.map V.ref) (srcs xss):=by
 refine zRj (by rw[hl];unfold srcs;simp) λi c hc=>?_
 have hi:=yY hc
 exact⟨_,zOs (by omega),h c (mem_of_getElem? hc) _ (n i c hc)⟩
end
section
variable{K:PySem.W.Frag}{B:Bs}{F H F' H' G:Hp}{O:Own}{sl:SL K}{σ:St}{md:Md}{α β:Type}[Rp K α][Rp K β]{te ta:TE}{C:Addr}
theorem Vj{pr:aF C->α}(cl:Cls K C)(na:bw K C f)(hp:∀(R:Hp) (v:V) (x:aF C),rp K R v x->∃p dx fs w,v=.ref p/\R p=some (.ins C dx fs)/\fs.lookup f=some w/\rp K R w (pr x))(h:Ex B sl md ta m) :
  Ex B sl md (pJ K ta f) (m.bind λx=>some (pr x)):=λc hc F O H σ Q s k=>by
 cases m with
 |none=>cases hc
 |some x =>
  cases(show some (pr x)=some c from hc)
  refine h x rfl F O H σ _ s λv F' H' g r=>?_
  obtain⟨p,dx,fs,w,rfl,h1,h2,h3⟩:=hp _ v x r
  have hle:Same (reg B F' H' md) H':=match md with
   |.nw=>aW.trans g.ok.fh
   |.fz=>g.ok.fh
   |.hp=>.refl _
  exact⟨p,C,dx,fs,w,rfl,hle _ _ h1,cl,na,h2,k w F' H' g h3⟩
theorem zIw{m:Option (aF C)}(cl:Cls K C)(na:bw K C "steps")(h:Ex B sl md ta m):Ex B sl md (pJ K ta "steps") (m.bind λx=>some x.steps) :=
 Vj cl na (λR v x ⟨p,dx,fs,vS,vM,vF,vB,h1,h2,h3,h4,_⟩=>⟨p,dx,fs,vS,h1,h2,h3,h4⟩) h
theorem zQt{m:Option (aF C)}(cl:Cls K C)(na:bw K C "marks")(h:Ex B sl md ta m):Ex B sl md (pJ K ta "marks") (m.bind λx=>some x.marks) :=
 Vj cl na (λR v x ⟨p,dx,fs,vS,vM,vF,vB,h1,h2,_,_,h5,h6,_⟩=>⟨p,dx,fs,vM,h1,h2,h5,h6⟩) h
theorem zLs{m:Option (aF C)}(cl:Cls K C)(na:bw K C "fair")(h:Ex B sl md ta m):Ex B sl md (pJ K ta "fair") (m.bind λx=>some x.fair) :=
 Vj cl na (λR v x ⟨p,dx,fs,vS,vM,vF,vB,h1,h2,_,_,_,_,h7,h8,_⟩=>⟨p,dx,fs,vF,h1,h2,h7,h8⟩) h
theorem zKl{m:Option (aF C)}(cl:Cls K C)(na:bw K C "sources")(h:Ex B sl md ta m):Ex B sl md (pJ K ta "sources") (m.bind λx=>some x.sources) :=
 Vj cl na (λR v x ⟨p,dx,fs,vS,vM,vF,vB,h1,h2,_,_,_,_,_,_,h9,h10,_⟩=>⟨p,dx,fs,vB,h1,h2,h9,h10⟩) h
theorem DN{A:Type}{as:A->SL K}{f:aF C×A->Option β}{ma:Option A}(hg:g∈Yj)(h0:Ex B sl .hp ta mm)(h:Ea B sl .hp t as ma) :
  Ex B sl md (Qx C g (cL K false (λx:aF C×A=>.fz false x.1::as x.2) f) [] E0 ta t) (mm.bind λx=>ma.bind λa=>f (x,a)):=λc hc F O H σ Q s kk=>by
 cases mm with
 |none=>cases hc
 |some x =>
  cases ma with
  |none=>cases hc
  |some a =>
   have hc:f (x,a)=some c:=hc
   refine h0 x rfl F O H σ _ s λv F1 H1 g1 r1=>?_
   obtain⟨p,dx,fs,vS,vM,vF,vB,rfl,h2,h3,h4,h5,h6,h7,h8,h9,h10,h11⟩:=id r1
   refine⟨p,dx,fs,rfl,h2,h11 g hg,?_⟩
   refine h a rfl F1 O H1 σ _ (s.grow g1) λvs F' H' g2 r=>?_
   rw[append_nil]
   refine⟨(x,a),c,H',.refl _,hc,.cons (Rp.mono g2.hh r1) r,λv H2 s2 r2=>?_⟩
   have g3:=g2.ok.called s2
   refine kk v _ H2 (g1.trans (g2.trans g3)) ?_
   have r3:=Rp.mono (Kg (F:=F') g2.ok.h0 s2) r2
   exact match md with
   |.nw=>r3
   |.fz=>Rp.mono aW r3
   |.hp=>Rp.mono (aW.trans g3.ok.fh) r3
def En(B:Bs)(sl:SL K)(t:TE){α:Type}[Rp K α](m:Option α):Prop :=
 ∀a,m=some a->∀(F:Hp)(O:Own)(H:Hp)(σ:St)(Q:VK),At B sl F O H σ->(∀(v:V)(F' H1 H2:Hp),bH B F H O F' H1->Same H1 H2->rp K (dif H2 H1) v a->Q v H2)->t σ H Q
theorem En.ex{m:Option α}(h:En B sl te m):Ex B sl md te m:=λc hc F O H σ Q s kk=>h c hc F O H σ Q s λv F' H1 H2 g s2 r2=>by
 have g2:=g.ok.called s2
 refine kk v _ H2 (g.trans g2) ?_
 have r3:=Rp.mono (Kg (F:=F') g.ok.h0 s2) r2
 exact match md with
 |.nw=>r3
 |.fz=>Rp.mono aW r3
 |.hp=>Rp.mono (aW.trans g2.ok.fh) r3
structure Rk where
 n:Unit
instance:Rp K Rk:=⟨λF v _=>∃p vs,v=.ref p/\F p=some (.lst vs),λs ⟨p,vs,h1,h2⟩=>⟨p,vs,h1,s _ _ h2⟩⟩
class IsL (K:PySem.W.Frag) (α:Type) [Rp K α]:Prop where
 il:∀{F:Hp}{v:V}{a:α},rp K F v a->∃p vs,v=.ref p/\F p=some (.lst vs)
instance:IsL K (List α):=⟨λ⟨p,vs,h1,h2,_⟩=>⟨p,vs,h1,h2⟩⟩
instance:IsL K Rk:=⟨λh=>h⟩
instance(n:Nat)(xss:List LI):Decidable (Vi n xss):=by unfold Vi;infer_instance
theorem zUn{s:Slot K}(i:Nat)(hs:sl[i]?=some (.fz n x))(h:Ex B sl .hp te m):Sn B sl (Qo i te (Us f)) (λa=>sl.set i (.fz true a)) (m.bind λy=>some (f x y)):=λa ha G D σ H s k=>by
 cases m with
 |none=>cases ha
 |some y =>
  cases(show some (f x y)=some a from ha)
  obtain⟨F,O,g,z⟩:=s
  obtain⟨v,h1,h2⟩:=z.2.qu hs
  have h2:v=.int x:=Sc.is.mp h2
  subst h2
  refine⟨_,h1,h y rfl F O H σ _ z λw F' H' gr r=>?_⟩
  cases r
  exact⟨x,y,rfl,rfl,k _ _ (Sg.set (n:=true) (a:=f x y) (g.trans gr.ff) (z.grow gr) hs rfl rfl)⟩
end
section
variable{K:PySem.W.Frag}{X:Cx}
theorem zUz(K:PySem.W.Frag)(h:X.K=K:=by rfl):jY X (compareOp .In) (U5 K false):=by subst h;exact zPn
theorem cG(K:PySem.W.Frag)(h:X.K=K:=by rfl):U4 X (qZ K):=by subst h;exact wK
theorem zu(K:PySem.W.Frag)(h:X.K=K:=by rfl):sE X (.builtin "len") (Kz K):=by subst h;exact uA
theorem KH(K:PySem.W.Frag)(h:X.K=K:=by rfl):sE X (.type "list") (HB K):=by subst h;exact zI5
theorem uE(K:PySem.W.Frag)(hc:∀y u,RelV y c->RelV y u->u=c)(h:X.K=K:=by rfl):sE X (.builtin "isinstance") (Dm K c):=by subst h;exact zT6 hc
theorem HJ(K:PySem.W.Frag)(he:PE X e ta)(h:X.K=K:=by rfl)(hb:attributeBase e f X.env (eval e X.env)=eval e X.env:=by rfl):PE X (.Attribute e f pos) (pJ K ta f):=by subst h;exact zUw he hb
theorem yT(K:PySem.W.Frag)(hl:PE X l tl)(h:X.K=K:=by rfl):PI X tg l (w6 K tl):=by subst h;exact WL hl
theorem Yk(K:PySem.W.Frag)(hm:X.mg "enumerate" = none)(ha:PA X [a] ta)(h:X.K=K:=by rfl)(hg:Gl X "enumerate":=by rfl)(hs:starEach [a] X.env=[(false,eval a X.env)]:=by rfl) :
  PI X (.Tuple elts k tp) (.Call (.Name "enumerate" p) [a] [] pos) (yu K ta):=by subst h;exact zPf hg hm ha hs
theorem B_(K:PySem.W.Frag){o e:Expr}{es:List Expr}{to:TE}{t:TA}{name:Str}{apos cpos:Pos}{T id:String}{r:V->List V->Hp->VK->Prop}(pa:PlainAttrs T)(slot:PySem.Slot T name id)(hty:typeOf (.builtin id)=pure (.type "method_descriptor"))(hm:QG X id r)(ho:PE X o to)(ha:PA X (e::es) t)(h:X.K=K:=by rfl)(hbase:attributeBase o name X.env (eval o X.env)=eval o X.env:=by rfl)(hfew:((backTo cpos (starEach (e::es) X.env)).all (λx=>!x.1)&&(backToKw cpos (keywordEach [] X.env)).all (λx=>x.1.isSome)
   && decide ((e::es).length+([]:List Keyword).length+(if([]:List Keyword).isEmpty then 0 else 1)<30))=true:=by rfl)(hline:(apos.endLine==cpos.line)=true:=by rfl)(hs:starEach (e::es) X.env=(false,eval e X.env)::starEach es X.env:=by rfl)(hplain:(backTo cpos (starEach es X.env)).any (·.1)=false:=by rfl) :
  PE X (.Call (.Attribute o name apos) (e::es) [] cpos) (Ol K T r to t):=by subst h;exact Hq pa slot hty hm ho ha hbase hfew hline hs hplain
theorem KJ(K:PySem.W.Frag){o:Expr}{to:TE}{name:Str}{apos cpos:Pos}{T id:String}{r:V->List V->Hp->VK->Prop}(pa:PlainAttrs T)(slot:PySem.Slot T name id)(hty:typeOf (.builtin id)=pure (.type "method_descriptor"))(hm:QG X id r)(ho:PE X o to)(h:X.K=K:=by rfl)(hbase:attributeBase o name X.env (eval o X.env)=eval o X.env:=by rfl)(hline:(apos.endLine==cpos.line)=true:=by rfl):PE X (.Call (.Attribute o name apos) [] [] cpos) (J8 K T r to):=by subst h;exact J9 pa slot hty hm ho hbase hline
theorem KN:bootBuiltins "any" = some (.builtin "any"):=by decide +kernel
theorem KQ:bootBuiltins "all" = some (.builtin "all"):=by decide +kernel
theorem Ym:bootBuiltins "sorted" = some (.builtin "sorted"):=by decide +kernel
theorem wg:Et B sl tW (some true):=λa ha F O H σ Q s k=>by cases ha;exact k F H (.refl s.1)
theorem HN{α:Type}:∀c:List α,some []=some c->c.length<=0:=λc h=>by cases h;exact aaq _
theorem vJ{α:Type}{m:Option α}{ma:Option (List α)}(h:∀b,ma=some b->b.length<=n):∀c,(m.bind λa=>ma.bind λb=>some (a::b))=some c->c.length<=n+1:=λc e=>by
 cases m with
 |none=>cases e
 |some a =>
  cases ma with
  |none=>cases e
  |some b=>cases e;exact ab2 (h b rfl)
theorem bnd{α β:Type}(a:α)(f:α->Option β):(some a).bind f=f a:=(λ(x:Option α) (e:x=some a)=>by subst e;rfl:∀x:Option α,x=some a->x.bind f=f a) _ rfl
def fuel:Nat:=100000
structure bK(P:Program)(w:World)(K:PySem.W.Frag)(mg:Str->Option Value)(base:Heap)(k:Nat)(x:Str)(ps:List Str)(sp:Sp):Prop where
 ex:∃f fd,aq P w K mg base aO k f fd ps sp/\Binds K fd ps []/\keepIn K (.ref f)=true/\mg x=some (.ref f)
structure fP(P:Program)(w:World)(K:PySem.W.Frag)(mg:Str->Option Value)(base:Heap)(k:Nat)(C:Addr)(m:Str)(ps:List Str)(sp:Sp):Prop where
 ex:∃f fd,aq P w K mg base aO k f fd ps sp/\Binds K fd ps []/\Meth K C m f
 cl:Cls K C
theorem bK.mono(c:bK P w K mg base j x ps sp)(h:j<=k):bK P w K mg base k x ps sp:=by
 obtain⟨f,fd,h1,h2⟩:=c.ex
 exact⟨f,fd,h1.mono h,h2⟩
theorem fP.mono(c:fP P w K mg base j C x ps sp)(h:j<=k):fP P w K mg base k C x ps sp:=by
 obtain⟨f,fd,h1,h2⟩:=c.ex
 exact⟨⟨f,fd,h1.mono h,h2⟩,c.cl⟩
theorem zY(c:bK X.prog X.w X.K X.mg X.base k x ps sp)(hr:bO k X.A)(ha:PA X (e::es) t)(hg:Gl X x:=by rfl)(hdb:(x==("__debug__":Str))=false:=by decide)(he:starEach (e::es) X.env=(false,eval e X.env)::starEach es X.env:=by rfl)(hpl:(backTo pos (starEach es X.env)).any (·.1)=false:=by rfl):PE X (.Call (.Name x p) (e::es) [] pos) (tM sp [] E0 t):=by
 obtain⟨f,fd,h1,h2,h3,h4⟩:=c.ex
 exact J0 h1 hr hg h4 h3 h2 .nil yE ha hdb he hpl
theorem Rm(c:fP X.prog X.w X.K X.mg X.base k C m ps sp)(hr:bO k X.A)(he:PE X o ta)(ha:PA X (e::es) t)(hst:starEach (e::es) X.env=(false,eval e X.env)::starEach es X.env:=by rfl)(hpl:(backTo pos (starEach es X.env)).any (·.1)=false:=by rfl)(ht:eval (.Call (.Attribute o m apos) (e::es) [] pos) X.env=(do
   let ov <-eval o X.env
   standAt apos.atName
   let(f,first) <-holding [ov] (getMethod ov m pl)
   callWith pos f first (backTo pos (starEach (e::es) X.env)) (backToKw pos (keywordEach [] X.env))):=by rfl):PE X (.Call (.Attribute o m apos) (e::es) [] pos) (Qx C m sp [] E0 ta t):=by
 obtain⟨f,fd,h1,h2,h3⟩:=c.ex
 exact C_ he c.cl h3 h1 hr h2 .nil yE ha hst hpl ht
theorem Vk(c:fP X.prog X.w X.K X.mg X.base k C m ps sp)(hr:bO k X.A)(he:PE X o ta)(ht:eval (.Call (.Attribute o m apos) [] [] pos) X.env=(do
   let ov <-eval o X.env
   standAt apos.atName
   let(f,first) <-holding [ov] (getMethod ov m pl)
   callWith pos f first (backTo pos (starEach [] X.env)) (backToKw pos (keywordEach [] X.env))):=by rfl):PE X (.Call (.Attribute o m apos) [] [] pos) (Qx C m sp [] E0 ta bh):=by
 obtain⟨f,fd,h1,h2,h3⟩:=c.ex
 exact zSu he c.cl h3 h1 hr h2 .nil yE ht
end
section
variable{P:Program}{w:World}{K:PySem.W.Frag}{mg:Str->Option Value}{base:Heap}
theorem yL{A β:Type}[Rp K β]{as:A->SL K}{fM:A->Option β}(F:aZ K x qual st f fd)(S:ao N ps (zH st))(hf:∀a,(as a).all isF=true)(hl:∀a,(as a).length=ps.length)(hb:∀(cdv:Value) (A:Around) (outer:List Env) (s:Shared) (H:Hp) (E:XK),bO k (A.deeper (adi qual (zH st) s.heap.objs.size f cdv)) ->
   ∃t,qe (oE aO P w K mg base N qual (zH st) f cdv A outer s H E).Cz (xZ st) t/\∀Fa a,SB ⟨Fa,H⟩ (as a++replicate (N.length-ps.length) .un) t al (fM a)) :
  aq P w K mg base aO (k+1) f fd ps (cL K al as fM) :=
 F.ok S (λvs H Q E h=>zUm hl h) λcdv A outer s H vs Q E hr h=>by
  obtain⟨t,p,q⟩:=hb cdv A outer s H E hr
  exact⟨t,p,zSa hf hl q h⟩
end
def W{α:Type}(m:Option α)(P:α->Prop):Prop:=∃a,m=some a/\P a
section
variable{α β S:Type}
theorem aj:W (some a) P↔P a:=⟨λ⟨_,e,h⟩=>by cases e;exact h,λh=>⟨a,rfl,h⟩⟩
theorem DP:W (none:Option α) P↔False:=⟨λ⟨_,e,_⟩=>(by cases e),abn⟩
theorem zC{m:Option α}:W (m.bind f) Q↔W m λa=>W (f a) Q:=by
 cases m with
 |none=>exact⟨λ⟨_,e,_⟩=>(by cases e),λ⟨_,e,_⟩=>(by cases e)⟩
 |some a=>exact⟨λh=>⟨a,rfl,h⟩,λ⟨_,e,h⟩=>by cases e;exact h⟩
theorem zx:W ((Out.nx s:Out S β).els f) Q↔W (f s) Q:=afa
theorem W.imp{Q:α->Prop}(h:W m P)(f:∀a,P a->Q a):W m Q:=let⟨a,e,p⟩:=h;⟨a,e,f a p⟩
theorem Rn:W (jq a b) Q↔0<b/\Q (a%b):=by
 unfold jq
 split
 ·rename_i h;rw[aj];exact⟨λq=>⟨h,q⟩,λq=>q.2⟩
 ·rename_i h;rw[DP];exact⟨abn,λq=>h q.1⟩
theorem Vl:W (lJ a b) Q↔(0<b/\b<1073741824)/\Q (a/b):=by
 unfold lJ
 split
 ·rename_i h;rw[aj];exact⟨λq=>⟨h,q⟩,λq=>q.2⟩
 ·rename_i h;rw[DP];exact⟨abn,λq=>h q.1⟩
theorem Ro:W (mulM a b) Q↔((-(2^64)<a/\a<2^64)\/(-(2^64)<b/\b<2^64))/\Q (a*b):=by
 unfold mulM
 split
 ·rename_i h;rw[aj];exact⟨λq=>⟨h,q⟩,λq=>q.2⟩
 ·rename_i h;rw[DP];exact⟨abn,λq=>h q.1⟩
theorem HS:W (push xs a) Q↔xs.length<cap/\Q (xs++[a]):=by
 unfold push
 split
 ·rename_i h;rw[aj];exact⟨λq=>⟨h,q⟩,λq=>q.2⟩
 ·rename_i h;rw[DP];exact⟨abn,λq=>h q.1⟩
def rng(n:Int):LI:=(aa1 n.toNat).map ada
theorem dH:W (uO n) Q↔(-(2^62)<=n/\n<2^62)/\Q (rng n):=by
 unfold uO rng
 split
 ·rename_i h;rw[aj];exact⟨λq=>⟨h,q⟩,λq=>q.2⟩
 ·rename_i h;rw[DP];exact⟨abn,λq=>h q.1⟩
theorem Ca(h:0<=n):((rng n).length:Int)=n:=by
 unfold rng
 rw[length_map,length_range]
 omega
theorem Yn{n:Int}{i:Nat}{x:Int}(h:(rng n)[i]?=some x):x=i/\(i:Int)<n:=by
 obtain⟨a,b⟩:=X_ h
 exact⟨b,by omega⟩
theorem jM:x∈rng n↔0<=x/\x<n:=by
 unfold rng
 rw[mem_map]
 constructor
 ·rintro⟨a,h,rfl⟩
  rw[mem_range] at h
  exact⟨ac0 _,by show(a:Int)<n;omega⟩
 ·intro⟨h1,h2⟩
  exact⟨x.toNat,mem_range.mpr (by omega),by show((x.toNat:Nat):Int)=x;omega⟩
theorem zVg(h:0<=i):L2.cu xs i=xs[i.toNat]?:=by
 unfold L2.cu sI
 rw[if_pos h]
 by_cases q:i<xs.length
 ·rw[if_pos q];rfl
 ·rw[if_neg q,aa9 (by omega)];rfl
theorem dM(h0:0<=i):W (L2.cu xs i) Q↔∃a,xs[i.toNat]?=some a/\Q a:=by
 rw[zVg h0]
 exact afa
theorem zSi{xs:List α}{i:Int}{a:α}(h0:0<=i)(h1:i<xs.length):tX xs i a=some (xs.set i.toNat a):=by
 unfold tX sI
 rw[if_pos h0,if_pos h1]
 rfl
theorem Rq{xs:List α}{i:Int}{a:α}{Q:List α->Prop}(h0:0<=i)(h1:i<xs.length):W (tX xs i a) Q↔Q (xs.set i.toNat a):=by
 rw[zSi h0 h1,aj]
theorem vK{step:S->α->Option S}{Q:S->Prop}(I:Nat->S->Prop)(h0:I 0 s)(hs:∀i x s,xs[i]?=some x->I i s->W (step s x) (I (i+1)))(hd:∀s,I xs.length s->Q s):W (wB step xs s) Q:=by
 have key:∀(ys:List α)(i:Nat)(s:S),(∀j x,ys[j]?=some x->xs[i+j]?=some x)->i+ys.length=xs.length->I i s->W (wB step ys s) Q:=by
  intro ys
  induction ys with
  |nil=>intro i s _ hl h;exact⟨s,rfl,hd s ((show i=xs.length from hl)▸h)⟩
  |cons y ys ih =>
   intro i s hy hl h
   show W ((step s y).bind λs'=>wB step ys s') Q
   rw[zC]
   refine(hs i y s (hy 0 y rfl) h).imp λs' h'=>ih (i+1) s' (λj x hx=>?_) (by rw[length_cons] at hl;omega) h'
   have:=hy (j+1) x (by simpa using hx)
   rw[show i+1+j=i+(j+1) by omega]
   exact this
 exact key xs 0 s (λj x h=>by rw[acr];exact h) (acr _) h0
theorem zGj{step:S->α->Option (Out S β)}:uK step (x::xs) s=(step s x).bind λo=>o.aP λs'=>uK step xs s':=by
 rw[uK]
 congr 1
theorem DQ{step:S->α->Option (Out S β)}{Q:Out S β->Prop}(I:Nat->S->Prop)(h0:I 0 s)(hs:∀i x s,xs[i]?=some x->I i s->W (step s x) λo=>∃s',o=.nx s'/\I (i+1) s')(hd:∀s,I xs.length s->Q (.nx s)):W (uK step xs s) Q:=by
 have key:∀(ys:List α)(i:Nat)(s:S),(∀j x,ys[j]?=some x->xs[i+j]?=some x)->i+ys.length=xs.length->I i s->W (uK step ys s) Q:=by
  intro ys
  induction ys with
  |nil=>intro i s _ hl h;exact⟨.nx s,rfl,hd s ((show i=xs.length from hl)▸h)⟩
  |cons y ys ih =>
   intro i s hy hl h
   rw[zGj,zC]
   refine(hs i y s (hy 0 y rfl) h).imp ?_
   rintro o ⟨s',rfl,h'⟩
   refine ih (i+1) s' (λj x hx=>?_) (by rw[length_cons] at hl;omega) h'
   have:=hy (j+1) x (by simpa using hx)
   rw[show i+1+j=i+(j+1) by omega]
   exact this
 exact key xs 0 s (λj x h=>by rw[acr];exact h) (acr _) h0
theorem DW{c:S->Option Bool}{body:S->Option S}(I:S->Prop)(μ:S->Nat)(h0:I s)(hk:μ s<k)(hs:∀s,I s->W (c s) λb=>if b=true then W (body s) λs'=>I s'/\μ s'<μ s else Q s):W (Hu c body k s) Q:=by
 induction k generalizing s with
 |zero=>omega
 |succ k ih =>
  show W ((c s).bind λb=>if b=true then(body s).bind λs'=>Hu c body k s' else some s) Q
  rw[zC]
  refine(hs s h0).imp λb h=>?_
  cases b with
  |true =>
   have h:W (body s) λs'=>I s'/\μ s'<μ s:=by simpa using h
   simp only[if_true]
   rw[zC]
   exact h.imp λs' ⟨h1,h2⟩=>ih h1 (by omega)
  |false=>simpa[aj] using h
theorem zI3(c:α->Bool)(f:α->β):∀xs:List α,wG (λx=>some (c x)) (λx=>some (f x)) xs=some ((xs.filter c).map f)
 |[]=>rfl
 |x::xs=>by
  have ih:=zI3 c f xs
  show(some (c x)).bind _=_
  cases h:c x with
  |true =>
   show((some (f x)).bind λy=>(wG _ _ xs).bind λys=>some (y::ys))=_
   rw[ih,filter_cons,if_pos h]
   rfl
  |false =>
   show wG _ _ xs=_
   rw[ih,filter_cons,if_neg (by rw[h];decide)]
theorem zVk(c:α->Bool)(f:α->β):W (wR (λx=>some (c x)) (λx=>some (f x)) xs) Q↔xs.length<cap/\Q ((xs.filter c).map f):=by
 unfold wR
 split
 ·rename_i h;rw[zI3,aj];exact⟨λq=>⟨h,q⟩,λq=>q.2⟩
 ·rename_i h;rw[DP];exact⟨abn,λq=>h q.1⟩
theorem zQp(xs:List α):xs.filter (λ_=>true)=xs:=List.filter_eq_self.mpr λ_ _=>rfl
theorem HW(f:α->β):W (wR (λ_=>some true) (λx=>some (f x)) xs) Q↔xs.length<cap/\Q (xs.map f):=by
 rw[zVk (λ_=>true) f,zQp]
theorem Ox[Decidable c]:W (if c then a else b) Q↔(c->W a Q)/\(¬c->W b Q):=by
 by_cases h:c
 ·rw[if_pos h];exact⟨λq=>⟨λ_=>q,λn=>absurd h n⟩,λq=>q.1 h⟩
 ·rw[if_neg h];exact⟨λq=>⟨λn=>absurd n h,λ_=>q⟩,λq=>q.2 h⟩
theorem xA(h:n<=1000):n<cap:=aav h (by decide)
def aH(n:Int)(xs:LI):Prop:=xs.Pairwise (· < ·)/\∀x∈xs,0<=x/\x<n
theorem aH.nodup(h:aH n xs):xs.Nodup:=h.1.imp λq=>Int.ne_of_lt q
theorem KR:aH n []:=⟨.nil,λx h=>by cases h⟩
theorem zIa(h:aH k xs)(h0:0<=k)(hk:k<n):aH n (xs++[k]):=by
 refine⟨List.pairwise_append.mpr ⟨h.1,by simp,λx hx y hy=>?_⟩,λx hx=>?_⟩
 ·rw[mem_singleton.mp hy];exact(h.2 x hx).2
 ·rcases mem_append.mp hx with q|q
  ·have:=h.2 x q;omega
  ·rw[mem_singleton.mp q];omega
theorem zO6(h:aH n xs)(l:n<=m):aH m xs:=⟨h.1,λx hx=>by have:=h.2 x hx;omega⟩
theorem wA:∀{n:Nat}{xs:LI},xs.Nodup->(∀x∈xs,0<=x/\x<(n:Int))->xs.length<=n
 |0,xs,_,h=>by
  cases xs with
  |nil=>exact aaq _
  |cons x xs=>have:=h x mem_cons_self;omega
 |n+1,xs,nd,h=>by
  by_cases q:(n:Int)∈xs
  ·have l:=List.length_erase_of_mem q
   have ih:=wA (n:=n) (xs:=xs.erase (n:Int)) (nd.erase _) λx hx=>by
    have h1:=h x (List.mem_of_mem_erase hx)
    have h2:x≠(n:Int):=λe=>by rw[e] at hx;exact(List.Nodup.not_mem_erase nd) hx
    omega
   omega
  ·have ih:=wA (n:=n) nd λx hx=>by
    have h1:=h x hx
    have h2:x≠(n:Int):=λe=>q (e▸hx)
    omega
   omega
end
end Ts
namespace L2
open PySem PySem.Spec PyProof.Rows
theorem Yo:∀{ns:LI}{its:List Value},Vals (ns.map V.int) its->IntsAre its ns
 |[],[],_=>.nil
 |n::ns,_::its,h=>by
  cases h with
  |cons r t =>
   obtain⟨k,rfl⟩:=r
   exact .cons n k (Yo t)
theorem uW:∀{ns:LI}{its:List Value},IntsAre its ns->Vals (ns.map V.int) its
 |_,_,.nil=>.nil
 |_,_,.cons n t h=>.cons ⟨t,rfl⟩ (uW h)
section
variable{X:Cx}
def HX(K:PySem.W.Frag):List V->Hp->VK->Prop:=λxs H Q=>∃(p:Addr)(ns:LI),xs=[.ref p]/\aV K H p (ns.map V.int)/\ns.length<64/\∀(l:Addr)(ns':LI),H l=none->ns'.Perm ns->ns'.Pairwise (· <= ·)->Q (.ref l) (upd H l (.lst (ns'.map V.int)))
theorem Yp(K:PySem.W.Frag)(hK:X.K=K:=by rfl):sE X (.builtin "sorted") (HX K):=by
 subst hK
 intro pins s σ H xs us Q I r h
 obtain⟨p,ns,rfl,hq,h64,q⟩:=h
 obtain⟨u,rfl,rx⟩:=Hh r
 cases rx
 obtain⟨its,r',pl,hz⟩:=I.list hq
 have hl:=r'.length
 rw[length_map] at hl
 refine sorted_ints pl.isList (Yo r') (by omega) λout ns' a1 a2 a3=>?_
 obtain⟨e,he⟩:=sortedAll_at s.heap its out
 have fr:H (s.heap.objs.size+1)=none:=I.hok.fresh (ab6 _)
 refine⟨.ref (s.heap.objs.size+1),_,I.laid (t':=s.toks) (o:=.lst (ns'.map V.int)) (λb ob w=>sortedAll_old w) (ab6 _) ?_,rfl,q _ ns' fr a2 a3⟩
 refine⟨?_,out.toList,e,uW a1,?_⟩
 ·rw[length_map,a2.length_eq]
  exact acq (adz h64 (by decide))
 ·rw[toArray_toList]
  exact he
theorem zEl{bs:List Bool}(r:Vals (bs.map V.bl) its):TruthOf prog w A (λi v=>its.toArray[i]?=some v) (λi=>bs.getD i false):=by
 intro i v s Q E hv hq
 have hv:its[i]?=some v:=by simpa using hv
 have hi:i<bs.length:=by
  have:=(aay.mp hv).1
  rw[<-r.length,length_map] at this
  exact this
 obtain⟨u,h1,h2⟩:=r.get (i:=i) (x:=.bl bs[i]) (by rw[getElem?_map,aap hi]<;>rfl)
 rw[hv] at h1
 cases h1
 cases h2
 have hq:Q (bs.getD i false) s:=hq
 rw[getD_eq_getElem?_getD,aap hi] at hq
 exact ab5 hq
theorem zO9{bs:List Bool}:((aa1 bs.length).any λi=>bs.getD i false)=bs.any id:=by
 rw[abb,any_eq_true,any_eq_true]
 constructor
 ·rintro⟨i,h1,h2⟩
  have hi:=mem_range.mp h1
  rw[getD_eq_getElem?_getD,aap hi] at h2
  exact⟨_,getElem_mem hi,h2⟩
 ·rintro⟨x,h1,h2⟩
  obtain⟨i,hi,e⟩:=getElem_of_mem h1
  refine⟨i,mem_range.mpr hi,?_⟩
  rw[getD_eq_getElem?_getD,aap hi,e]
  exact h2
theorem zPa{bs:List Bool}:((aa1 bs.length).all λi=>bs.getD i false)=bs.all id:=by
 rw[abb,all_eq_true,all_eq_true]
 constructor
 ·intro h x hx
  obtain⟨i,hi,e⟩:=getElem_of_mem hx
  have z:=h i (mem_range.mpr hi)
  rw[getD_eq_getElem?_getD,aap hi,e] at z
  exact z
 ·intro h i hi
  have hi:=mem_range.mp hi
  rw[getD_eq_getElem?_getD,aap hi]
  exact h _ (getElem_mem hi)
def Yq(K:PySem.W.Frag)(f:List Bool->Bool):List V->Hp->VK->Prop:=λxs H Q=>∃(p:Addr)(bs:List Bool),xs=[.ref p]/\aV K H p (bs.map V.bl)/\Q (.bl (f bs)) H
theorem HY{s:Shared}{h':Heap}(hk:∀b o,b∉[s.heap.objs.size]->(s.heap.push { cls:=.type "list_iterator",data:=.fields #[.ref l,.int 0 0] }).get? b=some o->h'.get? b=some o) :
  ∀b o,s.heap.get? b=some o->h'.get? b=some o:=λb o e=>hk b o (λm=>abx _ (mem_singleton.mp m▸lt_size e)) (get?_push_of_some _ e)
theorem zRe(K:PySem.W.Frag)(hc:X.calm=true)(hK:X.K=K:=by rfl):sE X (.builtin "any") (Yq K λbs=>bs.any id):=by
 subst hK
 intro pins s σ H xs us Q I r h
 obtain⟨p,bs,rfl,hq,q⟩:=h
 obtain⟨u,rfl,rx⟩:=Hh r
 cases rx
 obtain⟨its,r',pl,hz⟩:=I.list hq
 have hl:=pl.isList
 have hlt:p<s.heap.objs.size:=by obtain⟨_,e,_⟩:=hl;exact lt_size e
 refine call_any_walk (ad2 hl ?_)
 refine⟨_,_,_,_,_,_,_,rfl,Walks.list (A:=X.A.in1) (I.ok.hd hc) s.heap.objs.size p (aau hlt) its.toArray,⟨⟨_,get?_push_size _ rfl,rfl,rfl⟩,hl.push _⟩,zEl r',λh' tk hk=>?_⟩
 have hn:its.toArray.size=bs.length:=by
  rw[size_toArray,<-r'.length,length_map]
 rw[hn,zO9]
 exact⟨.bl (bs.any id),H,I.kept (HY hk),rfl,q⟩
theorem zRf(K:PySem.W.Frag)(hc:X.calm=true)(hK:X.K=K:=by rfl):sE X (.builtin "all") (Yq K λbs=>bs.all id):=by
 subst hK
 intro pins s σ H xs us Q I r h
 obtain⟨p,bs,rfl,hq,q⟩:=h
 obtain⟨u,rfl,rx⟩:=Hh r
 cases rx
 obtain⟨its,r',pl,hz⟩:=I.list hq
 have hl:=pl.isList
 have hlt:p<s.heap.objs.size:=by obtain⟨_,e,_⟩:=hl;exact lt_size e
 refine call_all_walk (ad2 hl ?_)
 refine⟨_,_,_,_,_,_,_,rfl,Walks.list (A:=X.A.in1) (I.ok.hd hc) s.heap.objs.size p (aau hlt) its.toArray,⟨⟨_,get?_push_size _ rfl,rfl,rfl⟩,hl.push _⟩,zEl r',λh' tk hk=>?_⟩
 have hn:its.toArray.size=bs.length:=by
  rw[size_toArray,<-r'.length,length_map]
 rw[hn,zPa]
 exact⟨.bl (bs.all id),H,I.kept (HY hk),rfl,q⟩
end
section
variable{prog:Program}{w:World}{A:Around}{R:Result->Shared->Prop}{It:Addr}{fp wr:List Addr}{n:Nat}{P:Nat->Value->Prop}{St:Nat->Heap->Prop}{kw:List (Str×Value)}
end
section
variable{X:Cx}{e e2:Expr}{te td:TE}{p pos kpos:Pos}
end
end L2
namespace Ts
open PySem L2
def Vm(ns:LI):LI:=ns.mergeSort (λa b=>decide (a<=b))
def DX(ns:LI):Option LI:=if ns.length<64 then some (Vm ns) else none
theorem vR(ns:LI):(Vm ns).Perm ns:=List.mergeSort_perm _ _
theorem zD1(ns:LI):(Vm ns).Pairwise (· <= ·):=by
 have:=List.pairwise_mergeSort (le:=λa b:Int=>decide (a<=b)) (λa b c h1 h2=>by simp at *;omega) (λa b=>by simp;omega) ns
 exact this.imp λh=>by simpa using h
theorem zEo:∀{xs ys:LI},xs.Perm ys->xs.Pairwise (· <= ·)->ys.Pairwise (· <= ·)->xs=ys
 |[],ys,p,_,_=>(Perm.nil_eq p)
 |x::xs,[],p,_,_=>by have:=p.length_eq;simp at this
 |x::xs,y::ys,p,h1,h2=>by
  have a1:=pairwise_cons.mp h1
  have a2:=pairwise_cons.mp h2
  have e:x=y:=by
   have q1:x∈y::ys:=p.subset mem_cons_self
   have q2:y∈x::xs:=p.symm.subset mem_cons_self
   rcases mem_cons.mp q1 with q1|q1
   ·exact q1
   ·rcases mem_cons.mp q2 with q2|q2
    ·exact q2.symm
    ·have:=a1.1 y q2;have:=a2.1 x q1;omega
  subst e
  rw[zEo (Perm.cons_inv p) a1.2 a2.2]
section
variable{K:PySem.W.Frag}{B:Bs}{sl:SL K}{md:Md}{t t1 t2:TE}{n:Bool}
theorem Yr(h:Ex B sl .hp t m):Eo B sl md (tQ (HX K) (yM t bh)) (m.bind DX):=λc hc F O H σ Q s k=>by
 cases m with
 |none=>cases hc
 |some ns =>
  have hc:DX ns=some c:=hc
  unfold DX at hc
  split at hc
  case isFalse=>cases hc
  rename_i hl
  cases hc
  refine h ns rfl F O H σ _ s λv F' H' g r1=>?_
  obtain⟨p,vs,rfl,z1,z2⟩:=r1
  have z3:vs=ns.map V.int:=z2.vals
  subst z3
  refine⟨p,ns,rfl,aV.of z1,hl,λl ns' hn p1 p2=>?_⟩
  rw[zEo (p1.trans (vR ns).symm) p2 (zD1 ns)]
  exact k l _ F' H' g hn (HF _)
theorem zLu(h:Ex B sl .hp t m):Ex B sl md (tQ (Yq K f) (yM t bh)) (m.bind λbs=>some (f bs)):=λc hc F O H σ Q s k=>by
 cases m with
 |none=>cases hc
 |some bs =>
  cases(show some (f bs)=some c from hc)
  refine h bs rfl F O H σ _ s λv F' H' g r1=>?_
  obtain⟨p,vs,rfl,z1,z2⟩:=r1
  have z3:vs=bs.map V.bl:=z2.vals
  subst z3
  exact⟨p,bs,rfl,aV.of z1,k _ F' H' g rfl⟩
theorem Rr(h:Ex B sl .hp t m):Ex B sl md (tUn (rU λi=>.int (-i)) t) (m.bind λa=>some (-a)):=λc hc F O H σ Q s k=>by
 cases m with
 |none=>cases hc
 |some a =>
  cases(show some (-a)=some c from hc)
  refine h a rfl F O H σ _ s λv F' H' g r1=>?_
  cases r1
  exact⟨a,rfl,k _ F' H' g rfl⟩
end
section
variable{β:Type}
def gK(kvs:List (Key×β))(k:Key):Option β:=(kvs.find? λkv=>decide (kv.1=k)).map (·.2)
def pK(kvs:List (Key×β))(k:Key)(v:β):List (Key×β):=if(kvs.any λkv=>decide (kv.1=k))=true then kvs.map (λkv=>if kv.1=k then(kv.1,v) else kv) else kvs++[(k,v)]
abbrev iR(kvs:List (Key×β))(k:Int):Option β:=gK kvs (abh k)
def dput(kvs:List (Key×β))(k:Int)(v:β):Option (List (Key×β)):=if kvs.length<cap then some (pK kvs (abh k) v) else none
theorem zQm:∀{kvs:List (Key×β)}{k:Key},(kvs.any λkv=>decide (kv.1=k))=(gK kvs k).isSome
 |[],_=>rfl
 |x::kvs,k=>by
  unfold gK
  rw[any_cons,find?_cons]
  by_cases e:x.1=k
  ·rw[decide_eq_true e];rfl
  ·rw[decide_eq_false e,ad7];exact zQm
theorem zU4:∀(kvs:List (Key×β))(k j:Key)(v:β),gK (pK kvs k v) j=if j=k then some v else gK kvs j:=λkvs k j v=>by
 unfold pK
 cases a:(kvs.any λkv=>decide (kv.1=k)) with
 |true =>
  rw[if_pos rfl]
  induction kvs with
  |nil=>cases a
  |cons x kvs ih =>
   unfold gK at ih ⊢
   rw[map_cons,find?_cons,find?_cons]
   by_cases e:x.1=k
   ·rw[if_pos e]
    by_cases f:j=k
    ·subst f
     rw[decide_eq_true (show(x.1,v).1=j from e),if_pos rfl];rfl
    ·rw[decide_eq_false (show¬(x.1,v).1=j fromλz=>f (z.symm.trans e)),if_neg f]
     show Option.map (λx=>x.2) (List.find? (λkv=>decide (kv.1=j)) (List.map (λkv=>if kv.1=k then(kv.1,v) else kv) kvs))=Option.map (λx=>x.2) (List.find? (λkv=>decide (kv.1=j)) kvs)
     clear ih a
     induction kvs with
     |nil=>rfl
     |cons y kvs ih =>
      rw[map_cons,find?_cons,find?_cons]
      by_cases g:y.1=k
      ·rw[if_pos g,decide_eq_false (show¬(y.1,v).1=j fromλz=>f (z.symm.trans g))];exact ih
      ·rw[if_neg g]
       by_cases h:y.1=j
       ·rw[decide_eq_true h]
       ·rw[decide_eq_false h];exact ih
   ·rw[if_neg e]
    have a':(kvs.any λkv=>decide (kv.1=k))=true:=by rw[any_cons,decide_eq_false e,ad7] at a;exact a
    by_cases f:x.1=j
    ·rw[decide_eq_true f,if_neg λz=>e (f.trans z)]
    ·rw[decide_eq_false f];exact ih a'
 |false =>
  rw[if_neg (by decide)]
  unfold gK
  rw[List.find?_append]
  have hn:kvs.find? (λkv=>decide (kv.1=k))=none:=by
   rw[List.find?_eq_none]
   intro x hx
   have:=any_eq_false.mp a x hx
   exact this
  by_cases f:j=k
  ·subst f;rw[hn,if_pos rfl];simp
  ·rw[if_neg f]
   cases kvs.find? (λkv=>decide (kv.1=j)) with
   |none=>simp[acg f]
   |some y=>rfl
theorem zUy(kvs:List (Key×β))(k:Key)(v:β):(pK kvs k v).length<=kvs.length+1:=by
 unfold pK
 split
 ·rw[length_map];omega
 ·rw[length_append];exact aaq _
end
section
variable{K:PySem.W.Frag}{α:Type}[Rp K α]
abbrev DR(K:PySem.W.Frag){α:Type}[Rp K α](F:Hp):Key×V->Key×α->Prop:=λx y=>x.1=y.1/\rp K F x.2 y.2
theorem A2.any:∀{ks:List (Key×V)}{kvs:List (Key×α)},A2 (DR K F) ks kvs->(ks.any λkv=>decide (kv.1=k))=(kvs.any λkv=>decide (kv.1=k))
 |[],[],_=>rfl
 |_::_,_::_,h=>by rw[any_cons,any_cons,h.1.1,A2.any h.2]
 |[],_::_,h=>h.elim
 |_::_,[],h=>h.elim
theorem A2.val:∀{ks:List (Key×V)}{kvs:List (Key×α)},A2 (DR K F) ks kvs->(gK kvs k=none/\gP ks k=none)\/∃a v,gK kvs k=some a/\gP ks k=some v/\rp K F v a
 |[],[],_=>.inl ⟨rfl,rfl⟩
 |x::ks,y::kvs,h=>by
  unfold gK gP
  rw[find?_cons,find?_cons,h.1.1]
  by_cases e:y.1=k
  ·rw[decide_eq_true e];exact .inr ⟨y.2,x.2,rfl,rfl,h.1.2⟩
  ·rw[decide_eq_false e];exact A2.val h.2
 |[],_::_,h=>h.elim
 |_::_,[],h=>h.elim
theorem A2.Ru(r:rp K F v a):∀{ks:List (Key×V)}{kvs:List (Key×α)},A2 (DR K F) ks kvs->A2 (DR K F) (ks.map λkv=>if kv.1=k then(kv.1,v) else kv) (kvs.map λkv=>if kv.1=k then(kv.1,a) else kv)
 |[],[],_=>trivial
 |x::ks,y::kvs,h=>by
  rw[map_cons,map_cons]
  refine⟨?_,A2.Ru r h.2⟩
  by_cases e:x.1=k
  ·rw[if_pos e,if_pos (h.1.1▸e)];exact⟨h.1.1,r⟩
  ·rw[if_neg e,if_neg (h.1.1▸e)];exact h.1
 |[],_::_,h=>h.elim
 |_::_,[],h=>h.elim
theorem A2.put{F:Hp}{k:Key}{v:V}{a:α}(r:rp K F v a){ks:List (Key×V)}{kvs:List (Key×α)}(h:A2 (DR K F) ks kvs):A2 (DR K F) (putK ks k v) (pK kvs k a):=by
 unfold putK pK
 rw[h.any]
 split
 ·exact h.Ru r
 ·exact h.snoc ⟨rfl,r⟩
structure Dc(α:Type) where
 kv:List (Key×α)
instance:Rp K (Dc α):=⟨λF v d=>∃p ks,v=.ref p/\F p=some (.dK ks)/\A2 (DR K F) ks d.kv,λs ⟨p,ks,h1,h2,h3⟩=>⟨p,ks,h1,s _ _ h2,h3.imp λ_ _ z=>⟨z.1,Rp.mono s z.2⟩⟩⟩
instance:Nn K (Dc α):=⟨λ⟨_,_,h,_⟩=>by rw[h];intro e;cases e⟩
variable{B:Bs}{sl:SL K}{md:Md}{t t2:TE}{F H G:Hp}{O:Own}{σ:St}{u:TS}{al:Bool}
theorem Ys{kvs:List (Key×α)}(i:Nat)(hs:sl[i]?=some (.od kvs)):Ex B sl .hp (cj i) (some (Dc.mk kvs)):=λa' ha F O H σ Q s k=>by
 cases ha
 obtain⟨k0,z0⟩:=s
 obtain⟨O1,O2,p,ks,rfl,h1,h2,_⟩:=z0.Hr hs
 exact⟨_,h1,k _ F H (.refl k0) ⟨p,ks,rfl,k0.one.2.2,h2.imp λ_ _ z=>⟨z.1,Rp.mono k0.fh z.2⟩⟩⟩
theorem KY{m:Option Int}{m2:Option (Dc α)}(h:Ex B sl .hp t m)(h2:Ex B sl .hp t2 m2):Ex B sl md (J4 t t2) (m.bind λk=>m2.bind λd=>some (iR d.kv k).isSome):=λc hc F O H σ Q s kk=>by
 obtain⟨k,d,e1,e2,e3⟩:=qg hc
 cases e3
 refine h k e1 F O H σ _ s λv F' H' g r1=>?_
 refine h2 d e2 F' O H' σ _ (s.grow g) λw F2 H2 g2 r2=>?_
 cases r1
 obtain⟨p,ks,rfl,z1,z2⟩:=r2
 refine⟨p,_,rfl,pL.k (k:=abh k) z1,?_⟩
 have e:(gP ks (abh k:Key)).isSome=(iR d.kv k).isSome:=by
  rcases z2.val (k:=abh k) with⟨q1,q2⟩|⟨a,v,q1,q2,_⟩
  ·show _=(gK d.kv (abh k)).isSome;rw[q1,q2];rfl
  ·show _=(gK d.kv (abh k)).isSome;rw[q1,q2];rfl
 rw[e]
 exact kk _ F2 H2 (g.trans g2) rfl
theorem zQu{m:Option Int}{m2:Option (Dc α)}(h:Ex B sl .hp t m)(h2:Ex B sl .hp t2 m2):Ex B sl md (zOn t t2) (m.bind λk=>m2.bind λd=>some !(iR d.kv k).isSome):=λc hc F O H σ Q s kk=>by
 obtain⟨k,d,e1,e2,e3⟩:=qg hc
 cases e3
 refine h k e1 F O H σ _ s λv F' H' g r1=>?_
 refine h2 d e2 F' O H' σ _ (s.grow g) λw F2 H2 g2 r2=>?_
 cases r1
 obtain⟨p,ks,rfl,z1,z2⟩:=r2
 refine⟨p,_,rfl,pL.k (k:=abh k) z1,?_⟩
 have e:(gP ks (abh k:Key)).isSome=(iR d.kv k).isSome:=by
  rcases z2.val (k:=abh k) with⟨q1,q2⟩|⟨a,v,q1,q2,_⟩
  ·show _=(gK d.kv (abh k)).isSome;rw[q1,q2];rfl
  ·show _=(gK d.kv (abh k)).isSome;rw[q1,q2];rfl
 rw[e]
 exact kk _ F2 H2 (g.trans g2) rfl
theorem zOv{kvs:List (Key×α)}{m:Option α}{mi:Option Int}{te ti:TE}(i:Nat)(hs:sl[i]?=some (.od kvs))(hh:sl.all (λs=>!cJ s)=true)(hv:Ex B sl .fz te m)(hi:Ex B sl .hp ti mi) :
  Sn B sl (yg (cj i) ti te) (λys=>sl.set i (.od ys)) (m.bind λa=>mi.bind λk=>dput kvs k a):=λys ha G D σ H s k=>by
 obtain⟨a,ix,e1,e2,e3⟩:=qg ha
 unfold dput at e3
 split at e3
 case isFalse=>cases e3
 rename_i hl
 cases e3
 obtain⟨F,O,g,z⟩:=s
 refine hv a e1 F O H σ _ z λv F' H' gr r=>?_
 obtain⟨p,ks,h1,h2,h3,_⟩:=(z.grow gr).Dr hs hh
 refine⟨_,h1,?_⟩
 refine hi ix e2 F' O H' σ _ (z.grow gr) λw F2 H2 sO rw=>?_
 cases rw
 obtain⟨p',ks',h1',h2',h3',h4'⟩:=((z.grow gr).grow sO).Dr hs hh
 have e:=h1.symm.trans h1'
 cases e
 obtain⟨O',z'⟩:=h4' (putK ks' (abh ix) v) (pK kvs (abh ix) a) (h3'.put (Rp.mono sO.ff r))
 exact⟨p,_,rfl,tR.k (k:=abh ix) h2' (BX (by rw[h3'.len];exact hl)),k _ _ ⟨F2,O',(g.trans gr.ff).trans sO.ff,z'⟩⟩
end
end Ts
namespace L2
open PySem PySem.Spec PyProof.Rows
section
variable{X:Cx}{tg:Expr}
end
end L2
namespace Ts
open PySem L2
section
variable{K:PySem.W.Frag}{B:Bs}{sl:SL K}{t1 t2 t3:TE}{n:Bool}
end
section
variable{K:PySem.W.Frag}{B:Bs}{sl:SL K}{md:Md}{t:TE}{u:TS}{al:Bool}{α:Type}[Rp K α]
abbrev Rv:List V->Hp->VK->Prop:=λxs H Q=>(∃i,xs=[.int i]/\Q (.int i) H)\/∃k,xs=[.bl k]/\Q (.int (if k then 1 else 0)) H
theorem DY(h:Ex B sl .hp t m):Ex B sl md (tQ Rv (yM t bh)) (m.bind λb=>some (if b=true then(1:Int) else 0)):=λc hc F O H σ Q s k=>by
 cases m with
 |none=>cases hc
 |some b =>
  cases(show some (if b=true then(1:Int) else 0)=some c from hc)
  refine h b rfl F O H σ _ s λv F' H' g r1=>?_
  cases r1
  exact .inr ⟨b,rfl,k _ F' H' g rfl⟩
end
end Ts
namespace L2
open PySem PySem.Spec PyProof.Rows
section
variable{X:Cx}
end
end L2
namespace Ts
open PySem L2
section
variable{K:PySem.W.Frag}{B:Bs}{sl:SL K}{md:Md}{t:TE}{α:Type}[Rp K α]
variable{S:Type}{n:Bool}{tb:TS}
end
end Ts
namespace L2
open PySem
open PySem PySem.Spec PyProof.Rows
def Its(x:Str):It:=⟨λi _=>i<x.cps.size,λi H v H'=>H'=H/\∃c,x.cps[i]?=some c/\v=.str ⟨#[c]⟩,λi _=>x.cps.size<=i⟩
theorem zMn{P:Program}{w:World}{K:PySem.W.Frag}{tg:Expr}(it:Addr)(x:Str)(t:Tok):Turn P w K tg (Its x) [it] it (λi h=>h.IsStrIter it "str_ascii_iterator" x t i) where
 mem:=mem_singleton.mpr rfl
 obj:=λi h st b hb=>by
  have e:b=it:=mem_singleton.mp hb
  subst e
  obtain⟨o,ho,hc,hd⟩:=st
  refine⟨o,ho,λv z=>?_⟩
  rw[hd] at z
  cases z
 keep:=λi h h' st k=>by
  obtain⟨o,ho,r⟩:=st
  exact⟨o,k it (mem_singleton.mpr rfl) _ ho,r⟩
 item:=by
  intro X hP hw hK hc i pins s σ H E I hf st hg
  subst hP hw hK
  obtain⟨f0,f1,f2,f3,f4,f5⟩:=hf it (mem_singleton.mpr rfl)
  refine(Walks.strAscii (prog:=X.prog) (w:=X.w) (I.ok.hd hc) it x t).item i s _ _ hg st λv h' tk hv st' kk=>?_
  obtain⟨c,u,hx,rfl⟩:=hv
  have I1:Inv X pins σ H { s with heap:=h',toks:=tk }:=I.turned (λb o hb e=>kk b o (λz=>hb (mem_singleton.mp z)) e) f0 f1 f3 f4 f5
  obtain⟨o,ho,hc,hd⟩:=id st'
  exact⟨_,rfl,Oh (s:={ s with heap:=h',toks:=tk }) (n:="str_ascii_iterator") ho hc hd (by decide) ⟨.str ⟨#[c]⟩,H,I1,⟨u,rfl⟩,⟨rfl,c,hx,rfl⟩,st',λb hb=>(hf b hb).1⟩⟩
 done:=by
  intro X hP hw hK hc i pins s σ H E I hf st hg
  subst hP hw hK
  obtain⟨f0,f1,f2,f3,f4,f5⟩:=hf it (mem_singleton.mpr rfl)
  exact wpAny_pyNext_ascii_end (I.ok.hd hc) st (abk hg) λh' eb=>⟨rfl,I.turned (t':=s.toks) (λb o hb e=>eb b o hb e) f0 f1 f3 f4 f5⟩
 self:=λ_ _ _ _ _ st h=>wpAny_pyIter_striter_ascii st h
theorem zOg{P:Program}{w:World}{K:PySem.W.Frag}{tg:Expr}(it:Addr)(x:Str)(t:Tok):Turn P w K tg (Its x) [it] it (λi h=>h.IsStrIter it "str_iterator" x t i) where
 mem:=mem_singleton.mpr rfl
 obj:=λi h st b hb=>by
  have e:b=it:=mem_singleton.mp hb
  subst e
  obtain⟨o,ho,hc,hd⟩:=st
  refine⟨o,ho,λv z=>?_⟩
  rw[hd] at z
  cases z
 keep:=λi h h' st k=>by
  obtain⟨o,ho,r⟩:=st
  exact⟨o,k it (mem_singleton.mpr rfl) _ ho,r⟩
 item:=by
  intro X hP hw hK hc i pins s σ H E I hf st hg
  subst hP hw hK
  obtain⟨f0,f1,f2,f3,f4,f5⟩:=hf it (mem_singleton.mpr rfl)
  refine(Walks.strWide (prog:=X.prog) (w:=X.w) (I.ok.hd hc) it x t).item i s _ _ hg st λv h' tk hv st' kk=>?_
  obtain⟨c,u,hx,rfl⟩:=hv
  have I1:Inv X pins σ H { s with heap:=h',toks:=tk }:=I.turned (λb o hb e=>kk b o (λz=>hb (mem_singleton.mp z)) e) f0 f1 f3 f4 f5
  obtain⟨o,ho,hc,hd⟩:=id st'
  exact⟨_,rfl,Oh (s:={ s with heap:=h',toks:=tk }) (n:="str_iterator") ho hc hd (by decide) ⟨.str ⟨#[c]⟩,H,I1,⟨u,rfl⟩,⟨rfl,c,hx,rfl⟩,st',λb hb=>(hf b hb).1⟩⟩
 done:=by
  intro X hP hw hK hc i pins s σ H E I hf st hg
  subst hP hw hK
  obtain⟨f0,f1,f2,f3,f4,f5⟩:=hf it (mem_singleton.mpr rfl)
  exact wpAny_pyNext_wide_end (I.ok.hd hc) st (abk hg) λh' eb=>⟨rfl,I.turned (t':=s.toks) (λb o hb e=>eb b o hb e) f0 f1 f3 f4 f5⟩
 self:=λ_ _ _ _ _ st h=>wpAny_pyIter_striter_wide st h
section
variable{X:Cx}{tg:Expr}
def Rw(tl:TE):TI:=λσ H R=>tl σ H λx H1=>∃y,x=.str y/\R (Its y) H1
theorem KZ(hl:PE X l tl):PI X tg l (Rw tl):=by
 intro pins s σ H R I h
 refine aP (hl pins s σ H _ I h) λv s1 ⟨x,H1,I1,r1,q1⟩=>?_
 obtain⟨y,e,q⟩:=q1
 subst e
 obtain⟨t,rfl⟩:=r1
 have fp:∀b∈[s1.heap.objs.size],lE X pins H1 b:=λb hb=>by
  have e:b=s1.heap.objs.size:=mem_singleton.mp hb
  subst e
  exact I1.lF (aaq _) (I1.hok.fresh (aaq _))
 cases ha:y.cps.all (· < 128)
 ·exact wpAny_pyIter_wide ha ⟨s1.heap.objs.size,[s1.heap.objs.size],_,_,H1,rfl,I1.kept (t':=s1.toks) λb o e=>get?_push_of_some _ e,zOg _ y t,⟨_,get?_push_size _ rfl,rfl,rfl⟩,fp,q⟩
 ·exact wpAny_pyIter_ascii ha ⟨s1.heap.objs.size,[s1.heap.objs.size],_,_,H1,rfl,I1.kept (t':=s1.toks) λb o e=>get?_push_of_some _ e,zMn _ y t,⟨_,get?_push_size _ rfl,rfl,rfl⟩,fp,q⟩
end
end L2
namespace Ts
open PySem L2
section
variable{K:PySem.W.Frag}{B:Bs}{sl:SL K}{md:Md}{t ta tb tc:TE}{n:Bool}
def Rx(x:Str):List Str:=x.cps.toList.map λc=>(⟨#[c]⟩:Str)
theorem K1(h:Ex B sl .hp t mi):Ei B sl n (Rw t) (mi.bind λx=>some (Rx x)):=λxs hx F O H σ R a k=>by
 cases mi with
 |none=>cases hx
 |some x =>
  cases(show some (Rx x)=some xs from hx)
  refine h x rfl F O H σ _ a λv F' H' gr r=>?_
  cases r
  refine⟨x,rfl,k _ F' H' gr λi F2 O2 H2 sf k2=>⟨λhl=>?_,λy hy=>?_⟩⟩
  ·show x.cps.size<=i
   unfold Rx at hl
   rw[length_map,length_toList] at hl
   exact hl
  ·unfold Rx at hy
   rw[getElem?_map,getElem?_toList] at hy
   cases e:x.cps[i]? with
   |none=>rw[e] at hy;cases hy
   |some c =>
    rw[e] at hy
    cases hy
    have hi:i<x.cps.size:=(Array.getElem?_eq_some_iff.mp e).1
    refine⟨hi,λv H3 yd=>?_⟩
    obtain⟨rfl,c',e',rfl⟩:=yd
    rw[e] at e'
    cases e'
    exact⟨F2,.refl k2,rfl⟩
theorem zLt{f g:Int->Int->Bool}(h1:Ex B sl .hp ta m1)(h2:Ex B sl .hp tb m2)(h3:Ex B sl .hp tc m3) :
  Ex B sl md (zUl (qW λi j=>.bl (f i j)) (qW λi j=>.bl (g i j)) ta tb tc) (m1.bind λa=>m2.bind λb=>if f a b=true then m3.bind λc=>some (g b c) else some false):=λd hd F O H σ Q s k=>by
 obtain⟨a,b,e1,e2,e3⟩:=qg hd
 refine h1 a e1 F O H σ _ s λv F' H' g1 r1=>?_
 refine h2 b e2 F' O H' σ _ (s.grow g1) λw F2 H2 g2 r2=>?_
 cases r1
 cases r2
 refine⟨a,b,rfl,rfl,_,rfl,?_⟩
 by_cases q:f a b=true
 ·rw[if_pos q] at e3 ⊢
  cases m3 with
  |none=>cases e3
  |some c =>
   cases(show some (g b c)=some d from e3)
   refine h3 c rfl F2 O H2 σ _ ((s.grow g1).grow g2) λu F3 H3 g3 r3=>?_
   cases r3
   exact⟨b,c,rfl,rfl,k _ F3 H3 ((g1.trans g2).trans g3) rfl⟩
 ·rw[if_neg q] at e3 ⊢
  cases e3
  exact k _ F2 H2 (g1.trans g2) rfl
def H_:List V->Hp->VK->Prop:=λxs H Q=>∃x:Str,xs=[.str x]/\x.length<cap/\Q (.int x.length) H
theorem zRc:sE X (.builtin "len") H_:=by
 intro pins s σ H xs us Q I r h
 obtain⟨x,rfl,hl,q⟩:=h
 exact zT5 pins s σ H _ us Q I r ⟨_,_,rfl,⟨acq (BX hl),rfl⟩,q⟩
def D_(x:Str):Option Int:=if x.length<cap then some (x.length:Int) else none
theorem Eb(h:Ex B sl .hp t m):Ex B sl md (tQ H_ (yM t bh)) (m.bind D_):=λc hc F O H σ Q s k=>by
 cases m with
 |none=>cases hc
 |some x =>
  have hc:D_ x=some c:=hc
  unfold D_ at hc
  split at hc
  case isFalse=>cases hc
  rename_i hl
  cases hc
  refine h x rfl F O H σ _ s λv F' H' g r1=>?_
  cases r1
  exact⟨x,rfl,hl,k _ F' H' g rfl⟩
def Yt(i j:Str):Bool:=!(adt j i 0 j.length 1).isEmpty
abbrev Yu:R2:=λx y H Q=>∃i j,x=.str i/\y=.str j/\Q (.bl (!(adt j i 0 j.length 1).isEmpty)) H
theorem K3(h1:Ex B sl .hp ta m1)(h2:Ex B sl .hp tb m2):Ex B sl md (jE Yu ta tb) (m1.bind λa=>m2.bind λb=>some (Yt a b)) :=
 BW (f:=λa b=>some (Yt a b)) (λa b c v w H Q e r1 r2 q=>by
  cases e
  cases r1
  cases r2
  exact⟨a,b,rfl,rfl,q⟩) h1 h2
theorem K4{ws:List Str}(hT:∀H,cI K H p (ws.map V.str))(h:Ex B sl .hp t m):Ex B sl md (jE (U5 K false) t (tC (.ref p))) (m.bind λx=>some (decide (x∈ws))):=λc hc F O H σ Q s k=>by
 cases m with
 |none=>cases hc
 |some x =>
  cases(show some (decide (x∈ws))=some c from hc)
  refine h x rfl F O H σ _ s λv F' H' g r1=>?_
  cases r1
  refine⟨p,_,rfl,.inr (hT H'),Fl.flat (K:=K) x,zQo (K:=K) ws,?_⟩
  have:=Yh (K:=K) x ws
  simp only[aax,if_false]
  rw[show inV (V.str x) (ws.map V.str)=decide (x∈ws) from this]
  exact k _ F' H' g rfl
end
section
variable{P:Program}{w:World}{K:PySem.W.Frag}{mg:Str->Option Value}{base:Heap}{B:Bs}{sl:SL K}{al:Bool}{S β:Type}[Rp K β]
theorem Oz:Sn B sl zUj L none:=λa ha=>by cases ha
theorem Vn{A:Type}{as:A->SL K}{fM:A->Option Unit}(F:aZ K x qual st f fd)(S:ao N ps (zH st))(hf:∀a,(as a).all isF=true)(hl:∀a,(as a).length=ps.length)(hb:∀(cdv:Value) (A:Around) (outer:List Env) (s:Shared) (H:Hp) (E:XK),bO k (A.deeper (adi qual (zH st) s.heap.objs.size f cdv)) ->
   ∃t,qe (oE aO P w K mg base N qual (zH st) f cdv A outer s H E).Cz (xZ st) t/\∀Fa a,∃L:Unit->SL K,Sn ⟨Fa,H⟩ (as a++replicate (N.length-ps.length) .un) t L (fM a)) :
  aq P w K mg base aO (k+1) f fd ps (cL K al as fM) :=
 F.ok S (λvs H Q E h=>zUm hl h) λcdv A outer s H vs Q E hr h=>by
  obtain⟨t,p,q⟩:=hb cdv A outer s H E hr
  refine⟨t,p,?_⟩
  obtain⟨a,b,Fa,s,hfa,r,kk⟩:=h
  have e:L2.start N vs=vs.map some++replicate (N.length-ps.length) none:=by
   unfold L2.start
   rw[r.len,hl]
  rw[e]
  obtain⟨L,q⟩:=q Fa a
  exact q b hfa Fa _ _ H ⟨Fa,[],.refl _,⟨s,.refl _,λb o h=>.inl h,λx hx=>(by cases hx),(by simp)⟩,zEq _ (hf a) r⟩ λσ' H' ⟨F',O',g,a'⟩=>kk .non H' a'.1.h0 rfl
def K5(a:Str)(i:Int):Option Str:=if i.natAbs.log2<1920 then some (a++ade (toString i)) else none
def OD(a z:Str):Option Str:=if z.length<=1000 then some (a++z) else none
theorem zU6(a:Str)(h:Ex B sl .hp t m):Ex B sl md (XC a t) (m.bind (K5 a)):=λc hc F O H σ Q s k=>by
 cases m with
 |none=>cases hc
 |some i =>
  have hc:K5 a i=some c:=hc
  unfold K5 at hc
  split at hc
  case isFalse=>cases hc
  rename_i hl
  cases hc
  refine h i rfl F O H σ _ s λv F' H' g r1=>?_
  cases r1
  exact .inl ⟨i,rfl,hl,k _ F' H' g rfl⟩
theorem K6(a:Str)(h:Ex B sl .hp t m):Ex B sl md (XC a t) (m.bind (OD a)):=λc hc F O H σ Q s k=>by
 cases m with
 |none=>cases hc
 |some i =>
  have hc:OD a i=some c:=hc
  unfold OD at hc
  split at hc
  case isFalse=>cases hc
  rename_i hl
  cases hc
  refine h i rfl F O H σ _ s λv F' H' g r1=>?_
  cases r1
  exact .inr ⟨i,rfl,hl,k _ F' H' g rfl⟩
theorem Ry:kitOne K (.type "str") (.type "str")=some true:=rfl
theorem K7:bootBuiltins "str" = some (.type "str"):=by decide +kernel
end
section
variable{β:Type}
abbrev Ia(kvs:List (Key×β))(k:Str):Option β:=gK kvs (ab0 k)
def RB(kvs:List (Key×β))(k:Str)(v:β):Option (List (Key×β)):=if kvs.length<cap then some (pK kvs (ab0 k) v) else none
end
section
variable{K:PySem.W.Frag}{α:Type}[Rp K α]
variable{B:Bs}{sl:SL K}{md:Md}{t t2:TE}{F H G:Hp}{O:Own}{σ:St}{u:TS}{al:Bool}
theorem Ec{m:Option Str}{m2:Option (Dc α)}(h:Ex B sl .hp t m)(h2:Ex B sl .hp t2 m2):Ex B sl md (J4 t t2) (m.bind λk=>m2.bind λd=>some (Ia d.kv k).isSome):=λc hc F O H σ Q s kk=>by
 obtain⟨k,d,e1,e2,e3⟩:=qg hc
 cases e3
 refine h k e1 F O H σ _ s λv F' H' g r1=>?_
 refine h2 d e2 F' O H' σ _ (s.grow g) λw F2 H2 g2 r2=>?_
 cases r1
 obtain⟨p,ks,rfl,z1,z2⟩:=r2
 refine⟨p,_,rfl,pL.k (k:=ab0 k) z1,?_⟩
 have e:(gP ks (ab0 k:Key)).isSome=(Ia d.kv k).isSome:=by
  rcases z2.val (k:=ab0 k) with⟨q1,q2⟩|⟨a,v,q1,q2,_⟩
  ·show _=(gK d.kv (ab0 k)).isSome;rw[q1,q2];rfl
  ·show _=(gK d.kv (ab0 k)).isSome;rw[q1,q2];rfl
 rw[e]
 exact kk _ F2 H2 (g.trans g2) rfl
theorem zSe{kvs:List (Key×α)}{m:Option α}{mi:Option Str}{te ti:TE}(i:Nat)(hs:sl[i]?=some (.od kvs))(hh:sl.all (λs=>!cJ s)=true)(hv:Ex B sl .fz te m)(hi:Ex B sl .hp ti mi) :
  Sn B sl (yg (cj i) ti te) (λys=>sl.set i (.od ys)) (m.bind λa=>mi.bind λk=>RB kvs k a):=λys ha G D σ H s k=>by
 obtain⟨a,ix,e1,e2,e3⟩:=qg ha
 unfold RB at e3
 split at e3
 case isFalse=>cases e3
 rename_i hl
 cases e3
 obtain⟨F,O,g,z⟩:=s
 refine hv a e1 F O H σ _ z λv F' H' gr r=>?_
 obtain⟨p,ks,h1,h2,h3,_⟩:=(z.grow gr).Dr hs hh
 refine⟨_,h1,?_⟩
 refine hi ix e2 F' O H' σ _ (z.grow gr) λw F2 H2 sO rw=>?_
 cases rw
 obtain⟨p',ks',h1',h2',h3',h4'⟩:=((z.grow gr).grow sO).Dr hs hh
 have e:=h1.symm.trans h1'
 cases e
 obtain⟨O',z'⟩:=h4' (putK ks' (ab0 ix) v) (pK kvs (ab0 ix) a) (h3'.put (Rp.mono sO.ff r))
 exact⟨p,_,rfl,tR.k (k:=ab0 ix) h2' (BX (by rw[h3'.len];exact hl)),k _ _ ⟨F2,O',(g.trans gr.ff).trans sO.ff,z'⟩⟩
end
abbrev LLI:=List LI
abbrev Cd:=List (Str×LI)
structure gQ(p:Addr) where
 u:Unit
def Vo(C:Addr)(fS:LLI->Option Unit)(fM:Cd->Int->Option Unit)(fF:LLI->Int->Option Unit)(fC fO:LLI->Option LLI)(xss:LLI)(mo:Option Cd)(fo:Option LLI):Option (aF C) :=
 (fS xss).bind λ_=>(fM (mo.getD []) (xss.length:Int)).bind λ_=>(fF (fo.getD []) (xss.length:Int)).bind λ_=>(fC xss).bind λa=>(wR (λ_=>some true) (λx:Str×LI=>some (x.1,x.2)) (mo.getD [])).bind λb =>
  (fC (fo.getD [])).bind λc=>(fO a).bind λd=>some ⟨a,b,c,d⟩
theorem Ce{α β:Type}{m:Option α}{f:α->Option β}{b:β}(h:m.bind f=some b):∃a,m=some a/\f a=some b:=by
 cases m with
 |none=>cases h
 |some a=>exact⟨a,rfl,h⟩
section
variable{K:PySem.W.Frag}{C:Addr}{B:Bs}{sl:SL K}{F H:Hp}{O:Own}{σ:St}
instance:Rp K (gQ p):=⟨λ_ v _=>v=.ref p,λ_ h=>h⟩
def RD(K:PySem.W.Frag)(C:Addr)(mk:LLI->Option Cd->Option LLI->Option (aF C)):Sp:=λvs H Q _=>∃(p dx:Addr)(vS vM vF:V)(xss:LLI)(mo:Option Cd)(fo:Option LLI)(M:aF C),vs=[.ref p,vS,vM,vF]/\H p=some (.ins C dx []) /\
 rp K (hid H p) vS xss/\rp K (hid H p) vM mo/\rp K (hid H p) vF fo/\mk xss mo fo=some M/\∀H':Hp,(∀b o,b≠p->H b=some o->H' b=some o)->rp K (dif H' (hid H p)) (.ref p) M->Q .non H'
variable{mk:LLI->Option Cd->Option LLI->Option (aF C)}
theorem zSb{H1:Hp}{x dx:Addr}(nx:H1 x=none)(ndx:H1 dx=none){vS vM vF:V}{xss:LLI}{mo:Option Cd}{fo:Option LLI}{c:aF C}(rS:rp K H1 vS xss)(rM:rp K H1 vM mo)(rF:rp K H1 vF fo)(hc:mk xss mo fo=some c){Q:VK}{E:XK}(k:∀H2:Hp,Same H1 H2->rp K (dif H2 H1) (.ref x) c->Q (.ref x) H2):RD K C mk [.ref x,vS,vM,vF] (upd (upd H1 dx (.own x)) x (.ins C dx [])) (λv H2=>v=.non/\Q (.ref x) H2) E:=by
 have sG:Same H1 (upd (upd H1 dx (.own x)) x (.ins C dx [])):=λb o e=>by rw[zP (zN e nx),zP (zN e ndx)];exact e
 have sh:Same H1 (hid (upd (upd H1 dx (.own x)) x (.ins C dx [])) x):=λb o e=>by
  unfold hid
  rw[if_neg (zN e nx)]
  exact sG b o e
 refine⟨x,dx,vS,vM,vF,xss,mo,fo,c,rfl,zJ,Rp.mono sh rS,Rp.mono sh rM,Rp.mono sh rF,hc,λH2 kp r2=>⟨rfl,?_⟩⟩
 refine k H2 (λb o e=>kp b o (zN e nx) (sG b o e)) (Rp.mono (λb o e=>?_) r2)
 have hb:H1 b=none:=by
  cases q:H1 b with
  |none=>rfl
  |some u =>
   have:hid (upd (upd H1 dx (.own x)) x (.ins C dx [])) x b=some u:=sh b u q
   unfold dif at e
   rw[this] at e
   cases e
 rw[xT hb]
 exact aW _ _ e
theorem zQz(h1:Ex B sl .hp t1 m1)(h2:Ex B sl .hp t2 m2)(h3:Ex B sl .hp t3 m3) :
  En B sl (Hj C (RD K C mk) [] E0 (yM t1 (yM t2 (yM t3 bh)))) (m1.bind λa=>m2.bind λb=>m3.bind λc=>mk a (some b) (some c)):=λc hc F O H σ Q s kk=>by
 obtain⟨a,rfl,hc⟩:=Ce (m:=m1) hc
 obtain⟨b,rfl,hc⟩:=Ce (m:=m2) hc
 obtain⟨d,rfl,hc⟩:=Ce (m:=m3) hc
 refine h1 a rfl F O H σ _ s λv1 F1 H1 g1 r1=>?_
 refine h2 b rfl F1 O H1 σ _ (s.grow g1) λv2 F2 H2 g2 r2=>?_
 refine h3 d rfl F2 O H2 σ _ ((s.grow g1).grow g2) λv3 F3 H3 g3 r3=>?_
 intro x dx nx ndx nex
 have r2':rp K H2 v2 b:=r2
 have r3':rp K H3 v3 d:=r3
 exact zSb nx ndx (Rp.mono (g2.hh.trans g3.hh) r1) (show rp K H3 v2 (some b) from⟨Nn.nn (K:=K) r2',Rp.mono g3.hh r2⟩) (show rp K H3 v3 (some d) from⟨Nn.nn (K:=K) r3',r3⟩) hc λH4 s4 r4=>kk _ F3 H3 H4 (g1.trans (g2.trans g3)) s4 r4
theorem K8(h:b≠p):hid H p b=H b:=by unfold hid;rw[if_neg h]
theorem OJ:hid H p p=none:=by unfold hid;rw[if_pos rfl]
theorem RG:Same (hid H p) H:=λb o e=>by
 by_cases q:b=p
 ·subst q;rw[OJ] at e;cases e
 ·rw[K8 q] at e;exact e
theorem O4(s:Same H H'):Same (hid H p) (hid H' p):=λb o e=>by
 by_cases q:b=p
 ·subst q;rw[OJ] at e;cases e
 ·rw[K8 q] at e ⊢;exact s b o e
theorem Ib:hid (upd H p o) p=hid H p:=by
 funext b
 by_cases q:b=p
 ·subst q;rw[OJ,OJ]
 ·rw[K8 q,K8 q,zP q]
theorem Vp(kp:∀b o,b≠p->H b=some o->Hi b=some o)(hp:Hi p≠none):Same (dif H' Hi) (dif (hid H' p) (hid H p)):=λb o e=>by
 have hb:Hi b=none:=by
  cases q:Hi b with
  |none=>rfl
  |some u=>unfold dif at e;rw[q] at e;cases e
 have nb:b≠p:=λq=>hp (by rw[<-q];exact hb)
 rw[xT hb] at e
 have h0:hid H p b=none:=by
  rw[K8 nb]
  cases q:H b with
  |none=>rfl
  |some u=>rw[kp b u nb q] at hb;cases hb
 rw[xT h0,K8 nb]
 exact e
theorem zVf(hs:ak (K:=K) ⟨hid Hi p,Hi⟩ (hid Hi p) (lo (hid Hi p) [] Hi) Hi sl σ []):At (K:=K) ⟨hid Hi p,Hi⟩ sl (hid Hi p) [] Hi σ :=
 ⟨⟨RG,.refl _,λb o h=>.inl h,λx hx=>(by cases hx),by simp⟩,hs⟩
end
end Ts
namespace qy
open PySem
def Rz(xs:Array Nat):Prop:=∀i k a b:Nat,i<k->xs[i]?=some a->xs[k]?=some b->a<b
theorem Yv(hr:Rz xs):∀(fuel lo hi:Nat),hi-lo<=fuel->lo<=hi->hi<=xs.size->(∀i a,i<lo->xs[i]?=some a->a<j)->(∀i a,hi<=i->xs[i]?=some a->j<=a) ->
  (below.go xs j fuel lo hi)<=xs.size/\(∀i a,i<below.go xs j fuel lo hi->xs[i]?=some a->a<j)/\(∀i a,below.go xs j fuel lo hi<=i->xs[i]?=some a->j<=a)
 |0,lo,hi,hf,hl,hz,h1,h2=>by
  have e:lo=hi:=by omega
  subst e
  unfold below.go
  exact⟨hz,h1,h2⟩
 |fuel+1,lo,hi,hf,hl,hz,h1,h2=>by
  unfold below.go
  by_cases hlt:lo<hi
  ·rw[if_pos hlt]
   have hm:(lo+hi)/2<hi:=by omega
   have hm0:lo<=(lo+hi)/2:=by omega
   have hms:(lo+hi)/2<xs.size:=by omega
   have e:xs.getD ((lo+hi)/2) j=xs[(lo+hi)/2]:=by simp[Array.getD,hms]
   dsimp only
   rw[e]
   by_cases hc:xs[(lo+hi)/2]<j
   ·rw[if_pos hc]
    refine Yv hr fuel _ hi (by omega) (by omega) hz (λi a hi' ha=>?_) h2
    by_cases hi2:i=(lo+hi)/2
    ·subst hi2
     rw[aat hms] at ha
     cases ha
     exact hc
    ·exact adz (hr i ((lo+hi)/2) a _ (by omega) ha (aat hms)) hc
   ·rw[if_neg hc]
    refine Yv hr fuel lo _ (by omega) (by omega) (by omega) h1 (λi a hi' ha=>?_)
    by_cases hi2:i=(lo+hi)/2
    ·subst hi2
     rw[aat hms] at ha
     cases ha
     omega
    ·have:=hr ((lo+hi)/2) i _ a (by omega) (aat hms) ha
     omega
  ·rw[if_neg hlt]
   have e:lo=hi:=by omega
   subst e
   exact⟨hz,h1,h2⟩
theorem Yw(hr:Rz xs)(j:Nat):below xs j<=xs.size/\(∀i a,i<below xs j->xs[i]?=some a->a<j)/\(∀i a,below xs j<=i->xs[i]?=some a->j<=a) :=
 Yv hr xs.size 0 xs.size (by omega) (aa5 _) (aaq _) (λi a h=>absurd h (aci _)) (λi a h1 h2=>by
  rw[abk h1] at h2
  cases h2)
theorem K9{α:Type}(xs:Array α)(p:Nat)(x:α)(hp:p<=xs.size)(i:Nat):(insertAt xs p x)[i]?=if i<p then xs[i]? else if i=p then some x else xs[i-1]?:=by
 have e:insertAt xs p x=(xs.toList.take p++x::xs.toList.drop p).toArray:=by
  unfold insertAt
  apply Array.ext'
  simp
  rw[List.take_of_length_le (by rw[length_drop,length_toList];exact aaq _)]
 rw[e,getElem?_toArray]
 have hl:p<=xs.toList.length:=by simpa using hp
 by_cases h1:i<p
 ·rw[if_pos h1,getElem?_append_left (by rw[length_take];omega),getElem?_take_of_lt h1,getElem?_toList]
 ·rw[if_neg h1,getElem?_append_right (by rw[length_take];omega),length_take,Nat.min_eq_left hl]
  by_cases h2:i=p
  ·subst h2;simp
  ·rw[if_neg h2]
   obtain⟨k,rfl⟩:∃k,i=p+1+k:=⟨i-(p+1),by omega⟩
   rw[show p+1+k-p=k+1 by omega,List.getElem?_cons_succ,List.getElem?_drop,getElem?_toList]
   congr 1
   omega
theorem K_(hr:Rz xs)(hn:xs[below xs j]?≠some j):Rz (insertAt xs (below xs j) j):=by
 obtain⟨b1,b2,b3⟩:=Yw hr j
 intro i k a b hik ha hb
 rw[K9 _ _ _ b1] at ha hb
 generalize below xs j=p at *
 have up:∀m c,p<=m->xs[m]?=some c->j<c:=λm c hm hc=>by
  have h1:=b3 m c hm hc
  by_cases e:m=p
  ·subst e
   have:c≠j:=λz=>hn (by rw[hc,z])
   omega
  ·have hp:p<xs.size:=by
    have:m<xs.size:=by
     by_cases z:m<xs.size
     ·exact z
     ·rw[abk (by omega)] at hc;cases hc
    omega
   have h2:=hr p m _ c (by omega) (aat hp) hc
   have h3:=b3 p _ (aaq _) (aat hp)
   omega
 by_cases i1:i<p
 ·rw[if_pos i1] at ha
  have ja:=b2 i a i1 ha
  by_cases k1:k<p
  ·rw[if_pos k1] at hb;exact hr i k a b hik ha hb
  ·rw[if_neg k1] at hb
   by_cases k2:k=p
   ·rw[if_pos k2] at hb;cases hb;exact ja
   ·rw[if_neg k2] at hb
    exact adz ja (up (k-1) b (by omega) hb)
 ·rw[if_neg i1] at ha
  have k1:¬k<p:=by omega
  have k2:¬k=p:=by omega
  rw[if_neg k1,if_neg k2] at hb
  by_cases i2:i=p
  ·rw[if_pos i2] at ha;cases ha;exact up (k-1) b (by omega) hb
  ·rw[if_neg i2] at ha
   exact hr (i-1) (k-1) a b (by omega) ha hb
def Free(t:SetTable)(j:Nat):Prop:=t.place[below t.place j]?≠some j
theorem zH2{t:SetTable}(h:∀i,t.slot j≠.live i):Free t j:=λe=>by
 refine h (below t.place j) ?_
 unfold SetTable.slot
 simp[e]
theorem Yx:∀(fuel:Nat)(p:SetTable.Probe)(j:Nat)(d:Option Nat),(∀d,p.dummy=some d->Free t d)->probe.go t f h fuel p=some (.empty j d)->Free t j/\∀e,d=some e->Free t e
 |0,p,j,d,hd,e=>by unfold probe.go at e;cases e
 |fuel+1,p,j,d,hd,e=>by
  have adv:∀q:SetTable.Probe,(t.advance q).dummy=q.dummy:=λq=>by
   unfold SetTable.advance
   split
   ·rfl
   ·rfl
  unfold probe.go at e
  cases hs:t.slot p.j with
  |empty =>
   rw[hs] at e
   cases e
   exact⟨zH2 (λi z=>by rw[hs] at z;cases z),hd⟩
  |dummy =>
   rw[hs] at e
   refine Yx fuel _ j d (λd' h'=>?_) e
   rw[adv] at h'
   cases h'
   exact zH2 λi z=>by rw[hs] at z;cases z
  |live i =>
   rw[hs] at e
   dsimp only at e
   split at e
   ·cases e
   ·exact Yx fuel _ j d (λd' h'=>hd d' (by rw[adv] at h';exact h')) e
theorem zHi{t:SetTable}(e:t.freeSlot h=some (j,b)):Free t j:=by
 unfold SetTable.freeSlot at e
 split at e
 ·rename_i j' d hp
  cases e
  have q:=Yx (t:=t) _ _ j' d (λd h'=>by cases h') hp
  cases d with
  |none=>exact q.1
  |some d=>exact q.2 d rfl
 ·cases e
structure Tb(led:Bool)(t:SetTable):Prop where
 led:t.led=led
 rz:t.plain=true->Rz t.place
theorem Vq(h:Tb led t)(n:Nat):Tb led (t.standIn n):=⟨h.led,λz=>by cases z⟩
theorem RJ(h:Tb led t)(n:Nat):Tb led (t.orStandIn n):=by
 unfold SetTable.orStandIn
 split
 ·exact h
 ·exact Vq h n
theorem La(hb:Tb led t)(es:Array (Int×Value))(h:Int)(x:Value):Tb led (layNew t es h x).2.1:=by
 unfold layNew
 cases e:t.freeSlot h with
 |none=>exact Vq hb _
 |some q =>
  obtain⟨j,b⟩:=q
  dsimp only
  refine RJ (t:=(t.put j).1) ⟨hb.led,λz=>?_⟩ _
  exact K_ (hb.rz z) (zHi e)
theorem zH9(f:Nat->Option Nat)(n:Nat):Rz (((aa1 n).filterMap λj=>(f j).map (j,·)).map (·.1)).toArray:=by
 have hp:(((aa1 n).filterMap λj=>(f j).map (j,·)).map (·.1)).Pairwise (· < ·):=by
  rw[List.pairwise_map]
  refine Pairwise.filterMap _ ?_ (List.pairwise_lt_range (n:=n))
  intro a b hab x hx y hy
  cases ea:f a with
  |none=>rw[ea] at hx;cases hx
  |some u =>
   cases eb:f b with
   |none=>rw[eb] at hy;cases hy
   |some v =>
    rw[ea] at hx
    rw[eb] at hy
    cases hx
    cases hy
    exact hab
 intro i k a b hik ha hb
 rw[getElem?_toArray] at ha hb
 obtain⟨h1,e1⟩:=aay.mp ha
 obtain⟨h2,e2⟩:=aay.mp hb
 rw[<-e1,<-e2]
 exact List.pairwise_iff_getElem.mp hp i k h1 h2 hik
theorem zR4(hb:Tb led t)(es:Array (Int×Value))(n:Nat):Tb led (relayAll t es n).2.1:=by
 unfold relayAll
 cases e:t.relaid (es.map (·.1)) n with
 |none=>exact Vq hb _
 |some q =>
  obtain⟨t',order⟩:=q
  dsimp only
  split
  ·unfold SetTable.relaid SetTable.laid at e
   cases e2:SetTable.layClean (SetTable.sizeAbove n-1) (es.map (·.1)) with
   |none=>rw[e2] at e;cases e
   |some owner =>
    rw[e2] at e
    cases e
    exact⟨hb.led,λ_=>zH9 _ _⟩
  ·exact Vq hb _
theorem zR5(led:Bool):Tb led (.fresh 0 0 led):=⟨rfl,λ_=>λi k a b _ h _=>by
 have:(#[]:Array Nat)[i]?=some a:=h
 simp at this⟩
section
variable{prog:Program}{w:World}{κ:Type}[DecidableEq κ](knd:KeyKind prog w κ)(dec:Value->κ)
def Good(led:Bool)(h:Heap)(a:Addr)(ks:List κ):Prop :=
 ∃o es ep t,h.get? a=some o/\o.ExactSet/\o.data=.set es ep t/\ElemsOf knd es.toList/\(es.toList.map λe=>dec e.2).Perm ks/\ks.Nodup/\es.size<scanBound/\t.fits es.size=true/\Tb led t
variable{knd}{dec}{led:Bool}{A:Around}{E:Value->Shared->Prop}{s:Shared}
theorem Good.len(g:Good knd dec led h a ks):ks.length<scanBound:=by
 obtain⟨o,es,ep,t,_,_,_,_,p,_,hb,_⟩:=g
 rw[<-p.length_eq,length_map,length_toList]
 exact hb
theorem Good.keep{h':Heap}(g:Good knd dec led h a ks)(k:∀o,h.get? a=some o->h'.get? a=some o):Good knd dec led h' a ks:=by
 obtain⟨o,es,ep,t,h1,rest⟩:=g
 exact⟨o,es,ep,t,k _ h1,rest⟩
theorem zIu(hdec:∀k v,knd.is k v=true->dec v=k)(hel:ElemsOf knd es)(k:κ):es.findIdx? (λe=>knd.is k e.2)=none↔k∉es.map λe=>dec e.2:=by
 rw[List.findIdx?_eq_none_iff]
 constructor
 ·intro h hm
  obtain⟨e,he,rfl⟩:=mem_map.mp hm
  obtain⟨⟨k',hk,_⟩,_⟩:=hel e he
  have:=h e he
  rw[hdec k' _ hk,hk] at this
  cases this
 ·intro h e he
  cases q:knd.is k e.2 with
  |false=>rfl
  |true=>exact absurd (mem_map.mpr ⟨e,he,hdec _ _ q⟩) h
theorem Ie{h:Heap}(ho:h.get? a=some o)(hd:o.data=.set es ep t):(h.update a (ae5 es' t')).get? a=some { o with data:=.set es' (ep+1) t' }:=by
 have q:=get?_update_self (ae5 es' t') ho (by rw[putSet_of es' t' hd];rfl)
 rw[putSet_of es' t' hd] at q
 exact q
theorem Yy{Q:Unit->Shared->Prop}(h:Q () s1):wpAny (model prog w) A (match b with|true=>rule "set.scan.the-table-gave-way" | false=>pure ()) Q E s1:=by
 cases b
 ·exact aan h
 ·exact ad6 h
theorem zL4{g:Bool->Sem Unit}(hg:∀(b:Bool) (s₁:Shared) (Q':Unit->Shared->Prop),Q' () s₁->wpAny (model prog w) A (g b) Q' E s₁){es1:Array (Int×Value)}{t2:SetTable}{R:Option Bool->Shared->Prop}(ho:s.heap.get? a=some o)(hx:o.ExactSet)(hd:o.data=.set es ep t)(hel:ElemsOf knd es1.toList)(hp:(es1.toList.map λe=>dec e.2).Perm ks)(nd:ks.Nodup)(hb:es1.size<scanBound)(hf:t2.fits es1.size=true)(tb:Tb led t2)(h:∀h',SameBut a s.heap h'->Good knd dec led h' a ks->R (some true) { s with heap:=h' }) :
  wpAny (model prog w) A (storeSet a es1 t2 >>= λ_=>if(!RK&&t2.tooFull)=true then(g (relayAll t2 es1 (grown es1.size)).2.2 >>= λ_=>storeSet a (relayAll t2 es1 (grown es1.size)).1 (relayAll t2 es1 (grown es1.size)).2.1 >>= λ_=>pure (some true)) else pure (some true)) R E s:=by
 refine aam (ace ho hd ?_ (acd hb))
 have o1:=Ie (es':=es1) (t':=t2) ho hd
 have sb:=SameBut.update s.heap a (ae5 es1 t2)
 split
 ·have rp:=relayAll_perm t2 es1 (grown es1.size)
  have rf:=relayAll_fits t2 es1 (grown es1.size)
  have rt:=zR4 tb es1 (grown es1.size)
  generalize relayAll t2 es1 (grown es1.size)=L at rp rf rt ⊢
  obtain⟨es2,t3,gv⟩:=L
  dsimp only at rp rf rt ⊢
  have sz:es2.size=es1.size:=by rw[<-length_toList,rp.length_eq,length_toList]
  refine aam (hg _ _ _ (aam (ace o1 rfl (aan (h _ (sb.trans (SameBut.update _ a _)) ⟨_,es2,_,t3,Ie (es':=es2) (t':=t3) o1 rfl,hx,rfl,hel.perm rp,(rp.map _).trans hp,nd,by rw[sz];exact hb,rf,rt⟩)) (acd (by rw[sz];exact hb)))))
 ·exact aan (h _ sb ⟨_,es1,_,t2,o1,hx,rfl,hel,hp,nd,hb,hf,tb⟩)
theorem Lb(h:Tb led t):Tb led { t with plain:=false }:=⟨h.led,λz=>by cases z⟩
theorem Vr(hdec:∀k v,knd.is k v=true->dec v=k){Q:Bool->Shared->Prop}(hk:knd.is k x=true)(hs:x.scannable=true)(g:Good knd dec led s.heap a ks)(room:ks.length+1<scanBound)(h:∀(h':Heap) (b:Bool),SameBut a s.heap h'->Good knd dec led h' a (if k∈ks then ks else k::ks)->Q b { s with heap:=h' }) :
  wpAny (model prog w) A (setAddHashed a x (knd.hash k)) Q E s:=by
 obtain⟨o,es,ep,t,ho,hx,hd,hel,hp,nd,hb,hf,tb⟩:=g
 have n:es.size=ks.length:=by rw[<-hp.length_eq,length_map,length_toList]
 unfold setAddHashed setAddHashedIn
 refine abf (aam (aaz ho hd hf ?_))
 dsimp only
 rw[byScan_of hs hb hel]
 simp only[↓reduceIte]
 unfold setAddByScan
 refine aam (aam (ad6 (aam (wpAny_setScan_of hk ho hd hf hel ?_))))
 have fi:=zIu hdec hel k
 cases hr:List.findIdx? (λe=>knd.is k e.2) es.toList with
 |some j =>
  have hm:k∈ks:=by
   refine hp.mem_iff.mp (Classical.byContradiction λz=>?_)
   rw[fi.mpr z] at hr
   cases hr
  dsimp only
  refine aan (aan ?_)
  have q:=h s.heap false (SameBut.refl a s.heap)
  rw[if_pos hm] at q
  exact q ⟨o,es,ep,t,ho,hx,hd,hel,hp,nd,hb,hf,tb⟩
 |none =>
  have hm:k∉ks:=λz=>fi.mp hr (hp.mem_iff.mpr z)
  dsimp only
  have lp:=layNew_perm t es (knd.hash k) x
  have lf:=layNew_fits t es (knd.hash k) x
  have lt:=La tb es (knd.hash k) x
  generalize layNew t es (knd.hash k) x=L at lp lf lt ⊢
  obtain⟨es1,t1,RK,gave⟩:=L
  dsimp only at lp lf lt ⊢
  rw[Array.toList_push] at lp
  have sz:es1.size=es.size+1:=by rw[<-length_toList,lp.length_eq,length_append,length_toList];rfl
  have hp1:(es1.toList.map λe=>dec e.2).Perm (k::ks):=by
   refine(lp.map _).trans ?_
   rw[map_append]
   show(_++[dec x]).Perm _
   rw[hdec k x hk]
   exact Perm.trans (l₂:=k::es.toList.map λ(e:Int×Value)=>dec e.2) List.perm_append_comm (hp.cons k)
  have fin:∀h',SameBut a s.heap h'->Good knd dec led h' a (k::ks)->Q true { s with heap:=h' }:=λh' sb g'=>by
   have q:=h h' true sb
   rw[if_neg hm] at q
   exact q g'
  have nd1:(k::ks).Nodup:=nodup_cons.mpr ⟨hm,nd⟩
  refine aam (Yy ?_)
  split
  ·refine aam ?_
   rw[hashByValue_scannable 8 hs]
   refine aan ?_
   refine zL4 (led:=led) (RK:=RK) (λb s₁ Q' hq=>Yy hq) ho hx hd ((hel.push hk hs).perm lp) hp1 nd1 (by rw[sz,n];exact room) ?_ ?_ λh' sb g'=>?_
   ·split
    ·exact lf
    ·exact SetTable.fits_plain_off lf
   ·split
    ·exact lt
    ·exact Lb lt
   ·exact aan (fin h' sb g')
  ·refine aam (aan ?_)
   simp only[↓reduceIte]
   refine zL4 (led:=led) (RK:=RK) (λb s₁ Q' hq=>Yy hq) ho hx hd ((hel.push hk hs).perm lp) hp1 nd1 (by rw[sz,n];exact room) lf lt λh' sb g'=>?_
   exact aan (fin h' sb g')
end
open PySem PySem.Spec PyProof.Rows
section
variable{κ:Type}[DecidableEq κ]
def met(val:Nat->κ):Nat->List κ
 |0=>[]
 |i+1=>if val i∈met val i then met val i else val i::met val i
theorem zP2(val:Nat->κ):∀i,(met val i).length<=i
 |0=>aaq _
 |i+1=>by
  have ih:=zP2 val i
  unfold met
  split
  ·omega
  ·rw[length_cons];omega
theorem zP3(val:Nat->κ)(k:κ):∀i,k∈met val i↔∃j,j<i/\val j=k
 |0=>by simp[met]
 |i+1=>by
  have ih:=zP3 val k i
  have lt:(∃j,j<i+1/\val j=k)↔(∃j,j<i/\val j=k)\/val i=k:=by
   constructor
   ·rintro⟨j,hj,e⟩
    by_cases q:j=i
    ·subst q;exact .inr e
    ·exact .inl ⟨j,by omega,e⟩
   ·rintro(⟨j,hj,e⟩|e)
    ·exact⟨j,by omega,e⟩
    ·exact⟨i,by omega,e⟩
  rw[lt,<-ih]
  show k∈(if val i∈met val i then met val i else val i::met val i)↔_
  split
  ·rename_i hm
   exact⟨.inl,λh=>h.elim id λe=>e▸hm⟩
  ·rw[mem_cons]
   exact⟨λh=>h.elim (λe=>.inr e.symm) .inl,λh=>h.elim .inr λe=>.inl e.symm⟩
variable{prog:Program}{w:World}{knd:KeyKind prog w κ}{dec:Value->κ}{led:Bool}{A:Around}{R:Result->Shared->Prop}{I:Addr}{fp wr:List Addr}{G:Array GenState->Array GenState->Prop}{n:Nat}{P:Nat->Value->Prop}{St:Nat->Shared->Prop}
theorem Ed(hdec:∀k v,knd.is k v=true->dec v=k)(W:WalksS prog w A.in1 I fp wr G n P St)(S:Addr)(off:S∉fp)(val:Nat->κ)(hval:∀i v,P i v->knd.is (val i) v=true/\v.scannable=true)(hb:n+1<scanBound) :
  ∀(k i:Nat)(s:Shared),n-i=k->i<=n->St i s->Good knd dec led s.heap S (met val i)->(∀s',Moved (S::wr) G s s'->Good knd dec led s'.heap S (met val n)->R (.ok (.ret .none)) s')->codeAny (model prog w) A (.builtin "set.update.loop" ⟨[.ref S,.ref I],[]⟩) R s:=by
 have RM:S∉wr:=λh=>off (W.sub _ h)
 have sub:∀b∈wr,b∈S::wr:=λb hb=>mem_cons_of_mem _ hb
 intro k
 induction k with
 |zero =>
  intro i s hk hi st g fin
  have e:i=n:=by omega
  subst e
  refine ac3 F.entry_set_update_loop ?_
  rw[acn adw _]
  refine aam (m:=pyNext (.ref I)) (W.done s _ _ st λs' hm=>?_)
  exact aan (fin s' (hm.mono sub) (g.keep λo h=>hm.heap S o RM h))
 |succ k ih =>
  intro i s hk hi st g fin
  have lt:i<n:=by omega
  refine ac3 F.entry_set_update_loop ?_
  rw[acn adw _]
  refine aam (m:=pyNext (.ref I)) (W.item i s _ _ lt st λv s' hP st' hm=>?_)
  obtain⟨his,hsc⟩:=hval i v hP
  refine aam (m:=holding [v] (setAdd S v)) (abf ?_)
  unfold setAdd
  refine abf (aam (knd.pyHash (k:=val i) his ?_))
  refine Vr (led:=led) (s:={ s' with toks:=s'.toks+1 }) hdec his hsc (g.keep λo h=>hm.heap S o RM h) (by have:=zP2 val i;omega) λh' b sb g'=>?_
  refine aan ⟨ad9 adw _,ih (i+1) _ (by omega) lt (W.frame _ s' _ _ st' (ab6 _) λb hb o e=>?_) g' λs'' hm'' g''=>?_⟩
  ·rw[sb.2 b (λh:b=S=>off (by rw[<-h];exact hb))];exact e
  ·refine fin s'' (Moved.trans W.gtrans ((hm.mono sub).then_heap (ab6 _) λb o hb e=>?_) hm'') g''
   rw[sb.2 b (λh:b=S=>hb (h▸mem_cons_self))];exact e
end
section
variable{prog:Program}{w:World}{A:Around}{E:Value->Shared->Prop}{s:Shared}
def zT(w:World):Bool:=!w.params.followText "set-order"
theorem zS6(a:Value){Q₁:Value->Shared->Prop}(h:Q₁ (.ref s.heap.objs.size) { s with heap:=s.heap.push { cls:=.type "set",dict:=none,data:=.set #[] 0 (.fresh 0 0 (zT w)) } }) :
  codeAny (model prog w) A (.call (.builtin "set.__new__") ⟨[.type "set",a],[]⟩) (wants Q₁ E) s:=by
 refine codeAny_of_tree (aam (m:=checkBuiltinCall "set.__new__" ⟨[.type "set",a],[]⟩) (wpAny_of_eq (F.newCall_set_1 a) (aan ⟨ad9 F.plain_set_new _,ac3 F.entry_set_new ?_⟩)))
 rw[acn F.plain_set_new _]
 unfold Builtin.«set.__new__» Builtin.Frozenset.newClass
 have sub:=aer
 obtain⟨hp,g,d,tk,os⟩:=s
 dsimp only
 wp_walk
 refine adg (aan ?_)
 dsimp only
 simp only[newObj]
 exact aam (wpAny_alloc (aan (aan h)))
theorem RN{κ:Type}[DecidableEq κ]{knd:KeyKind prog w κ}{dec:Value->κ}{h:Heap}(e:h.get? a=some { cls:=.type "set",dict:=none,data:=.set #[] 0 (.fresh 0 0 led) }):Good knd dec led h a [] :=
 ⟨_,#[],0,.fresh 0 0 led,e,⟨rfl,rfl,rfl⟩,rfl,λx hx=>by simp at hx,by simp,List.nodup_nil,by show 0<4096;decide,by cases led<;>rfl,zR5 led⟩
set_option maxHeartbeats 4000000 in
theorem zT4{κ:Type}[DecidableEq κ]{knd:KeyKind prog w κ}{dec:Value->κ}(hdec:∀k v,knd.is k v=true->dec v=k){Q:Value->Shared->Prop}(val:Nat->κ)(hh:A.handled=none)(hl:s.heap.IsList l items)(hi:∀(i:Nat) (v:Value),items[i]?=some v->knd.is (val i) v=true/\v.scannable=true)(hb:items.size+1<scanBound)(h:∀(h':Heap) (tk:Nat),Good knd dec (zT w) h' s.heap.objs.size (met val items.size)->(∀b o,b<s.heap.objs.size->s.heap.get? b=some o->h'.get? b=some o)->Q (.ref s.heap.objs.size) { s with heap:=h',toks:=tk }) :
  wpAny (model prog w) A (call (.type "set") [.ref l]) Q E s:=by
 obtain⟨c,tl,hmro⟩:=F.called_set.mro
 have hmade:=F.called_set.made
 have hsub:=F.called_set.sub
 refine wpAny_call (codeAny_of_tree (aan ⟨Code.quiet_builtin _ (by decide +kernel),ac3 F.entry_type_call ?_⟩))
 rw[Around.under_plain (weight_type_call_type "set" [.ref l] []) rfl]
 have h1:=F.called_set.notType
 have h2:=F.called_set.canCreate
 have hct:=F.typeCall_set_1 (.ref l)
 repeat(any_goals (first|assumption|wp_step))
 refine adf (zS6 (.ref l) (E:=E) (Q₁:=λobj s₁=>obj=.ref s.heap.objs.size/\s₁={ s with heap:=s.heap.push { cls:=.type "set",dict:=none,data:=.set #[] 0 (.fresh 0 0 (zT w)) } }) ⟨rfl,rfl⟩) λr s₁ hr=>?_
 cases r with
 |error e=>exact hr
 |ok fl =>
  cases fl with
  |ret obj =>
   obtain⟨rfl,rfl⟩:=hr
   have hS:(s.heap.push { cls:=.type "set",dict:=none,data:=.set #[] 0 (.fresh 0 0 (zT w)) }).get? s.heap.objs.size=some { cls:=.type "set",dict:=none,data:=.set #[] 0 (.fresh 0 0 (zT w)) }:=get?_push_size _ rfl
   have hT:Shared.TypeIs { s with heap:=s.heap.push { cls:=.type "set",dict:=none,data:=.set #[] 0 (.fresh 0 0 (zT w)) } } (.ref s.heap.objs.size) "set":=⟨_,hS,rfl⟩
   have hli:=F.called_set.init.lookup
   have hbi:=F.called_set.init.bind (.ref s.heap.objs.size)
   repeat(any_goals (first|assumption|wp_step))
   refine adf (codeAny_call_builtin (R:=wants (λr s₂=>r=.none/\∃h' tk,s₂={ s with heap:=h',toks:=tk }/\Good knd dec (zT w) h' s.heap.objs.size (met val items.size)/\(∀b o,b<s.heap.objs.size->s.heap.get? b=some o->h'.get? b=some o)) E)
    F.called_set.init.plain F.entry_set_init (check_set_init_1 hT ?_)) λr₂ s₂ hr₂=>?_
   ·obtain⟨ol,hol,hcl,nl,hdl⟩:=hl
    obtain⟨ocls,odict,odata,oslots⟩:=ol
    simp only at hcl hdl
    subst hcl
    subst hdl
    have hol':(s.heap.push { cls:=.type "set",dict:=none,data:=.set #[] 0 (.fresh 0 0 (zT w)) }).get? l=some { cls:=.type "list",dict:=odict,data:=.seq items nl,slots:=oslots }:=get?_push_of_some _ hol
    have hsls:=F.sub_list_set
    have hslf:=F.sub_list_frozenset
    have hne:(adq "list" == adq "dict")=false:=by decide
    have hl1:(s.heap.push { cls:=.type "set",dict:=none,data:=.set #[] 0 (.fresh 0 0 (zT w)) }).IsList l items:=⟨_,hol',rfl,nl,rfl⟩
    unfold Builtin.«set.__init__» noKeywords ac2
    generalize hPI:pyIter=PI
    wp_walk
    subst hPI
    refine ad2 hl1 (aam (wpAny_runValue ?_))
    have hlS:l<s.heap.objs.size:=lt_size hol
    have sz:(s.heap.push { cls:=.type "set",dict:=none,data:=.set #[] 0 (.fresh 0 0 (zT w)) }).objs.size=s.heap.objs.size+1:=size_push ..
    have hneI:l≠(s.heap.push { cls:=.type "set",dict:=none,data:=.set #[] 0 (.fresh 0 0 (zT w)) }).objs.size:=by rw[sz];exact aau (ady hlS)
    refine Ed (led:=zT w) hdec ((Walks.list (by simp[hh]) _ l hneI items).toS) s.heap.objs.size (by
     rw[sz]
     intro z
     rcases mem_cons.mp z with z|z
     ·exact absurd z (aau (ab8 _))
     ·exact absurd (mem_singleton.mp z) (adb hlS)) val hi hb (items.size-0) 0 _ (by omega) (aa5 _) ⟨⟨_,get?_push_size _ rfl,rfl,rfl⟩,hl1.push _⟩ (RN (get?_push_of_some _ hS)) λs' hm g'=>?_
    obtain⟨h',g1,d1,tk',os1⟩:=s'
    have eg:g1=s.gens:=hm.gens
    have ed:d1=s.drawn:=hm.drawn
    have eo:os1=s.os:=hm.os
    subst eg ed eo
    refine aan ?_
    refine aan ⟨rfl,h',tk',rfl,g',λb o hb e=>hm.heap b o (λz=>?_) (get?_push_of_some _ (get?_push_of_some _ e))⟩
    rcases mem_cons.mp z with z|z
    ·exact absurd z (aau hb)
    ·have z:=mem_singleton.mp z
     rw[sz] at z
     exact absurd z (aau (ady hb))
   ·cases r₂ with
    |error e=>exact hr₂
    |ok fl₂ =>
     cases fl₂ with
     |ret r =>
      obtain⟨rfl,h',tk,rfl,hS',hk'⟩:=hr₂
      repeat(any_goals (first|assumption|wp_step))
      exact h _ _ hS' hk'
     |_=>exact hr₂.elim
  |_=>exact hr.elim
end
set_option maxRecDepth 100000
theorem zK0:Manifest.owners.lookup (String.ofList ['r','o','t','a','r','e','t','i','_','t','e','s'].reverse)=some Manifest.sig_set_iterator:=by kernel_rfl
theorem jN:Slot "set_iterator" "__next__" "set_iterator.__next__":=.of (owner:="set_iterator") (n:="__next__") (by rw[aes,ad3];kernel_rfl) (by decide +kernel) (by decide +kernel) (by decide +kernel) (by first|exact .inl (by decide +kernel)|exact .inr (by decide +kernel)) (by rw[isSubtype_type];kernel_rfl)
theorem zGt:entryFor table "set_iterator.__next__" = some Builtin.«set_iterator.__next__»:=entryFor_of_tree (by kernel_rfl)
theorem zH4(a:Value):argsOk "set_iterator.__next__" ⟨[a],[]⟩:=by unfold argsOk;rw[signature?_of (id:="set_iterator.__next__") (n:=['_','_','t','x','e','n','_','_']) (o:=['r','o','t','a','r','e','t','i','_','t','e','s']) (by kernel_rfl) zK0];kernel_rfl
theorem zOx:Slot "set_iterator" "__iter__" "set_iterator.__iter__":=.of (owner:="set_iterator") (n:="__iter__") (by rw[aes,ad3];kernel_rfl) (by decide +kernel) (by decide +kernel) (by decide +kernel) (by first|exact .inl (by decide +kernel)|exact .inr (by decide +kernel)) (by rw[isSubtype_type];kernel_rfl)
theorem zGu:entryFor table "set_iterator.__iter__" = some Builtin.«dict_keyiterator.__iter__»:=ad0 (id':="dict_keyiterator.__iter__") (by kernel_rfl) rfl (by decide +kernel) (by kernel_rfl)
theorem zH5(a:Value):argsOk "set_iterator.__iter__" ⟨[a],[]⟩:=by unfold argsOk;rw[signature?_of (id:="set_iterator.__iter__") (n:=['_','_','r','e','t','i','_','_']) (o:=['r','o','t','a','r','e','t','i','_','t','e','s']) (by kernel_rfl) zK0];kernel_rfl
theorem zFv:entryFor table "set.__iter__" = some Builtin.«frozenset.__iter__»:=ad0 (id':="frozenset.__iter__") (by kernel_rfl) rfl (by decide +kernel) (by kernel_rfl)
theorem sS:typeLookup (.type "set") "__len__" = pure (some (.builtin "set.__len__")):=by rw[aes,ad3];kernel_rfl
set_option maxRecDepth 100000
section
variable{prog:Program}{w:World}{A:Around}{E:Value->Shared->Prop}{s:Shared}
theorem Vs{α:Type}:∀{l:List α}{i:Nat}(h:i<l.length),(l[i]::l.eraseIdx i).Perm l
 |x::l,0,h=>.refl _
 |x::l,i+1,h=>by
  have hi:i<l.length:=by simpa using h
  have ih:=Vs (l:=l) (i:=i) hi
  show(l[i]::x::l.eraseIdx i).Perm (x::l)
  exact(Perm.swap _ _ _).trans (ih.cons x)
theorem zN2{Q:Nat->Shared->Prop}(hn:0<n)(h:∀i d,i<n->Q i { s with drawn:=d }):wpAny (model prog w) A (choose src n) Q E s :=
 λ_ _ _=>⟨adb hn,h _ _ (ae4 _ hn)⟩
theorem zQ0{α:Type}:∀(n:Nat)(xs:List α)(s:Shared)(Q:List α->Shared->Prop),xs.length=n->(∀ys d,ys.Perm xs->Q ys { s with drawn:=d })->wpAny (model prog w) A (drawOrder n xs) Q E s
 |0,xs,s,Q,hl,h=>by
  have e:xs=[]:=length_eq_zero_iff.mp hl
  subst e
  unfold drawOrder
  exact aan (h [] s.drawn (.refl _))
 |n+1,[],s,Q,hl,h=>by simp at hl
 |n+1,x::xs,s,Q,hl,h=>by
  unfold drawOrder
  refine aam (zN2 (by rw[hl];omega) λi d hi=>?_)
  have e:(x::xs)[i]?=some (x::xs)[i]:=aap hi
  rw[e]
  refine aam (zQ0 n _ _ _ (by rw[length_eraseIdx,if_pos hi,hl];rfl) λys d' p=>?_)
  exact aan (h _ d' ((p.cons _).trans (Vs hi)))
theorem zPe{α:Type}(next:Nat->Nat):∀(fuel k:Nat)(left:List α)(out:Array α),left.length=fuel->(afc next fuel k left out).toList.Perm (out.toList++left)
 |0,k,left,out,hl=>by
  have e:left=[]:=length_eq_zero_iff.mp hl
  subst e
  unfold afc
  rw[append_nil]
 |fuel+1,k,left,out,hl=>by
  have hi:next k%left.length<left.length:=ae4 _ (by omega)
  unfold afc
  rw[aap hi]
  dsimp only
  refine(zPe next fuel (k+1) _ _ (by rw[length_eraseIdx,if_pos hi,hl];rfl)).trans ?_
  rw[Array.toList_push,append_assoc]
  exact Perm.append_left _ (Vs hi)
theorem O6{α:Type}(next:Nat->Nat)(xs:Array α):(pickOrder next xs).toList.Perm xs.toList:=by
 have q:=zPe next xs.size 0 xs.toList #[] (by simp)
 have e:(#[]:Array α).toList++xs.toList=xs.toList:=rfl
 rw[e] at q
 exact q
variable{a it T:Addr}{o:Obj}{es:Array (Int×Value)}{ep:Nat}{t:SetTable}
theorem uV{Q:Bool->Shared->Prop}(h:Q (w.params.followText "set-order") s):wpAny (model prog w) A setsByText Q E s:=by
 unfold setsByText
 exact aam (adg (aan h))
theorem zTy{Q:Bool->Shared->Prop}(ho:s.heap.get? a=some o)(hd:o.data=.set es ep t)(hf:t.fits es.size=true)(h:Q (!w.params.followText "set-order" && (!t.plain&&decide (es.size > 1))) s):wpAny (model prog w) A (setDrawn a) Q E s:=by
 unfold setDrawn
 refine aam (aaz ho hd hf ?_)
 exact aam (uV (aan h))
theorem Vt{Q:Array (Int×Value)->Shared->Prop}(ho:s.heap.get? a=some o)(hd:o.data=.set es ep t)(hf:t.fits es.size=true)(h:Q es s):wpAny (model prog w) A (setEntries a) Q E s:=by
 unfold setEntries
 exact aam (aaz ho hd hf (aan h))
theorem zIn{Q:Option (Value×Nat)->Shared->Prop}(ho:s.heap.get? a=some o)(hd:o.data=.set es ep t)(hf:t.fits es.size=true)(hb:w.params.followText "set-order" = true)(h:Q (((pickOrder (w.params.setOrder a ep) es)[i]?).map λe=>(e.2,slot)) s):wpAny (model prog w) A (setNext a slot i ep) Q E s:=by
 unfold setNext
 refine aam (aaz ho hd hf ?_)
 refine aam (uV ?_)
 rw[hb]
 simp only[↓reduceIte,bne_self_eq_false,aax]
 refine aam ?_
 unfold setWalk
 refine aam (aaz ho hd hf ?_)
 refine aam (uV ?_)
 rw[hb]
 simp only[↓reduceIte]
 refine aam (adg (aan ?_))
 exact aan h
theorem zGd{Q:Option (Value×Nat)->Shared->Prop}(ho:s.heap.get? a=some o)(hd:o.data=.set es ep t)(hf:t.fits es.size=true)(hb:w.params.followText "set-order" = false)(hl:t.led=true)(hn:(!t.plain&&decide (es.size > 1))=false)(h:Q (match es[below t.place slot]?,t.place[below t.place slot]? with|some (_,x),some j=>some (x,j+1)|_,_=>none) s):wpAny (model prog w) A (setNext a slot i ep) Q E s:=by
 unfold setNext
 refine aam (aaz ho hd hf ?_)
 refine aam (uV ?_)
 rw[hb]
 simp only[↓reduceIte,aax]
 show wpAny _ _ (if(!t.plain&&decide (es.size > 1))=true then _ else _) _ _ _
 rw[if_neg (by rw[hn];exact aao)]
 refine aam ?_
 show wpAny _ _ (if(!t.led&&!es.isEmpty)=true then _ else pure ()) _ _ _
 rw[if_neg (by rw[hl];exact aao)]
 exact aan (aan h)
theorem zNb{Q:Value->Shared->Prop}(ho:s.heap.get? a=some o)(hd:o.data=.set es ep t)(hf:t.fits es.size=true)(hx:es[place]?=some x)(h:Q x.2 s):wpAny (model prog w) A (setNextDrawn a place ep) Q E s:=by
 unfold setNextDrawn
 refine aam (aaz ho hd hf ?_)
 simp only[bne_self_eq_false,aax,↓reduceIte,hx]
 exact aan h
def oF(first:Value)(i:Nat)(a:Addr)(n ep:Nat):Obj:={ cls:=.type "set_iterator",data:=.fields #[first,.int i 0,.ref a,.int n 0,.int ep 0] }
theorem zTf{Q:Value->Shared->Prop}(ho:s.heap.get? a=some o)(hx:o.ExactSet)(hd:o.data=.set es ep t)(hf:t.fits es.size=true)(h1:(!w.params.followText "set-order" && (!t.plain&&decide (es.size > 1)))=false->Q (.ref s.heap.objs.size) { s with heap:=s.heap.push (oF (.int 0 0) 0 a es.size ep) })(h2:(!w.params.followText "set-order" && (!t.plain&&decide (es.size > 1)))=true->es.size<=sizeLine/\∀(d:Drawn) (ps:List Nat),ps.Perm (aa1 es.size)->Q (.ref (s.heap.objs.size+1)) { s with drawn:=d,heap:=(s.heap.push { cls:=.type "tuple",data:=.seq (ps.map λ(i:Nat)=>ab3 i 0).toArray }).push (oF (.ref s.heap.objs.size) 0 a es.size ep) }) :
  wpAny (model prog w) A (pyIter (.ref a)) Q E s:=by
 have hT:s.TypeIs (.ref a) "set":=⟨o,ho,hx.1⟩
 refine wpAny_pyIter_slot hT F.slot_set_iter (ab9 F.slot_set_iter hT zFv ?_ (F.args_set_iter_1 _))
 unfold Builtin.«frozenset.__iter__»
 refine aam (aan ?_)
 refine aam ?_
 unfold adl
 refine aam (Vt ho hd hf (aan ?_))
 refine aam (zTy ho hd hf ?_)
 cases hc:(!w.params.followText "set-order" && (!t.plain&&decide (es.size > 1))) with
 |false =>
  simp only[aax,↓reduceIte]
  refine aam (aan ?_)
  refine aam (abt ho hd hf ?_)
  exact aam (abr (aan ⟨_,rfl,"set_iterator",_,⟨_,get?_push_size _ rfl,rfl⟩,jN.lookup,h1 hc⟩))
 |true =>
  obtain⟨hz,h2⟩:=h2 hc
  simp only[↓reduceIte]
  refine aam (zQ0 _ _ _ _ (by simp) λps d hp=>?_)
  refine aam (wpAny_newTuple ?_ (by rw[length_map,hp.length_eq,length_range];exact hz))
  have ho':=get?_push_of_some ({ cls:=.type "tuple",data:=.seq (ps.map λ(i:Nat)=>rawInt i).toArray }:Obj) ho
  refine aam (abt (s:={ s with drawn:=d,heap:=_ }) ho' hd hf ?_)
  refine aam (abr (aan ⟨_,rfl,"set_iterator",_,⟨_,get?_push_size _ rfl,rfl⟩,jN.lookup,?_⟩))
  have q:=h2 d ps hp
  have sz:(s.heap.push ({ cls:=.type "tuple",data:=.seq (ps.map λ(i:Nat)=>ab3 i 0).toArray }:Obj)).objs.size=s.heap.objs.size+1:=size_push ..
  rw[<-sz] at q
  exact q
end
set_option maxRecDepth 100000
section
variable{prog:Program}{w:World}{A:Around}{E:Value->Shared->Prop}{s:Shared}{a it T:Addr}{o:Obj}{es:Array (Int×Value)}{ep:Nat}{t:SetTable}{i:Nat}{first:Value}
theorem Vu{Q:Option Value->Shared->Prop}(hi:s.heap.get? it=some (oF first i a es.size ep))(ho:s.heap.get? a=some o)(hd:o.data=.set es ep t)(hf:t.fits es.size=true)(h:wpAny (model prog w) A.in1 (if let .int slot _:=first then do
    match <-setNext a slot.toNat (i:Int).toNat (ep:Int).toNat with
    |some (x,next) =>
     setField (.ref it) 0 (rawInt next)
     setField (.ref it) 1 (rawInt ((i:Int)+1))
     ret x
    |none=>setField (.ref it) 2 .none;raiseNew (<-newExc (.type "StopIteration") [])
   else do
    let some places <-seqItems? first|unsupported "internal:set_iterator"
    match places[(i:Int).toNat]? with
    |some (.int place _) =>
     let x <-setNextDrawn a place.toNat (ep:Int).toNat
     setField (.ref it) 1 (rawInt ((i:Int)+1))
     ret x
    |some _=>unsupported "internal:set_iterator"
    |none=>setField (.ref it) 0 (rawInt 0);setField (.ref it) 2 .none;raiseNew (<-newExc (.type "StopIteration") []))
   (λfin s'=>∃v,fin=.done (.ret v)/\Q (some v) s')
   (λe s'=>s'.TypeIs e "StopIteration" /\ Q none s') s):wpAny (model prog w) A (pyNext (.ref it)) Q E s:=by
 have hT:s.TypeIs (.ref it) "set_iterator":=⟨_,hi,rfl⟩
 unfold pyNext
 refine aam (wpAny_attempt (wpAny_callSpecial?_slot (name:=ade "__next__") hT jN (ab9 jN hT zGt ?_ (zH4 _))))
 unfold Builtin.«set_iterator.__next__»
 refine aam (aan ?_)
 refine aam (wpAny_fieldsOf hi rfl ?_)
 dsimp only
 refine aam (Vt ho hd hf ?_)
 rw[if_neg (by simp)]
 exact ab4 h (λfin s' ⟨v,e,q⟩=>⟨v,e,aan q⟩) λe s' ⟨ty,q⟩=>aam (ad5 (T:="StopIteration") (b:=true) ty isSubtype_stop (aan q))
theorem zOr{α:Type}{Q:α->Shared->Prop}{E':Value->Shared->Prop}(hh:A.handled=none)(h:∀(e:Value) (h':Heap),(∀b u,s.heap.get? b=some u->h'.get? b=some u)->({ s with heap:=h' }:Shared).TypeIs e "StopIteration"->E' e { s with heap:=h' }) :
  wpAny (model prog w) A (newExc (.type "StopIteration") [] >>= λe=>(raiseNew e:Sem α)) Q E' s:=by
 refine aam ?_
 simp only[newExc,newTuple]
 refine aam (abr (aam (m:=firstArgMember _ _) (wpAny_of_eq (a:=ac7) (by first|rfl|(simp only[firstArgMember];rfl)) (abr ?_ (by size_fits)))) (by size_fits))
 simp only[raiseNew]
 refine aam (wpAny_handled ?_)
 rw[hh]
 refine aam (aan (wpAny_throw ?_))
 refine h _ _ (λb u e=>get?_push_of_some _ (get?_push_of_some _ e)) ?_
 exact⟨_,get?_push_size _ rfl,rfl⟩
theorem Vv{f:Obj->Obj}(hi:s.heap.get? it=some u)(hn:(f u).isFreed=false):(s.heap.update it f).get? it=some (f u):=get?_update_self f hi hn
theorem O7(hb:b≠it)(e:s.heap.get? b=some u):(s.heap.update it f).get? b=some u:=(get?_update_other _ _ (acg hb)).trans e
theorem zGe{Q:Option Value->Shared->Prop}{slot next:Nat}{tk:Tok}{x:Value}(hi:s.heap.get? it=some (oF (.int slot tk) i a es.size ep))(ho:s.heap.get? a=some o)(hd:o.data=.set es ep t)(hf:t.fits es.size=true)(hs:∀(R:Option (Value×Nat)->Shared->Prop) (E':Value->Shared->Prop),R (some (x,next)) s->wpAny (model prog w) A.in1 (setNext a slot i ep) R E' s)(h:∀h',h'.get? it=some (oF (.int next 0) (i+1) a es.size ep)->(∀b u,b≠it->s.heap.get? b=some u->h'.get? b=some u)->Q (some x) { s with heap:=h' }):wpAny (model prog w) A (pyNext (.ref it)) Q E s:=by
 refine Vu hi ho hd hf ?_
 dsimp only
 refine aam (hs _ _ ?_)
 dsimp only
 refine aam (ac9 hi rfl (by simp) ?_)
 have h1:=Vv (f:=aek (·.setIfInBounds 0 (rawInt next))) hi rfl
 refine aam (ac9 (s:={ s with heap:=_ }) h1 rfl (by simp) ?_)
 have h2:=Vv (s:={ s with heap:=_ }) (f:=aek (·.setIfInBounds 1 (rawInt ((i:Int)+1)))) h1 rfl
 exact aan ⟨x,rfl,h _ h2 λb u hb e=>O7 (s:={ s with heap:=_ }) hb (O7 hb e)⟩
theorem zI0{Q:Option Value->Shared->Prop}{slot:Nat}{tk:Tok}(hh:A.handled=none)(hi:s.heap.get? it=some (oF (.int slot tk) i a es.size ep))(ho:s.heap.get? a=some o)(hd:o.data=.set es ep t)(hf:t.fits es.size=true)(hs:∀(R:Option (Value×Nat)->Shared->Prop) (E':Value->Shared->Prop),R none s->wpAny (model prog w) A.in1 (setNext a slot i ep) R E' s)(h:∀h',(∀b u,b≠it->s.heap.get? b=some u->h'.get? b=some u)->Q none { s with heap:=h' }):wpAny (model prog w) A (pyNext (.ref it)) Q E s:=by
 refine Vu hi ho hd hf ?_
 dsimp only
 refine aam (hs _ _ ?_)
 dsimp only
 refine aam (ac9 hi rfl (by simp) ?_)
 exact zOr (s:={ s with heap:=_ }) (by simp[hh]) λe h' k ty=>⟨ty,h h' λb u hb e=>k b u (O7 hb e)⟩
theorem zNg{Q:Option Value->Shared->Prop}{ps:List Nat}(hi:s.heap.get? it=some (oF (.ref T) i a es.size ep))(ho:s.heap.get? a=some o)(hd:o.data=.set es ep t)(hf:t.fits es.size=true)(hT:s.heap.get? T=some { cls:=.type "tuple",data:=.seq (ps.map λ(i:Nat)=>ab3 i 0).toArray })(hp:ps[i]?=some place)(hx:es[place]?=some x)(h:∀h',h'.get? it=some (oF (.ref T) (i+1) a es.size ep)->(∀b u,b≠it->s.heap.get? b=some u->h'.get? b=some u)->Q (some x.2) { s with heap:=h' }):wpAny (model prog w) A (pyNext (.ref it)) Q E s:=by
 refine Vu hi ho hd hf ?_
 dsimp only
 refine aam (wpAny_seqItems hT rfl ?_)
 have e:((ps.map λ(i:Nat)=>ab3 i 0).toArray)[(i:Int).toNat]?=some (.int (place:Nat) 0):=by
  rw[abo,getElem?_toArray,getElem?_map,hp]
  rfl
 dsimp only
 rw[e]
 dsimp only
 refine aam (zNb ho hd hf (x:=x) (by rw[abo];exact hx) ?_)
 refine aam (ac9 hi rfl (by simp) ?_)
 have h1:=Vv (f:=aek (·.setIfInBounds 1 (rawInt ((i:Int)+1)))) hi rfl
 exact aan ⟨x.2,rfl,h _ h1 λb u hb e=>O7 hb e⟩
theorem zQy{Q:Option Value->Shared->Prop}{ps:List Nat}(hh:A.handled=none)(hi:s.heap.get? it=some (oF (.ref T) i a es.size ep))(ho:s.heap.get? a=some o)(hd:o.data=.set es ep t)(hf:t.fits es.size=true)(hT:s.heap.get? T=some { cls:=.type "tuple",data:=.seq (ps.map λ(i:Nat)=>ab3 i 0).toArray })(hp:ps[i]?=none)(h:∀h',(∀b u,b≠it->s.heap.get? b=some u->h'.get? b=some u)->Q none { s with heap:=h' }):wpAny (model prog w) A (pyNext (.ref it)) Q E s:=by
 refine Vu hi ho hd hf ?_
 dsimp only
 refine aam (wpAny_seqItems hT rfl ?_)
 have e:((ps.map λ(i:Nat)=>ab3 i 0).toArray)[(i:Int).toNat]?=none:=by
  rw[abo,getElem?_toArray,getElem?_map,hp]
  rfl
 dsimp only
 rw[e]
 dsimp only
 refine aam (ac9 hi rfl (by simp) ?_)
 have h1:=Vv (f:=aek (·.setIfInBounds 0 (rawInt 0))) hi rfl
 refine aam (ac9 (s:={ s with heap:=_ }) h1 rfl (by simp) ?_)
 exact zOr (s:={ s with heap:=_ }) (by simp[hh]) λe h' k ty=>⟨ty,h h' λb u hb e=>k b u (O7 (s:={ s with heap:=_ }) hb (O7 hb e))⟩
end
set_option maxRecDepth 100000
section
variable{prog:Program}{w:World}{A:Around}{E:Value->Shared->Prop}{s:Shared}{a it T:Addr}{o:Obj}{es:Array (Int×Value)}{ep:Nat}{t:SetTable}
theorem Yz{Q:Value->Shared->Prop}(hi:s.heap.get? it=some (oF first i a n ep))(h:Q (.ref it) s):wpAny (model prog w) A (pyIter (.ref it)) Q E s:=by
 have hT:s.TypeIs (.ref it) "set_iterator":=⟨_,hi,rfl⟩
 refine wpAny_pyIter_slot hT zOx (ab9 zOx hT zGu ?_ (zH5 _))
 refine aam (aan ?_)
 exact aan ⟨_,rfl,"set_iterator",_,hT,jN.lookup,h⟩
theorem RP(hf:t.fits es.size=true):t.place.size=es.size:=by
 unfold fits at hf
 rw[aar] at hf
 exact abu hf.1
theorem zN0(hr:Rz xs):below xs 0=0:=by
 obtain⟨b1,b2,b3⟩:=Yw hr 0
 cases e:below xs 0 with
 |zero=>rfl
 |succ k =>
  rw[e] at b1 b2
  have h0:0<xs.size:=by omega
  exact absurd (b2 0 _ (aeo k) (aat h0)) (aci _)
theorem zN1(hr:Rz xs)(h:xs[i]?=some j):below xs (j+1)=i+1:=by
 obtain⟨b1,b2,b3⟩:=Yw hr (j+1)
 generalize below xs (j+1)=p at *
 have hi:i<xs.size:=by
  by_cases z:i<xs.size
  ·exact z
  ·rw[abk (by omega)] at h;cases h
 have h1:i<p:=by
  by_cases z:i<p
  ·exact z
  ·have:=b3 i j (by omega) h;omega
 by_cases z:p=i+1
 ·exact z
 ·have hp:i+1<xs.size:=by omega
  have q1:=b2 (i+1) _ (by omega) (aat hp)
  have q2:=hr i (i+1) j _ (by omega) h (aat hp)
  omega
theorem zSm{xs:Array Nat}(h:xs.size<=1):Rz xs:=λi k a b hik ha hb=>by
 rw[abk (by omega)] at hb
 cases hb
theorem zMc(hh:A.handled=none)(hne:a≠it)(hd:o.data=.set es ep t)(hf:t.fits es.size=true)(hb:w.params.followText "set-order" = false)(hl:t.led=true)(hn:(!t.plain&&decide (es.size > 1))=false)(hr:Rz t.place) :
  Walks prog w A it [it,a] [it] es.size (λi v=>(es.toList.map (·.2))[i]?=some v) (λi h=>h.get? a=some o/\∃(slot:Nat)(tk:Tok),h.get? it=some (oF (.int slot tk) i a es.size ep)/\below t.place slot=i) where
 sub:=λb hb=>by simp at hb;simp[hb]
 frame:=λi h h' ⟨h1,slot,tk,h2,h3⟩ k=>⟨k a (by simp) _ h1,slot,tk,k it (by simp) _ h2,h3⟩
 item:=λi s Q E hi ⟨h1,slot,tk,h2,h3⟩ hQ=>by
  have hp:i<t.place.size:=by rw[RP hf];exact hi
  refine zGe (x:=es[i].2) (next:=t.place[i]+1) h2 h1 hd hf (λR E' hR=>zGd h1 hd hf hb hl hn ?_) λh' hi' k=>?_
  ·rw[h3,aat hi,aat hp]
   exact hR
  ·refine hQ _ h' s.toks (by simp[hi]) ⟨k a o hne h1,_,_,hi',zN1 hr (aat hp)⟩ λb u hb e=>k b u (λz=>hb (by simp[z])) e
 done:=λs Q E ⟨h1,slot,tk,h2,h3⟩ hQ=>by
  refine zI0 hh h2 h1 hd hf (λR E' hR=>zGd h1 hd hf hb hl hn ?_) λh' k=>hQ h' s.toks λb u hb e=>k b u (λz=>hb (by simp[z])) e
  rw[h3,abk (aaq _)]
  exact hR
 self:=λi s Q E ⟨h1,slot,tk,h2,h3⟩ hQ=>Yz h2 hQ
theorem zN6(hh:A.handled=none)(hne:a≠it)(hd:o.data=.set es ep t)(hf:t.fits es.size=true)(hb:w.params.followText "set-order" = true) :
  Walks prog w A it [it,a] [it] es.size (λi v=>((pickOrder (w.params.setOrder a ep) es).toList.map (·.2))[i]?=some v) (λi h=>h.get? a=some o/\∃(slot:Nat)(tk:Tok),h.get? it=some (oF (.int slot tk) i a es.size ep)) where
 sub:=λb hb=>by simp at hb;simp[hb]
 frame:=λi h h' ⟨h1,slot,tk,h2⟩ k=>⟨k a (by simp) _ h1,slot,tk,k it (by simp) _ h2⟩
 item:=λi s Q E hi ⟨h1,slot,tk,h2⟩ hQ=>by
  have hz:i<(pickOrder (w.params.setOrder a ep) es).size:=by rw[<-length_toList,(O6 _ es).length_eq,length_toList];exact hi
  refine zGe (x:=(pickOrder (w.params.setOrder a ep) es)[i].2) (next:=slot) h2 h1 hd hf (λR E' hR=>zIn h1 hd hf hb ?_) λh' hi' k=>?_
  ·rw[aat hz]
   exact hR
  ·refine hQ _ h' s.toks (by simp[hz]) ⟨k a o hne h1,_,_,hi'⟩ λb u hb e=>k b u (λz=>hb (by simp[z])) e
 done:=λs Q E ⟨h1,slot,tk,h2⟩ hQ=>by
  have hz:(pickOrder (w.params.setOrder a ep) es).size=es.size:=by rw[<-length_toList,(O6 _ es).length_eq,length_toList]
  refine zI0 hh h2 h1 hd hf (λR E' hR=>zIn h1 hd hf hb ?_) λh' k=>hQ h' s.toks λb u hb e=>k b u (λz=>hb (by simp[z])) e
  rw[abk (by rw[hz];exact aaq _)]
  exact hR
 self:=λi s Q E ⟨h1,slot,tk,h2⟩ hQ=>Yz h2 hQ
theorem zMd{ps:List Nat}(hh:A.handled=none)(hne:a≠it)(hnT:T≠it)(hd:o.data=.set es ep t)(hf:t.fits es.size=true)(hp:ps.Perm (aa1 es.size)) :
  Walks prog w A it [it,a,T] [it] es.size (λi v=>(ps.map λp=>((es[p]?).map (·.2)).getD .none)[i]?=some v)
   (λi h=>h.get? a=some o/\h.get? T=some { cls:=.type "tuple",data:=.seq (ps.map λ(i:Nat)=>ab3 i 0).toArray }/\h.get? it=some (oF (.ref T) i a es.size ep)) where
 sub:=λb hb=>by simp at hb;simp[hb]
 frame:=λi h h' ⟨h1,h2,h3⟩ k=>⟨k a (by simp) _ h1,k T (by simp) _ h2,k it (by simp) _ h3⟩
 item:=λi s Q E hi ⟨h1,h2,h3⟩ hQ=>by
  have hl:ps.length=es.size:=by rw[hp.length_eq,length_range]
  have hi':i<ps.length:=by omega
  have hm:ps[i]<es.size:=mem_range.mp (hp.mem_iff.mp (getElem_mem hi'))
  refine zNg (place:=ps[i]) (x:=es[ps[i]]) h3 h1 hd hf h2 (aap hi') (aat hm) λh' hi' k=>?_
  refine hQ _ h' s.toks ?_ ⟨k a o hne h1,k T _ hnT h2,hi'⟩ λb u hb e=>k b u (λz=>hb (by simp[z])) e
  rw[getElem?_map,aap (by omega),Option.map_some,aat hm]
  rfl
 done:=λs Q E ⟨h1,h2,h3⟩ hQ=>by
  have hl:ps.length=es.size:=by rw[hp.length_eq,length_range]
  exact zQy hh h3 h1 hd hf h2 (aa9 (by omega)) λh' k=>hQ h' s.toks λb u hb e=>k b u (λz=>hb (by simp[z])) e
 self:=λi s Q E ⟨h1,h2,h3⟩ hQ=>Yz h3 hQ
end
set_option maxRecDepth 100000
section
variable{prog:Program}{w:World}{A:Around}{E:Value->Shared->Prop}{s:Shared}{a it T:Addr}{o:Obj}{es:Array (Int×Value)}{ep:Nat}{t:SetTable}
theorem zTj{Q:Bool->Shared->Prop}(hT:s.TypeIs (.ref a) "set")(h:Q false s):wpAny (model prog w) A (ac5 (.ref a)) Q E s:=by
 unfold ac5
 refine aam (wpAny_specialOf hT F.slot_set_len.lookup ?_)
 generalize hid:("set.__len__":String)=id0
 wp_delta
 rw[show splitId id0=some ("set","__len__") from by subst hid;decide +kernel]
 subst hid
 refine aam (ad5 (T:="set") (b:=true) hT aer (aeu (λhab=>absurd hab (by decide)) λ_=>aeu (λ_=>aam (afe hT (aan h))) λhab=>absurd (by decide +kernel) hab))
theorem zP5{R:Result->Shared->Prop}{P:Nat->Value->Prop}{St:Nat->Heap->Prop}(W:Walks prog w A.in1 it fp [it] n P St)(hn:n<=sizeLine)(off:S∉fp)(st:St 0 s.heap)(hS:s.heap.get? S=some { cls:=.type "list",data:=.seq #[] c₁ })(hR:∀h' tk acc c',(∀b u,b≠S->b≠it->s.heap.get? b=some u->h'.get? b=some u)->h'.get? S=some { cls:=.type "list",dict:=none,data:=.seq acc c',slots:=#[] }->ItemsOf P acc n->R (.ok (.ret res)) { s with heap:=h',toks:=tk }) :
  codeAny (model prog w) A (.builtin "list.extend.loop" ⟨[.ref S,.ref it,res],[]⟩) R s:=by
 refine codeAny_extend_loopS W.toS hn S off res n 0 _ #[] c₁ rfl (aa5 _) st hS (ItemsOf.nil _) λs' acc c' hm hS' hacc=>?_
 rw[Moved.eq_with hm]
 refine hR s'.heap s'.toks acc c' (λb u h1 h2 e=>hm.heap b u (λz=>?_) e) hS' hacc
 rcases mem_cons.mp z with z|z
 ·exact h1 z
 ·exact h2 (mem_singleton.mp z)
theorem YB{R:Result->Shared->Prop}{P:Nat->Value->Prop}{St:Nat->Heap->Prop}(W:Walks prog w A.in1 it fp [it] n P St)(hn:n<=sizeLine)(off:S∉fp)(hT:s.TypeIs (.ref a) "set")(st:St 0 s.heap)(hS:s.heap.get? S=some { cls:=.type "list",data:=.seq #[] c₀ })(hR:∀h' tk acc c',(∀b u,b≠S->b≠it->s.heap.get? b=some u->h'.get? b=some u)->h'.get? S=some { cls:=.type "list",dict:=none,data:=.seq acc c',slots:=#[] }->ItemsOf P acc n->R (.ok (.ret res)) { s with heap:=h',toks:=tk }) :
  wpAny (model prog w) A.in1 (holding [.ref it] (ac5 (.ref a)) >>= λroom=>if(room||b)=true then(rule "list.extend.makes-room" >>= λ_=>Builtin.List.listTouch (.ref S) >>= λ_=>again (.builtin "list.extend.loop" ⟨[.ref S,.ref it,res],[]⟩)) else again (.builtin "list.extend.loop" ⟨[.ref S,.ref it,res],[]⟩))
   (λfin s'=>match fin with|.done f=>R (.ok f) s'|.again c'=>c'.quiet=true/\codeAny (model prog w) A c' R s') (λe s'=>R (.error e) s') s:=by
 refine aam (abf (zTj hT ?_))
 refine aeu (λ_=>?_) λ_=>aan ⟨ad9 F.plain_extend_loop _,zP5 W hn off st hS hR⟩
 refine aam (ad6 ?_)
 refine aam ?_
 show wpAny _ _ (updateSeq S (·.push .none) >>= λ_=>updateSeq S (·.pop)) _ _ _
 refine aam (wpAny_updateSeq hS rfl ?_)
 have hS2:=get?_update_self (ac1 (·.push ac7)) hS rfl
 refine wpAny_updateSeq (hz:=by seq_fits) hS2 rfl ?_
 have hS3:=get?_update_self (ac1 (·.pop)) hS2 rfl
 have keep:∀c u,c≠S->s.heap.get? c=some u->((s.heap.update S (ac1 (·.push ac7))).update S (ac1 (·.pop))).get? c=some u:=λc u hc e=>(get?_update_other _ _ (acg hc)).trans ((get?_update_other _ _ (acg hc)).trans e)
 refine aan ⟨ad9 F.plain_extend_loop _,zP5 (s:={ s with heap:=_ }) W hn off (W.frame 0 _ _ st λc hc u e=>keep c u (λz=>off (z▸hc)) e) hS3 λh' tk acc c' k h1 h2=>hR h' tk acc c' (λc u n1 n2 e=>k c u n1 n2 (keep c u n1 e)) h1 h2⟩
theorem YC(h:ItemsOf (λi v=>ord[i]?=some v) acc n)(hl:ord.length=n):acc.toList=ord:=by
 apply ext_getElem?
 intro i
 rw[getElem?_toList]
 by_cases hi:i<acc.size
 ·rw[aat hi]
  exact(h.2 i _ (aat hi)).symm
 ·rw[abk (by omega),aa9 (by rw[hl,<-h.1];omega)]
theorem zM0(es:Array (Int×Value)):(aa1 es.size).map (λp=>((es[p]?).map (·.2)).getD ac7)=es.toList.map (·.2):=by
 apply List.ext_getElem (by simp)
 intro i h1 h2
 have hi:i<es.size:=by simpa using h1
 simp[hi]
theorem zNq{R:Result->Shared->Prop}(hh:A.handled=none)(ho:s.heap.get? a=some o)(hx:o.ExactSet)(hd:o.data=.set es ep t)(hf:t.fits es.size=true)(tb:Tb (zT w) t)(hz:es.size<=sizeLine)(YD:S≠a)(hS:s.heap.get? S=some { cls:=.type "list",data:=.seq #[] c₀ })(hR:∀h' tk d acc c',(∀b u,b≠S->s.heap.get? b=some u->h'.get? b=some u)->h'.get? S=some { cls:=.type "list",dict:=none,data:=.seq acc c',slots:=#[] }->acc.toList.Perm (es.toList.map (·.2))->R (.ok (.ret res)) { s with heap:=h',toks:=tk,drawn:=d }) :
  wpAny (model prog w) A.in1 (Builtin.List.listExtendWith (.ref S) (.ref a) res)
   (λfin s'=>match fin with|.done f=>R (.ok f) s'|.again c'=>c'.quiet=true/\codeAny (model prog w) A c' R s') (λe s'=>R (.error e) s') s:=by
 have hT:s.TypeIs (.ref a) "set":=⟨o,ho,hx.1⟩
 have lta:a<s.heap.objs.size:=lt_size ho
 have ltS:S<s.heap.objs.size:=lt_size hS
 have hi:A.in1.handled=none:=by simp[hh]
 unfold Builtin.List.listExtendWith
 refine aam (afe hT ?_)
 have h1:Builtin.List.listSameRef (.ref S) (.ref a)=false:=by simp[Builtin.List.listSameRef,YD]
 simp only[h1,show(adq "set" == adq "list")=false by decide,show(adq "set" == adq "tuple")=false by decide,Bool.or_false,aax,if_false]
 have old:∀{b:Addr}{u:Obj}{n:Nat},s.heap.get? b=some u->s.heap.objs.size<=n->b≠n:=λe hn z=>absurd (lt_size e) (by rw[z];exact Nat.not_lt_of_le hn)
 refine aam (zTf ho hx hd hf (λhc=>?_) λhc=>⟨hz,λd ps hp=>?_⟩)
 ·have hS':=get?_push_of_some (oF (.int 0 0) 0 a es.size ep) hS
  have ho':=get?_push_of_some (oF (.int 0 0) 0 a es.size ep) ho
  have hI:(s.heap.push (oF (.int 0 0) 0 a es.size ep)).get? s.heap.objs.size=some (oF (.int 0 0) 0 a es.size ep):=get?_push_size _ rfl
  have off:S∉[s.heap.objs.size,a]:=λz=>by
   rcases mem_cons.mp z with z|z
   ·exact old hS (aaq _) z
   ·exact YD (mem_singleton.mp z)
  have hne:a≠s.heap.objs.size:=old ho (aaq _)
  cases hb:w.params.followText "set-order" with
  |true =>
   refine YB (s:={ s with heap:=_ }) (zN6 hi hne hd hf hb) hz off ⟨o,ho',hx.1⟩ ⟨ho',0,0,hI⟩ hS' λh' tk acc c' k h2 h3=>?_
   refine hR h' tk s.drawn acc c' (λb u n e=>k b u n (old e (aaq _)) (get?_push_of_some _ e)) h2 ?_
   rw[YC h3 (by rw[length_map,(O6 _ es).length_eq,length_toList])]
   exact(O6 _ es).map _
  |false =>
   have hl:t.led=true:=by rw[tb.led];unfold zT;rw[hb];rfl
   have hn:(!t.plain&&decide (es.size > 1))=false:=by rw[hb] at hc;exact hc
   have hr:Rz t.place:=by
    cases hp:t.plain with
    |true=>exact tb.rz hp
    |false =>
     rw[hp] at hn
     refine zSm ?_
     rw[RP hf]
     have:¬es.size > 1:=of_decide_eq_false (by simpa using hn)
     omega
   refine YB (s:={ s with heap:=_ }) (zMc hi hne hd hf hb hl hn hr) hz off ⟨o,ho',hx.1⟩ ⟨ho',0,0,hI,zN0 hr⟩ hS' λh' tk acc c' k h2 h3=>?_
   refine hR h' tk s.drawn acc c' (λb u n e=>k b u n (old e (aaq _)) (get?_push_of_some _ e)) h2 ?_
   rw[YC h3 (by rw[length_map,length_toList])]
 ·have e0:∀{b:Addr}{u:Obj},s.heap.get? b=some u->((s.heap.push { cls:=.type "tuple",data:=.seq (ps.map λ(i:Nat)=>ab3 i 0).toArray }).push (oF (.ref s.heap.objs.size) 0 a es.size ep)).get? b=some u:=λe=>get?_push_of_some _ (get?_push_of_some _ e)
  have sz:(s.heap.push ({ cls:=.type "tuple",data:=.seq (ps.map λ(i:Nat)=>ab3 i 0).toArray }:Obj)).objs.size=s.heap.objs.size+1:=size_push ..
  have hI:((s.heap.push { cls:=.type "tuple",data:=.seq (ps.map λ(i:Nat)=>ab3 i 0).toArray }).push (oF (.ref s.heap.objs.size) 0 a es.size ep)).get? (s.heap.objs.size+1)=some (oF (.ref s.heap.objs.size) 0 a es.size ep):=by
   rw[<-sz];exact get?_push_size _ rfl
  have hTT:((s.heap.push { cls:=.type "tuple",data:=.seq (ps.map λ(i:Nat)=>ab3 i 0).toArray }).push (oF (.ref s.heap.objs.size) 0 a es.size ep)).get? s.heap.objs.size=some { cls:=.type "tuple",data:=.seq (ps.map λ(i:Nat)=>ab3 i 0).toArray }:=get?_push_of_some _ (get?_push_size _ rfl)
  have off:S∉[s.heap.objs.size+1,a,s.heap.objs.size]:=λz=>by
   rcases mem_cons.mp z with z|z
   ·exact old hS (ab6 _) z
   ·rcases mem_cons.mp z with z|z
    ·exact YD z
    ·exact old hS (aaq _) (mem_singleton.mp z)
  refine YB (s:={ s with drawn:=d,heap:=_ }) (zMd hi (old ho (ab6 _)) (aau (ab8 _)) hd hf hp) hz off ⟨o,e0 ho,hx.1⟩ ⟨e0 ho,hTT,hI⟩ (e0 hS) λh' tk acc c' k h2 h3=>?_
  refine hR h' tk d acc c' (λb u n e=>k b u n (old e (ab6 _)) (e0 e)) h2 ?_
  rw[YC h3 (by rw[length_map,hp.length_eq,length_range])]
  have e1:=zM0 es
  rw[<-e1]
  exact hp.map _
theorem zKq{R:List Value->Shared->Prop}(hh:A.handled=none)(ho:s.heap.get? a=some o)(hx:o.ExactSet)(hd:o.data=.set es ep t)(hf:t.fits es.size=true)(tb:Tb (zT w) t)(hz:es.size<=sizeLine)(h:∀h' tk d (acc:List Value),(∀b u,s.heap.get? b=some u->h'.get? b=some u)->acc.Perm (es.toList.map (·.2))->R acc { s with heap:=h',toks:=tk,drawn:=d }) :
  wpAny (model prog w) A (collect (.ref a)) R E s:=by
 have lt:a<s.heap.objs.size:=lt_size ho
 unfold collect
 refine aam (wpAny_runValue (ac3 entry_proto_collect' ?_))
 rw[acn F.plain_proto_collect _]
 refine aam (m:=newList []) (abr (aan ⟨ad9 F.plain_list_iadd _,ac3 entry_list_iadd' ?_⟩))
 rw[acn F.plain_list_iadd _]
 have hS:(s.heap.push { cls:=.type "list",data:=.seq ([]:List Value).toArray }).get? s.heap.objs.size=some { cls:=.type "list",data:=.seq #[] }:=get?_push_size _ rfl
 have key:=zNq (prog:=prog) (A:=A) (S:=s.heap.objs.size) (res:=.ref s.heap.objs.size) (s:={ s with heap:=s.heap.push { cls:=.type "list",data:=.seq ([]:List Value).toArray } })
  (R:=λ(q:Result) (s':Shared)=>∃(h':Heap)(tk:Nat)(d:Drawn)(acc:Array Value)(c':Nat),q=.ok (.ret (.ref s.heap.objs.size))/\s'={ s with heap:=h',toks:=tk,drawn:=d }/\(∀b u,s.heap.get? b=some u->h'.get? b=some u) /\
   h'.get? s.heap.objs.size=some { cls:=.type "list",dict:=none,data:=.seq acc c',slots:=#[] }/\acc.toList.Perm (es.toList.map (·.2)))
  hh (get?_push_of_some _ ho) hx hd hf tb hz (adb lt) hS λh' tk d acc c' k h1 h2=>⟨h',tk,d,acc,c',rfl,rfl,λb u e=>k b u (aau (lt_size e)) (get?_push_of_some _ e),h1,h2⟩
 refine ab4 key (λfin s' x=>?_) λe s' x=>?_
 ·cases fin with
  |done f =>
   obtain⟨h',tk,d,acc,c',e,rfl,k,h1,h2⟩:=x
   cases e
   refine aam (m:=load s.heap.objs.size) (wpAny_load h1 ?_)
   exact aan (h h' tk d acc.toList k h2)
  |again c1 =>
   refine⟨x.1,adf x.2 λq s2 y=>?_⟩
   obtain⟨h',tk,d,acc,c',rfl,rfl,k,h1,h2⟩:=y
   refine aam (m:=load s.heap.objs.size) (wpAny_load h1 ?_)
   exact aan (h h' tk d acc.toList k h2)
 ·obtain⟨_,_,_,_,_,e',_⟩:=x
  cases e'
end
end qy
namespace L2
open PySem PySem.Spec PyProof.Rows qy
def qz:Value->Int
 |.int k _=>k
 |_=>0
theorem Vw:∀k v,(intKind P w).is k v=true->qz v=k:=λk v h=>by
 obtain⟨t,rfl⟩:=acs h
 rfl
theorem Inv.drew(I:Inv X pins σ H s)(d:Drawn):Inv X pins σ H { s with drawn:=d }:=⟨I.ok,I.os,I.bare,I.base,I.loc,I.cell,I.free,I.gM,I.pin,I.hok,I.len⟩
abbrev Ef:=St->Hp->(LI->Hp->Prop)->Prop
def StP(X:Cx)(pins:List (Addr×Obj))(σ:St)(Q:LI->Hp->Prop)(v:Value)(s':Shared):Prop :=
 ∃(a:Addr)(ks:LI)(H':Hp),v=.ref a/\Inv X pins σ H' s'/\Good (intKind X.prog X.w) qz (zT X.w) s'.heap a ks/\lE X pins H' a/\Q ks H'
def zy(X:Cx)(e:Expr)(t:Ef):Prop:=∀(pins:List (Addr×Obj))(s:Shared)(σ:St)(H:Hp)(Q:LI->Hp->Prop),Inv X pins σ H s->t σ H Q->wpAny (model X.prog X.w) X.A (eval e X.env) (StP X pins σ Q) X.xe s
section
variable{X:Cx}
theorem zVh:∀{ns:LI}{its:List Value},IntsAre its ns->∀{i:Nat}{v:Value},its[i]?=some v->∃t,v=.int (ns.getD i 0) t
 |_,_,.nil,i,v,h=>by simp at h
 |_,_,.cons n t r,0,v,h=>by simp at h;subst h;exact⟨t,rfl⟩
 |_,_,.cons n t r,i+1,v,h=>by
  obtain⟨t',e⟩:=zVh r (by simpa using h)
  exact⟨t',e⟩
theorem zRi:∀{ns:LI}{its:List Value},IntsAre its ns->its.length=ns.length
 |_,_,.nil=>rfl
 |_,_,.cons n t r=>congrArg (· + 1) (zRi r)
def Ig(K:PySem.W.Frag)(te:TE):Ef:=λσ H Q=>yM te bh σ H λvs H1=>∃(p:Addr)(ns:LI),vs=[.ref p]/\aV K H1 p (ns.map V.int)/\ns.length<4000/\∀ks:LI,ks.Nodup->(∀z,z∈ks↔z∈ns)->Q ks H1
theorem Ld:bootBuiltins "set" = some (.type "set"):=by decide +kernel
theorem Lf(K:PySem.W.Frag)(hc:X.calm=true)(hm:X.mg "set" = none)(he:PE X e te)(hK:X.K=K:=by rfl)(hg:Gl X "set":=by rfl)(hs:starEach [e] X.env=[(false,eval e X.env)]:=by rfl):zy X (.Call (.Name "set" p) [e] [] pos) (Ig K te):=by
 subst hK
 intro pins s σ H Q I h
 refine abw (Bu I hg hm Ld ?_)
 have ha:PA X [e] (yM te bh):=zA he zD hs
 refine abm (aP (ha pos pins s σ H _ I h) λus s1 ⟨vs,H1,I1,r1,q1⟩=>?_) hs rfl
 obtain⟨l,ns,e1,hq,h4,q⟩:=q1
 subst e1
 cases r1 with
 |cons r rr =>
  cases rr
  cases r
  obtain⟨its,rv,pl,hz⟩:=I1.list hq
  have hi:IntsAre its ns:=Yo rv
  have hl:=zRi hi
  refine zT4 (knd:=intKind X.prog X.w) (dec:=qz) Vw (λi=>ns.getD i 0) (I1.ok.hd hc) pl.isList (λi v hv=>?_) (by rw[size_toArray,hl];show ns.length+1<4096;omega) λh' tk g k=>?_
  ·obtain⟨t,rfl⟩:=zVh hi (by rw[getElem?_toArray] at hv;exact hv)
   exact⟨intKind_is _ _ _ _,rfl⟩
  ·have I2:=I1.kept (h':=h') (t':=tk) λb o e=>k b o (lt_size e) e
   obtain⟨_,_,_,_,_,_,_,_,_,nd,_⟩:=id g
   refine⟨_,_,H1,rfl,I2,g,I1.lF (aaq _) (I1.hok.fresh (aaq _)),q _ nd λz=>?_⟩
   rw[zP3,size_toArray,hl]
   constructor
   ·rintro⟨j,hj,rfl⟩
    rw[getD_eq_getElem?_getD,aap hj]
    exact getElem_mem hj
   ·intro hz
    obtain⟨j,hj,e⟩:=getElem_of_mem hz
    exact⟨j,hj,by rw[getD_eq_getElem?_getD,aap hj];exact e⟩
def RQ(ts:Ef):TE:=λσ H Q=>ts σ H λks H1=>ks.length<64/\∀(l:Addr)(ms:LI),H1 l=none->ms.Perm ks->ms.Pairwise (· <= ·)->Q (.ref l) (upd H1 l (.lst (ms.map V.int)))
theorem zLm:∀{vs:List Value},(∀v∈vs,∃k,(intKind P w).is k v=true)->IntsAre vs (vs.map qz)
 |[],_=>.nil
 |v::vs,h=>by
  obtain⟨k,hk⟩:=h v mem_cons_self
  obtain⟨t,rfl⟩:=acs hk
  exact .cons k t (zLm (P:=P) (w:=w) λu hu=>h u (mem_cons_of_mem _ hu))
theorem zSc(hc:X.calm=true)(I:Inv X pins σ H s)(g:Good (intKind X.prog X.w) qz (zT X.w) s.heap a ks)(h64:ks.length<64)(q:∀(l:Addr) (ms:LI),H l=none->ms.Perm ks->ms.Pairwise (· <= ·)->Q (.ref l) (upd H l (.lst (ms.map V.int)))):wpAny (model X.prog X.w) X.A (call (.builtin "sorted") [.ref a]) (EP X pins σ Q) X.xe s:=by
 obtain⟨o,es,ep,t,ho,hx,hd,hel,hp,nd,hb,hf,tb⟩:=g
 have hsz:es.size=ks.length:=by rw[<-hp.length_eq,length_map,length_toList]
 refine PySem.Calls.call_function_entry kind_sorted plain_sorted entry_sorted (args_sorted1 _) ?_
 unfold Builtin.«sorted»
 refine aam (m:=checkCount "sorted" 1 1 _) (aan ?_)
 refine aam (zKq (A:=X.A.in1) (I.ok.hd hc) ho hx hd hf tb (acd hb) λh' tk d acc hkeep hacc=>?_)
 have I':Inv X pins σ H { s with heap:=h',toks:=tk,drawn:=d }:=(I.kept (h':=h') (t':=tk) hkeep).drew d
 have hI:IntsAre acc (acc.map qz):=zLm (P:=X.prog) (w:=X.w) λv hv=>by
  obtain⟨e,he,rfl⟩:=mem_map.mp (hacc.mem_iff.mp hv)
  obtain⟨⟨k,hk,_⟩,_⟩:=hel e he
  exact⟨k,hk⟩
 have hpk:(acc.map qz).Perm ks:=by
  refine(hacc.map qz).trans ?_
  rw[List.map_map]
  exact hp
 have hal:acc.length=ks.length:=by rw[<-hpk.length_eq,length_map]
 have hsl:acc.length<=sizeLine:=by rw[hal];exact acq (adz h64 (by decide))
 refine aam (wpAny_newList ?_ hsl)
 have hoL:(h'.push (seqObj "list" acc.toArray 0)).get? h'.objs.size=some (seqObj "list" acc.toArray 0):=get?_push_size _ rfl
 refine aam (abf (ab9 slot_list_sort ⟨_,hoL,rfl⟩ entry_list_sort (list_sort_tree hoL hI (by omega) λout ns' a1 a2 a3=>⟨_,rfl,?_⟩) (args_list_sort _)))
 refine aan ⟨_,rfl,?_⟩
 obtain⟨e,he⟩:=sortedHeap_at (out:=out) hoL
 refine⟨.ref h'.objs.size,_,I'.laid (t':=tk) (o:=.lst (ns'.map V.int)) (λb ob w=>?_) (aaq _) ?_,rfl,q _ ns' (I'.hok.fresh (aaq _)) (a2.trans hpk) a3⟩
 ·have hb:h'.get? b=some ob:=w
  have hlt:=lt_size hb
  rw[sortedHeap_old (aau hlt) (by rw[size_push'];exact ady hlt),Heap.get?_push_ne _ _ _ (aau hlt)]
  exact hb
 ·refine⟨?_,out.toList,e,uW a1,?_⟩
  ·rw[length_map,a2.length_eq,length_map];exact hsl
  ·rw[toArray_toList];exact he
theorem Vx(hc:X.calm=true)(hm:X.mg "sorted" = none)(he:zy X e ts)(hg:Gl X "sorted":=by rfl)(hs:starEach [e] X.env=[(false,eval e X.env)]:=by rfl):PE X (.Call (.Name "sorted" p) [e] [] pos) (RQ ts):=by
 intro pins s σ H Q I h
 refine abw (Bu I hg hm (by decide +kernel:bootBuiltins "sorted" = some (.builtin "sorted")) ?_)
 refine PyProof.Rows.callWith_builtin1 (Q:=_) ?_ hs rfl
 rw[hs]
 show wpAny _ _ (spliced ((false,eval e X.env)::backTo pos [])) _ _ s
 refine aec (aP (he pins s σ H _ I h) λu s1 ⟨a,ks,H1,e1,I1,g,fo,h64,q⟩=>?_)
 subst e1
 refine aee ?_
 exact zSc hc I1 g h64 q
end
end L2
namespace Ts
open PySem L2
def pN(z:Int):LI->LI
 |[]=>[z]
 |y::ys=>if z<y then z::y::ys else if z=y then y::ys else y::pN z ys
def wS(ns:LI):LI:=ns.foldr pN []
def O8(ns:LI):Option LI:=if ns.length<64 then some (wS ns) else none
theorem mq:∀{ys:LI},x∈pN z ys↔x=z\/x∈ys
 |[]=>by simp[pN]
 |y::ys=>by
  unfold pN
  split
  ·simp
  ·split
   ·rename_i h;subst h;simp
   ·rw[mem_cons,mq,mem_cons]
    exact⟨λh=>h.elim (λh=>.inr (.inl h)) λh=>h.elim .inl λh=>.inr (.inr h),λh=>h.elim (λh=>.inr (.inl h)) λh=>h.elim .inl λh=>.inr (.inr h)⟩
theorem zQh:∀{ys:LI},ys.Pairwise (· < ·)->(pN z ys).Pairwise (· < ·)
 |[],_=>by simp[pN]
 |y::ys,h=>by
  have h1:=pairwise_cons.mp h
  unfold pN
  split
  ·rename_i hz
   refine pairwise_cons.mpr ⟨λx hx=>?_,h⟩
   rcases mem_cons.mp hx with e|e
   ·rw[e];exact hz
   ·exact Int.lt_trans hz (h1.1 x e)
  ·split
   ·exact h
   ·refine pairwise_cons.mpr ⟨λx hx=>?_,zQh h1.2⟩
    rcases mq.mp hx with e|e
    ·rw[e];omega
    ·exact h1.1 x e
theorem bL:∀{ns:LI},x∈wS ns↔x∈ns
 |[]=>by simp[wS]
 |n::ns=>by
  show x∈pN n (wS ns)↔_
  rw[mq,bL,mem_cons]
theorem uX:∀ns:LI,(wS ns).Pairwise (· < ·)
 |[]=>.nil
 |n::ns=>zQh (uX ns)
theorem Ih:∀{xs ys:LI},xs.Pairwise (· < ·)->ys.Pairwise (· < ·)->(∀s,s∈xs↔s∈ys)->xs=ys
 |[],[],_,_,_=>rfl
 |[],y::ys,_,_,h=>absurd ((h y).mpr mem_cons_self) (by simp)
 |x::xs,[],_,_,h=>absurd ((h x).mp mem_cons_self) (by simp)
 |x::xs,y::ys,hx,hy,h=>by
  have h1:=pairwise_cons.mp hx
  have h2:=pairwise_cons.mp hy
  have e:x=y:=by
   rcases mem_cons.mp ((h x).mp mem_cons_self) with e|e
   ·exact e
   ·rcases mem_cons.mp ((h y).mpr mem_cons_self) with e'|e'
    ·exact e'.symm
    ·have a1:=h2.1 x e
     have a2:=h1.1 y e'
     omega
  subst e
  rw[Ih h1.2 h2.2 λs=>?_]
  constructor
  ·intro hs
   rcases mem_cons.mp ((h s).mp (mem_cons_of_mem _ hs)) with e|e
   ·have:=h1.1 s hs;omega
   ·exact e
  ·intro hs
   rcases mem_cons.mp ((h s).mpr (mem_cons_of_mem _ hs)) with e|e
   ·have:=h2.1 s hs;omega
   ·exact e
theorem Eh:∀{ks ns:LI},ks.Nodup->(∀z∈ks,z∈ns)->ks.length<=ns.length
 |[],_,_,_=>aa5 _
 |k::ks,ns,nd,h=>by
  obtain⟨a,b,e⟩:=List.append_of_mem (h k mem_cons_self)
  have nd':=nodup_cons.mp nd
  have q:=Eh (ks:=ks) (ns:=a++b) nd'.2 λz hz=>by
   have hm:=h z (mem_cons_of_mem _ hz)
   rw[e] at hm
   rcases mem_append.mp hm with m|m
   ·exact mem_append.mpr (.inl m)
   ·rcases mem_cons.mp m with m|m
    ·exact absurd (m▸hz) nd'.1
    ·exact mem_append.mpr (.inr m)
  rw[e,length_append,length_cons,length_cons]
  rw[length_append] at q
  omega
theorem vQ:∀{ms:LI},ms.Pairwise (· <= ·)->ms.Nodup->ms.Pairwise (· < ·)
 |[],_,_=>.nil
 |m::ms,h,nd=>by
  have h1:=pairwise_cons.mp h
  have n1:=nodup_cons.mp nd
  refine pairwise_cons.mpr ⟨λx hx=>?_,vQ h1.2 n1.2⟩
  have a:=h1.1 x hx
  have b:m≠x:=λe=>n1.1 (e▸hx)
  omega
section
variable{K:PySem.W.Frag}{B:Bs}{sl:SL K}{md:Md}{t:TE}
theorem zNu(h:Ex B sl .hp t m):Eo B sl md (RQ (Ig K t)) (m.bind O8):=λc hc F O H σ Q s k=>by
 cases m with
 |none=>cases hc
 |some ns =>
  have hc:O8 ns=some c:=hc
  unfold O8 at hc
  split at hc
  case isFalse=>cases hc
  rename_i hl
  cases hc
  refine h ns rfl F O H σ _ s λv F' H' g r1=>?_
  obtain⟨p,vs,rfl,z1,z2⟩:=r1
  have z3:vs=ns.map V.int:=z2.vals
  subst z3
  refine⟨p,ns,rfl,aV.of z1,by omega,λks nd hm=>⟨aav (Eh nd λz hz=>(hm z).mp hz) hl,λl ms hn p1 p2=>?_⟩⟩
  have e:ms=wS ns:=Ih (vQ p2 (p1.nodup_iff.mpr nd)) (uX ns) λz=>by rw[p1.mem_iff,hm,bL]
  subst e
  exact k l _ F' H' g hn (HF _)
end
end Ts
namespace qy
open PySem PySem.Spec PyProof.Rows
set_option maxRecDepth 100000
theorem zGy:entryFor table "set.__and__" = some Builtin.«frozenset.__and__»:=ad0 (id':="frozenset.__and__") (by kernel_rfl) rfl (by decide +kernel) (by kernel_rfl)
section
variable{prog:Program}{w:World}{κ:Type}[DecidableEq κ]{knd:KeyKind prog w κ}{dec:Value->κ}{led:Bool}{A:Around}{E:Value->Shared->Prop}{s:Shared}
theorem Good.setOf(hdec:∀k v,knd.is k v=true->dec v=k)(g:Good knd dec led h a ks):h.SetOf knd a (λk=>decide (k∈ks)) ks.length:=by
 obtain⟨o,es,ep,t,h1,h2,h3,hel,hp,nd,hb,hf,tb⟩:=g
 refine⟨o,es,ep,t,h1,h2,h3,hel,λk=>?_,hb,hf,by rw[<-hp.length_eq,length_map,length_toList]⟩
 rw[decide_eq_true_iff,<-hp.mem_iff,mem_map]
 constructor
 ·rintro⟨e,he,rfl⟩
  obtain⟨⟨k',hk,_⟩,_⟩:=hel e he
  exact⟨e,he,by rw[hdec k' _ hk];exact hk⟩
 ·rintro⟨e,he,hk⟩
  exact⟨e,he,hdec _ _ hk⟩
theorem Good.size(g:Good knd dec led h a ks):∃o es ep t,h.get? a=some o/\o.ExactSet/\o.data=.set es ep t/\t.fits es.size=true/\es.size=ks.length/\Tb led t/\ElemsOf knd es.toList/\(es.toList.map λe=>dec e.2).Perm ks:=by
 obtain⟨o,es,ep,t,h1,h2,h3,hel,hp,nd,hb,hf,tb⟩:=g
 exact⟨o,es,ep,t,h1,h2,h3,hf,by rw[<-hp.length_eq,length_map,length_toList],tb,hel,hp⟩
theorem Good.type{s:Shared}(g:Good knd dec led s.heap a ks):s.TypeIs (.ref a) "set":=by
 obtain⟨o,_,_,_,h1,h2,_⟩:=g
 exact⟨o,h1,h2.1⟩
theorem Cg{Q:Bool->Shared->Prop}(hT:s.TypeIs (.ref a) "set")(h:Q true s):wpAny (model prog w) A (Builtin.Frozenset.isAnySet (.ref a)) Q E s:=by
 unfold Builtin.Frozenset.isAnySet
 refine aam (ad5 (T:="set") (b:=true) hT aer ?_)
 exact aan h
theorem O9{Q:Nat->Shared->Prop}(g:Good knd dec led s.heap a ks)(h:Q ks.length s):wpAny (model prog w) A (adl a) Q E s:=by
 obtain⟨o,es,ep,t,h1,h2,h3,hf,hl,_⟩:=g.size
 unfold adl
 refine aam (Vt h1 h3 hf (aan ?_))
 rw[hl]
 exact h
theorem zLa(sets:List Addr)(hs:∀a∈sets,∃ks:List κ,Good knd dec led s.heap a ks)(hn:∀k v,knd.is k v=true->∀b,v≠.ref b){Q:Bool->Shared->Prop}(h:Q true s):wpAny (model prog w) A (setsQuiet sets) Q E s:=by
 unfold setsQuiet
 refine aam (ab4 (acy (β:=Option Bool×Unit) _ (λl b s'=>s'=s/\b=(none,())/\∀a∈l,∃ks:List κ,Good knd dec led s.heap a ks) (λb s'=>s'=s/\b=(none,())) ?turn (λb s' hI=>⟨hI.1,hI.2.1⟩) sets _ ⟨rfl,rfl,hs⟩) ?post (λ_ _ h=>h))
 case post =>
  rintro b s' ⟨rfl,rfl⟩
  exact aan h
 case turn =>
  rintro a rest b s' ⟨rfl,rfl,hg⟩
  obtain⟨ks,g⟩:=hg a mem_cons_self
  obtain⟨o,es,ep,t,h1,h2,h3,hf,hl,tb,hel,hp⟩:=g.size
  refine aam (Vt h1 h3 hf ?_)
  rw[<-forIn_toList]
  refine aam (ab4 (acy (β:=Option Bool×Unit) _ (λl b s''=>s''=s'/\b=(none,())/\∀e∈l,∀c,e.2≠.ref c) (λb s''=>s''=s'/\b=(none,())) ?t2 (λb s' hI=>⟨hI.1,hI.2.1⟩) es.toList _ ⟨rfl,rfl,?p0⟩) ?p2 (λ_ _ h=>h))
  case p0 =>
   intro e he c z
   obtain⟨⟨k,hk,_⟩,_⟩:=hel e he
   exact hn k _ hk c z
  case p2 =>
   rintro b s'' ⟨rfl,rfl⟩
   exact aan ⟨rfl,rfl,λa ha=>hg a (mem_cons_of_mem _ ha)⟩
  case t2 =>
   rintro⟨hh,x⟩ l b s'' ⟨rfl,rfl,hl⟩
   have hx:=hl _ mem_cons_self
   dsimp only at hx ⊢
   split
   ·exact absurd rfl (hx _)
   ·exact aan ⟨rfl,rfl,λe he=>hl e (mem_cons_of_mem _ he)⟩
theorem zN7(g:Good knd dec (zT w) s.heap a ks)(hq:w.params.followText "set-order" = false->∀o es ep t,s.heap.get? a=some o->o.data=.set es ep t->(!t.plain&&decide (es.size > 1))=false){Q:Array (Int×Value)->Shared->Prop}(h:∀es:Array (Int×Value),ElemsOf knd es.toList->(es.toList.map λe=>dec e.2).Perm ks->Q es s):wpAny (model prog w) A (setWalk a) Q E s:=by
 obtain⟨o,es,ep,t,h1,h2,h3,hf,hl,tb,hel,hp⟩:=g.size
 unfold setWalk
 refine aam (aaz h1 h3 hf ?_)
 dsimp only
 refine aam (uV ?_)
 cases hb:w.params.followText "set-order" with
 |true =>
  simp only[↓reduceIte]
  refine aam (adg (aan ?_))
  exact h _ (hel.perm (O6 _ es)) (((O6 _ es).map _).trans hp)
 |false =>
  have q:=hq hb o es ep t h1 h3
  have YF:t.led=true:=by rw[tb.led];unfold zT;rw[hb];rfl
  simp only[aax,↓reduceIte]
  show wpAny _ _ (if(!t.plain&&decide (es.size > 1))=true then _ else _) _ _ _
  rw[if_neg (by rw[q];exact aao)]
  refine aam ?_
  show wpAny _ _ (if(!t.led&&decide (es.size > 1))=true then _ else pure ()) _ _ _
  rw[if_neg (by rw[YF];exact aao)]
  exact aan (aan (h es hel hp))
theorem YG(g:Good knd dec (zT w) s.heap a ks)(gf:Good knd dec (zT w) s.heap f kf)(hs:∀b∈others,∃ks:List κ,Good knd dec (zT w) s.heap b ks)(hn:∀k v,knd.is k v=true->∀b,v≠.ref b){Q:Array (Int×Value)->Shared->Prop}(h:∀(es:Array (Int×Value)) (h':Heap),ElemsOf knd es.toList->(es.toList.map λe=>dec e.2).Perm ks->SameBut f s.heap h'->Good knd dec (zT w) h' f kf->Q es { s with heap:=h' }):wpAny (model prog w) A (setWalkUnseen a others (some f)) Q E s:=by
 obtain⟨o,es,ep,t,h1,h2,h3,hf,hl,tb,hel,hp⟩:=g.size
 unfold setWalkUnseen
 refine aam (aaz h1 h3 hf ?_)
 dsimp only
 refine aam (uV ?_)
 split
 ·rename_i c
  refine zN7 g (λhb o' es' ep' t' h1' h3'=>?_) λes' mz hp'=>h es' s.heap mz hp' (SameBut.refl f s.heap) gf
  rw[h1] at h1'
  cases h1'
  rw[h3] at h3'
  cases h3'
  rw[hb] at c
  simp only[ad7,abp,aar,decide_eq_true_eq] at c
  rcases c with⟨_,c⟩|c
  ·rw[c];rfl
  ·rw[decide_eq_false (by omega),aev]
 ·refine aam (zLa (knd:=knd) (dec:=dec) (led:=zT w) (a::others) (λb hb=>(mem_cons.mp hb).elim (λe=>e▸⟨ks,g⟩) (hs b)) hn ?_)
  simp only[aby,aax,↓reduceIte]
  refine aam (ad6 ?_)
  obtain⟨of,ef,epf,tf,f1,f2,f3,ff,fl,tbf,YH,fp⟩:=gf.size
  refine aam (aaz f1 f3 ff ?_)
  dsimp only
  split
  ·have gl:=gf.len
   refine aam (ace f1 f3 ?_ (acd (by rw[fl];exact gl)))
   obtain⟨_,_,_,_,e1,_,_,_,_,nd,hb,_,_⟩:=gf
   refine aan (h es _ hel hp (SameBut.update _ f _) ⟨_,ef,_,_,Ie (es':=ef) (t':=_) f1 f3,f2,rfl,YH,fp,nd,?_,?_,?_⟩)
   ·rw[fl];exact gl
   ·exact ff
   ·refine⟨?_,λz=>?_⟩
    ·show(tf.led&&t.led)=_
     rw[tbf.led,tb.led,ae1]
    ·exact tbf.rz (Bool.and_eq_true_iff.mp z).1
  ·exact aan (h es s.heap hel hp (SameBut.refl f s.heap) gf)
theorem zGg(hdec:∀k v,knd.is k v=true->dec v=k)(id:String)(hn:∀k v,knd.is k v=true->∀b,v≠.ref b)(YJ:x≠r)(Vy:y≠r)(gx:Good knd dec (zT w) s.heap x ka)(gy:Good knd dec (zT w) s.heap y ky)(gr:Good knd dec (zT w) s.heap r []){Q:Unit->Shared->Prop}(h:∀(h':Heap) (kr:List κ),SameBut r s.heap h'->Good knd dec (zT w) h' r kr->(∀k,k∈kr↔k∈ka/\k∈ky)->Q () { s with heap:=h' }) :
  wpAny (model prog w) A (do
   let was <-setEpoch y
   for (h,x') in <-setWalkUnseen y [x,r] (some r) do
    holding [x'] do
     if(<-setFind x x' h).isSome then
      let _ <-setAddHashed r x' h
    aa8 id y was) Q E s:=by
 obtain⟨o,es,ep,t,h1,h2,h3,hf,hl,tb,hel,hp⟩:=gy.size
 refine aam (abt h1 h3 hf ?_)
 refine aam (YG gy gr (λb hb=>(mem_cons.mp hb).elim (λe=>e▸⟨ka,gx⟩) λe=>(mem_singleton.mp e)▸⟨[],gr⟩) hn λes' h' mz hp' sb RT=>?_)
 rw[<-forIn_toList]
 have ln:es'.toList.length=ky.length:=by rw[<-hp'.length_eq,length_map]
 refine aam (ab4 (acy (β:=Unit) _ (λl _ s'=>∃h2 kr,s'={ s with heap:=h2 }/\SameBut r s.heap h2/\Good knd dec (zT w) h2 r kr/\ElemsOf knd l/\kr.length+l.length<=ky.length/\∀k,(k∈kr\/(k∈ka/\k∈l.map λe=>dec e.2))↔(k∈ka/\k∈ky)) (λ_ s'=>∃h2 kr,s'={ s with heap:=h2 }/\SameBut r s.heap h2/\Good knd dec (zT w) h2 r kr/\∀k,k∈kr↔k∈ka/\k∈ky) ?turn ?fin es'.toList () ⟨h',[],rfl,sb,RT,mz,by rw[ln,length_nil];omega,λk=>?_⟩) ?post (λ_ _ h=>h))
 case turn =>
  rintro⟨hs,v⟩ l b s' ⟨h2,kr,rfl,jF,g2,hl2,hlen,hm⟩
  obtain⟨⟨k,hk,hh⟩,hsc⟩:=hl2 _ mem_cons_self
  dsimp only at hk hh hsc ⊢
  subst hh
  have kx:∀o,s.heap.get? x=some o->h2.get? x=some o:=λo e=>by rw[jF.2 x YJ];exact e
  have ky':∀o,s.heap.get? y=some o->h2.get? y=some o:=λo e=>by rw[jF.2 y Vy];exact e
  have YK:=gx.keep kx
  have dv:dec v=k:=hdec k v hk
  rw[length_cons] at hlen
  have cont:∀(h3':Heap)(z_:List κ),SameBut r s.heap h3'->Good knd dec (zT w) h3' r z_->z_.length+l.length<=ky.length->(∀c,(c∈z_\/(c∈ka/\c∈l.map λe=>dec e.2))↔(c∈ka/\c∈ky)) ->
    wpAny (model prog w) A (aa8 id y ep) (λ_ s''=>wpAny (model prog w) A (pure (acf ())) (λq s''=>match q with|.yield _=>∃h2 kr,s''={ s with heap:=h2 }/\SameBut r s.heap h2/\Good knd dec (zT w) h2 r kr/\ElemsOf knd l/\kr.length+l.length<=ky.length/\∀k,(k∈kr\/(k∈ka/\k∈l.map λe=>dec e.2))↔(k∈ka/\k∈ky)|.done _=>∃h2 kr,s''={ s with heap:=h2 }/\SameBut r s.heap h2/\Good knd dec (zT w) h2 r kr/\∀k,k∈kr↔k∈ka/\k∈ky) E s'') E { s with heap:=h3' }:=λh3' z_ qC g3 l3 m3=>by
   unfold aa8
   refine aam (abt (s:={ s with heap:=h3' }) (by show h3'.get? y=_;rw[qC.2 y Vy];exact h1) h3 hf ?_)
   simp only[bne_self_eq_false,aax,↓reduceIte]
   exact aan (aan ⟨h3',z_,rfl,qC,g3,λe he=>hl2 e (mem_cons_of_mem _ he),l3,m3⟩)
  refine aam (abf (aam (wpAny_setFind_of (s:={ s with heap:=h2 }) hk hsc (YK.setOf hdec) λq hq=>?_)))
  cases q with
  |none =>
   have nk:k∉ka:=by simpa using hq.symm
   simp only[Option.isSome_none,aax,↓reduceIte]
   refine aan (aam (cont h2 kr jF g2 (by omega) λc=>?_))
   rw[<-hm c,map_cons,mem_cons]
   show _↔(c∈kr\/c∈ka/\(c=dec v\/_))
   rw[dv]
   constructor
   ·rintro(z|⟨z1,z2⟩)
    ·exact .inl z
    ·exact .inr ⟨z1,.inr z2⟩
   ·rintro(z|⟨z1,z2|z2⟩)
    ·exact .inl z
    ·exact absurd (z2▸z1) nk
    ·exact .inr ⟨z1,z2⟩
  |some j =>
   have mk:k∈ka:=by simpa using hq.symm
   simp only[adp,↓reduceIte]
   refine aam (Vr (led:=zT w) (s:={ s with heap:=h2 }) hdec hk hsc g2 (by have:=gy.len;omega) λh3' b' qC g3=>?_)
   refine aan (aam (cont h3' _ (jF.trans qC) g3 ?_ λc=>?_))
   ·split
    ·omega
    ·rw[length_cons];omega
   ·rw[<-hm c,map_cons,mem_cons]
    show _↔(c∈kr\/c∈ka/\(c=dec v\/_))
    rw[dv]
    have e:c∈(if k∈kr then kr else k::kr)↔c=k\/c∈kr:=by
     split
     ·rename_i z
      exact⟨.inr,λq=>q.elim (λq=>q▸z) λq=>q⟩
     ·exact mem_cons
    rw[e]
    constructor
    ·rintro((z|z)|⟨z1,z2⟩)
     ·exact .inr ⟨z▸mk,.inl z⟩
     ·exact .inl z
     ·exact .inr ⟨z1,.inr z2⟩
    ·rintro(z|⟨z1,z2|z2⟩)
     ·exact .inl (.inr z)
     ·exact .inl (.inl z2)
     ·exact .inr ⟨z1,z2⟩
 case fin =>
  rintro b s' ⟨h2,kr,rfl,jF,g2,_,_,hm⟩
  refine⟨h2,kr,rfl,jF,g2,λk=>?_⟩
  rw[<-hm k]
  simp
 case post =>
  rintro b s' ⟨h2,kr,rfl,jF,g2,hm⟩
  exact aan (h h2 kr jF g2 hm)
 ·rw[hp'.mem_iff]
  simp
theorem YL(hT:s.TypeIs (.ref a) "set"){Q:Value->Shared->Prop}(h:Q (.type "set") s):wpAny (model prog w) A (Builtin.Frozenset.baseOf a) Q E s:=by
 unfold Builtin.Frozenset.baseOf
 refine aam (ad5 (T:="set") (b:=true) hT aer ?_)
 exact aan h
theorem YM{Q:Value->Shared->Prop}(h:Q (.ref s.heap.objs.size) { s with heap:=s.heap.push { cls:=.type "set",dict:=none,data:=.set #[] 0 (.fresh 0 0 (zT w)) } }):wpAny (model prog w) A (newSet (.type "set")) Q E s:=by
 unfold newSet setsByText
 refine aam (aam (adg (aan ?_)))
 dsimp only
 simp only[newObj]
 exact aam (wpAny_alloc (aan h))
theorem zTh(hdec:∀k v,knd.is k v=true->dec v=k)(id:String)(hn:∀k v,knd.is k v=true->∀b,v≠.ref b)(hab:b≠a)(ga:Good knd dec (zT w) s.heap a ka)(gb:Good knd dec (zT w) s.heap b kb){Q:Value->Shared->Prop}(h:∀(h':Heap) (kr:List κ),Good knd dec (zT w) h' s.heap.objs.size kr->(∀k,k∈kr↔k∈ka/\k∈kb)->(∀c o,c<s.heap.objs.size->s.heap.get? c=some o->h'.get? c=some o)->Q (.ref s.heap.objs.size) { s with heap:=h' }) :
  wpAny (model prog w) A (Builtin.Frozenset.intersection id a (.ref b)) Q E s:=by
 have la:a<s.heap.objs.size:=by obtain⟨o,_,_,_,h1,_⟩:=ga;exact lt_size h1
 have lb:b<s.heap.objs.size:=by obtain⟨o,_,_,_,h1,_⟩:=gb;exact lt_size h1
 unfold Builtin.Frozenset.intersection
 rw[if_neg (λe=>hab (aem (abu e)))]
 refine aam (YL ga.type (aam (YM ?_)))
 refine aam (aan ?_)
 have up:∀c o,s.heap.get? c=some o->(s.heap.push { cls:=.type "set",dict:=none,data:=.set #[] 0 (.fresh 0 0 (zT w)) }).get? c=some o:=λc o e=>get?_push_of_some _ e
 have Ii:=ga.keep (up a)
 have Ij:=gb.keep (up b)
 have O_:Good knd dec (zT w) (s.heap.push { cls:=.type "set",dict:=none,data:=.set #[] 0 (.fresh 0 0 (zT w)) }) s.heap.objs.size []:=RN (get?_push_size _ rfl)
 generalize hp:s.heap.push { cls:=.type "set",dict:=none,data:=.set #[] 0 (.fresh 0 0 (zT w)) }=hq at up Ii Ij O_ ⊢
 have fin:∀(h':Heap)(kr:List κ),SameBut s.heap.objs.size hq h'->Good knd dec (zT w) h' s.heap.objs.size kr->(∀k,k∈kr↔k∈ka/\k∈kb)->Q (.ref s.heap.objs.size) { s with heap:=h' }:=λh' kr sb g m =>
  h h' kr g m λc o hc e=>by rw[sb.2 c (aau hc)];exact up c o e
 refine aam (abf (aam (Cg (s:={ s with heap:=hq }) (Good.type (s:={ s with heap:=hq }) Ij) ?_)))
 simp only[↓reduceIte]
 refine aam (aan ?_)
 refine aam (O9 (s:={ s with heap:=hq }) Ij (aam (O9 (s:={ s with heap:=hq }) Ii ?_)))
 split
 ·exact zGg (s:={ s with heap:=hq }) hdec id hn (aau lb) (aau la) Ij Ii O_ λh' kr sb g m=>aan (fin h' kr sb g λk=>by rw[m k,and_comm])
 ·exact zGg (s:={ s with heap:=hq }) hdec id hn (aau la) (aau lb) Ii Ij O_ λh' kr sb g m=>aan (fin h' kr sb g m)
theorem Lg(hdec:∀k v,knd.is k v=true->dec v=k)(hn:∀k v,knd.is k v=true->∀b,v≠.ref b)(hab:b≠a)(ga:Good knd dec (zT w) s.heap a ka)(gb:Good knd dec (zT w) s.heap b kb){Q:Value->Shared->Prop}(h:∀(h':Heap) (kr:List κ),Good knd dec (zT w) h' s.heap.objs.size kr->(∀k,k∈kr↔k∈ka/\k∈kb)->(∀c o,c<s.heap.objs.size->s.heap.get? c=some o->h'.get? c=some o)->Q (.ref s.heap.objs.size) { s with heap:=h' }) :
  wpAny (model prog w) A (binaryOp .BitAnd (.ref a) (.ref b)) Q E s:=by
 refine aeb (op:=.BitAnd) (T:="set") ga.type gb.type F.fills_set_and F.slot_set_and (ab9 F.slot_set_and ga.type zGy ?_ (F.args_set_and_2 _ _))
 refine aam (m:=ab1 "__and__" ⟨[.ref a,.ref b],[]⟩) ?_
 unfold ab1 slotArgs
 refine aan ?_
 dsimp only
 refine aam (aam (Cg ga.type ?_))
 refine Cg gb.type ?_
 simp only[aby,aax,↓reduceIte]
 refine aam (aan (aam (zTh hdec _ hn hab ga gb λh' kr g m k=>aan ⟨.ref s.heap.objs.size,rfl,?_,h h' kr g m k⟩)))
 exactλz=>aej z
end
end qy
namespace L2
open PySem PySem.Spec PyProof.Rows qy
section
variable{X:Cx}
def Ik(ta tb:Ef):Ef:=λσ H Q=>ta σ H λks H1=>tb σ H1 λjs H2=>∀rs:LI,rs.Nodup->(∀z,z∈rs↔z∈ks/\z∈js)->Q rs H2
theorem Ej(ha:zy X a ta)(hb:zy X b tb):zy X (.BinOp a .BitAnd b pos) (Ik ta tb):=by
 intro pins s σ H Q I h
 refine aez (aP (ha pins s σ H _ I h) λu s1 ⟨p,ks,H1,e,I1,g,fo,h1⟩=>?_)
 subst e
 obtain⟨o,es,ep,t,go,gx,gd,_⟩:=id g
 have RV:=I1.pinned (fp:=[p]) (λb hb=>by rw[mem_singleton.mp hb];exact fo) (λb hb=>by
  rw[mem_singleton.mp hb]
  exact⟨o,go,λv z=>by rw[gd] at z;cases z⟩)
 refine aP (hb _ s1 σ H1 _ RV h1) λu2 s2 ⟨p2,js,H2,e2,I2,g2,RW,q2⟩=>?_
 subst e2
 have pm:(p,o)∈X.pn++(pins++G_ [p] s1.heap):=mem_append_right _ (mem_append_right _ (vP (mem_singleton.mpr rfl) go))
 have kp:s2.heap.get? p=some o:=(I2.pin (p,o) pm).1
 have g1:=g.keep (h':=s2.heap) λo' e'=>by rw[go] at e';cases e';exact kp
 have ne:p2≠p:=acg (RW.2.2.2.2.2 (p,o) pm)
 have I3:=I2.fK
 refine Lg Vw (λk v hk b z=>?_) ne g1 g2 λh' kr g3 m k=>?_
 ·obtain⟨t,rfl⟩:=acs hk
  cases z
 ·have I4:=I3.kept (h':=h') (t':=s2.toks) λb o e=>k b o (lt_size e) e
  obtain⟨_,_,_,_,_,_,_,_,_,nd,_⟩:=id g3
  exact⟨_,kr,H2,rfl,I4,g3,I3.lF (aaq _) (I3.hok.fresh (aaq _)),q2 kr nd m⟩
end
end L2
namespace Ts
open PySem L2
def Vz(ns ms:LI):Option LI:=if(ns.length<64\/ms.length<64)/\ns.length<4000/\ms.length<4000 then some (wS (ns.filter λz=>decide (z∈ms))) else none
section
variable{K:PySem.W.Frag}{B:Bs}{sl:SL K}{md:Md}{t1 t2:TE}
theorem zNv(h1:Ex B sl .hp t1 m1)(h2:Ex B sl .hp t2 m2):Eo B sl md (RQ (Ik (Ig K t1) (Ig K t2))) (m1.bind λa=>m2.bind λb=>Vz a b):=λc hc F O H σ Q s k=>by
 obtain⟨ns,ms,ha,hb,hf⟩:=qg hc
 unfold Vz at hf
 split at hf
 case isFalse=>cases hf
 rename_i hl
 cases hf
 refine h1 ns ha F O H σ _ s λv F' H' g r1=>?_
 obtain⟨p,vs,rfl,z1,z2⟩:=r1
 have z3:vs=ns.map V.int:=z2.vals
 subst z3
 refine⟨p,ns,rfl,aV.of z1,hl.2.1,λks nd hm=>?_⟩
 refine h2 ms hb F' O H' σ _ (s.grow g) λw F2 H2 g2 r2=>?_
 obtain⟨p',vs',rfl,y1,y2⟩:=r2
 have y3:vs'=ms.map V.int:=y2.vals
 subst y3
 refine⟨p',ms,rfl,aV.of y1,hl.2.2,λjs jd hj rs rd hr=>⟨hl.1.elim (aav (Eh rd λz hz=>(hm z).mp ((hr z).mp hz).1)) (aav (Eh rd λz hz=>(hj z).mp ((hr z).mp hz).2)),λl us hn p1 p2=>?_⟩⟩
 have e:us=wS (ns.filter λz=>decide (z∈ms)):=Ih (vQ p2 (p1.nodup_iff.mpr rd)) (uX _) λz=>by rw[p1.mem_iff,hr,hm,hj,bL,mem_filter,decide_eq_true_iff]
 subst e
 exact k l _ F2 H2 (g.trans g2) hn (HF _)
end
end Ts
namespace L2
open PySem PySem.Spec PyProof.Rows
section
variable{X:Cx}
theorem Il:Ur X .BitOr (Us λi j=>ac4 i j):=by
 intro pins s σ H x y v u Q I r1 r2 h
 obtain⟨i,j,e1,e2,q⟩:=h
 subst e1;subst e2
 obtain⟨t,rfl⟩:=r1
 obtain⟨t',rfl⟩:=r2
 exact ior_int ⟨.int _,H,I.tok _,⟨_,rfl⟩,q⟩
def Im(K:PySem.W.Frag):V->V->Hp->VK->Prop:=λx y H Q=>∃p xs i v,x=.ref p/\y=.int i/\0<=i/\aV K H p xs/\cu xs i=some v/\Q v H
theorem zQl(K:PySem.W.Frag)(h:X.K=K:=by rfl):Qp X (Im K):=by
 subst h
 intro pins s σ H o i ov iv Q I rx ry h
 obtain⟨p,xs,i,z,rfl,rfl,h0,hq,he,q⟩:=h
 cases rx
 obtain⟨t,rfl⟩:=ry
 obtain⟨its,r,pl,hz⟩:=I.list hq
 obtain⟨j,h1,h2,h3,h4,h5⟩:=Xd he
 obtain⟨w,ew,QF⟩:=r.get h2
 have hl:=r.length
 have hn:=JW
 have hj:i.toNat=j:=by
  rw[aex h0 h5] at h1
  exact aas h1
 exact wpAny_getItem_list pl.isList h0 (by omega) (by rw[hj];simpa using ew) ⟨z,H,I,QF,q⟩
theorem YQ(K:PySem.W.Frag)(ha:PE X a ta)(hK:X.K=K:=by rfl)(he:∀whole,isTrue a X.env whole=(do let v <-whole;standAt a.pos;holding [v] (truthy v)):=by intro _;rfl) :
  PT X a (λσ H Q=>ta σ H λx H'=>∃k,CT K x H' k/\Q k H'):=by
 subst hK
 exact zSr ha he
def tLR(ta:TA):TE:=λσ H Q=>ta σ H λvs H1=>∃j:Int,vs=[.int j] /\ -(2^62)<=j/\j<1000000/\∀l,H1 l=none->Q (.ref l) (upd H1 l (.lst (((aa1 j.toNat).map ada).map V.int)))
theorem Ek{acc:List Value}:∀{ns:LI},acc.length=ns.length->(∀(i:Nat)(v:Value),acc[i]?=some v->∃t:Tok,v=ab3 (ns.getD i 0) t)->IntsAre acc ns:=by
 induction acc with
 |nil =>
  intro ns h _
  cases ns with
  |nil=>exact .nil
  |cons n ns=>simp at h
 |cons v acc ih =>
  intro ns h g
  cases ns with
  |nil=>simp at h
  |cons n ns =>
   obtain⟨t,e⟩:=g 0 v rfl
   subst e
   exact .cons n t (ih (by simpa using h) λi v hv=>g (i+1) v hv)
theorem zSv(hc:X.calm=true)(hg:Gl X "list")(hm:X.mg "list" = none)(hg2:Gl X "range")(hm2:X.mg "range" = none)(ha:PA X [a] ta)(hs:starEach [a] X.env=[(false,eval a X.env)]:=by rfl)(hs2:starEach [Expr.Call (.Name "range" p2) [a] [] pos2] X.env=[(false,eval (Expr.Call (.Name "range" p2) [a] [] pos2) X.env)]:=by rfl):PE X (.Call (.Name "list" p) [.Call (.Name "range" p2) [a] [] pos2] [] pos) (tLR ta):=by
 intro pins s σ H Q I h
 refine abw (Bu I hg hm (by decide +kernel:bootBuiltins "list" = some (.type "list")) ?_)
 refine abm ?_ hs2 rfl
 rw[hs2]
 show wpAny _ _ (spliced ((false,eval (Expr.Call (.Name "range" p2) [a] [] pos2) X.env)::backTo pos [])) _ _ s
 refine aec (abw (Bu I hg2 hm2 boot_range (abm (aP (ha pos2 pins s σ H _ I h) λus s1 ⟨vs,H1,I1,r1,q1⟩=>?_) hs rfl)))
 obtain⟨j,e,q1,q2,q⟩:=q1
 subst e
 cases r1 with
 |cons r rr =>
  cases rr
  obtain⟨t,rfl⟩:=r
  refine call_range_1 (aee ?_)
  have I2:Inv X pins σ H1 { s1 with heap:=s1.heap.push { cls:=.type "range",data:=.fields #[.int 0 s1.toks,.int j t,.int 1 (s1.toks+1)] },toks:=s1.toks+1+1 }:=I1.kept λb o e=>get?_push_of_some _ e
  refine call_list_range (n:=j.toNat) (I2.ok.hd hc) (IsRange.new ..) (small_one (by omega) (by omega) q1 (by omega)) (by rw[rangeSize_one];split<;>omega) (by omega) λh' tk acc' c' hk hS hacc=>?_
  have hI:IntsAre acc'.toList ((aa1 j.toNat).map ada):=Ek (by rw[length_toList,hacc.1,length_map,length_range]) λi v hv=>by
   rw[getElem?_toList] at hv
   obtain⟨t',rfl⟩:=hacc.2 i v hv
   have hi:i<j.toNat:=by
    have:=(Array.getElem?_eq_some_iff.mp hv).1
    rw[hacc.1] at this
    exact this
   refine⟨t',?_⟩
   have e:((aa1 j.toNat).map ada).getD i 0=(i:Int):=by
    rw[getD_eq_getElem?_getD,getElem?_map,getElem?_range hi]
    rfl
   rw[e]
   simp
  refine⟨.ref _,_,I2.laid (h':=h') (t':=tk) (o:=.lst (((aa1 j.toNat).map ada).map V.int)) (λb ob w=>hk b ob w) (aaq _) ?_,rfl,q _ (I2.hok.fresh (aaq _))⟩
  refine⟨?_,acc'.toList,c',uW hI,?_⟩
  ·rw[length_map,length_map,length_range]
   exact aa0 (show j.toNat<=1000000 by omega) (by decide)
  ·rw[toArray_toList];exact hS
end
end L2
namespace Ts
open PySem L2
def tZ(a b:Int):Option Int:=if 0<=b/\b<=1000000/\a.natAbs<2^64 then some (a*2^b.toNat) else none
def jr(a b:Int):Option Int:=if 0<=b then some (a/2^b.toNat) else none
section
variable{K:PySem.W.Frag}{B:Bs}{sl:SL K}{md:Md}{t t1 t2 te:TE}{m1 m2:Option Int}
theorem RX(h1:Ex B sl .hp t1 m1)(h2:Ex B sl .hp t2 m2):Ex B sl md (jE (qW λi j=>.int (aa7 i j)) t1 t2) (m1.bind λa=>m2.bind λb=>some (aa7 a b)):=Ve (λ_ _=>rfl) h1 h2
theorem Lh(h1:Ex B sl .hp t1 m1)(h2:Ex B sl .hp t2 m2):Ex B sl md (jE (rI Qt λi j=>.int (i*2^j.toNat)) t1 t2) (m1.bind λa=>m2.bind λb=>tZ a b) :=
 BW (f:=tZ) (λa b c v w H Q e r1 r2 q=>by
  unfold tZ at e
  split at e
  case isFalse=>cases e
  rename_i hc
  cases e;cases r1;cases r2
  exact⟨a,b,rfl,rfl,hc,q⟩) h1 h2
theorem VB(h1:Ex B sl .hp t1 m1)(h2:Ex B sl .hp t2 m2):Ex B sl md (jE (rI (λ_ j=>0<=j) λi j=>.int (i/2^j.toNat)) t1 t2) (m1.bind λa=>m2.bind λb=>jr a b) :=
 BW (f:=jr) (λa b c v w H Q e r1 r2 q=>by
  unfold jr at e
  split at e
  case isFalse=>cases e
  rename_i hc
  cases e;cases r1;cases r2
  exact⟨a,b,rfl,rfl,hc,q⟩) h1 h2
theorem YS{m:Option Int}(h:Ex B sl .hp t m):Et B sl (λσ H Q=>t σ H λx H'=>∃k,CT K x H' k/\Q k H') (m.bind λi=>some (i != 0)):=λc hc F O H σ Q s k=>by
 cases m with
 |none=>cases hc
 |some i =>
  cases(show some (i != 0)=some c from hc)
  refine h i rfl F O H σ _ s λv F' H' g r=>?_
  cases r
  exact⟨_,rfl,k F' H' g⟩
def Pa(n:Int):Option LI:=if -(2^62)<=n/\n<1000000 then some ((aa1 n.toNat).map ada) else none
theorem zTs(h:Ex B sl .hp t m):Eo B sl md (tLR (yM t bh)) (m.bind Pa):=λc hc F O H σ Q s k=>by
 cases m with
 |none=>cases hc
 |some n =>
  have hc:Pa n=some c:=hc
  unfold Pa at hc
  split at hc
  case isFalse=>cases hc
  rename_i hl
  cases hc
  refine h n rfl F O H σ _ s λv F' H' g r1=>?_
  cases r1
  exact⟨n,rfl,hl.1,hl.2,λl hn=>k l _ F' H' g hn (HF _)⟩
def Aa(xs ys:LI):Option LI:=if xs.length+ys.length<cap then some (xs++ys) else none
theorem zOu(i:Nat)(hs:sl[i]?=some (.ow n xs))(hh:sl.all (λs=>!cJ s)=true)(h:Ex B sl .hp te m) :
  Sn B sl (Oa (Ol K "list" Xk (cj i) (yM te bh))) (λys=>sl.set i (.ow n ys)) (m.bind λa=>Aa xs a):=λys ha G D σ H s k=>by
 cases m with
 |none=>cases ha
 |some a =>
  have ha':Aa xs a=some ys:=ha
  unfold Aa at ha'
  split at ha'
  case isFalse=>cases ha'
  rename_i hl
  cases ha'
  obtain⟨F,O,g,z⟩:=s
  obtain⟨p,vs,h1,h2,h3,_⟩:=z.chg hs hh
  refine⟨_,h1,.inl ⟨rfl,_,aV.of h2⟩,?_⟩
  refine h a rfl F O H σ _ z λv F' H' gr r=>?_
  obtain⟨p',vs',h1',h2',h3',h4'⟩:=(z.grow gr).chg hs hh
  have e:=h1.symm.trans h1'
  cases e
  obtain⟨q,us,rfl,z1,z2⟩:=r
  have z3:us=a.map V.int:=z2.vals
  subst z3
  have e3:vs'=xs.map V.int:=h3'.vals
  subst e3
  obtain⟨O',z'⟩:=h4' (xs.map V.int++a.map V.int) (xs++a) (by rw[<-map_append];exact HF _)
  exact⟨p,q,_,_,rfl,rfl,h2',z1,by rw[length_map,length_map];exact acq (BX hl),k _ _ ⟨F',O',g.trans gr.ff,z'⟩⟩
def Em(f:Int->Int->Int)(xs:LI)(ix:Int)(y:Int):Option LI:=if 0<=ix then(L2.cu xs ix).bind λx=>tX xs ix (f x y) else none
theorem zSf(i:Nat)(hs:sl[i]?=some (.ow n xs))(hh:sl.all (λs=>!cJ s)=true)(hi:Ex B sl .hp ti mi)(hv:Ex B sl .hp te m) :
  Sn B sl (G8 (cj i) ti te (Im K) (Us f) yh) (λys=>sl.set i (.ow n ys)) (mi.bind λk=>m.bind λa=>Em f xs k a):=λys ha G D σ H s k=>by
 obtain⟨ix,a,e1,e2,ha'⟩:=qg ha
 unfold Em at ha'
 split at ha'
 case isFalse=>cases ha'
 rename_i h0
 obtain⟨x,ex,ha'⟩:=Option.bind_eq_some_iff.mp ha'
 obtain⟨F,O,g,z⟩:=s
 obtain⟨p,vs,h1,h2,h3,_⟩:=z.chg hs hh
 refine⟨_,h1,?_⟩
 refine hi ix e1 F O H σ _ z λv F' H' gr r=>?_
 cases r
 obtain⟨p',vs',h1',h2',h3',h4'⟩:=(z.grow gr).chg hs hh
 have e:=h1.symm.trans h1'
 cases e
 obtain⟨xv,exv,rx⟩:=h3'.cu ex
 have rx:xv=.int x:=Sc.is.mp rx
 subst rx
 refine⟨p,vs',ix,_,rfl,rfl,h0,aV.of h2',exv,?_⟩
 refine hv a e2 F' O H' σ _ (z.grow gr) λw F2 H2 sO rw=>?_
 cases rw
 obtain⟨p2,vs2,y1,y2,y3,y4⟩:=((z.grow gr).grow sO).chg hs hh
 have e:=h1.symm.trans y1
 cases e
 refine⟨x,a,rfl,rfl,?_⟩
 unfold tX at ha'
 cases ej:sI xs.length ix with
 |none=>rw[ej] at ha';cases ha'
 |some jj =>
  rw[ej] at ha'
  cases ha'
  obtain⟨O',z'⟩:=y4 (vs2.set jj (.int (f x a))) (xs.set jj (f x a)) (y3.set (Sc.is.mpr rfl) jj)
  exact⟨p,vs2,ix,jj,rfl,rfl,y2,by rw[y3.len,ej],k _ _ ⟨F2,O',(g.trans gr.ff).trans sO.ff,z'⟩⟩
end
section
variable{K:PySem.W.Frag}{B:Bs}{sl:SL K}{F H H2:Hp}{O:Own}{σ:St}{te:TE}
end
section
variable{K:PySem.W.Frag}{B:Bs}{sl sl2:SL K}{G F H:Hp}{O:Own}{σ:St}{te:TE}
inductive YT{α:Type}[Rp K α](kvs:List (Key×α)):SL K->SL K->Prop
 |here {a:SL K}:YT kvs (.od kvs::a) (.fz false (Dc.mk kvs)::a)
 |skip {s:Slot K} {a b:SL K}:YT kvs a b->YT kvs (s::a) (s::b)
end
section
variable{K:PySem.W.Frag}{B:Bs}{sl:SL K}{md:Md}{t t2:TE}{α β:Type}[Rp K α][Rp K β]
end
def mG{α:Type}(xs:List α)(lo hi:Option Int):List α:=(xs.drop (HT.cT xs.length 0 lo)).take (HT.cT xs.length xs.length hi-HT.cT xs.length 0 lo)
def t_{α:Type}(xs ys:List α):Option (List α):=if xs.length+ys.length<=cap then some (xs++ys) else none
section
variable{P:Program}{w:World}{K:PySem.W.Frag}{mg:Str->Option Value}{base:Heap}{B:Bs}{sl:SL K}{md:Md}{α β:Type}[Rp K α][Rp K β]{tA:Addr}{tO:HO}{te t1 t2:TE}
theorem A2.cut(h:A2 R vs xs)(lo hi:Option Int):A2 R (qp vs lo hi) (mG xs lo hi):=by
 unfold qp mG
 rw[h.len]
 exact(h.dr _).tk _
theorem zTv[Sc K α]{m:Option (List α)}{mi:Option Int}{ti:TE}(h:Ex B sl .hp te m)(hi:Ex B sl .hp ti mi):Eo B sl md (U0 (yj K) te (QC ti) Xa) (m.bind λxs=>mi.bind λi=>some (mG xs (some i) none)):=λc hc F O H σ Q s k=>by
 obtain⟨xs,i,hx,hi',hc⟩:=qg hc
 cases hc
 refine h xs hx F O H σ _ s λv F' H' g r=>?_
 refine hi i hi' F' O H' σ _ (s.grow g) λu F2 H2 g2 r2=>?_
 have r2:u=.int i:=r2
 obtain⟨p,vs,rfl,z1,z2⟩:=r
 exact⟨i,r2,p,vs,rfl,aV.of (g2.hh _ _ z1),λl hl=>k l _ F2 H2 (g.trans g2) hl (z2.cut _ _).sc⟩
theorem Li(K:PySem.W.Frag){X:Cx}(h:X.K=K:=by rfl):UW X (yj K):=by subst h;exact Di
end
section
variable{X:Cx}{pos pos':Pos}{x:Str}{e:Expr}{te:TE}
theorem xQ(i:Nat)(hN:X.N.Nodup)(he:PE X e te)(hi:X.N[i]?=some x:=by rfl)(hx:Loc X.env.scope x:=by first|exact .inl rfl|exact .inr rfl)(hs:swapsWith e (some (.Name x pos')) pos.line X.env=pure false:=by rfl)(hf:X.fn x=true\/X.env.scope.names.lookup x=some .local:=by first|exact .inl rfl|exact .inr rfl|assumption):PS X (.Assign [.Name x pos'] e pos) (lD te (ou i)):=G7 hN hi hx he hs hf
theorem cN(i:Nat)(hN:X.N.Nodup)(hi:X.N[i]?=some x:=by rfl)(hx:Loc X.env.scope x:=by first|exact .inl rfl|exact .inr rfl)(hf:X.fn x=true\/X.env.scope.names.lookup x=some .local:=by first|exact .inl rfl|exact .inr rfl|assumption):PG X (.Name x pos) (ou i):=yO hN hi hx hf
end
theorem esc{K:PySem.W.Frag}{B:Bs}{sl:SL K}{md:Md}{α:Type}[Rp K α][Sc K α]{t:TE}{m:Option α}(h:Ex B sl .hp t m):Ex B sl md t m:=h.sc
theorem fsc{N P:List Str}{s:Scope}(h1:s.kind=.function:=by rfl)(h2:s.isCoroutine=false:=by rfl)(h3:s.isGenerator=false:=by rfl)(h4:N.Nodup:=by decide +kernel)(h5:N.take P.length=P:=by rfl)(h6:∀x∈P,s.names.lookup x=some .local\/s.names.lookup x=some .cell:=by decide +kernel)(h7:∀y∈s.names,y.2≠.free:=by decide +kernel):ao N P s:=⟨h1,h2,h3,h4,h5,h6,h7⟩
section
variable{K:PySem.W.Frag}{x y:Str}{st:Stmt}{f:Addr}{fd:FuncData}{p0 p1 p2 p3 p4:Str}
theorem sV(F:aZ K x y st f fd)(h:∀kV dc pm an cd ct u0,bindArgs (fnOf x y (uC st) (xZ st) (zH st) .none kV dc pm an cd ct) ⟨[u0],[]⟩=pure [(p0,u0)]:=by intros;rfl):Binds K fd [p0] []:=F.binds λa b c d e g us hl=>match us,hl with|[u0],_=>h a b c d e g u0
theorem jG(F:aZ K x y st f fd)(h:∀kV dc pm an cd ct u0 u1,bindArgs (fnOf x y (uC st) (xZ st) (zH st) .none kV dc pm an cd ct) ⟨[u0,u1],[]⟩=pure [(p0,u0),(p1,u1)]:=by intros;rfl):Binds K fd [p0,p1] []:=F.binds λa b c d e g us hl=>match us,hl with|[u0,u1],_=>h a b c d e g u0 u1
theorem qD(F:aZ K x y st f fd)(h:∀kV dc pm an cd ct u0 u1 u2,bindArgs (fnOf x y (uC st) (xZ st) (zH st) .none kV dc pm an cd ct) ⟨[u0,u1,u2],[]⟩=pure [(p0,u0),(p1,u1),(p2,u2)]:=by intros;rfl):Binds K fd [p0,p1,p2] []:=F.binds λa b c d e g us hl=>match us,hl with|[u0,u1,u2],_=>h a b c d e g u0 u1 u2
theorem Lj(F:aZ K x y st f fd)(h:∀kV dc pm an cd ct u0 u1 u2 u3,bindArgs (fnOf x y (uC st) (xZ st) (zH st) .none kV dc pm an cd ct) ⟨[u0,u1,u2,u3],[]⟩=pure [(p0,u0),(p1,u1),(p2,u2),(p3,u3)]:=by intros;rfl):Binds K fd [p0,p1,p2,p3] []:=F.binds λa b c d e g us hl=>match us,hl with|[u0,u1,u2,u3],_=>h a b c d e g u0 u1 u2 u3
end
theorem bZ{K:PySem.W.Frag}{a b:SL K}(h:Le a b:=by repeat(first|exact Le.nil|refine Le.eq ?_|refine Le.un ?_|refine Le.fr ?_)):Le a b:=h
theorem iT{K:PySem.W.Frag}{a b:SL K}(h:qR a b:=by repeat(first|exact qR.nil|refine qR.eq ?_|refine qR.un ?_)):qR a b:=h
abbrev Slot.z{α:Type}[Rp K α](a:α):Slot K:=.fz false a
abbrev Slot.y{α:Type}[Rp K α](a:α):Slot K:=.fz true a
end Ts
namespace qy
open PySem PySem.SetTable
set_option maxRecDepth 100000
def VD(m:Nat):Nat->Nat->Nat
 |0,i=>i
 |t+1,i=>VD m t ((i*5+1)%m)
def seen(m:Nat):Nat->Nat->Nat->Nat
 |0,_,acc=>acc
 |t+1,i,acc=>seen m t ((i*5+1)%m) (acc|||1 <<< i)
theorem zK2(m j:Nat):∀(t i acc:Nat),(seen m t i acc).testBit j=true->acc.testBit j=true\/∃u,u<t/\VD m u i=j
 |0,i,acc,h=>.inl h
 |t+1,i,acc,h=>by
  rcases zK2 m j t _ _ h with z|⟨u,hu,e⟩
  ·rw[Nat.testBit_or,abp] at z
   rcases z with z|z
   ·exact .inl z
   ·rw[Nat.testBit_shiftLeft,aar,decide_eq_true_eq] at z
    obtain⟨z1,z2⟩:=z
    have:j-i=0:=by
     cases q:j-i with
     |zero=>rfl
     |succ n =>
      rw[q] at z2
      have:(1:Nat).testBit (n+1)=false:=Nat.testBit_lt_two_pow (aaw (by decide) (Nat.pow_le_pow_right (by decide) (ab2 (aa5 n))))
      rw[this] at z2
      cases z2
    exact .inr ⟨0,aeo _,by show i=j;omega⟩
  ·exact .inr ⟨u+1,Nat.succ_lt_succ hu,e⟩
def uc(m:Nat):Bool:=(aa1 m).all λi=>seen m m i 0==2^m-1
theorem Ep(h:uc m=true)(hi:i<m)(hj:j<m):∃u,u<m/\VD m u i=j:=by
 have q:=all_eq_true.mp h i (mem_range.mpr hi)
 have e:seen m m i 0=2^m-1:=by simpa using q
 have t:(seen m m i 0).testBit j=true:=by rw[e,Nat.testBit_two_pow_sub_one];simpa using hj
 rcases zK2 m j m i 0 t with z|z
 ·rw[Nat.zero_testBit] at z;cases z
 ·exact z
theorem RZ:uc 8=true:=by decide +kernel
theorem R3:uc 16=true:=by decide +kernel
theorem R5:uc 32=true:=by decide +kernel
theorem R7:uc 64=true:=by decide +kernel
theorem Lk:uc 128=true:=by decide +kernel
theorem Ln:uc 256=true:=by decide +kernel
theorem R8{owner:Array (Option Nat)}{mask i:Nat}(h:owner.getD i (some 0)=none):(aa1 (runEnd mask i+1-i)).find? (λk=>(owner.getD (i+k) (some 0)).isNone)≠none:=λe=>by
 have q:=List.find?_eq_none.mp e 0 (mem_range.mpr (by unfold runEnd;split<;>omega))
 apply q
 show(owner.getD (i+0) (some 0)).isNone=true
 rw[Nat.add_zero,h];rfl
theorem zIs{owner:Array (Option Nat)}{mask:Nat}:∀(fuel i p j:Nat),layClean.free mask owner fuel i p=some j->owner.getD j (some 0)=none
 |0,_,_,_,h=>by cases h
 |fuel+1,i,p,j,h=>by
  unfold layClean.free at h
  split at h
  ·rename_i k hk
   cases h
   have:=List.find?_some hk
   simpa using this
  ·exact zIs fuel _ _ j h
theorem zIt{owner:Array (Option Nat)}{mask j:Nat}(hj:owner.getD j (some 0)=none):∀(fuel u i:Nat),u<fuel->VD (mask+1) u i=j->layClean.free mask owner fuel i 0≠none
 |0,u,i,h,_=>absurd h (aci _)
 |fuel+1,0,i,_,e=>by
  have e':i=j:=e
  subst e'
  unfold layClean.free
  cases q:(aa1 (runEnd mask i+1-i)).find? λk=>(owner.getD (i+k) (some 0)).isNone with
  |none=>exact absurd q (R8 hj)
  |some k=>exactλz=>by cases z
 |fuel+1,u+1,i,h,e=>by
  unfold layClean.free
  cases q:(aa1 (runEnd mask i+1-i)).find? λk=>(owner.getD (i+k) (some 0)).isNone with
  |none=>exact zIt hj fuel u _ (Nat.lt_of_succ_lt_succ h) e
  |some k=>exactλz=>by cases z
theorem zLn{owner:Array (Option Nat)}{mask:Nat}(fuel:Nat)(h0:∀i,i<=mask->layClean.free mask owner fuel i 0≠none):∀(d i p:Nat),i<=mask->p<32^d->layClean.free mask owner (fuel+d) i p≠none
 |0,i,p,hi,hp=>by
  have e:p=0:=by rw[Nat.pow_zero] at hp;omega
  subst e
  exact h0 i hi
 |d+1,i,p,hi,hp=>by
  show layClean.free mask owner (fuel+d+1) i p≠none
  unfold layClean.free
  cases q:(aa1 (runEnd mask i+1-i)).find? λk=>(owner.getD (i+k) (some 0)).isNone with
  |none=>exact zLn fuel h0 d _ _ (ac6 (ae4 _ (aeo _))) (by rw[Nat.pow_succ] at hp;show p/32<_;omega)
  |some k=>exactλz=>by cases z
theorem Er{owner:Array (Option Nat)}{mask j:Nat}(hc:uc (mask+1)=true)(hs:j<=mask)(hj:owner.getD j (some 0)=none)(h:Int):∃k,layClean.free mask owner (turns mask) (bits h%(mask+1)) (bits h)=some k/\owner.getD k (some 0)=none:=by
 have q:layClean.free mask owner (mask+2+13) (bits h%(mask+1)) (bits h)≠none:=zLn (mask+2) (λi hi=>by
  obtain⟨u,hu,e⟩:=Ep hc (Nat.lt_succ_of_le hi) (Nat.lt_succ_of_le hs)
  exact zIt hj _ u i (by omega) e) 13 _ _ (ac6 (ae4 _ (aeo _))) (by unfold bits;have:=acz h (b:=2^64) (by decide);have:=ado h (b:=2^64) (by decide);omega)
 unfold turns
 cases e:layClean.free mask owner (mask+15) (bits h%(mask+1)) (bits h) with
 |none=>exact absurd e q
 |some k=>exact⟨k,rfl,zIs _ _ _ _ e⟩
theorem YW{α:Type}(v:α):∀(l:List (Option α))(j:Nat),l[j]?=some none->((l.set j (some v)).filterMap id).Perm (v::l.filterMap id)
 |[],j,h=>by simp at h
 |x::l,0,h=>by
  have e:x=none:=by simpa using h
  subst e
  exact .refl _
 |none::l,j+1,h=>by
  show((l.set j (some v)).filterMap id).Perm (v::l.filterMap id)
  exact YW v l j (by simpa using h)
 |some x::l,j+1,h=>by
  show(x::(l.set j (some v)).filterMap id).Perm (v::x::l.filterMap id)
  exact((YW v l j (by simpa using h)).cons x).trans (.swap _ _ _)
theorem zH0:∀(l:List (Option Nat)),(l.filterMap id).length<l.length->∃j,j<l.length/\l[j]?=some none
 |[],h=>by simp at h
 |none::l,_=>⟨0,by simp,rfl⟩
 |some x::l,h=>by
  obtain⟨j,hj,e⟩:=zH0 l (by simpa using h)
  exact⟨j+1,by simpa using hj,e⟩
theorem getD_none{owner:Array (Option Nat)}:owner.getD j (some 0)=none↔owner.toList[j]?=some none:=by
 rw[Array.getD_eq_getD_getElem?,getElem?_toList]
 cases owner[j]? with
 |none=>simp
 |some x=>simp
theorem zU3{mask:Nat}(hc:uc (mask+1)=true):∀(hs:LI)(owner:Array (Option Nat))(k:Nat),owner.size=mask+1->(owner.toList.filterMap id).Perm (aa1 k)->k+hs.length<=mask ->
  ∃q9,hs.foldl (λacc h=>do
   let(owner,k) <-acc
   let j <-layClean.free mask owner (turns mask) (bits h%(mask+1)) (bits h)
   pure (owner.setIfInBounds j (some k),k+1)) (some (owner,k))=some (q9,k+hs.length)/\q9.size=mask+1/\(q9.toList.filterMap id).Perm (aa1 (k+hs.length))
 |[],owner,k,h1,h2,h3=>⟨owner,rfl,h1,h2⟩
 |h::hs,owner,k,h1,h2,h3=>by
  obtain⟨j,hj,ej⟩:=zH0 owner.toList (by rw[h2.length_eq,length_range,length_toList,h1];rw[length_cons] at h3;omega)
  obtain⟨i,ei,fi⟩:=Er hc (owner:=owner) (j:=j) (by rw[length_toList,h1] at hj;omega) (getD_none.mpr ej) h
  have q:=zU3 hc hs (owner.setIfInBounds i (some k)) (k+1) (by rw[Array.size_setIfInBounds];exact h1) ?_ (by rw[length_cons] at h3;omega)
  ·obtain⟨o',e,z1,z2⟩:=q
   have ek:k+(h::hs).length=k+1+hs.length:=by rw[length_cons];omega
   refine⟨o',?_,z1,by rw[ek];exact z2⟩
   rw[ek,List.foldl_cons,<-e]
   refine congrArg (λz=>List.foldl _ z hs) ?_
   show(layClean.free mask owner (turns mask) (bits h%(mask+1)) (bits h)).bind _=_
   rw[ei]
   rfl
  ·rw[Array.toList_setIfInBounds,range_succ]
   exact((YW k owner.toList i (getD_none.mp fi)).trans (h2.cons k)).trans (List.perm_append_singleton k _).symm
theorem zIb:∀(l:List (Option Nat)),(aa1 l.length).filterMap (λj=>(l[j]?).getD none)=l.filterMap id
 |[]=>rfl
 |x::l=>by
  rw[length_cons,range_succ_eq_map,filterMap_cons,filterMap_map]
  have e:((λj=>((x::l)[j]?).getD none)∘Nat.succ)=λj=>(l[j]?).getD none:=rfl
  rw[e,zIb l]
  cases x<;>rfl
theorem zQa{mask:Nat}(hc:uc (mask+1)=true)(finger moves:Nat)(led plain:Bool)(hs:Array Int)(hn:hs.size<=mask) :
  ∃t order,laid mask finger moves led plain hs=some (t,order)/\order.toList.Perm (aa1 hs.size)/\t.place.size=hs.size/\t.dummies=#[]/\t.mask=mask/\t.led=led/\t.plain=plain/\Rz t.place:=by
 obtain⟨o',e,z1,z2⟩:=zU3 hc hs.toList (Array.replicate (mask+1) none) 0 (by rw[Array.size_replicate]) (by rw[Array.toList_replicate,List.filterMap_replicate_of_none rfl];exact .refl _) (by rw[acr,length_toList];exact hn)
 rw[acr,length_toList] at z2
 have el:layClean mask hs=some o':=by
  unfold layClean
  rw[<-Array.foldl_toList,e]
  rfl
 have eo:((aa1 (mask+1)).filterMap λj=>(o'.getD j none).map λk=>(j,k)).map (·.2)=o'.toList.filterMap id:=by
  rw[<-zIb o'.toList,length_toList,z1,List.map_filterMap]
  refine congrArg (λf=>filterMap f _) (funext λj=>?_)
  rw[Array.getD_eq_getD_getElem?,getElem?_toList]
  cases(o'[j]?).getD none<;>rfl
 refine⟨_,_,by unfold laid;rw[el];rfl,?_,?_,rfl,rfl,rfl,rfl,zH9 (λj=>o'.getD j none) _⟩
 ·show((aa1 (mask+1)).filterMap λj=>(o'.getD j none).map λk=>(j,k)).map (·.2) |>.Perm _
  rw[eo]
  exact z2
 ·show(((aa1 (mask+1)).filterMap λj=>(o'.getD j none).map λk=>(j,k)).map (·.1)).length=_
  rw[length_map,<-length_map (f:=(·.2)),eo,z2.length_eq,length_range]
theorem zT7(h:n<=255):∃m,sizeAbove n=m+1/\n<=m/\uc (m+1)=true/\m<=255:=by
 by_cases h1:n<8
 ·exact⟨7,by unfold sizeAbove;unfold sizeAbove.go;rw[if_neg (by omega)],by omega,RZ,by omega⟩
 by_cases h2:n<16
 ·exact⟨15,by unfold sizeAbove;unfold sizeAbove.go;rw[if_pos (by omega)];unfold sizeAbove.go;rw[if_neg (by omega)],by omega,R3,by omega⟩
 by_cases h3:n<32
 ·exact⟨31,by unfold sizeAbove;unfold sizeAbove.go;rw[if_pos (by omega)];unfold sizeAbove.go;rw[if_pos (by omega)];unfold sizeAbove.go;rw[if_neg (by omega)],by omega,R5,by omega⟩
 by_cases h4:n<64
 ·exact⟨63,by unfold sizeAbove;unfold sizeAbove.go;rw[if_pos (by omega)];unfold sizeAbove.go;rw[if_pos (by omega)];unfold sizeAbove.go;rw[if_pos (by omega)];unfold sizeAbove.go;rw[if_neg (by omega)],by omega,R7,by omega⟩
 by_cases h5:n<128
 ·exact⟨127,by unfold sizeAbove;unfold sizeAbove.go;rw[if_pos (by omega)];unfold sizeAbove.go;rw[if_pos (by omega)];unfold sizeAbove.go;rw[if_pos (by omega)];unfold sizeAbove.go;rw[if_pos (by omega)];unfold sizeAbove.go;rw[if_neg (by omega)],by omega,Lk,by omega⟩
 ·exact⟨255,by unfold sizeAbove;unfold sizeAbove.go;rw[if_pos (by omega)];unfold sizeAbove.go;rw[if_pos (by omega)];unfold sizeAbove.go;rw[if_pos (by omega)];unfold sizeAbove.go;rw[if_pos (by omega)];unfold sizeAbove.go;rw[if_pos (by omega)];unfold sizeAbove.go;rw[if_neg (by omega)],by omega,Ln,by omega⟩
open PySem PySem.Spec PyProof.Rows
set_option maxRecDepth 100000
section
variable{prog:Program}{w:World}{κ:Type}[DecidableEq κ]{knd:KeyKind prog w κ}{dec:Value->κ}{led:Bool}{A:Around}{E:Value->Shared->Prop}{s:Shared}
theorem zGb{α:Type}(es:Array α)(order:Array Nat)(h:order.toList.Perm (aa1 es.size)):(order.filterMap (es[·]?)).toList.Perm es.toList:=by
 rw[Array.toList_filterMap]
 refine(h.filterMap _).trans ?_
 have e:(aa1 es.size).filterMap (es[·]?)=es.toList:=by
  have:∀l:List α,(aa1 l.length).filterMap (λj=>l[j]?)=l:=λl=>by
   induction l with
   |nil=>rfl
   |cons x l ih =>
    rw[length_cons,range_succ_eq_map,filterMap_cons,filterMap_map]
    show x::filterMap (λj=>l[j]?) _=_
    rw[ih]
  have q:=this es.toList
  rw[length_toList] at q
  rw[<-q]
  refine congrArg (λf=>filterMap f _) (funext λj=>?_)
  rw[getElem?_toList]
 rw[e]
theorem zK8{Q:Unit->Shared->Prop}(ho:s.heap.get? a=some o)(hd:o.data=.set es ep t)(hf:t.fits es.size=true)(hw:wanted<=255)(hn:es.size<=wanted)(h:∀(es':Array (Int×Value)) (t':SetTable),es'.toList.Perm es.toList->t'.place.size=es.size->t'.dummies=#[]->wanted<=t'.mask->uc (t'.mask+1)=true->t'.led=t.led->Rz t'.place->Q () { s with heap:=s.heap.update a (ae5 es' t') }):wpAny (model prog w) A (setRelay a wanted) Q E s:=by
 obtain⟨m,e1,e2,e3,e4⟩:=zT7 hw
 unfold setRelay
 refine aam (aaz ho hd hf ?_)
 dsimp only
 rw[if_neg (by rw[e1];show¬m+1 > 2^24;omega)]
 obtain⟨t',order,q1,q2,q3,q4,q5,q6,q7,q8⟩:=zQa (mask:=m) e3 t.finger (t.movedTo m) t.led t.plain (es.map (·.1)) (by rw[size_map];omega)
 rw[size_map] at q2 q3
 have er:t.relaid (es.map (·.1)) wanted=some (t',order):=by
  unfold SetTable.relaid
  rw[e1]
  exact q1
 rw[er]
 have p:=zGb es order q2
 have sz:(order.filterMap (es[·]?)).size=es.size:=by rw[<-length_toList,p.length_eq,length_toList]
 refine aam (m:=(if((order.filterMap (es[·]?)).size != es.size)=true then unsupported "internal:set-table-lost-an-element" else pure (order.filterMap (es[·]?),t'))) ?_
 rw[if_neg (by rw[sz];simp)]
 refine aan ?_
 exact ace ho hd (h _ t' p q3 q4 (by rw[q5];exact e2) (by rw[q5];exact e3) q6 q8) (by rw[sz];show es.size<=2^24;omega)
theorem YX{t':SetTable}(h1:t'.place.size=n)(h2:t'.dummies=#[])(h3:wanted<=t'.mask)(h4:n<=wanted):t'.fits n=true:=by
 unfold fits ad8
 rw[h1,h2]
 simp
 omega
theorem zK7{Q:Unit->Shared->Prop}(g:Good knd dec led s.heap a ks)(hw:wanted<=255)(hn:ks.length<=wanted)(h:∀h',SameBut a s.heap h'->Good knd dec led h' a ks->Q () { s with heap:=h' }):wpAny (model prog w) A (setRelay a wanted) Q E s:=by
 obtain⟨o,es,ep,t,ho,hx,hd,hel,hp,nd,hb,hf,tb⟩:=g
 have ln:es.size=ks.length:=by rw[<-hp.length_eq,length_map,length_toList]
 refine zK8 ho hd hf hw (by rw[ln];exact hn) λes' t' p q3 q4 q5 q6 q7 q8=>h _ (SameBut.update _ a _) ?_
 have sz:es'.size=es.size:=by rw[<-length_toList,p.length_eq,length_toList]
 exact⟨_,es',_,t',Ie (es':=es') (t':=t') ho hd,hx,rfl,hel.perm p,(p.map _).trans hp,nd,by rw[sz];exact hb,by rw[sz];exact YX q3 q4 q5 (by rw[ln];exact hn),⟨q7.trans tb.led,λ_=>q8⟩⟩
theorem Es{Q:Unit->Shared->Prop}(g:Good knd dec led s.heap a ks)(hw:(ks.length+more)*2<=255)(h:∀h',SameBut a s.heap h'->Good knd dec led h' a ks->Q () { s with heap:=h' }):wpAny (model prog w) A (setRoomFor a more) Q E s:=by
 obtain⟨o,es,ep,t,ho,hx,hd,hel,hp,nd,hb,hf,tb⟩:=id g
 have ln:es.size=ks.length:=by rw[<-hp.length_eq,length_map,length_toList]
 unfold setRoomFor
 refine aam (aaz ho hd hf ?_)
 dsimp only
 unfold SetTable.roomFor
 have pl:t.place.size=es.size:=RP hf
 split
 ·rename_i z
  split at z
  ·cases z
   exact zK7 g (by rw[pl,ln];exact hw) (by rw[pl,ln];omega) h
  ·cases z
 ·exact aan (h _ (SameBut.refl a s.heap) g)
theorem zE6{Q:Unit->Shared->Prop}(hr:s.heap.get? r=some { cls:=.type "set",dict:=none,data:=.set #[] 0 (.fresh 0 0 (zT w)) })(hne:r≠o)(g:Good knd dec (zT w) s.heap o ks)(hl:ks.length<=127)(h:∀h',SameBut r s.heap h'->Good knd dec (zT w) h' r ks->Q () { s with heap:=h' }):wpAny (model prog w) A (setMerge r o each) Q E s:=by
 obtain⟨ob,es,ep,t,ho,hx,hd,hel,hp,nd,hb,hf,tb⟩:=id g
 have ln:es.size=ks.length:=by rw[<-hp.length_eq,length_map,length_toList]
 unfold setMerge
 rw[if_neg (by simpa using hne)]
 refine aam (aaz ho hd hf ?_)
 dsimp only
 by_cases hemp:es.isEmpty=true
 ·rw[if_pos hemp]
  have e0:es.size=0:=by simpa[isEmpty] using hemp
  have k0:ks=[]:=length_eq_zero_iff.mp (by rw[<-ln];exact e0)
  subst k0
  exact aan (h _ (SameBut.refl r s.heap) (RN hr))
 rw[if_neg hemp]
 refine aam (ab4 (Q:=λ_ s'=>∃(h1:Heap)(o1:Obj)(ep1:Nat)(t1:SetTable),s'={ s with heap:=h1 }/\SameBut r s.heap h1/\h1.get? r=some o1/\o1.ExactSet/\o1.data=.set #[] ep1 t1/\t1.place.size=0/\t1.dummies=#[]/\t1.led=zT w/\uc (t1.mask+1)=true/\es.size<=t1.mask) ?first ?post (λ_ _ h=>h))
 case post =>
  rintro _ _ ⟨h1,o1,ep1,t1,rfl,sb,g1,x1,d1,pl,du,le,cy,rm⟩
  refine aam (aaz (s:={ s with heap:=h1 }) g1 d1 (by show t1.fits 0=true;exact YX pl du (aa5 _) (aaq 0)) ?_)
  dsimp only
  have hfill:t1.fill=0:=by unfold ad8;rw[pl,du];rfl
  unfold SetTable.road
  rw[hfill]
  rw[if_neg (by simp)]
  by_cases hsl:(t1.mask==t.mask&&t.dummies.isEmpty)=true
  ·rw[if_pos hsl]
   refine ace (s:={ s with heap:=h1 }) g1 d1 (h _ (sb.trans (SameBut.update _ r _)) ⟨_,es,_,_,Ie (es':=es) (t':=_) g1 d1,x1,rfl,hel,hp,nd,hb,hf,⟨?_,λz=>tb.rz (Bool.and_eq_true_iff.mp z).2⟩⟩) (acd hb)
   show(t1.led&&t.led)=_
   rw[le,tb.led,ae1]
  ·rw[if_neg hsl]
   obtain⟨t',order,q1,q2,q3,q4,q5,q6,q7,q8⟩:=zQa (mask:=t1.mask) cy t1.finger t1.moves (t1.led&&t.led) (t1.plain&&t.plain) (es.map (·.1)) (by rw[size_map];exact rm)
   rw[size_map] at q2 q3
   dsimp only
   rw[q1]
   have p:=zGb es order q2
   have sz:(order.filterMap (es[·]?)).size=es.size:=by rw[<-length_toList,p.length_eq,length_toList]
   refine aam (m:=(if((order.filterMap (es[·]?)).size != es.size)=true then unsupported "internal:set-table-lost-an-element" else pure (order.filterMap (es[·]?),t'))) ?_
   rw[if_neg (by rw[sz];simp)]
   refine aan ?_
   refine ace (s:={ s with heap:=h1 }) g1 d1 (h _ (sb.trans (SameBut.update _ r _)) ⟨_,_,_,t',Ie (es':=order.filterMap (es[·]?)) (t':=t') g1 d1,x1,rfl,hel.perm p,(p.map _).trans hp,nd,by rw[sz];exact hb,by rw[sz];exact YX q3 q4 (by rw[q5];exact rm) (aaq _),⟨?_,λ_=>q8⟩⟩) (acd (by rw[sz];exact hb))
   rw[q6,le,tb.led,ae1]
 case first =>
  unfold setRoomFor
  refine aam (aaz hr rfl rfl ?_)
  dsimp only
  have e1:(SetTable.fresh 0 0 (zT w)).roomFor es.size=if(es.size*5 ≥ 21) then some (es.size*2) else none:=by
   unfold SetTable.roomFor ad8 SetTable.fresh
   simp
  rw[e1]
  by_cases c:es.size*5 ≥ 21
  ·rw[if_pos c]
   refine zK8 hr rfl rfl (by omega) (aa5 _) λes' t' p q3 q4 q5 q6 q7 q8=>?_
   have ee:es'=#[]:=by
    have:=p.length_eq
    rw[length_toList] at this
    exact Array.eq_empty_of_size_eq_zero this
   subst ee
   exact⟨_,_,_,t',rfl,SameBut.update _ r _,Ie (es':=#[]) (t':=t') hr rfl,⟨rfl,rfl,rfl⟩,rfl,q3,q4,q7,q6,by omega⟩
  ·rw[if_neg c]
   exact aan ⟨s.heap,_,0,_,rfl,SameBut.refl r s.heap,hr,⟨rfl,rfl,rfl⟩,rfl,rfl,rfl,rfl,RZ,by show es.size<=7;omega⟩
end
set_option maxRecDepth 100000
section
variable{prog:Program}{w:World}{κ:Type}[DecidableEq κ]{knd:KeyKind prog w κ}{dec:Value->κ}{led:Bool}{A:Around}{E:Value->Shared->Prop}{s:Shared}
theorem zQ8{Q:Value->Shared->Prop}(g:Good knd dec (zT w) s.heap a ks)(hl:ks.length<=127)(h:∀(h':Heap),Good knd dec (zT w) h' s.heap.objs.size ks->(∀c o,c<s.heap.objs.size->s.heap.get? c=some o->h'.get? c=some o)->(ks=[]->h'=s.heap.push { cls:=.type "set",dict:=none,data:=.set #[] 0 (.fresh 0 0 (zT w)) })->Q (.ref s.heap.objs.size) { s with heap:=h' }) :
  wpAny (model prog w) A (adk a) Q E s:=by
 have la:a<s.heap.objs.size:=by obtain⟨o,_,_,_,h1,_⟩:=g;exact lt_size h1
 have up:∀c o,s.heap.get? c=some o->(s.heap.push { cls:=.type "set",dict:=none,data:=.set #[] 0 (.fresh 0 0 (zT w)) }).get? c=some o:=λc o e=>get?_push_of_some _ e
 have g1:=g.keep (up a)
 unfold adk
 refine aam (YL g.type (aam (YM ?_)))
 refine aam (aan ?_)
 cases ks with
 |nil =>
  obtain⟨o,es,ep,t,ho,hx,hd,hel,hp,nd,hb,hf,tb⟩:=g1
  have e0:es.size=0:=by rw[<-length_toList];have:=hp.length_eq;rw[length_map] at this;exact this
  unfold setMerge
  rw[if_neg (by simpa using(adb la))]
  refine aam (aam (aaz (s:={ s with heap:=_ }) ho hd hf ?_))
  dsimp only
  rw[if_pos (by simpa[isEmpty] using e0)]
  refine aan (aan (h _ (RN (get?_push_size _ rfl)) (λc o _ e=>up c o e) λ_=>rfl))
 |cons k0 ks0 =>
  refine aam (zE6 (s:={ s with heap:=_ }) (get?_push_size _ rfl) (adb la) g1 hl λh' sb g'=>?_)
  exact aan (h h' g' (λc o hc e=>by rw[sb.2 c (aau hc)];exact up c o e) λz=>by cases z)
theorem R9{α:Type}(xs:Array α)(p:Nat):(eraseAt xs p).toList=xs.toList.eraseIdx p:=by
 unfold eraseAt
 rw[Array.toList_append,List.eraseIdx_eq_take_drop_succ,Array.toList_extract,Array.toList_extract]
 simp[List.extract_eq_take_drop]
 exact List.take_of_length_le (by rw[length_drop,length_toList];omega)
theorem zTi{α:Type}(xs:Array α)(p:Nat)(x:α):(insertAt xs p x).size=xs.size+1:=by
 unfold insertAt
 simp
 omega
theorem R_(hr:Rz xs)(p:Nat):Rz (eraseAt xs p):=by
 intro i k a b hik ha hb
 rw[<-getElem?_toList,R9,List.getElem?_eraseIdx] at ha hb
 have q:∀j,xs.toList[j]?=xs[j]?:=λj=>getElem?_toList
 split at ha<;>split at hb
 ·exact hr i k a b hik (by rw[<-q];exact ha) (by rw[<-q];exact hb)
 ·exact hr i (k+1) a b (by omega) (by rw[<-q];exact ha) (by rw[<-q];exact hb)
 ·omega
 ·exact hr (i+1) (k+1) a b (by omega) (by rw[<-q];exact ha) (by rw[<-q];exact hb)
theorem zNw(hdec:∀k v,knd.is k v=true->dec v=k){Q:Bool->Shared->Prop}(hk:knd.is k x=true)(hs:x.scannable=true)(g:Good knd dec led s.heap a ks)(h:∀(h':Heap) (b:Bool),SameBut a s.heap h'->Good knd dec led h' a (ks.erase k)->Q b { s with heap:=h' }) :
  wpAny (model prog w) A (setDiscardHashed a x (knd.hash k)) Q E s:=by
 obtain⟨o,es,ep,t,ho,hx,hd,hel,hp,nd,hb,hf,tb⟩:=id g
 unfold setDiscardHashed
 refine aam ?_
 unfold setFind setFindIn
 refine aam (aaz ho hd hf ?_)
 dsimp only
 rw[byScan_of hs hb hel]
 simp only[↓reduceIte]
 refine aam (ad6 (aam (wpAny_setScan_of hk ho hd hf hel ?_)))
 have fi:=zIu hdec hel k
 cases hr:List.findIdx? (λe=>knd.is k e.2) es.toList with
 |none =>
  have hm:k∉ks:=λz=>fi.mp hr (hp.mem_iff.mpr z)
  dsimp only
  refine aan (aan ?_)
  have q:=h s.heap false (SameBut.refl a s.heap)
  rw[List.erase_of_not_mem hm] at q
  exact q g
 |some j =>
  obtain⟨hj,hpj,_⟩:=List.findIdx?_eq_some_iff_getElem.mp hr
  dsimp only
  rw[acr]
  refine aan (aam (aaz ho hd hf ?_))
  dsimp only
  have pl:t.place.size=es.size:=RP hf
  have hj':j<t.place.size:=by rw[pl,<-length_toList];exact hj
  have sz:(eraseAt es j).size=es.size-1:=by rw[<-length_toList,R9,length_eraseIdx,if_pos hj,length_toList]
  have ed:t.drop j={ t with place:=eraseAt t.place j,dummies:=insertAt t.dummies (below t.dummies t.place[j]) t.place[j] }:=by
   unfold SetTable.drop
   rw[aat hj']
  have jz:j<es.size:=by rw[<-length_toList];exact hj
  have ft:(t.drop j).fits (eraseAt es j).size=true:=by
   rw[ed]
   unfold fits ad8 at hf ⊢
   have e1:(eraseAt t.place j).size=es.size-1:=by rw[<-length_toList,R9,length_eraseIdx,length_toList,if_pos hj',pl]
   dsimp only
   rw[e1,zTi,sz]
   rw[aar,decide_eq_true_eq] at hf
   rw[aar,decide_eq_true_eq]
   refine⟨by simp,?_⟩
   have:=hf.2
   omega
  have tb':Tb led (t.drop j):=by
   rw[ed]
   exact⟨tb.led,λz=>R_ (tb.rz z) j⟩
  have hp':((eraseAt es j).toList.map λe=>dec e.2).Perm (ks.erase k):=by
   rw[R9]
   have p1:=((Vs hj).map λe=>dec e.2).trans hp
   rw[map_cons,hdec k _ hpj] at p1
   have p2:=p1.erase k
   rw[List.erase_cons_head] at p2
   exact p2
  refine aam (ace ho hd (aam (wpAny_point (aan (h _ true (SameBut.update _ a _) ⟨_,_,_,_,Ie (es':=eraseAt es j) (t':=t.drop j) ho hd,hx,rfl,λe he=>?_,hp',nd.erase k,by rw[sz];omega,ft,tb'⟩)))) (acd (by rw[sz];omega)))
  rw[R9] at he
  exact hel e (List.mem_of_mem_eraseIdx he)
theorem Eu{Q:Unit->Shared->Prop}(g:Good knd dec led s.heap a ks)(hw:ks.length<=63)(h:∀h',SameBut a s.heap h'->Good knd dec led h' a ks->Q () { s with heap:=h' }):wpAny (model prog w) A (setTidy a) Q E s:=by
 obtain⟨o,es,ep,t,ho,hx,hd,hel,hp,nd,hb,hf,tb⟩:=id g
 have ln:es.size=ks.length:=by rw[<-hp.length_eq,length_map,length_toList]
 unfold setTidy
 refine aam (aaz ho hd hf ?_)
 dsimp only
 split
 ·have e:grown es.size=ks.length*4:=by unfold grown;rw[if_neg (by omega),ln]
  rw[e]
  exact zK7 g (by omega) (by omega) h
 ·exact aan (h _ (SameBut.refl a s.heap) g)
theorem zMj(g:Good knd dec (zT w) s.heap a ks)(hs:∀b∈others,∃ks:List κ,Good knd dec (zT w) s.heap b ks)(hn:∀k v,knd.is k v=true->∀b,v≠.ref b){Q:Array (Int×Value)->Shared->Prop}(h:∀(es:Array (Int×Value)),ElemsOf knd es.toList->(es.toList.map λe=>dec e.2).Perm ks->Q es s):wpAny (model prog w) A (setWalkUnseen a others none) Q E s:=by
 obtain⟨o,es,ep,t,h1,h2,h3,hf,hl,tb,hel,hp⟩:=g.size
 unfold setWalkUnseen
 refine aam (aaz h1 h3 hf ?_)
 dsimp only
 refine aam (uV ?_)
 split
 ·rename_i c
  refine zN7 g (λhb o' es' ep' t' h1' h3'=>?_) λes' mz hp'=>h es' mz hp'
  rw[h1] at h1'
  cases h1'
  rw[h3] at h3'
  cases h3'
  rw[hb] at c
  simp only[ad7,abp,aar,decide_eq_true_eq] at c
  rcases c with⟨_,c⟩|c
  ·rw[c];rfl
  ·rw[decide_eq_false (by omega),aev]
 ·refine aam (zLa (knd:=knd) (dec:=dec) (led:=zT w) (a::others) (λb hb=>(mem_cons.mp hb).elim (λe=>e▸⟨ks,g⟩) (hs b)) hn ?_)
  simp only[aby,aax,↓reduceIte]
  exact aam (ad6 (aan (h es hel hp)))
theorem Ew(hdec:∀k v,knd.is k v=true->dec v=k)(id:String)(hn:∀k v,knd.is k v=true->∀b,v≠.ref b)(hab:b≠r)(ga:Good knd dec (zT w) s.heap r ka)(gb:Good knd dec (zT w) s.heap b kb)(hl:ka.length<=63)(hs:¬kb.length/8 > ka.length){Q:Unit->Shared->Prop}(h:∀(h':Heap) (kr:List κ),SameBut r s.heap h'->Good knd dec (zT w) h' r kr->(∀k,k∈kr↔k∈ka/\k∉kb)->Q () { s with heap:=h' }) :
  wpAny (model prog w) A (Builtin.Frozenset.differenceUpdate id r (.ref b)) Q E s:=by
 obtain⟨o,es,ep,t,h1,h2,h3,hf,hlb,tb,hel,hp⟩:=gb.size
 have nda:ka.Nodup:=by obtain⟨_,_,_,_,_,_,_,_,_,nd,_⟩:=ga;exact nd
 unfold Builtin.Frozenset.differenceUpdate
 rw[if_neg (λe=>hab (aem (abu e)))]
 refine aam (Cg gb.type ?_)
 simp only[↓reduceIte]
 refine aam (aan ?_)
 refine aam (O9 gb (aam (O9 ga ?_)))
 rw[if_neg hs]
 refine aam (abt h1 h3 hf ?_)
 refine aam (abf (aam (zMj gb (λc hc=>(mem_singleton.mp hc)▸⟨ka,ga⟩) hn λes' mz hp'=>?_)))
 rw[<-forIn_toList]
 refine aam (ab4 (acy (β:=Unit) _ (λl _ s'=>∃h2 kr,s'={ s with heap:=h2 }/\SameBut r s.heap h2/\Good knd dec (zT w) h2 r kr/\ElemsOf knd l/\kr.length<=63/\∀k,(k∈kr/\k∉l.map λe=>dec e.2)↔(k∈ka/\k∉kb)) (λ_ s'=>∃h2 kr,s'={ s with heap:=h2 }/\SameBut r s.heap h2/\Good knd dec (zT w) h2 r kr/\kr.length<=63/\∀k,k∈kr↔k∈ka/\k∉kb) ?turn ?fin es'.toList () ⟨s.heap,ka,rfl,SameBut.refl r s.heap,ga,mz,hl,λk=>?_⟩) ?post (λ_ _ h=>h))
 case turn =>
  rintro⟨hs',v⟩ l b' s' ⟨h2',kr,rfl,jF,g2,hl2,hlen,hm⟩
  obtain⟨⟨k,hk,hh⟩,hsc⟩:=hl2 _ mem_cons_self
  dsimp only at hk hh hsc ⊢
  subst hh
  have dv:dec v=k:=hdec k v hk
  have ndr:kr.Nodup:=by obtain⟨_,_,_,_,_,_,_,_,_,nd,_⟩:=g2;exact nd
  refine aam (abf (zNw (led:=zT w) (s:={ s with heap:=h2' }) hdec hk hsc g2 λh3' b'' qC g3=>?_))
  refine aam ?_
  unfold aa8
  refine aam (abt (s:={ s with heap:=h3' }) (by show h3'.get? b=_;rw[qC.2 b hab];show h2'.get? b=_;rw[jF.2 b hab];exact h1) h3 hf ?_)
  simp only[bne_self_eq_false,aax,↓reduceIte]
  refine aan (aan ⟨h3',kr.erase k,rfl,jF.trans qC,g3,λe he=>hl2 e (mem_cons_of_mem _ he),?_,λc=>?_⟩)
  ·have:=List.length_erase_le (a:=k) (l:=kr)
   omega
  ·rw[<-hm c,map_cons,mem_cons]
   show _↔(c∈kr/\¬(c=dec v\/_))
   rw[dv,ndr.mem_erase_iff]
   constructor
   ·rintro⟨⟨z1,z2⟩,z3⟩
    exact⟨z2,λq=>q.elim z1 z3⟩
   ·rintro⟨z1,z2⟩
    exact⟨⟨λq=>z2 (.inl q),z1⟩,λq=>z2 (.inr q)⟩
 case fin =>
  rintro b' s' ⟨h2',kr,rfl,jF,g2,_,hlen,hm⟩
  refine⟨h2',kr,rfl,jF,g2,hlen,λk=>?_⟩
  rw[<-hm k]
  simp
 case post =>
  rintro b' s' ⟨h2',kr,rfl,jF,g2,hlen,hm⟩
  refine aan ?_
  exact Eu (s:={ s with heap:=h2' }) g2 hlen λh3' qC g3=>h h3' kr (jF.trans qC) g3 hm
 ·rw[hp'.mem_iff]
end
set_option maxRecDepth 100000
theorem zGv:entryFor table "set.__sub__" = some Builtin.«frozenset.__sub__»:=ad0 (id':="frozenset.__sub__") (by kernel_rfl) rfl (by decide +kernel) (by kernel_rfl)
theorem zH6:entryFor table "set.__or__" = some Builtin.«frozenset.__or__»:=ad0 (id':="frozenset.__or__") (by kernel_rfl) rfl (by decide +kernel) (by kernel_rfl)
section
variable{prog:Program}{w:World}{κ:Type}[DecidableEq κ]{knd:KeyKind prog w κ}{dec:Value->κ}{led:Bool}{A:Around}{E:Value->Shared->Prop}{s:Shared}
theorem zQ3(hdec:∀k v,knd.is k v=true->dec v=k)(id:String)(hn:∀k v,knd.is k v=true->∀b,v≠.ref b)(YJ:x≠r)(Vy:y≠r)(gx:Good knd dec (zT w) s.heap x kx)(gy:Good knd dec (zT w) s.heap y ky)(gr:Good knd dec (zT w) s.heap r [])(YZ:∀o es e t,s.heap.get? y=some o->o.data=.set es e t->e=ep){Q:Unit->Shared->Prop}(h:∀(h':Heap) (kr:List κ),SameBut r s.heap h'->Good knd dec (zT w) h' r kr->(∀k,k∈kr↔k∈ky/\k∉kx)->Q () { s with heap:=h' }) :
  wpAny (model prog w) A (do
   for (h,x') in <-setWalkUnseen y [x,r] (some r) do
    holding [x'] do
     let there <-pure (<-setFind x x' h).isSome
     if !there then
      let _ <-setAddHashed r x' h
    aa8 id y ep) Q E s:=by
 obtain⟨o,es,ep',t,h1,h2,h3,hf,hl,tb,hel,hp⟩:=gy.size
 have e1:=YZ o es ep' t h1 h3
 subst e1
 refine aam (YG gy gr (λb hb=>(mem_cons.mp hb).elim (λe=>e▸⟨kx,gx⟩) λe=>(mem_singleton.mp e)▸⟨[],gr⟩) hn λes' h' mz hp' sb RT=>?_)
 rw[<-forIn_toList]
 have ln:es'.toList.length=ky.length:=by rw[<-hp'.length_eq,length_map]
 refine aam (ab4 (acy (β:=Unit) _ (λl _ s'=>∃h2 kr,s'={ s with heap:=h2 }/\SameBut r s.heap h2/\Good knd dec (zT w) h2 r kr/\ElemsOf knd l/\kr.length+l.length<=ky.length/\∀k,(k∈kr\/(k∉kx/\k∈l.map λe=>dec e.2))↔(k∈ky/\k∉kx)) (λ_ s'=>∃h2 kr,s'={ s with heap:=h2 }/\SameBut r s.heap h2/\Good knd dec (zT w) h2 r kr/\∀k,k∈kr↔k∈ky/\k∉kx) ?turn ?fin es'.toList () ⟨h',[],rfl,sb,RT,mz,by rw[ln,length_nil];omega,λk=>?_⟩) ?post (λ_ _ h=>h))
 case turn =>
  rintro⟨hs,v⟩ l b s' ⟨h2,kr,rfl,jF,g2,hl2,hlen,hm⟩
  obtain⟨⟨k,hk,hh⟩,hsc⟩:=hl2 _ mem_cons_self
  dsimp only at hk hh hsc ⊢
  subst hh
  have kx':∀o,s.heap.get? x=some o->h2.get? x=some o:=λo e=>by rw[jF.2 x YJ];exact e
  have YK:=gx.keep kx'
  have dv:dec v=k:=hdec k v hk
  rw[length_cons] at hlen
  have cont:∀(h3':Heap)(z_:List κ),SameBut r s.heap h3'->Good knd dec (zT w) h3' r z_->z_.length+l.length<=ky.length->(∀c,(c∈z_\/(c∉kx/\c∈l.map λe=>dec e.2))↔(c∈ky/\c∉kx)) ->
    wpAny (model prog w) A (aa8 id y ep') (λ_ s''=>wpAny (model prog w) A (pure (acf ())) (λq s''=>match q with|.yield _=>∃h2 kr,s''={ s with heap:=h2 }/\SameBut r s.heap h2/\Good knd dec (zT w) h2 r kr/\ElemsOf knd l/\kr.length+l.length<=ky.length/\∀k,(k∈kr\/(k∉kx/\k∈l.map λe=>dec e.2))↔(k∈ky/\k∉kx)|.done _=>∃h2 kr,s''={ s with heap:=h2 }/\SameBut r s.heap h2/\Good knd dec (zT w) h2 r kr/\∀k,k∈kr↔k∈ky/\k∉kx) E s'') E { s with heap:=h3' }:=λh3' z_ qC g3 l3 m3=>by
   unfold aa8
   refine aam (abt (s:={ s with heap:=h3' }) (by show h3'.get? y=_;rw[qC.2 y Vy];exact h1) h3 hf ?_)
   simp only[bne_self_eq_false,aax,↓reduceIte]
   exact aan (aan ⟨h3',z_,rfl,qC,g3,λe he=>hl2 e (mem_cons_of_mem _ he),l3,m3⟩)
  refine aam (abf (aam (wpAny_setFind_of (s:={ s with heap:=h2 }) hk hsc (YK.setOf hdec) λq hq=>aam (aan ?_))))
  cases q with
  |some j =>
   have nk:k∈kx:=by simpa using hq.symm
   simp only[adp,aby,aax,↓reduceIte]
   refine aan (aam (cont h2 kr jF g2 (by omega) λc=>?_))
   rw[<-hm c,map_cons,mem_cons]
   show _↔(c∈kr\/c∉kx/\(c=dec v\/_))
   rw[dv]
   constructor
   ·rintro(z|⟨z1,z2⟩)
    ·exact .inl z
    ·exact .inr ⟨z1,.inr z2⟩
   ·rintro(z|⟨z1,z2|z2⟩)
    ·exact .inl z
    ·exact absurd nk (z2▸z1)
    ·exact .inr ⟨z1,z2⟩
  |none =>
   have mk:k∉kx:=by simpa using hq.symm
   simp only[Option.isSome_none,Bool.not_false,↓reduceIte]
   refine aam (Vr (led:=zT w) (s:={ s with heap:=h2 }) hdec hk hsc g2 (by have:=gy.len;omega) λh3' b' qC g3=>?_)
   refine aan (aam (cont h3' _ (jF.trans qC) g3 ?_ λc=>?_))
   ·split
    ·omega
    ·rw[length_cons];omega
   ·rw[<-hm c,map_cons,mem_cons]
    show _↔(c∈kr\/c∉kx/\(c=dec v\/_))
    rw[dv]
    have e:c∈(if k∈kr then kr else k::kr)↔c=k\/c∈kr:=by
     split
     ·rename_i z
      exact⟨.inr,λq=>q.elim (λq=>q▸z) λq=>q⟩
     ·exact mem_cons
    rw[e]
    constructor
    ·rintro((z|z)|⟨z1,z2⟩)
     ·exact .inr ⟨z▸mk,.inl z⟩
     ·exact .inl z
     ·exact .inr ⟨z1,.inr z2⟩
    ·rintro(z|⟨z1,z2|z2⟩)
     ·exact .inl (.inr z)
     ·exact .inl (.inl z2)
     ·exact .inr ⟨z1,z2⟩
 case fin =>
  rintro b s' ⟨h2,kr,rfl,jF,g2,_,_,hm⟩
  refine⟨h2,kr,rfl,jF,g2,λk=>?_⟩
  rw[<-hm k]
  simp
 case post =>
  rintro b s' ⟨h2,kr,rfl,jF,g2,hm⟩
  exact aan (h h2 kr jF g2 hm)
 ·rw[hp'.mem_iff]
  constructor
  ·rintro(z|⟨z1,z2⟩)
   ·cases z
   ·exact⟨z2,z1⟩
  ·exactλ⟨z1,z2⟩=>.inr ⟨z2,z1⟩
theorem Ez(hdec:∀k v,knd.is k v=true->dec v=k)(id:String)(hn:∀k v,knd.is k v=true->∀b,v≠.ref b)(hab:b≠a)(ga:Good knd dec (zT w) s.heap a ka)(gb:Good knd dec (zT w) s.heap b kb)(hl:ka.length<=63){Q:Value->Shared->Prop}(h:∀(h':Heap) (kr:List κ),Good knd dec (zT w) h' s.heap.objs.size kr->(∀k,k∈kr↔k∈ka/\k∉kb)->(∀c o,c<s.heap.objs.size->s.heap.get? c=some o->h'.get? c=some o)->Q (.ref s.heap.objs.size) { s with heap:=h' }) :
  wpAny (model prog w) A (Builtin.Frozenset.difference id a (.ref b)) Q E s:=by
 have la:a<s.heap.objs.size:=by obtain⟨o,_,_,_,h1,_⟩:=ga;exact lt_size h1
 have lb:b<s.heap.objs.size:=by obtain⟨o,_,_,_,h1,_⟩:=gb;exact lt_size h1
 unfold Builtin.Frozenset.difference
 refine aam (Cg gb.type ?_)
 simp only[aby,aax,Bool.false_and,↓reduceIte]
 refine aam (aan ?_)
 refine aam (O9 gb (aam (O9 ga ?_)))
 split
 ·rename_i c
  refine aam (ad6 (aam (zQ8 ga (by omega) λh' g' k' _=>?_)))
  refine aam (aan ?_)
  refine aam (abf (Ew (s:={ s with heap:=h' }) hdec id hn (aau lb) g' (gb.keep λo e=>k' b o lb e) hl (by omega) λh2 kr sb g2 m=>aan (h h2 kr g2 m λc o hc e=>?_)))
  rw[sb.2 c (aau hc)]
  exact k' c o hc e
 ·refine aam (YL ga.type (aam (YM ?_)))
  refine aam (aan ?_)
  have up:∀c o,s.heap.get? c=some o->(s.heap.push { cls:=.type "set",dict:=none,data:=.set #[] 0 (.fresh 0 0 (zT w)) }).get? c=some o:=λc o e=>get?_push_of_some _ e
  have Ii:=ga.keep (up a)
  have Ij:=gb.keep (up b)
  have O_:Good knd dec (zT w) (s.heap.push { cls:=.type "set",dict:=none,data:=.set #[] 0 (.fresh 0 0 (zT w)) }) s.heap.objs.size []:=RN (get?_push_size _ rfl)
  generalize hp:s.heap.push { cls:=.type "set",dict:=none,data:=.set #[] 0 (.fresh 0 0 (zT w)) }=hq at up Ii Ij O_ ⊢
  obtain⟨o,es,ep,t,h1,h2,h3,hf,hl,tb,hel,hpp⟩:=Ii.size
  refine aam (abt (s:={ s with heap:=hq }) h1 h3 hf ?_)
  refine aam (abf (zQ3 (s:={ s with heap:=hq }) hdec id hn (aau lb) (aau la) Ij Ii O_ (λo' es' e' t' z1 z2=>?_) λh' kr sb g m=>aan (h h' kr g m λc o hc e=>?_)))
  ·have Pb:hq.get? a=some o':=z1
   rw[h1] at Pb
   cases Pb
   rw[h3] at z2
   cases z2
   rfl
  ·rw[sb.2 c (aau hc)];exact up c o e
theorem Lp(hdec:∀k v,knd.is k v=true->dec v=k)(hn:∀k v,knd.is k v=true->∀b,v≠.ref b)(hab:b≠a)(ga:Good knd dec (zT w) s.heap a ka)(gb:Good knd dec (zT w) s.heap b kb)(hl:ka.length<=63){Q:Value->Shared->Prop}(h:∀(h':Heap) (kr:List κ),Good knd dec (zT w) h' s.heap.objs.size kr->(∀k,k∈kr↔k∈ka/\k∉kb)->(∀c o,c<s.heap.objs.size->s.heap.get? c=some o->h'.get? c=some o)->Q (.ref s.heap.objs.size) { s with heap:=h' }) :
  wpAny (model prog w) A (binaryOp .Sub (.ref a) (.ref b)) Q E s:=by
 refine aeb (op:=.Sub) (T:="set") ga.type gb.type F.fills_set_sub F.slot_set_sub (ab9 F.slot_set_sub ga.type zGv ?_ (F.args_set_sub_2 _ _))
 refine aam (m:=ab1 "__sub__" ⟨[.ref a,.ref b],[]⟩) ?_
 unfold ab1 slotArgs
 refine aan ?_
 dsimp only
 refine aam (aam (Cg ga.type ?_))
 refine Cg gb.type ?_
 simp only[aby,aax,↓reduceIte]
 refine aam (aan (aam (Ez hdec _ hn hab ga gb hl λh' kr g m k=>aan ⟨.ref s.heap.objs.size,rfl,?_,h h' kr g m k⟩)))
 exactλz=>aej z
end
set_option maxRecDepth 100000
section
variable{prog:Program}{w:World}{κ:Type}[DecidableEq κ]{knd:KeyKind prog w κ}{dec:Value->κ}{led:Bool}{A:Around}{E:Value->Shared->Prop}{s:Shared}
theorem zS8(hdec:∀k v,knd.is k v=true->dec v=k)(id:String)(hn:∀k v,knd.is k v=true->∀b,v≠.ref b)(hne:o≠r)(g:Good knd dec (zT w) s.heap r kr)(go:Good knd dec (zT w) s.heap o ko)(hk:kr≠[])(hl:(kr.length+ko.length)*2<=255)(YZ:∀ob es e t,s.heap.get? o=some ob->ob.data=.set es e t->e=ep){Q:Unit->Shared->Prop}(h:∀(h':Heap) (ks:List κ),SameBut r s.heap h'->Good knd dec (zT w) h' r ks->(∀k,k∈ks↔k∈kr\/k∈ko)->Q () { s with heap:=h' }) :
  wpAny (model prog w) A (setMerge r o (aa8 id o ep)) Q E s:=by
 obtain⟨ob,es,ep',t,h1,h2,h3,hf,hlo,tb,hel,hp⟩:=go.size
 have e1:=YZ ob es ep' t h1 h3
 subst e1
 unfold setMerge
 rw[if_neg (by simpa using(acg hne))]
 refine aam (aaz h1 h3 hf ?_)
 dsimp only
 by_cases hemp:es.isEmpty=true
 ·rw[if_pos hemp]
  have e0:es.size=0:=by simpa[isEmpty] using hemp
  have k0:ko=[]:=length_eq_zero_iff.mp (by rw[<-hlo];exact e0)
  subst k0
  exact aan (h _ kr (SameBut.refl r s.heap) g λk=>by simp)
 rw[if_neg hemp]
 refine aam (Es g (by rw[hlo];exact hl) λh4 sb4 g4=>?_)
 obtain⟨o5,es5,ep5,t5,i1,i2,i3,if5,il5,tb5,aal,ip5⟩:=g4.size
 have go4:=go.keep (h':=h4) λob' e=>by rw[sb4.2 o hne];exact e
 refine aam (aaz (s:={ s with heap:=h4 }) i1 i3 if5 ?_)
 dsimp only
 have hfill:t5.fill≠0:=by
  unfold ad8
  rw[RP if5,il5]
  cases kr with
  |nil=>exact absurd rfl hk
  |cons a l=>rw[length_cons];omega
 unfold SetTable.road
 rw[if_pos (by simpa using hfill)]
 dsimp only
 refine aam (YG (s:={ s with heap:=h4 }) go4 g4 (λb hb=>(mem_singleton.mp hb)▸⟨kr,g4⟩) hn λes' h' mz hp' sb RT=>?_)
 rw[<-forIn_toList]
 have ln:es'.toList.length=ko.length:=by rw[<-hp'.length_eq,length_map]
 refine aam (ab4 (acy (β:=Unit) _ (λl _ s'=>∃h2 ks,s'={ s with heap:=h2 }/\SameBut r s.heap h2/\Good knd dec (zT w) h2 r ks/\ElemsOf knd l/\ks.length+l.length<=128/\∀k,(k∈ks\/k∈l.map λe=>dec e.2)↔(k∈kr\/k∈ko)) (λ_ s'=>∃h2 ks,s'={ s with heap:=h2 }/\SameBut r s.heap h2/\Good knd dec (zT w) h2 r ks/\∀k,k∈ks↔k∈kr\/k∈ko) ?turn ?fin es'.toList () ⟨h',kr,rfl,sb4.trans sb,RT,mz,by rw[ln];omega,λk=>?_⟩) ?post (λ_ _ h=>h))
 case turn =>
  rintro⟨hs,v⟩ l b s' ⟨h2',ks,rfl,jF,g2,hl2,hlen,hm⟩
  obtain⟨⟨k,hk',hh⟩,hsc⟩:=hl2 _ mem_cons_self
  dsimp only at hk' hh hsc ⊢
  subst hh
  have dv:dec v=k:=hdec k v hk'
  rw[length_cons] at hlen
  have big:(129:Nat)<scanBound:=by decide
  have room:ks.length+1<scanBound:=by omega
  refine aam (abf (Vr (led:=zT w) (s:={ s with heap:=h2' }) hdec hk' hsc g2 room λh3' b' qC g3=>?_))
  have Ov:h3'.get? o=some ob:=by rw[qC.2 o hne];show h2'.get? o=_;rw[jF.2 o hne];exact h1
  refine aam ?_
  unfold aa8
  refine aam (abt (s:={ s with heap:=h3' }) Ov h3 hf ?_)
  simp only[bne_self_eq_false,aax,↓reduceIte]
  refine aan (aam (aaz (s:={ s with heap:=h3' }) Ov h3 hf ?_))
  simp only[bne_self_eq_false,aax,↓reduceIte]
  refine aan ⟨h3',_,rfl,jF.trans qC,g3,λe he=>hl2 e (mem_cons_of_mem _ he),?_,λc=>?_⟩
  ·split
   ·omega
   ·rw[length_cons];omega
  ·rw[<-hm c,map_cons,mem_cons]
   show _↔(c∈ks\/(c=dec v\/_))
   rw[dv]
   have e:c∈(if k∈ks then ks else k::ks)↔c=k\/c∈ks:=by
    split
    ·rename_i z
     exact⟨.inr,λq=>q.elim (λq=>q▸z) λq=>q⟩
    ·exact mem_cons
   rw[e]
   constructor
   ·rintro((z|z)|z)
    ·exact .inr (.inl z)
    ·exact .inl z
    ·exact .inr (.inr z)
   ·rintro(z|z|z)
    ·exact .inl (.inr z)
    ·exact .inl (.inl z)
    ·exact .inr z
 case fin =>
  rintro b s' ⟨h2',ks,rfl,jF,g2,_,_,hm⟩
  refine⟨h2',ks,rfl,jF,g2,λk=>?_⟩
  rw[<-hm k]
  simp
 case post =>
  rintro b s' ⟨h2',ks,rfl,jF,g2,hm⟩
  exact aan (h h2' ks jF g2 hm)
 ·rw[hp'.mem_iff]
theorem Lq(hdec:∀k v,knd.is k v=true->dec v=k)(id:String)(hn:∀k v,knd.is k v=true->∀b,v≠.ref b)(hne:o≠r)(g:Good knd dec (zT w) s.heap r kr)(go:Good knd dec (zT w) s.heap o ko)(h0:kr=[]->s.heap.get? r=some { cls:=.type "set",dict:=none,data:=.set #[] 0 (.fresh 0 0 (zT w)) })(hl:(kr.length+ko.length)*2<=255){Q:Unit->Shared->Prop}(h:∀(h':Heap) (ks:List κ),SameBut r s.heap h'->Good knd dec (zT w) h' r ks->(∀k,k∈ks↔k∈kr\/k∈ko)->Q () { s with heap:=h' }) :
  wpAny (model prog w) A (ac2 id r (.ref o)) Q E s:=by
 obtain⟨ob,es,ep',t,h1,h2,h3,hf,hlo,tb,hel,hp⟩:=go.size
 unfold ac2
 refine aam (Cg go.type ?_)
 simp only[↓reduceIte]
 refine aam (aan ?_)
 unfold Builtin.Frozenset.merge
 refine aam (abt h1 h3 hf ?_)
 cases kr with
 |nil=>exact zE6 (h0 rfl) (acg hne) go (by simp at hl;omega) λh' sb g'=>h h' ko sb g' λk=>by simp
 |cons a l =>
  refine zS8 hdec id hn hne g go (λz=>by cases z) hl (λob' es' e' t' z1 z2=>?_) h
  rw[h1] at z1
  cases z1
  rw[h3] at z2
  cases z2
  rfl
theorem Sd(hdec:∀k v,knd.is k v=true->dec v=k)(hn:∀k v,knd.is k v=true->∀b,v≠.ref b)(hab:b≠a)(ga:Good knd dec (zT w) s.heap a ka)(gb:Good knd dec (zT w) s.heap b kb)(hl:ka.length<=63)(hl':kb.length<=63){Q:Value->Shared->Prop}(h:∀(h':Heap) (kr:List κ),Good knd dec (zT w) h' s.heap.objs.size kr->(∀k,k∈kr↔k∈ka\/k∈kb)->(∀c o,c<s.heap.objs.size->s.heap.get? c=some o->h'.get? c=some o)->Q (.ref s.heap.objs.size) { s with heap:=h' }) :
  wpAny (model prog w) A (binaryOp .BitOr (.ref a) (.ref b)) Q E s:=by
 have lb:b<s.heap.objs.size:=by obtain⟨o,_,_,_,h1,_⟩:=gb;exact lt_size h1
 refine aeb (op:=.BitOr) (T:="set") ga.type gb.type F.fills_set_or F.slot_set_or (ab9 F.slot_set_or ga.type zH6 ?_ (F.args_set_or_2 _ _))
 refine aam (m:=ab1 "__or__" ⟨[.ref a,.ref b],[]⟩) ?_
 unfold ab1 slotArgs
 refine aan ?_
 dsimp only
 refine aam (aam (Cg ga.type ?_))
 refine Cg gb.type ?_
 simp only[aby,aax,↓reduceIte]
 refine aam (aan (aam ?_))
 refine aam (m:=adk a) (zQ8 ga (by omega) λh' g' k' z0=>?_)
 have e1:(abj b != .ref a)=true:=by
  rw[bne_iff_ne]
  exactλe=>hab (aem e)
 rw[if_pos e1]
 refine aam (aan ?_)
 refine aam (abf (Lq (s:={ s with heap:=h' }) hdec _ hn (aau lb) g' (gb.keep λo e=>k' b o lb e) (λz=>?_) (by omega) λh2 ks sb g2 m=>aan (aan ⟨.ref s.heap.objs.size,rfl,?_,h h2 ks g2 m λc o hc e=>?_⟩)))
 ·show h'.get? _=_
  rw[z0 z]
  exact get?_push_size _ rfl
 ·exactλz=>aej z
 ·rw[sb.2 c (aau hc)]
  exact k' c o hc e
end
end qy
namespace L2
open PySem PySem.Spec PyProof.Rows qy
section
variable{X:Cx}
def Io(ta tb:Ef):Ef:=λσ H Q=>ta σ H λks H1=>ks.length<64/\tb σ H1 λjs H2=>∀rs:LI,rs.Nodup->(∀z,z∈rs↔z∈ks/\z∉js)->Q rs H2
theorem EY(ha:zy X a ta)(hb:zy X b tb):zy X (.BinOp a .Sub b pos) (Io ta tb):=by
 intro pins s σ H Q I h
 refine aez (aP (ha pins s σ H _ I h) λu s1 ⟨p,ks,H1,e,I1,g,fo,hl,h1⟩=>?_)
 subst e
 obtain⟨o,es,ep,t,go,gx,gd,_⟩:=id g
 have RV:=I1.pinned (fp:=[p]) (λb hb=>by rw[mem_singleton.mp hb];exact fo) (λb hb=>by
  rw[mem_singleton.mp hb]
  exact⟨o,go,λv z=>by rw[gd] at z;cases z⟩)
 refine aP (hb _ s1 σ H1 _ RV h1) λu2 s2 ⟨p2,js,H2,e2,I2,g2,RW,q2⟩=>?_
 subst e2
 have pm:(p,o)∈X.pn++(pins++G_ [p] s1.heap):=mem_append_right _ (mem_append_right _ (vP (mem_singleton.mpr rfl) go))
 have kp:s2.heap.get? p=some o:=(I2.pin (p,o) pm).1
 have g1:=g.keep (h':=s2.heap) λo' e'=>by rw[go] at e';cases e';exact kp
 have ne:p2≠p:=acg (RW.2.2.2.2.2 (p,o) pm)
 have I3:=I2.fK
 refine Lp Vw (λk v hk b z=>?_) ne g1 g2 (ac6 hl) λh' kr g3 m k=>?_
 ·obtain⟨t,rfl⟩:=acs hk
  cases z
 ·have I4:=I3.kept (h':=h') (t':=s2.toks) λb o e=>k b o (lt_size e) e
  obtain⟨_,_,_,_,_,_,_,_,_,nd,_⟩:=id g3
  exact⟨_,kr,H2,rfl,I4,g3,I3.lF (aaq _) (I3.hok.fresh (aaq _)),q2 kr nd m⟩
def Sh(ta tb:Ef):Ef:=λσ H Q=>ta σ H λks H1=>ks.length<64/\tb σ H1 λjs H2=>js.length<64/\∀rs:LI,rs.Nodup->(∀z,z∈rs↔z∈ks\/z∈js)->Q rs H2
theorem Lr(ha:zy X a ta)(hb:zy X b tb):zy X (.BinOp a .BitOr b pos) (Sh ta tb):=by
 intro pins s σ H Q I h
 refine aez (aP (ha pins s σ H _ I h) λu s1 ⟨p,ks,H1,e,I1,g,fo,hl,h1⟩=>?_)
 subst e
 obtain⟨o,es,ep,t,go,gx,gd,_⟩:=id g
 have RV:=I1.pinned (fp:=[p]) (λb hb=>by rw[mem_singleton.mp hb];exact fo) (λb hb=>by
  rw[mem_singleton.mp hb]
  exact⟨o,go,λv z=>by rw[gd] at z;cases z⟩)
 refine aP (hb _ s1 σ H1 _ RV h1) λu2 s2 ⟨p2,js,H2,e2,I2,g2,RW,hl2,q2⟩=>?_
 subst e2
 have pm:(p,o)∈X.pn++(pins++G_ [p] s1.heap):=mem_append_right _ (mem_append_right _ (vP (mem_singleton.mpr rfl) go))
 have kp:s2.heap.get? p=some o:=(I2.pin (p,o) pm).1
 have g1:=g.keep (h':=s2.heap) λo' e'=>by rw[go] at e';cases e';exact kp
 have ne:p2≠p:=acg (RW.2.2.2.2.2 (p,o) pm)
 have I3:=I2.fK
 refine Sd Vw (λk v hk b z=>?_) ne g1 g2 (ac6 hl) (ac6 hl2) λh' kr g3 m k=>?_
 ·obtain⟨t,rfl⟩:=acs hk
  cases z
 ·have I4:=I3.kept (h':=h') (t':=s2.toks) λb o e=>k b o (lt_size e) e
  obtain⟨_,_,_,_,_,_,_,_,_,nd,_⟩:=id g3
  exact⟨_,kr,H2,rfl,I4,g3,I3.lF (aaq _) (I3.hok.fresh (aaq _)),q2 kr nd m⟩
end
end L2
namespace Ts
open PySem L2
def Pg(ns ms:LI):Option LI:=if ns.length<64/\ms.length<4000 then some (wS (ns.filter λz=>!decide (z∈ms))) else none
def E_(ns ms:LI):Option LI:=if ns.length<64/\ms.length<64/\(wS (ns++ms)).length<64 then some (wS (ns++ms)) else none
section
variable{K:PySem.W.Frag}{B:Bs}{sl:SL K}{md:Md}{t1 t2:TE}
theorem zNt(h1:Ex B sl .hp t1 m1)(h2:Ex B sl .hp t2 m2):Eo B sl md (RQ (Io (Ig K t1) (Ig K t2))) (m1.bind λa=>m2.bind λb=>Pg a b):=λc hc F O H σ Q s k=>by
 obtain⟨ns,ms,ha,hb,hf⟩:=qg hc
 unfold Pg at hf
 split at hf
 case isFalse=>cases hf
 rename_i hl
 cases hf
 refine h1 ns ha F O H σ _ s λv F' H' g r1=>?_
 obtain⟨p,vs,rfl,z1,z2⟩:=r1
 have z3:vs=ns.map V.int:=z2.vals
 subst z3
 refine⟨p,ns,rfl,aV.of z1,aaw hl.1 (by decide),λks nd hm=>⟨aav (Eh nd λz hz=>(hm z).mp hz) hl.1,?_⟩⟩
 refine h2 ms hb F' O H' σ _ (s.grow g) λw F2 H2 g2 r2=>?_
 obtain⟨p',vs',rfl,y1,y2⟩:=r2
 have y3:vs'=ms.map V.int:=y2.vals
 subst y3
 refine⟨p',ms,rfl,aV.of y1,hl.2,λjs jd hj rs rd hr=>⟨aav (Eh rd λz hz=>(hm z).mp ((hr z).mp hz).1) hl.1,λl us hn p1 p2=>?_⟩⟩
 have e:us=wS (ns.filter λz=>!decide (z∈ms)):=Ih (vQ p2 (p1.nodup_iff.mpr rd)) (uX _) λz=>by rw[p1.mem_iff,hr,hm,hj,bL,mem_filter,Bool.not_eq_true',decide_eq_false_iff_not]
 subst e
 exact k l _ F2 H2 (g.trans g2) hn (HF _)
theorem zQx(h1:Ex B sl .hp t1 m1)(h2:Ex B sl .hp t2 m2):Eo B sl md (RQ (Sh (Ig K t1) (Ig K t2))) (m1.bind λa=>m2.bind λb=>E_ a b):=λc hc F O H σ Q s k=>by
 obtain⟨ns,ms,ha,hb,hf⟩:=qg hc
 unfold E_ at hf
 split at hf
 case isFalse=>cases hf
 rename_i hl
 cases hf
 refine h1 ns ha F O H σ _ s λv F' H' g r1=>?_
 obtain⟨p,vs,rfl,z1,z2⟩:=r1
 have z3:vs=ns.map V.int:=z2.vals
 subst z3
 refine⟨p,ns,rfl,aV.of z1,aaw hl.1 (by decide),λks nd hm=>⟨aav (Eh nd λz hz=>(hm z).mp hz) hl.1,?_⟩⟩
 refine h2 ms hb F' O H' σ _ (s.grow g) λw F2 H2 g2 r2=>?_
 obtain⟨p',vs',rfl,y1,y2⟩:=r2
 have y3:vs'=ms.map V.int:=y2.vals
 subst y3
 refine⟨p',ms,rfl,aV.of y1,aaw hl.2.1 (by decide),λjs jd hj=>⟨aav (Eh jd λz hz=>(hj z).mp hz) hl.2.1,λrs rd hr=>⟨aav (Eh rd λz hz=>bL.mpr (mem_append.mpr (((hr z).mp hz).imp (hm z).mp (hj z).mp))) hl.2.2,λl us hn p1 p2=>?_⟩⟩⟩
 have e:us=wS (ns++ms):=Ih (vQ p2 (p1.nodup_iff.mpr rd)) (uX _) λz=>by rw[p1.mem_iff,hr,hm,hj,bL,mem_append]
 subst e
 exact k l _ F2 H2 (g.trans g2) hn (HF _)
end
end Ts
namespace L2
open PySem PySem.Spec PyProof.Rows
def Y0(K:PySem.W.Frag)(a:Addr)(n:Nat):It :=
 ⟨λi H=>i<n/\∃xs x,aV K H a xs/\xs[n-1-i]?=some x,λi H x H'=>H'=H/\∀xs,aV K H a xs->xs[n-1-i]?=some x,λi _=>i=n⟩
theorem zR2{P:Program}{w:World}{K:PySem.W.Frag}{tg:Expr}(a it:Addr)(n:Nat):Turn P w K tg (Y0 K a n) [it] it (λi h=>h.IsRevIter it a ((n:Int)-1-(i:Nat))) where
 mem:=by simp
 obj:=λi h st b hb=>by
  have e:b=it:=by simpa using hb
  subst e
  obtain⟨o,e,c,d⟩:=st
  exact⟨o,e,λv z=>by rw[d] at z;cases z⟩
 keep:=λi h h' st k=>st.at λo e=>k it (by simp) o e
 item:=by
  intro X hP hw hK hc i pins s σ H E I hf st hg
  subst hP hw hK
  obtain⟨hi,xs,x,hq,hx⟩:=hg
  obtain⟨its,rv,p,hz⟩:=I.list hq
  obtain⟨u,hu,ru⟩:=rv.get hx
  obtain⟨f0,f1,f2,f3,f4,f5⟩:=hf it (by simp)
  have e:(n:Int)-1-(i:Nat)=((n-1-i:Nat):Int):=by omega
  rw[e] at st
  refine wpAny_pyNext_rev_item st p.isList (x:=u) (by simpa using hu) λh' st' sb=>?_
  have I1:Inv X pins σ H { s with heap:=h' }:=I.turned (t':=s.toks) (λb o hb e=>(sb.2 b hb).trans e) f0 f1 f3 f4 f5
  have e2:((n-1-i:Nat):Int)-1=(n:Int)-1-((i+1:Nat):Int):=by omega
  rw[e2] at st'
  obtain⟨o,e,c,d⟩:=id st'
  exact⟨u,rfl,Oh (s:={ s with heap:=h' }) e c d (by decide) ⟨x,H,I1,ru,⟨rfl,λys hy=>by rw[I.lX hy hq];exact hx⟩,st',λb hb=>(hf b hb).1⟩⟩
 done:=by
  intro X hP hw hK hc i pins s σ H E I hf st hg
  subst hP hw hK
  have hi:i=n:=hg
  subst hi
  obtain⟨f0,f1,f2,f3,f4,f5⟩:=hf it (by simp)
  have e:(i:Int)-1-(i:Nat)=-1:=by omega
  rw[e] at st
  exact wpAny_pyNext_rev_end (I.ok.hd hc) st λh' eb=>⟨rfl,I.turned (t':=s.toks) (λb o hb e=>eb b o hb e) f0 f1 f3 f4 f5⟩
 self:=λ_ _ _ _ _ st h=>wpAny_pyIter_revIter st h
def Fb(K:PySem.W.Frag)(ta:TA):TI:=λσ H R=>ta σ H λvs H1=>∃a xs,vs=[.ref a]/\aV K H1 a xs/\R (Y0 K a xs.length) H1
theorem mH:bootBuiltins "reversed" = some (.type "reversed"):=by decide +kernel
theorem Ls(hg:Gl X "reversed")(hm:X.mg "reversed" = none)(ha:PA X [a] ta)(hs:starEach [a] X.env=[(false,eval a X.env)]:=by rfl):PI X tg (.Call (.Name "reversed" p) [a] [] pos) (Fb X.K ta):=by
 intro pins s σ H R I h
 refine Call_ (Bu I hg hm mH (abm (aP (ha pos pins s σ H _ I h) λus s1 ⟨vs,H1,I1,r1,q1⟩=>?_) hs rfl))
 obtain⟨l,xs,e,hq,q⟩:=q1
 subst e
 obtain⟨u,rfl,ru⟩:=r1.one
 cases ru
 obtain⟨its,rv,p,hz⟩:=I1.list hq
 have hl:=rv.length
 refine call_reversed_list p.isList ?_
 have I2:Inv X pins σ H1 { s1 with heap:=s1.heap.push (revObj l ((its.toArray.size:Int)-1)),toks:=s1.toks }:=I1.kept λb o e=>get?_push_of_some _ e
 have R0:(s1.heap.push (revObj l ((its.toArray.size:Int)-1))).IsRevIter s1.heap.objs.size l ((xs.length:Int)-1-((0:Nat):Int)):=by
  refine⟨_,get?_push_size _ rfl,rfl,?_⟩
  show afg #[.ref l,rawInt ((its.toArray.size:Int)-1)]=_
  rw[show((its.toArray.size:Int)-1)=(xs.length:Int)-1-((0:Nat):Int) by rw[size_toArray];omega]
 refine wpAny_pyIter_revIter (s:={ s1 with heap:=s1.heap.push (revObj l ((its.toArray.size:Int)-1)) }) R0 ?_
 refine⟨s1.heap.objs.size,[s1.heap.objs.size],_,_,H1,rfl,I2,zR2 l _ xs.length,R0,λb hb=>?_,q⟩
 have e:b=s1.heap.objs.size:=by simpa using hb
 subst e
 exact I1.lF (aaq _) (I1.hok.fresh (aaq _))
theorem zT1{n:Nat}{ix:List Nat}{g:TG}{tc:TT}{te:TE}{σ:St}{Q:VK}{H:Hp}{K:PySem.W.Frag}{a:Addr}{xs:List V}(Pv:Nat->List V->St->Hp->Prop)(h0:Pv 0 [] (iJ σ n ix) H)(hl:∀i ys σ H,i<=xs.length->Pv i ys σ H->aV K H a xs/\ys.length<=i)(hz:xs.length<sizeLine)(hs:∀i x ys σ H,xs[xs.length-1-i]?=some x->i<xs.length->Pv i ys σ H->g x σ H λσ4 H4=>tc σ4 H4 λb H5=>if b=true then te σ4 H5 λy H6=>Pv (i+1) (ys++[y]) σ4 H6 else Pv (i+1) ys σ4 H5)(hd:∀ys σ H,Pv xs.length ys σ H->∀p,H p=none->Q (.ref p) (upd H p (.lst ys))):Om n ix g tc te σ Q (Y0 K a xs.length) H:=by
 refine⟨λi m ys σ H=>m=xs.length-i/\i<=xs.length/\Pv i ys σ H,⟨xs.length,by simp,aa5 _,h0⟩,?_⟩
 rintro i m ys σ H ⟨rfl,hi,p⟩
 obtain⟨q,hy⟩:=hl i ys σ H hi p
 by_cases hlt:i<xs.length
 ·refine .inr ⟨⟨hlt,xs,xs[xs.length-1-i]'(by omega),q,aap (by omega)⟩,by omega,Pv (i+1),λys' σ' H' p'=>⟨xs.length-(i+1),by omega,rfl,hlt,p'⟩,λx H' y=>?_⟩
  obtain⟨e,y⟩:=y
  subst e
  exact hs i x ys σ _ (y xs q) hlt p
 ·have e:i=xs.length:=by omega
  subst e
  exact .inl ⟨rfl,by omega,hd ys σ H p⟩
structure ql(K:PySem.W.Frag)(C:Addr)(m:Str)(f:Addr):Prop where
 sp:specialIn K (.ref C) "__getattribute__" = some (some (.builtin "type.__getattribute__"))
 rd:PySem.W.readsIn K C (.type "type")=true
 at_:PySem.W.findCls K (.ref C) (.type "type") m=some (.val (.ref f))
 kp:keepIn K (.ref f)=true
section
variable{X:Cx}{CX:tK}{k:Nat}{f C:Addr}{fd:FuncData}{ps:List Str}{sp:Sp}{kZ:List V}{ds:List Value}{E:XK}{x m:Str}{p pos apos:Pos}{e o:Expr}{es:List Expr}{ta:TE}{t:TA}
theorem uP(hg:Gl X x)(hm:X.mg x=some (.ref C))(c:ql X.K C m f)(F:aq X.prog X.w X.K X.mg X.base CX k f fd ps sp)(hr:bO k X.A)(hb:Binds X.K fd ps ds)(hd:Vals kZ ds)(hx:CZ CX X E)(ha:PA X (e::es) t)(hdb:(x==("__debug__":Str))=false:=by decide)(hst:starEach (e::es) X.env=(false,eval e X.env)::starEach es X.env:=by rfl)(hpl:(backTo pos (starEach es X.env)).any (·.1)=false:=by rfl)(ht:eval (.Call (.Attribute (.Name x p) m apos) (e::es) [] pos) X.env=(do
   let ov <-eval (.Name x p) X.env
   standAt apos.atName
   let(f,first) <-holding [ov] (getMethod ov m pl)
   callWith pos f first (backTo pos (starEach (e::es) X.env)) (backToKw pos (keywordEach [] X.env))):=by rfl) :
  PE X (.Call (.Attribute (.Name x p) m apos) (e::es) [] pos) (tM sp kZ E t):=by
 intro pins s σ H Q I h
 refine aen (pl:=pl) (Qg I hg hm ?_ hdb) ht
 refine PySem.W.method_cls I.jH c.sp (PySem.W.cls_value I.jH c.rd c.at_ rfl ?_)
 have I':=I.tok (s.toks+1)
 refine aep (first:=[]) (h₀:=X.base) I.ok.mod.N_ c.kp (aP (ha pos pins _ σ H _ I' h) λus s1 ⟨vs,H1,I1,r,q⟩=>⟨I1.jH,?_⟩) hst hpl
 exact Uz F hr hb hd hx I1 r q
end
theorem ud{x y:V}{A B:Prop}(h:x=y)(a:A):if decide (x=y)=true then A else B:=by
 rw[decide_eq_true h]
 exact iI a
theorem b_{x y:V}{A B:Prop}(h:¬x=y)(b:B):if decide (x=y)=true then A else B:=by
 rw[decide_eq_false h]
 exact lG b
end L2
namespace Sy
open PySem L2
inductive Tr where
 |all
 |mark (x:Str)
 |one (i:Fin 7) (t:Tr)
 |two (i:Fin 4) (l r:Tr)
def w1(i:Fin 7):Str:=(["not","somenext","eachnext","somealways","eachalways","someever","eachever"]:List Str).getD i.val adx
def w2(i:Fin 4):Str:=(["both","either","sometill","eachtill"]:List Str).getD i.val adx
def Tr.depth:Tr->Nat
 |.all=>0
 |.mark _=>0
 |.one _ t=>t.depth+1
 |.two _ l r=>max l.depth r.depth+1
def Kp(p:Addr)(H H':Hp):Prop:=∀b o,b≠p->H b=some o->H' b=some o
theorem Kp.of(s:Same H H'):Kp p H H':=λb o _ e=>s b o e
theorem Kp.trans(a:Kp p H H1)(b:Kp p H1 H2):Kp p H H2:=λc o n e=>b c o n (a c o n e)
theorem Kp.put(p:Addr)(H:Hp)(o:HO):Kp p H (upd H p o):=λb u n e=>by rw[zP n];exact e
theorem au(h:H p=none)(o:HO):Same H (upd H p o):=λb u q=>by rw[zP (zN q h)];exact q
theorem VF(h:aV K H b xs)(n:b≠a)(k:Kp a H H'):aV K H' b xs:=by
 rcases h with(h|⟨ob,h⟩)|h
 ·exact .inl (.inl (k _ _ n h))
 ·exact .inl (.inr ⟨ob,k _ _ n h⟩)
 ·exact .inr h
def wj(w:V)(q:Addr):List (Str×V):=aG "parts" (.ref q) (aG "word" w [])
def uf(w v:V)(q:Addr):List (Str×V):=aG "part" v (wj w q)
def ug(w v u:V)(q:Addr):List (Str×V):=aG "right" u (aG "left" v (wj w q))
def Ph(x:V)(q:Addr):List (Str×V):=aG "name" x (wj x q)
theorem bQ(f:Str)(v:V):∀fs:List (Str×V),(aG f v fs).length<=fs.length+1
 |[]=>aaq _
 | (g,x)::r=>by
  unfold aG
  split
  ·exact ab6 _
  ·exact ab2 (bQ f v r)
theorem VG(w:V)(q:Addr):(wj w q).length<=2:=by
 have a1:=bQ "parts" (V.ref q) (aG "word" w [])
 have a2:=bQ "word" w []
 have a3:([]:List (Str×V)).length=0:=rfl
 show(aG "parts" (V.ref q) (aG "word" w [])).length<=2
 omega
structure gF(K:PySem.W.Frag)(C:Addr):Prop where
 cl:Cls K C
 nW:bw K C "word"
 nP:bw K C "parts"
 n1:bw K C "part"
 nL:bw K C "left"
 nR:bw K C "right"
 nN:bw K C "name"
inductive Hd where
 |all
 |mark
 |one (i:Fin 7)
 |two (i:Fin 4)
def spS(K:PySem.W.Frag):Sp:=λvs H Q _=>∃(p C dx:Addr)(x y:V),vs=[.ref p,x,y]/\H p=some (.ins C dx [])/\gF K C/\∀H':Hp,Kp p H H'->H' p=some (.ins C dx (aG "parts" y (aG "word" x [])))->Q .non H'
def qF(K:PySem.W.Frag):Sp:=λvs H Q _=>∃(p C dx:Addr)(x v:V),vs=[.ref p,x,v]/\H p=some (.ins C dx [])/\gF K C/\∀(q:Addr)(H':Hp),Kp p H H'->H q=none->H' q=some (.tup [v])->H' p=some (.ins C dx (uf x v q))->Q .non H'
def Ab(K:PySem.W.Frag):Sp:=λvs H Q _=>∃(p C dx:Addr)(x v u:V),vs=[.ref p,x,v,u]/\H p=some (.ins C dx [])/\gF K C/\∀(q:Addr)(H':Hp),Kp p H H'->H q=none->H' q=some (.tup [v,u])->H' p=some (.ins C dx (ug x v u q))->Q .non H'
def Lw(C:Addr):Sp:=λvs H Q _=>∃(p dx:Addr),vs=[.ref p]/\H p=some (.ins C dx [])/\∀(q:Addr)(H':Hp),Kp p H H'->H q=none->H' q=some (.tup [])->H' p=some (.ins C dx (wj (.str "all") q))->Q .non H'
def Sq(C:Addr):Sp:=λvs H Q _=>∃(p dx:Addr)(x:V),vs=[.ref p,x]/\H p=some (.ins C dx [])/\∀(q:Addr)(H':Hp),Kp p H H'->H q=none->H' q=some (.tup [])->H' p=some (.ins C dx (Ph x q))->Q .non H'
def oG(C:Addr)(w:Str):Sp:=λvs H Q _=>∃(p dx:Addr)(v:V),vs=[.ref p,v]/\H p=some (.ins C dx [])/\∀(q:Addr)(H':Hp),Kp p H H'->H q=none->H' q=some (.tup [v])->H' p=some (.ins C dx (uf (.str w) v q))->Q .non H'
def q_(C:Addr)(w:Str):Sp:=λvs H Q _=>∃(p dx:Addr)(v u:V),vs=[.ref p,v,u]/\H p=some (.ins C dx [])/\∀(q:Addr)(H':Hp),Kp p H H'->H q=none->H' q=some (.tup [v,u])->H' p=some (.ins C dx (ug (.str w) v u q))->Q .non H'
inductive aX(cl:Hd->Addr)(H:Hp):Addr->Tr->Prop where
 |all {p q dx:Addr}:H p=some (.ins (cl .all) dx (wj (.str "all") q))->H q=some (.tup [])->aX cl H p .all
 |mark {p q dx:Addr} {x:Str}:H p=some (.ins (cl .mark) dx (Ph (.str x) q))->H q=some (.tup [])->aX cl H p (.mark x)
 |one {p q dx c:Addr} {i:Fin 7} {t:Tr}:H p=some (.ins (cl (.one i)) dx (uf (.str (w1 i)) (.ref c) q))->H q=some (.tup [.ref c])->aX cl H c t->aX cl H p (.one i t)
 |two {p q dx c d:Addr} {i:Fin 4} {l r:Tr}:H p=some (.ins (cl (.two i)) dx (ug (.str (w2 i)) (.ref c) (.ref d) q))->H q=some (.tup [.ref c,.ref d])->aX cl H c l->aX cl H d r->aX cl H p (.two i l r)
theorem aX.same(h:aX cl H p t)(s:Same H H'):aX cl H' p t:=by
 induction h with
 |all h1 h2=>exact .all (s _ _ h1) (s _ _ h2)
 |mark h1 h2=>exact .mark (s _ _ h1) (s _ _ h2)
 |one h1 h2 _ ih=>exact .one (s _ _ h1) (s _ _ h2) ih
 |two h1 h2 _ _ ih1 ih2=>exact .two (s _ _ h1) (s _ _ h2) ih1 ih2
def hd:Tr->Hd
 |.all=>.all
 |.mark _=>.mark
 |.one i _=>.one i
 |.two i _ _=>.two i
def hw:Tr->Str
 |.all=>"all"
 |.mark x=>x
 |.one i _=>w1 i
 |.two i _ _=>w2 i
def rC:Tr->List Tr
 |.all=>[]
 |.mark _=>[]
 |.one _ t=>[t]
 |.two _ l r=>[l,r]
theorem kw1:¬(("word":Str) = "parts"):=by decide +kernel
theorem kw2:¬(("word":Str) = "part"):=by decide +kernel
theorem kw3:¬(("word":Str) = "left"):=by decide +kernel
theorem kw4:¬(("word":Str) = "right"):=by decide +kernel
theorem kw5:¬(("word":Str) = "name"):=by decide +kernel
theorem kp2:¬(("parts":Str) = "part"):=by decide +kernel
theorem kp3:¬(("parts":Str) = "left"):=by decide +kernel
theorem kp4:¬(("parts":Str) = "right"):=by decide +kernel
theorem kp5:¬(("parts":Str) = "name"):=by decide +kernel
theorem VH(w:V)(q:Addr):(wj w q).lookup ("word":Str)=some w:=by unfold wj;rw[zL,if_neg kw1,zL,if_pos rfl]
theorem VJ(w:V)(q:Addr):(wj w q).lookup ("parts":Str)=some (.ref q):=by unfold wj;rw[zL,if_pos rfl]
theorem VL(w:V)(q:Addr){m:Str}(h1:¬m = "parts")(h2:¬m = "word"):(wj w q).lookup m=none:=by
 unfold wj
 rw[zL,if_neg h1,zL,if_neg h2]
 rfl
theorem aX.look(h:aX cl H p t):∃(dx q:Addr)(fs:List (Str×V))(cs:List Addr),H p=some (.ins (cl (hd t)) dx fs)/\fs.lookup ("word":Str)=some (.str (hw t))/\fs.lookup ("parts":Str)=some (.ref q) /\
  (∀m:Str,¬m = "word"->¬m = "parts"->¬m = "part"->¬m = "left"->¬m = "right"->¬m = "name"->fs.lookup m=none)/\H q=some (.tup (cs.map V.ref))/\Paired (aX cl H) cs (rC t):=by
 cases h with
 |all h1 h2=>exact⟨_,_,_,[],h1,VH _ _,VJ _ _,λm a b _ _ _ _=>VL _ _ b a,h2,.nil⟩
 |mark h1 h2 =>
  refine⟨_,_,_,[],h1,?_,?_,λm a b _ _ _ f=>?_,h2,.nil⟩
  ·unfold Ph;rw[zL,if_neg kw5];exact VH _ _
  ·unfold Ph;rw[zL,if_neg kp5];exact VJ _ _
  ·unfold Ph;rw[zL,if_neg f];exact VL _ _ b a
 |one h1 h2 h3 =>
  refine⟨_,_,_,[_],h1,?_,?_,λm a b c _ _ _=>?_,h2,.cons h3 .nil⟩
  ·unfold uf;rw[zL,if_neg kw2];exact VH _ _
  ·unfold uf;rw[zL,if_neg kp2];exact VJ _ _
  ·unfold uf;rw[zL,if_neg c];exact VL _ _ b a
 |two h1 h2 h3 h4 =>
  refine⟨_,_,_,[_,_],h1,?_,?_,λm a b _ c d _=>?_,h2,.cons h3 (.cons h4 .nil)⟩
  ·unfold ug;rw[zL,if_neg kw4,zL,if_neg kw3];exact VH _ _
  ·unfold ug;rw[zL,if_neg kp4,zL,if_neg kp3];exact VJ _ _
  ·unfold ug;rw[zL,if_neg d,zL,if_neg c];exact VL _ _ b a
theorem zPc(h:u∈rC t):u.depth<t.depth:=by
 cases t with
 |all=>cases h
 |mark x=>cases h
 |one i t=>simp[rC] at h;subst h;exact ab8 _
 |two i l r =>
  simp[rC] at h
  rcases h with rfl|rfl
  ·show _<max _ _+1;omega
  ·show _<max _ _+1;omega
def n1(i:Fin 7):Str:=(["Not","SomeNext","EachNext","SomeAlways","EachAlways","SomeEver","EachEver"]:List Str).getD i.val adx
def n2(i:Fin 4):Str:=(["Both","Either","SomeTill","EachTill"]:List Str).getD i.val adx
structure Y4(P:Program)(w:World)(K:PySem.W.Frag)(mg:Str->Option Value)(base:Heap)(k:Nat)(cl fi:Hd->Addr)(di:Hd->FuncData):Prop where
 made:∀h,Mk K (cl h) (fi h)
 iA:aq P w K mg base aO k (fi .all) (di .all) ["self"] (Lw (cl .all))
 bA:Binds K (di .all) ["self"] []
 iM:aq P w K mg base aO k (fi .mark) (di .mark) ["self","name"] (Sq (cl .mark))
 bM:Binds K (di .mark) ["self","name"] []
 i1:∀i,aq P w K mg base aO k (fi (.one i)) (di (.one i)) ["self","part"] (oG (cl (.one i)) (w1 i))
 b1:∀i,Binds K (di (.one i)) ["self","part"] []
 i2:∀i,aq P w K mg base aO k (fi (.two i)) (di (.two i)) ["self","left","right"] (q_ (cl (.two i)) (w2 i))
 b2:∀i,Binds K (di (.two i)) ["self","left","right"] []
 mA:mg "All" = some (.ref (cl .all))
 mM:mg "Mark" = some (.ref (cl .mark))
 m1:∀i,mg (n1 i)=some (.ref (cl (.one i)))
 m2:∀i,mg (n2 i)=some (.ref (cl (.two i)))
theorem Ss(nx:H x=none)(nd:H dx=none):Same H (upd (upd H dx (.own x)) x (.ins C dx [])):=λb o e=>by
 rw[zP (zN e nx),zP (zN e nd)]
 exact e
theorem vV(nx:H x=none)(nd:H dx=none)(k:Kp x (upd (upd H dx (.own x)) x (.ins C dx [])) H'):Same H H':=λb o e=>k b o (zN e nx) (Ss nx nd b o e)
end Sy
namespace Ts
open PySem L2 Sy
structure aM(cl:Hd->Addr) where
 t:Tr
def jt:Hd->Tr->Bool
 |.all,.all=>true
 |.mark,.mark _=>true
 |.one i,.one j _=>decide (j=i)
 |.two i,.two j _ _=>decide (j=i)
 |_,_=>false
def aM.parts(x:aM cl):List (aM cl):=(rC x.t).map aM.mk
def aM.name(x:aM cl):Option Str:=match x.t with
 |.mark s=>some s
 |_=>none
structure pO(P:Program)(w:World)(K:PySem.W.Frag)(mg:Str->Option Value)(base:Heap)(k:Nat)(cl fi:Hd->Addr)(di:Hd->FuncData):Prop where
 ini:Y4 P w K mg base k cl fi di
 kd:∀h,gF K (cl h)
 qj:∀h h':Hd,∀t:Tr,hd t=h->kitOne K (.ref (cl h)) (.ref (cl h'))=some (jt h' t)
 c1:∀h,findIn K (.ref (cl h)) "__class__" = some (some (.builtin "object.__class__"))
 c2:specialIn K (.builtin "object.__class__") "__get__" = some (some (.builtin "getset_descriptor.__get__"))
 c3:takesIn K (.builtin "object.__class__")=some true
 c4:∀h,mroIn K (cl h) (.type "object")=some true
section
variable{K:PySem.W.Frag}{cl:Hd->Addr}
instance:Rp K (aM cl):=⟨λF v x=>∃p,v=.ref p/\aX cl F p x.t,λs ⟨p,h1,h2⟩=>⟨p,h1,h2.same s⟩⟩
instance:Nn K (aM cl):=⟨λ⟨_,h,_⟩=>by rw[h];intro e;cases e⟩
end
section
variable{K:PySem.W.Frag}{B:Bs}{F H H2:Hp}{O:Own}
theorem Pj(k:Ok B F O H)(s:Same H H2)(hx:H x=none)(e:H2 x=some o):∀md:Md,reg B (ext F H H2) H2 md x=some o
 |.hp=>e
 |.fz=>by
  show ext F H H2 x=some o
  unfold ext
  rw[hx]
  exact e
 |.nw=>by
  show dif (ext F H H2) B.H0 x=some o
  rw[xT (k.h0.free hx)]
  unfold ext
  rw[hx]
  exact e
end
section
variable{P:Program}{w:World}{K:PySem.W.Frag}{mg:Str->Option Value}{base:Heap}{B:Bs}{sl:SL K}{md:Md}{te t1 t2:TE}{cl fi:Hd->Addr}{di:Hd->FuncData}{k:Nat}
theorem Y5(h:upd (upd H dx o1) x o2 q=none):H q=none:=by
 by_cases e1:q=x
 ·subst e1;rw[zJ] at h;cases h
 ·rw[zP e1] at h
  by_cases e2:q=dx
  ·subst e2;rw[zJ] at h;cases h
  ·rw[zP e2] at h;exact h
theorem zQq:Ex B sl md (Hj (cl .all) (Lw (cl .all)) [] E0 bh) (some (aM.mk (cl:=cl) .all)):=λc hc F O H σ Q s kk=>by
 cases hc
 intro x dx nx nd ne
 refine⟨x,dx,rfl,zJ,λq H2 k1 f0 e1 e2=>⟨rfl,?_⟩⟩
 have s2:=vV nx nd k1
 have g:=s.1.called s2
 exact kk (.ref x) _ H2 g ⟨x,rfl,.all (Pj s.1 s2 nx e2 md) (Pj s.1 s2 (Y5 f0) e1 md)⟩
theorem xK(i:Fin 7){m:Option (aM cl)}(h:Ex B sl md te m):Ex B sl md (Hj (cl (.one i)) (oG (cl (.one i)) (w1 i)) [] E0 (yM te bh)) (m.bind λa=>some (aM.mk (cl:=cl) (.one i a.t))):=λc hc F O H σ Q s kk=>by
 cases m with
 |none=>cases hc
 |some a =>
  cases hc
  refine h a rfl F O H σ _ s λv F' H' g r1=>?_
  obtain⟨p,rfl,sa⟩:=r1
  intro x dx nx nd ne
  refine⟨x,dx,.ref p,rfl,zJ,λq H2 k1 f0 e1 e2=>⟨rfl,?_⟩⟩
  have s2:=vV nx nd k1
  have g2:=g.ok.called s2
  exact kk (.ref x) _ H2 (g.trans g2) ⟨x,rfl,.one (Pj g.ok s2 nx e2 md) (Pj g.ok s2 (Y5 f0) e1 md) (sa.same (xD g2 md))⟩
theorem Fd(i:Fin 4){m1 m2:Option (aM cl)}(h1:Ex B sl md t1 m1)(h2:Ex B sl md t2 m2):Ex B sl md (Hj (cl (.two i)) (q_ (cl (.two i)) (w2 i)) [] E0 (yM t1 (yM t2 bh))) (m1.bind λa=>m2.bind λb=>some (aM.mk (cl:=cl) (.two i a.t b.t))):=λc hc F O H σ Q s kk=>by
 obtain⟨a,b,ha,hb,hf⟩:=qg hc
 cases hf
 refine h1 a ha F O H σ _ s λv F' H' g r1=>?_
 refine h2 b hb F' O H' σ _ (s.grow g) λw F2 H2' g2 r2=>?_
 obtain⟨p,rfl,sa⟩:=r1
 obtain⟨p2,rfl,sb⟩:=r2
 intro x dx nx nd ne
 refine⟨x,dx,.ref p,.ref p2,rfl,zJ,λq H2 k1 f0 e1 e2=>⟨rfl,?_⟩⟩
 have s2:=vV nx nd k1
 have g3:=g2.ok.called s2
 exact kk (.ref x) _ H2 (g.trans (g2.trans g3)) ⟨x,rfl,.two (Pj g2.ok s2 nx e2 md) (Pj g2.ok s2 (Y5 f0) e1 md) (sa.same (xD (g2.trans g3) md)) (sb.same (xD g3 md))⟩
theorem wI(I:pO P w K mg base k cl fi di)(hh:Hd){m:Option (aM cl)}(h:Ex B sl .hp te m):Ex B sl md (tQ (Dm K (.ref (cl hh))) (yM te (yM (tC (.ref (cl hh))) bh))) (m.bind λa=>some (jt hh a.t)):=λc hc F O H σ Q s kk=>by
 cases m with
 |none=>cases hc
 |some a =>
  cases hc
  refine h a rfl F O H σ _ s λv F' H' g r1=>?_
  obtain⟨p,rfl,sa⟩:=r1
  obtain⟨dx,q,fs,cs,l1,_⟩:=sa.look
  exact⟨.ref p,.ref (cl hh),_,_,rfl,rfl,.ins l1 (I.kd (hd a.t)).cl (I.c1 _) I.c2 I.c3 (I.c4 _),I.qj (hd a.t) hh a.t rfl,kk _ F' H' g rfl⟩
theorem zNr(I:pO P w K mg base k cl fi di){m:Option (aM cl)}(h:Ex B sl .hp te m):Ex B sl md (pJ K te "name") (m.bind λa=>a.name):=λc hc F O H σ Q s kk=>by
 cases m with
 |none=>cases hc
 |some a =>
  obtain⟨t⟩:=a
  cases t with
  |mark x =>
   cases hc
   refine h _ rfl F O H σ _ s λv F' H' g r1=>?_
   obtain⟨p,rfl,sa⟩:=r1
   cases sa with
   |mark e1 e2=>exact⟨p,_,_,_,_,rfl,e1,(I.kd .mark).cl,(I.kd .mark).nN,by unfold Ph;rw[zL,if_pos rfl],kk _ F' H' g rfl⟩
  |_=>cases hc
theorem Ip:∀{cs:List Addr}{ts:List Tr},Paired (aX cl F) cs ts->A2 (rp K F) (cs.map V.ref) (ts.map (aM.mk (cl:=cl)))
 |_,_,.nil=>trivial
 |_,_,.cons h r=>⟨⟨_,rfl,h⟩,Ip r⟩
theorem zTx{n:Bool}(I:pO P w K mg base k cl fi di){mi:Option (aM cl)}(h:Ex B sl (d_ n) te mi):Ei B sl n (JH K (pJ K te "parts")) (mi.bind λa=>some a.parts):=λxs hx F O H σ R a kk=>by
 cases mi with
 |none=>cases hx
 |some y =>
  cases hx
  refine h y rfl F O H σ _ a λv F' H' gr r=>?_
  obtain⟨p,rfl,sa⟩:=r
  obtain⟨dx,q,fs,cs,l1,l2,l3,l4,l5,l6⟩:=sa.look
  have h2:A2 (rp K (reg B F' H' (d_ n))) (cs.map V.ref) y.parts:=Ip l6
  have e1:=zc gr.ok n p _ l1
  refine⟨p,_,dx,fs,.ref q,rfl,e1,(I.kd _).cl,(I.kd _).nP,l3,q,rfl,⟨_,cI.of (zc gr.ok n q _ l5)⟩,kk _ F' H' gr λi F2 O2 H2 sf k2=>?_⟩
  have hq:cI K H2 q (cs.map V.ref):=cI.of (k2.fh _ _ (sf _ _ (by cases n with|true=>exact aW _ _ l5|false=>exact l5)))
  refine⟨λhl=>⟨_,hq,by rw[h2.len];exact hl⟩,λx hx=>?_⟩
  obtain⟨w,hw,rw⟩:=h2.at2 hx
  refine⟨⟨_,w,hq,hw⟩,λv H3 yd=>?_⟩
  obtain⟨e,y'⟩:=yd
  subst e
  have:=(hw.symm.trans (y' _ hq))
  cases this
  exact⟨F2,.refl k2,Rp.mono (wD n sf) rw⟩
end
theorem Ly(K:PySem.W.Frag)(hl:PE X l tl)(h:X.K=K:=by rfl):PI X tg l (JH K tl):=by subst h;exact zUt hl
section
variable{K:PySem.W.Frag}{B:Bs}{sl:SL K}{md:Md}{te:TE}{α:Type}[Rp K α]
def Ac{α:Type}(xs ys:List α):Option (List α):=if xs.length+ys.length<cap then some (xs++ys) else none
theorem zMr{n:Bool}{xs:List α}{m:Option (List α)}(i:Nat)(hs:sl[i]?=some (.ow n xs))(hh:sl.all (λs=>!cJ s)=true)(h:Ex B sl (d_ n) te m) :
  Sn B sl (Oa (Ol K "list" Xk (cj i) (yM te bh))) (λys=>sl.set i (.ow n ys)) (m.bind λa=>Ac xs a):=λys ha G D σ H s k=>by
 cases m with
 |none=>cases ha
 |some a =>
  have ha':Ac xs a=some ys:=ha
  unfold Ac at ha'
  split at ha'
  case isFalse=>cases ha'
  rename_i hl
  cases ha'
  obtain⟨F,O,g,z⟩:=s
  obtain⟨p,vs,h1,h2,h3,_⟩:=z.chg hs hh
  refine⟨_,h1,.inl ⟨rfl,_,aV.of h2⟩,?_⟩
  refine h a rfl F O H σ _ z λv F' H' gr r=>?_
  obtain⟨p',vs',h1',h2',h3',h4'⟩:=(z.grow gr).chg hs hh
  have e:=h1.symm.trans h1'
  cases e
  obtain⟨q,us,rfl,z1,z2⟩:=r
  obtain⟨O',z'⟩:=h4' (vs'++us) (xs++a) (h3'.app z2)
  exact⟨p,q,_,_,rfl,rfl,h2',zc gr.ok n q _ z1,by rw[h3'.len,z2.len];exact acq (BX hl),k _ _ ⟨F',O',g.trans gr.ff,z'⟩⟩
end
end Ts
namespace Sv
open PySem PySem.Spec PyProof.Rows
set_option maxRecDepth 100000
section
variable{prog:Program}{w:World}{A:Around}{E:Value->Shared->Prop}{s:Shared}
abbrev Y6(h:Heap)(z TI TO T:Addr)(b:Bool):Prop :=
 h.get? z=some { cls:=.type "zip",dict:=none,data:=.fields #[rawInt T,.bool b,.bool false,.ref TI,.ref TO],slots:=#[] }
structure ZSt(h:Heap)(S z TI TO i1 i2 l1 l2 N i:Nat)(xs ys acc:Array Value):Prop where
 sz:h.objs.size=N+i
 zz:(i=0/\IsZip h z TI TO .none/\∃a b,IsPair h TO a b)\/(0<i/\∃b,Y6 h z TI TO N b)
 ti:IsPair h TI (.ref i1) (.ref i2)
 h1:h.IsListIter i1 l1 i
 h2:h.IsListIter i2 l2 i
 q1:h.IsList l1 xs
 q2:h.IsList l2 ys
 ls:∃c,h.get? S=some { cls:=.type "list",dict:=none,data:=.seq acc c,slots:=#[] }
 al:acc.toList=(aa1 i).map λj=>abj (N+j)
 tp:∀j x y,j<i->xs[j]?=some x->ys[j]?=some y->IsPair h (N+j) x y
variable{R:Result->Shared->Prop}
end
section
variable{prog:Program}{w:World}{A:Around}{E:Value->Shared->Prop}{s:Shared}
end
end Sv
namespace L2
open PySem PySem.Spec PyProof.Rows Sv
end L2
namespace Ts
open PySem L2
section
variable{K:PySem.W.Frag}{B:Bs}{sl:SL K}{md:Md}{t1 t2:TE}{α β:Type}[Rp K α][Rp K β]
end
open PySem L2 Sy
inductive sW where
 |none
 |step (n:Int)
 |shut
 |walk (xs:LI)
 |out
 |loop (xs ys:LI)
 |rank (n:Int) (o:Option Int)
 |here
 |dead
 |plain
def sW.word:sW->Str
 |.none=>"none"
 |.step _=>"step"
 |.shut=>"shut"
 |.walk _=>"walk"
 |.out=>"out"
 |.loop _ _=>"loop"
 |.rank _ _=>"rank"
 |.here=>"here"
 |.dead=>"dead"
 |.plain=>"plain"
def sW.len:sW->Int
 |.step _=>2
 |.walk _=>2
 |.loop _ _=>3
 |.rank _ _=>3
 |_=>1
def sW.at1:sW->Option Int
 |.step n=>some n
 |.rank n _=>some n
 |_=>afh
section
variable{K:PySem.W.Frag}
def sW.rest(K:PySem.W.Frag)(F:Hp):sW->List V->Prop
 |.step n,vs=>vs=[.int n]
 |.walk xs,vs=>∃a,vs=[a]/\rp K F a xs
 |.loop xs ys,vs=>∃a b,vs=[a,b]/\rp K F a xs/\rp K F b ys
 |.rank n o,vs=>∃b,vs=[.int n,b]/\rp K F b o
 |_,vs=>vs=[]
theorem sW.uh(s:Same F F'):∀{r:sW}{vs:List V},r.rest K F vs->r.rest K F' vs
 |.step _,_,h=>h
 |.walk _,_,⟨a,h1,h2⟩=>⟨a,h1,Rp.mono s h2⟩
 |.loop _ _,_,⟨a,b,h1,h2,h3⟩=>⟨a,b,h1,Rp.mono s h2,Rp.mono s h3⟩
 |.rank _ _,_,⟨b,h1,h2⟩=>⟨b,h1,Rp.mono s h2⟩
 |.none,_,h=>h
 |.shut,_,h=>h
 |.out,_,h=>h
 |.here,_,h=>h
 |.dead,_,h=>h
 |.plain,_,h=>h
instance:Rp K sW:=⟨λF v r=>∃p vs,v=.ref p/\F p=some (.tup (.str r.word::vs))/\r.rest K F vs,λs ⟨p,vs,h1,h2,h3⟩=>⟨p,vs,h1,s _ _ h2,sW.uh s h3⟩⟩
instance:Nn K sW:=⟨λ⟨_,_,h,_⟩=>by rw[h];intro e;cases e⟩
instance:Ty K sW:=⟨.type "tuple",λ⟨p,_,e,h,_⟩=>by rw[e];exact .tup h⟩
end
section
variable{K:PySem.W.Frag}{B:Bs}{sl:SL K}{md:Md}{te t1 t2:TE}
end
end Ts
namespace L2
open PySem PySem.Spec PyProof.Rows
section
variable{X:Cx}
end
end L2
namespace Ts
open PySem L2
section
variable{K:PySem.W.Frag}{B:Bs}{sl:SL K}{md:Md}{t t1 t2:TE}
end
section
variable{K:PySem.W.Frag}{B:Bs}{sl:SL K}{F H H' L L':Hp}{O:Own}{σ:St}{α:Type}[Rp K α]
abbrev gR:Slot K->Bool
 |@Slot.nu _ _ _ _=>true
 |_=>false
theorem ak.Lz(h:ak B F L H sl σ O)(hn:sl.all (λs=>!cJ s&&!gR s)=true):ak B F L' H' sl σ O:=by
 induction h with
 |nil=>exact .nil
 |un _ ih=>exact .un (ih (by rw[all_cons,aar] at hn;exact hn.2))
 |fz r _ ih=>exact .fz (Rp.mono (wD _ (.refl _)) r) (ih (by rw[all_cons,aar] at hn;exact hn.2))
 |hs r _ ih=>rw[all_cons,aar] at hn;exact absurd hn.1 (by simp)
 |nu r _ ih=>rw[all_cons,aar] at hn;exact absurd hn.1 (by simp)
 |ow r _ ih=>exact .ow (r.imp λ_ _=>Rp.mono (wD _ (.refl _))) (ih (by rw[all_cons,aar] at hn;exact hn.2))
 |od r _ ih=>exact .od r (ih (by rw[all_cons,aar] at hn;exact hn.2))
end
open PySem L2 Sy
open PySem.SeqAt (EqAt RcAt RcNeAt)
section
variable{K:PySem.W.Frag}
variable{B:Bs}{sl:SL K}{md:Md}{t1 t2:TE}
end
def del(H:Hp)(p:Addr):Hp:=λb=>if b=p then none else H b
def LC(K:PySem.W.Frag){A β:Type}[Rp K β](as:A->SL K)(f:LI->A->Option (β×LI)):Sp:=λvs H Q _ =>
 ∃(p:Addr)(ws:LI)(us:List V)(a:A)(b:β)(ws':LI)(Fa:Hp),vs=.ref p::us/\H p=some (.lst (ws.map V.int))/\Fa p=none/\Same Fa H/\f ws a=some (b,ws')/\Ar Fa (as a) us /\
  ∀v H',Same (del H p) H'->H' p=some (.lst (ws'.map V.int))->rp K (dif H' H) v b->Q v H'
section
variable{K:PySem.W.Frag}{B:Bs}{sl:SL K}{md:Md}{β:Type}[Rp K β]
def Ey(B:Bs)(sl:SL K)(md:Md)(t:TE){α S:Type}[Rp K α](L:S->SL K)(m:Option (α×S)):Prop :=
 ∀a s,m=some (a,s)->∀(F:Hp)(O:Own)(H:Hp)(σ:St)(Q:VK),At B sl F O H σ->(∀(v:V)(F':Hp)(O':Own)(H':Hp),Same F F'->At B (L s) F' O' H' σ->rp K (reg B F' H' md) v a->Q v H')->t σ H Q
theorem zTp{A:Type}{as:A->SL K}{f:LI->A->Option (β×LI)}{ma:Option A}(i:Nat)(hs:sl[i]?=some (.ow n ws))(hh:sl.all (λs=>!cJ s)=true)(h:Ea B sl .fz ta as ma) :
  Ey B sl md (tM (LC K as f) [] E0 (yM (cj i) ta)) (λws'=>sl.set i (.ow n ws')) (ma.bind λa=>f ws a):=λb ws' hc F O H σ Q z k=>by
 cases ma with
 |none=>cases hc
 |some a =>
  have hc:f ws a=some (b,ws'):=hc
  obtain⟨p,vs,h1,h2,h3,_⟩:=z.chg hs hh
  refine⟨_,h1,?_⟩
  refine h a rfl F O H σ _ z λus F' H' gr r=>?_
  have z1:=z.grow gr
  obtain⟨p',vs',h1',h2',h3',h4'⟩:=z1.chg hs hh
  cases h1.symm.trans h1'
  obtain⟨O1,O2,p2,vs2,eO,Dl,_⟩:=z1.2.oV hs
  cases h1.symm.trans Dl
  have fp:F' p=none:=by
   have k1:=z1.1
   rw[eO] at k1
   exact k1.one.1
  have ev:vs'=ws.map V.int:=A2.lZ h3'
  show LC K as f ((.ref p::us)++[]) H' Q E0
  rw[append_nil]
  refine⟨p,ws,us,a,b,ws',F',rfl,by rw[h2',ev],fp,gr.ok.fh,hc,r,λv H2 s2 e2 r2=>?_⟩
  obtain⟨O',z'⟩:=h4' (ws'.map V.int) ws' (A2.of_map (R:=rp K (reg B F' H' (d_ n))) (f:=V.int) (λ_=>rfl) ws')
  have s3:Same (upd H' p (.lst (ws'.map V.int))) H2:=λc o e=>by
   by_cases q:c=p
   ·subst q
    rw[zJ] at e
    rw[e2]
    exact e
   ·rw[zP q] at e
    refine s2 c o ?_
    unfold del
    rw[if_neg q]
    exact e
  have g2:=z'.1.called s3
  refine k v _ O' H2 (gr.ff.trans g2.ff) (z'.grow g2) ?_
  have d:Same (dif H2 H') (dif H2 (upd H' p (.lst (ws'.map V.int)))):=λc o e=>by
   unfold dif at e ⊢
   by_cases q:c=p
   ·subst q
    rw[h2'] at e
    cases e
   ·rw[zP q]
    exact e
  have r3:=Rp.mono (Kg (F:=F') z'.1.h0 s3) (Rp.mono d r2)
  exact match md with
  |.nw=>r3
  |.fz=>Rp.mono aW r3
  |.hp=>Rp.mono (aW.trans g2.ok.fh) r3
end
structure RL(p:Addr) where
 ws:LI
section
variable{K:PySem.W.Frag}{B:Bs}{sl:SL K}{F H:Hp}{O:Own}{σ:St}{md:Md}{β:Type}[Rp K β]{p:Addr}{ws:LI}
instance:Rp K (RL p):=⟨λF v x=>v=.ref p/\F p=some (.lst (x.ws.map V.int)),λs ⟨h1,h2⟩=>⟨h1,s _ _ h2⟩⟩
theorem At.iU(z:At B sl F O H σ)(hs:sl[i]?=some (.nu (RL.mk (p:=p) ws)))(hh:(sl.set i .un).all (λs=>!cJ s&&!gR s)=true) :
  σ[i]?=some (some (.ref p))/\H p=some (.lst (ws.map V.int))/\B.H0 p=none/\F p=none/\(∀x∈O,x.1≠p)/\∀ws':LI,At B (sl.set i (.nu (RL.mk (p:=p) ws'))) F O (upd H p (.lst (ws'.map V.int))) σ:=by
 obtain⟨v,h1,rfl,h2⟩:=z.2.za hs
 have b0:B.H0 p=none:=by
  cases q:B.H0 p with
  |none=>rfl
  |some u=>unfold dif at h2;rw[q] at h2;cases h2
 rw[xT b0] at h2
 have h2':=h2
 unfold lo at h2
 split at h2
 case isTrue=>cases h2
 rename_i hlo
 have hlo':=hlo
 rw[abp,not_or] at hlo
 have f0:F p=none:=by
  cases q:F p with
  |none=>rfl
  |some u=>exact absurd (by rw[q];rfl) hlo.1
 have o0:∀x∈O,x.1≠p:=λx hx e=>hlo.2 (any_eq_true.mpr ⟨x,hx,by simpa using e⟩)
 refine⟨h1,h2,b0,f0,o0,λws'=>⟨⟨z.1.fh.put f0 _,z.1.h0.put b0 _,z.1.fa,λx hx=>?_,z.1.nd⟩,?_⟩⟩
 ·obtain⟨a1,a2,a3⟩:=z.1.fo x hx
  exact⟨a1,a2,by rw[zP (o0 x hx)];exact a3⟩
 ·have e:σ.set i (some (.ref p))=σ:=by
   apply ext_getElem?
   intro j
   rw[aco]
   split
   ·rename_i hij
    subst hij
    split
    ·exact h1.symm
    ·rename_i hlt
     rw[aa9 (by omega)] at h1
     cases h1
   ·rfl
  have q:=z.2.put (s':=.un) (x:=some (.ref p)) (λsl σ O h=>.un h) hs rfl
  rw[e] at q
  have q2:=q.Lz (L':=lo F O (upd H p (.lst (ws'.map V.int)))) (H':=upd H p (.lst (ws'.map V.int))) hh
  have hlt:i<sl.length:=by
   cases c:decide (i<sl.length) with
   |true=>exact of_decide_eq_true c
   |false=>rw[aa9 (by have:=of_decide_eq_false c;omega)] at hs;cases hs
  have q3:=q2.put (s:=.un) (s':=.nu (RL.mk (p:=p) ws')) (x:=some (.ref p)) (i:=i) (λsl σ O h=>.nu (by
   refine⟨rfl,?_⟩
   rw[xT b0]
   unfold lo
   rw[if_neg hlo',zJ]) h) (by rw[aco,if_pos rfl,if_pos hlt]) rfl
  rw[e,set_set] at q3
  exact q3
end
section
variable{K:PySem.W.Frag}{B:Bs}{sl:SL K}{F H:Hp}{O:Own}{σ:St}{md:Md}{α β S:Type}[Rp K α][Rp K β]{p:Addr}{ws:LI}{te:TE}{t u:TS}
def qG(B:Bs)(p:Addr)(sl:SL K)(t:TS){β:Type}[Rp K β](m:Option (β×LI)):Prop :=
 ∀b ws,m=some (b,ws)->∀(G:Hp)(D:Ends)(σ:St)(H:Hp),Sg B G sl σ H->(∀v H',Same B.H0 H'->H' p=some (.lst (ws.map V.int))->(∃F:Hp,F p=none/\Same F H'/\rp K (dif F B.H0) v b)->D.rt v H')->t D σ H
theorem qG.of{m m':Option (β×LI)}(h:qG B p sl t m)(e:m=m'):qG B p sl t m':=e▸h
theorem zO0{m:Option β}(i:Nat)(hs:sl[i]?=some (.nu (RL.mk (p:=p) ws)))(hh:(sl.set i .un).all (λs=>!cJ s&&!gR s)=true)(h:Ex B sl .nw te m):qG B p sl (iH (qU te) u) (m.bind λb=>some (b,ws)):=λb ws' hb G D σ H s k=>by
 cases m with
 |none=>cases hb
 |some c =>
  obtain⟨rfl,rfl⟩:=aei (aas (show some (c,ws)=some (b,ws') from hb))
  obtain⟨F,O,g,a⟩:=s
  refine h c rfl F O H σ _ a λv F' H' gr r=>?_
  obtain⟨_,h2,_,f0,_⟩:=(a.grow gr).iU hs hh
  exact k v H' gr.ok.h0 h2 ⟨F',f0,gr.ok.fh,r⟩
theorem Pk(hs:sl[i]?=some s):(sl.set i s')[i]?=some s':=by
 have hlt:i<sl.length:=by
  cases c:decide (i<sl.length) with
  |true=>exact of_decide_eq_true c
  |false=>rw[aa9 (by have:=of_decide_eq_false c;omega)] at hs;cases hs
 rw[aco,if_pos rfl,if_pos hlt]
theorem zSl{s:Slot K}{m:Option (β×LI)}(i:Nat)(hs:sl[i]?=some s)(hh:(sl.set i .un).all (λs=>!cJ s&&!gR s)=true)(h:Ey B sl .nw te (λws'=>sl.set i (.nu (RL.mk (p:=p) ws'))) m):qG B p sl (iH (qU te) u) m:=λb ws' hb G D σ H s k=>by
 obtain⟨F,O,g,a⟩:=s
 refine h b ws' hb F O H σ _ a λv F' O' H' sf a' r=>?_
 obtain⟨_,h2,_,f0,_⟩:=a'.iU (Pk hs) (by rw[set_set];exact hh)
 exact k v H' a'.1.h0 h2 ⟨F',f0,a'.1.fh,r⟩
theorem LK{f:S->Option (β×LI)}(h1:Sn B sl t L m1)(h2:∀s,qG B p (L s) u (f s)):qG B p sl (iH t u) (m1.bind f):=λa w ha G D σ H q k=>by
 cases m1 with
 |none=>cases ha
 |some s=>exact h1 s rfl G _ σ H q λσ' H' q'=>h2 s a w ha G D σ' H' q' k
theorem Fe{c:TT}{n:Option Bool}{m1 m2:Option (β×LI)}(hc:Et B sl c n)(h1:qG B p sl t m1)(h2:qG B p sl u m2):qG B p sl (iH (tE c t Jy) u) (n.bind λb=>if b=true then m1 else m2):=λa w ha G D σ H s k=>by
 cases n with
 |none=>cases ha
 |some b =>
  obtain⟨F,O,g,z⟩:=s
  refine hc b rfl F O H σ _ z λF' H' gr=>?_
  cases b with
  |true=>exact iI (h1 a w (by simpa using ha) G _ σ H' (Sg.grow g z gr) k)
  |false=>exact lG (h2 a w (by simpa using ha) G D σ H' (Sg.grow g z gr) k)
theorem Fg(i:Nat)(hs:sl[i]?=some (.nu (RL.mk (p:=p) ws)))(hh:(sl.set i .un).all (λs=>!cJ s&&!gR s)=true):Ey B sl md (J8 K "list" QJ (cj i)) (λws'=>sl.set i (.nu (RL.mk (p:=p) ws'))) (ws.getLast?.bind λy=>some (y,ws.dropLast)):=λb ws' hb F O H σ Q z k=>by
 cases e2:ws.getLast? with
 |none=>rw[e2] at hb;cases hb
 |some y =>
  rw[e2] at hb
  obtain⟨rfl,rfl⟩:=aei (aas (show some (y,ws.dropLast)=some (b,ws') from hb))
  obtain⟨h1,h2,b0,f0,o0,ch⟩:=z.iU hs hh
  refine⟨_,h1,.inl ⟨rfl,_,aV.of h2⟩,p,ws.map V.int,V.int y,rfl,rfl,h2,?_,?_⟩
  ·rw[length_map,getElem?_map,<-List.getLast?_eq_getElem?,e2];rfl
  rw[<-List.map_dropLast]
  exact k _ F O _ (.refl _) (ch ws.dropLast) rfl
theorem Fi(i:Nat)(hs:sl[i]?=some (.nu (RL.mk (p:=p) ws)))(hh:(sl.set i .un).all (λs=>!cJ s&&!gR s)=true):Ex B sl md (tQ (Kz K) (yM (cj i) bh)) (some (ws.length:Int)):=λd hd F O H σ Q z k=>by
 cases hd
 obtain⟨h1,h2,_⟩:=z.iU hs hh
 refine⟨_,h1,p,_,rfl,.inl (aV.of h2),k _ F H (.refl z.1) ?_⟩
 rw[length_map]
 rfl
theorem zH1{as:SL K}(k:Nat)(hf:as.all isF=true)(r:Ar F as vs):ak B F L' H (as++replicate k .un) (vs.map some++replicate k none) []:=by
 induction r with
 |nil =>
  show ak _ _ _ _ ([]++_) ([]++_) []
  rw[nil_append,nil_append]
  induction k with
  |zero=>exact .nil
  |succ k ih=>exact .un ih
 |@cons n _ _ _ _ _ _ r _ ih =>
  rw[all_cons,aar] at hf
  cases n with
  |false=>exact .fz r (ih hf.2)
  |true=>exact absurd hf.1 (by simp)
end
section
variable{P:Program}{w:World}{K:PySem.W.Frag}{mg:Str->Option Value}{base:Heap}
theorem zQ5{A β:Type}[Rp K β]{as:A->SL K}{fM:LI->A->Option (β×LI)}(F:aZ K x qual st f fd)(S:ao N ps (zH st))(hf:∀a,(as a).all isF=true)(hl:∀a,(as a).length+1=ps.length)(hb:∀(cdv:Value) (A:Around) (outer:List Env) (s:Shared) (H:Hp) (E:XK),bO k (A.deeper (adi qual (zH st) s.heap.objs.size f cdv)) ->
   ∃t,qe (oE aO P w K mg base N qual (zH st) f cdv A outer s H E).Cz (xZ st) t/\∀Fa p ws a,qG ⟨Fa,del H p⟩ p (.nu (RL.mk (p:=p) ws)::(as a++replicate (N.length-ps.length) .un)) t (fM ws a)) :
  aq P w K mg base aO (k+1) f fd ps (LC K as fM) :=
 F.ok S (λvs H Q E h=>by
  obtain⟨p,ws,us,a,b,ws',Fa,rfl,_,_,_,_,r,_⟩:=h
  rw[length_cons,r.len,hl]) λcdv A outer s H vs Q E hr h=>by
  obtain⟨t,pt,q⟩:=hb cdv A outer s H E hr
  refine⟨t,pt,?_⟩
  obtain⟨p,ws,us,a,b,ws',Fa,rfl,hp,fp,sf,hfa,r,kk⟩:=h
  have e:L2.start N (.ref p::us)=some (.ref p)::(us.map some++replicate (N.length-ps.length) none):=by
   unfold L2.start
   rw[length_cons,r.len,hl]
   rfl
  have d0:Same (del H p) H:=λc o e=>by
   unfold del at e
   split at e
   ·cases e
   ·exact e
  have dp:del H p p=none:=by
   unfold del
   rw[if_pos rfl]
  rw[e]
  refine q Fa p ws a b ws' hfa Fa _ _ H ⟨Fa,[],.refl _,⟨sf,d0,λb o h=>.inl h,λx hx=>(by cases hx),(by simp)⟩,.nu ⟨rfl,?_⟩ (zH1 _ (hf a) r)⟩ (λv H' s1 e1 z=>?_)
  ·rw[xT dp]
   unfold lo
   rw[fp]
   exact hp
  ·obtain⟨F2,f2,s2,r2⟩:=z
   refine kk v H' s1 e1 (Rp.mono (λc o e=>?_) r2)
   unfold dif at e ⊢
   by_cases c1:c=p
   ·subst c1
    have e:(match del H c c with|none=>F2 c|some _=>none)=some o:=e
    rw[dp,f2] at e
    cases e
   ·have ed:del H p c=H c:=by
     unfold del
     rw[if_neg c1]
    have e:(match del H p c with|none=>F2 c|some _=>none)=some o:=e
    rw[ed] at e
    show(match H c with|none=>H' c|some _=>none)=some o
    cases hc:H c with
    |none=>rw[hc] at e;exact s2 _ _ e
    |some u=>rw[hc] at e;cases e
end
section
variable{K:PySem.W.Frag}{B:Bs}{sl:SL K}{md:Md}{α β S:Type}[Rp K α][Rp K β]{te:TE}
theorem Y7{L:S->SL K}(n:Bool)(j:Nat)(hs:∀s,∃x,(L s)[j]?=some x/\iK x=false)(h:Ey B sl (d_ n) te L m):Sn B sl (lD te (ou j)) (λr:α×S=>(L r.2).set j (.fz n r.1)) m:=λa ha G D σ H s k=>by
 obtain⟨F,O,g,z⟩:=s
 obtain⟨x,h1,h2⟩:=hs a.2
 exact h a.1 a.2 ha F O H σ _ z λv F' O' H' sf z' r=>k _ _ (Sg.set (g.trans sf) z' h1 h2 r)
end
section
variable{K:PySem.W.Frag}{B:Bs}{sl:SL K}{md:Md}{α β S:Type}[Rp K α][Rp K β]{te:TE}{p:Addr}{ws:LI}
structure Fr(p:Addr)(F H F' H':Hp):Prop where
 ff:Same F F'
 hh:∀b o,b≠p->H b=some o->H' b=some o
 nw:∀b,F b=none->H b≠none->F' b=none
theorem Fr.of(g:bH B F H O F' H'):Fr p F H F' H':=⟨g.ff,λb o _ e=>g.hh b o e,g.nw⟩
theorem Fr.refl(F H:Hp):Fr p F H F H:=⟨.refl _,λ_ _ _ e=>e,λ_ h _=>h⟩
theorem Fr.trans(a:Fr p F H F1 H1)(b:Fr p F1 H1 F2 H2)(hp:H1 p≠none):Fr p F H F2 H2 :=
 ⟨a.ff.trans b.ff,λc o n e=>b.hh c o n (a.hh c o n e),λc h1 h2=>b.nw c (a.nw c h1 h2) (by
  by_cases n:c=p
  ·rw[n];exact hp
  ·cases q:H c with
   |none=>exact absurd q h2
   |some o=>rw[a.hh c o n q];intro z;cases z)⟩
def uo(B:Bs)(p:Addr)(sl:SL K)(md:Md)(t:TE){α S:Type}[Rp K α](L:S->SL K)(m:Option (α×S)):Prop :=
 ∀a s,m=some (a,s)->∀(F:Hp)(O:Own)(H:Hp)(σ:St)(Q:VK),At B sl F O H σ->(∀(v:V)(F' H':Hp),Fr p F H F' H'->At B (L s) F' O H' σ->rp K (reg B F' H' md) v a->Q v H')->t σ H Q
theorem uo.ey{L:S->SL K}{m:Option (α×S)}(h:uo B p sl md te L m):Ey B sl md te L m:=λa s e F O H σ Q z k=>h a s e F O H σ Q z λv F' H' f z' r=>k v F' O H' f.ff z' r
theorem VN{A:Type}{as:A->SL K}{f:LI->A->Option (β×LI)}{ma:Option A}(i:Nat)(hs:sl[i]?=some (.nu (RL.mk (p:=p) ws)))(hh:(sl.set i .un).all (λs=>!cJ s&&!gR s)=true)(h:Ea B sl .fz ta as ma) :
  uo B p sl md (tM (LC K as f) [] E0 (yM (cj i) ta)) (λws'=>sl.set i (.nu (RL.mk (p:=p) ws'))) (ma.bind λa=>f ws a):=λb ws' hc F O H σ Q z k=>by
 cases ma with
 |none=>cases hc
 |some a =>
  have hc:f ws a=some (b,ws'):=hc
  obtain⟨h1,_⟩:=z.iU hs hh
  refine⟨_,h1,?_⟩
  refine h a rfl F O H σ _ z λus F' H' gr r=>?_
  obtain⟨_,h2,b0,f0,o0,ch⟩:=(z.grow gr).iU hs hh
  show LC K as f ((.ref p::us)++[]) H' Q E0
  rw[append_nil]
  refine⟨p,ws,us,a,b,ws',F',rfl,h2,f0,gr.ok.fh,hc,r,λv H2 s2 e2 r2=>?_⟩
  have z':=ch ws'
  have s3:Same (upd H' p (.lst (ws'.map V.int))) H2:=λc o e=>by
   by_cases q:c=p
   ·subst q
    rw[zJ] at e
    rw[e2]
    exact e
   ·rw[zP q] at e
    refine s2 c o ?_
    unfold del
    rw[if_neg q]
    exact e
  have g2:=z'.1.called s3
  have U9:Fr p F' H' F' (upd H' p (.lst (ws'.map V.int))):=⟨.refl _,λc o n e=>by rw[zP n];exact e,λ_ h _=>h⟩
  have up:upd H' p (.lst (ws'.map V.int)) p≠none:=by rw[zJ];intro q;cases q
  refine k v _ H2 ((Fr.of gr).trans (U9.trans (.of g2) up) (by rw[h2];intro q;cases q)) (z'.grow g2) ?_
  have d:Same (dif H2 H') (dif H2 (upd H' p (.lst (ws'.map V.int)))):=λc o e=>by
   unfold dif at e ⊢
   by_cases q:c=p
   ·subst q
    rw[h2] at e
    cases e
   ·rw[zP q]
    exact e
  have r3:=Rp.mono (Kg (F:=F') z'.1.h0 s3) (Rp.mono d r2)
  exact match md with
  |.nw=>r3
  |.fz=>Rp.mono aW r3
  |.hp=>Rp.mono (aW.trans g2.ok.fh) r3
theorem Y8{A:Type}{as:A->SL K}{f:α×A->Option β}{ma:S->Option A}(h0:uo B p sl .hp te L m)(hL:∀s,∃(i:Nat) (ws:LI),(L s)[i]?=some (.nu (RL.mk (p:=p) ws))/\((L s).set i .un).all (λs=>!cJ s&&!gR s)=true)(h:∀s,Ea B (L s) .hp ta as (ma s)) :
  uo B p sl md (tM (cL K false (λx:α×A=>.fz false x.1::as x.2) f) [] E0 (yM te ta)) L (m.bind λr=>(ma r.2).bind λa=>(f (r.1,a)).bind λb=>some (b,r.2)):=λc s hc F O H σ Q z k=>by
 cases m with
 |none=>cases hc
 |some r =>
  obtain⟨a,s'⟩:=r
  have hc:((ma s').bind λx=>(f (a,x)).bind λb=>some (b,s'))=some (c,s):=hc
  cases e1:ma s' with
  |none=>rw[e1] at hc;cases hc
  |some x =>
   rw[e1] at hc
   have hc:((f (a,x)).bind λb=>some (b,s'))=some (c,s):=hc
   cases e2:f (a,x) with
   |none=>rw[e2] at hc;cases hc
   |some b =>
    rw[e2] at hc
    obtain⟨rfl,rfl⟩:=aei (aas (show some (b,s')=some (c,s) from hc))
    refine h0 a s' rfl F O H σ _ z λv F1 H1 fr z1 r1=>?_
    obtain⟨i,w1,i1,i2⟩:=hL s'
    obtain⟨_,hp1,_⟩:=z1.iU i1 i2
    refine h s' x e1 F1 O H1 σ _ z1 λvs F2 H2 gr r2=>?_
    show cL K false (λx:α×A=>.fz false x.1::as x.2) f ((v::vs)++[]) H2 Q E0
    rw[append_nil]
    refine⟨(a,x),b,H2,.refl _,e2,.cons (Rp.mono gr.hh r1) r2,λv2 H3 s3 r3=>?_⟩
    have g2:=gr.ok.called s3
    refine k v2 _ H3 (fr.trans (.of (gr.trans g2)) (by rw[hp1];intro q;cases q)) (z1.grow (gr.trans g2)) ?_
    have r4:=Rp.mono (Kg (F:=F2) gr.ok.h0 s3) r3
    exact match md with
    |.nw=>r4
    |.fz=>Rp.mono aW r4
    |.hp=>Rp.mono (aW.trans g2.ok.fh) r4
end
def lK{α β:Type}(f:LI->α->Option (β×LI)):LI->List α->Option (List β×LI)
 |ws,[]=>some ([],ws)
 |ws,x::xs=>(f ws x).bind λr=>(lK f r.2 xs).bind λq=>some (r.1::q.1,q.2)
def LQ{α β:Type}(f:LI->α->Option (β×LI))(ws:LI)(xs:List α):Option (List β×LI):=if xs.length<cap then lK f ws xs else none
section
variable{K:PySem.W.Frag}{B:Bs}{sl:SL K}{md:Md}{α β S:Type}[Rp K α][Rp K β]{te:TE}{p:Addr}{ws:LI}{n n':Bool}
def Sw(B:Bs)(p:Addr)(sl:SL K)(md:Md)(t:TE){α S:Type}[Rp K α](L:S->SL K)(m:Option (List α×S)):Prop :=
 ∀a s,m=some (a,s)->∀(F:Hp)(O:Own)(H:Hp)(σ:St)(Q:VK),At B sl F O H σ->(∀(q:Addr)(vs:List V)(F' H':Hp),Fr p F H F' H'->At B (L s) F' O H' σ->H' q=none->A2 (rp K (reg B F' H' md)) vs a->Q (.ref q) (upd H' q (.lst vs)))->t σ H Q
theorem At.SJ{w2:LI}(z:At B sl F O H σ)(hs:sl[i]?=some (.nu (RL.mk (p:=p) ws)))(hh:(sl.set i .un).all (λs=>!cJ s&&!gR s)=true)(fr:Fr p F H F2 H2)(k2:Ok B F2 [] H2)(hp:H2 p=some (.lst (w2.map V.int)))(fp:F2 p=none):At B (sl.set i (.nu (RL.mk (p:=p) w2))) F2 O H2 σ:=by
 obtain⟨h1,h2,b0,f0,o0,_⟩:=z.iU hs hh
 refine⟨⟨k2.fh,k2.h0,k2.fa,λx hx=>?_,z.1.nd⟩,?_⟩
 ·obtain⟨a1,a2,a3⟩:=z.1.fo x hx
  exact⟨fr.nw _ a1 (by rw[a3];intro q;cases q),a2,fr.hh _ _ (o0 x hx) a3⟩
 ·have e:σ.set i (some (.ref p))=σ:=by
   apply ext_getElem?
   intro j
   rw[aco]
   split
   ·rename_i hij
    subst hij
    split
    ·exact h1.symm
    ·rename_i hlt
     rw[aa9 (by omega)] at h1
     cases h1
   ·rfl
  have q:=z.2.put (s':=.un) (x:=some (.ref p)) (λsl σ O h=>.un h) hs rfl
  rw[e] at q
  have q2:=(q.Lz (L':=lo F2 O H2) (H':=H2) hh).mono fr.ff (.refl _) (.refl _)
  have q3:=q2.put (s:=.un) (s':=.nu (RL.mk (p:=p) w2)) (x:=some (.ref p)) (i:=i) (λsl σ O h=>.nu (by
   refine⟨rfl,?_⟩
   rw[xT b0]
   unfold lo
   rw[if_neg,hp]
   rw[fp,abp,not_or]
   exact⟨by simp,λq=>by
    obtain⟨x,hx,ex⟩:=any_eq_true.mp q
    exact o0 x hx (by simpa using ex)⟩) h) (Pk hs) rfl
  rw[e,set_set] at q3
  exact q3
theorem zLw{jf:LI->SL K}{Lx:LI->α->SL K}{f:LI->α->Option (β×LI)}(j:Nat)(hs:sl[j]?=some (.nu (RL.mk (p:=p) ws)))(hh:(sl.set j .un).all (λs=>!cJ s&&!gR s)=true)(h0:∀(F:Hp) (O:Own) (H:Hp) (σ:St),At B sl F O H σ->ak B F (lo F [] H) H (jf ws) (iJ σ no ix) [])(hi:Ei B sl n wi mi)(hg:∀ws,Tg B (jf ws) n g (Lx ws))(hc:∀ws x,Et B (Lx ws x) tc (some true))(he:∀ws x,uo B p (Lx ws x) (d_ n') te (λws'=>Lx ws' x) (f ws x))(hle:∀ws x,qR (Lx ws x) (jf ws))(hI:∀ws x,∃jI,(Lx ws x)[jI]?=some (.nu (RL.mk (p:=p) ws))/\((Lx ws x).set jI .un).all (λs=>!cJ s&&!gR s)=true) :
  Sw B p sl (d_ n') (Oo no ix wi g tc te) (λws'=>sl.set j (.nu (RL.mk (p:=p) ws'))) (mi.bind λxs=>LQ f ws xs):=λzs wE hz F O H σ Q a k=>by
 cases mi with
 |none=>cases hz
 |some xs =>
  have hz:LQ f ws xs=some (zs,wE):=hz
  unfold LQ at hz
  split at hz
  case isFalse=>cases hz
  rename_i hcap
  have hcl:=BX hcap
  refine hi xs rfl F O H σ _ a λJ F' H' gr yl=>?_
  have a':=a.grow gr
  have zl:zs.length=xs.length:=by
   have key:∀(xs:List α)(ws:LI)(zs:List β)(wE:LI),lK f ws xs=some (zs,wE)->zs.length=xs.length:=by
    intro xs
    induction xs with
    |nil=>intro ws zs wE h;cases h;rfl
    |cons x xs ih =>
     intro ws zs wE h
     unfold lK at h
     cases e1:f ws x with
     |none=>rw[e1] at h;cases h
     |some r =>
      rw[e1] at h
      have h:((lK f r.2 xs).bind λq=>some (r.1::q.1,q.2))=some (zs,wE):=h
      cases e2:lK f r.2 xs with
      |none=>rw[e2] at h;cases h
      |some q =>
       rw[e2] at h
       cases(show some (r.1::q.1,q.2)=some (zs,wE) from h)
       rw[length_cons,length_cons,ih r.2 q.1 q.2 e2]
   exact key xs ws zs wE hz
  refine⟨λi m ys σ2 H2=>m=xs.length-i/\i<=xs.length/\∃(F2:Hp)(wi:LI)(bs cs:List β),lK f wi (xs.drop i)=some (cs,wE)/\bs++cs=zs/\bs.length=i/\Fr p F' H' F2 H2/\At B (sl.set j (.nu (RL.mk (p:=p) wi))) F2 O H2 σ/\ak B F2 (lo F2 [] H2) H2 (jf wi) σ2 []/\A2 (rp K (reg B F2 H2 (d_ n'))) ys bs,
   ⟨xs.length,rfl,aa5 _,F',ws,[],zs,hz,rfl,rfl,.refl _ _,?_,h0 F' O H' σ a',trivial⟩,?_⟩
  ·have e:sl.set j (.nu (RL.mk (p:=p) ws))=sl:=by
    apply ext_getElem?
    intro i
    rw[aco]
    split
    ·rename_i hij
     subst hij
     split
     ·exact hs.symm
     ·rename_i hlt
      rw[aa9 (by omega)] at hs
      cases hs
    ·rfl
   rw[e]
   exact a'
  rintro i m ys σ2 H2 ⟨rfl,hil,F2,wi,bs,cs,hw,ez,bl,Y9,at2,s2,r2⟩
  have hyl:ys.length=i:=by rw[r2.len,bl]
  obtain⟨y1,y2⟩:=yl i F2 O H2 Y9.ff at2.1
  by_cases hlt:i<xs.length
  ·obtain⟨go,y3⟩:=y2 xs[i] (aap hlt)
   rw[List.drop_eq_getElem_cons hlt] at hw
   unfold lK at hw
   cases e1:f wi xs[i] with
   |none=>rw[e1] at hw;cases hw
   |some r =>
    rw[e1] at hw
    have hw:((lK f r.2 (xs.drop (i+1))).bind λq=>some (r.1::q.1,q.2))=some (cs,wE):=hw
    cases e2:lK f r.2 (xs.drop (i+1)) with
    |none=>rw[e2] at hw;cases hw
    |some q =>
     rw[e2] at hw
     obtain⟨y,w2⟩:=r
     obtain⟨cs',wE'⟩:=q
     obtain⟨rfl,rfl⟩:=aei (aas (show some (y::cs',wE')=some (cs,wE) from hw))
     refine .inr ⟨go,by omega,λys' σ' H4=>∃(F4:Hp),Fr p F' H' F4 H4/\At B (sl.set j (.nu (RL.mk (p:=p) w2))) F4 O H4 σ/\ak B F4 (lo F4 [] H4) H4 (jf w2) σ' []/\A2 (rp K (reg B F4 H4 (d_ n'))) ys' (bs++[y]),λys' σ' H4 ⟨F4,z1,z2,z3,z4⟩=>⟨xs.length-(i+1),by omega,rfl,hlt,F4,w2,bs++[y],cs',e2,by rw[append_assoc];exact ez,by rw[length_append,bl];rfl,z1,z2,z3,z4⟩,λv H3 yd=>?_⟩
     obtain⟨F3,g3,r3⟩:=y3 v H3 yd
     have SM:=at2.grow g3
     have Ov:At B (jf wi) F3 [] H3 σ2:=⟨g3.ok.nil,s2.mono g3.ff (XH ⟨g3.ff,g3.hh,g3.ok.nil,g3.nw⟩) g3.hh⟩
     refine hg wi v xs[i] F3 [] H3 σ2 _ Ov r3 λσ4 a4=>?_
     refine hc wi xs[i] true rfl F3 [] H3 σ4 _ a4 λF5 H5 g5=>iI ?_
     have g5':=bH.lift g3.ok g5
     have at5:=SM.grow g5'
     refine he wi xs[i] y w2 e1 F5 [] H5 σ4 _ (a4.grow g5) λu F6 H6 Y_ a6 r6=>?_
     obtain⟨_,VP,b5,f5,o5,ch5⟩:=at5.iU (Pk hs) (by rw[set_set];exact hh)
     obtain⟨jI,i1,i2⟩:=hI w2 xs[i]
     obtain⟨_,Za,_,f6,_⟩:=a6.iU i1 i2
     obtain⟨_,hp2,_⟩:=at2.iU (Pk hs) (by rw[set_set];exact hh)
     obtain⟨_,hp3,_⟩:=SM.iU (Pk hs) (by rw[set_set];exact hh)
     have nn:∀{H:Hp}{w:LI},H p=some (.lst (w.map V.int))->H p≠none:=λe=>by rw[e];intro z;cases z
     have at6:=at5.SJ (Pk hs) (by rw[set_set];exact hh) Y_ a6.1 Za f6
     rw[set_set] at at6
     exact⟨F6,Y9.trans ((Fr.of g3).trans ((Fr.of g5').trans Y_ (nn VP)) (nn hp3)) (nn hp2),at6,a6.2.le0 (hle w2 xs[i]),(r2.imp λ_ _=>Rp.mono (wD _ (g3.ff.trans (g5.ff.trans Y_.ff)))).snoc r6⟩
  ·have e:i=xs.length:=by omega
   subst e
   rw[List.drop_length] at hw
   cases(show some (([]:List β),wi)=some (cs,wE) from hw)
   rw[append_nil] at ez
   subst ez
   exact .inl ⟨y1 (aaq _),by omega,λq hq=>k q ys F2 H2 ((Fr.of gr).trans Y9 (by
    obtain⟨_,h2,_⟩:=a'.iU hs hh
    rw[h2];intro q;cases q)) at2 hq r2⟩
end
section
variable{K:PySem.W.Frag}{B:Bs}{sl:SL K}{md:Md}{α β S:Type}[Rp K α][Rp K β]{te t1 t2:TE}{p:Addr}
theorem Sw.eyn{L:S->SL K}{m:Option (List α×S)}(hL:∀s,∃(i:Nat) (ws:LI),(L s)[i]?=some (.nu (RL.mk (p:=p) ws))/\((L s).set i .un).all (λs=>!cJ s&&!gR s)=true)(h:Sw B p sl md te L m):uo B p sl md te L m:=λa s e F O H σ Q z k=>h a s e F O H σ Q z λq vs F' H' fr z' hq r=>by
 have g2:=bH.new z'.1 hq (.lst vs)
 obtain⟨i,w1,i1,i2⟩:=hL s
 obtain⟨_,hp1,_⟩:=z'.iU i1 i2
 exact k _ _ _ (fr.trans (.of g2) (by rw[hp1];intro q;cases q)) (z'.grow g2) ⟨q,vs,rfl,Ot z'.1 hq md,r.imp λ_ _=>Rp.mono (xD g2 md)⟩
theorem zTo{n:Bool}{L:S->SL K}{m1:Option α}{m2:Option (β×S)}{i:Nat}{ws:LI}(hs:sl[i]?=some (.nu (RL.mk (p:=p) ws)))(hh:(sl.set i .un).all (λs=>!cJ s&&!gR s)=true)(hL:∀s,∃(i:Nat) (ws:LI),(L s)[i]?=some (.nu (RL.mk (p:=p) ws))/\((L s).set i .un).all (λs=>!cJ s&&!gR s)=true)(h1:Ex B sl (d_ n) t1 m1)(h2:uo B p sl (d_ n) t2 L m2):uo B p sl (d_ n) (tH (yM t1 (yM t2 bh))) L (m1.bind λa=>m2.bind λr=>some ((a,r.1),r.2)):=λc s hc F O H σ Q z k=>by
 cases m1 with
 |none=>cases hc
 |some a =>
  cases m2 with
  |none=>cases hc
  |some r =>
   obtain⟨b,s'⟩:=r
   obtain⟨rfl,rfl⟩:=aei (aas (show some ((a,b),s')=some (c,s) from hc))
   refine h1 a rfl F O H σ _ z λv F1 H1 g r1=>?_
   obtain⟨_,hp1,_⟩:=(z.grow g).iU hs hh
   refine h2 b s' rfl F1 O H1 σ _ (z.grow g) λw F2 H2 fr z2 r2=>?_
   obtain⟨i',w1,i1,i2⟩:=hL s'
   obtain⟨_,hp2,_⟩:=z2.iU i1 i2
   refine⟨by show 2<=sizeLine;decide,λq hq=>?_⟩
   have g3:=bH.new z2.1 hq (.tup [v,w])
   exact k _ _ _ ((Fr.of g).trans (fr.trans (.of g3) (by rw[hp2];intro q;cases q)) (by rw[hp1];intro q;cases q)) (z2.grow g3) ⟨q,v,w,rfl,Ot z2.1 hq _,Rp.mono (wD _ (fr.ff.trans g3.ff)) r1,Rp.mono (wD _ g3.ff) r2⟩
theorem zMs{L:S->SL K}(i:Nat)(hs:sl[i]?=some (.ow n xs))(hh:sl.all (λs=>!cJ s)=true)(hL:∀s,(L s)[i]?=some (.ow n xs)/\(L s).all (λs=>!cJ s)=true)(h:uo B p sl (d_ n) te L m) :
  Sn B sl (Oa (Ol K "list" Xj (cj i) (yM te bh))) (λr:List α×S=>(L r.2).set i (.ow n r.1)) (m.bind λr=>(push xs r.1).bind λys=>some (ys,r.2)):=λys ha G D σ H s k=>by
 cases m with
 |none=>cases ha
 |some r =>
  obtain⟨a,s'⟩:=r
  have ha:((push xs a).bind λys=>some (ys,s'))=some ys:=ha
  cases e1:push xs a with
  |none=>rw[e1] at ha;cases ha
  |some ys' =>
   rw[e1] at ha
   cases(show some (ys',s')=some ys from ha)
   unfold push at e1
   split at e1
   case isFalse=>cases e1
   rename_i hl
   cases e1
   obtain⟨F,O,g,z⟩:=s
   obtain⟨q,vs,h1,h2,h3,_⟩:=z.chg hs hh
   refine⟨_,h1,.inl ⟨rfl,_,aV.of h2⟩,?_⟩
   refine h a s' rfl F O H σ _ z λv F' H' fr z' r=>?_
   obtain⟨q',vs',h1',h2',h3',h4'⟩:=z'.chg (hL s').1 (hL s').2
   cases h1.symm.trans h1'
   obtain⟨O',z2⟩:=h4' (vs'++[v]) (xs++[a]) (h3'.snoc r)
   exact⟨q,vs',v,rfl,rfl,h2',BX (by rw[h3'.len];exact hl),k _ _ ⟨F',O',g.trans fr.ff,z2⟩⟩
end
section
variable{K:PySem.W.Frag}{B:Bs}{sl:SL K}{F H:Hp}{O:Own}{σ:St}
abbrev SN:Slot K->Slot K
 |@Slot.fz _ n _ i a=>@Slot.fz _ n _ i a
 |@Slot.nu _ _ i a=>@Slot.nu _ _ i a
 |_=>.un
theorem LR:Same (lo F O H) (lo F [] H):=λb o h=>by
 unfold lo at h ⊢
 split at h
 case isTrue=>cases h
 rename_i e
 rw[if_neg]
 ·exact h
 ·intro q
  apply e
  rw[abp] at q ⊢
  rcases q with q|q
  ·exact .inl q
  ·simp at q
theorem ak.Zb(a:At B sl F O H σ)(j:Nat)(hs:sl[j]?=some s):∀{sl':SL K}{σ':St},ak B F (lo F [] H) H sl' σ' []->ak B F (lo F [] H) H (SN s::sl') ((σ[j]?).getD none::σ') []:=λ{sl' σ'} h=>by
 cases s with
 |un=>exact .un h
 |fz n b=>obtain⟨v,h1,h2⟩:=a.2.qu hs;rw[h1];exact .fz h2 h
 |hs b=>exact .un h
 |nu b=>obtain⟨v,h1,h2⟩:=a.2.za hs;rw[h1];exact .nu (Rp.mono (yZ LR) h2) h
 |ow n xs=>exact .un h
 |od kvs=>exact .un h
def Ad(sl:SL K)(n:Nat)(ix:List Nat):SL K:=replicate n .un++ix.map λj=>SN ((sl[j]?).getD .un)
theorem zSh(a:At B sl F O H σ)(n:Nat):∀(ix:List Nat),(∀j∈ix,j<sl.length)->ak B F (lo F [] H) H (Ad sl n ix) (iJ σ n ix) []:=λix hix=>by
 unfold Ad iJ
 induction n with
 |zero =>
  show ak B F _ H ([]++_) ([]++_) []
  rw[nil_append,nil_append]
  induction ix with
  |nil=>exact .nil
  |cons j ix ih =>
   rw[map_cons,map_cons]
   have hl:=hix j mem_cons_self
   have hj:sl[j]?=some sl[j]:=aap hl
   have z:=ak.Zb a j hj (ih λk hk=>hix k (mem_cons_of_mem _ hk))
   rw[show(sl[j]?).getD .un=sl[j] by rw[hj]<;>rfl]
   exact z
 |succ n ih=>exact .un ih
theorem zVa{ix:List Nat}(hix:(ix.all λj=>decide (j<sl.length))=true)(hI:jf=Ad sl no ix):∀(F:Hp)(O:Own)(H:Hp)(σ:St),At B sl F O H σ->ak B F (lo F [] H) H jf (iJ σ no ix) []:=λF O H σ a=>by
 rw[hI]
 exact zSh a no ix λj hj=>by simpa using(all_eq_true.mp hix) j hj
end
structure Ir(α β γ:Type) where
 a:α
 b:β
 c:γ
section
variable{K:PySem.W.Frag}{B:Bs}{sl:SL K}{md:Md}{n:Bool}{α β γ S:Type}[Rp K α][Rp K β][Rp K γ]{te t1 t2 t3:TE}
instance:Rp K (Ir α β γ):=⟨λF v x=>∃p u w z,v=.ref p/\F p=some (.tup [u,w,z])/\rp K F u x.a/\rp K F w x.b/\rp K F z x.c,λs ⟨p,u,w,z,h1,h2,h3,h4,h5⟩=>⟨p,u,w,z,h1,s _ _ h2,Rp.mono s h3,Rp.mono s h4,Rp.mono s h5⟩⟩
instance:Nn K (Ir α β γ):=⟨λ⟨_,_,_,_,h,_⟩=>by rw[h];intro e;cases e⟩
theorem Fj{m1:Option α}{m2:Option β}{m3:Option γ}(h1:Ex B sl md t1 m1)(h2:Ex B sl md t2 m2)(h3:Ex B sl md t3 m3):Ex B sl md (tH (yM t1 (yM t2 (yM t3 bh)))) (m1.bind λa=>m2.bind λb=>m3.bind λc=>some (Ir.mk a b c)):=λd hd F O H σ Q s kk=>by
 cases m1 with
 |none=>cases hd
 |some a =>
  cases m2 with
  |none=>cases hd
  |some b =>
   cases m3 with
   |none=>cases hd
   |some c =>
    cases(show some (Ir.mk a b c)=some d from hd)
    refine h1 a rfl F O H σ _ s λv F1 H1 g1 r1=>?_
    refine h2 b rfl F1 O H1 σ _ (s.grow g1) λw F2 H2 g2 r2=>?_
    refine h3 c rfl F2 O H2 σ _ ((s.grow g1).grow g2) λu F3 H3 g3 r3=>?_
    refine⟨by show 3<=sizeLine;decide,λp hp=>?_⟩
    have g4:=bH.new g3.ok hp (.tup [v,w,u])
    exact kk _ _ _ (g1.trans (g2.trans (g3.trans g4))) ⟨p,v,w,u,rfl,Ot g3.ok hp md,Rp.mono (xD (g2.trans (g3.trans g4)) md) r1,Rp.mono (xD (g3.trans g4) md) r2,Rp.mono (xD g4 md) r3⟩
theorem Fo(i j l:Nat)(hs:sl[i]?=some s)(ho:iK s=false)(hs':∀x:Slot K,(sl.set i x)[j]?=some s')(ho':iK s'=false)(hs2:∀x y:Slot K,((sl.set i x).set j y)[l]?=some s2)(ho2:iK s2=false) :
  Tg B sl n (CG K 3 (Od (ou i) (Od (ou j) (Od (ou l) JC)))) (λx:Ir α β γ=>((sl.set i (.fz n x.a)).set j (.fz n x.b)).set l (.fz n x.c)):=λv x F O H σ Q a r k=>by
 obtain⟨p,w1,w2,w3,rfl,h1,h2,h3,h4⟩:=r
 refine⟨p,[w1,w2,w3],rfl,.inl (.inl (zOj a.1 h1)),rfl,w1,[w2,w3],rfl,w2,[w3],rfl,w3,[],rfl,rfl,?_⟩
 exact k _ ⟨a.1,((a.2.put (s':=.fz n x.a) (λ_ _ _ z=>.fz h2 z) hs ho).put (s':=.fz n x.b) (λ_ _ _ z=>.fz h3 z) (hs' _) ho').put (λ_ _ _ z=>.fz h4 z) (hs2 _ _) ho2⟩
theorem L_{L2:S->α->SL K}(h:Ey B sl (d_ n) te L m)(hg:∀s,Tg B (L s) n g (L2 s)):Sn B sl (lD te g) (λr:α×S=>L2 r.2 r.1) m:=λa ha G D σ H s k=>by
 obtain⟨F,O,g0,z⟩:=s
 exact h a.1 a.2 ha F O H σ _ z λv F' O' H' sf z' r=>hg a.2 v a.1 F' O' H' σ _ z' r λσ' z2=>k _ _ ⟨F',O',g0.trans sf,z2⟩
end
section
variable{K:PySem.W.Frag}{B:Bs}{sl:SL K}{md:Md}{te:TE}
theorem Ma{mi:Option LI}(h:Ex B sl .hp te mi):Eo B sl md (Oo 1 [] (Fb K (yM te bh)) (ou 0) tW (cj 0)) (mi.bind λus=>if us.length<cap then some us.reverse else none):=λzs hz F O H σ Q a k=>by
 cases mi with
 |none=>cases hz
 |some us =>
  have hz:(if us.length<cap then some us.reverse else none)=some zs:=hz
  split at hz
  case isFalse=>cases hz
  rename_i hcap
  cases hz
  refine h us rfl F O H σ _ a λv F' H' gr r=>?_
  obtain⟨p,vs,rfl,h1,h2⟩:=r
  have h1:H' p=some (.lst vs):=h1
  have ev:vs=us.map V.int:=A2.lZ h2
  have hl:vs.length=us.length:=h2.len
  refine⟨p,vs,rfl,aV.of h1,zT1 (xs:=vs) (λi ys σ2 H2=>H2=H'/\(∃v,σ2=[v])/\ys=vs.reverse.take i) ⟨rfl,⟨none,rfl⟩,rfl⟩ (λi ys σ2 H2 hi ⟨e1,_,e2⟩=>?_) (by rw[hl];exact BX hcap) (λi x ys σ2 H2 hx hi ⟨e1,⟨v,e2⟩,e3⟩=>?_) (λys σ2 H2 ⟨e1,_,e3⟩ q hq=>?_)⟩
  ·subst e1
   exact⟨aV.of h1,by rw[e2,length_take];exact Nat.min_le_left _ _⟩
  ·subst e1
   subst e2
   subst e3
   refine(iI ?_:if true=true then _ else cj 0 [some x] H2 (λ_ _=>False))
   refine⟨x,rfl,rfl,⟨some x,rfl⟩,?_⟩
   rw[take_add_one,List.getElem?_reverse hi,hx]
   rfl
  ·subst e1
   subst e3
   refine k q _ F' H2 gr hq ?_
   rw[<-List.length_reverse,take_length,ev]
   exact(A2.of_map (R:=rp K (reg B F' H2 md)) (f:=V.int) (λ_=>rfl) us).rev
end
def Mf(us:LI):Option LI:=if us.length<cap then some us.reverse else none
section
variable{K:PySem.W.Frag}{B:Bs}{sl sl2:SL K}{md:Md}{te:TE}{t:TS}{β:Type}[Rp K β]{p:Addr}
theorem zTu{m:Option Kf}{mi:Option Int}{ti:TE}(h:Ex B sl .hp te m)(hi:Ex B sl .hp ti mi):Eo B sl md (U0 (yj K) te Xa (QC ti)) (m.bind λxs=>mi.bind λi=>some (mG xs.ns none (some i))):=λc hc F O H σ Q s k=>by
 obtain⟨xs,i,hx,hi',hc⟩:=qg hc
 cases hc
 refine h xs hx F O H σ _ s λv F' H' g r=>?_
 refine hi i hi' F' O H' σ _ (s.grow g) λu F2 H2 g2 r2=>?_
 have r2:u=.int i:=r2
 obtain⟨p,rfl,z1⟩:=r
 exact⟨i,r2,p,xs.ns.map V.int,rfl,g2.hh.seq z1,λl hl=>k l _ F2 H2 (g.trans g2) hl ((A2.of_map (R:=rp K (reg B F2 H2 md)) (f:=V.int) (λ_=>rfl) xs.ns).cut _ _)⟩
theorem Fp(h:Ex B sl .hp te mi):Eo B sl md (Oo 1 [] (Fb K (yM te bh)) (ou 0) tW (cj 0)) (mi.bind λus=>Mf us):=Ma h
theorem Mg(K:PySem.W.Frag){X:Cx}(hm:X.mg "reversed" = none)(ha:PA X [a] ta)(h:X.K=K:=by rfl)(hg:Gl X "reversed":=by rfl)(hs:starEach [a] X.env=[(false,eval a X.env)]:=by rfl):PI X tg (.Call (.Name "reversed" q) [a] [] pos) (Fb K ta):=by subst h;exact Ls hg hm ha hs
theorem Fq{m:Option (β×LI)}(l:Le sl sl2)(h:qG B p sl2 t m):qG B p sl t m:=λa w ha G D σ H q k=>h a w ha G D σ H (q.le l) k
theorem Mh{m:Option (β×LI)}(sl2:SL K)(h:qG B p sl2 t m)(e:sl=sl2:=by rfl):qG B p sl t m:=e▸h
end
section
variable{K:PySem.W.Frag}{B:Bs}{sl:SL K}{F H:Hp}{O:Own}{σ:St}{t u:TS}{al:Bool}{α β S A A1 A2:Type}[Rp K α][Rp K β]{b:β}
def SnA(B:Bs)(sl:SL K)(t:TS){S:Type}(L:S->SL K)(P:S->Prop):Prop :=
 ∀(G:Hp)(D:Ends)(σ:St)(H:Hp),Sg B G sl σ H->(∀s,P s->∀σ' H',Sg B G (L s) σ' H'->D.nx σ' H')->t D σ H
def wk(B:Bs)(sl:SL K)(t:TS)(al:Bool){β A:Type}[Rp K β](m:A->Option β)(P:A->Prop)(b:β):Prop :=
 (∃a,P a)->(∀a,P a->m a=some b)->∀(G:Hp)(D:Ends)(σ:St)(H:Hp),Sg B G sl σ H->(∀v H',Rt K B al b v H'->D.rt v H')->t D σ H
theorem Ft(h:SB B sl t al m):wk B sl t al (λ_:Unit=>m) (λ_=>True) b:=λ_ hm G D σ H q k=>h b (hm () trivial) G D σ H q k
theorem SQ{f:S->A->Option β}(h1:Sn B sl t L m1)(h2:∀s,wk B (L s) u al (f s) P b):wk B sl (iH t u) al (λa=>m1.bind λs=>f s a) P b:=λne hm G D σ H q k=>by
 cases m1 with
 |none=>obtain⟨a,ha⟩:=ne;cases hm a ha
 |some s=>exact h1 s rfl G _ σ H q λσ' H' q'=>h2 s ne (λa ha=>hm a ha) G D σ' H' q' k
theorem Fv{g:A1->A2->Option β}(h1:SnA B sl t L P1)(h2:∀s,wk B (L s) u al (g s) P2 b):wk B sl (iH t u) al (λa:A1×A2=>g a.1 a.2) (λa=>P1 a.1/\P2 a.2) b:=λne hm G D σ H q k =>
 h1 G _ σ H q λs hs σ' H' q'=>h2 s (by obtain⟨a,_,ha⟩:=ne;exact⟨a.2,ha⟩) (λa ha=>hm (s,a) ⟨hs,ha⟩) G D σ' H' q' k
theorem Mi(sl2:SL K)(h:wk B sl2 t al m P b)(e:sl=sl2:=by rfl):wk B sl t al m P b:=e▸h
theorem wk.sb(h:wk B sl t al m P b)(ne:∃a,P a)(hm:∀a,P a->m a=some b):SB B sl t al (some b):=λc hc G D σ H q k=>by
 cases hc
 exact h ne hm G D σ H q k
theorem At.off(z:At B sl F O H σ)(hh:sl.all (λs=>!cJ s&&!gR s)=true)(fp:F p=none)(hp:B.H0 p=none)(op:∀x∈O,x.1≠p)(k:∀b o,b≠p->H b=some o->H2 b=some o):At B sl F O H2 σ :=
 ⟨⟨λb o e=>k b o (λq=>by rw[q,fp] at e;cases e) (z.1.fh b o e),λb o e=>k b o (λq=>by rw[q,hp] at e;cases e) (z.1.h0 b o e),z.1.fa,λx hx=>⟨(z.1.fo x hx).1,(z.1.fo x hx).2.1,k _ _ (op x hx) (z.1.fo x hx).2.2⟩,z.1.nd⟩,z.2.Lz hh⟩
theorem Zc{n:Bool}{t1 t2:TE}{m1 m2:Option (List α)}(h1:Ex B sl (d_ n) t1 m1)(h2:Ex B sl (d_ n) t2 m2):Eo B sl (d_ n) (jE QK t1 t2) (m1.bind λa=>m2.bind λb=>t_ a b):=λc hc F O H σ Q s k=>by
 obtain⟨xs,ys,hx,hy,hc⟩:=qg hc
 unfold t_ at hc
 split at hc
 case isFalse=>cases hc
 rename_i hl
 cases hc
 refine h1 xs hx F O H σ _ s λv F' H' g r=>?_
 refine h2 ys hy F' O H' σ _ (s.grow g) λu F2 H2 g2 r2=>?_
 obtain⟨p,vs,rfl,z1,z2⟩:=r
 obtain⟨q,ws,rfl,z3,z4⟩:=r2
 refine⟨p,q,vs,ws,rfl,rfl,g2.hh _ _ (zc g.ok n _ _ z1),zc g2.ok n _ _ z3,?_,λl hl'=>k l _ F2 H2 (g.trans g2) hl' ((z2.imp λ_ _=>Rp.mono (wD n g2.ff)).app z4)⟩
 rw[z2.len,z4.len]
 exact zVb hl
theorem zTt{md:Md}{te ti tj:TE}{m:Option LI}{mi mj:Option Int}(h:Ex B sl .hp te m)(hi:Ex B sl .hp ti mi)(hj:Ex B sl .hp tj mj):Eo B sl md (U0 (yj K) te (QC ti) (QC tj)) (m.bind λxs=>mi.bind λi=>mj.bind λj=>some (mG xs (some i) (some j))):=λc hc F O H σ Q s k=>by
 obtain⟨xs,i,hx,hi',hc⟩:=qg hc
 cases ej:mj with
 |none=>rw[ej] at hc;cases hc
 |some j =>
  rw[ej] at hc
  cases(show some (mG xs (some i) (some j))=some c from hc)
  refine h xs hx F O H σ _ s λv F' H' g r=>?_
  refine hi i hi' F' O H' σ _ (s.grow g) λu F2 H2 g2 r2=>?_
  have r2:u=.int i:=r2
  refine⟨i,r2,?_⟩
  refine hj j ej F2 O H2 σ _ ((s.grow g).grow g2) λu' F3 H3 g3 r3=>?_
  have r3:u'=.int j:=r3
  obtain⟨p,vs,rfl,z1,z2⟩:=r
  exact⟨j,r3,p,vs,rfl,aV.of (g3.hh _ _ (g2.hh _ _ z1)),λl hl=>k l _ F3 H3 (g.trans (g2.trans g3)) hl (z2.cut _ _).sc⟩
end
end Ts
namespace Sy
open PySem L2 Ts
inductive bT(H:Hp):V->Tr->Prop where
 |all {a:Addr}:H a=some (.tup [.str "all"])->bT H (.ref a) .all
 |mark {a:Addr} {x:Str}:H a=some (.tup [.str "mark",.str x])->bT H (.ref a) (.mark x)
 |one {a:Addr} {i:Fin 7} {v:V} {t:Tr}:H a=some (.tup [.str (w1 i),v])->bT H v t->bT H (.ref a) (.one i t)
 |two {a:Addr} {i:Fin 4} {v u:V} {l r:Tr}:H a=some (.tup [.str (w2 i),v,u])->bT H v l->bT H u r->bT H (.ref a) (.two i l r)
theorem bT.mono(h:bT H v t)(k:∀a xs,H a=some (.tup xs)->H' a=some (.tup xs)):bT H' v t:=by
 induction h with
 |all h=>exact .all (k _ _ h)
 |mark h=>exact .mark (k _ _ h)
 |one h _ ih=>exact .one (k _ _ h) ih
 |two h _ _ ih1 ih2=>exact .two (k _ _ h) ih1 ih2
theorem bT.same(h:bT H v t)(s:Same H H'):bT H' v t:=h.mono λa xs e=>s a _ e
theorem bT.kp(h:bT H v t)(hp:H p=some (.lst xs))(k:Kp p H H'):bT H' v t:=h.mono λa ys e=>k a _ (GR e hp (by intro z;cases z)) e
inductive Itm where
 |s (x:Str)
 |t (t:Tr)
def items:Tr->List Itm
 |.all=>[.s "all"]
 |.mark x=>[.s "mark",.s x]
 |.one i t=>[.s (w1 i),.t t]
 |.two i l r=>[.s (w2 i),.t l,.t r]
theorem zUf:∀i j:Fin 7,w1 i=w1 j->i=j:=by decide +kernel
theorem zUe:∀i j:Fin 4,w2 i=w2 j->i=j:=by decide +kernel
theorem Zd:∀i:Fin 7,¬w1 i = "mark":=by decide +kernel
theorem Mj:∀i:Fin 7,¬w1 i = "all":=by decide +kernel
theorem Fw:∀i:Fin 4,¬w2 i = "mark":=by decide +kernel
theorem Ml:∀i:Fin 4,¬w2 i = "all":=by decide +kernel
theorem zS9:¬(("mark":Str) = "all"):=by decide +kernel
theorem zQe:∀{t u:Tr},items t=items u->t=u
 |.all,.all,_=>rfl
 |.all,.mark _,h=>by simp[items] at h
 |.all,.one _ _,h=>by simp[items] at h
 |.all,.two _ _ _,h=>by simp[items] at h
 |.mark _,.all,h=>by simp[items] at h
 |.mark x,.mark y,h=>by
  simp[items] at h
  rw[h]
 |.mark _,.one i t,h=>by simp[items] at h
 |.mark _,.two _ _ _,h=>by simp[items] at h
 |.one _ _,.all,h=>by simp[items] at h
 |.one i t,.mark _,h=>by simp[items] at h
 |.one i t,.one j u,h=>by
  simp[items] at h
  rw[zUf i j h.1,h.2]
 |.one _ _,.two _ _ _,h=>by simp[items] at h
 |.two _ _ _,.all,h=>by simp[items] at h
 |.two _ _ _,.mark _,h=>by simp[items] at h
 |.two _ _ _,.one _ _,h=>by simp[items] at h
 |.two i l r,.two j l' r',h=>by
  simp[items] at h
  rw[zUe i j h.1,h.2.1,h.2.2]
def Ze(H:Hp)(x:V):Itm->Prop
 |.s y=>x=.str y
 |.t t=>bT H x t
theorem bT.items(h:bT H v t):∃a xs,v=.ref a/\H a=some (.tup xs)/\Paired (Ze H) xs (items t):=by
 cases h with
 |all h=>exact⟨_,_,rfl,h,.cons rfl .nil⟩
 |mark h=>exact⟨_,_,rfl,h,.cons rfl (.cons rfl .nil)⟩
 |one h h1=>exact⟨_,_,rfl,h,.cons rfl (.cons h1 .nil)⟩
 |two h h1 h2=>exact⟨_,_,rfl,h,.cons rfl (.cons h1 (.cons h2 .nil))⟩
theorem VR{α β:Type}{F:α->β->Prop}:∀{l₁:List α}{l₂:List β}{j:Nat}{x:α},Paired F l₁ l₂->l₁[j]?=some x->∃y,l₂[j]?=some y/\F x y
 |_,_,_,_,.nil,e=>by simp at e
 |_,_,0,_,.cons r _,e=>by simp at e;subst e;exact⟨_,rfl,r⟩
 |_,_,j+1,x,.cons _ t,e=>by
  obtain⟨u,h1,h2⟩:=VR (j:=j) (x:=x) t (by simpa using e)
  exact⟨u,by simpa using h1,h2⟩
theorem zNx(h:Itm.t u∈items t):u.depth<t.depth:=by
 cases t with
 |all=>simp[items] at h
 |mark x=>simp[items] at h
 |one i t=>simp[items] at h;subst h;exact ab8 _
 |two i l r =>
  simp[items] at h
  rcases h with rfl|rfl
  ·show _<max _ _+1;omega
  ·show _<max _ _+1;omega
theorem bT.inj:∀{t u:Tr},bT H v t->bT H v u->t=u:=by
 intro t u h
 induction h generalizing u with
 |all h =>
  intro h'
  cases h' with
  |all _=>rfl
  |mark h2=>rw[h] at h2;simp at h2
  |one h2 _=>rw[h] at h2;simp at h2
  |two h2 _ _=>rw[h] at h2;simp at h2
 |mark h =>
  intro h'
  cases h' with
  |all h2=>rw[h] at h2;simp at h2
  |mark h2=>rw[h] at h2;simp at h2;rw[h2]
  |one h2 _=>rw[h] at h2;simp at h2;exact absurd h2.1.symm (Zd _)
  |two h2 _ _=>rw[h] at h2;simp at h2
 |one h h1 ih =>
  intro h'
  cases h' with
  |all h2=>rw[h] at h2;simp at h2
  |mark h2=>rw[h] at h2;simp at h2;exact absurd h2.1 (Zd _)
  |one h2 h3 =>
   rw[h] at h2
   simp at h2
   obtain⟨e1,e2⟩:=h2
   subst e2
   rw[zUf _ _ e1,ih h3]
  |two h2 _ _=>rw[h] at h2;simp at h2
 |two h h1 h2 ih1 ih2 =>
  intro h'
  cases h' with
  |all h2=>rw[h] at h2;simp at h2
  |mark h2=>rw[h] at h2;simp at h2
  |one h2 _=>rw[h] at h2;simp at h2
  |two h3 h4 h5 =>
   rw[h] at h3
   simp at h3
   obtain⟨e1,e2,e3⟩:=h3
   subst e2 e3
   rw[zUe _ _ e1,ih1 h4,ih2 h5]
theorem uq{α:Type}{l m:List α}(h:l.length=m.length)(k:∀j,j<l.length->l[j]?=m[j]?):l=m:=by
 refine ext_getElem? λj=>?_
 by_cases hj:j<l.length
 ·exact k j hj
 ·rw[getElem?_eq_none_iff.mpr (by omega),getElem?_eq_none_iff.mpr (by omega)]
theorem Iu(s:Shared)(ok:gJ P w H s.heap)(n:Nat)(ih:∀(t u:Tr) (A:Around) (v1 v2:V) (x1 x2:Value),t.depth<n->A.units+n<cLine->bT H v1 t->bT H v2 u->RelV v1 x1->RelV v2 x2->∃b,ad4 A s x1 x2 b/\(b=true->t=u))(t u:Tr)(A:Around)(a1 a2:Addr)(hd:t.depth<n+1)(hu:A.units+(n+1)<cLine)(h1:bT H (.ref a1) t)(h2:bT H (.ref a2) u):∃b,SeqAt.RcAt A s (.ref a1) (.ref a2) b/\(b=true->t=u):=by
 obtain⟨_,xs1,q1,e1,p1⟩:=h1.items
 obtain⟨_,xs2,q2,e2,p2⟩:=h2.items
 cases q1
 cases q2
 obtain⟨z1,Iv,Kd,T1⟩:=ok a1 _ e1
 obtain⟨z2,Iw,rv2,T2⟩:=ok a2 _ e2
 have l1:=Kd.length
 have l2:=rv2.length
 have m1:=p1.length
 have m2:=p2.length
 have it:∀j:Nat,∃b:Bool,(∀(k1:j<Iv.toArray.size)(k2:j<Iw.toArray.size),ad4 A.in1 s Iv.toArray[j] Iw.toArray[j] b)/\(b=true->j<Iv.length->j<Iw.length->(items t)[j]?=(items u)[j]?):=λj=>by
  by_cases k1:j<Iv.length
  ·by_cases k2:j<Iw.length
   ·have g1:xs1[j]?=some (xs1[j]'(by omega)):=aap (by omega)
    have g2:xs2[j]?=some (xs2[j]'(by omega)):=aap (by omega)
    obtain⟨y1,hy1,Pn⟩:=Kd.get g1
    obtain⟨y2,hy2,Mp⟩:=rv2.get g2
    obtain⟨i1,hi1,f1⟩:=VR p1 g1
    obtain⟨i2,hi2,f2⟩:=VR p2 g2
    have q1:Iv[j]=y1:=aas ((aap k1).symm.trans hy1)
    have q2:Iw[j]=y2:=aas ((aap k2).symm.trans hy2)
    rw[hi1,hi2]
    have fin:∀b,ad4 A.in1 s y1 y2 b->∀(k1:j<Iv.toArray.size)(k2:j<Iw.toArray.size),ad4 A.in1 s Iv.toArray[j] Iw.toArray[j] b:=λb hb _ _=>by
     simp only[List.getElem_toArray,q1,q2]
     exact hb
    have hu1:A.in1.units+n<cLine:=by show A.units+1+n<cLine;omega
    cases i1 with
    |s c1 =>
     have f1':xs1[j]'(by omega)=.str c1:=f1
     rw[f1'] at Pn
     cases i2 with
     |s c2 =>
      have Zf:xs2[j]'(by omega)=.str c2:=f2
      rw[Zf] at Mp
      refine⟨BJ (.str c1) (.str c2),fin _ (zU9 Pn Mp rfl rfl),λhb _ _=>?_⟩
      rw[abu (show(c1==c2)=true from hb)]
     |t c2 =>
      obtain⟨a,ys,e,ea,pa⟩:=bT.items f2
      rw[e] at Mp
      cases Mp
      obtain⟨tk,rfl⟩:=Pn
      obtain⟨_,_,_,Ta⟩:=ok a _ ea
      exact⟨false,fin _ (SeqAt.EqAt.str_tuple c1 tk (show s.heap.IsTuple a _ from Ta) (by omega)),λhb=>by cases hb⟩
    |t c1 =>
     cases i2 with
     |s c2 =>
      have Zf:xs2[j]'(by omega)=.str c2:=f2
      rw[Zf] at Mp
      obtain⟨a,ys,e,ea,pa⟩:=bT.items f1
      rw[e] at Pn
      cases Pn
      obtain⟨tk,rfl⟩:=Mp
      obtain⟨_,_,_,Ta⟩:=ok a _ ea
      exact⟨false,fin _ (SeqAt.EqAt.tuple_str c2 tk (show s.heap.IsTuple a _ from Ta) (by omega)),λhb=>by cases hb⟩
     |t c2 =>
      have dlt:c1.depth<n:=by
       have:=zNx (mem_of_getElem? hi1)
       omega
      obtain⟨b,hb,hb2⟩:=ih c1 c2 A.in1 _ _ y1 y2 dlt hu1 f1 f2 Pn Mp
      exact⟨b,fin _ hb,λhbt _ _=>by rw[hb2 hbt]⟩
   ·exact⟨false,λ_ k=>absurd (by simpa using k) k2,λhb=>by cases hb⟩
  ·exact⟨false,λk _=>absurd (by simpa using k) k1,λhb=>by cases hb⟩
 obtain⟨e,he⟩:=Classical.axiomOfChoice it
 refine⟨_,SeqAt.RcAt.tuples (show s.heap.IsTuple a1 _ from T1) (show s.heap.IsTuple a2 _ from T2) (by omega) (e:=e) (λj k1 k2=>(he j).1 k1 k2),λhb=>?_⟩
 rw[aar] at hb
 obtain⟨hb1,hb2⟩:=hb
 have hs:Iv.length=Iw.length:=by simpa using hb2
 rw[all_eq_true] at hb1
 refine zQe (uq (by omega) λj hj=>?_)
 refine(he j).2 (hb1 j ?_) (by omega) (by omega)
 rw[mem_range]
 simp
 omega
theorem Iz(s:Shared)(ok:gJ P w H s.heap):∀(n:Nat)(t u:Tr)(A:Around)(v1 v2:V)(x1 x2:Value),t.depth<n->A.units+n<cLine->bT H v1 t->bT H v2 u->RelV v1 x1->RelV v2 x2 ->
  ∃b,ad4 A s x1 x2 b/\(b=true->t=u)
 |0,_,_,_,_,_,_,_,h,_,_,_,_,_=>absurd h (aci _)
 |n+1,t,u,A,v1,v2,x1,x2,hd,hu,h1,h2,r1,r2=>by
  obtain⟨a1,xs1,rfl,e1,p1⟩:=h1.items
  obtain⟨a2,xs2,rfl,e2,p2⟩:=h2.items
  cases r1
  cases r2
  by_cases ha:a1=a2
  ·subst ha
   exact⟨true,SeqAt.EqAt.same _,λ_=>h1.inj h2⟩
  obtain⟨b,hb,hb2⟩:=Iu s ok n (λt u A v1 v2 x1 x2=>Iz s ok n t u A v1 v2 x1 x2) t u A a1 a2 hd hu h1 h2
  exact⟨b,SeqAt.EqAt.of_refs ha hb,hb2⟩
def SX:R2:=λx y H Q=>∃t u,bT H x t/\bT H y u/\t.depth<20/\∀b:Bool,(b=true->t=u)->Q (.bl b) H
theorem Fx{X:Cx}(hu:X.A.units+64<cLine):jY X (compareOp .Eq) SX:=by
 intro pins s σ H x y v u Q I rx ry h
 obtain⟨t,u',ht,hu',hd,q⟩:=h
 obtain⟨a1,xs1,rfl,e1,p1⟩:=ht.items
 obtain⟨a2,xs2,rfl,e2,p2⟩:=hu'.items
 cases rx
 cases ry
 obtain⟨b,hb,hb2⟩:=Iu s I.hok 19 (λt u A v1 v2 x1 x2=>Iz s I.hok 19 t u A v1 v2 x1 x2) t u' X.A a1 a2 hd (by omega) ht hu'
 exact hb _ _ _ _ ⟨.bl b,H,I,rfl,q b hb2⟩
end Sy
namespace Ts
open PySem L2
def top(i:Nat):Stmt:=PySem.Challenge.pw_treesay_k45_contraries.main.body.getD i (.Pass ⟨0,0,0,0⟩)
abbrev fQ:Stmt:=top 2
abbrev pP:Stmt:=top 3
abbrev mJ:Stmt:=top 4
abbrev mK:Stmt:=top 5
abbrev ju:Stmt:=top 6
abbrev jZ:Stmt:=top 7
abbrev gU:Stmt:=top 9
abbrev jw:Stmt:=top 10
abbrev fU:Stmt:=top 11
abbrev eV:Stmt:=top 12
abbrev j4:Stmt:=top 14
abbrev eX:Stmt:=top 15
abbrev pQ:Stmt:=top 16
abbrev gW:Stmt:=top 17
abbrev fV:Stmt:=top 18
abbrev mL:Stmt:=top 19
abbrev rD:Stmt:=top 20
abbrev s_alive:Stmt:=top 21
abbrev jO:Stmt:=xB (top 23) 0
abbrev j5:Stmt:=xB (top 24) 0
abbrev j6:Stmt:=xB (top 25) 0
abbrev mO:Stmt:=xB (top 26) 0
abbrev lM:Stmt:=xB (top 27) 0
abbrev mQ:Stmt:=xB (top 28) 0
abbrev lN:Stmt:=xB (top 29) 0
abbrev jP:Stmt:=xB (top 30) 0
abbrev iV:Stmt:=xB (top 31) 0
abbrev iW:Stmt:=xB (top 32) 0
abbrev iY:Stmt:=xB (top 33) 0
abbrev iZ:Stmt:=xB (top 34) 0
abbrev gG:Stmt:=xB (top 35) 0
abbrev gH:Stmt:=xB (top 36) 0
abbrev i_:Stmt:=xB (top 37) 0
abbrev jc:Stmt:=xB (top 38) 0
abbrev gY:Stmt:=top 40
abbrev gZ:Stmt:=top 41
abbrev jx:Stmt:=top 42
abbrev g8:Stmt:=top 43
abbrev bV:Stmt:=top 44
abbrev j7:Stmt:=top 45
abbrev eY:Stmt:=top 46
abbrev pR:Stmt:=top 47
abbrev pU:Stmt:=top 48
abbrev jy:Stmt:=top 59
abbrev dN:Stmt:=top 60
abbrev eZ:Stmt:=top 61
abbrev j8:Stmt:=top 62
abbrev fj:Stmt:=top 63
abbrev fW:Stmt:=top 64
abbrev mR:Stmt:=top 65
abbrev V0:Stmt:=top 66
abbrev Ae:Stmt:=xB (top 67) 0
abbrev dO:Stmt:=xB (top 67) 1
abbrev cO:Stmt:=xB (top 67) 2
abbrev cV:Stmt:=xB (top 67) 3
abbrev cW:Stmt:=xB (top 67) 4
abbrev cP:Stmt:=xB (top 67) 6
abbrev mU:Stmt:=top 69
abbrev oX:Stmt:=top 70
abbrev qH:Stmt:=top 71
abbrev mV:Stmt:=top 72
abbrev mW:Stmt:=top 73
abbrev mX:Stmt:=top 74
abbrev j9:Stmt:=top 75
abbrev j_:Stmt:=top 76
abbrev kh:Stmt:=top 77
abbrev oY:Stmt:=top 78
section
variable{P:Program}{w:World}{K:PySem.W.Frag}{mg:Str->Option Value}{base:Heap}
def Zg(K:PySem.W.Frag):Sp:=λvs H Q _=>∃(a:Addr)(bs:List Addr)(xss:List LI),vs=[.ref a]/\aV K H a (bs.map V.ref)/\qw K H bs xss/\xss.length<=60/\Vi xss.length xss /\
 ∀(r:Addr)(cs:List Addr)(H':Hp),Same H H'->H r=none->H' r=some (.lst (cs.map V.ref))->cs.length=xss.length->qx H' cs (src xss)->(∀c∈cs,H c=none)->Q (.ref r) H'
theorem Af:ao ["steps","sources","stand","targets","target"] ["steps"] (zH V0):=⟨rfl,rfl,rfl,by decide +kernel,rfl,by decide +kernel,by decide +kernel⟩
theorem Zh:(["stand"]:List Str).Nodup:=by decide +kernel
theorem Mq{cs:List Addr}(nd:cs.Nodup){i j:Nat}{c:Addr}(h1:cs[i]?=some c)(h2:cs[j]?=some c):i=j:=by
 obtain⟨k1,e1⟩:=aay.mp h1
 obtain⟨k2,e2⟩:=aay.mp h2
 exact(getElem_inj nd).mp (e1.trans e2.symm)
theorem qx.put{Mr:Nat->LI}(r:qx H cs row)(nd:cs.Nodup)(hc:cs[j]?=some c)(e:Mr j=xs)(e':∀k,k≠j->Mr k=row k):qx (upd H c (.lst (xs.map V.int))) cs Mr:=λk d hd=>by
 by_cases hk:k=j
 ·subst hk
  rw[hc] at hd
  cases hd
  rw[zJ,e]
 ·rw[zP (λz=>hk (Mq nd hd (by rw[z];exact hc))),e' k hk]
  exact r k d hd
theorem S5(F:aZ K "sources_of" "sources_of" V0 f fd)(B:Bl K mg):aq P w K mg base aO 1 f fd ["steps"] (Zg K):=by
 refine F.ok Af (λvs H Q E h=>?_) (λcdv A outer s H vs Q E hr h=>?_)
 ·obtain⟨a,bs,xss,rfl,_⟩:=h
  rfl
 obtain⟨a,bs,xss,rfl,hS,hR,ur,hV,q⟩:=h
 have hbl:(bs.map V.ref).length=xss.length:=by rw[length_map];exact hR.1
 refine⟨_,zB (BL (i:=1) (own:=["stand"]) (ix:=[]) Af.nd rfl rfl rfl rfl rfl (WL (pv 0)) (λC s H fp=>yO (i:=0) Zh rfl (Or.inl rfl)) (λC s H fp=>wJ) (λC s H fp=>wC zD))
  (zB (xV aa2 rfl (zPf rfl B.enum (zA (pv 0) zD)) (G6 rfl (yP (yO (i:=2) Af.nd rfl (Or.inl rfl)) (yP (yO (i:=3) Af.nd rfl (Or.inl rfl)) Bv)))
   (yA (xV aa2 rfl (WL (pv 3)) (yO (i:=4) Af.nd rfl (Or.inl rfl))
    (yA (yJ (Hq aa4 abd abe vE (yQ wK (pv 1) (pv 4) (λ_ _=>rfl)) (zA (pv 2) zD)))))))
  (yA (zQ (pv 1)))),?_⟩
 refine⟨_,rfl,a,rfl,⟨_,hS⟩,zQ9 (K:=K) (a:=a) (xs:=bs.map V.ref) (λi ys σ H2=>∃(cs:List Addr)(v:Option V),ys=cs.map V.ref/\σ=[v]/\Same H H2/\News H H2 cs (replicate i [])/\cs.length=i)
  ⟨[],none,rfl,rfl,Same.refl H,News.nil,rfl⟩ (λi ys σ H2 _ ⟨cs,v,e,_,s2,_,hi⟩=>⟨s2.seq hS,by rw[e,length_map,hi];exact aaq _⟩) (Xn (by omega)) ?_ ?_⟩
 ·rintro i y ys σ H2 hi ⟨cs,v,rfl,rfl,s2,hN,Pq⟩
  refine zLj ?_
  refine⟨(by show 0<=sizeLine;decide),λl hl'=>?_⟩
  refine⟨cs++[l],_,by rw[map_append]<;>rfl,rfl,s2.trans (au hl' _),?_,by rw[length_append,Pq]<;>rfl⟩
  have e:replicate (i+1) ([]:List V)=replicate i []++[[]]:=List.replicate_succ'
  rw[e]
  exact hN.snoc s2 hl'
 rintro ys σ H2 ⟨cs,v,rfl,rfl,s2,hN,Pq⟩ r hr0
 have hcl:cs.length=xss.length:=by rw[Pq,hbl]
 have s3:Same H (upd H2 r (.lst (cs.map V.ref))):=s2.trans (au hr0 _)
 have hrH:H r=none:=s2.free hr0
 have nrc:r∉cs:=hN.Rj hr0
 have R0:qx (upd H2 r (.lst (cs.map V.ref))) cs (src (xss.take 0)):=λj c hc=>by
  obtain⟨xs,h1,h2⟩:=hN.at_ j c hc
  have e:xs=[]:=by
   rw[getElem?_replicate] at h1
   split at h1
   ·exact(aas h1).symm
   ·cases h1
  subst e
  rw[zP (λz=>nrc (by rw[<-z];exact mem_of_getElem? hc)),h2]
  rfl
 refine⟨_,rfl,a,rfl,⟨_,s3.seq hS⟩,zTn (K:=K) (a:=a) (xs:=bs.map V.ref) (λi σ H4=>∃u v t,σ=[some (.ref a),some (.ref r),u,v,t]/\Same H H4/\H4 r=some (.lst (cs.map V.ref))/\qx H4 cs (src (xss.take i)))
  ⟨none,none,none,rfl,s3,zJ,R0⟩ (λi σ H4 _ ⟨_,_,_,_,s4,_⟩=>s4.seq hS) ?_ ?_⟩
 ·rintro i x t σ H4 hi ht ⟨u,v,t',rfl,s4,Ci,R4⟩
  obtain⟨b,rfl,hb⟩:=KD hi
  obtain⟨xs,hx,hsq⟩:=hR.2 i b hb
  obtain⟨ne,nd,len,vr⟩:=hV.2 xs (mem_of_getElem? hx)
  have il:=yY hx
  have st:Same H4 (upd H4 t (.tup [.int i,.ref b])):=au ht _
  have s5:=s4.trans st
  refine⟨t,_,rfl,cI.of zJ,rfl,_,_,rfl,_,_,rfl,rfl,?_⟩
  refine⟨_,rfl,b,rfl,⟨_,s5.seq hsq⟩,zTm (K:=K) (a:=b) (xs:=xs.map V.int) (λm σ H6=>∃tt,σ=[some (.ref a),some (.ref r),some (.int i),some (.ref b),tt]/\Same H H6/\H6 r=some (.lst (cs.map V.ref)) /\
   qx H6 cs λj=>src (xss.take i) j++(if(j:Int)∈xs.take m then[(i:Int)] else[])) ⟨t',rfl,s5,st _ _ Ci,λj c hc=>?_⟩ (λm σ H6 _ ⟨_,_,s6,_⟩=>s6.seq hsq) ?_ ?_⟩
  ·rw[st _ _ (R4 j c hc)]
   simp
  ·rintro m y σ H6 hm ⟨tt,rfl,s6,V1,R6⟩
   obtain⟨z,rfl,hz⟩:=int_at hm
   obtain⟨z0,z1⟩:=vr z (mem_of_getElem? hz)
   have zl:z.toNat<cs.length:=by rw[hcl];omega
   have hc:cs[z.toNat]?=some cs[z.toNat]:=aap zl
   have hz':((z.toNat:Nat):Int)=z:=by omega
   have hrow:=R6 z.toNat _ hc
   have hno:¬z∈xs.take m:=zGc nd hz
   simp only[hz',if_neg hno,append_nil] at hrow
   have hix:cu (cs.map V.ref) z=some (.ref cs[z.toNat]):=by
    have:=zRh (Dz hc)
    rw[hz'] at this
    exact this
   refine⟨_,rfl,_,rfl,r,_,z,_,rfl,rfl,aV.of V1,hix,.inl ⟨rfl,_,aV.of hrow⟩,_,rfl,_,_,_,rfl,rfl,hrow,?_,?_⟩
   ·have:=Dy (xss.take i) z.toNat
    rw[length_take] at this
    refine Xn ?_
    rw[length_map]
    omega
   ·have cH:H cs[z.toNat]=none:=hN.new _ (mem_of_getElem? hc)
    have cr:r≠cs[z.toNat]:=λe=>nrc (by rw[e];exact mem_of_getElem? hc)
    refine⟨_,rfl,s6.put cH _,by rw[zP cr];exact V1,?_⟩
    have em:(src (xss.take i) z.toNat).map V.int++[V.int i]=(src (xss.take i) z.toNat++[(i:Int)]).map V.int:=by rw[map_append]<;>rfl
    rw[em]
    refine R6.put hN.nd hc ?_ λk hk=>?_
    ·rw[hz',if_pos ((uJ hz).mpr (.inr rfl))]
    ·have hk':((k:Int)∈xs.take (m+1))=((k:Int)∈xs.take m):=by
      rw[uJ hz]
      refine propext ⟨λh=>h.elim id λe=>absurd (by omega) hk,.inl⟩
     simp only[hk']
  ·rintro σ H6 ⟨tt,rfl,s6,V1,R6⟩
   refine⟨_,_,_,rfl,s6,V1,λj c hc=>?_⟩
   rw[R6 j c hc,zR7 hx j,length_map,take_length]
 ·rintro σ H4 ⟨u,v,t,rfl,s4,Ci,R4⟩
  refine⟨_,rfl,?_⟩
  have e:xss.take (bs.map V.ref).length=xss:=by rw[hbl];exact take_length
  rw[e] at R4
  exact q r cs H4 s4 hrH Ci hcl R4 hN.new
end
structure Ag(K:PySem.W.Frag)(x qual:Str)(st:Stmt)(dV:Value)(f:Addr)(fd:FuncData):Prop where
 ex:∃(oc:Value)(od:Option Addr)(kV doc pm:Value)(an:Option Addr)(cdv ct:Value)(osl:Array (Option Value)),
  fd=fnOf x qual (uC st) (xZ st) (zH st) dV kV doc pm an cdv ct/\K.lookup f=some ⟨oc,od,.func fd,osl⟩/\codeIn K cdv qual=true
 kp:keepIn K (.ref f)=true
section
variable{P:Program}{w:World}{K:PySem.W.Frag}{mg:Str->Option Value}{base:Heap}
theorem Ag.ok(F:Ag K x qual st dV f fd)(S:ao N ps (zH st))(len:∀vs H Q E,sp vs H Q E->vs.length=ps.length)(hbody:∀(cdv:Value) (A:Around) (outer:List Env) (s:Shared) (H:Hp) (vs:List V) (Q:VK) (E:XK),bO k (A.deeper (adi qual (zH st) s.heap.objs.size f cdv))->sp vs H Q E ->
   ∃t,qe (oE aO P w K mg base N qual (zH st) f cdv A outer s H E).Cz (xZ st) t/\t { nx:=λ_ H'=>Q .non H',rt:=Q } (start N vs) H):aq P w K mg base aO (k+1) f fd ps sp:=by
 obtain⟨oc,od,kV,doc,pm,an,cdv,ct,osl,rfl,lk,hcd⟩:=F.ex
 refine Hl lk hcd S len λA outer s H vs Q E hr hsp=>?_
 obtain⟨t,h,q⟩:=hbody cdv A outer s H vs Q E hr hsp
 exact⟨t,h.Cz,q⟩
structure Cl(K:PySem.W.Frag)(mg:Str->Option Value)(C:Addr):Prop where
 cl:Cls K C
 nS:bw K C "steps"
 nM:bw K C "marks"
 nF:bw K C "fair"
 nB:bw K C "sources"
 mgC:mg "Machine" = some (.ref C)
theorem Ms:ao ["self","steps","marks","fair","given_marks","given_fair"] ["self","steps","marks","fair"] (zH Ae):=⟨rfl,rfl,rfl,by decide +kernel,rfl,by decide +kernel,by decide +kernel⟩
theorem S6:(["name","stands"]:List Str).Nodup:=by decide +kernel
theorem bQ(f:Str)(v:V):∀fs:List (Str×V),(aG f v fs).length<=fs.length+1
 |[]=>aaq _
 | (g,x)::r=>by
  unfold aG
  split
  ·exact ab6 _
  ·exact ab2 (bQ f v r)
theorem zO4:∀{vs:List V}{xss:List LI},A2 (rp K R) vs xss->∃bs:List Addr,vs=bs.map V.ref/\qw K R bs xss
 |[],[],_=>⟨[],rfl,rfl,λi b h=>by simp at h⟩
 |v::vs,xs::xss,h=>by
  obtain⟨bs,e,h1,h2⟩:=zO4 h.2
  obtain⟨p,ws,rfl,h3,h4⟩:=h.1
  have h5:ws=xs.map V.int:=h4.vals
  refine⟨p::bs,by rw[e,map_cons],by rw[length_cons,length_cons,h1],λi b hb=>?_⟩
  cases i with
  |zero=>simp at hb;subst hb;exact⟨xs,rfl,aV.of (by rw[h3,h5])⟩
  |succ i=>exact h2 i b (by simpa using hb)
 |[],_::_,h=>h.elim
 |_::_,[],h=>h.elim
def Pr(xss:LLI):Option LLI:=if xss.length<=60/\Vi xss.length xss then some (srcs xss) else none
theorem Mt(F:aZ K "sources_of" "sources_of" V0 f fd)(B:Bl K mg):aq P w K mg base aO 1 f fd ["steps"] (cL K false (λa:LLI×Unit=>([.fz false a.1]:SL K)) λa=>Pr a.1):=by
 refine(S5 F B).imp λvs H Q E h=>?_
 obtain⟨⟨xss,⟨⟩⟩,b,Fa,s,hb,r,q⟩:=h
 have hb:Pr xss=some b:=hb
 unfold Pr at hb
 split at hb
 case isFalse=>cases hb
 rename_i hv
 cases hb
 cases r with
 |cons r1 r2 =>
  cases r2
  obtain⟨a,ws,rfl,h1,h2⟩:=r1
  obtain⟨bs,rfl,h3⟩:=zO4 (K:=K) h2
  refine⟨a,bs,xss,rfl,aV.of (s _ _ h1),h3.same s,hv.1,hv.2,λrr cs H' s' hr e l R N=>q _ _ s' ?_⟩
  refine⟨rr,_,rfl,by show dif H' H rr=_;rw[xT hr];exact e,?_⟩
  exact DK (K:=K) l R λc hc o e=>by show dif H' H c=_;rw[xT (N c hc)];exact e
theorem Mu{fS:LLI->Option Unit}{fM:Cd->Int->Option Unit}{fF:LLI->Int->Option Unit}{fC fO:LLI->Option LLI}(F:Ag K "__init__" "Machine.__init__" Ae dV f fd)(T:Cl K mg C)(B:Bl K mg)(CS:bK P w K mg base k "check_steps" ["steps"] (cL K false (λa:LLI×Unit=>([.fz false a.1]:SL K)) λa=>fS a.1))(CM:bK P w K mg base k "check_marks" ["marks","many"] (cL K false (λa:Cd×Int×Unit=>([.fz false a.1,.fz false a.2.1]:SL K)) λa=>fM a.1 a.2.1))(CF:bK P w K mg base k "check_fair" ["fair","many"] (cL K false (λa:LLI×Int×Unit=>([.fz false a.1,.fz false a.2.1]:SL K)) λa=>fF a.1 a.2.1))(CC:bK P w K mg base k "copied" ["lists"] (cL K false (λa:LLI×Unit=>([.fz false a.1]:SL K)) λa=>fC a.1))(CO:bK P w K mg base k "sources_of" ["steps"] (cL K false (λa:LLI×Unit=>([.fz false a.1]:SL K)) λa=>fO a.1)) :
  aq P w K mg base aO (k+1) f fd ["self","steps","marks","fair"] (RD K C (Vo C fS fM fF fC fO)):=by
 refine F.ok Ms (λvs H Q E h=>?_) (λcdv A outer s H vs Q E hr h=>?_)
 ·obtain⟨p,dx,vS,vM,vF,xss,mo,fo,M,rfl,_⟩:=h
  rfl
 obtain⟨p,dx,vS,vM,vF,xss,mo,fo,M,rfl,hp,rS,rM,rF,hm,q⟩:=h
 unfold Vo at hm
 obtain⟨⟨⟩,e1,hm⟩:=Ce hm
 obtain⟨⟨⟩,e2,hm⟩:=Ce hm
 obtain⟨⟨⟩,e3,hm⟩:=Ce hm
 obtain⟨a,e4,hm⟩:=Ce hm
 obtain⟨b,e5,hm⟩:=Ce hm
 obtain⟨c,e6,hm⟩:=Ce hm
 obtain⟨d,e7,hm⟩:=Ce hm
 cases hm
 refine⟨_,zB (G7 (i:=4) Ms.nd rfl (Or.inl rfl) (zLb (G3 (Um (pv 2))) (wC zD) (pv 2)))
  (zB (G7 (i:=5) Ms.nd rfl (Or.inl rfl) (zLb (G3 (Um (pv 3))) (wC zD) (pv 3)))
  (zB (yJ (zY CS hr (zA (pv 1) zD)))
  (zB (yJ (zY CM hr (zA (pv 4) (zA (zU (zu K) rfl B.len abg (zA (pv 1) zD)) zD))))
  (zB (yJ (zY CF hr (zA (pv 5) (zA (zU (zu K) rfl B.len abg (zA (pv 1) zD)) zD))))
  (zB (Bw (pv 0) (zY CC hr (zA (pv 1) zD)) rfl)
  (zB (Bw (pv 0) (BK (own:=["name","stands"]) (ix:=[]) rfl rfl rfl (yT K (pv 4)) (λC s H fp=>XF (K:=K) (n:=2) rfl rfl (yP (yO (i:=0) S6 rfl (Or.inl rfl)) (yP (yO (i:=1) S6 rfl (Or.inl rfl)) Bv))) (λC s H fp=>wJ)
   (λC s H fp=>wX (zA (pv 0) (zA (vX (KH K) rfl B.list HD (zA (pv 1) zD)) zD)))) rfl)
  (zB (Bw (pv 0) (zY CC hr (zA (pv 5) zD)) rfl)
  (yA (Bw (pv 0) (zY CO hr (zA (zUw (pv 0) rfl) zD)) rfl))))))))),?_⟩
 have sg0:Sg (K:=K) ⟨hid H p,H⟩ (hid H p) [.fz false (gQ.mk ():gQ p),.fz false xss,.fz false mo,.fz false fo,.un,.un] [some (.ref p),some vS,some vM,some vF,none,none] H :=
  ⟨hid H p,[],.refl _,zVf (.fz (show rp K _ _ (gQ.mk ():gQ p) from rfl) (.fz rS (.fz rM (.fz rF (.un (.un .nil))))))⟩
 refine(Sn.of (xI false 4 rfl rfl (zU5 (cU (md:=.hp) (Vg (zE 2 rfl))) (Eo.ex (zj (α:=Str×LI))) (Yi (zW 2 rfl)))) (show _=some (mo.getD []) by cases mo<;>rfl)) _ rfl (hid H p) _ _ H sg0 λσ1 H1 sg1=>?_
 refine(Sn.of (xI false 5 rfl rfl (zU5 (cU (md:=.hp) (Vg (zE 3 rfl))) (Eo.ex (zj (α:=LI))) (Yi (zW 3 rfl)))) (show _=some (fo.getD []) by cases fo<;>rfl)) _ rfl (hid H p) _ _ H1 sg1 λσ2 H2 sg2=>?_
 refine(Sn.of (Ou (md:=.hp) (zM (f:=λa:LLI×Unit=>fS a.1) (zF (zE 1 rfl) zO))) (show _=fS xss from rfl)) () e1 (hid H p) _ _ H2 sg2 λσ3 H3 sg3=>?_
 refine(Sn.of (Ou (md:=.hp) (zM (f:=λa:Cd×Int×Unit=>fM a.1 a.2.1) (zF (zE 4 rfl) (zF (Ex.sc (md:=.hp) (BZ (zE 1 rfl))) zO)))) (show _=fM (mo.getD []) (xss.length:Int) from rfl)) () e2 (hid H p) _ _ H3 sg3 λσ4 H4 sg4=>?_
 refine(Sn.of (Ou (md:=.hp) (zM (f:=λa:LLI×Int×Unit=>fF a.1 a.2.1) (zF (zE 5 rfl) (zF (Ex.sc (md:=.hp) (BZ (zE 1 rfl))) zO)))) (show _=fF (fo.getD []) (xss.length:Int) from rfl)) () e3 (hid H p) _ _ H4 sg4 λσ5 H5 sg5=>?_
 obtain⟨F5,O5,g5,k5,s5⟩:=sg5
 have s5:ak (K:=K) ⟨hid H p,H⟩ F5 (lo F5 O5 H5) H5 [.fz false (gQ.mk ():gQ p),.fz false xss,.fz false mo,.fz false fo,.fz false (mo.getD []),.fz false (fo.getD [])] σ5 O5:=s5
 cases s5 with|fz r0 s5 =>
 cases s5 with|fz r1 s5 =>
 cases s5 with|fz r2 s5 =>
 cases s5 with|fz r3 s5 =>
 cases s5 with|fz r4 s5 =>
 cases s5 with|fz r5 s5 =>
 cases s5
 rename_i v0 v1 v2 v3 v4 v5
 have r0:v0=.ref p:=r0
 subst r0
 have hF:Same F5 (hid H5 p):=λb o e=>by
  by_cases z:b=p
  ·subst z
   rcases k5.fa b o e with z|z
   ·have z:hid H b b=some o:=z
    rw[OJ] at z
    cases z
   ·have z:H b=none:=z
    rw[hp] at z
    cases z
  ·rw[K8 z];exact k5.fh b o e
 have r1:rp K (hid H5 p) v1 xss:=Rp.mono hF r1
 have r2:rp K (hid H5 p) v2 mo:=Rp.mono hF r2
 have r3:rp K (hid H5 p) v3 fo:=Rp.mono hF r3
 have r4:rp K (hid H5 p) v4 (mo.getD []):=Rp.mono hF r4
 have r5:rp K (hid H5 p) v5 (fo.getD []):=Rp.mono hF r5
 have Zi:Same H H5:=k5.h0
 have VP:H5 p=some (.ins C dx []):=Zi _ _ hp
 refine⟨_,rfl,(xss,()),a,H5,.refl _,e4,.cons (Rp.mono RG r1) .nil,λy1 H6 s6 t1=>?_⟩
 have t1:rp K (dif H6 H5) y1 a:=t1
 have Za:=s6 _ _ VP
 refine⟨_,rfl,p,C,dx,[],rfl,Za,T.cl,T.nS,(by show 0<1000;decide),?_⟩
 have f1:=Rp.mono (Vp (H:=H) (p:=p) (λb o _ e=>Zi b o e) (by rw[VP];intro z;cases z)) t1
 have kp6:∀b o,b≠p->H b=some o->(upd H6 p (.ins C dx (aG "steps" y1 []))) b=some o:=λb o n e=>by rw[zP n];exact s6 _ _ (Zi _ _ e)
 have h6:Same (hid H5 p) (hid (upd H6 p (.ins C dx (aG "steps" y1 []))) p):=by rw[Ib];exact O4 s6
 have E2:Ex (K:=K) ⟨hid (upd H6 p (.ins C dx (aG "steps" y1 []))) p,upd H6 p (.ins C dx (aG "steps" y1 []))⟩ [.fz false (gQ.mk ():gQ p),.fz false xss,.fz false mo,.fz false fo,.fz false (mo.getD []),.fz false (fo.getD [])] .nw _ _ :=
  (wL (n:=false) (jf:=[.un,.un]) (no:=2) (ix:=[]) rfl rfl (yU (zW 4 rfl)) (Hx 0 1 rfl rfl (λ_=>rfl) rfl) (λx=>wg) (λx=>Dp (zI 0 rfl) (KC (zE 1 rfl)).ex) (λx=>qR.un (qR.un qR.nil))).ex
 refine E2 b e5 (hid (upd H6 p (.ins C dx (aG "steps" y1 []))) p) [] _ _ _ (zVf (.fz (show rp K _ _ (gQ.mk ():gQ p) from rfl) (.fz (Rp.mono h6 r1) (.fz (Rp.mono h6 r2) (.fz (Rp.mono h6 r3) (.fz (Rp.mono h6 r4) (.fz (Rp.mono h6 r5) .nil))))))) λy2 F7 H7 g7 t2=>?_
 have s7:=g7.hh
 have t2:rp K (dif H7 (upd H6 p (.ins C dx (aG "steps" y1 [])))) y2 b:=Rp.mono (yZ g7.ok.fh) t2
 have hp7:H7 p=some (.ins C dx (aG "steps" y1 [])):=s7 _ _ zJ
 refine⟨_,rfl,p,C,dx,_,rfl,hp7,T.cl,T.nM,(by show 1<1000;decide),?_⟩
 have f2:=Rp.mono (Vp (H:=H) (p:=p) kp6 (by rw[zJ];intro z;cases z)) t2
 have kp7:∀b o,b≠p->H b=some o->(upd H7 p (.ins C dx (aG "marks" y2 (aG "steps" y1 [])))) b=some o:=λb o n e=>by rw[zP n];exact s7 _ _ (kp6 _ _ n e)
 have h7:Same (hid (upd H6 p (.ins C dx (aG "steps" y1 []))) p) (hid (upd H7 p (.ins C dx (aG "marks" y2 (aG "steps" y1 [])))) p):=by rw[Ib (H:=H7)];exact O4 s7
 refine⟨_,rfl,(fo.getD [],()),c,_,.refl _,e6,.cons (Rp.mono (h6.trans (h7.trans RG)) r5) .nil,λy3 H8 s8 t3=>?_⟩
 have t3:rp K (dif H8 (upd H7 p (.ins C dx (aG "marks" y2 (aG "steps" y1 []))))) y3 c:=t3
 have hp8:H8 p=some (.ins C dx (aG "marks" y2 (aG "steps" y1 []))):=s8 _ _ zJ
 have l2:(aG "marks" y2 (aG "steps" y1 [])).length<1000:=by
  have a1:=bQ "marks" y2 (aG "steps" y1 [])
  have a2:=bQ "steps" y1 []
  have a3:([]:List (Str×V)).length=0:=rfl
  omega
 refine⟨_,rfl,p,C,dx,_,rfl,hp8,T.cl,T.nF,l2,?_⟩
 have f3:=Rp.mono (Vp (H:=H) (p:=p) kp7 (by rw[zJ];intro z;cases z)) t3
 have kp8:∀b o,b≠p->H b=some o->(upd H8 p (.ins C dx (aG "fair" y3 (aG "marks" y2 (aG "steps" y1 []))))) b=some o:=λb o n e=>by rw[zP n];exact s8 _ _ (kp7 _ _ n e)
 have h8:Same (hid (upd H7 p (.ins C dx (aG "marks" y2 (aG "steps" y1 [])))) p) (hid (upd H8 p (.ins C dx (aG "fair" y3 (aG "marks" y2 (aG "steps" y1 []))))) p):=by rw[Ib (H:=H8)];exact O4 s8
 have lk:(aG "fair" y3 (aG "marks" y2 (aG "steps" y1 []))).lookup ("steps":Str)=some y1:=by
  rw[zL,if_neg (by decide +kernel),zL,if_neg (by decide +kernel),zL,if_pos rfl]
 have d1:Same (dif (hid H6 p) (hid H p)) (hid (upd H8 p (.ins C dx (aG "fair" y3 (aG "marks" y2 (aG "steps" y1 []))))) p):=aW.trans ((by rw[Ib];exact .refl _:Same (hid H6 p) (hid (upd H6 p (.ins C dx (aG "steps" y1 []))) p)).trans (h7.trans h8))
 refine⟨_,rfl,p,C,dx,_,_,rfl,zJ,T.cl,T.nS,lk,(a,()),d,_,.refl _,e7,.cons (Rp.mono (d1.trans RG) f1) .nil,λy4 H9 s9 t4=>?_⟩
 have t4:rp K (dif H9 (upd H8 p (.ins C dx (aG "fair" y3 (aG "marks" y2 (aG "steps" y1 [])))))) y4 d:=t4
 have hp9:H9 p=some (.ins C dx (aG "fair" y3 (aG "marks" y2 (aG "steps" y1 [])))):=s9 _ _ zJ
 have l3:(aG "fair" y3 (aG "marks" y2 (aG "steps" y1 []))).length<1000:=by
  have a0:=bQ "fair" y3 (aG "marks" y2 (aG "steps" y1 []))
  have a1:=bQ "marks" y2 (aG "steps" y1 [])
  have a2:=bQ "steps" y1 []
  have a3:([]:List (Str×V)).length=0:=rfl
  omega
 refine⟨_,rfl,p,C,dx,_,rfl,hp9,T.cl,T.nB,l3,?_⟩
 have f4:=Rp.mono (Vp (H:=H) (p:=p) kp8 (by rw[zJ];intro z;cases z)) t4
 have kp9:∀b o,b≠p->H b=some o->(upd H9 p (.ins C dx (aG "sources" y4 (aG "fair" y3 (aG "marks" y2 (aG "steps" y1 [])))))) b=some o:=λb o n e=>by rw[zP n];exact s9 _ _ (kp8 _ _ n e)
 have u9:Same (hid H9 p) (upd H9 p (.ins C dx (aG "sources" y4 (aG "fair" y3 (aG "marks" y2 (aG "steps" y1 [])))))):=(by rw[Ib];exact .refl _:Same (hid H9 p) (hid (upd H9 p (.ins C dx (aG "sources" y4 (aG "fair" y3 (aG "marks" y2 (aG "steps" y1 [])))))) p)).trans RG
 have u8:Same (hid H8 p) (hid H9 p):=(by rw[Ib];exact .refl _:Same (hid H8 p) (hid (upd H8 p (.ins C dx (aG "fair" y3 (aG "marks" y2 (aG "steps" y1 []))))) p)).trans (O4 s9)
 have u7:Same (hid H7 p) (hid H8 p):=(by rw[Ib];exact .refl _:Same (hid H7 p) (hid (upd H7 p (.ins C dx (aG "marks" y2 (aG "steps" y1 [])))) p)).trans (O4 s8)
 have u6:Same (hid H6 p) (hid H7 p):=(by rw[Ib];exact .refl _:Same (hid H6 p) (hid (upd H6 p (.ins C dx (aG "steps" y1 []))) p)).trans (O4 s7)
 refine q _ kp9 ⟨p,dx,aG "sources" y4 (aG "fair" y3 (aG "marks" y2 (aG "steps" y1 []))),y1,y2,y3,y4,rfl,?_,?_,Rp.mono (yZ (u6.trans (u7.trans (u8.trans u9)))) f1,?_,Rp.mono (yZ (u7.trans (u8.trans u9))) f2,?_,Rp.mono (yZ (u8.trans u9)) f3,?_,Rp.mono (yZ u9) f4,?_⟩
 ·rw[xT OJ];exact zJ
 ·rw[zL,if_neg (by decide +kernel)];exact lk
 ·rw[zL,if_neg (by decide +kernel),zL,if_neg (by decide +kernel),zL,if_pos rfl]
 ·rw[zL,if_neg (by decide +kernel),zL,if_pos rfl]
 ·rw[zL,if_pos rfl]
 ·intro g hg
  simp only[Yj,mem_cons,List.not_mem_nil,or_false] at hg
  rcases hg with rfl|rfl|rfl|rfl|rfl|rfl<;>(rw[zL,if_neg (by decide +kernel),zL,if_neg (by decide +kernel),zL,if_neg (by decide +kernel),zL,if_neg (by decide +kernel)];rfl)
end
end Ts
namespace Sy
open PySem L2
abbrev Zj:Stmt:=Ts.jO
abbrev Zk:Stmt:=Ts.j5
abbrev Zm:Stmt:=Ts.j6
abbrev Mv:Stmt:=Ts.mO
abbrev Ah:Stmt:=Ts.lM
abbrev Mw:Stmt:=Ts.mQ
abbrev Zn:Stmt:=Ts.iV
abbrev Zo:Stmt:=Ts.iW
abbrev Zq:Stmt:=Ts.gG
abbrev Zr:Stmt:=Ts.gH
abbrev Zt:Stmt:=Ts.i_
abbrev Zu:Stmt:=Ts.jc
abbrev Ai:Stmt:=Ts.lN
abbrev Zv:Stmt:=Ts.jP
abbrev Zw:Stmt:=Ts.iY
abbrev Zx:Stmt:=Ts.iZ
section
variable{P:Program}{w:World}{K:PySem.W.Frag}{mg:Str->Option Value}{base:Heap}
theorem zSj:ao ["self","word","parts"] ["self","word","parts"] (zH Zj):=⟨rfl,rfl,rfl,by decide +kernel,rfl,by decide +kernel,by decide +kernel⟩
theorem zPw(F:aZ K "__init__" "Saying.__init__" Zj f fd):aq P w K mg base aO 1 f fd ["self","word","parts"] (spS K):=by
 refine F.ok zSj (λvs H Q E h=>?_) (λcdv A outer s H vs Q E hr h=>?_)
 ·obtain⟨p,C,dx,x,y,rfl,_⟩:=h
  rfl
 obtain⟨p,C,dx,x,y,rfl,hp,T,q⟩:=h
 refine⟨_,zB (Bw (pv 0) (pv 1) rfl) (yA (Bw (pv 0) (pv 2) rfl)),?_⟩
 refine⟨_,rfl,_,rfl,p,C,dx,[],rfl,hp,T.cl,T.nW,(by show 0<1000;decide),_,rfl,_,rfl,p,C,dx,_,rfl,zJ,T.cl,T.nP,(by show 1<1000;decide),?_⟩
 exact q _ ((Kp.put p H _).trans (Kp.put p _ _)) zJ
theorem Fy:ao ["self","word","part"] ["self","word","part"] (zH Zk):=⟨rfl,rfl,rfl,by decide +kernel,rfl,by decide +kernel,by decide +kernel⟩
theorem zS3(F:aZ K "__init__" "OfOne.__init__" Zk f fd)(mD:mg "Saying" = some (.ref D))(cD:ql K D "__init__" g)(G:aq P w K mg base aO 1 g gd ["self","word","parts"] (spS K))(bG:Binds K gd ["self","word","parts"] []) :
  aq P w K mg base aO 2 f fd ["self","word","part"] (qF K):=by
 refine F.ok Fy (λvs H Q E h=>?_) (λcdv A outer s H vs Q E hr h=>?_)
 ·obtain⟨p,C,dx,x,v,rfl,_⟩:=h
  rfl
 obtain⟨p,C,dx,x,v,rfl,hp,T,q⟩:=h
 refine⟨_,zB (yJ (uP rfl mD cD G hr bG .nil yE (zA (pv 0) (zA (pv 1) (zA (wX (zA (pv 2) zD)) zD))))) (yA (Bw (pv 0) (pv 2) rfl)),?_⟩
 refine⟨_,rfl,_,rfl,_,rfl,(by show 1<=sizeLine;decide),λt ht=>?_⟩
 have hp1:=au ht (.tup [v]) _ _ hp
 refine⟨p,C,dx,_,_,rfl,hp1,T,λH' k1 e1=>?_⟩
 have pt:t≠p:=(zN hp ht).symm
 refine⟨_,rfl,_,rfl,p,C,dx,_,rfl,e1,T.cl,T.n1,aav (VG x t) (by decide),?_⟩
 exact q t _ (((Kp.of (au ht _)).trans k1).trans (Kp.put p _ _)) ht (by rw[zP pt];exact k1 _ _ pt zJ) zJ
theorem Fz:ao ["self","word","left","right"] ["self","word","left","right"] (zH Zm):=⟨rfl,rfl,rfl,by decide +kernel,rfl,by decide +kernel,by decide +kernel⟩
theorem zS2(F:aZ K "__init__" "OfTwo.__init__" Zm f fd)(mD:mg "Saying" = some (.ref D))(cD:ql K D "__init__" g)(G:aq P w K mg base aO 1 g gd ["self","word","parts"] (spS K))(bG:Binds K gd ["self","word","parts"] []) :
  aq P w K mg base aO 2 f fd ["self","word","left","right"] (Ab K):=by
 refine F.ok Fz (λvs H Q E h=>?_) (λcdv A outer s H vs Q E hr h=>?_)
 ·obtain⟨p,C,dx,x,v,u,rfl,_⟩:=h
  rfl
 obtain⟨p,C,dx,x,v,u,rfl,hp,T,q⟩:=h
 refine⟨_,zB (yJ (uP rfl mD cD G hr bG .nil yE (zA (pv 0) (zA (pv 1) (zA (wX (zA (pv 2) (zA (pv 3) zD))) zD))))) (zB (Bw (pv 0) (pv 2) rfl) (yA (Bw (pv 0) (pv 3) rfl))),?_⟩
 refine⟨_,rfl,_,rfl,_,rfl,_,rfl,(by show 2<=sizeLine;decide),λt ht=>?_⟩
 have hp1:=au ht (.tup [v,u]) _ _ hp
 refine⟨p,C,dx,_,_,rfl,hp1,T,λH' k1 e1=>?_⟩
 have pt:t≠p:=(zN hp ht).symm
 refine⟨_,rfl,_,rfl,p,C,dx,_,rfl,e1,T.cl,T.nL,aav (VG x t) (by decide),?_⟩
 refine⟨_,rfl,_,rfl,p,C,dx,_,rfl,zJ,T.cl,T.nR,aav (aa0 (bQ "left" v _) (ab2 (VG x t))) (by decide),?_⟩
 exact q t _ ((((Kp.of (au ht _)).trans k1).trans (Kp.put p _ _)).trans (Kp.put p _ _)) ht (by rw[zP pt,zP pt];exact k1 _ _ pt zJ) zJ
theorem S7:ao ["self"] ["self"] (zH Mv):=⟨rfl,rfl,rfl,by decide +kernel,rfl,by decide +kernel,by decide +kernel⟩
theorem Mx(F:aZ K "__init__" "All.__init__" Mv f fd)(T:gF K C)(mD:mg "Saying" = some (.ref D))(cD:ql K D "__init__" g)(G:aq P w K mg base aO 1 g gd ["self","word","parts"] (spS K))(bG:Binds K gd ["self","word","parts"] []) :
  aq P w K mg base aO 2 f fd ["self"] (Lw C):=by
 refine F.ok S7 (λvs H Q E h=>?_) (λcdv A outer s H vs Q E hr h=>?_)
 ·obtain⟨p,dx,rfl,_⟩:=h
  rfl
 obtain⟨p,dx,rfl,hp,q⟩:=h
 refine⟨_,yA (yJ (uP rfl mD cD G hr bG .nil yE (zA (pv 0) (zA yF (zA (wX zD) zD))))),?_⟩
 refine⟨_,rfl,(by show 0<=sizeLine;decide),λt ht=>?_⟩
 have hp1:=au ht (.tup []) _ _ hp
 have pt:t≠p:=(zN hp ht).symm
 exact⟨p,C,dx,_,_,rfl,hp1,T,λH' k1 e1=>q t H' ((Kp.of (au ht _)).trans k1) ht (k1 _ _ pt zJ) e1⟩
theorem Mz:ao ["self","name"] ["self","name"] (zH Ah):=⟨rfl,rfl,rfl,by decide +kernel,rfl,by decide +kernel,by decide +kernel⟩
theorem FJ(F:aZ K "__init__" "Mark.__init__" Ah f fd)(T:gF K C)(mD:mg "Saying" = some (.ref D))(cD:ql K D "__init__" g)(G:aq P w K mg base aO 1 g gd ["self","word","parts"] (spS K))(bG:Binds K gd ["self","word","parts"] []) :
  aq P w K mg base aO 2 f fd ["self","name"] (Sq C):=by
 refine F.ok Mz (λvs H Q E h=>?_) (λcdv A outer s H vs Q E hr h=>?_)
 ·obtain⟨p,dx,x,rfl,_⟩:=h
  rfl
 obtain⟨p,dx,x,rfl,hp,q⟩:=h
 refine⟨_,zB (yJ (uP rfl mD cD G hr bG .nil yE (zA (pv 0) (zA (pv 1) (zA (wX zD) zD))))) (yA (Bw (pv 0) (pv 1) rfl)),?_⟩
 refine⟨_,rfl,_,rfl,(by show 0<=sizeLine;decide),λt ht=>?_⟩
 have hp1:=au ht (.tup []) _ _ hp
 have pt:t≠p:=(zN hp ht).symm
 refine⟨p,C,dx,_,_,rfl,hp1,T,λH' k1 e1=>?_⟩
 refine⟨_,rfl,_,rfl,p,C,dx,_,rfl,e1,T.cl,T.nN,aav (VG x t) (by decide),?_⟩
 exact q t _ (((Kp.of (au ht _)).trans k1).trans (Kp.put p _ _)) ht (by rw[zP pt];exact k1 _ _ pt zJ) zJ
end
section
variable{P:Program}{w:World}{K:PySem.W.Frag}{mg:Str->Option Value}{base:Heap}
theorem S8:ao ["self","part"] ["self","part"] (zH Mw):=⟨rfl,rfl,rfl,by decide +kernel,rfl,by decide +kernel,by decide +kernel⟩
theorem MF(F:aZ K "__init__" "Not.__init__" Mw f fd)(T:gF K C)(mD:mg "OfOne" = some (.ref D))(cD:ql K D "__init__" g)(G:aq P w K mg base aO 2 g gd ["self","word","part"] (qF K))(bG:Binds K gd ["self","word","part"] []) :
  aq P w K mg base aO 3 f fd ["self","part"] (oG C "not"):=by
 refine F.ok S8 (λvs H Q E h=>?_) (λcdv A outer s H vs Q E hr h=>?_)
 ·obtain⟨p,dx,c,rfl,_⟩:=h
  rfl
 obtain⟨p,dx,c,rfl,hp,q⟩:=h
 refine⟨_,yA (yJ (uP rfl mD cD G hr bG .nil yE (zA (pv 0) (zA yF (zA (pv 1) zD))))),?_⟩
 exact⟨_,rfl,_,rfl,p,C,dx,_,_,rfl,hp,T,λq0 H' k1 f0 e1 e2=>q q0 H' k1 f0 e1 e2⟩
theorem zMv:ao ["self","part"] ["self","part"] (zH Zn):=⟨rfl,rfl,rfl,by decide +kernel,rfl,by decide +kernel,by decide +kernel⟩
theorem zJ8(F:aZ K "__init__" "SomeNext.__init__" Zn f fd)(T:gF K C)(mD:mg "OfOne" = some (.ref D))(cD:ql K D "__init__" g)(G:aq P w K mg base aO 2 g gd ["self","word","part"] (qF K))(bG:Binds K gd ["self","word","part"] []) :
  aq P w K mg base aO 3 f fd ["self","part"] (oG C "somenext"):=by
 refine F.ok zMv (λvs H Q E h=>?_) (λcdv A outer s H vs Q E hr h=>?_)
 ·obtain⟨p,dx,c,rfl,_⟩:=h
  rfl
 obtain⟨p,dx,c,rfl,hp,q⟩:=h
 refine⟨_,yA (yJ (uP rfl mD cD G hr bG .nil yE (zA (pv 0) (zA yF (zA (pv 1) zD))))),?_⟩
 exact⟨_,rfl,_,rfl,p,C,dx,_,_,rfl,hp,T,λq0 H' k1 f0 e1 e2=>q q0 H' k1 f0 e1 e2⟩
theorem zMy:ao ["self","part"] ["self","part"] (zH Zo):=⟨rfl,rfl,rfl,by decide +kernel,rfl,by decide +kernel,by decide +kernel⟩
theorem zKb(F:aZ K "__init__" "EachNext.__init__" Zo f fd)(T:gF K C)(mD:mg "OfOne" = some (.ref D))(cD:ql K D "__init__" g)(G:aq P w K mg base aO 2 g gd ["self","word","part"] (qF K))(bG:Binds K gd ["self","word","part"] []) :
  aq P w K mg base aO 3 f fd ["self","part"] (oG C "eachnext"):=by
 refine F.ok zMy (λvs H Q E h=>?_) (λcdv A outer s H vs Q E hr h=>?_)
 ·obtain⟨p,dx,c,rfl,_⟩:=h
  rfl
 obtain⟨p,dx,c,rfl,hp,q⟩:=h
 refine⟨_,yA (yJ (uP rfl mD cD G hr bG .nil yE (zA (pv 0) (zA yF (zA (pv 1) zD))))),?_⟩
 exact⟨_,rfl,_,rfl,p,C,dx,_,_,rfl,hp,T,λq0 H' k1 f0 e1 e2=>q q0 H' k1 f0 e1 e2⟩
theorem zH7:ao ["self","part"] ["self","part"] (zH Zq):=⟨rfl,rfl,rfl,by decide +kernel,rfl,by decide +kernel,by decide +kernel⟩
theorem zHb(F:aZ K "__init__" "SomeAlways.__init__" Zq f fd)(T:gF K C)(mD:mg "OfOne" = some (.ref D))(cD:ql K D "__init__" g)(G:aq P w K mg base aO 2 g gd ["self","word","part"] (qF K))(bG:Binds K gd ["self","word","part"] []) :
  aq P w K mg base aO 3 f fd ["self","part"] (oG C "somealways"):=by
 refine F.ok zH7 (λvs H Q E h=>?_) (λcdv A outer s H vs Q E hr h=>?_)
 ·obtain⟨p,dx,c,rfl,_⟩:=h
  rfl
 obtain⟨p,dx,c,rfl,hp,q⟩:=h
 refine⟨_,yA (yJ (uP rfl mD cD G hr bG .nil yE (zA (pv 0) (zA yF (zA (pv 1) zD))))),?_⟩
 exact⟨_,rfl,_,rfl,p,C,dx,_,_,rfl,hp,T,λq0 H' k1 f0 e1 e2=>q q0 H' k1 f0 e1 e2⟩
theorem zH8:ao ["self","part"] ["self","part"] (zH Zr):=⟨rfl,rfl,rfl,by decide +kernel,rfl,by decide +kernel,by decide +kernel⟩
theorem zHc(F:aZ K "__init__" "EachAlways.__init__" Zr f fd)(T:gF K C)(mD:mg "OfOne" = some (.ref D))(cD:ql K D "__init__" g)(G:aq P w K mg base aO 2 g gd ["self","word","part"] (qF K))(bG:Binds K gd ["self","word","part"] []) :
  aq P w K mg base aO 3 f fd ["self","part"] (oG C "eachalways"):=by
 refine F.ok zH8 (λvs H Q E h=>?_) (λcdv A outer s H vs Q E hr h=>?_)
 ·obtain⟨p,dx,c,rfl,_⟩:=h
  rfl
 obtain⟨p,dx,c,rfl,hp,q⟩:=h
 refine⟨_,yA (yJ (uP rfl mD cD G hr bG .nil yE (zA (pv 0) (zA yF (zA (pv 1) zD))))),?_⟩
 exact⟨_,rfl,_,rfl,p,C,dx,_,_,rfl,hp,T,λq0 H' k1 f0 e1 e2=>q q0 H' k1 f0 e1 e2⟩
theorem zMw:ao ["self","part"] ["self","part"] (zH Zt):=⟨rfl,rfl,rfl,by decide +kernel,rfl,by decide +kernel,by decide +kernel⟩
theorem zJ9(F:aZ K "__init__" "SomeEver.__init__" Zt f fd)(T:gF K C)(mD:mg "OfOne" = some (.ref D))(cD:ql K D "__init__" g)(G:aq P w K mg base aO 2 g gd ["self","word","part"] (qF K))(bG:Binds K gd ["self","word","part"] []) :
  aq P w K mg base aO 3 f fd ["self","part"] (oG C "someever"):=by
 refine F.ok zMw (λvs H Q E h=>?_) (λcdv A outer s H vs Q E hr h=>?_)
 ·obtain⟨p,dx,c,rfl,_⟩:=h
  rfl
 obtain⟨p,dx,c,rfl,hp,q⟩:=h
 refine⟨_,yA (yJ (uP rfl mD cD G hr bG .nil yE (zA (pv 0) (zA yF (zA (pv 1) zD))))),?_⟩
 exact⟨_,rfl,_,rfl,p,C,dx,_,_,rfl,hp,T,λq0 H' k1 f0 e1 e2=>q q0 H' k1 f0 e1 e2⟩
theorem zMz:ao ["self","part"] ["self","part"] (zH Zu):=⟨rfl,rfl,rfl,by decide +kernel,rfl,by decide +kernel,by decide +kernel⟩
theorem zKc(F:aZ K "__init__" "EachEver.__init__" Zu f fd)(T:gF K C)(mD:mg "OfOne" = some (.ref D))(cD:ql K D "__init__" g)(G:aq P w K mg base aO 2 g gd ["self","word","part"] (qF K))(bG:Binds K gd ["self","word","part"] []) :
  aq P w K mg base aO 3 f fd ["self","part"] (oG C "eachever"):=by
 refine F.ok zMz (λvs H Q E h=>?_) (λcdv A outer s H vs Q E hr h=>?_)
 ·obtain⟨p,dx,c,rfl,_⟩:=h
  rfl
 obtain⟨p,dx,c,rfl,hp,q⟩:=h
 refine⟨_,yA (yJ (uP rfl mD cD G hr bG .nil yE (zA (pv 0) (zA yF (zA (pv 1) zD))))),?_⟩
 exact⟨_,rfl,_,rfl,p,C,dx,_,_,rfl,hp,T,λq0 H' k1 f0 e1 e2=>q q0 H' k1 f0 e1 e2⟩
theorem MJ:ao ["self","left","right"] ["self","left","right"] (zH Ai):=⟨rfl,rfl,rfl,by decide +kernel,rfl,by decide +kernel,by decide +kernel⟩
theorem FN(F:aZ K "__init__" "Both.__init__" Ai f fd)(T:gF K C)(mD:mg "OfTwo" = some (.ref D))(cD:ql K D "__init__" g)(G:aq P w K mg base aO 2 g gd ["self","word","left","right"] (Ab K))(bG:Binds K gd ["self","word","left","right"] []) :
  aq P w K mg base aO 3 f fd ["self","left","right"] (q_ C "both"):=by
 refine F.ok MJ (λvs H Q E h=>?_) (λcdv A outer s H vs Q E hr h=>?_)
 ·obtain⟨p,dx,c,d,rfl,_⟩:=h
  rfl
 obtain⟨p,dx,c,d,rfl,hp,q⟩:=h
 refine⟨_,yA (yJ (uP rfl mD cD G hr bG .nil yE (zA (pv 0) (zA yF (zA (pv 1) (zA (pv 2) zD)))))),?_⟩
 exact⟨_,rfl,_,rfl,_,rfl,p,C,dx,_,_,_,rfl,hp,T,λq0 H' k1 f0 e1 e2=>q q0 H' k1 f0 e1 e2⟩
theorem zSk:ao ["self","left","right"] ["self","left","right"] (zH Zv):=⟨rfl,rfl,rfl,by decide +kernel,rfl,by decide +kernel,by decide +kernel⟩
theorem zPx(F:aZ K "__init__" "Either.__init__" Zv f fd)(T:gF K C)(mD:mg "OfTwo" = some (.ref D))(cD:ql K D "__init__" g)(G:aq P w K mg base aO 2 g gd ["self","word","left","right"] (Ab K))(bG:Binds K gd ["self","word","left","right"] []) :
  aq P w K mg base aO 3 f fd ["self","left","right"] (q_ C "either"):=by
 refine F.ok zSk (λvs H Q E h=>?_) (λcdv A outer s H vs Q E hr h=>?_)
 ·obtain⟨p,dx,c,d,rfl,_⟩:=h
  rfl
 obtain⟨p,dx,c,d,rfl,hp,q⟩:=h
 refine⟨_,yA (yJ (uP rfl mD cD G hr bG .nil yE (zA (pv 0) (zA yF (zA (pv 1) (zA (pv 2) zD)))))),?_⟩
 exact⟨_,rfl,_,rfl,_,rfl,p,C,dx,_,_,_,rfl,hp,T,λq0 H' k1 f0 e1 e2=>q q0 H' k1 f0 e1 e2⟩
theorem zMu:ao ["self","left","right"] ["self","left","right"] (zH Zw):=⟨rfl,rfl,rfl,by decide +kernel,rfl,by decide +kernel,by decide +kernel⟩
theorem zJ7(F:aZ K "__init__" "SomeTill.__init__" Zw f fd)(T:gF K C)(mD:mg "OfTwo" = some (.ref D))(cD:ql K D "__init__" g)(G:aq P w K mg base aO 2 g gd ["self","word","left","right"] (Ab K))(bG:Binds K gd ["self","word","left","right"] []) :
  aq P w K mg base aO 3 f fd ["self","left","right"] (q_ C "sometill"):=by
 refine F.ok zMu (λvs H Q E h=>?_) (λcdv A outer s H vs Q E hr h=>?_)
 ·obtain⟨p,dx,c,d,rfl,_⟩:=h
  rfl
 obtain⟨p,dx,c,d,rfl,hp,q⟩:=h
 refine⟨_,yA (yJ (uP rfl mD cD G hr bG .nil yE (zA (pv 0) (zA yF (zA (pv 1) (zA (pv 2) zD)))))),?_⟩
 exact⟨_,rfl,_,rfl,_,rfl,p,C,dx,_,_,_,rfl,hp,T,λq0 H' k1 f0 e1 e2=>q q0 H' k1 f0 e1 e2⟩
theorem zMx:ao ["self","left","right"] ["self","left","right"] (zH Zx):=⟨rfl,rfl,rfl,by decide +kernel,rfl,by decide +kernel,by decide +kernel⟩
theorem zKa(F:aZ K "__init__" "EachTill.__init__" Zx f fd)(T:gF K C)(mD:mg "OfTwo" = some (.ref D))(cD:ql K D "__init__" g)(G:aq P w K mg base aO 2 g gd ["self","word","left","right"] (Ab K))(bG:Binds K gd ["self","word","left","right"] []) :
  aq P w K mg base aO 3 f fd ["self","left","right"] (q_ C "eachtill"):=by
 refine F.ok zMx (λvs H Q E h=>?_) (λcdv A outer s H vs Q E hr h=>?_)
 ·obtain⟨p,dx,c,d,rfl,_⟩:=h
  rfl
 obtain⟨p,dx,c,d,rfl,hp,q⟩:=h
 refine⟨_,yA (yJ (uP rfl mD cD G hr bG .nil yE (zA (pv 0) (zA yF (zA (pv 1) (zA (pv 2) zD)))))),?_⟩
 exact⟨_,rfl,_,rfl,_,rfl,p,C,dx,_,_,_,rfl,hp,T,λq0 H' k1 f0 e1 e2=>q q0 H' k1 f0 e1 e2⟩
end
open PySem L2 Ts
abbrev zUo:Stmt:=Ts.oX
abbrev IK:Stmt:=Ts.qH
abbrev zO1:Stmt:=Ts.mV
section
variable{P:Program}{w:World}{K:PySem.W.Frag}{mg:Str->Option Value}{base:Heap}
theorem vac(no:∀vs H Q E,¬sp vs H Q E):aq P w K mg base aO k f fd ps sp :=
 ⟨λvs H Q E h=>absurd h (no vs H Q E),λA outer s H args us vs Q E _ _ _ _ h=>absurd h (no vs H Q E)⟩
def S9:Sp:=λvs H Q _=>∃(a:Addr)(ns:LI),vs=[.ref a]/\H a=some (.lst (ns.map V.int))/\∀(z:Int)(ns':LI)(H':Hp),Kp a H H'->H' a=some (.lst (ns'.map V.int))->Q (.int z) H'
end
section
variable{P:Program}{w:World}{K:PySem.W.Frag}{mg:Str->Option Value}{base:Heap}
def FQ(K:PySem.W.Frag)(n:Nat):Sp:=λvs H Q _=>∃(a b:Addr)(d:Nat)(ns:LI)(xs:List Str),vs=[.ref a,.ref b,.int d]/\d<n/\H a=some (.lst (ns.map V.int))/\aV K H b (xs.map V.str)/\b≠a/\xs.length<=1000 /\
 ∀(v:V)(t:Tr)(ns':LI)(H':Hp),Kp a H H'->H' a=some (.lst (ns'.map V.int))->bT H' v t->t.depth<=d->Q v H'
theorem uw:ao ["_law_rest","_law_names","_law_deep","_law_cell_here","_law_way","_law_word","_law_left"] ["_law_rest","_law_names","_law_deep"] (zH zUo):=⟨rfl,rfl,rfl,by decide +kernel,rfl,by decide +kernel,by decide +kernel⟩
theorem S_(h0:0<=c)(h1:c<7):∃i:Fin 7,cu [V.str "not",V.str "somenext",V.str "eachnext",V.str "somealways",V.str "eachalways",V.str "someever",V.str "eachever"] c=some (.str (w1 i)):=by
 have h:c=0\/c=1\/c=2\/c=3\/c=4\/c=5\/c=6:=by omega
 rcases h with rfl|rfl|rfl|rfl|rfl|rfl|rfl
 ·exact⟨0,rfl⟩
 ·exact⟨1,rfl⟩
 ·exact⟨2,rfl⟩
 ·exact⟨3,rfl⟩
 ·exact⟨4,rfl⟩
 ·exact⟨5,rfl⟩
 ·exact⟨6,rfl⟩
theorem Tc(h0:0<=c)(h1:c<4):∃i:Fin 4,cu [V.str "both",V.str "either",V.str "sometill",V.str "eachtill"] c=some (.str (w2 i)):=by
 have h:c=0\/c=1\/c=2\/c=3:=by omega
 rcases h with rfl|rfl|rfl|rfl
 ·exact⟨0,rfl⟩
 ·exact⟨1,rfl⟩
 ·exact⟨2,rfl⟩
 ·exact⟨3,rfl⟩
set_option maxHeartbeats 4000000 in
theorem IV(F:aZ K "_law_grown" "_law_grown" zUo f fd)(bF:Binds K fd ["_law_rest","_law_names","_law_deep"] [])(mF:mg "_law_grown" = some (.ref f))(GC:aq P w K mg base aO 1 g gd ["_law_rest"] S9)(bC:Binds K gd ["_law_rest"] [])(kC:keepIn K (.ref g)=true)(mC:mg "_law_cell" = some (.ref g))(B:Bl K mg) :
  ∀n:Nat,aq P w K mg base aO (n+2) f fd ["_law_rest","_law_names","_law_deep"] (FQ K n)
 |0=>vac λvs H Q E h=>by
  obtain⟨_,_,_,_,_,_,h,_⟩:=h
  exact aci _ h
 |n+1=>by
  have G:=IV F bF mF GC bC kC mC B n
  refine F.ok uw (λvs H Q E h=>?_) (λcdv A outer s H vs Q E hr h=>?_)
  ·obtain⟨a,b,d,ns,xs,rfl,_⟩:=h
   rfl
  obtain⟨a,b,d,ns,xs,rfl,hdn,hA,hB,hba,Oq,q⟩:=h
  refine⟨_,zB (G7 (i:=3) uw.nd rfl (Or.inl rfl) (J0 (GC.mono (by omega)) hr rfl mC kC bC .nil yE (zA (pv 0) zD)))
   (zB (G7 (i:=4) uw.nd rfl (Or.inl rfl) (xL xg (pv 3) zK))
   (zB (yX (PW.pt (pw_or (yH qQ (pv 2) zK (yS _)) (pw_or1 (yH Qw (pv 4) zK (yS _)))))
    (zB (yX (PW.pt (pw_or (yH qQ (pv 4) zK (yS _)) (pw_or1 (yH qQ (zU uA rfl B.len abg (zA (pv 1) zD)) zK (yS _))))) (yA (zQ (wX (zA yF zD)))) zG)
     (yA (zQ (wX (zA yF (zA (yQ wK (pv 1) (xL xg (xL Hf (pv 3) zK) (zU uA rfl B.len abg (zA (pv 1) zD))) (λ_ _=>rfl)) zD)))))) zG)
   (zB (yX (yH Qw (pv 4) zK (yS _))
    (zB (G7 (i:=5) uw.nd rfl (Or.inl rfl) (yQ wK (wC (zA yF (zA yF (zA yF (zA yF (zA yF (zA yF (zA yF zD)))))))) (xL xg (xL Hf (pv 3) zK) zK) (λ_ _=>rfl)))
     (yA (zQ (wX (zA (pv 5) (zA (J0 G hr rfl mF F.kp bF .nil yE (zA (pv 0) (zA (pv 1) (zA (xL WT (pv 2) zK) zD)))) zD)))))) zG)
   (zB (G7 (i:=5) uw.nd rfl (Or.inl rfl) (yQ wK (wC (zA yF (zA yF (zA yF (zA yF zD))))) (xL xg (xL Hf (pv 3) zK) zK) (λ_ _=>rfl)))
   (zB (G7 (i:=6) uw.nd rfl (Or.inl rfl) (J0 G hr rfl mF F.kp bF .nil yE (zA (pv 0) (zA (pv 1) (zA (xL WT (pv 2) zK) zD)))))
   (yA (zQ (wX (zA (pv 5) (zA (pv 6) (zA (J0 G hr rfl mF F.kp bF .nil yE (zA (pv 0) (zA (pv 1) (zA (xL WT (pv 2) zK) zD)))) zD))))))))))),?_⟩
  refine⟨_,rfl,a,ns,rfl,hA,λc V2 H1 k1 e1=>?_⟩
  have Pu:=VF hB hba k1
  refine⟨_,rfl,_,_,rfl,rfl,(by show(0:Int)<16;decide),?_⟩
  have c0:=ado (c/16) (show(7:Int)≠0 by decide)
  have c1:=acz (c/16) (show(0:Int)<7 by decide)
  have c2:=ado (c/16) (show(4:Int)≠0 by decide)
  have c3:=acz (c/16) (show(0:Int)<4 by decide)
  have stop:∀{D:Ends},D.rt=Q->iH (tE (Wx (Ux (jE WX (cj 4) (tC (.int 0)))) (Ux (jE WX (tQ (λxs H Q=>∃p ys,xs=[V.ref p]/\(aV K H p ys\/cI K H p ys)/\Q (.int ys.length) H) (yM (cj 1) bh)) (tC (.int 0))))) (qU (tH (yM (tC (.str "all")) bh))) Jy)
    (qU (tH (yM (tC (.str "mark")) (yM (jE (qZ K) (cj 1) (jE (rI (λ_ j=>0<j) λi j=>.int (i%j)) (jE (rI JQ λi j=>.int (i/j)) (cj 3) (tC (.int 16))) (tQ (λxs H Q=>∃p ys,xs=[V.ref p]/\(aV K H p ys\/cI K H p ys)/\Q (.int ys.length) H) (yM (cj 1) bh)))) bh)))) D
    [some (.ref a),some (.ref b),some (.int d),some (.int c),some (.int (c%16)),none,none] H1:=by
   intro D hD
   have IW:∀p,H1 p=none->D.rt (.ref p) (upd H1 p (.tup [.str "all"])):=λp hp=>by
    rw[hD]
    exact q _ .all V2 _ (k1.trans (Kp.of (au hp _))) (au hp _ _ _ e1) (.all zJ) (aa5 _)
   refine⟨_,rfl,rfl,_,rfl,?_⟩
   refine yq (λ_=>iI ⟨(by show 1<=sizeLine;decide),IW⟩) (λ_=>?_)
   refine⟨_,rfl,b,_,rfl,.inl Pu,rfl,_,rfl,yq (λ_=>⟨(by show 1<=sizeLine;decide),IW⟩) (λhne=>?_)⟩
   have hx0:xs.length≠0:=λe=>hne (by rw[length_map,e];exact decide_eq_true rfl)
   have hpos:(0:Int)<((xs.map V.str).length:Int):=by rw[length_map];omega
   have d0:=ado (c/16) (show((xs.map V.str).length:Int)≠0 by omega)
   have d1:=acz (c/16) hpos
   rw[length_map] at d0 d1
   have hil:((c/16)%(xs.length:Int)).toNat<xs.length:=by omega
   have hat:cu (xs.map V.str) ((((c/16)%(xs.length:Int)).toNat:Nat):Int)=some (.str xs[((c/16)%(xs.length:Int)).toNat]):=zRh (by rw[getElem?_map,aap hil]<;>rfl)
   rw[show((((c/16)%(xs.length:Int)).toNat:Nat):Int)=(c/16)%(xs.length:Int) by omega] at hat
   refine⟨_,rfl,_,rfl,_,_,rfl,rfl,⟨by decide,by decide⟩,_,rfl,b,_,rfl,.inl Pu,_,_,rfl,rfl,hpos,b,_,_,_,rfl,rfl,Pu,(by rw[length_map];exact hat),(by show 2<=sizeLine;decide),λp hp=>?_⟩
   rw[hD]
   exact q _ (.mark _) V2 _ (k1.trans (Kp.of (au hp _))) (au hp _ _ _ e1) (.mark zJ) (aa5 _)
  refine⟨_,rfl,rfl,_,rfl,?_⟩
  refine yq (λ_=>iI (stop rfl)) (λhd0=>?_)
  have hd1:1<=d:=by
   have:¬((d:Int)=0):=λe=>hd0 (by rw[e];exact decide_eq_true rfl)
   omega
  refine⟨_,rfl,_,_,rfl,rfl,_,rfl,?_⟩
  refine yq (λ_=>stop rfl) (λ_=>?_)
  have dm:(d:Int)-1=((d-1:Nat):Int):=by omega
  refine⟨_,rfl,_,_,rfl,rfl,_,rfl,yq (λ_=>?_) (λ_=>?_)⟩
  ·obtain⟨i,hi⟩:=S_ c0 c1
   refine⟨(by show 7<=sizeLine;decide),λt0 h0=>?_⟩
   have k2:=Kp.of (p:=a) (au h0 (.lst [V.str "not",V.str "somenext",V.str "eachnext",V.str "somealways",V.str "eachalways",V.str "someever",V.str "eachever"]))
   have at0:a≠t0:=zN e1 h0
   refine⟨_,rfl,_,_,rfl,rfl,⟨by decide,by decide⟩,_,_,rfl,rfl,(by show(0:Int)<7;decide),t0,_,_,_,rfl,rfl,aV.of zJ,hi,?_⟩
   refine⟨_,rfl,_,rfl,_,rfl,_,rfl,_,_,rfl,rfl,a,b,d-1,V2,xs,congrArg (λz=>[V.ref a,V.ref b,V.int z]) dm,by omega,by rw[zP at0];exact e1,VF Pu hba k2,hba,Oq,λv t Zy H2 k3 e2 ht hdt=>?_⟩
   refine⟨(by show 2<=sizeLine;decide),λp hp=>?_⟩
   refine q _ (.one i t) Zy _ (((k1.trans k2).trans k3).trans (Kp.of (au hp _))) (au hp _ _ _ e2) (.one zJ (ht.same (au hp _))) ?_
   show t.depth+1<=d
   omega
  ·obtain⟨i,hi⟩:=Tc c2 c3
   refine⟨(by show 4<=sizeLine;decide),λt0 h0=>?_⟩
   have k2:=Kp.of (p:=a) (au h0 (.lst [V.str "both",V.str "either",V.str "sometill",V.str "eachtill"]))
   have at0:a≠t0:=zN e1 h0
   refine⟨_,rfl,_,_,rfl,rfl,⟨by decide,by decide⟩,_,_,rfl,rfl,(by show(0:Int)<4;decide),t0,_,_,_,rfl,rfl,aV.of zJ,hi,?_⟩
   refine⟨_,rfl,_,rfl,_,rfl,_,_,rfl,rfl,a,b,d-1,V2,xs,congrArg (λz=>[V.ref a,V.ref b,V.int z]) dm,by omega,by rw[zP at0];exact e1,VF Pu hba k2,hba,Oq,λv t Zy H2 k3 e2 ht hdt=>?_⟩
   refine⟨_,rfl,_,rfl,_,rfl,_,rfl,_,rfl,_,_,rfl,rfl,a,b,d-1,Zy,xs,congrArg (λz=>[V.ref a,V.ref b,V.int z]) dm,by omega,e2,VF Pu hba (k2.trans k3),hba,Oq,λv' t' ns3 H3 k4 e3 ht' hdt'=>?_⟩
   refine⟨(by show 3<=sizeLine;decide),λp hp=>?_⟩
   have ht3:=(ht.kp e2 k4).same (au hp (.tup [V.str (w2 i),v,v']))
   refine q _ (.two i t t') ns3 _ ((((k1.trans k2).trans k3).trans k4).trans (Kp.of (au hp _))) (au hp _ _ _ e3) (.two zJ ht3 (ht'.same (au hp _))) ?_
   show max t.depth t'.depth+1<=d
   omega
end
section
variable{P:Program}{w:World}{K:PySem.W.Frag}{mg:Str->Option Value}{base:Heap}{cl fi:Hd->Addr}{di:Hd->FuncData}
theorem MN(sz:Same Z H)(hc:aX cl (dif H Z) c t)(hσ:σ[1]?=some (some (.ref c)))(k:∀(p:Addr) (H':Hp),Same H H'->aX cl (dif H' Z) p (.one i t)->Q (.ref p) H') :
  Hj (cl (.one i)) (oG (cl (.one i)) (w1 i)) [] E0 (yM (cj 1) bh) σ H Q:=by
 refine⟨_,hσ,?_⟩
 intro x dx nx nd ne
 exact⟨x,dx,.ref c,rfl,zJ,λq H' k1 f0 e1 e2=>⟨rfl,k x H' (vV nx nd k1) (.one (by rw[xT (sz.free nx)];exact e2) (by rw[xT (sz.free ((Ss nx nd).free f0))];exact e1) (hc.same (yZ (vV nx nd k1))))⟩⟩
def M4(cl:Hd->Addr):Sp:=λvs H Q _=>∃(Z:Hp)(i:Fin 7)(c:Addr)(t:Tr),vs=[.str (w1 i),.ref c]/\Same Z H/\aX cl (dif H Z) c t/\∀(p:Addr)(H':Hp),Same H H'->aX cl (dif H' Z) p (.one i t)->Q (.ref p) H'
theorem Zz:ao ["_law_word","_law_part"] ["_law_word","_law_part"] (zH zO1):=⟨rfl,rfl,rfl,by decide +kernel,rfl,by decide +kernel,by decide +kernel⟩
theorem fi7:∀i:Fin 7,i=0\/i=1\/i=2\/i=3\/i=4\/i=5\/i=6:=by decide
theorem fi4:∀i:Fin 4,i=0\/i=1\/i=2\/i=3:=by decide
theorem jh(h:¬x=y):¬V.str x=V.str y:=λe=>h (V.str.inj e)
set_option maxHeartbeats 4000000 in
theorem Td(F:aZ K "_law_single" "_law_single" zO1 f fd)(I:Y4 P w K mg base 3 cl fi di):aq P w K mg base aO 5 f fd ["_law_word","_law_part"] (M4 cl):=by
 refine F.ok Zz (λvs H Q E h=>?_) (λcdv A outer s H vs Q E hr h=>?_)
 ·obtain⟨_,i,c,t,rfl,_⟩:=h
  rfl
 obtain⟨Z,i,c,t,rfl,sz,hc,q⟩:=h
 refine⟨_,zB (yX (yH qQ (pv 0) yF (yS _)) (yA (zQ (zX (I.made (.one 0)) (I.i1 0) hr rfl (I.m1 0) (I.b1 0) .nil yE (zA (pv 1) zD)))) zG)
  (zB (yX (yH qQ (pv 0) yF (yS _)) (yA (zQ (zX (I.made (.one 1)) (I.i1 1) hr rfl (I.m1 1) (I.b1 1) .nil yE (zA (pv 1) zD)))) zG)
  (zB (yX (yH qQ (pv 0) yF (yS _)) (yA (zQ (zX (I.made (.one 2)) (I.i1 2) hr rfl (I.m1 2) (I.b1 2) .nil yE (zA (pv 1) zD)))) zG)
  (zB (yX (yH qQ (pv 0) yF (yS _)) (yA (zQ (zX (I.made (.one 3)) (I.i1 3) hr rfl (I.m1 3) (I.b1 3) .nil yE (zA (pv 1) zD)))) zG)
  (zB (yX (yH qQ (pv 0) yF (yS _)) (yA (zQ (zX (I.made (.one 4)) (I.i1 4) hr rfl (I.m1 4) (I.b1 4) .nil yE (zA (pv 1) zD)))) zG)
  (zB (yX (yH qQ (pv 0) yF (yS _)) (yA (zQ (zX (I.made (.one 5)) (I.i1 5) hr rfl (I.m1 5) (I.b1 5) .nil yE (zA (pv 1) zD)))) zG)
  (yA (zQ (zX (I.made (.one 6)) (I.i1 6) hr rfl (I.m1 6) (I.b1 6) .nil yE (zA (pv 1) zD))))))))),?_⟩
 rcases fi7 i with rfl|rfl|rfl|rfl|rfl|rfl|rfl
 ·exact⟨_,rfl,rfl,_,rfl,ud rfl (MN sz hc rfl q)⟩
 ·exact⟨_,rfl,rfl,_,rfl,b_ (jh (by decide +kernel)) ⟨_,rfl,rfl,_,rfl,ud rfl (MN sz hc rfl q)⟩⟩
 ·exact⟨_,rfl,rfl,_,rfl,b_ (jh (by decide +kernel)) ⟨_,rfl,rfl,_,rfl,b_ (jh (by decide +kernel)) ⟨_,rfl,rfl,_,rfl,ud rfl (MN sz hc rfl q)⟩⟩⟩
 ·exact⟨_,rfl,rfl,_,rfl,b_ (jh (by decide +kernel)) ⟨_,rfl,rfl,_,rfl,b_ (jh (by decide +kernel)) ⟨_,rfl,rfl,_,rfl,b_ (jh (by decide +kernel)) ⟨_,rfl,rfl,_,rfl,ud rfl (MN sz hc rfl q)⟩⟩⟩⟩
 ·exact⟨_,rfl,rfl,_,rfl,b_ (jh (by decide +kernel)) ⟨_,rfl,rfl,_,rfl,b_ (jh (by decide +kernel)) ⟨_,rfl,rfl,_,rfl,b_ (jh (by decide +kernel)) ⟨_,rfl,rfl,_,rfl,b_ (jh (by decide +kernel)) ⟨_,rfl,rfl,_,rfl,ud rfl (MN sz hc rfl q)⟩⟩⟩⟩⟩
 ·exact⟨_,rfl,rfl,_,rfl,b_ (jh (by decide +kernel)) ⟨_,rfl,rfl,_,rfl,b_ (jh (by decide +kernel)) ⟨_,rfl,rfl,_,rfl,b_ (jh (by decide +kernel)) ⟨_,rfl,rfl,_,rfl,b_ (jh (by decide +kernel)) ⟨_,rfl,rfl,_,rfl,b_ (jh (by decide +kernel)) ⟨_,rfl,rfl,_,rfl,ud rfl (MN sz hc rfl q)⟩⟩⟩⟩⟩⟩
 ·exact⟨_,rfl,rfl,_,rfl,b_ (jh (by decide +kernel)) ⟨_,rfl,rfl,_,rfl,b_ (jh (by decide +kernel)) ⟨_,rfl,rfl,_,rfl,b_ (jh (by decide +kernel)) ⟨_,rfl,rfl,_,rfl,b_ (jh (by decide +kernel)) ⟨_,rfl,rfl,_,rfl,b_ (jh (by decide +kernel)) ⟨_,rfl,rfl,_,rfl,b_ (jh (by decide +kernel)) (MN sz hc rfl q)⟩⟩⟩⟩⟩⟩
def Aj(cl:Hd->Addr)(n:Nat):Sp:=λvs H Q _=>∃(Z:Hp)(v:V)(t:Tr),vs=[v]/\Same Z H/\bT H v t/\t.depth<n/\t.depth<8/\∀(p:Addr)(H':Hp),Same H H'->aX cl (dif H' Z) p t->Q (.ref p) H'
theorem Te:ao ["_law_tree","_law_parts"] ["_law_tree"] (zH IK):=⟨rfl,rfl,rfl,by decide +kernel,rfl,by decide +kernel,by decide +kernel⟩
theorem ZC:(["_law_part"]:List Str).Nodup:=by decide +kernel
theorem ZD(s:Same H H'):∀{cs:List Addr}{ts:List Tr},Paired (aX cl H) cs ts->Paired (aX cl H') cs ts
 |_,_,.nil=>.nil
 |_,_,.cons r t=>.cons (r.same s) (ZD s t)
theorem zPj{α β:Type}{F:α->β->Prop}{ts:List β}{cs:List α}{t:β}{c:α}(h:Paired F cs (ts.take i))(ht:ts[i]?=some t)(f:F c t):Paired F (cs++[c]) (ts.take (i+1)):=by
 rw[take_add_one,ht]
 exact afi h f
theorem zGa(sz:Same Z H)(hb:cI K H b vs)(hp:Paired (bT H) vs ts)(hd:∀t∈ts,t.depth<n/\t.depth<8)(hz:vs.length<=2)(k:∀(l:Addr) (cs:List Addr) (H':Hp),Same H H'->H' l=some (.lst (cs.map V.ref))->H l=none->Paired (aX cl (dif H' Z)) cs ts->Q (.ref l) H') :
  Om 1 [] (ou 0) tW (tM (Aj cl n) [] E0 (yM (cj 0) bh)) σ Q (Ut K b) H:=by
 have hln:=hp.length
 refine zT0 (K:=K) (a:=b) (xs:=vs) (λi ys σ H2=>∃(cs:List Addr)(v:Option V),ys=cs.map V.ref/\σ=[v]/\Same H H2/\Paired (aX cl (dif H2 Z)) cs (ts.take i)/\cs.length=i)
  ⟨[],none,rfl,rfl,Same.refl H,.nil,rfl⟩ (λi ys σ H2 _ ⟨cs,v,e,_,s2,_,hi⟩=>⟨?_,by rw[e,length_map,hi];exact aaq _⟩) (Xn (by omega)) ?_ ?_
 ·rcases hb with(hb|⟨o,hb⟩)|hb
  ·exact .inl (.inl (s2 _ _ hb))
  ·exact .inl (.inr ⟨o,s2 _ _ hb⟩)
  ·exact .inr hb
 ·rintro i y ys σ H2 hi ⟨cs,v,rfl,rfl,s2,hN,Pq⟩
  obtain⟨t,ht,hty⟩:=VR hp hi
  obtain⟨d1,d2⟩:=hd t (mem_of_getElem? ht)
  refine zLj ?_
  refine⟨_,rfl,Z,_,t,rfl,sz.trans s2,hty.same s2,d1,d2,λp H3 s3 hs=>?_⟩
  exact⟨cs++[p],_,by rw[map_append]<;>rfl,rfl,s2.trans s3,zPj (ZD (yZ s3) hN) ht hs,by rw[length_append,Pq]<;>rfl⟩
 ·rintro ys σ H2 ⟨cs,v,rfl,rfl,s2,hN,Pq⟩ p hp0
  have e:ts.take vs.length=ts:=by rw[hln];exact take_length
  rw[e] at hN
  exact k p cs _ (s2.trans (au hp0 _)) zJ (s2.free hp0) (ZD (yZ (au hp0 _)) hN)
theorem V3(sz:Same Z H)(hl:H l=some (.lst [V.ref c,V.ref d]))(hc:aX cl (dif H Z) c t)(hd:aX cl (dif H Z) d u)(hσ:σ[1]?=some (some (.ref l)))(k:∀(p:Addr) (H':Hp),Same H H'->aX cl (dif H' Z) p (.two i t u)->Q (.ref p) H') :
  Hj (cl (.two i)) (q_ (cl (.two i)) (w2 i)) [] E0 (yM (jE (qZ K) (cj 1) (tC (.int 0))) (yM (jE (qZ K) (cj 1) (tC (.int 1))) bh)) σ H Q:=by
 refine⟨_,hσ,l,_,_,_,rfl,rfl,aV.of hl,rfl,_,hσ,l,_,_,_,rfl,rfl,aV.of hl,rfl,?_⟩
 intro x dx nx nd ne
 exact⟨x,dx,.ref c,.ref d,rfl,zJ,λq H' k1 f0 e1 e2=>⟨rfl,k x H' (vV nx nd k1) (.two (by rw[xT (sz.free nx)];exact e2) (by rw[xT (sz.free ((Ss nx nd).free f0))];exact e1) (hc.same (yZ (vV nx nd k1))) (hd.same (yZ (vV nx nd k1))))⟩⟩
set_option maxHeartbeats 8000000 in
theorem I8(F:aZ K "_law_made" "_law_made" IK f fd)(bF:Binds K fd ["_law_tree"] [])(mF:mg "_law_made" = some (.ref f))(I:Y4 P w K mg base 3 cl fi di)(GS:aq P w K mg base aO 5 g gd ["_law_word","_law_part"] (M4 cl))(bS:Binds K gd ["_law_word","_law_part"] [])(kS:keepIn K (.ref g)=true)(mS:mg "_law_single" = some (.ref g))(B:Bl K mg) :
  ∀n:Nat,aq P w K mg base aO (n+5) f fd ["_law_tree"] (Aj cl n)
 |0=>vac λvs H Q E h=>by
  obtain⟨_,_,_,_,_,_,h,_⟩:=h
  exact aci _ h
 |n+1=>by
  have G:=I8 F bF mF I GS bS kS mS B n
  refine F.ok Te (λvs H Q E h=>?_) (λcdv A outer s H vs Q E hr h=>?_)
  ·obtain⟨_,v,t,rfl,_⟩:=h
   rfl
  obtain⟨Z,v,t,rfl,sz,hT,hn,h8,q⟩:=h
  have hu:=hr.units
  have Ci:bO 4 _:=hr.mono (show 4<=n+5 by omega)
  refine⟨_,zB (yX (yH qQ (yQ Dh (pv 0) zK (λ_ _=>rfl)) yF (yS _)) (yA (zQ (W4 (I.made .all) I.iA Ci rfl I.mA I.bA .nil yE))) zG)
   (zB (yX (yH qQ (yQ Dh (pv 0) zK (λ_ _=>rfl)) yF (yS _)) (yA (zQ (zX (I.made .mark) I.iM Ci rfl I.mM I.bM .nil yE (zA (yQ Dh (pv 0) zK (λ_ _=>rfl)) zD)))) zG)
   (zB (BL (i:=1) (own:=["_law_part"]) (ix:=[]) Te.nd rfl rfl rfl rfl rfl (zUt (U3 J6 (pv 0) (QD zK) Xb)) (λC s H fp=>yO (i:=0) ZC rfl (Or.inl rfl)) (λC s H fp=>wJ)
    (λC s H fp=>J0 G hr rfl mF F.kp bF .nil yE (zA (pv 0) zD)))
   (zB (Ke (yX (PW.pt (pw_and (yH qQ (zU uA rfl B.len abg (zA (pv 0) zD)) zK (yS _)) (pw_and1 (yH (Fx hu) (yQ Dh (pv 0) zK (λ_ _=>rfl)) (yQ Dh (pv 0) zK (λ_ _=>rfl)) (yS _)))))
    (yA (Oe (yQ wK (pv 1) zK (λ_ _=>rfl)) (Qn (pv 1) zK Oj))) zG))
   (zB (yX (yH qQ (zU uA rfl B.len abg (zA (pv 0) zD)) zK (yS _)) (yA (zQ (J0 (GS.mono (show 5<=n+5 by omega)) hr rfl mS kS bS .nil yE (zA (yQ Dh (pv 0) zK (λ_ _=>rfl)) (zA (yQ wK (pv 1) zK (λ_ _=>rfl)) zD))))) zG)
   (zB (yX (yH qQ (yQ Dh (pv 0) zK (λ_ _=>rfl)) yF (yS _)) (yA (zQ (zX (I.made (.two 0)) (I.i2 0) Ci rfl (I.m2 0) (I.b2 0) .nil yE (zA (yQ wK (pv 1) zK (λ_ _=>rfl)) (zA (yQ wK (pv 1) zK (λ_ _=>rfl)) zD))))) zG)
   (zB (yX (yH qQ (yQ Dh (pv 0) zK (λ_ _=>rfl)) yF (yS _)) (yA (zQ (zX (I.made (.two 1)) (I.i2 1) Ci rfl (I.m2 1) (I.b2 1) .nil yE (zA (yQ wK (pv 1) zK (λ_ _=>rfl)) (zA (yQ wK (pv 1) zK (λ_ _=>rfl)) zD))))) zG)
   (zB (yX (yH qQ (yQ Dh (pv 0) zK (λ_ _=>rfl)) yF (yS _)) (yA (zQ (zX (I.made (.two 2)) (I.i2 2) Ci rfl (I.m2 2) (I.b2 2) .nil yE (zA (yQ wK (pv 1) zK (λ_ _=>rfl)) (zA (yQ wK (pv 1) zK (λ_ _=>rfl)) zD))))) zG)
   (yA (zQ (zX (I.made (.two 3)) (I.i2 3) Ci rfl (I.m2 3) (I.b2 3) .nil yE (zA (yQ wK (pv 1) zK (λ_ _=>rfl)) (zA (yQ wK (pv 1) zK (λ_ _=>rfl)) zD)))))))))))),?_⟩
  cases hT with
  |@all a h1 =>
   refine⟨_,rfl,a,_,_,_,rfl,rfl,cI.of h1,rfl,rfl,_,rfl,ud rfl ?_⟩
   intro x dx nx nd ne
   exact⟨x,dx,rfl,zJ,λq0 H' k1 f0 e1 e2=>⟨rfl,q x H' (vV nx nd k1) (.all (by rw[xT (sz.free nx)];exact e2) (by rw[xT (sz.free ((Ss nx nd).free f0))];exact e1))⟩⟩
  |@mark a x0 h1 =>
   refine⟨_,rfl,a,_,_,_,rfl,rfl,cI.of h1,rfl,rfl,_,rfl,b_ (jh zS9) ?_⟩
   refine⟨_,rfl,a,_,_,_,rfl,rfl,cI.of h1,rfl,rfl,_,rfl,ud rfl ?_⟩
   refine⟨_,rfl,a,_,_,_,rfl,rfl,cI.of h1,rfl,?_⟩
   intro x dx nx nd ne
   exact⟨x,dx,.str x0,rfl,zJ,λq0 H' k1 f0 e1 e2=>⟨rfl,q x H' (vV nx nd k1) (.mark (by rw[xT (sz.free nx)];exact e2) (by rw[xT (sz.free ((Ss nx nd).free f0))];exact e1))⟩⟩
  |@one a i v t h1 ht =>
   have hd1:t.depth+1<n+1:=hn
   have hd8:t.depth+1<8:=h8
   refine⟨_,rfl,a,_,_,_,rfl,rfl,cI.of h1,rfl,rfl,_,rfl,b_ (jh (Mj i)) ?_⟩
   refine⟨_,rfl,a,_,_,_,rfl,rfl,cI.of h1,rfl,rfl,_,rfl,b_ (jh (Zd i)) ?_⟩
   refine⟨_,rfl,1,rfl,a,_,rfl,cI.of h1,(by show¬(1=0/\2=2);decide),λb hb=>⟨b,rfl,⟨_,cI.of zJ⟩,?_⟩⟩
   have s1:=au hb (.tup [v])
   refine zGa (n:=n) (vs:=[v]) (ts:=[t]) (sz.trans s1) (cI.of zJ) (.cons (ht.same s1) .nil) (λt' h'=>by
    have e:t'=t:=by simpa using h'
    subst e
    exact⟨by omega,by omega⟩) (by show 1<=2;decide) λl cs H2 s2 e2 f2 hp=>?_
   cases hp with
   |@cons c _ _ _ hc hnil =>
    cases hnil
    have hA:=s2 _ _ (s1 _ _ h1)
    refine⟨λσ H3=>σ=[some (.ref a),some (.ref l)]/\H3=H2,?_,?_⟩
    ·refine⟨_,rfl,a,_,rfl,.inr (cI.of hA),rfl,_,rfl,?_⟩
     refine b_ (by intro z;injection z with z;have z':((2:Nat):Int)=3:=z;omega) ?_
     exact⟨rfl,rfl⟩
    rintro σ H3 ⟨rfl,rfl⟩
    refine⟨_,rfl,a,_,rfl,.inr (cI.of hA),rfl,_,rfl,ud rfl ?_⟩
    refine⟨_,rfl,a,_,_,_,rfl,rfl,cI.of hA,rfl,_,rfl,l,_,_,_,rfl,rfl,aV.of e2,rfl,Z,i,c,t,rfl,sz.trans (s1.trans s2),hc,λp H4 s4 hs=>?_⟩
    exact q p H4 (s1.trans (s2.trans s4)) hs
  |@two a i v u t t' h1 ht ht' =>
   have hd1:max t.depth t'.depth+1<n+1:=hn
   have hd8:max t.depth t'.depth+1<8:=h8
   refine⟨_,rfl,a,_,_,_,rfl,rfl,cI.of h1,rfl,rfl,_,rfl,b_ (jh (Ml i)) ?_⟩
   refine⟨_,rfl,a,_,_,_,rfl,rfl,cI.of h1,rfl,rfl,_,rfl,b_ (jh (Fw i)) ?_⟩
   refine⟨_,rfl,1,rfl,a,_,rfl,cI.of h1,(by show¬(1=0/\3=3);decide),λb hb=>⟨b,rfl,⟨_,cI.of zJ⟩,?_⟩⟩
   have s1:=au hb (.tup [v,u])
   refine zGa (n:=n) (vs:=[v,u]) (ts:=[t,t']) (sz.trans s1) (cI.of zJ) (.cons (ht.same s1) (.cons (ht'.same s1) .nil)) (λt0 h'=>by
    have e:t0=t\/t0=t':=by simpa using h'
    rcases e with rfl|rfl
    ·exact⟨by omega,by omega⟩
    ·exact⟨by omega,by omega⟩) (by show 2<=2;decide) λl cs H2 s2 e2 f2 hp=>?_
   cases hp with
   |@cons c _ _ _ hc hrest =>
    cases hrest with
    |@cons d _ _ _ hd hnil =>
     cases hnil
     have hA:=s2 _ _ (s1 _ _ h1)
     have ht2:=(ht.same s1).same s2
     have ZF:=(ht'.same s1).same s2
     refine⟨λσ H3=>σ=[some (.ref a),some (.ref l)]/\∃d',Kp l H2 H3/\H3 l=some (.lst [V.ref c,V.ref d'])/\aX cl (dif H2 Z) d' t',?_,?_⟩
     ·refine⟨_,rfl,a,_,rfl,.inr (cI.of hA),rfl,_,rfl,ud rfl ?_⟩
      refine⟨_,rfl,a,_,_,_,rfl,rfl,cI.of hA,rfl,_,rfl,a,_,_,_,rfl,rfl,cI.of hA,rfl,t,t',ht2,ZF,by omega,λb hb=>⟨_,rfl,?_⟩⟩
      cases b with
      |true =>
       refine iI ?_
       refine⟨_,rfl,l,_,_,_,rfl,rfl,aV.of e2,rfl,_,rfl,l,_,_,_,rfl,rfl,e2,rfl,rfl,c,Kp.put l H2 _,zJ,?_⟩
       rw[<-hb rfl]
       exact hc
      |false =>
       refine lG ?_
       exact⟨rfl,d,λb o _ e=>e,e2,hd⟩
     rintro σ H3 ⟨rfl,d',k3,e3,hd'⟩
     have s3:Same H H3:=λb o e=>k3 b o (zN e (s1.free f2)) ((s1.trans s2) b o e)
     have Cj:H3 a=some (.tup [V.str (w2 i),v,u]):=s3 _ _ h1
     have dk:∀{b:Addr}{o:HO},(∀xs,o≠.lst xs)->dif H2 Z b=some o->dif H3 Z b=some o:=λ{b o} no e=>by
      unfold dif at e ⊢
      cases hz:Z b with
      |some u=>rw[hz] at e;cases e
      |none=>rw[hz] at e;exact k3 b o (λq=>by subst q;rw[e2] at e;exact no _ (aas e).symm) e
     have Tf:∀{p:Addr}{t0:Tr},aX cl (dif H2 Z) p t0->aX cl (dif H3 Z) p t0:=λ{p t0} h0=>by
      induction h0 with
      |all g1 g2=>exact .all (dk (by intro _ z;cases z) g1) (dk (by intro _ z;cases z) g2)
      |mark g1 g2=>exact .mark (dk (by intro _ z;cases z) g1) (dk (by intro _ z;cases z) g2)
      |one g1 g2 _ ih=>exact .one (dk (by intro _ z;cases z) g1) (dk (by intro _ z;cases z) g2) ih
      |two g1 g2 _ _ ih1 ih2=>exact .two (dk (by intro _ z;cases z) g1) (dk (by intro _ z;cases z) g2) ih1 ih2
     have hc3:=Tf hc
     have V4:=Tf hd'
     have fin:∀(p:Addr)(H4:Hp),Same H3 H4->aX cl (dif H4 Z) p (.two i t t')->Q (.ref p) H4:=λp H4 s4 hs=>q p H4 (s3.trans s4) hs
     refine⟨_,rfl,a,_,rfl,.inr (cI.of Cj),rfl,_,rfl,b_ (by intro z;injection z with z;have z':((3:Nat):Int)=2:=z;omega) ?_⟩
     rcases fi4 i with rfl|rfl|rfl|rfl
     ·exact⟨_,rfl,a,_,_,_,rfl,rfl,cI.of Cj,rfl,rfl,_,rfl,ud rfl (V3 (sz.trans s3) e3 hc3 V4 rfl fin)⟩
     ·exact⟨_,rfl,a,_,_,_,rfl,rfl,cI.of Cj,rfl,rfl,_,rfl,b_ (jh (by decide +kernel)) ⟨_,rfl,a,_,_,_,rfl,rfl,cI.of Cj,rfl,rfl,_,rfl,ud rfl (V3 (sz.trans s3) e3 hc3 V4 rfl fin)⟩⟩
     ·exact⟨_,rfl,a,_,_,_,rfl,rfl,cI.of Cj,rfl,rfl,_,rfl,b_ (jh (by decide +kernel)) ⟨_,rfl,a,_,_,_,rfl,rfl,cI.of Cj,rfl,rfl,_,rfl,b_ (jh (by decide +kernel)) ⟨_,rfl,a,_,_,_,rfl,rfl,cI.of Cj,rfl,rfl,_,rfl,ud rfl (V3 (sz.trans s3) e3 hc3 V4 rfl fin)⟩⟩⟩
     ·exact⟨_,rfl,a,_,_,_,rfl,rfl,cI.of Cj,rfl,rfl,_,rfl,b_ (jh (by decide +kernel)) ⟨_,rfl,a,_,_,_,rfl,rfl,cI.of Cj,rfl,rfl,_,rfl,b_ (jh (by decide +kernel)) ⟨_,rfl,a,_,_,_,rfl,rfl,cI.of Cj,rfl,rfl,_,rfl,b_ (jh (by decide +kernel)) (V3 (sz.trans s3) e3 hc3 V4 rfl fin)⟩⟩⟩
end
end Sy
namespace Ts
open PySem L2 Sy
section
variable{P:Program}{w:World}{K:PySem.W.Frag}{mg:Str->Option Value}{base:Heap}{B:Bs}{sl:SL K}{cl:Hd->Addr}{t1 t2 t3:TE}
theorem zSg{s:Slot K}{m1:Option LI}{m2:Option (List Str)}{ws:LI}{xs:List Str}{d n nk:Nat}(j:Nat)(hs:sl[j]?=some s)(ho:iK s=false)(hh:sl.all (λs=>!cJ s&&!gR s)=true)(h1:Eo B sl .fz t1 m1)(e1:m1=some ws)(h2:Ex B sl .fz t2 m2)(e2:m2=some xs)(xl:xs.length<=1000)(h3:Ex B sl .hp t3 (some (d:Int)))(dn:d<n)(dk:d<nk)(d8:d<8) :
  SnA B sl (lD (tM (Aj cl nk) [] E0 (yM (tM (FQ K n) [] E0 (yM t1 (yM t2 (yM t3 bh)))) bh)) (ou j)) (λs:aM cl=>sl.set j (.fz true s)) (λs=>s.t.depth<=d):=λG D σ H q k=>by
 obtain⟨F,O,g,z⟩:=q
 refine h1 ws e1 F O H σ _ z λp vs F1 H1 gr hp r=>?_
 have ev:vs=ws.map V.int:=A2.lZ r
 subst ev
 have z1:=z.grow gr
 have fp1:F1 p=none:=gr.ok.fh.free hp
 have gN:bH B F1 H1 O F1 (upd H1 p (.lst (ws.map V.int))):=⟨.refl _,au hp _,⟨gr.ok.fh.put fp1 _,gr.ok.h0.put (gr.ok.h0.free hp) _,gr.ok.fa,λx hx=>by
  obtain⟨a1,a2,a3⟩:=gr.ok.fo x hx
  exact⟨a1,a2,au hp _ _ _ a3⟩,gr.ok.nd⟩,λ_ h _=>h⟩
 have Pb:=z1.grow gN
 refine h2 xs e2 F1 O _ σ _ Pb λv2 F2 H2 g2 r2=>?_
 refine h3 _ rfl F2 O H2 σ _ (Pb.grow g2) λv3 F3 H3 g3 r3=>?_
 have z3:=(Pb.grow g2).grow g3
 have r3:v3=.int d:=r3
 obtain⟨b,bs,rfl,b1,b2⟩:=r2
 have eb:bs=xs.map V.str:=A2.lZ b2
 subst eb
 have up:upd H1 p (.lst (ws.map V.int)) p≠none:=by rw[zJ];intro q;cases q
 have p2:H2 p=some (.lst (ws.map V.int)):=g2.hh _ _ zJ
 have f2:F2 p=none:=g2.nw p fp1 up
 have f3:F3 p=none:=g3.nw p f2 (by rw[p2];intro q;cases q)
 have ZG:F2 b=some (.lst (xs.map V.str)):=b1
 subst r3
 refine⟨p,b,d,ws,xs,rfl,dn,g3.hh _ _ p2,aV.of (g3.hh _ _ (g2.ok.fh _ _ ZG)),λq=>(by rw[q,f2] at ZG;cases ZG),xl,λv t ns' H4 kp _ tr dt=>?_⟩
 refine⟨H4,v,t,rfl,.refl _,tr,by omega,by omega,λq H5 s5 say=>?_⟩
 have z4:At B sl F3 O H4 σ:=z3.off hh f3 (gr.ok.h0.free hp) (λx hx e=>by
  have:=(gr.ok.fo x hx).2.2
  rw[e,hp] at this
  cases this) kp
 have g5:=z4.1.called s5
 have ZJ:rp K (dif (ext F3 H4 H5) B.H0) (.ref q) (aM.mk (cl:=cl) t):=Rp.mono (Kg (F:=F3) z4.1.h0 s5) ⟨q,rfl,say⟩
 exact k (aM.mk t) dt _ _ (Sg.set (n:=true) (g.trans (gr.ff.trans (g2.ff.trans (g3.ff.trans g5.ff)))) (z4.grow g5) hs ho ZJ)
end
abbrev zJe(K:PySem.W.Frag):Sp:=FQ K 4
abbrev zL7(_:PySem.W.Frag)(cl:Hd->Addr):Sp:=Aj cl 4
theorem zK3{K:PySem.W.Frag}{B:Bs}{sl:SL K}{cl:Hd->Addr}{t1 t2 t3:TE}{u:TS}{al:Bool}{A2 β:Type}[Rp K β]{b:β}{P2:A2->Prop}{g:aM cl->A2->Option β}{s:Slot K}{m1:Option LI}{m2:Option (List Str)}{xs:List Str}{d n nk:Nat}{di:Int}(j:Nat)(hs:sl[j]?=some s)(ho:iK s=false)(hh:sl.all (λs=>!cJ s&&!gR s)=true)(h1:Eo B sl .fz t1 m1)(h2:Ex B sl .fz t2 m2)(e2:m2=some xs)(xl:xs.length<=1000)(h3:Ex B sl .hp t3 (some di))(ed:di=(d:Int))(dn:d<n)(dk:d<nk)(d8:d<8)(h:∀s,wk B (sl.set j (.fz true s)) u al (g s) P2 b):wk B sl (iH (lD (tM (Aj cl nk) [] E0 (yM (tM (FQ K n) [] E0 (yM t1 (yM t2 (yM t3 bh)))) bh)) (ou j)) u) al (λa:aM cl×A2=>m1.bind λ_=>g a.1 a.2) (λa=>a.1.t.depth<=d/\P2 a.2) b:=λne hm=>by
 subst ed
 cases e1:m1 with
 |none =>
  obtain⟨a,ha⟩:=ne
  have:=hm a ha
  rw[e1] at this
  cases this
 |some ws =>
  exact Fv (zSg (cl:=cl) (n:=n) (nk:=nk) j hs ho hh h1 e1 h2 e2 xl h3 dn dk d8) h ne λa ha=>by
   have q:(m1.bind λ_=>g a.1 a.2)=some b:=hm a ha
   rw[e1] at q
   exact q
end Ts
set_option maxHeartbeats 40000000
namespace Ts
open PySem L2 Sy
section
variable{P:Program}{w:World}{K:PySem.W.Frag}{mg:Str->Option Value}{base:Heap}
def Ti(q0:Int)(q1:Int):Option Bool:=if true=true then if(!false)=true then if decide ((0:Int)<=q0)=true then some (decide (q0<q1)) else some false else some false else some false
theorem lg:ao ["thing","many"] ["thing","many"] (zH jy):=fsc
abbrev zGm(K:PySem.W.Frag):Sp:=cL K false (λa:Int×Int×Unit=>([.z a.1,.z a.2.1]:SL K)) (λa=>Ti a.1 a.2.1)
theorem zJ5(F:aZ K "is_stand" "is_stand" jy f fd)(B:Bl K mg):aq P w K mg base aO (k+1) f fd ["thing","many"] (zGm K):=by
 refine yL F lg (λ_=>rfl) (λ_=>rfl) λcdv A outer s H E hr=>?_
 have nd:=lg.nd
 refine⟨_,(zB (zQ (Wy (zU (uE K (U_ (n:="int"))) rfl B.qj uF (zA (pv 0) (zA (Uk (v:=.ty "int") rfl B.int zVd rfl) zD))) (Wy (Jx (zU (uE K (U_ (n:="bool"))) rfl B.qj uF (zA (pv 0) (zA (Uk (v:=.ty "bool") rfl B.bool DG rfl) zD)))) (zUu (zLc xq Qw zK (pv 0) (pv 1)))))) zG),?_⟩
 rintro Fa ⟨q0,q1,⟨⟩⟩
 exact SB.of (yC (esc (XQ (Vh B.ii rfl (zI 0 rfl)) (XQ (Km (Vh B.ib rfl (zI 0 rfl))) (zLt (f:=(λi j=>decide (i<=j))) (g:=(λi j=>decide (i<j))) (zV 0) (zI 0 rfl) (zI 1 rfl)))))) (by unfold Ti;simp only[bnd])
def xH(q0:LI)(q1:Int)(q2:Str):Option Unit:=(some ()).bind λrE=>((some q0).bind λxs=>wB (λ(s2:List (Key×Bool)) (x4:Int)=>(((Ti x4 q1).bind λa5=>some (!a5)).bind λb=>if b=true then none else some ()).bind λs6=>(if((iR (Dc.mk s2).kv x4).isSome)=true then none else some ()).bind λs8=>(dput s2 x4 true).bind λfX=>some fX) xs (([]:List (Key×Bool)))).bind λs3=>some ()
theorem gB:ao ["stands","many","where","ahead","stand"] ["stands","many","where"] (zH dN):=fsc
abbrev vW(K:PySem.W.Frag):Sp:=cL K false (λa:LI×Int×Str×Unit=>([.z a.1,.z a.2.1,.z a.2.2.1]:SL K)) (λa=>xH a.1 a.2.1 a.2.2.1)
theorem zE3(F:aZ K "check_stands" "check_stands" dN f fd)(B:Bl K mg)(jA:bK P w K mg base k "is_stand" ["thing","many"] (zGm K)):aq P w K mg base aO (k+1) f fd ["stands","many","where"] (vW K):=by
 refine Vn F gB (λ_=>rfl) (λ_=>rfl) λcdv A outer s H E hr=>?_
 have nd:=gB.nd
 have hu:=yp hr
 refine⟨_,(zB (xQ 3 nd W_) (zB (xV aa2 rfl (yT K (pv 0)) (cN 4 nd) (zB (yX (Qk (wV (zY jA hr (zA (pv 4) (zA (pv 1) zD))))) Ob zG) (zB (yX (G3 (zUx hu (pv 4) (pv 3))) Ob zG) (zB (W9 hu (pv 3) (pv 4) Cw rfl) zG)))) zG)),?_⟩
 rintro Fa ⟨q0,q1,q2,⟨⟩⟩
 exact⟨_,Sn.of (zS (X5 (α:=Bool) 3 rfl rfl) (λrE=>(zS (vI (n:=false) (L:=(λs2:List (Key×Bool)=>([.z q0,.z q1,.z q2,.od (s2:List (Key×Bool)),.un]:SL K))) (([]:List (Key×Bool))) bZ (yU (zW 0 rfl)) (λs2=>(yK 4 rfl rfl)) (λs2 x4=>(zS (tY (QZ (cU (md:=.hp) (zM (zF (esc (zI 4 rfl)) (zF (esc (zI 1 rfl)) zO))))) Oz (yI (λs7:Unit=>([.z q0,.z q1,.z q2,.od (s2:List (Key×Bool)),.z x4]:SL K)) () bZ)) (λs6=>(zS (tY (cU (md:=.hp) (KY (zI 4 rfl) (Ys 3 rfl))) Oz (yI (λs9:Unit=>([.z q0,.z q1,.z q2,.od (s2:List (Key×Bool)),.z x4]:SL K)) () bZ)) (λs8=>(zS (zOv 3 rfl rfl (esc (Dn true)) (zI 4 rfl)) (λfX=>(yI (λs2:List (Key×Bool)=>([.z q0,.z q1,.z q2,.od (s2:List (Key×Bool)),.un]:SL K)) fX bZ))))))))) (λs3=>(yI (λ_:Unit=>([.un,.un,.un,.un,.un]:SL K)) () bZ))))) (by unfold xH;simp only[bnd])⟩
def vC(q0:List LI):Option Unit:=(some (q0.length:Int)).bind λmany1=>((if(decide (many1<(1:Int)))=true then some true else some (decide ((60:Int)<many1))).bind λb=>if b=true then none else some ()).bind λs2=>((some (zp q0)).bind λxs=>wB (λ(s4:Unit) (x6:Int×LI)=>(((((K5 "steps of stand " x6.1).bind λa8=>some ((a8,()))).bind λb9=>some (many1,b9)).bind λb10=>some (x6.2,b10)).bind λz7=>xH z7.1 z7.2.1 z7.2.2.1).bind λu11=>(if(decide ((x6.2.length:Int)=(0:Int)))=true then none else some ()).bind λs12=>some ()) xs ()).bind λs5=>some ()
theorem g_:ao ["steps","many","stand","targets"] ["steps"] (zH eZ):=fsc
abbrev zHr(K:PySem.W.Frag):Sp:=cL K false (λa:((List LI))×Unit=>([.z a.1]:SL K)) (λa=>vC a.1)
theorem zF0(F:aZ K "check_steps" "check_steps" eZ f fd)(B:Bl K mg)(oH:mg "MOST_STANDS" = some (.int 60 oJ))(aN:bK P w K mg base k "check_stands" ["stands","many","where"] (vW K)):aq P w K mg base aO (k+1) f fd ["steps"] (zHr K):=by
 refine Vn F g_ (λ_=>rfl) (λ_=>rfl) λcdv A outer s H E hr=>?_
 have nd:=g_.nd
 refine⟨_,(zB (xQ 1 nd (zU (zu K) rfl B.len abg (zA (pv 0) zD))) (zB (yX (PW.pt (pw_or (yH Qw (pv 1) zK (yS _)) (pw_or1 (yH Hg (pv 1) (wF (v:=.int 60) rfl oH ⟨_,rfl⟩) (yS _))))) Ob zG) (zB (xV aa2 rfl (Yk K B.enum (zA (pv 0) zD)) (G6 rfl (yP (cN 2 nd) (yP (cN 3 nd) Bv))) (zB (yJ (zY aN hr (zA (pv 3) (zA (pv 1) (zA (yw (pv 2) (by decide)) zD))))) (zB (yX (yH (Du K Int hr) (zU (zu K) rfl B.len abg (zA (pv 3) zD)) zK (yS _)) Ob zG) zG))) zG))),?_⟩
 rintro Fa ⟨q0,⟨⟩⟩
 exact⟨_,Sn.of (zS (xI true 1 rfl rfl (esc (BZ (zE 0 rfl)))) (λmany1=>(zS (tY (zf (vH (md:=.hp) (Hy (zI 1 rfl) (zV 1))) (vH (md:=.hp) (Hz (zI 1 rfl) (zV 60)))) Oz (yI (λs3:Unit=>([.z q0,.y many1,.un,.un]:SL K)) () bZ)) (λs2=>(zS (vI (n:=false) (L:=(λs4:Unit=>([.z q0,.y many1,.un,.un]:SL K))) () bZ (Yc (zW 0 rfl)) (λs4=>(Hx 2 3 rfl rfl (λ_=>rfl) rfl)) (λs4 x6=>(zS (Ou (md:=.hp) (zM (zF (zE 3 rfl) (zF (esc (zI 1 rfl)) (zF (esc (zU6 "steps of stand " (zI 2 rfl))) zO))))) (λu11=>(zS (tY (vH (md:=.hp) (Dv (BZ (zE 3 rfl)) (zV 0))) Oz (yI (λFT:Unit=>([.z q0,.y many1,.z x6.1,.z x6.2]:SL K)) () bZ)) (λs12=>(yI (λs4:Unit=>([.z q0,.y many1,.un,.un]:SL K)) () bZ))))))) (λs5=>(yI (λ_:Unit=>([.un,.un,.un,.un]:SL K)) () bZ))))))) (by unfold vC;simp only[bnd])⟩
def uS(q0:Str):Option Bool:=(if(!true)=true then some true else some (decide (q0∈(["all","not","both","either","somenext","eachnext","sometill","eachtill","someever","eachever"]:List Str)))).bind λb=>if b=true then some false else((D_ q0).bind λb1=>if decide ((1:Int)<=b1)=true then some (decide (b1<=(8:Int))) else some false).bind λc4=>if c4=true then((some (Rx q0)).bind λxs=>wR (λ(x2:Str)=>some true) (λ(x2:Str)=>some (Yt x2 ("abcdefghijklmnopqrstuvwxyz":Str))) xs).bind λa3=>some (a3.all id) else some false
theorem mY:ao ["name"] ["name"] (zH j8):=fsc
abbrev zJh(K:PySem.W.Frag):Sp:=cL K false (λa:Str×Unit=>([.z a.1]:SL K)) (λa=>uS a.1)
theorem zM9(F:aZ K "is_name" "is_name" j8 f fd)(B:Bl K mg)(ux:mg "LETTERS" = some (.str "abcdefghijklmnopqrstuvwxyz" uy))(mZ:mg "LONGEST_NAME" = some (.int 8 m5))(m6:mg "SAYING_WORDS" = some (.ref bW))(dR:∀H,cI K H bW ((["all","not","both","either","somenext","eachnext","sometill","eachtill","someever","eachever"]:List Str).map V.str))(M5:mg "all" = none)(M6:mg "str" = none):aq P w K mg base aO (k+1) f fd ["name"] (zJh K):=by
 refine yL F mY (λ_=>rfl) (λ_=>rfl) λcdv A outer s H E hr=>?_
 have nd:=mY.nd
 refine⟨_,(zB (yX (PW.pt (pw_or (Qk (wV (zU (uE K (U_ (n:="str"))) rfl B.qj uF (zA (pv 0) (zA (Uk (v:=.ty "str") rfl M6 K7 rfl) zD))))) (pw_or1 (yH (zUz K) (pv 0) (wF (v:=.ref bW) rfl m6 rfl) (by with_unfolding_all rfl))))) (zB (zQ Cw) zG) zG) (zB (zQ (Wy (zLc xq xq zK (zU zRc rfl B.len abg (zA (pv 0) zD)) (wF (v:=.int 8) rfl mZ ⟨_,rfl⟩)) (zUu (zU (zRf K rfl) rfl M5 KQ (zA (BK (own:=["sign"]) (ix:=[]) rfl rfl rfl (KZ (pv 0)) (λC s H fp=>yO (i:=0) (show(["sign"]:List Str).Nodup from by decide +kernel) rfl (Or.inl rfl)) (λC s H fp=>wJ) (λC s H fp=>(WY zPm (pv 0) (wF (v:=.str "abcdefghijklmnopqrstuvwxyz") rfl ux ⟨_,rfl⟩) (by with_unfolding_all rfl)))) zD))))) zG)),?_⟩
 rintro Fa ⟨q0,⟨⟩⟩
 exact SB.of (uY (zf (QZ (cU (md:=.hp) (Vh Ry rfl (zI 0 rfl)))) (vH (md:=.hp) (K4 dR (zI 0 rfl)))) (yC (esc (Dn false))) (yC (esc (XQ (zLt (f:=(λi j=>decide (i<=j))) (g:=(λi j=>decide (i<=j))) (zV 1) (Eb (zI 0 rfl)) (zV 8)) (zLu (wL (n:=true) (jf:=[.un]) (no:=1) (ix:=[]) rfl rfl (K1 (zI 0 rfl)) (yK 0 rfl rfl) (λx2=>wg) (λx2=>(esc (K3 (zI 0 rfl) (BR "abcdefghijklmnopqrstuvwxyz")))) (λx2=>iT)).ex))))) (by unfold uS;simp only[bnd])
def vD(q0:List (Str×LI))(q1:Int):Option Unit:=(some ()).bind λrE=>((some q0).bind λxs=>wB (λ(s2:List (Key×Bool)) (x4:Str×LI)=>(((uS x4.1).bind λa5=>some (!a5)).bind λb=>if b=true then none else some ()).bind λs6=>(if((Ia (Dc.mk s2).kv x4.1).isSome)=true then none else some ()).bind λs8=>(RB s2 x4.1 true).bind λfX=>(((((OD "mark " x4.1).bind λa12=>some ((a12,()))).bind λZK=>some (q1,ZK)).bind λZL=>some (x4.2,ZL)).bind λZM=>xH ZM.1 ZM.2.1 ZM.2.2.1).bind λu15=>some fX) xs (([]:List (Key×Bool)))).bind λs3=>some ()
theorem h_:ao ["marks","many","ahead","name","stands"] ["marks","many"] (zH fj):=fsc
abbrev zHs(K:PySem.W.Frag):Sp:=cL K false (λa:((List (Str×LI)))×Int×Unit=>([.z a.1,.z a.2.1]:SL K)) (λa=>vD a.1 a.2.1)
theorem zF1(F:aZ K "check_marks" "check_marks" fj f fd)(B:Bl K mg)(aN:bK P w K mg base k "check_stands" ["stands","many","where"] (vW K))(kj:bK P w K mg base k "is_name" ["name"] (zJh K)):aq P w K mg base aO (k+1) f fd ["marks","many"] (zHs K):=by
 refine Vn F h_ (λ_=>rfl) (λ_=>rfl) λcdv A outer s H E hr=>?_
 have nd:=h_.nd
 have hu:=yp hr
 refine⟨_,(zB (xQ 2 nd W_) (zB (xV aa2 rfl (yT K (pv 0)) (G6 rfl (yP (cN 3 nd) (yP (cN 4 nd) Bv))) (zB (yX (Qk (wV (zY kj hr (zA (pv 3) zD)))) Ob zG) (zB (yX (G3 (zUx hu (pv 3) (pv 2))) Ob zG) (zB (W9 hu (pv 2) (pv 3) Cw rfl) (zB (yJ (zY aN hr (zA (pv 4) (zA (pv 1) (zA (yw (pv 3) (by decide)) zD))))) zG))))) zG)),?_⟩
 rintro Fa ⟨q0,q1,⟨⟩⟩
 exact⟨_,Sn.of (zS (X5 (α:=Bool) 2 rfl rfl) (λrE=>(zS (vI (n:=false) (L:=(λs2:List (Key×Bool)=>([.z q0,.z q1,.od (s2:List (Key×Bool)),.un,.un]:SL K))) (([]:List (Key×Bool))) bZ (yU (zW 0 rfl)) (λs2=>(Hx 3 4 rfl rfl (λ_=>rfl) rfl)) (λs2 x4=>(zS (tY (QZ (cU (md:=.hp) (zM (zF (esc (zI 3 rfl)) zO)))) Oz (yI (λs7:Unit=>([.z q0,.z q1,.od (s2:List (Key×Bool)),.z x4.1,.z x4.2]:SL K)) () bZ)) (λs6=>(zS (tY (cU (md:=.hp) (Ec (zI 3 rfl) (Ys 2 rfl))) Oz (yI (λs9:Unit=>([.z q0,.z q1,.od (s2:List (Key×Bool)),.z x4.1,.z x4.2]:SL K)) () bZ)) (λs8=>(zS (zSe 2 rfl rfl (esc (Dn true)) (zI 3 rfl)) (λfX=>(zS (Ou (md:=.hp) (zM (zF (zE 4 rfl) (zF (esc (zI 1 rfl)) (zF (esc (K6 "mark " (zI 3 rfl))) zO))))) (λu15=>(yI (λs2:List (Key×Bool)=>([.z q0,.z q1,.od (s2:List (Key×Bool)),.un,.un]:SL K)) fX bZ))))))))))) (λs3=>(yI (λ_:Unit=>([.un,.un,.un,.un,.un]:SL K)) () bZ))))) (by unfold vD;simp only[bnd])⟩
def vZ(q0:List LI)(q1:Int):Option Unit:=((some (zp q0)).bind λxs=>wB (λ(s1:Unit) (x3:Int×LI)=>(((((K5 "fair set " x3.1).bind λa5=>some ((a5,()))).bind λb6=>some (q1,b6)).bind λb7=>some (x3.2,b7)).bind λz4=>xH z4.1 z4.2.1 z4.2.2.1).bind λu8=>some ()) xs ()).bind λs2=>some ()
theorem ji:ao ["fair","many","number","stands"] ["fair","many"] (zH fW):=fsc
abbrev zJi(K:PySem.W.Frag):Sp:=cL K false (λa:((List LI))×Int×Unit=>([.z a.1,.z a.2.1]:SL K)) (λa=>vZ a.1 a.2.1)
theorem zHa(F:aZ K "check_fair" "check_fair" fW f fd)(B:Bl K mg)(aN:bK P w K mg base k "check_stands" ["stands","many","where"] (vW K)):aq P w K mg base aO (k+1) f fd ["fair","many"] (zJi K):=by
 refine Vn F ji (λ_=>rfl) (λ_=>rfl) λcdv A outer s H E hr=>?_
 have nd:=ji.nd
 refine⟨_,(zB (xV aa2 rfl (Yk K B.enum (zA (pv 0) zD)) (G6 rfl (yP (cN 2 nd) (yP (cN 3 nd) Bv))) (zB (yJ (zY aN hr (zA (pv 3) (zA (pv 1) (zA (yw (pv 2) (by decide)) zD))))) zG)) zG),?_⟩
 rintro Fa ⟨q0,q1,⟨⟩⟩
 exact⟨_,Sn.of (zS (vI (n:=false) (L:=(λs1:Unit=>([.z q0,.z q1,.un,.un]:SL K))) () bZ (Yc (zW 0 rfl)) (λs1=>(Hx 2 3 rfl rfl (λ_=>rfl) rfl)) (λs1 x3=>(zS (Ou (md:=.hp) (zM (zF (zE 3 rfl) (zF (esc (zI 1 rfl)) (zF (esc (zU6 "fair set " (zI 2 rfl))) zO))))) (λu8=>(yI (λs1:Unit=>([.z q0,.z q1,.un,.un]:SL K)) () bZ))))) (λs2=>(yI (λ_:Unit=>([.un,.un,.un,.un]:SL K)) () bZ))) (by unfold vZ;simp only[bnd])⟩
def Px(q0:List LI):Option (List LI):=(some q0).bind λxs=>wR (λ(x1:LI)=>some true) (λ(x1:LI)=>some x1) xs
theorem oZ:ao ["lists"] ["lists"] (zH mR):=fsc
abbrev zUb(K:PySem.W.Frag):Sp:=cL K false (λa:((List LI))×Unit=>([.z a.1]:SL K)) (λa=>Px a.1)
theorem zPv(F:aZ K "copied" "copied" mR f fd)(B:Bl K mg):aq P w K mg base aO (k+1) f fd ["lists"] (zUb K):=by
 refine yL F oZ (λ_=>rfl) (λ_=>rfl) λcdv A outer s H E hr=>?_
 have nd:=oZ.nd
 refine⟨_,(zB (zQ (BK (own:=["things"]) (ix:=[]) rfl rfl rfl (yT K (pv 0)) (λC s H fp=>yO (i:=0) (show(["things"]:List Str).Nodup from by decide +kernel) rfl (Or.inl rfl)) (λC s H fp=>wJ) (λC s H fp=>(vX (KH K) rfl B.list HD (zA (pv 0) zD))))) zG),?_⟩
 rintro Fa ⟨q0,⟨⟩⟩
 exact SB.of (yC (wL (n:=false) (jf:=[.un]) (no:=1) (ix:=[]) rfl rfl (yU (zW 0 rfl)) (yK 0 rfl rfl) (λx1=>wg) (λx1=>(KC (zE 0 rfl)).ex) (λx1=>iT)).ex) (by unfold Px;simp only[bnd])
end
abbrev Py(C:Addr):=Vo C vC vD vZ Px Pr
section
variable{P:Program}{w:World}{K:PySem.W.Frag}{mg:Str->Option Value}{base:Heap}
def yV(q0:aF C):Option Int:=some (q0.steps.length:Int)
theorem gD:ao ["self"] ["self"] (zH dO):=fsc
abbrev wH(K:PySem.W.Frag)(C:Addr):Sp:=cL K false (λa:(aF C)×Unit=>([.z a.1]:SL K)) (λa=>yV a.1)
theorem zE4(F:aZ K "many" "Machine.many" dO f fd)(B:Bl K mg)(T:Cl K mg C):aq P w K mg base aO (k+1) f fd ["self"] (wH K C):=by
 refine yL F gD (λ_=>rfl) (λ_=>rfl) λcdv A outer s H E hr=>?_
 have nd:=gD.nd
 refine⟨_,(zB (zQ (zU (zu K) rfl B.len abg (zA (HJ K (pv 0)) zD))) zG),?_⟩
 rintro Fa ⟨q0,⟨⟩⟩
 exact SB.of (yC (esc (BZ (zIw T.cl T.nS (zE 0 rfl))))) (by unfold yV;simp only[bnd])
def yW(q0:aF C)(q1:Int):Option LI:=(cu q0.steps q1).bind λa1=>DX a1
theorem dU:ao ["self","stand"] ["self","stand"] (zH cO):=fsc
abbrev vT(K:PySem.W.Frag)(C:Addr):Sp:=cL K false (λa:(aF C)×Int×Unit=>([.z a.1,.z a.2.1]:SL K)) (λa=>yW a.1 a.2.1)
theorem zCo(F:aZ K "next_of" "Machine.next_of" cO f fd)(B:Bl K mg)(T:Cl K mg C)(bI:mg "sorted" = none):aq P w K mg base aO (k+1) f fd ["self","stand"] (vT K C):=by
 refine yL F dU (λ_=>rfl) (λ_=>rfl) λcdv A outer s H E hr=>?_
 have nd:=dU.nd
 refine⟨_,(zB (zQ (zU (Yp K) rfl bI Ym (zA (yQ (cG K) (HJ K (pv 0)) (pv 1) (λ_ _=>rfl)) zD))) zG),?_⟩
 rintro Fa ⟨q0,q1,⟨⟩⟩
 exact SB.of (yC (Yr (wQ (zIw T.cl T.nS (zE 0 rfl)) (zI 1 rfl))).ex) (by unfold yW;simp only[bnd])
def xS(q0:aF C)(q1:Int):Option LI:=cu q0.sources q1
theorem eE:ao ["self","stand"] ["self","stand"] (zH cV):=fsc
abbrev zA6(K:PySem.W.Frag)(C:Addr):Sp:=cL K false (λa:(aF C)×Int×Unit=>([.z a.1,.z a.2.1]:SL K)) (λa=>xS a.1 a.2.1)
theorem zDl(F:aZ K "before" "Machine.before" cV f fd)(B:Bl K mg)(T:Cl K mg C):aq P w K mg base aO (k+1) f fd ["self","stand"] (zA6 K C):=by
 refine yL F eE (λ_=>rfl) (λ_=>rfl) λcdv A outer s H E hr=>?_
 have nd:=eE.nd
 refine⟨_,(zB (zQ (vX (KH K) rfl B.list HD (zA (yQ (cG K) (HJ K (pv 0)) (pv 1) (λ_ _=>rfl)) zD))) zG),?_⟩
 rintro Fa ⟨q0,q1,⟨⟩⟩
 exact SB.of (yC (KC (wQ (zKl T.cl T.nB (zE 0 rfl)) (zI 1 rfl))).ex) (by unfold xS;simp only[bnd])
def yD(q0:aF C)(q1:Str):Option LI:=((some q0.marks).bind λxs=>uK (λ(s1:Unit) (x3:Str×LI)=>if(decide (x3.1=q1))=true then(DX x3.2).bind λb=>some (.rt b) else some (.nx ())) xs ()).bind λo=>o.els λs2=>some ([]:LI)
theorem eF:ao ["self","name","known","stands"] ["self","name"] (zH cW):=fsc
abbrev zA5(K:PySem.W.Frag)(C:Addr):Sp:=cL K false (λa:(aF C)×Str×Unit=>([.z a.1,.z a.2.1]:SL K)) (λa=>yD a.1 a.2.1)
theorem zDk(F:aZ K "marked" "Machine.marked" cW f fd)(B:Bl K mg)(T:Cl K mg C)(bI:mg "sorted" = none):aq P w K mg base aO (k+1) f fd ["self","name"] (zA5 K C):=by
 refine yL F eF (λ_=>rfl) (λ_=>rfl) λcdv A outer s H E hr=>?_
 have nd:=eF.nd
 refine⟨_,(zB (xV aa2 rfl (yT K (HJ K (pv 0))) (G6 rfl (yP (cN 2 nd) (yP (cN 3 nd) Bv))) (zB (yX (yH (Du K Str hr) (pv 2) (pv 1) (yS _)) (zB (zQ (zU (Yp K) rfl bI Ym (zA (pv 3) zD))) zG) zG) zG)) (zB (zQ (wC zD)) zG)),?_⟩
 rintro Fa ⟨q0,q1,⟨⟩⟩
 exact SB.of (XS (X8 (n:=false) (L:=(λs1:Unit=>([.z q0,.z q1,.un,.un]:SL K))) () bZ (yU (zQt T.cl T.nM (zW 0 rfl))) (λs1=>(Hx 2 3 rfl rfl (λ_=>rfl) rfl)) (λs1 x3=>(X4 (vH (md:=.hp) (Dv (zI 2 rfl) (zI 1 rfl))) (yC (Yr (zE 3 rfl)).ex) (X3 (λs1:Unit=>([.z q0,.z q1,.un,.un]:SL K)) () bZ)))) (λs2=>(yC (zj (α:=Int)).ex))) (by unfold yD;simp only[bnd])
def xJ(q0:aF C)(q1:Int):Option LI:=(cu q0.fair q1).bind λa1=>DX a1
theorem dW:ao ["self","number"] ["self","number"] (zH cP):=fsc
abbrev zAt(K:PySem.W.Frag)(C:Addr):Sp:=cL K false (λa:(aF C)×Int×Unit=>([.z a.1,.z a.2.1]:SL K)) (λa=>xJ a.1 a.2.1)
theorem zCp(F:aZ K "fair_at" "Machine.fair_at" cP f fd)(B:Bl K mg)(T:Cl K mg C)(bI:mg "sorted" = none):aq P w K mg base aO (k+1) f fd ["self","number"] (zAt K C):=by
 refine yL F dW (λ_=>rfl) (λ_=>rfl) λcdv A outer s H E hr=>?_
 have nd:=dW.nd
 refine⟨_,(zB (zQ (zU (Yp K) rfl bI Ym (zA (yQ (cG K) (HJ K (pv 0)) (pv 1) (λ_ _=>rfl)) zD))) zG),?_⟩
 rintro Fa ⟨q0,q1,⟨⟩⟩
 exact SB.of (yC (Yr (wQ (zLs T.cl T.nF (zE 0 rfl)) (zI 1 rfl))).ex) (by unfold xJ;simp only[bnd])
def yN(q0:aF C):Option LI:=(yV q0).bind λa1=>Pa a1
theorem jk:ao ["machine"] ["machine"] (zH fQ):=fsc
abbrev wO(K:PySem.W.Frag)(C:Addr):Sp:=cL K false (λa:(aF C)×Unit=>([.z a.1]:SL K)) (λa=>yN a.1)
theorem zG9(F:aZ K "everywhere" "everywhere" fQ f fd)(B:Bl K mg)(aL:fP P w K mg base k C "many" ["self"] (wH K C)):aq P w K mg base aO (k+1) f fd ["machine"] (wO K C):=by
 refine yL F jk (λ_=>rfl) (λ_=>rfl) λcdv A outer s H E hr=>?_
 have nd:=jk.nd
 refine⟨_,(zB (zQ (zSv rfl rfl B.list rfl B.range (zA (Vk aL hr (pv 0)) zD))) zG),?_⟩
 rintro Fa ⟨q0,⟨⟩⟩
 exact SB.of (yC (zTs (DN (by decide +kernel) (zE 0 rfl) zO)).ex) (by unfold yN;simp only[bnd])
def Pz(q0:aF C)(q1:LI):Option (List Bool):=(((yV q0).bind λa2=>uO a2).bind λxs=>wR (λ(x3:Int)=>some true) (λ(x3:Int)=>some false) xs).bind λdX=>((some q1).bind λxs=>wB (λ(s4:List Bool) (x6:Int)=>(tX s4 x6 true).bind λAk=>some Ak) xs dX).bind λs5=>some s5
theorem qI:ao ["machine","stands","told","stand"] ["machine","stands"] (zH pP):=fsc
abbrev ZP(K:PySem.W.Frag)(C:Addr):Sp:=cL K false (λa:(aF C)×LI×Unit=>([.z a.1,.z a.2.1]:SL K)) (λa=>Pz a.1 a.2.1)
theorem zS0(F:aZ K "flags" "flags" pP f fd)(B:Bl K mg)(aL:fP P w K mg base k C "many" ["self"] (wH K C)):aq P w K mg base aO (k+1) f fd ["machine","stands"] (ZP K C):=by
 refine yL F qI (λ_=>rfl) (λ_=>rfl) λcdv A outer s H E hr=>?_
 have nd:=qI.nd
 refine⟨_,(zB (BL (i:=2) (own:=["stand"]) (ix:=[]) nd rfl rfl rfl rfl rfl (wW rfl B.range (zA (Vk aL hr (pv 0)) zD)) (λC s H fp=>yO (i:=0) (show(["stand"]:List Str).Nodup from by decide +kernel) rfl (Or.inl rfl)) (λC s H fp=>wJ) (λC s H fp=>Cw)) (zB (xV aa2 rfl (yT K (pv 1)) (cN 3 nd) (zB (Oe Cw (Qn (pv 2) (pv 3) Oj)) zG)) (zB (zQ (pv 2)) zG))),?_⟩
 rintro Fa ⟨q0,q1,⟨⟩⟩
 exact SB.of (zZ (v9 true 2 rfl rfl (wL (n:=true) (jf:=[.un]) (no:=1) (ix:=[]) rfl rfl (uL (DN (by decide +kernel) (zE 0 rfl) zO)) (yK 0 rfl rfl) (λx3=>wg) (λx3=>(esc (Dn false))) (λx3=>iT))) (λdX=>(zZ (vI (n:=false) (L:=(λs4:List Bool=>([.z q0,.z q1,.ow true s4,.un]:SL K))) dX bZ (yU (zW 1 rfl)) (λs4=>(yK 3 rfl rfl)) (λs4 x6=>(zS (Va 2 rfl rfl (esc (Dn true)) (zI 3 rfl)) (λAk=>(yI (λs4:List Bool=>([.z q0,.z q1,.ow true s4,.un]:SL K)) Ak bZ))))) (λs5=>(Hw 2 rfl rfl))))) (by unfold Pz;simp only[bnd])
def uQ(q0:LI)(q1:LI):Option LI:=Pg q0 q1
theorem m7:ao ["one","other"] ["one","other"] (zH jZ):=fsc
abbrev ZQ(K:PySem.W.Frag):Sp:=cL K false (λa:LI×LI×Unit=>([.z a.1,.z a.2.1]:SL K)) (λa=>uQ a.1 a.2.1)
theorem zM4(F:aZ K "without" "without" jZ f fd)(B:Bl K mg)(bI:mg "sorted" = none)(lO:mg "set" = none):aq P w K mg base aO (k+1) f fd ["one","other"] (ZQ K):=by
 refine yL F m7 (λ_=>rfl) (λ_=>rfl) λcdv A outer s H E hr=>?_
 have nd:=m7.nd
 refine⟨_,(zB (zQ (Vx rfl bI (EY (Lf K rfl lO (pv 0)) (Lf K rfl lO (pv 1))))) zG),?_⟩
 rintro Fa ⟨q0,q1,⟨⟩⟩
 exact SB.of (yC (zNt (zE 0 rfl) (zE 1 rfl)).ex) (by unfold uQ;simp only[bnd])
def xE(q0:aF C)(q1:LI):Option LI:=((yN q0).bind λa2=>some ((a2,(q1,())))).bind λz1=>uQ z1.1 z1.2.1
theorem o_:ao ["machine","stands"] ["machine","stands"] (zH mJ):=fsc
abbrev Tj(K:PySem.W.Frag)(C:Addr):Sp:=cL K false (λa:(aF C)×LI×Unit=>([.z a.1,.z a.2.1]:SL K)) (λa=>xE a.1 a.2.1)
theorem zPq(F:aZ K "others" "others" mJ f fd)(B:Bl K mg)(aJ:bK P w K mg base k "everywhere" ["machine"] (wO K C))(dJ:bK P w K mg base k "without" ["one","other"] (ZQ K)):aq P w K mg base aO (k+1) f fd ["machine","stands"] (Tj K C):=by
 refine yL F o_ (λ_=>rfl) (λ_=>rfl) λcdv A outer s H E hr=>?_
 have nd:=o_.nd
 refine⟨_,(zB (zQ (zY dJ hr (zA (zY aJ hr (zA (pv 0) zD)) (zA (pv 1) zD)))) zG),?_⟩
 rintro Fa ⟨q0,q1,⟨⟩⟩
 exact SB.of (yC (zM (zF (zM (zF (zE 0 rfl) zO)) (zF (zE 1 rfl) zO)))) (by unfold xE;simp only[bnd])
def vN(q0:LI)(q1:LI):Option LI:=E_ q0 q1
theorem lq:ao ["one","other"] ["one","other"] (zH ju):=fsc
abbrev ZR(K:PySem.W.Frag):Sp:=cL K false (λa:LI×LI×Unit=>([.z a.1,.z a.2.1]:SL K)) (λa=>vN a.1 a.2.1)
theorem zJ3(F:aZ K "together" "together" ju f fd)(B:Bl K mg)(bI:mg "sorted" = none)(lO:mg "set" = none):aq P w K mg base aO (k+1) f fd ["one","other"] (ZR K):=by
 refine yL F lq (λ_=>rfl) (λ_=>rfl) λcdv A outer s H E hr=>?_
 have nd:=lq.nd
 refine⟨_,(zB (zQ (Vx rfl bI (Lr (Lf K rfl lO (pv 0)) (Lf K rfl lO (pv 1))))) zG),?_⟩
 rintro Fa ⟨q0,q1,⟨⟩⟩
 exact SB.of (yC (zQx (zE 0 rfl) (zE 1 rfl)).ex) (by unfold vN;simp only[bnd])
def xN(q0:LI)(q1:LI):Option LI:=Vz q0 q1
theorem pq:ao ["one","other"] ["one","other"] (zH mK):=fsc
abbrev PB(K:PySem.W.Frag):Sp:=cL K false (λa:LI×LI×Unit=>([.z a.1,.z a.2.1]:SL K)) (λa=>xN a.1 a.2.1)
theorem zPp(F:aZ K "shared" "shared" mK f fd)(B:Bl K mg)(bI:mg "sorted" = none)(lO:mg "set" = none):aq P w K mg base aO (k+1) f fd ["one","other"] (PB K):=by
 refine yL F pq (λ_=>rfl) (λ_=>rfl) λcdv A outer s H E hr=>?_
 have nd:=pq.nd
 refine⟨_,(zB (zQ (Vx rfl bI (Ej (Lf K rfl lO (pv 0)) (Lf K rfl lO (pv 1))))) zG),?_⟩
 rintro Fa ⟨q0,q1,⟨⟩⟩
 exact SB.of (yC (zNv (zE 0 rfl) (zE 1 rfl)).ex) (by unfold xN;simp only[bnd])
def uT(q0:aF C)(q1:LI)(q2:LI):Option (List (Option Int)):=(Pz q0 q1).bind λbN=>(((yV q0).bind λa3=>uO a3).bind λxs=>wR (λ(x4:Int)=>some true) (λ(x4:Int)=>some (none:Option Int)) xs).bind λAl=>((some q2).bind λxs=>wB (λ(s5:List (Option Int)) (x7:Int)=>(tX s5 x7 (some (0:Int))).bind λAm=>some Am) xs Al).bind λs6=>(some q2).bind λM7=>(some (0:Int)).bind λpW=>(Hu (λje:(List (Option Int))×LI×Int=>some (decide (je.2.2<(je.2.1.length:Int)))) (λje:(List (Option Int))×LI×Int=>(cu je.2.1 je.2.2).bind λfY=>((xS q0 fY).bind λxs=>wB (λ(lR:(List (Option Int))×LI) (Ao:Int)=>(((cu bN Ao).bind λc18=>if c18=true then(cu lR.1 Ao).bind λa17=>some a17.isNone else some false).bind λb=>if b=true then(((((cu lR.1 fY).bind λa22=>a22).bind λa23=>some (a23+(1:Int))).bind λa24=>some (some a24)).bind λa25=>tX lR.1 Ao a25).bind λfZ=>(push lR.2 Ao).bind λAq=>some (fZ,Aq) else some (lR.1,lR.2)).bind λuz=>some (uz.1,uz.2)) xs (je.1,je.2.1)).bind λM8=>(some (je.2.2+(1:Int))).bind λpX=>some (M8.1,M8.2,pX)) fuel (s6,M7,pW)).bind λs12=>some s12.1
theorem jQ:ao ["machine","through","goal","passable","told","stand","row","place","source"] ["machine","through","goal"] (zH gU):=fsc
abbrev zFu(K:PySem.W.Frag)(C:Addr):Sp:=cL K false (λa:(aF C)×LI×LI×Unit=>([.z a.1,.z a.2.1,.z a.2.2.1]:SL K)) (λa=>uT a.1 a.2.1 a.2.2.1)
theorem zIk(F:aZ K "distances" "distances" gU f fd)(B:Bl K mg)(cX:fP P w K mg base k C "before" ["self","stand"] (zA6 K C))(aL:fP P w K mg base k C "many" ["self"] (wH K C))(iB:bK P w K mg base k "flags" ["machine","stands"] (ZP K C)):aq P w K mg base aO (k+1) f fd ["machine","through","goal"] (zFu K C):=by
 refine yL F jQ (λ_=>rfl) (λ_=>rfl) λcdv A outer s H E hr=>?_
 have nd:=jQ.nd
 refine⟨_,(zB (xQ 3 nd (zY iB hr (zA (pv 0) (zA (pv 1) zD)))) (zB (BL (i:=4) (own:=["stand"]) (ix:=[]) nd rfl rfl rfl rfl rfl (wW rfl B.range (zA (Vk aL hr (pv 0)) zD)) (λC s H fp=>yO (i:=0) (show(["stand"]:List Str).Nodup from by decide +kernel) rfl (Or.inl rfl)) (λC s H fp=>wJ) (λC s H fp=>zUv)) (zB (xV aa2 rfl (yT K (pv 2)) (cN 5 nd) (zB (Oe zK (Qn (pv 4) (pv 5) Oj)) zG)) (zB (xQ 6 nd (vX (KH K) rfl B.list HD (zA (pv 2) zD))) (zB (xQ 7 nd zK) (zB (zSs aa2 (yH Qw (pv 7) (zU (zu K) rfl B.len abg (zA (pv 6) zD)) (yS _)) (zB (xQ 5 nd (yQ (cG K) (pv 6) (pv 7) (λ_ _=>rfl))) (zB (xV aa2 rfl (yT K (Rm cX hr (pv 0) (zA (pv 5) zD))) (cN 8 nd) (zB (yX (PW.pt (pw_and (wV (yQ (cG K) (pv 3) (pv 8) (λ_ _=>rfl))) (pw_and1 (G3 (Um (yQ (cG K) (pv 4) (pv 8) (λ_ _=>rfl))))))) (zB (Oe (xL Uv (yQ (cG K) (pv 4) (pv 5) (λ_ _=>rfl)) zK) (Qn (pv 4) (pv 8) Oj)) (zB (yJ (B_ K aa4 abd abe vE (pv 6) (zA (pv 8) zD))) zG)) zG) zG)) (zB (zUs (i:=7) nd rfl (by first|exact .inl rfl|exact .inr rfl) zK JG) zG)))) (zB (zQ (pv 4)) zG))))))),?_⟩
 rintro Fa ⟨q0,q1,q2,⟨⟩⟩
 exact SB.of (zZ (xI true 3 rfl rfl (zM (zF (zE 0 rfl) (zF (zE 1 rfl) zO)))) (λbN=>(zZ (v9 true 4 rfl rfl (wL (n:=true) (jf:=[.un]) (no:=1) (ix:=[]) rfl rfl (uL (DN (by decide +kernel) (zE 0 rfl) zO)) (yK 0 rfl rfl) (λx4=>wg) (λx4=>(esc (zQr (α:=Int)))) (λx4=>iT))) (λAl=>(zZ (vI (n:=false) (L:=(λs5:List (Option Int)=>([.z q0,.z q1,.z q2,.y bN,.ow true s5,.un,.un,.un,.un]:SL K))) Al bZ (yU (zW 2 rfl)) (λs5=>(yK 5 rfl rfl)) (λs5 x7=>(zS (Va 4 rfl rfl (esc (XM (zV 0))) (zI 5 rfl)) (λAm=>(yI (λs5:List (Option Int)=>([.z q0,.z q1,.z q2,.y bN,.ow true s5,.un,.un,.un,.un]:SL K)) Am bZ))))) (λs6=>(zZ (v9 true 6 rfl rfl (KC (zE 2 rfl))) (λM7=>(zZ (xI true 7 rfl rfl (esc (zV 0))) (λpW=>(zZ (zSd (L:=(λje:(List (Option Int))×LI×Int=>([.z q0,.z q1,.z q2,.y bN,.ow true je.1,.un,.ow true je.2.1,.y je.2.2,.un]:SL K))) fuel (s6,M7,pW) bZ (λje=>(vH (md:=.hp) (Hy (zI 7 rfl) (BZ (BP 6 rfl))))) (λje=>(zS (xI true 5 rfl rfl (esc (esc (wQ (BP 6 rfl) (zI 7 rfl))))) (λfY=>(zS (vI (n:=true) (L:=(λlR:(List (Option Int))×LI=>([.z q0,.z q1,.z q2,.y bN,.ow true lR.1,.y fY,.ow true lR.2,.y je.2.2,.un]:SL K))) (je.1,je.2.1) bZ (yU (DN (by decide +kernel) (zE 0 rfl) (zF (esc (zI 5 rfl)) zO))) (λlR=>(yK 8 rfl rfl)) (λlR Ao=>(zS (tY (zU7 (cU (md:=.hp) (esc (wQ (zE 3 rfl) (zI 8 rfl)))) (cU (md:=.hp) (Vg (esc (wQ (BP 4 rfl) (zI 8 rfl)))))) (zS (Va 4 rfl rfl (esc (XM (Vf (Yi (esc (wQ (BP 4 rfl) (zI 5 rfl)))) (zV 1)))) (zI 8 rfl)) (λfZ=>(zS (uN 6 rfl rfl (esc (zI 8 rfl))) (λAq=>(yI (λTn:(List (Option Int))×LI=>([.z q0,.z q1,.z q2,.y bN,.ow true Tn.1,.y fY,.ow true Tn.2,.y je.2.2,.y Ao]:SL K)) (fZ,Aq) bZ))))) (yI (λTn:(List (Option Int))×LI=>([.z q0,.z q1,.z q2,.y bN,.ow true Tn.1,.y fY,.ow true Tn.2,.y je.2.2,.y Ao]:SL K)) (lR.1,lR.2) bZ)) (λuz=>(yI (λlR:(List (Option Int))×LI=>([.z q0,.z q1,.z q2,.y bN,.ow true lR.1,.y fY,.ow true lR.2,.y je.2.2,.un]:SL K)) (uz.1,uz.2) bZ))))) (λM8=>(zS (zUn (s:=.un) 7 rfl (zV 1)) (λpX=>(yI (λje:(List (Option Int))×LI×Int=>([.z q0,.z q1,.z q2,.y bN,.ow true je.1,.un,.ow true je.2.1,.y je.2.2,.un]:SL K)) (M8.1,M8.2,pX) bZ))))))))) (λs12=>(Hw 4 rfl rfl))))))))))))) (by unfold uT;simp only[bnd])
def xC(q0:aF C)(q1:LI)(q2:LI):Option LI:=(uT q0 q1 q2).bind λI9=>(some (zp I9)).bind λxs=>wR (λ(x2:Int×(Option Int))=>some x2.2.isSome) (λ(x2:Int×(Option Int))=>some x2.1) xs
theorem lu:ao ["machine","through","goal","away"] ["machine","through","goal"] (zH jw):=fsc
abbrev V5(K:PySem.W.Frag)(C:Addr):Sp:=cL K false (λa:(aF C)×LI×LI×Unit=>([.z a.1,.z a.2.1,.z a.2.2.1]:SL K)) (λa=>xC a.1 a.2.1 a.2.2.1)
theorem zJ6(F:aZ K "comes_to" "comes_to" jw f fd)(B:Bl K mg)(ig:bK P w K mg base k "distances" ["machine","through","goal"] (zFu K C)):aq P w K mg base aO (k+1) f fd ["machine","through","goal"] (V5 K C):=by
 refine yL F lu (λ_=>rfl) (λ_=>rfl) λcdv A outer s H E hr=>?_
 have nd:=lu.nd
 refine⟨_,(zB (xQ 3 nd (zY ig hr (zA (pv 0) (zA (pv 1) (zA (pv 2) zD))))) (zB (zQ (BK (own:=["stand","steps"]) (ix:=[]) rfl rfl rfl (Yk K B.enum (zA (pv 3) zD)) (λC s H fp=>XF (K:=K) (n:=2) rfl rfl (yP (yO (i:=0) (show(["stand","steps"]:List Str).Nodup from by decide +kernel) rfl (Or.inl rfl)) (yP (yO (i:=1) (show(["stand","steps"]:List Str).Nodup from by decide +kernel) rfl (Or.inl rfl)) Bv))) (λC s H fp=>QS (G3 (Cy (pv 1)))) (λC s H fp=>(pv 0)))) zG)),?_⟩
 rintro Fa ⟨q0,q1,q2,⟨⟩⟩
 exact SB.of (zZ (xI true 3 rfl rfl (zM (zF (zE 0 rfl) (zF (zE 1 rfl) (zF (zE 2 rfl) zO))))) (λI9=>(yC (wL (n:=true) (jf:=[.un,.un]) (no:=2) (ix:=[]) rfl rfl (Yc (zW 3 rfl)) (Hx 0 1 rfl rfl (λ_=>rfl) rfl) (λx2=>(cU (md:=.hp) (Dw (zI 1 rfl)))) (λx2=>(esc (zI 0 rfl))) (λx2=>iT)).ex))) (by unfold xC;simp only[bnd])
def vY(q0:aF C)(q1:Int)(q2:List Bool):Option Bool:=((yW q0 q1).bind λxs=>wR (λ(x1:Int)=>some true) (λ(x1:Int)=>cu q2 x1) xs).bind λa2=>some (a2.any id)
theorem jl:ao ["machine","stand","hit"] ["machine","stand","hit"] (zH fU):=fsc
abbrev zD5(K:PySem.W.Frag)(C:Addr):Sp:=cL K false (λa:(aF C)×Int×(List Bool)×Unit=>([.z a.1,.z a.2.1,.z a.2.2.1]:SL K)) (λa=>vY a.1 a.2.1 a.2.2.1)
theorem zG7(F:aZ K "steps_into" "steps_into" fU f fd)(B:Bl K mg)(M9:mg "any" = none)(aR:fP P w K mg base k C "next_of" ["self","stand"] (vT K C)):aq P w K mg base aO (k+1) f fd ["machine","stand","hit"] (zD5 K C):=by
 refine yL F jl (λ_=>rfl) (λ_=>rfl) λcdv A outer s H E hr=>?_
 have nd:=jl.nd
 refine⟨_,(zB (zQ (zU (zRe K rfl) rfl M9 KN (zA (BK (own:=["after"]) (ix:=[2]) rfl rfl rfl (yT K (Rm aR hr (pv 0) (zA (pv 1) zD))) (λC s H fp=>yO (i:=0) (show(["after","hit"]:List Str).Nodup from by decide +kernel) rfl (Or.inl rfl)) (λC s H fp=>wJ) (λC s H fp=>(yQ (cG K) (pv 1) (pv 0) (λ_ _=>rfl)))) zD))) zG),?_⟩
 rintro Fa ⟨q0,q1,q2,⟨⟩⟩
 exact SB.of (yC (esc (zLu (wL (n:=true) (jf:=[.un,.z q2]) (no:=1) (ix:=[2]) rfl rfl (yU (DN (by decide +kernel) (zE 0 rfl) (zF (esc (zI 1 rfl)) zO))) (yK 0 rfl rfl) (λx1=>wg) (λx1=>(esc (esc (wQ (zE 1 rfl) (zI 0 rfl))))) (λx1=>iT)).ex))) (by unfold vY;simp only[bnd])
def wY(q0:aF C)(q1:LI)(q2:LI):Option LI:=(Pz q0 q2).bind λhit1=>(some q1).bind λxs=>wR (λ(x2:Int)=>vY q0 x2 hit1) (λ(x2:Int)=>some x2) xs
theorem iu:ao ["machine","among","goal","hit"] ["machine","among","goal"] (zH eV):=fsc
abbrev zC4(K:PySem.W.Frag)(C:Addr):Sp:=cL K false (λa:(aF C)×LI×LI×Unit=>([.z a.1,.z a.2.1,.z a.2.2.1]:SL K)) (λa=>wY a.1 a.2.1 a.2.2.1)
theorem zFy(F:aZ K "stepping_to" "stepping_to" eV f fd)(B:Bl K mg)(iB:bK P w K mg base k "flags" ["machine","stands"] (ZP K C))(gj:bK P w K mg base k "steps_into" ["machine","stand","hit"] (zD5 K C)):aq P w K mg base aO (k+1) f fd ["machine","among","goal"] (zC4 K C):=by
 refine yL F iu (λ_=>rfl) (λ_=>rfl) λcdv A outer s H E hr=>?_
 have nd:=iu.nd
 refine⟨_,(zB (xQ 3 nd (zY iB hr (zA (pv 0) (zA (pv 2) zD)))) (zB (zQ (BK (own:=["stand"]) (ix:=[0,3]) rfl rfl rfl (yT K (pv 1)) (λC s H fp=>yO (i:=0) (show(["stand","machine","hit"]:List Str).Nodup from by decide +kernel) rfl (Or.inl rfl)) (λC s H fp=>QS (wV (zY gj hr (zA (pv 1) (zA (pv 0) (zA (pv 2) zD)))))) (λC s H fp=>(pv 0)))) zG)),?_⟩
 rintro Fa ⟨q0,q1,q2,⟨⟩⟩
 exact SB.of (zZ (xI true 3 rfl rfl (zM (zF (zE 0 rfl) (zF (zE 2 rfl) zO)))) (λhit1=>(yC (wL (n:=false) (jf:=[.un,.z q0,.y hit1]) (no:=1) (ix:=[0,3]) rfl rfl (yU (zW 1 rfl)) (yK 0 rfl rfl) (λx2=>(cU (md:=.hp) (zM (zF (zE 1 rfl) (zF (esc (zI 0 rfl)) (zF (zE 2 rfl) zO)))))) (λx2=>(esc (zI 0 rfl))) (λx2=>iT)).ex))) (by unfold wY;simp only[bnd])
def PJ(q0:LI):Option Int:=(some (0:Int)).bind λdX=>((some q0).bind λxs=>wB (λ(s2:Int) (x4:Int)=>((tZ (1:Int) x4).bind λa6=>some (ac4 s2 a6)).bind λm8=>some m8) xs dX).bind λs3=>some s3
theorem m9:ao ["stands","told","stand"] ["stands"] (zH j4):=fsc
abbrev zJj(K:PySem.W.Frag):Sp:=cL K false (λa:LI×Unit=>([.z a.1]:SL K)) (λa=>PJ a.1)
theorem zNa(F:aZ K "bits_of" "bits_of" j4 f fd)(B:Bl K mg):aq P w K mg base aO (k+1) f fd ["stands"] (zJj K):=by
 refine yL F m9 (λ_=>rfl) (λ_=>rfl) λcdv A outer s H E hr=>?_
 have nd:=m9.nd
 refine⟨_,(zB (xQ 1 nd zK) (zB (xV aa2 rfl (yT K (pv 0)) (cN 2 nd) (zB (zUs (i:=1) nd rfl (by first|exact .inl rfl|exact .inr rfl) (xL JT zK (pv 2)) Il) zG)) (zB (zQ (pv 1)) zG))),?_⟩
 rintro Fa ⟨q0,⟨⟩⟩
 exact SB.of (zZ (xI true 1 rfl rfl (esc (zV 0))) (λdX=>(zZ (vI (n:=false) (L:=(λs2:Int=>([.z q0,.y s2,.un]:SL K))) dX bZ (yU (zW 0 rfl)) (λs2=>(yK 2 rfl rfl)) (λs2 x4=>(zS (zUn (s:=.un) 1 rfl (Lh (zV 1) (zI 2 rfl))) (λm8=>(yI (λs2:Int=>([.z q0,.y s2,.un]:SL K)) m8 bZ))))) (λs3=>(yC (esc (zI 1 rfl))))))) (by unfold PJ;simp only[bnd])
def wZ(q0:aF C)(q1:LI):Option LI:=(PJ q1).bind λdh=>(((yV q0).bind λa3=>uO a3).bind λxs=>wR (λ(x4:Int)=>some true) (λ(x4:Int)=>some (0:Int)) xs).bind λdY=>((some q1).bind λxs=>wB (λ(s5:LI) (x7:Int)=>(((((yW q0 x7).bind λa10=>some ((a10,()))).bind λz9=>PJ z9.1).bind λa11=>some (aa7 a11 dh)).bind λa12=>tX s5 x7 a12).bind λAv=>some Av) xs dY).bind λs6=>((some q1).bind λxs=>wB (λ(FT:LI) (M_:Int)=>((some q1).bind λxs=>wB (λ(Aw:LI) (x18:Int)=>(((((cu Aw x18).bind λa19=>jr a19 M_).bind λa20=>some (aa7 a20 (1:Int))).bind λa21=>some (a21 != 0)).bind λb=>if b=true then((cu Aw M_).bind λZS=>Em (λi j=>ac4 i j) Aw x18 ZS).bind λrH=>some rH else some Aw).bind λAx=>some Ax) xs FT).bind λZV=>some ZV) xs s6).bind λlR=>some lR
theorem iw:ao ["machine","within","inside","rows","stand","middle"] ["machine","within"] (zH eX):=fsc
abbrev zC6(K:PySem.W.Frag)(C:Addr):Sp:=cL K false (λa:(aF C)×LI×Unit=>([.z a.1,.z a.2.1]:SL K)) (λa=>wZ a.1 a.2.1)
theorem zFz(F:aZ K "onward_bits" "onward_bits" eX f fd)(B:Bl K mg)(aL:fP P w K mg base k C "many" ["self"] (wH K C))(aR:fP P w K mg base k C "next_of" ["self","stand"] (vT K C))(iC:bK P w K mg base k "bits_of" ["stands"] (zJj K)):aq P w K mg base aO (k+1) f fd ["machine","within"] (zC6 K C):=by
 refine yL F iw (λ_=>rfl) (λ_=>rfl) λcdv A outer s H E hr=>?_
 have nd:=iw.nd
 refine⟨_,(zB (xQ 2 nd (zY iC hr (zA (pv 1) zD))) (zB (BL (i:=3) (own:=["stand"]) (ix:=[]) nd rfl rfl rfl rfl rfl (wW rfl B.range (zA (Vk aL hr (pv 0)) zD)) (λC s H fp=>yO (i:=0) (show(["stand"]:List Str).Nodup from by decide +kernel) rfl (Or.inl rfl)) (λC s H fp=>wJ) (λC s H fp=>zK)) (zB (xV aa2 rfl (yT K (pv 1)) (cN 4 nd) (zB (Oe (xL Qu (zY iC hr (zA (Rm aR hr (pv 0) (zA (pv 4) zD)) zD)) (pv 2)) (Qn (pv 3) (pv 4) Oj)) zG)) (zB (xV aa2 rfl (yT K (pv 1)) (cN 5 nd) (zB (xV aa2 rfl (yT K (pv 1)) (cN 4 nd) (zB (yX (YQ K (xL Qu (xL Uw (yQ (cG K) (pv 3) (pv 4) (λ_ _=>rfl)) (pv 5)) zK)) (zB (CJ (pv 3) (pv 4) (zQl K) (yQ (cG K) (pv 3) (pv 5) (λ_ _=>rfl)) Il Oj) zG) zG) zG)) zG)) (zB (zQ (pv 3)) zG))))),?_⟩
 rintro Fa ⟨q0,q1,⟨⟩⟩
 exact SB.of (zZ (xI true 2 rfl rfl (esc (zM (zF (zE 1 rfl) zO)))) (λdh=>(zZ (v9 true 3 rfl rfl (wL (n:=true) (jf:=[.un]) (no:=1) (ix:=[]) rfl rfl (uL (DN (by decide +kernel) (zE 0 rfl) zO)) (yK 0 rfl rfl) (λx4=>wg) (λx4=>(esc (zV 0))) (λx4=>iT))) (λdY=>(zZ (vI (n:=false) (L:=(λs5:LI=>([.z q0,.z q1,.y dh,.ow true s5,.un,.un]:SL K))) dY bZ (yU (zW 1 rfl)) (λs5=>(yK 4 rfl rfl)) (λs5 x7=>(zS (Va 3 rfl rfl (esc (RX (zM (zF (DN (by decide +kernel) (zE 0 rfl) (zF (esc (zI 4 rfl)) zO)) zO)) (zI 2 rfl))) (zI 4 rfl)) (λAv=>(yI (λs5:LI=>([.z q0,.z q1,.y dh,.ow true s5,.un,.un]:SL K)) Av bZ))))) (λs6=>(zZ (vI (n:=false) (L:=(λFT:LI=>([.z q0,.z q1,.y dh,.ow true FT,.un,.un]:SL K))) s6 bZ (yU (zW 1 rfl)) (λFT=>(yK 5 rfl rfl)) (λFT M_=>(zS (vI (n:=false) (L:=(λAw:LI=>([.z q0,.z q1,.y dh,.ow true Aw,.un,.z M_]:SL K))) FT bZ (yU (zW 1 rfl)) (λAw=>(yK 4 rfl rfl)) (λAw x18=>(zS (tY (YS (RX (VB (esc (wQ (BP 3 rfl) (zI 4 rfl))) (zI 5 rfl)) (zV 1))) (zS (zSf 3 rfl rfl (zI 4 rfl) (esc (wQ (BP 3 rfl) (zI 5 rfl)))) (λrH=>(yI (λNb:LI=>([.z q0,.z q1,.y dh,.ow true Nb,.z x18,.z M_]:SL K)) rH bZ))) (yI (λNb:LI=>([.z q0,.z q1,.y dh,.ow true Nb,.z x18,.z M_]:SL K)) Aw bZ)) (λAx=>(yI (λAw:LI=>([.z q0,.z q1,.y dh,.ow true Aw,.un,.z M_]:SL K)) Ax bZ))))) (λZV=>(yI (λFT:LI=>([.z q0,.z q1,.y dh,.ow true FT,.un,.un]:SL K)) ZV bZ))))) (λlR=>(Hw 3 rfl rfl))))))))) (by unfold wZ;simp only[bnd])
def Tp(q0:aF C)(q1:LI):Option (List LI):=(O8 q1).bind λdj=>(wZ q0 dj).bind λdY=>(some (([]:List LI))).bind λAy=>(some ()).bind λTq=>((some dj).bind λxs=>wB (λ(s5:(List LI)×(List (Key×Bool))) (x7:Int)=>((if(!(iR (Dc.mk s5.2).kv x7).isSome)=true then(((cu dY x7).bind λa8=>jr a8 x7).bind λa9=>some (aa7 a9 (1:Int))).bind λa10=>some (a10 != 0) else some false).bind λb=>if b=true then((some dj).bind λxs=>wR (λ(Nf:Int)=>((((cu dY x7).bind λa15=>jr a15 Nf).bind λa17=>((cu dY Nf).bind λa16=>jr a16 x7).bind λZW=>some (aa7 a17 ZW)).bind λa19=>some (aa7 a19 (1:Int))).bind λa20=>some (a20 != 0)) (λ(Nf:Int)=>some Nf) xs).bind λm_=>(push s5.1 m_).bind λfZ=>((some m_).bind λxs=>wB (λ(Ax:List (Key×Bool)) (x24:Int)=>(dput Ax x24 true).bind λrJ=>some rJ) xs s5.2).bind λNb=>some (fZ,Nb) else some (s5.1,s5.2)).bind λje=>some (je.1,je.2)) xs ((Ay,([]:List (Key×Bool))))).bind λs6=>some s6.1
theorem qJ:ao ["machine","within","stands","rows","told","done","stand","ring","other"] ["machine","within"] (zH pQ):=fsc
abbrev zRp(K:PySem.W.Frag)(C:Addr):Sp:=cL K false (λa:(aF C)×LI×Unit=>([.z a.1,.z a.2.1]:SL K)) (λa=>Tp a.1 a.2.1)
theorem zSy(F:aZ K "rings" "rings" pQ f fd)(B:Bl K mg)(bI:mg "sorted" = none)(lO:mg "set" = none)(fu:bK P w K mg base k "onward_bits" ["machine","within"] (zC6 K C)):aq P w K mg base aO (k+1) f fd ["machine","within"] (zRp K C):=by
 refine yL F qJ (λ_=>rfl) (λ_=>rfl) λcdv A outer s H E hr=>?_
 have nd:=qJ.nd
 have hu:=yp hr
 refine⟨_,(zB (xQ 2 nd (Vx rfl bI (Lf K rfl lO (pv 1)))) (zB (xQ 3 nd (zY fu hr (zA (pv 0) (zA (pv 2) zD)))) (zB (xQ 4 nd (wC zD)) (zB (xQ 5 nd W_) (zB (xV aa2 rfl (yT K (pv 2)) (cN 6 nd) (zB (yX (PW.pt (pw_and (G3 (zPi hu (pv 6) (pv 5))) (pw_and1 (YQ K (xL Qu (xL Uw (yQ (cG K) (pv 3) (pv 6) (λ_ _=>rfl)) (pv 6)) zK))))) (zB (BL (i:=7) (own:=["other"]) (ix:=[3,6]) nd rfl rfl rfl rfl rfl (yT K (pv 2)) (λC s H fp=>yO (i:=0) (show(["other","rows","stand"]:List Str).Nodup from by decide +kernel) rfl (Or.inl rfl)) (λC s H fp=>QS (YQ K (xL Qu (xL Qu (xL Uw (yQ (cG K) (pv 1) (pv 2) (λ_ _=>rfl)) (pv 0)) (xL Uw (yQ (cG K) (pv 1) (pv 0) (λ_ _=>rfl)) (pv 2))) zK))) (λC s H fp=>(pv 0))) (zB (yJ (B_ K aa4 abd abe vE (pv 4) (zA (pv 7) zD))) (zB (xV aa2 rfl (yT K (pv 7)) (cN 8 nd) (zB (W9 hu (pv 5) (pv 8) Cw rfl) zG)) zG))) zG) zG)) (zB (zQ (pv 4)) zG)))))),?_⟩
 rintro Fa ⟨q0,q1,⟨⟩⟩
 exact SB.of (zZ (xI true 2 rfl rfl (zNu (zE 1 rfl)).ex) (λdj=>(zZ (xI true 3 rfl rfl (zM (zF (zE 0 rfl) (zF (zE 2 rfl) zO)))) (λdY=>(zZ (v9 true 4 rfl rfl (zj (α:=LI))) (λAy=>(zZ (X5 (α:=Bool) 5 rfl rfl) (λTq=>(zZ (vI (n:=true) (L:=(λs5:(List LI)×(List (Key×Bool))=>([.z q0,.z q1,.y dj,.y dY,.ow true s5.1,.od (s5.2:List (Key×Bool)),.un,.un,.un]:SL K))) ((Ay,([]:List (Key×Bool)))) bZ (yU (zW 2 rfl)) (λs5=>(yK 6 rfl rfl)) (λs5 x7=>(zS (tY (zU7 (cU (md:=.hp) (zQu (zI 6 rfl) (Ys 5 rfl))) (YS (RX (VB (esc (wQ (zE 3 rfl) (zI 6 rfl))) (zI 6 rfl)) (zV 1)))) (zS (xI true 7 rfl rfl (wL (n:=true) (jf:=[.un,.y dY,.y x7]) (no:=1) (ix:=[3,6]) rfl rfl (yU (zW 2 rfl)) (yK 0 rfl rfl) (λNf=>(YS (RX (RX (VB (esc (wQ (zE 1 rfl) (zI 2 rfl))) (zI 0 rfl)) (VB (esc (wQ (zE 1 rfl) (zI 0 rfl))) (zI 2 rfl))) (zV 1)))) (λNf=>(esc (zI 0 rfl))) (λNf=>iT)).ex) (λm_=>(zS (uN 4 rfl rfl (zW 7 rfl)) (λfZ=>(zS (vI (n:=true) (L:=(λAx:List (Key×Bool)=>([.z q0,.z q1,.y dj,.y dY,.ow true fZ,.od (Ax:List (Key×Bool)),.y x7,.y m_,.un]:SL K))) s5.2 bZ (yU (zW 7 rfl)) (λAx=>(yK 8 rfl rfl)) (λAx x24=>(zS (zOv 5 rfl rfl (esc (Dn true)) (zI 8 rfl)) (λrJ=>(yI (λAx:List (Key×Bool)=>([.z q0,.z q1,.y dj,.y dY,.ow true fZ,.od (Ax:List (Key×Bool)),.y x7,.y m_,.un]:SL K)) rJ bZ))))) (λNb=>(yI (λs12:(List LI)×(List (Key×Bool))=>([.z q0,.z q1,.y dj,.y dY,.ow true s12.1,.od (s12.2:List (Key×Bool)),.y x7,.un,.un]:SL K)) (fZ,Nb) bZ))))))) (yI (λs12:(List LI)×(List (Key×Bool))=>([.z q0,.z q1,.y dj,.y dY,.ow true s12.1,.od (s12.2:List (Key×Bool)),.y x7,.un,.un]:SL K)) (s5.1,s5.2) bZ)) (λje=>(yI (λs5:(List LI)×(List (Key×Bool))=>([.z q0,.z q1,.y dj,.y dY,.ow true s5.1,.od (s5.2:List (Key×Bool)),.un,.un,.un]:SL K)) (je.1,je.2) bZ))))) (λs6=>(Hw 4 rfl rfl))))))))))) (by unfold Tp;simp only[bnd])
def uR(q0:aF C)(q1:LI):Option (Option Int):=((uO (q0.fair.length:Int)).bind λxs=>uK (λ(s1:Unit) (x3:Int)=>((((((xJ q0 x3).bind λa5=>some ((a5,()))).bind λb6=>some (q1,b6)).bind λz4=>xN z4.1 z4.2.1).bind λa7=>some (a7.length:Int)).bind λa8=>some (decide (a8=(0:Int)))).bind λb=>if b=true then(some (some x3)).bind λb=>some (.rt b) else some (.nx ())) xs ()).bind λo=>o.els λs2=>some (none:Option Int)
theorem jR:ao ["machine","ring","number"] ["machine","ring"] (zH gW):=fsc
abbrev zFs(K:PySem.W.Frag)(C:Addr):Sp:=cL K false (λa:(aF C)×LI×Unit=>([.z a.1,.z a.2.1]:SL K)) (λa=>uR a.1 a.2.1)
theorem zIi(F:aZ K "missed_by" "missed_by" gW f fd)(B:Bl K mg)(T:Cl K mg C)(cQ:fP P w K mg base k C "fair_at" ["self","number"] (zAt K C))(aY:bK P w K mg base k "shared" ["one","other"] (PB K)):aq P w K mg base aO (k+1) f fd ["machine","ring"] (zFs K C):=by
 refine yL F jR (λ_=>rfl) (λ_=>rfl) λcdv A outer s H E hr=>?_
 have nd:=jR.nd
 refine⟨_,(zB (xV aa2 rfl (wW rfl B.range (zA (zU (zu K) rfl B.len abg (zA (HJ K (pv 0)) zD)) zD)) (cN 2 nd) (zB (yX (yH (Du K Int hr) (zU (zu K) rfl B.len abg (zA (zY aY hr (zA (pv 1) (zA (Rm cQ hr (pv 0) (zA (pv 2) zD)) zD))) zD)) zK (yS _)) (zB (zQ (pv 2)) zG) zG) zG)) (zB (zQ zUv) zG)),?_⟩
 rintro Fa ⟨q0,q1,⟨⟩⟩
 exact SB.of (XS (X8 (n:=true) (L:=(λs1:Unit=>([.z q0,.z q1,.un]:SL K))) () bZ (uL (BZ (zLs T.cl T.nF (zE 0 rfl)))) (λs1=>(yK 2 rfl rfl)) (λs1 x3=>(X4 (vH (md:=.hp) (Dv (BZ (zM (zF (zE 1 rfl) (zF (DN (by decide +kernel) (zE 0 rfl) (zF (esc (zI 2 rfl)) zO)) zO)))) (zV 0))) (yC (esc (XM (zI 2 rfl)))) (X3 (λs1:Unit=>([.z q0,.z q1,.un]:SL K)) () bZ)))) (λs2=>(yC (esc (zQr (α:=Int)))))) (by unfold uR;simp only[bnd])
def wN(q0:aF C)(q1:LI):Option (List LI):=(Tp q0 q1).bind λxs=>wR (λ(x1:LI)=>(uR q0 x1).bind λa2=>some a2.isNone) (λ(x1:LI)=>some x1) xs
theorem jm:ao ["machine","within"] ["machine","within"] (zH fV):=fsc
abbrev zD6(K:PySem.W.Frag)(C:Addr):Sp:=cL K false (λa:(aF C)×LI×Unit=>([.z a.1,.z a.2.1]:SL K)) (λa=>wN a.1 a.2.1)
theorem zG8(F:aZ K "fair_rings" "fair_rings" fV f fd)(B:Bl K mg)(iy:bK P w K mg base k "missed_by" ["machine","ring"] (zFs K C))(pY:bK P w K mg base k "rings" ["machine","within"] (zRp K C)):aq P w K mg base aO (k+1) f fd ["machine","within"] (zD6 K C):=by
 refine yL F jm (λ_=>rfl) (λ_=>rfl) λcdv A outer s H E hr=>?_
 have nd:=jm.nd
 refine⟨_,(zB (zQ (BK (own:=["ring"]) (ix:=[0]) rfl rfl rfl (yT K (zY pY hr (zA (pv 0) (zA (pv 1) zD)))) (λC s H fp=>yO (i:=0) (show(["ring","machine"]:List Str).Nodup from by decide +kernel) rfl (Or.inl rfl)) (λC s H fp=>QS (G3 (Um (zY iy hr (zA (pv 1) (zA (pv 0) zD)))))) (λC s H fp=>(pv 0)))) zG),?_⟩
 rintro Fa ⟨q0,q1,⟨⟩⟩
 exact SB.of (yC (wL (n:=true) (jf:=[.un,.z q0]) (no:=1) (ix:=[0]) rfl rfl (yU (zM (zF (zE 0 rfl) (zF (zE 1 rfl) zO)))) (yK 0 rfl rfl) (λx1=>(cU (md:=.hp) (Vg (zM (zF (zE 1 rfl) (zF (zE 0 rfl) zO)))))) (λx1=>(zW 0 rfl)) (λx1=>iT)).ex) (by unfold wN;simp only[bnd])
def Ng(q0:List LI):Option LI:=(some ([]:LI)).bind λdX=>((some q0).bind λxs=>wB (λ(s2:LI) (x4:LI)=>(Aa s2 x4).bind λm8=>some m8) xs dX).bind λs3=>some s3
theorem pA:ao ["lists","told","things"] ["lists"] (zH mL):=fsc
abbrev zL9(K:PySem.W.Frag):Sp:=cL K false (λa:((List LI))×Unit=>([.z a.1]:SL K)) (λa=>Ng a.1)
theorem zPu(F:aZ K "joined" "joined" mL f fd)(B:Bl K mg):aq P w K mg base aO (k+1) f fd ["lists"] (zL9 K):=by
 refine yL F pA (λ_=>rfl) (λ_=>rfl) λcdv A outer s H E hr=>?_
 have nd:=pA.nd
 refine⟨_,(zB (xQ 1 nd (wC zD)) (zB (xV aa2 rfl (yT K (pv 0)) (cN 2 nd) (zB (yJ (B_ K aa4 PySem.F.slot_list_extend PySem.F.type_list_extend zIo (pv 1) (zA (pv 2) zD))) zG)) (zB (zQ (pv 1)) zG))),?_⟩
 rintro Fa ⟨q0,⟨⟩⟩
 exact SB.of (zZ (v9 true 1 rfl rfl (zj (α:=Int))) (λdX=>(zZ (vI (n:=false) (L:=(λs2:LI=>([.z q0,.ow true s2,.un]:SL K))) dX bZ (yU (zW 0 rfl)) (λs2=>(yK 2 rfl rfl)) (λs2 x4=>(zS (zOu 1 rfl rfl (zE 2 rfl)) (λm8=>(yI (λs2:LI=>([.z q0,.ow true s2,.un]:SL K)) m8 bZ))))) (λs3=>(Hw 1 rfl rfl))))) (by unfold Ng;simp only[bnd])
def Ck(q0:aF C)(q1:LI):Option LI:=((((((wN q0 q1).bind λa2=>some ((a2,()))).bind λz1=>Ng z1.1).bind λa4=>some ((a4,()))).bind λb5=>some (q1,b5)).bind λb6=>some (q0,b6)).bind λz3=>xC z3.1 z3.2.1 z3.2.2.1
theorem sX:ao ["machine","within"] ["machine","within"] (zH rD):=fsc
abbrev V6(K:PySem.W.Frag)(C:Addr):Sp:=cL K false (λa:(aF C)×LI×Unit=>([.z a.1,.z a.2.1]:SL K)) (λa=>Ck a.1 a.2.1)
theorem FW(F:aZ K "core" "core" rD f fd)(B:Bl K mg)(bJ:bK P w K mg base k "comes_to" ["machine","through","goal"] (V5 K C))(gk:bK P w K mg base k "fair_rings" ["machine","within"] (zD6 K C))(ni:bK P w K mg base k "joined" ["lists"] (zL9 K)):aq P w K mg base aO (k+1) f fd ["machine","within"] (V6 K C):=by
 refine yL F sX (λ_=>rfl) (λ_=>rfl) λcdv A outer s H E hr=>?_
 have nd:=sX.nd
 refine⟨_,(zB (zQ (zY bJ hr (zA (pv 0) (zA (pv 1) (zA (zY ni hr (zA (zY gk hr (zA (pv 0) (zA (pv 1) zD))) zD)) zD))))) zG),?_⟩
 rintro Fa ⟨q0,q1,⟨⟩⟩
 exact SB.of (yC (zM (zF (zE 0 rfl) (zF (zE 1 rfl) (zF (zM (zF (zM (zF (zE 0 rfl) (zF (zE 1 rfl) zO))) zO)) zO))))) (by unfold Ck;simp only[bnd])
def Nh(q0:aF C):Option LI:=(((yN q0).bind λa2=>some ((a2,()))).bind λb3=>some (q0,b3)).bind λz1=>Ck z1.1 z1.2.1
theorem qK:ao ["machine"] ["machine"] (zH s_alive):=fsc
abbrev zRr(K:PySem.W.Frag)(C:Addr):Sp:=cL K false (λa:(aF C)×Unit=>([.z a.1]:SL K)) (λa=>Nh a.1)
theorem zS1(F:aZ K "alive" "alive" s_alive f fd)(B:Bl K mg)(gn:bK P w K mg base k "core" ["machine","within"] (V6 K C))(aJ:bK P w K mg base k "everywhere" ["machine"] (wO K C)):aq P w K mg base aO (k+1) f fd ["machine"] (zRr K C):=by
 refine yL F qK (λ_=>rfl) (λ_=>rfl) λcdv A outer s H E hr=>?_
 have nd:=qK.nd
 refine⟨_,(zB (zQ (zY gn hr (zA (pv 0) (zA (zY aJ hr (zA (pv 0) zD)) zD)))) zG),?_⟩
 rintro Fa ⟨q0,⟨⟩⟩
 exact SB.of (yC (zM (zF (zE 0 rfl) (zF (zM (zF (zE 0 rfl) zO)) zO)))) (by unfold Nh;simp only[bnd])
def xW(q0:aF C)(q1:LI)(q2:LI):Option LI:=(((yN q0).bind λa3=>((xN q1 q2).bind λa2=>some ((a2,()))).bind λb4=>some (a3,b4)).bind λb5=>some (q0,b5)).bind λz1=>wY z1.1 z1.2.1 z1.2.2.1
theorem jT:ao ["machine","living","part"] ["machine","living","part"] (zH gY):=fsc
abbrev zFr(K:PySem.W.Frag)(C:Addr):Sp:=cL K false (λa:(aF C)×LI×LI×Unit=>([.z a.1,.z a.2.1,.z a.2.2.1]:SL K)) (λa=>xW a.1 a.2.1 a.2.2.1)
theorem zIh(F:aZ K "some_next" "some_next" gY f fd)(B:Bl K mg)(aJ:bK P w K mg base k "everywhere" ["machine"] (wO K C))(aY:bK P w K mg base k "shared" ["one","other"] (PB K))(fG:bK P w K mg base k "stepping_to" ["machine","among","goal"] (zC4 K C)):aq P w K mg base aO (k+1) f fd ["machine","living","part"] (zFr K C):=by
 refine yL F jT (λ_=>rfl) (λ_=>rfl) λcdv A outer s H E hr=>?_
 have nd:=jT.nd
 refine⟨_,(zB (zQ (zY fG hr (zA (pv 0) (zA (zY aJ hr (zA (pv 0) zD)) (zA (zY aY hr (zA (pv 1) (zA (pv 2) zD))) zD))))) zG),?_⟩
 rintro Fa ⟨q0,q1,q2,⟨⟩⟩
 exact SB.of (yC (zM (zF (zE 0 rfl) (zF (zM (zF (zE 0 rfl) zO)) (zF (zM (zF (zE 1 rfl) (zF (zE 2 rfl) zO))) zO))))) (by unfold xW;simp only[bnd])
def xG(q0:aF C)(q1:LI)(q2:LI)(q3:LI):Option LI:=((((xN q1 q3).bind λa2=>some ((a2,()))).bind λb3=>some (q2,b3)).bind λb4=>some (q0,b4)).bind λz1=>xC z1.1 z1.2.1 z1.2.2.1
theorem jU:ao ["machine","living","left","right"] ["machine","living","left","right"] (zH gZ):=fsc
abbrev zFq(K:PySem.W.Frag)(C:Addr):Sp:=cL K false (λa:(aF C)×LI×LI×LI×Unit=>([.z a.1,.z a.2.1,.z a.2.2.1,.z a.2.2.2.1]:SL K)) (λa=>xG a.1 a.2.1 a.2.2.1 a.2.2.2.1)
theorem zIg(F:aZ K "some_till" "some_till" gZ f fd)(B:Bl K mg)(bJ:bK P w K mg base k "comes_to" ["machine","through","goal"] (V5 K C))(aY:bK P w K mg base k "shared" ["one","other"] (PB K)):aq P w K mg base aO (k+1) f fd ["machine","living","left","right"] (zFq K C):=by
 refine yL F jU (λ_=>rfl) (λ_=>rfl) λcdv A outer s H E hr=>?_
 have nd:=jU.nd
 refine⟨_,(zB (zQ (zY bJ hr (zA (pv 0) (zA (pv 2) (zA (zY aY hr (zA (pv 1) (zA (pv 3) zD))) zD))))) zG),?_⟩
 rintro Fa ⟨q0,q1,q2,q3,⟨⟩⟩
 exact SB.of (yC (zM (zF (zE 0 rfl) (zF (zE 2 rfl) (zF (zM (zF (zE 1 rfl) (zF (zE 3 rfl) zO))) zO))))) (by unfold xG;simp only[bnd])
def Tt(q0:aF C)(q1:LI)(q2:LI)(q3:LI):Option LI:=(((((xE q0 q3).bind λa2=>some ((a2,()))).bind λb3=>some (q1,b3)).bind λz1=>xN z1.1 z1.2.1).bind λa5=>some ((a5,(q2,())))).bind λz4=>uQ z4.1 z4.2.1
theorem lB:ao ["machine","living","left","right"] ["machine","living","left","right"] (zH jx):=fsc
abbrev zGl(K:PySem.W.Frag)(C:Addr):Sp:=cL K false (λa:(aF C)×LI×LI×LI×Unit=>([.z a.1,.z a.2.1,.z a.2.2.1,.z a.2.2.2.1]:SL K)) (λa=>Tt a.1 a.2.1 a.2.2.1 a.2.2.2.1)
theorem zJ4(F:aZ K "spoilers" "spoilers" jx f fd)(B:Bl K mg)(aU:bK P w K mg base k "others" ["machine","stands"] (Tj K C))(aY:bK P w K mg base k "shared" ["one","other"] (PB K))(dJ:bK P w K mg base k "without" ["one","other"] (ZQ K)):aq P w K mg base aO (k+1) f fd ["machine","living","left","right"] (zGl K C):=by
 refine yL F lB (λ_=>rfl) (λ_=>rfl) λcdv A outer s H E hr=>?_
 have nd:=lB.nd
 refine⟨_,(zB (zQ (zY dJ hr (zA (zY aY hr (zA (pv 1) (zA (zY aU hr (zA (pv 0) (zA (pv 3) zD))) zD))) (zA (pv 2) zD)))) zG),?_⟩
 rintro Fa ⟨q0,q1,q2,q3,⟨⟩⟩
 exact SB.of (yC (zM (zF (zM (zF (zE 1 rfl) (zF (zM (zF (zE 0 rfl) (zF (zE 3 rfl) zO))) zO))) (zF (zE 2 rfl) zO)))) (by unfold Tt;simp only[bnd])
def xX(q0:aF C)(q1:LI)(q2:LI)(q3:LI):Option LI:=(xE q0 q3).bind λnj=>(((((Tt q0 q1 q2 q3).bind λa4=>some ((a4,()))).bind λb5=>some (nj,b5)).bind λb6=>some (q0,b6)).bind λz3=>xC z3.1 z3.2.1 z3.2.2.1).bind λsY=>((((((Ck q0 nj).bind λa8=>some ((a8,()))).bind λb9=>some (sY,b9)).bind λz7=>vN z7.1 z7.2.1).bind λa11=>some ((a11,()))).bind λb12=>some (q0,b12)).bind λTv=>xE Tv.1 Tv.2.1
theorem jV:ao ["machine","living","left","right","waiting","broken"] ["machine","living","left","right"] (zH g8):=fsc
abbrev zFt(K:PySem.W.Frag)(C:Addr):Sp:=cL K false (λa:(aF C)×LI×LI×LI×Unit=>([.z a.1,.z a.2.1,.z a.2.2.1,.z a.2.2.2.1]:SL K)) (λa=>xX a.1 a.2.1 a.2.2.1 a.2.2.2.1)
theorem zIj(F:aZ K "each_till" "each_till" g8 f fd)(B:Bl K mg)(bJ:bK P w K mg base k "comes_to" ["machine","through","goal"] (V5 K C))(gn:bK P w K mg base k "core" ["machine","within"] (V6 K C))(aU:bK P w K mg base k "others" ["machine","stands"] (Tj K C))(jB:bK P w K mg base k "spoilers" ["machine","living","left","right"] (zGl K C))(cY:bK P w K mg base k "together" ["one","other"] (ZR K)):aq P w K mg base aO (k+1) f fd ["machine","living","left","right"] (zFt K C):=by
 refine yL F jV (λ_=>rfl) (λ_=>rfl) λcdv A outer s H E hr=>?_
 have nd:=jV.nd
 refine⟨_,(zB (xQ 4 nd (zY aU hr (zA (pv 0) (zA (pv 3) zD)))) (zB (xQ 5 nd (zY bJ hr (zA (pv 0) (zA (pv 4) (zA (zY jB hr (zA (pv 0) (zA (pv 1) (zA (pv 2) (zA (pv 3) zD))))) zD))))) (zB (zQ (zY aU hr (zA (pv 0) (zA (zY cY hr (zA (pv 5) (zA (zY gn hr (zA (pv 0) (zA (pv 4) zD))) zD))) zD)))) zG))),?_⟩
 rintro Fa ⟨q0,q1,q2,q3,⟨⟩⟩
 exact SB.of (zZ (xI true 4 rfl rfl (zM (zF (zE 0 rfl) (zF (zE 3 rfl) zO)))) (λnj=>(zZ (xI true 5 rfl rfl (zM (zF (zE 0 rfl) (zF (zE 4 rfl) (zF (zM (zF (zE 0 rfl) (zF (zE 1 rfl) (zF (zE 2 rfl) (zF (zE 3 rfl) zO))))) zO))))) (λsY=>(yC (zM (zF (zE 0 rfl) (zF (zM (zF (zE 5 rfl) (zF (zM (zF (zE 0 rfl) (zF (zE 4 rfl) zO))) zO))) zO)))))))) (by unfold xX;simp only[bnd])
def zR(q0:aF C)(q1:LI)(q2:aM cl)(q3:List LI):Option LI:=if(jt (.one 1) q2.t)=true then((((cu q3 (0:Int)).bind λa2=>some ((a2,()))).bind λb3=>some (q1,b3)).bind λb4=>some (q0,b4)).bind λz1=>xW z1.1 z1.2.1 z1.2.2.1 else if(jt (.one 2) q2.t)=true then((((((((((cu q3 (0:Int)).bind λa6=>some ((a6,()))).bind λb7=>some (q0,b7)).bind λz5=>xE z5.1 z5.2.1).bind λa9=>some ((a9,()))).bind λb10=>some (q1,b10)).bind λb11=>some (q0,b11)).bind λz8=>xW z8.1 z8.2.1 z8.2.2.1).bind λa13=>some ((a13,()))).bind λZL=>some (q0,ZL)).bind λz12=>xE z12.1 z12.2.1 else if(jt (.two 2) q2.t)=true then((((cu q3 (0:Int)).bind λa17=>((cu q3 (1:Int)).bind λa16=>some ((a16,()))).bind λZW=>some (a17,ZW)).bind λb19=>some (q1,b19)).bind λb20=>some (q0,b20)).bind λV7=>xG V7.1 V7.2.1 V7.2.2.1 V7.2.2.2.1 else if(jt (.two 3) q2.t)=true then((((cu q3 (0:Int)).bind λa23=>((cu q3 (1:Int)).bind λa22=>some ((a22,()))).bind λTw=>some (a23,Tw)).bind λZS=>some (q1,ZS)).bind λb26=>some (q0,b26)).bind λV8=>xX V8.1 V8.2.1 V8.2.2.1 V8.2.2.2.1 else if(jt (.one 3) q2.t)=true then(((cu q3 (0:Int)).bind λa28=>some ((a28,()))).bind λb29=>some (q0,b29)).bind λz27=>Ck z27.1 z27.2.1 else if(jt (.one 4) q2.t)=true then(((((((yN q0).bind λa35=>(((((cu q3 (0:Int)).bind λa31=>some ((a31,()))).bind λb32=>some (q0,b32)).bind λz30=>xE z30.1 z30.2.1).bind λa34=>some ((a34,()))).bind λb36=>some (a35,b36)).bind λb37=>some (q1,b37)).bind λb38=>some (q0,b38)).bind λV9=>xG V9.1 V9.2.1 V9.2.2.1 V9.2.2.2.1).bind λa40=>some ((a40,()))).bind λb41=>some (q0,b41)).bind λz39=>xE z39.1 z39.2.1 else if(jt (.one 5) q2.t)=true then((((yN q0).bind λa44=>((cu q3 (0:Int)).bind λa43=>some ((a43,()))).bind λb45=>some (a44,b45)).bind λb46=>some (q1,b46)).bind λb47=>some (q0,b47)).bind λV_=>xG V_.1 V_.2.1 V_.2.2.1 V_.2.2.2.1 else((((yN q0).bind λa50=>((cu q3 (0:Int)).bind λa49=>some ((a49,()))).bind λb51=>some (a50,b51)).bind λb52=>some (q1,b52)).bind λb53=>some (q0,b53)).bind λWa=>xX Wa.1 Wa.2.1 Wa.2.2.1 Wa.2.2.2.1
theorem cR:ao ["machine","living","saying","sets"] ["machine","living","saying","sets"] (zH bV):=fsc
abbrev uG(K:PySem.W.Frag)(C:Addr)(cl:Hd->Addr):Sp:=cL K false (λa:(aF C)×LI×(aM cl)×((List LI))×Unit=>([.z a.1,.z a.2.1,.z a.2.2.1,.z a.2.2.2.1]:SL K)) (λa=>zR a.1 a.2.1 a.2.2.1 a.2.2.2.1)
theorem zBe(F:aZ K "meaning_over_walks" "meaning_over_walks" bV f fd)(B:Bl K mg)(I:pO P w K mg base kS cl fi di)(gn:bK P w K mg base k "core" ["machine","within"] (V6 K C))(eG:bK P w K mg base k "each_till" ["machine","living","left","right"] (zFt K C))(aJ:bK P w K mg base k "everywhere" ["machine"] (wO K C))(aU:bK P w K mg base k "others" ["machine","stands"] (Tj K C))(eN:bK P w K mg base k "some_next" ["machine","living","part"] (zFr K C))(dw:bK P w K mg base k "some_till" ["machine","living","left","right"] (zFq K C)):aq P w K mg base aO (k+1) f fd ["machine","living","saying","sets"] (uG K C cl):=by
 refine yL F cR (λ_=>rfl) (λ_=>rfl) λcdv A outer s H E hr=>?_
 have nd:=cR.nd
 refine⟨_,(zB (yX (wV (zU (uE K (uB (a:=cl (.one 1)))) rfl B.qj uF (zA (pv 2) (zA (wF (v:=.ref (cl (.one 1))) rfl (I.ini.m1 1) rfl) zD)))) (zB (zQ (zY eN hr (zA (pv 0) (zA (pv 1) (zA (yQ (cG K) (pv 3) zK (λ_ _=>rfl)) zD))))) zG) zG) (zB (yX (wV (zU (uE K (uB (a:=cl (.one 2)))) rfl B.qj uF (zA (pv 2) (zA (wF (v:=.ref (cl (.one 2))) rfl (I.ini.m1 2) rfl) zD)))) (zB (zQ (zY aU hr (zA (pv 0) (zA (zY eN hr (zA (pv 0) (zA (pv 1) (zA (zY aU hr (zA (pv 0) (zA (yQ (cG K) (pv 3) zK (λ_ _=>rfl)) zD))) zD)))) zD)))) zG) zG) (zB (yX (wV (zU (uE K (uB (a:=cl (.two 2)))) rfl B.qj uF (zA (pv 2) (zA (wF (v:=.ref (cl (.two 2))) rfl (I.ini.m2 2) rfl) zD)))) (zB (zQ (zY dw hr (zA (pv 0) (zA (pv 1) (zA (yQ (cG K) (pv 3) zK (λ_ _=>rfl)) (zA (yQ (cG K) (pv 3) zK (λ_ _=>rfl)) zD)))))) zG) zG) (zB (yX (wV (zU (uE K (uB (a:=cl (.two 3)))) rfl B.qj uF (zA (pv 2) (zA (wF (v:=.ref (cl (.two 3))) rfl (I.ini.m2 3) rfl) zD)))) (zB (zQ (zY eG hr (zA (pv 0) (zA (pv 1) (zA (yQ (cG K) (pv 3) zK (λ_ _=>rfl)) (zA (yQ (cG K) (pv 3) zK (λ_ _=>rfl)) zD)))))) zG) zG) (zB (yX (wV (zU (uE K (uB (a:=cl (.one 3)))) rfl B.qj uF (zA (pv 2) (zA (wF (v:=.ref (cl (.one 3))) rfl (I.ini.m1 3) rfl) zD)))) (zB (zQ (zY gn hr (zA (pv 0) (zA (yQ (cG K) (pv 3) zK (λ_ _=>rfl)) zD)))) zG) zG) (zB (yX (wV (zU (uE K (uB (a:=cl (.one 4)))) rfl B.qj uF (zA (pv 2) (zA (wF (v:=.ref (cl (.one 4))) rfl (I.ini.m1 4) rfl) zD)))) (zB (zQ (zY aU hr (zA (pv 0) (zA (zY dw hr (zA (pv 0) (zA (pv 1) (zA (zY aJ hr (zA (pv 0) zD)) (zA (zY aU hr (zA (pv 0) (zA (yQ (cG K) (pv 3) zK (λ_ _=>rfl)) zD))) zD))))) zD)))) zG) zG) (zB (yX (wV (zU (uE K (uB (a:=cl (.one 5)))) rfl B.qj uF (zA (pv 2) (zA (wF (v:=.ref (cl (.one 5))) rfl (I.ini.m1 5) rfl) zD)))) (zB (zQ (zY dw hr (zA (pv 0) (zA (pv 1) (zA (zY aJ hr (zA (pv 0) zD)) (zA (yQ (cG K) (pv 3) zK (λ_ _=>rfl)) zD)))))) zG) zG) (zB (zQ (zY eG hr (zA (pv 0) (zA (pv 1) (zA (zY aJ hr (zA (pv 0) zD)) (zA (yQ (cG K) (pv 3) zK (λ_ _=>rfl)) zD)))))) zG)))))))),?_⟩
 rintro Fa ⟨q0,q1,q2,q3,⟨⟩⟩
 exact SB.of (uY (cU (md:=.hp) (wI I (.one 1) (zE 2 rfl))) (yC (zM (zF (zE 0 rfl) (zF (zE 1 rfl) (zF (wQ (zE 3 rfl) (zV 0)) zO))))) (uY (cU (md:=.hp) (wI I (.one 2) (zE 2 rfl))) (yC (zM (zF (zE 0 rfl) (zF (zM (zF (zE 0 rfl) (zF (zE 1 rfl) (zF (zM (zF (zE 0 rfl) (zF (wQ (zE 3 rfl) (zV 0)) zO))) zO)))) zO)))) (uY (cU (md:=.hp) (wI I (.two 2) (zE 2 rfl))) (yC (zM (zF (zE 0 rfl) (zF (zE 1 rfl) (zF (wQ (zE 3 rfl) (zV 0)) (zF (wQ (zE 3 rfl) (zV 1)) zO)))))) (uY (cU (md:=.hp) (wI I (.two 3) (zE 2 rfl))) (yC (zM (zF (zE 0 rfl) (zF (zE 1 rfl) (zF (wQ (zE 3 rfl) (zV 0)) (zF (wQ (zE 3 rfl) (zV 1)) zO)))))) (uY (cU (md:=.hp) (wI I (.one 3) (zE 2 rfl))) (yC (zM (zF (zE 0 rfl) (zF (wQ (zE 3 rfl) (zV 0)) zO)))) (uY (cU (md:=.hp) (wI I (.one 4) (zE 2 rfl))) (yC (zM (zF (zE 0 rfl) (zF (zM (zF (zE 0 rfl) (zF (zE 1 rfl) (zF (zM (zF (zE 0 rfl) zO)) (zF (zM (zF (zE 0 rfl) (zF (wQ (zE 3 rfl) (zV 0)) zO))) zO))))) zO)))) (uY (cU (md:=.hp) (wI I (.one 5) (zE 2 rfl))) (yC (zM (zF (zE 0 rfl) (zF (zE 1 rfl) (zF (zM (zF (zE 0 rfl) zO)) (zF (wQ (zE 3 rfl) (zV 0)) zO)))))) (yC (zM (zF (zE 0 rfl) (zF (zE 1 rfl) (zF (zM (zF (zE 0 rfl) zO)) (zF (wQ (zE 3 rfl) (zV 0)) zO))))))))))))) (by unfold zR;simp only[bnd])
def vA(q0:aF C)(q1:LI)(q2:aM cl)(q3:List LI):Option LI:=if(jt .all q2.t)=true then yN q0 else if(jt .mark q2.t)=true then(q2.name.bind λa2=>some ((a2,()))).bind λz1=>yD q0 z1.1 else if(jt (.one 0) q2.t)=true then(((cu q3 (0:Int)).bind λa4=>some ((a4,()))).bind λb5=>some (q0,b5)).bind λz3=>xE z3.1 z3.2.1 else if(jt (.two 0) q2.t)=true then((cu q3 (0:Int)).bind λa8=>((cu q3 (1:Int)).bind λa7=>some ((a7,()))).bind λb9=>some (a8,b9)).bind λz6=>xN z6.1 z6.2.1 else if(jt (.two 1) q2.t)=true then((cu q3 (0:Int)).bind λa12=>((cu q3 (1:Int)).bind λa11=>some ((a11,()))).bind λZK=>some (a12,ZK)).bind λTv=>vN Tv.1 Tv.2.1 else zR q0 q1 q2 q3
theorem nq:ao ["machine","living","saying","sets"] ["machine","living","saying","sets"] (zH j7):=fsc
abbrev zJc(K:PySem.W.Frag)(C:Addr)(cl:Hd->Addr):Sp:=cL K false (λa:(aF C)×LI×(aM cl)×((List LI))×Unit=>([.z a.1,.z a.2.1,.z a.2.2.1,.z a.2.2.2.1]:SL K)) (λa=>vA a.1 a.2.1 a.2.2.1 a.2.2.2.1)
theorem zM5(F:aZ K "meaning" "meaning" j7 f fd)(B:Bl K mg)(I:pO P w K mg base kS cl fi di)(cZ:fP P w K mg base k C "marked" ["self","name"] (zA5 K C))(aJ:bK P w K mg base k "everywhere" ["machine"] (wO K C))(bY:bK P w K mg base k "meaning_over_walks" ["machine","living","saying","sets"] (uG K C cl))(aU:bK P w K mg base k "others" ["machine","stands"] (Tj K C))(aY:bK P w K mg base k "shared" ["one","other"] (PB K))(cY:bK P w K mg base k "together" ["one","other"] (ZR K)):aq P w K mg base aO (k+1) f fd ["machine","living","saying","sets"] (zJc K C cl):=by
 refine yL F nq (λ_=>rfl) (λ_=>rfl) λcdv A outer s H E hr=>?_
 have nd:=nq.nd
 refine⟨_,(zB (yX (wV (zU (uE K (uB (a:=cl .all))) rfl B.qj uF (zA (pv 2) (zA (wF (v:=.ref (cl .all)) rfl I.ini.mA rfl) zD)))) (zB (zQ (zY aJ hr (zA (pv 0) zD))) zG) zG) (zB (yX (wV (zU (uE K (uB (a:=cl .mark))) rfl B.qj uF (zA (pv 2) (zA (wF (v:=.ref (cl .mark)) rfl I.ini.mM rfl) zD)))) (zB (zQ (Rm cZ hr (pv 0) (zA (HJ K (pv 2)) zD))) zG) zG) (zB (yX (wV (zU (uE K (uB (a:=cl (.one 0)))) rfl B.qj uF (zA (pv 2) (zA (wF (v:=.ref (cl (.one 0))) rfl (I.ini.m1 0) rfl) zD)))) (zB (zQ (zY aU hr (zA (pv 0) (zA (yQ (cG K) (pv 3) zK (λ_ _=>rfl)) zD)))) zG) zG) (zB (yX (wV (zU (uE K (uB (a:=cl (.two 0)))) rfl B.qj uF (zA (pv 2) (zA (wF (v:=.ref (cl (.two 0))) rfl (I.ini.m2 0) rfl) zD)))) (zB (zQ (zY aY hr (zA (yQ (cG K) (pv 3) zK (λ_ _=>rfl)) (zA (yQ (cG K) (pv 3) zK (λ_ _=>rfl)) zD)))) zG) zG) (zB (yX (wV (zU (uE K (uB (a:=cl (.two 1)))) rfl B.qj uF (zA (pv 2) (zA (wF (v:=.ref (cl (.two 1))) rfl (I.ini.m2 1) rfl) zD)))) (zB (zQ (zY cY hr (zA (yQ (cG K) (pv 3) zK (λ_ _=>rfl)) (zA (yQ (cG K) (pv 3) zK (λ_ _=>rfl)) zD)))) zG) zG) (zB (zQ (zY bY hr (zA (pv 0) (zA (pv 1) (zA (pv 2) (zA (pv 3) zD)))))) zG)))))),?_⟩
 rintro Fa ⟨q0,q1,q2,q3,⟨⟩⟩
 exact SB.of (uY (cU (md:=.hp) (wI I .all (zE 2 rfl))) (yC (zM (zF (zE 0 rfl) zO))) (uY (cU (md:=.hp) (wI I .mark (zE 2 rfl))) (yC (DN (by decide +kernel) (zE 0 rfl) (zF (esc (esc (zNr I (zE 2 rfl)))) zO))) (uY (cU (md:=.hp) (wI I (.one 0) (zE 2 rfl))) (yC (zM (zF (zE 0 rfl) (zF (wQ (zE 3 rfl) (zV 0)) zO)))) (uY (cU (md:=.hp) (wI I (.two 0) (zE 2 rfl))) (yC (zM (zF (wQ (zE 3 rfl) (zV 0)) (zF (wQ (zE 3 rfl) (zV 1)) zO)))) (uY (cU (md:=.hp) (wI I (.two 1) (zE 2 rfl))) (yC (zM (zF (wQ (zE 3 rfl) (zV 0)) (zF (wQ (zE 3 rfl) (zV 1)) zO)))) (yC (zM (zF (zE 0 rfl) (zF (zE 1 rfl) (zF (zE 2 rfl) (zF (zE 3 rfl) zO))))))))))) (by unfold vA;simp only[bnd])
def wU(rec:(aF C)->LI->(aM cl)->Option (List LI))(q0:aF C)(q1:LI)(q2:aM cl):Option (List LI):=(some (([]:List LI))).bind λdX=>(some (([]:List LI))).bind λAz=>((some q2.parts).bind λxs=>wB (λ(s3:(List LI)×(List LI)) (x5:aM cl)=>((rec q0 q1 x5).bind λa7=>Ac s3.1 a7).bind λsZ=>((cu sZ (-(1:Int))).bind λa9=>push s3.2 a9).bind λA_=>some (sZ,A_)) xs (dX,Az)).bind λs4=>((vA q0 q1 q2 s4.2).bind λa11=>push s4.1 a11).bind λBa=>some Ba
def xM:Nat->(aF C)->LI->(aM cl)->Option (List LI)
 |0=>λ_ _ _=>none
 |n+1=>wU (xM n)
theorem iz:ao ["machine","living","saying","told","sets","part"] ["machine","living","saying"] (zH eY):=fsc
abbrev uM(K:PySem.W.Frag)(C:Addr)(cl:Hd->Addr)(rec:(aF C)->LI->(aM cl)->Option (List LI)):Sp:=cL K false (λa:(aF C)×LI×(aM cl)×Unit=>([.z a.1,.z a.2.1,.z a.2.2.1]:SL K)) (λa=>rec a.1 a.2.1 a.2.2.1)
abbrev zC3(K:PySem.W.Frag)(C:Addr)(cl:Hd->Addr):Sp:=uM K C cl (xM 9 )
theorem zFx(F:aZ K "table_among" "table_among" eY f fd)(B:Bl K mg)(I:pO P w K mg base kS cl fi di)(kE:bK P w K mg base k "meaning" ["machine","living","saying","sets"] (zJc K C cl))(cF:bK P w K mg base k "table_among" ["machine","living","saying"] (uM K C cl rec)):aq P w K mg base aO (k+1) f fd ["machine","living","saying"] (uM K C cl (wU rec)):=by
 refine yL F iz (λ_=>rfl) (λ_=>rfl) λcdv A outer s H E hr=>?_
 have nd:=iz.nd
 refine⟨_,(zB (xQ 3 nd (wC zD)) (zB (xQ 4 nd (wC zD)) (zB (xV aa2 rfl (Ly K (HJ K (pv 2))) (cN 5 nd) (zB (yJ (B_ K aa4 PySem.F.slot_list_extend PySem.F.type_list_extend zIo (pv 3) (zA (zY cF hr (zA (pv 0) (zA (pv 1) (zA (pv 5) zD)))) zD))) (zB (yJ (B_ K aa4 abd abe vE (pv 4) (zA (yQ (cG K) (pv 3) (Qq Qv zK) (λ_ _=>rfl)) zD))) zG))) (zB (yJ (B_ K aa4 abd abe vE (pv 3) (zA (zY kE hr (zA (pv 0) (zA (pv 1) (zA (pv 2) (zA (pv 4) zD))))) zD))) (zB (zQ (pv 3)) zG))))),?_⟩
 rintro Fa ⟨q0,q1,q2,⟨⟩⟩
 exact SB.of (zZ (v9 true 3 rfl rfl (zj (α:=LI))) (λdX=>(zZ (v9 true 4 rfl rfl (zj (α:=LI))) (λAz=>(zZ (vI (n:=false) (L:=(λs3:(List LI)×(List LI)=>([.z q0,.z q1,.z q2,.ow true s3.1,.ow true s3.2,.un]:SL K))) (dX,Az) bZ (zTx I (zW 2 rfl)) (λs3=>(yK 5 rfl rfl)) (λs3 x5=>(zS (zMr 3 rfl rfl (zM (zF (zE 0 rfl) (zF (zE 1 rfl) (zF (zE 5 rfl) zO))))) (λsZ=>(zS (uN 4 rfl rfl (Ky 3 rfl (Rr (zV 1)))) (λA_=>(yI (λs3:(List LI)×(List LI)=>([.z q0,.z q1,.z q2,.ow true s3.1,.ow true s3.2,.un]:SL K)) (sZ,A_) bZ))))))) (λs4=>(zZ (uN 3 rfl rfl (zM (zF (zE 0 rfl) (zF (zE 1 rfl) (zF (zE 2 rfl) (zF (BP 4 rfl) zO)))))) (λBa=>(Hw 3 rfl rfl))))))))) (by unfold wU;simp only[bnd])
def Wb(q0:aF C)(q1:aM cl):Option (List LI):=(((Nh q0).bind λa2=>some ((a2,(q1,())))).bind λb3=>some (q0,b3)).bind λz1=>xM 9 z1.1 z1.2.1 z1.2.2.1
theorem qL:ao ["machine","saying"] ["machine","saying"] (zH pR):=fsc
abbrev zRo(K:PySem.W.Frag)(C:Addr)(cl:Hd->Addr):Sp:=cL K false (λa:(aF C)×(aM cl)×Unit=>([.z a.1,.z a.2.1]:SL K)) (λa=>Wb a.1 a.2.1)
theorem zSx(F:aZ K "table" "table" pR f fd)(B:Bl K mg)(pZ:bK P w K mg base k "alive" ["machine"] (zRr K C))(cF:bK P w K mg base k "table_among" ["machine","living","saying"] (zC3 K C cl)):aq P w K mg base aO (k+1) f fd ["machine","saying"] (zRo K C cl):=by
 refine yL F qL (λ_=>rfl) (λ_=>rfl) λcdv A outer s H E hr=>?_
 have nd:=qL.nd
 refine⟨_,(zB (zQ (zY cF hr (zA (pv 0) (zA (zY pZ hr (zA (pv 0) zD)) (zA (pv 1) zD))))) zG),?_⟩
 rintro Fa ⟨q0,q1,⟨⟩⟩
 exact SB.of (yC (zM (zF (zE 0 rfl) (zF (zM (zF (zE 0 rfl) zO)) (zF (zE 1 rfl) zO))))) (by unfold Wb;simp only[bnd])
def PK(q0:aF C)(q1:aM cl):Option LI:=(Wb q0 q1).bind λa1=>cu a1 (-(1:Int))
theorem qM:ao ["machine","saying"] ["machine","saying"] (zH pU):=fsc
abbrev zRq(K:PySem.W.Frag)(C:Addr)(cl:Hd->Addr):Sp:=cL K false (λa:(aF C)×(aM cl)×Unit=>([.z a.1,.z a.2.1]:SL K)) (λa=>PK a.1 a.2.1)
theorem zSz(F:aZ K "holds" "holds" pU f fd)(B:Bl K mg)(p7:bK P w K mg base k "table" ["machine","saying"] (zRo K C cl)):aq P w K mg base aO (k+1) f fd ["machine","saying"] (zRq K C cl):=by
 refine yL F qM (λ_=>rfl) (λ_=>rfl) λcdv A outer s H E hr=>?_
 have nd:=qM.nd
 refine⟨_,(zB (zQ (yQ (cG K) (zY p7 hr (zA (pv 0) (zA (pv 1) zD))) (Qq Qv zK) (λ_ _=>rfl))) zG),?_⟩
 rintro Fa ⟨q0,q1,⟨⟩⟩
 exact SB.of (yC (wQ (zM (zF (zE 0 rfl) (zF (zE 1 rfl) zO))) (Rr (zV 1)))) (by unfold PK;simp only[bnd])
end
end Ts
set_option maxHeartbeats 40000000
namespace Ts
open PySem L2 Sy
section
variable{P:Program}{w:World}{K:PySem.W.Frag}{mg:Str->Option Value}{base:Heap}
def uH(q0:LI) :Option (Int×LI):=if(decide ((q0.length:Int)=(0:Int)))=true then some ((0:Int),q0) else q0.getLast?.bind λy=>some (y,q0.dropLast)
theorem pB:ao ["_law_rest"] ["_law_rest"] (zH mU):=fsc
abbrev ZX(K:PySem.W.Frag):Sp:=LC K (λa:Unit=>([]:SL K)) (λws a=>uH ws )
theorem zPs(F:aZ K "_law_cell" "_law_cell" mU f fd)(B:Bl K mg):aq P w K mg base aO (k+1) f fd ["_law_rest"] (ZX K):=by
 refine zQ5 F pB (λ_=>rfl) (λ_=>rfl) λcdv A outer s H E hr=>?_
 have nd:=pB.nd
 refine⟨_,(zB (yX (yH (Du K Int hr) (zU (zu K) rfl B.len abg (zA (pv 0) zD)) zK (yS _)) (zB (zQ zK) zG) zG) (zB (zQ (KJ K aa4 PySem.F.slot_list_pop PySem.F.type_list_pop Ka (pv 0))) zG)),?_⟩
 rintro Fa p q0 ⟨⟩
 exact qG.of (Fe (vH (md:=.hp) (Dv (Fi 0 rfl rfl) (zV 0))) (zO0 0 rfl rfl (esc (zV 0))) (zSl 0 rfl rfl (Fg 0 rfl rfl))) (by unfold uH;simp only[bnd])
def uI(q0:Int)(q1:Int):Option LI:=(some ([]:LI)).bind λc7=>((uO q1).bind λxs=>wB (λ(s2:LI×Int) (x4:Int)=>(((jq s2.2 (2:Int)).bind λa5=>some (decide (a5=(1:Int)))).bind λb=>if b=true then(push s2.1 x4).bind λrK=>some rK else some s2.1).bind λs6=>(lJ s2.2 (2:Int)).bind λkI=>some (s6,kI)) xs (c7,q0)).bind λs3=>some s3.1
theorem pC:ao ["_law_cell_here","_law_many","_law_found","_law_stand"] ["_law_cell_here","_law_many"] (zH mW):=fsc
abbrev zL8(K:PySem.W.Frag):Sp:=cL K false (λa:Int×Int×Unit=>([.z a.1,.z a.2.1]:SL K)) (λa=>uI a.1 a.2.1)
theorem zPt(F:aZ K "_law_bits" "_law_bits" mW f fd)(B:Bl K mg):aq P w K mg base aO (k+1) f fd ["_law_cell_here","_law_many"] (zL8 K):=by
 refine yL F pC (λ_=>rfl) (λ_=>rfl) λcdv A outer s H E hr=>?_
 have nd:=pC.nd
 refine⟨_,(zB (xQ 2 nd (wC zD)) (zB (xV aa2 rfl (wW rfl B.range (zA (pv 1) zD)) (cN 3 nd) (zB (yX (yH (Du K Int hr) (xL xg (pv 0) zK) zK (yS _)) (zB (yJ (B_ K aa4 abd abe vE (pv 2) (zA (pv 3) zD))) zG) zG) (zB (xQ 0 nd (xL Hf (pv 0) zK)) zG))) (zB (zQ (pv 2)) zG))),?_⟩
 rintro Fa ⟨q0,q1,⟨⟩⟩
 exact SB.of (zZ (v9 true 2 rfl rfl (zj (α:=Int))) (λc7=>(zZ (vI (n:=true) (L:=(λs2:LI×Int=>([.z s2.2,.z q1,.ow true s2.1,.un]:SL K))) (c7,q0) bZ (uL (zI 1 rfl)) (λs2=>(yK 3 rfl rfl)) (λs2 x4=>(zS (tY (vH (md:=.hp) (Dv (Kw (zI 0 rfl) (zV 2)) (zV 1))) (zS (uN 2 rfl rfl (esc (zI 3 rfl))) (λrK=>(yI (λs7:LI=>([.z s2.2,.z q1,.ow true s7,.y x4]:SL K)) rK bZ))) (yI (λs7:LI=>([.z s2.2,.z q1,.ow true s7,.y x4]:SL K)) s2.1 bZ)) (λs6=>(zS (xI true 0 rfl rfl (esc (Rb (zI 0 rfl) (zV 2)))) (λkI=>(yI (λs2:LI×Int=>([.z s2.2,.z q1,.ow true s2.1,.un]:SL K)) (s6,kI) (Le.old bZ)))))))) (λs3=>(Hw 2 rfl rfl))))) (by unfold uI;simp only[bnd])
def PL(q0:Int)(q1:Int)(q2:Int):Option LI:=(some ([]:LI)).bind λc7=>(some q0).bind λBb=>((uO q2).bind λxs=>wB (λ(s3:LI×Int) (x5:Int)=>(((jq s3.2 (3:Int)).bind λa6=>some (decide (a6=(1:Int)))).bind λb=>if b=true then(push s3.1 x5).bind λrN=>some rN else some s3.1).bind λs7=>(lJ s3.2 (3:Int)).bind λrO=>some (s7,rO)) xs (c7,Bb)).bind λs4=>(if(decide (s4.1=([]:LI)))=true then((jq (q0+q1) q2).bind λa14=>push s4.1 a14).bind λp8=>some p8 else some s4.1).bind λje=>some je
theorem pD:ao ["_law_cell_here","_law_k","_law_many","_law_found","_law_rest","_law_stand"] ["_law_cell_here","_law_k","_law_many"] (zH mX):=fsc
abbrev zL6(K:PySem.W.Frag):Sp:=cL K false (λa:Int×Int×Int×Unit=>([.z a.1,.z a.2.1,.z a.2.2.1]:SL K)) (λa=>PL a.1 a.2.1 a.2.2.1)
theorem zPr(F:aZ K "_law_next" "_law_next" mX f fd)(B:Bl K mg):aq P w K mg base aO (k+1) f fd ["_law_cell_here","_law_k","_law_many"] (zL6 K):=by
 refine yL F pD (λ_=>rfl) (λ_=>rfl) λcdv A outer s H E hr=>?_
 have nd:=pD.nd
 refine⟨_,(zB (xQ 3 nd (wC zD)) (zB (xQ 4 nd (pv 0)) (zB (xV aa2 rfl (wW rfl B.range (zA (pv 2) zD)) (cN 5 nd) (zB (yX (yH (Du K Int hr) (xL xg (pv 4) zK) zK (yS _)) (zB (yJ (B_ K aa4 abd abe vE (pv 3) (zA (pv 5) zD))) zG) zG) (zB (xQ 4 nd (xL Hf (pv 4) zK)) zG))) (zB (yX (yH (Du K LI hr) (pv 3) (wC zD) (yS _)) (zB (yJ (B_ K aa4 abd abe vE (pv 3) (zA (xL xg (xL Uv (pv 0) (pv 1)) (pv 2)) zD))) zG) zG) (zB (zQ (pv 3)) zG))))),?_⟩
 rintro Fa ⟨q0,q1,q2,⟨⟩⟩
 exact SB.of (zZ (v9 true 3 rfl rfl (zj (α:=Int))) (λc7=>(zZ (xI true 4 rfl rfl (esc (zI 0 rfl))) (λBb=>(zZ (vI (n:=true) (L:=(λs3:LI×Int=>([.z q0,.z q1,.z q2,.ow true s3.1,.y s3.2,.un]:SL K))) (c7,Bb) bZ (uL (zI 2 rfl)) (λs3=>(yK 5 rfl rfl)) (λs3 x5=>(zS (tY (vH (md:=.hp) (Dv (Kw (zI 4 rfl) (zV 3)) (zV 1))) (zS (uN 3 rfl rfl (esc (zI 5 rfl))) (λrN=>(yI (λs8:LI=>([.z q0,.z q1,.z q2,.ow true s8,.y s3.2,.y x5]:SL K)) rN bZ))) (yI (λs8:LI=>([.z q0,.z q1,.z q2,.ow true s8,.y s3.2,.y x5]:SL K)) s3.1 bZ)) (λs7=>(zS (xI true 4 rfl rfl (esc (Rb (zI 4 rfl) (zV 3)))) (λrO=>(yI (λs3:LI×Int=>([.z q0,.z q1,.z q2,.ow true s3.1,.y s3.2,.un]:SL K)) (s7,rO) bZ))))))) (λs4=>(zZ (tY (vH (md:=.hp) (Dv (BP 3 rfl) (zj (α:=Int)).ex)) (zS (uN 3 rfl rfl (esc (Kw (Vf (zI 0 rfl) (zI 1 rfl)) (zI 2 rfl)))) (λp8=>(yI (λs12:LI=>([.z q0,.z q1,.z q2,.ow true s12,.y s4.2,.un]:SL K)) p8 bZ))) (yI (λs12:LI=>([.z q0,.z q1,.z q2,.ow true s12,.y s4.2,.un]:SL K)) s4.1 bZ)) (λje=>(Hw 3 rfl rfl))))))))) (by unfold PL;simp only[bnd])
def Tz(q0:LI) :Option ((Ir (List LI) (List (Str×LI)) (List LI))×LI):=(uH q0 ).bind λaK=>(((lJ aK.1 (8:Int)).bind λa3=>jq a3 (7:Int)).bind λb4=>some ((1:Int)+b4)).bind λnA=>(((jq aK.1 (8:Int)).bind λa5=>some (decide (a5=(1:Int)))).bind λb=>if b=true then(((lJ aK.1 (8:Int)).bind λa9=>jq a9 (5:Int)).bind λb10=>some ((8:Int)+b10)).bind λqN=>some qN else some nA).bind λs6=>((uO s6).bind λxs=>LQ (λ(w13:LI) (x12:Int)=>(uH w13 ).bind λr15=>(PL r15.1 x12 s6).bind λb16=>some (b16,r15.2)) aK.2 xs).bind λcg=>(some (([]:List (Str×LI)))).bind λlU=>((some ([("p":Str),("wet":Str),("darkness":Str)])).bind λxs=>wB (λ(Cm:(List (Str×LI))×LI) (x20:Str)=>((((uH Cm.2 ).bind λr23=>(uI r23.1 s6).bind λTw=>some (Tw,r23.2)).bind λr25=>some ((x20,r25.1),r25.2)).bind λr26=>(push Cm.1 r26.1).bind λZ0=>some (Z0,r26.2)).bind λeU=>some (eU.1,eU.2)) xs (lU,cg.2)).bind λuz=>((((lJ aK.1 (60:Int)).bind λa29=>jq a29 (4:Int)).bind λa30=>uO a30).bind λxs=>LQ (λ(w32:LI) (x31:Int)=>(uH w32 ).bind λr34=>(uI r34.1 s6).bind λb35=>some (b35,r34.2)) uz.2 xs).bind λjC=>some (Ir.mk cg.1 uz.1 jC.1,jC.2)
theorem nD:ao ["_law_rest","_law_cell_here","_law_many","_law_steps","_law_marks","_law_name","_law_fair"] ["_law_rest"] (zH j9):=fsc
abbrev zJf(K:PySem.W.Frag):Sp:=LC K (λa:Unit=>([]:SL K)) (λws a=>Tz ws )
theorem zM7(F:aZ K "_law_drawn" "_law_drawn" j9 f fd)(B:Bl K mg)(jW:bK P w K mg base k "_law_bits" ["_law_cell_here","_law_many"] (zL8 K))(dZ:bK P w K mg base k "_law_cell" ["_law_rest"] (ZX K))(nG:bK P w K mg base k "_law_next" ["_law_cell_here","_law_k","_law_many"] (zL6 K)):aq P w K mg base aO (k+1) f fd ["_law_rest"] (zJf K):=by
 refine zQ5 F nD (λ_=>rfl) (λ_=>rfl) λcdv A outer s H E hr=>?_
 have nd:=nD.nd
 refine⟨_,(zB (xQ 1 nd (zY dZ hr (zA (pv 0) zD))) (zB (xQ 2 nd (xL Uv zK (xL xg (xL Hf (pv 1) zK) zK))) (zB (yX (yH (Du K Int hr) (xL xg (pv 1) zK) zK (yS _)) (zB (xQ 2 nd (xL Uv zK (xL xg (xL Hf (pv 1) zK) zK))) zG) zG) (zB (BL (i:=3) (own:=["_law_k"]) (ix:=[2,0]) nd rfl rfl rfl rfl rfl (wW rfl B.range (zA (pv 2) zD)) (λC s H fp=>yO (i:=0) (show(["_law_k","_law_many","_law_rest"]:List Str).Nodup from by decide +kernel) rfl (Or.inl rfl)) (λC s H fp=>wJ) (λC s H fp=>(zY nG hr (zA (zY dZ hr (zA (pv 2) zD)) (zA (pv 0) (zA (pv 1) zD)))))) (zB (xQ 4 nd (wC zD)) (zB (xV aa2 rfl (yT K (wC (zA yF (zA yF (zA yF zD))))) (cN 5 nd) (zB (yJ (B_ K aa4 abd abe vE (pv 4) (zA (wX (zA (pv 5) (zA (zY jW hr (zA (zY dZ hr (zA (pv 0) zD)) (zA (pv 2) zD))) zD))) zD))) zG)) (zB (BL (i:=6) (own:=["_law_k"]) (ix:=[2,0]) nd rfl rfl rfl rfl rfl (wW rfl B.range (zA (xL xg (xL Hf (pv 1) zK) zK) zD)) (λC s H fp=>yO (i:=0) (show(["_law_k","_law_many","_law_rest"]:List Str).Nodup from by decide +kernel) rfl (Or.inl rfl)) (λC s H fp=>wJ) (λC s H fp=>(zY jW hr (zA (zY dZ hr (zA (pv 2) zD)) (zA (pv 1) zD))))) (zB (zQ (wX (zA (pv 3) (zA (pv 4) (zA (pv 6) zD))))) zG)))))))),?_⟩
 rintro Fa p q0 ⟨⟩
 exact qG.of (LK (Y7 true 1 (λ_=>⟨_,rfl,rfl⟩) (uo.ey (VN 0 rfl rfl zO))) (λaK=>(Mh [.nu (RL.mk (p:=p) aK.2),.y aK.1,.un,.un,.un,.un,.un] (LK (xI true 2 rfl rfl (esc (Vf (zV 1) (Kw (Rb (zI 1 rfl) (zV 8)) (zV 7))))) (λnA=>(Mh [.nu (RL.mk (p:=p) aK.2),.y aK.1,.y nA,.un,.un,.un,.un] (LK (tY (vH (md:=.hp) (Dv (Kw (zI 1 rfl) (zV 8)) (zV 1))) (zS (xI true 2 rfl rfl (esc (Vf (zV 8) (Kw (Rb (zI 1 rfl) (zV 8)) (zV 5))))) (λqN=>(yI (λs7:Int=>([.nu (RL.mk (p:=p) aK.2),.y aK.1,.y s7,.un,.un,.un,.un]:SL K)) qN bZ))) (yI (λs7:Int=>([.nu (RL.mk (p:=p) aK.2),.y aK.1,.y s7,.un,.un,.un,.un]:SL K)) nA bZ)) (λs6=>(Mh [.nu (RL.mk (p:=p) aK.2),.y aK.1,.y s6,.un,.un,.un,.un] (LK (Y7 true 3 (λ_=>⟨_,rfl,rfl⟩) (uo.ey (Sw.eyn (λ_=>⟨0,_,rfl,rfl⟩) (zLw (n:=true) (n':=true) (jf:=λw13:LI=>([.un,.y s6,.nu (RL.mk (p:=p) w13)]:SL K)) (no:=1) (ix:=[2,0]) 0 rfl rfl (zVa rfl rfl) (uL (zI 2 rfl)) (λw13=>yK 0 rfl rfl) (λw13 x12=>wg) (λw13 x12=>(Y8 (as:=(λa:Int×Int×Unit=>([.z a.1,.z a.2.1]:SL K))) (f:=(λa=>PL a.1 a.2.1 a.2.2.1)) (VN 2 rfl rfl zO) (λ_=>⟨2,_,rfl,rfl⟩) (λw14=>(zF (esc (zI 0 rfl)) (zF (esc (zI 1 rfl)) zO))))) (λw13 x12=>iT) (λw13 x12=>⟨2,rfl,rfl⟩))))) (λcg=>(Mh [.nu (RL.mk (p:=p) cg.2),.y aK.1,.y s6,.y cg.1,.un,.un,.un] (LK (v9 true 4 rfl rfl (zj (α:=Str×LI))) (λlU=>(Mh [.nu (RL.mk (p:=p) cg.2),.y aK.1,.y s6,.y cg.1,.ow true lU,.un,.un] (LK (vI (n:=true) (L:=(λCm:(List (Str×LI))×LI=>([.nu (RL.mk (p:=p) Cm.2),.y aK.1,.y s6,.y cg.1,.ow true Cm.1,.un,.un]:SL K))) (lU,cg.2) bZ (yU (Ht (xU (esc (BR "p")) (xU (esc (BR "wet")) (xU (esc (BR "darkness")) Hs))) (λa h=>aa0 ((vJ (vJ (vJ HN))) a h) (by decide))).ex) (λCm=>(yK 5 rfl rfl)) (λCm x20=>(zS (zMs (n:=true) 4 rfl rfl (λ_=>⟨rfl,rfl⟩) (zTo (n:=true) (i:=0) rfl rfl (λ_=>⟨0,_,rfl,rfl⟩) (esc (zI 5 rfl)) (Y8 (as:=(λa:Int×Unit=>([.z a.1]:SL K))) (f:=(λa=>uI a.1 a.2.1)) (VN 0 rfl rfl zO) (λ_=>⟨0,_,rfl,rfl⟩) (λw22=>(zF (esc (zI 2 rfl)) zO))))) (λeU=>(yI (λCm:(List (Str×LI))×LI=>([.nu (RL.mk (p:=p) Cm.2),.y aK.1,.y s6,.y cg.1,.ow true Cm.1,.un,.un]:SL K)) (eU.1,eU.2) bZ))))) (λuz=>(Mh [.nu (RL.mk (p:=p) uz.2),.y aK.1,.y s6,.y cg.1,.ow true uz.1,.un,.un] (LK (Y7 true 6 (λ_=>⟨_,rfl,rfl⟩) (uo.ey (Sw.eyn (λ_=>⟨0,_,rfl,rfl⟩) (zLw (n:=true) (n':=true) (jf:=λw32:LI=>([.un,.y s6,.nu (RL.mk (p:=p) w32)]:SL K)) (no:=1) (ix:=[2,0]) 0 rfl rfl (zVa rfl rfl) (uL (Kw (Rb (zI 1 rfl) (zV 60)) (zV 4))) (λw32=>yK 0 rfl rfl) (λw32 x31=>wg) (λw32 x31=>(Y8 (as:=(λa:Int×Unit=>([.z a.1]:SL K))) (f:=(λa=>uI a.1 a.2.1)) (VN 2 rfl rfl zO) (λ_=>⟨2,_,rfl,rfl⟩) (λw33=>(zF (esc (zI 1 rfl)) zO)))) (λw32 x31=>iT) (λw32 x31=>⟨2,rfl,rfl⟩))))) (λjC=>(Mh [.nu (RL.mk (p:=p) jC.2),.y aK.1,.y s6,.y cg.1,.ow true uz.1,.un,.y jC.1] (Fq (sl2:=[.nu (RL.mk (p:=p) jC.2),.y aK.1,.y s6,.y cg.1,.y uz.1,.un,.y jC.1]) bZ (zO0 0 rfl rfl (Fj (md:=d_ true) (zW 3 rfl) (zW 4 rfl) (zW 6 rfl))))))))))))))))))))))))) (by unfold Tz;simp only[bnd])
def PN(q0:aF C)(q1:aM cl)(q2:aM cl)(q3:Int):Option Bool:=(PK q0 q1).bind λc7=>(if(!true)=true then some true else((uO q3).bind λxs=>wR (λ(x2:Int)=>some (decide (x2∈c7))) (λ(x2:Int)=>some x2) xs).bind λb3=>some (!decide (c7=b3))).bind λb=>if b=true then some false else(PK q0 q2).bind λa4=>some (decide (a4=c7))
theorem nH:ao ["_law_machine","_law_one","_law_other","_law_many","_law_found"] ["_law_machine","_law_one","_law_other","_law_many"] (zH j_):=fsc
abbrev zJg(K:PySem.W.Frag)(C:Addr)(cl:Hd->Addr):Sp:=cL K false (λa:(aF C)×(aM cl)×(aM cl)×Int×Unit=>([.z a.1,.z a.2.1,.z a.2.2.1,.z a.2.2.2.1]:SL K)) (λa=>PN a.1 a.2.1 a.2.2.1 a.2.2.2.1)
theorem zM8(F:aZ K "_law_alike" "_law_alike" j_ f fd)(B:Bl K mg)(lV:bK P w K mg base k "holds" ["machine","saying"] (zRq K C cl)):aq P w K mg base aO (k+1) f fd ["_law_machine","_law_one","_law_other","_law_many"] (zJg K C cl):=by
 refine yL F nH (λ_=>rfl) (λ_=>rfl) λcdv A outer s H E hr=>?_
 have nd:=nH.nd
 refine⟨_,(zB (xQ 4 nd (zY lV hr (zA (pv 0) (zA (pv 1) zD)))) (zB (yX (PW.pt (pw_or (Qk (wV (zU (uE K (U_ (n:="list"))) rfl B.qj uF (zA (pv 4) (zA (Uk (v:=.ty "list") rfl B.list HD rfl) zD))))) (pw_or1 (yH (Ks K LI hr) (pv 4) (BK (own:=["_law_stand"]) (ix:=[4]) rfl rfl rfl (wW rfl B.range (zA (pv 3) zD)) (λC s H fp=>yO (i:=0) (show(["_law_stand","_law_found"]:List Str).Nodup from by decide +kernel) rfl (Or.inl rfl)) (λC s H fp=>QS (yH (zUz K) (pv 0) (pv 1) (by with_unfolding_all rfl))) (λC s H fp=>(pv 0))) (yS _))))) (zB (zQ Cw) zG) zG) (zB (zQ (WY (Du K LI hr) (zY lV hr (zA (pv 0) (zA (pv 2) zD))) (pv 4) (yS _))) zG))),?_⟩
 rintro Fa ⟨q0,q1,q2,q3,⟨⟩⟩
 exact SB.of (zZ (xI true 4 rfl rfl (zM (zF (zE 0 rfl) (zF (zE 1 rfl) zO)))) (λc7=>(uY (zf (QZ (cU (md:=.hp) (Vh B.ll rfl (zE 4 rfl)))) (vH (md:=.hp) (Ku (zE 4 rfl) (wL (n:=true) (jf:=[.un,.y c7]) (no:=1) (ix:=[4]) rfl rfl (uL (zI 3 rfl)) (yK 0 rfl rfl) (λx2=>(vH (md:=.hp) (Rf (zI 0 rfl) (zE 1 rfl)))) (λx2=>(esc (zI 0 rfl))) (λx2=>iT)).ex))) (yC (esc (Dn false))) (yC (esc (Dv (zM (zF (zE 0 rfl) (zF (zE 2 rfl) zO))) (zE 4 rfl))))))) (by unfold PN;simp only[bnd])
def PX(q0:aM cl)(q1:aM cl):Option (List ((aM cl)×(aM cl))):=(some ([((aM.mk (.one 2 q0.t):aM cl),(aM.mk (.one 0 ((aM.mk (.one 1 ((aM.mk (.one 0 q0.t):aM cl)).t):aM cl)).t):aM cl)),((aM.mk (.one 4 q0.t):aM cl),(aM.mk (.one 0 ((aM.mk (.one 5 ((aM.mk (.one 0 q0.t):aM cl)).t):aM cl)).t):aM cl))])).bind λnJ=>(t_ nJ ([((aM.mk (.one 6 q0.t):aM cl),(aM.mk (.one 0 ((aM.mk (.one 3 ((aM.mk (.one 0 q0.t):aM cl)).t):aM cl)).t):aM cl)),((aM.mk (.one 5 q0.t):aM cl),(aM.mk (.two 2 (aM.mk .all:aM cl).t q0.t):aM cl))])).bind λnO=>(t_ nO ([((aM.mk (.one 6 q0.t):aM cl),(aM.mk (.two 3 (aM.mk .all:aM cl).t q0.t):aM cl)),((aM.mk (.two 2 q0.t q1.t):aM cl),(aM.mk (.two 2 ((aM.mk (.two 1 q0.t q1.t):aM cl)).t q1.t):aM cl))])).bind λnQ=>(some ((aM.mk (.two 2 ((aM.mk (.one 0 q1.t):aM cl)).t ((aM.mk (.two 0 ((aM.mk (.one 0 q0.t):aM cl)).t ((aM.mk (.one 0 q1.t):aM cl)).t):aM cl)).t):aM cl))).bind λI_=>t_ nQ ([((aM.mk (.two 3 q0.t q1.t):aM cl),(aM.mk (.one 0 ((aM.mk (.two 1 ((aM.mk (.one 3 ((aM.mk (.one 0 q1.t):aM cl)).t):aM cl)).t I_.t):aM cl)).t):aM cl))])
theorem nU:ao ["_law_a","_law_b","_law_pairs_here","_law_lost"] ["_law_a","_law_b"] (zH kh):=fsc
abbrev zJd(K:PySem.W.Frag)(cl:Hd->Addr):Sp:=cL K true (λa:(aM cl)×(aM cl)×Unit=>([.z a.1,.z a.2.1]:SL K)) (λa=>PX a.1 a.2.1)
theorem zM6(F:aZ K "_law_pairs" "_law_pairs" kh f fd)(B:Bl K mg)(I:pO P w K mg base kS cl fi di)(hS:kS+1<=k):aq P w K mg base aO (k+1) f fd ["_law_a","_law_b"] (zJd K cl):=by
 refine yL F nU (λ_=>rfl) (λ_=>rfl) λcdv A outer s H E hr=>?_
 have nd:=nU.nd
 refine⟨_,(zB (xQ 2 nd (wC (zA (wX (zA (zX (I.ini.made (.one 2)) (I.ini.i1 2) (hr.mono hS) rfl (I.ini.m1 2) (I.ini.b1 2) .nil yE (zA (pv 0) zD)) (zA (zX (I.ini.made (.one 0)) (I.ini.i1 0) (hr.mono hS) rfl (I.ini.m1 0) (I.ini.b1 0) .nil yE (zA (zX (I.ini.made (.one 1)) (I.ini.i1 1) (hr.mono hS) rfl (I.ini.m1 1) (I.ini.b1 1) .nil yE (zA (zX (I.ini.made (.one 0)) (I.ini.i1 0) (hr.mono hS) rfl (I.ini.m1 0) (I.ini.b1 0) .nil yE (zA (pv 0) zD)) zD)) zD)) zD))) (zA (wX (zA (zX (I.ini.made (.one 4)) (I.ini.i1 4) (hr.mono hS) rfl (I.ini.m1 4) (I.ini.b1 4) .nil yE (zA (pv 0) zD)) (zA (zX (I.ini.made (.one 0)) (I.ini.i1 0) (hr.mono hS) rfl (I.ini.m1 0) (I.ini.b1 0) .nil yE (zA (zX (I.ini.made (.one 5)) (I.ini.i1 5) (hr.mono hS) rfl (I.ini.m1 5) (I.ini.b1 5) .nil yE (zA (zX (I.ini.made (.one 0)) (I.ini.i1 0) (hr.mono hS) rfl (I.ini.m1 0) (I.ini.b1 0) .nil yE (zA (pv 0) zD)) zD)) zD)) zD))) zD)))) (zB (xQ 2 nd (xL Xl (pv 2) (wC (zA (wX (zA (zX (I.ini.made (.one 6)) (I.ini.i1 6) (hr.mono hS) rfl (I.ini.m1 6) (I.ini.b1 6) .nil yE (zA (pv 0) zD)) (zA (zX (I.ini.made (.one 0)) (I.ini.i1 0) (hr.mono hS) rfl (I.ini.m1 0) (I.ini.b1 0) .nil yE (zA (zX (I.ini.made (.one 3)) (I.ini.i1 3) (hr.mono hS) rfl (I.ini.m1 3) (I.ini.b1 3) .nil yE (zA (zX (I.ini.made (.one 0)) (I.ini.i1 0) (hr.mono hS) rfl (I.ini.m1 0) (I.ini.b1 0) .nil yE (zA (pv 0) zD)) zD)) zD)) zD))) (zA (wX (zA (zX (I.ini.made (.one 5)) (I.ini.i1 5) (hr.mono hS) rfl (I.ini.m1 5) (I.ini.b1 5) .nil yE (zA (pv 0) zD)) (zA (zX (I.ini.made (.two 2)) (I.ini.i2 2) (hr.mono hS) rfl (I.ini.m2 2) (I.ini.b2 2) .nil yE (zA (W4 (I.ini.made .all) I.ini.iA (hr.mono hS) rfl I.ini.mA I.ini.bA .nil yE) (zA (pv 0) zD))) zD))) zD))))) (zB (xQ 2 nd (xL Xl (pv 2) (wC (zA (wX (zA (zX (I.ini.made (.one 6)) (I.ini.i1 6) (hr.mono hS) rfl (I.ini.m1 6) (I.ini.b1 6) .nil yE (zA (pv 0) zD)) (zA (zX (I.ini.made (.two 3)) (I.ini.i2 3) (hr.mono hS) rfl (I.ini.m2 3) (I.ini.b2 3) .nil yE (zA (W4 (I.ini.made .all) I.ini.iA (hr.mono hS) rfl I.ini.mA I.ini.bA .nil yE) (zA (pv 0) zD))) zD))) (zA (wX (zA (zX (I.ini.made (.two 2)) (I.ini.i2 2) (hr.mono hS) rfl (I.ini.m2 2) (I.ini.b2 2) .nil yE (zA (pv 0) (zA (pv 1) zD))) (zA (zX (I.ini.made (.two 2)) (I.ini.i2 2) (hr.mono hS) rfl (I.ini.m2 2) (I.ini.b2 2) .nil yE (zA (zX (I.ini.made (.two 1)) (I.ini.i2 1) (hr.mono hS) rfl (I.ini.m2 1) (I.ini.b2 1) .nil yE (zA (pv 0) (zA (pv 1) zD))) (zA (pv 1) zD))) zD))) zD))))) (zB (xQ 3 nd (zX (I.ini.made (.two 2)) (I.ini.i2 2) (hr.mono hS) rfl (I.ini.m2 2) (I.ini.b2 2) .nil yE (zA (zX (I.ini.made (.one 0)) (I.ini.i1 0) (hr.mono hS) rfl (I.ini.m1 0) (I.ini.b1 0) .nil yE (zA (pv 1) zD)) (zA (zX (I.ini.made (.two 0)) (I.ini.i2 0) (hr.mono hS) rfl (I.ini.m2 0) (I.ini.b2 0) .nil yE (zA (zX (I.ini.made (.one 0)) (I.ini.i1 0) (hr.mono hS) rfl (I.ini.m1 0) (I.ini.b1 0) .nil yE (zA (pv 0) zD)) (zA (zX (I.ini.made (.one 0)) (I.ini.i1 0) (hr.mono hS) rfl (I.ini.m1 0) (I.ini.b1 0) .nil yE (zA (pv 1) zD)) zD))) zD)))) (zB (zQ (xL Xl (pv 2) (wC (zA (wX (zA (zX (I.ini.made (.two 3)) (I.ini.i2 3) (hr.mono hS) rfl (I.ini.m2 3) (I.ini.b2 3) .nil yE (zA (pv 0) (zA (pv 1) zD))) (zA (zX (I.ini.made (.one 0)) (I.ini.i1 0) (hr.mono hS) rfl (I.ini.m1 0) (I.ini.b1 0) .nil yE (zA (zX (I.ini.made (.two 1)) (I.ini.i2 1) (hr.mono hS) rfl (I.ini.m2 1) (I.ini.b2 1) .nil yE (zA (zX (I.ini.made (.one 3)) (I.ini.i1 3) (hr.mono hS) rfl (I.ini.m1 3) (I.ini.b1 3) .nil yE (zA (zX (I.ini.made (.one 0)) (I.ini.i1 0) (hr.mono hS) rfl (I.ini.m1 0) (I.ini.b1 0) .nil yE (zA (pv 1) zD)) zD)) (zA (pv 3) zD))) zD)) zD))) zD)))) zG))))),?_⟩
 rintro Fa ⟨q0,q1,⟨⟩⟩
 exact SB.of (zZ (xI false 2 rfl rfl (Ht (xU (Dp (xK 2 (zW 0 rfl)) (xK 0 (xK 1 (xK 0 (zW 0 rfl))))) (xU (Dp (xK 4 (zW 0 rfl)) (xK 0 (xK 5 (xK 0 (zW 0 rfl))))) Hs)) (λa h=>aa0 ((vJ (vJ HN)) a h) (by decide))).ex) (λnJ=>(zZ (xI false 2 rfl rfl (Zc (n:=false) (zW 2 rfl) (Ht (xU (Dp (xK 6 (zW 0 rfl)) (xK 0 (xK 3 (xK 0 (zW 0 rfl))))) (xU (Dp (xK 5 (zW 0 rfl)) (Fd 2 (zQq (cl:=cl)) (zW 0 rfl))) Hs)) (λa h=>aa0 ((vJ (vJ HN)) a h) (by decide))).ex).ex) (λnO=>(zZ (xI false 2 rfl rfl (Zc (n:=false) (zW 2 rfl) (Ht (xU (Dp (xK 6 (zW 0 rfl)) (Fd 3 (zQq (cl:=cl)) (zW 0 rfl))) (xU (Dp (Fd 2 (zW 0 rfl) (zW 1 rfl)) (Fd 2 (Fd 1 (zW 0 rfl) (zW 1 rfl)) (zW 1 rfl))) Hs)) (λa h=>aa0 ((vJ (vJ HN)) a h) (by decide))).ex).ex) (λnQ=>(zZ (xI false 3 rfl rfl (Fd 2 (xK 0 (zW 1 rfl)) (Fd 0 (xK 0 (zW 0 rfl)) (xK 0 (zW 1 rfl))))) (λI_=>(yC (Zc (n:=false) (zW 2 rfl) (Ht (xU (Dp (Fd 3 (zW 0 rfl) (zW 1 rfl)) (xK 0 (Fd 1 (xK 3 (xK 0 (zW 1 rfl))) (zW 3 rfl)))) Hs) (λa h=>aa0 ((vJ HN) a h) (by decide))).ex).ex))))))))) (by unfold PX;simp only[bnd])
end
open PySem L2
def TF(n:Int)(xs:LI):Prop:=xs≠[]/\xs.Nodup/\xs.length<=60/\∀z∈xs,0<=z/\z<n
structure Gr{C:Addr}(m:aF C)(n:Int):Prop where
 len:(m.steps.length:Int)=n
 pos:1<=n
 few:n<=60
 row:∀xs∈m.steps,xs≠[]/\xs.Nodup/\∀z∈xs,0<=z/\z<n
 src:m.sources=srcs m.steps
def nxt(xss:List LI)(s:Int):LI:=xss.getD s.toNat []
theorem FZ:x∈src xss j↔0<=x/\x<(xss.length:Int)/\(j:Int)∈nxt xss x:=by
 unfold src nxt
 rw[mem_map]
 constructor
 ·rintro⟨k,h,rfl⟩
  rw[mem_filter,mem_range] at h
  have h2:=of_decide_eq_true h.2
  exact⟨ac0 _,by show(k:Int)<_;omega,h2⟩
 ·intro⟨h0,h1,h2⟩
  refine⟨x.toNat,?_,by show((x.toNat:Nat):Int)=x;omega⟩
  rw[mem_filter,mem_range]
  exact⟨by omega,decide_eq_true h2⟩
theorem Wc{C:Addr}{m:aF C}(g:Gr m n):yV m=some n:=by
 unfold yV
 rw[g.len]
theorem zRz{C:Addr}{m:aF C}(g:Gr m n)(h0:0<=s)(h1:s<n):W (xS m s) λxs=>∀x,x∈xs↔0<=x/\x<n/\s∈nxt m.steps x:=by
 unfold xS
 rw[dM h0,g.src]
 have hl:=g.len
 refine⟨_,zOs (by omega),λx=>?_⟩
 rw[FZ,hl,show((s.toNat:Nat):Int)=s by omega]
theorem TJ{α:Type}{xs:List α}{a d:α}(h:i<xs.length):(xs.set i a).getD j d=if j=i then a else xs.getD j d:=by
 rw[getD_eq_getElem?_getD,getD_eq_getElem?_getD,aco]
 by_cases e:i=j
 ·subst e;simp[h]
 ·rw[if_neg e,if_neg (acg e)]
theorem zOc{C:Addr}{m:aF C}(g:Gr m n)(hx:∀x∈xs,0<=x/\x<n):W (Pz m xs) λfl=>(fl.length:Int)=n/\∀s:Int,0<=s->s<n->fl.getD s.toNat false=decide (s∈xs):=by
 unfold Pz
 have hp:=g.pos
 have hf:=g.few
 simp only[zC,aj,Wc g,dH]
 refine⟨⟨by omega,by omega⟩,?_⟩
 rw[HW (λ_=>false)]
 have e:=Ca (n:=n) (by omega)
 refine⟨xA (by omega),vK (λi fl=>(fl.length:Int)=n/\∀s:Int,0<=s->s<n->fl.getD s.toNat false=decide (s∈xs.take i)) ⟨by rw[length_map];exact e,λs _ _=>?_⟩ (λi x fl hi hI=>?_) λfl hI=>?_⟩
 ·rw[getD_eq_getElem?_getD,getElem?_map]
  cases(rng n)[s.toNat]?<;>simp
 ·have hxx:=hx x (mem_of_getElem? hi)
  simp only[zC,aj]
  rw[Rq hxx.1 (by omega)]
  refine⟨by rw[length_set];exact hI.1,λs s0 s1=>?_⟩
  rw[TJ (by omega)]
  have tk:xs.take (i+1)=xs.take i++[x]:=by rw[take_add_one,hi]<;>rfl
  by_cases q:s.toNat=x.toNat
  ·have:s=x:=by omega
   subst this
   rw[if_pos rfl,tk];simp
  ·have:s≠x:=λz=>q (by rw[z])
   rw[if_neg q,hI.2 s s0 s1,tk]
   simp[this]
 ·rw[take_length] at hI
  exact hI
abbrev dg(d:List (Option Int))(s:Int):Option Int:=d.getD s.toNat none
structure rP(xss:List LI)(through goal:LI)(n:Int)(d:List (Option Int)):Prop where
 len:(d.length:Int)=n
 pos:∀s k,0<=s->s<n->dg d s=some k->0<=k/\k<n
 zero:∀s,0<=s->s<n->(dg d s=some 0↔s∈goal)
 via:∀s k,0<=s->s<n->dg d s=some k->s∉goal->s∈through/\∃t∈nxt xss s,0<=t/\t<n/\dg d t=some (k-1)
 near:∀s t k,0<=s->s<n->0<=t->t<n->s∈through->t∈nxt xss s->dg d t=some k->∃j,dg d s=some j/\j<=k+1
structure Bf(xss:List LI)(pass:Int->Prop)(goal:LI)(n:Int)(d:List (Option Int))(row:LI)(place:Nat):Prop where
 len:(d.length:Int)=n
 rng:∀s∈row,0<=s/\s<n
 nd:row.Nodup
 iff:∀s:Int,0<=s->s<n->((dg d s).isSome=true↔s∈row)
 idx:∀(i:Nat)(s:Int),row[i]?=some s->∃k:Int,dg d s=some k/\0<=k/\k<=i
 mono:∀(i j:Nat)(s t k l:Int),i<=j->row[i]?=some s->row[j]?=some t->dg d s=some k->dg d t=some l->k<=l
 top:∀(j:Nat)(s t k l:Int),row[place]?=some s->row[j]?=some t->dg d s=some k->dg d t=some l->l<=k+1
 zero:∀s:Int,0<=s->s<n->(dg d s=some 0↔s∈goal)
 via:∀(s k:Int),s∈row->dg d s=some k->s∉goal->pass s/\∃t∈nxt xss s,0<=t/\t<n/\dg d t=some (k-1)
 done:∀(i:Nat)(s t k:Int),i<place->row[i]?=some t->dg d t=some k->0<=s->s<n->pass s->t∈nxt xss s->∃j,dg d s=some j/\j<=k+1
theorem Z1{d:List (Option Int)}(hl:(d.length:Int)=n)(h0:0<=s)(h1:s<n)(t0:0<=t):dg (d.set s.toNat v) t=if t=s then v else dg d t:=by
 show(d.set s.toNat v).getD t.toNat none=_
 rw[TJ (by omega)]
 by_cases e:t=s
 ·rw[if_pos e,if_pos (by rw[e])]
 ·rw[if_neg e,if_neg (by omega)]
theorem P0{row:LI}{i:Nat}{s x:Int}(h:(row++[x])[i]?=some s):row[i]?=some s\/(i=row.length/\s=x):=by
 by_cases q:i<row.length
 ·rw[getElem?_append_left q] at h;exact .inl h
 ·rw[getElem?_append_right (by omega)] at h
  have:i-row.length=0:=by
   have:=yY h
   simp at this
   omega
  rw[this] at h
  exact .inr ⟨by omega,(aas h).symm⟩
structure Bm(xss:List LI)(pass:Int->Prop)(goal:LI)(n:Int)(d:List (Option Int))(row:LI)(place:Nat)(t k:Int)(seen:LI):Prop where
 bf:Bf xss pass goal n d row place
 at_:row[place]?=some t
 k_:dg d t=some k
 tu:∀s∈seen,pass s->∃j,dg d s=some j/\j<=k+1
theorem Bm.put(b:Bm xss pass goal n d row place t k seen)(hx0:0<=x)(hx1:x<n)(hp:pass x)(hn:dg d x=none)(ht:t∈nxt xss x) :
  Bm xss pass goal n (d.set x.toNat (some (k+1))) (row++[x]) place t k (seen++[x]):=by
 have B:=b.bf
 have tr:=B.rng t (mem_of_getElem? b.at_)
 have xr:x∉row:=λh=>by have:=(B.iff x hx0 hx1).mpr h;rw[hn] at this;cases this
 have tx:t≠x:=λe=>xr (e▸mem_of_getElem? b.at_)
 obtain⟨k',e1,k0,kp⟩:=B.idx place t b.at_
 rw[b.k_] at e1
 cases e1
 have pl:=yY b.at_
 have old:∀s:Int,0<=s->s≠x->dg (d.set x.toNat (some (k+1))) s=dg d s:=λs s0 q=>by rw[Z1 B.len hx0 hx1 s0,if_neg q]
 have new:dg (d.set x.toNat (some (k+1))) x=some (k+1):=by rw[Z1 B.len hx0 hx1 hx0,if_pos rfl]
 have inr:∀{i:Nat}{s:Int},row[i]?=some s->0<=s/\s<n/\s≠x:=λh=>by
  have:=B.rng _ (mem_of_getElem? h)
  exact⟨this.1,this.2,λe=>xr (e▸mem_of_getElem? h)⟩
 refine⟨⟨by rw[length_set];exact B.len,λs hs=>?_,?_,λs s0 s1=>?_,λi s h=>?_,λi j s u a l ij h1 h2 h3 h4=>?_,λj s u a l h1 h2 h3 h4=>?_,λs s0 s1=>?_,λs a hs h1 h2=>?_,λi s u a hi h1 h2 s0 s1 ps hu=>?_⟩,?_,?_,λs hs ps=>?_⟩
 ·rcases mem_append.mp hs with q|q
  ·exact B.rng s q
  ·rw[mem_singleton.mp q];exact⟨hx0,hx1⟩
 ·rw[nodup_append]
  exact⟨B.nd,by simp,λa ha c hc e=>by rw[mem_singleton.mp hc] at e;exact xr (e▸ha)⟩
 ·by_cases e:s=x
  ·subst e;rw[new];simp
  ·rw[old s s0 e,B.iff s s0 s1];simp[e]
 ·rcases P0 h with h|⟨rfl,rfl⟩
  ·obtain⟨a1,a2,a3⟩:=inr h
   rw[old s a1 a3];exact B.idx i s h
  ·exact⟨k+1,new,by omega,by omega⟩
 ·rcases P0 h1 with g1|⟨rfl,rfl⟩
  ·obtain⟨a1,a2,a3⟩:=inr g1
   rw[old s a1 a3] at h3
   rcases P0 h2 with g2|⟨rfl,rfl⟩
   ·obtain⟨b1,b2,b3⟩:=inr g2
    rw[old u b1 b3] at h4
    exact B.mono i j s u a l ij g1 g2 h3 h4
   ·rw[new] at h4
    cases h4
    exact B.top i t s k a b.at_ g1 b.k_ h3
  ·rcases P0 h2 with h2|⟨rfl,rfl⟩
   ·have:=yY h2;omega
   ·rw[h3] at h4;cases h4;exact aef _
 ·have h1':s=t:=by
   rcases P0 h1 with h1|⟨e,_⟩
   ·rw[b.at_] at h1;exact(aas h1).symm
   ·omega
  subst h1'
  rw[old s tr.1 tx,b.k_] at h3
  cases h3
  rcases P0 h2 with h2|⟨rfl,rfl⟩
  ·obtain⟨b1,b2,b3⟩:=inr h2
   rw[old u b1 b3] at h4
   exact B.top j s u k l b.at_ h2 b.k_ h4
  ·rw[new] at h4;cases h4;exact aef _
 ·by_cases e:s=x
  ·subst e
   rw[new]
   constructor
   ·intro q;have q:=aas q;omega
   ·intro q;have:=(B.zero s s0 s1).mpr q;rw[hn] at this;cases this
  ·rw[old s s0 e];exact B.zero s s0 s1
 ·rcases mem_append.mp hs with q|q
  ·have sr:=B.rng s q
   have sx:s≠x:=λe=>xr (e▸q)
   rw[old s sr.1 sx] at h1
   obtain⟨p1,u,u1,u2,u3,u4⟩:=B.via s a q h1 h2
   refine⟨p1,u,u1,u2,u3,?_⟩
   rw[old u u2 λe=>by rw[e,hn] at u4;cases u4]
   exact u4
  ·have:=mem_singleton.mp q
   subst this
   rw[new] at h1
   cases h1
   exact⟨hp,t,ht,tr.1,tr.2,by rw[old t tr.1 tx,b.k_,show k+1-1=k by omega]⟩
 ·have h1':row[i]?=some u:=by rw[getElem?_append_left (by omega)] at h1;exact h1
  obtain⟨b1,b2,b3⟩:=inr h1'
  rw[old u b1 b3] at h2
  obtain⟨j,q1,q2⟩:=B.done i s u a hi h1' h2 s0 s1 ps hu
  by_cases e:s=x
  ·subst e;rw[hn] at q1;cases q1
  ·exact⟨j,by rw[old s s0 e];exact q1,q2⟩
 ·rw[getElem?_append_left pl];exact b.at_
 ·rw[old t tr.1 tx];exact b.k_
 ·rcases mem_append.mp hs with q|q
  ·obtain⟨j,q1,q2⟩:=b.tu s q ps
   by_cases e:s=x
   ·subst e;rw[hn] at q1;cases q1
   ·by_cases s0:0<=s
    ·exact⟨j,by rw[old s s0 e];exact q1,q2⟩
    ·refine⟨j,?_,q2⟩
     show(d.set x.toNat (some (k+1))).getD s.toNat none=some j
     have z:s.toNat=0:=by omega
     rw[TJ (by have:=B.len;omega)]
     by_cases w:s.toNat=x.toNat
     ·have xz:x=0:=by omega
      have q1':d.getD s.toNat none=some j:=q1
      have hn':d.getD x.toNat none=none:=hn
      rw[w] at q1'
      rw[q1'] at hn'
      cases hn'
     ·rw[if_neg w];exact q1
  ·rw[mem_singleton.mp q];exact⟨k+1,new,aef _⟩
theorem zJl{C:Addr}{m:aF C}(g:Gr m n){goal:LI}(ht:∀x∈through,0<=x/\x<n)(hg:goal.Nodup/\∀x∈goal,0<=x/\x<n):W (uT m through goal) (rP m.steps through goal n):=by
 unfold uT
 have hp:=g.pos
 have hf:=g.few
 simp only[zC,aj,Wc g,dH]
 refine(zOc g ht).imp λfl ⟨fl1,fl2⟩=>⟨⟨by omega,by omega⟩,?_⟩
 rw[HW (λ_=>(none:Option Int))]
 have e:=Ca (n:=n) (by omega)
 refine⟨xA (by omega),vK (λi (d:List (Option Int))=>(d.length:Int)=n/\∀s:Int,0<=s->s<n->dg d s=if s∈goal.take i then some 0 else none) ⟨by rw[length_map];exact e,λs _ _=>?_⟩ (λi x d hi hI=>?_) λd hd=>?_⟩
 ·show(List.map (λ_=>(none:Option Int)) (rng n)).getD s.toNat none=_
  rw[getD_eq_getElem?_getD,getElem?_map]
  cases(rng n)[s.toNat]?<;>simp
 ·have hx:=hg.2 x (mem_of_getElem? hi)
  simp only[zC,aj]
  rw[Rq hx.1 (by omega)]
  refine⟨by rw[length_set];exact hI.1,λs s0 s1=>?_⟩
  have tk:goal.take (i+1)=goal.take i++[x]:=by rw[take_add_one,hi]<;>rfl
  rw[Z1 hI.1 hx.1 hx.2 s0,hI.2 s s0 s1,tk]
  by_cases q:s=x<;>simp[q]
 rw[take_length] at hd
 have base:Bf m.steps (· ∈ through) goal n d goal 0:=by
  have z:∀s:Int,0<=s->s<n->∀k,dg d s=some k->k=0/\s∈goal:=λs s0 s1 k h=>by
   rw[hd.2 s s0 s1] at h
   split at h
   ·rename_i q;cases h;exact⟨rfl,q⟩
   ·cases h
  refine⟨hd.1,hg.2,hg.1,λs s0 s1=>?_,λi s h=>?_,λi j s t k l _ h1 h2 h3 h4=>?_,λj s t k l h1 h2 h3 h4=>?_,λs s0 s1=>?_,λs k hs h1 h2=>absurd hs h2,λi s t k hi=>by omega⟩
  ·rw[hd.2 s s0 s1];by_cases q:s∈goal<;>simp[q]
  ·have hs:=mem_of_getElem? h
   have:=hg.2 s hs
   exact⟨0,by rw[hd.2 s this.1 this.2,if_pos hs],aef _,by omega⟩
  ·have a1:=hg.2 s (mem_of_getElem? h1)
   have a2:=hg.2 t (mem_of_getElem? h2)
   have:=(z s a1.1 a1.2 k h3).1
   have:=(z t a2.1 a2.2 l h4).1
   omega
  ·have a1:=hg.2 s (mem_of_getElem? h1)
   have a2:=hg.2 t (mem_of_getElem? h2)
   have:=(z s a1.1 a1.2 k h3).1
   have:=(z t a2.1 a2.2 l h4).1
   omega
  ·rw[hd.2 s s0 s1];by_cases q:s∈goal<;>simp[q]
 have Z2:n.toNat<=60:=by omega
 refine DW (λs=>∃pl:Nat,s.2.2=(pl:Int)/\Bf m.steps (· ∈ through) goal n s.1 s.2.1 pl) (λs=>n.toNat-s.2.2.toNat) ⟨0,rfl,base⟩ (show n.toNat-(0:Int).toNat<fuel from aav (Nat.sub_le _ _) (aav Z2 (by decide))) λs ⟨pl,hpl,B⟩=>?_
 rw[aj]
 have rl:s.2.1.length<=n.toNat:=wA B.nd λx hx=>by have:=B.rng x hx;omega
 by_cases lt:s.2.2<(s.2.1.length:Int)
 ·rw[decide_eq_true lt,if_pos rfl]
  simp only[zC,aj]
  rw[dM (by omega)]
  have pll:pl<s.2.1.length:=by omega
  have e1:s.2.2.toNat=pl:=by omega
  rw[e1]
  refine⟨_,aap pll,?_⟩
  have hat:s.2.1[pl]?=some s.2.1[pl]:=aap pll
  generalize s.2.1[pl]=t at hat
  have tr:=B.rng t (mem_of_getElem? hat)
  obtain⟨k,hk,k0,k1⟩:=B.idx pl t hat
  refine(zRz g tr.1 tr.2).imp λxs hxs=>?_
  refine vK (λi (r:List (Option Int)×LI)=>Bm m.steps (· ∈ through) goal n r.1 r.2 pl t k (xs.take i)) ⟨B,hat,hk,λs hs=>by cases hs⟩ (λi x r hi b=>?_) λr b=>?_
  ·have hx:=(hxs x).mp (mem_of_getElem? hi)
   have tk:xs.take (i+1)=xs.take i++[x]:=by rw[take_add_one,hi]<;>rfl
   rw[tk]
   simp only[zC,aj]
   rw[dM hx.1]
   have fx:=fl2 x hx.1 hx.2.1
   have fl3:x.toNat<fl.length:=by omega
   refine⟨_,aap fl3,?_⟩
   rw[getD_eq_getElem?_getD,aap fl3] at fx
   have fx:fl[x.toNat]=decide (x∈through):=fx
   rw[fx]
   have dl:x.toNat<r.1.length:=by have:=b.bf.len;omega
   have dx:dg r.1 x=r.1[x.toNat]:=by show r.1.getD x.toNat none=_;rw[getD_eq_getElem?_getD,aap dl];rfl
   by_cases px:x∈through
   ·rw[decide_eq_true px,if_pos rfl,zC,dM hx.1]
    refine⟨_,aap dl,?_⟩
    rw[<-dx,aj]
    cases hdx:dg r.1 x with
    |none =>
     simp only[Option.isNone_none,if_true,zC,aj]
     have tr':t.toNat<r.1.length:=by have:=b.bf.len;omega
     rw[dM tr.1]
     refine⟨_,aap tr',?_⟩
     have ek:r.1[t.toNat]=some k:=by
      have:=b.k_
      have z:r.1.getD t.toNat none=some k:=this
      rw[getD_eq_getElem?_getD,aap tr'] at z
      exact z
     rw[ek,aj,Rq hx.1 (by have:=b.bf.len;omega),HS]
     have rl2:r.2.length<=n.toNat:=wA b.bf.nd λx hx=>by have:=b.bf.rng x hx;omega
     exact⟨xA (by omega),b.put hx.1 hx.2.1 px hdx hx.2.2⟩
    |some j =>
     simp only[Option.isNone_some,aax,if_false,aj]
     refine⟨b.bf,b.at_,b.k_,λs hs ps=>?_⟩
     rcases mem_append.mp hs with q|q
     ·exact b.tu s q ps
     ·rw[mem_singleton.mp q]
      have hin:x∈r.2:=(b.bf.iff x hx.1 hx.2.1).mp (by rw[hdx];rfl)
      obtain⟨ii,hii⟩:=mem_iff_getElem?.mp hin
      exact⟨j,hdx,b.bf.top ii t x k j b.at_ hii b.k_ hdx⟩
   ·rw[decide_eq_false px,if_neg (by decide),aj]
    simp only[aax,if_false,aj]
    refine⟨b.bf,b.at_,b.k_,λs hs ps=>?_⟩
    rcases mem_append.mp hs with q|q
    ·exact b.tu s q ps
    ·rw[mem_singleton.mp q] at ps;exact absurd ps px
  ·rw[take_length] at b
   refine⟨⟨pl+1,by show s.2.2+1=_;omega,?_⟩,?_⟩
   ·have B':=b.bf
    refine⟨B'.len,B'.rng,B'.nd,B'.iff,B'.idx,B'.mono,λj u v a l h1 h2 h3 h4=>?_,B'.zero,B'.via,λi u v a hi h1 h2 u0 u1 pu hu=>?_⟩
    ·have q1:=B'.mono pl (pl+1) t u k a (by omega) b.at_ h1 b.k_ h3
     have q2:=B'.top j t v k l b.at_ h2 b.k_ h4
     omega
    ·by_cases q:i=pl
     ·subst q
      rw[b.at_] at h1
      cases h1
      rw[b.k_] at h2
      cases h2
      exact b.tu u ((hxs u).mpr ⟨u0,u1,hu⟩) pu
     ·exact B'.done i u v a (by omega) h1 h2 u0 u1 pu hu
   ·show n.toNat-(s.2.2+1).toNat<n.toNat-pl
    omega
 ·rw[decide_eq_false lt,if_neg (by decide)]
  have all:∀t∈s.2.1,∃i,i<pl/\s.2.1[i]?=some t:=λt h=>by
   obtain⟨i,hi⟩:=mem_iff_getElem?.mp h
   exact⟨i,by have:=yY hi;omega,hi⟩
  refine⟨B.len,λu k u0 u1 h=>?_,B.zero,λu k u0 u1 h hu=>?_,λu t k u0 u1 t0 t1 hu ht hk=>?_⟩
  ·have hin:=(B.iff u u0 u1).mp (by rw[h];rfl)
   obtain⟨i,hi⟩:=mem_iff_getElem?.mp hin
   obtain⟨k',e1,e2,e3⟩:=B.idx i u hi
   rw[h] at e1
   cases e1
   have:=yY hi
   exact⟨e2,by omega⟩
  ·exact B.via u k ((B.iff u u0 u1).mp (by rw[h];rfl)) h hu
  ·obtain⟨i,h1,h2⟩:=all t ((B.iff t t0 t1).mp (by rw[hk];rfl))
   exact B.done i u t k h1 h2 hk u0 u1 hu ht
theorem Z4{xss:List LI}(hl:(xss.length:Int)=n)(h0:0<=s)(h1:s<n):xss[s.toNat]?=some (nxt xss s):=by
 have:s.toNat<xss.length:=by omega
 unfold nxt
 rw[getD_eq_getElem?_getD,aap this]
 rfl
theorem Z5:∀{xs ys:LI},xs.Pairwise (· < ·)->ys.Pairwise (· < ·)->(∀s,s∈xs↔s∈ys)->xs=ys
 |[],[],_,_,_=>rfl
 |[],y::ys,_,_,h=>by have:=(h y).mpr mem_cons_self;cases this
 |x::xs,[],_,_,h=>by have:=(h x).mp mem_cons_self;cases this
 |x::xs,y::ys,h1,h2,h=>by
  have a1:=pairwise_cons.mp h1
  have a2:=pairwise_cons.mp h2
  have e:x=y:=by
   rcases mem_cons.mp ((h x).mp mem_cons_self) with q|q
   ·exact q
   ·rcases mem_cons.mp ((h y).mpr mem_cons_self) with r|r
    ·exact r.symm
    ·have:=a1.1 y r;have:=a2.1 x q;omega
  subst e
  rw[Z5 a1.2 a2.2 λs=>?_]
  constructor
  ·intro q
   rcases mem_cons.mp ((h s).mp (mem_cons_of_mem _ q)) with r|r
   ·have:=a1.1 s q;omega
   ·exact r
  ·intro q
   rcases mem_cons.mp ((h s).mpr (mem_cons_of_mem _ q)) with r|r
   ·have:=a2.1 s q;omega
   ·exact r
theorem zUq(n:Int):(rng n).Pairwise (· < ·):=by
 unfold rng
 rw[List.pairwise_map]
 exact List.pairwise_lt_range.imp λh=>by show(_:Int)<_;simpa using h
def pick(n:Int)(p:Int->Bool):LI:=(rng n).filter p
theorem dz:s∈pick n p↔0<=s/\s<n/\p s=true:=by
 unfold pick
 rw[mem_filter,jM,and_assoc]
theorem yR(n:Int)(p:Int->Bool):aH n (pick n p):=⟨(zUq n).filter p,λx hx=>by have:=dz.mp hx;omega⟩
theorem Ga(h:aH n xs)(e:∀s,0<=s->s<n->(s∈xs↔p s=true)):xs=pick n p :=
 Z5 h.1 (yR n p).1 λs=>by
  rw[dz]
  constructor
  ·intro q;have:=h.2 s q;exact⟨this.1,this.2,(e s this.1 this.2).mp q⟩
  ·intro⟨a,b,c⟩;exact(e s a b).mpr c
theorem zTw{d:List (Option Int)}(hl:(d.length:Int)=n):zp d=(rng n).map λs=>(s,dg d s):=by
 refine ext_getElem? λi=>?_
 have e:n.toNat=d.length:=by omega
 by_cases q:i<d.length
 ·have h1:(rng n)[i]?=some (i:Int):=by unfold rng;rw[getElem?_map,getElem?_range (by omega)];rfl
  rw[getElem?_map,h1]
  unfold zp
  rw[List.getElem?_zip_eq_some (z:=((i:Int),dg d i))|>.mpr ⟨?_,?_⟩]
  ·rfl
  ·rw[getElem?_map,getElem?_range q];rfl
  ·show d[i]?=some (d.getD ((i:Int).toNat) none)
   rw[abo,getD_eq_getElem?_getD,aap q];rfl
 ·rw[aa9 (by rw[zIz];omega),aa9 (by rw[length_map];unfold rng;rw[length_map,length_range];omega)]
theorem Gb:W (dput kvs k v) Q↔kvs.length<cap/\Q (pK kvs (abh k) v):=by
 unfold dput
 rw[Ox]
 constructor
 ·intro⟨h1,h2⟩
  by_cases h:kvs.length<cap
  ·exact⟨h,aj.mp (h1 h)⟩
  ·exact absurd (h2 h) (by rw[DP];exact id)
 ·intro⟨h,q⟩
  exact⟨λ_=>aj.mpr q,λz=>absurd h z⟩
theorem zT8:W (RB kvs k v) Q↔kvs.length<cap/\Q (pK kvs (ab0 k) v):=by
 unfold RB
 rw[Ox]
 constructor
 ·intro⟨h1,h2⟩
  by_cases h:kvs.length<cap
  ·exact⟨h,aj.mp (h1 h)⟩
  ·exact absurd (h2 h) (by rw[DP];exact id)
 ·intro⟨h,q⟩
  exact⟨λ_=>aj.mpr q,λz=>absurd h z⟩
def Cp(n:Int)(xs:LI):Prop:=xs.Nodup/\xs.length<=100/\∀z∈xs,0<=z/\z<n
theorem zOb(h:0<=z/\z<n):Ti z n=some true:=by
 unfold Ti
 rw[if_pos rfl,if_pos (show(!false)=true from rfl),decide_eq_true h.1,if_pos rfl,decide_eq_true h.2]
theorem Z6(h:Cp n xs)(x:Str):W (xH xs n x) λ_=>True:=by
 unfold xH
 rw[zC,aj,zC,zC,aj]
 refine vK (λi s=>s.length<=i/\∀z,(iR s z).isSome=true->z∈xs.take i) ⟨aa5 _,λz hz=>by cases hz⟩ (λi y s hi hI=>?_) λs _=>aj.mpr trivial
 have il:=yY hi
 rw[zOb (h.2.2 y (mem_of_getElem? hi)),zC,zC,zC,aj,aj,aby,if_neg (by decide),aj,zC]
 have hn:(iR s y).isSome=false:=by
  cases q:(iR s y).isSome with
  |false=>rfl
  |true=>exact absurd (hI.2 y q) (zGc h.1 hi)
 have hn':(iR (Dc.mk s).kv y).isSome=false:=hn
 rw[hn',if_neg (by decide),aj,zC,Gb]
 have l1:=h.2.1
 refine⟨xA (by omega),?_⟩
 rw[aj]
 have l2:=zUy s (abh y) true
 refine⟨by omega,λz hz=>?_⟩
 rw[uJ hi]
 have e:iR (pK s (abh y) true) z=if(abh z:Key)=abh y then some true else iR s z:=zU4 s (abh y) (abh z) true
 rw[e] at hz
 by_cases q:(abh z:Key)=abh y
 ·exact .inr (afj q)
 ·rw[if_neg q] at hz
  exact .inl (hI.2 z hz)
theorem Ja(a:Str){i:Nat}(h:i<1000):W (K5 a (i:Int)) λ_=>True:=by
 unfold K5
 rw[if_pos (zP7 (by omega)),aj]
 trivial
theorem zMg{xss:List LI}(hl:(xss.length:Int)=n)(h0:1<=n)(h1:n<=60)(h:∀xs∈xss,xs≠[]/\Cp n xs):W (vC xss) λ_=>True:=by
 unfold vC
 rw[zC,aj,zC,zC,hl,decide_eq_false (by omega),if_neg (by decide),aj,decide_eq_false (by omega),if_neg (by decide),aj,zC,zC,aj]
 refine vK (λ_ _=>True) trivial (λi y s hi _=>?_) λs _=>aj.mpr trivial
 obtain⟨e1,e2⟩:=Yb hi
 have il:=yY e2
 obtain⟨ne,ok⟩:=h y.2 (mem_of_getElem? e2)
 rw[e1]
 simp only[zC]
 refine(Ja "steps of stand " (i:=i) (by omega)).imp λt _=>?_
 rw[aj,aj,aj]
 refine(Z6 ok t).imp λ_ _=>?_
 rw[decide_eq_false (λz=>ne (length_eq_zero_iff.mp (by omega))),if_neg (by decide),aj,aj]
 trivial
theorem zOf{xss:List LI}(hl:xss.length<=100)(h:∀xs∈xss,Cp n xs):W (vZ xss n) λ_=>True:=by
 unfold vZ
 rw[zC,zC,aj]
 refine vK (λ_ _=>True) trivial (λi y s hi _=>?_) λs _=>aj.mpr trivial
 obtain⟨e1,e2⟩:=Yb hi
 have il:=yY e2
 rw[e1]
 simp only[zC]
 refine(Ja "fair set " (i:=i) (by omega)).imp λt _=>?_
 rw[aj,aj,aj]
 refine(Z6 (h y.2 (mem_of_getElem? e2)) t).imp λ_ _=>?_
 rw[aj]
 trivial
def zRt(n:Int)(ms:List (Str×LI)):Prop:=(ms.map (·.1)).Nodup/\ms.length<=100/\∀m∈ms,uS m.1=some true/\m.1.length<=1000/\Cp n m.2
theorem zMh(h:zRt n ms):W (vD ms n) λ_=>True:=by
 unfold vD
 rw[zC,aj,zC,zC,aj]
 refine vK (λi s=>s.length<=i/\∀z,(Ia s z).isSome=true->z∈(ms.map (·.1)).take i) ⟨aa5 _,λz hz=>by cases hz⟩ (λi y s hi hI=>?_) λs _=>aj.mpr trivial
 have il:=yY hi
 have hi':(ms.map (·.1))[i]?=some y.1:=by rw[getElem?_map,hi];rfl
 obtain⟨nm,ln,ok⟩:=h.2.2 y (mem_of_getElem? hi)
 have nin:y.1∉(ms.map (·.1)).take i:=λhz=>by
  obtain⟨j,hj⟩:=mem_iff_getElem?.mp hz
  have hji:j<i:=by
   have:=yY hj
   rw[length_take] at this
   omega
  rw[getElem?_take_of_lt hji] at hj
  have a1:=yY hi'
  have a2:=yY hj
  rw[aap a1] at hi'
  rw[aap a2] at hj
  have e:(ms.map (·.1))[j]=(ms.map (·.1))[i]:=(aas hj).trans (aas hi').symm
  have:=(getElem_inj h.1).mp e
  omega
 rw[nm,zC,zC,zC,aj,aj,aby,if_neg (by decide),aj,zC]
 have hn:(Ia (Dc.mk s).kv y.1).isSome=false:=by
  cases q:(Ia s y.1).isSome with
  |false=>rfl
  |true=>exact absurd (hI.2 y.1 q) nin
 rw[hn,if_neg (by decide),aj,zC,zT8]
 have l1:=h.2.1
 refine⟨xA (by omega),?_⟩
 simp only[zC]
 have fs:W (OD "mark " y.1) λ_=>True:=by
  unfold OD
  rw[if_pos ln,aj]
  trivial
 refine fs.imp λt _=>?_
 rw[aj,aj,aj]
 refine(Z6 ok t).imp λ_ _=>?_
 rw[aj]
 have l2:=zUy s (ab0 y.1) true
 refine⟨by omega,λz hz=>?_⟩
 rw[uJ hi']
 have e:Ia (pK s (ab0 y.1) true) z=if(ab0 z:Key)=ab0 y.1 then some true else Ia s z:=zU4 s (ab0 y.1) (ab0 z) true
 rw[e] at hz
 by_cases q:(ab0 z:Key)=ab0 y.1
 ·exact .inr (Sum.inr.inj q)
 ·rw[if_neg q] at hz
  exact .inl (hI.2 z hz)
theorem zKy{xss:List LI}(h:xss.length<=100):Px xss=some xss:=by
 have q:W (Px xss) (· = xss):=by
  unfold Px
  rw[zC,aj,HW (λx=>x),map_id']
  exact⟨xA (by omega),rfl⟩
 obtain⟨a,e,rfl⟩:=q
 exact e
theorem TQ(C:Addr){xss:List LI}{mo:Option Cd}{fo:Option LLI}(hl:(xss.length:Int)=n)(h0:1<=n)(h1:n<=60)(h:∀xs∈xss,xs≠[]/\Cp n xs)(hm:zRt n (mo.getD []))(hf:(fo.getD []).length<=100/\∀xs∈fo.getD [],Cp n xs) :
  W (Py C xss mo fo) λm=>Gr m n/\m.steps=xss/\m.marks=mo.getD []/\m.fair=fo.getD []:=by
 unfold Py Vo
 rw[zC]
 refine(zMg hl h0 h1 h).imp λ_ _=>?_
 rw[zC,hl]
 refine(zMh hm).imp λ_ _=>?_
 rw[zC]
 refine(zOf hf.1 hf.2).imp λ_ _=>?_
 have m1:=hm.2.1
 rw[zKy (by omega),zC,aj,zC,HW (λx:Str×LI=>(x.1,x.2))]
 refine⟨xA (by omega),?_⟩
 have e:(mo.getD []).map (λx:Str×LI=>(x.1,x.2))=mo.getD []:=map_id' _
 rw[zKy hf.1,zC,aj,zC]
 have hv:Pr xss=some (srcs xss):=by
  unfold Pr
  rw[if_pos ⟨by omega,rfl,λxs hx=>by obtain⟨a,b,c,d⟩:=h xs hx;exact⟨a,b,c,λz hz=>by have:=d z hz;omega⟩⟩]
 rw[hv,aj,aj,e]
 exact⟨⟨hl,h0,h1,λxs hx=>by obtain⟨a,b,c,d⟩:=h xs hx;exact⟨a,b,d⟩,rfl⟩,rfl,rfl,rfl⟩
theorem Wd(h:aH n xs)(ur:n<=60):Cp n xs:=⟨h.nodup,by
 by_cases hn:0<=n
 ·have:=wA (n:=n.toNat) h.nodup λx hx=>by have:=h.2 x hx;omega
  omega
 ·cases xs with
  |nil=>exact aa5 _
  |cons x xs=>have:=h.2 x mem_cons_self;omega,h.2⟩
theorem Gd(h:TF n xs):xs≠[]/\Cp n xs:=⟨h.1,h.2.1,by have:=h.2.2.1;omega,h.2.2.2⟩
theorem Z7(hx:0<=x)(hy:0<=y):aa7 x y=((x.toNat&&&y.toNat:Nat):Int):=by
 unfold aa7
 rw[decide_eq_true hx,decide_eq_true hy]
theorem zL3(hx:0<=x)(hy:0<=y):ac4 x y=((x.toNat|||y.toNat:Nat):Int):=by
 have h1:¬0<=acw x:=by unfold acw;omega
 have h2:¬0<=acw y:=by unfold acw;omega
 have nn:∀z:Int,acw (acw z)=z:=λz=>by unfold acw;omega
 unfold ac4 aa7
 rw[decide_eq_false h1,decide_eq_false h2]
 dsimp only
 rw[nn,nn,nn]
def bt(x t:Int):Bool:=x.toNat.testBit t.toNat
theorem Jb(hx:0<=x)(hy:0<=y)(t:Int):bt (ac4 x y) t=(bt x t||bt y t):=by
 unfold bt
 rw[zL3 hx hy,abo,Nat.testBit_or]
theorem zVe(hx:0<=x)(hy:0<=y)(t:Int):bt (aa7 x y) t=(bt x t&&bt y t):=by
 unfold bt
 rw[Z7 hx hy,abo,Nat.testBit_and]
theorem Jc(hx:0<=x)(hy:0<=y):0<=ac4 x y:=by rw[zL3 hx hy];exact ac0 _
theorem zVi(hx:0<=x)(hy:0<=y):0<=aa7 x y:=by rw[Z7 hx hy];exact ac0 _
theorem Ge(t:Int):bt 0 t=false:=by unfold bt;simp
theorem Ni(ht:0<=t)(hu:0<=u):bt (1*2^t.toNat) u=decide (u=t):=by
 unfold bt
 rw[Int.one_mul,show((2:Int)^t.toNat).toNat=2^t.toNat by
  rw[show((2:Int)^t.toNat)=((2^t.toNat:Nat):Int) by simp]
  exact abo _,Nat.testBit_two_pow]
 rw[abb,decide_eq_true_iff,decide_eq_true_iff]
 omega
theorem Z8{x:Int}(hx:0<=x)(k:Nat):0<=x/2^k:=Int.ediv_nonneg hx (Int.le_of_lt (Int.pow_pos (by decide)))
theorem Gf{x:Int}(hx:0<=x)(k:Nat):(x/2^k).toNat=x.toNat>>>k:=by
 obtain⟨m,rfl⟩:=Int.eq_ofNat_of_zero_le hx
 rw[Nat.shiftRight_eq_div_pow,abo]
 have:((m:Int)/2^k)=((m/2^k:Nat):Int):=by simp
 rw[this,abo]
theorem Z9{t:Int}(hx:0<=x):bt (x/2^t.toNat) 0=bt x t:=by
 unfold bt
 rw[Gf hx,Int.toNat_zero,Nat.testBit_shiftRight]
 rfl
theorem zVc(hx:0<=x):(aa7 x 1 != 0)=bt x 0:=by
 rw[Z7 hx (by decide)]
 unfold bt
 rw[Nat.testBit]
 simp only[Int.toNat_zero,Nat.shiftRight_zero,show(1:Int).toNat=1 from rfl]
 rw[Nat.and_comm]
 rw[abb]
 simp only[bne_iff_ne,ne_eq]
 omega
theorem zUd(h:∀x∈xs,0<=x/\x<n)(ur:n<=60):W (PJ xs) λb=>0<=b/\∀t:Int,0<=t->bt b t=decide (t∈xs):=by
 unfold PJ
 rw[zC,aj,zC,zC,aj]
 refine vK (λi s=>0<=s/\∀t:Int,0<=t->bt s t=decide (t∈xs.take i)) ⟨by decide,λt _=>by rw[Ge];simp⟩ (λi x s hi hI=>?_) λs hI=>?_
 ·obtain⟨h0,hb⟩:=hI
  have xb:=h x (mem_of_getElem? hi)
  have e:tZ 1 x=some (1*2^x.toNat):=by unfold tZ;rw[if_pos ⟨xb.1,by omega,by decide⟩]
  have tk:xs.take (i+1)=xs.take i++[x]:=by rw[take_add_one,hi]<;>rfl
  have p0:(0:Int)<=1*2^x.toNat:=by rw[Int.one_mul];exact Int.le_of_lt (Int.pow_pos (by decide))
  rw[zC,zC,e,aj,aj,aj]
  refine⟨Jc h0 p0,λt ht=>?_⟩
  rw[Jb h0 p0,hb t ht,Ni xb.1 ht,tk,abb]
  simp
 ·rw[aj]
  rw[take_length] at hI
  exact hI
def rb(rows:LI)(s t:Int):Bool:=bt (rows.getD s.toNat 0) t
theorem TV{rows:LI}(hl:(rows.length:Int)=n)(h0:0<=s)(h1:s<n):L2.cu rows s=some (rows.getD s.toNat 0):=by
 rw[zVg h0,getD_eq_getElem?_getD,aap (by omega)]
 rfl
def Jd(rows:LI):Prop:=∀i:Nat,0<=rows.getD i 0
theorem zL2{rows:LI}{n s t:Int}(hl:(rows.length:Int)=n)(nn:Jd rows)(h0:0<=s)(h1:s<n)(t0:0<=t) :
  ((((L2.cu rows s).bind λa=>jr a t).bind λa=>some (aa7 a 1)).bind λa=>some (a != 0))=some (rb rows s t):=by
 rw[TV hl h0 h1]
 show(((jr _ t).bind _).bind _)=_
 unfold jr
 rw[if_pos t0]
 show some (aa7 (rows.getD s.toNat 0/2^t.toNat) 1 != 0)=_
 rw[zVc (Z8 (nn _) _),Z9 (nn _)]
 rfl
theorem zR1{rows:LI}{n s t:Int}(hl:(rows.length:Int)=n)(nn:Jd rows)(h0:0<=s)(h1:s<n)(t0:0<=t)(t1:t<n) :
  (((((L2.cu rows s).bind λa=>jr a t).bind λa=>((L2.cu rows t).bind λb=>jr b s).bind λb=>some (aa7 a b)).bind λa=>some (aa7 a 1)).bind λa=>some (a != 0))=some (rb rows s t&&rb rows t s):=by
 rw[TV hl h0 h1,TV hl t0 t1]
 show((((jr _ t).bind λa=>(jr _ s).bind _).bind _).bind _)=_
 unfold jr
 rw[if_pos t0,if_pos h0]
 show some (aa7 (aa7 (rows.getD s.toNat 0/2^t.toNat) (rows.getD t.toNat 0/2^s.toNat)) 1 != 0)=_
 have a1:=Z8 (nn s.toNat) t.toNat
 have a2:=Z8 (nn t.toNat) s.toNat
 rw[zVc (zVi a1 a2),zVe a1 a2,Z9 (nn _),Z9 (nn _)]
 rfl
theorem zUr{rows:LI}(hl:(rows.length:Int)=n)(x0:0<=x)(x1:x<n)(s0:0<=s):rb (rows.set x.toNat v) s t=if s=x then bt v t else rb rows s t:=by
 unfold rb
 rw[TJ (by omega)]
 by_cases e:s=x
 ·subst e;rw[if_pos rfl,if_pos rfl]
 ·rw[if_neg (by omega),if_neg e]
theorem zU0{rows:LI}(hl:(rows.length:Int)=n)(x0:0<=x)(x1:x<n)(nn:Jd rows)(hv:0<=v):Jd (rows.set x.toNat v):=λi=>by
 rw[TJ (by omega)]
 split
 ·exact hv
 ·exact nn i
inductive jD(xss:List LI)(U:LI):Int->Int->Prop
 |one {s t:Int}:t∈nxt xss s->t∈U->jD xss U s t
 |step {s u t:Int}:u∈nxt xss s->u∈U->jD xss U u t->jD xss U s t
theorem jD.trans(h:jD xss U s t)(k:jD xss U t u):jD xss U s u:=by
 induction h with
 |one a b=>exact .step a b k
 |step a b _ ih=>exact .step a b (ih k)
theorem jD.mem(h:jD xss U s t):t∈U:=by
 induction h with
 |one _ b=>exact b
 |step _ _ _ ih=>exact ih
theorem jD.mono{xss:List LI}{U V:LI}{s t:Int}(h:jD xss U s t)(k:∀x∈U,x∈V):jD xss V s t:=by
 induction h with
 |one a b=>exact .one a (k _ b)
 |step a b _ ih=>exact .step a (k _ b) ih
structure nY(xss:List LI)(U rows:LI):Prop where
 nn:Jd rows
 edge:∀s∈U,∀t∈U,t∈nxt xss s->rb rows s t=true
 sound:∀s∈U,∀t:Int,0<=t->rb rows s t=true->jD xss U s t
 trans:∀s∈U,∀u∈U,∀t:Int,0<=t->rb rows s u=true->rb rows u t=true->rb rows s t=true
theorem zLz{α β:Type}{c:α->Option Bool}{f:α->Option β}{p:α->Bool}{g:α->β}:∀{xs:List α},(∀x∈xs,c x=some (p x))->(∀x∈xs,f x=some (g x))->wG c f xs=some ((xs.filter p).map g)
 |[],_,_=>rfl
 |x::xs,hc,hf=>by
  have ih:=zLz (xs:=xs) (λy hy=>hc y (mem_cons_of_mem _ hy)) λy hy=>hf y (mem_cons_of_mem _ hy)
  show((c x).bind λb=>if b=true then(f x).bind λy=>(wG c f xs).bind λys=>some (y::ys) else wG c f xs)=_
  rw[hc x mem_cons_self,bnd,hf x mem_cons_self,ih,filter_cons]
  cases p x with
  |true=>rw[if_pos rfl,if_pos rfl];rfl
  |false=>rw[if_neg (by decide),if_neg (by decide)]
theorem TX{α β:Type}{c:α->Option Bool}{f:α->Option β}{p:α->Bool}{g:α->β}{xs:List α}(hl:xs.length<cap)(hc:∀x∈xs,c x=some (p x))(hf:∀x∈xs,f x=some (g x)):wR c f xs=some ((xs.filter p).map g):=by
 unfold wR
 rw[if_pos hl]
 exact zLz hc hf
theorem zUp{C:Addr}{m:aF C}(g:Gr m n)(h0:0<=s)(h1:s<n):nxt m.steps s∈m.steps:=mem_of_getElem? (Z4 g.len h0 h1)
theorem zKx{C:Addr}{m:aF C}(g:Gr m n)(h0:0<=s)(h1:s<n):W (yW m s) λxs=>xs.length<=60/\∀x,x∈xs↔x∈nxt m.steps s:=by
 unfold yW
 have f:=g.few
 obtain⟨_,nd,rg⟩:=g.row _ (zUp g h0 h1)
 have l:=wA (n:=n.toNat) nd λx hx=>by have:=rg x hx;omega
 rw[zC,dM h0]
 refine⟨_,Z4 g.len h0 h1,?_⟩
 unfold DX
 rw[if_pos (by omega),aj]
 refine⟨by rw[(vR _).length_eq];omega,λx=>(vR _).mem_iff⟩
def dl(xs:LI):List (Key×Bool):=xs.map λx=>((abh x:Key),true)
theorem Z_:∀(xs:LI)(x:Int),(iR (dl xs) x).isSome=decide (x∈xs)
 |[],x=>by simp[dl,iR,gK]
 |y::xs,x=>by
  have ih:=Z_ xs x
  unfold iR gK dl at ih ⊢
  rw[map_cons,find?_cons]
  by_cases e:y=x
  ·subst e;simp
  ·rw[decide_eq_false (show¬((abh y:Key),true).1=(abh x:Key) fromλz=>e (afj z))]
   rw[ih,abb,decide_eq_true_eq,decide_eq_true_eq,mem_cons]
   exact⟨.inr,λh=>h.resolve_left λz=>e z.symm⟩
theorem Nj(h:x∉xs):pK (dl xs) (abh x) true=dl (xs++[x]):=by
 unfold pK
 have:((dl xs).any λkv=>decide (kv.1=(abh x:Key)))=false:=by
  rw[zQm]
  have:=Z_ xs x
  rw[decide_eq_false h] at this
  exact this
 rw[if_neg (by rw[this];decide)]
 unfold dl
 rw[map_append]
 rfl
theorem Nk(xs:LI):(dl xs).length=xs.length:=length_map ..
theorem Nm:W (dput kvs k v) Q↔kvs.length<cap/\Q (pK kvs (abh k) v):=by
 unfold dput
 split
 ·rename_i h;rw[aj];exact⟨λq=>⟨h,q⟩,λq=>q.2⟩
 ·rename_i h;rw[DP];exact⟨abn,λq=>h q.1⟩
section
variable{S α β:Type}
theorem zRm{step:S->α->Option (Out S β)}{Q:Out S β->Prop}(I:Nat->S->Prop)(h0:I 0 s)(hs:∀i x s,xs[i]?=some x->I i s->W (step s x) λo=>(∃s',o=.nx s'/\I (i+1) s')\/∃b,o=.rt b/\Q (.rt b))(hd:∀s,I xs.length s->Q (.nx s)):W (uK step xs s) Q:=by
 have key:∀(ys:List α)(i:Nat)(s:S),(∀j x,ys[j]?=some x->xs[i+j]?=some x)->i+ys.length=xs.length->I i s->W (uK step ys s) Q:=by
  intro ys
  induction ys with
  |nil=>intro i s _ hl h;exact⟨.nx s,rfl,hd s ((show i=xs.length from hl)▸h)⟩
  |cons y ys ih =>
   intro i s hy hl h
   rw[zGj,zC]
   refine(hs i y s (hy 0 y rfl) h).imp ?_
   rintro o (⟨s',rfl,h'⟩|⟨b,rfl,h'⟩)
   ·refine ih (i+1) s' (λj x hx=>?_) (by rw[length_cons] at hl;omega) h'
    have:=hy (j+1) x (by simpa using hx)
    rw[show i+1+j=i+(j+1) by omega]
    exact this
   ·exact⟨.rt b,rfl,h'⟩
 exact key xs 0 s (λj x h=>by rw[acr];exact h) (acr _) h0
end
theorem Wf{α:Type}{xs:List α}{x:α}(h:xs[i]?=some x):xs.take (i+1)=xs.take i++[x]:=by rw[take_add_one,h]<;>rfl
theorem uZ{xs:LI}{i:Nat}{x s:Int}(h:xs[i]?=some x):s∈xs.take (i+1)↔s∈xs.take i\/s=x:=by rw[Wf h,mem_append,mem_singleton]
theorem TY{C:Addr}{m:aF C}(g:Gr m n)(h0:0<=s)(h1:s<n):∀x∈nxt m.steps s,0<=x/\x<n:=(g.row _ (zUp g h0 h1)).2.2
theorem zRv{C:Addr}{m:aF C}(g:Gr m n)(hU:∀x∈U,0<=x/\x<n):W (wZ m U) λrows=>(rows.length:Int)=n/\nY m.steps U rows:=by
 unfold wZ
 have few:=g.few
 have pos:=g.pos
 rw[zC]
 refine(zUd hU few).imp λinside ⟨i0,ib⟩=>?_
 rw[zC,zC,zC,Wc g,aj,dH]
 refine⟨⟨by omega,by omega⟩,?_⟩
 have rl:=Ca (n:=n) (by omega)
 rw[HW (λ_=>(0:Int))]
 refine⟨xA (by omega),?_⟩
 rw[zC,zC,aj]
 refine vK (λi rows=>(rows.length:Int)=n/\Jd rows/\∀s∈U.take i,∀t:Int,0<=t->rb rows s t=decide (t∈nxt m.steps s/\t∈U)) ⟨by rw[length_map];exact rl,λi=>?_,λs hs=>by simp at hs⟩ (λi x rows hi hI=>?_) λrows hI=>?_
 ·rw[getD_eq_getElem?_getD,getElem?_map]
  cases(rng n)[i]?<;>exact aef 0
 ·obtain⟨hl,nn,hb⟩:=hI
  have xb:=hU x (mem_of_getElem? hi)
  rw[zC,zC,zC,zC,zC]
  refine(zKx g xb.1 xb.2).imp λns ⟨_,hns⟩=>?_
  rw[aj]
  refine(zUd (xs:=ns) (λy hy=>TY g xb.1 xb.2 y ((hns y).mp hy)) few).imp λb ⟨b0,bb⟩=>?_
  rw[aj,Rq xb.1 (by omega),aj]
  refine⟨by rw[length_set];exact hl,zU0 hl xb.1 xb.2 nn (zVi b0 i0),λs hs t ht=>?_⟩
  rw[uZ hi] at hs
  have s0:0<=s:=hs.elim (λh=>(hU s (List.mem_of_mem_take h)).1) λh=>h▸xb.1
  rw[zUr hl xb.1 xb.2 s0]
  by_cases e:s=x
  ·subst e
   rw[if_pos rfl,zVe b0 i0,bb t ht,ib t ht,abb]
   simp[hns]
  ·rw[if_neg e]
   exact hb s (hs.resolve_right e) t ht
 ·obtain⟨hl,nn,hb⟩:=hI
  rw[take_length] at hb
  rw[zC,zC,aj]
  refine vK (λi rows=>(rows.length:Int)=n/\Jd rows/\(∀s∈U,∀t∈U,t∈nxt m.steps s->rb rows s t=true)/\(∀s∈U,∀t:Int,0<=t->rb rows s t=true->jD m.steps U s t)/\∀u∈U.take i,∀s∈U,∀t:Int,0<=t->rb rows s u=true->rb rows u t=true->rb rows s t=true)
   ⟨hl,nn,λs hs t ht h=>by rw[hb s hs t (hU t ht).1];exact decide_eq_true ⟨h,ht⟩,λs hs t ht h=>by
    rw[hb s hs t ht] at h
    have:=of_decide_eq_true h
    exact .one this.1 this.2,λu hu=>by simp at hu⟩ (λi u R0 hi hI=>?_) λrows hI=>?_
  ·obtain⟨hl0,nn0,ed0,so0,tr0⟩:=hI
   have um:=mem_of_getElem? hi
   have ub:=hU u um
   rw[zC,zC,aj]
   refine vK (λj rows=>(rows.length:Int)=n/\Jd rows/\∀s∈U,∀t:Int,0<=t->rb rows s t=(rb R0 s t||(decide (s∈U.take j)&&(rb R0 s u&&rb R0 u t)))) ⟨hl0,nn0,λs _ t _=>by simp⟩ (λj x rows hj hJ=>?_) λrows hJ=>?_
   ·obtain⟨hl1,Bc,hb1⟩:=hJ
    have xm:=mem_of_getElem? hj
    have xb:=hU x xm
    have ex:rb rows x u=rb R0 x u:=by
     rw[hb1 x xm u ub.1]
     cases rb R0 x u<;>simp
    have eu:∀t:Int,0<=t->rb rows u t=rb R0 u t:=λt ht=>by
     rw[hb1 u um t ht]
     cases rb R0 u t<;>simp
    rw[zL2 hl1 Bc xb.1 xb.2 ub.1,zC,zC,aj,ex]
    by_cases c:rb R0 x u=true
    ·rw[c,if_pos rfl,zC,zC,TV hl1 ub.1 ub.2,aj]
     unfold Em
     rw[if_pos xb.1,TV hl1 xb.1 xb.2]
     show W (tX rows x _) _
     rw[Rq xb.1 (by omega),aj,aj]
     refine⟨by rw[length_set];exact hl1,zU0 hl1 xb.1 xb.2 Bc (Jc (Bc _) (Bc _)),λs hs t ht=>?_⟩
     rw[zUr hl1 xb.1 xb.2 (hU s hs).1]
     by_cases e:s=x
     ·subst e
      rw[if_pos rfl,Jb (Bc _) (Bc _)]
      show(rb rows s t||rb rows u t)=_
      rw[hb1 s hs t ht,eu t ht,c,decide_eq_true ((uZ hj).mpr (.inr rfl))]
      cases rb R0 s t<;>cases rb R0 u t<;>simp
     ·rw[if_neg e,hb1 s hs t ht]
      have:decide (s∈U.take (j+1))=decide (s∈U.take j):=by
       rw[abb,decide_eq_true_iff,decide_eq_true_iff,uZ hj]
       exact⟨λh=>h.resolve_right e,.inl⟩
      rw[this]
    ·have c:rb R0 x u=false:=by simpa using c
     rw[c,if_neg (by decide),aj,aj]
     refine⟨hl1,Bc,λs hs t ht=>?_⟩
     rw[hb1 s hs t ht]
     by_cases e:s=x
     ·subst e
      rw[c]
      simp
     ·have:decide (s∈U.take (j+1))=decide (s∈U.take j):=by
       rw[abb,decide_eq_true_iff,decide_eq_true_iff,uZ hj]
       exact⟨λh=>h.resolve_right e,.inl⟩
      rw[this]
   ·obtain⟨hl1,Bc,hb1⟩:=hJ
    rw[take_length] at hb1
    have nw:∀s∈U,∀t:Int,0<=t->(rb rows s t=true↔rb R0 s t=true\/(rb R0 s u=true/\rb R0 u t=true)):=λs hs t ht=>by
     rw[hb1 s hs t ht,decide_eq_true hs]
     simp
    rw[aj]
    refine⟨hl1,Bc,λs hs t ht h=>(nw s hs t (hU t ht).1).mpr (.inl (ed0 s hs t ht h)),λs hs t ht h=>?_,λv hv s hs t ht h1 h2=>?_⟩
    ·rcases(nw s hs t ht).mp h with h|⟨h,k⟩
     ·exact so0 s hs t ht h
     ·exact(so0 s hs u ub.1 h).trans (so0 u um t ht k)
    ·rw[uZ hi] at hv
     refine(nw s hs t ht).mpr ?_
     rcases hv with hv|rfl
     ·have vU:=List.mem_of_mem_take hv
      have v0:=(hU v vU).1
      have T:=tr0 v hv
      rcases(nw s hs v v0).mp h1 with a|⟨a,b⟩<;>rcases(nw v vU t ht).mp h2 with c|⟨c,d⟩
      ·exact .inl (T s hs t ht a c)
      ·exact .inr ⟨T s hs u ub.1 a c,d⟩
      ·exact .inr ⟨a,T u um t ht b c⟩
      ·exact .inr ⟨a,d⟩
     ·have a:rb R0 s v=true:=((nw s hs v ub.1).mp h1).elim id And.left
      have b:rb R0 v t=true:=((nw v um t ht).mp h2).elim id And.right
      exact .inr ⟨a,b⟩
  ·obtain⟨hl1,Bc,ed,so,tr⟩:=hI
   rw[take_length] at tr
   rw[aj]
   exact⟨hl1,Bc,ed,so,λs hs u hu t ht=>tr u hu s hs t ht⟩
def ring(rows U:LI)(s:Int):LI:=U.filter λt=>rb rows s t&&rb rows t s
theorem aQ:t∈ring rows U s↔t∈U/\rb rows s t=true/\rb rows t s=true:=by
 unfold ring
 rw[mem_filter,aar]
structure rQ(xss:List LI)(U G:LI):Prop where
 sub:∀s∈G,s∈U
 nd:G.Nodup
 go:∀s∈G,∀t∈G,jD xss G s t
theorem nY.full(R:nY xss U rows)(h0:∀x∈U,0<=x)(h:jD xss U s t):s∈U->rb rows s t=true:=by
 induction h with
 |one a b=>exactλhs=>R.edge _ hs _ b a
 |step a b p ih=>exactλhs=>R.trans _ hs _ b _ (h0 _ p.mem) (R.edge _ hs _ b a) (ih b)
theorem zO8(R:nY xss U rows)(h0:∀x∈U,0<=x)(nd:U.Nodup)(ho:o∈U):rQ xss U (ring rows U o):=by
 have key:∀{s t:Int},jD xss U s t->s∈ring rows U o->t∈ring rows U o->jD xss (ring rows U o) s t:=by
  intro s t h
  induction h with
  |one a b=>exactλ_ ht=>.one a ht
  |@step s u t a b p ih =>
   intro hs ht
   obtain⟨sU,s1,s2⟩:=aQ.mp hs
   obtain⟨tU,t1,t2⟩:=aQ.mp ht
   have u1:rb rows o u=true:=R.trans o ho s sU u (h0 u b) s1 (R.edge s sU u b a)
   have u2:rb rows u o=true:=R.trans u b t tU o (h0 o ho) (R.full h0 p b) t2
   have hu:=aQ.mpr ⟨b,u1,u2⟩
   exact .step a hu (ih hu ht)
 refine⟨λs hs=>(aQ.mp hs).1,nd.filter _,λs hs t ht=>?_⟩
 obtain⟨sU,s1,s2⟩:=aQ.mp hs
 obtain⟨tU,t1,t2⟩:=aQ.mp ht
 exact key (R.sound s sU t (h0 t tU) (R.trans s sU o ho t (h0 t tU) s2 t1)) hs ht
structure Gg(rows U:LI)(told:List LI):Prop where
 are:∀G∈told,∃s∈U,rb rows s s=true/\G=ring rows U s
 nd:told.flatten.Nodup
 all:∀s∈U,rb rows s s=true->s∈told.flatten
theorem zN8(h:∀x∈xs,0<=x/\x<n)(hl:xs.length<64):O8 xs=some (wS xs)/\aH n (wS xs):=by
 unfold O8
 rw[if_pos hl]
 exact⟨rfl,uX xs,λx hx=>h x (bL.mp hx)⟩
theorem Gh{C:Addr}{m:aF C}(g:Gr m n)(hx:∀x∈xs,0<=x/\x<n)(hl:xs.length<64):W (Tp m xs) λtold=>∃rows,nY m.steps (wS xs) rows/\Gg rows (wS xs) told:=by
 obtain⟨e,hR⟩:=zN8 hx hl
 have few:=g.few
 have pos:=g.pos
 unfold Tp
 rw[e,zC,aj,zC]
 generalize wS xs=U at hR ⊢
 have h0:∀x∈U,0<=x:=λx hx=>(hR.2 x hx).1
 have Ul:U.length<=n.toNat:=wA hR.nodup λx hx=>by have:=hR.2 x hx;omega
 refine(zRv g hR.2).imp λrows ⟨rl,R⟩=>?_
 rw[zC,aj,zC,aj,zC,zC,aj]
 refine vK (λi z=>∃told:List LI,z=(told,dl told.flatten)/\(∀G∈told,∃s∈U,rb rows s s=true/\G=ring rows U s)/\told.flatten.Nodup/\(∀s∈U.take i,rb rows s s=true->s∈told.flatten)/\told.length<=i) ⟨[],rfl,λG hG=>(by cases hG),by simp,λs hs=>(by simp at hs),aaq _⟩ (λi x z hi hI=>?_) λz hI=>?_
 ·obtain⟨told,rfl,are,nd,all,tl⟩:=hI
  have xm:=mem_of_getElem? hi
  have xb:=hR.2 x xm
  have sub:∀t∈told.flatten,t∈U:=λt ht=>by
   obtain⟨G,hG,tG⟩:=mem_flatten.mp ht
   obtain⟨s,_,_,rfl⟩:=are G hG
   exact(aQ.mp tG).1
  have il:i<U.length:=(aay.mp hi).1
  rw[zC,zC]
  show W (if(!(iR (dl told.flatten) x).isSome)=true then _ else _) _
  rw[Z_]
  by_cases xf:x∈told.flatten
  ·rw[decide_eq_true xf,aby,if_neg (by decide),aj,if_neg (by decide),aj,aj]
   exact⟨told,rfl,are,nd,λs hs h=>((uZ hi).mp hs).elim (λq=>all s q h) λq=>q▸xf,by omega⟩
  ·rw[decide_eq_false xf,Bool.not_false,if_pos rfl,zL2 rl R.nn xb.1 xb.2 xb.1,aj]
   by_cases c:rb rows x x=true
   ·have dis:∀t∈ring rows U x,t∉told.flatten:=λt ht tf=>by
     obtain⟨G,hG,tG⟩:=mem_flatten.mp tf
     obtain⟨s,sU,_,rfl⟩:=are G hG
     obtain⟨tU,t1,t2⟩:=aQ.mp ht
     obtain⟨_,t3,t4⟩:=aQ.mp tG
     exact xf (mem_flatten.mpr ⟨_,hG,aQ.mpr ⟨xm,R.trans s sU t tU x xb.1 t3 t2,R.trans x xm t tU s (h0 s sU) t1 t4⟩⟩)
    have rn:(ring rows U x).Nodup:=hR.nodup.filter _
    have nd2:(told.flatten++ring rows U x).Nodup:=by
     rw[nodup_append]
     exact⟨nd,rn,λa ha b hb e=>dis b hb (e▸ha)⟩
    have ln:(told.flatten++ring rows U x).length<=n.toNat:=wA nd2 λy hy=>by
     have:y∈U:=(mem_append.mp hy).elim (sub y) λq=>(aQ.mp q).1
     have:=hR.2 y this
     omega
    rw[c,if_pos rfl,zC,zC,aj,TX (p:=λt=>rb rows x t&&rb rows t x) (g:=λt=>t) (xA (by omega)) (λt ht=>zR1 rl R.nn xb.1 xb.2 (hR.2 t ht).1 (hR.2 t ht).2) (λt _=>rfl),aj,map_id']
    show W ((push told (ring rows U x)).bind _) _
    rw[zC,HS]
    refine⟨xA (by omega),?_⟩
    rw[zC,zC,aj]
    refine vK (λk d=>d=dl (told.flatten++(ring rows U x).take k)) (by rw[List.take_zero,append_nil]) (λk y d hk hd=>?_) λd hd=>?_
    ·subst hd
     have hk:(ring rows U x)[k]?=some y:=hk
     have ym:=mem_of_getElem? hk
     have kl:=(aay.mp hk).1
     have yn:y∉told.flatten++(ring rows U x).take k:=λq=>by
      rcases mem_append.mp q with q|q
      ·exact dis y ym q
      ·obtain⟨j,hj,e⟩:=getElem_of_mem q
       rw[List.getElem_take] at e
       rw[length_take] at hj
       have e2:=(aay.mp hk).2
       have:=(List.nodup_iff_pairwise_ne.mp rn)
       have ne:=List.pairwise_iff_getElem.mp this j k (by omega) kl (by omega)
       exact ne (e.trans e2.symm)
     rw[zC,Nm,Nj yn,Nk]
     refine⟨xA ?_,?_⟩
     ·rw[length_append] at ln ⊢
      rw[length_take]
      omega
     ·rw[aj,Wf hk,append_assoc]
    ·subst hd
     rw[show(ring rows U x).take (U.filter λt=>rb rows x t&&rb rows t x).length=ring rows U x from take_length,aj,aj]
     refine⟨told++[ring rows U x],by rw[flatten_append,flatten_singleton],λG hG=>?_,by rw[flatten_append,flatten_singleton];exact nd2,λs hs h=>?_,by rw[length_append];exact ab2 tl⟩
     ·rcases mem_append.mp hG with q|q
      ·exact are G q
      ·exact⟨x,xm,c,mem_singleton.mp q⟩
     ·rw[flatten_append,flatten_singleton,mem_append]
      exact((uZ hi).mp hs).elim (λq=>.inl (all s q h)) λq=>.inr (by rw[q];exact aQ.mpr ⟨xm,c,c⟩)
   ·have c':rb rows x x=false:=by simpa using c
    rw[c',if_neg (by decide),aj,aj]
    exact⟨told,rfl,are,nd,λs hs h=>((uZ hi).mp hs).elim (λq=>all s q h) λq=>absurd (q▸h) c,by omega⟩
 ·obtain⟨told,rfl,are,nd,all,_⟩:=hI
  rw[take_length] at all
  rw[aj]
  exact⟨rows,R,are,nd,all⟩
def wP(n:Int)(fair:List LI):Prop:=fair.length<=100/\∀F∈fair,Cp n F
def xY(fair:List LI)(G:LI):Bool:=fair.all λF=>G.any λx=>decide (x∈F)
theorem sS(h:Cp n xs)(ur:n<=60)(h0:0<=n):xs.length<=60:=by
 have:=wA (n:=n.toNat) h.1 λx hx=>by have:=h.2.2 x hx;omega
 omega
theorem zRy{C:Addr}{m:aF C}{n:Int}(g:Gr m n)(hf:wP n m.fair){i:Nat}{F:LI}(hi:m.fair[i]?=some F):W (xJ m (i:Int)) λxs=>xs.length<=60/\∀x,x∈xs↔x∈F:=by
 unfold xJ
 have few:=g.few
 have pos:=g.pos
 have l:=sS (hf.2 F (mem_of_getElem? hi)) few (by omega)
 rw[zC,dM (by omega)]
 refine⟨F,by rw[abo];exact hi,?_⟩
 unfold DX
 rw[if_pos (by omega),aj]
 exact⟨by rw[(vR _).length_eq];exact l,λx=>(vR _).mem_iff⟩
theorem zN9{xs ys:LI}(h:xs.length<64\/ys.length<64)(h1:xs.length<4000)(h2:ys.length<4000):xN xs ys=some (wS (xs.filter λz=>decide (z∈ys))):=by
 unfold xN Vz
 rw[if_pos ⟨h,h1,h2⟩]
theorem zKw{xs ys:LI}(h1:xs.length<64)(h2:ys.length<4000):xN xs ys=some (wS (xs.filter λz=>decide (z∈ys))):=zN9 (.inl h1) (by omega) h2
theorem pF:(wS xs).length=0↔xs=[]:=by
 rw[length_eq_zero_iff]
 constructor
 ·intro h
  cases xs with
  |nil=>rfl
  |cons x xs =>
   have:=(bL (x:=x) (ns:=x::xs)).mpr mem_cons_self
   rw[h] at this
   cases this
 ·intro h;subst h;rfl
theorem zRw{C:Addr}{m:aF C}(g:Gr m n)(hf:wP n m.fair){G:LI}(hG:G.length<64):W (uR m G) λo=>o.isNone=xY m.fair G:=by
 unfold uR
 have hl:=hf.1
 rw[zC,zC,dH]
 refine⟨⟨by omega,by omega⟩,zRm (λi _=>∀F∈m.fair.take i,(G.any λx=>decide (x∈F))=true) (λF hF=>by simp at hF) (λi x s hi hI=>?_) λs hI=>?_⟩
 ·obtain⟨rfl,hx⟩:=Yn hi
  have il:i<m.fair.length:=by omega
  have hF:m.fair[i]?=some m.fair[i]:=aap il
  rw[zC,zC,zC,zC,zC,zC]
  refine(zRy g hf hF).imp λys ⟨yl,ym⟩=>?_
  rw[aj,aj]
  show W (xN G ys) _
  rw[zKw hG (by omega),aj,aj,aj]
  by_cases e:G.filter (λz=>decide (z∈ys))=[]
  ·rw[decide_eq_true (show((wS (G.filter λz=>decide (z∈ys))).length:Int)=0 by have:=pF.mpr e;omega),if_pos rfl,zC,aj,aj]
   refine .inr ⟨_,rfl,?_⟩
   show W (some (some (i:Int))) _
   rw[aj]
   symm
   show xY m.fair G=false
   have:(G.any λx=>decide (x∈m.fair[i]))=false:=by
    rw[any_eq_false]
    intro x hx q
    have q:=of_decide_eq_true q
    have:x∈G.filter (λz=>decide (z∈ys)):=mem_filter.mpr ⟨hx,decide_eq_true ((ym x).mpr q)⟩
    rw[e] at this
    cases this
   unfold xY
   rw[List.all_eq_false]
   exact⟨_,getElem_mem il,by rw[this];decide⟩
  ·rw[decide_eq_false (λz=>e (pF.mp (by omega))),if_neg (by decide),aj]
   refine .inl ⟨(),rfl,λF hF'=>?_⟩
   rw[Wf hF,mem_append,mem_singleton] at hF'
   rcases hF' with q|q
   ·exact hI F q
   ·subst q
    obtain⟨x,hx⟩:=List.exists_mem_of_ne_nil _ e
    rw[mem_filter] at hx
    exact any_eq_true.mpr ⟨x,hx.1,decide_eq_true ((ym x).mp (of_decide_eq_true hx.2))⟩
 ·have e:(rng (m.fair.length:Int)).length=m.fair.length:=by have:=Ca (n:=(m.fair.length:Int)) (by omega);omega
  rw[e,take_length] at hI
  rw[zx,aj]
  symm
  show xY m.fair G=true
  exact all_eq_true.mpr hI
theorem zSp{U:LI}(h:U.length<=k):(ring rows U s).length<=k:=aa0 (length_filter_le ..) h
structure rR(xss:List LI)(fair:List LI)(U goal:LI):Prop where
 nd:goal.Nodup
 sub:∀s∈goal,s∈U
 of:∀s∈goal,∃G:LI,rQ xss U G/\s∈G/\xY fair G=true/\∀t∈G,t∈goal
 all:∀s∈U,∀G:LI,(∀t,t∈G↔t∈U/\jD xss U s t/\jD xss U t s)->jD xss U s s->xY fair G=true->s∈goal
theorem zIp(h:∀t,t∈G↔t∈G'):xY fair G=xY fair G':=by
 unfold xY
 congr 1
 funext F
 rw[abb,any_eq_true,any_eq_true]
 exact⟨λ⟨x,a,b⟩=>⟨x,(h x).mp a,b⟩,λ⟨x,a,b⟩=>⟨x,(h x).mpr a,b⟩⟩
theorem Gi{C:Addr}{m:aF C}(g:Gr m n)(hf:wP n m.fair)(hx:∀x∈xs,0<=x/\x<n)(hl:xs.length<64) :
  W (wN m xs) λa=>a.length<=60/\(∀G∈a,rQ m.steps (wS xs) G/\xY m.fair G=true)/\W (Ng a) λgoal=>goal=a.flatten/\rR m.steps m.fair (wS xs) goal:=by
 have few:=g.few
 have pos:=g.pos
 have hR:=(zN8 hx hl).2
 have h0:∀x∈wS xs,0<=x:=λx hx=>(hR.2 x hx).1
 have Ul:(wS xs).length<=n.toNat:=wA hR.nodup λx hx=>by have:=hR.2 x hx;omega
 unfold wN
 rw[zC]
 refine(Gh g hx hl).imp λtold ⟨rows,R,T⟩=>?_
 have tl:told.length<=60/\told.flatten.length<=60:=by
  have f:told.flatten.length<=n.toNat:=wA T.nd λy hy=>by
   obtain⟨G,hG,yG⟩:=mem_flatten.mp hy
   obtain⟨s,_,_,rfl⟩:=T.are G hG
   have:=hR.2 y (aQ.mp yG).1
   omega
  refine⟨?_,by omega⟩
  have ne:∀G∈told,1<=G.length:=λG hG=>by
   obtain⟨s,sU,c,rfl⟩:=T.are G hG
   exact List.length_pos_of_mem (aQ.mpr ⟨sU,c,c⟩)
  have:∀l:List LI,(∀G∈l,1<=G.length)->l.length<=l.flatten.length:=λl=>by
   induction l with
   |nil=>intro _;exact aa5 _
   |cons G l ih =>
    intro h
    rw[flatten_cons,length_append,length_cons]
    have a:=ih λG' hG'=>h G' (mem_cons_of_mem _ hG')
    have b:=h G mem_cons_self
    omega
  have:=this told ne
  omega
 have gl:∀G∈told,G.length<64:=λG hG=>by
  obtain⟨s,_,_,rfl⟩:=T.are G hG
  have:=zSp (rows:=rows) (s:=s) Ul
  omega
 rw[TX (p:=xY m.fair) (g:=λG=>G) (xA (by omega)) (λG hG=>by
  obtain⟨o,e,q⟩:=zRw g hf (gl G hG)
  rw[e]
  exact congrArg some q) (λ_ _=>rfl),aj,map_id']
 have fl:∀l:List LI,(l.filter (xY m.fair)).flatten.Sublist l.flatten:=λl=>by
  induction l with
  |nil=>exact List.Sublist.refl _
  |cons G l ih =>
   rw[filter_cons]
   split
   ·rw[flatten_cons,flatten_cons];exact(List.Sublist.refl _).append ih
   ·rw[flatten_cons];exact ih.trans (List.sublist_append_right ..)
 have js:W (Ng (told.filter (xY m.fair))) (· = (told.filter (xY m.fair)).flatten):=by
  unfold Ng
  rw[zC,aj,zC,zC,aj]
  refine vK (λi s=>s=((told.filter (xY m.fair)).take i).flatten) (by rw[List.take_zero];rfl) (λi G s hi hI=>?_) λs hI=>?_
  ·subst hI
   unfold Aa
   have e:((told.filter (xY m.fair)).take i).flatten++G=((told.filter (xY m.fair)).take (i+1)).flatten:=by rw[Wf hi,flatten_append,flatten_singleton]
   have l:(((told.filter (xY m.fair)).take i).flatten++G).length<=60:=by
    rw[e]
    have a:((told.filter (xY m.fair)).take (i+1)).flatten.Sublist (told.filter (xY m.fair)).flatten:=by
     have e2:(told.filter (xY m.fair)).flatten=((told.filter (xY m.fair)).take (i+1)).flatten++((told.filter (xY m.fair)).drop (i+1)).flatten:=by rw[<-flatten_append,take_append_drop]
     rw[e2]
     exact List.sublist_append_left ..
    have:=(a.trans (fl told)).length_le
    omega
   rw[length_append] at l
   rw[if_pos (xA (by omega)),zC,aj,aj,e]
  ·subst hI
   rw[take_length,aj]
 refine⟨aa0 (length_filter_le ..) tl.1,λG hG=>?_,js.imp λgoal e=>⟨e,?_⟩⟩
 ·obtain⟨o,oU,_,rfl⟩:=T.are G (mem_filter.mp hG).1
  exact⟨zO8 R h0 hR.nodup oU,(mem_filter.mp hG).2⟩
 subst e
 refine⟨T.nd.sublist (fl told),λs hs=>?_,λs hs=>?_,λs sU G hG p q=>?_⟩
 ·obtain⟨G,hG,sG⟩:=mem_flatten.mp hs
  obtain⟨o,_,_,rfl⟩:=T.are G (mem_filter.mp hG).1
  exact(aQ.mp sG).1
 ·obtain⟨G,hG,sG⟩:=mem_flatten.mp hs
  obtain⟨o,oU,_,rfl⟩:=T.are G (mem_filter.mp hG).1
  exact⟨_,zO8 R h0 hR.nodup oU,sG,(mem_filter.mp hG).2,λt ht=>mem_flatten.mpr ⟨_,hG,ht⟩⟩
 ·obtain⟨G',hG',sG⟩:=mem_flatten.mp (T.all s sU (R.full h0 p sU))
  obtain⟨o,oU,oo,rfl⟩:=T.are G' hG'
  obtain⟨_,s1,s2⟩:=aQ.mp sG
  refine mem_flatten.mpr ⟨_,mem_filter.mpr ⟨hG',?_⟩,sG⟩
  rw[<-q]
  refine zIp λt=>?_
  rw[hG t,aQ]
  constructor
  ·rintro⟨tU,t1,t2⟩
   exact⟨tU,R.sound s sU t (h0 t tU) (R.trans s sU o oU t (h0 t tU) s2 t1),R.sound t tU s (h0 s sU) (R.trans t tU o oU s (h0 s sU) t2 s1)⟩
  ·rintro⟨tU,t1,t2⟩
   exact⟨tU,R.trans o oU s sU t (h0 t tU) s1 (R.full h0 t1 sU),R.trans t tU s sU o (h0 o oU) (R.full h0 t2 tU) s2⟩
theorem Np{C:Addr}{m:aF C}(g:Gr m n)(hf:wP n m.fair)(hx:∀x∈xs,0<=x/\x<n)(hl:xs.length<64) :
  W ((wN m xs).bind λa=>Ng a) (rR m.steps m.fair (wS xs)):=by
 rw[zC]
 exact(Gi g hf hx hl).imp λa ⟨_,_,h⟩=>h.imp λ_ q=>q.2
theorem zOe{C:Addr}{m:aF C}(g:Gr m n){goal:LI}(ht:∀x∈through,0<=x/\x<n)(hg:goal.Nodup/\∀x∈goal,0<=x/\x<n):W (xC m through goal) λR=>∃d,rP m.steps through goal n d/\R=pick n λs=>(dg d s).isSome:=by
 unfold xC
 have few:=g.few
 have pos:=g.pos
 rw[zC]
 refine(zJl g ht hg).imp λd D=>?_
 have rl:=Ca (n:=n) (by omega)
 rw[zC,aj,zTw D.len]
 have e:wR (λx:Int×Option Int=>some x.2.isSome) (λx:Int×Option Int=>some x.1) ((rng n).map λs=>(s,dg d s))=some (pick n λs=>(dg d s).isSome):=by
  rw[TX (p:=λx:Int×Option Int=>x.2.isSome) (g:=λx:Int×Option Int=>x.1) (xA (by rw[length_map];omega)) (λ_ _=>rfl) (λ_ _=>rfl)]
  congr 1
  rw[List.filter_map,List.map_map]
  exact map_id' _
 rw[e,aj]
 exact⟨d,D,rfl⟩
structure aac(xss fair:List LI)(n:Int)(U R:LI):Prop where
 rise:aH n R
 sub:∀s∈R,s∈U
 go:∀s∈R,∃t∈nxt xss s,t∈R
 come:∀s∈R,∀F∈fair,∃x∈F,x=s\/jD xss R s x
theorem Wg(h:aH n U):wS U=U:=Ih (uX U) h.1 λ_=>bL
inductive Rc(xss:List LI)(U:LI)(s:Int):Int->Prop
 |here:Rc xss U s s
 |on {t u:Int}:Rc xss U s t->u∈nxt xss t->u∈U->Rc xss U s u
theorem Rc.mem(h:Rc xss U s t)(hs:s∈U):t∈U:=by
 cases h with
 |here=>exact hs
 |on _ _ h=>exact h
theorem Rc.trans(h:Rc xss U s t)(k:Rc xss U t u):Rc xss U s u:=by
 induction k with
 |here=>exact h
 |on _ a b ih=>exact .on ih a b
theorem Rc.pth(h:Rc xss U s t):t=s\/jD xss U s t:=by
 induction h with
 |here=>exact .inl rfl
 |@on t u _ a b ih =>
  rcases ih with rfl|ih
  ·exact .inr (.one a b)
  ·exact .inr (ih.trans (.one a b))
theorem jD.rc(h:jD xss U s t):Rc xss U s t:=by
 induction h with
 |one a b=>exact .on .here a b
 |step a b _ ih=>exact(Rc.on .here a b).trans ih
theorem cls(P:Int->Prop):∃p:Int->Bool,∀x,p x=true↔P x:=⟨λx=>@decide _ (adu (P x)),λx=>by
 constructor
 ·intro h;exact@of_decide_eq_true _ (adu _) h
 ·intro h;exact@decide_eq_true _ (adu _) h⟩
def Wh(xss fair:List LI)(U:LI)(b:Int):Prop:=jD xss U b b/\∀F∈fair,∃x∈F,Rc xss U b x/\Rc xss U x b
theorem Gj(D:rP xss U goal n d)(G:rR xss fair U goal)(hU:∀x∈U,0<=x/\x<n)(s:Int):s∈pick n (λs=>(dg d s).isSome)↔s∈U/\∃b∈U,Wh xss fair U b/\Rc xss U s b:=by
 have base:∀b∈U,(b∈goal↔Wh xss fair U b):=λb bU=>by
  constructor
  ·intro h
   obtain⟨R,RO,bR,met,_⟩:=G.of b h
   have up:∀{x y:Int},x∈R->y∈R->jD xss U x y:=λhx hy=>(RO.go _ hx _ hy).mono RO.sub
   refine⟨up bR bR,λF hF=>?_⟩
   obtain⟨x,xR,xF⟩:=any_eq_true.mp (all_eq_true.mp met F hF)
   exact⟨x,of_decide_eq_true xF,(up bR xR).rc,(up xR bR).rc⟩
  ·rintro⟨p,m⟩
   obtain⟨f,hf⟩:=cls λt=>jD xss U b t/\jD xss U t b
   refine G.all b bU (U.filter f) (λt=>by rw[mem_filter,hf t]) p ?_
   refine all_eq_true.mpr λF hF=>?_
   obtain⟨x,xF,r1,r2⟩:=m F hF
   have p1:jD xss U b x:=r1.pth.elim (λe=>e▸p) id
   have p2:jD xss U x b:=r2.pth.elim (λe=>by rw[<-e];exact e▸p) id
   exact any_eq_true.mpr ⟨x,mem_filter.mpr ⟨p1.mem,(hf x).mpr ⟨p1,p2⟩⟩,decide_eq_true xF⟩
 have key:∀(k:Nat)(s:Int),0<=s->s<n->dg d s=some (k:Int)->s∈U/\∃b∈goal,Rc xss U s b:=by
  intro k
  induction k with
  |zero =>
   intro s s0 s1 e
   have hg:=(D.zero s s0 s1).mp e
   exact⟨G.sub s hg,s,hg,.here⟩
  |succ k ih =>
   intro s s0 s1 e
   have ng:s∉goal:=λhg=>by
    have:=(D.zero s s0 s1).mpr hg
    rw[e] at this
    have:=aas this
    omega
   obtain⟨sU,t,tn,t0,t1,e2⟩:=D.via s _ s0 s1 e ng
   obtain⟨tU,b,bg,r⟩:=ih t t0 t1 (by rw[e2];congr 1;omega)
   exact⟨sU,b,bg,(Rc.on .here tn tU).trans r⟩
 have back:∀{s t:Int},Rc xss U s t->s∈U->(dg d t).isSome=true->(dg d s).isSome=true:=λh=>by
  induction h with
  |here=>exactλ_ q=>q
  |@on t u r a b ih =>
   intro sU q
   have tU:=r.mem sU
   obtain⟨k,e⟩:=abl.mp q
   obtain⟨j,ej,_⟩:=D.near t u k (hU t tU).1 (hU t tU).2 (hU u b).1 (hU u b).2 tU a e
   exact ih sU (by rw[ej];rfl)
 rw[dz]
 constructor
 ·rintro⟨s0,s1,q⟩
  obtain⟨k,e⟩:=abl.mp q
  have kp:=D.pos s k s0 s1 e
  obtain⟨sU,b,bg,r⟩:=key k.toNat s s0 s1 (by rw[e];congr 1;omega)
  exact⟨sU,b,G.sub b bg,(base b (G.sub b bg)).mp bg,r⟩
 ·rintro⟨sU,b,bU,bB,r⟩
  refine⟨(hU s sU).1,(hU s sU).2,back r sU ?_⟩
  rw[(D.zero b (hU b bU).1 (hU b bU).2).mpr ((base b bU).mpr bB)]
  rfl
theorem zOd{C:Addr}{m:aF C}(g:Gr m n)(hf:wP n m.fair)(hU:aH n U):W (Ck m U) λR=>aH n R/\∀s,s∈R↔s∈U/\∃b∈U,Wh m.steps m.fair U b/\Rc m.steps U s b:=by
 unfold Ck
 have few:=g.few
 have Ul:U.length<=n.toNat:=wA hU.nodup λx hx=>by have:=hU.2 x hx;omega
 have q:=Np g hf hU.2 (by omega)
 rw[Wg hU,zC] at q
 rw[zC,zC,zC,zC,zC,zC]
 refine q.imp λa qa=>?_
 rw[aj]
 refine qa.imp λgoal G=>?_
 rw[aj,aj,aj]
 show W (xC m U goal) _
 refine(zOe g hU.2 ⟨G.nd,λx h=>hU.2 x (G.sub x h)⟩).imp λR ⟨d,D,e⟩=>?_
 subst e
 exact⟨yR n _,Gj D G hU.2⟩
theorem Nq{C:Addr}{m:aF C}(g:Gr m n):yN m=some (rng n):=by
 unfold yN
 rw[Wc g]
 have:=g.pos
 have:=g.few
 show Pa n=_
 unfold Pa
 rw[if_pos ⟨by omega,by omega⟩]
 rfl
theorem Wi(h:n<=60)(h0:0<=n):(rng n).length<=60:=by have:=Ca (n:=n) h0;omega
theorem zRu{C:Addr}{m:aF C}(g:Gr m n){xs:LI}(hl:xs.length<4000):xE m xs=some (pick n λz=>!decide (z∈xs)):=by
 unfold xE
 rw[Nq g]
 have r:=Wi g.few (by have:=g.pos;omega)
 show Pg (rng n) xs=_
 unfold Pg
 rw[if_pos ⟨by omega,hl⟩]
 exact congrArg some (Wg (yR n _))
theorem wT(h:aH n xs)(ur:n<=60):xs.length<=60:=by
 by_cases h0:0<=n
 ·have:=wA (n:=n.toNat) h.nodup λx hx=>by have:=h.2 x hx;omega
  omega
 ·cases xs with
  |nil=>exact aa5 _
  |cons a l=>have:=h.2 a mem_cons_self;omega
theorem zHt{ys:LI}(hx:aH n xs)(ur:n<=60)(hy:ys.length<4000):xN xs ys=some (xs.filter λz=>decide (z∈ys)):=by
 rw[zKw (by have:=wT hx ur;omega) hy]
 exact congrArg some (Wg (n:=n) ⟨hx.1.filter _,λx h=>hx.2 x (mem_filter.mp h).1⟩)
theorem zMe{ys:LI}(hx:aH n xs)(ur:n<=60)(hy:ys.length<4000):uQ xs ys=some (xs.filter λz=>!decide (z∈ys)):=by
 unfold uQ Pg
 rw[if_pos ⟨by have:=wT hx ur;omega,hy⟩]
 exact congrArg some (Wg (n:=n) ⟨hx.1.filter _,λx h=>hx.2 x (mem_filter.mp h).1⟩)
def T3(xss fair:List LI)(n:Int)(L:LI):Prop:=aH n L/\∀s,s∈L↔s∈rng n/\∃b∈rng n,Wh xss fair (rng n) b/\Rc xss (rng n) s b
theorem Wj(n:Int):aH n (rng n):=⟨zUq n,λx hx=>jM.mp hx⟩
theorem Gk{C:Addr}{m:aF C}(g:Gr m n)(hf:wP n m.fair):W (Nh m) (T3 m.steps m.fair n):=by
 unfold Nh
 rw[Nq g]
 exact zOd g hf (Wj n)
def into(xss:List LI)(G:LI)(s:Int):Bool:=(nxt xss s).any λt=>decide (t∈G)
theorem Nr{C:Addr}{m:aF C}(g:Gr m n)(h0:0<=s)(h1:s<n){fl:List Bool}(hl:(fl.length:Int)=n)(hh:∀t:Int,0<=t->t<n->fl.getD t.toNat false=decide (t∈G)):vY m s fl=some (into m.steps G s):=by
 unfold vY
 obtain⟨xs,e,xl,xm⟩:=zKx g h0 h1
 rw[e]
 have bd:∀x∈xs,0<=x/\x<n:=λx hx=>by
  have hx':=(xm x).mp hx
  have hr:nxt m.steps s∈m.steps:=mem_of_getElem? (Z4 g.len h0 h1)
  exact(g.row _ hr).2.2 x hx'
 show((wR _ _ xs).bind _)=_
 rw[TX (p:=λ_=>true) (g:=λx=>decide (x∈G)) (xA (by omega)) (λ_ _=>rfl) (λx hx=>?_)]
 ·show some _=some _
  congr 1
  rw[List.filter_eq_self.mpr (λ_ _=>rfl)]
  unfold into
  rw[abb,any_eq_true,any_eq_true]
  constructor
  ·rintro⟨b,hb,e⟩
   obtain⟨x,hx,rfl⟩:=mem_map.mp hb
   exact⟨x,(xm x).mp hx,e⟩
  ·rintro⟨x,hx,e⟩
   exact⟨_,mem_map.mpr ⟨x,(xm x).mpr hx,rfl⟩,e⟩
 ·obtain⟨x0,x1⟩:=bd x hx
  have q:W (cu fl x) (· = decide (x∈G)):=by
   rw[dM x0]
   refine⟨fl.getD x.toNat false,?_,hh x x0 x1⟩
   rw[getD_eq_getElem?_getD,aap (by omega)]
   rfl
  obtain⟨a,ea,e2⟩:=q
  rw[ea,e2]
theorem zMf{C:Addr}{m:aF C}(g:Gr m n)(hG:∀x∈G,0<=x/\x<n):wY m (rng n) G=some (pick n (into m.steps G)):=by
 unfold wY
 obtain⟨fl,e,hl,hh⟩:=zOc g hG
 rw[e]
 have r:=Wi g.few (by have:=g.pos;omega)
 show wR _ _ (rng n)=_
 rw[TX (p:=into m.steps G) (g:=λx=>x) (xA (by omega)) (λx hx=>?_) (λ_ _=>rfl),map_id']
 ·rfl
 ·obtain⟨x0,x1⟩:=jM.mp hx
  exact Nr g x0 x1 hl hh
theorem aad{α:Type}{m:Option α}{a:α}(h:m=some a):W m (· = a):=⟨a,h,rfl⟩
theorem qb{α:Type}{m:Option α}{a:α}(h:W m (· = a)):m=some a:=by obtain⟨b,e,rfl⟩:=h;exact e
theorem zF6{C:Addr}{m:aF C}(g:Gr m n)(hL:aH n L)(hS:aH n S):xW m L S=some (pick n (into m.steps (L.filter λz=>decide (z∈S)))):=by
 apply qb
 unfold xW
 rw[zC,zC,zC,Nq g,aj,zC,zC,zHt hL g.few (by have:=wT hS g.few;omega),aj,aj,aj,aj]
 exact aad (zMf g λx hx=>hL.2 x (mem_filter.mp hx).1)
theorem qO{α:Type}{pre:List α}{x:α}:L2.cu (pre++[x]) (-(1:Int))=some x:=by
 unfold L2.cu sI
 rw[if_neg (by decide),if_pos (by rw[length_append,length_singleton];omega)]
 show(pre++[x])[((-(1:Int))+((pre++[x]).length:Nat)).toNat]?=some x
 have e:((-(1:Int))+((pre++[x]).length:Nat)).toNat=pre.length:=by rw[length_append,length_singleton];omega
 rw[e,getElem?_append_right (aaq _),Nat.sub_self]
 rfl
theorem zNh(h:aH n xs):Vm xs=xs :=
 Ih (vQ (zD1 xs) ((vR xs).nodup_iff.mpr h.nodup)) h.1 λs=>(vR xs).mem_iff
theorem zRx{C:Addr}{m:aF C}(ur:n<=60)(hs:∀mk∈m.marks,aH n mk.2)(x:Str):W (yD m x) λS=>(∃mk∈m.marks,mk.1=x/\S=mk.2)\/((∀mk∈m.marks,mk.1≠x)/\S=[]):=by
 unfold yD
 rw[zC,zC,aj]
 refine zRm (λi _=>∀mk∈m.marks.take i,mk.1≠x) (λmk h=>by simp at h) (λi mk _ hi hI=>?_) λ_ hI=>?_
 ·have mm:=mem_of_getElem? hi
  by_cases c:mk.1=x
  ·rw[decide_eq_true c,if_pos rfl,zC]
   have r:=wT (hs mk mm) ur
   unfold DX
   rw[if_pos (by omega),aj,aj,zNh (hs mk mm)]
   refine .inr ⟨_,rfl,?_⟩
   show W (some mk.2) _
   rw[aj]
   exact .inl ⟨mk,mm,c,rfl⟩
  ·rw[decide_eq_false c,if_neg (by decide),aj]
   refine .inl ⟨(),rfl,λmk' h=>?_⟩
   rw[take_add_one,hi,mem_append] at h
   rcases h with h|h
   ·exact hI mk' h
   ·have e:mk'=mk:=by simpa using h
    rw[e];exact c
 ·rw[take_length] at hI
  rw[zx,aj]
  exact .inr ⟨hI,rfl⟩
theorem T4(ws:LI):W (uH ws) λ_=>True:=by
 unfold uH
 rw[Ox]
 refine⟨λ_=>aj.mpr trivial,λh=>?_⟩
 cases ws with
 |nil=>exact absurd rfl h
 |cons x r =>
  rw[List.getLast?_cons]
  exact⟨_,rfl,trivial⟩
theorem zOa(c:Int)(h0:0<=n)(h1:n<=60):W (uI c n) (aH n):=by
 unfold uI
 rw[zC,aj,zC,zC,dH]
 refine⟨⟨by omega,by omega⟩,?_⟩
 have rn:=Ca h0
 refine vK (λj z=>aH j z.1/\z.1.length<=j) ⟨KR,aaq _⟩ (λj y z hj hJ=>?_) λz hJ=>?_
 ·obtain⟨rfl,hy⟩:=Yn hj
  simp only[zC,Vl,Rn,aj,Ox,HS]
  exact⟨by decide,λ_=>⟨xA (by omega),⟨by decide,by decide⟩,zIa hJ.1 (by omega) (by omega),by rw[length_append];exact ab2 hJ.2⟩,λ_=>⟨⟨by decide,by decide⟩,zO6 hJ.1 (by omega),by omega⟩⟩
 ·rw[rn] at hJ
  rw[aj]
  exact hJ.1
theorem zJu(h:aH n xs)(ur:n<=60)(ne:xs≠[]):TF n xs:=⟨ne,h.nodup,wT h ur,h.2⟩
theorem Gm(c k:Int)(h0:1<=n)(h1:n<=60):W (PL c k n) (TF n):=by
 unfold PL
 rw[zC,aj,zC,aj,zC,zC,dH]
 refine⟨⟨by omega,by omega⟩,?_⟩
 have rn:=Ca (n:=n) (by omega)
 refine vK (λj z=>aH j z.1/\z.1.length<=j) ⟨KR,aaq _⟩ (λj y z hj hJ=>?_) λz hJ=>?_
 ·obtain⟨rfl,hy⟩:=Yn hj
  simp only[zC,Vl,Rn,aj,Ox,HS]
  exact⟨by decide,λ_=>⟨xA (by omega),⟨by decide,by decide⟩,zIa hJ.1 (by omega) (by omega),by rw[length_append];exact ab2 hJ.2⟩,λ_=>⟨⟨by decide,by decide⟩,zO6 hJ.1 (by omega),by omega⟩⟩
 ·rw[rn] at hJ
  rw[zC]
  by_cases e:z.1=[]
  ·rw[if_pos (decide_eq_true e),zC,zC,Rn]
   refine⟨by omega,?_⟩
   have z0:=ado (c+k) (show n≠0 by omega)
   have z1:=acz (c+k) (show 0<n by omega)
   rw[e,HS]
   refine⟨xA (by simp),?_⟩
   rw[aj,aj]
   refine⟨by simp,by simp,by simp,λy hy=>?_⟩
   have:y=(c+k)%n:=by simpa using hy
   rw[this]
   exact⟨z0,z1⟩
  ·rw[if_neg (by rw[decide_eq_false e];decide),aj,aj]
   exact zJu hJ.1 h1 e
section
variable{α β:Type}{f:LI->α->Option (β×LI)}{R:β->Prop}
theorem zVj:∀(xs:List α)(ws:LI),(∀ws,∀x∈xs,W (f ws x) λr=>R r.1)->W (lK f ws xs) λr=>r.1.length=xs.length/\∀y∈r.1,R y
 |[],ws,_=>aj.mpr ⟨rfl,λy h=>by cases h⟩
 |x::xs,ws,h=>by
  unfold lK
  rw[zC]
  refine(h ws x mem_cons_self).imp λr hr=>?_
  rw[zC]
  refine(zVj xs r.2 λw y hy=>h w y (mem_cons_of_mem _ hy)).imp λq hq=>?_
  rw[aj]
  refine⟨by rw[length_cons,length_cons,hq.1],λy hy=>?_⟩
  rcases mem_cons.mp hy with rfl|hy
  ·exact hr
  ·exact hq.2 y hy
theorem zRn{xs:List α}(hl:xs.length<cap)(h:∀ws,∀x∈xs,W (f ws x) λr=>R r.1):W (LQ f ws xs) λr=>r.1.length=xs.length/\∀y∈r.1,R y:=by
 unfold LQ
 rw[if_pos hl]
 exact zVj xs ws h
end
structure Nt(n:Int)(T:Ir (List LI) (List (Str×LI)) (List LI)):Prop where
 pos:1<=n
 few:n<=60
 len:(T.a.length:Int)=n
 row:∀xs∈T.a,TF n xs
 marks:∃A B D,T.b=[(("p":Str),A),(("wet":Str),B),(("darkness":Str),D)]/\aH n A/\aH n B/\aH n D
 fair:wP n T.c
theorem Gn(h0:1<=n)(h1:n<=60)(s:List (Str×LI))(ws:LI)(x:Str)(hs:s.length<=100):W (((((uH ws).bind λr23=>(uI r23.1 n).bind λTw=>some (Tw,r23.2)).bind λr25=>some ((x,r25.1),r25.2)).bind λr26=>(push s r26.1).bind λZ0=>some (Z0,r26.2)).bind λeU=>some (eU.1,eU.2)) λz=>∃A,z.1=s++[(x,A)]/\aH n A:=by
 rw[zC,zC,zC,zC]
 refine(T4 ws).imp λr _=>?_
 rw[zC]
 refine(zOa r.1 (by omega) h1).imp λA hA=>?_
 rw[aj,aj,zC,HS]
 refine⟨xA (by omega),?_⟩
 rw[aj,aj]
 exact⟨A,rfl,hA⟩
theorem Gp(ws:LI):W (Tz ws) λv=>∃n,Nt n v.1:=by
 unfold Tz
 rw[zC]
 refine(T4 ws).imp λc _=>?_
 have hn:∀Q:Int->Prop,(∀n,1<=n->n<=60->Q n)->W ((((lJ c.1 (8:Int)).bind λa3=>jq a3 (7:Int)).bind λb4=>some ((1:Int)+b4))) λnA=>W (((jq c.1 (8:Int)).bind λa5=>some (decide (a5=(1:Int)))).bind λb=>if b=true then(((lJ c.1 (8:Int)).bind λa9=>jq a9 (5:Int)).bind λb10=>some ((8:Int)+b10)).bind λqN=>some qN else some nA) Q:=λQ h=>by
  simp only[zC,Rn,Vl,aj,Ox]
  exact⟨⟨by decide,by decide⟩,by decide,by decide,λ_=>⟨⟨by decide,by decide⟩,by decide,h _ (by omega) (by omega)⟩,λ_=>h _ (by omega) (by omega)⟩
 rw[zC]
 refine(hn _ λn n1 Bd=>?_).imp λnA h=>by rw[zC];exact h
 have rl:=Wi Bd (by omega)
 have rn:=Ca (n:=n) (by omega)
 rw[zC,zC,dH]
 refine⟨⟨by omega,by omega⟩,?_⟩
 refine(zRn (R:=TF n) (xA (by omega)) λw x _=>?_).imp λsteps hst=>?_
 ·rw[zC]
  refine(T4 w).imp λr _=>?_
  rw[zC]
  refine(Gm r.1 x n1 Bd).imp λb hb=>?_
  rw[aj]
  exact hb
 rw[zC,aj,zC,zC,aj]
 refine vK (λi z=>z.1.length=i/\∃A B D,aH n A/\aH n B/\aH n D/\z.1=([(("p":Str),A),("wet",B),("darkness",D)]:List (Str×LI)).take i) ⟨rfl,[],[],[],KR,KR,KR,rfl⟩ (λi x z hi hI=>?_) λz hI=>?_
 ·obtain⟨l,A,B,D,a,b,d,e⟩:=hI
  have i3:i<3:=by
   have:=(aay.mp hi).1
   simpa using this
  refine(Gn n1 Bd z.1 z.2 x (by omega)).imp λz' ⟨E,e1,e2⟩=>⟨by rw[e1,length_append,l];rfl,?_⟩
  rw[e1,e]
  match i,hi,i3 with
  |0,hi,_ =>
   have hx:x = "p":=by simpa using hi.symm
   subst hx
   exact⟨E,B,D,e2,b,d,rfl⟩
  |1,hi,_ =>
   have hx:x = "wet":=by simpa using hi.symm
   subst hx
   exact⟨A,E,D,a,e2,d,rfl⟩
  |2,hi,_ =>
   have hx:x = "darkness":=by simpa using hi.symm
   subst hx
   exact⟨A,B,E,a,b,e2,rfl⟩
 ·obtain⟨l,A,B,D,a,b,d,e⟩:=hI
  have e:z.1=[(("p":Str),A),("wet",B),("darkness",D)]:=e
  rw[zC,zC,zC,zC,Vl]
  refine⟨⟨by decide,by decide⟩,?_⟩
  rw[Rn]
  refine⟨by decide,?_⟩
  have q4:0<=c.1/60%4/\c.1/60%4<4:=by omega
  have r4:=Ca q4.1
  rw[dH]
  refine⟨⟨by omega,by omega⟩,?_⟩
  refine(zRn (R:=aH n) (xA (by omega)) λw x _=>?_).imp λfair hfa=>?_
  ·rw[zC]
   refine(T4 w).imp λr _=>?_
   rw[zC]
   refine(zOa r.1 (by omega) Bd).imp λF hF=>?_
   rw[aj]
   exact hF
  rw[aj]
  exact⟨n,n1,Bd,by show(steps.1.length:Int)=n;rw[hst.1];exact rn,hst.2,⟨A,B,D,e,a,b,d⟩,by show fair.1.length<=100;omega,λF hF=>Wd (hfa.2 F hF) Bd⟩
theorem yB{α:Type}[Decidable c]{a b:Option α}{Q:α->Prop}(h:¬c)(q:W b Q):W (if c then a else b) Q:=by rw[if_neg h];exact q
theorem Cq{α:Type}[Decidable c]{a b:Option α}{Q:α->Prop}(h:c)(q:W a Q):W (if c then a else b) Q:=by rw[if_pos h];exact q
inductive rT(xss:List LI)(U G:LI):Int->Prop
 |here {s:Int}:s∈G->rT xss U G s
 |on {s t:Int}:s∈U->t∈nxt xss s->rT xss U G t->rT xss U G s
section
variable{C:Addr}{cl:Hd->Addr}{m:aF C}{n:Int}
theorem vL(hL:aH n L)(p:Int->Bool):aH n (L.filter p):=⟨hL.1.filter p,λx hx=>hL.2 x (mem_filter.mp hx).1⟩
def nt(n:Int)(S:LI):LI:=pick n λz=>!decide (z∈S)
def tg(n:Int)(A B:LI):LI:=pick n λz=>decide (z∈A)||decide (z∈B)
def sn(m:aF C)(n:Int)(L S:LI):LI:=pick n (into m.steps (L.filter λz=>decide (z∈S)))
def cm(m:aF C)(U G:LI):LI:=(xC m U G).getD []
def co(m:aF C)(U:LI):LI:=(Ck m U).getD []
def st(m:aF C)(L A B:LI):LI:=cm m A (L.filter λz=>decide (z∈B))
def Gq(n:Int)(L A B:LI):LI:=(L.filter λz=>decide (z∈nt n B)).filter λz=>!decide (z∈A)
def et(m:aF C)(n:Int)(L A B:LI):LI:=nt n (tg n (cm m (nt n B) (Gq n L A B)) (co m (nt n B)))
theorem T5(g:Gr m n)(hU:aH n U)(hG:aH n G):xC m U G=some (cm m U G)/\aH n (cm m U G)/\∀s,s∈cm m U G↔0<=s/\s<n/\rT m.steps U G s:=by
 obtain⟨R,e,d,D,rfl⟩:=zOe g hU.2 ⟨hG.nodup,hG.2⟩
 have ec:cm m U G=pick n λs=>(dg d s).isSome:=by
  unfold cm
  rw[e]
  rfl
 refine⟨by rw[e,ec],by rw[ec];exact yR n _,λs=>?_⟩
 rw[ec,dz]
 have key:∀(k:Nat)(s:Int),0<=s->s<n->dg d s=some (k:Int)->rT m.steps U G s:=by
  intro k
  induction k with
  |zero=>exactλs s0 s1 e=>.here ((D.zero s s0 s1).mp e)
  |succ k ih =>
   intro s s0 s1 e
   by_cases sg:s∈G
   ·exact .here sg
   ·obtain⟨sU,t,tn,t0,t1,e2⟩:=D.via s _ s0 s1 e sg
    exact .on sU tn (ih t t0 t1 (by rw[e2];exact congrArg some (by omega)))
 constructor
 ·rintro⟨s0,s1,q⟩
  obtain⟨k,e⟩:=abl.mp q
  have kp:=D.pos s k s0 s1 e
  exact⟨s0,s1,key k.toNat s s0 s1 (by rw[e];exact congrArg some (by omega))⟩
 ·rintro⟨s0,s1,h⟩
  refine⟨s0,s1,?_⟩
  induction h with
  |here h=>rw[(D.zero _ s0 s1).mpr h];rfl
  |@on s t sU tn _ ih =>
   obtain⟨t0,t1⟩:=TY g s0 s1 t tn
   obtain⟨k,e⟩:=abl.mp (ih t0 t1)
   obtain⟨j,ej,_⟩:=D.near s t k s0 s1 t0 t1 sU tn e
   rw[ej];rfl
theorem Wk(g:Gr m n)(hf:wP n m.fair)(hU:aH n U):Ck m U=some (co m U)/\aH n (co m U):=by
 obtain⟨R,e,h,_⟩:=zOd g hf hU
 have ec:co m U=R:=by
  unfold co
  rw[e]
  rfl
 rw[ec]
 exact⟨e,h⟩
theorem Je(g:Gr m n)(hS:aH n S):xE m S=some (nt n S):=zRu g (by have:=wT hS g.few;omega)
theorem Jf(S:LI):aH n (nt n S):=yR n _
theorem Jg(g:Gr m n)(hA:aH n A)(hB:aH n B):vN A B=some (tg n A B):=by
 have la:=wT hA g.few
 have lb:=wT hB g.few
 have e:wS (A++B)=tg n A B:=Ih (uX _) (yR n _).1 λs=>by
  rw[bL,mem_append]
  unfold tg
  rw[dz,abp,decide_eq_true_iff,decide_eq_true_iff]
  exact⟨λh=>h.elim (λa=>⟨(hA.2 s a).1,(hA.2 s a).2,.inl a⟩) λb=>⟨(hB.2 s b).1,(hB.2 s b).2,.inr b⟩,λh=>h.2.2⟩
 have lt:=wT (yR n λz=>decide (z∈A)||decide (z∈B)) g.few
 unfold vN E_
 rw[e,if_pos ⟨by omega,by omega,by unfold tg;omega⟩]
theorem Bg(g:Gr m n)(hA:aH n A)(hB:aH n B):xN A B=some (A.filter λz=>decide (z∈B)):=zHt hA g.few (by have:=wT hB g.few;omega)
theorem P_(g:Gr m n)(hL:aH n L)(hA:aH n A)(hB:aH n B):xG m L A B=some (st m L A B)/\aH n (st m L A B):=by
 have q:=T5 g hA (vL hL λz=>decide (z∈B))
 refine⟨qb ?_,q.2.1⟩
 unfold xG
 rw[zC,zC,zC,zC,Bg g hL hB,aj,aj,aj,aj]
 show W (xC m A _) _
 rw[q.1]
 exact aj.mpr rfl
theorem Jh(g:Gr m n)(hf:wP n m.fair)(hL:aH n L)(hA:aH n A)(hB:aH n B):xX m L A B=some (et m n L A B):=by
 apply qb
 have rS:aH n (Gq n L A B):=vL (vL hL _) _
 have qc:=T5 g (Jf (n:=n) B) rS
 have qo:=Wk g hf (Jf (n:=n) B)
 have lA:=wT hA g.few
 have es:Tt m L A B=some (Gq n L A B):=by
  apply qb
  unfold Tt
  rw[zC,zC,zC,zC,zC,Je g hB,aj,aj,aj]
  show W (xN L (nt n B)) _
  rw[Bg g hL (Jf B),aj,aj]
  show W (uQ _ A) _
  rw[zMe (vL hL _) g.few (by omega),aj]
  rfl
 unfold xX
 rw[zC,Je g hB,aj,zC,zC,zC,zC,zC,es,aj,aj,aj,aj]
 show W (xC m (nt n B) (Gq n L A B)) _
 rw[qc.1,aj,zC,zC,zC,zC,zC,zC,qo.1,aj,aj,aj]
 dsimp only
 rw[Jg g qc.2.1 qo.2,aj,aj,aj]
 dsimp only
 rw[Je g (S:=tg n (cm m (nt n B) (Gq n L A B)) (co m (nt n B))) (yR n _)]
 exact aj.mpr rfl
def one(m:aF C)(n:Int)(L:LI)(i:Fin 7)(S:LI):LI :=
 if i=0 then nt n S else if i=1 then sn m n L S else if i=2 then nt n (sn m n L (nt n S)) else if i=3 then co m S else if i=4 then nt n (st m L (rng n) (nt n S)) else if i=5 then st m L (rng n) S else et m n L (rng n) S
def two(m:aF C)(n:Int)(L:LI)(i:Fin 4)(A B:LI):LI :=
 if i=0 then A.filter (λz=>decide (z∈B)) else if i=1 then tg n A B else if i=2 then st m L A B else et m n L A B
def vv(m:aF C)(n:Int)(L:LI):Tr->LI
 |.all=>rng n
 |.mark x=>(yD m x).getD []
 |.one i t=>one m n L i (vv m n L t)
 |.two i l r=>two m n L i (vv m n L l) (vv m n L r)
theorem f7:∀i:Fin 7,i=0\/i=1\/i=2\/i=3\/i=4\/i=5\/i=6:=by decide
theorem f4:∀i:Fin 4,i=0\/i=1\/i=2\/i=3:=by decide
theorem Ji(g:Gr m n)(hs:∀mk∈m.marks,aH n mk.2)(x:Str):yD m x=some ((yD m x).getD [])/\aH n ((yD m x).getD []):=by
 obtain⟨S,e,h⟩:=zRx g.few hs x
 rw[e]
 refine⟨rfl,?_⟩
 rcases h with⟨mk,h1,_,rfl⟩|⟨_,rfl⟩
 ·exact hs mk h1
 ·exact KR
theorem zSo(g:Gr m n)(hf:wP n m.fair)(hL:aH n L)(hS:aH n S)(i:Fin 7):aH n (one m n L i S):=by
 have rr:=Wj n
 rcases f7 i with rfl|rfl|rfl|rfl|rfl|rfl|rfl
 ·exact yR n _
 ·exact yR n _
 ·exact yR n _
 ·exact(Wk g hf hS).2
 ·exact yR n _
 ·exact(P_ g hL rr hS).2
 ·exact yR n _
theorem zSn(g:Gr m n)(hL:aH n L)(hA:aH n A)(hB:aH n B)(i:Fin 4):aH n (two m n L i A B):=by
 rcases f4 i with rfl|rfl|rfl|rfl
 ·exact vL hA _
 ·exact yR n _
 ·exact(P_ g hL hA hB).2
 ·exact yR n _
theorem Gs(g:Gr m n)(hf:wP n m.fair)(hs:∀mk∈m.marks,aH n mk.2)(hL:aH n L):∀t:Tr,aH n (vv m n L t)
 |.all=>Wj n
 |.mark x=>(Ji g hs x).2
 |.one i t=>zSo g hf hL (Gs g hf hs hL t) i
 |.two i l r=>zSn g hL (Gs g hf hs hL l) (Gs g hf hs hL r) i
theorem Nu(g:Gr m n)(hf:wP n m.fair)(hL:aH n L)(hS:aH n S)(i:Fin 7)(t:Tr):vA m L (aM.mk (cl:=cl) (.one i t)) [S]=some (one m n L i S):=by
 have rr:=Wj n
 apply qb
 unfold vA
 rcases f7 i with rfl|rfl|rfl|rfl|rfl|rfl|rfl
 ·refine(yB aao (yB aao (Cq (by show decide ((0:Fin 7)=0)=true;decide) ?_)))
  rw[zC,zC,zC,dM (by decide)]
  refine⟨S,rfl,?_⟩
  rw[aj,aj]
  show W (xE m S) _
  rw[Je g hS]
  exact aj.mpr rfl
 ·refine(yB aao (yB aao (yB (by show¬decide ((1:Fin 7)=0)=true;decide) (yB aao (yB aao ?_)))))
  unfold zR
  refine(Cq (by show decide ((1:Fin 7)=1)=true;decide) ?_)
  rw[zC,zC,zC,zC,dM (by decide)]
  refine⟨S,rfl,?_⟩
  rw[aj,aj,aj]
  show W (xW m L S) _
  rw[zF6 g hL hS]
  exact aj.mpr rfl
 ·refine(yB aao (yB aao (yB (by show¬decide ((2:Fin 7)=0)=true;decide) (yB aao (yB aao ?_)))))
  unfold zR
  refine(yB (by show¬decide ((2:Fin 7)=1)=true;decide) (Cq (by show decide ((2:Fin 7)=2)=true;decide) ?_))
  rw[zC,zC,zC,zC,zC,zC,zC,zC,zC,zC,dM (by decide)]
  refine⟨S,rfl,?_⟩
  rw[aj,aj]
  show W (xE m S) _
  rw[Je g hS,aj,aj,aj,aj]
  show W (xW m L (nt n S)) _
  rw[zF6 g hL (Jf S),aj,aj,aj]
  show W (xE m (sn m n L (nt n S))) _
  rw[Je g (S:=sn m n L (nt n S)) (yR n _)]
  exact aj.mpr rfl
 ·refine(yB aao (yB aao (yB (by show¬decide ((3:Fin 7)=0)=true;decide) (yB aao (yB aao ?_)))))
  unfold zR
  refine(yB (by show¬decide ((3:Fin 7)=1)=true;decide) (yB (by show¬decide ((3:Fin 7)=2)=true;decide) (yB aao (yB aao (Cq (by show decide ((3:Fin 7)=3)=true;decide) ?_)))))
  rw[zC,zC,zC,dM (by decide)]
  refine⟨S,rfl,?_⟩
  rw[aj,aj]
  show W (Ck m S) _
  rw[(Wk g hf hS).1]
  exact aj.mpr rfl
 ·refine(yB aao (yB aao (yB (by show¬decide ((4:Fin 7)=0)=true;decide) (yB aao (yB aao ?_)))))
  unfold zR
  refine(yB (by show¬decide ((4:Fin 7)=1)=true;decide) (yB (by show¬decide ((4:Fin 7)=2)=true;decide) (yB aao (yB aao (yB (by show¬decide ((4:Fin 7)=3)=true;decide) (Cq (by show decide ((4:Fin 7)=4)=true;decide) ?_))))))
  rw[zC,zC,zC,zC,zC,zC,zC,Nq g,aj]
  rw[zC,zC,zC,zC,zC,dM (by decide)]
  refine⟨S,rfl,?_⟩
  rw[aj,aj]
  show W (xE m S) _
  rw[Je g hS,aj,aj,aj,aj,aj]
  show W (xG m L (rng n) (nt n S)) _
  rw[(P_ g hL rr (Jf S)).1,aj,aj,aj]
  dsimp only
  rw[Je g (P_ g hL rr (Jf S)).2]
  exact aj.mpr rfl
 ·refine(yB aao (yB aao (yB (by show¬decide ((5:Fin 7)=0)=true;decide) (yB aao (yB aao ?_)))))
  unfold zR
  refine(yB (by show¬decide ((5:Fin 7)=1)=true;decide) (yB (by show¬decide ((5:Fin 7)=2)=true;decide) (yB aao (yB aao (yB (by show¬decide ((5:Fin 7)=3)=true;decide) (yB (by show¬decide ((5:Fin 7)=4)=true;decide) (Cq (by show decide ((5:Fin 7)=5)=true;decide) ?_)))))))
  rw[zC,zC,zC,zC,Nq g,aj]
  rw[zC,zC,dM (by decide)]
  refine⟨S,rfl,?_⟩
  rw[aj,aj,aj,aj]
  show W (xG m L (rng n) S) _
  rw[(P_ g hL rr hS).1]
  exact aj.mpr rfl
 ·refine(yB aao (yB aao (yB (by show¬decide ((6:Fin 7)=0)=true;decide) (yB aao (yB aao ?_)))))
  unfold zR
  refine(yB (by show¬decide ((6:Fin 7)=1)=true;decide) (yB (by show¬decide ((6:Fin 7)=2)=true;decide) (yB aao (yB aao (yB (by show¬decide ((6:Fin 7)=3)=true;decide) (yB (by show¬decide ((6:Fin 7)=4)=true;decide) (yB (by show¬decide ((6:Fin 7)=5)=true;decide) ?_)))))))
  rw[zC,zC,zC,zC,Nq g,aj]
  rw[zC,zC,dM (by decide)]
  refine⟨S,rfl,?_⟩
  rw[aj,aj,aj,aj]
  show W (xX m L (rng n) S) _
  rw[Jh g hf hL rr hS]
  exact aj.mpr rfl
theorem Nv(g:Gr m n)(hf:wP n m.fair)(hL:aH n L)(hA:aH n A)(hB:aH n B)(i:Fin 4)(l r:Tr):vA m L (aM.mk (cl:=cl) (.two i l r)) [A,B]=some (two m n L i A B):=by
 apply qb
 unfold vA
 rcases f4 i with rfl|rfl|rfl|rfl
 ·refine(yB aao (yB aao (yB aao (Cq (by show decide ((0:Fin 4)=0)=true;decide) ?_))))
  rw[zC,zC,dM (by decide)]
  refine⟨A,rfl,?_⟩
  rw[zC,zC,dM (by decide)]
  refine⟨B,rfl,?_⟩
  rw[aj,aj]
  show W (xN A B) _
  rw[Bg g hA hB]
  exact aj.mpr rfl
 ·refine(yB aao (yB aao (yB aao (yB (by show¬decide ((1:Fin 4)=0)=true;decide) (Cq (by show decide ((1:Fin 4)=1)=true;decide) ?_)))))
  rw[zC,zC,dM (by decide)]
  refine⟨A,rfl,?_⟩
  rw[zC,zC,dM (by decide)]
  refine⟨B,rfl,?_⟩
  rw[aj,aj]
  show W (vN A B) _
  rw[Jg g hA hB]
  exact aj.mpr rfl
 ·refine(yB aao (yB aao (yB aao (yB (by show¬decide ((2:Fin 4)=0)=true;decide) (yB (by show¬decide ((2:Fin 4)=1)=true;decide) ?_)))))
  unfold zR
  refine(yB aao (yB aao (Cq (by show decide ((2:Fin 4)=2)=true;decide) ?_)))
  rw[zC,zC,zC,zC,dM (by decide)]
  refine⟨A,rfl,?_⟩
  rw[zC,zC,dM (by decide)]
  refine⟨B,rfl,?_⟩
  rw[aj,aj,aj,aj]
  show W (xG m L A B) _
  rw[(P_ g hL hA hB).1]
  exact aj.mpr rfl
 ·refine(yB aao (yB aao (yB aao (yB (by show¬decide ((3:Fin 4)=0)=true;decide) (yB (by show¬decide ((3:Fin 4)=1)=true;decide) ?_)))))
  unfold zR
  refine(yB aao (yB aao (yB (by show¬decide ((3:Fin 4)=2)=true;decide) (Cq (by show decide ((3:Fin 4)=3)=true;decide) ?_))))
  rw[zC,zC,zC,zC,dM (by decide)]
  refine⟨A,rfl,?_⟩
  rw[zC,zC,dM (by decide)]
  refine⟨B,rfl,?_⟩
  rw[aj,aj,aj,aj]
  show W (xX m L A B) _
  rw[Jh g hf hL hA hB]
  exact aj.mpr rfl
theorem T6(g:Gr m n)(hf:wP n m.fair)(hs:∀mk∈m.marks,aH n mk.2)(hL:aH n L)(t:Tr):vA m L (aM.mk (cl:=cl) t) ((rC t).map (vv m n L))=some (vv m n L t):=by
 cases t with
 |all =>
  show yN m=_
  exact Nq g
 |mark x =>
  show yD m x=_
  exact(Ji g hs x).1
 |one i t=>exact Nu g hf hL (Gs g hf hs hL t) i t
 |two i l r=>exact Nv g hf hL (Gs g hf hs hL l) (Gs g hf hs hL r) i l r
theorem w_tab(g:Gr m n)(hf:wP n m.fair)(hs:∀mk∈m.marks,aH n mk.2)(hL:aH n L):∀(k:Nat)(t:Tr),t.depth<k->k<=9->W (xM k m L (aM.mk (cl:=cl) t)) λT=>∃pre,T=pre++[vv m n L t]/\T.length<2^k
 |0,t,h,_=>absurd h (aci _)
 |k+1,t,h,h9=>by
  show W (wU (xM k) m L _) _
  unfold wU
  rw[zC,aj,zC,aj,zC,zC,aj]
  show W (wB _ ((rC t).map aM.mk) _) _
  have p9:2^k<=2^8:=Nat.pow_le_pow_right (by decide) (by omega)
  have p9':2^k<=256:=p9
  have p1:1<=2^k:=Nat.one_le_two_pow
  have l2:(rC t).length<=2:=by cases t<;>simp[rC]
  refine vK (λi z=>z.1.length<=i*(2^k-1)/\z.2=((rC t).take i).map (vv m n L)) ⟨aa5 _,rfl⟩ (λi x z hi hz=>?_) λz hz=>?_
  ·obtain⟨z1,z2⟩:=hz
   rw[getElem?_map] at hi
   obtain⟨u,hu,rfl⟩:=Option.map_eq_some_iff.mp hi
   have il:i<2:=by
    have:=(aay.mp hu).1
    omega
   have du:=zPc (mem_of_getElem? hu)
   have im:i*(2^k-1)<=1*255:=Nat.mul_le_mul (by omega) (by omega)
   rw[zC,zC]
   refine(w_tab g hf hs hL k u (by omega) (by omega)).imp λT ⟨pre,e,hl⟩=>?_
   subst e
   unfold Ac
   rw[if_pos (xA (by omega)),aj,zC,zC]
   show W (L2.cu (z.1++(pre++[vv m n L u])) (-(1:Int))) _
   rw[<-append_assoc,qO,aj,z2,HS]
   refine⟨xA (by rw[length_map,length_take];omega),?_⟩
   rw[aj]
   refine⟨?_,?_⟩
   ·show((z.1++pre)++[vv m n L u]).length<=(i+1)*(2^k-1)
    rw[append_assoc,length_append,Nat.succ_mul]
    omega
   ·show((rC t).take i).map (vv m n L)++[vv m n L u]=_
    rw[take_add_one,hu,map_append]
    rfl
  ·obtain⟨told,sets⟩:=z
   obtain⟨z1,z2⟩:=hz
   rw[length_map] at z1 z2
   rw[take_length] at z2
   have z2:sets=(rC t).map (vv m n L):=z2
   have z1:told.length<=(rC t).length*(2^k-1):=z1
   have zm:(rC t).length*(2^k-1)<=2*(2^k-1):=Nat.mul_le_mul_right _ l2
   subst z2
   rw[zC,zC]
   show W (vA m L (aM.mk (cl:=cl) t) ((rC t).map (vv m n L))) _
   rw[T6 g hf hs hL t,aj,HS]
   refine⟨xA (by show told.length<=1000;omega),?_⟩
   rw[aj]
   refine⟨told,rfl,?_⟩
   show(told++[_]).length<2^(k+1)
   rw[length_append,Nat.pow_succ]
   show told.length+1<_
   omega
theorem zUc(g:Gr m n)(hf:wP n m.fair)(hs:∀mk∈m.marks,aH n mk.2)(hL:aH n L)(eL:Nh m=some L){t:Tr}(hd:t.depth<9):PK m (aM.mk (cl:=cl) t)=some (vv m n L t):=by
 apply qb
 unfold PK Wb
 rw[zC,zC,zC,zC,eL,aj,aj,aj]
 show W (xM 9 m L (aM.mk t)) _
 refine(w_tab g hf hs hL 9 t hd (by decide)).imp λT ⟨pre,e,_⟩=>?_
 subst e
 rw[qO,aj]
end
end Ts
set_option maxHeartbeats 40000000
namespace Ts
open PySem L2 Sy
section
variable{P:Program}{w:World}{K:PySem.W.Frag}{mg:Str->Option Value}{base:Heap}
def Wm(C:Addr)(cl:Hd->Addr)(q0:Kf)(ch:aM cl×aM cl×Unit):Option Bool:=(Mf (mG q0.ns none (some (60:Int)))).bind λBh=>(Tz Bh ).bind λv2=>((some v2.1.b).bind λxs=>wR (λ(x4:Str×LI)=>some true) (λ(x4:Str×LI)=>some (x4.1,x4.2)) xs).bind λdI=>(((some v2.1.a).bind λxs=>wR (λ(x6:LI)=>some true) (λ(x6:LI)=>some x6) xs).bind λa8=>((some v2.1.c).bind λxs=>wR (λ(x7:LI)=>some true) (λ(x7:LI)=>some x7) xs).bind λa9=>Py C a8 (some dI) (some a9)).bind λdF=>(cu ([(8:Int),(3:Int)]) (if(decide ((7:Int)<(v2.1.a.length:Int)))=true then(1:Int) else 0)).bind λgq=>((mulM (-(2:Int)) gq).bind λa12=>some (mG v2.2 (some a12) (some (-gq)))).bind λ_=>(λpG:aM cl=>(some (mG v2.2 (some (-gq)) none)).bind λ_=>(λtwo13:aM cl=>((PX pG two13).bind λxs=>uK (λ(lR:Unit) (Ao:(aM cl)×(aM cl))=>((PN dF Ao.1 Ao.2 (v2.1.a.length:Int)).bind λa17=>some (!a17)).bind λb=>if b=true then(some false).bind λb=>some (.rt b) else some (.nx ())) xs ()).bind λo=>o.els λM8=>some true) ch.2.1) ch.1
def Jj(C:Addr)(cl:Hd->Addr)(_:Kf):Option Bool:=some true
end
theorem T7(xs:LI):(mG xs none (some (60:Int))).length<=60:=by
 unfold mG
 rw[length_take,show(60:Int)=((60:Nat):Int) from rfl,HT.Df]
 omega
theorem nZ:uS "p" = some true/\uS "wet" = some true/\uS "darkness" = some true:=by decide +kernel
theorem Nx(h0:0<=n)(ur:n<=60):uO n=some (rng n):=qb (dH.mpr ⟨⟨by omega,by omega⟩,rfl⟩)
section
variable{C:Addr}{cl:Hd->Addr}{m:aF C}{n:Int}{L:LI}
theorem zO7(h:aH n X):pick n (λz=>decide (z∈X))=X:=(Ga h λs _ _=>by rw[decide_eq_true_iff]).symm
theorem Ny:s∈nt n S↔0<=s/\s<n/\s∉S:=by
 unfold nt
 rw[dz]
 simp
theorem Gu(A B:LI):tg n A B=tg n B A:=by
 unfold tg
 congr 1
 funext z
 exact Bool.or_comm _ _
theorem Nz(h:aH n X):tg n [] X=X:=by
 have e:(λz=>decide (z∈([]:LI))||decide (z∈X))=λz=>decide (z∈X):=by
  funext z
  simp
 unfold tg
 rw[e]
 exact zO7 h
theorem zR3:¬rT xss U [] s:=λh=>by
 induction h with
 |here h=>cases h
 |on _ _ _ ih=>exact ih
theorem NK(g:Gr m n)(hU:aH n U):cm m U []=[] :=
 List.eq_nil_iff_forall_not_mem.mpr λs h=>zR3 (((T5 g hU KR).2.2 s).mp h).2.2
theorem T8(g:Gr m n)(hf:wP n m.fair)(hL:aH n L)(A:LI):et m n L (rng n) A=nt n (co m (nt n A)):=by
 have e:Gq n L (rng n) A=[]:=by
  unfold Gq
  rw[List.filter_eq_nil_iff]
  intro z hz
  rw[decide_eq_true (jM.mpr (hL.2 z (mem_filter.mp hz).1))]
  decide
 unfold et
 rw[e,NK g (Jf A),Nz (Wk g hf (Jf A)).2]
theorem zP8(g:Gr m n)(hL:T3 m.steps m.fair n L)(s0:0<=s)(s1:s<n)(tn:t∈nxt m.steps s)(tL:t∈L):s∈L:=by
 obtain⟨tr,b,br,hb,r⟩:=(hL.2 t).mp tL
 exact(hL.2 s).mpr ⟨jM.mpr ⟨s0,s1⟩,b,br,hb,(Rc.on .here tn tr).trans r⟩
theorem zOk(g:Gr m n)(hL:T3 m.steps m.fair n L)(hG:∀x∈G,x∈L)(h:rT m.steps U G s):0<=s->s<n->s∈L:=by
 induction h with
 |here h=>exactλ_ _=>hG _ h
 |@on s t _ tn _ ih =>
  intro s0 s1
  obtain⟨t0,t1⟩:=TY g s0 s1 t tn
  exact zP8 g hL s0 s1 tn (ih t0 t1)
theorem Gv(g:Gr m n)(hL:T3 m.steps m.fair n L)(hA:aH n A)(hB:aH n B):st m L (tg n A B) B=st m L A B:=by
 have rG:=vL hL.1 λz=>decide (z∈B)
 have q1:=T5 g (U:=tg n A B) (yR n _) rG
 have q2:=T5 g hA rG
 refine Z5 q1.2.1.1 q2.2.1.1 λs=>?_
 show s∈cm m (tg n A B) _↔s∈cm m A _
 rw[q2.2.2 s,q1.2.2 s]
 have gl:∀x∈L.filter (λz=>decide (z∈B)),x∈L:=λx h=>(mem_filter.mp h).1
 constructor
 ·rintro⟨s0,s1,h⟩
  refine⟨s0,s1,?_⟩
  induction h with
  |here h=>exact .here h
  |@on s t sU tn T ih =>
   obtain⟨t0,t1⟩:=TY g s0 s1 t tn
   have sU':=(dz.mp sU).2.2
   rw[abp,decide_eq_true_iff,decide_eq_true_iff] at sU'
   rcases sU' with a|b
   ·exact .on a tn (ih t0 t1)
   ·exact .here (mem_filter.mpr ⟨zOk g hL gl (.on sU tn T) s0 s1,decide_eq_true b⟩)
 ·rintro⟨s0,s1,h⟩
  refine⟨s0,s1,?_⟩
  induction h with
  |here h=>exact .here h
  |@on s t sU tn _ ih =>
   obtain⟨t0,t1⟩:=TY g s0 s1 t tn
   exact .on (dz.mpr ⟨s0,s1,by rw[decide_eq_true sU];rfl⟩) tn (ih t0 t1)
theorem T9(hL:aH n L)(A B:LI):Gq n L A B=L.filter λz=>decide (z∈(nt n A).filter λz=>decide (z∈nt n B)):=by
 unfold Gq
 rw[List.filter_filter]
 refine List.filter_congr λz hz=>?_
 obtain⟨z0,z1⟩:=hL.2 z hz
 rw[abb,aar,decide_eq_true_iff,decide_eq_true_iff,mem_filter,Ny (S:=A),decide_eq_true_iff,Bool.not_eq_true',decide_eq_false_iff_not]
 exact⟨λh=>⟨⟨z0,z1,h.1⟩,h.2⟩,λh=>⟨h.1.2.2,h.2⟩⟩
theorem Gw(g:Gr m n)(hf:wP n m.fair)(hs:∀mk∈m.marks,aH n mk.2)(hL:aH n L)(eL:Nh m=some L){t u:Tr}(ht:t.depth<9)(hu:u.depth<9)(e:vv m n L t=vv m n L u):W (PN m (aM.mk (cl:=cl) t) (aM.mk u) n) (· = true):=by
 have few:=g.few
 have pos:=g.pos
 have rl:=Wi few (by omega)
 have rv:=Gs g hf hs hL t
 unfold PN
 rw[zC,zUc g hf hs hL eL ht,aj,zC,if_neg (show¬((!true)=true) by decide),zC,Nx (by omega) few]
 show W (wR _ _ (rng n)) _
 rw[zVk (λx=>decide (x∈vv m n L t)) (λx=>x),map_id']
 refine⟨xA (by omega),?_⟩
 have e2:(rng n).filter (λx=>decide (x∈vv m n L t))=vv m n L t:=zO7 rv
 rw[e2,aj,decide_eq_true rfl,aby,if_neg (show¬(false=true) by decide),zC,zUc g hf hs hL eL hu,aj,aj,e]
 exact decide_eq_true rfl
theorem wM(i:Fin 7)(t:Tr):vv m n L (.one i t)=one m n L i (vv m n L t):=by rw[vv]
theorem Gx(i:Fin 4)(l r:Tr):vv m n L (.two i l r)=two m n L i (vv m n L l) (vv m n L r):=by rw[vv]
theorem zUg:vv m n L .all=rng n:=by rw[vv]
theorem Bj(S:LI):one m n L 0 S=nt n S:=by unfold one;rw[if_pos rfl]
theorem on1(S:LI):one m n L 1 S=sn m n L S:=by unfold one;rw[if_neg (by decide),if_pos rfl]
theorem on2(S:LI):one m n L 2 S=nt n (sn m n L (nt n S)):=by unfold one;rw[if_neg (by decide),if_neg (by decide),if_pos rfl]
theorem on3(S:LI):one m n L 3 S=co m S:=by unfold one;rw[if_neg (by decide),if_neg (by decide),if_neg (by decide),if_pos rfl]
theorem on4(S:LI):one m n L 4 S=nt n (st m L (rng n) (nt n S)):=by unfold one;rw[if_neg (by decide),if_neg (by decide),if_neg (by decide),if_neg (by decide),if_pos rfl]
theorem on5(S:LI):one m n L 5 S=st m L (rng n) S:=by unfold one;rw[if_neg (by decide),if_neg (by decide),if_neg (by decide),if_neg (by decide),if_neg (by decide),if_pos rfl]
theorem on6(S:LI):one m n L 6 S=et m n L (rng n) S:=by unfold one;rw[if_neg (by decide),if_neg (by decide),if_neg (by decide),if_neg (by decide),if_neg (by decide),if_neg (by decide)]
theorem tw0(A B:LI):two m n L 0 A B=A.filter (λz=>decide (z∈B)):=by unfold two;rw[if_pos rfl]
theorem tw1(A B:LI):two m n L 1 A B=tg n A B:=by unfold two;rw[if_neg (by decide),if_pos rfl]
theorem tw2(A B:LI):two m n L 2 A B=st m L A B:=by unfold two;rw[if_neg (by decide),if_neg (by decide),if_pos rfl]
theorem tw3(A B:LI):two m n L 3 A B=et m n L A B:=by unfold two;rw[if_neg (by decide),if_neg (by decide),if_neg (by decide)]
def Jk(m:aF C)(n:Int)(L:LI)(p:aM cl×aM cl):Prop:=p.1.t.depth<9/\p.2.t.depth<9/\vv m n L p.1.t=vv m n L p.2.t
theorem Gy(g:Gr m n)(hf:wP n m.fair)(hs:∀mk∈m.marks,aH n mk.2)(hL:T3 m.steps m.fair n L){a b:Tr}(ha:a.depth<=3)(hb:b.depth<=3):W (PX (aM.mk (cl:=cl) a) (aM.mk b)) λxs=>∀p∈xs,Jk m n L p:=by
 have rA:=Gs g hf hs hL.1 a
 have rB:=Gs g hf hs hL.1 b
 have d1:∀(i:Fin 7)(t:Tr),(Tr.one i t).depth=t.depth+1:=λ_ _=>rfl
 have d2:∀(i:Fin 4)(t u:Tr),(Tr.two i t u).depth=max t.depth u.depth+1:=λ_ _ _=>rfl
 have d0:Tr.all.depth=0:=rfl
 have dd:∀{t u:Tr},t.depth<9->u.depth<9->vv m n L t=vv m n L u->Jk m n L (aM.mk (cl:=cl) t,aM.mk u):=λh1 h2 h3=>⟨h1,h2,h3⟩
 unfold PX t_
 rw[zC,aj,zC,if_pos (by show(2+2:Nat)<=cap;decide),aj,zC,if_pos (by show(4+2:Nat)<=cap;decide),aj,zC,aj,if_pos (by show(6+1:Nat)<=cap;decide),aj]
 intro p hp
 simp only[List.cons_append,nil_append,mem_cons,List.not_mem_nil,or_false] at hp
 rcases hp with rfl|rfl|rfl|rfl|rfl|rfl|rfl
 ·exact dd (by simp only[d1];omega) (by simp only[d1];omega) (by rw[wM,on2,wM,Bj,wM,on1,wM,Bj])
 ·exact dd (by simp only[d1];omega) (by simp only[d1];omega) (by rw[wM,on4,wM,Bj,wM,on5,wM,Bj])
 ·exact dd (by simp only[d1];omega) (by simp only[d1];omega) (by rw[wM,on6,wM,Bj,wM,on3,wM,Bj];exact T8 g hf hL.1 (vv m n L a))
 ·exact dd (by simp only[d1];omega) (by simp only[d2,d0];omega) (by rw[wM,on5,Gx,tw2,zUg])
 ·exact dd (by simp only[d1];omega) (by simp only[d2,d0];omega) (by rw[wM,on6,Gx,tw3,zUg])
 ·exact dd (by simp only[d2];omega) (by simp only[d2];omega) (by rw[Gx,tw2,Gx,tw2,Gx,tw1];exact(Gv g hL rA rB).symm)
 ·refine dd (by simp only[d2];omega) (by simp only[d1,d2];omega) ?_
  rw[Gx,tw3,wM,Bj,Gx,tw1,wM,on3,wM,Bj,Gx,tw2,wM,Bj,Gx,tw0,wM,Bj,wM,Bj]
  unfold et st
  rw[T9 hL.1,Gu]
end
theorem zP9(C:Addr)(cl:Hd->Addr)(Wn:Kf)(ch:aM cl×aM cl×Unit)(hch:ch.1.t.depth<=3/\ch.2.1.t.depth<=3/\True):Wm C cl Wn ch=some true:=by
 apply qb
 obtain⟨⟨a⟩,⟨b⟩,_⟩:=ch
 obtain⟨ha,hb,_⟩:=hch
 have ha:a.depth<=3:=ha
 have hb:b.depth<=3:=hb
 unfold Wm
 rw[zC]
 have c60:=T7 Wn.ns
 unfold Mf
 rw[if_pos (xA (by omega)),aj,zC]
 refine(Gp _).imp λv ⟨n,D⟩=>?_
 obtain⟨⟨xss,marks,fair⟩,rest⟩:=v
 obtain⟨n1,Bd,hl,hr,⟨A0,A1,A2,em,r0,r1,r2⟩,hf⟩:=D
 dsimp only at hl hr em hf
 subst em
 have fl:=hf.1
 have xl:xss.length<=60:=by omega
 rw[zC,zC,aj]
 show W (wR (λ(x21:Str×LI)=>some true) (λ(x21:Str×LI)=>some (x21.1,x21.2)) _) _
 rw[HW (λx:Str×LI=>(x.1,x.2)),map_id']
 refine⟨xA (by simp),?_⟩
 rw[zC,zC,zC,aj]
 show W (wR (λ(x29:LI)=>some true) (λ(x29:LI)=>some x29) xss) _
 rw[HW (λx=>x),map_id']
 refine⟨xA (show xss.length<=1000 by omega),?_⟩
 rw[zC,zC,aj]
 show W (wR (λ(x29:LI)=>some true) (λ(x29:LI)=>some x29) fair) _
 rw[HW (λx=>x),map_id']
 refine⟨xA (show fair.length<=1000 by omega),?_⟩
 show W (Py C xss (some [(("p":Str),A0),("wet",A1),("darkness",A2)]) (some fair)) _
 have nd3:(([(("p":Str),A0),("wet",A1),("darkness",A2)]:List (Str×LI)).map (·.1)).Nodup:=by
  show([("p":Str),"wet","darkness"]:List Str).Nodup
  decide +kernel
 refine(TQ C (mo:=some [(("p":Str),A0),("wet",A1),("darkness",A2)]) (fo:=some fair) hl n1 Bd (λxs hx=>Gd (hr xs hx)) ⟨nd3,by simp,λmk hm=>?_⟩ hf).imp λm ⟨g,es,em',ef⟩=>?_
 ·have hm':mk=(("p":Str),A0)\/mk=(("wet":Str),A1)\/mk=(("darkness":Str),A2):=by simpa using hm
  rcases hm' with rfl|rfl|rfl
  ·exact⟨nZ.1,(show("p":Str).length<=1000 by decide +kernel),Wd r0 Bd⟩
  ·exact⟨nZ.2.1,(show("wet":Str).length<=1000 by decide +kernel),Wd r1 Bd⟩
  ·exact⟨nZ.2.2,(show("darkness":Str).length<=1000 by decide +kernel),Wd r2 Bd⟩
 have em2:m.marks=[(("p":Str),A0),("wet",A1),("darkness",A2)]:=em'
 have ef2:m.fair=fair:=ef
 have hf':wP n m.fair:=by rw[ef2];exact hf
 have hs:∀mk∈m.marks,aH n mk.2:=λmk h=>by
  rw[em2] at h
  have h':mk=(("p":Str),A0)\/mk=(("wet":Str),A1)\/mk=(("darkness":Str),A2):=by simpa using h
  rcases h' with rfl|rfl|rfl
  ·exact r0
  ·exact r1
  ·exact r2
 obtain⟨L,eL,hL⟩:=Gk g hf'
 rw[zC]
 have mo:W (L2.cu ([(8:Int),(3:Int)]) (if(decide ((7:Int)<(xss.length:Int)))=true then(1:Int) else 0)) λk=>k=8\/k=3:=by
  by_cases c:(decide ((7:Int)<(xss.length:Int)))=true
  ·rw[if_pos c]
   exact⟨3,rfl,.inr rfl⟩
  ·rw[if_neg c]
   exact⟨8,rfl,.inl rfl⟩
 refine mo.imp λmost _=>?_
 rw[zC,zC,Ro]
 refine⟨.inl ⟨by decide,by decide⟩,?_⟩
 rw[aj]
 dsimp only
 rw[zC,aj]
 rw[zC,zC]
 show W (PX (aM.mk (cl:=cl) a) (aM.mk b)) _
 refine(Gy g hf' hs hL ha hb).imp λxs hx=>?_
 refine DQ (λ_ _=>True) trivial (λi p _ hi _=>?_) λ_ _=>by rw[zx,aj]
 obtain⟨h1,h2,h3⟩:=hx p (mem_of_getElem? hi)
 rw[zC,zC]
 show W (PN m p.1 p.2 (xss.length:Int)) _
 rw[hl]
 refine(Gw (cl:=cl) g hf' hs hL.1 eL h1 h2 h3).imp λb hb=>?_
 subst hb
 rw[aj,aby,if_neg (by decide),aj]
 exact⟨(),rfl,trivial⟩
end Ts
set_option maxHeartbeats 40000000
namespace Ts
open PySem L2 Sy
section
variable{P:Program}{w:World}{K:PySem.W.Frag}{mg:Str->Option Value}{base:Heap}
theorem Bk:ao ["_law_script","_law_rest","_law_steps","_law_marks","_law_fair","_law_marked","_law_machine","_law_most","_law_one","_law_two","_law_saying","_law_contrary"] ["_law_script"] (zH oY):=fsc
abbrev T_(K:PySem.W.Frag)(C:Addr)(cl:Hd->Addr):Sp:=cL K false (λa:Kf×Unit=>([.z a.1]:SL K)) (λa=>Jj C cl a.1)
theorem NP(F:aZ K "law" "law" oY f fd)(B:Bl K mg)(T:Cl K mg C)(MK:Mk K C fI)(GI:aq P w K mg base aO k0 fI Wo ["self","steps","marks","fair"] (RD K C (Py C)))(bI0:Binds K Wo ["self","steps","marks","fair"] [])(kJ:mg "reversed" = none)(kO:bK P w K mg base (k0+1) "_law_alike" ["_law_machine","_law_one","_law_other","_law_many"] (zJg K C cl))(kW:bK P w K mg base (k0+1) "_law_drawn" ["_law_rest"] (zJf K))(iD:bK P w K mg base (k0+1) "_law_grown" ["_law_rest","_law_names","_law_deep"] (zJe K))(jX:bK P w K mg base (k0+1) "_law_made" ["_law_tree"] (zL7 K cl))(kY:bK P w K mg base (k0+1) "_law_pairs" ["_law_a","_law_b"] (zJd K cl)):aq P w K mg base aO ((k0+1)+1) f fd ["_law_script"] (T_ K C cl):=by
 refine yL F Bk (λ_=>rfl) (λ_=>rfl) λcdv A outer s H E hr=>?_
 have nd:=Bk.nd
 refine⟨_,(zB (BL (i:=1) (own:=["_law_cell_here"]) (ix:=[]) nd rfl rfl rfl rfl rfl (Mg K kJ (zA (U3 (Li K) (pv 0) Xb (QD zK)) zD)) (λC s H fp=>yO (i:=0) (show(["_law_cell_here"]:List Str).Nodup from by decide +kernel) rfl (Or.inl rfl)) (λC s H fp=>wJ) (λC s H fp=>(pv 0))) (zB (Oe (zY kW hr (zA (pv 1) zD)) (G6 rfl (yP (cN 2 nd) (yP (cN 3 nd) (yP (cN 4 nd) Bv))))) (zB (BL (i:=5) (own:=["_law_name","_law_some"]) (ix:=[]) nd rfl rfl rfl rfl rfl (yT K (pv 3)) (λC s H fp=>XF (K:=K) (n:=2) rfl rfl (yP (yO (i:=0) (show(["_law_name","_law_some"]:List Str).Nodup from by decide +kernel) rfl (Or.inl rfl)) (yP (yO (i:=1) (show(["_law_name","_law_some"]:List Str).Nodup from by decide +kernel) rfl (Or.inl rfl)) Bv))) (λC s H fp=>wJ) (λC s H fp=>(wX (zA (pv 0) (zA (vX (KH K) rfl B.list HD (zA (pv 1) zD)) zD))))) (zB (xQ 6 nd (zX MK GI hr rfl T.mgC bI0 .nil yE (zA (BK (own:=["_law_some"]) (ix:=[]) rfl rfl rfl (yT K (pv 2)) (λC s H fp=>yO (i:=0) (show(["_law_some"]:List Str).Nodup from by decide +kernel) rfl (Or.inl rfl)) (λC s H fp=>wJ) (λC s H fp=>(vX (KH K) rfl B.list HD (zA (pv 0) zD)))) (zA (pv 5) (zA (BK (own:=["_law_some"]) (ix:=[]) rfl rfl rfl (yT K (pv 4)) (λC s H fp=>yO (i:=0) (show(["_law_some"]:List Str).Nodup from by decide +kernel) rfl (Or.inl rfl)) (λC s H fp=>wJ) (λC s H fp=>(vX (KH K) rfl B.list HD (zA (pv 0) zD)))) zD))))) (zB (xQ 7 nd (yQ (cG K) (wC (zA zK (zA zK zD))) (vX zRd rfl B.int zVd (zA (WY Hg (zU (zu K) rfl B.len abg (zA (pv 2) zD)) zK (yS _)) zD)) (λ_ _=>rfl))) (zB (xQ 8 nd (zY jX hr (zA (zY iD hr (zA (U3 (Li K) (pv 1) (QD (xL JR (Qq Qv zK) (pv 7))) (QD (Qq Qv (pv 7)))) (zA (wC (zA yF (zA yF (zA yF zD)))) (zA zK zD)))) zD))) (zB (xQ 9 nd (zY jX hr (zA (zY iD hr (zA (U3 (Li K) (pv 1) (QD (Qq Qv (pv 7))) Xb) (zA (wC (zA yF (zA yF (zA yF zD)))) (zA zK zD)))) zD))) (zB (xV aa2 rfl (yT K (zY kY hr (zA (pv 8) (zA (pv 9) zD)))) (G6 rfl (yP (cN 10 nd) (yP (cN 11 nd) Bv))) (zB (yX (Qk (wV (zY kO hr (zA (pv 6) (zA (pv 10) (zA (pv 11) (zA (zU (zu K) rfl B.len abg (zA (pv 2) zD)) zD))))))) (zB (zQ Cw) zG) zG) zG)) (zB (zQ Cw) zG))))))))),?_⟩
 rintro Fa ⟨q0,⟨⟩⟩
 refine wk.sb (SQ (v9 true 1 rfl rfl (Fp (zTu (zE 0 rfl) (zV 60)).ex)) (λBh=>(Mi [.z q0,.ow true Bh,.un,.un,.un,.un,.un,.un,.un,.un,.un,.un] (SQ (L_ (n:=true) (zTp 1 rfl rfl zO) (λ_=>Fo 2 3 4 rfl rfl (λ_=>rfl) rfl (λ_ _=>rfl) rfl)) (λv2=>(Mi [.z q0,.ow true v2.2,.y v2.1.a,.y v2.1.b,.y v2.1.c,.un,.un,.un,.un,.un,.un,.un] (SQ (xI true 5 rfl rfl (wL (n:=true) (jf:=[.un,.un]) (no:=2) (ix:=[]) rfl rfl (yU (zW 3 rfl)) (Hx 0 1 rfl rfl (λ_=>rfl) rfl) (λx4=>wg) (λx4=>(Dp (zI 0 rfl) (KC (zE 1 rfl)).ex)) (λx4=>iT)).ex) (λdI=>(Mi [.z q0,.ow true v2.2,.y v2.1.a,.y v2.1.b,.y v2.1.c,.y dI,.un,.un,.un,.un,.un,.un] (SQ (xI true 6 rfl rfl (zQz (wL (n:=true) (jf:=[.un]) (no:=1) (ix:=[]) rfl rfl (yU (zW 2 rfl)) (yK 0 rfl rfl) (λx6=>wg) (λx6=>(KC (zE 0 rfl)).ex) (λx6=>iT)).ex (zE 5 rfl) (wL (n:=true) (jf:=[.un]) (no:=1) (ix:=[]) rfl rfl (yU (zW 4 rfl)) (yK 0 rfl rfl) (λx7=>wg) (λx7=>(KC (zE 0 rfl)).ex) (λx7=>iT)).ex).ex) (λdF=>(Mi [.z q0,.ow true v2.2,.y v2.1.a,.y v2.1.b,.y v2.1.c,.y dI,.y dF,.un,.un,.un,.un,.un] (SQ (xI true 7 rfl rfl (esc (esc (wQ (Ht (xU (esc (zV 8)) (xU (esc (zV 3)) Hs)) (λa h=>aa0 ((vJ (vJ HN)) a h) (by decide))).ex (DY (Hz (BZ (zE 2 rfl)) (zV 7))))))) (λgq=>(Mi [.z q0,.ow true v2.2,.y v2.1.a,.y v2.1.b,.y v2.1.c,.y dI,.y dF,.y gq,.un,.un,.un,.un] (zK3 (cl:=cl) (d:=3) 8 rfl rfl rfl (zTt (BP 1 rfl) (Kv (Rr (zV 2)) (zI 7 rfl)) (Rr (zI 7 rfl))) (Ht (xU (esc (BR "p")) (xU (esc (BR "wet")) (xU (esc (BR "x")) Hs))) (λa h=>aa0 ((vJ (vJ (vJ HN))) a h) (by decide))).ex rfl (by decide) (zV 3) rfl (by decide) (by decide) (by decide) (λpG=>(Mi [.z q0,.ow true v2.2,.y v2.1.a,.y v2.1.b,.y v2.1.c,.y dI,.y dF,.y gq,.y pG,.un,.un,.un] (zK3 (cl:=cl) (d:=3) 9 rfl rfl rfl (zTv (BP 1 rfl) (Rr (zI 7 rfl))) (Ht (xU (esc (BR "p")) (xU (esc (BR "wet")) (xU (esc (BR "darkness")) Hs))) (λa h=>aa0 ((vJ (vJ (vJ HN))) a h) (by decide))).ex rfl (by decide) (zV 3) rfl (by decide) (by decide) (by decide) (λtwo13=>(Mi [.z q0,.ow true v2.2,.y v2.1.a,.y v2.1.b,.y v2.1.c,.y dI,.y dF,.y gq,.y pG,.y two13,.un,.un] (Ft (XS (X8 (n:=true) (L:=(λlR:Unit=>([.z q0,.ow true v2.2,.y v2.1.a,.y v2.1.b,.y v2.1.c,.y dI,.y dF,.y gq,.y pG,.y two13,.un,.un]:SL K))) () bZ (yU (zTr (zF (zW 8 rfl) (zF (zW 9 rfl) zO)))) (λlR=>(Hx 10 11 rfl rfl (λ_=>rfl) rfl)) (λlR Ao=>(X4 (QZ (cU (md:=.hp) (zM (zF (zE 6 rfl) (zF (zE 10 rfl) (zF (zE 11 rfl) (zF (esc (BZ (zE 2 rfl))) zO))))))) (yC (esc (Dn false))) (X3 (λlR:Unit=>([.z q0,.ow true v2.2,.y v2.1.a,.y v2.1.b,.y v2.1.c,.y dI,.y dF,.y gq,.y pG,.y two13,.un,.un]:SL K)) () bZ)))) (λM8=>(yC (esc (Dn true))))))))))))))))))))))))))) ⟨(aM.mk .all,aM.mk .all,()),by show 0<=3;decide,by show 0<=3;decide,trivial⟩ λch hch=>?_
 exact(show _=Wm C cl q0 ch by unfold Wm;simp only[bnd]).trans (zP9 C cl q0 ch hch)
end
open PySem L2
theorem Ua(h:aq P w K mg base aO k f fd ["_law_rest"] (ZX K)):aq P w K mg base aO k f fd ["_law_rest"] Sy.S9:=aq.imp h λvs H Q E ⟨a,ns,e,ha,q⟩=>by
 subst e
 obtain⟨⟨z,ns'⟩,ez,_⟩:=T4 ns
 refine⟨a,ns,[],(),z,ns',λ_=>none,rfl,ha,rfl,(λb o e=>by cases e),ez,.nil,λv H' s1 e1 r=>?_⟩
 have r:v=.int z:=r
 subst r
 exact q z ns' H' (λb o n e=>s1 b o (by unfold del;rw[if_neg n];exact e)) e1
theorem zTc(C:Addr)(cl:Sy.Hd->Addr)(Wn:Kf):W (Jj C cl Wn) (· = true):=⟨true,rfl,rfl⟩
end Ts
namespace Sy
open PySem L2
section
variable{K:PySem.W.Frag}{C D:Addr}
theorem Gz(hc:isClsIn K D=true)(ht:typeIn K (.ref D)=some (.type "type"))(hm:mroIn K C (.ref D)=some true):kitOne K (.ref C) (.ref D)=some true:=by
 unfold kitOne
 split
 ·rfl
 ·unfold kitCls PySem.W.subIn
  dsimp only
  rw[ht,hm,show(PySem.W.clsIn K D).isSome=true from hc]
  rfl
theorem NQ(hc:isClsIn K D=true)(ht:typeIn K (.ref D)=some (.type "type"))(hm:mroIn K C (.ref D)=some false)(hs:mroIn K C (.ref C)=some true):kitOne K (.ref C) (.ref D)=some false:=by
 have ne:C≠D:=λe=>by
  subst e
  rw[hm] at hs
  cases hs
 unfold kitOne
 rw[if_neg (λe=>ne (aem (abu e)))]
 unfold kitCls PySem.W.subIn
 dsimp only
 rw[ht,hm,show(PySem.W.clsIn K D).isSome=true from hc]
 rfl
def Wq(K:PySem.W.Frag)(C:Addr):List Addr->Prop
 |[]=>True
 |D::r=>mroIn K C (.ref D)=some false/\Wq K C r
def Bo(K:PySem.W.Frag):List Addr->List Addr->Prop
 |_,[]=>True
 |p,C::r=>mroIn K C (.ref C)=some true/\Wq K C p/\Wq K C r/\Bo K (C::p) r
theorem zLk(h:Wq K C ds)(m:D∈ds):mroIn K C (.ref D)=some false:=by
 induction ds with
 |nil=>cases m
 |cons E r ih =>
  cases m with
  |head=>exact h.1
  |tail _ m=>exact ih h.2 m
theorem Ub:∀{p:List Addr},Bo K p r->∀{i:Nat},r[i]?=some C->mroIn K C (.ref C)=some true/\(D∈p->mroIn K C (.ref D)=some false)/\∀{j:Nat},r[j]?=some D->j≠i->mroIn K C (.ref D)=some false:=by
 induction r with
 |nil=>intro p _ i e;cases e
 |cons E r ih =>
  intro p h i e
  cases i with
  |zero =>
   cases e
   refine⟨h.1,zLk h.2.1,λ{j} f n=>?_⟩
   cases j with
   |zero=>exact absurd rfl n
   |succ j=>exact zLk h.2.2.1 (mem_of_getElem? f)
  |succ i =>
   obtain⟨a,b,c⟩:=ih h.2.2.2 e
   refine⟨a,λm=>b (.tail _ m),λ{j} f n=>?_⟩
   cases j with
   |zero=>cases f;exact b (.head _)
   |succ j=>exact c f λq=>n (congrArg _ q)
end
def hix:Hd->Nat
 |.all=>0
 |.mark=>1
 |.one i=>i.val+2
 |.two i=>i.val+9
theorem GD(h:Hd)(t:Tr):Ts.jt h t=decide (hix h=hix (hd t)):=by
 cases h<;>cases t
 case one.one i j _=>exact decide_eq_decide.2 ⟨λe=>by subst e;rfl,λe=>Fin.ext (by have e:i.val+2=j.val+2:=e;omega)⟩
 case two.two i j _ _=>exact decide_eq_decide.2 ⟨λe=>by subst e;rfl,λe=>Fin.ext (by have e:i.val+9=j.val+9:=e;omega)⟩
 all_goals first|rfl|(symm;apply decide_eq_false;intro e;simp only[hix,hd] at e;omega)
theorem GF:∀i:Fin 7,i=0\/i=1\/i=2\/i=3\/i=4\/i=5\/i=6:=by decide
theorem GJ:∀i:Fin 4,i=0\/i=1\/i=2\/i=3:=by decide
abbrev HdR(K:PySem.W.Frag)(C:Addr):Prop:=findIn K (.ref C) "__class__" = some (some (.builtin "object.__class__"))/\mroIn K C (.type "object")=some true/\isClsIn K C=true/\typeIn K (.ref C)=some (.type "type")
abbrev rW(K:PySem.W.Frag)(C:Addr)(x y:Str)(st:Stmt):Prop:=nsIn K aa6 x=some (some (.ref C))/\(∃f fd,Mk K C f/\aZ K "__init__" y st f fd)/\Cls K C/\(findIn K (.ref C) "word" = some none/\findIn K (.ref C) "parts" = some none/\findIn K (.ref C) "part" = some none/\findIn K (.ref C) "left" = some none/\findIn K (.ref C) "right" = some none/\findIn K (.ref C) "name" = some none)/\HdR K C
abbrev Wr(K:PySem.W.Frag)(C:Addr)(x y:Str)(st:Stmt):Prop:=nsIn K aa6 x=some (some (.ref C))/\∃f fd,ql K C "__init__" f/\aZ K "__init__" y st f fd
def HdQ(K:PySem.W.Frag)(C f:Addr):Prop:=Mk K C f/\gF K C/\HdR K C
section
variable{K:PySem.W.Frag}{h:Heap}{mg:Str->Option Value}{C:Addr}{x y:Str}{st:Stmt}
theorem NT(a:nsIn K aa6 x=some (some (.ref C)))(c:ql K C "__init__" f)(F:aZ K "__init__" y st f fd):Wr K C x y st:=⟨a,f,fd,c,F⟩
theorem NZ(a:nsIn K aa6 x=some (some (.ref C)))(m:Mk K C f)(F:aZ K "__init__" y st f fd)(c:Cls K C)(n:(findIn K (.ref C) "word" = some none/\findIn K (.ref C) "parts" = some none/\findIn K (.ref C) "part" = some none/\findIn K (.ref C) "left" = some none/\findIn K (.ref C) "right" = some none/\findIn K (.ref C) "name" = some none)/\HdR K C):rW K C x y st:=⟨a,⟨f,fd,m,F⟩,c,n⟩
theorem u5(X:K.In h)(G:h.Ns aa6 mg)(p:rW K C x y st):mg x=some (.ref C)/\∃f fd,aZ K "__init__" y st f fd/\HdQ K C f:=by
 obtain⟨a,⟨f,fd,m,F⟩,c,⟨n1,n2,n3,n4,n5,n6⟩,r⟩:=p
 exact⟨mg_of X G a,f,fd,F,m,⟨c,n1,n2,n3,n4,n5,n6⟩,r⟩
end
set_option maxHeartbeats 8000000 in
theorem N5{l:PySem.W.OpenLaw}{K:PySem.W.Frag}(X:K.In h)(G:h.Ns aa6 mg)(bA:Wr K CA "Saying" "Saying.__init__" Zj)(bB:Wr K CB "OfOne" "OfOne.__init__" Zk)(bD:Wr K CD "OfTwo" "OfTwo.__init__" Zm)(h0:rW K C0 "All" "All.__init__" Mv)(h1:rW K C1 "Mark" "Mark.__init__" Ah)(h2:rW K C2 "Not" "Not.__init__" Mw)(h3:rW K C3 "SomeNext" "SomeNext.__init__" Zn)(h4:rW K C4 "EachNext" "EachNext.__init__" Zo)(h5:rW K C5 "SomeAlways" "SomeAlways.__init__" Zq)(h6:rW K C6 "EachAlways" "EachAlways.__init__" Zr)(h7:rW K C7 "SomeEver" "SomeEver.__init__" Zt)(h8:rW K C8 "EachEver" "EachEver.__init__" Zu)(h9:rW K C9 "Both" "Both.__init__" Ai)(h10:rW K C10 "Either" "Either.__init__" Zv)(h11:rW K C11 "SomeTill" "SomeTill.__init__" Zw)(h12:rW K C12 "EachTill" "EachTill.__init__" Zx)(m:Bo K [] [C0,C1,C2,C3,C4,C5,C6,C7,C8,C9,C10,C11,C12])(hn:specialIn K (.builtin "object.__class__") "__get__" = some (some (.builtin "getset_descriptor.__get__")))(ht:takesIn K (.builtin "object.__class__")=some true)
   :∃(cl fi:Hd->Addr)(di:Hd->FuncData),∀base:Heap,Ts.pO l.prog w K mg base 3 cl fi di:=by
 obtain⟨aA,fA,dA,cA,FA⟩:=bA
 have aA:=mg_of X G aA
 obtain⟨aB,fB,dB,cB,FB⟩:=bB
 have aB:=mg_of X G aB
 obtain⟨aD,fD,dD,cD,FD⟩:=bD
 have aD:=mg_of X G aD
 obtain⟨a0,f0,d0,F0,Q0⟩:=u5 X G h0
 obtain⟨a1,f1,d1,F1,Q1⟩:=u5 X G h1
 obtain⟨a2,f2,d2,F2,Q2⟩:=u5 X G h2
 obtain⟨a3,f3,d3,F3,Q3⟩:=u5 X G h3
 obtain⟨a4,f4,d4,F4,Q4⟩:=u5 X G h4
 obtain⟨a5,f5,d5,F5,Q5⟩:=u5 X G h5
 obtain⟨a6,f6,d6,F6,Q6⟩:=u5 X G h6
 obtain⟨a7,f7,d7,F7,Q7⟩:=u5 X G h7
 obtain⟨a8,f8,d8,F8,Q8⟩:=u5 X G h8
 obtain⟨a9,f9,d9,F9,Q9⟩:=u5 X G h9
 obtain⟨a10,f10,d10,F10,Q10⟩:=u5 X G h10
 obtain⟨a11,f11,d11,F11,Q11⟩:=u5 X G h11
 obtain⟨a12,f12,d12,F12,Q12⟩:=u5 X G h12
 refine⟨λh=>([C0,C1,C2,C3,C4,C5,C6,C7,C8,C9,C10,C11,C12]:List Addr).getD (hix h) 0,λh=>([f0,f1,f2,f3,f4,f5,f6,f7,f8,f9,f10,f11,f12]:List Addr).getD (hix h) 0,λh=>([d0,d1,d2,d3,d4,d5,d6,d7,d8,d9,d10,d11,d12]:List FuncData).getD (hix h) d0,λbase=>?_⟩
 have Z:∀h,HdQ K (([C0,C1,C2,C3,C4,C5,C6,C7,C8,C9,C10,C11,C12]:List Addr).getD (hix h) 0) (([f0,f1,f2,f3,f4,f5,f6,f7,f8,f9,f10,f11,f12]:List Addr).getD (hix h) 0)/\([C0,C1,C2,C3,C4,C5,C6,C7,C8,C9,C10,C11,C12]:List Addr)[hix h]?=some (([C0,C1,C2,C3,C4,C5,C6,C7,C8,C9,C10,C11,C12]:List Addr).getD (hix h) 0):=λh=>by
  rcases h with _|_|i|i
  ·exact⟨Q0,rfl⟩
  ·exact⟨Q1,rfl⟩
  ·rcases GF i with rfl|rfl|rfl|rfl|rfl|rfl|rfl<;>exact⟨by assumption,rfl⟩
  ·rcases GJ i with rfl|rfl|rfl|rfl<;>exact⟨by assumption,rfl⟩
 have oA:=zPw (P:=l.prog) (w:=w) (mg:=mg) (base:=base) FA
 have bA:=Ts.qD (p0:="self") (p1:="word") (p2:="parts") FA
 have oB:=zS3 FB aA cA oA bA
 have bB:=Ts.qD (p0:="self") (p1:="word") (p2:="part") FB
 have oD:=zS2 FD aA cA oA bA
 have bD:=Ts.Lj (p0:="self") (p1:="word") (p2:="left") (p3:="right") FD
 have o0:=Mx F0 Q0.2.1 aA cA oA bA
 have o1:=FJ F1 Q1.2.1 aA cA oA bA
 have o2:=MF F2 Q2.2.1 aB cB oB bB
 have o3:=zJ8 F3 Q3.2.1 aB cB oB bB
 have o4:=zKb F4 Q4.2.1 aB cB oB bB
 have o5:=zHb F5 Q5.2.1 aB cB oB bB
 have o6:=zHc F6 Q6.2.1 aB cB oB bB
 have o7:=zJ9 F7 Q7.2.1 aB cB oB bB
 have o8:=zKc F8 Q8.2.1 aB cB oB bB
 have o9:=FN F9 Q9.2.1 aD cD oD bD
 have o10:=zPx F10 Q10.2.1 aD cD oD bD
 have o11:=zJ7 F11 Q11.2.1 aD cD oD bD
 have o12:=zKa F12 Q12.2.1 aD cD oD bD
 refine⟨⟨λh=>(Z h).1.1,o0.mono (by decide),Ts.sV F0,o1.mono (by decide),Ts.jG F1,λi=>by rcases GF i with rfl|rfl|rfl|rfl|rfl|rfl|rfl<;>assumption,λi=>by rcases GF i with rfl|rfl|rfl|rfl|rfl|rfl|rfl<;>(first|exact Ts.jG F2|exact Ts.jG F3|exact Ts.jG F4|exact Ts.jG F5|exact Ts.jG F6|exact Ts.jG F7|exact Ts.jG F8),λi=>by rcases GJ i with rfl|rfl|rfl|rfl<;>assumption,λi=>by rcases GJ i with rfl|rfl|rfl|rfl<;>(first|exact Ts.qD F9|exact Ts.qD F10|exact Ts.qD F11|exact Ts.qD F12),a0,a1,λi=>by rcases GF i with rfl|rfl|rfl|rfl|rfl|rfl|rfl<;>assumption,λi=>by rcases GJ i with rfl|rfl|rfl|rfl<;>assumption⟩,λh=>(Z h).1.2.1,λh h' t e=>?_,λh=>(Z h).1.2.2.1,hn,ht,λh=>(Z h).1.2.2.2.1⟩
 subst e
 rw[GD]
 obtain⟨x,_,y⟩:=Ub (D:=_) m (Z (hd t)).2
 by_cases e:hix h'=hix (hd t)
 ·rw[decide_eq_true e]
  exact Gz (Z h').1.2.2.2.2.1 (Z h').1.2.2.2.2.2 (by rw[e];exact x)
 ·rw[decide_eq_false e]
  exact NQ (Z h').1.2.2.2.2.1 (Z h').1.2.2.2.2.2 (y (Z h').2 e) x
end Sy
namespace Ts
open PySem L2 Sy
def Bp(K:PySem.W.Frag):Sp:=λvs H Q _=>∃(a:Addr)(ns:LI),vs=[.ref a]/\aV K H a (ns.map V.int)/\ns.length<=63/\∀H',Q (.bl true) H'
section
variable{P:Program}{w:World}{K:PySem.W.Frag}{mg:Str->Option Value}{base h:Heap}{j k:Nat}{f C:Addr}{fd:FuncData}{ps:List Str}{sp:Sp}{x y:Str}{st:Stmt}
theorem aae(no:∀vs H Q E,¬sp vs H Q E):aq P w K mg base aO k f fd ps sp :=
 ⟨λvs H Q E h=>absurd h (no vs H Q E),λA outer s H args us vs Q E _ _ _ _ h=>absurd h (no vs H Q E)⟩
abbrev FP(K:PySem.W.Frag)(x:Str)(st:Stmt):Prop:=∃f fd,nsIn K aa6 x=some (some (.ref f))/\aZ K x x st f fd
abbrev MP(K:PySem.W.Frag)(C:Addr)(x y:Str)(st:Stmt):Prop:=∃f fd,Meth K C x f/\aZ K x y st f fd
def Jl(K:PySem.W.Frag):List Str->Prop
 |[]=>True
 |x::r=>nsIn K aa6 x=some none/\Jl K r
theorem Uc(a:nsIn K aa6 x=some (some (.ref f)))(F:aZ K x x st f fd):FP K x st:=⟨f,fd,a,F⟩
theorem Ud(a:Meth K C x f)(F:aZ K x y st f fd):MP K C x y st:=⟨f,fd,a,F⟩
theorem GK{dV oc kV doc pm cdv ct:Value}{od an:Option Addr}{osl:Array (Option Value)}(l:K.lookup f=some ⟨oc,od,.func (fnOf x y (uC st) (xZ st) (zH st) dV kV doc pm an cdv ct),osl⟩)(c:codeIn K cdv y=true)(k:keepIn K (.ref f)=true):Ag K x y st dV f (fnOf x y (uC st) (xZ st) (zH st) dV kV doc pm an cdv ct):=⟨⟨oc,od,kV,doc,pm,an,cdv,ct,osl,rfl,l,c⟩,k⟩
theorem N6(X:K.In h)(G:h.Ns aa6 mg)(p:FP K x st)(t:∀f fd,aZ K x x st f fd->aq P w K mg base aO k f fd ps sp/\Binds K fd ps []):bK P w K mg base k x ps sp:=by
 obtain⟨f,fd,a,F⟩:=p
 exact⟨f,fd,(t f fd F).1,(t f fd F).2,F.kp,mg_of X G a⟩
theorem GP(c:Cls K C)(p:MP K C x y st)(t:∀f fd,aZ K x y st f fd->aq P w K mg base aO k f fd ps sp/\Binds K fd ps []):fP P w K mg base k C x ps sp:=by
 obtain⟨f,fd,a,F⟩:=p
 exact⟨⟨f,fd,(t f fd F).1,(t f fd F).2,a⟩,c⟩
theorem bK.m(c:bK P w K mg base j x ps sp)(h:j<=k:=by decide):bK P w K mg base k x ps sp:=c.mono h
theorem fP.m(c:fP P w K mg base j C x ps sp)(h:j<=k:=by decide):fP P w K mg base k C x ps sp:=c.mono h
end
set_option maxHeartbeats 8000000 in
theorem all_mk{l:PySem.W.OpenLaw}{K:PySem.W.Frag}(X:K.In h)(G:h.Ns aa6 mg)(hfa:mg "law" = some (.ref fa))(SY:∃(cl fi:Hd->Addr) (di:Hd->FuncData),∀base:Heap,pO l.prog w K mg base 3 cl fi di)(h1:FP K "sources_of" V0)(h2:FP K "is_stand" jy)(h3:FP K "check_stands" dN)(h4:FP K "check_steps" eZ)(h5:FP K "is_name" j8)(h6:FP K "check_marks" fj)(h7:FP K "check_fair" fW)(h8:FP K "copied" mR)(h9:FP K "everywhere" fQ)(h10:FP K "flags" pP)(h11:FP K "without" jZ)(h12:FP K "others" mJ)(h13:FP K "together" ju)(h14:FP K "shared" mK)(h15:FP K "distances" gU)(h16:FP K "comes_to" jw)(h17:FP K "steps_into" fU)(h18:FP K "stepping_to" eV)(h19:FP K "bits_of" j4)(h20:FP K "onward_bits" eX)(h21:FP K "rings" pQ)(h22:FP K "missed_by" gW)(h23:FP K "fair_rings" fV)(h24:FP K "joined" mL)(h25:FP K "core" rD)(h26:FP K "alive" s_alive)(h27:FP K "some_next" gY)(h28:FP K "some_till" gZ)(h29:FP K "spoilers" jx)(h30:FP K "each_till" g8)(h31:FP K "meaning_over_walks" bV)(h32:FP K "meaning" j7)(h33:FP K "table_among" eY)(h34:FP K "table" pR)(h35:FP K "holds" pU)(h36:FP K "_law_cell" mU)(h37:FP K "_law_grown" oX)(h38:FP K "_law_single" mV)(h39:FP K "_law_made" qH)(h40:FP K "_law_bits" mW)(h41:FP K "_law_next" mX)(h42:FP K "_law_drawn" j9)(h43:FP K "_law_alike" j_)(h44:FP K "_law_pairs" kh)(h45:FP K "law" oY)(aC:nsIn K aa6 "Machine" = some (some (.ref C)))(mk:Mk K C fI)(FI:Ag K "__init__" "Machine.__init__" Ae (.ref TD) fI Wo)(lT:K.lookup TD=some ⟨ocT,odT,.seq #[.none,.none] nT,slT⟩)(m0:MP K C "many" "Machine.many" dO)(m1:MP K C "next_of" "Machine.next_of" cO)(m2:MP K C "before" "Machine.before" cV)(m3:MP K C "marked" "Machine.marked" cW)(m4:MP K C "fair_at" "Machine.fair_at" cP)(cC:Cls K C)(nC:findIn K (.ref C) "steps" = some none/\findIn K (.ref C) "marks" = some none/\findIn K (.ref C) "fair" = some none/\findIn K (.ref C) "sources" = some none)(n8:nsIn K aa6 "LETTERS" = some (some (.str "abcdefghijklmnopqrstuvwxyz" uy)))(fH:nsIn K aa6 "LONGEST_NAME" = some (some (.int 8 m5)))(gw:nsIn K aa6 "MOST_STANDS" = some (some (.int 60 oJ)))(fJ:nsIn K aa6 "SAYING_WORDS" = some (some (.ref bW)))(oK:K.lookup bW=some ⟨.type "tuple",none,.seq #[.str "all" u_,.str "not" vd,.str "both" vf,.str "either" vg,.str "somenext" vh,.str "eachnext" vm,.str "sometill" vo,.str "eachtill" vp,.str "someever" vq,.str "eachever" v7] Bq,wu⟩)(z:Jl K ["len","range","isinstance","int","bool","list","enumerate","any","all","sorted","str","set","reversed"]) :
  ∃fd:FuncData,(∀(s:Shared)(v:Value),BindsTo s fd ⟨[v],[]⟩ [("_law_script",v)])/\∀base:Heap,K.In base->base.Ns aa6 mg->aq l.prog w K mg base aO 21 fa fd ["_law_script"] (Bp K):=by
 obtain⟨f,fd,a,⟨oc,od,kV,dc,pm,an,cd,ct,sl,rfl,lk,ck⟩,kp⟩:=h45
 have e:=hfa.symm.trans (mg_of X G a)
 cases e
 obtain⟨cl,fi,di,I0⟩:=SY
 obtain⟨aaf,N7,qP,aag,Ue,Ug,rY,M9,M5,bI,M6,lO,kJ,_⟩:=z
 obtain⟨nS,nM,nF,nB⟩:=nC
 have N:∀{x:Str},nsIn K aa6 x=some none->mg x=none:=λe=>PySem.W.mg_none_of X G e
 have B:Bl K mg:=⟨N aaf,N N7,N qP,N aag,N Ue,N Ug,N rY,Rg,Ri,Rh⟩
 have aah:=N M9
 have aai:=N M5
 have gA:=N bI
 have aaj:=N M6
 have GQ:=N lO
 have v8:=N kJ
 have n8:=mg_of X G n8
 have fH:=mg_of X G fH
 have gw:=mg_of X G gw
 have fJ:=mg_of X G fJ
 have T:Cl K mg C:=⟨cC,nS,nM,nF,nB,mg_of X G aC⟩
 have bI0:Binds K Wo ["self","steps","marks","fair"] []:=λs us KX hl=>by
  obtain⟨_,_,_,_,_,_,_,_,_,rfl,_⟩:=FI.ex
  have h2:us.length=4:=by
   rw[length_append] at hl
   have:([]:List Value).length=0:=rfl
   have h4:(["self","steps","marks","fair"]:List Str).length=4:=rfl
   omega
  match us,h2 with
  |[u0,u1,u2,u3],_=>exact BindsTo.of_defaults rfl (KX _ _ lT) rfl rfl rfl
 refine⟨fnOf "law" "law" (uC oY) (xZ oY) (zH oY) .none kV dc pm an cd ct,λs v=>.of_eq rfl,λbase _ _=>?_⟩
 have cal:∀{k:Nat}{x:Str}{st:Stmt}{ps:List Str}{sp:Sp},FP K x st->(∀f fd,aZ K x x st f fd->aq l.prog w K mg base aO k f fd ps sp/\Binds K fd ps [])->bK l.prog w K mg base k x ps sp:=λh t=>N6 X G h t
 have Br:∀{k:Nat}{x y:Str}{st:Stmt}{ps:List Str}{sp:Sp},MP K C x y st->(∀f fd,aZ K x y st f fd->aq l.prog w K mg base aO k f fd ps sp/\Binds K fd ps [])->fP l.prog w K mg base k C x ps sp:=λh t=>GP cC h t
 have I:=I0 base
 have dR:∀H:Hp,cI K H bW ((["all","not","both","either","somenext","eachnext","sometill","eachtill","someever","eachever"]:List Str).map V.str):=λH=>.inr ⟨_,_,_,oK,rfl,rfl,(by show 10<=sizeLine;decide),by repeat(first|exact Paired.nil|refine Paired.cons ⟨_,rfl⟩ ?_)⟩
 have jA:=cal h2 λ_ _ F=>⟨zJ5 (k:=0) F B,jG F⟩
 have aN:=cal h3 λ_ _ F=>⟨zE3 (k:=1) F B jA.m,qD F⟩
 have oM:=cal h4 λ_ _ F=>⟨zF0 (k:=2) F B gw aN.m,sV F⟩
 have kj:=cal h5 λ_ _ F=>⟨zM9 (k:=0) F B n8 fH fJ dR aai aaj,sV F⟩
 have oO:=cal h6 λ_ _ F=>⟨zF1 (k:=2) F B aN.m kj.m,jG F⟩
 have qd:=cal h7 λ_ _ F=>⟨zHa (k:=2) F B aN.m,jG F⟩
 have Bt:=cal h8 λ_ _ F=>⟨zPv (k:=0) F B,sV F⟩
 have aak:=cal h1 λ_ _ F=>⟨Mt F B,sV F⟩
 have OI:aq l.prog w K mg base aO 4 fI Wo ["self","steps","marks","fair"] (RD K C (Py C)):=Mu (k:=3) FI T B oM.m oO.m qd.m Bt.m aak.m
 have aL:=Br m0 λ_ _ F=>⟨zE4 (k:=0) (C:=C) F B T,sV F⟩
 have aR:=Br m1 λ_ _ F=>⟨zCo (k:=0) (C:=C) F B T gA,jG F⟩
 have cX:=Br m2 λ_ _ F=>⟨zDl (k:=0) (C:=C) F B T,jG F⟩
 have cZ:=Br m3 λ_ _ F=>⟨zDk (k:=0) (C:=C) F B T gA,jG F⟩
 have cQ:=Br m4 λ_ _ F=>⟨zCp (k:=0) (C:=C) F B T gA,jG F⟩
 have aJ:=cal h9 λ_ _ F=>⟨zG9 (k:=1) (C:=C) F B aL.m,sV F⟩
 have iB:=cal h10 λ_ _ F=>⟨zS0 (k:=1) (C:=C) F B aL.m,jG F⟩
 have dJ:=cal h11 λ_ _ F=>⟨zM4 (k:=0) F B gA GQ,jG F⟩
 have aU:=cal h12 λ_ _ F=>⟨zPq (k:=2) (C:=C) F B aJ.m dJ.m,jG F⟩
 have cY:=cal h13 λ_ _ F=>⟨zJ3 (k:=0) F B gA GQ,jG F⟩
 have aY:=cal h14 λ_ _ F=>⟨zPp (k:=0) F B gA GQ,jG F⟩
 have ig:=cal h15 λ_ _ F=>⟨zIk (k:=2) (C:=C) F B cX.m aL.m iB.m,qD F⟩
 have bJ:=cal h16 λ_ _ F=>⟨zJ6 (k:=3) (C:=C) F B ig.m,qD F⟩
 have gj:=cal h17 λ_ _ F=>⟨zG7 (k:=1) (C:=C) F B aah aR.m,qD F⟩
 have fG:=cal h18 λ_ _ F=>⟨zFy (k:=2) (C:=C) F B iB.m gj.m,qD F⟩
 have iC:=cal h19 λ_ _ F=>⟨zNa (k:=0) F B,sV F⟩
 have fu:=cal h20 λ_ _ F=>⟨zFz (k:=1) (C:=C) F B aL.m aR.m iC.m,jG F⟩
 have pY:=cal h21 λ_ _ F=>⟨zSy (k:=2) (C:=C) F B gA GQ fu.m,jG F⟩
 have iy:=cal h22 λ_ _ F=>⟨zIi (k:=1) (C:=C) F B T cQ.m aY.m,jG F⟩
 have gk:=cal h23 λ_ _ F=>⟨zG8 (k:=3) (C:=C) F B iy.m pY.m,jG F⟩
 have ni:=cal h24 λ_ _ F=>⟨zPu (k:=0) F B,sV F⟩
 have gn:=cal h25 λ_ _ F=>⟨FW (k:=4) (C:=C) F B bJ.m gk.m ni.m,jG F⟩
 have pZ:=cal h26 λ_ _ F=>⟨zS1 (k:=5) (C:=C) F B gn.m aJ.m,sV F⟩
 have eN:=cal h27 λ_ _ F=>⟨zIh (k:=3) (C:=C) F B aJ.m aY.m fG.m,qD F⟩
 have dw:=cal h28 λ_ _ F=>⟨zIg (k:=4) (C:=C) F B bJ.m aY.m,Lj F⟩
 have jB:=cal h29 λ_ _ F=>⟨zJ4 (k:=3) (C:=C) F B aU.m aY.m dJ.m,Lj F⟩
 have eG:=cal h30 λ_ _ F=>⟨zIj (k:=5) (C:=C) F B bJ.m gn.m aU.m jB.m cY.m,Lj F⟩
 have bY:=cal h31 λ_ _ F=>⟨zBe (k:=6) (C:=C) (cl:=cl) F B I gn.m eG.m aJ.m aU.m eN.m dw.m,Lj F⟩
 have kE:=cal h32 λ_ _ F=>⟨zM5 (k:=7) (C:=C) (cl:=cl) F B I cZ.m aJ.m bY.m aU.m aY.m cY.m,Lj F⟩
 have n_:∀n:Nat,bK l.prog w K mg base (8+n) "table_among" ["machine","living","saying"] (uM K C cl (xM n)):=λn=>by
  induction n with
  |zero=>exact cal h33 λ_ _ F=>⟨aae (λvs H Q E ⟨_,_,_,_,z,_⟩=>by cases z),qD F⟩
  |succ n ih=>exact cal h33 λ_ _ F=>⟨zFx (k:=8+n) F B I (kE.mono (aa0 (by decide) (ab7 8 n))) ih,qD F⟩
 have cF:bK l.prog w K mg base 17 "table_among" ["machine","living","saying"] (zC3 K C cl):=n_ 9
 have p7:=cal h34 λ_ _ F=>⟨zSx (k:=17) (C:=C) (cl:=cl) F B pZ.m cF.m,jG F⟩
 have lV:=cal h35 λ_ _ F=>⟨zSz (k:=18) (C:=C) (cl:=cl) F B p7.m,jG F⟩
 have dZ:=cal h36 λ_ _ F=>⟨zPs (k:=0) F B,sV F⟩
 have iD:bK l.prog w K mg base 6 "_law_grown" ["_law_rest","_law_names","_law_deep"] (zJe K):=by
  obtain⟨f,fd,a,F⟩:=h37
  obtain⟨gC,dC,GC0,bC,kC,mC⟩:=dZ
  exact⟨f,fd,Sy.IV F (qD F) (mg_of X G a) (Ua GC0) bC kC mC B 4,qD F,F.kp,mg_of X G a⟩
 have rZ:bK l.prog w K mg base 5 "_law_single" ["_law_word","_law_part"] (Sy.M4 cl):=by
  obtain⟨f,fd,a,F⟩:=h38
  exact⟨f,fd,Sy.Td F I.ini,jG F,F.kp,mg_of X G a⟩
 have jX:bK l.prog w K mg base 9 "_law_made" ["_law_tree"] (zL7 K cl):=by
  obtain⟨f,fd,a,F⟩:=h39
  obtain⟨gS,dS,GS,bS,kS,mS⟩:=rZ
  exact⟨f,fd,Sy.I8 F (sV F) (mg_of X G a) I.ini GS bS kS mS B 4,sV F,F.kp,mg_of X G a⟩
 have jW:=cal h40 λ_ _ F=>⟨zPt (k:=0) F B,jG F⟩
 have nG:=cal h41 λ_ _ F=>⟨zPr (k:=0) F B,qD F⟩
 have kW:=cal h42 λ_ _ F=>⟨zM7 (k:=1) F B jW.m dZ.m nG.m,sV F⟩
 have kO:=cal h43 λ_ _ F=>⟨zM8 (k:=19) (C:=C) (cl:=cl) F B lV.m,Lj F⟩
 have kY:=cal h44 λ_ _ F=>⟨zM6 (k:=4) (cl:=cl) F B I (by decide),jG F⟩
 refine aq.imp (NP (k0:=19) (C:=C) (cl:=cl) (lY lk ck kp) B T mk (OI.mono (by decide)) bI0 v8 kO.m kW.m iD.m jX.m kY.m) λvs H Q E h=>?_
 obtain⟨a,ns,rfl,hS,h63,hQ⟩:=h
 obtain⟨b,e1,e2⟩:=zTc C cl ⟨ns⟩
 subst e2
 exact⟨(⟨ns⟩,()),true,H,.refl _,e1,.cons ⟨a,rfl,hS⟩ .nil,λv H' _ r=>by cases r;exact hQ H'⟩
theorem walk{l:PySem.W.OpenLaw}{YP:World->Heap->Prop}{d:DefRec}{K:Params->PySem.W.Frag}(hn:l.most=some 63)(hdf:d.params.defaults=[])(hY:∀(w:World) (h:Heap),YP w h->(K w.params).In h)(F:∀(w:World) (mg:Str->Option Value) (fa:Addr) (h:Heap),(K w.params).In h->h.Ns aa6 mg->mg d.name=some (.ref fa) ->
   ∃fd:FuncData,(∀(s:Shared) (u:Value),BindsTo s fd ⟨[u],[]⟩ [("_law_script",u)])/\∀base:Heap,(K w.params).In base->base.Ns aa6 mg->aq l.prog w (K w.params) mg base aO 21 fa fd ["_law_script"] (Bp (K w.params))) :
  PySem.W.WalkO q loose XP YP l.row.toRowW d [] (λf vs=>PySem.call f vs) :=
 L2.Dk (n:=63) (k:=21) (x:="_law_script") (CX:=λ_=>aO) (sp:=λw=>Bp (K w.params)) hn (by decide) hdf ⟨rfl,by decide,by decide⟩ hY F (λ_ _ a ns hl _ hS=>⟨a,ns,rfl,hS,hl,λ_=>rfl⟩) λ_ _ _ _ _ z=>z
end Ts
namespace PySem.W.Fast
def tw5805733182434111230:=0
def tw11928526839403338829:=0
def tw18216876383509910607:=0
def tw1791054849807453470:=0
def tw13021400352782067681:=0
def tw5591721196708275630:=0
def tw18407826512286084499:=0
def tw7086393521404907449:=0
def tw14874458220014087098:=0
def tw16523126456476160423:=0
def tw11308604833489435627:=0
def tw10186790406672170595:=0
def tw13812926476258746568:=0
def tw15201094955337560918:=0
def tw3928857185025299880:=0
def tw8129517786178157749:=0
def tw7533176216338487753:=0
def tw13209412000683844863:=0
def tw5330385423648864131:=0
def tw11486239256670171374:=0
def tw564937577041362471:=0
def tw4480294883468156450:=0
def tw279580939141493433:=0
def tw4661807394926988914:=0
def tw11453742144207951245:=0
def tw11923465001974581166:=0
def tw6440447353976911196:=0
def tw14437694322025030041:=0
def tw6974672796968721053:=0
def tw440779875481059167:=0
def tw1808626955396432774:=0
def tw3019439025032266947:=0
def tw121043731309651089:=0
def tw720582821044266413:=0
def tw4163998854268142171:=0
def tw5283137069221800650:=0
def tw15718658128949737398:=0
def tw5390768463784142569:=0
def tw9990317763618444450:=0
def tw3813202984544581917:=0
def tw18300682980961465277:=0
def tw2871523724402700126:=0
def tw5108853059267415279:=0
def tw11393481196494221267:=0
def tw11438094714717930197:=0
def tw11949276753237349822:=0
def tw16212426572036710734:=0
def tw139089285438663413:=0
def tw10554508930118934899:=0
def tw14120340061924843893:=0
def tw1777347493856673926:=0
def tw2492861469680834259:=0
def tw16916143292513064527:=0
def tw5421270908047509551:=0
def tw12403164610962506076:=0
def tw10905428796939879326:=0
def tw7958191497272565926:=0
def tw13877778041655455646:=0
def tw10625938416462492462:=0
def tw2294871823909731550:=0
def tw4516530018999091465:=0
def tw17413976624872744604:=0
def tw12520619895340208236:=0
def tw11898580760688464018:=0
def tw6144728313036484764:=0
def tw9491937353269942434:=0
def tw8631573419455015317:=0
def tw258138684945865134:=0
def tw7362865724651724124:=0
def tw14141968805937993344:=0
def tw11671100275668880210:=0
def tw6963366904597225245:=0
def tw16594173931659780190:=0
def tw16711143708244949836:=0
def tw10269994038297689727:=0
def tw14019112435756657833:=0
def tw14563385188424734675:=0
def tw8665896762431842037:=0
def tw2867824067388327507:=0
def tw16894139542850680206:=0
def tw10919838841769715931:=0
def tw1484121557512781712:=0
def tw134018604837259191:=0
def tw9038737241796735607:=0
def tw530712331241556832:=0
def tw9058672455143641498:=0
def tw16644732468374355017:=0
def tw10059222467234818405:=0
def tw18319758732282764473:=0
def tw3985426674909210523:=0
def tw7735521089601363565:=0
def tw12538020527957146825:=0
def tw8475152246727374384:=0
def tw9945526054644349296:=0
def tw10454563322288281371:=0
def tw5723471180449298435:=0
def tw15747317164100277911:=0
def tw10697168730371471009:=0
def tw18321075537991502661:=0
def tw5319751843138398965:=0
def tw17626635986281199973:=0
def tw14008790132188303463:=0
def tw3685588625276796578:=0
def tw6308028330282026286:=0
def tw3428815703291355240:=0
def tw7245297447737952435:=0
def tw4291606200502086149:=0
def tw1912946093045297657:=0
def tw11883763738204592204:=0
def tw1034307487289100878:=0
def tw8899626007120152221:=0
def tw1937063320935712216:=0
def tw12051185444674006489:=0
def tw16811724528291445639:=0
def tw16416369269666109122:=0
def tw18251386673699103819:=0
def tw5499428868062082766:=0
def tw11477531576360820458:=0
def tw106780637691790986:=0
def tw15883591954483118850:=0
def tw5826105246585720578:=0
def tw13217039328580724073:=0
def tw16763999119217085222:=0
def tw15381238705034954086:=0
def tw9796901572995669599:=0
def tw696592898189500688:=0
def tw13430456570222742058:=0
def tw15221876779842849785:=0
def tw14836475503573665283:=0
def tw13365571166915986712:=0
def tw6471757290363671704:=0
def tw6483349116743344043:=0
def tw3597293504438584753:=0
def tw12652738865837499285:=0
def tw12176720624487757974:=0
def tw3337399923756799224:=0
def tw4649901455764648755:=0
def tw10294761733313291529:=0
def tw2662718852311377499:=0
def tw15838022757391672554:=0
def tw10514323449922468164:=0
def tw14435299544311761845:=0
def tw8859951388552296187:=0
def tw5664552760139536219:=0
def tw3891312630078528259:=0
def tw2965026067308097497:=0
def tw8727845318569194114:=0
def tw7327416621549708013:=0
def tw3577274653671395499:=0
def tw12200318280182827506:=0
def tw7363365042350583856:=0
def tw14667972466712814165:=0
def tw16271706502366495722:=0
def tw1925834489881853754:=0
def tw5252073114573175201:=0
def tw14494401796875974625:=0
def tw442518332530339591:=0
def tw2246808432146507858:=0
def tw13496943575127825964:=0
def tw10954757470296593906:=0
def tw17307234444301012153:=0
def tw452560468262011939:=0
def tw16021787417278588575:=0
def tw13319353650564216742:=0
def tw15213408682011192089:=0
def tw12820246621554874012:=0
def tw17606638769209240146:=0
def tw6203282396988865515:=0
def tw17793431386837560356:=0
def tw17697953848663766002:=0
def tw11343022297121275454:=0
def tw13574429072526733600:=0
def tw7931190304044789520:=0
def tw2642596212822145711:=0
def tw3860580937053469730:=0
def tw13962912745090939205:=0
def tw7286062606227889049:=0
def tw5738079626074104753:=0
def tw1446480787002466967:=0
def tw445935573960535606:=0
def tw5998866004710946369:=0
def tw8719314944673852460:=0
def tw5301128373305164578:=0
def tw4835884898218314027:=0
def tw17446763733036793834:=0
def tw14428684140340225451:=0
def tw14375405580072053011:=0
def tw9958972674167942083:=0
def tw12095650668179851181:=0
def tw12507419392107460395:=0
def tw2217870357699503493:=0
def tw5896987205479925572:=0
def tw9292692895902780492:=0
def tw7957134651261885473:=0
def tw8522521242676155355:=0
def tw2425150185201383561:=0
def tw46154116304503219:=0
def tw8563714425403893070:=0
def tw15021331484758407091:=0
def tw11658723084876956777:=0
def tw12527745529034344961:=0
def tw1466852643050860612:=0
def tw5920534551094726143:=0
def tw15363894693099652959:=0
def tw9456072365821137162:=0
def tw18342075545831963675:=0
def tw1420374995850397317:=0
def tw11110018119482045003:=0
def tw7871520210942845171:=0
def tw17232205924441092247:=0
def tw7509890641690530441:=0
def tw11776980675322507317:=0
def tw7805964844372950208:=0
def tw18013541136841421339:=0
def tw6678477835240835916:=0
def tw749560776536383164:=0
def tw5457640810102348085:=0
def tw13070514440386462991:=0
def tw5504557292286114108:=0
def tw13721817522438937796:=0
def tw10994185827443176424:=0
def tw11996404957269596549:=0
def tw16135834728723800483:=0
def tw14007238218030140869:=0
def tw6072155644660932905:=0
def tw13975427100085257431:=0
def tw11679722503268951908:=0
def tw5233143829002240421:=0
def tw18413905582710597665:=0
def tw7336589698022320435:=0
def tw351025694897594720:=0
def tw11613076772251273677:=0
def tw4082075371158411467:=0
def tw16751002704033084985:=0
def tw72049930465521915:=0
def tw12654454862813123888:=0
def tw6849204667605939675:=0
def tw9606584472594858941:=0
def tw3199804618402910252:=0
def tw14701477088005539003:=0
def tw3764673109015567020:=0
def tw978094377294540098:=0
def tw4734233634664994738:=0
def tw6835009632758247583:=0
def tw10952939725315018669:=0
def tw11260532544486130199:=0
def tw15570176933470557652:=0
def tw15222674103410026370:=0
def tw4876031039166784780:=0
def tw12660389237050026461:=0
def tw11507780625315079146:=0
def tw13984939749551175867:=0
def tw2307596740702414899:=0
def tw59197482721361822:=0
def tw11411659936612615242:=0
def tw9683090441011216951:=0
def tw1130433331818005533:=0
def tw7874787466034445902:=0
def tw10120215703959057574:=0
def tw4248419892981584068:=0
def tw12032960953405274738:=0
def tw14675392323816045047:=0
def tw2484641481995153159:=0
def tw16186130546575801598:=0
def tw15576226567722617737:=0
def tw12410216625805958703:=0
def tw13902444157123131521:=0
def tw14409138078565326912:=0
def tw7381713832266684954:=0
def tw14390751442667927588:=0
def tw6385330775284142036:=0
def tw11710419082740257899:=0
def tw5384383249762956480:=0
def tw10326980163336231610:=0
def tw1369707136638078205:=0
def tw10304926809250353376:=0
def tw16035651138175084213:=0
def tw1589402308606417415:=0
def tw616772833356015295:=0
def tw12224085538857535233:=0
def tw16638238814691550197:=0
def tw18119970410306069760:=0
def tw9077141264696183017:=0
def tw8503592729299777504:=0
def tw6426440000405075626:=0
def tw4248810250130756486:=0
def tw9463190089773067070:=0
def tw1363473302542663473:=0
def tw9673572467276035885:=0
def tw6169405981935443577:=0
def tw5882449337677546186:=0
def tw8513555412193870899:=0
def tw9657115879907448187:=0
def tw7620813809744193837:=0
def tw12785716320277661828:=0
def tw13282451865766282419:=0
def tw4383139390459179825:=0
def tw12229748855712353503:=0
def tw1520954817294963324:=0
def tw16233333720188096376:=0
end PySem.W.Fast
open PySem PySem.W PyProof.Rows
set_option maxRecDepth 100000 in
set_option maxHeartbeats 0 in
theorem PySem.Challenge.cw_treesay_k45_contraries_holds : PySem.Challenge.rw_treesay_k45_contraries.Holds := by
 w_on; o_law; k_head; (case hw=>w_witness2)
 k_fill
 refine Ts.walk (l:=PySem.Challenge.rw_treesay_k45_contraries) rfl rfl (fun w h Y=>by first | exact PySem.W.kIn_of Y | exact PySem.W.km_in_of Y) ?F
 case F =>
  intro w mg fa h KX G hmg
  refine' Ts.all_mk KX G hmg (Sy.N5 KX G ?_ ?_ ?_ ?_ ?_ ?_ ?_ ?_ ?_ ?_ ?_ ?_ ?_ ?_ ?_ ?_ ?_ ?_ ?_) ?_ ?_ ?_ ?_ ?_ ?_ ?_ ?_ ?_ ?_ ?_ ?_ ?_ ?_ ?_ ?_ ?_ ?_ ?_ ?_ ?_ ?_ ?_ ?_ ?_ ?_ ?_ ?_ ?_ ?_ ?_ ?_ ?_ ?_ ?_ ?_ ?_ ?_ ?_ ?_ ?_ ?_ ?_ ?_ ?_ ?_ ?_ ?_ ?_ ?_ ?_ ?_ ?_ ?_ ?_ ?_ ?_ ?_ ?_ ?_ ?_ ?_
  all_goals first | refine' Sy.NZ ?_ ⟨?_,?_,?_,?_⟩ (L2.lY ?_ ?_ ?_) ⟨?_,?_,?_,?_⟩ ?_ | refine' Sy.NT ?_ ⟨?_,?_,?_,?_⟩ (L2.lY ?_ ?_ ?_) | refine' Ts.Ud ⟨?_,?_,?_⟩ (L2.lY ?_ ?_ ?_) | refine' Ts.Uc ?_ (L2.lY ?_ ?_ ?_) | refine' Ts.GK ?_ ?_ ?_ | refine' ⟨?_,?_,?_,?_⟩ | skip
  all_goals repeat' first | refine' And.intro ?_ ?_ | exact True.intro
  all_goals first | k_is | skip
  all_goals first | k_is | skip
