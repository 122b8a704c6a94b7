import PyProof.Rows.All
import Wide.All
import OpenK.AllK
import Wide.FinOn
import Lean
import PyProof.EqAt
import PyProof.EqKinds
import PyProof.TupleCall
import PyProof.NeKinds
import PyProof.EnumStmt
import PyProof.EnumMake
import PyProof.CompFree
import PyProof.Rows.FStr
import PySem.Challenge.RW_treesay_k43_one_step_on
open PySem renaming wpAny_bind->aaq,wpAny_pure->aar,wpAny_setState_of->aa3,boot_len->aa7,mainGlobals->abe,wpAny_holding->abm,mem_of_lookup->abw,wpAny_newObj_type->abx,wpAny_setEpoch_of->aby,Spec->ab0,wpAny_Call_Name_kw->ab1,wpAny_truthy_bool->ab3,wpAny_mono->ab9,wpAny_call_entry->ach,fits_of_scanBound->aci,wpAny_storeSet_of->acj,wpAny_passesOwn->acr,wpAny_forIn_list->ac3,codeAny_builtin->ac7,wpAny_setField->adf,codeAny_mono->adk,wpAny_askSetting->adl,entryFor_alias->ad6,wpAny_pyIter_list->ad8,builtinLookup_eq_fast->ad9,wpAny_isInstance->aeb,wpAny_rule->aec,plainId_quiet->aef,wpAny_execs_nil->aeg,wpAny_binaryOp_same->aeh,tupleKind_room_in1->aej,sub_set_self->aey,typeLookup_type->aez,wpAny_ite_split->ae0,seqIndex_of->ae3,sizeLine_eq->ae4,wpAny_BinOp->ae5,wpAny_standAt->ae9,call_meets->afd,Within->afi,seqIndex_neg->afk,wpAny_typeOf->afl
open Bool renaming false_ne_true->aas,and_eq_true->aav,false_eq_true->aa1,eq_iff_iff->abb,or_eq_true->abl,not_true->abt,not_eq_true'->ad3,false_or->aed,and_false->ae1,and_self->ae7
open List renaming getElem?_eq_getElem->aat,getElem?_eq_some_iff->aa2,range->aa5,getElem?_eq_none->abk,getElem?_set->acu,lookup->acv
open Nat renaming le_refl->aau,ne_of_lt->aay,lt_of_le_of_lt->aaz,lt_of_lt_of_le->aa0,le_trans->aa6,zero_le->abd,lt_irrefl->ab2,succ_le_succ->ab7,le_succ->acd,le_add_right->acf,lt_succ_self->acg,not_lt_zero->acq,le_of_lt->acw,zero_add->acy,le_of_lt_succ->ada,ne_of_gt->adh,lt_succ_of_lt->ad4,lt_trans->ad5,le_of_succ_le->aem,succ_pos->aew,mod_lt->afa
open Option.some renaming inj->aaw
open Array renaming getElem?_eq_getElem->aax,getElem?_eq_none->abp
open PySem.PassesOwn renaming never->aa4
open PySem.F renaming plainAttrs_list->aa8,slot_list_append->abh,type_list_append->abj
open PySem.NameKind renaming free->aa9,cell->ab4
open PySem.Builtin renaming bitAnd->abf,bitNot->ac2,bitOr->ac8
open PySem.Builtin.Frozenset renaming unchanged->abg,slot1->ab6,updateFrom->ac6,copyOf->adq,sizeOf->adt
open Sum renaming inl->abn,inr->ab5
open PySem.Value renaming ref->abo,int->ab8,isInt_shape->acz,none->adb,type->ady,noConfusion->aep,str->ae6,bool->afc,float->afq
open Option renaming isSome_iff_exists->abq,isSome_some->adx,isSome_map->aen,none->afn
open PyProof.Rows renaming callWith_type1->abr,envOfC->adp,Constant_none->ae8
open Int renaming toNat_natCast->abu,natCast_nonneg->ace,emod_lt_of_pos->ac4,ofNat->adg,emod_nonneg->adw,le_refl->ael
open False renaming elim->abv
open LawfulBEq renaming eq_of_beq->abz
open ForInStep renaming yield->acn
open Ne renaming symm->aco
open PySem.Builtin.Slice renaming slicePlaces->acp,sliceAdjust->adn
open PySem.Around renaming under_plainId->acs,under->afe
open PySem.Builtin.Tuple renaming tupleExact->ac0
open True renaming intro->ac1
open PySem.Obj renaming mapSeq->ac5,mapFields->aer,putSet->afb
open PySem.Builtin.List renaming listLengthHint->ac9,listTooLong->adu
open PySem.W renaming cellsFrom_some->ade,kia_one->ad7,methodCall_KW->aev,callWith_K->aex,plainGet_of->ae2
open PySem.Str renaming ofString->adi,empty->ad2
open Classical renaming byContradiction->ado,propDecidable->ad0
open PySem.Builtin.Str renaming occurrences->adz
open PyProof.Rows.F renaming plain_set_update_loop->ad1
open PySem.SeqAt renaming EqAt->aea
open PySem.SetTable renaming fill->aee
open PySem.Calls renaming spliced_cons->aei,spliced_nil->aek
open Prod.mk renaming inj->aeo
open PySem.Paired renaming length->aes,snoc->afo
open PySem.Value.ref renaming inj->aeu
open PySem.Code renaming isFrame->afg
open Iff renaming rfl->afh
open PySem.pickOrder renaming go->afj
open PySem.Data renaming fields->afm
open Sum.inl renaming inj->afp
open PySem.W (instObj methodObj lookIn plainGet hasDictIn findIn plainGet_of isFn takerIn typeIn emptyDict specialIn keepIn takesIn mroIn kitOne kia_one callWith_K methodCall_KW cellsFrom_some fnOf codeIn kitCls isClsIn nsIn mg_of)
open List (getElem?_eq_none_iff mem_filter mem_range filterMap_cons mem_cons_self mem_cons_of_mem mem_cons mem_append mem_append_left getElem_inj mem_append_right size_toArray any_eq_false length_cons map_cons length_map append_nil nodup_cons of_mem_zip replicate length_take getElem?_append_right getElem?_replicate getElem?_append_left getElem?_map getElem?_take_of_lt mem_of_getElem? length_append find?_cons any_cons length_nil map_nil filterMap_map length_drop length_set all_cons reverse_cons length_singleton Pairwise lookup_cons all_eq_true lookup_append getD_eq_getElem?_getD toArray getElem?_cons_zero map_append mem_map any_append take_append_drop take_add_one take_length getElem?_range length_range nil_append range_succ_eq_map range_succ filter_cons length_filter_le mem_iff_getElem? mem_singleton nodup_append any_eq_true getElem_mem getElem_of_mem Perm pairwise_cons getElem?_toArray length_eq_zero_iff length_eraseIdx append_assoc ext_getElem? filterMap set_set map_id' mem_flatten flatten_append flatten_singleton flatten_cons)
open PySem.Heap (lt_size SameBut get?_push_of_some get?_push_size size_push get?_update_self get?_update_other)
open Array (length_toList getElem?_toList toArray_toList forIn_toList size_map isEmpty)
open PySem.SetTable (below insertAt probe grown fits eraseAt)
set_option Elab.async false
set_option linter.all false
set_option maxRecDepth 100000
abbrev LI:=List Int
namespace L2
open PySem PySem.Spec PyProof.Rows
abbrev Key:=Sum Int Str
def Ou:Key->Value->Bool
 |.inl k,v=>Value.isInt k v
 |.inr x,v=>Value.isStrOf x v
def Xp(w:World):Key->Int
 |.inl k=>hashInt k
 |.inr x=>hashStr w x
theorem xP:∀{k:Key}{v:Value},Ou k v=true->(∃i t,k=abn i/\v=ab8 i t)\/(∃x t,k=ab5 x/\v=ae6 x t)
 |.inl i,v,h=>by
  obtain⟨t,e⟩:=acz (k:=i) (v:=v) h
  exact .inl ⟨i,t,rfl,e⟩
 |.inr x,v,h=>by
  obtain⟨t,e⟩:=Value.isStrOf_shape (x:=x) (v:=v) h
  exact .inr ⟨x,t,rfl,e⟩
theorem zQ1(i:Int)(t:Tok):Ou (.inl i) (.int i t)=true:=by simp[Ou,Value.isInt]
theorem zQ0(x:Str)(t:Tok):Ou (.inr x) (.str x t)=true:=by simp[Ou,Value.isStrOf]
theorem Jx(a b:Int):decide ((abn a:Key)=abn b)=(a==b):=by
 by_cases e:a=b
 ·subst e;simp
 ·have h:¬(abn a:Key)=abn b:=λq=>e (afp q)
  rw[decide_eq_false h]
  exact(beq_eq_false_iff_ne.mpr e).symm
theorem Jy(a b:Str):decide ((ab5 a:Key)=ab5 b)=decide (a=b):=by
 by_cases e:a=b
 ·subst e;simp
 ·have h:¬(ab5 a:Key)=ab5 b:=λq=>e (Sum.inr.inj q)
  rw[decide_eq_false h,decide_eq_false e]
theorem Jz(a:Int)(b:Str):decide ((abn a:Key)=ab5 b)=false:=decide_eq_false (λq=>nomatch q)
theorem JB(a:Str)(b:Int):decide ((ab5 a:Key)=abn b)=false:=decide_eq_false (λq=>nomatch q)
def vH(prog:Program)(w:World):PySem.KeyKind prog w Key where
 is:=Ou
 hash:=Xp w
 inj:=λv a b ha hb=>by
  rcases xP ha with⟨i,t,rfl,rfl⟩|⟨x,t,rfl,rfl⟩
  ·rcases xP hb with⟨j,u,rfl,e⟩|⟨y,u,rfl,e⟩
   ·injection e with e1 _;rw[e1]
   ·exact nomatch e
  ·rcases xP hb with⟨j,u,rfl,e⟩|⟨y,u,rfl,e⟩
   ·exact nomatch e
   ·injection e with e1 _;rw[e1]
 byValue:=λk v h=>by
  rcases xP h with⟨i,t,rfl,rfl⟩|⟨x,t,rfl,rfl⟩<;>rfl
 pyHash:=λhv h=>by
  rcases xP hv with⟨i,t,rfl,rfl⟩|⟨x,t,rfl,rfl⟩
  ·exact wpAny_pyHash_int h
  ·exact wpAny_pyHash_str h
 eqBool:=λhu hv h=>by
  rcases xP hu with⟨i,t,rfl,rfl⟩|⟨x,t,rfl,rfl⟩
  ·rcases xP hv with⟨j,u,rfl,rfl⟩|⟨y,u,rfl,rfl⟩
   ·rw[Jx] at h;exact wpAny_eqBool_int h
   ·rw[Jz] at h;exact SeqAt.EqAt.int_str i t y u _ _ _ _ h
  ·rcases xP hv with⟨j,u,rfl,rfl⟩|⟨y,u,rfl,rfl⟩
   ·rw[JB] at h;exact SeqAt.EqAt.str_int x t j u _ _ _ _ h
   ·rw[Jy] at h;exact wpAny_eqBool_str h
 «strs»:=λk x t v h=>by
  rcases xP h with⟨i,u,rfl,e⟩|⟨y,u,rfl,e⟩
  ·exact nomatch e
  ·injection e with e1 _
   subst e1
   cases v<;>rfl
theorem zK3(prog:Program)(w:World)(i:Int)(t:Tok):(vH prog w).is (.inl i) (.int i t)=true:=zQ1 i t
theorem zK2(prog:Program)(w:World)(x:Str)(t:Tok):(vH prog w).is (.inr x) (.str x t)=true:=zQ0 x t
inductive V where
 |non|bl (b:Bool)|int (i:Int)|str (x:Str)|rQ (b:Array UInt8)|flt (b:UInt64)|ref (a:Addr)|ty (n:String)
 deriving DecidableEq
def RelV:V->Value->Prop
 |.non,u=>u=adb
 |.bl b,u=>u=afc b
 |.int i,u=>∃t,u=ab8 i t
 |.str x,u=>∃t,u=ae6 x t
 |.rQ b,u=>∃t,u=Value.bytes b t
 |.flt b,u=>∃t,u=afq b t
 |.ref a,u=>u=abo a
 |.ty n,u=>u=ady n
abbrev Vals:List V->List Value->Prop:=Paired RelV
theorem Vals.length(r:Vals xs us):xs.length=us.length:=aes r
theorem Vals.get:∀{xs:List V}{us:List Value}{i:Nat}{x:V},Vals xs us->xs[i]?=some x->∃u,us[i]?=some u/\RelV x u
 |_,_,_,_,.nil,e=>by simp at e
 |_,_,0,_,.cons r _,e=>by simp at e;subst e;exact⟨_,rfl,r⟩
 |_,_,i+1,x,.cons _ t,e=>by
  obtain⟨u,h1,h2⟩:=Vals.get (i:=i) (x:=x) t (by simpa using e)
  exact⟨u,by simpa using h1,h2⟩
theorem Vals.set(r:RelV x u):∀{xs:List V}{us:List Value}(i:Nat),Vals xs us->Vals (xs.set i x) (us.set i u)
 |_,_,_,.nil=>.nil
 |_,_,0,.cons _ t=>.cons r t
 |_,_,i+1,.cons q t=>.cons q (Vals.set r i t)
theorem Vals.append:∀{xs ys:List V}{us ws:List Value},Vals xs us->Vals ys ws->Vals (xs++ys) (us++ws)
 |_,_,_,_,.nil,s=>s
 |_,_,_,_,.cons r t,s=>.cons r (Vals.append t s)
theorem Vals.take:∀{xs:List V}{us:List Value}(n:Nat),Vals xs us->Vals (xs.take n) (us.take n)
 |_,_,0,_=>.nil
 |_,_,_+1,.nil=>.nil
 |_,_,n+1,.cons r t=>.cons r (Vals.take n t)
theorem Vals.drop:∀{xs:List V}{us:List Value}(n:Nat),Vals xs us->Vals (xs.drop n) (us.drop n)
 |_,_,0,r=>r
 |_,_,_+1,.nil=>.nil
 |_,_,n+1,.cons _ t=>Vals.drop n t
theorem Vals.none_of:∀{xs:List V}{us:List Value}{i:Nat},Vals xs us->xs[i]?=none->us[i]?=none:=λ{xs us i} r e=>by
 have h1:=r.length
 have h2:xs.length<=i:=getElem?_eq_none_iff.mp e
 exact getElem?_eq_none_iff.mpr (by omega)
def jc:Option V->Option Value->Prop
 |some v,some u=>RelV v u
 |none,none=>True
 |_,_=>False
def KV{κ:Type}:List (κ×V)->List (κ×Value)->Prop:=Paired λ(p:κ×V) (q:κ×Value)=>p.1=q.1/\RelV p.2 q.2
def kV:Key->V
 |.inl i=>.int i
 |.inr x=>.str x
inductive HO where
 |lst (xs:List V)
 |tup (xs:List V)
 |dK (kvs:List (Key×V))|dT (kvs:List (List Key×V))
 |set (S:Int->Bool) (n:Nat)
 |ins (C dx:Addr) (fs:List (Str×V))
 |own (x:Addr)
 |xd (fs:List (Str×V))
 |met (f x:Addr)
 |rng (lo hi:Int)
 |tK (o:Obj) (u:HO)
 |JC (ps:Array Value)
 |ext (φ:Heap->Prop)
abbrev Hp:=Addr->Option HO
def upd(H:Hp)(a:Addr)(o:HO):Hp:=λb=>if b=a then some o else H b
theorem zK:upd H a o a=some o:=by unfold upd;rw[if_pos rfl]
theorem zQ(h:b≠a):upd H a o b=H b:=by unfold upd;rw[if_neg h]
theorem Ht{H:Hp}{a b:Addr}{o u:HO}(h:H a=some o)(h':H b=some u)(d:o≠u):a≠b:=by
 intro e;subst e;rw[h] at h';exact d (aaw h')
theorem zO{H:Hp}{a b:Addr}{o:HO}(h:H a=some o)(h':H b=none):a≠b:=by
 intro e;subst e;rw[h] at h';cases h'
section
variable(P:Program)(w:World)
def bI(H:Hp)(h:Heap)(a:Addr):HO->Prop
 |.lst xs=>xs.length<=sizeLine/\∃(its:List Value)(n:Nat),Vals xs its/\h.get? a=some { cls:=.type "list",data:=.seq its.toArray n }
 |.tup xs=>xs.length<=sizeLine/\∃its:List Value,Vals xs its/\IsTup h a its.toArray
 |.dK kvs=>kvs.length<=sizeLine/\(a==sysModules)=false/\∃vs,KV kvs vs/\h.DictOf (vH P w) a vs
 |.dT kvs=>kvs.length<=sizeLine/\(a==sysModules)=false/\∃xs:List (List Key×Addr×Value),
   Paired (λ(p:List Key×V) (q:List Key×Addr×Value)=>p.1=q.1/\H q.2.1=some (.tup (p.1.map kV))/\RelV p.2 q.2.2) kvs xs /\
   ∃o es ep,h.get? a=some o/\o.ExactDict/\o.data=.dict es ep/\es.toList=xs.map (entryOfKey (tupleKind (vH P w)))/\(xs.map (·.1)).Nodup
 |.set S n=>h.SetOf (intKind P w) a S n
 |.ins C dx fs=>H dx=some (.own a)/\fs.length<=1000/\dx≠a/\h.get? a=some (instObj C dx) /\
   ∃mA,h.Ns1 dx mA/\(∀f,jc (fs.lookup f) (mA f))/\afi mA (fs.map (·.1))
 |.own _=>∃o,h.get? a=some o
 |.xd fs=>∃mA,h.Ns1 a mA/\∀f,jc (fs.lookup f) (mA f)
 |.rng lo hi=>∃t u v,h.get? a=some { cls:=.type "range",data:=.fields #[.int lo t,.int hi u,.int 1 v] }
 |.tK o u=>h.get? a=some o/\bI H h a u
 |.JC ps=>h.get? a=some { cls:=.none,data:=.fields ps }
 |.met f x=>h.get? a=some (methodObj (.ref f) (.ref x))
 |.ext φ=>φ h/\(∃o,h.get? a=some o)/\∀h1 h2:Heap,φ h1->(∀o,h1.get? a=some o->h2.get? a=some o)->φ h2
def gZ(H:Hp)(h:Heap):Prop:=∀a o,H a=some o->bI P w H h a o
end
section
variable{P:Program}{w:World}{H H':Hp}{h h':Heap}{a:Addr}{o:HO}
theorem bI.lt(x:bI P w H h a o):a<h.objs.size:=by
 cases o with
 |lst xs=>obtain⟨_,_,_,_,e⟩:=x;exact lt_size e
 |tup xs=>obtain⟨_,_,_,p⟩:=x;exact p.lt
 |dK kvs=>obtain⟨_,_,_,_,o,_,_,e,_⟩:=x;exact lt_size e
 |dT kvs=>obtain⟨_,_,_,_,o,_,_,e,_⟩:=x;exact lt_size e
 |set S n=>obtain⟨o,_,_,_,e,_⟩:=x;exact lt_size e
 |ins C dx fs=>obtain⟨_,_,_,e,_⟩:=x;exact lt_size e
 |own y=>obtain⟨_,e⟩:=x;exact lt_size e
 |xd fs=>obtain⟨_,⟨_,_,_,e,_⟩,_⟩:=x;exact lt_size e
 |rng lo hi=>obtain⟨_,_,_,e⟩:=x;exact lt_size e
 |tK ob u=>obtain⟨e,_⟩:=x;exact lt_size e
 |JC ps=>exact lt_size (show h.get? a=some _ from x)
 |met f y=>exact lt_size (show h.get? a=some _ from x)
 |ext φ=>obtain⟨_,⟨_,e⟩,_⟩:=x;exact lt_size e
theorem Paired.JD{α β:Type}{F G:α->β->Prop}:∀{l₁:List α}{l₂:List β},Paired F l₁ l₂->(∀a b,F a b->G a b)->Paired G l₁ l₂
 |_,_,.nil,_=>.nil
 |_,_,.cons r t,f=>.cons (f _ _ r) (Paired.JD t f)
theorem bI.stay(x:bI P w H h a o)(k:∀b u,(b=a\/H b=some (.own a))->h.get? b=some u->h'.get? b=some u)(ho:∀b,H b=some (.own a)->H' b=some (.own a))(ht:∀b xs,H b=some (.tup xs)->H' b=some (.tup xs)):bI P w H' h' a o:=by
 induction o with
 |lst xs=>obtain⟨z,its,n,r,e⟩:=x;exact⟨z,its,n,r,k _ _ (.inl rfl) e⟩
 |tup xs=>obtain⟨z,its,r,ob,e,c⟩:=x;exact⟨z,its,r,ob,k _ _ (.inl rfl) e,c⟩
 |dK kvs=>obtain⟨z,y,vs,r,ob,es,ep,e,c⟩:=x;exact⟨z,y,vs,r,ob,es,ep,k _ _ (.inl rfl) e,c⟩
 |dT kvs =>
  obtain⟨z,y,xs,r,ob,es,ep,e,c⟩:=x
  exact⟨z,y,xs,Paired.JD r λp q z=>⟨z.1,ht _ _ z.2.1,z.2.2⟩,ob,es,ep,k _ _ (.inl rfl) e,c⟩
 |set S n=>obtain⟨ob,es,ep,t,e,c⟩:=x;exact⟨ob,es,ep,t,k _ _ (.inl rfl) e,c⟩
 |ins C dx fs =>
  obtain⟨d,z,ne,e,mA,⟨od,es,ep,e2,c⟩,r⟩:=x
  exact⟨ho _ d,z,ne,k _ _ (.inl rfl) e,mA,⟨od,es,ep,k _ _ (.inr d) e2,c⟩,r⟩
 |own y=>obtain⟨ob,e⟩:=x;exact⟨ob,k _ _ (.inl rfl) e⟩
 |xd fs=>obtain⟨mA,⟨od,es,ep,e,c⟩,r⟩:=x;exact⟨mA,⟨od,es,ep,k _ _ (.inl rfl) e,c⟩,r⟩
 |rng lo hi=>obtain⟨t,u,v,e⟩:=x;exact⟨t,u,v,k _ _ (.inl rfl) e⟩
 |tK ob u ih=>obtain⟨e,q⟩:=x;exact⟨k _ _ (.inl rfl) e,ih q⟩
 |JC ps =>
  have e:h.get? a=some { cls:=.none,data:=.fields ps }:=x
  show h'.get? a=some { cls:=.none,data:=.fields ps }
  exact k a _ (.inl rfl) e
 |met f y =>
  have e:h.get? a=some (methodObj (.ref f) (.ref y)):=x
  show h'.get? a=some (methodObj (.ref f) (.ref y))
  exact k a _ (.inl rfl) e
 |ext φ=>obtain⟨p,⟨o,e⟩,st⟩:=x;exact⟨st _ _ p λo q=>k _ _ (.inl rfl) q,⟨o,k _ _ (.inl rfl) e⟩,st⟩
theorem gZ.lt(x:gZ P w H h)(e:H a=some o):a<h.objs.size:=(x a o e).lt
theorem gZ.fresh(x:gZ P w H h)(e:h.objs.size<=a):H a=none:=by
 cases q:H a with
 |none=>rfl
 |some u=>exact absurd (aa0 (x.lt q) e) (ab2 _)
theorem gZ.kept(x:gZ P w H h)(k:∀b u,h.get? b=some u->h'.get? b=some u):gZ P w H h':=λa o e =>
 (x a o e).stay (λb u _ q=>k b u q) (λ_ q=>q) λ_ _ q=>q
theorem gZ.laid(x:gZ P w H h)(k:∀b u,h.get? b=some u->h'.get? b=some u)(hp:h.objs.size<=a)(new:bI P w (upd H a o) h' a o):gZ P w (upd H a o) h':=λb u e=>by
 have hn:=x.fresh hp
 by_cases hb:b=a
 ·subst hb;rw[zK] at e;cases e;exact new
 ·rw[zQ hb] at e
  exact(x b u e).stay (λc v _ q=>k c v q) (λc q=>by rw[zQ (zO q hn)];exact q) λc xs q=>by rw[zQ (zO q hn)];exact q
end
def Rd(H:Hp)(a:Addr)(u:HO):Prop:=H a=some u\/∃o,H a=some (.tK o u)
theorem Rd.ok(r:Rd H a u)(x:gZ P w H h):bI P w H h a u:=by
 rcases r with r|⟨o,r⟩
 ·exact x a u r
 ·obtain⟨_,q⟩:=x a _ r
  exact q
def QB:Option HO->Prop
 |some (.lst _)=>True
 |some (.dK _)=>True
 |some (.dT _)=>True
 |some (.set _ _)=>True
 |some (.ins _ _ _)=>True
 |some (.ext _)=>True
 |_=>False
section
variable{P:Program}{w:World}{H:Hp}{h h':Heap}{x e:Addr}{o':HO}
theorem gZ.write(ok:gZ P w H h)(mu:QB (H x))(he:e=x\/H e=some (.own x))(k:∀b u,b≠e->h.get? b=some u->h'.get? b=some u)(heo:∃u,h'.get? e=some u)(new:bI P w (upd H x o') h' x o'):gZ P w (upd H x o') h':=λb u q=>by
 have QC:∀c y,H c=some (.own y)->c≠x:=λc y r z=>by subst z;rw[r] at mu;exact mu
 have Xq:∀c xs,H c=some (.tup xs)->c≠x:=λc xs r z=>by subst z;rw[r] at mu;exact mu
 by_cases hb:b=x
 ·subst hb;rw[zK] at q;cases q;exact new
 ·rw[zQ hb] at q
  by_cases hbe:b=e
  ·have q':H b=some (.own x):=by
    rcases he with z|z
    ·exact absurd (hbe.trans z) hb
    ·rw[hbe];exact z
   rw[q] at q';cases q'
   obtain⟨v,hv⟩:=heo
   exact⟨v,by rw[hbe];exact hv⟩
  ·refine(ok b u q).stay (λc v hc r=>k c v ?_ r) (λc r=>by rw[zQ (QC c b r)];exact r) λc xs r=>by rw[zQ (Xq c xs r)];exact r
   rcases hc with rfl|hc
   ·exact hbe
   ·rintro rfl
    rcases he with z|z
    ·exact QC c b hc z
    ·rw[hc] at z;cases z;exact hb rfl
end
structure Un(fs ex:List Addr)(H H':Hp)(h h':Heap):Prop where
 keep:∀b o,h.get? b=some o->H b=none->b∉fs->b∉ex->h'.get? b=some o
 slot:∀b o,h.get? b=some o->H b=none->b∈fs->b∉ex->∃sl,h'.get? b=some { o with slots:=sl }
 free:∀b o,h.get? b=some o->H b=none->b∉ex->H' b=none
 there:∀b o,h.get? b=some o->b∉ex->∃o',h'.get? b=some o'
 tups:∀b xs,H b=some (.tup xs)->H' b=some (.tup xs)
 mK:∀b o u,H b=some (.tK o u)->H' b=some (.tK o u)
 oV:∀b ps,H b=some (.JC ps)->∃more,H' b=some (.JC (ps++more))
section
variable{fs fs' ex ex':List Addr}{H H1 H2:Hp}{h h1 h2 h':Heap}{a x e:Addr}{o:HO}
theorem Un.any(u:Un fs ex H H1 h h1)(q:h.get? b=some ob)(n:H b=none)(hx:b∉ex):∃sl,h1.get? b=some { ob with slots:=sl }:=by
 by_cases hb:b∈fs
 ·exact u.slot b ob q n hb hx
 ·exact⟨ob.slots,u.keep b ob q n hb hx⟩
theorem Un.kept(k:∀b u,h.get? b=some u->h'.get? b=some u):Un fs ex H H h h' :=
 ⟨λb ob q _ _ _=>k b ob q,λb ob q _ _ _=>⟨ob.slots,k b ob q⟩,λ_ _ _ n _=>n,λb ob q _=>⟨ob,k b ob q⟩,λ_ _ q=>q,λ_ _ _ q=>q,λ_ ps q=>⟨#[],by rw[q];simp⟩⟩
theorem Un.refl:Un fs ex H H h h:=Un.kept λ_ _ q=>q
theorem Un.laid(k:∀b u,h.get? b=some u->h'.get? b=some u)(hp:h.objs.size<=a)(hn:H a=none):Un fs ex H (upd H a o) h h' where
 keep:=λb u q _ _ _=>k b u q
 slot:=λb u q _ _ _=>⟨u.slots,k b u q⟩
 free:=λb u q n _=>by rw[zQ (aay (aa0 (lt_size q) hp))];exact n
 there:=λb u q _=>⟨u,k b u q⟩
 tups:=λb xs q=>by rw[zQ (zO q hn)];exact q
 mK:=λb u xs q=>by rw[zQ (zO q hn)];exact q
 oV:=λb ps q=>⟨#[],by rw[zQ (zO q hn),q];simp⟩
theorem Un.write(mu:QB (H x))(he:e=x\/H e=some (.own x))(k:∀b u,b≠e->h.get? b=some u->h'.get? b=some u)(heo:∃u,h'.get? e=some u):Un fs ex H (upd H x o) h h':=by
 have hx:∀b,H b=none->b≠x:=λb n z=>by subst z;rw[n] at mu;exact mu
 have hb:∀b,H b=none->b≠e:=λb n z=>by
  subst z
  rcases he with r|r
  ·exact hx b n r
  ·rw[n] at r;cases r
 have hm:∀b u,H b=some u->¬QB (some u)->b≠x:=λb u q nm z=>by subst z;rw[q] at mu;exact nm mu
 refine⟨λb u q n _ _=>k b u (hb b n) q,λb u q n _ _=>⟨u.slots,k b u (hb b n) q⟩,λb u q n _=>by rw[zQ (hx b n)];exact n,λb u q _=>?_,
  λb xs q=>by rw[zQ (hm b _ q λz=>z)];exact q,λb u xs q=>by rw[zQ (hm b _ q λz=>z)];exact q,λb ps q=>⟨#[],by rw[zQ (hm b _ q λz=>z),q];simp⟩⟩
 by_cases hbe:b=e
 ·subst hbe;exact heo
 ·exact⟨u,k b u hbe q⟩
end
def Vm(h:Heap)(H:Hp):List Addr:=(aa5 h.objs.size).filter λa=>(H a).isSome
def p7(h:Heap)(H:Hp):Heap:=PySem.W.hideAll h (Vm h H)
theorem zQ9(h:Heap)(H:Hp):(p7 h H).objs.size=h.objs.size:=PySem.W.hideAll_size _ _
theorem zUa{h:Heap}(e:h.get? b=some o)(n:H b=none):(p7 h H).get? b=some o :=
 PySem.W.hideAll_get _ e λhm=>by
  have q:(H b).isSome=true:=(mem_filter.mp hm).2
  rw[n] at q;simp at q
theorem Df(e:(p7 h H).get? b=some o):h.get? b=some o/\H b=none:=by
 have e':h.get? b=some o:=PySem.W.of_hideAll (Vm h H) e
 refine⟨e',?_⟩
 cases q:H b with
 |none=>rfl
 |some x =>
  have hm:b∈Vm h H:=mem_filter.mpr ⟨mem_range.mpr (lt_size e'),by simp[q]⟩
  have z:(p7 h H).get? b=none:=PySem.W.hideAll_none (Vm h H) hm
  rw[z] at e;cases e
def Dg(g h:Heap)(L:Addr):List (Addr×Obj):=(aa5 h.objs.size).filterMap λa=>if a=L\/(g.get? a).isSome=true then none else(h.get? a).map λo=>(a,o)
def rest(g h:Heap)(L d:Addr):List (Addr×Obj):=(Dg g h L).filter λp=>decide (p.1≠d)
structure Mod(K:PySem.W.Frag)(mg:Str->Option Value)(base:Heap):Prop where
 Ov:K.In base
 glob:base.Ns abe mg
 blt:∃mb,base.Ns builtinsNs mb/\∀x:Str,x ≠ "__name__"->mb x=bootBuiltins x
 nolimit:base.NoLimit
structure Cx where
 prog:Program
 w:World
 K:PySem.W.Frag
 mg:Str->Option Value
 base:Heap
 A:Around
 N:List Str
 s₀:Shared
 H₀:Hp
 env:Env
 outer:List Env
 stack:List Env
 ex:List Addr
 fn:Str->Bool
 calm:Bool
 pn:List (Addr×Obj)
 xe:Value->Shared->Prop
def frs(l:List Env):List Addr:=l.filterMap (·.frame)
abbrev Cx.fs(X:Cx):List Addr:=frs X.outer
def QD(sc:Scope)(x:Str):Prop:=sc.names.lookup x=some .local\/sc.names.lookup x=some .cell\/sc.names.lookup x=some .free
def Loc(sc:Scope)(x:Str):Prop:=sc.names.lookup x=some .local\/sc.names.lookup x=some .cell
def Look(env:Env)(h:Heap)(m:Str->Option Value)(x:Str)(u:Value):Prop :=
 (env.kindOf x=some .local/\m x=some u)\/((env.kindOf x=some .cell\/env.kindOf x=some .free)/\∃c,env.cells.lookup x=some c/\h.IsCell c (some u))
structure Cx.Ok(X:Cx):Prop where
 mod:Mod X.K X.mg X.base
 kind:X.env.scope.kind=.function
 glob:X.env.globals=abe
 blt:X.env.builtins=builtinsNs
 above:X.s₀.heap.objs.size<=X.env.locals
 inj:∀x y c,X.env.cells.lookup x=some c->X.env.cells.lookup y=some c->x=y
 has:∀x,(X.env.kindOf x=some .cell\/X.env.kindOf x=some .free)->∃c,X.env.cells.lookup x=some c
 cab:∀x c,X.fn x=true->X.env.cells.lookup x=some c->X.s₀.heap.objs.size<=c
 hd:X.calm=true->X.A.handled=none
 frames:X.A.frames=some X.stack
 stk:X.stack=X.outer\/(X.stack=X.env::X.outer/\X.env.frame=some X.env.locals)
 Vn:∀b∈X.ex,b≠X.env.locals/\∀x c,X.env.cells.lookup x=some c->c≠b
 bs:∀b o,X.base.get? b=some o->X.s₀.heap.get? b=some o/\X.H₀ b=none
 Dh:X.base.objs.size<=X.s₀.heap.objs.size
 zj:∀b o,X.base.get? b=some o->b∉X.ex
 zp:∀b∈X.ex,b∉X.fs
 lR:X.s₀.heap.FunFrames X.base X.outer
 JF:∀b∈X.fs,X.H₀ b=none
structure Inv(X:Cx)(pins:List (Addr×Obj))(σ:List (Option V))(H:Hp)(s:Shared):Prop where
 ok:X.Ok
 os:s.os=X.s₀.os
 bare:AllBare s.gens
 base:Un X.fs X.ex X.H₀ H X.s₀.heap s.heap
 loc:∃m,s.heap.Ns X.env.locals m/\∀(i:Nat)(x:Str)(v:V),X.N[i]?=some x->σ[i]?=some (some v)->QD X.env.scope x->∃u,RelV v u/\Look X.env s.heap m x u
 cell:∀x c,X.env.cells.lookup x=some c->∃v,s.heap.IsCell c v
 free:H X.env.locals=none
 g8:∀x c,X.env.cells.lookup x=some c->H c=none
 pin:∀p∈X.pn++pins,s.heap.get? p.1=some p.2/\H p.1=none/\p.1≠X.env.locals/\p.1∉X.fs/\∀v,p.2.data≠.cell v
 hok:gZ X.prog X.w H s.heap
 len:σ.length=X.N.length
section
variable{X:Cx}{pins:List (Addr×Obj)}{σ:List (Option V)}{H H':Hp}{s:Shared}{h':Heap}
theorem Cx.Ok.Xr(ok:X.Ok)(e:X.base.get? b=some o):b∉X.fs:=λhb=>by
 have:=(ok.lR.mem hb).1
 rw[e] at this;cases this
theorem Inv.bs(I:Inv X pins σ H s):∀b o,X.base.get? b=some o->s.heap.get? b=some o/\H b=none:=λb o e =>
 ⟨I.base.keep b o (I.ok.bs b o e).1 (I.ok.bs b o e).2 (I.ok.Xr e) (I.ok.zj b o e),I.base.free b o (I.ok.bs b o e).1 (I.ok.bs b o e).2 (I.ok.zj b o e)⟩
theorem Inv.bk(I:Inv X pins σ H s):∀b o,X.base.get? b=some o->s.heap.get? b=some o:=λb o e=>(I.bs b o e).1
theorem Inv.mod(I:Inv X pins σ H s):Mod X.K X.mg X.base:=I.ok.mod
theorem Inv.jV(I:Inv X pins σ H s):X.K.In s.heap:=I.ok.mod.Ov.keeps I.bk
theorem Inv.nolimit(I:Inv X pins σ H s):s.heap.NoLimit:=I.ok.mod.nolimit.keeps I.bk
theorem Inv.lt(I:Inv X pins σ H s):X.env.locals<s.heap.objs.size:=let⟨_,hn,_⟩:=I.loc;hn.lt
theorem Inv.sz(I:Inv X pins σ H s):X.s₀.heap.objs.size<=s.heap.objs.size:=aa6 I.ok.above (acw I.lt)
theorem Inv.JG(I:Inv X pins σ H s)(h:s.heap.objs.size<=a):a∉X.fs:=λhb=>by
 obtain⟨_,o,ho,_⟩:=I.ok.lR.mem hb
 exact absurd (aa0 (lt_size ho) (aa6 I.sz h)) (ab2 _)
theorem Inv.JH(I:Inv X pins σ H s):∀x c,X.env.cells.lookup x=some c->c≠X.env.locals:=λx c e z=>by
 obtain⟨v,o,ho,hd⟩:=I.cell x c e
 obtain⟨m,⟨o',es,ep,ho',hd',_⟩,_⟩:=I.loc
 rw[z,ho'] at ho;cases ho;rw[hd'] at hd;cases hd
theorem Inv.lR(I:Inv X pins σ H s):s.heap.FunFrames X.base X.outer:=by
 have all:∀(l:List Env),(∀b∈frs l,b∈X.fs)->X.s₀.heap.FunFrames X.base l->s.heap.FunFrames X.base l:=by
  intro l
  induction l with
  |nil=>intro _ _;trivial
  |cons env r ih =>
   intro hs hl
   obtain⟨hk,⟨L,o,hf,hn,ho,hd⟩,hr⟩:=hl
   have hL:L∈X.fs:=hs L (by unfold frs;rw[filterMap_cons,hf];exact mem_cons_self)
   obtain⟨sl,e⟩:=I.base.slot L o ho (I.ok.JF L hL) hL λz=>I.ok.zp L z hL
   exact⟨hk,⟨L,_,hf,hn,e,hd⟩,ih (λb hb=>hs b (by unfold frs;rw[filterMap_cons,hf];exact mem_cons_of_mem _ hb)) hr⟩
 exact all X.outer (λ_ hb=>hb) I.ok.lR
theorem Inv.stack(I:Inv X pins σ H s):s.heap.FunFrames X.base X.stack:=by
 rcases I.ok.stk with e|⟨e,hf⟩
 ·rw[e];exact I.lR
 ·rw[e]
  obtain⟨m,hn,_⟩:=I.loc
  refine .cons (by rw[I.ok.kind];decide) hf hn ?_ I.lR
  exact Heap.get?_none_of_le (aa6 I.ok.Dh I.ok.above)
theorem Inv.p8(I:Inv X pins σ H s):∀b∈frs X.stack,b∈X.env.locals::X.fs:=λb hb=>by
 rcases I.ok.stk with e|⟨e,hf⟩
 ·rw[e] at hb;exact mem_cons_of_mem _ hb
 ·rw[e] at hb
  unfold frs at hb
  rw[filterMap_cons,hf] at hb
  exact hb
theorem Inv.tM(I:Inv X pins σ H s):∀b∈frs X.stack,H b=none:=λb hb=>by
 rcases mem_cons.mp (I.p8 b hb) with e|hb
 ·rw[e];exact I.free
 ·obtain⟨_,o,ho,_⟩:=I.ok.lR.mem hb
  exact I.base.free b o ho (I.ok.JF b hb) λz=>I.ok.zp b z hb
theorem Inv.step{g':Array GenState}{t':Nat}{d':Drawn}{ch:List Addr}(I:Inv X pins σ H s)(hch:∀b∈ch,(b∈X.ex\/X.s₀.heap.objs.size<=b)/\b≠X.env.locals/\(∀x c,X.env.cells.lookup x=some c->c≠b)/\∀p∈X.pn++pins,p.1≠b)(keep:∀b o,b≠X.env.locals->b∉X.fs->b∉ch->s.heap.get? b=some o->H b=none->h'.get? b=some o)(slot:∀b o,b≠X.env.locals->b∈X.fs->b∉ch->s.heap.get? b=some o->H b=none->∃sl,h'.get? b=some { o with slots:=sl })(free:∀b o,b∉ch->s.heap.get? b=some o->H b=none->H' b=none)(there:∀b o,b∉ch->s.heap.get? b=some o->∃o',h'.get? b=some o')(tups:∀b xs,H b=some (.tup xs)->H' b=some (.tup xs))(mK:∀b o u,H b=some (.tK o u)->H' b=some (.tK o u))(oV:∀b ps,H b=some (.JC ps)->∃more,H' b=some (.JC (ps++more)))(ns:∀m,s.heap.Ns X.env.locals m->h'.Ns X.env.locals m)(hok:gZ X.prog X.w H' h')(hg:AllBare g') :
  Inv X pins σ H' { s with heap:=h',gens:=g',drawn:=d',toks:=t' }:=by
 have neL:∀b o,X.s₀.heap.get? b=some o->b≠X.env.locals:=λb o e=>aay (aa0 (lt_size e) I.ok.above)
 have Vo:∀b o,X.s₀.heap.get? b=some o->b∉X.ex->b∉ch:=λb o e hx hb=>by
  rcases(hch b hb).1 with z|z
  ·exact hx z
  ·exact absurd (aa0 (lt_size e) z) (ab2 _)
 have cellK:∀x c,X.env.cells.lookup x=some c->∀v,s.heap.IsCell c v->h'.IsCell c v:=λx c e v ⟨o,ho,hd⟩=>by
  have QF:c∉ch:=λz=>(hch c z).2.2.1 x c e rfl
  by_cases hc:c∈X.fs
  ·obtain⟨sl,q⟩:=slot c o (I.JH x c e) hc QF ho (I.g8 x c e)
   exact⟨_,q,hd⟩
  ·exact⟨o,keep c o (I.JH x c e) hc QF ho (I.g8 x c e),hd⟩
 refine⟨I.ok,I.os,hg,⟨λb o e n hb hx=>?_,λb o e n hb hx=>?_,λb o e n hx=>?_,λb o e hx=>?_,λb xs e=>tups b xs (I.base.tups b xs e),λb o xs e=>mK b o xs (I.base.mK b o xs e),λb ps e=>?_⟩,?_,λx c e=>?_,?_,λx c e=>?_,λp hp=>?_,hok,I.len⟩
 ·exact keep b o (neL b o e) hb (Vo b o e hx) (I.base.keep b o e n hb hx) (I.base.free b o e n hx)
 ·obtain⟨sl,e1⟩:=I.base.slot b o e n hb hx
  obtain⟨sl',e2⟩:=slot b _ (neL b o e) hb (Vo b o e hx) e1 (I.base.free b o e n hx)
  exact⟨sl',e2⟩
 ·obtain⟨o',e1⟩:=I.base.there b o e hx
  exact free b o' (Vo b o e hx) e1 (I.base.free b o e n hx)
 ·obtain⟨o',e1⟩:=I.base.there b o e hx
  exact there b o' (Vo b o e hx) e1
 ·obtain⟨m1,e1⟩:=I.base.oV b ps e
  obtain⟨m2,e2⟩:=oV b _ e1
  exact⟨m1++m2,by rw[e2,Array.append_assoc]⟩
 ·obtain⟨m,hn,hl⟩:=I.loc
  refine⟨m,ns m hn,λi x v e1 e2 e3=>?_⟩
  obtain⟨u,r,l⟩:=hl i x v e1 e2 e3
  refine⟨u,r,?_⟩
  rcases l with l|⟨k,c,e,z⟩
  ·exact .inl l
  ·exact .inr ⟨k,c,e,cellK x c e _ z⟩
 ·obtain⟨v,z⟩:=I.cell x c e
  exact⟨v,cellK x c e v z⟩
 ·obtain⟨m,⟨o,_,_,ho,_⟩,_⟩:=I.loc
  exact free _ o (λz=>(hch _ z).2.1 rfl) ho I.free
 ·obtain⟨v,o,ho,hd⟩:=I.cell x c e
  exact free c o (λz=>(hch c z).2.2.1 x c e rfl) ho (I.g8 x c e)
 ·obtain⟨e,n,ne,nf,d⟩:=I.pin p hp
  have QF:p.1∉ch:=λz=>(hch p.1 z).2.2.2 p hp rfl
  exact⟨keep p.1 p.2 ne nf QF e n,free p.1 p.2 QF e n,ne,nf,d⟩
theorem Inv.un(I:Inv X pins σ H s)(u:Un X.fs [] H H' s.heap h')(hok:gZ X.prog X.w H' h'):Inv X pins σ H' { s with heap:=h',toks:=t' }:=by
 obtain⟨m,⟨o,es,ep,ho,r⟩,_⟩:=id I.loc
 obtain⟨sl,hL⟩:=u.any ho I.free (by simp)
 exact I.step (g':=s.gens) (d':=s.drawn) (ch:=[]) (λ_ z=>nomatch z) (λb o _ hb _ e n=>u.keep b o e n hb (by simp)) (λb o _ hb _ e n=>u.slot b o e n hb (by simp)) (λb o _ e n=>u.free b o e n (by simp)) (λb o _ e=>u.there b o e (by simp)) u.tups u.mK u.oV (λm' hm=>by
  obtain⟨o',es',ep',ho',r'⟩:=hm
  rw[ho] at ho';cases ho'
  exact⟨_,es',ep',hL,r'⟩) hok I.bare
theorem Inv.call(I:Inv X pins σ H s)(u:Un (frs X.stack) ch H H' s.heap h')(hok:gZ X.prog X.w H' h')(hg:AllBare g')(hch:∀b∈ch,(b∈X.ex\/X.s₀.heap.objs.size<=b)/\b≠X.env.locals/\(∀x c,X.env.cells.lookup x=some c->c≠b)/\∀p∈X.pn++pins,p.1≠b) :
  Inv X pins σ H' { s with heap:=h',gens:=g',drawn:=d',toks:=t' }:=by
 obtain⟨m,⟨o,es,ep,ho,r⟩,_⟩:=id I.loc
 obtain⟨sl,hL⟩:=u.any ho I.free λz=>(hch _ z).2.1 rfl
 exact I.step (ch:=ch) hch (λb o hL hb hc e n=>u.keep b o e n (λz=>(mem_cons.mp (I.p8 b z)).elim hL hb) hc) (λb o _ _ hc e n=>u.any e n hc) (λb o hc e n=>u.free b o e n hc) (λb o hc e=>u.there b o e hc) u.tups u.mK u.oV (λm' hm=>by
  obtain⟨o',es',ep',ho',r'⟩:=hm
  rw[ho] at ho';cases ho'
  exact⟨_,es',ep',hL,r'⟩) hok hg
theorem Inv.turned(I:Inv X pins σ H s)(k:∀b o,b≠it->s.heap.get? b=some o->h'.get? b=some o)(hn:H it=none)(hL:it≠X.env.locals)(h1:it∈X.ex\/X.s₀.heap.objs.size<=it)(h2:∀x c,X.env.cells.lookup x=some c->c≠it)(h3:∀p∈X.pn++pins,p.1≠it):Inv X pins σ H { s with heap:=h',toks:=t' }:=by
 have nit:∀b u,H b=some u->b≠it:=λb u e z=>by rw[z,hn] at e;cases e
 refine I.step (g':=s.gens) (d':=s.drawn) (ch:=[it]) (λb hb=>?_) (λb o _ _ hc e _=>k b o (λz=>hc (by simp[z])) e) (λb o _ _ hc e _=>⟨o.slots,k b o (λz=>hc (by simp[z])) e⟩) (λ_ _ _ _ n=>n)
  (λb o hc e=>⟨o,k b o (λz=>hc (by simp[z])) e⟩) (λ_ _ e=>e) (λ_ _ _ e=>e) (λb ps e=>⟨#[],by rw[e];simp⟩) (λm hm=>?_) (λb u e=>?_) I.bare
 ·have e:b=it:=by simpa using hb
  subst e
  exact⟨h1,hL,h2,h3⟩
 ·obtain⟨o,es,ep,ho,r⟩:=hm
  exact⟨o,es,ep,k _ o (aco hL) ho,r⟩
 ·refine(I.hok b u e).stay (λc v hc q=>k c v ?_ q) (λ_ q=>q) λ_ _ q=>q
  rcases hc with z|z
  ·rw[z];exact nit b u e
  ·exact nit c _ z
theorem Inv.tok(I:Inv X pins σ H s)(t:Nat):Inv X pins σ H { s with toks:=t }:=I.un (h':=s.heap) (t':=t) Un.refl I.hok
theorem Inv.kept(I:Inv X pins σ H s)(k:∀b u,s.heap.get? b=some u->h'.get? b=some u):Inv X pins σ H { s with heap:=h',toks:=t' }:=I.un (Un.kept k) (I.hok.kept k)
theorem Inv.laid(I:Inv X pins σ H s)(k:∀b u,s.heap.get? b=some u->h'.get? b=some u)(hp:s.heap.objs.size<=a)(new:bI X.prog X.w (upd H a o) h' a o) :
  Inv X pins σ (upd H a o) { s with heap:=h',toks:=t' }:=I.un (Un.laid k hp (I.hok.fresh hp)) (I.hok.laid k hp new)
theorem Inv.write(I:Inv X pins σ H s)(mu:QB (H x))(he:e=x\/H e=some (.own x))(k:∀b u,b≠e->s.heap.get? b=some u->h'.get? b=some u)(heo:∃u,h'.get? e=some u)(new:bI X.prog X.w (upd H x o) h' x o):Inv X pins σ (upd H x o) { s with heap:=h',toks:=t' }:=I.un (Un.write mu he k heo) (I.hok.write mu he k heo new)
theorem Inv.jW(I:Inv X pins σ H s)(h:∀p∈Hu,s.heap.get? p.1=some p.2/\H p.1=none/\p.1≠X.env.locals/\p.1∉X.fs/\∀v,p.2.data≠.cell v):Inv X Hu σ H s :=
 ⟨I.ok,I.os,I.bare,I.base,I.loc,I.cell,I.free,I.g8,λp hp=>(mem_append.mp hp).elim (λz=>I.pin p (mem_append_left _ z)) (h p),I.hok,I.len⟩
theorem zL7{N:List Str}(hN:N.Nodup){i j:Nat}{x:Str}(a:N[i]?=some x)(b:N[j]?=some x):i=j:=by
 obtain⟨h1,e1⟩:=aa2.mp a
 obtain⟨h2,e2⟩:=aa2.mp b
 exact(getElem_inj hN).mp (e1.trans e2.symm)
theorem zIf{Q:Unit->Shared->Prop}(I:Inv X pins σ H s)(hN:X.N.Nodup)(hi:X.N[i]?=some x)(hx:Loc X.env.scope x)(r:RelV v u)(h:∀s',Inv X pins (σ.set i (some v)) H s'->(∃a,SameBut a s.heap s'.heap/\(a=X.env.locals\/X.env.cells.lookup x=some a))->Q () s')(hf:X.fn x=true\/X.env.scope.names.lookup x=some .local:=by first|exact .inl rfl|exact .inr rfl|assumption):wpAny M A (storeName X.env x u) Q E s:=by
 obtain⟨m,hn,hl⟩:=id I.loc
 have hcls:(X.env.scope.kind==.class||(X.env.scope.kind==.module&&X.env.locals != X.env.globals))=false:=by rw[I.ok.kind];rfl
 have QG:i<σ.length:=by rw[I.len];exact(aa2.mp hi).1
 have JH:=I.JH
 have tracked:∀{a:Addr}{h':Heap},(∃o,s.heap.get? a=some o/\H a=none)->SameBut a s.heap h'->gZ X.prog X.w H h':=λ{a h'} ha hs b ob e=>by
  obtain⟨_,_,hfree⟩:=ha
  refine(I.hok b ob e).stay (λc w' hc q=>(hs.2 c ?_).trans q) (λ_ q=>q) λ_ _ q=>q
  rintro rfl
  rcases hc with rfl|hc
  ·rw[hfree] at e;cases e
  ·rw[hfree] at hc;cases hc
 rcases hx with hk|hk
 ·refine wpAny_storeName_local hk hn (λh' hn' hs=>?_) hcls
  obtain⟨oL,_,_,hoL,_⟩:=id hn
  refine h _ ⟨I.ok,I.os,I.bare,⟨λb o e n hb hx=>?_,λb o e n hb hx=>?_,I.base.free,λb o e hx=>?_,I.base.tups,I.base.mK,I.base.oV⟩,⟨_,hn',λj y v' e1 e2 e3=>?_⟩,λy c e=>?_,I.free,I.g8,λp hp=>?_,tracked ⟨oL,hoL,I.free⟩ hs,by simpa using I.len⟩ ⟨_,hs,.inl rfl⟩
  ·exact(hs.2 b (aay (aa0 (lt_size e) I.ok.above))).trans (I.base.keep b o e n hb hx)
  ·obtain⟨sl,e1⟩:=I.base.slot b o e n hb hx
   exact⟨sl,(hs.2 b (aay (aa0 (lt_size e) I.ok.above))).trans e1⟩
  ·obtain⟨o',e1⟩:=I.base.there b o e hx
   exact⟨o',(hs.2 b (aay (aa0 (lt_size e) I.ok.above))).trans e1⟩
  ·by_cases hj:j=i
   ·subst hj
    rw[hi] at e1;cases e1
    rw[List.getElem?_set_self QG] at e2
    cases e2
    exact⟨u,r,.inl ⟨hk,by simp⟩⟩
   ·rw[List.getElem?_set_ne (aco hj)] at e2
    obtain⟨u',r',q⟩:=hl j y v' e1 e2 e3
    refine⟨u',r',?_⟩
    rcases q with⟨k,e⟩|⟨k,c,e,z⟩
    ·refine .inl ⟨k,?_⟩
     have:y≠x:=λe=>hj (zL7 hN e1 (e▸hi))
     simp[this,e]
    ·exact .inr ⟨k,c,e,z.sameBut hs (JH y c e)⟩
  ·obtain⟨w',z⟩:=I.cell y c e
   exact⟨w',z.sameBut hs (JH y c e)⟩
  ·obtain⟨e,n,ne,nf,d⟩:=I.pin p hp
   exact⟨(hs.2 p.1 ne).trans e,n,ne,nf,d⟩
 ·have hfn:X.fn x=true:=by
   rcases hf with z|z
   ·exact z
   ·rw[z] at hk;cases hk
  obtain⟨c,hc⟩:=I.ok.has x (.inl hk)
  obtain⟨w',z⟩:=I.cell x c hc
  refine wpAny_storeName_cell I.ok.kind hk hc z (λh' hc' hs=>?_)
  obtain⟨oc,hoc,Xu⟩:=id z
  refine h { s with heap:=h' } ⟨I.ok,I.os,I.bare,⟨λb o e n hb hx=>?_,λb o e n hb hx=>?_,I.base.free,λb o e hx=>?_,I.base.tups,I.base.mK,I.base.oV⟩,⟨m,hn.sameBut hs (aco (JH x c hc)),λj y v' e1 e2 e3=>?_⟩,λy c' e=>?_,I.free,I.g8,λp hp=>?_,tracked ⟨oc,hoc,I.g8 x c hc⟩ hs,by simpa using I.len⟩ ⟨c,hs,.inr hc⟩
  ·exact(hs.2 b (aay (aa0 (lt_size e) (I.ok.cab x c hfn hc)))).trans (I.base.keep b o e n hb hx)
  ·obtain⟨sl,e1⟩:=I.base.slot b o e n hb hx
   exact⟨sl,(hs.2 b (aay (aa0 (lt_size e) (I.ok.cab x c hfn hc)))).trans e1⟩
  ·obtain⟨o',e1⟩:=I.base.there b o e hx
   exact⟨o',(hs.2 b (aay (aa0 (lt_size e) (I.ok.cab x c hfn hc)))).trans e1⟩
  ·by_cases hj:j=i
   ·subst hj
    rw[hi] at e1;cases e1
    rw[List.getElem?_set_self QG] at e2
    cases e2
    exact⟨u,r,.inr ⟨.inl hk,c,hc,hc'⟩⟩
   ·rw[List.getElem?_set_ne (aco hj)] at e2
    obtain⟨u',r',q⟩:=hl j y v' e1 e2 e3
    refine⟨u',r',?_⟩
    rcases q with q|⟨k,c',e,z'⟩
    ·exact .inl q
    ·refine .inr ⟨k,c',e,z'.sameBut hs ?_⟩
     rintro rfl
     exact hj (zL7 hN e1 (I.ok.inj _ _ _ e hc▸hi))
  ·by_cases hcc:c'=c
   ·subst hcc;exact⟨_,hc'⟩
   ·obtain⟨w2,z2⟩:=I.cell y c' e
    exact⟨w2,z2.sameBut hs hcc⟩
  ·obtain⟨e,n,ne,nf,d⟩:=I.pin p hp
   refine⟨(hs.2 p.1 ?_).trans e,n,ne,nf,d⟩
   intro q
   rw[q,hoc] at e
   have q':oc=p.2:=aaw e
   exact d w' (by rw[<-q'];exact Xu)
theorem Xv{Q:Unit->Shared->Prop}(I:Inv X pins σ H s)(hN:X.N.Nodup)(hi:X.N[i]?=some x)(hx:Loc X.env.scope x)(r:RelV v u)(h:∀s',Inv X pins (σ.set i (some v)) H s'->Q () s')(hf:X.fn x=true\/X.env.scope.names.lookup x=some .local:=by first|exact .inl rfl|exact .inr rfl|assumption):wpAny M A (storeName X.env x u) Q E s :=
 zIf I hN hi hx r (λs' I' _=>h s' I') hf
theorem Inv.call'{s':Shared}(I:Inv X pins σ H s)(ho:s'.os=s.os)(u:Un (frs X.stack) ch H H' s.heap s'.heap)(hok:gZ X.prog X.w H' s'.heap)(hg:AllBare s'.gens)(hch:∀b∈ch,(b∈X.ex\/X.s₀.heap.objs.size<=b)/\b≠X.env.locals/\(∀x c,X.env.cells.lookup x=some c->c≠b)/\∀p∈X.pn++pins,p.1≠b):Inv X pins σ H' s':=by
 obtain⟨h',g',d',t',o'⟩:=s'
 have e:o'=s.os:=ho
 subst e
 exact I.call (g':=g') (t':=t') (d':=d') u hok hg hch
end
abbrev XK:=Value->Option Addr->Hp->Prop
abbrev St:=List (Option V)
abbrev VK:=V->Hp->Prop
abbrev TE:=St->Hp->VK->Prop
abbrev TT:=St->Hp->(Bool->Hp->Prop)->Prop
abbrev TA:=St->Hp->(List V->Hp->Prop)->Prop
structure Ends where
 nx:St->Hp->Prop
 rt:VK
 bk:St->Hp->Prop:=λ_ _=>False
 ct:St->Hp->Prop:=λ_ _=>False
abbrev TS:=Ends->St->Hp->Prop
def EP(X:Cx)(pins:List (Addr×Obj))(σ:St)(Q:VK)(u:Value)(s':Shared):Prop:=∃v H',Inv X pins σ H' s'/\RelV v u/\Q v H'
def TP(X:Cx)(pins:List (Addr×Obj))(σ:St)(Q:Bool->Hp->Prop)(b:Bool)(s':Shared):Prop:=∃H',Inv X pins σ H' s'/\Q b H'
def AP(X:Cx)(pins:List (Addr×Obj))(σ:St)(Q:List V->Hp->Prop)(us:List Value)(s':Shared):Prop:=∃vs H',Inv X pins σ H' s'/\Vals vs us/\Q vs H'
def SP(X:Cx)(pins:List (Addr×Obj))(D:Ends)(f:Flow)(s':Shared):Prop :=
 match f with
 |.next=>∃σ' H',Inv X pins σ' H' s'/\D.nx σ' H'
 |.brk=>∃σ' H',Inv X pins σ' H' s'/\D.bk σ' H'
 |.cont=>∃σ' H',Inv X pins σ' H' s'/\D.ct σ' H'
 |.ret u=>∃v σ' H',Inv X pins σ' H' s'/\RelV v u/\D.rt v H'
def PE(X:Cx)(e:Expr)(t:TE):Prop :=
 ∀(pins:List (Addr×Obj))(s:Shared)(σ:St)(H:Hp)(Q:VK),Inv X pins σ H s->t σ H Q->wpAny (model X.prog X.w) X.A (eval e X.env) (EP X pins σ Q) X.xe s
def PT(X:Cx)(e:Expr)(t:TT):Prop :=
 ∀(pins:List (Addr×Obj))(s:Shared)(σ:St)(H:Hp)(Q:Bool->Hp->Prop),Inv X pins σ H s->t σ H Q->wpAny (model X.prog X.w) X.A (isTrue e X.env (eval e X.env)) (TP X pins σ Q) X.xe s
def PW(X:Cx)(e:Expr)(t:TT):Prop :=
 ∀(whole:Sem Value)(pins:List (Addr×Obj))(s:Shared)(σ:St)(H:Hp)(Q:Bool->Hp->Prop),Inv X pins σ H s->t σ H Q->wpAny (model X.prog X.w) X.A (isTrue e X.env whole) (TP X pins σ Q) X.xe s
theorem PW.pt(h:PW X e t):PT X e t:=h _
def PA(X:Cx)(es:List Expr)(t:TA):Prop :=
 ∀(pos:Pos)(pins:List (Addr×Obj))(s:Shared)(σ:St)(H:Hp)(Q:List V->Hp->Prop),Inv X pins σ H s->t σ H Q->wpAny (model X.prog X.w) X.A (spliced (backTo pos (starEach es X.env))) (AP X pins σ Q) X.xe s
def PS(X:Cx)(st:Stmt)(t:TS):Prop :=
 ∀(pins:List (Addr×Obj))(s:Shared)(σ:St)(H:Hp)(D:Ends),Inv X pins σ H s->t D σ H->wpAny (model X.prog X.w) X.A (exec st X.env) (SP X pins D) X.xe s
def qI(X:Cx)(st:List Stmt)(t:TS):Prop :=
 ∀(pins:List (Addr×Obj))(s:Shared)(σ:St)(H:Hp)(D:Ends),Inv X pins σ H s->t D σ H->wpAny (model X.prog X.w) X.A (execs st X.env) (SP X pins D) X.xe s
theorem aP{α:Type}{t:Sem α}{Q Q':α->Shared->Prop}(h:wpAny M A t Q E s)(hQ:∀a s,Q a s->Q' a s):wpAny M A t Q' E s:=ab9 h hQ λ_ _ x=>x
section
variable{X:Cx}
def bZ(i:Nat):TE:=λσ H Q=>∃v,σ[i]?=some (some v)/\Q v H
def tC(v:V):TE:=λ_ H Q=>Q v H
theorem JK(hN:X.N[i]?=some x)(hv:QD X.env.scope x)(hd:(x==("__debug__":Str))=false:=by decide)(hcd:(x==("__classdict__":Str))=false:=by decide):PE X (.Name x pos) (bZ i):=by
 intro pins s σ H Q I h
 obtain⟨v,e,h⟩:=h
 obtain⟨m,hn,hl⟩:=I.loc
 obtain⟨u,r,l⟩:=hl i x v hN e hv
 have fin:EP X pins σ Q u s:=⟨v,H,I,r,h⟩
 rcases l with⟨hk,hm⟩|⟨hk,c,hc,hcell⟩
 ·exact wpAny_Name (wpAny_loadName_local I.ok.kind hk hn hm fin) hd
 ·rcases hk with hk|hk
  ·exact wpAny_Name (wpAny_loadName_cell I.ok.kind hk hc hcell fin) hd
  ·exact wpAny_Name (wpAny_loadName_free I.ok.kind hk hc hcell fin hcd) hd
theorem zJ{i j pos}:PE X (.Constant (.int i) j pos) (tC (.int i)):=λ_ _ _ H _ I h=>wpAny_Constant_int ⟨.int i,H,I.tok _,⟨_,rfl⟩,h⟩
theorem oW{b j pos}:PE X (.Constant (.bool b) j pos) (tC (.bl b)):=λ_ _ _ H _ I h=>Constant_bool ⟨.bl b,H,I,rfl,h⟩
theorem Xw{j pos}:PE X (.Constant .none j pos) (tC .non):=λ_ _ _ H _ I h=>ae8 ⟨.non,H,I,rfl,h⟩
theorem yI{x j pos}:PE X (.Constant (.str x) j pos) (tC (.str x)):=λ_ _ _ H _ I h=>Calls.Constant_str ⟨.str x,H,I.tok _,⟨_,rfl⟩,h⟩
def Gl(X:Cx)(x:Str):Prop:=X.env.kindOf x=some .globalImplicit
theorem QH{Q:Value->Shared->Prop}(I:Inv X pins σ H s)(hg:Gl X x)(hm:X.mg x=some u)(h:Q u s)(hd:(x==("__debug__":Str))=false:=by decide):wpAny (model X.prog X.w) X.A (eval (.Name x pos) X.env) Q E s :=
 Calls.Name_function_global I.ok.kind hg (Calls.loadGlobal_global (by rw[I.ok.glob];exact I.mod.glob.keeps I.bk) hm h) hd
theorem Ck{Q:Value->Shared->Prop}(I:Inv X pins σ H s)(hg:Gl X x)(hm:X.mg x=none)(hv:bootBuiltins x=some u)(h:Q u s)(hn:x ≠ "__name__":=by decide)(hd:(x==("__debug__":Str))=false:=by decide):wpAny (model X.prog X.w) X.A (eval (.Name x pos) X.env) Q E s:=by
 obtain⟨mb,h1,h2⟩:=I.mod.blt
 exact Calls.Name_function_global I.ok.kind hg (Calls.loadGlobal_builtin (by rw[I.ok.glob];exact I.mod.glob.keeps I.bk) hm (by rw[I.ok.blt];exact h1.keeps I.bk) ((h2 x hn).trans hv) h) hd
theorem wK(hg:Gl X x)(hm:X.mg x=some u)(r:RelV v u)(hd:(x==("__debug__":Str))=false:=by decide):PE X (.Name x pos) (tC v) :=
 λ_ _ _ H _ I h=>QH I hg hm ⟨v,H,I,r,h⟩ hd
theorem QJ(hg:Gl X x)(hm:X.mg x=none)(hv:bootBuiltins x=some u)(r:RelV v u)(hn:x ≠ "__name__":=by decide)(hd:(x==("__debug__":Str))=false:=by decide):PE X (.Name x pos) (tC v) :=
 λ_ _ _ H _ I h=>Ck I hg hm hv ⟨v,H,I,r,h⟩ hn hd
variable{a b:Expr}{ta tb:TE}{pos:Pos}
def PC(X:Cx)(op:CmpOp)(a b:Expr)(t:TE):Prop :=
 ∀(pins:List (Addr×Obj))(s:Shared)(σ:St)(H:Hp)(Q:VK),Inv X pins σ H s->t σ H Q ->
  wpAny (model X.prog X.w) X.A (eval a X.env) (λv s₁=>wpAny (model X.prog X.w) X.A (eval b X.env) (λu s₂=>wpAny (model X.prog X.w) X.A (compareOp op v u) (EP X pins σ Q) X.xe s₂) X.xe s₁) X.xe s
theorem zTv(b:Expr)(h:op≠.In)(h2:op≠.NotIn):behindInMarks op b=false:=by
 have e1:(op==CmpOp.In)=false:=by cases op<;>first|rfl|exact absurd rfl h
 have e2:(op==CmpOp.NotIn)=false:=by cases op<;>first|rfl|exact absurd rfl h2
 cases b<;>simp[behindInMarks,e1,e2]
def QK(ta:TE):TE:=λσ H Q=>ta σ H λx H1=>Q (.bl (decide (x=.non))) H1
def Hv(ta:TE):TE:=λσ H Q=>ta σ H λx H1=>Q (.bl (!decide (x=.non))) H1
theorem RelV.qM(r:RelV x v):(v==adb)=decide (x=.non):=by
 cases x with
 |non=>cases r;rfl
 |bl _=>cases r;rfl
 |int _=>obtain⟨t,rfl⟩:=r;rfl
 |str _=>obtain⟨t,rfl⟩:=r;rfl
 |rQ _=>obtain⟨t,rfl⟩:=r;rfl
 |flt _=>obtain⟨t,rfl⟩:=r;rfl
 |ref _=>cases r;rfl
 |ty _=>cases r;rfl
theorem QL{j pos'}(ha:PE X a ta):PC X .Is a (.Constant .none j pos') (QK ta):=by
 intro pins s σ H Q I h
 refine aP (ha pins s σ H _ I h) λv s1 ⟨x,H1,I1,r1,q1⟩=>?_
 exact ae8 (is_none_gen ⟨.bl _,H1,I1,by rw[r1.qM];rfl,q1⟩)
theorem Di{j pos'}(ha:PE X a ta):PC X .IsNot a (.Constant .none j pos') (Hv ta):=by
 intro pins s σ H Q I h
 refine aP (ha pins s σ H _ I h) λv s1 ⟨x,H1,I1,r1,q1⟩=>?_
 exact ae8 (isnot_none_gen ⟨.bl _,H1,I1,by rw[r1.qM];rfl,q1⟩)
def tB(t:TE):TT:=λσ H Q=>t σ H λx H1=>∃c,x=.bl c/\Q c H1
theorem Dj(h:PC X op a b t)(h1:behindInMarks op b=false:=by first|exact zTv _ (by decide) (by decide)|rfl):PT X (.Compare a [op] [b] pos) (tB t):=by
 intro pins s σ H Q I hw
 refine wpAny_isTrue_Compare1 (aP (h pins s σ H _ I hw) λv s1 h1=>aP h1 λu s2 h2=>aP h2 λc s3 ⟨x,H1,I1,r1,q1⟩=>?_) h1
 obtain⟨d,rfl,q⟩:=q1
 cases r1
 exact ab3 ⟨H1,I1,q⟩
theorem xT(h:PE X e t)(he:∀whole,isTrue e X.env whole=(do let v <-whole;standAt e.pos;holding [v] (truthy v)):=by intro _;rfl):PT X e (tB t):=by
 intro pins s σ H Q I hw
 refine isTrue_plain (aP (h pins s σ H _ I hw) λv s1 ⟨x,H1,I1,r1,q1⟩=>?_) (he _)
 obtain⟨d,rfl,q⟩:=q1
 cases r1
 exact ab3 ⟨H1,I1,q⟩
variable{tA Vp:TT}{rest:List Expr}
def QM(t u:TT):TT:=λσ H Q=>t σ H λc H1=>if c=true then u σ H1 Q else Q false H1
def Xx(t u:TT):TT:=λσ H Q=>t σ H λc H1=>if c=true then Q true H1 else u σ H1 Q
def QS(t:TT):TT:=λσ H Q=>t σ H λc H1=>Q (!c) H1
theorem pw_and1(ha:PT X a tA):PW X (.BoolOp .And [a] pos) tA:=by
 intro wh pins s σ H Q I h
 refine isTrue_and (aP (ha pins s σ H Q I h) λc s1 e=>?_)
 cases c with
 |true=>exact isTrue_and_nil e
 |false=>exact e
theorem pw_or1(ha:PT X a tA):PW X (.BoolOp .Or [a] pos) tA:=by
 intro wh pins s σ H Q I h
 refine isTrue_or (aP (ha pins s σ H Q I h) λc s1 e=>?_)
 cases c with
 |false=>exact isTrue_or_nil e
 |true=>exact e
theorem pw_and(ha:PT X a tA)(hb:PW X (.BoolOp .And (b::rest) pos) Vp):PW X (.BoolOp .And (a::b::rest) pos) (QM tA Vp):=by
 intro wh pins s σ H Q I h
 refine isTrue_and (aP (ha pins s σ H _ I h) λc s1 ⟨H1,I1,q1⟩=>?_)
 cases c with
 |true=>exact hb wh pins s1 σ H1 Q I1 q1
 |false=>exact⟨H1,I1,q1⟩
theorem pw_or(ha:PT X a tA)(hb:PW X (.BoolOp .Or (b::rest) pos) Vp):PW X (.BoolOp .Or (a::b::rest) pos) (Xx tA Vp):=by
 intro wh pins s σ H Q I h
 refine isTrue_or (aP (ha pins s σ H _ I h) λc s1 ⟨H1,I1,q1⟩=>?_)
 cases c with
 |true=>exact⟨H1,I1,q1⟩
 |false=>exact hb wh pins s1 σ H1 Q I1 q1
theorem Dk(ha:PT X a tA):PT X (.UnaryOp .Not a pos) (QS tA):=by
 intro pins s σ H Q I h
 exact isTrue_not (ha pins s σ H (λc H1=>Q (!c) H1) I h)
def Hw(ta tb:TE):TE:=λσ H Q=>ta σ H λx H1=>∃c,x=.bl c/\if c=true then tb σ H1 Q else Q (.bl false) H1
def QT(ta tb:TE):TE:=λσ H Q=>ta σ H λx H1=>∃c,x=.bl c/\if c=true then Q (.bl true) H1 else tb σ H1 Q
def Hx(ta:TE):TE:=λσ H Q=>ta σ H λx H1=>∃c,x=.bl c/\Q (.bl (!c)) H1
theorem zq{op}(h:PE X a t):PE X (.BoolOp op [a] pos) t:=λpins s σ H Q I hw=>BoolOp_one (h pins s σ H Q I hw)
theorem Dl(ha:PE X a ta)(hb:PE X (.BoolOp .And (b::rest) pos) tb):PE X (.BoolOp .And (a::b::rest) pos) (Hw ta tb):=by
 intro pins s σ H Q I h
 refine BoolOp_and (aP (ha pins s σ H _ I h) λv s1 ⟨x,H1,I1,r1,q1⟩=>?_)
 obtain⟨c,rfl,q1⟩:=q1
 cases r1
 refine ab3 ?_
 cases c with
 |true=>exact hb pins s1 σ H1 Q I1 q1
 |false=>exact⟨.bl false,H1,I1,rfl,q1⟩
theorem zu(ha:PE X a ta)(hb:PE X (.BoolOp .Or (b::rest) pos) tb):PE X (.BoolOp .Or (a::b::rest) pos) (QT ta tb):=by
 intro pins s σ H Q I h
 refine BoolOp_or (aP (ha pins s σ H _ I h) λv s1 ⟨x,H1,I1,r1,q1⟩=>?_)
 obtain⟨c,rfl,q1⟩:=q1
 cases r1
 refine ab3 ?_
 cases c with
 |false=>exact hb pins s1 σ H1 Q I1 q1
 |true=>exact⟨.bl true,H1,I1,rfl,q1⟩
theorem JL(ha:PE X a ta):PE X (.UnaryOp .Not a pos) (Hx ta):=by
 intro pins s σ H Q I h
 refine UnaryOp_ (aP (ha pins s σ H _ I h) λv s1 ⟨x,H1,I1,r1,q1⟩=>?_)
 obtain⟨c,rfl,q1⟩:=q1
 cases r1
 exact not_of (ab3 ⟨.bl (!c),H1,I1,rfl,q1⟩)
def tIf(t:TT)(ta tb:TE):TE:=λσ H Q=>t σ H λc H1=>if c=true then ta σ H1 Q else tb σ H1 Q
theorem zL2(hc:PT X c tA)(ha:PE X a ta)(hb:PE X b tb):PE X (.IfExp c a b pos) (tIf tA ta tb):=by
 intro pins s σ H Q I h
 refine wpAny_IfExp (aP (hc pins s σ H _ I h) λd s1 ⟨H1,I1,q1⟩=>?_)
 cases d with
 |true=>exact ha pins s1 σ H1 Q I1 q1
 |false=>exact hb pins s1 σ H1 Q I1 q1
end
def aW(K:PySem.W.Frag)(H:Hp)(a:Addr)(xs:List V):Prop :=
 Rd H a (.lst xs) \/
  ∃(o:Obj)(its:Array Value)(n:Nat),K.lookup a=some o/\o.cls=.type "list" /\ o.dict=none/\o.data=.seq its n/\its.size<=sizeLine/\Vals xs its.toList
def cO(K:PySem.W.Frag)(H:Hp)(a:Addr)(xs:List V):Prop :=
 Rd H a (.tup xs) \/
  ∃(o:Obj)(its:Array Value)(n:Nat),K.lookup a=some o/\o.cls=.type "tuple" /\ o.data=.seq its n/\its.size<=sizeLine/\Vals xs its.toList
def Xy:Value->Option V
 |.none=>some .non
 |.bool b=>some (.bl b)
 |.int i _=>some (.int i)
 |.str x _=>some (.str x)
 |.bytes b _=>some (.rQ b)
 |.float b _=>some (.flt b)
 |.ref a=>some (.ref a)
 |.type n=>some (.ty n)
 |_=>none
theorem RelV.abs(r:RelV x u):Xy u=some x:=by
 cases x with
 |non=>cases r;rfl
 |bl _=>cases r;rfl
 |int _=>obtain⟨t,rfl⟩:=r;rfl
 |str _=>obtain⟨t,rfl⟩:=r;rfl
 |rQ _=>obtain⟨t,rfl⟩:=r;rfl
 |flt _=>obtain⟨t,rfl⟩:=r;rfl
 |ref _=>cases r;rfl
 |ty _=>cases r;rfl
theorem RelV.inj(r:RelV x u)(q:RelV y u):x=y:=aaw (r.abs.symm.trans q.abs)
theorem Vals.inj:∀{xs ys:List V}{us:List Value},Vals xs us->Vals ys us->xs=ys
 |_,_,_,.nil,.nil=>rfl
 |_,_,_,.cons r t,.cons r' t'=>by rw[r.inj r',Vals.inj t t']
section
variable{X:Cx}{pins:List (Addr×Obj)}{σ:St}{H:Hp}{s:Shared}{a:Addr}{xs ys:List V}
theorem aW.of{K:PySem.W.Frag}(h:H a=some (.lst xs)):aW K H a xs:=.inl (.inl h)
theorem cO.of{K:PySem.W.Frag}(h:H a=some (.tup xs)):cO K H a xs:=.inl (.inl h)
theorem Inv.list(I:Inv X pins σ H s)(h:aW X.K H a xs):∃its:List Value,Vals xs its/\PlainL s.heap a its.toArray/\xs.length<=sizeLine:=by
 rcases h with h|⟨o,its,n,hk,hc,hd,hs,hz,r⟩
 ·obtain⟨z,its,n,r,e⟩:=h.ok I.hok
  exact⟨its,r,⟨_,n,e,rfl,rfl,rfl⟩,z⟩
 ·refine⟨its.toList,r,⟨o,n,I.jV a o hk,hc,hd,by simpa using hs⟩,?_⟩
  have e:=r.length
  simp only[length_toList] at e
  omega
theorem Inv.tuple(I:Inv X pins σ H s)(h:cO X.K H a xs):∃its:List Value,Vals xs its/\IsTup s.heap a its.toArray/\xs.length<=sizeLine:=by
 rcases h with h|⟨o,its,n,hk,hc,hs,hz,r⟩
 ·obtain⟨z,its,r,p⟩:=h.ok I.hok
  exact⟨its,r,p,z⟩
 ·refine⟨its.toList,r,⟨o,I.jV a o hk,hc,n,by simpa using hs⟩,?_⟩
  have e:=r.length
  simp only[length_toList] at e
  omega
theorem Inv.mL(I:Inv X pins σ H s)(h:aW X.K H a xs)(h':aW X.K H a ys):xs=ys:=by
 obtain⟨its,r,⟨o,n,e,_,_,d⟩,_⟩:=I.list h
 obtain⟨its',r',⟨o',n',e',_,_,d'⟩,_⟩:=I.list h'
 rw[e] at e';cases e'
 rw[d] at d'
 injection d' with d1 _
 have:its=its':=by simpa using congrArg Array.toList d1
 subst this
 exact r.inj r'
theorem Inv.ug(I:Inv X pins σ H s)(h:cO X.K H a xs)(h':cO X.K H a ys):xs=ys:=by
 obtain⟨its,r,⟨o,e,_,n,d⟩,_⟩:=I.tuple h
 obtain⟨its',r',⟨o',e',_,n',d'⟩,_⟩:=I.tuple h'
 rw[e] at e';cases e'
 rw[d] at d'
 injection d' with d1 _
 have:its=its':=by simpa using congrArg Array.toList d1
 subst this
 exact r.inj r'
end
abbrev Cx.wish(X:Cx)(E:Value->Shared->Prop):Cx:={ X with xe:=E }
abbrev Cx.Dm(X:Cx):Cx:=X.wish λ_ _=>False
theorem Cx.Ok.wish{X:Cx}(ok:X.Ok)(E:Value->Shared->Prop):(X.wish E).Ok :=
 ⟨ok.mod,ok.kind,ok.glob,ok.blt,ok.above,ok.inj,ok.has,ok.cab,ok.hd,ok.frames,ok.stk,ok.Vn,ok.bs,ok.Dh,ok.zj,ok.zp,ok.lR,ok.JF⟩
theorem Cx.Ok.g_{X:Cx}(ok:(X.wish E).Ok):X.Ok :=
 ⟨ok.mod,ok.kind,ok.glob,ok.blt,ok.above,ok.inj,ok.has,ok.cab,ok.hd,ok.frames,ok.stk,ok.Vn,ok.bs,ok.Dh,ok.zj,ok.zp,ok.lR,ok.JF⟩
section
variable{X:Cx}{pins:List (Addr×Obj)}{σ:St}{H:Hp}{s:Shared}{E:Value->Shared->Prop}
theorem Inv.wish(I:Inv X pins σ H s)(E:Value->Shared->Prop):Inv (X.wish E) pins σ H s:=⟨I.ok.wish E,I.os,I.bare,I.base,I.loc,I.cell,I.free,I.g8,I.pin,I.hok,I.len⟩
theorem Inv.g_(I:Inv (X.wish E) pins σ H s):Inv X pins σ H s:=⟨I.ok.g_,I.os,I.bare,I.base,I.loc,I.cell,I.free,I.g8,I.pin,I.hok,I.len⟩
theorem SP.g_(h:SP (X.wish E) pins D f s'):SP X pins D f s':=by
 cases f with
 |next=>obtain⟨σ',H',I,q⟩:=h;exact⟨σ',H',I.g_,q⟩
 |brk=>obtain⟨σ',H',I,q⟩:=h;exact⟨σ',H',I.g_,q⟩
 |cont=>obtain⟨σ',H',I,q⟩:=h;exact⟨σ',H',I.g_,q⟩
 |ret u=>obtain⟨v,σ',H',I,r,q⟩:=h;exact⟨v,σ',H',I.g_,r,q⟩
theorem qI.Dm{st:List Stmt}{t:TS}(h:qI X.Dm st t):qI X st t:=λpins s σ H D I hw =>
 ab9 (h pins s σ H D (I.wish _) hw) (λ_ _ q=>q.g_) λ_ _ z=>abv z
end
section
variable{X:Cx}{st:Stmt}{rest:List Stmt}{t u:TS}{e:Expr}{te:TE}{pos:Pos}
def JM:TS:=λD σ H=>D.nx σ H
def h_(t u:TS):TS:=λD σ H=>t { D with nx:=u D } σ H
theorem zG:qI X [] JM:=λ_ _ σ H _ I h=>aeg ⟨σ,H,I,h⟩
theorem zB(h1:PS X st t)(h2:qI X rest u):qI X (st::rest) (h_ t u):=by
 intro pins s σ H D I h
 refine wpAny_execs_cons (aP (h1 pins s σ H { D with nx:=u D } I h) λf s1 q=>?_)
 cases f with
 |next =>
  obtain⟨σ',H',I',q⟩:=q
  exact h2 pins s1 σ' H' D I' q
 |ret v=>exact q
 |brk=>exact q
 |cont=>exact q
theorem zZ(h1:PS X st t):qI X [st] t:=by
 intro pins s σ H D I h
 refine wpAny_execs_cons (aP (h1 pins s σ H D I h) λf s1 q=>?_)
 cases f with
 |next=>exact aeg q
 |ret v=>exact q
 |brk=>exact q
 |cont=>exact q
theorem Inv.quiet(I:Inv X pins σ H s):interactive X.env=false:=by simp[interactive,I.ok.kind]
def Ow(te:TE):TS:=λD σ H=>te σ H λ_ H1=>D.nx σ H1
theorem yJ(he:PE X e te)(hs:swapsWith e none pos.line X.env=pure false:=by rfl):PS X (.Expr e pos) (Ow te):=by
 intro pins s σ H D I h
 exact wpAny_Expr_any (aP (he pins s σ H _ I h) λv s1 ⟨x,H1,I1,r1,q1⟩=>⟨σ,H1,I1,q1⟩) I.quiet hs
def qN(te:TE):TS:=λD σ H=>te σ H D.rt
theorem zP(he:PE X e te):PS X (.Return (some e) pos) (qN te):=by
 intro pins s σ H D I h
 exact wpAny_Return_some (aP (he pins s σ H _ I h) λv s1 ⟨x,H1,I1,r1,q1⟩=>⟨x,σ,H1,I1,r1,q1⟩)
def uh(c:TT)(t u:TS):TS:=λD σ H=>c σ H λb H1=>if b=true then t D σ H1 else u D σ H1
theorem yP(hc:PT X c tc)(ha:qI X a t)(hb:qI X b u):PS X (.If c a b pos) (uh tc t u):=by
 intro pins s σ H D I h
 refine wpAny_If (aP (hc pins s σ H _ I h) λd s1 ⟨H1,I1,q1⟩=>?_)
 cases d with
 |true=>exact ha pins s1 σ H1 D I1 q1
 |false=>exact hb pins s1 σ H1 D I1 q1
def zU6:TS:=λ_ _ _=>False
theorem Ox:qI X sts zU6:=λ_ _ _ _ _ _ h=>h.elim
end
abbrev TG:=V->St->Hp->(St->Hp->Prop)->Prop
abbrev Oz:=List V->St->Hp->(St->Hp->Prop)->Prop
def PG(X:Cx)(target:Expr)(t:TG):Prop :=
 ∀(pins:List (Addr×Obj))(s:Shared)(σ:St)(H:Hp)(v:V)(u:Value)(Q:St->Hp->Prop),Inv X pins σ H s->RelV v u->t v σ H Q ->
  wpAny (model X.prog X.w) X.A (assign target X.env u) (λ_ s'=>∃σ' H',Inv X pins σ' H' s'/\Q σ' H') X.xe s
def QV(X:Cx)(ts:List Expr)(t:Oz):Prop :=
 ∀(pins:List (Addr×Obj))(s:Shared)(σ:St)(H:Hp)(vs:List V)(us:List Value)(Q:St->Hp->Prop),Inv X pins σ H s->Vals vs us->t vs σ H Q ->
  wpAny (model X.prog X.w) X.A (assignInOrder ((assignEach ts X.env).map (·.2)) us) (λ_ s'=>∃σ' H',Inv X pins σ' H' s'/\Q σ' H') X.xe s
abbrev JN:=V->V->V->Hp->(Hp->Prop)->Prop
def JQ(X:Cx)(t:JN):Prop :=
 ∀(pins:List (Addr×Obj))(s:Shared)(σ:St)(H:Hp)(o i v:V)(ov iv u:Value)(Q:Hp->Prop),Inv X pins σ H s->RelV o ov->RelV i iv->RelV v u->t o i v H Q ->
  wpAny (model X.prog X.w) X.A (setItem ov iv u) (λ_ s'=>∃H',Inv X pins σ H' s'/\Q H') X.xe s
abbrev Vq:=V->V->Hp->VK->Prop
def Vr(X:Cx)(op:Operator)(t:Vq):Prop :=
 ∀(pins:List (Addr×Obj))(s:Shared)(σ:St)(H:Hp)(x y:V)(v u:Value)(Q:VK),Inv X pins σ H s->RelV x v->RelV y u->t x y H Q ->
  wpAny (model X.prog X.w) X.A (inplaceOp op v u) (EP X pins σ Q) X.xe s
section
variable{X:Cx}{pos:Pos}
def pF(i:Nat):TG:=λv σ H Q=>Q (σ.set i (some v)) H
theorem yL(hN:X.N.Nodup)(hi:X.N[i]?=some x)(hx:Loc X.env.scope x)(hf:X.fn x=true\/X.env.scope.names.lookup x=some .local:=by first|exact .inl rfl|exact .inr rfl|assumption):PG X (.Name x pos) (pF i):=by
 intro pins s σ H v u Q I r h
 exact wpAny_assign_Name (Xv I hN hi hx r (λs' I'=>⟨_,H,I',h⟩) hf)
def JR:Oz:=λvs σ H Q=>vs=[]/\Q σ H
def OD(t:TG)(u:Oz):Oz:=λvs σ H Q=>∃v r,vs=v::r/\t v σ H λσ' H'=>u r σ' H' Q
theorem Dn:QV X [] JR:=by
 intro pins s σ H vs us Q I r h
 obtain⟨e,h⟩:=h
 subst e
 cases r
 exact assignInOrder_nil ⟨σ,H,I,h⟩
theorem yV(h1:PG X e t)(h2:QV X es u)(hs:(assignEach (e::es) X.env).map (·.2)=assign e X.env::(assignEach es X.env).map (·.2):=by rfl):QV X (e::es) (OD t u):=by
 intro pins s σ H vs us Q I r h
 obtain⟨v,vr,e1,h⟩:=h
 subst e1
 cases r with
 |cons r rr =>
  rw[hs]
  refine assignInOrder_cons (aP (h1 pins s σ H _ _ _ I r h) λ_ s1 ⟨σ1,H1,I1,q1⟩=>?_)
  exact h2 pins s1 σ1 H1 _ _ Q I1 rr q1
def Dp(K:PySem.W.Frag)(n:Nat)(t:Oz):TG:=λv σ H Q=>∃a xs,v=.ref a/\cO K H a xs/\xs.length=n/\t xs σ H Q
theorem JT(hc:X.calm=true)(h:QV X es t)(hn:(assignEach es X.env).length=n:=by rfl)(hst:(assignEach es X.env).findIdx? (·.1)=none:=by rfl):PG X (.Tuple es k pos) (Dp X.K n t):=by
 intro pins s σ H v u Q I r hw
 obtain⟨a,xs,e1,hq,hl,hw⟩:=hw
 subst e1
 cases r
 obtain⟨its,rv,ht,hz⟩:=I.tuple hq
 refine assign_Tuple_tuple (I.ok.hd hc) ht (by simp[hn,<-hl,rv.length]) hst λh' hx=>?_
 have I1:Inv X pins σ H { s with heap:=h' }:=I.kept (t':=s.toks) λb o e=>hx b o (aay (lt_size e)) e
 exact h pins _ σ H xs _ Q I1 (by simpa using rv) hw
def QW(to ti:TE)(t:JN):TG:=λv σ H Q=>to σ H λo H1=>ti σ H1 λi H2=>t o i v H2 λH3=>Q σ H3
theorem QX(ho:PE X o to)(hi:PE X i ti)(hs:JQ X t)(ha:∀v,assign (.Subscript o i pos) X.env v=(do
   let ov <-holding [v] (eval o X.env)
   let iv <-holding [v,ov] (eval i X.env)
   standAt pos
   holding [v,ov,iv] (setItem ov iv v)
   release [v,ov,iv] []):=by intro _;rfl):PG X (.Subscript o i pos) (QW to ti t):=by
 intro pins s σ H v u Q I r h
 rw[ha]
 refine aaq (abm (aP (ho pins s σ H _ I h) λov s1 ⟨x,H1,I1,r1,q1⟩=>?_))
 refine aaq (abm (aP (hi pins s1 σ H1 _ I1 q1) λiv s2 ⟨y,H2,I2,r2,q2⟩=>?_))
 refine aaq (ae9 (aaq (abm (aP (hs pins s2 σ H2 x y v ov iv u _ I2 r1 r2 r q2) λ_ s3 ⟨H3,I3,q3⟩=>?_))))
 exact wpAny_release ⟨σ,H3,I3,q3⟩
def mO(te:TE)(g:TG):TS:=λD σ H=>te σ H λx H1=>g x σ H1 D.nx
theorem OJ(he:PE X e te)(hg:PG X tg g)(hs:swapsWithSole [tg] e pos.line X.env=pure false:=by rfl)(hw:swappedStores [tg] e X.env=pure none:=by rfl)(h1:(assignEach [tg] X.env).map (·.2)=[assign tg X.env]:=by rfl):PS X (.Assign [tg] e pos) (mO te g):=by
 intro pins s σ H D I h
 refine wpAny_Assign_stores (aP (he pins s σ H _ I h) λv s1 ⟨x,H1,I1,r1,q1⟩=>?_) hs hw
 rw[h1]
 exact aP (hg pins s1 σ H1 x v _ I1 r1 q1) λ_ s2 q=>q
theorem Hy(hN:X.N.Nodup)(hi:X.N[i]?=some x)(hx:Loc X.env.scope x)(he:PE X e te)(hs:swapsWith e (some (.Name x pos')) pos.line X.env=pure false:=by rfl)(hf:X.fn x=true\/X.env.scope.names.lookup x=some .local:=by first|exact .inl rfl|exact .inr rfl|assumption) :
  PS X (.Assign [.Name x pos'] e pos) (mO te (pF i)):=by
 intro pins s σ H D I h
 refine wpAny_Assign_Name (aP (he pins s σ H _ I h) λv s1 ⟨y,H1,I1,r1,q1⟩=>?_) hs
 exact Xv I1 hN hi hx r1 (λs2 I2=>⟨_,H1,I2,q1⟩) hf
def QZ(i:Nat)(te:TE)(ti:Vq):TS:=λD σ H=>∃x,σ[i]?=some (some x)/\te σ H λy H1=>ti x y H1 λz H2=>D.nx (σ.set i (some z)) H2
theorem zVf(hN:X.N.Nodup)(hi:X.N[i]?=some x)(hx:Loc X.env.scope x)(he:PE X e te)(ho:Vr X op ti)(hf:X.fn x=true\/X.env.scope.names.lookup x=some .local:=by first|exact .inl rfl|exact .inr rfl|assumption) :
  PS X (.AugAssign (.Name x pos') op e pos) (QZ i te ti):=by
 intro pins s σ H D I h
 obtain⟨v,e1,h⟩:=h
 obtain⟨m,hn,hl⟩:=I.loc
 have vis:QD X.env.scope x:=by rcases hx with k|k;exact .inl k;exact .inr (.inl k)
 obtain⟨u,r,l⟩:=hl i x v hi e1 vis
 refine wpAny_AugAssign_Name ?_
 have go:wpAny (model X.prog X.w) X.A (eval e X.env) (λw s₂=>wpAny (model X.prog X.w) X.A (inplaceOp op u w) (λr s₃=>wpAny (model X.prog X.w) X.A (storeName X.env x r) (λ_=>SP X pins D .next) X.xe s₃) X.xe s₂) X.xe s:=by
  refine aP (he pins s σ H _ I h) λw s1 ⟨y,H1,I1,r1,q1⟩=>?_
  refine aP (ho pins s1 σ H1 v y u w _ I1 r r1 q1) λz s2 ⟨zv,H2,I2,r2,q2⟩=>?_
  exact Xv I2 hN hi hx r2 (λs3 I3=>⟨_,H2,I3,q2⟩) hf
 rcases l with⟨hk,hm⟩|⟨hk,c,hc,hcell⟩
 ·exact wpAny_loadName_local I.ok.kind hk hn hm go
 ·rcases hk with hk|hk
  ·exact wpAny_loadName_cell I.ok.kind hk hc hcell go
  ·rcases hx with k|k
   ·have:X.env.scope.names.lookup x=some .free:=hk
    rw[k] at this;cases this
   ·have:X.env.scope.names.lookup x=some .free:=hk
    rw[k] at this;cases this
def Hz(to ti te:TE)(JV:V->V->Hp->VK->Prop)(Xz:Vq)(JW:JN):TS:=λD σ H=>to σ H λo H1=>ti σ H1 λi H2=>JV o i H2 λx H3=>te σ H3 λy H4=>Xz x y H4 λz H5=>JW o i z H5 λH6=>D.nx σ H6
def Q_(X:Cx)(t:V->V->Hp->VK->Prop):Prop :=
 ∀(pins:List (Addr×Obj))(s:Shared)(σ:St)(H:Hp)(o i:V)(ov iv:Value)(Q:VK),Inv X pins σ H s->RelV o ov->RelV i iv->t o i H Q ->
  wpAny (model X.prog X.w) X.A (getItem ov iv) (EP X pins σ Q) X.xe s
theorem Dq(ho:PE X o to)(hi:PE X i ti)(hg:Q_ X JV)(he:PE X e te)(hp:Vr X op Xz)(hs:JQ X JW)(ha:∀ov iv new,augStore i ov iv new=(do holding [new,ov,iv] (setItem ov iv new);release [new,ov,iv] [];pure .next):=by intros;rfl):PS X (.AugAssign (.Subscript o i tpos) op e pos) (Hz to ti te JV Xz JW):=by
 intro pins s σ H D I h
 refine wpAny_AugAssign_SubscriptAny (aP (ho pins s σ H _ I h) λov s1 ⟨x1,H1,I1,r1,q1⟩=>?_) ha
 refine aP (hi pins s1 σ H1 _ I1 q1) λiv s2 ⟨x2,H2,I2,r2,q2⟩=>?_
 refine aP (hg pins s2 σ H2 x1 x2 ov iv _ I2 r1 r2 q2) λold s3 ⟨x3,H3,I3,r3,q3⟩=>?_
 refine aP (he pins s3 σ H3 _ I3 q3) λv s4 ⟨x4,H4,I4,r4,q4⟩=>?_
 refine aP (hp pins s4 σ H4 x3 x4 old v _ I4 r3 r4 q4) λnew s5 ⟨x5,H5,I5,r5,q5⟩=>?_
 exact aP (hs pins s5 σ H5 x1 x2 x5 ov iv new _ I5 r1 r2 r5 q5) λ_ s6 ⟨H6,I6,q6⟩=>⟨σ,H6,I6,q6⟩
def Vs(f:Int->Int->Int):Vq:=λx y H Q=>∃i j,x=.int i/\y=.int j/\Q (.int (f i j)) H
theorem JX:Vr X .Add (Vs λi j=>i+j):=by
 intro pins s σ H x y v u Q I r1 r2 h
 obtain⟨i,j,e1,e2,q⟩:=h
 subst e1;subst e2
 obtain⟨t,rfl⟩:=r1
 obtain⟨t',rfl⟩:=r2
 exact iadd_int ⟨.int _,H,I.tok _,⟨_,rfl⟩,q⟩
end
section
variable{X:Cx}{pos:Pos}
def zU5(c:TT)(tb:TS):TS:=λD σ H=>∃W:Nat->St->Hp->Prop,(∃m,W m σ H)/\∀m σ H,W m σ H ->
 c σ H λb H1=>if b=true then∃N:St->Hp->Prop,(∀σ' H',N σ' H'->∃m',m'<m/\W m' σ' H')/\tb { D with nx:=N,ct:=N,bk:=D.nx } σ H1 else D.nx σ H1
theorem zTi(hp:PassesOwn (model X.prog X.w) X.A X.env X.xe)(hc:PT X c tc)(hb:qI X body tb):PS X (.While c body [] pos) (zU5 tc tb):=by
 intro pins s σ H D I h
 obtain⟨W,⟨m0,w0⟩,turn⟩:=h
 refine wpAny_While (codeAny_whileLoop (λn s'=>∃σ' H',Inv X pins σ' H' s'/\W n σ' H') ?_ m0 ⟨σ,H,I,w0⟩)
 rintro n s1 ⟨σ1,H1,I1,w1⟩
 refine acr hp (aP (hc pins s1 σ1 H1 _ I1 (turn n σ1 H1 w1)) λb s2 ⟨H2,I2,q2⟩=>?_)
 cases b with
 |true =>
  obtain⟨N,hN,q2⟩:=q2
  rw[if_pos rfl]
  refine acr hp (aP (hb pins s2 σ1 H2 _ I2 q2) λf s3 q3=>?_)
  cases f with
  |next =>
   obtain⟨σ3,H3,I3,n3⟩:=q3
   obtain⟨m',hm,w3⟩:=hN σ3 H3 n3
   exact⟨m',hm,σ3,H3,I3,w3⟩
  |cont =>
   obtain⟨σ3,H3,I3,n3⟩:=q3
   obtain⟨m',hm,w3⟩:=hN σ3 H3 n3
   exact⟨m',hm,σ3,H3,I3,w3⟩
  |brk=>exact q3
  |ret v=>exact q3
 |false =>
  rw[if_neg aas]
  exact aeg ⟨σ1,H2,I2,q2⟩
end
structure It where
 go:Nat->Hp->Prop
 O4:Nat->Hp->V->Hp->Prop
 stop:Nat->Hp->Prop
def lU(X:Cx)(pins:List (Addr×Obj))(H:Hp)(b:Addr):Prop :=
 H b=none/\b≠X.env.locals/\b∉X.fs/\(b∈X.ex\/X.s₀.heap.objs.size<=b)/\(∀x c,X.env.cells.lookup x=some c->c≠b)/\∀p∈X.pn++pins,p.1≠b
theorem Inv.lV(I:Inv X pins σ H s)(hb:s.heap.objs.size<=b)(hn:H' b=none):lU X pins H' b:=by
 refine⟨hn,adh (aa0 I.lt hb),I.JG hb,.inr (aa6 I.sz hb),λx c e z=>?_,λp hp z=>?_⟩
 ·obtain⟨v,q⟩:=I.cell x c e
  exact absurd (aa0 q.lt (by rw[z];exact hb)) (ab2 _)
 ·exact absurd (aa0 (lt_size (I.pin p hp).1) (by rw[z];exact hb)) (ab2 _)
structure Turn(P:Program)(w:World)(K:PySem.W.Frag)(tg:Expr)(J:It)(fp:List Addr)(it:Addr)(tn:Nat->Heap->Prop):Prop where
 mem:it∈fp
 obj:∀i h,tn i h->∀b∈fp,∃o,h.get? b=some o/\∀v,o.data≠.cell v
 keep:∀i h h',tn i h->(∀b∈fp,∀o,h.get? b=some o->h'.get? b=some o)->tn i h'
 item:∀(X:Cx),X.prog=P->X.w=w->X.K=K->X.calm=true->∀(i:Nat)(pins:List (Addr×Obj))(s:Shared)(σ:St)(H:Hp)(E:Value->Shared->Prop),Inv X pins σ H s->(∀b∈fp,lU X pins H b)->tn i s.heap->J.go i H ->
  wpAny (model P w) X.A (pyNext (.ref it)) (λr s1=>∃u,r=some u /\
   wpAny (model P w) X.A (letOwnedTupleGo tg (.ref it) u) (λ_ s2=>∃x H',Inv X pins σ H' s2/\RelV x u/\J.O4 i H x H'/\tn (i+1) s2.heap/\∀b∈fp,H' b=none) E s1) E s
 done:∀(X:Cx),X.prog=P->X.w=w->X.K=K->X.calm=true->∀(i:Nat)(pins:List (Addr×Obj))(s:Shared)(σ:St)(H:Hp)(E:Value->Shared->Prop),Inv X pins σ H s->(∀b∈fp,lU X pins H b)->tn i s.heap->J.stop i H ->
  wpAny (model P w) X.A (pyNext (.ref it)) (λr s1=>r=none/\Inv X pins σ H s1) E s
 self:∀(A:Around)(i:Nat)(s:Shared)(Q:Value->Shared->Prop)(E:Value->Shared->Prop),tn i s.heap->Q (.ref it) s->wpAny (model P w) A (pyIter (.ref it)) Q E s
abbrev TI:=St->Hp->(It->Hp->Prop)->Prop
def PIE(X:Cx)(pins:List (Addr×Obj))(σ:St)(tg:Expr)(R:It->Hp->Prop)(itv:Value)(s2:Shared):Prop :=
 ∃(it:Addr)(fp:List Addr)(tn:Nat->Heap->Prop)(J:It)(H':Hp),itv=.ref it/\Inv X pins σ H' s2/\Turn X.prog X.w X.K tg J fp it tn/\tn 0 s2.heap/\(∀b∈fp,lU X pins H' b)/\R J H'
def PI(X:Cx)(tg iter:Expr)(wi:TI):Prop :=
 ∀(pins:List (Addr×Obj))(s:Shared)(σ:St)(H:Hp)(R:It->Hp->Prop),Inv X pins σ H s->wi σ H R ->
  wpAny (model X.prog X.w) X.A (eval iter X.env) (λv s1=>wpAny (model X.prog X.w) X.A (pyIter v) (PIE X pins σ tg R) X.xe s1) X.xe s
theorem O6{s:Shared}{Q:Unit->Shared->Prop}(ho:s.heap.get? it=some o)(hc:o.cls=.type n)(hd:o.data=.fields vs)(hn:["enumerate","zip","dict_itemiterator","dict_reverseitemiterator","odict_iterator","itertools.zip_longest","itertools.pairwise"].contains n=false)(hQ:Q () s):wpAny M A (letOwnedTupleGo tg (.ref it) u) Q E s:=by
 unfold letOwnedTupleGo
 cases tg<;>first
  |exact aar hQ
  | (cases u<;>first
    |exact aar hQ
    | (refine aaq (wpAny_load ho ?_)
       rw[hc,hd]
       show wpAny M A (if(["enumerate","zip","dict_itemiterator","dict_reverseitemiterator","odict_iterator","itertools.zip_longest","itertools.pairwise"].contains n&&vs[0]?==some (rawInt _))=true then _ else _) Q E s
       rw[if_neg (by intro h;rw[hn,Bool.false_and] at h;cases h)]
       exact aar hQ))
def O7(K:PySem.W.Frag)(a:Addr):It :=
 ⟨λi H=>∃xs x,aW K H a xs/\xs[i]?=some x,λi H x H'=>H'=H/\∀xs,aW K H a xs->xs[i]?=some x,λi H=>∃xs,aW K H a xs/\xs.length<=i⟩
def Vt(K:PySem.W.Frag)(a:Addr):It :=
 ⟨λi H=>∃xs x,cO K H a xs/\xs[i]?=some x,λi H x H'=>H'=H/\∀xs,cO K H a xs->xs[i]?=some x,λi H=>∃xs,cO K H a xs/\xs.length<=i⟩
def XC(lo:Int)(n:Nat):It:=⟨λi _=>i<n,λi H x H'=>H'=H/\x=.int (lo+i),λi _=>n<=i⟩
theorem zO9{P:Program}{w:World}{K:PySem.W.Frag}{tg:Expr}(a it:Addr):Turn P w K tg (O7 K a) [it] it (λi h=>h.IsListIter it a i) where
 mem:=by simp
 obj:=λi h st b hb=>by
  have e:b=it:=by simpa using hb
  subst e
  obtain⟨o,e,c,d⟩:=st
  exact⟨o,e,λv z=>by rw[d] at z;cases z⟩
 keep:=λi h h' st k=>st.at λo e=>k it (by simp) o e
 item:=by
  intro X hP hw hK hc i pins s σ H E I hf st hg
  subst hP hw hK
  obtain⟨xs,x,hq,hx⟩:=hg
  obtain⟨its,rv,p,hz⟩:=I.list hq
  obtain⟨u,hu,ru⟩:=rv.get hx
  obtain⟨f0,f1,f2,f3,f4,f5⟩:=hf it (by simp)
  refine wpAny_pyNext_list_item st p.isList (x:=u) (by simpa using hu) λh' st' sb=>?_
  have I1:Inv X pins σ H { s with heap:=h' }:=I.turned (t':=s.toks) (λb o hb e=>(sb.2 b hb).trans e) f0 f1 f3 f4 f5
  obtain⟨o,e,c,d⟩:=id st'
  exact⟨u,rfl,O6 (s:={ s with heap:=h' }) e c d (by decide) ⟨x,H,I1,ru,⟨rfl,λys hy=>by rw[I.mL hy hq];exact hx⟩,st',λb hb=>(hf b hb).1⟩⟩
 done:=by
  intro X hP hw hK hc i pins s σ H E I hf st hg
  subst hP hw hK
  obtain⟨xs,hq,hx⟩:=hg
  obtain⟨its,rv,p,hz⟩:=I.list hq
  obtain⟨f0,f1,f2,f3,f4,f5⟩:=hf it (by simp)
  have hl:=rv.length
  exact wpAny_pyNext_list_end (I.ok.hd hc) st p.isList (by simp;omega) λh' eb=>⟨rfl,I.turned (t':=s.toks) (λb o hb e=>eb b o hb e) f0 f1 f3 f4 f5⟩
 self:=λ_ _ _ _ _ st h=>wpAny_pyIter_listiter st h
theorem zNf{P:Program}{w:World}{K:PySem.W.Frag}{tg:Expr}(a it:Addr):Turn P w K tg (Vt K a) [it] it (λi h=>h.IsTupleIter it a i) where
 mem:=by simp
 obj:=λi h st b hb=>by
  have e:b=it:=by simpa using hb
  subst e
  obtain⟨o,e,c,d⟩:=st
  exact⟨o,e,λv z=>by rw[d] at z;cases z⟩
 keep:=λi h h' st k=>st.at λo e=>k it (by simp) o e
 item:=by
  intro X hP hw hK hc i pins s σ H E I hf st hg
  subst hP hw hK
  obtain⟨xs,x,hq,hx⟩:=hg
  obtain⟨its,rv,p,hz⟩:=I.tuple hq
  obtain⟨u,hu,ru⟩:=rv.get hx
  obtain⟨f0,f1,f2,f3,f4,f5⟩:=hf it (by simp)
  refine wpAny_pyNext_tuple_item st (show s.heap.IsTuple a its.toArray from p) (x:=u) (by simpa using hu) λh' st' sb=>?_
  have I1:Inv X pins σ H { s with heap:=h' }:=I.turned (t':=s.toks) (λb o hb e=>(sb.2 b hb).trans e) f0 f1 f3 f4 f5
  obtain⟨o,e,c,d⟩:=id st'
  exact⟨u,rfl,O6 (s:={ s with heap:=h' }) e c d (by decide) ⟨x,H,I1,ru,⟨rfl,λys hy=>by rw[I.ug hy hq];exact hx⟩,st',λb hb=>(hf b hb).1⟩⟩
 done:=by
  intro X hP hw hK hc i pins s σ H E I hf st hg
  subst hP hw hK
  obtain⟨xs,hq,hx⟩:=hg
  obtain⟨its,rv,p,hz⟩:=I.tuple hq
  obtain⟨f0,f1,f2,f3,f4,f5⟩:=hf it (by simp)
  have hl:=rv.length
  exact wpAny_pyNext_tuple_end (I.ok.hd hc) st (show s.heap.IsTuple a its.toArray from p) (by simp;omega) λh' eb=>⟨rfl,I.turned (t':=s.toks) (λb o hb e=>eb b o hb e) f0 f1 f3 f4 f5⟩
 self:=λ_ _ _ _ _ st h=>wpAny_pyIter_tupleiter st h
theorem zNg{P:Program}{w:World}{K:PySem.W.Frag}{tg:Expr}(it:Addr)(lo:Int)(n:Nat):Turn P w K tg (XC lo n) [it] it (λi h=>IsRangeIter h it (lo+(i:Nat)*1) ((n:Int)-(i:Nat)) 1) where
 mem:=by simp
 obj:=λi h st b hb=>by
  have e:b=it:=by simpa using hb
  subst e
  exact⟨_,st,λv z=>by
   have z':afm _=Data.cell v:=z
   cases z'⟩
 keep:=λi h h' st k=>k it (by simp) _ st
 item:=by
  intro X hP hw hK hc i pins s σ H E I hf st hg
  subst hP hw hK
  obtain⟨f0,f1,f2,f3,f4,f5⟩:=hf it (by simp)
  have W:=Walks.range (prog:=X.prog) (w:=X.w) (I.ok.hd hc) it lo 1 n
  refine W.item i s _ _ hg st λv h' tk hv st' kk=>?_
  obtain⟨t,rfl⟩:=hv
  have I1:Inv X pins σ H { s with heap:=h',toks:=tk }:=I.turned (λb o hb e=>kk b o (by simpa using hb) e) f0 f1 f3 f4 f5
  refine⟨_,rfl,O6 (s:={ s with heap:=h',toks:=tk }) (n:="range_iterator") st' rfl rfl (by decide) ⟨.int (lo+i),H,I1,⟨t,?_⟩,⟨rfl,rfl⟩,st',λb hb=>(hf b hb).1⟩⟩
  rw[Int.mul_one]
 done:=by
  intro X hP hw hK hc i pins s σ H E I hf st hg
  subst hP hw hK
  obtain⟨f0,f1,f2,f3,f4,f5⟩:=hf it (by simp)
  exact wpAny_pyNext_range_end (I.ok.hd hc) st (by have:n<=i:=hg;omega) λh' eb=>⟨rfl,I.turned (t':=s.toks) (λb o hb e=>eb b o hb e) f0 f1 f3 f4 f5⟩
 self:=λ_ _ _ _ _ st h=>wpAny_pyIter_rangeiter st h
section
variable{X:Cx}{tg:Expr}
def zx(K:PySem.W.Frag)(tl:TE):TI:=λσ H R=>tl σ H λx H1=>∃a,x=.ref a/\(∃xs,aW K H1 a xs)/\R (O7 K a) H1
def JZ(K:PySem.W.Frag)(tl:TE):TI:=λσ H R=>tl σ H λx H1=>∃a,x=.ref a/\(∃xs,cO K H1 a xs)/\R (Vt K a) H1
theorem XD(hl:PE X l tl):PI X tg l (zx X.K tl):=by
 intro pins s σ H R I h
 refine aP (hl pins s σ H _ I h) λv s1 ⟨x,H1,I1,r1,q1⟩=>?_
 obtain⟨a,e,⟨xs,hq⟩,q⟩:=q1
 subst e
 cases r1
 obtain⟨its,rv,p,hz⟩:=I1.list hq
 refine ad8 p.isList ?_
 refine⟨s1.heap.objs.size,[s1.heap.objs.size],_,_,H1,rfl,I1.kept (t':=s1.toks) λb o e=>get?_push_of_some _ e,zO9 a _,⟨_,get?_push_size _ rfl,rfl,rfl⟩,λb hb=>?_,q⟩
 have e:b=s1.heap.objs.size:=by simpa using hb
 subst e
 exact I1.lV (aau _) (I1.hok.fresh (aau _))
theorem zVg(hl:PE X l tl):PI X tg l (JZ X.K tl):=by
 intro pins s σ H R I h
 refine aP (hl pins s σ H _ I h) λv s1 ⟨x,H1,I1,r1,q1⟩=>?_
 obtain⟨a,e,⟨xs,hq⟩,q⟩:=q1
 subst e
 cases r1
 obtain⟨its,rv,p,hz⟩:=I1.tuple hq
 refine wpAny_pyIter_tuple (show s1.heap.IsTuple a its.toArray from p) ?_
 refine⟨s1.heap.objs.size,[s1.heap.objs.size],_,_,H1,rfl,I1.kept (t':=s1.toks) λb o e=>get?_push_of_some _ e,zNf a _,⟨_,get?_push_size _ rfl,rfl,rfl⟩,λb hb=>?_,q⟩
 have e:b=s1.heap.objs.size:=by simpa using hb
 subst e
 exact I1.lV (aau _) (I1.hok.fresh (aau _))
theorem zTg{pins:List (Addr×Obj)}{σ:St}{H:Hp}{s:Shared}{R:It->Hp->Prop}{E:Value->Shared->Prop}{lo hi:Int}{t u v:Tok}{tk:Nat}(I:Inv X pins σ H s)(h1:-(2^62)<=lo)(h2:lo<2^62)(h3:-(2^62)<=hi)(h4:hi<2^62)(q:R (XC lo (hi-lo).toNat) H):wpAny (model X.prog X.w) X.A (pyIter (.ref s.heap.objs.size)) (PIE X pins σ tg R) E { s with heap:=s.heap.push { cls:=.type "range",data:=.fields #[.int lo t,.int hi u,.int 1 v] },toks:=tk }:=by
 refine wpAny_pyIter_range (IsRange.new ..) (small_one h1 h2 h3 h4) ?_
 have I1:Inv X pins σ H { s with heap:=s.heap.push { cls:=.type "range",data:=.fields #[.int lo t,.int hi u,.int 1 v] },toks:=tk }:=I.kept λb o e=>get?_push_of_some _ e
 refine⟨(s.heap.push { cls:=.type "range",data:=.fields #[.int lo t,.int hi u,.int 1 v] }).objs.size,[(s.heap.push { cls:=.type "range",data:=.fields #[.int lo t,.int hi u,.int 1 v] }).objs.size],_,_,H,rfl,
  I1.kept (t':=tk) λb o e=>get?_push_of_some _ e,zNg _ lo (hi-lo).toNat,?_,λb hb=>?_,q⟩
 ·have e1:lo+((0:Nat):Int)*1=lo:=by simp
  have e2:(((hi-lo).toNat:Nat):Int)-((0:Nat):Int)=Builtin.Range.rangeSize lo hi 1:=by rw[rangeSize_one];split<;>omega
  show IsRangeIter _ _ (lo+((0:Nat):Int)*1) ((((hi-lo).toNat:Nat):Int)-((0:Nat):Int)) 1
  rw[e1,e2]
  exact get?_push_size _ rfl
 ·have e:b=(s.heap.push { cls:=.type "range",data:=.fields #[.int lo t,.int hi u,.int 1 v] }).objs.size:=by simpa using hb
  subst e
  exact I1.lV (aau _) (I1.hok.fresh (aau _))
def HB(ta:TA):TI:=λσ H R=>ta σ H λvs H1=>∃j:Int,vs=[.int j] /\ -(2^62)<=j/\j<2^62/\R (XC 0 j.toNat) H1
theorem xY(hg:Gl X "range")(hm:X.mg "range" = none)(ha:PA X [a] ta)(hs:starEach [a] X.env=[(false,eval a X.env)]:=by rfl):PI X tg (.Call (.Name "range" p) [a] [] pos) (HB ta):=by
 intro pins s σ H R I h
 refine Call_ (Ck I hg hm boot_range (abr (aP (ha pos pins s σ H _ I h) λus s1 ⟨vs,H1,I1,r1,q1⟩=>?_) hs rfl))
 obtain⟨j,e,q1,q2,q⟩:=q1
 subst e
 cases r1 with
 |cons r rr =>
  cases rr
  obtain⟨t,rfl⟩:=r
  exact call_range_1 (zTg I1 (by omega) (by omega) q1 q2 (by simpa using q))
def J0(wi:TI)(g:TG)(tb:TS):TS:=λD σ H=>wi σ H λJ H1=>∃W:Nat->Nat->St->Hp->Prop,(∃m,W 0 m σ H1)/\∀i m σ H,W i m σ H ->
 (J.stop i H/\D.nx σ H)\/(J.go i H/\∃N:St->Hp->Prop,(∀σ' H',N σ' H'->∃m',m'<m/\W (i+1) m' σ' H')/\∀x H',J.O4 i H x H'->g x σ H' λσ2 H2=>tb { D with nx:=N,ct:=N,bk:=D.nx } σ2 H2)
def HD(fp:List Addr)(h:Heap):List (Addr×Obj):=fp.filterMap λb=>(h.get? b).map λo=>(b,o)
theorem vR{h:Heap}(hb:b∈fp)(e:h.get? b=some o):(b,o)∈HD fp h:=List.mem_filterMap.mpr ⟨b,hb,by rw[e];rfl⟩
theorem zQq(hp:p∈HD fp h):p.1∈fp/\h.get? p.1=some p.2:=by
 obtain⟨b,hb,e⟩:=List.mem_filterMap.mp hp
 cases q:h.get? b with
 |none=>rw[q] at e;cases e
 |some o =>
  rw[q] at e
  have e':(b,o)=p:=aaw e
  subst e'
  exact⟨hb,q⟩
theorem Inv.pinned(I:Inv X pins σ H s)(hf:∀b∈fp,lU X pins H b)(ho:∀b∈fp,∃o,s.heap.get? b=some o/\∀v,o.data≠.cell v):Inv X (pins++HD fp s.heap) σ H s :=
 I.jW λp hp=>(mem_append.mp hp).elim (λz=>I.pin p (mem_append_right _ z)) λz=>by
  obtain⟨hb,e⟩:=zQq z
  obtain⟨f0,f1,f2,_⟩:=hf p.1 hb
  obtain⟨o,e',d⟩:=ho p.1 hb
  rw[e] at e';cases e'
  exact⟨e,f0,f1,f2,d⟩
theorem Inv.fU(I:Inv X (pins++pl) σ H s):Inv X pins σ H s:=I.jW λp hp=>I.pin p (mem_append_right _ (mem_append_left _ hp))
theorem xU(hp:PassesOwn (model X.prog X.w) X.A X.env X.xe)(hc:X.calm=true)(hi:PI X tg iter wi)(hg:PG X tg g)(hb:qI X body tb)(hs:∀x,foldedSetIterable iter X.env x=pure x:=by intro _;rfl):PS X (.For tg iter body [] pos) (J0 wi g tb):=by
 intro pins s σ H D I h
 refine wpAny_For (aP (hi pins s σ H _ I h) λv s1 h1=>aP h1 λitv s2 h2=>?_) hs
 obtain⟨it,fp,tn,J,H2,e,I2,T,st2,f2,W,⟨m0,w0⟩,turn⟩:=h2
 subst e
 have stat:∀{H':Hp},(∀b∈fp,H' b=none)->∀b∈fp,lU X pins H' b:=λhn b hb=>⟨hn b hb,(f2 b hb).2⟩
 refine codeAny_forLoop_any (λn s'=>∃i σ' H',Inv X pins σ' H' s'/\tn i s'.heap/\(∀b∈fp,H' b=none)/\W i n σ' H') ?_ m0 ⟨0,σ,H2,I2,st2,λb hb=>(f2 b hb).1,w0⟩
 rintro n s3 ⟨i,σ3,H3,I3,st3,Vu,w3⟩
 rcases turn i n σ3 H3 w3 with⟨stop,qn⟩|⟨go,N,hN,step⟩
 ·refine acr hp (aP (T.done X rfl rfl rfl hc i pins s3 σ3 H3 X.xe I3 (stat Vu) st3 stop) λr s4 ⟨hr,I4⟩=>?_)
  subst hr
  exact aeg ⟨σ3,H3,I4,qn⟩
 ·refine acr hp (aP (T.item X rfl rfl rfl hc i pins s3 σ3 H3 X.xe I3 (stat Vu) st3 go) λr s4 ⟨u,hr,h4⟩=>?_)
  subst hr
  refine acr hp (aP h4 λ_ s5 ⟨x,H5,I5,r5,y5,XF,fr5⟩=>?_)
  have I5':=I5.pinned (stat fr5) (T.obj _ _ XF)
  refine acr hp (aP (hg _ s5 σ3 H5 x u _ I5' r5 (step x H5 y5)) λ_ s6 ⟨σ6,H6,I6,q6⟩=>?_)
  refine acr hp (aP (hb _ s6 σ6 H6 _ I6 q6) λf s7 q7=>?_)
  have again:∀{σ7:St}{H7:Hp},Inv X (pins++HD fp s5.heap) σ7 H7 s7->N σ7 H7->∃m,m<n/\∃i σ' H',Inv X pins σ' H' s7/\tn i s7.heap/\(∀b∈fp,H' b=none)/\W i m σ' H':=λ{σ7 H7} I7 n7=>by
   obtain⟨m',hm,w7⟩:=hN σ7 H7 n7
   refine⟨m',hm,i+1,σ7,H7,I7.fU,T.keep _ _ _ XF λb hb o e=>(I7.pin (b,o) (mem_append_right _ (mem_append_right _ (vR hb e)))).1,λb hb=>?_,w7⟩
   obtain⟨o,e,d⟩:=T.obj _ _ XF b hb
   exact(I7.pin (b,o) (mem_append_right _ (mem_append_right _ (vR hb e)))).2.1
  cases f with
  |next=>obtain⟨σ7,H7,I7,n7⟩:=q7;exact again I7 n7
  |cont=>obtain⟨σ7,H7,I7,n7⟩:=q7;exact again I7 n7
  |brk=>obtain⟨σ7,H7,I7,q7⟩:=q7;exact⟨σ7,H7,I7.fU,q7⟩
  |ret v=>obtain⟨x7,σ7,H7,I7,r7,q7⟩:=q7;exact⟨x7,σ7,H7,I7.fU,r7,q7⟩
end
theorem zUc{K:PySem.W.Frag}{a:Addr}{xs:List V}{g:TG}{tb:TS}{D:Ends}{σ:St}{H:Hp}(Pv:Nat->St->Hp->Prop)(h0:Pv 0 σ H)(hl:∀i σ H,i<=xs.length->Pv i σ H->aW K H a xs)(hs:∀i x σ H,xs[i]?=some x->Pv i σ H->g x σ H λσ2 H2=>tb { D with nx:=Pv (i+1),ct:=Pv (i+1),bk:=D.nx } σ2 H2)(hd:∀σ H,Pv xs.length σ H->D.nx σ H) :
  ∃W:Nat->Nat->St->Hp->Prop,(∃m,W 0 m σ H)/\∀i m σ H,W i m σ H ->
   ((O7 K a).stop i H/\D.nx σ H)\/((O7 K a).go i H/\∃N:St->Hp->Prop,(∀σ' H',N σ' H'->∃m',m'<m/\W (i+1) m' σ' H')/\∀x H',(O7 K a).O4 i H x H'->g x σ H' λσ2 H2=>tb { D with nx:=N,ct:=N,bk:=D.nx } σ2 H2):=by
 refine⟨λi m σ H=>m=xs.length-i/\i<=xs.length/\Pv i σ H,⟨xs.length,by simp,abd _,h0⟩,?_⟩
 rintro i m σ H ⟨rfl,hi,p⟩
 have q:=hl i σ H hi p
 by_cases hlt:i<xs.length
 ·refine .inr ⟨⟨xs,xs[i],q,by simp[hlt]⟩,Pv (i+1),λσ' H' p'=>⟨xs.length-(i+1),by omega,rfl,hlt,p'⟩,λx H' y=>?_⟩
  obtain⟨e,y⟩:=y
  subst e
  exact hs i x σ _ (y xs q) p
 ·have e:i=xs.length:=by omega
  subst e
  exact .inl ⟨⟨xs,q,aau _⟩,hd σ H p⟩
abbrev R2:=V->V->Hp->VK->Prop
def kI(X:Cx)(f:Value->Value->Sem Value)(r:R2):Prop :=
 ∀(pins:List (Addr×Obj))(s:Shared)(σ:St)(H:Hp)(x y:V)(v u:Value)(Q:VK),Inv X pins σ H s->RelV x v->RelV y u->r x y H Q ->
  wpAny (model X.prog X.w) X.A (f v u) (EP X pins σ Q) X.xe s
def XH(X:Cx)(f:Value->Sem Value)(r:V->Hp->VK->Prop):Prop :=
 ∀(pins:List (Addr×Obj))(s:Shared)(σ:St)(H:Hp)(x:V)(v:Value)(Q:VK),Inv X pins σ H s->RelV x v->r x H Q ->
  wpAny (model X.prog X.w) X.A (f v) (EP X pins σ Q) X.xe s
def uo(X:Cx)(f:Value)(r:List V->Hp->VK->Prop):Prop :=
 ∀(pins:List (Addr×Obj))(s:Shared)(σ:St)(H:Hp)(xs:List V)(us:List Value)(Q:VK),Inv X pins σ H s->Vals xs us->r xs H Q ->
  wpAny (model X.prog X.w) X.A (call f us) (EP X pins σ Q) X.xe s
def XJ(X:Cx)(r:V->Hp->(Bool->Hp->Prop)->Prop):Prop :=
 ∀(pins:List (Addr×Obj))(s:Shared)(σ:St)(H:Hp)(x:V)(v:Value)(Q:Bool->Hp->Prop),Inv X pins σ H s->RelV x v->r x H Q ->
  wpAny (model X.prog X.w) X.A (truthy v) (TP X pins σ Q) X.xe s
def jT(r:R2)(ta tb:TE):TE:=λσ H Q=>ta σ H λx H1=>tb σ H1 λy H2=>r x y H2 Q
def tUn(r:V->Hp->VK->Prop)(ta:TE):TE:=λσ H Q=>ta σ H λx H1=>r x H1 Q
def rI(C:Int->Int->Prop)(g:Int->Int->V):R2:=λx y H Q=>∃i j,x=.int i/\y=.int j/\C i j/\Q (g i j) H
def rR(g:Int->Int->V):R2:=λx y H Q=>∃i j,x=.int i/\y=.int j/\Q (g i j) H
def rU(g:Int->V):V->Hp->VK->Prop:=λx H Q=>∃i,x=.int i/\Q (g i) H
section
variable{X:Cx}{a b c:Expr}{ta tb tc:TE}{pos:Pos}
theorem J2(ha:PE X a ta)(hb:PE X b tb){R:V->V->Hp->Prop}(I:Inv X pins σ H s)(h:ta σ H λx H1=>tb σ H1 λy H2=>R x y H2){f:Value->Value->Sem Value}(hf:∀v u s2 x y H2,Inv X pins σ H2 s2->RelV x v->RelV y u->R x y H2->wpAny (model X.prog X.w) X.A (f v u) Q X.xe s2) :
  wpAny (model X.prog X.w) X.A (eval a X.env) (λv s₁=>wpAny (model X.prog X.w) X.A (eval b X.env) (λu s₂=>wpAny (model X.prog X.w) X.A (f v u) Q X.xe s₂) X.xe s₁) X.xe s:=by
 refine aP (ha pins s σ H _ I h) λv s1 ⟨x,H1,I1,r1,q1⟩=>?_
 refine aP (hb pins s1 σ H1 _ I1 q1) λu s2 ⟨y,H2,I2,r2,q2⟩=>?_
 exact hf v u s2 x y H2 I2 r1 r2 q2
theorem xW(ho:kI X (binaryOp op) r)(ha:PE X a ta)(hb:PE X b tb):PE X (.BinOp a op b pos) (jT r ta tb):=by
 intro pins s σ H Q I h
 exact ae5 (J2 ha hb I h λv u s2 x y H2 I2 rx ry q=>ho pins s2 σ H2 x y v u Q I2 rx ry q)
theorem Ra(ho:XH X (unaryOp op) r)(ha:PE X a ta):PE X (.UnaryOp op a pos) (tUn r ta):=by
 intro pins s σ H Q I h
 exact UnaryOp_ (aP (ha pins s σ H _ I h) λv s1 ⟨x,H1,I1,r1,q1⟩=>ho pins s1 σ H1 x v Q I1 r1 q1)
theorem Vv{f:Value->Value->Sem Value}{C:Int->Int->Prop}{g:Int->Int->Int}(rule:∀(i j:Int) (t u:Tok) (s:Shared) (Q:Value->Shared->Prop) (E:Value->Shared->Prop),C i j->Q (.int (g i j) s.toks) { s with toks:=s.toks+1 }->wpAny (model X.prog X.w) X.A (f (.int i t) (.int j u)) Q E s) :
  kI X f (rI C λi j=>.int (g i j)):=by
 intro pins s σ H x y v u Q I rx ry h
 obtain⟨i,j,rfl,rfl,hc,q⟩:=h
 obtain⟨t,rfl⟩:=rx
 obtain⟨t',rfl⟩:=ry
 exact rule i j t t' s _ _ hc ⟨.int (g i j),H,I.tok _,⟨_,rfl⟩,q⟩
theorem J3{f:Value->Value->Sem Value}{g:Int->Int->Int}(rule:∀(i j:Int) (t u:Tok) (s:Shared) (Q:Value->Shared->Prop) (E:Value->Shared->Prop),Q (.int (g i j) s.toks) { s with toks:=s.toks+1 }->wpAny (model X.prog X.w) X.A (f (.int i t) (.int j u)) Q E s) :
  kI X f (rR λi j=>.int (g i j)):=by
 intro pins s σ H x y v u Q I rx ry h
 obtain⟨i,j,rfl,rfl,q⟩:=h
 obtain⟨t,rfl⟩:=rx
 obtain⟨t',rfl⟩:=ry
 exact rule i j t t' s _ _ ⟨.int (g i j),H,I.tok _,⟨_,rfl⟩,q⟩
theorem J4{f:Value->Value->Sem Value}{g:Int->Int->Bool}(rule:∀(i j:Int) (t u:Tok) (s:Shared) (Q:Value->Shared->Prop) (E:Value->Shared->Prop),Q (.bool (g i j)) s->wpAny (model X.prog X.w) X.A (f (.int i t) (.int j u)) Q E s) :
  kI X f (rR λi j=>.bl (g i j)):=by
 intro pins s σ H x y v u Q I rx ry h
 obtain⟨i,j,rfl,rfl,q⟩:=h
 obtain⟨t,rfl⟩:=rx
 obtain⟨t',rfl⟩:=ry
 exact rule i j t t' s _ _ ⟨.bl (g i j),H,I,rfl,q⟩
def J5(i j:Int):Prop:=0<j/\j<1073741824
def Rb(i j:Int):Prop:=0<=j/\j<=1000000/\i.natAbs<2^64
theorem zNe(k:Nat):(0:Int)<=2^k:=by
 rw[two_pow_cast]
 exact ace _
theorem Vw:kI X (binaryOp .Add) (rR λi j=>.int (i+j)):=J3 λ_ _ _ _ _ _ _ q=>add_int q
theorem XM:kI X (binaryOp .Sub) (rR λi j=>.int (i-j)):=J3 λ_ _ _ _ _ _ _ q=>sub_int q
theorem HF:kI X (binaryOp .FloorDiv) (rI J5 λi j=>.int (i/j)):=Vv λi j _ _ _ _ _ hc q=>by
 have h1:(0:Int)<j:=hc.1
 have h2:j<1073741824:=hc.2
 exact floordiv_int (by omega) (by rw[Int.fdiv_eq_ediv_of_nonneg i (by omega)];exact q) (.inl (PyProof.noPylong_small (by omega)))
theorem zy:kI X (binaryOp .Mod) (rI (λ_ j=>0<j) λi j=>.int (i%j)):=Vv λi j _ _ _ _ _ hc q=>by
 have h1:(0:Int)<j:=hc
 exact mod_int' (by omega) (by rw[Int.fmod_eq_emod_of_nonneg i (by omega)];exact q)
theorem J6:kI X (binaryOp .LShift) (rI Rb λi j=>.int (i*2^j.toNat)):=Vv λ_ _ _ _ _ _ _ hc q=>lshift_int_small hc.1 hc.2.1 hc.2.2 q
theorem Vx:kI X (binaryOp .RShift) (rI (λ_ j=>0<=j) λi j=>.int (i/2^j.toNat)):=Vv λi j _ _ _ _ _ hc q =>
 rshift_int hc (by rw[Int.fdiv_eq_ediv_of_nonneg i (zNe _)];exact q)
theorem Rf:kI X (binaryOp .BitAnd) (rR λi j=>.int (abf i j)):=J3 λ_ _ _ _ _ _ _ q=>and_int q
theorem unI{f:Value->Sem Value}{g:Int->Int}(rule:∀(i:Int) (t:Tok) (s:Shared) (Q:Value->Shared->Prop) (E:Value->Shared->Prop),Q (.int (g i) s.toks) { s with toks:=s.toks+1 }->wpAny (model X.prog X.w) X.A (f (.int i t)) Q E s) :
  XH X f (rU λi=>.int (g i)):=by
 intro pins s σ H x v Q I rx h
 obtain⟨i,rfl,q⟩:=h
 obtain⟨t,rfl⟩:=rx
 exact rule i t s _ _ ⟨.int (g i),H,I.tok _,⟨_,rfl⟩,q⟩
theorem Rg:XH X (unaryOp .USub) (rU λi=>.int (-i)):=unI λ_ _ _ _ _ q=>neg_int q
end
def XQ:V->V->Bool
 |.non,.non=>true|.non,.int _=>true|.int _,.non=>true|.non,.bl _=>true|.bl _,.non=>true|.non,.str _=>true|.str _,.non=>true
 |.int _,.int _=>true|.bl _,.bl _=>true|.str _,.str _=>true|.rQ _,.rQ _=>true
 |.int _,.str _=>true|.str _,.int _=>true|.bl _,.str _=>true|.str _,.bl _=>true
 |_,_=>false
def XR:R2:=λx y H Q=>XQ x y=true/\Q (.bl (decide (x=y))) H
theorem Dr:decide (V.int i=V.int j)=(i==j):=by
 rw[abb]
 simp
theorem J7:decide (V.bl i=V.bl j)=(i==j):=by
 rw[abb]
 simp
theorem Ds:decide (V.str i=V.str j)=(i==j):=by
 rw[abb]
 simp
theorem Dt:decide (V.rQ i=V.rQ j)=(i.toList==j.toList):=by
 rw[abb]
 cases i
 cases j
 simp
section
variable{X:Cx}{a b c:Expr}{ta tb tc:TE}{pos:Pos}
theorem uL(I:Inv X pins σ H s)(q:Q (.bl k) H)(e:k=k'):EP X pins σ Q (.bool k') s:=by
 subst e
 exact⟨.bl k,H,I,rfl,q⟩
theorem rO:kI X (compareOp .Eq) XR:=by
 intro pins s σ H x y v u Q I rx ry h
 obtain⟨hs,q⟩:=h
 cases x with
 |non =>
  cases rx
  cases y with
  |non=>cases ry;exact PySem.EqNone.eq_none_none (uL I q (by simp))
  |bl j=>cases ry;exact PySem.EqNone.eq_none_bool (uL I q (by simp))
  |int j=>obtain⟨t',rfl⟩:=ry;exact PySem.EqNone.eq_none_int (uL I q (by simp))
  |str j=>obtain⟨t',rfl⟩:=ry;exact PySem.EqNone.eq_none_str (uL I q (by simp))
  |_=>exact absurd (show false=true from hs) aas
 |bl i =>
  cases rx
  cases y with
  |non=>cases ry;exact PySem.EqNone.eq_bool_none (uL I q (by simp))
  |bl j=>cases ry;exact eq_bool (uL I q J7)
  |str j=>obtain⟨t',rfl⟩:=ry;exact PySem.EqMixed.eq_bool_str (uL I q (by simp))
  |_=>exact absurd (show false=true from hs) aas
 |int i =>
  obtain⟨t,rfl⟩:=rx
  cases y with
  |non=>cases ry;exact PySem.EqNone.eq_int_none (uL I q (by simp))
  |int j=>obtain⟨t',rfl⟩:=ry;exact eq_int (uL I q Dr)
  |str j=>obtain⟨t',rfl⟩:=ry;exact PySem.EqMixed.eq_int_str (uL I q (by simp))
  |_=>exact absurd (show false=true from hs) aas
 |str i =>
  obtain⟨t,rfl⟩:=rx
  cases y with
  |non=>cases ry;exact PySem.EqNone.eq_str_none (uL I q (by simp))
  |bl j=>cases ry;exact PySem.EqMixed.eq_str_bool (uL I q (by simp))
  |int j=>obtain⟨t',rfl⟩:=ry;exact PySem.EqMixed.eq_str_int (uL I q (by simp))
  |str j=>obtain⟨t',rfl⟩:=ry;exact eq_str (uL I q Ds)
  |_=>exact absurd (show false=true from hs) aas
 |rQ i =>
  obtain⟨t,rfl⟩:=rx
  cases y with
  |rQ j=>obtain⟨t',rfl⟩:=ry;exact PySem.W.eq_bytes (uL I q Dt)
  |_=>exact absurd (show false=true from hs) aas
 |_=>cases y<;>exact absurd (show false=true from hs) aas
theorem Rh:kI X (compareOp .Lt) (rR λi j=>.bl (decide (i<j))):=J4 λ_ _ _ _ _ _ _ q=>lt_int q
theorem z_:kI X (compareOp .LtE) (rR λi j=>.bl (decide (i<=j))):=J4 λ_ _ _ _ _ _ _ q=>le_int q
theorem Aa:kI X (compareOp .Gt) (rR λi j=>.bl (decide (j<i))):=J4 λ_ _ _ _ _ _ _ q=>gt_int q
theorem zQc:kI X (compareOp .In) (λx y H Q=>∃i j,x=.str i/\y=.str j/\Q (.bl (!(adz j i 0 j.length 1).isEmpty)) H):=by
 intro pins s σ H x y v u Q I rx ry h
 obtain⟨i,j,rfl,rfl,q⟩:=h
 obtain⟨t,rfl⟩:=rx
 obtain⟨t',rfl⟩:=ry
 exact in_str (uL I q rfl)
theorem yO(b:Expr)(h:op≠.In:=by decide)(h2:op≠.NotIn:=by decide):behindInMarks op b=false:=by
 have e1:(op==CmpOp.In)=false:=by cases op<;>first|rfl|exact absurd rfl h
 have e2:(op==CmpOp.NotIn)=false:=by cases op<;>first|rfl|exact absurd rfl h2
 cases b<;>simp[behindInMarks,e1,e2]
theorem wL(ho:kI X (compareOp op) r)(ha:PE X a ta)(hb:PE X b tb)(hm:behindInMarks op b=false):PE X (.Compare a [op] [b] pos) (jT r ta tb):=by
 intro pins s σ H Q I h
 exact wpAny_Compare1 (J2 ha hb I h λv u s2 x y H2 I2 rx ry q=>ho pins s2 σ H2 x y v u Q I2 rx ry q) hm
def Vy(t:TE):TT:=λσ H Q=>t σ H λx H'=>∃k,x=.bl k/\Q k H'
theorem yB(ho:kI X (compareOp op) r)(ha:PE X a ta)(hb:PE X b tb)(hm:behindInMarks op b=false):PT X (.Compare a [op] [b] pos) (Vy (jT r ta tb)):=by
 intro pins s σ H Q I h
 refine wpAny_isTrue_Compare1 (aP (ha pins s σ H _ I h) λv s1 ⟨x,H1,I1,r1,q1⟩=>aP (hb pins s1 σ H1 _ I1 q1) λu s2 ⟨y,H2,I2,r2,q2⟩ =>
  aP (ho pins s2 σ H2 x y v u _ I2 r1 r2 q2) λc s3 ⟨z,H3,I3,r3,k,e,q3⟩=>?_) hm
 subst e
 cases r3
 exact ab3 ⟨H3,I3,q3⟩
def zU8(r r':R2)(ta tb tc:TE):TE:=λσ H Q=>ta σ H λx H1=>tb σ H1 λy H2=>r x y H2 λz H3=>∃k,z=.bl k /\
 (if k=true then tc σ H3 λw' H4=>r' y w' H4 Q else Q (.bl false) H3)
theorem zL3(ho:kI X (compareOp op) r)(ho':kI X (compareOp op') r')(ha:PE X a ta)(hb:PE X b tb)(hc:PE X c tc)(hm:lastMarks [op,op'] [b,c]=false:=by with_unfolding_all rfl):PE X (.Compare a [op,op'] [b,c] pos) (zU8 r r' ta tb tc):=by
 intro pins s σ H Q I h
 refine Compare_chain (aP (ha pins s σ H _ I h) λv s1 ⟨x,H1,I1,r1,q1⟩=>chain_link (aP (hb pins s1 σ H1 _ I1 q1) λu s2 ⟨y,H2,I2,r2,q2⟩ =>
  aP (ho pins s2 σ H2 x y v u _ I2 r1 r2 q2) λd s3 ⟨z,H3,I3,r3,k,e,q3⟩=>?_)) hm
 subst e
 cases r3
 refine ab3 ?_
 cases k with
 |false=>exact ite_ff ⟨.bl false,H3,I3,rfl,q3⟩
 |true=>exact ite_tt (chain_last (aP (hc pins s3 σ H3 _ I3 q3) λw' s4 ⟨z',H4,I4,r4,q4⟩=>ho' pins s4 σ H4 y z' u w' Q I4 r2 r4 q4))
def Du(K:PySem.W.Frag)(x:V)(H:Hp)(k:Bool):Prop :=
 match x with
 |.non=>k=false
 |.bl b=>k=b
 |.int i=>k=(i != 0)
 |.str y=>y.length<=sizeLine/\k=((y.length:Int) != 0)
 |.rQ y=>y.size<=sizeLine/\k=((y.size:Int) != 0)
 |.ref p=>(∃xs,aW K H p xs/\k=!xs.isEmpty)\/(∃xs,cO K H p xs/\k=!xs.isEmpty)\/∃kvs,H p=some (.dK kvs)/\k=!kvs.isEmpty
 |_=>False
theorem zOb{κ:Type}{kvs:List (κ×V)}{vs:List (κ×Value)}(r:KV kvs vs):(!vs.isEmpty)=!kvs.isEmpty:=by
 cases r<;>rfl
theorem zGq(r:Vals xs its):(!its.toArray.isEmpty)=!xs.isEmpty:=by
 cases r<;>simp
theorem J8:(sizeLine:Nat)<2^63:=by rw[ae4];decide
theorem J9:XJ X (λx H Q=>∃k,Du X.K x H k/\Q k H):=by
 intro pins s σ H x v Q I rx h
 obtain⟨k,e,q⟩:=h
 have hl:=J8
 have hs:sizeLine=16777216:=ae4
 cases x with
 |non =>
  cases rx
  have e':k=false:=e
  subst e'
  exact truthy_none ⟨H,I,q⟩
 |bl b =>
  cases rx
  have e':k=b:=e
  subst e'
  exact ab3 ⟨H,I,q⟩
 |int i =>
  obtain⟨t,rfl⟩:=rx
  have e':k=(i != 0):=e
  subst e'
  exact PySem.P.truthy_int ⟨H,I,q⟩
 |str y =>
  obtain⟨t,rfl⟩:=rx
  obtain⟨hy,e'⟩:y.length<=sizeLine/\k=((y.length:Int) != 0):=e
  subst e'
  exact PySem.P.truthy_str (by omega) ⟨H,I.tok _,q⟩
 |rQ y =>
  obtain⟨t,rfl⟩:=rx
  obtain⟨hy,e'⟩:y.size<=sizeLine/\k=((y.size:Int) != 0):=e
  subst e'
  exact PySem.W.truthy_bytes (by omega) ⟨H,I.tok _,q⟩
 |ref p =>
  cases rx
  have e':(∃xs,aW X.K H p xs/\k=!xs.isEmpty)\/(∃xs,cO X.K H p xs/\k=!xs.isEmpty)\/∃kvs,H p=some (.dK kvs)/\k=!kvs.isEmpty:=e
  rcases e' with⟨xs,hx,e'⟩|⟨xs,hx,e'⟩|⟨kvs,hx,e'⟩
  ·subst e'
   obtain⟨its,r,pl,hz⟩:=I.list hx
   have hlen:=r.length
   exact wpAny_truthy_list pl.isList (by simp only[size_toArray];omega) ⟨H,I.tok _,by rw[zGq r];exact q⟩
  ·subst e'
   obtain⟨its,r,pl,hz⟩:=I.tuple hx
   have hlen:=r.length
   exact truthy_tuple pl (by simp only[size_toArray];omega) ⟨H,I.tok _,by rw[zGq r];exact q⟩
  ·subst e'
   obtain⟨hz,hS,vs,r,m⟩:kvs.length<=sizeLine/\(p==sysModules)=false/\∃vs,KV kvs vs/\s.heap.DictOf (vH X.prog X.w) p vs:=I.hok p _ hx
   have hlen:kvs.length=vs.length:=aes r
   exact wpAny_truthy_dict hS m (by omega) ⟨H,I.tok _,by rw[zOb r];exact q⟩
 |_=>exact(show False from e).elim
theorem zTh(ha:PE X a ta)(he:∀whole,isTrue a X.env whole=(do let v <-whole;standAt a.pos;holding [v] (truthy v))) :
  PT X a (λσ H Q=>ta σ H λx H'=>∃k,Du X.K x H' k/\Q k H'):=by
 intro pins s σ H Q I h
 exact isTrue_plain (aP (ha pins s σ H _ I h) λv s1 ⟨x,H1,I1,r1,q1⟩=>J9 pins s1 σ H1 x v Q I1 r1 q1) (he _)
theorem O8(r:Vals [x] us):∃u,us=[u]/\RelV x u:=by
 cases r with
 |cons r1 r2=>cases r2;exact⟨_,rfl,r1⟩
theorem vals2(r:Vals [x,y] us):∃u w',us=[u,w']/\RelV x u/\RelV y w':=by
 cases r with
 |cons r1 r2 =>
  cases r2 with
  |cons r3 r4=>cases r4;exact⟨_,_,rfl,r1,r3⟩
def XS(K:PySem.W.Frag)(x:V)(H:Hp)(n:Nat):Prop :=
 match x with
 |.str y=>y.length<=sizeLine/\n=y.length
 |.rQ y=>y.size<=sizeLine/\n=y.size
 |.ref p=>(∃xs,aW K H p xs/\n=xs.length)\/∃xs,cO K H p xs/\n=xs.length
 |_=>False
theorem zUs:uo X (.builtin "len") (λxs H Q=>∃x n,xs=[x]/\XS X.K x H n/\Q (.int n) H):=by
 intro pins s σ H xs us Q I r h
 obtain⟨x,n,rfl,e,q⟩:=h
 obtain⟨u,rfl,rx⟩:=O8 r
 have hl:=J8
 have hs:sizeLine=16777216:=ae4
 cases x with
 |str y =>
  obtain⟨t,rfl⟩:=rx
  obtain⟨hy,e'⟩:y.length<=sizeLine/\n=y.length:=e
  subst e'
  exact len_str (by omega) ⟨.int _,H,I.tok _,⟨_,rfl⟩,q⟩
 |rQ y =>
  obtain⟨t,rfl⟩:=rx
  obtain⟨hy,e'⟩:y.size<=sizeLine/\n=y.size:=e
  subst e'
  exact PySem.W.len_bytes (by omega) ⟨.int _,H,I.tok _,⟨_,rfl⟩,q⟩
 |ref p =>
  cases rx
  have e':(∃xs,aW X.K H p xs/\n=xs.length)\/∃xs,cO X.K H p xs/\n=xs.length:=e
  rcases e' with⟨xs,hx,e'⟩|⟨xs,hx,e'⟩
  ·subst e'
   obtain⟨its,r',pl,hz⟩:=I.list hx
   have hlen:=r'.length
   exact Calls.call_len_list pl.isList (by simp only[size_toArray];omega) ⟨.int xs.length,H,I.tok _,⟨_,by simp only[size_toArray];rw[hlen]⟩,q⟩
  ·subst e'
   obtain⟨its,r',pl,hz⟩:=I.tuple hx
   have hlen:=r'.length
   exact len_tuple pl (by simp only[size_toArray];omega) ⟨.int xs.length,H,I.tok _,⟨_,by simp only[size_toArray];rw[hlen]⟩,q⟩
 |_=>exact(show False from e).elim
end
structure rT(h:Heap)(x dx C:Addr)(mA:Str->Option Value):Prop where
 obj:h.get? x=some (instObj C dx)
 ns:h.Ns1 dx mA
 ne:dx≠x
theorem zQv{h:Heap}(n:h.Ns1 dx mA):∃od,h.get? dx=some od/\∀name,lookIn name od=some (mA name):=by
 obtain⟨o,es,ep,ho,hd,hk,_,hm⟩:=n
 refine⟨o,ho,λname=>?_⟩
 have e:=hm name
 unfold nsFind findBy at e
 rw[<-Array.find?_toList] at e
 unfold lookIn
 rw[hd]
 dsimp only
 split
 ·rename_i y q
  rw[q] at e
  exact congrArg some e
 ·rename_i q
  rw[q] at e
  have a:es.toList.any (·.refKey)=false:=by
   rw[any_eq_false]
   intro y hy
   obtain⟨z,t,hkey⟩:=hk y (Array.mem_toList_iff.mp hy)
   simp[DictEntry.refKey,hkey]
  have a':¬es.toList.any (·.refKey)=true:=by rw[a];exact aas
  rw[if_neg a']
  exact congrArg some e
theorem rT.look(I:rT h x dx C mA):∃od,PySem.W.InstAt h x (instObj C dx) C (some od)/\∀name,lookIn name od=some (mA name) :=
 let⟨od,ho,hl⟩:=zQv I.ns
 ⟨od,⟨I.obj,rfl,rfl,ho⟩,hl⟩
section
variable{prog:Program}{w:World}{A:Around}{E:Value->Shared->Prop}{s:Shared}{K:PySem.W.Frag}{x dx C f:Addr}{mA:Str->Option Value}{name:Str}{v:Value}
theorem get_map{Q:Value->Shared->Prop}(X:K.In s.heap)(I:rT s.heap x dx C mA)(hg:plainGet K C name=true)(hh:hasDictIn K C=true)(ha:findIn K (.ref C) name=some none)(hv:mA name=some v)(hv':PySem.W.handedIn v=true)(h:Q v { s with toks:=s.toks+1 }) :
  wpAny (model prog w) A (getAttr (.ref x) name expr) Q E s:=by
 obtain⟨od,J,hl⟩:=I.look
 exact PySem.W.get_value X J (ae2 hg).1 (PySem.W.findObj_own hh ha rfl (by rw[hl,hv])) hv' h
theorem zUb{Q:Value×List Value->Shared->Prop}(X:K.In s.heap)(I:rT s.heap x dx C mA)(hg:plainGet K C name=true)(hf:findIn K (.ref C) name=some (some (.ref f)))(ht:isFn K (.ref f)=true)(hv:mA name=none)(h:Q (.ref f,[.ref x]) s) :
  wpAny (model prog w) A (getMethod (.ref x) name pl) Q E s:=by
 obtain⟨od,J,hl⟩:=I.look
 exact PySem.W.method_fn X J (ae2 hg).1 (ae2 hg).2 hf (beq_iff_eq.mp ht) (by show(lookIn name od).map (·.isSome)=some false;rw[hl,hv];rfl) h
theorem Dv{Q:Unit->Shared->Prop}(X:K.In s.heap)(I:rT s.heap x dx C mA)(hs:findIn K (.ref C) "__setattr__" = some (some (.builtin "object.__setattr__")))(hp:PySem.W.plainOver K C=true)(ht:takerIn K C name=some none)(hh:hasDictIn K C=true)(hw:afi mA ns)(hsz:ns.length<=sizeLine)(h:∀h',rT h' x dx C (λy=>if y=name then some v else mA y)->SameBut dx s.heap h'->Q () { s with heap:=h',toks:=s.toks+2 }) :
  wpAny (model prog w) A (setAttr (.ref x) name v) Q E s:=by
 obtain⟨od,J,hl⟩:=I.look
 refine PySem.W.set_plain X J hs (PySem.W.osa_open (s:={ s with toks:=s.toks+1 }) (r:=none) X J hp ht λb=>?_)
 obtain⟨cd,hc,hd'⟩:=PySem.W.any_some hh
 have hx:s.heap.get? x=some ⟨.ref C,some dx,.plain,#[]⟩:=I.obj
 refine aaq (aar (aaq (aaq (wpAny_loadPart hx (aaq (PySem.W.Looks.here (s:={ s with toks:=s.toks+1 }) (PySem.W.looks_clsIn X hc) ?_))))))
 rw[hd']
 refine aar (a:=some dx) (aaq (aar (aaq ?_)))
 refine wpAny_nsSet1 (s:={ s with toks:=s.toks+1 }) I.ns λh' hn2 hs2=>?_
 obtain⟨oD,esD,epD,hoD,hdD,hcD⟩:=hn2.count (PySem.Within.cons name v hw)
 refine aaq (wpAny_lookBehind hoD (by rw[hdD];exact pastItsLine_dict (aa6 hcD (by rw[length_cons];omega))) ?_)
 exact aar (h _ ⟨(hs2.2 _ (aco I.ne)).trans I.obj,hn2,I.ne⟩ hs2)
theorem zT0(X:K.In s.heap)(hm:PySem.W.makesIn K C=true)(hi:findIn K (.ref C) "__init__" = some (some (.ref f)))(hf:typeIn K (.ref f)=some (.type "function"))(h:codeAny (model prog w) (A.under (.builtin "type.__call__" ⟨.ref C::vs,kw⟩)) (.call (.ref f) ⟨.ref (s.heap.objs.size+1)::vs,kw⟩) (PySem.W.InitBack (s.heap.objs.size+1) R)
   { s with heap:=(s.heap.push emptyDict).push (instObj C s.heap.objs.size) }) :
  codeAny (model prog w) A (.call (.ref C) ⟨vs,kw⟩) R s:=by
 obtain⟨hh,g,d,t,os⟩:=s
 exact PySem.W.make_core (PySem.W.makes_of X hm) (PySem.W.looks_findIn X hi) (λself=>PySem.W.bind_fn X self hf) (.inl rfl) h
end
def aG(f:Str)(v:V):List (Str×V)->List (Str×V)
 |[]=>[(f,v)]
 | (g,x)::r=>if g=f then(g,v)::r else(g,x)::aG f v r
theorem zM(f g:Str)(v:V):∀fs:List (Str×V),(aG f v fs).lookup g=if g=f then some v else fs.lookup g
 |[]=>by
  show acv g [(f,v)]=_
  by_cases h:g=f
  ·have hb:(g==f)=true:=beq_iff_eq.mpr h
   simp only[acv,hb,if_pos h]
  ·have hb:(g==f)=false:=beq_eq_false_iff_ne.mpr h
   simp only[acv,hb,if_neg h]
 | (k,x)::r=>by
  have ih:=zM f g v r
  rw[show aG f v ((k,x)::r)=(if k=f then(k,v)::r else(k,x)::aG f v r) from rfl]
  by_cases hk:k=f
  ·rw[if_pos hk]
   by_cases h:g=k
   ·have hb:(g==k)=true:=beq_iff_eq.mpr h
    simp only[acv,hb,if_pos (h.trans hk)]
   ·have hb:(g==k)=false:=beq_eq_false_iff_ne.mpr h
    simp only[acv,hb,if_neg (λe:g=f=>h (e.trans hk.symm))]
  ·rw[if_neg hk]
   by_cases h:g=k
   ·have hb:(g==k)=true:=beq_iff_eq.mpr h
    simp only[acv,hb,if_neg (λe:g=f=>hk (h.symm.trans e))]
   ·have hb:(g==k)=false:=beq_eq_false_iff_ne.mpr h
    simp only[acv,hb]
    exact ih
theorem X3(f:Str)(v:V):∀fs:List (Str×V),f∈(aG f v fs).map (·.1)/\∀g,g∈fs.map (·.1)->g∈(aG f v fs).map (·.1)
 |[]=>⟨by simp[aG],λg h=>by simp at h⟩
 | (k,x)::r=>by
  obtain⟨i1,i2⟩:=X3 f v r
  rw[show aG f v ((k,x)::r)=(if k=f then(k,v)::r else(k,x)::aG f v r) from rfl]
  by_cases hk:k=f
  ·rw[if_pos hk]
   subst hk
   exact⟨by simp,λg h=>by simpa using h⟩
  ·rw[if_neg hk]
   refine⟨?_,λg h=>?_⟩
   ·rw[map_cons]
    exact mem_cons_of_mem _ i1
   ·rw[map_cons] at h ⊢
    rcases mem_cons.mp h with e|e
    ·exact mem_cons.mpr (.inl e)
    ·exact mem_cons_of_mem _ (i2 g e)
theorem zFh(f:Str)(v:V):∀fs:List (Str×V),(aG f v fs).length<=fs.length+1
 |[]=>by simp[aG]
 | (k,x)::r=>by
  have ih:=zFh f v r
  rw[show aG f v ((k,x)::r)=(if k=f then(k,v)::r else(k,x)::aG f v r) from rfl]
  by_cases hk:k=f
  ·rw[if_pos hk,length_cons,length_cons];omega
  ·rw[if_neg hk,length_cons,length_cons];omega
theorem jc.some_of(r:jc (some v) o):∃u,o=some u/\RelV v u:=by
 cases o with
 |none=>exact(show False from r).elim
 |some u=>exact⟨u,rfl,r⟩
theorem jc.none_of(r:jc none o):o=none:=by
 cases o with
 |none=>rfl
 |some u=>exact(show False from r).elim
theorem zRa(r:RelV v u):PySem.W.handedIn u=true:=by
 cases v with
 |non=>cases(show u=adb from r);rfl
 |bl b=>cases(show u=afc b from r);rfl
 |int i=>obtain⟨t,e⟩:=(show∃t,u=ab8 i t from r);cases e;rfl
 |str x=>obtain⟨t,e⟩:=(show∃t,u=ae6 x t from r);cases e;rfl
 |rQ b=>obtain⟨t,e⟩:=(show∃t,u=Value.bytes b t from r);cases e;rfl
 |flt b=>obtain⟨t,e⟩:=(show∃t,u=afq b t from r);cases e;rfl
 |ref a=>cases(show u=abo a from r);rfl
 |ty n=>cases(show u=ady n from r);rfl
section
variable{P:Program}{w:World}{H H':Hp}{h h':Heap}{a C dx:Addr}{fs fs':List (Str×V)}
theorem Vz(hok:gZ P w H h)(e:H a=some (.ins C dx fs)):∃mA,rT h a dx C mA/\(∀f,jc (fs.lookup f) (mA f))/\afi mA (fs.map (·.1))/\fs.length<=1000/\H dx=some (.own a):=by
 obtain⟨d,z,ne,ob,mA,n,r,q⟩:=(show bI P w H h a (.ins C dx fs) from hok a _ e)
 exact⟨mA,⟨ob,n,ne⟩,r,q,z,d⟩
end
structure Cls(K:PySem.W.Frag)(C:Addr):Prop where
 pg:plainGet K C ad2=true
 hd:hasDictIn K C=true
 po:PySem.W.plainOver K C=true
 sa:findIn K (.ref C) "__setattr__" = some (some (.builtin "object.__setattr__"))
theorem Cls.get{K:PySem.W.Frag}{C:Addr}(c:Cls K C)(f:Str):plainGet K C f=true:=c.pg
def bH(K:PySem.W.Frag)(C:Addr)(f:Str):Prop:=findIn K (.ref C) f=some none
theorem bH.taker{K:PySem.W.Frag}{C:Addr}{f:Str}(n:bH K C f):takerIn K C f=some none:=by
 unfold takerIn
 rw[show findIn K (.ref C) f=some none from n]
 rfl
structure Con(K:PySem.W.Frag)(C:Addr)(f:Str)(v:V)(u:Value):Prop where
 at_:findIn K (.ref C) f=some (some u)
 rel:RelV v u
 get:specialIn K u "__get__" = some none
 cp:PySem.W.copiedNames.contains f=false
structure Meth(K:PySem.W.Frag)(C:Addr)(m:Str)(f:Addr):Prop where
 at_:findIn K (.ref C) m=some (some (.ref f))
 fn:isFn K (.ref f)=true
 kp:keepIn K (.ref f)=true
section
variable{X:Cx}{pins:List (Addr×Obj)}{σ:St}{H:Hp}{s:Shared}{a C dx:Addr}{fs:List (Str×V)}{f:Str}{v:V}{A:Around}{E:Value->Shared->Prop}
theorem zOd{Q:Value->Shared->Prop}(I:Inv X pins σ H s)(e:H a=some (.ins C dx fs))(c:Cls X.K C)(n:bH X.K C f)(l:fs.lookup f=some v)(h:∀u s',Inv X pins σ H s'->RelV v u->Q u s'):wpAny (model X.prog X.w) A (getAttr (.ref a) f b) Q E s:=by
 obtain⟨mA,O,r,_,_,_⟩:=Vz I.hok e
 obtain⟨u,hu,ru⟩:=jc.some_of (v:=v) (o:=mA f) (by rw[<-l];exact r f)
 exact get_map I.jV O (c.get f) c.hd n hu (zRa ru) (h u _ (I.tok _) ru)
theorem zGt{Q:Value×List Value->Shared->Prop}(I:Inv X pins σ H s)(e:H a=some (.ins C dx fs))(c:Cls X.K C)(k:Meth X.K C m g)(l:fs.lookup m=none)(h:Q (.ref g,[.ref a]) s):wpAny (model X.prog X.w) A (getMethod (.ref a) m pl) Q E s:=by
 obtain⟨mA,O,r,_,_,_⟩:=Vz I.hok e
 have hn:mA m=none:=jc.none_of (by rw[<-l];exact r m)
 exact zUb I.jV O (c.get m) k.at_ k.fn hn h
theorem zNn{Q:Unit->Shared->Prop}(I:Inv X pins σ H s)(e:H a=some (.ins C dx fs))(c:Cls X.K C)(n:bH X.K C f)(hl:fs.length<1000)(ry:RelV y u)(h:∀s',Inv X pins σ (upd H a (.ins C dx (aG f y fs))) s'->Q () s'):wpAny (model X.prog X.w) A (setAttr (.ref a) f u) Q E s:=by
 obtain⟨mA,O,r,wi,_,ho⟩:=Vz I.hok e
 have hz:(fs.map (·.1)).length<=sizeLine:=by rw[length_map,ae4];omega
 refine Dv I.jV O c.sa c.po n.taker c.hd wi hz λh' O' sb=>h _ ?_
 have hd:∃o,h'.get? dx=some o:=let⟨o,_,_,e',_⟩:=O'.ns;⟨o,e'⟩
 refine I.write (x:=a) (e:=dx) (by rw[e];exact ac1) (.inr ho) (λb q hb z=>(sb.2 b hb).trans z) hd ?_
 refine⟨by rw[zQ O.ne];exact ho,?_,O.ne,O'.obj,_,O'.ns,λg=>?_,λg hg=>?_⟩
 ·have:=zFh f y fs;omega
 ·show jc ((aG f y fs).lookup g) (if g=f then some u else mA g)
  rw[zM]
  by_cases q:g=f
  ·rw[if_pos q,if_pos q];exact ry
  ·rw[if_neg q,if_neg q];exact r g
 ·by_cases q:g=f
  ·rw[q];exact(X3 f y fs).1
  ·refine(X3 f y fs).2 g (wi g λz=>hg ?_)
   show(if g=f then some u else mA g)=none
   rw[if_neg q];exact z
theorem Inv.made(I:Inv X pins σ H s):Inv X pins σ (upd (upd H s.heap.objs.size (.own (s.heap.objs.size+1))) (s.heap.objs.size+1) (.ins C s.heap.objs.size []))
  { s with heap:=(s.heap.push emptyDict).push (instObj C s.heap.objs.size) }:=by
 have e1:(s.heap.push emptyDict).get? s.heap.objs.size=some emptyDict:=get?_push_size s.heap rfl
 have e2:((s.heap.push emptyDict).push (instObj C s.heap.objs.size)).get? (s.heap.objs.size+1)=some (instObj C s.heap.objs.size):=by
  have:=get?_push_size (s.heap.push emptyDict) (o:=instObj C s.heap.objs.size) rfl
  rwa [size_push] at this
 have e3:(s.heap.push emptyDict).Ns s.heap.objs.size (λ_=>none):=⟨emptyDict,#[],_,e1,rfl,(λe he=>absurd he (by simp)),λ_=>rfl⟩
 have I1:=I.laid (a:=s.heap.objs.size) (o:=.own (s.heap.objs.size+1)) (h':=s.heap.push emptyDict) (t':=s.toks) (λb u q=>get?_push_of_some _ q) (aau _) ⟨_,e1⟩
 refine I1.laid (a:=s.heap.objs.size+1) (o:=.ins C s.heap.objs.size []) (t':=s.toks) (λb u q=>get?_push_of_some _ q) (Nat.le_of_eq (size_push _ _)) ?_
 have ne:s.heap.objs.size≠s.heap.objs.size+1:=aay (acg _)
 refine⟨by rw[zQ ne,zK],abd _,ne,e2,λ_=>none,(Heap.Ns1.of_empty e3).at λo q=>get?_push_of_some _ q,λ_=>ac1,λy hy=>absurd rfl hy⟩
theorem Dw(hb:attributeBase e f env (eval e env)=eval e env)(h:wpAny (model prog w) A (eval e env) (λo s₁=>wpAny (model prog w) A (getAttr o f true) Q E s₁) E s):wpAny (model prog w) A (eval (.Attribute e f pos) env) Q E s :=
 Attribute_any_ h (by rw[arm_eval_Attribute,hb])
end
def qb(K:PySem.W.Frag)(ta:TE)(f:Str):TE:=λσ H Q=>ta σ H λx H1=>∃a C dx fs v,x=.ref a/\H1 a=some (.ins C dx fs)/\Cls K C/\bH K C f/\fs.lookup f=some v/\Q v H1
def X4(K:PySem.W.Frag)(ta tv:TE)(f:Str):TS:=λD σ H=>tv σ H λy H1=>ta σ H1 λx H2=>∃a C dx fs,x=.ref a/\H2 a=some (.ins C dx fs)/\Cls K C/\bH K C f/\fs.length<1000 /\
 D.nx σ (upd H2 a (.ins C dx (aG f y fs)))
section
variable{X:Cx}{o e value:Expr}{f:Str}{pos pos' tpos:Pos}{ta tv:TE}
theorem zVh(he:PE X e ta)(hb:attributeBase e f X.env (eval e X.env)=eval e X.env):PE X (.Attribute e f pos) (qb X.K ta f):=by
 intro pins s σ H Q I h
 refine Dw hb (aP (he pins s σ H _ I h) λu s1 ⟨x,H1,I1,rx,a,C,dx,fs,v,ex,ea,c,n,l,q⟩=>?_)
 subst ex
 obtain rfl:u=abo a:=rx
 exact zOd I1 ea c n l λu' s2 I2 ru=>⟨v,H1,I2,ru,q⟩
theorem Cm(ha:PE X o ta)(hv:PE X value tv)(hs:swapsWith value (some (.Attribute o f pos')) pos.line X.env=pure false):PS X (.Assign [.Attribute o f pos'] value pos) (X4 X.K ta tv f):=by
 intro pins s σ H D I h
 refine plainObj_wpAny_Assign_Attribute (aP (hv pins s σ H _ I h) λu s1 ⟨y,H1,I1,ry,q⟩=>aP (ha pins s1 σ H1 _ I1 q) λov s2 ⟨x,H2,I2,rx,a,C,dx,fs,ex,ea,c,n,l,q2⟩=>?_) hs
 subst ex
 obtain rfl:ov=abo a:=rx
 exact zNn I2 ea c n l ry λs3 I3=>⟨σ,_,I3,q2⟩
end
section
variable{X:Cx}{pins:List (Addr×Obj)}{σ:St}{H:Hp}{s:Shared}{A:Around}{E:Value->Shared->Prop}{Q:Value->Shared->Prop}{c:Value}{b:Bool}
inductive jX(K:PySem.W.Frag)(H:Hp):V->Value->Prop where
 |non:jX K H .non (.type "NoneType")
 |bl (x:Bool):jX K H (.bl x) (.type "bool")
 |int (i:Int):jX K H (.int i) (.type "int")
 |str (x:Str):jX K H (.str x) (.type "str")
 |flt (x:UInt64):jX K H (.flt x) (.type "float")
 |lst {a:Addr} {xs:List V} (e:H a=some (.lst xs)):jX K H (.ref a) (.type "list")
 |tK {a:Addr} {o:Obj} {xs:List V} (e:H a=some (.tK o (.lst xs))):jX K H (.ref a) (.type "list")
 |tup {a:Addr} {xs:List V} (e:H a=some (.tup xs)):jX K H (.ref a) (.type "tuple")
 |dK {a:Addr} {kvs:List (Key×V)} (e:H a=some (.dK kvs)):jX K H (.ref a) (.type "dict")
 |dT {a:Addr} {kvs:List (List Key×V)} (e:H a=some (.dT kvs)):jX K H (.ref a) (.type "dict")
 |ins {a C dx:Addr} {fs:List (Str×V)} (e:H a=some (.ins C dx fs)) (cl:Cls K C) (ha:findIn K (.ref C) "__class__" = some (some (.builtin "object.__class__")))
   (hn:specialIn K (.builtin "object.__class__") "__get__" = some (some (.builtin "getset_descriptor.__get__"))) (htk:takesIn K (.builtin "object.__class__")=some true)
   (hm:mroIn K C (.type "object")=some true):jX K H (.ref a) (.ref C)
theorem zQ4(I:Inv X pins σ H s)(rx:RelV x u)(ty:jX X.K H x t)(e:kitOne X.K t c=some b)(h:∀tk,Q (.bool b) { s with toks:=tk }) :
  wpAny (model X.prog X.w) A (call (.builtin "isinstance") [u,c]) Q E s:=by
 cases ty with
 |non=>cases(show u=adb from rx);exact ad7 PySem.W.kitx_none I.jV ac1 e (λz=>nomatch z) h
 |bl y=>cases(show u=afc y from rx);exact ad7 PySem.W.kitx_bool I.jV ac1 e (λz=>nomatch z) h
 |int i=>obtain⟨t,q⟩:=(show∃t,u=ab8 i t from rx);cases q;exact ad7 PySem.W.kitx_int I.jV ac1 e (λz=>nomatch z) h
 |str y=>obtain⟨t,q⟩:=(show∃t,u=ae6 y t from rx);cases q;exact ad7 PySem.W.kitx_str I.jV ac1 e (λz=>nomatch z) h
 |flt y=>obtain⟨t,q⟩:=(show∃t,u=afq y t from rx);cases q;exact ad7 PySem.W.kitx_float I.jV ac1 e (λz=>nomatch z) h
 |@lst a xs ea =>
  cases(show u=abo a from rx)
  obtain⟨_,_,n,_,h1⟩:=(show bI X.prog X.w H s.heap a (.lst xs) from I.hok a _ ea)
  exact ad7 PySem.W.kitx_list I.jV ⟨_,h1,rfl⟩ e (λz=>nomatch z) h
 |@tK a ob xs ea =>
  cases(show u=abo a from rx)
  obtain⟨_,_,_,n,_,h1⟩:=(show bI X.prog X.w H s.heap a (.tK ob (.lst xs)) from I.hok a _ ea)
  exact ad7 PySem.W.kitx_list I.jV ⟨_,h1,rfl⟩ e (λz=>nomatch z) h
 |@tup a xs ea =>
  cases(show u=abo a from rx)
  obtain⟨_,_,_,p⟩:=(show bI X.prog X.w H s.heap a (.tup xs) from I.hok a _ ea)
  obtain⟨o,h1,h2,_⟩:=p
  exact ad7 PySem.W.kitx_tuple I.jV ⟨o,h1,h2⟩ e (λz=>nomatch z) h
 |@dK a kvs ea =>
  cases(show u=abo a from rx)
  obtain⟨_,_,vs,_,p⟩:=(show bI X.prog X.w H s.heap a (.dK kvs) from I.hok a _ ea)
  obtain⟨o,es,ep,h1,h2,_⟩:=p
  exact ad7 PySem.W.kitx_dict I.jV ⟨o,h1,h2.1⟩ e (λz=>nomatch z) h
 |@dT a kvs ea =>
  cases(show u=abo a from rx)
  obtain⟨_,_,xs,_,o,es,ep,h1,h2,_⟩:=(show bI X.prog X.w H s.heap a (.dT kvs) from I.hok a _ ea)
  exact ad7 PySem.W.kitx_dict I.jV ⟨o,h1,h2.1⟩ e (λz=>nomatch z) h
 |@ins a C dx fs ea cl ha hn htk hm =>
  cases(show u=abo a from rx)
  obtain⟨mA,O,_⟩:=Vz I.hok ea
  obtain⟨od,J,_⟩:=O.look
  exact ad7 (PySem.W.kitx_own (cl.get _) cl.hd ha hn htk hm) I.jV J e (λz=>nomatch z) h
end
structure bW(k:Nat)(A:Around):Prop where
 hd:A.handled=none
 dp:A.depth+3*k+5<recursionLimit
 un:A.units+16*k+200<cLine
theorem bW.mono(r:bW k A)(h:j<=k):bW j A:=⟨r.hd,by have:=r.dp;omega,by have:=r.un;omega⟩
theorem bW.deeper(r:bW (k+1) A)(env:Env):bW k (A.deeper env) :=
 ⟨r.hd,by have:=r.dp;show A.depth+1+3*k+5<_;omega,by have:=r.un;show A.units+3+16*k+200<_;omega⟩
theorem zN7{A:Around}:(A.under (.builtin "type.__call__" ⟨.ref C::us,kw⟩)).depth=A.depth+1:=by
 first|rfl|simp[afe,Code.weight,Code.isCreation,Code.isGuard,Code.isCaller,Code.frames,afg,guardIds]
theorem zN6{A:Around}:(A.under (.builtin "type.__call__" ⟨.ref C::us,kw⟩)).units=A.units+1:=by
 first|rfl|simp[afe,Code.cUnits,Code.frames,afg]
theorem bW.make(r:bW (k+1) A)(C:Addr)(us:List Value)(kw:List (Str×Value)):bW k (A.under (.builtin "type.__call__" ⟨.ref C::us,kw⟩)) :=
 ⟨r.hd,by have:=r.dp;rw[zN7];omega,by have:=r.un;rw[zN6];omega⟩
theorem bW.depth(r:bW k A):A.depth<recursionLimit:=by have:=r.dp;omega
theorem bW.units(r:bW k A):A.units+64<cLine:=by have:=r.un;omega
def bJ:TA:=λ_ H Q=>Q [] H
def yQ(ta:TE)(tr:TA):TA:=λσ H Q=>ta σ H λx H1=>tr σ H1 λxs H2=>Q (x::xs) H2
section
variable{X:Cx}{e:Expr}{es:List Expr}{te:TE}{t:TA}{pos:Pos}
theorem zF:PA X [] bJ:=λ_ _ _ _ H Q I h=>aek ⟨[],H,I,.nil,h⟩
theorem zA(ha:PE X e te)(hr:PA X es t)(hs:starEach (e::es) X.env=(false,eval e X.env)::starEach es X.env:=by rfl):PA X (e::es) (yQ te t):=by
 intro pos pins s σ H Q I h
 rw[hs]
 show wpAny _ _ (spliced ((false,eval e X.env)::backTo pos (starEach es X.env))) _ _ s
 refine aei (aP (ha pins s σ H _ I h) λu s1 ⟨x,H1,I1,r1,q1⟩=>?_)
 exact aP (hr pos pins s1 σ H1 _ I1 q1) λus s2 ⟨xs,H2,I2,r2,q2⟩=>⟨x::xs,H2,I2,.cons r1 r2,q2⟩
def uq(t:TA):TE:=λσ H Q=>t σ H λxs H1=>xs.length<=sizeLine/\∀p,H1 p=none->Q (.ref p) (upd H1 p (.tup xs))
def Dy(t:TA):TE:=λσ H Q=>t σ H λxs H1=>xs.length<=sizeLine/\∀p,H1 p=none->Q (.ref p) (upd H1 p (.lst xs))
theorem yt{x1}(h:PA X es t):PE X (.Tuple es x1 pos) (uq t):=by
 intro pins s σ H Q I hq
 refine wpAny_Tuple_spliced (aP (h pos pins s σ H _ I hq) λus s1 ⟨xs,H1,I1,r,z,q⟩=>⟨by rw[<-r.length];exact z,?_⟩)
 have hf:H1 s1.heap.objs.size=none:=I1.hok.fresh (aau _)
 refine⟨.ref s1.heap.objs.size,upd H1 s1.heap.objs.size (.tup xs),I1.laid (t':=s1.toks) (λb u e=>get?_push_of_some _ e) (aau _) ?_,rfl,q _ hf⟩
 exact⟨z,us,r,⟨_,get?_push_size _ rfl,rfl,_,rfl⟩⟩
theorem wN(h:PA X es t):PE X (.List es pos) (Dy t):=by
 intro pins s σ H Q I hq
 refine wpAny_List_spliced (aP (h pos pins s σ H _ I hq) λus s1 ⟨xs,H1,I1,r,z,q⟩=>⟨by rw[<-r.length];exact z,?_⟩)
 have hf:H1 s1.heap.objs.size=none:=I1.hok.fresh (aau _)
 refine⟨.ref s1.heap.objs.size,upd H1 s1.heap.objs.size (.lst xs),I1.laid (t':=s1.toks) (λb u e=>get?_push_of_some _ e) (aau _) ?_,rfl,q _ hf⟩
 exact⟨z,us,0,r,get?_push_size _ rfl⟩
end
abbrev Sp:=List V->Hp->VK->XK->Prop
abbrev ur:=List Env->Hp->Shared->XK->Value->Shared->Prop
structure rW(P:Program)(w:World)(K:PySem.W.Frag)(mg:Str->Option Value)(base:Heap)(A:Around)(outer:List Env)(s:Shared)(H:Hp):Prop where
 frames:A.frames=some outer
 mod:Mod K mg base
 bs:∀b o,base.get? b=some o->s.heap.get? b=some o/\H b=none
 Dh:base.objs.size<=s.heap.objs.size
 lR:s.heap.FunFrames base outer
 JF:∀b∈frs outer,H b=none
 hok:gZ P w H s.heap
 bare:AllBare s.gens
def CE(outer:List Env)(P:Program)(w:World)(H:Hp)(s:Shared)(Q:VK)(u:Value)(s':Shared):Prop :=
 ∃v H',s'.os=s.os/\AllBare s'.gens/\Un (frs outer) [] H H' s.heap s'.heap/\gZ P w H' s'.heap/\RelV v u/\Q v H'
def CR(CX:ur)(outer:List Env)(P:Program)(w:World)(H:Hp)(s:Shared)(Q:VK)(E:XK)(r:Result)(s':Shared):Prop :=
 match r with
 |.ok (.ret u)=>CE outer P w H s Q u s'
 |.ok _=>False
 |.error e=>CX outer H s E e s'
structure aq(P:Program)(w:World)(K:PySem.W.Frag)(mg:Str->Option Value)(base:Heap)(CX:ur)(k:Nat)(f:Addr)(fd:FuncData)(ps:List Str)(sp:Sp):Prop where
 len:∀vs H Q E,sp vs H Q E->vs.length=ps.length
 run:∀(A:Around)(outer:List Env)(s:Shared)(H:Hp)(args:Args)(us:List Value)(vs:List V)(Q:VK)(E:XK),bW k A->rW P w K mg base A outer s H->BindsTo s fd args (ps.zip us)->Vals vs us->sp vs H Q E ->
  codeAny (model P w) A (.call (.ref f) args) (CR CX outer P w H s Q E) s
theorem aq.mono{P:Program}{w:World}{K:PySem.W.Frag}{mg:Str->Option Value}{base:Heap}{CX:ur}{j k:Nat}{f:Addr}{fd:FuncData}{ps:List Str}{sp:Sp}(F:aq P w K mg base CX j f fd ps sp)(h:j<=k) :
  aq P w K mg base CX k f fd ps sp:=⟨F.len,λA outer s H args us vs Q E hr=>F.run A outer s H args us vs Q E (hr.mono h)⟩
theorem aq.imp{P:Program}{w:World}{K:PySem.W.Frag}{mg:Str->Option Value}{base:Heap}{CX:ur}{k:Nat}{f:Addr}{fd:FuncData}{ps:List Str}{sp sp':Sp}(F:aq P w K mg base CX k f fd ps sp)(h:∀vs H Q E,sp' vs H Q E->sp vs H Q E):aq P w K mg base CX k f fd ps sp' :=
 ⟨λvs H Q E q=>F.len vs H Q E (h _ _ _ _ q),λA outer s H args us vs Q E hr he hb hv hs=>F.run A outer s H args us vs Q E hr he hb hv (h _ _ _ _ hs)⟩
theorem rW.make{P:Program}{w:World}{K:PySem.W.Frag}{mg:Str->Option Value}{base:Heap}{A:Around}{outer:List Env}{s:Shared}{H:Hp}(e:rW P w K mg base A outer s H)(C:Addr)(us:List Value)(kw:List (Str×Value)) :
  rW P w K mg base (A.under (.builtin "type.__call__" ⟨.ref C::us,kw⟩)) outer s H:=⟨by first|exact e.frames|(simpa[afe,Code.envs,afg,pushEnvs] using e.frames),e.mod,e.bs,e.Dh,e.lR,e.JF,e.hok,e.bare⟩
section
variable{X:Cx}{pins:List (Addr×Obj)}{σ:St}{H:Hp}{s s':Shared}
theorem Inv.env0(I:Inv X pins σ H s):rW X.prog X.w X.K X.mg X.base X.A X.stack s H :=
 ⟨I.ok.frames,I.ok.mod,I.bs,aa6 I.ok.Dh I.sz,I.stack,I.tM,I.hok,I.bare⟩
theorem Inv.after(I:Inv X pins σ H s)(h:CE X.stack X.prog X.w H s Q u s'):EP X pins σ Q u s':=by
 obtain⟨v,H',os,bare,un,hok,r,q⟩:=h
 obtain⟨hh,g,d,t,os'⟩:=s'
 obtain rfl:os'=s.os:=os
 exact⟨v,H',I.call (h':=hh) (g':=g) (d':=d) (t':=t) (ch:=[]) un hok bare (λb z=>absurd z (by simp)),r,q⟩
end
def Dz(sp:Sp)(lJ:List V)(E:XK)(t:TA):TE:=λσ H Q=>t σ H λvs H1=>sp (vs++lJ) H1 Q E
def Ri(C:Addr)(m:Str)(sp:Sp)(lJ:List V)(E:XK)(ta:TE)(t:TA):TE:=λσ H Q=>ta σ H λx H1=>∃a dx fs,x=.ref a/\H1 a=some (.ins C dx fs)/\fs.lookup m=none /\
 t σ H1 λvs H2=>sp (x::(vs++lJ)) H2 Q E
def J_(C:Addr)(sp:Sp)(lJ:List V)(E:XK)(t:TA):TE:=λσ H Q=>t σ H λvs H1=>∀x dx,H1 x=none->H1 dx=none->dx≠x ->
 sp (.ref x::(vs++lJ)) (upd (upd H1 dx (.own x)) x (.ins C dx [])) (λv H2=>v=.non/\Q (.ref x) H2) E
def Binds(K:PySem.W.Frag)(fd:FuncData)(ps:List Str)(ds:List Value):Prop :=
 ∀(s:Shared)(us:List Value),K.In s.heap->(us++ds).length=ps.length->BindsTo s fd ⟨us,[]⟩ (ps.zip (us++ds))
theorem Binds.all{K:PySem.W.Frag}{fd:FuncData}{ps:List Str}(h:∀us:List Value,us.length=ps.length->bindArgs fd ⟨us,[]⟩=pure (ps.zip us)):Binds K fd ps []:=λs us _ hl=>by
 rw[append_nil] at hl ⊢
 exact .of_eq (h us hl)
def DG(CX:ur)(X:Cx)(E:XK):Prop:=∀(pins:List (Addr×Obj))(σ:St)(H:Hp)(s:Shared)(e:Value)(s':Shared),Inv X pins σ H s->CX X.stack H s E e s'->X.xe e s'
section
variable{X:Cx}{CX:ur}{k:Nat}{f C:Addr}{fd:FuncData}{ps:List Str}{sp:Sp}{lJ:List V}{ds:List Value}{E:XK}{x m:Str}{p pos apos:Pos}{e o:Expr}{es:List Expr}{ta:TE}{t:TA}
theorem VB(F:aq X.prog X.w X.K X.mg X.base CX k f fd ps sp)(hr:bW k X.A)(hb:Binds X.K fd ps ds)(hd:Vals lJ ds)(hx:DG CX X E)(I:Inv X pins σ H s)(r:Vals vs us)(h:sp (vs++lJ) H Q E):wpAny (model X.prog X.w) X.A (call (.ref f) us) (EP X pins σ Q) X.xe s:=by
 have r2:Vals (vs++lJ) (us++ds):=r.append hd
 have hl:(us++ds).length=ps.length:=by rw[<-r2.length];exact F.len _ _ _ _ h
 refine wpAny_call (adk (F.run X.A X.stack s H ⟨us,[]⟩ (us++ds) (vs++lJ) Q E hr I.env0 (hb s us I.jV hl) r2 h) λr s' hq=>?_)
 cases r with
 |error e=>exact hx pins σ H s e s' I hq
 |ok fl =>
  cases fl with
  |ret u=>exact I.after hq
  |next=>exact abv hq
  |brk=>exact abv hq
  |cont=>exact abv hq
theorem Ka(F:aq X.prog X.w X.K X.mg X.base CX k f fd ps sp)(hr:bW k X.A)(hg:Gl X x)(hm:X.mg x=some (.ref f))(hk:keepIn X.K (.ref f)=true)(hb:Binds X.K fd ps ds)(hd:Vals lJ ds)(hx:DG CX X E)(ha:PA X (e::es) t)(hdb:(x==("__debug__":Str))=false:=by decide)(he:starEach (e::es) X.env=(false,eval e X.env)::starEach es X.env:=by rfl)(hpl:(backTo pos (starEach es X.env)).any (·.1)=false:=by rfl) :
  PE X (.Call (.Name x p) (e::es) [] pos) (Dz sp lJ E t):=by
 intro pins s σ H Q I h
 refine ab1 (QH I hg hm ?_ hdb)
 refine aex (h₀:=X.base) I.ok.mod.Ov hk (aP (ha pos pins s σ H _ I h) λus s1 ⟨vs,H1,I1,r,q⟩=>⟨I1.jV,?_⟩) he hpl
 exact VB F hr hb hd hx I1 r q
theorem DK(he:PE X o ta)(c:Cls X.K C)(hm:Meth X.K C m f)(F:aq X.prog X.w X.K X.mg X.base CX k f fd ps sp)(hr:bW k X.A)(hb:Binds X.K fd ps ds)(hd:Vals lJ ds)(hx:DG CX X E)(ha:PA X (e::es) t)(hst:starEach (e::es) X.env=(false,eval e X.env)::starEach es X.env:=by rfl)(hpl:(backTo pos (starEach es X.env)).any (·.1)=false:=by rfl)(ht:eval (.Call (.Attribute o m apos) (e::es) [] pos) X.env=(do
   let ov <-eval o X.env
   standAt apos.atName
   let(f,first) <-holding [ov] (getMethod ov m pl)
   callWith pos f first (backTo pos (starEach (e::es) X.env)) (backToKw pos (keywordEach [] X.env))):=by rfl) :
  PE X (.Call (.Attribute o m apos) (e::es) [] pos) (Ri C m sp lJ E ta t):=by
 intro pins s σ H Q I h
 refine aev (pl:=pl) (aP (he pins s σ H _ I h) λu s1 ⟨x,H1,I1,rx,a,dx,fs,ex,ea,l,q⟩=>?_) ht
 subst ex
 obtain rfl:u=abo a:=rx
 refine zGt I1 ea c hm l ?_
 refine aex (first:=[.ref a]) (h₀:=X.base) I.ok.mod.Ov hm.kp (aP (ha pos pins s1 σ H1 _ I1 q) λus s2 ⟨vs,H2,I2,r,q2⟩=>⟨I2.jV,?_⟩) hst hpl
 exact VB (us:=.ref a::us) (vs:=.ref a::vs) F hr hb hd hx I2 (.cons rfl r) q2
theorem zTk(he:PE X o ta)(c:Cls X.K C)(hm:Meth X.K C m f)(F:aq X.prog X.w X.K X.mg X.base CX k f fd ps sp)(hr:bW k X.A)(hb:Binds X.K fd ps ds)(hd:Vals lJ ds)(hx:DG CX X E)(ht:eval (.Call (.Attribute o m apos) [] [] pos) X.env=(do
   let ov <-eval o X.env
   standAt apos.atName
   let(f,first) <-holding [ov] (getMethod ov m pl)
   callWith pos f first (backTo pos (starEach [] X.env)) (backToKw pos (keywordEach [] X.env))):=by rfl) :
  PE X (.Call (.Attribute o m apos) [] [] pos) (Ri C m sp lJ E ta bJ):=by
 intro pins s σ H Q I h
 refine aev (pl:=pl) (aP (he pins s σ H _ I h) λu s1 ⟨x,H1,I1,rx,a,dx,fs,ex,ea,l,q⟩=>?_) ht
 subst ex
 obtain rfl:u=abo a:=rx
 refine zGt I1 ea c hm l ?_
 exact PySem.W.callWith_K0 (first:=[.ref a]) I1.jV hm.kp (VB (us:=[.ref a]) (vs:=[.ref a]) F hr hb hd hx I1 (.cons rfl .nil) q)
structure Mk(K:PySem.W.Frag)(C f:Addr):Prop where
 makes:PySem.W.makesIn K C=true
 init:findIn K (.ref C) "__init__" = some (some (.ref f))
 fn:isFn K (.ref f)=true
 kp:keepIn K (.ref C)=true
theorem zLw(M:Mk X.K C f)(F:aq X.prog X.w X.K X.mg X.base CX k f fd ps sp)(hr:bW (k+1) X.A)(hb:Binds X.K fd ps ds)(hd:Vals lJ ds)(hx:DG CX X E)(I:Inv X pins σ H s)(r:Vals vs us)(h:∀x dx,H x=none->H dx=none->dx≠x->sp (.ref x::(vs++lJ)) (upd (upd H dx (.own x)) x (.ins C dx [])) (λv H2=>v=.non/\Q (.ref x) H2) E) :
  wpAny (model X.prog X.w) X.A (call (.ref C) us) (EP X pins σ Q) X.xe s:=by
 have hq:=h (s.heap.objs.size+1) s.heap.objs.size (I.hok.fresh (acd _)) (I.hok.fresh (aau _)) (aay (acg _))
 have I2:=Inv.made (C:=C) I
 have r2:Vals (V.ref (s.heap.objs.size+1)::(vs++lJ)) (abo (s.heap.objs.size+1)::(us++ds)):=.cons rfl (r.append hd)
 have hl:(abo (s.heap.objs.size+1)::us++ds).length=ps.length:=by
  have e:=r2.length
  rw[F.len _ _ _ _ hq] at e
  exact e.symm
 refine wpAny_call (zT0 (f:=f) I.jV M.makes M.init (beq_iff_eq.mp M.fn) (adk (F.run _ X.stack _ _ ⟨abo (s.heap.objs.size+1)::us,[]⟩ (abo (s.heap.objs.size+1)::(us++ds)) _ _ E (hr.make C us [])
  (I2.env0.make C us []) (hb _ (abo (s.heap.objs.size+1)::us) I2.jV hl) r2 hq) λr s' hq'=>?_))
 cases r with
 |error e=>exact hx pins σ _ _ e s' I2 hq'
 |ok fl =>
  cases fl with
  |ret u =>
   obtain⟨v,H',I3,rv,ev,q3⟩:=I2.after hq'
   subst ev
   exact⟨rv,⟨V.ref (s.heap.objs.size+1),H',I3,rfl,q3⟩⟩
  |next=>exact abv hq'
  |brk=>exact abv hq'
  |cont=>exact abv hq'
theorem xM(M:Mk X.K C f)(F:aq X.prog X.w X.K X.mg X.base CX k f fd ps sp)(hr:bW (k+1) X.A)(hg:Gl X x)(hm:X.mg x=some (.ref C))(hb:Binds X.K fd ps ds)(hd:Vals lJ ds)(hx:DG CX X E)(ha:PA X (e::es) t)(hdb:(x==("__debug__":Str))=false:=by decide)(he:starEach (e::es) X.env=(false,eval e X.env)::starEach es X.env:=by rfl)(hpl:(backTo pos (starEach es X.env)).any (·.1)=false:=by rfl) :
  PE X (.Call (.Name x p) (e::es) [] pos) (J_ C sp lJ E t):=by
 intro pins s σ H Q I h
 refine ab1 (QH I hg hm ?_ hdb)
 refine aex (h₀:=X.base) I.ok.mod.Ov M.kp (aP (ha pos pins s σ H _ I h) λus s1 ⟨vs,H1,I1,r,q⟩=>⟨I1.jV,?_⟩) he hpl
 exact zLw M F hr hb hd hx I1 r q
theorem zTl(M:Mk X.K C f)(F:aq X.prog X.w X.K X.mg X.base CX k f fd ps sp)(hr:bW (k+1) X.A)(hg:Gl X x)(hm:X.mg x=some (.ref C))(hb:Binds X.K fd ps ds)(hd:Vals lJ ds)(hx:DG CX X E)(hdb:(x==("__debug__":Str))=false:=by decide):PE X (.Call (.Name x p) [] [] pos) (J_ C sp lJ E bJ):=by
 intro pins s σ H Q I h
 refine ab1 (QH I hg hm ?_ hdb)
 exact PySem.W.callWith_K0 I.jV M.kp (zLw (us:=[]) M F hr hb hd hx I .nil h)
end
section
variable{X:Cx}{CX:ur}{k:Nat}{f C:Addr}{fd:FuncData}{ps ks:List Str}{sp:Sp}{E:XK}{x m:Str}{p pos apos kpos:Pos}{e o:Expr}{es:List Expr}{kws:List Keyword}{te ta:TE}{t tk:TA}{nm:Option Str}
structure X5(K:PySem.W.Frag)(fd:FuncData)(ps ks:List Str)(g:List Value->List Value->List Value)(gV:List V->List V->List V):Prop where
 to:∀(s:Shared)(us ws:List Value),K.In s.heap->(g us ws).length=ps.length->BindsTo s fd ⟨us,ks.zip ws⟩ (ps.zip (g us ws))
 rel:∀{vs:List V}{us:List Value}{zs:List V}{ws:List Value},Vals vs us->Vals zs ws->Vals (gV vs zs) (g us ws)
variable{g:List Value->List Value->List Value}{gV:List V->List V->List V}
end
structure ao(N P:List Str)(sc:Scope):Prop where
 kind:sc.kind=.function
 co:sc.isCoroutine=false
 gen:sc.isGenerator=false
 nd:N.Nodup
 pre:N.take P.length=P
 par:∀x∈P,sc.names.lookup x=some .local\/sc.names.lookup x=some .cell
 Kc:∀y∈sc.names,y.2≠.free
theorem zJt{kindOf:Str->Option NameKind}{x:Str}:∀{binds:List (Str×Value)}{m:Str->Option Value},(∀v,(x,v)∉binds)->bindL kindOf binds m x=m x
 |[],_,_=>rfl
 | (n,v)::r,m,h=>by
  unfold bindL
  rw[zJt λw hw=>h w (mem_cons_of_mem _ hw)]
  split
  ·have:x≠n:=by rintro rfl;exact h v mem_cons_self
   simp[this]
  ·rfl
theorem zJv{kindOf:Str->Option NameKind}{x:Str}:∀{binds:List (Str×Value)}{m:Str->Option Value},(∀v,(x,v)∉binds)->bindC kindOf binds m x=m x
 |[],_,_=>rfl
 | (n,v)::r,m,h=>by
  unfold bindC
  rw[zJv λw hw=>h w (mem_cons_of_mem _ hw)]
  split
  ·rfl
  ·have:x≠n:=by rintro rfl;exact h v mem_cons_self
   simp[this]
theorem zJu{kindOf:Str->Option NameKind}:∀{P:List Str}{vs:List Value}{i:Nat}{m:Str->Option Value},P.Nodup->P[i]?=some x->vs[i]?=some v->kindOf x=some .local ->
  bindL kindOf (P.zip vs) m x=some v
 |[],_,_,_,_,h,_,_=>by simp at h
 |_::_,[],_,_,_,_,h,_=>by simp at h
 |p::P,w::vs,0,m,nd,h1,h2,hk=>by
  simp at h1 h2;subst h1;subst h2
  show bindL kindOf ((p,w)::P.zip vs) m p=_
  unfold bindL
  rw[zJt λv hv=>(nodup_cons.mp nd).1 (of_mem_zip hv).1,if_pos hk]
  simp
 |p::P,w::vs,i+1,m,nd,h1,h2,hk=>by
  show bindL kindOf ((p,w)::P.zip vs) m x=_
  unfold bindL
  exact zJu (i:=i) (nodup_cons.mp nd).2 (by simpa using h1) (by simpa using h2) hk
theorem zJw{kindOf:Str->Option NameKind}:∀{P:List Str}{vs:List Value}{i:Nat}{m:Str->Option Value},P.Nodup->P[i]?=some x->vs[i]?=some v->kindOf x≠some .local ->
  bindC kindOf (P.zip vs) m x=some v
 |[],_,_,_,_,h,_,_=>by simp at h
 |_::_,[],_,_,_,_,h,_=>by simp at h
 |p::P,w::vs,0,m,nd,h1,h2,hk=>by
  simp at h1 h2;subst h1;subst h2
  show bindC kindOf ((p,w)::P.zip vs) m p=_
  unfold bindC
  rw[zJv λv hv=>(nodup_cons.mp nd).1 (of_mem_zip hv).1,if_neg hk]
  simp
 |p::P,w::vs,i+1,m,nd,h1,h2,hk=>by
  show bindC kindOf ((p,w)::P.zip vs) m x=_
  unfold bindC
  exact zJw (i:=i) (nodup_cons.mp nd).2 (by simpa using h1) (by simpa using h2) hk
def start(N:List Str)(vs:List V):St:=vs.map some++replicate (N.length-vs.length) none
def oX(CX:ur)(P:Program)(w:World)(K:PySem.W.Frag)(mg:Str->Option Value)(base:Heap)(N:List Str)(qual:Str)(scope:Scope)(f:Addr)(cd:Value)(A:Around)(outer:List Env)(s:Shared)(H:Hp)(E:XK):Cx where
 prog:=P
 w:=w
 K:=K
 mg:=mg
 base:=base
 A:=A.deeper (envOfC qual scope s.heap.objs.size f cd)
 N:=N
 s₀:=s
 H₀:=H
 env:=envOfC qual scope s.heap.objs.size f cd
 outer:=outer
 stack:=envOfC qual scope s.heap.objs.size f cd::outer
 ex:=[]
 calm:=true
 fn:=λ_=>true
 pn:=[]
 xe:=λe s'=>wpAny (model P w) (A.deeper (envOfC qual scope s.heap.objs.size f cd)) (leaving (envOfC qual scope s.heap.objs.size f cd) e) (λ_ s''=>CX outer H s E e s'') (λe' s''=>CX outer H s E e' s'') s'
theorem zMs{sc:Scope}(h:sc.names.lookup x=some .cell):∃c,(cellsFrom n sc.names []).lookup x=some c:=by
 have q:=ade sc.names n [] (.inl h)
 exact abq.mp q
theorem zQ5{CX:ur}{P:Program}{w:World}{K:PySem.W.Frag}{mg:Str->Option Value}{base:Heap}{N ps:List Str}{qual:Str}{scope:Scope}{f:Addr}{cd:Value}{A:Around}{outer:List Env}{s s1:Shared}{H:Hp}{E:XK}{us:List Value}{vs:List V}(S:ao N ps scope)(hd:A.handled=none)(e0:rW P w K mg base A outer s H)(hl:vs.length=ps.length)(r:Vals vs us)(x:InCallC s s.heap.objs.size (bindL (envOfC qual scope s.heap.objs.size f cd).kindOf (ps.zip us) λ_=>none) (cellsFrom (s.heap.objs.size+1) scope.names []) (bindC (envOfC qual scope s.heap.objs.size f cd).kindOf (ps.zip us) λ_=>none) s1) :
  Inv (oX CX P w K mg base N qual scope f cd A outer s H E) [] (start N vs) H s1:=by
 have hpl:ps.length<=N.length:=by have:=congrArg List.length S.pre;rw[length_take] at this;omega
 obtain⟨h1,tk,rfl,hk⟩:=x.done
 have Rj:∀b:Addr,b∉(oX CX P w K mg base N qual scope f cd A outer s H E).ex:=λb z=>absurd (show b∈([]:List Addr) from z) (by simp)
 refine⟨⟨e0.mod,S.kind,rfl,rfl,aau _,λy z c h1 h2=>?_,λy hy=>?_,λy c _ h=>?_,λ_=>hd,Around.frames_deeper e0.frames,.inr ⟨rfl,rfl⟩,λb z=>absurd z (Rj b),e0.bs,e0.Dh,λb _ _=>Rj b,λb z=>absurd z (Rj b),e0.lR,e0.JF⟩,
  rfl,e0.bare,Un.kept hk,⟨_,x.toInCall.ns,λi y v h1 h2 h3=>?_⟩,λy c h=>⟨_,x.cell y c h⟩,e0.hok.fresh (aau _),λy c h=>?_,λp hp=>absurd (show p∈([]:List (Addr×Obj)) from hp) (by simp),e0.hok.kept hk,?_⟩
 ·exact name_of_addr x.apart (abw h1) (abw h2)
 ·have hy:scope.names.lookup y=some .cell\/scope.names.lookup y=some .free:=hy
  rcases hy with hy|hy
  ·exact zMs hy
  ·exact absurd rfl (S.Kc _ (abw hy))
 ·exact acw (x.above y c (abw h))
 ·have hi:i<vs.length:=by
   unfold start at h2
   by_cases hi:i<vs.length
   ·exact hi
   ·rw[getElem?_append_right (by simpa using hi)] at h2
    rw[getElem?_replicate] at h2
    split at h2<;>cases h2
  have ha:vs[i]?=some v:=by
   unfold start at h2
   rw[getElem?_append_left (by simpa using hi),getElem?_map] at h2
   cases e:vs[i]? with
   |none=>rw[e] at h2;cases h2
   |some a=>rw[e] at h2;cases h2;rfl
  obtain⟨u,hu,rv⟩:=r.get ha
  have hp:ps[i]?=some y:=by
   rw[<-S.pre,getElem?_take_of_lt (by omega)];exact h1
  have ndP:ps.Nodup:=by rw[<-S.pre];exact S.nd.sublist (List.take_sublist _ _)
  refine⟨u,rv,?_⟩
  rcases S.par y (mem_of_getElem? hp) with k|k
  ·exact .inl ⟨k,zJu ndP hp hu k⟩
  ·obtain⟨c,e⟩:=zMs (n:=s.heap.objs.size+1) k
   refine .inr ⟨.inl k,c,e,?_⟩
   have q:=x.cell y c e
   rw[zJw ndP hp hu (by show scope.names.lookup y≠_;rw[k];decide)] at q
   exact q
 ·exact e0.hok.fresh (acw (x.above y c (abw h)))
 ·unfold start
  show _=N.length
  rw[length_append,length_map,List.length_replicate]
  omega
theorem HJ{CX:ur}{P:Program}{w:World}{K:PySem.W.Frag}{mg:Str->Option Value}{base:Heap}{k:Nat}{f:Addr}{name qual:Str}{params:Arguments}{body:List Stmt}{scope:Scope}{dV kV doc pm cdv ct oc:Value}{an od:Option Addr}{osl:Array (Option Value)}{N ps:List Str}{sp:Sp}(lk:K.lookup f=some ⟨oc,od,.func (fnOf name qual params body scope dV kV doc pm an cdv ct),osl⟩)(hcd:codeIn K cdv qual=true)(S:ao N ps scope)(len:∀vs H Q E,sp vs H Q E->vs.length=ps.length)(hbody:∀(A:Around) (outer:List Env) (s:Shared) (H:Hp) (vs:List V) (Q:VK) (E:XK),bW k (A.deeper (envOfC qual scope s.heap.objs.size f cdv))->sp vs H Q E ->
   ∃t,qI (oX CX P w K mg base N qual scope f cdv A outer s H E) body t/\t { nx:=λ_ H'=>Q .non H',rt:=Q } (start N vs) H) :
  aq P w K mg base CX (k+1) f (fnOf name qual params body scope dV kV doc pm an cdv ct) ps sp:=by
 refine⟨len,λA outer s H args us vs Q E hr e0 hb r hsp=>?_⟩
 have hl:=len _ _ _ _ hsp
 have KX:K.In s.heap:=e0.mod.Ov.keeps λb o e=>(e0.bs b o e).1
 have lim:s.heap.NoLimit:=e0.mod.nolimit.keeps λb o e=>(e0.bs b o e).1
 have hkind:∀y∈ps.zip us,scope.names.lookup y.1=some .local\/(scope.names.lookup y.1=some .cell/\((cellsFrom (s.heap.objs.size+1) scope.names []).lookup y.1).isSome=true):=λ⟨n,v⟩ hy=>by
  rcases S.par n (of_mem_zip hy).1 with q|q
  ·exact .inl q
  ·exact .inr ⟨q,ade _ _ _ (.inl q)⟩
 refine codeAny_call_function hr.depth (KX _ _ lk) rfl S.co S.gen rfl (PySem.W.codeRec_of KX hcd) (hb _ _ _ _ ?_)
 refine wpAny_newFunctionEnv_cells S.kind hkind λenv he s1 x=>?_
 subst he
 refine⟨lim.keeps x.toInCall.keep,codeAny_func ?_⟩
 obtain⟨t,ht,hq⟩:=hbody A outer s H vs Q E (hr.deeper _) hsp
 have I:Inv (oX CX P w K mg base N qual scope f cdv A outer s H E) [] (start N vs) H s1:=zQ5 S hr.hd e0 hl r x
 refine ab9 (ht [] s1 (start N vs) H _ I hq) (λfl s' hs=>?_) λe s' hs=>hs
 have fin:∀{σ':St}{H':Hp}{v:V}{u:Value},Inv (oX CX P w K mg base N qual scope f cdv A outer s H E) [] σ' H' s'->RelV v u->Q v H'->CE outer P w H s Q u s' :=
  λ{σ' H' v u} J rv q=>⟨v,H',J.os,J.bare,J.base,J.hok,rv,q⟩
 cases fl with
 |ret u =>
  obtain⟨v,σ',H',J,rv,q⟩:=hs
  exact fin J rv q
 |next =>
  obtain⟨σ',H',J,q⟩:=hs
  exact fin (v:=V.non) (u:=adb) J rfl q
 |brk =>
  obtain⟨_,_,_,q⟩:=hs
  exact abv q
 |cont =>
  obtain⟨_,_,_,q⟩:=hs
  exact abv q
section
variable{X:Cx}{x:Str}{p pos:Pos}{e:Expr}{es:List Expr}{t:TA}{id T:String}{r:List V->Hp->VK->Prop}
def yu(r:List V->Hp->VK->Prop)(t:TA):TE:=λσ H Q=>t σ H λvs H1=>r vs H1 Q
theorem zS(hc:uo X (.builtin id) r)(hg:Gl X x)(hm:X.mg x=none)(hv:bootBuiltins x=some (.builtin id))(ha:PA X (e::es) t)(hn:x ≠ "__name__":=by decide)(hdb:(x==("__debug__":Str))=false:=by decide)(he:starEach (e::es) X.env=(false,eval e X.env)::starEach es X.env:=by rfl)(hpl:(backTo pos (starEach es X.env)).any (·.1)=false:=by rfl):PE X (.Call (.Name x p) (e::es) [] pos) (yu r t):=by
 intro pins s σ H Q I h
 refine ab1 (Ck I hg hm hv ?_ hn hdb)
 exact PyProof.Rows.callWith_builtin1 (aP (ha pos pins s σ H _ I h) λus s1 ⟨vs,H1,I1,r1,q1⟩=>hc pins s1 σ H1 vs us Q I1 r1 q1) he hpl
theorem uV(hc:uo X (.type T) r)(hg:Gl X x)(hm:X.mg x=none)(hv:bootBuiltins x=some (.type T))(ha:PA X (e::es) t)(hn:x ≠ "__name__":=by decide)(hdb:(x==("__debug__":Str))=false:=by decide)(he:starEach (e::es) X.env=(false,eval e X.env)::starEach es X.env:=by rfl)(hpl:(backTo pos (starEach es X.env)).any (·.1)=false:=by rfl):PE X (.Call (.Name x p) (e::es) [] pos) (yu r t):=by
 intro pins s σ H Q I h
 refine ab1 (Ck I hg hm hv ?_ hn hdb)
 exact abr (aP (ha pos pins s σ H _ I h) λus s1 ⟨vs,H1,I1,r1,q1⟩=>hc pins s1 σ H1 vs us Q I1 r1 q1) he hpl
end
section
variable{κ:Type}[DecidableEq κ]
def ig(kvs:List (κ×V))(k:κ):Option V:=(kvs.find? λkv=>decide (kv.1=k)).map (·.2)
def putK(kvs:List (κ×V))(k:κ)(v:V):List (κ×V) :=
 if(kvs.any λkv=>decide (kv.1=k))=true then kvs.map (λkv=>if kv.1=k then(kv.1,v) else kv) else kvs++[(k,v)]
theorem X6{p:κ×V}{r:List (κ×V)}{k:κ}(e:p.1=k):ig (p::r) k=some p.2:=by simp[ig,find?_cons,e]
theorem X7{p:κ×V}{r:List (κ×V)}{k:κ}(e:¬p.1=k):ig (p::r) k=ig r k:=by simp[ig,find?_cons,e]
theorem zLs(k:κ):∀kvs:List (κ×V),(kvs.any λkv=>decide (kv.1=k))=(ig kvs k).isSome
 |[]=>rfl
 |p::r=>by
  rw[any_cons]
  by_cases e:p.1=k
  ·simp only[X6 e,decide_eq_true e,Bool.true_or,adx]
  ·rw[X7 e,decide_eq_false e,aed];exact zLs k r
theorem zFg(kvs:List (κ×V))(k:κ)(v:V):(putK kvs k v).length<=kvs.length+1:=by
 unfold putK
 split
 ·rw[length_map];omega
 ·rw[length_append,length_cons,length_nil];omega
theorem jc.fV(r:jc o u):o.isSome=u.isSome:=by
 cases o with
 |none=>cases u with
  |none=>rfl
  |some _=>exact(show False from r).elim
 |some _=>cases u with
  |none=>exact(show False from r).elim
  |some _=>rfl
theorem jc.getD(r:jc o u)(rd:RelV d d'):RelV (o.getD d) (u.getD d'):=by
 cases o with
 |none=>cases u with
  |none=>exact rd
  |some _=>exact(show False from r).elim
 |some _=>cases u with
  |none=>exact(show False from r).elim
  |some _=>exact r
theorem KV.val(r:KV kvs vs)(k:κ):jc (ig kvs k) (valueAt vs k):=by
 unfold KV at r
 induction r with
 |nil=>exact ac1
 |@cons p q ps qs h t ih =>
  obtain⟨h1,h2⟩:=h
  by_cases e:p.1=k
  ·have e':q.1=k:=h1.symm.trans e
   have b:valueAt (q::qs) k=some q.2:=by simp[valueAt,find?_cons,e']
   rw[X6 e,b];exact h2
  ·have e':¬q.1=k:=λz=>e (h1.trans z)
   have b:valueAt (q::qs) k=valueAt qs k:=by simp[valueAt,find?_cons,e']
   rw[X7 e,b];exact ih
theorem KV.any(r:KV kvs vs)(k:κ):(kvs.any λkv=>decide (kv.1=k))=vs.any λkv=>decide (kv.1=k):=by
 unfold KV at r
 induction r with
 |nil=>rfl
 |cons h t ih=>rw[any_cons,any_cons,ih,h.1]
theorem KV.repl(r:KV kvs vs)(k:κ)(ry:RelV y u) :
  KV (kvs.map λkv=>if kv.1=k then(kv.1,y) else kv) (vs.map λkv=>if kv.1=k then(kv.1,u) else kv):=by
 unfold KV at r ⊢
 induction r with
 |nil=>exact .nil
 |@cons p q ps qs h t ih =>
  rw[map_cons,map_cons]
  refine .cons ?_ ih
  obtain⟨h1,h2⟩:=h
  by_cases e:p.1=k
  ·rw[if_pos e,if_pos (h1.symm.trans e)];exact⟨h1,ry⟩
  ·rw[if_neg e,if_neg (λz=>e (h1.trans z))];exact⟨h1,h2⟩
theorem KV.put(r:KV kvs vs)(k:κ)(ry:RelV y u):KV (putK kvs k y) (stored vs k u):=by
 unfold putK stored
 rw[r.any k]
 by_cases e:(vs.any λkv=>decide (kv.1=k))=true
 ·rw[if_pos e,if_pos e];exact r.repl k ry
 ·rw[if_neg e,if_neg e];exact afo r ⟨rfl,ry⟩
theorem KV.length(r:KV kvs vs):kvs.length=vs.length:=aes r
end
theorem VD(r:RelV (kV k) u):(vH P w).is k u=true:=by
 cases k with
 |inl i=>obtain⟨t,e⟩:=(show∃t,u=ab8 i t from r);subst e;exact zK3 P w i t
 |inr x=>obtain⟨t,e⟩:=(show∃t,u=ae6 x t from r);subst e;exact zK2 P w x t
theorem zI9:∀{ks:List Key}{us:List Value},Vals (ks.map kV) us->ItemsAre (vH P w) ks us
 |[],_,r=>by rw[map_nil] at r;cases r;exact .nil
 |k::ks,_,r=>by
  rw[map_cons] at r
  cases r with
  |cons h t=>exact .cons (VD h) (zI9 t)
abbrev KT(H:Hp):List (List Key×V)->List (List Key×Addr×Value)->Prop:=Paired λp q=>p.1=q.1/\H q.2.1=some (.tup (p.1.map kV))/\RelV p.2 q.2.2
theorem KT.val(r:KT H kvs xs)(k:List Key):jc (ig kvs k) ((atKey xs k).map (·.2)):=by
 induction r with
 |nil=>exact ac1
 |@cons p q ps qs h t ih =>
  obtain⟨h1,_,h2⟩:=h
  by_cases e:p.1=k
  ·have e':q.1=k:=h1.symm.trans e
   have b:atKey (q::qs) k=some q.2:=by simp[atKey,find?_cons,e']
   rw[X6 e,b];exact h2
  ·have e':¬q.1=k:=λz=>e (h1.trans z)
   have b:atKey (q::qs) k=atKey qs k:=by simp[atKey,find?_cons,e']
   rw[X7 e,b];exact ih
theorem KT.repl(r:KT H kvs xs)(k:List Key)(ry:RelV y u) :
  KT H (kvs.map λkv=>if kv.1=k then(kv.1,y) else kv) (xs.map (putAt k u)):=by
 induction r with
 |nil=>exact .nil
 |@cons p q ps qs h t ih =>
  rw[map_cons,map_cons]
  refine .cons ?_ ih
  obtain⟨h1,h2,h3⟩:=h
  unfold putAt
  by_cases e:p.1=k
  ·rw[if_pos e,if_pos (h1.symm.trans e)];exact⟨h1,h2,ry⟩
  ·rw[if_neg e,if_neg (λz=>e (h1.trans z))];exact⟨h1,h2,h3⟩
theorem KT.put(r:KT H kvs xs)(k:List Key)(hb:H b=some (.tup (k.map kV)))(ry:RelV y u) :
  KT H (putK kvs k y) (storedH xs k b u):=by
 have e:(kvs.any λkv=>decide (kv.1=k))=(atKey xs k).isSome:=by
  rw[zLs,(r.val k).fV,aen]
 unfold putK storedH
 rw[e]
 by_cases q:(atKey xs k).isSome=true
 ·rw[if_pos q,if_pos q];exact r.repl k ry
 ·rw[if_neg q,if_neg q];exact afo r ⟨rfl,hb,ry⟩
theorem KT.keeps(r:KT H kvs xs)(ht:∀b ys,H b=some (.tup ys)->H' b=some (.tup ys)):KT H' kvs xs :=
 Paired.JD r λ_ _ z=>⟨z.1,ht _ _ z.2.1,z.2.2⟩
section
variable{P:Program}{w:World}{H:Hp}{h:Heap}{a:Addr}
theorem HN(ok:gZ P w H h)(e:Rd H a u):bI P w H h a u:=e.ok ok
theorem Ab(ok:gZ P w H h)(e:Rd H a (.dK kvs)):kvs.length<=sizeLine/\(a==sysModules)=false/\∃vs,KV kvs vs/\h.DictOf (vH P w) a vs :=
 show bI P w H h a (.dK kvs) from HN ok e
theorem Rk(ok:gZ P w H h)(e:H a=some (.dK kvs)):kvs.length<=sizeLine/\(a==sysModules)=false/\∃vs,KV kvs vs/\h.DictOf (vH P w) a vs:=Ab ok (.inl e)
theorem VF{ks:List Key}(ok:gZ P w H h)(e:H a=some (.tup (ks.map kV))):(tupleKind (vH P w)).is h ks a:=by
 obtain⟨_,its,r,o,h1,h2,n,h3⟩:=(show bI P w H h a (.tup (ks.map kV)) from ok a _ e)
 exact⟨o,its.toArray,n,h1,h2,h3,by simpa using zI9 r⟩
theorem Ac(ok:gZ P w H h)(e:Rd H a (.dT kvs)):kvs.length<=sizeLine/\(a==sysModules)=false /\
  ∃xs,KT H kvs xs/\h.DictOfH (tupleKind (vH P w)) a xs:=by
 obtain⟨z,y,xs,r,o,es,ep,h1,h2,h3,h4,h5⟩:=(show bI P w H h a (.dT kvs) from HN ok e)
 refine⟨z,y,xs,r,o,es,ep,h1,h2,h3,h4,λx hx=>?_,h5⟩
 have all:∀{l:List (List Key×V)}{m:List (List Key×Addr×Value)},KT H l m->∀x∈m,(tupleKind (vH P w)).is h x.1 x.2.1:=by
  intro l m q
  induction q with
  |nil=>intro x hx;exact nomatch hx
  |@cons p q ps qs hq t ih =>
   intro x hx
   rcases mem_cons.mp hx with e|hx
   ·subst e
    exact VF ok (by rw[<-hq.1];exact hq.2.1)
   ·exact ih x hx
 exact all r x hx
theorem Rm(ok:gZ P w H h)(e:H a=some (.dT kvs)):kvs.length<=sizeLine/\(a==sysModules)=false /\
  ∃xs,KT H kvs xs/\h.DictOfH (tupleKind (vH P w)) a xs:=Ac ok (.inl e)
end
def qd(H:Hp)(a:Addr)(y:V)(r:Option V):Prop :=
 (∃kvs k,Rd H a (.dK kvs)/\y=kV k/\r=ig kvs k)\/∃kvs k b,Rd H a (.dT kvs)/\y=.ref b/\H b=some (.tup (k.map kV))/\r=ig kvs k
def uw(H:Hp)(a:Addr)(y v:V)(H':Hp):Prop :=
 (∃kvs k,H a=some (.dK kvs)/\y=kV k/\kvs.length<sizeLine/\H'=upd H a (.dK (putK kvs k v))) \/
 ∃kvs k b,H a=some (.dT kvs)/\y=.ref b/\H b=some (.tup (k.map kV))/\kvs.length<sizeLine/\H'=upd H a (.dT (putK kvs k v))
theorem qd.k{H:Hp}{a:Addr}{kvs:List (Key×V)}{k:Key}(e:H a=some (.dK kvs)):qd H a (kV k) (ig kvs k):=.inl ⟨kvs,k,.inl e,rfl,rfl⟩
theorem uw.k{H:Hp}{a:Addr}{kvs:List (Key×V)}{k:Key}{v:V}(e:H a=some (.dK kvs))(hl:kvs.length<sizeLine):uw H a (kV k) v (upd H a (.dK (putK kvs k v))):=.inl ⟨kvs,k,e,rfl,hl,rfl⟩
section
variable{X:Cx}{pins:List (Addr×Obj)}{σ:St}{H:Hp}{s:Shared}{a:Addr}{y v:V}{u r:Value}{o:Option V}{A:Around}{E:Value->Shared->Prop}
theorem Inv.big(I:Inv X pins σ H s):sysModules<s.heap.objs.size:=by
 have h:abe<s.heap.objs.size:=(I.mod.glob.keeps I.bk).lt
 exact ad5 (by decide) h
theorem X8{Q:Value->Shared->Prop}(hu:A.units+1<cLine)(I:Inv X pins σ H s)(g:qd H a y o)(ry:RelV y u)(h:∀s',Inv X pins σ H s'->Q (.bool o.isSome) s') :
  wpAny (model X.prog X.w) A (compareOp .In u (.ref a)) Q E s:=by
 rcases g with⟨kvs,k,e,ey,l⟩|⟨kvs,k,b,e,ey,eb,l⟩
 ·subst ey
  obtain⟨z,hd,vs,rel,dd⟩:=Ab I.hok e
  refine wpAny_in_of (VD ry) hd dd.mapOf ?_
  rw[<-(rel.val k).fV,<-l]
  exact h _ (I.tok _)
 ·subst ey
  cases(show u=abo b from ry)
  obtain⟨z,hd,xs,rel,dd⟩:=Ac I.hok e
  refine wpAny_in_heap (aej hu) (VF I.hok eb) hd dd ?_
  have q:=(rel.val k).fV
  rw[aen] at q
  rw[<-q,<-l]
  exact h _ (I.tok _)
theorem DN{Q:Value->Shared->Prop}(hu:A.units+1<cLine)(I:Inv X pins σ H s)(g:qd H a y o)(ry:RelV y u)(h:∀s',Inv X pins σ H s'->Q (.bool (!o.isSome)) s') :
  wpAny (model X.prog X.w) A (compareOp .NotIn u (.ref a)) Q E s:=by
 rcases g with⟨kvs,k,e,ey,l⟩|⟨kvs,k,b,e,ey,eb,l⟩
 ·subst ey
  obtain⟨z,hd,vs,rel,dd⟩:=Ab I.hok e
  refine wpAny_notIn_of (VD ry) hd dd.mapOf ?_
  rw[<-(rel.val k).fV,<-l]
  exact h _ (I.tok _)
 ·subst ey
  cases(show u=abo b from ry)
  obtain⟨z,hd,xs,rel,dd⟩:=Ac I.hok e
  refine wpAny_notIn_heap (aej hu) (VF I.hok eb) hd dd ?_
  have q:=(rel.val k).fV
  rw[aen] at q
  rw[<-q,<-l]
  exact h _ (I.tok _)
theorem zRw(I:Inv X pins σ H s)(mu:QB (H a))(hs:SameBut a s.heap h')(he:∃q,h'.get? a=some q)(new:bI X.prog X.w (upd H a ob) h' a ob) :
  Inv X pins σ (upd H a ob) { s with heap:=h',toks:=t' } :=
 I.write (x:=a) (e:=a) mu (.inl rfl) (λb q hb z=>(hs.2 b hb).trans z) he new
theorem Kd{h':Heap}{kvs:List (Key×V)}(z:kvs.length<=sizeLine)(hd:(a==sysModules)=false)(rel:KV kvs vs)(dd:h'.DictOf (vH P w) a vs) :
  bI P w H' h' a (.dK kvs):=⟨z,hd,vs,rel,dd⟩
theorem zRx{Q:Unit->Shared->Prop}(hu:A.units+1<cLine)(I:Inv X pins σ H s)(g:uw H a y v H')(ry:RelV y u)(rv:RelV v r)(h:∀s',Inv X pins σ H' s'->Q () s') :
  wpAny (model X.prog X.w) A (setItem (.ref a) u r) Q E s:=by
 rcases g with⟨kvs,k,e,ey,l,eH⟩|⟨kvs,k,b,e,ey,eb,l,eH⟩
 ·subst ey eH
  obtain⟨z,hd,vs,rel,dd⟩:=Rk I.hok e
  have hz:vs.length<=sizeLine:=by rw[<-rel.length];exact z
  have hl:(putK kvs k v).length<=sizeLine:=by have:=zFg kvs k v;omega
  refine wpAny_setItem_pairs (hsz:=hz) (VD ry) dd λh' VG hs=>h _ ?_
  have he:∃q,h'.get? a=some q:=let⟨q,_,_,hq,_⟩:=VG;⟨q,hq⟩
  exact zRw I (by rw[e];exact ac1) hs he (Kd hl hd (rel.put k rv) VG)
 ·subst ey eH
  cases(show u=abo b from ry)
  obtain⟨z,hd,xs,rel,dd⟩:=Rm I.hok e
  have hz:xs.length<=sizeLine:=by rw[<-aes rel];exact z
  have hl:(putK kvs k v).length<=sizeLine:=by have:=zFg kvs k v;omega
  refine wpAny_setItem_heap (hsz:=hz) (aej hu) (VF I.hok eb) dd λh' VG hs=>h _ ?_
  obtain⟨q,es,ep,hq,h2,h3,h4,_,h5⟩:=VG
  refine zRw I (by rw[e];exact ac1) hs ⟨q,hq⟩ ⟨hl,hd,_,(rel.put k eb rv).keeps λc ys ec=>?_,q,es,ep,hq,h2,h3,h4,h5⟩
  rw[zQ (Ht ec e (λz=>nomatch z))]
  exact ec
end
section
variable{X:Cx}{pins:List (Addr×Obj)}{σ:St}{H:Hp}{s:Shared}{a:Addr}{kvs:List (Key×V)}{k:Key}{u:Value}{A:Around}{E:Value->Shared->Prop}
end
def Ke(ty td:TE):TE:=λσ H Q=>ty σ H λy H1=>td σ H1 λx H2=>∃a o,x=.ref a/\qd H2 a y o/\Q (.bl o.isSome) H2
def zPe(ty td:TE):TE:=λσ H Q=>ty σ H λy H1=>td σ H1 λx H2=>∃a o,x=.ref a/\qd H2 a y o/\Q (.bl (!o.isSome)) H2
def Ad(td ty tv:TE):TS:=λD σ H=>tv σ H λv H1=>td σ H1 λx H2=>ty σ H2 λy H3=>∃a H4,x=.ref a/\uw H3 a y v H4/\D.nx σ H4
section
variable{X:Cx}{o i e value:Expr}{pos pos' tpos:Pos}{td ty tv:TE}
theorem zVi(hu:X.A.units+1<cLine)(hi:PE X i ty)(ho:PE X o td):PC X .In i o (Ke ty td):=by
 intro pins s σ H Q I h
 refine aP (hi pins s σ H _ I h) λiv s1 ⟨y,H1,I1,ry,q1⟩=>aP (ho pins s1 σ H1 _ I1 q1) λu s2 ⟨x,H2,I2,rx,a,ov,ex,g,q2⟩=>?_
 subst ex
 obtain rfl:u=abo a:=rx
 exact X8 hu I2 g ry λs3 I3=>⟨.bl ov.isSome,H2,I3,rfl,q2⟩
theorem zP6(hu:X.A.units+1<cLine)(hi:PE X i ty)(ho:PE X o td):PC X .NotIn i o (zPe ty td):=by
 intro pins s σ H Q I h
 refine aP (hi pins s σ H _ I h) λiv s1 ⟨y,H1,I1,ry,q1⟩=>aP (ho pins s1 σ H1 _ I1 q1) λu s2 ⟨x,H2,I2,rx,a,ov,ex,g,q2⟩=>?_
 subst ex
 obtain rfl:u=abo a:=rx
 exact DN hu I2 g ry λs3 I3=>⟨.bl (!ov.isSome),H2,I3,rfl,q2⟩
theorem X_(hu:X.A.units+1<cLine)(ho:PE X o td)(hi:PE X i ty)(hv:PE X value tv)(hs:swapsWith value (some (.Subscript o i pos')) pos.line X.env=pure false) :
  PS X (.Assign [.Subscript o i pos'] value pos) (Ad td ty tv):=by
 intro pins s σ H D I h
 refine wpAny_Assign_Subscript (aP (hv pins s σ H _ I h) λr s1 ⟨v,H1,I1,rv,q1⟩=>aP (ho pins s1 σ H1 _ I1 q1) λu s2 ⟨x,H2,I2,rx,q2⟩=>aP (hi pins s2 σ H2 _ I2 q2) λiv s3 ⟨y,H3,I3,ry,a,H4,ex,g,q3⟩=>?_) hs
 subst ex
 obtain rfl:u=abo a:=rx
 exact zRx hu I3 g ry rv λs4 I4=>⟨σ,H4,I4,q3⟩
end
theorem zUn(h:Heap)(hb:sysModules<h.objs.size):bI P w H (h.push { cls:=.type "dict",data:=.dict #[] }) h.objs.size (.dK []) :=
 ⟨abd _,beq_eq_false_iff_ne.mpr (aco (aay hb)),[],.nil,Heap.DictOf.new h⟩
def zU7:TE:=λ_ H Q=>∀p,H p=none->Q (.ref p) (upd H p (.dK []))
section
variable{X:Cx}{pos:Pos}
theorem Yb:PE X (.Dict [] [] pos) zU7:=λpins s σ H Q I h =>
 wpAny_Dict_empty ⟨.ref s.heap.objs.size,_,I.laid (a:=s.heap.objs.size) (o:=.dK []) (t':=s.toks) (λ_ _ q=>get?_push_of_some _ q) (aau _) (zUn s.heap I.big),rfl,h _ (I.hok.fresh (aau _))⟩
end
structure M1(X:Cx)(o:Expr)(m:Str)(apos:Pos)(e:Expr)(cpos:Pos):Prop where
 base:attributeBase o m X.env (eval o X.env)=eval o X.env
 few:((backTo cpos (starEach [e] X.env)).all (λx=>!x.1)&&(backToKw cpos (keywordEach [] X.env)).all (λx=>x.1.isSome)
  && decide (([e]:List Expr).length+([]:List Keyword).length+(if([]:List Keyword).isEmpty then 0 else 1)<30))=true
 line:(apos.endLine==cpos.line)=true
 trees:backTo cpos (starEach [e] X.env)=[(false,eval e X.env)]
structure M2(X:Cx)(o:Expr)(m:Str)(apos:Pos)(e f:Expr)(cpos:Pos):Prop where
 base:attributeBase o m X.env (eval o X.env)=eval o X.env
 few:((backTo cpos (starEach [e,f] X.env)).all (λx=>!x.1)&&(backToKw cpos (keywordEach [] X.env)).all (λx=>x.1.isSome)
  && decide (([e,f]:List Expr).length+([]:List Keyword).length+(if([]:List Keyword).isEmpty then 0 else 1)<30))=true
 line:(apos.endLine==cpos.line)=true
 trees:backTo cpos (starEach [e,f] X.env)=[(false,eval e X.env),(false,eval f X.env)]
section
variable{X:Cx}{pins:List (Addr×Obj)}{σ:St}{H:Hp}{s:Shared}{a:Addr}{y d:V}{u r:Value}{o:Option V}{A:Around}{E:Value->Shared->Prop}
end
section
variable{X:Cx}{o e f:Expr}{apos cpos:Pos}{td ty tx:TE}
end
section
variable{X:Cx}{pins:List (Addr×Obj)}{σ:St}{H:Hp}{s:Shared}{a:Addr}{kvs:List (Key×V)}{A:Around}{E:Value->Shared->Prop}
end
section
variable{X:Cx}{pins:List (Addr×Obj)}{σ:St}{H:Hp}{s:Shared}{a:Addr}{y:V}{u:Value}{A:Around}{E:Value->Shared->Prop}
end
end L2
namespace HT
open PySem PyProof.Rows
section
open PySem.SeqAt
open PySem.AutoSeq1 (wpAny_loadPart')
open PySem.MeetsSeq PySem.MeetsSeq2 PySem.MeetsSeq3
end
section
variable{prog:Program}{w:World}{A:Around}{E:Value->Shared->Prop}{s:Shared}
def c7(n d:Nat):Option Int->Nat
 |none=>d
 |some v=>if v<0 then(v+(n:Int)).toNat else min v.toNat n
theorem DP(n d k:Nat):c7 n d (some (k:Int))=min k n:=by
 show(if(k:Int)<0 then((k:Int)+(n:Int)).toNat else min (k:Int).toNat n)=min k n
 rw[if_neg (by omega),abu]
theorem Kf(n d:Nat)(hd:d<=n)(o:Option Int):c7 n d o<=n:=by
 cases o with
 |none=>exact hd
 |some v =>
  show(if v<0 then(v+(n:Int)).toNat else min v.toNat n)<=n
  by_cases hv:v<0
  ·rw[if_pos hv];omega
  ·rw[if_neg hv];exact Nat.min_le_right _ _
theorem zR3(v:Int)(n d:Nat):(if v<0 then max (v+(n:Int)) 0 else min v (n:Int))=((c7 n d (some v):Nat):Int):=by
 show(if v<0 then max (v+(n:Int)) 0 else min v (n:Int))=(((if v<0 then(v+(n:Int)).toNat else min v.toNat n):Nat):Int)
 by_cases hv:v<0
 ·simp only[if_pos hv];omega
 ·simp only[if_neg hv];omega
theorem zOw(lo hi:Option Int)(n:Nat):adn lo hi 1 (n:Int)=(((c7 n 0 lo:Nat):Int),((c7 n n hi:Nat):Int)):=by
 have h1:¬((1:Int)<0):=by omega
 unfold adn
 simp only[h1,if_false]
 refine Prod.ext ?_ ?_
 ·cases lo with
  |none=>rfl
  |some v=>exact zR3 v n 0
 ·cases hi with
  |none=>rfl
  |some v=>exact zR3 v n n
theorem zNx(i j:Nat):acp (i:Int) (j:Int) 1=j-i:=by
 unfold acp
 have h1:(1:Int) > 0:=by omega
 simp only[h1,if_true,Int.ediv_one]
 split<;>omega
theorem zGh{Q:Option Int->Shared->Prop}(p:IsPart v o)(h:Q o s):wpAny (model prog w) A (Builtin.Slice.slicePartIndex v) Q E s:=by
 cases p with
 |none=>exact slicePart_none h
 |int i t=>exact slicePart_int h
theorem zEd{sl:Addr}{vl vu:Value}{lo hi:Option Int}{n:Nat}{Q:Int×Int×Nat->Shared->Prop}(hs:s.heap.IsSliceOf sl vl vu .none)(pl:IsPart vl lo)(pu:IsPart vu hi)(h:Q (((c7 n 0 lo:Nat):Int),1,c7 n n hi-c7 n 0 lo) s):wpAny (model prog w) A (Builtin.Slice.sliceApplied (.ref sl) (pure (n:Int))) Q E s:=by
 obtain⟨os,hos,hcs,hds⟩:=id hs
 unfold Builtin.Slice.sliceApplied Builtin.Slice.sliceFields
 refine aaq (aaq (wpAny_field hos hds (x:=vl) rfl (aaq (wpAny_field hos hds (x:=vu) rfl (aaq (wpAny_field hos hds (x:=.none) rfl (aar ?_)))))))
 refine aaq (slicePart_none ?_)
 show wpAny _ _ (if((1:Int)==0)=true then _ else _) _ _ s
 rw[if_neg (by decide)]
 refine aaq (zGh pl (aaq (zGh pu (aaq (aar ?_)))))
 show wpAny _ _ (match adn lo hi 1 (n:Int) with|(lo,hi)=>pure (lo,(1:Int),acp lo hi 1)) _ _ s
 rw[zOw lo hi n]
 show wpAny _ _ (pure (((c7 n 0 lo:Nat):Int),(1:Int),acp ((c7 n 0 lo:Nat):Int) ((c7 n n hi:Nat):Int) 1)) _ _ s
 rw[zNx]
 exact aar h
theorem zTj(xs:Array Value)(i k:Nat):((aa5 k).filterMap λ(m:Nat)=>xs[((i:Int)+(m:Int)*1).toNat]?).toArray=((xs.toList.drop i).take k).toArray:=by
 have e:(λ(m:Nat)=>xs[((i:Int)+(m:Int)*1).toNat]?)=λm=>xs[i+m]?:=by
  funext m
  have:((i:Int)+(m:Int)*1).toNat=i+m:=by omega
  rw[this]
 rw[e]
 have:=pick_run xs i k
 rw[filterMap_map] at this
 have e2:((λx=>xs[x]?)∘λx=>i+x)=λm=>xs[i+m]?:=rfl
 rw[e2] at this
 rw[this]
theorem jY{t sl:Addr}{items:Array Value}{vl vu:Value}{lo hi:Option Int}{Q:Value->Shared->Prop}(ht:IsTup s.heap t items)(hs:s.heap.IsSliceOf sl vl vu .none)(pl:IsPart vl lo)(pu:IsPart vu hi)(hw:¬(c7 items.size 0 lo=0/\c7 items.size items.size hi=items.size))(h:Q (.ref s.heap.objs.size) { s with heap:=s.heap.push { cls:=.type "tuple",data:=.seq ((items.toList.drop (c7 items.size 0 lo)).take (c7 items.size items.size hi-c7 items.size 0 lo)).toArray } })(hsz:items.size<=sizeLine):wpAny (model prog w) A (getItem (.ref t) (.ref sl)) Q E s:=by
 have tQ:sizeOk (.seq ((items.toList.drop (c7 items.size 0 lo)).take (c7 items.size items.size hi-c7 items.size 0 lo)).toArray):=by
  show((items.toList.drop (c7 items.size 0 lo)).take (c7 items.size items.size hi-c7 items.size 0 lo)).toArray.size<=sizeLine
  rw[size_toArray,length_take,length_drop,length_toList]
  omega
 have hj:c7 items.size items.size hi<=items.size:=Kf _ _ (aau _) hi
 obtain⟨os,hos,hcs,hds⟩:=id hs
 have hTs:s.TypeIs (.ref sl) "slice":=⟨os,hos,hcs⟩
 unfold getItem
 try with_reducible refine abm ?_
 first|refine aaq (aar ?_)|skip
 refine aaq (wpAny_sequenceKey ht.typeIs (by decide) ?_)
 refine aaq (wpAny_callSpecial?_slot (name:=adi "__getitem__") ht.typeIs PyProof.Rows.slot_tuple_getitem
  (ach PyProof.Rows.slot_tuple_getitem ht.typeIs entry_tuple_getitem ?_ (args_tuple_getitem _ _)))
 show wpAny _ _ (Builtin.Tuple.tupleItemsOf (.ref t) >>= _) _ _ s
 refine aaq (tupleItemsOf_ ht ?_)
 refine aaq (afl hTs ?_)
 rw[if_pos (by decide)]
 refine aaq (zEd hs pl pu ?_)
 have hno:¬((((c7 items.size 0 lo:Nat):Int)==0&&(1:Int)==1&&(c7 items.size items.size hi-c7 items.size 0 lo)==items.size)=true):=by
  intro q
  rw[aav,aav] at q
  have q1:((c7 items.size 0 lo:Nat):Int)=0:=abz q.1.1
  have q2:c7 items.size items.size hi-c7 items.size 0 lo=items.size:=abz q.2
  exact hw ⟨by omega,by omega⟩
 show wpAny _ _ (if(((c7 items.size 0 lo:Nat):Int)==0&&(1:Int)==1&&(c7 items.size items.size hi-c7 items.size 0 lo)==items.size)=true then _ else _) _ _ s
 rw[if_neg hno,zTj]
 first
  |exact aaq (m:=ac0 _) (abx (aar ⟨_,rfl,aar h⟩) tQ)
  |exact aaq (m:=ac0 _) (abx (aaq (aar (aar ⟨_,rfl,aar h⟩))) tQ)
  |exact aaq (aaq (m:=ac0 _) (abx (aar (aar ⟨_,rfl,aar h⟩)) tQ))
  |exact aaq (aaq (m:=ac0 _) (abx (aar ⟨_,rfl,aar h⟩) tQ))
end
end HT
namespace L2
open PySem PySem.Spec PyProof.Rows
abbrev TO:=St->Hp->(Option Int->Hp->Prop)->Prop
def PO(X:Cx)(e:Option Expr)(t:TO):Prop :=
 ∀(pins:List (Addr×Obj))(s:Shared)(σ:St)(H:Hp)(Q:Option Int->Hp->Prop),Inv X pins σ H s->t σ H Q ->
  wpAny (model X.prog X.w) X.A (evalPart e X.env) (λu s'=>∃o H',Inv X pins σ H' s'/\IsPart u o/\Q o H') X.xe s
def Yc:TO:=λ_ H Q=>Q none H
def Rn(t:TE):TO:=λσ H Q=>t σ H λx H1=>∃i,x=.int i/\Q (some i) H1
section
variable{X:Cx}{e:Expr}{te:TE}{lo hi:Option Expr}{tl th:TO}{pos p2:Pos}
theorem Yd:PO X none Yc:=by
 intro pins s σ H Q I h
 rw[evalPart_none]
 exact aar ⟨none,H,I,.none,h⟩
theorem Ro(h:PE X e te):PO X (some e) (Rn te):=by
 intro pins s σ H Q I hw
 rw[evalPart_some]
 refine aP (h pins s σ H _ I hw) λu s1 ⟨x,H1,I1,r1,q1⟩=>?_
 obtain⟨i,rfl,q⟩:=q1
 obtain⟨t,rfl⟩:=r1
 exact⟨some i,H1,I1,.int i t,q⟩
def VH(X:Cx)(r:V->Option Int->Option Int->Hp->VK->Prop):Prop :=
 ∀(pins:List (Addr×Obj))(s:Shared)(σ:St)(H:Hp)(x:V)(v vl vu:Value)(lo hi:Option Int)(sl:Addr)(Q:VK),Inv X pins σ H s->RelV x v->s.heap.IsSliceOf sl vl vu .none->IsPart vl lo->IsPart vu hi->r x lo hi H Q ->
  ∃T id,typeLookup (.type T) "__getitem__" = pure (some (.builtin id))/\s.TypeIs v T/\wpAny (model X.prog X.w) X.A (getItem v (.ref sl)) (EP X pins σ Q) X.xe s
def VJ(r:V->Option Int->Option Int->Hp->VK->Prop)(te:TE)(tl th:TO):TE:=λσ H Q=>te σ H λx H1=>tl σ H1 λl H2=>th σ H2 λu H3=>r x l u H3 Q
theorem VL(hr:VH X r)(he:PE X e te)(hl:PO X lo tl)(hu:PO X hi th):PE X (.Subscript e (.Slice lo hi none p2) pos) (VJ r te tl th):=by
 intro pins s σ H Q I h
 refine Subscript_ (aP (he pins s σ H _ I h) λv s1 ⟨x,H1,I1,r1,q1⟩=>?_)
 refine wpAny_Slice (aP (hl pins s1 σ H1 _ I1 q1) λvl s2 ⟨l,H2,I2,pl,q2⟩=>aP (hu pins s2 σ H2 _ I2 q2) λvu s3 ⟨u,H3,I3,pu,q3⟩=>?_)
 rw[evalPart_none]
 refine aar ?_
 have I4:Inv X pins σ H3 { s3 with heap:=s3.heap.push { cls:=.type "slice",data:=.fields #[vl,vu,.none] } }:=I3.kept (t':=s3.toks) λb ob q=>get?_push_of_some _ q
 obtain⟨T,id,hT,ht,hg⟩:=hr pins { s3 with heap:=s3.heap.push { cls:=.type "slice",data:=.fields #[vl,vu,.none] } } σ H3 x v vl vu l u s3.heap.objs.size Q I4 r1 (Heap.IsSliceOf.new ..) pl pu q3
 show wpAny (model X.prog X.w) X.A (subscriptTail e (.Slice lo hi none p2) v (.ref s3.heap.objs.size)) (EP X pins σ Q) X.xe { s3 with heap:=s3.heap.push { cls:=.type "slice",data:=.fields #[vl,vu,.none] } }
 exact tail_any (ops:=[.ref s3.heap.objs.size,v]) ht hT hg (by with_unfolding_all rfl)
def qO(xs:List V)(lo hi:Option Int):List V:=(xs.drop (HT.c7 xs.length 0 lo)).take (HT.c7 xs.length xs.length hi-HT.c7 xs.length 0 lo)
theorem zFt(xs:List V)(lo hi:Option Int):(qO xs lo hi).length<=xs.length:=by
 unfold qO
 rw[length_take,length_drop]
 omega
def Ye(K:PySem.W.Frag):V->Option Int->Option Int->Hp->VK->Prop:=λx lo hi H Q=>∃a xs,x=.ref a/\cO K H a xs /\
 ¬(HT.c7 xs.length 0 lo=0/\HT.c7 xs.length xs.length hi=xs.length)/\∀p,H p=none->Q (.ref p) (upd H p (.tup (qO xs lo hi)))
theorem Kg:VH X (Ye X.K):=by
 intro pins s σ H x v vl vu lo hi sl Q I rx hs pl pu h
 obtain⟨a,xs,rfl,hx,hw,q⟩:=h
 cases rx
 obtain⟨its,r,ht,hz⟩:=I.tuple hx
 have hlen:its.toArray.size=xs.length:=by rw[size_toArray];exact r.length.symm
 refine⟨"tuple",_,PyProof.Rows.slot_tuple_getitem.lookup,ht.typeIs,?_⟩
 refine HT.jY ht hs pl pu (by rw[hlen];exact hw) ?_ (by rw[hlen];exact hz)
 rw[hlen]
 refine⟨.ref s.heap.objs.size,_,I.laid (t':=s.toks) (o:=.tup (qO xs lo hi)) (λb ob q=>get?_push_of_some _ q) (aau _) ?_,rfl,q _ (I.hok.fresh (aau _))⟩
 exact⟨aa6 (zFt xs lo hi) hz,_,(r.drop (HT.c7 xs.length 0 lo)).take (HT.c7 xs.length xs.length hi-HT.c7 xs.length 0 lo),IsTup.new _ _⟩
end
def tR(n:Nat)(i:Int):Option Nat:=if 0<=i then(if i<n then some i.toNat else none) else if -(n:Int)<=i then some (i+n).toNat else none
def bx{α:Type}(xs:List α)(i:Int):Option α:=(tR xs.length i).bind λj=>xs[j]?
theorem zQ2(h:tR n i=some j):seqIndex? i n=some j/\j<n /\ -(n:Int)<=i/\i<n:=by
 unfold tR at h
 by_cases h0:0<=i
 ·rw[if_pos h0] at h
  by_cases h1:i<n
  ·rw[if_pos h1] at h
   have e:i.toNat=j:=aaw h
   exact⟨by rw[ae3 h0 h1,e],by omega,by omega,h1⟩
  ·rw[if_neg h1] at h;cases h
 ·rw[if_neg h0] at h
  by_cases h1:-(n:Int)<=i
  ·rw[if_pos h1] at h
   have e:(i+n).toNat=j:=aaw h
   exact⟨by rw[afk (by omega) h1,e],by omega,h1,by omega⟩
  ·rw[if_neg h1] at h;cases h
theorem Yg{α:Type}{xs:List α}{v:α}(h:bx xs i=some v):∃j,seqIndex? i xs.length=some j/\xs[j]?=some v/\j<xs.length /\ -(xs.length:Int)<=i/\i<xs.length:=by
 unfold bx at h
 cases e:tR xs.length i with
 |none=>rw[e] at h;cases h
 |some j =>
  rw[e] at h
  obtain⟨h1,h2,h3,h4⟩:=zQ2 e
  exact⟨j,h1,h,h2,h3,h4⟩
theorem zR8{α:Type}{xs:List α}{j:Nat}{v:α}(h:xs[j]?=some v):bx xs (j:Int)=some v:=by
 have hj:j<xs.length:=(aa2.mp h).1
 have e:tR xs.length (j:Int)=some j:=by
  unfold tR
  rw[if_pos (by omega),if_pos (by omega)];simp
 unfold bx;rw[e];exact h
def DQ(b:Expr):Prop:=∀o i,subscripted b false o i=operate [o,i] (getItem o i)
def VN(X:Cx)(r:R2):Prop :=
 ∀(value slice:Expr)(pins:List (Addr×Obj))(s:Shared)(σ:St)(H:Hp)(x y:V)(v u:Value)(Q:VK),Inv X pins σ H s->RelV x v->RelV y u->r x y H Q ->
  subscripted slice false v u=operate [v,u] (getItem v u)->wpAny (model X.prog X.w) X.A (subscriptTail value slice v u) (EP X pins σ Q) X.xe s
def MtR(X:Cx)(id:String)(r:V->List V->Hp->VK->Prop):Prop :=
 ∀(pins:List (Addr×Obj))(s:Shared)(σ:St)(H:Hp)(x:V)(xs:List V)(v:Value)(us:List Value)(Q:VK),Inv X pins σ H s->RelV x v->Vals xs us->r x xs H Q ->
  wpAny (model X.prog X.w) X.A (call (.builtin id) (v::us)) (EP X pins σ Q) X.xe s
section
variable{X:Cx}{a b:Expr}{ta tb:TE}{pos:Pos}
theorem yC(hr:VN X r)(ha:PE X a ta)(hb:PE X b tb)(hs:DQ b):PE X (.Subscript a b pos) (jT r ta tb):=by
 intro pins s σ H Q I h
 exact Subscript_ (J2 ha hb I h λv u s2 x y H2 I2 rx ry q=>hr a b pins s2 σ H2 x y v u Q I2 rx ry q (hs _ _))
def rY(K:PySem.W.Frag):R2:=λx y H Q=>∃p xs i v,x=.ref p/\y=.int i/\aW K H p xs/\bx xs i=some v/\Q v H
def Yh(K:PySem.W.Frag):R2:=λx y H Q=>∃p xs i v,x=.ref p/\y=.int i/\cO K H p xs/\bx xs i=some v/\Q v H
theorem wU:VN X (rY X.K):=by
 intro value slice pins s σ H x y v u Q I rx ry h hs
 obtain⟨p,xs,i,z,rfl,rfl,hq,he,q⟩:=h
 cases rx
 obtain⟨t,rfl⟩:=ry
 obtain⟨its,r,pl,hz⟩:=I.list hq
 obtain⟨j,h1,h2,h3,h4,h5⟩:=Yg he
 obtain⟨w,ew,Rq⟩:=r.get h2
 have hl:=r.length
 have hn:=J8
 have fin:EP X pins σ Q w s:=⟨z,H,I,Rq,q⟩
 by_cases h0:0<=i
 ·have hj:i.toNat=j:=by
   rw[ae3 h0 h5] at h1
   exact aaw h1
  exact item_listR pl.isList h0 (by omega) (by rw[hj];simpa using ew) fin hs
 ·have hj:(i+(its.toArray.size:Int)).toNat=j:=by
   rw[afk (by omega) h4] at h1
   rw[size_toArray,<-hl]
   exact aaw h1
  exact subscriptTail_builtinR (x:=w) pl.isList.typeIs slot_list_getitem.lookup
   (wpAny_getItem_list_neg (Q:=λr s'=>r=w/\EP X pins σ Q r s') pl.isList (by omega) (by rw[size_toArray]<;>omega) (by omega) (by rw[hj];simpa using ew) ⟨rfl,fin⟩) hs
theorem DW:VN X (Yh X.K):=by
 intro value slice pins s σ H x y v u Q I rx ry h hs
 obtain⟨p,xs,i,z,rfl,rfl,hq,he,q⟩:=h
 cases rx
 obtain⟨t,rfl⟩:=ry
 obtain⟨its,r,pl,hz⟩:=I.tuple hq
 obtain⟨j,h1,h2,h3,h4,h5⟩:=Yg he
 obtain⟨w,ew,Rq⟩:=r.get h2
 have hl:=r.length
 have hn:=J8
 have fin:EP X pins σ Q w s:=⟨z,H,I,Rq,q⟩
 exact subscriptTail_builtinR (x:=w) pl.typeIs slot_tuple_getitem.lookup
  (getItem_tuple (j:=j) (Q:=λr s'=>r=w/\EP X pins σ Q r s') pl (by omega) (by omega) (by rw[size_toArray,<-hl];exact h1) (by simpa using ew) ⟨rfl,fin⟩) hs
theorem zN5(its:List Value)(n j:Nat)(u:Value):ac5 (·.setIfInBounds j u) { cls:=.type "list",data:=.seq its.toArray n }={ cls:=.type "list",data:=.seq (its.set j u).toArray n }:=by
 simp[ac5]
theorem Inv.lst(I:Inv X pins σ H s)(h:H p=some (.lst xs)) :
  ∃(its:List Value)(n:Nat),Vals xs its/\s.heap.get? p=some { cls:=.type "list",data:=.seq its.toArray n }/\xs.length<=sizeLine:=by
 obtain⟨z,its,n,r,e⟩:=I.hok p _ h
 exact⟨its,n,r,e,z⟩
theorem Inv.Kh{its its':List Value}(I:Inv X pins σ H s)(h:H p=some (.lst xs))(ho:s.heap.get? p=some { cls:=.type "list",data:=.seq its.toArray n })(hf:f { cls:=.type "list",data:=.seq its.toArray n }={ cls:=.type "list",data:=.seq its'.toArray n' })(r:Vals ys its')(hz:ys.length<=sizeLine)(t:Nat) :
  Inv X pins σ (upd H p (.lst ys)) { s with heap:=s.heap.update p f,toks:=t }:=by
 have e:(s.heap.update p f).get? p=some { cls:=.type "list",data:=.seq its'.toArray n' }:=by
  rw[get?_update_self f ho (by rw[hf]<;>rfl),hf]
 refine I.write (x:=p) (e:=p) (by rw[h];trivial) (.inl rfl) (λb u hb q=>(get?_update_other _ _ (aco hb)).trans q) ⟨_,e⟩ ?_
 exact⟨hz,its',n',r,e⟩
def Ae:V->V->V->Hp->(Hp->Prop)->Prop:=λo i v H Q=>∃p xs k j,o=.ref p/\i=.int k/\H p=some (.lst xs)/\tR xs.length k=some j/\Q (upd H p (.lst (xs.set j v)))
theorem O9:JQ X Ae:=by
 intro pins s σ H o i v ov iv u Q I ro ri rv h
 obtain⟨p,xs,k,j,rfl,rfl,hp,hj,q⟩:=h
 cases ro
 obtain⟨t,rfl⟩:=ri
 obtain⟨its,n,r,ho,hz⟩:=I.lst hp
 obtain⟨h1,h2,h3,h4⟩:=zQ2 hj
 have hl:=r.length
 have hn:=J8
 have I':Inv X pins σ (upd H p (.lst (xs.set j v))) { s with heap:=s.heap.update p (ac5 (·.setIfInBounds j u)) } :=
  I.Kh hp ho (zN5 its n j u) (r.set rv j) (by rw[length_set];exact hz) s.toks
 by_cases h0:0<=k
 ·have hk:k.toNat=j:=by
   rw[ae3 h0 h4] at h1
   exact aaw h1
  exact PySem.W.ki_setAt ho h0 (by omega) (by rw[size_toArray,<-hl];exact h4) (by rw[hk];exact⟨_,I',q⟩)
 ·have hk:(k+(its.toArray.size:Int)).toNat=j:=by
   rw[afk (by omega) h3] at h1
   rw[size_toArray,<-hl]
   exact aaw h1
  exact PySem.W.ki_setBack ho (by omega) (by rw[size_toArray,<-hl];exact h3) (by omega) (by rw[hk];exact⟨_,I',q⟩)
theorem zIj(lo hi:Option Int)(n:Nat):(sliceBounds lo hi none n).1=((HT.c7 n 0 lo:Nat):Int)/\(sliceBounds lo hi none n).2.1=((HT.c7 n n hi:Nat):Int)/\(sliceBounds lo hi none n).2.2=1:=by
 refine⟨?_,?_,rfl⟩
 ·cases lo with
  |none=>simp[sliceBounds,HT.c7]
  |some i =>
   simp only[sliceBounds,HT.c7,Option.getD_none,show(1:Int) > 0 by decide,if_true]
   by_cases h:i<0
   ·simp only[h,if_true]<;>omega
   ·simp only[h,if_false]<;>omega
 ·cases hi with
  |none=>simp[sliceBounds,HT.c7]
  |some i =>
   simp only[sliceBounds,HT.c7,Option.getD_none,show(1:Int) > 0 by decide,if_true]
   by_cases h:i<0
   ·simp only[h,if_true]<;>omega
   ·simp only[h,if_false]<;>omega
theorem zG7(its:List Value)(lo hi:Option Int):slicePick its.toArray lo hi none=((its.drop (HT.c7 its.length 0 lo)).take (HT.c7 its.length its.length hi-HT.c7 its.length 0 lo)).toArray:=by
 obtain⟨h1,h2,h3⟩:=zIj lo hi its.toArray.size
 unfold slicePick
 rw[h1,h2,h3]
 simp only[sliceRange_one,pick_run,size_toArray]<;>rfl
def Af(K:PySem.W.Frag):V->Option Int->Option Int->Hp->VK->Prop:=λx lo hi H Q=>∃a xs,x=.ref a/\aW K H a xs/\∀p,H p=none->Q (.ref p) (upd H p (.lst (qO xs lo hi)))
theorem DX:VH X (Af X.K):=by
 intro pins s σ H x v vl vu lo hi sl Q I rx hs pl pu h
 obtain⟨a,xs,rfl,hx,q⟩:=h
 cases rx
 obtain⟨its,r,ht,hz⟩:=I.list hx
 have hlen:=r.length
 refine⟨"list",_,slot_list_getitem.lookup,ht.isList.typeIs,?_⟩
 refine wpAny_getItem_list_slice ht.isList hs pl pu .none (by simp) ?_ (by rw[size_toArray]<;>omega)
 rw[zG7,<-hlen]
 refine⟨.ref s.heap.objs.size,_,I.laid (t':=s.toks) (o:=.lst (qO xs lo hi)) (λb ob q=>get?_push_of_some _ q) (aau _) ?_,rfl,q _ (I.hok.fresh (aau _))⟩
 exact⟨aa6 (zFt xs lo hi) hz,_,0,(r.drop (HT.c7 xs.length 0 lo)).take (HT.c7 xs.length xs.length hi-HT.c7 xs.length 0 lo),get?_push_size _ rfl⟩
def Cp:V->Bool
 |.non=>true
 |.bl _=>true
 |.int _=>true
 |.str _=>true
 |_=>false
def Cq:V->V->Bool
 |.non,.non=>true
 |.bl a,.bl b=>a==b
 |.bl a,.int b=>(if a then 1 else 0)==b
 |.int a,.bl b=>a==(if b then 1 else 0)
 |.int a,.int b=>a==b
 |.str a,.str b=>a==b
 |_,_=>false
theorem zVv(ry:RelV y u)(rx:RelV x v)(fy:Cp y=true)(fx:Cp x=true):aea A s u v (Cq y x):=by
 cases y with
 |non =>
  cases ry
  cases x with
  |non=>cases rx;exact SeqAt.EqAt.same _
  |bl b=>cases rx;exact SeqAt.EqAt.none_bool b
  |int b=>obtain⟨t,rfl⟩:=rx;exact SeqAt.EqAt.none_int b t
  |str b=>obtain⟨t,rfl⟩:=rx;exact SeqAt.EqAt.none_str b t
  |_=>exact absurd (show false=true from fx) aas
 |bl a =>
  cases ry
  cases x with
  |non=>cases rx;exact SeqAt.EqAt.bool_none a
  |bl b=>cases rx;exact SeqAt.EqAt.bool_bool a b
  |int b=>obtain⟨t,rfl⟩:=rx;exact SeqAt.EqAt.bool_int a b t
  |str b=>obtain⟨t,rfl⟩:=rx;exact SeqAt.EqAt.bool_str a b t
  |_=>exact absurd (show false=true from fx) aas
 |int a =>
  obtain⟨t',rfl⟩:=ry
  cases x with
  |non=>cases rx;exact SeqAt.EqAt.int_none a t'
  |bl b=>cases rx;exact SeqAt.EqAt.int_bool a t' b
  |int b=>obtain⟨t,rfl⟩:=rx;exact SeqAt.EqAt.int_int a t' b t
  |str b=>obtain⟨t,rfl⟩:=rx;exact SeqAt.EqAt.int_str a t' b t
  |_=>exact absurd (show false=true from fx) aas
 |str a =>
  obtain⟨t',rfl⟩:=ry
  cases x with
  |non=>cases rx;exact SeqAt.EqAt.str_none a t'
  |bl b=>cases rx;exact SeqAt.EqAt.str_bool a t' b
  |int b=>obtain⟨t,rfl⟩:=rx;exact SeqAt.EqAt.str_int a t' b t
  |str b=>obtain⟨t,rfl⟩:=rx;exact SeqAt.EqAt.str_str a t' b t
  |_=>exact absurd (show false=true from fx) aas
 |_=>exact absurd (show false=true from fy) aas
def rZ(x:V)(u:Value):Bool:=match u with
 |.none=>Cq .non x
 |.bool b=>Cq (.bl b) x
 |.int i _=>Cq (.int i) x
 |.str z _=>Cq (.str z) x
 |_=>false
theorem zVu(r:RelV y u)(f:Cp y=true):rZ x u=Cq y x:=by
 cases y with
 |non=>cases r;rfl
 |bl b=>cases r;rfl
 |int i=>obtain⟨t,rfl⟩:=r;rfl
 |str z=>obtain⟨t,rfl⟩:=r;rfl
 |_=>exact absurd (show false=true from f) aas
theorem Rr:∀{xs:List V}{us:List Value},Vals xs us->xs.all Cp=true->us.any (rZ x)=xs.any λy=>Cq y x
 |_,_,.nil,_=>rfl
 |y::xs,u::us,.cons r t,f=>by
  rw[all_cons,aav] at f
  rw[any_cons,any_cons,zVu r f.1,Rr t f.2]
theorem Ru(rx:RelV x v)(fx:Cp x=true):∀{xs:List V}{us:List Value},Vals xs us->xs.all Cp=true->∀u∈us,aea A s u v (rZ x u)
 |_,_,.nil,_=>λu hu=>by cases hu
 |y::xs,u::us,.cons r t,f=>λu' hu=>by
  rw[all_cons,aav] at f
  rcases mem_cons.mp hu with rfl|hu
  ·rw[zVu r f.1];exact zVv r rx f.1 fx
  ·exact Ru rx fx t f.2 u' hu
def inV(x:V)(xs:List V):Bool:=xs.any λy=>Cq y x
def Kl(K:PySem.W.Frag)(neg:Bool):R2:=λx y H Q=>∃p xs,y=.ref p/\(aW K H p xs\/cO K H p xs)/\Cp x=true/\xs.all Cp=true/\Q (.bl (if neg then !inV x xs else inV x xs)) H
theorem zQd:kI X (compareOp .In) (Kl X.K false):=by
 intro pins s σ H x y v u Q I rx ry h
 obtain⟨p,xs,rfl,hq,fx,fs,q⟩:=h
 cases ry
 rcases hq with hq|hq
 ·obtain⟨its,r,pl,hz⟩:=I.list hq
  refine SeqAt.in_listAt (rZ x) pl.isList (λw hw=>Ru rx fx r fs w (by simpa using hw)) ⟨.bl _,H,I,rfl,?_⟩
  rw[show its.toArray.any (rZ x)=its.any (rZ x) by simp,Rr r fs]
  exact q
 ·obtain⟨its,r,pl,hz⟩:=I.tuple hq
  refine SeqAt.in_tupleAt (rZ x) pl (λw hw=>Ru rx fx r fs w (by simpa using hw)) ⟨.bl _,H,I,rfl,?_⟩
  rw[show its.toArray.any (rZ x)=its.any (rZ x) by simp,Rr r fs]
  exact q
theorem zIy:kI X (compareOp .NotIn) (Kl X.K true):=by
 intro pins s σ H x y v u Q I rx ry h
 obtain⟨p,xs,rfl,hq,fx,fs,q⟩:=h
 cases ry
 rcases hq with hq|hq
 ·obtain⟨its,r,pl,hz⟩:=I.list hq
  refine SeqAt.notIn_listAt (rZ x) pl.isList (λw hw=>Ru rx fx r fs w (by simpa using hw)) ⟨.bl _,H,I,rfl,?_⟩
  rw[show its.toArray.any (rZ x)=its.any (rZ x) by simp,Rr r fs]
  exact q
 ·obtain⟨its,r,pl,hz⟩:=I.tuple hq
  refine SeqAt.notIn_tupleAt (rZ x) pl (λw hw=>Ru rx fx r fs w (by simpa using hw)) ⟨.bl _,H,I,rfl,?_⟩
  rw[show its.toArray.any (rZ x)=its.any (rZ x) by simp,Rr r fs]
  exact q
theorem uG:uo X (.builtin "len") (λxs H Q=>∃p ys,xs=[.ref p]/\(aW X.K H p ys\/cO X.K H p ys)/\Q (.int ys.length) H):=by
 intro pins s σ H xs us Q I r h
 obtain⟨p,ys,rfl,hq,q⟩:=h
 obtain⟨u,rfl,rx⟩:=O8 r
 cases rx
 have hn:=J8
 rcases hq with hq|hq
 ·obtain⟨its,r',pl,hz⟩:=I.list hq
  have hlen:=r'.length
  exact Calls.call_len_list pl.isList (by simp only[size_toArray]<;>omega) ⟨.int ys.length,H,I.tok _,⟨s.toks+1,by rw[size_toArray,hlen]⟩,q⟩
 ·obtain⟨its,r',pl,hz⟩:=I.tuple hq
  have hlen:=r'.length
  exact len_tuple pl (by simp only[size_toArray]<;>omega) ⟨.int ys.length,H,I.tok _,⟨s.toks+1,by rw[size_toArray,hlen]⟩,q⟩
theorem zJs:uo X (.type "list") (λxs H Q=>∃p ys,xs=[.ref p]/\(aW X.K H p ys\/cO X.K H p ys)/\∀l,H l=none->Q (.ref l) (upd H l (.lst ys))):=by
 intro pins s σ H xs us Q I r h
 obtain⟨p,ys,rfl,hq,q⟩:=h
 obtain⟨u,rfl,rx⟩:=O8 r
 cases rx
 have fin:∀(its:List Value),Vals ys its->ys.length<=sizeLine->∀(h':Heap)(c':Nat),(∀b o',s.heap.get? b=some o'->h'.get? b=some o') ->
   h'.get? s.heap.objs.size=some { cls:=.type "list",dict:=none,data:=.seq its.toArray c',slots:=#[] }->EP X pins σ Q (.ref s.heap.objs.size) { s with heap:=h' }:=λits r' hz h' c' kp e =>
  ⟨.ref s.heap.objs.size,_,I.laid (t':=s.toks) kp (aau _) (show bI X.prog X.w _ h' _ (.lst ys) from⟨hz,its,c',r',e⟩),rfl,q _ (I.hok.fresh (aau _))⟩
 rcases hq with hq|hq
 ·obtain⟨its,r',pl,hz⟩:=I.list hq
  have hlen:=r'.length
  obtain⟨o,ho,hc,n,hd⟩:=pl.isList
  exact call_list_seq p (.inl rfl) ho hc hd (λh' c' kp e=>fin its r' hz h' c' kp e) (by simp only[size_toArray]<;>omega)
 ·obtain⟨its,r',pl,hz⟩:=I.tuple hq
  have hlen:=r'.length
  obtain⟨o,ho,hc,n,hd⟩:=pl
  exact call_list_seq p (.inr rfl) ho hc hd (λh' c' kp e=>fin its r' hz h' c' kp e) (by simp only[size_toArray]<;>omega)
def Yi(K:PySem.W.Frag)(T:String)(x:V)(H:Hp):Prop:=match x with
 |.str _=>T = "str"
 |.int _=>T = "int"
 |.ref p=>(T = "list" /\ ∃xs,aW K H p xs)\/(T = "tuple" /\ ∃o,K.lookup p=some o/\o.cls=.type "tuple" /\ o.dict=none) \/
   (T = "dict" /\ ((∃kvs,H p=some (.dK kvs))\/∃kvs,H p=some (.dT kvs)))\/(T = "set" /\ ∃S n,H p=some (.set S n))
 |_=>False
theorem zU4(I:Inv X pins σ H s)(r:RelV x v)(ty:Yi X.K T x H) :
  s.TypeIs v T/\∀a,v=.ref a->∃ob,s.heap.get? a=some ob/\ob.dict=none:=by
 cases x with
 |str z =>
  obtain⟨t,rfl⟩:=r
  cases(show T = "str" from ty)
  exact⟨typeIs_str s z t,λ_ e=>nomatch e⟩
 |int i =>
  obtain⟨t,rfl⟩:=r
  cases(show T = "int" from ty)
  exact⟨typeIs_int s i t,λ_ e=>nomatch e⟩
 |ref p =>
  cases r
  rcases ty with⟨rfl,xs,hq⟩|⟨rfl,o,hk,hc,hd⟩|⟨rfl,hk⟩|⟨rfl,S,n,hk⟩
  ·obtain⟨its,_,pl,_⟩:=I.list hq
   refine⟨pl.isList.typeIs,λa e=>?_⟩
   cases e
   obtain⟨o,n,e,c,hd,_⟩:=pl
   exact⟨o,e,hd⟩
  ·refine⟨⟨o,I.jV p o hk,hc⟩,λa e=>?_⟩
   cases e
   exact⟨o,I.jV _ o hk,hd⟩
  ·have z:∃o,s.heap.get? p=some o/\o.ExactDict:=by
    rcases hk with⟨kvs,hk⟩|⟨kvs,hk⟩
    ·obtain⟨_,_,_,_,o,_,_,e,ex,_⟩:=I.hok p _ hk
     exact⟨o,e,ex⟩
    ·obtain⟨_,_,_,_,o,_,_,e,ex,_⟩:=I.hok p _ hk
     exact⟨o,e,ex⟩
   obtain⟨o,e,ex⟩:=z
   refine⟨⟨o,e,ex.1⟩,λa e2=>?_⟩
   cases e2
   exact⟨o,e,ex.2.1⟩
  ·obtain⟨o,_,_,_,e,ex,_⟩:=I.hok p _ hk
   refine⟨⟨o,e,ex.1⟩,λa e2=>?_⟩
   cases e2
   exact⟨o,e,ex.2.1⟩
 |_=>exact abv ty
def Km(K:PySem.W.Frag)(T:String)(r:V->List V->Hp->VK->Prop)(to:TE):TE:=λσ H Q=>to σ H λx H1=>Yi K T x H1/\r x [] H1 Q
def O_(K:PySem.W.Frag)(T:String)(r:V->List V->Hp->VK->Prop)(to:TE)(t:TA):TE:=λσ H Q=>to σ H λx H1=>Yi K T x H1/\t σ H1 λxs H2=>r x xs H2 Q
variable{o e:Expr}{es:List Expr}{to:TE}{t:TA}{name:Str}{apos cpos:Pos}{T id:String}{r:V->List V->Hp->VK->Prop}
theorem Ko(pa:PlainAttrs T)(slot:Slot T name id)(hty:typeOf (.builtin id)=pure (.type "method_descriptor"))(hm:MtR X id r)(ho:PE X o to)(hbase:attributeBase o name X.env (eval o X.env)=eval o X.env:=by rfl)(hline:(apos.endLine==cpos.line)=true:=by rfl):PE X (.Call (.Attribute o name apos) [] [] cpos) (Km X.K T r to):=by
 intro pins s σ H Q I h
 refine wpAny_Call_method0_late hbase hline (aP (ho pins s σ H _ I h) λv s1 ⟨x,H1,I1,r1,ty,q1⟩=>?_)
 obtain⟨h1,h2⟩:=zU4 I1 r1 ty
 exact⟨T,id,pa,slot,hty,h1,h2,Calls.callWith_builtin rfl (PySem.evalArgs_none (hm pins s1 σ H1 x [] v [] Q I1 r1 .nil q1))⟩
theorem HS(pa:PlainAttrs T)(slot:Slot T name id)(hty:typeOf (.builtin id)=pure (.type "method_descriptor"))(hm:MtR X id r)(ho:PE X o to)(ha:PA X (e::es) t)(hbase:attributeBase o name X.env (eval o X.env)=eval o X.env:=by rfl)(hfew:((backTo cpos (starEach (e::es) X.env)).all (λx=>!x.1)&&(backToKw cpos (keywordEach [] X.env)).all (λx=>x.1.isSome)
   && decide ((e::es).length+([]:List Keyword).length+(if([]:List Keyword).isEmpty then 0 else 1)<30))=true:=by rfl)(hline:(apos.endLine==cpos.line)=true:=by rfl)(hs:starEach (e::es) X.env=(false,eval e X.env)::starEach es X.env:=by rfl)(hplain:(backTo cpos (starEach es X.env)).any (·.1)=false:=by rfl) :
  PE X (.Call (.Attribute o name apos) (e::es) [] cpos) (O_ X.K T r to t):=by
 intro pins s σ H Q I h
 refine wpAny_Call_method_late hbase hfew hline rfl (aP (ho pins s σ H _ I h) λv s1 ⟨x,H1,I1,r1,ty,q1⟩=>?_)
 obtain⟨h1,h2⟩:=zU4 I1 r1 ty
 refine⟨T,id,pa,slot,hty,h1,h2,?_⟩
 have hA:=ha cpos pins s1 σ H1 _ I1 q1
 rw[hs] at hA ⊢
 refine Calls.callWith_builtin (by show(false||(backTo cpos (starEach es X.env)).any (·.1))=false;rw[hplain]<;>rfl) (Calls.evalArgs_plain ?_)
 exact aP hA λus s2 ⟨vs,H2,I2,r2,q2⟩=>hm pins s2 σ H2 x vs v us Q I2 r1 r2 q2
end
def Rv(X:Cx)(id:String)(r:V->List V->Hp->VK->Prop):Prop :=
 ∀(pins:List (Addr×Obj))(s:Shared)(σ:St)(H:Hp)(x:V)(xs:List V)(v:Value)(us:List Value)(Q:VK),Inv X pins σ H s->RelV x v->Vals xs us->r x xs H Q ->
  wpAny (model X.prog X.w) X.A (call (.builtin id) (v::us)) (EP X pins σ Q) X.xe s
theorem Vals.one:∀{x:V}{us:List Value},Vals [x] us->∃u,us=[u]/\RelV x u
 |_,_,.cons r .nil=>⟨_,rfl,r⟩
theorem Vals.two:∀{x y:V}{us:List Value},Vals [x,y] us->∃u v,us=[u,v]/\RelV x u/\RelV y v
 |_,_,_,.cons r (.cons q .nil)=>⟨_,_,rfl,r,q⟩
theorem Vals.zero:∀{us:List Value},Vals [] us->us=[]
 |_,.nil=>rfl
theorem Vals.dropLast(h:Vals xs us):Vals xs.dropLast us.dropLast:=by
 induction h with
 |nil=>exact .nil
 |cons r t ih =>
  cases t with
  |nil=>exact .nil
  |cons q t'=>exact .cons r ih
theorem Vals.eraseIdx:∀{xs:List V}{us:List Value}(i:Nat),Vals xs us->Vals (xs.eraseIdx i) (us.eraseIdx i)
 |_,_,_,.nil=>.nil
 |_,_,0,.cons _ t=>t
 |_,_,i+1,.cons r t=>.cons r (Vals.eraseIdx i t)
theorem Vals.reverse(h:Vals xs us):Vals xs.reverse us.reverse:=by
 induction h with
 |nil=>exact .nil
 |cons r t ih=>rw[reverse_cons,reverse_cons];exact Vals.append ih (.cons r .nil)
theorem zOl{α:Type}(l:List α):l.eraseIdx (l.length-1)=l.dropLast:=by
 induction l with
 |nil=>rfl
 |cons a r ih =>
  cases r with
  |nil=>rfl
  |cons b r =>
   have e:(a::b::r).length-1=((b::r).length-1)+1:=by
    have h1:(a::b::r).length=r.length+2:=rfl
    have h2:(b::r).length=r.length+1:=rfl
    omega
   rw[e,List.eraseIdx_cons_succ,ih]
   all_goals rfl
section
variable{X:Cx}{pins:List (Addr×Obj)}{σ:St}{H:Hp}{s:Shared}{l b:Addr}{xs ys zs:List V}
theorem Inv.Kq{its its':List Value}{f:Array Value->Array Value}(I:Inv X pins σ H s)(hH:H l=some (.lst xs))(e:s.heap.get? l=some { cls:=.type "list",data:=.seq its.toArray n })(hf:f its.toArray=its'.toArray)(hv:Vals ys its')(hz:ys.length<=sizeLine) :
  Inv X pins σ (upd H l (.lst ys)) { s with heap:=s.heap.update l (ac5 f),toks:=t' }:=by
 have q:=PySem.IsL.update e f
 rw[hf] at q
 refine I.write (x:=l) (e:=l) (by rw[hH];exact trivial) (.inl rfl) (λb' u hb hu=>(get?_update_other s.heap (ac5 f) (aco hb)).trans hu) ⟨_,q⟩ ?_
 exact⟨hz,its',_,hv,q⟩
theorem Inv.Yj(I:Inv X pins σ H s)(hv:Vals ys its)(hz:ys.length<=sizeLine) :
  Inv X pins σ (upd H s.heap.objs.size (.lst ys)) { s with heap:=s.heap.push { cls:=.type "list",data:=.seq its.toArray },toks:=t' } :=
 I.laid (λ_ _ q=>get?_push_of_some _ q) (aau _) ⟨hz,its,0,hv,get?_push_size _ rfl⟩
theorem Inv.fresh(I:Inv X pins σ H s):H s.heap.objs.size=none:=I.hok.fresh (aau _)
theorem Inv.ux(I:Inv X pins σ H s)(hH:H l=some (.lst xs)):xs.length<=sizeLine/\∃(its:List Value)(n:Nat),Vals xs its/\xs.length=its.length/\s.heap.get? l=some { cls:=.type "list",data:=.seq its.toArray n }:=by
 obtain⟨z,its,n,r,e⟩:=I.hok l _ hH
 exact⟨z,its,n,r,r.length,e⟩
theorem zTu(h:n<=sizeLine):adu n=false:=by
 unfold adu
 exact decide_eq_false (by omega)
end
section
variable{X:Cx}
def Yk:V->List V->Hp->VK->Prop:=λx vs H Q=>∃l xs y,x=.ref l/\vs=[y]/\H l=some (.lst xs)/\xs.length<sizeLine/\Q .non (upd H l (.lst (xs++[y])))
theorem wO:Rv X "list.append" Yk:=by
 intro pins s σ H x vs v us Q I rx rv h
 obtain⟨l,xs,y,rfl,rfl,hH,hz,q⟩:=h
 cases rx
 obtain⟨u,rfl,ru⟩:=rv.one
 obtain⟨z,its,n,r,hl,e⟩:=I.ux hH
 refine afd F.slot_list_append ⟨_,e,rfl⟩ F.entry_list_append (F.args_list_append_2 _ _) (PySem.list_append l its.toArray n u (by rw[size_toArray];omega)) ⟨e,?_⟩
 refine⟨.non,_,I.Kq (its':=its++[u]) hH e (by simp) (r.append (.cons ru .nil)) ?_,rfl,q⟩
 rw[length_append,length_singleton]
 omega
def Ym:V->List V->Hp->VK->Prop:=λx vs H Q=>∃l b xs zs,x=.ref l/\vs=[.ref b]/\H l=some (.lst xs)/\H b=some (.lst zs)/\xs.length+zs.length<=sizeLine/\Q .non (upd H l (.lst (xs++zs)))
theorem zI7:Rv X "list.extend" Ym:=by
 intro pins s σ H x vs v us Q I rx rv h
 obtain⟨l,b,xs,zs,rfl,rfl,hH,hB,hz,q⟩:=h
 cases rx
 obtain⟨u,rfl,ru⟩:=rv.one
 cases ru
 obtain⟨z,its,n,r,hl,e⟩:=I.ux hH
 obtain⟨z2,its2,n2,r2,hl2,e2⟩:=I.ux hB
 have hsz:its.toArray.size+its2.toArray.size<=sizeLine:=by rw[size_toArray,size_toArray];omega
 have Rw:¬(!its.toArray.isEmpty&&adu (its.toArray.size+its2.toArray.size))=true:=by
  rw[zTu hsz,ae1]
  exact aas
 refine afd F.slot_list_extend ⟨_,e,rfl⟩ F.entry_list_extend (F.args_list_extend_2 _ _)
  (AutoSeq1.list_extend_list_list_0 l its.toArray n b its2.toArray n2 Rw (by rw[size_toArray];omega) (by omega)) ⟨e,e2,?_⟩
 refine⟨.non,_,I.Kq (its':=its++its2) hH e (by simp) (r.append r2) ?_,rfl,q⟩
 rw[length_append]
 omega
def Rx:V->List V->Hp->VK->Prop:=λx vs H Q=>∃l xs y,x=.ref l/\vs=[]/\H l=some (.lst xs)/\xs[xs.length-1]?=some y/\Q y (upd H l (.lst xs.dropLast))
theorem Kr:Rv X "list.pop" Rx:=by
 intro pins s σ H x vs v us Q I rx rv h
 obtain⟨l,xs,y,rfl,rfl,hH,hy,q⟩:=h
 cases rx
 have hus:=rv.zero
 subst hus
 obtain⟨z,its,n,r,hl,e⟩:=I.ux hH
 obtain⟨u,hu,ru⟩:=r.get hy
 have hy':its.toArray[its.toArray.size-1]?=some u:=by
  show its.toArray[its.length-1]?=some u
  rw[<-getElem?_toList,<-hl]
  exact hu
 refine afd F.slot_list_pop ⟨_,e,rfl⟩ F.entry_list_pop (F.args_list_pop_1 _) (MeetsSeq.list_pop_last l its.toArray n u hy' (by rw[size_toArray];omega)) ⟨e,?_⟩
 refine⟨y,_,I.Kq (its':=its.dropLast) hH e ?_ r.dropLast ?_,ru,q⟩
 ·show its.toArray.eraseIdxIfInBounds (its.toArray.size-1)=its.dropLast.toArray
  rw[size_toArray,List.eraseIdxIfInBounds_toArray,zOl]
 ·rw[List.length_dropLast]
  omega
def Ry:R2:=λx y H Q=>∃l b xs zs,x=.ref l/\y=.ref b/\H l=some (.lst xs)/\H b=some (.lst zs)/\xs.length+zs.length<=sizeLine/\∀p,H p=none->Q (.ref p) (upd H p (.lst (xs++zs)))
theorem Ks:kI X (binaryOp .Add) Ry:=by
 intro pins s σ H x y v u Q I rx ry h
 obtain⟨l,b,xs,zs,rfl,rfl,hH,hB,hz,q⟩:=h
 cases rx
 cases ry
 obtain⟨z,its,n,r,hl,e⟩:=I.ux hH
 obtain⟨z2,its2,n2,r2,hl2,e2⟩:=I.ux hB
 refine PySem.P.add_list e e2 ?_ (by rw[size_toArray,size_toArray];omega)
 have ea:its.toArray++its2.toArray=(its++its2).toArray:=by simp
 rw[ea]
 exact⟨.ref _,_,I.Yj (t':=s.toks) (r.append r2) (by rw[length_append];omega),rfl,q _ I.fresh⟩
end
section
variable{prog:Program}{w:World}{A:Around}{E:Value->Shared->Prop}{s:Shared}
end
section
variable{X:Cx}
end
end L2
namespace Att
open PySem PySem.W PySem.Calls PyProof.Rows
theorem zFk:∀(ns:LI)(vs:List Value),WellAll P h vs (ns.map WData.int)->IntsAre vs ns:=by
 intro ns
 induction ns with
 |nil =>
  intro vs w
  rw[map_nil] at w
  cases w
  exact .nil
 |cons n ns ih =>
  intro vs w
  rw[map_cons] at w
  cases w with
  |cons a b =>
   cases a
   exact .cons _ _ (ih _ b)
theorem zPo{l:OpenLaw}(hn:l.most=some n)(hpre:l.row.toRowW.claim.pre args=true)(hwl:WellAll P h vals args) :
  ∃a vs ns,vals=[abo a]/\args=[WData.list (ns.map WData.int)]/\h.get? a=some { cls:=.type "list",data:=.seq vs.toArray }/\IntsAre vs ns/\ns.length<=n:=by
 have hsh:WShape.hasAll [] args [.list .int]=true:=(pre_splitW hpre).1
 have hc:l.pre.holds [] { args:=args }=true:=(pre_splitW hpre).2
 obtain⟨d,r,rfl,h1,h2⟩:=hasAllW_cons hsh
 obtain rfl:=hasAllW_nil h2
 obtain⟨xs,rfl,h3⟩:=hasW_list h1
 obtain⟨ns,rfl⟩:=items_int h3
 have hlen:ns.length<=n:=by
  unfold OpenLaw.pre at hc
  have h4:(WTm.not (.lt (.lit (.int (n:Int))) (.len (.arg 0)))).holds [] { args:=[.list (ns.map .int)] }=true:=by
   have h4:=(holds_andW hc).1
   rw[hn] at h4
   exact h4
  have h5:=condW_of h4 (w_not (w_lt w_lit (w_len_list (w_arg rfl))))
  rw[length_map] at h5
  refine Nat.le_of_not_lt λq=>?_
  have q':(n:Int)<((ns.length:Nat):Int):=by omega
  first
   | (rw[decide_eq_true q'] at h5;exact absurd h5 (by decide))
   | (simp at h5;omega)
 cases hwl with
 |cons w1 w2 =>
  cases w2
  cases w1 with
  |list ho hall=>exact⟨_,_,ns,rfl,rfl,ho,zFk ns _ hall,hlen⟩
theorem zP1(l:OpenLaw)(args:List WData):l.row.toRowW.claim.post args (.bool true) args=true :=
 postW_of (r:=l.row.toRowW) (X:=(true==true))
  (show WShape.has [] (.bool true) .bool=true by first|rfl|decide|simp[WShape.has,WShape.arms,WShape.armsAll])
  (show(WTm.eq .res (.lit (.bool true))).value [] { args:=args,res:=some (.bool true),after:=args }=some (.bool (true==true)) from w_eq_bool (w_res rfl) w_lit) rfl
theorem qP{l:OpenLaw}{YP:World->Heap->Prop}{d:DefRec}(hn:l.most=some n)(hdf:d.params.defaults=[])(call:∀(w:World) (s₀ s₁:Shared) (mg mb:Str->Option Value) (fa:Addr) (o:Obj) (pm cd doc:Value) (a:Addr) (vs:List Value) (ns:LI),
   Ground q loose [] XP w s₀ mg mb s₁.heap->YP w s₁.heap ->
   s₁.heap.get? fa=some o->o.data=.func (docDef d.name d.params d.body d.scope pm cd doc)->s₁.heap.CodeRec cd d.name->mg d.name=some (.ref fa) ->
   s₁.heap.get? a=some { cls:=.type "list",data:=.seq vs.toArray }->IntsAre vs ns->ns.length<=n->s₁.gens=#[] ->
   codeAny (model l.prog w) callerA (.call (.ref fa) ⟨[.ref a],[]⟩) (λr s'=>r=.ok (.ret (.bool true))/\OldK s₁.heap s'.heap/\s'.os=s₁.os/\AllBare s'.gens) s₁) :
  WalkO q loose XP YP l.row.toRowW d [] (λf vs=>PySem.call f vs):=by
 intro w s₀ s₁ mg mb G Y fa o pm cd doc dV kV ho hd hcd hD hmg hg args vals as hpre hlay hrd hwl hlo
 obtain rfl:dV=.none:=Dflts.none hD hdf
 obtain rfl:kV=.none:=Dflts.noKw hD
 obtain⟨a,vs,ns,rfl,rfl,hobj,hints,hlen⟩:=zPo hn hpre hwl
 refine enter_call (adk (call w s₀ s₁ mg mb fa o pm cd doc a vs ns G Y ho (fd_plain hd) hcd hmg hobj hints hlen hg) λr s' hq=>?_)
 obtain⟨rfl,h2,h3,h4⟩:=hq
 exact⟨.inl ⟨.bool true,.bool true,[],rfl,λ_=>rfl,.bool true,zP1 l _,λ_=>⟨Pairwise.nil,λ_ hm=>(nomatch hm)⟩⟩,h2,h3,h4⟩
section
variable{prog:Program}{w:World}{A:Around}{E:Value->Shared->Prop}{s:Shared}{K:Frag}
end
end Att
namespace L2
open PySem PySem.Spec PyProof.Rows
theorem zH7:∀{vs:List Value}{ns:LI},IntsAre vs ns->Vals (ns.map V.int) vs
 |_,_,.nil=>.nil
 |_,_,.cons n t h=>.cons ⟨t,rfl⟩ (zH7 h)
def Only(H:Hp):Prop:=∀b,H b=none\/∃o xs,H b=some (.tK o (.lst xs))
theorem zT3{K:PySem.W.Frag}{s₁:Shared}{vs:List Value}(KX:K.In s₁.heap)(hns:s₁.heap.Ns abe mg)(hb:s₁.heap.Ns builtinsNs mb)(hbb:∀x:Str,x ≠ "__name__"->mb x=bootBuiltins x)(hlim:s₁.heap.NoLimit)(hg:s₁.gens=#[])(ha:s₁.heap.get? a=some { cls:=.type "list",data:=.seq vs.toArray })(hi:IntsAre vs ns)(hl:ns.length<=sizeLine)(hr:bW k callerA)(F:∀base:Heap,K.In base->base.Ns abe mg->aq P w K mg base CX k fa fd [x] sp)(hbind:∀(s:Shared) (u:Value),BindsTo s fd ⟨[u],[]⟩ [(x,u)])(hsp:∀H:Hp,Only H->aW K H a (ns.map V.int)->sp [.ref a] H (λv _=>v=.bl true) λ_ _ _=>False)(Yn:∀H e s',CX [] H s₁ (λ_ _ _=>False) e s'->False) :
  codeAny (model P w) callerA (.call (.ref fa) ⟨[.ref a],[]⟩) (λr s'=>r=.ok (.ret (.bool true))/\OldK s₁.heap s'.heap/\s'.os=s₁.os/\AllBare s'.gens) s₁:=by
 have rv:=zH7 hi
 have lenV:=hi.length
 have core:∀H:Hp,Only H->aW K H a (ns.map V.int)->gZ P w H s₁.heap->(∀b,H b≠none->b=a)->(H a≠none->K.lookup a=none) ->
   codeAny (model P w) callerA (.call (.ref fa) ⟨[.ref a],[]⟩) (λr s'=>r=.ok (.ret (.bool true))/\OldK s₁.heap s'.heap/\s'.os=s₁.os/\AllBare s'.gens) s₁:=by
  intro H hO hS hok hA hK
  have tV:∀{b:Addr}{o:Obj},s₁.heap.get? b=some o->H b=none->(p7 s₁.heap H).get? b=some o:=λe n=>zUa e n
  have Rj:∀{b:Addr}{o:Obj}{es:Array DictEntry}{ep:Nat},s₁.heap.get? b=some o->o.data=.dict es ep->H b=none:=λ{b o es ep} e d=>by
   cases q:H b with
   |none=>rfl
   |some u =>
    have e':b=a:=hA b (by rw[q];simp)
    subst e'
    rw[ha] at e;cases e
    have d':Data.seq vs.toArray _=Data.dict es ep:=d
    cases d'
  have VP:∀{b:Addr}{m:Str->Option Value},s₁.heap.Ns b m->(p7 s₁.heap H).Ns b m:=λ{b m} ⟨o,es,ep,e,d,r⟩=>⟨o,es,ep,tV e (Rj e d),d,r⟩
  have hKb:K.In (p7 s₁.heap H):=λb o e=>tV (KX b o e) (by
   cases q:H b with
   |none=>rfl
   |some u =>
    have e':b=a:=hA b (by rw[q];simp)
    subst e'
    rw[hK (by rw[q];simp)] at e;cases e)
  have hM:Mod K mg (p7 s₁.heap H):=⟨hKb,VP hns,⟨mb,VP hb,hbb⟩,let⟨mc,h1,h2⟩:=hlim;⟨mc,VP h1,h2⟩⟩
  have e0:rW P w K mg (p7 s₁.heap H) callerA [] s₁ H:=⟨rfl,hM,λb o e=>Df e,Nat.le_of_eq (zQ9 _ _),trivial,λb hb=>absurd (show b∈([]:List Addr) from hb) (by simp),hok,.of_eq hg⟩
  refine adk ((F _ hKb (VP hns)).run callerA [] s₁ H ⟨[.ref a],[]⟩ [.ref a] [.ref a] _ _ hr e0 (hbind s₁ (.ref a)) (.cons rfl .nil) (hsp H hO hS)) λr s' h=>?_
  cases r with
  |error e=>exact(Yn H e s' h).elim
  |ok fl =>
   cases fl with
   |next=>exact abv h
   |brk=>exact abv h
   |cont=>exact abv h
   |ret u =>
    obtain⟨v,H',os,bare,un,hok',r',q⟩:=h
    have q':v=.bl true:=q
    subst q'
    obtain rfl:u=afc true:=r'
    refine⟨rfl,OldK.of_keep λb o e=>?_,os,bare⟩
    cases q:H b with
    |none=>exact un.keep b o e q (by intro z;exact absurd (show b∈([]:List Addr) from z) (by simp)) (by simp)
    |some u =>
     rcases hO b with z|⟨ob,xs,z⟩
     ·rw[q] at z;cases z
     ·have z2:=un.mK b ob _ z
      obtain⟨e1,_⟩:=hok b _ z
      obtain⟨e2,_⟩:=hok' b _ z2
      rw[e] at e1;cases e1
      exact e2
 cases hk:K.lookup a with
 |some o =>
  have e:=KX a o hk
  rw[ha] at e
  cases e
  refine core (λ_=>none) (λ_=>.inl rfl) (.inr ⟨_,vs.toArray,_,hk,rfl,rfl,rfl,by rw[size_toArray,lenV];exact hl,by simpa using rv⟩) (λb u z=>by have z':(none:Option HO)=some u:=z;cases z') (λb z=>absurd rfl z) λz=>absurd rfl z
 |none =>
  refine core (λb=>if b=a then some (.tK { cls:=.type "list",data:=.seq vs.toArray } (.lst (ns.map V.int))) else none) (λb=>?_) (.inl (.inr ⟨{ cls:=.type "list",data:=.seq vs.toArray },if_pos rfl⟩)) (λb u z=>?_) (λb z=>?_) λ_=>hk
  ·by_cases hb:b=a
   ·exact .inr ⟨_,_,if_pos hb⟩
   ·exact .inl (if_neg hb)
  ·by_cases hb:b=a
   ·have z':=(if_pos hb).symm.trans z
    cases z'
    subst hb
    exact⟨ha,by rw[length_map];exact hl,vs,_,rv,ha⟩
   ·have z':=(if_neg hb).symm.trans z
    cases z'
  ·by_cases hb:b=a
   ·exact hb
   ·exact absurd (if_neg hb) z
theorem DY{l:PySem.W.OpenLaw}{YP:World->Heap->Prop}{d:DefRec}{K:Params->PySem.W.Frag}{CX:World->ur}{sp:World->Sp}(hn:l.most=some n)(hn2:n<=sizeLine)(hdf:d.params.defaults=[])(hr:bW k callerA)(hY:∀(w:World) (h:Heap),YP w h->(K w.params).In h)(F:∀(w:World) (mg:Str->Option Value) (fa:Addr) (h:Heap),(K w.params).In h->h.Ns abe mg->mg d.name=some (.ref fa) ->
   ∃fd:FuncData,(∀(s:Shared) (u:Value),BindsTo s fd ⟨[u],[]⟩ [(x,u)]) /\
    ∀base:Heap,(K w.params).In base->base.Ns abe mg->aq l.prog w (K w.params) mg base (CX w) k fa fd [x] (sp w))(hsp:∀(w:World) (H:Hp) (a:Addr) (ns:LI),ns.length<=n->Only H->aW (K w.params) H a (ns.map V.int)->sp w [.ref a] H (λv _=>v=.bl true) λ_ _ _=>False)(Yn:∀(w:World) (H:Hp) (s:Shared) (e:Value) (s':Shared),CX w [] H s (λ_ _ _=>False) e s'->False) :
  PySem.W.WalkO q loose XP YP l.row.toRowW d [] (λf vs=>PySem.call f vs):=by
 refine Att.qP hn hdf λw s₀ s₁ mg mb fa o pm cd doc a vs ns G Y ho hd hcd hmg hobj hints hlen hg=>?_
 have KX:=hY w _ Y
 obtain⟨fd,hb,hF⟩:=F w mg fa _ KX G.T.g hmg
 exact zT3 KX G.T.g G.T.b G.T.builtins G.T.nolimit hg hobj hints (aa6 hlen hn2) hr hF hb (λH hO hS=>hsp w H a ns hlen hO hS) λH e s'=>Yn w H s₁ e s'
def xC(s:Stmt)(j:Nat):Stmt:=match s with
 |.ClassDef _ _ _ body _ _ _ _ _ _ _=>body.getD j (.Pass ⟨0,0,0,0⟩)
 |_=>.Pass ⟨0,0,0,0⟩
def vJ(s:Stmt):Arguments:=match s with
 |.FunctionDef _ a _ _ _ _ _ _ _ _=>a
 |_=>{ posonlyargs:=[],args:=[],vararg:=none,kwonlyargs:=[],kw_defaults:=[],kwarg:=none,defaults:=[] }
def xQ(s:Stmt):List Stmt:=match s with
 |.FunctionDef _ _ b _ _ _ _ _ _ _=>b
 |_=>[]
def zH(s:Stmt):Scope:=match s with
 |.FunctionDef _ _ _ _ _ _ sc _ _ _=>sc
 |_=>{ kind:=.function,names:=[],isGenerator:=false,isCoroutine:=false }
abbrev aO:ur:=λ_ _ _ _ _ _=>False
abbrev E0:XK:=λ_ _ _=>False
theorem xG:DG aO X E0:=λ_ _ _ _ _ _ _ h=>h.elim
structure aY(K:PySem.W.Frag)(x qual:Str)(st:Stmt)(f:Addr)(fd:FuncData):Prop where
 ex:∃(oc:Value)(od:Option Addr)(kV doc pm:Value)(an:Option Addr)(cdv ct:Value)(osl:Array (Option Value)),
  fd=fnOf x qual (vJ st) (xQ st) (zH st) .none kV doc pm an cdv ct/\K.lookup f=some ⟨oc,od,.func fd,osl⟩/\codeIn K cdv qual=true
 kp:keepIn K (.ref f)=true
section
variable{P:Program}{w:World}{K:PySem.W.Frag}{mg:Str->Option Value}{base:Heap}
theorem aY.ok{x qual:Str}{st:Stmt}{f:Addr}{fd:FuncData}{N ps:List Str}{k:Nat}{sp:Sp}(F:aY K x qual st f fd)(S:ao N ps (zH st))(len:∀vs H Q E,sp vs H Q E->vs.length=ps.length)(hbody:∀(cdv:Value) (A:Around) (outer:List Env) (s:Shared) (H:Hp) (vs:List V) (Q:VK) (E:XK),bW k (A.deeper (envOfC qual (zH st) s.heap.objs.size f cdv))->sp vs H Q E ->
   ∃t,qI (oX aO P w K mg base N qual (zH st) f cdv A outer s H E).Dm (xQ st) t/\t { nx:=λ_ H'=>Q .non H',rt:=Q } (start N vs) H):aq P w K mg base aO (k+1) f fd ps sp:=by
 obtain⟨oc,od,kV,doc,pm,an,cdv,ct,osl,rfl,lk,hcd⟩:=F.ex
 refine HJ lk hcd S len λA outer s H vs Q E hr hsp=>?_
 obtain⟨t,h,q⟩:=hbody cdv A outer s H vs Q E hr hsp
 exact⟨t,h.Dm,q⟩
theorem aY.binds{x qual:Str}{st:Stmt}{f:Addr}{fd:FuncData}{ps:List Str}(F:aY K x qual st f fd)(h:∀(kV doc pm:Value) (an:Option Addr) (cdv ct:Value) (us:List Value),us.length=ps.length->bindArgs (fnOf x qual (vJ st) (xQ st) (zH st) .none kV doc pm an cdv ct) ⟨us,[]⟩=pure (ps.zip us)):Binds K fd ps []:=by
 obtain⟨oc,od,kV,doc,pm,an,cdv,ct,osl,rfl,lk,hcd⟩:=F.ex
 exact .all (h kV doc pm an cdv ct)
theorem mQ{x qual:Str}{st:Stmt}{f:Addr}{oc:Value}{od an:Option Addr}{osl:Array (Option Value)}{kV doc pm cdv ct:Value}(l:K.lookup f=some ⟨oc,od,.func (fnOf x qual (vJ st) (xQ st) (zH st) .none kV doc pm an cdv ct),osl⟩)(c:codeIn K cdv qual=true)(k:keepIn K (.ref f)=true):aY K x qual st f (fnOf x qual (vJ st) (xQ st) (zH st) .none kV doc pm an cdv ct):=⟨⟨oc,od,kV,doc,pm,an,cdv,ct,osl,rfl,l,c⟩,k⟩
end
theorem Ag(hr:bW k A):A.units+1<cLine:=aaz (Nat.add_le_add_left (by decide:1<=64) _) hr.units
theorem Yo(h:n<=1000):n<sizeLine:=aaz h (by decide)
section
variable{X:Cx}
theorem pv(i:Nat)(hN:X.N[i]?=some x:=by rfl)(hv:QD X.env.scope x:=by first|exact Or.inl rfl|exact Or.inr (Or.inl rfl)|exact Or.inr (Or.inr rfl))(hd:(x==("__debug__":Str))=false:=by decide)(hcd:(x==("__classdict__":Str))=false:=by decide):PE X (.Name x pos) (bZ i):=JK hN hv hd hcd
end
theorem kJ{A B:Prop}(h:B):if false=true then A else B:=by
 rw[if_neg aas]
 exact h
theorem iu{A B:Prop}(h:A):if true=true then A else B:=by
 rw[if_pos rfl]
 exact h
theorem Ah{c A B:Prop}[Decidable c](h1:c->A)(h2:¬c->B):if c then A else B:=by
 by_cases h:c
 ·rw[if_pos h]
  exact h1 h
 ·rw[if_neg h]
  exact h2 h
def Same(H H':Hp):Prop:=∀b o,H b=some o->H' b=some o
theorem Same.refl(H:Hp):Same H H:=λ_ _ h=>h
theorem Same.trans(a:Same H H1)(b:Same H1 H2):Same H H2:=λc o h=>b c o (a c o h)
theorem Same.free(e:Same H H')(h:H' l=afn):H l=afn:=by
 cases q:H l with
 |none=>rfl
 |some o =>
  rw[e l o q] at h
  cases h
theorem Same.seq{K:PySem.W.Frag}{H H':Hp}{a:Addr}{xs:List V}(e:Same H H')(h:aW K H a xs):aW K H' a xs:=by
 rcases h with(h|⟨o,h⟩)|h
 ·exact .inl (.inl (e _ _ h))
 ·exact .inl (.inr ⟨o,e _ _ h⟩)
 ·exact .inr h
section
variable{κ:Type}[DecidableEq κ]
end
open PySem
section
variable{prog:Program}{w:World}{A:Around}{R:Result->Shared->Prop}{s:Shared}
theorem vQ{α:Type}{t:Sem α}{Q Q':α->Shared->Prop}(h:wpAny M A t Q (λ_ _=>False) s)(hQ:∀a s,Q a s->Q' a s):wpAny M A t Q' (notedBy M A env E) s :=
 ab9 h hQ λ_ _ z=>z.elim
theorem zJr(I:Nat->Shared->Prop)(turn:∀n s,I n s->wpAny (model prog w) A (pyNext it) (λr s₁=>match r with
   |none=>R (.ok .next) s₁
   |some v=>wpAny (model prog w) A (letOwnedTupleGo target it v) (λ_ s₂=>wpAny (model prog w) A (assign target env v) (λ_ s₃ =>
     wpAny (model prog w) A (forIn ifs true λc r=>if r=true then do let ok <-isTrue c env (eval c env);pure (acn ok) else pure (acn r)) (λok s₄ =>
      if ok=true then wpAny (model prog w) A (eval elt env) (λx s₅ =>
       wpAny (model prog w) A (call (.builtin "list.append") [acc,x]) (λ_ s₆=>∃m,m<n/\I m s₆) (λ_ _=>False) s₅) (λ_ _=>False) s₄
      else∃m,m<n/\I m s₄) (λ_ _=>False) s₃) (λ_ _=>False) s₂) (λ_ _=>False) s₁) (λ_ _=>False) s)(n:Nat)(h:I n s):codeAny (model prog w) A (.compLoop (.ListComp elt [⟨target,iter,ifs,0⟩] scope pos) 0 it acc env) R s:=by
 refine codeAny_loop rfl I (λn s hI=>?_) n h
 show wpAny _ A ((compTurn (.ListComp elt [⟨target,iter,ifs,0⟩] scope pos) 0 it acc env).onRaise (λx=>do noteFrame x env;theTreesLotGoes x)) _ _ s
 refine wpAny_noted ?_
 rw[compTurn_list]
 refine aaq (ae9 (aaq (vQ (turn n s hI) λr s₁ h₁=>?_)))
 cases r with
 |none=>exact aar h₁
 |some v =>
  refine aaq (vQ h₁ λ_ s₂ h₂=>?_)
  refine aaq (vQ h₂ λ_ s₃ h₃=>aaq (vQ h₃ λok s₄ h₄=>?_))
  cases ok with
  |false=>exact aar ⟨rfl,h₄⟩
  |true =>
   exact aaq (aaq (vQ h₄ λx s₅ h₅=>aaq (vQ h₅ λ_ s₆ h₆=>aar (aar ⟨rfl,h₆⟩))))
end
def pG(env:Env):List (Str×NameKind)->List (Str×Addr)->List (Str×Addr)
 |[],acc=>acc
 | (n,k)::r,acc=>if k==.free then pG env r ((n,(env.cells.lookup n).getD 0)::acc) else pG env r acc
theorem zDb{scope:Scope}{env:Env}(h:∀y∈scope.names,y.2=.free->∃c,env.cells.lookup y.1=some c):closureFor scope env=pure (pG env scope.names []):=by
 unfold closureFor
 generalize scope.names=l at h
 have go:∀(l:List (Str×NameKind))(acc:List (Str×Addr)),(∀y∈l,y.2=.free->∃c,env.cells.lookup y.1=some c) ->
    (forIn l acc (λ(x:Str×NameKind) (r:List (Str×Addr))=>match x with
    | (name,kind)=>if(kind==aa9)=true then(do let __do_lift <-cellOf env name;pure (acn ((name,__do_lift)::r))) else pure (acn r)):Sem (List (Str×Addr)))=pure (pG env l acc):=by
  intro l
  induction l with
  |nil=>intro acc _;rfl
  |cons x r ih =>
   intro acc hl
   obtain⟨n,k⟩:=x
   rw[List.forIn_cons]
   unfold pG
   by_cases hk:(k==aa9)=true
   ·obtain⟨c,hc⟩:=hl (n,k) mem_cons_self (abz hk)
    simp only[hk,if_true]
    have hc':env.cells.lookup n=some c:=hc
    unfold cellOf
    rw[hc']
    exact ih _ λy hy=>hl y (mem_cons_of_mem _ hy)
   ·simp only[hk,if_false]
    exact ih _ λy hy=>hl y (mem_cons_of_mem _ hy)
 have e:=go l [] h
 simp only[bind_pure]
 exact e
theorem Yp{env:Env}:∀(l:List (Str×NameKind))(acc:List (Str×Addr)),(∀x c,acc.lookup x=some c->(env.cells.lookup x).getD 0=c)->∀x c,(pG env l acc).lookup x=some c->(env.cells.lookup x).getD 0=c
 |[],_,h,x,c,e=>h x c e
 | (n,k)::r,acc,h,x,c,e=>by
  unfold pG at e
  by_cases hk:(k==aa9)=true
  ·rw[if_pos hk] at e
   refine Yp r _ (λy d q=>?_) x c e
   cases hy:y==n with
   |true =>
    rw[lookup_cons,hy] at q
    cases q
    rw[abz hy]
   |false =>
    rw[lookup_cons,hy] at q
    exact h y d q
  ·rw[if_neg hk] at e
   exact Yp r acc h x c e
theorem Yq:∀(l:List (Str×NameKind))(acc:List (Str×Addr))(x:Str)(c:Addr),(pG env l acc).lookup x=some c->(acc.lookup x).isSome=true\/(x,aa9)∈l
 |[],_,x,c,e=>.inl (by unfold pG at e;rw[e];rfl)
 | (n,k)::r,acc,x,c,e=>by
  unfold pG at e
  by_cases hk:(k==aa9)=true
  ·rw[if_pos hk] at e
   rcases Yq r _ x c e with h|h
   ·cases hy:x==n with
    |true =>
     have e1:=abz hy
     have e2:=abz hk
     subst e1;subst e2
     exact .inr mem_cons_self
    |false =>
     rw[lookup_cons,hy] at h
     exact .inl h
   ·exact .inr (mem_cons_of_mem _ h)
  ·rw[if_neg hk] at e
   rcases Yq r _ x c e with h|h
   ·exact .inl h
   ·exact .inr (mem_cons_of_mem _ h)
theorem VR:∀(l:List (Str×NameKind))(acc:List (Str×Addr))(x:Str),((acc.lookup x).isSome=true\/(x,aa9)∈l)->((pG env l acc).lookup x).isSome=true
 |[],_,x,h=>by
  rcases h with h|h
  ·exact h
  ·cases h
 | (n,k)::r,acc,x,h=>by
  unfold pG
  by_cases hk:(k==aa9)=true
  ·rw[if_pos hk]
   refine VR r _ x ?_
   rcases h with h|h
   ·refine .inl ?_
    rw[lookup_cons]
    cases hy:x==n with
    |true=>rfl
    |false=>exact h
   ·rcases mem_cons.mp h with h|h
    ·cases h
     refine .inl ?_
     rw[lookup_cons,beq_self_eq_true]
     rfl
    ·exact .inr h
  ·rw[if_neg hk]
   refine VR r _ x ?_
   rcases h with h|h
   ·exact .inl h
   ·rcases mem_cons.mp h with h|h
    ·cases h
     exact absurd rfl hk
    ·exact .inr h
theorem zD2{env:Env}:∀{names:List (Str×NameKind)}{x:Str},names.lookup x=some .free ->
  (names.map λ(n,k)=>if(k==aa9&&env.scope.kind==.function&&env.kindOf n==some .cell) then(n,ab4) else(n,k)).lookup x=some .cell \/
  (names.map λ(n,k)=>if(k==aa9&&env.scope.kind==.function&&env.kindOf n==some .cell) then(n,ab4) else(n,k)).lookup x=some .free
 |[],_,h=>by simp at h
 | (n,k)::r,x,h=>by
  have ih:=@zD2 env r x
  show acv x ((if(k==aa9&&env.scope.kind==.function&&env.kindOf n==some .cell)=true then(n,ab4) else(n,k))::_)=_\/acv x ((if(k==aa9&&env.scope.kind==.function&&env.kindOf n==some .cell)=true then(n,ab4) else(n,k))::_)=_
  cases hx:x==n with
  |true =>
   simp only[lookup_cons,hx] at h
   cases h
   by_cases hc:(aa9==aa9&&env.scope.kind==.function&&env.kindOf n==some .cell)=true
   ·rw[if_pos hc];left;simp only[lookup_cons,hx]
   ·rw[if_neg hc];right;simp only[lookup_cons,hx]
  |false =>
   simp only[lookup_cons,hx] at h
   by_cases hc:(k==aa9&&env.scope.kind==.function&&env.kindOf n==some .cell)=true
   ·rw[if_pos hc];simp only[lookup_cons,hx];exact ih h
   ·rw[if_neg hc];simp only[lookup_cons,hx];exact ih h
theorem Yr{env:Env}:∀{names:List (Str×NameKind)}{x:Str}{k:NameKind},(k=.cell\/k=.free) ->
  (names.map λ(n,k)=>if(k==aa9&&env.scope.kind==.function&&env.kindOf n==some .cell) then(n,ab4) else(n,k)).lookup x=some k->(x,aa9)∈names\/(x,ab4)∈names
 |[],_,_,_,h=>by simp at h
 | (n,k')::r,x,k,hk,h=>by
  have ih:=@Yr env r x k hk
  have h':acv x ((if(k'==aa9&&env.scope.kind==.function&&env.kindOf n==some .cell)=true then(n,ab4) else(n,k'))::(r.map λ(n,k)=>if(k==aa9&&env.scope.kind==.function&&env.kindOf n==some .cell) then(n,ab4) else(n,k)))=some k:=h
  cases hx:x==n with
  |true =>
   have e:=abz hx
   subst e
   by_cases hd:(k'==aa9&&env.scope.kind==.function&&env.kindOf x==some .cell)=true
   ·have e2:k'=.free:=by
     rw[aav,aav] at hd
     exact abz hd.1.1
    subst e2
    exact .inl mem_cons_self
   ·rw[if_neg hd] at h'
    simp only[lookup_cons,hx] at h'
    cases h'
    rcases hk with e|e
    ·subst e;exact .inr mem_cons_self
    ·subst e;exact .inl mem_cons_self
  |false =>
   have g:(x,aa9)∈r\/(x,ab4)∈r:=by
    refine ih ?_
    by_cases hd:(k'==aa9&&env.scope.kind==.function&&env.kindOf n==some .cell)=true
    ·rw[if_pos hd] at h';simp only[lookup_cons,hx] at h';exact h'
    ·rw[if_neg hd] at h';simp only[lookup_cons,hx] at h';exact h'
   rcases g with g|g
   ·exact .inl (mem_cons_of_mem _ g)
   ·exact .inr (mem_cons_of_mem _ g)
theorem xS:∀(l:List (Str×NameKind))(n:Nat)(acc:List (Str×Addr)),cellsFrom n l acc=cellsFrom n l []++acc
 |[],_,_=>rfl
 | (x,k)::r,n,acc=>by
  unfold cellsFrom
  split
  ·rw[xS r (n+1) ((x,n)::acc),xS r (n+1) [(x,n)]];simp
  ·exact xS r n acc
theorem Ys:∀(l:List (Str×NameKind))(n:Nat)(x:Str)(c:Addr),(x,c)∈cellsFrom n l []->(x,ab4)∈l
 |[],_,_,_,h=>by cases h
 | (y,k)::r,n,x,c,h=>by
  unfold cellsFrom at h
  split at h
  ·rename_i hk
   rw[xS] at h
   rcases mem_append.mp h with h|h
   ·exact mem_cons_of_mem _ (Ys r _ x c h)
   ·have e:(x,c)=(y,n):=by simpa using h
    cases e
    rw[abz hk]
    exact mem_cons_self
  ·exact mem_cons_of_mem _ (Ys r _ x c h)
theorem zEc{s:Shared}{scope:Scope}{Q:Env->Shared->Prop}(hQ:∀h',h'.Ns s.heap.objs.size (λ_=>none)->(∀b o,s.heap.get? b=some o->h'.get? b=some o)->CellsOk h' (s.heap.objs.size+1) (cellsFrom (s.heap.objs.size+1) scope.names []) ->
   Q (newEnv scope s.heap.objs.size globals (cellsFrom (s.heap.objs.size+1) scope.names closure) qual none .none (some outer) builtinsNs) { s with heap:=h' }) :
  wpAny M A (newFunctionEnv scope globals closure [] qual none .none (some outer)) Q E s:=by
 simp only[newFunctionEnv,adx,if_true]
 refine aaq (wpAny_alloc ?_)
 refine aaq (wpAny_layCells _ (λname kind cells=>by cases hkc:kind==ab4<;>simp[hkc]) _ _ _ _ ?_)
 have ok:=cellsFrom_ok scope.names (s.heap.push { cls:=.type "dict",data:=.dict #[] }) (s.heap.objs.size+1) [] ⟨λ_ _ hm=>(nomatch hm),Pairwise.nil⟩ (by rw[size_push];exact aau _)
 rw[size_push] at ok
 rw[show({ s with heap:=s.heap.push { cls:=.type "dict",data:=.dict #[] } }:Shared).heap.objs.size=s.heap.objs.size+1 from size_push ..]
 refine aaq ?_
 rw[List.forIn_nil]
 exact aar (aar (hQ _ ((Heap.Ns.new s.heap (.type "dict")).keeps (pushCells_keeps _ _)) (λb o e=>pushCells_keeps _ _ b o (get?_push_of_some _ e)) ok))
theorem gZ.track(x:gZ P w H h)(hn:H a=none)(new:bI P w (upd H a o) h a o):gZ P w (upd H a o) h:=λb u e=>by
 by_cases hb:b=a
 ·subst hb;rw[zK] at e;cases e;exact new
 ·rw[zQ hb] at e
  exact(x b u e).stay (λc v _ q=>q) (λc q=>by rw[zQ (zO q hn)];exact q) λc xs q=>by rw[zQ (zO q hn)];exact q
theorem Un.track(u:Un fs ex H H' h h')(h0:h.get? a=none)(hn:H a=none):Un fs ex H (upd H' a o) h h' where
 keep:=u.keep
 slot:=u.slot
 free:=λb ob q n hx=>by
  rw[zQ (λz=>by rw[z,h0] at q;cases q)];exact u.free b ob q n hx
 there:=u.there
 tups:=λb xs q=>by rw[zQ (zO q hn)];exact u.tups b xs q
 mK:=λb ob xs q=>by rw[zQ (zO q hn)];exact u.mK b ob xs q
 oV:=λb ps q=>by rw[zQ (zO q hn)];exact u.oV b ps q
def nIn(N:List Str)(own:List Str)(ix:List Nat):List Str:=own++ix.map λj=>N.getD j ad2
def je(σ:St)(n:Nat)(ix:List Nat):St:=replicate n none++ix.map λj=>(σ[j]?).getD none
def dJ(X:Cx)(scope:Scope)(own:List Str)(ix:List Nat)(C:Addr)(s:Shared)(H:Hp)(fp:List Addr):Cx :=
 { X with N:=nIn X.N own ix,s₀:=s,H₀:=H,env:=compEnvC scope (cellsFrom (C+1) scope.names (pG X.env scope.names [])) C X.env,outer:=X.stack,stack:=X.stack,ex:=fp,fn:=λx=>scope.names.lookup x==some .cell,pn:=[] }
def V0(Ku:Scope)(oN:List Str)(scope:Scope)(ix:List Nat):Bool :=
 scope.kind==.function &&
 (scope.names.all λy=>(y.2 != .cell||scope.names.lookup y.1==some .cell)&&(y.2 != .local||scope.names.lookup y.1==some .local)&&(y.2 != .free||(Ku.names.lookup y.1==some .cell||Ku.names.lookup y.1==some .free))) &&
 ix.all λj=>match oN[j]? with
  |some x=>scope.names.lookup x==some .free
  |none=>false
structure jD(Ku:Scope)(oN:List Str)(scope:Scope)(ix:List Nat):Prop where
 kind:scope.kind=.function
 clk:∀y∈scope.names,y.2=.cell->scope.names.lookup y.1=some .cell
 nm:∀y∈scope.names,y.2=.local->scope.names.lookup y.1=some .local
 fr:∀y∈scope.names,y.2=.free->Ku.names.lookup y.1=some .cell\/Ku.names.lookup y.1=some .free
 ix:∀j∈ix,∃x,oN[j]?=some x/\scope.names.lookup x=some .free
theorem zJp(h:V0 Ku oN scope ix=true):jD Ku oN scope ix:=by
 unfold V0 at h
 rw[aav,aav,all_eq_true,all_eq_true] at h
 obtain⟨⟨h1,h2⟩,h3⟩:=h
 refine⟨abz h1,λy hy e=>?_,λy hy e=>?_,λy hy e=>?_,λj hj=>?_⟩
 ·have q:=h2 y hy
  rw[aav,aav] at q
  rcases abl _ _▸q.1.1 with z|z
  ·exact absurd e (bne_iff_ne.mp z)
  ·exact abz z
 ·have q:=h2 y hy
  rw[aav,aav] at q
  rcases abl _ _▸q.1.2 with z|z
  ·exact absurd e (bne_iff_ne.mp z)
  ·exact abz z
 ·have q:=h2 y hy
  rw[aav,aav] at q
  rcases abl _ _▸q.2 with z|z
  ·exact absurd e (bne_iff_ne.mp z)
  ·rcases abl _ _▸z with z|z
   ·exact .inl (abz z)
   ·exact .inr (abz z)
 ·have q:=h3 j hj
  cases e:oN[j]? with
  |none=>rw[e] at q;cases q
  |some x=>rw[e] at q;exact⟨x,rfl,abz q⟩
section
variable{X:Cx}{pins:List (Addr×Obj)}{σ:St}{H:Hp}{s:Shared}{scope:Scope}{own:List Str}{ix:List Nat}
theorem Yt(I:Inv X pins σ H s)(sc:jD X.env.scope X.N scope ix):∀y∈scope.names,y.2=.free->∃c,X.env.cells.lookup y.1=some c:=λy hy e=>by
 rcases sc.fr y hy e with q|q
 ·exact I.ok.has y.1 (.inl q)
 ·exact I.ok.has y.1 (.inr q)
theorem zMr(I:Inv X pins σ H s)(sc:jD X.env.scope X.N scope ix)(e:(pG X.env scope.names []).lookup x=some c):X.env.cells.lookup x=some c:=by
 have h1:=Yp (env:=X.env) scope.names [] (λx c q=>by simp at q) x c e
 rcases Yq (env:=X.env) scope.names [] x c e with q|q
 ·simp at q
 ·obtain⟨c',hc⟩:=Yt I sc (x,.free) q rfl
  have hc':X.env.cells.lookup x=some c':=hc
  rw[hc'] at h1
  rw[hc']
  exact congrArg some h1
theorem zUq(I:Inv X pins σ H s)(sc:jD X.env.scope X.N scope ix)(hx:(x,aa9)∈scope.names)(e:X.env.cells.lookup x=some c):(pG X.env scope.names []).lookup x=some c:=by
 have h1:=VR (env:=X.env) scope.names [] x (.inr hx)
 obtain⟨c',hc⟩:=abq.mp h1
 rw[hc]
 have:=zMr I sc hc
 rw[e] at this
 exact this.symm
theorem Kv(I:Inv X pins σ H s)(sc:jD X.env.scope X.N scope ix)(e:(cellsFrom (C+1) scope.names (pG X.env scope.names [])).lookup x=some c):(x,c)∈cellsFrom (C+1) scope.names []\/X.env.cells.lookup x=some c:=by
 rw[xS,lookup_append] at e
 cases h:(cellsFrom (C+1) scope.names []).lookup x with
 |some d=>rw[h] at e;cases e;exact .inl (abw h)
 |none=>rw[h] at e;exact .inr (zMr I sc e)
theorem Ai(h:(je σ n ix)[i]?=some (some v)):∃j,ix[i-n]?=some j/\σ[j]?=some (some v)/\n<=i:=by
 unfold je at h
 by_cases hi:i<n
 ·rw[getElem?_append_left (by simpa using hi),getElem?_replicate] at h
  rw[if_pos hi] at h
  cases h
 ·rw[getElem?_append_right (by simpa using hi),List.length_replicate,getElem?_map] at h
  cases e:ix[i-n]? with
  |none=>rw[e] at h;cases h
  |some j =>
   rw[e] at h
   have h':(σ[j]?).getD none=some v:=aaw h
   refine⟨j,rfl,?_,by omega⟩
   cases e2:σ[j]? with
   |none=>rw[e2] at h';cases h'
   |some o=>rw[e2] at h';exact congrArg some h'
theorem Inv.comp{h₁:Heap}(I:Inv X pins σ H s)(sc:jD X.env.scope X.N scope ix)(fo:∀b∈fp,lU X pins H b)(RB:∀b∈fp,b<s.heap.objs.size)(hC:s.heap.objs.size<=C)(hns:h₁.Ns C m₀)(hk:∀b o,s.heap.get? b=some o->h₁.get? b=some o)(co:CellsOk h₁ (C+1) (cellsFrom (C+1) scope.names [])):Inv (dJ X scope own ix C s H fp) [] (je σ own.length ix) H { s with heap:=h₁,toks:=t' }:=by
 have lt:∀{b:Addr},b<s.heap.objs.size->b≠C:=λ{b} hb=>aay (aa0 hb hC)
 have RD:∀{x:Str}{c:Addr},X.env.cells.lookup x=some c->c<C+1:=λ{x c} e=>by
  obtain⟨v,q⟩:=I.cell x c e
  exact ad4 (aa0 q.lt hC)
 have cellK:∀{x:Str}{c:Addr},X.env.cells.lookup x=some c->∀v,s.heap.IsCell c v->h₁.IsCell c v:=λ{x c} _ v ⟨o,ho,hd⟩=>⟨o,hk _ _ ho,hd⟩
 refine⟨⟨I.ok.mod,sc.kind,I.ok.glob,I.ok.blt,hC,λx y c h1 h2=>?_,λx hx=>?_,λx c h e=>by
  have h':scope.names.lookup x=some .cell:=abz h
  have e':(cellsFrom (C+1) scope.names (pG X.env scope.names [])).lookup x=some c:=e
  rw[xS,lookup_append] at e'
  obtain⟨d,hd⟩:=abq.mp (ade scope.names (C+1) [] (.inl h'))
  rw[hd] at e'
  cases e'
  exact aa6 hC (aem (co.empty _ _ (abw hd)).2),I.ok.hd,I.ok.frames,.inl rfl,λb hb=>?_,I.bs,aa6 I.ok.Dh I.sz,λb o e hb=>?_,λb hb z=>?_,I.stack,I.tM⟩,
  rfl,I.bare,Un.kept hk,⟨m₀,hns,λi x v h1 h2 h3=>?_⟩,λx c h=>?_,I.hok.fresh hC,λx c h=>?_,λp hp=>?_,I.hok.kept hk,?_⟩
 ·rcases Kv I sc h1 with q1|q1
  ·rcases Kv I sc h2 with q2|q2
   ·exact name_of_addr co.apart q1 q2
   ·exact absurd (aa0 (RD q2) (co.empty _ _ q1).2) (ab2 _)
  ·rcases Kv I sc h2 with q2|q2
   ·exact absurd (aa0 (RD q1) (co.empty _ _ q2).2) (ab2 _)
   ·exact I.ok.inj x y c q1 q2
 ·have hm:(x,aa9)∈scope.names\/(x,ab4)∈scope.names:=by
   rcases hx with hx|hx
   ·exact Yr (env:=X.env) (.inl rfl) hx
   ·exact Yr (env:=X.env) (.inr rfl) hx
  refine abq.mp ?_
  show((cellsFrom (C+1) scope.names (pG X.env scope.names [])).lookup x).isSome=true
  rcases hm with hm|hm
  ·exact ade _ _ _ (.inr (VR (env:=X.env) scope.names [] x (.inr hm)))
  ·exact ade _ _ _ (.inl (sc.clk _ hm rfl))
 ·obtain⟨f0,f1,f2,f3,f4,f5⟩:=fo b hb
  refine⟨lt (RB b hb),λx c h=>?_⟩
  rcases Kv I sc h with q|q
  ·exactλz=>absurd (aa0 (RB b hb) (aa6 hC (aem (z▸(co.empty _ _ q).2)))) (ab2 _)
  ·exact f4 x c q
 ·obtain⟨f0,f1,f2,f3,f4,f5⟩:=fo b hb
  rcases f3 with z|z
  ·exact I.ok.zj b o e z
  ·exact absurd (aa0 (lt_size e) (aa6 I.ok.Dh z)) (ab2 _)
 ·obtain⟨f0,f1,f2,f3,f4,f5⟩:=fo b hb
  rcases mem_cons.mp (I.p8 b z) with z|z
  ·exact f1 z
  ·exact f2 z
 ·obtain⟨j,hj,hv,hn⟩:=Ai h2
  obtain⟨y,hy,hf⟩:=sc.ix j (mem_of_getElem? hj)
  have e:y=x:=by
   have h1':(nIn X.N own ix)[i]?=some x:=h1
   unfold nIn at h1'
   rw[getElem?_append_right hn,getElem?_map,hj] at h1'
   have D_:X.N.getD j ad2=x:=aaw h1'
   rw[getD_eq_getElem?_getD,hy] at D_
   exact D_
  subst e
  have hm:(y,aa9)∈scope.names:=abw hf
  have vis:QD X.env.scope y:=by
   rcases sc.fr _ hm rfl with q|q
   ·exact .inr (.inl q)
   ·exact .inr (.inr q)
  obtain⟨m,_,hl⟩:=I.loc
  obtain⟨u,r,l⟩:=hl j y v hy hv vis
  refine⟨u,r,?_⟩
  rcases l with⟨hk',_⟩|⟨_,c,hc,hcell⟩
  ·have hk'':X.env.scope.names.lookup y=some .local:=hk'
   rcases sc.fr _ hm rfl with q|q
   ·have q':X.env.scope.names.lookup y=some .cell:=q
    rw[hk''] at q';cases q'
   ·have q':X.env.scope.names.lookup y=some .free:=q
    rw[hk''] at q';cases q'
  ·refine .inr ⟨zD2 (env:=X.env) hf,c,?_,cellK hc _ hcell⟩
   show(cellsFrom (C+1) scope.names (pG X.env scope.names [])).lookup y=some c
   rw[xS,lookup_append,zUq I sc hm hc]
   cases e:(cellsFrom (C+1) scope.names []).lookup y with
   |none=>rfl
   |some d =>
    have q:=sc.clk _ (Ys _ _ _ _ (abw e)) rfl
    have q':scope.names.lookup y=some .cell:=q
    rw[hf] at q';cases q'
 ·rcases Kv I sc h with q|q
  ·exact⟨_,(co.empty _ _ q).1⟩
  ·obtain⟨v,z⟩:=I.cell x c q
   exact⟨v,cellK q v z⟩
 ·rcases Kv I sc h with q|q
  ·exact I.hok.fresh (aa6 hC (aem (co.empty _ _ q).2))
  ·exact I.g8 x c q
 ·exact absurd (show p∈([]:List (Addr×Obj)) from hp) (by simp)
 ·show(je σ own.length ix).length=(nIn X.N own ix).length
  unfold je nIn
  simp
end
def Aj(X:Cx)(ifs:List Expr)(t:TT):Prop :=
 ∀(pins:List (Addr×Obj))(s:Shared)(σ:St)(H:Hp)(Q:Bool->Hp->Prop),Inv X pins σ H s->t σ H Q ->
  wpAny (model X.prog X.w) X.A (forIn ifs true λc r=>if r=true then do let ok <-isTrue c X.env (eval c X.env);pure (acn ok) else pure (acn r)) (TP X pins σ Q) X.xe s
def uy:TT:=λ_ H Q=>Q true H
theorem wT:Aj X [] uy:=λ_ _ _ H _ I h=>wpAny_tests_nil ⟨H,I,h⟩
theorem Kw(h:PT X c t):Aj X [c] t:=λpins s σ H Q I q=>wpAny_tests_one (h pins s σ H Q I q)
def Pa(n:Nat)(ix:List Nat)(g:TG)(tc:TT)(te:TE)(σ:St)(Q:VK)(J:It)(H1:Hp):Prop :=
 ∃W:Nat->Nat->List V->St->Hp->Prop,(∃m,W 0 m [] (je σ n ix) H1)/\∀i m ys σ2 H2,W i m ys σ2 H2 ->
  (J.stop i H2/\ys.length<=sizeLine/\∀p,H2 p=none->Q (.ref p) (upd H2 p (.lst ys))) \/
  (J.go i H2/\ys.length<sizeLine/\∃N:List V->St->Hp->Prop,(∀ys' σ' H',N ys' σ' H'->∃m',m'<m/\W (i+1) m' ys' σ' H') /\
   ∀x H3,J.O4 i H2 x H3->g x σ2 H3 λσ4 H4=>tc σ4 H4 λb H5=>if b=true then te σ4 H5 λy H6=>N (ys++[y]) σ4 H6 else N ys σ4 H5)
def Pb(n:Nat)(ix:List Nat)(wi:TI)(g:TG)(tc:TT)(te:TE):TE:=λσ H Q=>wi σ H (Pa n ix g tc te σ Q)
def Yu(X:Cx)(pins:List (Addr×Obj))(σ:St)(Q:VK)(acc:Value)(C:Addr)(s':Shared):Prop :=
 ∃p H',acc=.ref p/\Inv X pins σ H' s'/\(∃m,s'.heap.Ns C m)/\lU X pins H' C/\Q (.ref p) H'
theorem Yv{X:Cx}{α:Type}{t:Sem α}{Q Q':α->Shared->Prop}(hx:X.xe=λ_ _=>False)(h:wpAny M A t Q X.xe s)(hQ:∀a s,Q a s->Q' a s):wpAny M A t Q' E s :=
 ab9 h hQ λe s' z=>by rw[hx] at z;exact z.elim
section
variable{X:Cx}{elt tg iter:Expr}{ifs:List Expr}{scope:Scope}{pos:Pos}{own:List Str}{ix:List Nat}{wi:TI}{g:TG}{tc:TT}{te:TE}
theorem zGv{RR:Value->Addr->Result->Shared->Prop}(hx:X.xe=λ_ _=>False)(hc:X.calm=true)(sc:jD X.env.scope X.N scope ix)(I:Inv X pins σ H s)(T:Turn X.prog X.w X.K tg J fp it tn)(st:tn 0 s.heap)(fo:∀b∈fp,lU X pins H b)(hg:∀C s H fp,PG (dJ X scope own ix C s H fp) tg g)(hif:∀C s H fp,Aj (dJ X scope own ix C s H fp) ifs tc)(he:∀C s H fp,PE (dJ X scope own ix C s H fp) elt te)(rd:Pa own.length ix g tc te σ Q J H)(hRR:∀acc C s',Yu X pins σ Q acc C s'->RR acc C (.ok .next) s') :
  wpAny (model X.prog X.w) X.A (newList []) (λacc s₃=>wpAny (model X.prog X.w) X.A (newFunctionEnv scope X.env.globals (pG X.env scope.names []) [] X.env.qual none .none (some X.env)) (λcenv s₄ =>
   codeAny (model X.prog X.w) X.A (.compStart (.ListComp elt [⟨tg,iter,ifs,0⟩] scope pos) 0 (.ref it) acc { cenv with scope:=relabel scope X.env }) (RR acc cenv.locals) s₄) E s₃) E s:=by
 refine abx (zEc (λh₁ hns₁ hsb₁ co=>?_))
 dsimp only at hns₁ hsb₁ co ⊢
 generalize hD':s.heap.objs.size=D at hns₁ hsb₁ co ⊢
 generalize hH2:s.heap.push { cls:=.type "list",dict:=none,data:=.seq ([]:List Value).toArray }=G at hns₁ hsb₁ co ⊢
 generalize hC':G.objs.size=C at hns₁ hsb₁ co ⊢
 have hC:C=D+1:=by rw[<-hC',<-hH2,size_push,hD']
 have hDC:D≠C:=by rw[hC];exact aay (acg _)
 have hle:s.heap.objs.size<=C:=by rw[hC,hD'];exact acd _
 have old:∀b o,s.heap.get? b=some o->h₁.get? b=some o:=λb o e=>by
  exact hsb₁ b o (hH2▸get?_push_of_some _ e)
 have oD:h₁.get? D=some { cls:=.type "list",data:=.seq ([]:List Value).toArray 0 }:=by
  refine hsb₁ D _ ?_
  rw[<-hH2,<-hD']
  exact get?_push_size _ rfl
 have RB:∀b∈fp,b<s.heap.objs.size:=λb hb=>by
  obtain⟨o,e,_⟩:=T.obj 0 _ st b hb
  exact lt_size e
 have nDf:∀b∈fp,b≠D:=λb hb=>by rw[<-hD'];exact aay (RB b hb)
 have sD:s.heap.get? D=none:=by
  cases e:s.heap.get? D with
  |none=>rfl
  |some o=>exact absurd (lt_size e) (by rw[hD'];exact ab2 _)
 have hDn:H D=none:=I.hok.fresh (by rw[hD'];exact aau _)
 have I0:Inv (dJ X scope own ix C s H fp) [] (je σ own.length ix) H { s with heap:=h₁ }:=I.comp sc fo RB hle hns₁ old co
 have st0:tn 0 h₁:=T.keep 0 _ _ st λb _ o e=>old b o e
 have hx':(dJ X scope own ix C s H fp).xe=λ_ _=>False:=hx
 have RG:D≠(dJ X scope own ix C s H fp).env.locals:=hDC
 have Dex:D∈(dJ X scope own ix C s H fp).ex\/(dJ X scope own ix C s H fp).s₀.heap.objs.size<=D:=.inr (by show s.heap.objs.size<=D;rw[hD'];exact aau _)
 have Dfs:D∉(dJ X scope own ix C s H fp).fs:=I0.JG (a:=D) |> λk=>λz=>by
  have z':D∈frs X.stack:=z
  rcases mem_cons.mp (I.p8 D z') with q|q
  ·exact absurd (q▸I.lt) (by rw[hD'];exact ab2 _)
  ·exact I.JG (by rw[hD'];exact aau _) q
 have RJ:∀x c,(dJ X scope own ix C s H fp).env.cells.lookup x=some c->c≠D:=λx c e z=>by
  rcases Kv I sc e with q|q
  ·have w1:=(co.empty _ _ q).2
   rw[z,hC] at w1
   omega
  ·obtain⟨v,q⟩:=I.cell x c q
   exact absurd (aa0 q.lt (by rw[z,hD'];exact aau _)) (ab2 _)
 have Yw:∀{H':Hp}{pl:List (Addr×Obj)},(∀b∈fp,H' b=none)->(∀p∈pl,p.1=D)->∀b∈fp,lU (dJ X scope own ix C s H fp) pl H' b:=λ{H' pl} hn hp b hb=>by
  obtain⟨f0,f1,f2,f3,f4,f5⟩:=fo b hb
  refine⟨hn b hb,(I0.ok.Vn b hb).1,I0.ok.zp b hb,.inl hb,(I0.ok.Vn b hb).2,λp hp' z=>?_⟩
  rcases mem_append.mp hp' with q|q
  ·exact absurd (show p∈([]:List (Addr×Obj)) from q) (by simp)
  ·exact nDf b hb (by rw[<-z];exact hp p q)
 obtain⟨W,⟨m0,w0⟩,step⟩:=rd
 have loop:codeAny (model X.prog X.w) X.A (.compLoop (.ListComp elt [⟨tg,iter,ifs,0⟩] scope pos) 0 (.ref it) (.ref D) (dJ X scope own ix C s H fp).env) (RR (.ref D) C) { s with heap:=h₁ }:=by
  refine zJr (λn s'=>∃i ys σ' H' its k,Inv (dJ X scope own ix C s H fp) [] σ' H' s'/\tn i s'.heap/\(∀b∈fp,H' b=none)/\H' D=none/\s'.heap.get? D=some { cls:=.type "list",data:=.seq (toArray its) k }/\Vals ys its/\W i n ys σ' H') ?_ m0
   ⟨0,[],_,H,[],0,I0,st0,λb hb=>(fo b hb).1,hDn,oD,.nil,w0⟩
  rintro n s1 ⟨i,ys,σ1,H1,its,k,I1,tn1,V1,D1,o1,Ky,w1⟩
  have J1:Inv (dJ X scope own ix C s H fp) [(D,{ cls:=.type "list",data:=.seq (toArray its) k })] σ1 H1 s1:=I1.jW λp hp=>by
   have e:p=(D,{ cls:=.type "list",data:=.seq (toArray its) k }):=by simpa using hp
   subst e
   exact⟨o1,D1,RG,Dfs,λv z=>by cases z⟩
  have single:∀p∈[((D,{ cls:=.type "list",data:=.seq (toArray its) k }):Addr×Obj)],p.1=D:=λp hp=>by
   have e:p=(D,{ cls:=.type "list",data:=.seq (toArray its) k }):=by simpa using hp
   rw[e]
  rcases step i n ys σ1 H1 w1 with⟨stop,hz,qn⟩|⟨go,hz,N,hN,stp⟩
  ·refine aP (T.done (dJ X scope own ix C s H fp) rfl rfl rfl hc i _ s1 σ1 H1 _ J1 (Yw V1 single) tn1 stop) λr s2 ⟨hr,I2⟩=>?_
   subst hr
   obtain⟨e2,_⟩:=I2.pin (D,{ cls:=.type "list",data:=.seq (toArray its) k }) (mem_append_right _ (by simp))
   obtain⟨m2,Yx,_⟩:=I2.loc
   refine hRR _ _ _ ⟨D,upd H1 D (.lst ys),rfl,?_,⟨m2,Yx⟩,?_,qn D D1⟩
   ·refine I.call' (ch:=fp) I2.os (Un.track I2.base sD hDn) (I2.hok.track D1 ⟨hz,its,k,Ky,e2⟩) I2.bare λb hb=>?_
    obtain⟨f0,f1,f2,f3,f4,f5⟩:=fo b hb
    exact⟨f3,f1,f4,f5⟩
   ·refine I.lV hle ?_
    rw[zQ hDC.symm]
    exact I2.free
  ·refine aP (T.item (dJ X scope own ix C s H fp) rfl rfl rfl hc i _ s1 σ1 H1 _ J1 (Yw V1 single) tn1 go) λr s2 ⟨u,hr,h2⟩=>?_
   subst hr
   refine aP h2 λ_ s3 ⟨x,H3,I3,rx,y3,Yy,Vu⟩=>?_
   have I3':=I3.pinned (Yw Vu single) (T.obj _ _ Yy)
   refine Yv hx' (hg C s H fp _ s3 σ1 H3 x u _ I3' rx (stp x H3 y3)) λ_ s4 ⟨σ4,H4,I4,q4⟩=>?_
   refine Yv hx' (hif C s H fp _ s4 σ4 H4 _ I4 q4) λb s5 ⟨H5,I5,q5⟩=>?_
   have back:∀{σ7:St}{H7:Hp}{s7:Shared},Inv (dJ X scope own ix C s H fp) ([(D,{ cls:=.type "list",data:=.seq (toArray its) k })]++HD fp s3.heap) σ7 H7 s7 ->
     tn (i+1) s7.heap/\(∀b∈fp,H7 b=none)/\H7 D=none/\s7.heap.get? D=some { cls:=.type "list",data:=.seq (toArray its) k }:=λ{σ7 H7 s7} I7=>by
    have RK:=I7.pin (D,{ cls:=.type "list",data:=.seq (toArray its) k }) (mem_append_right _ (mem_append_left _ (by simp)))
    refine⟨T.keep _ _ _ Yy λb hb o e=>(I7.pin (b,o) (mem_append_right _ (mem_append_right _ (vR hb e)))).1,λb hb=>?_,RK.2.1,RK.1⟩
    obtain⟨o,e,d⟩:=T.obj _ _ Yy b hb
    exact(I7.pin (b,o) (mem_append_right _ (mem_append_right _ (vR hb e)))).2.1
   cases b with
   |false =>
    obtain⟨m',hm,w'⟩:=hN _ _ _ (show N ys σ4 H5 from q5)
    obtain⟨b1,b2,b3,b4⟩:=back I5
    exact⟨m',hm,i+1,ys,σ4,H5,its,k,I5.jW (λp hp=>absurd hp (by simp)),b1,b2,b3,b4,Ky,w'⟩
   |true =>
    rw[if_pos rfl]
    refine Yv hx' (he C s H fp _ s5 σ4 H5 _ I5 q5) λv s6 ⟨y,H6,I6,ry,q6⟩=>?_
    obtain⟨m',hm,w'⟩:=hN _ _ _ q6
    obtain⟨b1,b2,b3,b4⟩:=back I6
    have zl:its.length=ys.length:=Ky.length.symm
    refine afd F.slot_list_append ⟨_,b4,rfl⟩ F.entry_list_append (F.args_list_append_2 _ _) (PySem.list_append D its.toArray k v (by rw[size_toArray];omega)) ⟨b4,?_⟩
    have q:=PySem.IsL.update b4 (λxs=>xs.push v)
    have keep:∀b o,b≠D->s6.heap.get? b=some o->(s6.heap.update D (ac5 λxs=>xs.push v)).get? b=some o:=λb o hb e=>(get?_update_other s6.heap _ (aco hb)).trans e
    refine⟨m',hm,i+1,ys++[y],σ4,H6,its++[v],(if(its.toArray.push v).size==its.toArray.size then k else k+1),?_,T.keep _ _ _ b1 (λb hb o e=>keep b o (nDf b hb) e),b2,b3,?_,Ky.append (.cons ry .nil),w'⟩
    ·exact(I6.jW (Hu:=[]) λp hp=>absurd hp (by simp)).turned (t':=s6.toks) keep b3 RG Dex RJ λp hp=>absurd (show p∈([]:List (Addr×Obj)) from hp) (by simp)
    ·rw[show(its++[v]).toArray=its.toArray.push v by simp]
     exact q
 exact codeAny_compStart_list loop (T.self X.A 0 _ _ _ st0 loop)
theorem Cr(hx:X.xe=λ_ _=>False)(hc:X.calm=true)(ho:V0 X.env.scope X.N scope ix=true)(hi:PI X tg iter wi)(hg:∀C s H fp,PG (dJ X scope own ix C s H fp) tg g)(hif:∀C s H fp,Aj (dJ X scope own ix C s H fp) ifs tc)(he:∀C s H fp,PE (dJ X scope own ix C s H fp) elt te)(hs:∀x,foldedSetIterable iter X.env x=pure x:=by intro _;rfl):PE X (.ListComp elt [⟨tg,iter,ifs,0⟩] scope pos) (Pb own.length ix wi g tc te):=by
 intro pins s σ H Q I h
 have sc:=zJp ho
 rw[eval_ListComp]
 refine wpAny_comprehension_free (use:=none) rfl hs (zDb (Yt I sc)) sc.kind sc.nm (aP (hi pins s σ H _ I h) λv s1 h1=>aP h1 λitv s2 h2=>?_)
 obtain⟨it,fp,tn,J,H2,e,I2,T,st2,f2,rd⟩:=h2
 subst e
 refine zGv (RR:=λacc C=>compPost (model X.prog X.w) X.A X.xe none (EP X pins σ Q) acc C) hx hc sc I2 T st2 f2 hg hif he rd ?_
 rintro acc C s' ⟨p,H',rfl,I',⟨m,hns⟩,fC,q⟩
 obtain⟨f0,f1,f2,f3,f4,f5⟩:=fC
 exact⟨m,hns,λh' hs'=>⟨.ref p,H',I'.turned (t':=s'.toks) (λb o hb e=>(hs'.2 b hb).trans e) f0 f1 f3 f4 f5,rfl,q⟩⟩
theorem uK{spos:Pos}(hN:X.N.Nodup)(hi':X.N[i]?=some x)(Pg:X.env.scope.names.lookup x=some .local)(hx:X.xe=λ_ _=>False)(hc:X.calm=true)(ho:V0 X.env.scope X.N scope ix=true)(hi:PI X tg iter wi)(hg:∀C s H fp,PG (dJ X scope own ix C s H fp) tg g)(hif:∀C s H fp,Aj (dJ X scope own ix C s H fp) ifs tc)(he:∀C s H fp,PE (dJ X scope own ix C s H fp) elt te)(hsw:swapsWith (.ListComp elt [⟨tg,iter,ifs,0⟩] scope pos) (some (.Name x pos')) spos.line X.env=pure true:=by rfl)(hs:∀x,foldedSetIterable iter X.env x=pure x:=by intro _;rfl):PS X (.Assign [.Name x pos'] (.ListComp elt [⟨tg,iter,ifs,0⟩] scope pos) spos) (mO (Pb own.length ix wi g tc te) (pF i)):=by
 intro pins s σ H D I h
 have sc:=zJp ho
 rw[exec_Assign_Name_used _ _ _ _ hsw]
 refine aaq (ae9 (aaq ?_))
 show wpAny _ X.A (do let _ <-comprehension (.ListComp elt [⟨tg,iter,ifs,0⟩] scope pos) scope X.env _ (newList []) false (eval iter X.env) (some (assign (.Name x pos') X.env))) _ _ s
 refine aaq (ab9 (wpAny_comprehension_free (use:=some (assign (.Name x pos') X.env)) (Q:=λ_ s'=>SP X pins D .next s') rfl hs (zDb (Yt I sc)) sc.kind sc.nm
  (aP (hi pins s σ H _ I h) λv s1 h1=>aP h1 λitv s2 h2=>?_)) (λ_ s' hq=>aar (aar hq)) λ_ _ e=>e)
 obtain⟨it,fp,tn,J,H2,e,I2,T,st2,f2,rd⟩:=h2
 subst e
 refine zGv (RR:=λacc C=>compPost (model X.prog X.w) X.A X.xe (some (assign (.Name x pos') X.env)) (λ_ s'=>SP X pins D .next s') acc C) hx hc sc I2 T st2 f2 hg hif he rd ?_
 rintro acc C s' ⟨p,H',rfl,I',⟨m,hns⟩,fC,q⟩
 obtain⟨f0,f1,f2,f3,f4,f5⟩:=fC
 show wpAny _ X.A (assign (.Name x pos') X.env (.ref p)) _ _ _
 refine wpAny_assign_Name (zIf (v:=.ref p) I' hN hi' (.inl Pg) rfl (λs'' I'' ⟨a,hsa,ha⟩=>?_) (.inr Pg))
 have haC:C≠a:=by
  rcases ha with ha|ha
  ·rw[ha];exact f1
  ·exact(f4 x a ha).symm
 exact⟨m,hns.sameBut hsa haC,λh' hs'=>⟨_,H',I''.turned (t':=s''.toks) (λb o hb e=>(hs'.2 b hb).trans e) f0 f1 f3 f4 f5,q⟩⟩
end
section
variable{n:Nat}{ix:List Nat}{g:TG}{tc:TT}{te:TE}{σ:St}{Q:VK}{H:Hp}
theorem zRz{K:PySem.W.Frag}{a:Addr}{xs:List V}(Pv:Nat->List V->St->Hp->Prop)(h0:Pv 0 [] (je σ n ix) H)(hl:∀i ys σ H,i<=xs.length->Pv i ys σ H->aW K H a xs/\ys.length<=i)(hz:xs.length<sizeLine)(hs:∀i x ys σ H,xs[i]?=some x->Pv i ys σ H->g x σ H λσ4 H4=>tc σ4 H4 λb H5=>if b=true then te σ4 H5 λy H6=>Pv (i+1) (ys++[y]) σ4 H6 else Pv (i+1) ys σ4 H5)(hd:∀ys σ H,Pv xs.length ys σ H->∀p,H p=none->Q (.ref p) (upd H p (.lst ys))):Pa n ix g tc te σ Q (O7 K a) H:=by
 refine⟨λi m ys σ H=>m=xs.length-i/\i<=xs.length/\Pv i ys σ H,⟨xs.length,by simp,abd _,h0⟩,?_⟩
 rintro i m ys σ H ⟨rfl,hi,p⟩
 obtain⟨q,hy⟩:=hl i ys σ H hi p
 by_cases hlt:i<xs.length
 ·refine .inr ⟨⟨xs,xs[i],q,by simp[hlt]⟩,by omega,Pv (i+1),λys' σ' H' p'=>⟨xs.length-(i+1),by omega,rfl,hlt,p'⟩,λx H' y=>?_⟩
  obtain⟨e,y⟩:=y
  subst e
  exact hs i x ys σ _ (y xs q) p
 ·have e:i=xs.length:=by omega
  subst e
  exact .inl ⟨⟨xs,q,aau _⟩,by omega,hd ys σ H p⟩
theorem zUo{K:PySem.W.Frag}{a:Addr}{xs:List V}(Pv:Nat->List V->St->Hp->Prop)(h0:Pv 0 [] (je σ n ix) H)(hl:∀i ys σ H,i<=xs.length->Pv i ys σ H->cO K H a xs/\ys.length<=i)(hz:xs.length<sizeLine)(hs:∀i x ys σ H,xs[i]?=some x->Pv i ys σ H->g x σ H λσ4 H4=>tc σ4 H4 λb H5=>if b=true then te σ4 H5 λy H6=>Pv (i+1) (ys++[y]) σ4 H6 else Pv (i+1) ys σ4 H5)(hd:∀ys σ H,Pv xs.length ys σ H->∀p,H p=none->Q (.ref p) (upd H p (.lst ys))):Pa n ix g tc te σ Q (Vt K a) H:=by
 refine⟨λi m ys σ H=>m=xs.length-i/\i<=xs.length/\Pv i ys σ H,⟨xs.length,by simp,abd _,h0⟩,?_⟩
 rintro i m ys σ H ⟨rfl,hi,p⟩
 obtain⟨q,hy⟩:=hl i ys σ H hi p
 by_cases hlt:i<xs.length
 ·refine .inr ⟨⟨xs,xs[i],q,by simp[hlt]⟩,by omega,Pv (i+1),λys' σ' H' p'=>⟨xs.length-(i+1),by omega,rfl,hlt,p'⟩,λx H' y=>?_⟩
  obtain⟨e,y⟩:=y
  subst e
  exact hs i x ys σ _ (y xs q) p
 ·have e:i=xs.length:=by omega
  subst e
  exact .inl ⟨⟨xs,q,aau _⟩,by omega,hd ys σ H p⟩
end
def Ite(K:PySem.W.Frag)(a:Addr):It :=
 ⟨λi H=>∃xs x,aW K H a xs/\xs[i]?=some x,λi H v H'=>∃t x,v=.ref t/\H t=none/\H'=upd H t (.tup [.int i,x])/\∀xs,aW K H a xs->xs[i]?=some x,λi H=>∃xs,aW K H a xs/\xs.length<=i⟩
theorem zPa{P:Program}{w:World}{K:PySem.W.Frag}{elts:List Expr}{k:Nat}{tp:Pos}(a e it:Addr)(hne:e≠it) :
  Turn P w K (.Tuple elts k tp) (Ite K a) [e,it] e (λi h=>(∃old,IsEnum h e it ((i:Nat):Int) old)/\h.IsListIter it a i) where
 mem:=by simp
 obj:=λi h st b hb=>by
  obtain⟨⟨old,he⟩,o,ho,c,d⟩:=st
  have hb':b=e\/b=it:=by simpa using hb
  rcases hb' with rfl|rfl
  ·exact⟨_,he,λv z=>by
    have z':afm _=Data.cell v:=z
    cases z'⟩
  ·exact⟨o,ho,λv z=>by rw[d] at z;cases z⟩
 keep:=λi h h' st k=>⟨let⟨old,he⟩:=st.1;⟨old,k e (by simp) _ he⟩,st.2.at λo q=>k it (by simp) o q⟩
 item:=by
  intro X hP hw hK hc i pins s σ H E I hf st hg
  subst hP hw hK
  obtain⟨xs,x,hq,hx⟩:=hg
  obtain⟨its,rv,p,hz⟩:=I.list hq
  obtain⟨u,hu,ru⟩:=rv.get hx
  obtain⟨⟨old,he⟩,hit⟩:=st
  obtain⟨f0,f1,f2,f3,f4,f5⟩:=hf e (by simp)
  obtain⟨g0,g1,g2,g3,g4,g5⟩:=hf it (by simp)
  refine wpAny_pyNext_enum_item he hit p.isList (x:=u) (by simpa using hu) hne λh₁ heo hit₁ ht₁ hz₁ hk₁=>?_
  refine⟨_,rfl,wpAny_letOwnedTupleGo_enum (s:={ s with heap:=h₁,toks:=s.toks+1 }) heo λh₂ he₂ hs₂=>?_⟩
  replace hs₂:SameBut e h₁ h₂:=hs₂
  have hel:e<s.heap.objs.size:=lt_size he
  have nT:H s.heap.objs.size=none:=I.hok.fresh (aau _)
  have ht₂:h₂.get? s.heap.objs.size=some { cls:=.type "tuple",data:=.seq #[.int i s.toks,u] }:=(hs₂.2 _ (adh hel)).trans ht₁
  have kk:∀b o,b≠e->b≠it->s.heap.get? b=some o->h₂.get? b=some o:=λb o h1 h2 q=>(hs₂.2 b h1).trans (hk₁ b o h1 h2 q)
  have lt:∀b o,s.heap.get? b=some o->b≠s.heap.objs.size:=λb o q=>aay (lt_size q)
  have there:∀b o,s.heap.get? b=some o->b∉[e,it]->∃o',h₂.get? b=some o':=λb o q hx=>⟨o,kk b o (λz=>hx (by simp[z])) (λz=>hx (by simp[z])) q⟩
  have U:Un (frs X.stack) [e,it] H (upd H s.heap.objs.size (.tup [.int i,x])) s.heap h₂ :=
   ⟨λb o q _ _ hx=>kk b o (λz=>hx (by simp[z])) (λz=>hx (by simp[z])) q,λb o q _ _ hx=>⟨o.slots,kk b o (λz=>hx (by simp[z])) (λz=>hx (by simp[z])) q⟩,
    λb o q n _=>by rw[zQ (lt b o q)];exact n,there,λb ys q=>by rw[zQ (zO q nT)];exact q,λb o ys q=>by rw[zQ (zO q nT)];exact q,λb ps q=>⟨#[],by rw[zQ (zO q nT),q];simp⟩⟩
  have ok:gZ X.prog X.w (upd H s.heap.objs.size (.tup [.int i,x])) h₂:=λb o q=>by
   by_cases hb:b=s.heap.objs.size
   ·subst hb
    rw[zK] at q
    cases q
    exact⟨by show 2<=sizeLine;decide,[.int i s.toks,u],.cons ⟨_,rfl⟩ (.cons ru .nil),⟨_,ht₂,rfl,_,rfl⟩⟩
   ·rw[zQ hb] at q
    refine(I.hok b o q).stay (λc v hc' z=>?_) (λc z=>by rw[zQ (zO z nT)];exact z) λc ys z=>by rw[zQ (zO z nT)];exact z
    have hcs:∃o',H c=some o':=by
     rcases hc' with rfl|hc'
     ·exact⟨o,q⟩
     ·exact⟨_,hc'⟩
    obtain⟨o',ho'⟩:=hcs
    exact kk c v (zO ho' f0) (zO ho' g0) z
  have I2:=I.call (h':=h₂) (g':=s.gens) (t':=s.toks+1) (d':=s.drawn) (ch:=[e,it]) U ok I.bare λb hb=>by
   have hb':b=e\/b=it:=by simpa using hb
   rcases hb' with rfl|rfl
   ·exact⟨f3,f1,f4,f5⟩
   ·exact⟨g3,g1,g4,g5⟩
  refine⟨.ref s.heap.objs.size,_,I2,rfl,⟨s.heap.objs.size,x,rfl,nT,rfl,λys hy=>by rw[I.mL hy hq];exact hx⟩,⟨⟨_,by rw[show((i+1:Nat):Int)=(i:Int)+1 by push_cast;rfl];exact he₂⟩,hit₁.extBut hs₂.extBut hne.symm⟩,λb hb=>?_⟩
  have hb':b=e\/b=it:=by simpa using hb
  obtain⟨o2,ho2,_⟩:=hit
  rcases hb' with rfl|rfl
  ·rw[zQ (aay hel)];exact f0
  ·rw[zQ (aay (lt_size ho2))];exact g0
 done:=by
  intro X hP hw hK hc i pins s σ H E I hf st hg
  subst hP hw hK
  obtain⟨xs,hq,hx⟩:=hg
  obtain⟨its,rv,p,hz⟩:=I.list hq
  obtain⟨⟨old,he⟩,hit⟩:=st
  obtain⟨g0,g1,g2,g3,g4,g5⟩:=hf it (by simp)
  have hl:=rv.length
  exact wpAny_pyNext_enum_end (I.ok.hd hc) he hit p.isList (by simp;omega) λh' eb=>⟨rfl,I.turned (t':=s.toks) (λb o hb e=>eb b o hb e) g0 g1 g3 g4 g5⟩
 self:=λ_ _ _ _ _ st h=>let⟨⟨_,he⟩,_⟩:=st;wpAny_pyIter_enum he h
def Ak(K:PySem.W.Frag)(ta:TA):TI:=λσ H R=>ta σ H λvs H1=>∃a,vs=[.ref a]/\(∃xs,aW K H1 a xs)/\R (Ite K a) H1
theorem lW:bootBuiltins "enumerate" = some (.type "enumerate"):=by decide +kernel
theorem zP3(hg:Gl X "enumerate")(hm:X.mg "enumerate" = none)(ha:PA X [a] ta)(hs:starEach [a] X.env=[(false,eval a X.env)]:=by rfl) :
  PI X (.Tuple elts k tp) (.Call (.Name "enumerate" p) [a] [] pos) (Ak X.K ta):=by
 intro pins s σ H R I h
 refine Call_ (Ck I hg hm lW (abr (aP (ha pos pins s σ H _ I h) λus s1 ⟨vs,H1,I1,r1,q1⟩=>?_) hs rfl))
 obtain⟨l,e,⟨xs,hq⟩,q⟩:=q1
 subst e
 cases r1 with
 |cons r rr =>
  cases rr
  cases r
  obtain⟨its,rv,p,hz⟩:=I1.list hq
  refine call_enumerate_list p.isList λh' hE hI hsz hk=>wpAny_pyIter_enum hE ?_
  have I2:Inv X pins σ H1 { s1 with heap:=h',toks:=s1.toks }:=I1.kept hk
  refine⟨s1.heap.objs.size+1,[s1.heap.objs.size+1,s1.heap.objs.size],_,_,H1,rfl,I2,zPa l _ _ (Nat.succ_ne_self _),⟨⟨.none,hE⟩,hI⟩,λb hb=>?_,q⟩
  have hb':b=s1.heap.objs.size+1\/b=s1.heap.objs.size:=by simpa using hb
  rcases hb' with rfl|rfl
  ·exact I1.lV (acd _) (I1.hok.fresh (acd _))
  ·exact I1.lV (aau _) (I1.hok.fresh (aau _))
theorem zUd{K:PySem.W.Frag}{a:Addr}{xs:List V}{g:TG}{tb:TS}{D:Ends}{σ:St}{H:Hp}(Pv:Nat->St->Hp->Prop)(h0:Pv 0 σ H)(hl:∀i σ H,i<=xs.length->Pv i σ H->aW K H a xs)(hs:∀i x t σ H,xs[i]?=some x->H t=none->Pv i σ H->g (.ref t) σ (upd H t (.tup [.int i,x])) λσ2 H2=>tb { D with nx:=Pv (i+1),ct:=Pv (i+1),bk:=D.nx } σ2 H2)(hd:∀σ H,Pv xs.length σ H->D.nx σ H) :
  ∃W:Nat->Nat->St->Hp->Prop,(∃m,W 0 m σ H)/\∀i m σ H,W i m σ H ->
   ((Ite K a).stop i H/\D.nx σ H)\/((Ite K a).go i H/\∃N:St->Hp->Prop,(∀σ' H',N σ' H'->∃m',m'<m/\W (i+1) m' σ' H')/\∀x H',(Ite K a).O4 i H x H'->g x σ H' λσ2 H2=>tb { D with nx:=N,ct:=N,bk:=D.nx } σ2 H2):=by
 refine⟨λi m σ H=>m=xs.length-i/\i<=xs.length/\Pv i σ H,⟨xs.length,by simp,abd _,h0⟩,?_⟩
 rintro i m σ H ⟨rfl,hi,p⟩
 have q:=hl i σ H hi p
 by_cases hlt:i<xs.length
 ·refine .inr ⟨⟨xs,xs[i],q,by simp[hlt]⟩,Pv (i+1),λσ' H' p'=>⟨xs.length-(i+1),by omega,rfl,hlt,p'⟩,λx H' y=>?_⟩
  obtain⟨t,x',rfl,ht,rfl,y⟩:=y
  exact hs i x' t σ H (y xs q) ht p
 ·have e:i=xs.length:=by omega
  subst e
  exact .inl ⟨⟨xs,q,aau _⟩,hd σ H p⟩
def Yz(a:Str)(te:TE):TE:=λσ H Q=>te σ H λx H1=>(∃i,x=.int i/\i.natAbs.log2<1920/\Q (.str (a++adi (toString i))) H1)\/∃z,x=.str z/\z.length<=1000/\Q (.str (a++z)) H1
theorem zEs(x y:Str):(x++y).length=x.length+y.length:=by rw[<-strLen_append]
theorem Al{a:Str}(he:PE X e te)(hl:a.length<=1000):PE X (.JoinedStr [.Constant (.str a) j p1,.FormattedValue e (-1) none p2] pos) (Yz a te):=by
 intro pins s σ H Q I h
 refine JoinedStr_many (joinParts_cons (Calls.Constant_str ?_))
 have e0:(ad2++a)=a:=by
  cases a with
  |mk c=>show Str.mk _=_;simp[ad2]
 refine⟨by rw[e0];exact aa6 hl (by decide),?_⟩
 rw[e0]
 have I0:=I.tok (s.toks+1)
 refine joinParts_cons (FormattedValue_plain (aP (he pins _ σ H _ I0 h) λu s1 ⟨x,H1,I1,r1,q1⟩=>?_))
 rcases q1 with⟨i,rfl,hd,q⟩|⟨z,rfl,hz,q⟩
 ·obtain⟨t,rfl⟩:=r1
  refine formatField_int_small hd ?_
  have len:(a++adi (toString i)).length<=sizeLine:=by
   have:=int_text_len_1921 hd
   rw[zEs]
   exact aa6 (show a.length+(adi (toString i)).length<=4000 by omega) (by decide)
  refine⟨len,joinParts_nil ?_ len⟩
  exact⟨.str (a++adi (toString i)),H1,(I1.tok (s1.toks+1+1)).tok _,⟨_,rfl⟩,q⟩
 ·obtain⟨t,rfl⟩:=r1
  have len:(a++z).length<=sizeLine:=by
   rw[zEs]
   exact aa6 (show a.length+z.length<=4000 by omega) (by decide)
  refine formatField_str (λt' tk=>?_) (aa6 hz (by decide))
  refine⟨len,joinParts_nil ?_ len⟩
  exact⟨.str (a++z),H1,(I1.tok tk).tok _,⟨_,rfl⟩,q⟩
def Eb(K:PySem.W.Frag)(c:Value):List V->Hp->VK->Prop:=λxs H Q=>∃x y t b,xs=[x,y]/\RelV y c/\jX K H x t/\kitOne K t c=some b/\Q (.bl b) H
theorem zUt(hc:∀y u,RelV y c->RelV y u->u=c):uo X (.builtin "isinstance") (Eb X.K c):=by
 intro pins s σ H xs us Q I r h
 obtain⟨x,y,t,b,rfl,ry,ty,e,q⟩:=h
 obtain⟨u,v,rfl,ru,rv⟩:=r.two
 obtain rfl:=hc y v ry rv
 exact zQ4 I ru ty e λtk=>⟨.bl b,H,I.tok tk,rfl,q⟩
theorem RM:∀y u,RelV y (.type n)->RelV y u->u=.type n:=λy u h1 h2=>by
 cases y<;>first
  | (cases h1;done)
  | (obtain⟨_,e⟩:=h1;cases e;done)
  | (cases h1;cases h2;rfl)
theorem uJ:∀y u,RelV y (.ref a)->RelV y u->u=.ref a:=λy u h1 h2=>by
 cases y<;>first
  | (cases h1;done)
  | (obtain⟨_,e⟩:=h1;cases e;done)
  | (cases h1;cases h2;rfl)
def YB(t:TS):TS:=λD σ H=>∃I:St->Hp->Prop,t { D with nx:=I } σ H/\∀σ' H',I σ' H'->D.nx σ' H'
theorem Kz{X:Cx}{st:Stmt}{t:TS}(h:PS X st t):PS X st (YB t):=by
 intro pins s σ H D I hw
 obtain⟨J,h1,h2⟩:=hw
 refine aP (h pins s σ H _ I h1) λf s' q=>?_
 cases f with
 |next=>obtain⟨σ',H',I',q'⟩:=q;exact⟨σ',H',I',h2 _ _ q'⟩
 |brk=>exact q
 |cont=>exact q
 |ret u=>exact q
theorem zL9{σ:St}{A B:St->Hp->Prop}(h:A (σ.set i (some x)) H):pF i x σ H (λσ4 H4=>uy σ4 H4 λb H5=>if b=true then A σ4 H5 else B σ4 H5):=by
 show if true=true then A (σ.set i (some x)) H else B (σ.set i (some x)) H
 rw[if_pos rfl]
 exact h
theorem YC{X:Cx}{K:PySem.W.Frag}(h:X.K=K){es:List Expr}{k:Nat}{t:Oz}{n:Nat}{pos:Pos}(hc:X.calm=true)(ht:QV X es t)(hn:(assignEach es X.env).length=n:=by rfl)(hst:(assignEach es X.env).findIdx? (·.1)=none:=by rfl):PG X (.Tuple es k pos) (Dp K n t):=by
 subst h
 exact JT hc ht hn hst
end L2
namespace Ts
open PySem L2
theorem au(h:H p=none)(o:HO):Same H (upd H p o):=λb u q=>by rw[zQ (zO q h)];exact q
theorem _root_.L2.Same.put(s:Same H H')(h:H p=none)(o:HO):Same H (upd H' p o):=λb u q=>by rw[zQ (zO q h)];exact s b u q
def A2{α β:Type}(R:α->β->Prop):List α->List β->Prop
 |[],[]=>True
 |x::xs,y::ys=>R x y/\A2 R xs ys
 |_,_=>False
section
variable{α β:Type}{R R':α->β->Prop}
theorem A2.len:∀{xs:List α}{ys:List β},A2 R xs ys->xs.length=ys.length
 |[],[],_=>rfl
 |_::_,_::_,h=>congrArg (· + 1) (A2.len h.2)
 |[],_::_,h=>h.elim
 |_::_,[],h=>h.elim
theorem A2.imp(f:∀x y,R x y->R' x y):∀{xs:List α}{ys:List β},A2 R xs ys->A2 R' xs ys
 |[],[],_=>trivial
 |_::_,_::_,h=>⟨f _ _ h.1,A2.imp f h.2⟩
 |[],_::_,h=>h.elim
 |_::_,[],h=>h.elim
theorem A2.app:∀{xs:List α}{ys:List β}{xs':List α}{ys':List β},A2 R xs ys->A2 R xs' ys'->A2 R (xs++xs') (ys++ys')
 |[],[],_,_,_,h=>h
 |_::_,_::_,_,_,h,h'=>⟨h.1,A2.app h.2 h'⟩
 |[],_::_,_,_,h,_=>h.elim
 |_::_,[],_,_,h,_=>h.elim
theorem A2.snoc(h:A2 R xs ys)(r:R x y):A2 R (xs++[x]) (ys++[y]):=h.app ⟨r,trivial⟩
theorem A2.at1:∀{xs:List α}{ys:List β}{i:Nat}{x:α},A2 R xs ys->xs[i]?=some x->∃y,ys[i]?=some y/\R x y
 |[],_,_,_,_,e=>by simp at e
 |_::_,_::_,0,_,h,e=>by simp at e;subst e;exact⟨_,rfl,h.1⟩
 |_::_,_::_,i+1,_,h,e=>by
  obtain⟨y,h1,h2⟩:=A2.at1 (i:=i) h.2 (by simpa using e)
  exact⟨y,by simpa using h1,h2⟩
 |_::_,[],_,_,h,_=>h.elim
theorem A2.at2:∀{xs:List α}{ys:List β}{i:Nat}{y:β},A2 R xs ys->ys[i]?=some y->∃x,xs[i]?=some x/\R x y
 |_,[],_,_,_,e=>by simp at e
 |_::_,_::_,0,_,h,e=>by simp at e;subst e;exact⟨_,rfl,h.1⟩
 |_::_,_::_,i+1,_,h,e=>by
  obtain⟨y,h1,h2⟩:=A2.at2 (i:=i) h.2 (by simpa using e)
  exact⟨y,by simpa using h1,h2⟩
 |[],_::_,_,_,h,_=>h.elim
theorem A2.set(r:R x y):∀{xs:List α}{ys:List β}(i:Nat),A2 R xs ys->A2 R (xs.set i x) (ys.set i y)
 |[],[],_,_=>trivial
 |_::_,_::_,0,h=>⟨r,h.2⟩
 |_::_,_::_,i+1,h=>⟨h.1,A2.set r i h.2⟩
 |[],_::_,_,h=>h.elim
 |_::_,[],_,h=>h.elim
theorem A2.rev:∀{xs:List α}{ys:List β},A2 R xs ys->A2 R xs.reverse ys.reverse
 |[],[],_=>trivial
 |_::_,_::_,h=>by
  rw[reverse_cons,reverse_cons]
  exact(A2.rev h.2).snoc h.1
 |[],_::_,h=>h.elim
 |_::_,[],h=>h.elim
theorem A2.tk:∀{xs:List α}{ys:List β}(i:Nat),A2 R xs ys->A2 R (xs.take i) (ys.take i)
 |[],[],_,_=>by simp[A2]
 |_::_,_::_,0,h=>trivial
 |_::_,_::_,i+1,h=>⟨h.1,A2.tk i h.2⟩
 |[],_::_,_,h=>h.elim
 |_::_,[],_,h=>h.elim
theorem A2.dr:∀{xs:List α}{ys:List β}(i:Nat),A2 R xs ys->A2 R (xs.drop i) (ys.drop i)
 |[],[],_,_=>by simp[A2]
 |_::_,_::_,0,h=>h
 |_::_,_::_,i+1,h=>A2.dr i h.2
 |[],_::_,_,h=>h.elim
 |_::_,[],_,h=>h.elim
theorem A2.of_map{f:β->α}(h:∀y,R (f y) y):∀ys:List β,A2 R (ys.map f) ys
 |[]=>trivial
 |y::ys=>⟨h y,A2.of_map h ys⟩
end
theorem A2.mR{α β:Type}{f:β->α}:∀{xs:List α}{ys:List β},A2 (λx y=>x=f y) xs ys->xs=ys.map f
 |[],[],_=>rfl
 |_::_,_::_,h=>by rw[map_cons,h.1,A2.mR h.2]
 |[],_::_,h=>h.elim
 |_::_,[],h=>h.elim
class Rp (K:PySem.W.Frag) (α:Type) where
 rp:Hp->V->α->Prop
 mono:∀{F F':Hp}{v:V}{a:α},Same F F'->rp F v a->rp F' v a
abbrev rp(K:PySem.W.Frag){α:Type}[Rp K α]:Hp->V->α->Prop:=Rp.rp (K:=K)
class Nn (K:PySem.W.Frag) (α:Type) [Rp K α]:Prop where
 nn:∀{F:Hp}{v:V}{a:α},rp K F v a->v≠.non
class Sc (K:PySem.W.Frag) (α:Type) [Rp K α] where
 val:α->V
 is:∀{F:Hp}{v:V}{a:α},rp K F v a↔v=val a
 inj:∀{a b:α},val a=val b->a=b
section
variable{K:PySem.W.Frag}
instance:Rp K Int:=⟨λ_ v n=>v=.int n,λ_ h=>h⟩
instance:Rp K Bool:=⟨λ_ v n=>v=.bl n,λ_ h=>h⟩
instance:Rp K Str:=⟨λ_ v n=>v=.str n,λ_ h=>h⟩
instance:Rp K Unit:=⟨λ_ v _=>v=.non,λ_ h=>h⟩
instance{α:Type}[Rp K α]:Rp K (Option α):=⟨λF v a=>match a with
 |none=>v=.non
 |some x=>v≠.non/\rp K F v x,λ{F F' v a} s h=>match a,h with
 |none,h=>h
 |some x,h=>⟨h.1,Rp.mono s h.2⟩⟩
instance{α:Type}[Rp K α]:Rp K (List α):=⟨λF v xs=>∃p vs,v=.ref p/\F p=some (.lst vs)/\A2 (rp K F) vs xs,λs ⟨p,vs,h1,h2,h3⟩=>⟨p,vs,h1,s _ _ h2,h3.imp λ_ _=>Rp.mono s⟩⟩
instance{α β:Type}[Rp K α][Rp K β]:Rp K (α×β):=⟨λF v x=>∃p a b,v=.ref p/\F p=some (.tup [a,b])/\rp K F a x.1/\rp K F b x.2,λs ⟨p,a,b,h1,h2,h3,h4⟩=>⟨p,a,b,h1,s _ _ h2,Rp.mono s h3,Rp.mono s h4⟩⟩
structure KC where
 ns:LI
instance:Rp K KC:=⟨λF v x=>∃p,v=.ref p/\aW K F p (x.ns.map V.int),λs ⟨p,h1,h2⟩=>⟨p,h1,s.seq h2⟩⟩
instance:Nn K Int:=⟨λh=>by cases h;intro e;cases e⟩
instance:Nn K Bool:=⟨λh=>by cases h;intro e;cases e⟩
instance:Nn K Str:=⟨λh=>by cases h;intro e;cases e⟩
instance{α:Type}[Rp K α]:Nn K (List α):=⟨λ⟨_,_,h,_⟩=>by rw[h];intro e;cases e⟩
instance{α β:Type}[Rp K α][Rp K β]:Nn K (α×β):=⟨λ⟨_,_,_,h,_⟩=>by rw[h];intro e;cases e⟩
instance:Sc K Int:=⟨V.int,afh,λh=>by cases h;rfl⟩
instance:Sc K Bool:=⟨V.bl,afh,λh=>by cases h;rfl⟩
instance:Sc K Str:=⟨V.str,afh,λh=>by cases h;rfl⟩
instance{α:Type}[Rp K α][Sc K α][Nn K α]:Sc K (Option α):=⟨λa=>match a with
 |none=>.non
 |some x=>Sc.val K x,λ{F v a}=>match a with
 |none=>afh
 |some x=>⟨λh=>Sc.is.mp h.2,λh=>⟨Nn.nn (K:=K) (F:=F) (a:=x) (Sc.is.mpr h),Sc.is.mpr h⟩⟩,λ{a b} h=>match a,b,h with
 |none,none,_=>rfl
 |some x,some y,h=>by rw[Sc.inj (K:=K) (a:=x) (b:=y) h]
 |none,some y,h=>absurd h.symm (Nn.nn (K:=K) (F:=λ_=>none) (a:=y) (Sc.is.mpr rfl))
 |some x,none,h=>absurd h (Nn.nn (K:=K) (F:=λ_=>none) (a:=x) (Sc.is.mpr rfl))⟩
theorem V2{α:Type}[Rp K α][Sc K α]{a:α}(h:rp K F v a):rp K F' v a:=Sc.is.mpr (Sc.is.mp h)
inductive Md|nw|fz|hp
def dif(H H0:Hp):Hp:=λb=>match H0 b with
 |none=>H b
 |some _=>none
def ext(Fa H0 H:Hp):Hp:=λb=>match H0 b with
 |none=>H b
 |some _=>Fa b
structure Bs where
 Fa:Hp
 H0:Hp
abbrev Own:=List (Addr×HO)
def reg(B:Bs)(F H:Hp):Md->Hp
 |.nw=>dif F B.H0
 |.fz=>F
 |.hp=>H
theorem aZ:Same (dif H H0) H:=λb o h=>by
 unfold dif at h
 cases e:H0 b with
 |none=>rw[e] at h;exact h
 |some u=>rw[e] at h;cases h
theorem wF(h:H0 b=none):dif H H0 b=H b:=by
 unfold dif
 rw[h]
theorem xA(s:Same H H'):Same (dif H H0) (dif H' H0):=λb o h=>by
 unfold dif at h ⊢
 cases e:H0 b with
 |none=>rw[e] at h;exact s b o h
 |some u=>rw[e] at h;cases h
structure Ok(B:Bs)(F:Hp)(O:Own)(H:Hp):Prop where
 fh:Same F H
 h0:Same B.H0 H
 fa:∀b o,F b=some o->B.Fa b=some o\/B.H0 b=none
 fo:∀x∈O,F x.1=none/\B.H0 x.1=none/\H x.1=some x.2
 nd:(O.map (·.1)).Nodup
structure bK(B:Bs)(F H:Hp)(O:Own)(F' H':Hp):Prop where
 ff:Same F F'
 hh:Same H H'
 ok:Ok B F' O H'
 nw:∀b,F b=none->H b≠none->F' b=none
section
variable{B:Bs}{F H F' H' F2 H2:Hp}{O:Own}
theorem bK.refl(k:Ok B F O H):bK B F H O F H:=⟨.refl _,.refl _,k,λ_ h _=>h⟩
theorem bK.trans(a:bK B F H O F' H')(b:bK B F' H' O F2 H2):bK B F H O F2 H2 :=
 ⟨a.ff.trans b.ff,a.hh.trans b.hh,b.ok,λq h1 h2=>b.nw q (a.nw q h1 h2) λe=>h2 (a.hh.free e)⟩
theorem bK.new(k:Ok B F O H)(h:H p=none)(o:HO):bK B F H O (upd F p o) (upd H p o):=by
 have fp:=k.fh.free h
 refine⟨au fp o,au h o,⟨λb u e=>?_,k.h0.put (k.h0.free h) o,λb u e=>?_,λx hx=>?_,k.nd⟩,λb h1 h2=>?_⟩
 ·by_cases q:b=p
  ·subst q;rw[zK] at e ⊢;exact e
  ·rw[zQ q] at e ⊢;exact k.fh b u e
 ·by_cases q:b=p
  ·subst q;exact .inr (k.h0.free h)
  ·rw[zQ q] at e;exact k.fa b u e
 ·obtain⟨a1,a2,a3⟩:=k.fo x hx
  have q:x.1≠p:=zO a3 h
  exact⟨by rw[zQ q];exact a1,a2,by rw[zQ q];exact a3⟩
 ·rw[zQ λe=>h2 (by rw[e];exact h)];exact h1
theorem xE(g:bK B F H O F' H')(md:Md):Same (reg B F H md) (reg B F' H' md):=match md with
 |.nw=>xA g.ff
 |.fz=>g.ff
 |.hp=>g.hh
end
inductive Slot(K:PySem.W.Frag):Type 1
 |un
 |fz (n:Bool) {α:Type} [Rp K α] (a:α)
 |hs {α:Type} [Rp K α] (a:α)
 |nu {α:Type} [Rp K α] (a:α)
 |ow (n:Bool) {α:Type} [Rp K α] (xs:List α)
 |od {α:Type} [Rp K α] (kvs:List (Key×α))
abbrev SL(K:PySem.W.Frag):=List (Slot K)
abbrev eN:Bool->Md
 |true=>.nw
 |false=>.fz
def lo(F:Hp)(O:Own)(H:Hp):Hp:=λb=>if(F b).isSome||(O.any λx=>x.1==b) then none else H b
inductive ak(B:Bs)(F L H:Hp):SL K->St->Own->Prop
 |nil:ak B F L H [] [] []
 |un {sl:SL K} {σ:St} {O:Own} {x:Option V}:ak B F L H sl σ O->ak B F L H (.un::sl) (x::σ) O
 |fz {n:Bool} {α:Type} [Rp K α] {a:α} {sl:SL K} {σ:St} {O:Own} {v:V}:rp K (reg B F H (eN n)) v a->ak B F L H sl σ O->ak B F L H (.fz n a::sl) (some v::σ) O
 |hs {α:Type} [Rp K α] {a:α} {sl:SL K} {σ:St} {O:Own} {v:V}:rp K H v a->ak B F L H sl σ O->ak B F L H (.hs a::sl) (some v::σ) O
 |nu {α:Type} [Rp K α] {a:α} {sl:SL K} {σ:St} {O:Own} {v:V}:rp K (dif L B.H0) v a->ak B F L H sl σ O->ak B F L H (.nu a::sl) (some v::σ) O
 |ow {n:Bool} {α:Type} [Rp K α] {xs:List α} {sl:SL K} {σ:St} {O:Own} {p:Addr} {vs:List V}:A2 (rp K (reg B F H (eN n))) vs xs->ak B F L H sl σ O->ak B F L H (.ow n xs::sl) (some (.ref p)::σ) ((p,.lst vs)::O)
 |od {α:Type} [Rp K α] {kvs:List (Key×α)} {sl:SL K} {σ:St} {O:Own} {p:Addr} {ks:List (Key×V)}:A2 (λ(x:Key×V) (y:Key×α)=>x.1=y.1/\rp K F x.2 y.2) ks kvs->ak B F L H sl σ O->ak B F L H (.od kvs::sl) (some (.ref p)::σ) ((p,.dK ks)::O)
def At(B:Bs)(sl:SL K)(F:Hp)(O:Own)(H:Hp)(σ:St):Prop:=Ok B F O H/\ak B F (lo F O H) H sl σ O
abbrev jE:Slot K->Bool
 |@Slot.ow _ _ _ _ _=>true
 |@Slot.od _ _ _ _=>true
 |_=>false
abbrev cT:Slot K->Bool
 |@Slot.hs _ _ _ _=>true
 |_=>false
section
variable{B:Bs}{F H F' H' L L':Hp}{O O':Own}{sl:SL K}{σ:St}
theorem wJ(n:Bool)(hF:Same F F'):Same (reg B F H (eN n)) (reg B F' H' (eN n)):=match n with
 |true=>xA hF
 |false=>hF
theorem ak.mono(hF:Same F F')(hL:Same L L')(hH:Same H H')(h:ak B F L H sl σ O):ak B F' L' H' sl σ O:=by
 induction h with
 |nil=>exact .nil
 |un _ ih=>exact .un ih
 |fz r _ ih=>exact .fz (Rp.mono (wJ _ hF) r) ih
 |hs r _ ih=>exact .hs (Rp.mono hH r) ih
 |nu r _ ih=>exact .nu (Rp.mono (xA hL) r) ih
 |ow r _ ih=>exact .ow (r.imp λ_ _=>Rp.mono (wJ _ hF)) ih
 |od r _ ih=>exact .od (r.imp λ_ _ z=>⟨z.1,Rp.mono hF z.2⟩) ih
theorem ak.mut(hL:Same L L')(h:ak B F L H sl σ O)(hn:sl.all (λs=>!cT s)=true):ak B F L' H' sl σ O:=by
 induction h with
 |nil=>exact .nil
 |un _ ih=>exact .un (ih (by rw[all_cons,aav] at hn;exact hn.2))
 |fz r _ ih=>exact .fz (Rp.mono (wJ _ (.refl _)) r) (ih (by rw[all_cons,aav] at hn;exact hn.2))
 |hs r _ ih=>rw[all_cons,aav] at hn;exact absurd hn.1 (by simp)
 |nu r _ ih=>exact .nu (Rp.mono (xA hL) r) (ih (by rw[all_cons,aav] at hn;exact hn.2))
 |ow r _ ih=>exact .ow (r.imp λ_ _=>Rp.mono (wJ _ (.refl _))) (ih (by rw[all_cons,aav] at hn;exact hn.2))
 |od r _ ih=>exact .od r (ih (by rw[all_cons,aav] at hn;exact hn.2))
theorem YD(g:bK B F H O F' H'):Same (lo F O H) (lo F' O H'):=λb o h=>by
 unfold lo at h ⊢
 cases e:(F b).isSome||(O.any λx=>x.1==b) with
 |true=>rw[e] at h;cases h
 |false =>
  rw[e] at h
  have hb:H b=some o:=h
  rw[Bool.or_eq_false_iff] at e
  have f':F' b=none:=g.nw b (by cases q:F b with|none=>rfl|some u=>rw[q] at e;cases e.1) (by rw[hb];intro z;cases z)
  rw[f',e.2]
  exact g.hh b o hb
theorem At.grow(h:At B sl F O H σ)(g:bK B F H O F' H'):At B sl F' O H' σ:=⟨g.ok,h.2.mono g.ff (YD g) g.hh⟩
theorem ak.qQ{α:Type}[Rp K α]{a:α}(h:ak B F L H sl σ O):∀{i:Nat},sl[i]?=some (.fz n a)->∃v,σ[i]?=some (some v)/\rp K (reg B F H (eN n)) v a:=by
 induction h with
 |nil=>intro i e;simp at e
 |fz r _ ih =>
  intro i e
  cases i with
  |zero=>simp only[getElem?_cons_zero] at e;cases e;exact⟨_,rfl,r⟩
  |succ i=>exact ih (by simpa using e)
 |_ =>
  rename_i ih
  intro i e
  cases i with
  |zero=>simp only[getElem?_cons_zero] at e;cases e
  |succ i=>exact ih (by simpa using e)
theorem ak.HW{α:Type}[Rp K α]{a:α}(h:ak B F L H sl σ O):∀{i:Nat},sl[i]?=some (.hs a)->∃v,σ[i]?=some (some v)/\rp K H v a:=by
 induction h with
 |nil=>intro i e;simp at e
 |hs r _ ih =>
  intro i e
  cases i with
  |zero=>simp only[getElem?_cons_zero] at e;cases e;exact⟨_,rfl,r⟩
  |succ i=>exact ih (by simpa using e)
 |_ =>
  rename_i ih
  intro i e
  cases i with
  |zero=>simp only[getElem?_cons_zero] at e;cases e
  |succ i=>exact ih (by simpa using e)
theorem ak.Am{α:Type}[Rp K α]{a:α}(h:ak B F L H sl σ O):∀{i:Nat},sl[i]?=some (.nu a)->∃v,σ[i]?=some (some v)/\rp K (dif L B.H0) v a:=by
 induction h with
 |nil=>intro i e;simp at e
 |nu r _ ih =>
  intro i e
  cases i with
  |zero=>simp only[getElem?_cons_zero] at e;cases e;exact⟨_,rfl,r⟩
  |succ i=>exact ih (by simpa using e)
 |_ =>
  rename_i ih
  intro i e
  cases i with
  |zero=>simp only[getElem?_cons_zero] at e;cases e
  |succ i=>exact ih (by simpa using e)
theorem ak.put(h:ak B F L H sl σ O)(new:∀(sl:SL K) (σ:St) (O:Own),ak B F L H sl σ O->ak B F L H (s'::sl) (x::σ) O):∀{i:Nat},sl[i]?=some s->jE s=false->ak B F L H (sl.set i s') (σ.set i x) O:=by
 induction h with
 |nil=>intro i e;simp at e
 |un g ih =>
  intro i e o
  cases i with
  |zero=>exact new _ _ _ g
  |succ i=>exact .un (ih (by simpa using e) o)
 |fz r g ih =>
  intro i e o
  cases i with
  |zero=>exact new _ _ _ g
  |succ i=>exact .fz r (ih (by simpa using e) o)
 |hs r g ih =>
  intro i e o
  cases i with
  |zero=>exact new _ _ _ g
  |succ i=>exact .hs r (ih (by simpa using e) o)
 |nu r g ih =>
  intro i e o
  cases i with
  |zero=>exact new _ _ _ g
  |succ i=>exact .nu r (ih (by simpa using e) o)
 |ow r g ih =>
  intro i e o
  cases i with
  |zero=>simp only[getElem?_cons_zero] at e;cases e;cases o
  |succ i=>exact .ow r (ih (by simpa using e) o)
 |od r g ih =>
  intro i e o
  cases i with
  |zero=>simp only[getElem?_cons_zero] at e;cases e;cases o
  |succ i=>exact .od r (ih (by simpa using e) o)
theorem ak.own(h:ak B F L H sl σ O)(new:∀(sl:SL K) (σ:St) (O:Own),ak B F L H sl σ O->ak B F L H (s'::sl) (x::σ) (c::O)) :
  ∀{i:Nat},sl[i]?=some s->jE s=false->∃O1 O2,O=O1++O2/\ak B F L H (sl.set i s') (σ.set i x) (O1++c::O2):=by
 induction h with
 |nil=>intro i e;simp at e
 |un g ih =>
  intro i e o
  cases i with
  |zero=>exact⟨[],_,rfl,new _ _ _ g⟩
  |succ i=>obtain⟨O1,O2,q,z⟩:=ih (by simpa using e) o;exact⟨O1,O2,q,.un z⟩
 |fz r g ih =>
  intro i e o
  cases i with
  |zero=>exact⟨[],_,rfl,new _ _ _ g⟩
  |succ i=>obtain⟨O1,O2,q,z⟩:=ih (by simpa using e) o;exact⟨O1,O2,q,.fz r z⟩
 |hs r g ih =>
  intro i e o
  cases i with
  |zero=>exact⟨[],_,rfl,new _ _ _ g⟩
  |succ i=>obtain⟨O1,O2,q,z⟩:=ih (by simpa using e) o;exact⟨O1,O2,q,.hs r z⟩
 |nu r g ih =>
  intro i e o
  cases i with
  |zero=>exact⟨[],_,rfl,new _ _ _ g⟩
  |succ i=>obtain⟨O1,O2,q,z⟩:=ih (by simpa using e) o;exact⟨O1,O2,q,.nu r z⟩
 |ow r g ih =>
  intro i e o
  cases i with
  |zero=>simp only[getElem?_cons_zero] at e;cases e;cases o
  |succ i=>obtain⟨O1,O2,q,z⟩:=ih (by simpa using e) o;exact⟨_::O1,O2,by rw[q]<;>rfl,.ow r z⟩
 |od r g ih =>
  intro i e o
  cases i with
  |zero=>simp only[getElem?_cons_zero] at e;cases e;cases o
  |succ i=>obtain⟨O1,O2,q,z⟩:=ih (by simpa using e) o;exact⟨_::O1,O2,by rw[q]<;>rfl,.od r z⟩
theorem ak.pH{α:Type}[Rp K α]{xs:List α}(h:ak B F L H sl σ O):∀{i:Nat},sl[i]?=some (.ow n xs) ->
  ∃O1 O2 p vs,O=O1++(p,.lst vs)::O2/\σ[i]?=some (some (.ref p))/\A2 (rp K (reg B F H (eN n))) vs xs /\
   (∀(s':Slot K)(x:Option V)(c:Addr×HO),(∀(sl:SL K)(σ:St)(O:Own),ak B F L H sl σ O->ak B F L H (s'::sl) (x::σ) (c::O))->ak B F L H (sl.set i s') (σ.set i x) (O1++c::O2)) /\
   (∀(s':Slot K)(x:Option V),(∀(sl:SL K)(σ:St)(O:Own),ak B F L H sl σ O->ak B F L H (s'::sl) (x::σ) O)->ak B F L H (sl.set i s') (σ.set i x) (O1++O2)):=by
 induction h with
 |nil=>intro i e;simp at e
 |un g ih =>
  intro i e
  cases i with
  |zero=>simp only[getElem?_cons_zero] at e;cases e
  |succ i=>obtain⟨O1,O2,p,vs,q,h1,h2,h3,h4⟩:=ih (by simpa using e);exact⟨O1,O2,p,vs,q,h1,h2,λs' x c z=>.un (h3 s' x c z),λs' x z=>.un (h4 s' x z)⟩
 |fz r g ih =>
  intro i e
  cases i with
  |zero=>simp only[getElem?_cons_zero] at e;cases e
  |succ i=>obtain⟨O1,O2,p,vs,q,h1,h2,h3,h4⟩:=ih (by simpa using e);exact⟨O1,O2,p,vs,q,h1,h2,λs' x c z=>.fz r (h3 s' x c z),λs' x z=>.fz r (h4 s' x z)⟩
 |hs r g ih =>
  intro i e
  cases i with
  |zero=>simp only[getElem?_cons_zero] at e;cases e
  |succ i=>obtain⟨O1,O2,p,vs,q,h1,h2,h3,h4⟩:=ih (by simpa using e);exact⟨O1,O2,p,vs,q,h1,h2,λs' x c z=>.hs r (h3 s' x c z),λs' x z=>.hs r (h4 s' x z)⟩
 |nu r g ih =>
  intro i e
  cases i with
  |zero=>simp only[getElem?_cons_zero] at e;cases e
  |succ i=>obtain⟨O1,O2,p,vs,q,h1,h2,h3,h4⟩:=ih (by simpa using e);exact⟨O1,O2,p,vs,q,h1,h2,λs' x c z=>.nu r (h3 s' x c z),λs' x z=>.nu r (h4 s' x z)⟩
 |ow r g ih =>
  intro i e
  cases i with
  |zero=>simp only[getElem?_cons_zero] at e;cases e;exact⟨[],_,_,_,rfl,rfl,r,λs' x c z=>z _ _ _ g,λs' x z=>z _ _ _ g⟩
  |succ i=>obtain⟨O1,O2,p,vs,q,h1,h2,h3,h4⟩:=ih (by simpa using e);exact⟨_::O1,O2,p,vs,by rw[q]<;>rfl,h1,h2,λs' x c z=>.ow r (h3 s' x c z),λs' x z=>.ow r (h4 s' x z)⟩
 |od r g ih =>
  intro i e
  cases i with
  |zero=>simp only[getElem?_cons_zero] at e;cases e
  |succ i=>obtain⟨O1,O2,p,vs,q,h1,h2,h3,h4⟩:=ih (by simpa using e);exact⟨_::O1,O2,p,vs,by rw[q]<;>rfl,h1,h2,λs' x c z=>.od r (h3 s' x c z),λs' x z=>.od r (h4 s' x z)⟩
theorem ak.HX{α:Type}[Rp K α]{kvs:List (Key×α)}(h:ak B F L H sl σ O):∀{i:Nat},sl[i]?=some (.od kvs) ->
  ∃O1 O2 p ks,O=O1++(p,.dK ks)::O2/\σ[i]?=some (some (.ref p))/\A2 (λ(x:Key×V) (y:Key×α)=>x.1=y.1/\rp K F x.2 y.2) ks kvs /\
   (∀(s':Slot K)(x:Option V)(c:Addr×HO),(∀(sl:SL K)(σ:St)(O:Own),ak B F L H sl σ O->ak B F L H (s'::sl) (x::σ) (c::O))->ak B F L H (sl.set i s') (σ.set i x) (O1++c::O2)) /\
   (∀(s':Slot K)(x:Option V),(∀(sl:SL K)(σ:St)(O:Own),ak B F L H sl σ O->ak B F L H (s'::sl) (x::σ) O)->ak B F L H (sl.set i s') (σ.set i x) (O1++O2)):=by
 induction h with
 |nil=>intro i e;simp at e
 |un g ih =>
  intro i e
  cases i with
  |zero=>simp only[getElem?_cons_zero] at e;cases e
  |succ i=>obtain⟨O1,O2,p,vs,q,h1,h2,h3,h4⟩:=ih (by simpa using e);exact⟨O1,O2,p,vs,q,h1,h2,λs' x c z=>.un (h3 s' x c z),λs' x z=>.un (h4 s' x z)⟩
 |fz r g ih =>
  intro i e
  cases i with
  |zero=>simp only[getElem?_cons_zero] at e;cases e
  |succ i=>obtain⟨O1,O2,p,vs,q,h1,h2,h3,h4⟩:=ih (by simpa using e);exact⟨O1,O2,p,vs,q,h1,h2,λs' x c z=>.fz r (h3 s' x c z),λs' x z=>.fz r (h4 s' x z)⟩
 |hs r g ih =>
  intro i e
  cases i with
  |zero=>simp only[getElem?_cons_zero] at e;cases e
  |succ i=>obtain⟨O1,O2,p,vs,q,h1,h2,h3,h4⟩:=ih (by simpa using e);exact⟨O1,O2,p,vs,q,h1,h2,λs' x c z=>.hs r (h3 s' x c z),λs' x z=>.hs r (h4 s' x z)⟩
 |nu r g ih =>
  intro i e
  cases i with
  |zero=>simp only[getElem?_cons_zero] at e;cases e
  |succ i=>obtain⟨O1,O2,p,vs,q,h1,h2,h3,h4⟩:=ih (by simpa using e);exact⟨O1,O2,p,vs,q,h1,h2,λs' x c z=>.nu r (h3 s' x c z),λs' x z=>.nu r (h4 s' x z)⟩
 |od r g ih =>
  intro i e
  cases i with
  |zero=>simp only[getElem?_cons_zero] at e;cases e;exact⟨[],_,_,_,rfl,rfl,r,λs' x c z=>z _ _ _ g,λs' x z=>z _ _ _ g⟩
  |succ i=>obtain⟨O1,O2,p,vs,q,h1,h2,h3,h4⟩:=ih (by simpa using e);exact⟨_::O1,O2,p,vs,by rw[q]<;>rfl,h1,h2,λs' x c z=>.od r (h3 s' x c z),λs' x z=>.od r (h4 s' x z)⟩
 |ow r g ih =>
  intro i e
  cases i with
  |zero=>simp only[getElem?_cons_zero] at e;cases e
  |succ i=>obtain⟨O1,O2,p,vs,q,h1,h2,h3,h4⟩:=ih (by simpa using e);exact⟨_::O1,O2,p,vs,by rw[q]<;>rfl,h1,h2,λs' x c z=>.ow r (h3 s' x c z),λs' x z=>.ow r (h4 s' x z)⟩
end
end
section
variable{K:PySem.W.Frag}{B:Bs}{F H F' H' L L':Hp}{O O' O1 O2:Own}{sl:SL K}{σ:St}{p:Addr}{o o':HO}
theorem YF{α:Type}{a b:List α}{x:α}:(a++x::b).Nodup↔(a++b).Nodup/\x∉a++b:=by
 have q:(a++x::b).Perm (x::(a++b)):=List.perm_middle
 rw[q.nodup_iff,nodup_cons]
 exact⟨λh=>⟨h.2,h.1⟩,λh=>⟨h.2,h.1⟩⟩
theorem Ok.add(k:Ok B F (O1++O2) H)(h:H p=none):Ok B F (O1++(p,o)::O2) (upd H p o):=by
 refine⟨λb u e=>?_,k.h0.put (k.h0.free h) o,k.fa,λx hx=>?_,?_⟩
 ·rw[zQ (zO (k.fh b u e) h)];exact k.fh b u e
 ·have hx':x=(p,o)\/x∈O1++O2:=by
   rcases mem_append.mp hx with z|z
   ·exact .inr (mem_append.mpr (.inl z))
   ·rcases mem_cons.mp z with z|z
    ·exact .inl z
    ·exact .inr (mem_append.mpr (.inr z))
  rcases hx' with rfl|hx'
  ·exact⟨k.fh.free h,k.h0.free h,zK⟩
  ·obtain⟨a1,a2,a3⟩:=k.fo x hx'
   exact⟨a1,a2,by rw[zQ (zO a3 h)];exact a3⟩
 ·rw[map_append,map_cons,YF,<-map_append]
  refine⟨k.nd,λz=>?_⟩
  obtain⟨x,hx,e⟩:=mem_map.mp z
  obtain⟨_,_,a3⟩:=k.fo x hx
  have e':x.1=p:=e
  rw[e',h] at a3
  cases a3
theorem Ok.one(k:Ok B F (O1++(p,o)::O2) H):F p=none/\B.H0 p=none/\H p=some o:=k.fo (p,o) (mem_append.mpr (.inr mem_cons_self))
theorem Ok.ndp(k:Ok B F (O1++(p,o)::O2) H):∀x∈O1++O2,x.1≠p:=λx hx e=>by
 have q:=k.nd
 rw[map_append,map_cons,YF,<-map_append] at q
 exact q.2 (mem_map.mpr ⟨x,hx,e⟩)
theorem Ok.drop(k:Ok B F (O1++(p,o)::O2) H):Ok B F (O1++O2) H:=by
 refine⟨k.fh,k.h0,k.fa,λx hx=>k.fo x ?_,?_⟩
 ·rcases mem_append.mp hx with z|z
  ·exact mem_append.mpr (.inl z)
  ·exact mem_append.mpr (.inr (mem_cons_of_mem _ z))
 ·have q:=k.nd
  rw[map_append,map_cons,YF,<-map_append] at q
  exact q.1
theorem Ok.chg(k:Ok B F (O1++(p,o)::O2) H)(o':HO):Ok B F (O1++(p,o')::O2) (upd H p o'):=by
 obtain⟨a1,a2,a3⟩:=k.one
 refine⟨k.fh.put a1 o',k.h0.put a2 o',k.fa,λx hx=>?_,?_⟩
 ·have hx':x=(p,o')\/x∈O1++O2:=by
   rcases mem_append.mp hx with z|z
   ·exact .inr (mem_append.mpr (.inl z))
   ·rcases mem_cons.mp z with z|z
    ·exact .inl z
    ·exact .inr (mem_append.mpr (.inr z))
  rcases hx' with rfl|hx'
  ·exact⟨a1,a2,zK⟩
  ·obtain⟨b1,b2,b3⟩:=k.drop.fo x hx'
   exact⟨b1,b2,by rw[zQ (k.ndp x hx')];exact b3⟩
 ·have q:=k.nd
  rw[map_append,map_cons] at q ⊢
  exact q
theorem Ok.freeze(k:Ok B F (O1++(p,o)::O2) H):Ok B (upd F p o) (O1++O2) H:=by
 obtain⟨a1,a2,a3⟩:=k.one
 refine⟨λb u e=>?_,k.h0,λb u e=>?_,λx hx=>?_,k.drop.nd⟩
 ·by_cases q:b=p
  ·subst q;rw[zK] at e;cases e;exact a3
  ·rw[zQ q] at e;exact k.fh b u e
 ·by_cases q:b=p
  ·subst q;exact .inr a2
  ·rw[zQ q] at e;exact k.fa b u e
 ·obtain⟨b1,b2,b3⟩:=k.drop.fo x hx
  exact⟨by rw[zQ (k.ndp x hx)];exact b1,b2,b3⟩
theorem zVn(h:H p=none):Same (lo F (O1++O2) H) (lo F (O1++(p,o)::O2) (upd H p o)):=λb u e=>by
 unfold lo at e ⊢
 by_cases q:b=p
 ·subst q
  split at e
  ·cases e
  ·rw[h] at e;cases e
 ·rw[zQ q]
  have z:((O1++(p,o)::O2).any λx=>x.1==b)=((O1++O2).any λx=>x.1==b):=by
   rw[any_append,any_append,any_cons]
   have:(p==b)=false:=by simp;exactλe=>q e.symm
   simp[this]
  rw[z]
  exact e
theorem zVm:Same (lo F (O1++(p,o)::O2) H) (lo F (O1++(p,o')::O2) (upd H p o')):=λb u e=>by
 unfold lo at e ⊢
 by_cases q:b=p
 ·subst q
  rw[any_append,any_cons] at e
  simp at e
 ·rw[zQ q]
  have z:((O1++(p,o)::O2).any λx=>x.1==b)=((O1++(p,o')::O2).any λx=>x.1==b):=by
   rw[any_append,any_append,any_cons,any_cons]
  rw[<-z]
  exact e
theorem mG:Same (lo F (O1++(p,o)::O2) H) (lo F (O1++O2) H):=λb u e=>by
 unfold lo at e ⊢
 split at e
 ·cases e
 ·rename_i h
  rw[if_neg]
  ·exact e
  ·rw[any_append,any_cons] at h
   rw[any_append]
   simp at h ⊢
   exact⟨h.1,h.2.1,h.2.2.2⟩
theorem pI:Same (lo F (O1++(p,o)::O2) H) (lo (upd F p o) (O1++O2) H):=λb u e=>by
 unfold lo at e ⊢
 split at e
 ·cases e
 ·rename_i h
  rw[any_append,any_cons] at h
  simp at h
  have q:b≠p:=λz=>h.2.2.1 z.symm
  rw[zQ q,if_neg]
  ·exact e
  ·rw[any_append]
   simp
   exact⟨h.1,h.2.1,h.2.2.2⟩
theorem Ok.called(k:Ok B F O H)(s:Same H H'):bK B F H O (ext F H H') H':=by
 have e1:∀b o,ext F H H' b=some o->F b=some o\/H b=none:=λb o h=>by
  unfold ext at h
  cases q:H b with
  |none=>exact .inr rfl
  |some u=>rw[q] at h;exact .inl h
 refine⟨λb o h=>?_,s,⟨λb o h=>?_,k.h0.trans s,λb o h=>?_,λx hx=>?_,k.nd⟩,λb h1 h2=>?_⟩
 ·unfold ext
  rw[k.fh b o h]
  exact h
 ·unfold ext at h
  cases q:H b with
  |none=>rw[q] at h;exact h
  |some u=>rw[q] at h;rw[<-k.fh b o h];exact(s b u q).trans q.symm
 ·rcases e1 b o h with z|z
  ·exact k.fa b o z
  ·exact .inr (k.h0.free z)
 ·obtain⟨a1,a2,a3⟩:=k.fo x hx
  refine⟨?_,a2,s _ _ a3⟩
  unfold ext
  rw[a3]
  exact a1
 ·unfold ext
  cases q:H b with
  |none=>exact absurd q h2
  |some u=>exact h1
theorem Ph(h0:Same B.H0 H)(s:Same H H'):Same (dif H' H) (dif (ext F H H') B.H0):=λb o h=>by
 unfold dif at h
 cases q:H b with
 |none =>
  rw[q] at h
  rw[wF (h0.free q)]
  unfold ext
  rw[q]
  exact h
 |some u=>rw[q] at h;cases h
variable{md md1 md2:Md}{α β γ:Type}[Rp K α][Rp K β][Rp K γ]{t t1 t2:TE}{m:Option α}{m1:Option β}{m2:Option γ}
def Ex(B:Bs)(sl:SL K)(md:Md)(t:TE){α:Type}[Rp K α](m:Option α):Prop :=
 ∀a,m=some a->∀(F:Hp)(O:Own)(H:Hp)(σ:St)(Q:VK),At B sl F O H σ->(∀(v:V)(F' H':Hp),bK B F H O F' H'->rp K (reg B F' H' md) v a->Q v H')->t σ H Q
def Et(B:Bs)(sl:SL K)(t:TT)(m:Option Bool):Prop :=
 ∀a,m=some a->∀(F:Hp)(O:Own)(H:Hp)(σ:St)(Q:Bool->Hp->Prop),At B sl F O H σ->(∀(F' H':Hp),bK B F H O F' H'->Q a H')->t σ H Q
inductive Ar(R:Hp):SL K->List V->Prop
 |nil:Ar R [] []
 |cons {n:Bool} {α:Type} [Rp K α] {a:α} {v:V} {sl:SL K} {vs:List V}:rp K R v a->Ar R sl vs->Ar R (.fz n a::sl) (v::vs)
def Ea(B:Bs)(sl:SL K)(md:Md)(t:TA){A:Type}(as:A->SL K)(m:Option A):Prop :=
 ∀a,m=some a->∀(F:Hp)(O:Own)(H:Hp)(σ:St)(Q:List V->Hp->Prop),At B sl F O H σ->(∀(vs:List V)(F' H':Hp),bK B F H O F' H'->Ar (reg B F' H' md) (as a) vs->Q vs H')->t σ H Q
theorem Ex.sc[Sc K α](h:Ex B sl md t m):Ex B sl md1 t m:=λa ha F O H σ Q s k=>h a ha F O H σ Q s λv F' H' g r=>k v F' H' g (V2 r)
theorem Ex.up(h:Ex B sl .nw t m):Ex B sl .fz t m:=λa ha F O H σ Q s k=>h a ha F O H σ Q s λv F' H' g r=>k v F' H' g (Rp.mono aZ r)
theorem Ex.uph(h:Ex B sl .fz t m):Ex B sl .hp t m:=λa ha F O H σ Q s k=>h a ha F O H σ Q s λv F' H' g r=>k v F' H' g (Rp.mono g.ok.fh r)
theorem YG[Nn K α](h:Ex B sl md t m):Ex B sl md t (m.bind λa=>some (some a)):=λa ha F O H σ Q s k=>by
 cases m with
 |none=>cases ha
 |some a' =>
  cases(show some (some a')=some a from ha)
  exact h a' rfl F O H σ Q s λv F' H' g r=>k v F' H' g ⟨Nn.nn (K:=K) r,r⟩
theorem yH{n:Bool}{a:α}(i:Nat)(hs:sl[i]?=some (.fz n a)):Ex B sl (eN n) (bZ i) (some a):=λa' ha F O H σ Q s k=>by
 cases ha
 obtain⟨v,h1,h2⟩:=s.2.qQ hs
 exact⟨v,h1,k v F H (.refl s.1) h2⟩
theorem zI[Sc K α]{n:Bool}{a:α}(i:Nat)(hs:sl[i]?=some (.fz n a)):Ex B sl md (bZ i) (some a):=(yH i hs).sc
theorem lo_le:Same (lo F O H) H:=λb o h=>by
 unfold lo at h
 split at h
 ·cases h
 ·exact h
theorem Ao(k:Ok B F O H)(n:Bool):Same (reg B F H (eN n)) H:=match n with
 |true=>aZ.trans k.fh
 |false=>k.fh
theorem zRf{a:α}(i:Nat)(hs:sl[i]?=some (.hs a)):Ex B sl .hp (bZ i) (some a):=λa' ha F O H σ Q s k=>by
 cases ha
 obtain⟨v,h1,h2⟩:=s.2.HW hs
 exact⟨v,h1,k v F H (.refl s.1) h2⟩
theorem zD{n:Bool}{a:α}(i:Nat)(hs:sl[i]?=some (.fz n a)):Ex B sl .hp (bZ i) (some a):=λa' ha F O H σ Q s k=>by
 cases ha
 obtain⟨v,h1,h2⟩:=s.2.qQ hs
 exact⟨v,h1,k v F H (.refl s.1) (Rp.mono (Ao s.1 n) h2)⟩
theorem Cu{n:Bool}{xs:List α}(i:Nat)(hs:sl[i]?=some (.ow n xs)):Ex B sl .hp (bZ i) (some xs):=λa' ha F O H σ Q s k=>by
 cases ha
 obtain⟨O1,O2,p,vs,rfl,h1,h2,_⟩:=s.2.pH hs
 exact⟨_,h1,k _ F H (.refl s.1) ⟨p,vs,rfl,s.1.one.2.2,h2.imp λ_ _=>Rp.mono (Ao s.1 n)⟩⟩
theorem KD[Sc K α](a:α):Ex B sl md (tC (Sc.val K a)) (some a):=λa' ha F O H σ Q s k=>by cases ha;exact k _ F H (.refl s.1) (Sc.is.mpr rfl)
theorem zR(i:Int):Ex B sl md (tC (.int i)) (some i):=KD (K:=K) i
theorem oY(i:Bool):Ex B sl md (tC (.bl i)) (some i):=KD (K:=K) i
theorem Cv(i:Str):Ex B sl md (tC (.str i)) (some i):=KD (K:=K) i
theorem YH:Ex B sl md (tC .non) (some (none:Option α)):=λa' ha F O H σ Q s k=>by cases ha;exact k _ F H (.refl s.1) rfl
theorem qJ{f:β->γ->Option α}(h:(m1.bind λa=>m2.bind λb=>f a b)=some c):∃a b,m1=some a/\m2=some b/\f a b=some c:=by
 cases m1 with
 |none=>cases h
 |some a =>
  cases m2 with
  |none=>cases h
  |some b=>exact⟨a,b,rfl,rfl,h⟩
theorem Cw{f:β->γ->Option α}[Sc K α](hr:∀(a:β) (b:γ) (c:α) (v w:V) (H:Hp) (Q:VK),f a b=some c->rp K H v a->rp K H w b->Q (Sc.val K c) H->r v w H Q)(h1:Ex B sl .hp t1 m1)(h2:Ex B sl .hp t2 m2):Ex B sl md (jT r t1 t2) (m1.bind λa=>m2.bind λb=>f a b):=λc hc F O H σ Q s k=>by
 obtain⟨a,b,ha,hb,hf⟩:=qJ hc
 refine h1 a ha F O H σ _ s λv F' H' g r1=>?_
 refine h2 b hb F' O H' σ _ (s.grow g) λw F2 H2 g2 r2=>?_
 exact hr a b c v w H2 Q hf (Rp.mono g2.hh r1) r2 (k _ F2 H2 (g.trans g2) (Sc.is.mpr rfl))
theorem xX(h:Ex B sl md t m'):Et B sl (Vy t) m':=λc hc F O H σ Q s k=>h c hc F O H σ _ s λv F' H' g r=>⟨c,r,k F' H' g⟩
theorem cG(h:Ex B sl md t m'):Et B sl (tB t) m':=λc hc F O H σ Q s k=>h c hc F O H σ _ s λv F' H' g r=>⟨c,r,k F' H' g⟩
theorem Ec{t:TT}{n:Option Bool}(h:Et B sl t n):Et B sl (QS t) (n.bind λc=>some !c):=λc hc F O H σ Q s k=>by
 cases n with
 |none=>cases hc
 |some c' =>
  cases(show some (!c')=some c from hc)
  exact h c' rfl F O H σ _ s λF' H' g=>k F' H' g
theorem KH(h:Ex B sl .hp t n):Ex B sl md (Hx t) (n.bind λc=>some !c):=λc hc F O H σ Q s k=>by
 cases n with
 |none=>cases hc
 |some c' =>
  cases(show some (!c')=some c from hc)
  refine h c' rfl F O H σ _ s λv F' H' g r=>?_
  cases r
  exact⟨c',rfl,k _ F' H' g rfl⟩
theorem zVt{t u:TT}{n n':Option Bool}(h:Et B sl t n)(h':Et B sl u n'):Et B sl (QM t u) (n.bind λc=>if c=true then n' else some false):=λc hc F O H σ Q s k=>by
 cases n with
 |none=>cases hc
 |some c' =>
  refine h c' rfl F O H σ _ s λF' H' g=>?_
  cases c' with
  |true=>exact iu (h' c (by simpa using hc) F' O H' σ _ (s.grow g) λF2 H2 g2=>k F2 H2 (g.trans g2))
  |false=>cases(show some false=some c from by simpa using hc);exact kJ (k F' H' g)
theorem V3{t u:TT}{n n':Option Bool}(h:Et B sl t n)(h':Et B sl u n'):Et B sl (Xx t u) (n.bind λc=>if c=true then some true else n'):=λc hc F O H σ Q s k=>by
 cases n with
 |none=>cases hc
 |some c' =>
  refine h c' rfl F O H σ _ s λF' H' g=>?_
  cases c' with
  |true=>cases(show some true=some c from by simpa using hc);exact iu (k F' H' g)
  |false=>exact kJ (h' c (by simpa using hc) F' O H' σ _ (s.grow g) λF2 H2 g2=>k F2 H2 (g.trans g2))
theorem Ed(h:Ex B sl .hp t1 n)(h':Ex B sl .hp t2 n'):Ex B sl md (Hw t1 t2) (n.bind λc=>if c=true then n' else some false):=λc hc F O H σ Q s k=>by
 cases n with
 |none=>cases hc
 |some c' =>
  refine h c' rfl F O H σ _ s λv F' H' g r=>?_
  cases r
  refine⟨c',rfl,?_⟩
  cases c' with
  |true=>exact iu (h' c (by simpa using hc) F' O H' σ _ (s.grow g) λv F2 H2 g2 r2=>k v F2 H2 (g.trans g2) (V2 r2))
  |false=>cases(show some false=some c from by simpa using hc);exact kJ (k _ F' H' g rfl)
theorem Aq(h:Ex B sl .hp t1 n)(h':Ex B sl .hp t2 n'):Ex B sl md (QT t1 t2) (n.bind λc=>if c=true then some true else n'):=λc hc F O H σ Q s k=>by
 cases n with
 |none=>cases hc
 |some c' =>
  refine h c' rfl F O H σ _ s λv F' H' g r=>?_
  cases r
  refine⟨c',rfl,?_⟩
  cases c' with
  |true=>cases(show some true=some c from by simpa using hc);exact iu (k _ F' H' g rfl)
  |false=>exact kJ (h' c (by simpa using hc) F' O H' σ _ (s.grow g) λv F2 H2 g2 r2=>k v F2 H2 (g.trans g2) (V2 r2))
theorem zVr{t:TT}{n:Option Bool}{m m':Option α}(h:Et B sl t n)(h1:Ex B sl md t1 m)(h2:Ex B sl md t2 m'):Ex B sl md (tIf t t1 t2) (n.bind λc=>if c=true then m else m'):=λc hc F O H σ Q s k=>by
 cases n with
 |none=>cases hc
 |some c' =>
  refine h c' rfl F O H σ _ s λF' H' g=>?_
  cases c' with
  |true=>exact iu (h1 c (by simpa using hc) F' O H' σ _ (s.grow g) λv F2 H2 g2 r2=>k v F2 H2 (g.trans g2) r2)
  |false=>exact kJ (h2 c (by simpa using hc) F' O H' σ _ (s.grow g) λv F2 H2 g2 r2=>k v F2 H2 (g.trans g2) r2)
theorem zN:Ea B sl md bJ (λ_:Unit=>[]) (some ()):=λa ha F O H σ Q s k=>k [] F H (.refl s.1) .nil
theorem zE{A:Type}{as:A->SL K}{ma:Option A}(h1:Ex B sl md t m)(h2:Ea B sl md tr as ma):Ea B sl md (yQ t tr) (λx:α×A=>.fz false x.1::as x.2) (m.bind λa=>ma.bind λb=>some (a,b)):=λc hc F O H σ Q s k=>by
 cases m with
 |none=>cases hc
 |some a =>
  cases ma with
  |none=>cases hc
  |some b =>
   cases(show some (a,b)=some c from hc)
   refine h1 a rfl F O H σ _ s λv F' H' g r1=>?_
   refine h2 b rfl F' O H' σ _ (s.grow g) λvs F2 H2 g2 r2=>?_
   exact k (v::vs) F2 H2 (g.trans g2) (.cons (Rp.mono (xE g2 md) r1) r2)
theorem Pj(k:Ok B F O H)(h:H p=none)(md:Md):reg B (upd F p o) (upd H p o) md p=some o:=match md with
 |.nw=>by show dif (upd F p o) B.H0 p=_;rw[wF (k.h0.free h)];exact zK
 |.fz=>zK
 |.hp=>zK
def cap:Nat:=100000
theorem Cy(h:n<cap):n<sizeLine:=ad5 h (by decide)
theorem zVx(h:n<=cap):n<=sizeLine:=aa6 h (by decide)
def El(B:Bs)(sl:SL K)(md:Md)(t:TA){α:Type}[Rp K α](m:Option (List α)):Prop :=
 ∀a,m=some a->∀(F:Hp)(O:Own)(H:Hp)(σ:St)(Q:List V->Hp->Prop),At B sl F O H σ->(∀(vs:List V)(F' H':Hp),bK B F H O F' H'->A2 (rp K (reg B F' H' md)) vs a->Q vs H')->t σ H Q
theorem RN:El B sl md bJ (some ([]:List α)):=λa ha F O H σ Q s k=>by cases ha;exact k [] F H (.refl s.1) trivial
theorem wD(h1:Ex B sl md t m)(h2:El B sl md tr ma):El B sl md (yQ t tr) (m.bind λa=>ma.bind λb=>some (a::b)):=λc hc F O H σ Q s k=>by
 cases m with
 |none=>cases hc
 |some a =>
  cases ma with
  |none=>cases hc
  |some b =>
   cases(show some (a::b)=some c from hc)
   refine h1 a rfl F O H σ _ s λv F' H' g r1=>?_
   refine h2 b rfl F' O H' σ _ (s.grow g) λvs F2 H2 g2 r2=>?_
   exact k (v::vs) F2 H2 (g.trans g2) ⟨Rp.mono (xE g2 md) r1,r2⟩
def Eo(B:Bs)(sl:SL K)(md:Md)(t:TE){α:Type}[Rp K α](m:Option (List α)):Prop :=
 ∀a,m=some a->∀(F:Hp)(O:Own)(H:Hp)(σ:St)(Q:VK),At B sl F O H σ->(∀(p:Addr)(vs:List V)(F' H':Hp),bK B F H O F' H'->H' p=none->A2 (rp K (reg B F' H' md)) vs a->Q (.ref p) (upd H' p (.lst vs)))->t σ H Q
theorem Eo.ex{m:Option (List α)}(h:Eo B sl md t m):Ex B sl md t m:=λa ha F O H σ Q s k=>h a ha F O H σ Q s λp vs F' H' g hp r=>by
 have g2:=bK.new g.ok hp (.lst vs)
 exact k _ _ _ (g.trans g2) ⟨p,vs,rfl,Pj g.ok hp md,r.imp λ_ _=>Rp.mono (xE g2 md)⟩
theorem yw:Eo B sl md (Dy bJ) (some ([]:List α)):=λa ha F O H σ Q s k=>by
 cases ha
 exact⟨abd _,λp hp=>k p [] F H (.refl s.1) hp trivial⟩
theorem RP{t:TA}{ma:Option (List α)}(h:El B sl md t ma)(hl:∀a,ma=some a->a.length<=cap):Eo B sl md (Dy t) ma:=λa ha F O H σ Q s k =>
 h a ha F O H σ _ s λvs F' H' g r=>⟨by rw[r.len];exact zVx (hl a ha),λp hp=>k p vs F' H' g hp r⟩
theorem zRg(h1:Ex B sl md t1 m1)(h2:Ex B sl md t2 m2):Ex B sl md (uq (yQ t1 (yQ t2 bJ))) (m1.bind λa=>m2.bind λb=>some (a,b)):=λc hc F O H σ Q s kk=>by
 obtain⟨a,b,ha,hb,hf⟩:=qJ hc
 cases hf
 refine h1 a ha F O H σ _ s λv F' H' g r1=>?_
 refine h2 b hb F' O H' σ _ (s.grow g) λw F2 H2 g2 r2=>?_
 refine⟨by show 2<=sizeLine;decide,λp hp=>?_⟩
 have g3:=bK.new g2.ok hp (.tup [v,w])
 exact kk _ _ _ (g.trans (g2.trans g3)) ⟨p,v,w,rfl,Pj g2.ok hp md,Rp.mono (xE (g2.trans g3) md) r1,Rp.mono (xE g3 md) r2⟩
def cQ(K:PySem.W.Frag)(al:Bool){A β:Type}[Rp K β](as:A->SL K)(f:A->Option β):Sp:=λvs H Q _ =>
 ∃a b Fa,Same Fa H/\f a=some b/\Ar Fa (as a) vs/\∀v H',Same H H'->rp K (if al=true then ext Fa H H' else dif H' H) v b->Q v H'
theorem zL{A:Type}{as:A->SL K}{f:A->Option β}{ma:Option A}(h:Ea B sl .hp ta as ma):Ex B sl md (Dz (cQ K false as f) [] E0 ta) (ma.bind f):=λc hc F O H σ Q s kk=>by
 cases ma with
 |none=>cases hc
 |some a =>
  refine h a rfl F O H σ _ s λvs F' H' g r=>?_
  rw[append_nil]
  refine⟨a,c,H',.refl _,hc,r,λv H2 s2 r2=>?_⟩
  have g2:=g.ok.called s2
  refine kk v _ H2 (g.trans g2) ?_
  have r3:=Rp.mono (Ph (F:=F') g.ok.h0 s2) r2
  exact match md with
  |.nw=>r3
  |.fz=>Rp.mono aZ r3
  |.hp=>Rp.mono (aZ.trans g2.ok.fh) r3
end
def push{α:Type}(xs:List α)(a:α):Option (List α):=if xs.length<cap then some (xs++[a]) else none
def uz{α:Type}(xs:List α)(i:Int)(a:α):Option (List α):=(tR xs.length i).bind λj=>some (xs.set j a)
def vZ(n:Int):Option LI:=if -(2^62)<=n/\n<2^62 then some ((aa5 n.toNat).map adg) else none
def wH{S α:Type}(step:S->α->Option S):List α->S->Option S
 |[],s=>some s
 |x::xs,s=>(step s x).bind λs'=>wH step xs s'
inductive Out(S β:Type)|nx (s:S)|rt (b:β)
def uC{S α β:Type}(step:S->α->Option (Out S β)):List α->S->Option (Out S β)
 |[],s=>some (.nx s)
 |x::xs,s=>(step s x).bind λo=>match o with
  |.nx s'=>uC step xs s'
  |.rt b=>some (.rt b)
def HY{S:Type}(c:S->Option Bool)(body:S->Option S):Nat->S->Option S
 |0,_=>none
 |k+1,s=>(c s).bind λb=>if b=true then(body s).bind λs'=>HY c body k s' else some s
def wM{α β:Type}(c:α->Option Bool)(f:α->Option β):List α->Option (List β)
 |[]=>some []
 |x::xs=>(c x).bind λb=>if b=true then(f x).bind λy=>(wM c f xs).bind λys=>some (y::ys) else wM c f xs
def Out.els{S β:Type}(o:Out S β)(f:S->Option β):Option β:=match o with
 |.nx s=>f s
 |.rt b=>some b
def Out.aP{S S' β:Type}(o:Out S β)(f:S->Option (Out S' β)):Option (Out S' β):=match o with
 |.nx s=>f s
 |.rt b=>some (.rt b)
theorem YJ{S α:Type}(step:S->α->Option S):∀(xs ys:List α)(s:S),wH step (xs++ys) s=(wH step xs s).bind λs'=>wH step ys s'
 |[],ys,s=>rfl
 |x::xs,ys,s=>by
  show(step s x).bind _=((step s x).bind _).bind _
  cases step s x with
  |none=>rfl
  |some s'=>exact YJ step xs ys s'
theorem zOh{S α:Type}{step:S->α->Option S}{xs:List α}{s s1:S}(h:wH step xs s=some s1){x:α}(hx:xs[i]?=some x):∃a b,wH step (xs.take i) s=some a/\step a x=some b/\wH step (xs.take (i+1)) s=some b:=by
 have e:xs=xs.take (i+1)++xs.drop (i+1):=(take_append_drop _ _).symm
 have e2:xs.take (i+1)=xs.take i++[x]:=by rw[take_add_one,hx]<;>rfl
 rw[e,YJ] at h
 cases q:wH step (xs.take (i+1)) s with
 |none=>rw[q] at h;cases h
 |some b =>
  have q':=q
  rw[e2,YJ] at q'
  cases z:wH step (xs.take i) s with
  |none=>rw[z] at q';cases q'
  |some a =>
   rw[z] at q'
   have q2:(step a x).bind (λs'=>some s')=some b:=q'
   refine⟨a,b,rfl,?_,rfl⟩
   cases w:step a x with
   |none=>rw[w] at q2;cases q2
   |some c=>rw[w] at q2;exact q2
section
variable{K:PySem.W.Frag}{B:Bs}{F H F' H' G:Hp}{O:Own}{sl sl2:SL K}{σ:St}{md:Md}{α β γ:Type}[Rp K α][Rp K β][Rp K γ]{t u v:TS}{te:TE}{m:Option α}{S S':Type}{al:Bool}
def Sg(B:Bs)(G:Hp)(sl:SL K)(σ:St)(H:Hp):Prop:=∃F O,Same G F/\At B sl F O H σ
def Rt(K:PySem.W.Frag){β:Type}[Rp K β](B:Bs)(al:Bool)(b:β)(v:V)(H':Hp):Prop:=Same B.H0 H'/\rp K (if al=true then ext B.Fa B.H0 H' else dif H' B.H0) v b
def Sn(B:Bs)(sl:SL K)(t:TS){S:Type}(L:S->SL K)(m:Option S):Prop :=
 ∀a,m=some a->∀(G:Hp)(D:Ends)(σ:St)(H:Hp),Sg B G sl σ H->(∀σ' H',Sg B G (L a) σ' H'->D.nx σ' H')->t D σ H
def SB(B:Bs)(sl:SL K)(t:TS)(al:Bool){β:Type}[Rp K β](m:Option β):Prop :=
 ∀b,m=some b->∀(G:Hp)(D:Ends)(σ:St)(H:Hp),Sg B G sl σ H->(∀v H',Rt K B al b v H'->D.rt v H')->t D σ H
def XE(B:Bs)(G:Hp)(al:Bool)(L:S->SL K)(D:Ends)(o:Out S β):Prop:=match o with
 |.nx s=>∀σ' H',Sg B G (L s) σ' H'->D.nx σ' H'
 |.rt b=>∀v H',Rt K B al b v H'->D.rt v H'
def Sx(B:Bs)(sl:SL K)(t:TS)(al:Bool){S β:Type}[Rp K β](L:S->SL K)(m:Option (Out S β)):Prop :=
 ∀o,m=some o->∀(G:Hp)(D:Ends)(σ:St)(H:Hp),Sg B G sl σ H->XE B G al L D o->t D σ H
theorem SB.of(h:SB B sl t al m)(q:m=m'):SB B sl t al m':=q▸h
theorem Sn.of(h:Sn B sl t L m)(q:m=m'):Sn B sl t L m':=q▸h
inductive Le:SL K->SL K->Prop
 |nil:Le [] []
 |eq {s:Slot K} {a b:SL K}:Le a b->Le (s::a) (s::b)
 |un {s:Slot K} {a b:SL K}:Le a b->Le (s::a) (.un::b)
 |fr {n:Bool} {α:Type} [Rp K α] {xs:List α} {a b:SL K}:Le a b->Le (.ow n xs::a) (.fz n xs::b)
 |old {α:Type} [Rp K α] {x:α} {a b:SL K}:Le a b->Le (.fz true x::a) (.fz false x::b)
theorem ak.le(h:Le sl sl2):∀{F:Hp}{σ:St}{O:Own},Ok B F (P++O) H->ak B F (lo F (P++O) H) H sl σ O->∃F' O',Same F F'/\Ok B F' (P++O') H/\Same (lo F (P++O) H) (lo F' (P++O') H)/\ak B F' (lo F' (P++O') H) H sl2 σ O':=by
 induction h generalizing P with
 |nil=>intro F σ O k h;cases h;exact⟨F,[],.refl _,k,.refl _,.nil⟩
 |eq _ ih =>
  intro F σ O k h
  cases h with
  |un h=>obtain⟨F',O',a,b,c,d⟩:=ih k h;exact⟨F',O',a,b,c,.un d⟩
  |fz r h=>obtain⟨F',O',a,b,c,d⟩:=ih k h;exact⟨F',O',a,b,c,.fz (Rp.mono (wJ _ a) r) d⟩
  |hs r h=>obtain⟨F',O',a,b,c,d⟩:=ih k h;exact⟨F',O',a,b,c,.hs r d⟩
  |nu r h=>obtain⟨F',O',a,b,c,d⟩:=ih k h;exact⟨F',O',a,b,c,.nu (Rp.mono (xA c) r) d⟩
  |@ow _ _ _ _ _ _ O p vs r h =>
   have e:P++(p,HO.lst vs)::O=(P++[(p,HO.lst vs)])++O:=by simp
   rw[e] at k h
   obtain⟨F',O',a,b,c,d⟩:=ih k h
   have e':(P++[(p,HO.lst vs)])++O'=P++(p,HO.lst vs)::O':=by simp
   rw[e'] at b c d
   rw[<-e] at c
   exact⟨F',_::O',a,b,c,.ow (r.imp λ_ _=>Rp.mono (wJ _ a)) d⟩
  |@od _ _ _ _ _ O p vs r h =>
   have e:P++(p,HO.dK vs)::O=(P++[(p,HO.dK vs)])++O:=by simp
   rw[e] at k h
   obtain⟨F',O',a,b,c,d⟩:=ih k h
   have e':(P++[(p,HO.dK vs)])++O'=P++(p,HO.dK vs)::O':=by simp
   rw[e'] at b c d
   rw[<-e] at c
   exact⟨F',_::O',a,b,c,.od (r.imp λ_ _ z=>⟨z.1,Rp.mono a z.2⟩) d⟩
 |un _ ih =>
  intro F σ O k h
  cases h with
  |un h=>obtain⟨F',O',a,b,c,d⟩:=ih k h;exact⟨F',O',a,b,c,.un d⟩
  |fz r h=>obtain⟨F',O',a,b,c,d⟩:=ih k h;exact⟨F',O',a,b,c,.un d⟩
  |hs r h=>obtain⟨F',O',a,b,c,d⟩:=ih k h;exact⟨F',O',a,b,c,.un d⟩
  |nu r h=>obtain⟨F',O',a,b,c,d⟩:=ih k h;exact⟨F',O',a,b,c,.un d⟩
  |ow r h=>obtain⟨F',O',a,b,c,d⟩:=ih k.drop (h.mono (.refl _) mG (.refl _));exact⟨F',O',a,b,mG.trans c,.un d⟩
  |od r h=>obtain⟨F',O',a,b,c,d⟩:=ih k.drop (h.mono (.refl _) mG (.refl _));exact⟨F',O',a,b,mG.trans c,.un d⟩
 |@fr n _ _ _ _ _ _ ih =>
  intro F σ O k h
  cases h with
  |@ow _ _ _ _ _ _ O p vs r h =>
   obtain⟨a1,a2,a3⟩:=k.one
   have sf:Same F (upd F p (.lst vs)):=au a1 _
   obtain⟨F',O',a,b,c,d⟩:=ih k.freeze (h.mono sf pI (.refl _))
   refine⟨F',O',sf.trans a,b,pI.trans c,.fz ⟨p,vs,rfl,?_,r.imp λ_ _=>Rp.mono (wJ _ (sf.trans a))⟩ d⟩
   cases n with
   |true=>exact(wF a2).trans (a _ _ zK)
   |false=>exact a _ _ zK
 |old _ ih =>
  intro F σ O k h
  cases h with
  |fz r h=>obtain⟨F',O',a,b,c,d⟩:=ih k h;exact⟨F',O',a,b,c,.fz (Rp.mono (aZ.trans a) r) d⟩
theorem Sg.le(h:Sg B G sl σ H)(l:Le sl sl2):Sg B G sl2 σ H:=by
 obtain⟨F,O,g,k,s⟩:=h
 obtain⟨F',O',a,b,_,d⟩:=ak.le (P:=[]) l k s
 exact⟨F',O',g.trans a,b,d⟩
theorem Sg.grow(g:Same G F)(h:At B sl F O' H σ)(gr:bK B F H O' F' H'):Sg B G sl σ H':=⟨F',O',g.trans gr.ff,h.grow gr⟩
theorem yE(L:S->SL K)(s:S)(h:Le sl (L s)):Sn B sl JM L (some s):=λa ha G D σ H q k=>by cases ha;exact k σ H (q.le h)
theorem zT{f:S->Option S'}(h1:Sn B sl t L m1)(h2:∀s,Sn B (L s) u L' (f s)):Sn B sl (h_ t u) L' (m1.bind f):=λa ha G D σ H q k=>by
 cases m1 with
 |none=>cases ha
 |some s=>exact h1 s rfl G _ σ H q λσ' H' q'=>h2 s a ha G D σ' H' q' k
theorem zX{f:S->Option β}(h1:Sn B sl t L m1)(h2:∀s,SB B (L s) u al (f s)):SB B sl (h_ t u) al (m1.bind f):=λa ha G D σ H q k=>by
 cases m1 with
 |none=>cases ha
 |some s=>exact h1 s rfl G _ σ H q λσ' H' q'=>h2 s a ha G D σ' H' q' k
theorem Ef{f:S->Option (Out S' β)}(h1:Sn B sl t L m1)(h2:∀s,Sx B (L s) u al L' (f s)):Sx B sl (h_ t u) al L' (m1.bind f):=λa ha G D σ H q k=>by
 cases m1 with
 |none=>cases ha
 |some s=>exact h1 s rfl G _ σ H q λσ' H' q'=>h2 s a ha G D σ' H' q' k
theorem RQ{f:S->Option β}(h1:Sx B sl t al L m1)(h2:∀s,SB B (L s) u al (f s)):SB B sl (h_ t u) al (m1.bind λo=>o.els f):=λa ha G D σ H q k=>by
 cases m1 with
 |none=>cases ha
 |some o =>
  cases o with
  |nx s=>exact h1 _ rfl G _ σ H q λσ' H' q'=>h2 s a ha G D σ' H' q' k
  |rt b=>cases ha;exact h1 _ rfl G { D with nx:=u D } σ H q k
theorem RT(L:S->SL K)(s:S)(h:Le sl (L s)):Sx B sl JM al L (some (.nx s):Option (Out S β)):=λa ha G D σ H q k=>by cases ha;exact k σ H (q.le h)
theorem H_(k:Ok B F' O H')(n:Bool){v:V}{b:β}(r:rp K (reg B F' H' (eN n)) v b)(hn:n=!al):Rt K B al b v H':=by
 refine⟨k.h0,?_⟩
 cases al with
 |false=>subst hn;exact Rp.mono (xA k.fh) r
 |true =>
  subst hn
  refine Rp.mono (λb o h=>?_) r
  have h:F' b=some o:=h
  show ext B.Fa B.H0 H' b=some o
  unfold ext
  cases q:B.H0 b with
  |none=>exact k.fh b o h
  |some u =>
   rcases k.fa b o h with z|z
   ·exact z
   ·rw[q] at z;cases z
theorem zY(h:Ex B sl (eN !al) te m):SB B sl (h_ (qN te) u) al m:=λb hb G D σ H s k=>by
 obtain⟨F,O,g,a⟩:=s
 exact h b hb F O H σ _ a λv F' H' gr r=>k v H' (H_ gr.ok (!al) r rfl)
theorem Eh(h:F p=none):Same (dif F H0) (dif (upd F p o) H0):=xA (au h o)
theorem Ej{n:Bool}{xs:List α}(i:Nat)(hs:sl[i]?=some (.ow n xs))(hn:n=!al):SB B sl (h_ (qN (bZ i)) u) al (some xs):=λb hb G D σ H s k=>by
 cases hb
 obtain⟨F,O,g,a⟩:=s
 obtain⟨O1,O2,p,vs,rfl,h1,h2,_⟩:=a.2.pH hs
 obtain⟨a1,a2,a3⟩:=a.1.one
 refine⟨_,h1,k _ H (H_ a.1.freeze n ⟨p,vs,rfl,?_,h2.imp λ_ _=>Rp.mono ?_⟩ hn)⟩
 ·cases n with
  |true=>exact(wF a2).trans zK
  |false=>exact zK
 ·cases n with
  |true=>exact Eh a1
  |false=>exact au a1 _
theorem su(hc:Et B sl c n)(h1:Sn B sl t L m1)(h2:Sn B sl u L m2):Sn B sl (uh c t u) L (n.bind λb=>if b=true then m1 else m2):=λa ha G D σ H s k=>by
 cases n with
 |none=>cases ha
 |some b =>
  obtain⟨F,O,g,z⟩:=s
  refine hc b rfl F O H σ _ z λF' H' gr=>?_
  cases b with
  |true=>exact iu (h1 a (by simpa using ha) G D σ H' (Sg.grow g z gr) k)
  |false=>exact kJ (h2 a (by simpa using ha) G D σ H' (Sg.grow g z gr) k)
theorem vL{c:TT}{n:Option Bool}{m1 m2:Option β}(hc:Et B sl c n)(h1:SB B sl t al m1)(h2:SB B sl u al m2):SB B sl (h_ (uh c t JM) u) al (n.bind λb=>if b=true then m1 else m2):=λa ha G D σ H s k=>by
 cases n with
 |none=>cases ha
 |some b =>
  obtain⟨F,O,g,z⟩:=s
  refine hc b rfl F O H σ _ z λF' H' gr=>?_
  cases b with
  |true=>exact iu (h1 a (by simpa using ha) G _ σ H' (Sg.grow g z gr) k)
  |false=>exact kJ (h2 a (by simpa using ha) G D σ H' (Sg.grow g z gr) k)
theorem RV{c:TT}{n:Option Bool}{m1:Option β}{L:S->SL K}{m2:Option (Out S β)}(hc:Et B sl c n)(h1:SB B sl t al m1)(h2:Sx B sl u al L m2) :
  Sx B sl (h_ (uh c t JM) u) al L (n.bind λb=>if b=true then m1.bind λb=>some (.rt b) else m2):=λa ha G D σ H s k=>by
 cases n with
 |none=>cases ha
 |some b =>
  obtain⟨F,O,g,z⟩:=s
  refine hc b rfl F O H σ _ z λF' H' gr=>?_
  cases b with
  |true =>
   have e:=(show(m1.bind λb=>some (Out.rt b))=some a by simpa using ha)
   cases m1 with
   |none=>cases e
   |some b=>cases e;exact iu (h1 b rfl G _ σ H' (Sg.grow g z gr) k)
  |false=>exact kJ (h2 a (by simpa using ha) G D σ H' (Sg.grow g z gr) k)
theorem Sg.set{s:Slot K}{i:Nat}{n:Bool}{a:α}{v:V}{O:Own}(g:Same G F)(h:At B sl F O H σ)(hs:sl[i]?=some s)(ho:jE s=false)(r:rp K (reg B F H (eN n)) v a):Sg B G (sl.set i (.fz n a)) (σ.set i (some v)) H :=
 ⟨F,O,g,h.1,h.2.put (λ_ _ _ z=>.fz r z) hs ho⟩
theorem yM(n:Bool)(i:Nat)(hs:sl[i]?=some s)(ho:jE s=false)(h:Ex B sl (eN n) te m):Sn B sl (mO te (pF i)) (λa=>sl.set i (.fz n a)) m:=λa ha G D σ H s k=>by
 obtain⟨F,O,g,z⟩:=s
 exact h a ha F O H σ _ z λv F' H' gr r=>k _ _ (Sg.set (g.trans gr.ff) (z.grow gr) hs ho r)
theorem Pk(h:Ex B sl md te m):Sn B sl (Ow te) (λ_=>sl) m:=λa ha G D σ H s k=>by
 obtain⟨F,O,g,z⟩:=s
 exact h a ha F O H σ _ z λv F' H' gr r=>k _ _ (Sg.grow g z gr)
theorem At.own{s:Slot K}{i:Nat}{n:Bool}{xs:List α}{vs:List V}{p:Addr}(h:At B sl F O H σ)(hs:sl[i]?=some s)(ho:jE s=false)(hp:H p=none)(r:A2 (rp K (reg B F H (eN n))) vs xs) :
  ∃O',At B (sl.set i (.ow n xs)) F O' (upd H p (.lst vs)) (σ.set i (some (.ref p))):=by
 obtain⟨k,z0⟩:=h
 obtain⟨O1,O2,rfl,z⟩:=z0.own (s':=.ow n xs) (x:=some (.ref p)) (c:=(p,.lst vs)) (λ_ _ _ z=>.ow r z) hs ho
 exact⟨_,k.add hp,z.mono (.refl _) (zVn hp) (au hp _)⟩
theorem u_{s:Slot K}{m:Option (List α)}(n:Bool)(i:Nat)(hs:sl[i]?=some s)(ho:jE s=false)(h:Eo B sl (eN n) te m):Sn B sl (mO te (pF i)) (λa=>sl.set i (.ow n a)) m:=λa ha G D σ H s k=>by
 obtain⟨F,O,g,z⟩:=s
 refine h a ha F O H σ _ z λp vs F' H' gr hp r=>k _ _ ?_
 obtain⟨O',z'⟩:=(z.grow gr).own hs ho hp r
 exact⟨F',O',g.trans gr.ff,z'⟩
theorem YK(i:Nat)(hs:sl[i]?=some s)(ho:jE s=false):Sn B sl (mO zU7 (pF i)) (λ_=>sl.set i (.od ([]:List (Key×α)))) (some ()):=λa ha G D σ H s k=>by
 obtain⟨F,O,g,k0,z0⟩:=s
 intro p hp
 refine k _ _ ?_
 obtain⟨O1,O2,rfl,z'⟩:=z0.own (s':=.od ([]:List (Key×α))) (x:=some (.ref p)) (c:=(p,.dK [])) (λ_ _ _ z=>.od trivial z) hs ho
 exact⟨F,_,g,k0.add hp,z'.mono (.refl _) (zVn hp) (au hp _)⟩
theorem YL{α:Type}:∀{l:List α}{i:Nat}{x:α},l[i]?=some x->l.set i x=l
 |[],_,_,h=>by simp at h
 |_::_,0,_,h=>by simp at h;subst h;rfl
 |_::l,i+1,_,h=>congrArg _ (YL (l:=l) (i:=i) (by simpa using h))
theorem YM{P:Slot K->Bool}(hs:P s=true):∀{l:SL K}{i:Nat},l.all P=true->(l.set i s).all P=true
 |[],_,h=>h
 |_::_,0,h=>by rw[all_cons,aav] at h;rw[List.set_cons_zero,all_cons,aav];exact⟨hs,h.2⟩
 |_::l,i+1,h=>by rw[all_cons,aav] at h;rw[List.set_cons_succ,all_cons,aav];exact⟨h.1,YM hs h.2⟩
theorem At.chg{i:Nat}{n:Bool}{xs:List α}(h:At B sl F O H σ)(hs:sl[i]?=some (.ow n xs))(hh:sl.all (λs=>!cT s)=true):∃p vs,σ[i]?=some (some (.ref p))/\H p=some (.lst vs)/\A2 (rp K (reg B F H (eN n))) vs xs /\
  ∀(ws:List V)(ys:List α),A2 (rp K (reg B F H (eN n))) ws ys->∃O',At B (sl.set i (.ow n ys)) F O' (upd H p (.lst ws)) σ:=by
 obtain⟨k,z0⟩:=h
 obtain⟨O1,O2,p,vs,rfl,h1,h2,h3,_⟩:=z0.pH hs
 refine⟨p,vs,h1,k.one.2.2,h2,λws ys r=>⟨_,k.chg (.lst ws),?_⟩⟩
 have z:=h3 (.ow n ys) (some (.ref p)) (p,.lst ws) λ_ _ _ z=>.ow r z
 rw[YL h1] at z
 exact z.mut zVm (YM rfl hh)
theorem At.Ek(h:At B sl F O H σ)(hs:sl[i]?=some (.od kvs))(hh:sl.all (λs=>!cT s)=true):∃p ks,σ[i]?=some (some (.ref p))/\H p=some (.dK ks)/\A2 (λ(x:Key×V) (y:Key×α)=>x.1=y.1/\rp K F x.2 y.2) ks kvs /\
  ∀(ws:List (Key×V))(ys:List (Key×α)),A2 (λ(x:Key×V) (y:Key×α)=>x.1=y.1/\rp K F x.2 y.2) ws ys->∃O',At B (sl.set i (.od ys)) F O' (upd H p (.dK ws)) σ:=by
 obtain⟨k,z0⟩:=h
 obtain⟨O1,O2,p,vs,rfl,h1,h2,h3,_⟩:=z0.HX hs
 refine⟨p,vs,h1,k.one.2.2,h2,λws ys r=>⟨_,k.chg (.dK ws),?_⟩⟩
 have z:=h3 (.od ys) (some (.ref p)) (p,.dK ws) λ_ _ _ z=>.od r z
 rw[YL h1] at z
 exact z.mut zVm (YM rfl hh)
theorem vY(i:Nat)(hs:sl[i]?=some (.ow n xs))(hh:sl.all (λs=>!cT s)=true)(h:Ex B sl (eN n) te m) :
  Sn B sl (Ow (O_ K "list" Yk (bZ i) (yQ te bJ))) (λys=>sl.set i (.ow n ys)) (m.bind λa=>push xs a):=λys ha G D σ H s k=>by
 cases m with
 |none=>cases ha
 |some a =>
  have ha':push xs a=some ys:=ha
  unfold push at ha'
  split at ha'
  case isFalse=>cases ha'
  rename_i hl
  cases ha'
  obtain⟨F,O,g,z⟩:=s
  obtain⟨p,vs,h1,h2,h3,_⟩:=z.chg hs hh
  refine⟨_,h1,.inl ⟨rfl,_,aW.of h2⟩,?_⟩
  refine h a rfl F O H σ _ z λv F' H' gr r=>?_
  obtain⟨p',vs',h1',h2',h3',h4'⟩:=(z.grow gr).chg hs hh
  have e:=h1.symm.trans h1'
  cases e
  obtain⟨O',z'⟩:=h4' (vs'++[v]) (xs++[a]) (h3'.snoc r)
  exact⟨p,vs',v,rfl,rfl,h2',Cy (by rw[h3'.len];exact hl),k _ _ ⟨F',O',g.trans gr.ff,z'⟩⟩
theorem V4(i:Nat)(hs:sl[i]?=some (.ow n xs))(hh:sl.all (λs=>!cT s)=true)(hv:Ex B sl (eN n) te m)(hi:Ex B sl .hp ti mi) :
  Sn B sl (mO te (QW (bZ i) ti Ae)) (λys=>sl.set i (.ow n ys)) (m.bind λa=>mi.bind λk=>uz xs k a):=λys ha G D σ H s k=>by
 cases m with
 |none=>cases ha
 |some a =>
  cases mi with
  |none=>cases ha
  |some ix =>
   have ha':uz xs ix a=some ys:=ha
   obtain⟨F,O,g,z⟩:=s
   refine hv a rfl F O H σ _ z λv F' H' gr r=>?_
   obtain⟨p,vs,h1,h2,h3,_⟩:=(z.grow gr).chg hs hh
   refine⟨_,h1,?_⟩
   refine hi ix rfl F' O H' σ _ (z.grow gr) λw F2 H2 tW rw=>?_
   cases rw
   obtain⟨p',vs',h1',h2',h3',h4'⟩:=((z.grow gr).grow tW).chg hs hh
   have e:=h1.symm.trans h1'
   cases e
   unfold uz at ha'
   cases ej:tR xs.length ix with
   |none=>rw[ej] at ha';cases ha'
   |some jj =>
    rw[ej] at ha'
    cases ha'
    obtain⟨O',z'⟩:=h4' (vs'.set jj v) (xs.set jj a) (h3'.set (Rp.mono (xE tW (eN n)) r) jj)
    exact⟨p,vs',ix,jj,rfl,rfl,h2',by rw[h3'.len,ej],k _ _ ⟨F2,O',(g.trans gr.ff).trans tW.ff,z'⟩⟩
end
section
variable{K:PySem.W.Frag}{B:Bs}{F H F' H' G:Hp}{O:Own}{sl sl2:SL K}{σ:St}{md:Md}{α β γ:Type}[Rp K α][Rp K β][Rp K γ]{tb u v:TS}{te:TE}{m:Option α}{S S':Type}{al n:Bool}
theorem V5{S α β:Type}(step:S->α->Option (Out S β)):∀(xs ys:List α)(s:S),uC step (xs++ys) s=(uC step xs s).bind λo=>o.aP λs'=>uC step ys s'
 |[],ys,s=>rfl
 |x::xs,ys,s=>by
  show(step s x).bind _=((step s x).bind _).bind _
  cases step s x with
  |none=>rfl
  |some o =>
   cases o with
   |nx s'=>exact V5 step xs ys s'
   |rt b=>rfl
theorem zOf{S α β:Type}{step:S->α->Option (Out S β)}{xs:List α}{s a:S}{x:α}(h:uC step (xs.take i) s=some (.nx a))(hx:xs[i]?=some x):uC step (xs.take (i+1)) s=step a x:=by
 have e2:xs.take (i+1)=xs.take i++[x]:=by rw[take_add_one,hx]<;>rfl
 rw[e2,V5,h]
 show(step a x).bind _=step a x
 cases step a x with
 |none=>rfl
 |some o=>cases o<;>rfl
theorem zRd{S α β:Type}{step:S->α->Option (Out S β)}{xs:List α}{s:S}{o:Out S β}{b:β}(h:uC step xs s=some o)(hi:uC step (xs.take i) s=some (.rt b)):o=.rt b:=by
 rw[<-take_append_drop i xs,V5,hi] at h
 cases h
 rfl
theorem zOg{S α β:Type}{step:S->α->Option (Out S β)}{xs:List α}{s:S}{o:Out S β}(i:Nat)(h:uC step xs s=some o):∃o',uC step (xs.take i) s=some o':=by
 rw[<-take_append_drop i xs,V5] at h
 cases q:uC step (xs.take i) s with
 |none=>rw[q] at h;cases h
 |some o'=>exact⟨o',rfl⟩
def Yl(K:PySem.W.Frag)(B:Bs)(F':Hp)(n:Bool)(J:It){α:Type}[Rp K α](xs:List α):Prop:=∀(i:Nat)(F2:Hp)(O2:Own)(H2:Hp),Same F' F2->Ok B F2 O2 H2 ->
 (xs.length<=i->J.stop i H2)/\∀x,xs[i]?=some x->J.go i H2/\∀v H3,J.O4 i H2 v H3->∃F3,bK B F2 H2 O2 F3 H3/\rp K (reg B F3 H3 (eN n)) v x
def Ei(B:Bs)(sl:SL K)(n:Bool)(wi:TI){α:Type}[Rp K α](mi:Option (List α)):Prop :=
 ∀xs,mi=some xs->∀(F:Hp)(O:Own)(H:Hp)(σ:St)(R:It->Hp->Prop),At B sl F O H σ->(∀(J:It)(F' H':Hp),bK B F H O F' H'->Yl K B F' n J xs->R J H')->wi σ H R
def Tg(B:Bs)(sl:SL K)(n:Bool)(g:TG){α:Type}[Rp K α](L:α->SL K):Prop :=
 ∀(v:V)(x:α)(F:Hp)(O:Own)(H:Hp)(σ:St)(Q:St->Hp->Prop),At B sl F O H σ->rp K (reg B F H (eN n)) v x->(∀σ',At B (L x) F O H σ'->Q σ' H)->g v σ H Q
theorem yD(i:Nat)(hs:sl[i]?=some s)(ho:jE s=false):Tg B sl n (pF i) (λx:α=>sl.set i (.fz n x)):=λv x F O H σ Q a r k=>k _ ⟨a.1,a.2.put (λ_ _ _ z=>.fz r z) hs ho⟩
theorem zPb(k:Ok B F O H)(h:reg B F H (eN n) p=some o):H p=some o:=Ao k n p o h
theorem KJ(i j:Nat)(hs:sl[i]?=some s)(ho:jE s=false)(hs':∀x:Slot K,(sl.set i x)[j]?=some s')(ho':jE s'=false) :
  Tg B sl n (Dp K 2 (OD (pF i) (OD (pF j) JR))) (λx:α×β=>(sl.set i (.fz n x.1)).set j (.fz n x.2)):=λv x F O H σ Q a r k=>by
 obtain⟨p,w1,w2,rfl,h1,h2,h3⟩:=r
 refine⟨p,[w1,w2],rfl,.inl (.inl (zPb a.1 h1)),rfl,w1,[w2],rfl,w2,[],rfl,rfl,?_⟩
 exact k _ ⟨a.1,(a.2.put (s':=.fz n x.1) (λ_ _ _ z=>.fz h2 z) hs ho).put (λ_ _ _ z=>.fz h3 z) (hs' _) ho'⟩
theorem vK{L:S->SL K}{Lx:S->α->SL K}{step:S->α->Option S}(s0:S)(h0:Le sl (L s0))(hi:Ei B (L s0) n wi mi)(hg:∀s,Tg B (L s) n g (Lx s))(hb:∀s x,Sn B (Lx s x) tb L (step s x)) :
  Sn B sl (J0 wi g tb) L (mi.bind λxs=>wH step xs s0):=λs1 hs1 G D σ H q k=>by
 cases mi with
 |none=>cases hs1
 |some xs =>
  have hs1:wH step xs s0=some s1:=hs1
  obtain⟨F,O,g0,a⟩:=q.le h0
  refine hi xs rfl F O H σ _ a λJ F' H' gr yl=>?_
  refine⟨λi m σ H=>m=xs.length-i/\i<=xs.length/\∃s,wH step (xs.take i) s0=some s/\Sg B F' (L s) σ H,⟨xs.length,rfl,abd _,s0,rfl,F',O,.refl _,a.grow gr⟩,?_⟩
  rintro i m σ H ⟨rfl,hil,s,hs,F2,O2,sf,a2⟩
  obtain⟨y1,y2⟩:=yl i F2 O2 H sf a2.1
  by_cases hlt:i<xs.length
  ·obtain⟨go,y3⟩:=y2 xs[i] (aat hlt)
   obtain⟨s',s'',e1,e2,e3⟩:=zOh hs1 (aat hlt)
   rw[hs] at e1
   cases e1
   refine .inr ⟨go,Sg B F' (L s''),λσ' H' z=>⟨xs.length-(i+1),by omega,rfl,hlt,s'',e3,z⟩,λv H3 yd=>?_⟩
   obtain⟨F3,g3,r3⟩:=y3 v H3 yd
   exact hg s v xs[i] F3 O2 H3 σ _ (a2.grow g3) r3 λσ' a'=>hb s xs[i] s'' e2 F' _ σ' H3 ⟨F3,O2,sf.trans g3.ff,a'⟩ λσ2 H2 z=>z
  ·have e:i=xs.length:=by omega
   subst e
   rw[take_length,hs1] at hs
   cases hs
   exact .inl ⟨y1 (aau _),k σ H ⟨F2,O2,(g0.trans gr.ff).trans sf,a2⟩⟩
theorem RW{L:S->SL K}{Lx:S->α->SL K}{step:S->α->Option (Out S β)}(s0:S)(h0:Le sl (L s0))(hi:Ei B (L s0) n wi mi)(hg:∀s,Tg B (L s) n g (Lx s))(hb:∀s x,Sx B (Lx s x) tb al L (step s x)) :
  Sx B sl (J0 wi g tb) al L (mi.bind λxs=>uC step xs s0):=λo ho G D σ H q k=>by
 cases mi with
 |none=>cases ho
 |some xs =>
  have ho:uC step xs s0=some o:=ho
  obtain⟨F,O,g0,a⟩:=q.le h0
  refine hi xs rfl F O H σ _ a λJ F' H' gr yl=>?_
  refine⟨λi m σ H=>m=xs.length-i/\i<=xs.length/\∃s,uC step (xs.take i) s0=some (.nx s)/\Sg B F' (L s) σ H,⟨xs.length,rfl,abd _,s0,rfl,F',O,.refl _,a.grow gr⟩,?_⟩
  rintro i m σ H ⟨rfl,hil,s,hs,F2,O2,sf,a2⟩
  obtain⟨y1,y2⟩:=yl i F2 O2 H sf a2.1
  by_cases hlt:i<xs.length
  ·obtain⟨go,y3⟩:=y2 xs[i] (aat hlt)
   have e2:=zOf hs (aat hlt)
   obtain⟨o',e3⟩:=zOg (i+1) ho
   refine .inr ⟨go,λσ H=>∃s',o'=.nx s'/\Sg B F' (L s') σ H,λσ' H' ⟨s',e,z⟩=>⟨xs.length-(i+1),by omega,rfl,hlt,s',by rw[e3,e],z⟩,λv H3 yd=>?_⟩
   obtain⟨F3,g3,r3⟩:=y3 v H3 yd
   refine hg s v xs[i] F3 O2 H3 σ _ (a2.grow g3) r3 λσ' a'=>hb s xs[i] o' (by rw[<-e2,e3]) F' _ σ' H3 ⟨F3,O2,sf.trans g3.ff,a'⟩ ?_
   cases o' with
   |nx s'=>exactλσ2 H2 z=>⟨s',rfl,z⟩
   |rt b =>
    have:=zRd ho e3
    subst this
    exact k
  ·have e:i=xs.length:=by omega
   subst e
   rw[take_length,ho] at hs
   cases hs
   exact .inl ⟨y1 (aau _),k σ H ⟨F2,O2,(g0.trans gr.ff).trans sf,a2⟩⟩
theorem zS2{L:S->SL K}{cM:S->Option Bool}{bM:S->Option S}(fuel:Nat)(s0:S)(h0:Le sl (L s0))(hc:∀s,Et B (L s) c (cM s))(hb:∀s,Sn B (L s) tb L (bM s)):Sn B sl (zU5 c tb) L (HY cM bM fuel s0):=λs1 hs1 G D σ H q k=>by
 refine⟨λm σ H=>∃s,HY cM bM m s=some s1/\Sg B G (L s) σ H,⟨fuel,s0,hs1,q.le h0⟩,?_⟩
 rintro m σ H ⟨s,hs,F,O,g,a⟩
 cases m with
 |zero=>cases hs
 |succ m =>
  have hs:((cM s).bind λb=>if b=true then(bM s).bind λs'=>HY cM bM m s' else some s)=some s1:=hs
  cases e:cM s with
  |none=>rw[e] at hs;cases hs
  |some b =>
   rw[e] at hs
   refine hc s b e F O H σ _ a λF' H' gr=>?_
   cases b with
   |true =>
    have hs:((bM s).bind λs'=>HY cM bM m s')=some s1:=by simpa using hs
    cases e2:bM s with
    |none=>rw[e2] at hs;cases hs
    |some s' =>
     rw[e2] at hs
     exact iu ⟨Sg B G (L s'),λσ' H' z=>⟨m,acg _,s',hs,z⟩,hb s s' e2 G _ σ H' (Sg.grow g a gr) λ_ _ z=>z⟩
   |false =>
    have hs:some s=some s1:=by simpa using hs
    cases hs
    exact kJ (k σ H' (Sg.grow g a gr))
theorem yS{mi:Option (List α)}(h:Ex B sl (eN n) te mi):Ei B sl n (zx K te) mi:=λxs hx F O H σ R a k=>by
 refine h xs hx F O H σ _ a λv F' H' gr r=>?_
 obtain⟨p,vs,rfl,h1,h2⟩:=r
 refine⟨p,rfl,⟨vs,aW.of (Ao gr.ok n p _ h1)⟩,k _ F' H' gr λi F2 O2 H2 sf k2=>?_⟩
 have hq:aW K H2 p vs:=aW.of (k2.fh _ _ (sf _ _ (by cases n with|true=>exact aZ _ _ h1|false=>exact h1)))
 refine⟨λhl=>⟨vs,hq,by rw[h2.len];exact hl⟩,λx hx=>?_⟩
 obtain⟨w,hw,rw⟩:=h2.at2 hx
 refine⟨⟨vs,w,hq,hw⟩,λv H3 yd=>?_⟩
 obtain⟨e,y⟩:=yd
 subst e
 have:=(hw.symm.trans (y vs hq))
 cases this
 exact⟨F2,.refl k2,Rp.mono (wJ n sf) rw⟩
theorem YQ{k i:Nat}{x:Int}(h:((aa5 k).map adg)[i]?=some x):i<k/\x=i:=by
 rw[getElem?_map] at h
 by_cases q:i<k
 ·rw[getElem?_range q] at h;cases h;exact⟨q,rfl⟩
 ·rw[abk (by rw[length_range];omega)] at h;cases h
theorem vI(h:Ex B sl .hp te mi):Ei B sl n (HB (yQ te bJ)) (mi.bind vZ):=λxs hx F O H σ R a k=>by
 cases mi with
 |none=>cases hx
 |some j =>
  have hx:vZ j=some xs:=hx
  unfold vZ at hx
  split at hx
  case isFalse=>cases hx
  rename_i hb
  cases hx
  refine h j rfl F O H σ _ a λv F' H' gr r=>?_
  cases r
  refine⟨j,rfl,hb.1,hb.2,k _ F' H' gr λi F2 O2 H2 sf k2=>⟨λhl=>?_,λx hx=>?_⟩⟩
  ·rw[length_map,length_range] at hl;exact hl
  ·obtain⟨h1,rfl⟩:=YQ hx
   refine⟨h1,λv H3 yd=>?_⟩
   obtain⟨rfl,rfl⟩:=yd
   exact⟨F2,.refl k2,by show V.int (0+(i:Int))=V.int i;rw[Int.zero_add]⟩
def Av{α:Type}(xs:List α):List (Int×α):=((aa5 xs.length).map adg).zip xs
theorem YS{α:Type}{xs:List α}{i:Nat}{x:Int×α}(h:(Av xs)[i]?=some x):x.1=i/\xs[i]?=some x.2:=by
 unfold Av at h
 rw[List.getElem?_zip_eq_some] at h
 exact⟨(YQ h.1).2,h.2⟩
theorem zJl{α:Type}(xs:List α):(Av xs).length=xs.length:=by unfold Av;simp
theorem YT{mi:Option (List α)}(h:Ex B sl (eN n) te mi):Ei B sl n (Ak K (yQ te bJ)) (mi.bind λxs=>some (Av xs)):=λxs hx F O H σ R a k=>by
 cases mi with
 |none=>cases hx
 |some zs =>
  cases(show some (Av zs)=some xs from hx)
  refine h zs rfl F O H σ _ a λv F' H' gr r=>?_
  obtain⟨p,vs,rfl,h1,h2⟩:=r
  refine⟨p,rfl,⟨vs,aW.of (Ao gr.ok n p _ h1)⟩,k _ F' H' gr λi F2 O2 H2 sf k2=>?_⟩
  have hq:aW K H2 p vs:=aW.of (k2.fh _ _ (sf _ _ (by cases n with|true=>exact aZ _ _ h1|false=>exact h1)))
  refine⟨λhl=>⟨vs,hq,by rw[h2.len,<-zJl];exact hl⟩,λx hx=>?_⟩
  obtain⟨e1,e2⟩:=YS hx
  obtain⟨w,hw,rw⟩:=h2.at2 e2
  refine⟨⟨vs,w,hq,hw⟩,λv H3 yd=>?_⟩
  obtain⟨t,x',rfl,ht,rfl,y⟩:=yd
  have:=(hw.symm.trans (y vs hq))
  cases this
  have g3:=bK.new k2 ht (.tup [.int i,w])
  refine⟨_,g3,t,.int i,w,rfl,?_,?_,Rp.mono (wJ n (sf.trans g3.ff)) rw⟩
  ·exact Pj k2 ht (eN n)
  ·rw[e1];rfl
def wP{α β:Type}(c:α->Option Bool)(f:α->Option β)(xs:List α):Option (List β):=if xs.length<cap then wM c f xs else none
theorem V6{α β:Type}(c:α->Option Bool)(f:α->Option β):∀(xs ys:List α),wM c f (xs++ys)=(wM c f xs).bind λa=>(wM c f ys).bind λb=>some (a++b)
 |[],ys=>by
  rw[nil_append]
  show wM c f ys=(wM c f ys).bind λb=>some ([]++b)
  cases wM c f ys<;>rfl
 |x::xs,ys=>by
  show(c x).bind _=((c x).bind _).bind _
  cases c x with
  |none=>rfl
  |some b =>
   cases b with
   |true =>
    show(f x).bind _=((f x).bind _).bind _
    cases f x with
    |none=>rfl
    |some y =>
     show(wM c f (xs++ys)).bind _=((wM c f xs).bind _).bind _
     rw[V6 c f xs ys]
     cases wM c f xs with
     |none=>rfl
     |some a =>
      show((wM c f ys).bind _).bind _=(wM c f ys).bind _
      cases wM c f ys<;>rfl
   |false=>exact V6 c f xs ys
theorem YW{α β:Type}(c:α->Option Bool)(f:α->Option β):∀{xs:List α}{ys:List β},wM c f xs=some ys->ys.length<=xs.length
 |[],ys,h=>by cases h;exact aau _
 |x::xs,ys,h=>by
  have h:((c x).bind λb=>if b=true then(f x).bind λy=>(wM c f xs).bind λys=>some (y::ys) else wM c f xs)=some ys:=h
  cases e:c x with
  |none=>rw[e] at h;cases h
  |some b =>
   rw[e] at h
   cases b with
   |true =>
    have h:((f x).bind λy=>(wM c f xs).bind λys=>some (y::ys))=some ys:=by simpa using h
    cases e2:f x with
    |none=>rw[e2] at h;cases h
    |some y =>
     rw[e2] at h
     cases e3:wM c f xs with
     |none=>rw[e3] at h;cases h
     |some zs =>
      rw[e3] at h
      cases h
      exact ab7 (YW c f e3)
   |false =>
    have h:wM c f xs=some ys:=by simpa using h
    exact Nat.le_succ_of_le (YW c f h)
theorem zOr{α β:Type}{c:α->Option Bool}{f:α->Option β}{xs:List α}{zs:List β}(i:Nat)(h:wM c f xs=some zs):∃ys,wM c f (xs.take i)=some ys:=by
 rw[<-take_append_drop i xs,V6] at h
 cases q:wM c f (xs.take i) with
 |none=>rw[q] at h;cases h
 |some o'=>exact⟨o',rfl⟩
theorem zOs{α β:Type}{c:α->Option Bool}{f:α->Option β}{xs:List α}{zs ys:List β}{x:α}(h:wM c f (xs.take (i+1))=some zs)(hy:wM c f (xs.take i)=some ys)(hx:xs[i]?=some x) :
  (c x=some false/\zs=ys)\/∃y,c x=some true/\f x=some y/\zs=ys++[y]:=by
 have e2:xs.take (i+1)=xs.take i++[x]:=by rw[take_add_one,hx]<;>rfl
 rw[e2,V6,hy] at h
 have h:(((c x).bind λb=>if b=true then(f x).bind λy=>some [y] else some []).bind λb=>some (ys++b))=some zs:=h
 cases e:c x with
 |none=>rw[e] at h;cases h
 |some b =>
  rw[e] at h
  cases b with
  |true =>
   have h:(((f x).bind λy=>some [y]).bind λb=>some (ys++b))=some zs:=by simpa using h
   cases e2:f x with
   |none=>rw[e2] at h;cases h
   |some y=>rw[e2] at h;cases h;exact .inr ⟨y,rfl,rfl,rfl⟩
  |false =>
   have h:some (ys++[])=some zs:=by simpa using h
   rw[append_nil] at h
   cases h
   exact .inl ⟨rfl,rfl⟩
abbrev RX:Slot K->Slot K
 |.un=>.un
 |@Slot.fz _ n _ i a=>@Slot.fz _ n _ i a
 |@Slot.hs _ _ i a=>@Slot.hs _ _ i a
 |@Slot.nu _ _ i a=>@Slot.hs _ _ i a
 |@Slot.ow _ _ _ i xs=>@Slot.hs _ _ _ xs
 |@Slot.od _ _ _ _=>.un
theorem bK.lift(k:Ok B F O H)(g:bK B F H [] F' H'):bK B F H O F' H' :=
 ⟨g.ff,g.hh,⟨g.ok.fh,g.ok.h0,g.ok.fa,λx hx=>by
  obtain⟨a1,a2,a3⟩:=k.fo x hx
  exact⟨g.nw _ a1 (by rw[a3];intro z;cases z),a2,g.hh _ _ a3⟩,k.nd⟩,g.nw⟩
theorem Ok.nil(k:Ok B F O H):Ok B F [] H:=⟨k.fh,k.h0,k.fa,λx hx=>(by cases hx),(by simp)⟩
theorem ak.one(a:At B sl F O H σ)(L:Hp)(j:Nat)(hs:sl[j]?=some s):∀{sl':SL K}{σ':St},ak B F L H sl' σ' []->ak B F L H (RX s::sl') ((σ[j]?).getD none::σ') []:=λ{sl' σ'} h=>by
 cases s with
 |un=>exact .un h
 |fz n b=>obtain⟨v,h1,h2⟩:=a.2.qQ hs;rw[h1];exact .fz h2 h
 |hs b=>obtain⟨v,h1,h2⟩:=a.2.HW hs;rw[h1];exact .hs h2 h
 |nu b=>obtain⟨v,h1,h2⟩:=a.2.Am hs;rw[h1];exact .hs (Rp.mono (aZ.trans lo_le) h2) h
 |ow n xs =>
  obtain⟨k,z0⟩:=a
  obtain⟨O1,O2,p,vs,rfl,h1,h2,_⟩:=z0.pH hs
  rw[h1]
  exact .hs ⟨p,vs,rfl,k.one.2.2,h2.imp λ_ _=>Rp.mono (Ao k n)⟩ h
 |od kvs=>exact .un h
def KN(sl:SL K)(n:Nat)(ix:List Nat):SL K:=replicate n .un++ix.map λj=>RX ((sl[j]?).getD .un)
theorem Em(a:At B sl F O H σ)(L:Hp)(n:Nat):∀(ix:List Nat),(∀j∈ix,j<sl.length)->ak B F L H (KN sl n ix) (je σ n ix) []:=λix hix=>by
 unfold KN je
 induction n with
 |zero =>
  show ak B F L H ([]++_) ([]++_) []
  rw[nil_append,nil_append]
  induction ix with
  |nil=>exact .nil
  |cons j ix ih =>
   rw[map_cons,map_cons]
   have hl:=hix j mem_cons_self
   have hj:sl[j]?=some sl[j]:=aat hl
   have z:=ak.one a L j hj (ih λk hk=>hix k (mem_cons_of_mem _ hk))
   rw[show(sl[j]?).getD .un=sl[j] by rw[hj]<;>rfl]
   exact z
 |succ n ih=>exact .un ih
inductive rP:SL K->SL K->Prop
 |nil:rP [] []
 |eq {s:Slot K} {a b:SL K}:rP a b->rP (s::a) (s::b)
 |un {s:Slot K} {a b:SL K}:rP a b->rP (s::a) (.un::b)
theorem ak.le0(l:rP sl sl2):∀{σ:St},ak B F L H sl σ []->ak B F L H sl2 σ []:=by
 induction l with
 |nil=>intro σ h;exact h
 |eq _ ih =>
  intro σ h
  cases h with
  |un h=>exact .un (ih h)
  |fz r h=>exact .fz r (ih h)
  |hs r h=>exact .hs r (ih h)
  |nu r h=>exact .nu r (ih h)
 |un _ ih =>
  intro σ h
  cases h with
  |un h=>exact .un (ih h)
  |fz r h=>exact .un (ih h)
  |hs r h=>exact .un (ih h)
  |nu r h=>exact .un (ih h)
theorem wC{c:α->Option Bool}{f:α->Option β}{ix:List Nat}(hix:(ix.all λj=>decide (j<sl.length))=true)(hI:iU=KN sl no ix)(hi:Ei B sl n wi mi)(hg:Tg B iU n g Lx)(hc:∀x,Et B (Lx x) tc (c x))(he:∀x,Ex B (Lx x) md te (f x))(hle:∀x,rP (Lx x) iU) :
  Eo B sl md (Pb no ix wi g tc te) (mi.bind λxs=>wP c f xs):=λzs hz F O H σ Q a k=>by
 cases mi with
 |none=>cases hz
 |some xs =>
  have hz:wP c f xs=some zs:=hz
  unfold wP at hz
  split at hz
  case isFalse=>cases hz
  rename_i hcap
  have hcl:=Cy hcap
  refine hi xs rfl F O H σ _ a λJ F' H' gr yl=>?_
  have a':=a.grow gr
  refine⟨λi m ys σ2 H2=>m=xs.length-i/\i<=xs.length/\∃(F2:Hp)(ws:List β),wM c f (xs.take i)=some ws/\bK B F' H' O F2 H2/\ak B F2 (lo F2 [] H2) H2 iU σ2 []/\A2 (rp K (reg B F2 H2 md)) ys ws,
   ⟨xs.length,rfl,abd _,F',[],rfl,.refl a'.1,?_,trivial⟩,?_⟩
  ·rw[hI]
   exact Em a' _ no ix λj hj=>by simpa using(all_eq_true.mp hix) j hj
  rintro i m ys σ2 H2 ⟨rfl,hil,F2,ws,hw,g2,s2,r2⟩
  have hyl:ys.length<=xs.length:=by
   rw[r2.len]
   exact aa6 (YW c f hw) (by rw[length_take];omega)
  obtain⟨y1,y2⟩:=yl i F2 O H2 g2.ff g2.ok
  by_cases hlt:i<xs.length
  ·obtain⟨go,y3⟩:=y2 xs[i] (aat hlt)
   obtain⟨ws',hw'⟩:=zOr (i+1) hz
   refine .inr ⟨go,by omega,λys σ2 H2=>∃(F2:Hp),bK B F' H' O F2 H2/\ak B F2 (lo F2 [] H2) H2 iU σ2 []/\A2 (rp K (reg B F2 H2 md)) ys ws',λys' σ' H' ⟨F3,z1,z2,z3⟩=>⟨xs.length-(i+1),by omega,rfl,hlt,F3,ws',hw',z1,z2,z3⟩,λv H3 yd=>?_⟩
   obtain⟨F3,g3,r3⟩:=y3 v H3 yd
   have g23:=g2.trans g3
   have Pn:At B iU F3 [] H3 σ2:=⟨g3.ok.nil,s2.mono g3.ff (YD ⟨g3.ff,g3.hh,g3.ok.nil,g3.nw⟩) g3.hh⟩
   refine hg v xs[i] F3 [] H3 σ2 _ Pn r3 λσ4 a4=>?_
   have back:∀{F5 H5:Hp},bK B F3 H3 [] F5 H5->bK B F' H' O F5 H5/\ak B F5 (lo F5 [] H5) H5 iU σ4 []:=λ{F5 H5} g5=>⟨g23.trans (bK.lift g3.ok g5),(a4.grow g5).2.le0 (hle xs[i])⟩
   rcases zOs hw' hw (aat hlt) with⟨e1,rfl⟩|⟨y,e1,e2,rfl⟩
   ·refine hc xs[i] false e1 F3 [] H3 σ4 _ a4 λF5 H5 g5=>kJ ?_
    obtain⟨z1,z2⟩:=back g5
    exact⟨F5,z1,z2,r2.imp λ_ _=>Rp.mono (xE (g3.trans (bK.lift g3.ok g5)) md)⟩
   ·refine hc xs[i] true e1 F3 [] H3 σ4 _ a4 λF5 H5 g5=>iu ?_
    refine he xs[i] y e2 F5 [] H5 σ4 _ (a4.grow g5) λw F6 H6 g6 r6=>?_
    obtain⟨z1,z2⟩:=back (g5.trans g6)
    exact⟨F6,z1,z2,(r2.imp λ_ _=>Rp.mono (xE (g3.trans (bK.lift g3.ok (g5.trans g6))) md)).snoc r6⟩
  ·have e:i=xs.length:=by omega
   subst e
   rw[take_length,hz] at hw
   cases hw
   exact .inl ⟨y1 (aau _),by omega,λp hp=>k p ys F2 H2 (gr.trans g2) hp r2⟩
abbrev isF:Slot K->Bool
 |@Slot.fz _ false _ _ _=>true
 |_=>false
theorem zEv{as:SL K}(k:Nat)(hf:as.all isF=true)(r:Ar F as vs):ak ⟨F,H⟩ F L' H (as++replicate k .un) (vs.map some++replicate k none) []:=by
 induction r with
 |nil =>
  show ak _ _ _ _ ([]++_) ([]++_) []
  rw[nil_append,nil_append]
  induction k with
  |zero=>exact .nil
  |succ k ih=>exact .un ih
 |@cons n _ _ _ _ _ _ r _ ih =>
  rw[all_cons,aav] at hf
  cases n with
  |false=>exact .fz r (ih hf.2)
  |true=>exact absurd hf.1 (by simp)
theorem Ar.len(r:Ar F as vs):vs.length=as.length:=by
 induction r with
 |nil=>rfl
 |cons _ _ ih=>rw[length_cons,length_cons,ih]
theorem zSz{A:Type}{as:A->SL K}{f:A->Option β}{N:List Str}(hf:∀a,(as a).all isF=true)(hl:∀a,(as a).length=np)(hb:∀Fa a,SB ⟨Fa,H⟩ (as a++replicate (N.length-np) .un) t al (f a))(h:cQ K al as f vs H Q E):t { nx:=λ_ H'=>Q .non H',rt:=Q } (L2.start N vs) H:=by
 obtain⟨a,b,Fa,s,hfa,r,q⟩:=h
 have e:L2.start N vs=vs.map some++replicate (N.length-np) none:=by
  unfold L2.start
  rw[r.len,hl]
 rw[e]
 refine hb Fa a b hfa Fa _ _ H ⟨Fa,[],.refl _,⟨s,.refl _,λb o h=>.inl h,λx hx=>(by cases hx),(by simp)⟩,zEv _ (hf a) r⟩ (λv H' z=>q v H' z.1 z.2)
theorem zU9{A:Type}{as:A->SL K}{f:A->Option β}(hl:∀a,(as a).length=np)(h:cQ K al as f vs H Q E):vs.length=np:=by
 obtain⟨a,b,Fa,s,hfa,r,q⟩:=h
 rw[r.len,hl]
end
open PySem.SeqAt (EqAt RcAt RcNeAt)
class Eqv (K:PySem.W.Frag) (α:Type) [Rp K α] [DecidableEq α] where
 dep:Nat
 det:∀{H:Hp}{v:V}{a b:α},rp K H v a->rp K H v b->a=b
 Aw:∀{X:Cx}{pins:List (Addr×Obj)}{σ:St}{H:Hp}{s:Shared},Inv X pins σ H s->∀{A:Around},A.units+dep<cLine->∀{v w:V}{u u':Value}{a b:α},rp K H v a->rp K H w b->RelV v u->RelV w u'->EqAt A s u u' (decide (a=b))
 KQ:∀{X:Cx}{pins:List (Addr×Obj)}{σ:St}{H:Hp}{s:Shared},Inv X pins σ H s->∀{A:Around},A.units+dep<cLine->∀{v w:V}{u u':Value}{a b:α},rp K H v a->rp K H w b->RelV v u->RelV w u'->RcAt A s u u' (decide (a=b))
 KR:∀{X:Cx}{pins:List (Addr×Obj)}{σ:St}{H:Hp}{s:Shared},Inv X pins σ H s->∀{A:Around},A.units+dep<cLine->∀{v w:V}{u u':Value}{a b:α},rp K H v a->rp K H w b->RelV v u->RelV w u'->RcNeAt A s u u' (!decide (a=b))
section
variable{K:PySem.W.Frag}
theorem jf{α:Type}[BEq α][LawfulBEq α][DecidableEq α](a b:α):(a==b)=decide (a=b):=by
 by_cases h:a=b
 ·subst h;simp
 ·simp[h]
instance:Eqv K Int where
 dep:=0
 det h1 h2:=by cases h1;cases h2;rfl
 Aw _ _ _ _ _ _ _ _ _ h1 h2 r1 r2:=by cases h1;cases h2;obtain⟨t,rfl⟩:=r1;obtain⟨t',rfl⟩:=r2;rw[<-jf];exact EqAt.int_int _ _ _ _
 KQ _ _ _ _ _ _ _ _ _ h1 h2 r1 r2:=by cases h1;cases h2;obtain⟨t,rfl⟩:=r1;obtain⟨t',rfl⟩:=r2;rw[<-jf];exact RcAt.int_int _ _ _ _
 KR _ _ _ _ _ _ _ _ _ h1 h2 r1 r2:=by cases h1;cases h2;obtain⟨t,rfl⟩:=r1;obtain⟨t',rfl⟩:=r2;rw[<-jf];exact RcNeAt.int_int _ _ _ _
instance:Eqv K Str where
 dep:=0
 det h1 h2:=by cases h1;cases h2;rfl
 Aw _ _ _ _ _ _ _ _ _ h1 h2 r1 r2:=by cases h1;cases h2;obtain⟨t,rfl⟩:=r1;obtain⟨t',rfl⟩:=r2;rw[<-jf];exact EqAt.str_str _ _ _ _
 KQ _ _ _ _ _ _ _ _ _ h1 h2 r1 r2:=by cases h1;cases h2;obtain⟨t,rfl⟩:=r1;obtain⟨t',rfl⟩:=r2;rw[<-jf];exact RcAt.str_str _ _ _ _
 KR _ _ _ _ _ _ _ _ _ h1 h2 r1 r2:=by cases h1;cases h2;obtain⟨t,rfl⟩:=r1;obtain⟨t',rfl⟩:=r2;rw[<-jf];exact RcNeAt.str_str _ _ _ _
instance:Eqv K Bool where
 dep:=0
 det h1 h2:=by cases h1;cases h2;rfl
 Aw _ _ _ _ _ _ _ _ _ h1 h2 r1 r2:=by cases h1;cases h2;cases r1;cases r2;rw[<-jf];exact EqAt.bool_bool _ _
 KQ _ _ _ _ _ _ _ _ _ h1 h2 r1 r2:=by cases h1;cases h2;cases r1;cases r2;rw[<-jf];exact RcAt.bool_bool _ _
 KR _ _ _ _ _ _ _ _ _ h1 h2 r1 r2:=by cases h1;cases h2;cases r1;cases r2;rw[<-jf];exact RcNeAt.bool_bool _ _
theorem YX{a b:Int}:decide (some a=some b)=decide (a=b):=by simp
instance:Eqv K (Option Int) where
 dep:=0
 det {H v a b} h1 h2:=by
  cases a with
  |none=>cases b with
   |none=>rfl
   |some y=>exact absurd h1 h2.1
  |some x=>cases b with
   |none=>exact absurd h2 h1.1
   |some y=>cases h1.2;cases h2.2;rfl
 Aw {X pins σ H s} _ {A} _ {v w u u' a b} h1 h2 r1 r2:=by
  cases a with
  |none =>
   cases h1;cases r1
   cases b with
   |none=>cases h2;cases r2;exact EqAt.same _
   |some y=>cases h2.2;obtain⟨t',rfl⟩:=r2;exact EqAt.none_int _ _
  |some x =>
   cases h1.2;obtain⟨t,rfl⟩:=r1
   cases b with
   |none=>cases h2;cases r2;exact EqAt.int_none _ _
   |some y=>cases h2.2;obtain⟨t',rfl⟩:=r2;rw[YX,<-jf];exact EqAt.int_int _ _ _ _
 KQ {X pins σ H s} _ {A} _ {v w u u' a b} h1 h2 r1 r2:=by
  cases a with
  |none =>
   cases h1;cases r1
   cases b with
   |none=>cases h2;cases r2;exact RcAt.none_none
   |some y=>cases h2.2;obtain⟨t',rfl⟩:=r2;exact RcAt.none_int _ _
  |some x =>
   cases h1.2;obtain⟨t,rfl⟩:=r1
   cases b with
   |none=>cases h2;cases r2;exact RcAt.int_none _ _
   |some y=>cases h2.2;obtain⟨t',rfl⟩:=r2;rw[YX,<-jf];exact RcAt.int_int _ _ _ _
 KR {X pins σ H s} _ {A} _ {v w u u' a b} h1 h2 r1 r2:=by
  cases a with
  |none =>
   cases h1;cases r1
   cases b with
   |none=>cases h2;cases r2;exact RcNeAt.none_none
   |some y=>cases h2.2;obtain⟨t',rfl⟩:=r2;exact RcNeAt.none_int _ _
  |some x =>
   cases h1.2;obtain⟨t,rfl⟩:=r1
   cases b with
   |none=>cases h2;cases r2;exact RcNeAt.int_none _ _
   |some y=>cases h2.2;obtain⟨t',rfl⟩:=r2;rw[YX,<-jf];exact RcNeAt.int_int _ _ _ _
theorem A2.det{α β:Type}{R:α->β->Prop}(h:∀x y z,R x y->R x z->y=z):∀{xs:List α}{ys zs:List β},A2 R xs ys->A2 R xs zs->ys=zs
 |[],[],[],_,_=>rfl
 |_::_,_::_,_::_,h1,h2=>by rw[h _ _ _ h1.1 h2.1,A2.det h h1.2 h2.2]
 |[],_::_,_,h1,_=>h1.elim
 |[],[],_::_,_,h2=>h2.elim
 |_::_,[],_,h1,_=>h1.elim
 |_::_,_::_,[],_,h2=>h2.elim
theorem V7{α:Type}[DecidableEq α]:∀{xs ys:List α},xs.length=ys.length->((aa5 xs.length).all λj=>decide (xs[j]?=ys[j]?))=decide (xs=ys)
 |[],[],_=>by simp
 |x::xs,y::ys,h=>by
  have ih:=V7 (xs:=xs) (ys:=ys) (by simpa using h)
  rw[length_cons,range_succ_eq_map,all_cons,List.all_map]
  have e:((λj=>decide ((x::xs)[j]?=(y::ys)[j]?))∘Nat.succ)=λj=>decide (xs[j]?=ys[j]?):=by
   funext j
   simp
  rw[e,ih]
  by_cases h1:x=y<;>by_cases h2:xs=ys<;>simp[h1,h2]
 |[],_::_,h=>by simp at h
 |_::_,[],h=>by simp at h
theorem Pq{α:Type}[Rp K α]{xs:List α}(r:Vals vs us)(h:A2 (rp K H) vs xs)(j:Nat)(hj:j<us.toArray.size):∃v x,xs[j]?=some x/\rp K H v x/\RelV v us.toArray[j]:=by
 have l1:j<vs.length:=by rw[r.length];simpa using hj
 obtain⟨u,hu,ru⟩:=r.get (aat l1)
 obtain⟨x,hx,rx⟩:=h.at1 (aat l1)
 refine⟨vs[j],x,hx,rx,?_⟩
 have e1:us.toArray[j]=u:=by
  have:us[j]?=some u:=hu
  rw[aat (by simpa using hj)] at this
  simpa using this
 rw[e1]
 exact ru
theorem RZ{A:Around}:A.in1.units=A.units+1:=rfl
instance{α:Type}[Rp K α][DecidableEq α][Eqv K α]:Eqv K (List α) where
 dep:=Eqv.dep K α+1
 det {H v a b} h1 h2:=by
  obtain⟨p,vs,rfl,h1,r1⟩:=h1
  obtain⟨p',vs',e,h2,r2⟩:=h2
  cases e
  cases h1.symm.trans h2
  exact A2.det (R:=rp K H) (λ_ _ _ z1 z2=>Eqv.det (K:=K) z1 z2) r1 r2
 KQ {X pins σ H s} I {A} hu {v w u u' a b} h1 h2 q1 q2:=by
  obtain⟨p,vs,rfl,h1,r1⟩:=h1
  obtain⟨p',ws,rfl,h2,r2⟩:=h2
  cases q1;cases q2
  obtain⟨us,s1,p1,_⟩:=I.list (aW.of h1)
  obtain⟨us',s2,p2,_⟩:=I.list (aW.of h2)
  have n1:us.toArray.size=a.length:=by rw[size_toArray,<-r1.len];exact s1.length.symm
  have n2:us'.toArray.size=b.length:=by rw[size_toArray,<-r2.len];exact s2.length.symm
  by_cases hl:a.length=b.length
  ·have z:=RcAt.lists (e:=λj=>decide (a[j]?=b[j]?)) p1.isList p2.isList (by rw[n1,n2];exact hl) (aaz (acf _ _) hu) (λj h1 h2=>by
    obtain⟨v,x,e1,e2,e3⟩:=Pq s1 r1 j h1
    obtain⟨w,y,f1,f2,f3⟩:=Pq s2 r2 j h2
    rw[e1,f1]
    have z:=Eqv.Aw (K:=K) I (A:=A.in1) (by rw[RZ];omega) e2 f2 e3 f3
    simpa using z)
   rw[n1,V7 hl] at z
   exact z
  ·rw[show decide (a=b)=false by simp;intro e;exact hl (by rw[e])]
   exact RcAt.lists_lengths p1.isList p2.isList (by rw[n1,n2];exact bne_iff_ne.mpr hl) (aaz (acf _ _) hu)
 KR {X pins σ H s} I {A} hu {v w u u' a b} h1 h2 q1 q2:=by
  obtain⟨p,vs,rfl,h1,r1⟩:=h1
  obtain⟨p',ws,rfl,h2,r2⟩:=h2
  cases q1;cases q2
  obtain⟨us,s1,p1,_⟩:=I.list (aW.of h1)
  obtain⟨us',s2,p2,_⟩:=I.list (aW.of h2)
  have n1:us.toArray.size=a.length:=by rw[size_toArray,<-r1.len];exact s1.length.symm
  have n2:us'.toArray.size=b.length:=by rw[size_toArray,<-r2.len];exact s2.length.symm
  by_cases hl:a.length=b.length
  ·have z:=RcNeAt.lists (e:=λj=>decide (a[j]?=b[j]?)) p1.isList p2.isList (by rw[n1,n2];exact hl) (aaz (acf _ _) hu) (λj h1 h2=>by
    obtain⟨v,x,e1,e2,e3⟩:=Pq s1 r1 j h1
    obtain⟨w,y,f1,f2,f3⟩:=Pq s2 r2 j h2
    rw[e1,f1]
    have z:=Eqv.Aw (K:=K) I (A:=A.in1) (by rw[RZ];omega) e2 f2 e3 f3
    simpa using z)
   rw[n1,V7 hl] at z
   exact z
  ·rw[show decide (a=b)=false by simp;intro e;exact hl (by rw[e])]
   exact RcNeAt.lists_lengths p1.isList p2.isList (by rw[n1,n2];exact bne_iff_ne.mpr hl) (aaz (acf _ _) hu)
 Aw {X pins σ H s} I {A} hu {v w u u' a b} h1 h2 q1 q2:=by
  obtain⟨p,vs,rfl,h1,r1⟩:=h1
  obtain⟨p',ws,rfl,h2,r2⟩:=h2
  cases q1;cases q2
  by_cases hp:p=p'
  ·subst hp
   cases h1.symm.trans h2
   rw[show a=b from A2.det (R:=rp K H) (λ_ _ _ z1 z2=>Eqv.det (K:=K) z1 z2) r1 r2]
   simp
   exact EqAt.same _
  ·refine EqAt.of_refs hp ?_
   obtain⟨us,s1,p1,_⟩:=I.list (aW.of h1)
   obtain⟨us',s2,p2,_⟩:=I.list (aW.of h2)
   have n1:us.toArray.size=a.length:=by rw[size_toArray,<-r1.len];exact s1.length.symm
   have n2:us'.toArray.size=b.length:=by rw[size_toArray,<-r2.len];exact s2.length.symm
   by_cases hl:a.length=b.length
   ·have z:=RcAt.lists (e:=λj=>decide (a[j]?=b[j]?)) p1.isList p2.isList (by rw[n1,n2];exact hl) (aaz (acf _ _) hu) (λj h1 h2=>by
     obtain⟨v,x,e1,e2,e3⟩:=Pq s1 r1 j h1
     obtain⟨w,y,f1,f2,f3⟩:=Pq s2 r2 j h2
     rw[e1,f1]
     have z:=Eqv.Aw (K:=K) I (A:=A.in1) (by rw[RZ];omega) e2 f2 e3 f3
     simpa using z)
    rw[n1,V7 hl] at z
    exact z
   ·rw[show decide (a=b)=false by simp;intro e;exact hl (by rw[e])]
    exact RcAt.lists_lengths p1.isList p2.isList (by rw[n1,n2];exact bne_iff_ne.mpr hl) (aaz (acf _ _) hu)
theorem zTm{α β:Type}[DecidableEq α][DecidableEq β](a b:α×β):((aa5 (min 2 2)).all (λj=>if j=0 then decide (a.1=b.1) else decide (a.2=b.2))&&((2:Nat)==2))=decide (a=b):=by
 obtain⟨a1,a2⟩:=a
 obtain⟨b1,b2⟩:=b
 by_cases h1:a1=b1<;>by_cases h2:a2=b2<;>simp[range_succ,h1,h2]
theorem vals2(h:Vals [v1,v2] us):∃u1 u2,us=[u1,u2]/\RelV v1 u1/\RelV v2 u2:=by
 cases h with
 |cons a1 h=>cases h with
  |cons a2 h=>cases h;exact⟨_,_,rfl,a1,a2⟩
section
variable{α β:Type}[Rp K α][DecidableEq α][Eqv K α][Rp K β][DecidableEq β][Eqv K β]{X:Cx}{pins:List (Addr×Obj)}{σ:St}{H:Hp}{s:Shared}{A:Around}{a b:α×β}{p p':Addr}{v1 v2 w1 w2:V}
theorem zNy(I:Inv X pins σ H s)(hu:A.units+(Eqv.dep K α+Eqv.dep K β+1)<cLine)(r1:rp K H v1 a.1)(r2:rp K H v2 a.2)(z1:rp K H w1 b.1)(z2:rp K H w2 b.2)(a1:RelV v1 u1)(a2:RelV v2 u2)(b1:RelV w1 t1)(b2:RelV w2 t2) :
  ∀(j:Nat)(h1:j < #[u1,u2].size)(h2:j < #[t1,t2].size),EqAt A.in1 s #[u1,u2][j] #[t1,t2][j] (if j=0 then decide (a.1=b.1) else decide (a.2=b.2)):=by
 intro j h1 h2
 have hj:j=0\/j=1:=by
  have:j<2:=h1
  omega
 rcases hj with rfl|rfl
 ·exact Eqv.Aw (K:=K) I (A:=A.in1) (by rw[RZ];omega) r1 z1 a1 b1
 ·exact Eqv.Aw (K:=K) I (A:=A.in1) (by rw[RZ];omega) r2 z2 a2 b2
theorem YZ(I:Inv X pins σ H s)(hu:A.units+(Eqv.dep K α+Eqv.dep K β+1)<cLine)(h1:H p=some (.tup [v1,v2]))(h2:H p'=some (.tup [w1,w2]))(r1:rp K H v1 a.1)(r2:rp K H v2 a.2)(z1:rp K H w1 b.1)(z2:rp K H w2 b.2) :
  RcAt A s (.ref p) (.ref p') (decide (a=b))/\RcNeAt A s (.ref p) (.ref p') (!decide (a=b)):=by
 obtain⟨us,s1,p1,_⟩:=I.tuple (.inl (.inl h1))
 obtain⟨us',s2,p2,_⟩:=I.tuple (.inl (.inl h2))
 obtain⟨u1,u2,rfl,a1,a2⟩:=vals2 s1
 obtain⟨t1,t2,rfl,b1,b2⟩:=vals2 s2
 have he:=zNy (A:=A) I hu r1 r2 z1 z2 a1 a2 b1 b2
 have hu':A.units<cLine:=aaz (acf _ _) hu
 have q1:=RcAt.tuples p1 p2 hu' he
 have q2:=RcNeAt.tuples p1 p2 hu' he
 rw[<-zTm]
 exact⟨q1,q2⟩
end
instance{α β:Type}[Rp K α][DecidableEq α][Eqv K α][Rp K β][DecidableEq β][Eqv K β]:Eqv K (α×β) where
 dep:=Eqv.dep K α+Eqv.dep K β+1
 det {H v a b} h1 h2:=by
  obtain⟨p,v1,v2,rfl,h1,r1,r2⟩:=h1
  obtain⟨p',w1,w2,e,h2,q1,q2⟩:=h2
  cases e
  cases h1.symm.trans h2
  exact Prod.ext (Eqv.det (K:=K) r1 q1) (Eqv.det (K:=K) r2 q2)
 KQ {X pins σ H s} I {A} hu {v w u u' a b} h1 h2 q1 q2:=by
  obtain⟨p,v1,v2,rfl,h1,r1,r2⟩:=h1
  obtain⟨p',w1,w2,rfl,h2,z1,z2⟩:=h2
  cases q1;cases q2
  exact(YZ I hu h1 h2 r1 r2 z1 z2).1
 KR {X pins σ H s} I {A} hu {v w u u' a b} h1 h2 q1 q2:=by
  obtain⟨p,v1,v2,rfl,h1,r1,r2⟩:=h1
  obtain⟨p',w1,w2,rfl,h2,z1,z2⟩:=h2
  cases q1;cases q2
  exact(YZ I hu h1 h2 r1 r2 z1 z2).2
 Aw {X pins σ H s} I {A} hu {v w u u' a b} h1 h2 q1 q2:=by
  obtain⟨p,v1,v2,rfl,h1,r1,r2⟩:=h1
  obtain⟨p',w1,w2,rfl,h2,z1,z2⟩:=h2
  cases q1;cases q2
  by_cases hp:p=p'
  ·subst hp
   cases h1.symm.trans h2
   rw[show a=b from Prod.ext (Eqv.det (K:=K) r1 z1) (Eqv.det (K:=K) r2 z2)]
   simp
   exact EqAt.same _
  ·exact EqAt.of_refs hp (YZ I hu h1 h2 r1 r2 z1 z2).1
def Ep(K:PySem.W.Frag)(α:Type)[Rp K α][DecidableEq α](neg:Bool):R2:=λx y H Q=>∃a b:α,rp K H x a/\rp K H y b/\Q (.bl (if neg=true then !decide (a=b) else decide (a=b))) H
theorem Cz(K:PySem.W.Frag)(α:Type)[Rp K α][DecidableEq α][Eqv K α]{X:Cx}(hr:bW k X.A)(hd:Eqv.dep K α<=64:=by exact Nat.le_of_ble_eq_true rfl):kI X (compareOp .Eq) (Ep K α false):=by
 intro pins s σ H x y v u Q I rx ry h
 obtain⟨a,b,h1,h2,q⟩:=h
 exact Eqv.KQ (K:=K) I (A:=X.A) (by have:=hr.units;omega) h1 h2 rx ry _ _ _ _ ⟨.bl (decide (a=b)),H,I,rfl,q⟩
theorem Y0(K:PySem.W.Frag)(α:Type)[Rp K α][DecidableEq α][Eqv K α]{X:Cx}(hr:bW k X.A)(hd:Eqv.dep K α<=64:=by exact Nat.le_of_ble_eq_true rfl):kI X (compareOp .NotEq) (Ep K α true):=by
 intro pins s σ H x y v u Q I rx ry h
 obtain⟨a,b,h1,h2,q⟩:=h
 exact Eqv.KR (K:=K) I (A:=X.A) (by have:=hr.units;omega) h1 h2 rx ry _ _ _ _ ⟨.bl (!decide (a=b)),H,I,rfl,q⟩
variable{B:Bs}{sl:SL K}{md md1:Md}{α β:Type}[Rp K α][Rp K β]{t1 t2 t:TE}
theorem CG[DecidableEq α]{m1 m2:Option α}(h1:Ex B sl .hp t1 m1)(h2:Ex B sl .hp t2 m2):Ex B sl md (jT (Ep K α false) t1 t2) (m1.bind λa=>m2.bind λb=>some (decide (a=b))) :=
 Cw (f:=λa b=>some (decide (a=b))) (λa b c v w H Q e r1 r2 q=>by cases e;exact⟨a,b,r1,r2,q⟩) h1 h2
theorem Y4[DecidableEq α]{m1 m2:Option α}(h1:Ex B sl .hp t1 m1)(h2:Ex B sl .hp t2 m2):Ex B sl md (jT (Ep K α true) t1 t2) (m1.bind λa=>m2.bind λb=>some (!decide (a=b))) :=
 Cw (f:=λa b=>some (!decide (a=b))) (λa b c v w H Q e r1 r2 q=>by cases e;exact⟨a,b,r1,r2,q⟩) h1 h2
section
variable{m1 m2:Option Int}
theorem V8{g:Int->Int->V}{f:Int->Int->α}[Sc K α](hg:∀i j,g i j=Sc.val K (f i j))(h1:Ex B sl .hp t1 m1)(h2:Ex B sl .hp t2 m2):Ex B sl md (jT (rR g) t1 t2) (m1.bind λa=>m2.bind λb=>some (f a b)) :=
 Cw (f:=λa b=>some (f a b)) (λa b c v w H Q e r1 r2 q=>by cases e;cases r1;cases r2;exact⟨a,b,rfl,rfl,by rw[hg];exact q⟩) h1 h2
theorem V9(h1:Ex B sl .hp t1 m1)(h2:Ex B sl .hp t2 m2):Ex B sl md (jT (rR λi j=>.int (i+j)) t1 t2) (m1.bind λa=>m2.bind λb=>some (a+b)):=V8 (λ_ _=>rfl) h1 h2
theorem Ia(h1:Ex B sl .hp t1 m1)(h2:Ex B sl .hp t2 m2):Ex B sl md (jT (rR λi j=>.bl (decide (i<j))) t1 t2) (m1.bind λa=>m2.bind λb=>some (decide (a<b))):=V8 (λ_ _=>rfl) h1 h2
theorem Ax(h1:Ex B sl .hp t1 m1)(h2:Ex B sl .hp t2 m2):Ex B sl md (jT (rR λi j=>.bl (decide (j<i))) t1 t2) (m1.bind λa=>m2.bind λb=>some (decide (b<a))):=V8 (λ_ _=>rfl) h1 h2
def jF(a b:Int):Option Int:=if 0<b then some (a%b) else none
def lX(a b:Int):Option Int:=if 0<b/\b<1073741824 then some (a/b) else none
theorem KY(h1:Ex B sl .hp t1 m1)(h2:Ex B sl .hp t2 m2):Ex B sl md (jT (rI (λ_ j=>0<j) λi j=>.int (i%j)) t1 t2) (m1.bind λa=>m2.bind λb=>jF a b) :=
 Cw (f:=jF) (λa b c v w H Q e r1 r2 q=>by
  unfold jF at e
  split at e
  case isFalse=>cases e
  rename_i hc
  cases e;cases r1;cases r2
  exact⟨a,b,rfl,rfl,hc,q⟩) h1 h2
theorem R3(h1:Ex B sl .hp t1 m1)(h2:Ex B sl .hp t2 m2):Ex B sl md (jT (rI J5 λi j=>.int (i/j)) t1 t2) (m1.bind λa=>m2.bind λb=>lX a b) :=
 Cw (f:=lX) (λa b c v w H Q e r1 r2 q=>by
  unfold lX at e
  split at e
  case isFalse=>cases e
  rename_i hc
  cases e;cases r1;cases r2
  exact⟨a,b,rfl,rfl,hc,q⟩) h1 h2
end
theorem A2.bx(h:A2 R vs xs)(e:L2.bx xs i=some a):∃v,L2.bx vs i=some v/\R v a:=by
 unfold L2.bx at e ⊢
 rw[h.len]
 cases q:tR xs.length i with
 |none=>rw[q] at e;cases e
 |some j=>rw[q] at e;exact h.at2 e
theorem yW{m1:Option (List α)}{m2:Option Int}(h1:Ex B sl md t1 m1)(h2:Ex B sl .hp t2 m2):Ex B sl md (jT (rY K) t1 t2) (m1.bind λxs=>m2.bind λi=>L2.bx xs i):=λc hc F O H σ Q s k=>by
 obtain⟨xs,i,e1,e2,e3⟩:=qJ hc
 refine h1 xs e1 F O H σ _ s λv F' H' g r1=>?_
 refine h2 i e2 F' O H' σ _ (s.grow g) λw F2 H2 g2 r2=>?_
 cases r2
 obtain⟨p,vs,rfl,z1,z2⟩:=r1
 obtain⟨u,y1,y2⟩:=z2.bx e3
 have hle:Same (reg B F' H' md) H2:=(match md with
  |.nw=>aZ.trans g.ok.fh
  |.fz=>g.ok.fh
  |.hp=>.refl _:Same (reg B F' H' md) H').trans g2.hh
 exact⟨p,vs,i,u,rfl,rfl,aW.of (hle _ _ z1),y1,k u F2 H2 (g.trans g2) (Rp.mono (xE g2 md) y2)⟩
theorem KZ{n:Bool}{xs:List α}{m2:Option Int}(i:Nat)(hs:sl[i]?=some (.ow n xs))(h2:Ex B sl .hp t2 m2):Ex B sl (eN n) (jT (rY K) (bZ i) t2) (m2.bind λi=>L2.bx xs i):=λc hc F O H σ Q s k=>by
 cases m2 with
 |none=>cases hc
 |some j =>
  have hc:L2.bx xs j=some c:=hc
  obtain⟨O1,O2,p,vs,rfl,y1,y2,_⟩:=s.2.pH hs
  refine⟨_,y1,?_⟩
  refine h2 j rfl F _ H σ _ s λw F2 H2 g2 r2=>?_
  cases r2
  obtain⟨u,z1,z2⟩:=y2.bx hc
  exact⟨p,vs,j,u,rfl,rfl,aW.of (g2.hh _ _ s.1.one.2.2),z1,k u F2 H2 g2 (Rp.mono (xE g2 (eN n)) z2)⟩
abbrev K1(K:PySem.W.Frag):List V->Hp->VK->Prop:=λxs H Q=>∃p ys,xs=[.ref p]/\(aW K H p ys\/cO K H p ys)/\Q (.int ys.length) H
theorem uD{m:Option (List α)}(h:Ex B sl .hp t m):Ex B sl md (yu (K1 K) (yQ t bJ)) (m.bind λxs=>some (xs.length:Int)):=λc hc F O H σ Q s k=>by
 cases m with
 |none=>cases hc
 |some xs =>
  cases(show some (xs.length:Int)=some c from hc)
  refine h xs rfl F O H σ _ s λv F' H' g r1=>?_
  obtain⟨p,vs,rfl,z1,z2⟩:=r1
  exact⟨p,vs,rfl,.inl (aW.of z1),k _ F' H' g (by show V.int vs.length=V.int xs.length;rw[z2.len])⟩
abbrev Ib(K:PySem.W.Frag):List V->Hp->VK->Prop:=λxs H Q=>∃p ys,xs=[V.ref p]/\(aW K H p ys\/cO K H p ys)/\∀l,H l=none->Q (.ref l) (upd H l (.lst ys))
theorem A2.sc{F F':Hp}[Sc K α]{vs:List V}{xs:List α}(h:A2 (rp K F) vs xs):A2 (rp K F') vs xs:=h.imp λ_ _=>V2
theorem K3[Sc K α]{m:Option (List α)}(h:Ex B sl .hp t m):Eo B sl md (yu (Ib K) (yQ t bJ)) m:=λc hc F O H σ Q s k=>by
 refine h c hc F O H σ _ s λv F' H' g r1=>?_
 obtain⟨p,vs,rfl,z1,z2⟩:=r1
 exact⟨p,vs,rfl,.inl (aW.of z1),λl hl=>k l vs F' H' g hl z2.sc⟩
class Fl (K:PySem.W.Frag) (α:Type) [Rp K α] [Sc K α] [DecidableEq α]:Prop where
 flat:∀a:α,Cp (Sc.val K a)=true
 eq:∀a b:α,Cq (Sc.val K a) (Sc.val K b)=decide (a=b)
instance:Fl K Int:=⟨λ_=>rfl,λa b=>by show(a==b)=_;exact jf a b⟩
instance:Fl K Str:=⟨λ_=>rfl,λa b=>by show(a==b)=_;exact jf a b⟩
instance:Fl K Bool:=⟨λ_=>rfl,λa b=>by show(a==b)=_;exact jf a b⟩
instance:Fl K (Option Int):=⟨λa=>by cases a<;>rfl,λa b=>by
 cases a with
 |none=>cases b with
  |none=>rfl
  |some y=>rfl
 |some x=>cases b with
  |none=>rfl
  |some y=>show(x==y)=_;rw[jf];simp⟩
theorem A2.vals[Sc K α]:∀{vs:List V}{xs:List α},A2 (rp K F) vs xs->vs=xs.map (Sc.val K)
 |[],[],_=>rfl
 |_::_,_::_,h=>by rw[map_cons,Sc.is.mp h.1,A2.vals h.2]
 |[],_::_,h=>h.elim
 |_::_,[],h=>h.elim
theorem V_[Sc K α][DecidableEq α][Fl K α](a:α):∀xs:List α,inV (Sc.val K a) (xs.map (Sc.val K))=decide (a∈xs)
 |[]=>by simp[inV]
 |x::xs=>by
  have ih:=V_ a xs
  unfold inV at ih ⊢
  rw[map_cons,any_cons,ih,Fl.eq]
  by_cases h1:x=a
  ·subst h1;simp
  ·by_cases h2:a∈xs<;>simp[h1,h2,aco h1]
theorem Y5[Sc K α][DecidableEq α][Fl K α](xs:List α):(xs.map (Sc.val K)).all Cp=true:=by
 rw[List.all_map,all_eq_true]
 intro x _
 exact Fl.flat x
theorem yx[Sc K α][DecidableEq α][Fl K α]{m1:Option α}{m2:Option (List α)}(h1:Ex B sl .hp t1 m1)(h2:Ex B sl .hp t2 m2):Ex B sl md (jT (Kl K false) t1 t2) (m1.bind λa=>m2.bind λxs=>some (decide (a∈xs))) :=
 Cw (f:=λa xs=>some (decide (a∈xs))) (λa b c v w H Q e r1 r2 q=>by
  cases e
  obtain⟨p,vs,rfl,z1,z2⟩:=r2
  have ev:=Sc.is.mp r1
  have es:=z2.vals
  subst ev es
  refine⟨p,_,rfl,.inl (aW.of z1),Fl.flat a,Y5 b,?_⟩
  have:=V_ (K:=K) a b
  simp only[aa1,if_false]
  rw[this]
  exact q) h1 h2
theorem zVq[Sc K α][DecidableEq α][Fl K α]{m1:Option α}{m2:Option (List α)}(h1:Ex B sl .hp t1 m1)(h2:Ex B sl .hp t2 m2):Ex B sl md (jT (Kl K true) t1 t2) (m1.bind λa=>m2.bind λxs=>some (!decide (a∈xs))) :=
 Cw (f:=λa xs=>some (!decide (a∈xs))) (λa b c v w H Q e r1 r2 q=>by
  cases e
  obtain⟨p,vs,rfl,z1,z2⟩:=r2
  have ev:=Sc.is.mp r1
  have es:=z2.vals
  subst ev es
  refine⟨p,_,rfl,.inl (aW.of z1),Fl.flat a,Y5 b,?_⟩
  have:=V_ (K:=K) a b
  simp only[if_true]
  rw[this]
  exact q) h1 h2
theorem R5{m:Option (Option α)}(h:Ex B sl .hp t m):Ex B sl md (QK t) (m.bind λa=>some a.isNone):=λc hc F O H σ Q s k=>by
 cases m with
 |none=>cases hc
 |some a =>
  cases(show some a.isNone=some c from hc)
  refine h a rfl F O H σ _ s λv F' H' g r1=>?_
  cases a with
  |none=>cases r1;exact k _ F' H' g rfl
  |some x=>rw[decide_eq_false r1.1];exact k _ F' H' g rfl
theorem Er{m:Option (Option α)}(h:Ex B sl .hp t m):Ex B sl md (Hv t) (m.bind λa=>some a.isSome):=λc hc F O H σ Q s k=>by
 cases m with
 |none=>cases hc
 |some a =>
  cases(show some a.isSome=some c from hc)
  refine h a rfl F O H σ _ s λv F' H' g r1=>?_
  cases a with
  |none=>cases r1;exact k _ F' H' g rfl
  |some x=>rw[decide_eq_false r1.1];exact k _ F' H' g rfl
theorem uE{m:Option (Option α)}(h:Ex B sl md t m):Ex B sl md t (m.bind λa=>a):=λc hc F O H σ Q s k=>by
 cases m with
 |none=>cases hc
 |some a =>
  cases a with
  |none=>cases hc
  |some x =>
   have e:x=c:=aaw hc
   subst e
   exact h (some x) rfl F O H σ _ s λv F' H' g r1=>k v F' H' g r1.2
class Ty (K:PySem.W.Frag) (α:Type) [Rp K α] where
 ty:Value
 is:∀{H:Hp}{v:V}{a:α},rp K H v a->jX K H v ty
instance:Ty K Int:=⟨.type "int",λh=>by cases h;exact .int _⟩
instance:Ty K Bool:=⟨.type "bool",λh=>by cases h;exact .bl _⟩
instance:Ty K Str:=⟨.type "str",λh=>by cases h;exact .str _⟩
instance:Ty K (List α):=⟨.type "list",λ⟨p,vs,e,h,_⟩=>by rw[e];exact .lst h⟩
instance:Ty K (α×β):=⟨.type "tuple",λ⟨p,_,_,e,h,_⟩=>by rw[e];exact .tup h⟩
theorem R7[Ty K α]{c:Value}{y:V}{b:Bool}{m:Option α}(hb:kitOne K (Ty.ty K α) c=some b)(hy:RelV y c)(h:Ex B sl .hp t m):Ex B sl md (yu (Eb K c) (yQ t (yQ (tC y) bJ))) (m.bind λ_=>some b):=λd hd F O H σ Q s k=>by
 cases m with
 |none=>cases hd
 |some a =>
  cases(show some b=some d from hd)
  refine h a rfl F O H σ _ s λv F' H' g r1=>?_
  exact⟨v,y,_,b,rfl,hy,Ty.is r1,hb,k _ F' H' g rfl⟩
end
def src(xss:List LI)(j:Nat):LI:=((aa5 xss.length).filter λk=>decide ((j:Int)∈xss.getD k [])).map adg
theorem ju{α:Type}{p q:α->Bool}:∀{l:List α},(∀x∈l,p x=q x)->l.filter p=l.filter q
 |[],_=>rfl
 |a::l,h=>by
  rw[filter_cons,filter_cons,h a mem_cons_self,ju λx hx=>h x (mem_cons_of_mem _ hx)]
theorem zSx(xss:List LI)(xs:LI)(j:Nat):src (xss++[xs]) j=src xss j++(if(j:Int)∈xs then[(xss.length:Int)] else[]):=by
 unfold src
 rw[length_append,length_singleton,range_succ,List.filter_append,map_append]
 congr 1
 ·congr 1
  refine ju λk hk=>?_
  have hk':k<xss.length:=mem_range.mp hk
  rw[getD_eq_getElem?_getD,getD_eq_getElem?_getD,getElem?_append_left hk']
 ·rw[filter_cons,List.filter_nil,getD_eq_getElem?_getD,getElem?_append_right (aau _),Nat.sub_self]
  by_cases h:(j:Int)∈xs
  ·simp[h]
  ·simp[h]
theorem zSw{xss:List LI}{i:Nat}{xs:LI}(h:xss[i]?=some xs)(j:Nat):src (xss.take (i+1)) j=src (xss.take i) j++(if(j:Int)∈xs then[(i:Int)] else[]):=by
 have hi:i<xss.length:=(aa2.mp h).1
 rw[take_add_one,h]
 have e:(some xs:Option LI).toList=[xs]:=rfl
 rw[e,zSx,length_take,Nat.min_eq_left (acw hi)]
theorem Es(xss:List LI)(j:Nat):(src xss j).length<=xss.length:=by
 unfold src
 rw[length_map]
 exact aa6 (length_filter_le _ _) (by rw[length_range];exact aau _)
theorem int_at{ns:LI}{i:Nat}{y:V}(h:(ns.map V.int)[i]?=some y):∃z,y=.int z/\ns[i]?=some z:=by
 rw[getElem?_map] at h
 cases e:ns[i]? with
 |none=>rw[e] at h;cases h
 |some z=>rw[e] at h;exact⟨z,(aaw h).symm,rfl⟩
theorem K4{bs:List Addr}{i:Nat}{y:V}(h:(bs.map V.ref)[i]?=some y):∃b,y=.ref b/\bs[i]?=some b:=by
 rw[getElem?_map] at h
 cases e:bs[i]? with
 |none=>rw[e] at h;cases h
 |some z=>rw[e] at h;exact⟨z,(aaw h).symm,rfl⟩
theorem Eu{bs:List Addr}{i:Nat}{b:Addr}(h:bs[i]?=some b):(bs.map V.ref)[i]?=some (.ref b):=by rw[getElem?_map,h]<;>rfl
theorem yZ{α:Type}{xs:List α}{x:α}(h:xs[i]?=some x):i<xs.length:=(aa2.mp h).1
theorem zQw{i:Nat}(h:i<1920):((i:Int)).natAbs.log2<1920:=by
 rw[Int.natAbs_natCast]
 exact aaz (Nat.log2_le_self i) h
theorem zGn{ns:LI}(nd:ns.Nodup)(h:ns[i]?=some z):¬z∈ns.take i:=λhz=>by
 obtain⟨j,hj⟩:=mem_iff_getElem?.mp hz
 have hji:j<i:=by
  have:=yZ hj
  rw[length_take] at this
  omega
 rw[getElem?_take_of_lt hji] at hj
 have hi:=yZ h
 have hjl:=yZ hj
 rw[aat hi] at h
 rw[aat hjl] at hj
 have e:ns[j]=ns[i]:=(aaw hj).trans (aaw h).symm
 have:=(getElem_inj nd).mp e
 omega
theorem uR{α:Type}{ns:List α}{z x:α}(h:ns[i]?=some z):x∈ns.take (i+1)↔x∈ns.take i\/x=z:=by
 rw[take_add_one,h]
 simp
def qR(K:PySem.W.Frag)(H:Hp)(bs:List Addr)(xss:List LI):Prop:=bs.length=xss.length/\∀(i:Nat)(b:Addr),bs[i]?=some b->∃xs:LI,xss[i]?=some xs/\aW K H b (xs.map V.int)
theorem qR.same(r:qR K H bs xss)(s:Same H H'):qR K H' bs xss:=⟨r.1,λi b h=>let⟨xs,h1,h2⟩:=r.2 i b h;⟨xs,h1,s.seq h2⟩⟩
def Wa(n:Nat)(xss:List LI):Prop:=xss.length=n/\∀xs∈xss,xs≠[]/\xs.Nodup/\xs.length<=100/\∀z∈xs,0<=z/\z<(n:Int)
def qT(H:Hp)(cs:List Addr)(row:Nat->LI):Prop:=∀(j:Nat)(c:Addr),cs[j]?=some c->H c=some (.lst ((row j).map V.int))
structure Bl(K:PySem.W.Frag)(mg:Str->Option Value):Prop where
 len:mg "len" = none
 range:mg "range" = none
 qe:mg "isinstance" = none
 int:mg "int" = none
 bool:mg "bool" = none
 list:mg "list" = none
 enum:mg "enumerate" = none
 ii:kitOne K (.type "int") (.type "int")=some true
 ib:kitOne K (.type "int") (.type "bool")=some false
 ll:kitOne K (.type "list") (.type "list")=some true
theorem R8:kitOne K (.type "int") (.type "int")=some true:=rfl
theorem R9:kitOne K (.type "list") (.type "list")=some true:=rfl
theorem R_:kitOne K (.type "int") (.type "bool")=some false:=by
 first|rfl|(unfold kitOne kitCls;decide +kernel)
theorem uI:bootBuiltins "isinstance" = some (.builtin "isinstance"):=by decide +kernel
theorem K5:bootBuiltins "int" = some (.type "int"):=by decide +kernel
theorem Ew:bootBuiltins "bool" = some (.type "bool"):=by decide +kernel
theorem Ez:bootBuiltins "list" = some (.type "list"):=by decide +kernel
structure News(H H':Hp)(cs:List Addr)(xss:List (List V)):Prop where
 len:cs.length=xss.length
 at_:∀(i:Nat)(c:Addr),cs[i]?=some c->∃xs,xss[i]?=some xs/\H' c=some (.lst xs)
 new:∀c∈cs,H c=none
 nd:cs.Nodup
theorem News.nil:News H H' [] []:=⟨rfl,λi c h=>(by simp at h),λc h=>(by cases h),List.nodup_nil⟩
theorem News.snoc(n:News H H1 cs xss)(s:Same H H1)(h:H1 l=none):News H (upd H1 l (.lst xs)) (cs++[l]) (xss++[xs]):=by
 have hl:∀c∈cs,c≠l:=λc hc e=>by
  obtain⟨i,hi⟩:=mem_iff_getElem?.mp hc
  obtain⟨ys,_,q⟩:=n.at_ i c hi
  rw[e,h] at q
  cases q
 refine⟨by rw[length_append,length_append,n.len]<;>rfl,λi c hc=>?_,λc hc=>?_,?_⟩
 ·by_cases hi:i<cs.length
  ·rw[getElem?_append_left hi] at hc
   obtain⟨ys,h1,h2⟩:=n.at_ i c hc
   refine⟨ys,?_,?_⟩
   ·rw[getElem?_append_left (by rw[<-n.len];exact hi)];exact h1
   ·rw[zQ (hl c (mem_of_getElem? hc))];exact h2
  ·rw[getElem?_append_right (by omega)] at hc
   have hi2:i-cs.length=0:=by
    have:=yZ hc
    simp at this
    omega
   rw[hi2] at hc
   have e:l=c:=aaw hc
   subst e
   refine⟨xs,?_,zK⟩
   rw[getElem?_append_right (by rw[<-n.len];omega),<-n.len,hi2]<;>rfl
 ·rcases mem_append.mp hc with hc|hc
  ·exact n.new c hc
  ·rw[mem_singleton.mp hc];exact s.free h
 ·rw[nodup_append]
  refine⟨n.nd,by simp,λa ha b hb e=>?_⟩
  rw[mem_singleton.mp hb] at e
  exact hl a ha e
theorem News.Sd(n:News H H' cs xss)(h:H' r=none):r∉cs:=λhc=>by
 obtain⟨i,hi⟩:=mem_iff_getElem?.mp hc
 obtain⟨ys,_,q⟩:=n.at_ i r hi
 rw[h] at q
 cases q
structure aF(C:Addr) where
 steps:List LI
 marks:List (Str×LI)
 fair:List LI
 sources:List LI
def Y6:List Str:=["many","next_of","before","marked","fair_at","names_at"]
def srcs(xss:List LI):List LI:=(aa5 xss.length).map (src xss)
def hid(H:Hp)(p:Addr):Hp:=λb=>if b=p then none else H b
section
variable{K:PySem.W.Frag}{C:Addr}
instance:Rp K (aF C):=⟨λF v m=>∃p dx fs vS vM vF vB,v=.ref p/\F p=some (.ins C dx fs)/\fs.lookup ("steps":Str)=some vS/\rp K F vS m.steps/\fs.lookup ("marks":Str)=some vM/\rp K F vM m.marks/\fs.lookup ("fair":Str)=some vF/\rp K F vF m.fair /\
 fs.lookup ("sources":Str)=some vB/\rp K F vB m.sources/\∀g∈Y6,fs.lookup g=none,
 λs ⟨p,dx,fs,vS,vM,vF,vB,h1,h2,h3,h4,h5,h6,h7,h8,h9,h10,h11⟩=>⟨p,dx,fs,vS,vM,vF,vB,h1,s _ _ h2,h3,Rp.mono s h4,h5,Rp.mono s h6,h7,Rp.mono s h8,h9,Rp.mono s h10,h11⟩⟩
instance:Nn K (aF C):=⟨λ⟨_,_,_,_,_,_,_,h,_⟩=>by rw[h];intro e;cases e⟩
theorem Ie(ns:LI):A2 (rp K F) (ns.map V.int) ns:=A2.of_map (R:=rp K F) (f:=V.int) (λ_=>rfl) ns
theorem zSa:∀{cs:List Addr}{xss:List LI},cs.length=xss.length->(∀(i:Nat)(c:Addr),cs[i]?=some c->∃xs,xss[i]?=some xs/\F c=some (.lst (xs.map V.int)))->A2 (rp K F) (cs.map V.ref) xss
 |[],[],_,_=>trivial
 |c::cs,xs::xss,hl,h=>by
  obtain⟨ys,e1,e2⟩:=h 0 c rfl
  cases e1
  exact⟨⟨c,_,rfl,e2,Ie _⟩,zSa (by simpa using hl) λi c' hc=>h (i+1) c' hc⟩
 |[],_::_,hl,_=>by simp at hl
 |_::_,[],hl,_=>by simp at hl
theorem zPg{xss:List LI}(h:i<xss.length):(srcs xss)[i]?=some (src xss i):=by
 unfold srcs
 rw[getElem?_map,getElem?_range h]
 rfl
theorem EY{cs:List Addr}{xss:List LI}(hl:cs.length=xss.length)(n:qT H' cs (src xss))(h:∀c∈cs,∀o,H' c=some o->D c=some o):A2 (rp K D) (cs.map V.ref) (srcs xss):=by
 refine zSa (by rw[hl];unfold srcs;simp) λi c hc=>?_
 have hi:=yZ hc
 exact⟨_,zPg (by omega),h c (mem_of_getElem? hc) _ (n i c hc)⟩
end
section
variable{K:PySem.W.Frag}{B:Bs}{F H F' H' G:Hp}{O:Own}{sl:SL K}{σ:St}{md:Md}{α β:Type}[Rp K α][Rp K β]{te ta:TE}{C:Addr}
theorem Wb{pr:aF C->α}(cl:Cls K C)(na:bH K C f)(hp:∀(R:Hp) (v:V) (x:aF C),rp K R v x->∃p dx fs w,v=.ref p/\R p=some (.ins C dx fs)/\fs.lookup f=some w/\rp K R w (pr x))(h:Ex B sl md ta m) :
  Ex B sl md (qb K ta f) (m.bind λx=>some (pr x)):=λc hc F O H σ Q s k=>by
 cases m with
 |none=>cases hc
 |some x =>
  cases(show some (pr x)=some c from hc)
  refine h x rfl F O H σ _ s λv F' H' g r=>?_
  obtain⟨p,dx,fs,w,rfl,h1,h2,h3⟩:=hp _ v x r
  have hle:Same (reg B F' H' md) H':=match md with
   |.nw=>aZ.trans g.ok.fh
   |.fz=>g.ok.fh
   |.hp=>.refl _
  exact⟨p,C,dx,fs,w,rfl,hle _ _ h1,cl,na,h2,k w F' H' g h3⟩
theorem zJh{m:Option (aF C)}(cl:Cls K C)(na:bH K C "steps")(h:Ex B sl md ta m):Ex B sl md (qb K ta "steps") (m.bind λx=>some x.steps) :=
 Wb cl na (λR v x ⟨p,dx,fs,vS,vM,vF,vB,h1,h2,h3,h4,_⟩=>⟨p,dx,fs,vS,h1,h2,h3,h4⟩) h
theorem zRj{m:Option (aF C)}(cl:Cls K C)(na:bH K C "marks")(h:Ex B sl md ta m):Ex B sl md (qb K ta "marks") (m.bind λx=>some x.marks) :=
 Wb cl na (λR v x ⟨p,dx,fs,vS,vM,vF,vB,h1,h2,_,_,h5,h6,_⟩=>⟨p,dx,fs,vM,h1,h2,h5,h6⟩) h
theorem zMi{m:Option (aF C)}(cl:Cls K C)(na:bH K C "fair")(h:Ex B sl md ta m):Ex B sl md (qb K ta "fair") (m.bind λx=>some x.fair) :=
 Wb cl na (λR v x ⟨p,dx,fs,vS,vM,vF,vB,h1,h2,_,_,_,_,h7,h8,_⟩=>⟨p,dx,fs,vF,h1,h2,h7,h8⟩) h
theorem zLc{m:Option (aF C)}(cl:Cls K C)(na:bH K C "sources")(h:Ex B sl md ta m):Ex B sl md (qb K ta "sources") (m.bind λx=>some x.sources) :=
 Wb cl na (λR v x ⟨p,dx,fs,vS,vM,vF,vB,h1,h2,_,_,_,_,_,_,h9,h10,_⟩=>⟨p,dx,fs,vB,h1,h2,h9,h10⟩) h
theorem E_{A:Type}{as:A->SL K}{f:aF C×A->Option β}{ma:Option A}(hg:g∈Y6)(h0:Ex B sl .hp ta mm)(h:Ea B sl .hp t as ma) :
  Ex B sl md (Ri C g (cQ K false (λx:aF C×A=>.fz false x.1::as x.2) f) [] E0 ta t) (mm.bind λx=>ma.bind λa=>f (x,a)):=λc hc F O H σ Q s kk=>by
 cases mm with
 |none=>cases hc
 |some x =>
  cases ma with
  |none=>cases hc
  |some a =>
   have hc:f (x,a)=some c:=hc
   refine h0 x rfl F O H σ _ s λv F1 H1 g1 r1=>?_
   obtain⟨p,dx,fs,vS,vM,vF,vB,rfl,h2,h3,h4,h5,h6,h7,h8,h9,h10,h11⟩:=id r1
   refine⟨p,dx,fs,rfl,h2,h11 g hg,?_⟩
   refine h a rfl F1 O H1 σ _ (s.grow g1) λvs F' H' g2 r=>?_
   rw[append_nil]
   refine⟨(x,a),c,H',.refl _,hc,.cons (Rp.mono g2.hh r1) r,λv H2 s2 r2=>?_⟩
   have g3:=g2.ok.called s2
   refine kk v _ H2 (g1.trans (g2.trans g3)) ?_
   have r3:=Rp.mono (Ph (F:=F') g2.ok.h0 s2) r2
   exact match md with
   |.nw=>r3
   |.fz=>Rp.mono aZ r3
   |.hp=>Rp.mono (aZ.trans g3.ok.fh) r3
def En(B:Bs)(sl:SL K)(t:TE){α:Type}[Rp K α](m:Option α):Prop :=
 ∀a,m=some a->∀(F:Hp)(O:Own)(H:Hp)(σ:St)(Q:VK),At B sl F O H σ->(∀(v:V)(F' H1 H2:Hp),bK B F H O F' H1->Same H1 H2->rp K (dif H2 H1) v a->Q v H2)->t σ H Q
theorem En.ex{m:Option α}(h:En B sl te m):Ex B sl md te m:=λc hc F O H σ Q s kk=>h c hc F O H σ Q s λv F' H1 H2 g s2 r2=>by
 have g2:=g.ok.called s2
 refine kk v _ H2 (g.trans g2) ?_
 have r3:=Rp.mono (Ph (F:=F') g.ok.h0 s2) r2
 exact match md with
 |.nw=>r3
 |.fz=>Rp.mono aZ r3
 |.hp=>Rp.mono (aZ.trans g2.ok.fh) r3
structure Sh where
 n:Unit
instance:Rp K Sh:=⟨λF v _=>∃p vs,v=.ref p/\F p=some (.lst vs),λs ⟨p,vs,h1,h2⟩=>⟨p,vs,h1,s _ _ h2⟩⟩
class IsL (K:PySem.W.Frag) (α:Type) [Rp K α]:Prop where
 il:∀{F:Hp}{v:V}{a:α},rp K F v a->∃p vs,v=.ref p/\F p=some (.lst vs)
instance:IsL K (List α):=⟨λ⟨p,vs,h1,h2,_⟩=>⟨p,vs,h1,h2⟩⟩
instance:IsL K Sh:=⟨λh=>h⟩
instance(n:Nat)(xss:List LI):Decidable (Wa n xss):=by unfold Wa;infer_instance
theorem zVa{s:Slot K}(i:Nat)(hs:sl[i]?=some (.fz n x))(h:Ex B sl .hp te m):Sn B sl (QZ i te (Vs f)) (λa=>sl.set i (.fz true a)) (m.bind λy=>some (f x y)):=λa ha G D σ H s k=>by
 cases m with
 |none=>cases ha
 |some y =>
  cases(show some (f x y)=some a from ha)
  obtain⟨F,O,g,z⟩:=s
  obtain⟨v,h1,h2⟩:=z.2.qQ hs
  have h2:v=.int x:=Sc.is.mp h2
  subst h2
  refine⟨_,h1,h y rfl F O H σ _ z λw F' H' gr r=>?_⟩
  cases r
  exact⟨x,y,rfl,rfl,k _ _ (Sg.set (n:=true) (a:=f x y) (g.trans gr.ff) (z.grow gr) hs rfl rfl)⟩
end
section
variable{K:PySem.W.Frag}{X:Cx}
theorem vd(K:PySem.W.Frag)(h:X.K=K:=by rfl):kI X (compareOp .In) (Kl K false):=by subst h;exact zQd
theorem zP9(K:PySem.W.Frag)(h:X.K=K:=by rfl):kI X (compareOp .NotIn) (Kl K true):=by subst h;exact zIy
theorem aU(K:PySem.W.Frag)(h:X.K=K:=by rfl):VN X (rY K):=by subst h;exact wU
theorem vN(K:PySem.W.Frag)(h:X.K=K:=by rfl):uo X (.builtin "len") (K1 K):=by subst h;exact uG
theorem K6(K:PySem.W.Frag)(h:X.K=K:=by rfl):uo X (.type "list") (Ib K):=by subst h;exact zJs
theorem uH(K:PySem.W.Frag)(hc:∀y u,RelV y c->RelV y u->u=c)(h:X.K=K:=by rfl):uo X (.builtin "isinstance") (Eb K c):=by subst h;exact zUt hc
theorem Ig(K:PySem.W.Frag)(he:PE X e ta)(h:X.K=K:=by rfl)(hb:attributeBase e f X.env (eval e X.env)=eval e X.env:=by rfl):PE X (.Attribute e f pos) (qb K ta f):=by subst h;exact zVh he hb
theorem yR(K:PySem.W.Frag)(hl:PE X l tl)(h:X.K=K:=by rfl):PI X tg l (zx K tl):=by subst h;exact XD hl
theorem Y7(K:PySem.W.Frag)(hm:X.mg "enumerate" = none)(ha:PA X [a] ta)(h:X.K=K:=by rfl)(hg:Gl X "enumerate":=by rfl)(hs:starEach [a] X.env=[(false,eval a X.env)]:=by rfl) :
  PI X (.Tuple elts k tp) (.Call (.Name "enumerate" p) [a] [] pos) (Ak K ta):=by subst h;exact zP3 hg hm ha hs
theorem Ay(K:PySem.W.Frag){o e:Expr}{es:List Expr}{to:TE}{t:TA}{name:Str}{apos cpos:Pos}{T id:String}{r:V->List V->Hp->VK->Prop}(pa:PlainAttrs T)(slot:PySem.Slot T name id)(hty:typeOf (.builtin id)=pure (.type "method_descriptor"))(hm:Rv X id r)(ho:PE X o to)(ha:PA X (e::es) t)(h:X.K=K:=by rfl)(hbase:attributeBase o name X.env (eval o X.env)=eval o X.env:=by rfl)(hfew:((backTo cpos (starEach (e::es) X.env)).all (λx=>!x.1)&&(backToKw cpos (keywordEach [] X.env)).all (λx=>x.1.isSome)
   && decide ((e::es).length+([]:List Keyword).length+(if([]:List Keyword).isEmpty then 0 else 1)<30))=true:=by rfl)(hline:(apos.endLine==cpos.line)=true:=by rfl)(hs:starEach (e::es) X.env=(false,eval e X.env)::starEach es X.env:=by rfl)(hplain:(backTo cpos (starEach es X.env)).any (·.1)=false:=by rfl) :
  PE X (.Call (.Attribute o name apos) (e::es) [] cpos) (O_ K T r to t):=by subst h;exact HS pa slot hty hm ho ha hbase hfew hline hs hplain
theorem K7(K:PySem.W.Frag){o:Expr}{to:TE}{name:Str}{apos cpos:Pos}{T id:String}{r:V->List V->Hp->VK->Prop}(pa:PlainAttrs T)(slot:PySem.Slot T name id)(hty:typeOf (.builtin id)=pure (.type "method_descriptor"))(hm:Rv X id r)(ho:PE X o to)(h:X.K=K:=by rfl)(hbase:attributeBase o name X.env (eval o X.env)=eval o X.env:=by rfl)(hline:(apos.endLine==cpos.line)=true:=by rfl):PE X (.Call (.Attribute o name apos) [] [] cpos) (Km K T r to):=by subst h;exact Ko pa slot hty hm ho hbase hline
theorem K8:bootBuiltins "any" = some (.builtin "any"):=by decide +kernel
theorem K9:bootBuiltins "all" = some (.builtin "all"):=by decide +kernel
theorem Y8:bootBuiltins "sorted" = some (.builtin "sorted"):=by decide +kernel
theorem za:Et B sl uy (some true):=λa ha F O H σ Q s k=>by cases ha;exact k F H (.refl s.1)
theorem Sq{α:Type}:∀c:List α,some []=some c->c.length<=0:=λc h=>by cases h;exact aau _
theorem uF{α:Type}{m:Option α}{ma:Option (List α)}(h:∀b,ma=some b->b.length<=n):∀c,(m.bind λa=>ma.bind λb=>some (a::b))=some c->c.length<=n+1:=λc e=>by
 cases m with
 |none=>cases e
 |some a =>
  cases ma with
  |none=>cases e
  |some b=>cases e;exact ab7 (h b rfl)
theorem bnd{α β:Type}(a:α)(f:α->Option β):(some a).bind f=f a:=(λ(x:Option α) (e:x=some a)=>by subst e;rfl:∀x:Option α,x=some a->x.bind f=f a) _ rfl
def fuel:Nat:=100000
structure bL(P:Program)(w:World)(K:PySem.W.Frag)(mg:Str->Option Value)(base:Heap)(k:Nat)(x:Str)(ps:List Str)(sp:Sp):Prop where
 ex:∃f fd,aq P w K mg base aO k f fd ps sp/\Binds K fd ps []/\keepIn K (.ref f)=true/\mg x=some (.ref f)
structure fY(P:Program)(w:World)(K:PySem.W.Frag)(mg:Str->Option Value)(base:Heap)(k:Nat)(C:Addr)(m:Str)(ps:List Str)(sp:Sp):Prop where
 ex:∃f fd,aq P w K mg base aO k f fd ps sp/\Binds K fd ps []/\Meth K C m f
 cl:Cls K C
theorem bL.mono(c:bL P w K mg base j x ps sp)(h:j<=k):bL P w K mg base k x ps sp:=by
 obtain⟨f,fd,h1,h2⟩:=c.ex
 exact⟨f,fd,h1.mono h,h2⟩
theorem fY.mono(c:fY P w K mg base j C x ps sp)(h:j<=k):fY P w K mg base k C x ps sp:=by
 obtain⟨f,fd,h1,h2⟩:=c.ex
 exact⟨⟨f,fd,h1.mono h,h2⟩,c.cl⟩
theorem zW(c:bL X.prog X.w X.K X.mg X.base k x ps sp)(hr:bW k X.A)(ha:PA X (e::es) t)(hg:Gl X x:=by rfl)(hdb:(x==("__debug__":Str))=false:=by decide)(he:starEach (e::es) X.env=(false,eval e X.env)::starEach es X.env:=by rfl)(hpl:(backTo pos (starEach es X.env)).any (·.1)=false:=by rfl):PE X (.Call (.Name x p) (e::es) [] pos) (Dz sp [] E0 t):=by
 obtain⟨f,fd,h1,h2,h3,h4⟩:=c.ex
 exact Ka h1 hr hg h4 h3 h2 .nil xG ha hdb he hpl
theorem Sv(c:fY X.prog X.w X.K X.mg X.base k C m ps sp)(hr:bW k X.A)(he:PE X o ta)(ha:PA X (e::es) t)(hst:starEach (e::es) X.env=(false,eval e X.env)::starEach es X.env:=by rfl)(hpl:(backTo pos (starEach es X.env)).any (·.1)=false:=by rfl)(ht:eval (.Call (.Attribute o m apos) (e::es) [] pos) X.env=(do
   let ov <-eval o X.env
   standAt apos.atName
   let(f,first) <-holding [ov] (getMethod ov m pl)
   callWith pos f first (backTo pos (starEach (e::es) X.env)) (backToKw pos (keywordEach [] X.env))):=by rfl):PE X (.Call (.Attribute o m apos) (e::es) [] pos) (Ri C m sp [] E0 ta t):=by
 obtain⟨f,fd,h1,h2,h3⟩:=c.ex
 exact DK he c.cl h3 h1 hr h2 .nil xG ha hst hpl ht
theorem Wc(c:fY X.prog X.w X.K X.mg X.base k C m ps sp)(hr:bW k X.A)(he:PE X o ta)(ht:eval (.Call (.Attribute o m apos) [] [] pos) X.env=(do
   let ov <-eval o X.env
   standAt apos.atName
   let(f,first) <-holding [ov] (getMethod ov m pl)
   callWith pos f first (backTo pos (starEach [] X.env)) (backToKw pos (keywordEach [] X.env))):=by rfl):PE X (.Call (.Attribute o m apos) [] [] pos) (Ri C m sp [] E0 ta bJ):=by
 obtain⟨f,fd,h1,h2,h3⟩:=c.ex
 exact zTk he c.cl h3 h1 hr h2 .nil xG ht
end
section
variable{P:Program}{w:World}{K:PySem.W.Frag}{mg:Str->Option Value}{base:Heap}
theorem yK{A β:Type}[Rp K β]{as:A->SL K}{fM:A->Option β}(F:aY K x qual st f fd)(S:ao N ps (zH st))(hf:∀a,(as a).all isF=true)(hl:∀a,(as a).length=ps.length)(hb:∀(cdv:Value) (A:Around) (outer:List Env) (s:Shared) (H:Hp) (E:XK),bW k (A.deeper (adp qual (zH st) s.heap.objs.size f cdv)) ->
   ∃t,qI (oX aO P w K mg base N qual (zH st) f cdv A outer s H E).Dm (xQ st) t/\∀Fa a,SB ⟨Fa,H⟩ (as a++replicate (N.length-ps.length) .un) t al (fM a)) :
  aq P w K mg base aO (k+1) f fd ps (cQ K al as fM) :=
 F.ok S (λvs H Q E h=>zU9 hl h) λcdv A outer s H vs Q E hr h=>by
  obtain⟨t,p,q⟩:=hb cdv A outer s H E hr
  exact⟨t,p,zSz hf hl q h⟩
end
def W{α:Type}(m:Option α)(P:α->Prop):Prop:=∃a,m=some a/\P a
section
variable{α β S:Type}
theorem aj:W (some a) P↔P a:=⟨λ⟨_,e,h⟩=>by cases e;exact h,λh=>⟨a,rfl,h⟩⟩
theorem Ih:W (none:Option α) P↔False:=⟨λ⟨_,e,_⟩=>(by cases e),abv⟩
theorem zC{m:Option α}:W (m.bind f) Q↔W m λa=>W (f a) Q:=by
 cases m with
 |none=>exact⟨λ⟨_,e,_⟩=>(by cases e),λ⟨_,e,_⟩=>(by cases e)⟩
 |some a=>exact⟨λh=>⟨a,rfl,h⟩,λ⟨_,e,h⟩=>by cases e;exact h⟩
theorem Sw:W ((Out.nx s:Out S β).els f) Q↔W (f s) Q:=afh
theorem W.imp{Q:α->Prop}(h:W m P)(f:∀a,P a->Q a):W m Q:=let⟨a,e,p⟩:=h;⟨a,e,f a p⟩
theorem SJ:W (jF a b) Q↔0<b/\Q (a%b):=by
 unfold jF
 split
 ·rename_i h;rw[aj];exact⟨λq=>⟨h,q⟩,λq=>q.2⟩
 ·rename_i h;rw[Ih];exact⟨abv,λq=>h q.1⟩
theorem Wd:W (lX a b) Q↔(0<b/\b<1073741824)/\Q (a/b):=by
 unfold lX
 split
 ·rename_i h;rw[aj];exact⟨λq=>⟨h,q⟩,λq=>q.2⟩
 ·rename_i h;rw[Ih];exact⟨abv,λq=>h q.1⟩
theorem Fb:W (push xs a) Q↔xs.length<cap/\Q (xs++[a]):=by
 unfold push
 split
 ·rename_i h;rw[aj];exact⟨λq=>⟨h,q⟩,λq=>q.2⟩
 ·rename_i h;rw[Ih];exact⟨abv,λq=>h q.1⟩
def rng(n:Int):LI:=(aa5 n.toNat).map adg
theorem dM:W (vZ n) Q↔(-(2^62)<=n/\n<2^62)/\Q (rng n):=by
 unfold vZ rng
 split
 ·rename_i h;rw[aj];exact⟨λq=>⟨h,q⟩,λq=>q.2⟩
 ·rename_i h;rw[Ih];exact⟨abv,λq=>h q.1⟩
theorem CJ(h:0<=n):((rng n).length:Int)=n:=by
 unfold rng
 rw[length_map,length_range]
 omega
theorem SM{n:Int}{i:Nat}{x:Int}(h:(rng n)[i]?=some x):x=i/\(i:Int)<n:=by
 obtain⟨a,b⟩:=YQ h
 exact⟨b,by omega⟩
theorem iV:x∈rng n↔0<=x/\x<n:=by
 unfold rng
 rw[mem_map]
 constructor
 ·rintro⟨a,h,rfl⟩
  rw[mem_range] at h
  exact⟨ace _,by show(a:Int)<n;omega⟩
 ·intro⟨h1,h2⟩
  exact⟨x.toNat,mem_range.mpr (by omega),by show((x.toNat:Nat):Int)=x;omega⟩
theorem Wf(h:0<=i):L2.bx xs i=xs[i.toNat]?:=by
 unfold L2.bx tR
 rw[if_pos h]
 by_cases q:i<xs.length
 ·rw[if_pos q];rfl
 ·rw[if_neg q,abk (by omega)];rfl
theorem dR(h0:0<=i):W (L2.bx xs i) Q↔∃a,xs[i.toNat]?=some a/\Q a:=by
 rw[Wf h0]
 exact afh
theorem zS6{xs:List α}{i:Int}{a:α}(h0:0<=i)(h1:i<xs.length):uz xs i a=some (xs.set i.toNat a):=by
 unfold uz tR
 rw[if_pos h0,if_pos h1]
 rfl
theorem SN{xs:List α}{i:Int}{a:α}{Q:List α->Prop}(h0:0<=i)(h1:i<xs.length):W (uz xs i a) Q↔Q (xs.set i.toNat a):=by
 rw[zS6 h0 h1,aj]
theorem vO{step:S->α->Option S}{Q:S->Prop}(I:Nat->S->Prop)(h0:I 0 s)(hs:∀i x s,xs[i]?=some x->I i s->W (step s x) (I (i+1)))(hd:∀s,I xs.length s->Q s):W (wH step xs s) Q:=by
 have key:∀(ys:List α)(i:Nat)(s:S),(∀j x,ys[j]?=some x->xs[i+j]?=some x)->i+ys.length=xs.length->I i s->W (wH step ys s) Q:=by
  intro ys
  induction ys with
  |nil=>intro i s _ hl h;exact⟨s,rfl,hd s ((show i=xs.length from hl)▸h)⟩
  |cons y ys ih =>
   intro i s hy hl h
   show W ((step s y).bind λs'=>wH step ys s') Q
   rw[zC]
   refine(hs i y s (hy 0 y rfl) h).imp λs' h'=>ih (i+1) s' (λj x hx=>?_) (by rw[length_cons] at hl;omega) h'
   have:=hy (j+1) x (by simpa using hx)
   rw[show i+1+j=i+(j+1) by omega]
   exact this
 exact key xs 0 s (λj x h=>by rw[acy];exact h) (acy _) h0
theorem zGu{step:S->α->Option (Out S β)}:uC step (x::xs) s=(step s x).bind λo=>o.aP λs'=>uC step xs s':=by
 rw[uC]
 congr 1
theorem Y9{step:S->α->Option (Out S β)}{Q:Out S β->Prop}(I:Nat->S->Prop)(h0:I 0 s)(hs:∀i x s,xs[i]?=some x->I i s->W (step s x) λo=>∃s',o=.nx s'/\I (i+1) s')(hd:∀s,I xs.length s->Q (.nx s)):W (uC step xs s) Q:=by
 have key:∀(ys:List α)(i:Nat)(s:S),(∀j x,ys[j]?=some x->xs[i+j]?=some x)->i+ys.length=xs.length->I i s->W (uC step ys s) Q:=by
  intro ys
  induction ys with
  |nil=>intro i s _ hl h;exact⟨.nx s,rfl,hd s ((show i=xs.length from hl)▸h)⟩
  |cons y ys ih =>
   intro i s hy hl h
   rw[zGu,zC]
   refine(hs i y s (hy 0 y rfl) h).imp ?_
   rintro o ⟨s',rfl,h'⟩
   refine ih (i+1) s' (λj x hx=>?_) (by rw[length_cons] at hl;omega) h'
   have:=hy (j+1) x (by simpa using hx)
   rw[show i+1+j=i+(j+1) by omega]
   exact this
 exact key xs 0 s (λj x h=>by rw[acy];exact h) (acy _) h0
theorem Fd{c:S->Option Bool}{body:S->Option S}(I:S->Prop)(μ:S->Nat)(h0:I s)(hk:μ s<k)(hs:∀s,I s->W (c s) λb=>if b=true then W (body s) λs'=>I s'/\μ s'<μ s else Q s):W (HY c body k s) Q:=by
 induction k generalizing s with
 |zero=>omega
 |succ k ih =>
  show W ((c s).bind λb=>if b=true then(body s).bind λs'=>HY c body k s' else some s) Q
  rw[zC]
  refine(hs s h0).imp λb h=>?_
  cases b with
  |true =>
   have h:W (body s) λs'=>I s'/\μ s'<μ s:=by simpa using h
   simp only[if_true]
   rw[zC]
   exact h.imp λs' ⟨h1,h2⟩=>ih h1 (by omega)
  |false=>simpa[aj] using h
theorem zJq(c:α->Bool)(f:α->β):∀xs:List α,wM (λx=>some (c x)) (λx=>some (f x)) xs=some ((xs.filter c).map f)
 |[]=>rfl
 |x::xs=>by
  have ih:=zJq c f xs
  show(some (c x)).bind _=_
  cases h:c x with
  |true =>
   show((some (f x)).bind λy=>(wM _ _ xs).bind λys=>some (y::ys))=_
   rw[ih,filter_cons,if_pos h]
   rfl
  |false =>
   show wM _ _ xs=_
   rw[ih,filter_cons,if_neg (by rw[h];decide)]
theorem Wg(c:α->Bool)(f:α->β):W (wP (λx=>some (c x)) (λx=>some (f x)) xs) Q↔xs.length<cap/\Q ((xs.filter c).map f):=by
 unfold wP
 split
 ·rename_i h;rw[zJq,aj];exact⟨λq=>⟨h,q⟩,λq=>q.2⟩
 ·rename_i h;rw[Ih];exact⟨abv,λq=>h q.1⟩
theorem zRe(xs:List α):xs.filter (λ_=>true)=xs:=List.filter_eq_self.mpr λ_ _=>rfl
theorem Ii(f:α->β):W (wP (λ_=>some true) (λx=>some (f x)) xs) Q↔xs.length<cap/\Q (xs.map f):=by
 rw[Wg (λ_=>true) f,zRe]
theorem Pr[Decidable c]:W (if c then a else b) Q↔(c->W a Q)/\(¬c->W b Q):=by
 by_cases h:c
 ·rw[if_pos h];exact⟨λq=>⟨λ_=>q,λn=>absurd h n⟩,λq=>q.1 h⟩
 ·rw[if_neg h];exact⟨λq=>⟨λn=>absurd n h,λ_=>q⟩,λq=>q.2 h⟩
theorem yU(h:n<=1000):n<cap:=aaz h (by decide)
def aH(n:Int)(xs:LI):Prop:=xs.Pairwise (· < ·)/\∀x∈xs,0<=x/\x<n
theorem aH.nodup(h:aH n xs):xs.Nodup:=h.1.imp λq=>Int.ne_of_lt q
theorem Pu:aH n []:=⟨.nil,λx h=>by cases h⟩
theorem zIs(h:aH k xs)(h0:0<=k)(hk:k<n):aH n (xs++[k]):=by
 refine⟨List.pairwise_append.mpr ⟨h.1,by simp,λx hx y hy=>?_⟩,λx hx=>?_⟩
 ·rw[mem_singleton.mp hy];exact(h.2 x hx).2
 ·rcases mem_append.mp hx with q|q
  ·have:=h.2 x q;omega
  ·rw[mem_singleton.mp q];omega
theorem zPv(h:aH n xs)(l:n<=m):aH m xs:=⟨h.1,λx hx=>by have:=h.2 x hx;omega⟩
theorem wG:∀{n:Nat}{xs:LI},xs.Nodup->(∀x∈xs,0<=x/\x<(n:Int))->xs.length<=n
 |0,xs,_,h=>by
  cases xs with
  |nil=>exact aau _
  |cons x xs=>have:=h x mem_cons_self;omega
 |n+1,xs,nd,h=>by
  by_cases q:(n:Int)∈xs
  ·have l:=List.length_erase_of_mem q
   have ih:=wG (n:=n) (xs:=xs.erase (n:Int)) (nd.erase _) λx hx=>by
    have h1:=h x (List.mem_of_mem_erase hx)
    have h2:x≠(n:Int):=λe=>by rw[e] at hx;exact(List.Nodup.not_mem_erase nd) hx
    omega
   omega
  ·have ih:=wG (n:=n) nd λx hx=>by
    have h1:=h x hx
    have h2:x≠(n:Int):=λe=>q (e▸hx)
    omega
   omega
end
end Ts
namespace L2
open PySem PySem.Spec PyProof.Rows
theorem Y_:∀{ns:LI}{its:List Value},Vals (ns.map V.int) its->IntsAre its ns
 |[],[],_=>.nil
 |n::ns,_::its,h=>by
  cases h with
  |cons r t =>
   obtain⟨k,rfl⟩:=r
   exact .cons n k (Y_ t)
theorem Wh:∀{ns:LI}{its:List Value},IntsAre its ns->Vals (ns.map V.int) its
 |_,_,.nil=>.nil
 |_,_,.cons n t h=>.cons ⟨t,rfl⟩ (Wh h)
section
variable{X:Cx}
def Ij(K:PySem.W.Frag):List V->Hp->VK->Prop:=λxs H Q=>∃(p:Addr)(ns:LI),xs=[.ref p]/\aW K H p (ns.map V.int)/\ns.length<64/\∀(l:Addr)(ns':LI),H l=none->ns'.Perm ns->ns'.Pairwise (· <= ·)->Q (.ref l) (upd H l (.lst (ns'.map V.int)))
theorem Za(K:PySem.W.Frag)(hK:X.K=K:=by rfl):uo X (.builtin "sorted") (Ij K):=by
 subst hK
 intro pins s σ H xs us Q I r h
 obtain⟨p,ns,rfl,hq,h64,q⟩:=h
 obtain⟨u,rfl,rx⟩:=O8 r
 cases rx
 obtain⟨its,r',pl,hz⟩:=I.list hq
 have hl:=r'.length
 rw[length_map] at hl
 refine sorted_ints pl.isList (Y_ r') (by omega) λout ns' a1 a2 a3=>?_
 obtain⟨e,he⟩:=sortedAll_at s.heap its out
 have fr:H (s.heap.objs.size+1)=none:=I.hok.fresh (acd _)
 refine⟨.ref (s.heap.objs.size+1),_,I.laid (t':=s.toks) (o:=.lst (ns'.map V.int)) (λb ob w=>sortedAll_old w) (acd _) ?_,rfl,q _ ns' fr a2 a3⟩
 refine⟨?_,out.toList,e,Wh a1,?_⟩
 ·rw[length_map,a2.length_eq]
  exact acw (ad5 h64 (by decide))
 ·rw[toArray_toList]
  exact he
theorem zEp{bs:List Bool}(r:Vals (bs.map V.bl) its):TruthOf prog w A (λi v=>its.toArray[i]?=some v) (λi=>bs.getD i false):=by
 intro i v s Q E hv hq
 have hv:its[i]?=some v:=by simpa using hv
 have hi:i<bs.length:=by
  have:=(aa2.mp hv).1
  rw[<-r.length,length_map] at this
  exact this
 obtain⟨u,h1,h2⟩:=r.get (i:=i) (x:=.bl bs[i]) (by rw[getElem?_map,aat hi]<;>rfl)
 rw[hv] at h1
 cases h1
 cases h2
 have hq:Q (bs.getD i false) s:=hq
 rw[getD_eq_getElem?_getD,aat hi] at hq
 exact ab3 hq
theorem zPx{bs:List Bool}:((aa5 bs.length).any λi=>bs.getD i false)=bs.any id:=by
 rw[abb,any_eq_true,any_eq_true]
 constructor
 ·rintro⟨i,h1,h2⟩
  have hi:=mem_range.mp h1
  rw[getD_eq_getElem?_getD,aat hi] at h2
  exact⟨_,getElem_mem hi,h2⟩
 ·rintro⟨x,h1,h2⟩
  obtain⟨i,hi,e⟩:=getElem_of_mem h1
  refine⟨i,mem_range.mpr hi,?_⟩
  rw[getD_eq_getElem?_getD,aat hi,e]
  exact h2
theorem zPy{bs:List Bool}:((aa5 bs.length).all λi=>bs.getD i false)=bs.all id:=by
 rw[abb,all_eq_true,all_eq_true]
 constructor
 ·intro h x hx
  obtain⟨i,hi,e⟩:=getElem_of_mem hx
  have z:=h i (mem_range.mpr hi)
  rw[getD_eq_getElem?_getD,aat hi,e] at z
  exact z
 ·intro h i hi
  have hi:=mem_range.mp hi
  rw[getD_eq_getElem?_getD,aat hi]
  exact h _ (getElem_mem hi)
def Zb(K:PySem.W.Frag)(f:List Bool->Bool):List V->Hp->VK->Prop:=λxs H Q=>∃(p:Addr)(bs:List Bool),xs=[.ref p]/\aW K H p (bs.map V.bl)/\Q (.bl (f bs)) H
theorem Ik{s:Shared}{h':Heap}(hk:∀b o,b∉[s.heap.objs.size]->(s.heap.push { cls:=.type "list_iterator",data:=.fields #[.ref l,.int 0 0] }).get? b=some o->h'.get? b=some o) :
  ∀b o,s.heap.get? b=some o->h'.get? b=some o:=λb o e=>hk b o (λm=>ab2 _ (mem_singleton.mp m▸lt_size e)) (get?_push_of_some _ e)
theorem zR5(K:PySem.W.Frag)(hc:X.calm=true)(hK:X.K=K:=by rfl):uo X (.builtin "any") (Zb K λbs=>bs.any id):=by
 subst hK
 intro pins s σ H xs us Q I r h
 obtain⟨p,bs,rfl,hq,q⟩:=h
 obtain⟨u,rfl,rx⟩:=O8 r
 cases rx
 obtain⟨its,r',pl,hz⟩:=I.list hq
 have hl:=pl.isList
 have hlt:p<s.heap.objs.size:=by obtain⟨_,e,_⟩:=hl;exact lt_size e
 refine call_any_walk (ad8 hl ?_)
 refine⟨_,_,_,_,_,_,_,rfl,Walks.list (A:=X.A.in1) (I.ok.hd hc) s.heap.objs.size p (aay hlt) its.toArray,⟨⟨_,get?_push_size _ rfl,rfl,rfl⟩,hl.push _⟩,zEp r',λh' tk hk=>?_⟩
 have hn:its.toArray.size=bs.length:=by
  rw[size_toArray,<-r'.length,length_map]
 rw[hn,zPx]
 exact⟨.bl (bs.any id),H,I.kept (Ik hk),rfl,q⟩
theorem zR6(K:PySem.W.Frag)(hc:X.calm=true)(hK:X.K=K:=by rfl):uo X (.builtin "all") (Zb K λbs=>bs.all id):=by
 subst hK
 intro pins s σ H xs us Q I r h
 obtain⟨p,bs,rfl,hq,q⟩:=h
 obtain⟨u,rfl,rx⟩:=O8 r
 cases rx
 obtain⟨its,r',pl,hz⟩:=I.list hq
 have hl:=pl.isList
 have hlt:p<s.heap.objs.size:=by obtain⟨_,e,_⟩:=hl;exact lt_size e
 refine call_all_walk (ad8 hl ?_)
 refine⟨_,_,_,_,_,_,_,rfl,Walks.list (A:=X.A.in1) (I.ok.hd hc) s.heap.objs.size p (aay hlt) its.toArray,⟨⟨_,get?_push_size _ rfl,rfl,rfl⟩,hl.push _⟩,zEp r',λh' tk hk=>?_⟩
 have hn:its.toArray.size=bs.length:=by
  rw[size_toArray,<-r'.length,length_map]
 rw[hn,zPy]
 exact⟨.bl (bs.all id),H,I.kept (Ik hk),rfl,q⟩
end
section
variable{prog:Program}{w:World}{A:Around}{R:Result->Shared->Prop}{It:Addr}{fp wr:List Addr}{n:Nat}{P:Nat->Value->Prop}{St:Nat->Heap->Prop}{kw:List (Str×Value)}
end
section
variable{X:Cx}{e e2:Expr}{te td:TE}{p pos kpos:Pos}
end
end L2
namespace Ts
open PySem L2
def Wi(ns:LI):LI:=ns.mergeSort (λa b=>decide (a<=b))
def Fe(ns:LI):Option LI:=if ns.length<64 then some (Wi ns) else none
theorem vV(ns:LI):(Wi ns).Perm ns:=List.mergeSort_perm _ _
theorem zD7(ns:LI):(Wi ns).Pairwise (· <= ·):=by
 have:=List.pairwise_mergeSort (le:=λa b:Int=>decide (a<=b)) (λa b c h1 h2=>by simp at *;omega) (λa b=>by simp;omega) ns
 exact this.imp λh=>by simpa using h
theorem zEt:∀{xs ys:LI},xs.Perm ys->xs.Pairwise (· <= ·)->ys.Pairwise (· <= ·)->xs=ys
 |[],ys,p,_,_=>(Perm.nil_eq p)
 |x::xs,[],p,_,_=>by have:=p.length_eq;simp at this
 |x::xs,y::ys,p,h1,h2=>by
  have a1:=pairwise_cons.mp h1
  have a2:=pairwise_cons.mp h2
  have e:x=y:=by
   have q1:x∈y::ys:=p.subset mem_cons_self
   have q2:y∈x::xs:=p.symm.subset mem_cons_self
   rcases mem_cons.mp q1 with q1|q1
   ·exact q1
   ·rcases mem_cons.mp q2 with q2|q2
    ·exact q2.symm
    ·have:=a1.1 y q2;have:=a2.1 x q1;omega
  subst e
  rw[zEt (Perm.cons_inv p) a1.2 a2.2]
section
variable{K:PySem.W.Frag}{B:Bs}{sl:SL K}{md:Md}{t t1 t2:TE}{n:Bool}
theorem Zc(h:Ex B sl .hp t m):Eo B sl md (yu (Ij K) (yQ t bJ)) (m.bind Fe):=λc hc F O H σ Q s k=>by
 cases m with
 |none=>cases hc
 |some ns =>
  have hc:Fe ns=some c:=hc
  unfold Fe at hc
  split at hc
  case isFalse=>cases hc
  rename_i hl
  cases hc
  refine h ns rfl F O H σ _ s λv F' H' g r1=>?_
  obtain⟨p,vs,rfl,z1,z2⟩:=r1
  have z3:vs=ns.map V.int:=z2.vals
  subst z3
  refine⟨p,ns,rfl,aW.of z1,hl,λl ns' hn p1 p2=>?_⟩
  rw[zEt (p1.trans (vV ns).symm) p2 (zD7 ns)]
  exact k l _ F' H' g hn (Ie _)
theorem zMk(h:Ex B sl .hp t m):Ex B sl md (yu (Zb K f) (yQ t bJ)) (m.bind λbs=>some (f bs)):=λc hc F O H σ Q s k=>by
 cases m with
 |none=>cases hc
 |some bs =>
  cases(show some (f bs)=some c from hc)
  refine h bs rfl F O H σ _ s λv F' H' g r1=>?_
  obtain⟨p,vs,rfl,z1,z2⟩:=r1
  have z3:vs=bs.map V.bl:=z2.vals
  subst z3
  exact⟨p,bs,rfl,aW.of z1,k _ F' H' g rfl⟩
theorem SQ(h:Ex B sl .hp t m):Ex B sl md (tUn (rU λi=>.int (-i)) t) (m.bind λa=>some (-a)):=λc hc F O H σ Q s k=>by
 cases m with
 |none=>cases hc
 |some a =>
  cases(show some (-a)=some c from hc)
  refine h a rfl F O H σ _ s λv F' H' g r1=>?_
  cases r1
  exact⟨a,rfl,k _ F' H' g rfl⟩
end
section
variable{β:Type}
def gK(kvs:List (Key×β))(k:Key):Option β:=(kvs.find? λkv=>decide (kv.1=k)).map (·.2)
def pK(kvs:List (Key×β))(k:Key)(v:β):List (Key×β):=if(kvs.any λkv=>decide (kv.1=k))=true then kvs.map (λkv=>if kv.1=k then(kv.1,v) else kv) else kvs++[(k,v)]
abbrev jg(kvs:List (Key×β))(k:Int):Option β:=gK kvs (abn k)
def dput(kvs:List (Key×β))(k:Int)(v:β):Option (List (Key×β)):=if kvs.length<cap then some (pK kvs (abn k) v) else none
theorem zRc:∀{kvs:List (Key×β)}{k:Key},(kvs.any λkv=>decide (kv.1=k))=(gK kvs k).isSome
 |[],_=>rfl
 |x::kvs,k=>by
  unfold gK
  rw[any_cons,find?_cons]
  by_cases e:x.1=k
  ·rw[decide_eq_true e];rfl
  ·rw[decide_eq_false e,aed];exact zRc
theorem zVp:∀(kvs:List (Key×β))(k j:Key)(v:β),gK (pK kvs k v) j=if j=k then some v else gK kvs j:=λkvs k j v=>by
 unfold pK
 cases a:(kvs.any λkv=>decide (kv.1=k)) with
 |true =>
  rw[if_pos rfl]
  induction kvs with
  |nil=>cases a
  |cons x kvs ih =>
   unfold gK at ih ⊢
   rw[map_cons,find?_cons,find?_cons]
   by_cases e:x.1=k
   ·rw[if_pos e]
    by_cases f:j=k
    ·subst f
     rw[decide_eq_true (show(x.1,v).1=j from e),if_pos rfl];rfl
    ·rw[decide_eq_false (show¬(x.1,v).1=j fromλz=>f (z.symm.trans e)),if_neg f]
     show Option.map (λx=>x.2) (List.find? (λkv=>decide (kv.1=j)) (List.map (λkv=>if kv.1=k then(kv.1,v) else kv) kvs))=Option.map (λx=>x.2) (List.find? (λkv=>decide (kv.1=j)) kvs)
     clear ih a
     induction kvs with
     |nil=>rfl
     |cons y kvs ih =>
      rw[map_cons,find?_cons,find?_cons]
      by_cases g:y.1=k
      ·rw[if_pos g,decide_eq_false (show¬(y.1,v).1=j fromλz=>f (z.symm.trans g))];exact ih
      ·rw[if_neg g]
       by_cases h:y.1=j
       ·rw[decide_eq_true h]
       ·rw[decide_eq_false h];exact ih
   ·rw[if_neg e]
    have a':(kvs.any λkv=>decide (kv.1=k))=true:=by rw[any_cons,decide_eq_false e,aed] at a;exact a
    by_cases f:x.1=j
    ·rw[decide_eq_true f,if_neg λz=>e (f.trans z)]
    ·rw[decide_eq_false f];exact ih a'
 |false =>
  rw[if_neg (by decide)]
  unfold gK
  rw[List.find?_append]
  have hn:kvs.find? (λkv=>decide (kv.1=k))=none:=by
   rw[List.find?_eq_none]
   intro x hx
   have:=any_eq_false.mp a x hx
   exact this
  by_cases f:j=k
  ·subst f;rw[hn,if_pos rfl];simp
  ·rw[if_neg f]
   cases kvs.find? (λkv=>decide (kv.1=j)) with
   |none=>simp[aco f]
   |some y=>rfl
theorem zVj(kvs:List (Key×β))(k:Key)(v:β):(pK kvs k v).length<=kvs.length+1:=by
 unfold pK
 split
 ·rw[length_map];omega
 ·rw[length_append];exact aau _
end
section
variable{K:PySem.W.Frag}{α:Type}[Rp K α]
abbrev DR(K:PySem.W.Frag){α:Type}[Rp K α](F:Hp):Key×V->Key×α->Prop:=λx y=>x.1=y.1/\rp K F x.2 y.2
theorem A2.any:∀{ks:List (Key×V)}{kvs:List (Key×α)},A2 (DR K F) ks kvs->(ks.any λkv=>decide (kv.1=k))=(kvs.any λkv=>decide (kv.1=k))
 |[],[],_=>rfl
 |_::_,_::_,h=>by rw[any_cons,any_cons,h.1.1,A2.any h.2]
 |[],_::_,h=>h.elim
 |_::_,[],h=>h.elim
theorem A2.val:∀{ks:List (Key×V)}{kvs:List (Key×α)},A2 (DR K F) ks kvs->(gK kvs k=none/\ig ks k=none)\/∃a v,gK kvs k=some a/\ig ks k=some v/\rp K F v a
 |[],[],_=>.inl ⟨rfl,rfl⟩
 |x::ks,y::kvs,h=>by
  unfold gK ig
  rw[find?_cons,find?_cons,h.1.1]
  by_cases e:y.1=k
  ·rw[decide_eq_true e];exact .inr ⟨y.2,x.2,rfl,rfl,h.1.2⟩
  ·rw[decide_eq_false e];exact A2.val h.2
 |[],_::_,h=>h.elim
 |_::_,[],h=>h.elim
theorem A2.SX(r:rp K F v a):∀{ks:List (Key×V)}{kvs:List (Key×α)},A2 (DR K F) ks kvs->A2 (DR K F) (ks.map λkv=>if kv.1=k then(kv.1,v) else kv) (kvs.map λkv=>if kv.1=k then(kv.1,a) else kv)
 |[],[],_=>trivial
 |x::ks,y::kvs,h=>by
  rw[map_cons,map_cons]
  refine⟨?_,A2.SX r h.2⟩
  by_cases e:x.1=k
  ·rw[if_pos e,if_pos (h.1.1▸e)];exact⟨h.1.1,r⟩
  ·rw[if_neg e,if_neg (h.1.1▸e)];exact h.1
 |[],_::_,h=>h.elim
 |_::_,[],h=>h.elim
theorem A2.put{F:Hp}{k:Key}{v:V}{a:α}(r:rp K F v a){ks:List (Key×V)}{kvs:List (Key×α)}(h:A2 (DR K F) ks kvs):A2 (DR K F) (putK ks k v) (pK kvs k a):=by
 unfold putK pK
 rw[h.any]
 split
 ·exact h.SX r
 ·exact h.snoc ⟨rfl,r⟩
structure Dc(α:Type) where
 kv:List (Key×α)
instance:Rp K (Dc α):=⟨λF v d=>∃p ks,v=.ref p/\F p=some (.dK ks)/\A2 (DR K F) ks d.kv,λs ⟨p,ks,h1,h2,h3⟩=>⟨p,ks,h1,s _ _ h2,h3.imp λ_ _ z=>⟨z.1,Rp.mono s z.2⟩⟩⟩
instance:Nn K (Dc α):=⟨λ⟨_,_,h,_⟩=>by rw[h];intro e;cases e⟩
variable{B:Bs}{sl:SL K}{md:Md}{t t2:TE}{F H G:Hp}{O:Own}{σ:St}{u:TS}{al:Bool}
theorem Zd{kvs:List (Key×α)}(i:Nat)(hs:sl[i]?=some (.od kvs)):Ex B sl .hp (bZ i) (some (Dc.mk kvs)):=λa' ha F O H σ Q s k=>by
 cases ha
 obtain⟨k0,z0⟩:=s
 obtain⟨O1,O2,p,ks,rfl,h1,h2,_⟩:=z0.HX hs
 exact⟨_,h1,k _ F H (.refl k0) ⟨p,ks,rfl,k0.one.2.2,h2.imp λ_ _ z=>⟨z.1,Rp.mono k0.fh z.2⟩⟩⟩
theorem K_{m:Option Int}{m2:Option (Dc α)}(h:Ex B sl .hp t m)(h2:Ex B sl .hp t2 m2):Ex B sl md (Ke t t2) (m.bind λk=>m2.bind λd=>some (jg d.kv k).isSome):=λc hc F O H σ Q s kk=>by
 obtain⟨k,d,e1,e2,e3⟩:=qJ hc
 cases e3
 refine h k e1 F O H σ _ s λv F' H' g r1=>?_
 refine h2 d e2 F' O H' σ _ (s.grow g) λw F2 H2 g2 r2=>?_
 cases r1
 obtain⟨p,ks,rfl,z1,z2⟩:=r2
 refine⟨p,_,rfl,qd.k (k:=abn k) z1,?_⟩
 have e:(ig ks (abn k:Key)).isSome=(jg d.kv k).isSome:=by
  rcases z2.val (k:=abn k) with⟨q1,q2⟩|⟨a,v,q1,q2,_⟩
  ·show _=(gK d.kv (abn k)).isSome;rw[q1,q2];rfl
  ·show _=(gK d.kv (abn k)).isSome;rw[q1,q2];rfl
 rw[e]
 exact kk _ F2 H2 (g.trans g2) rfl
theorem zRk{m:Option Int}{m2:Option (Dc α)}(h:Ex B sl .hp t m)(h2:Ex B sl .hp t2 m2):Ex B sl md (zPe t t2) (m.bind λk=>m2.bind λd=>some !(jg d.kv k).isSome):=λc hc F O H σ Q s kk=>by
 obtain⟨k,d,e1,e2,e3⟩:=qJ hc
 cases e3
 refine h k e1 F O H σ _ s λv F' H' g r1=>?_
 refine h2 d e2 F' O H' σ _ (s.grow g) λw F2 H2 g2 r2=>?_
 cases r1
 obtain⟨p,ks,rfl,z1,z2⟩:=r2
 refine⟨p,_,rfl,qd.k (k:=abn k) z1,?_⟩
 have e:(ig ks (abn k:Key)).isSome=(jg d.kv k).isSome:=by
  rcases z2.val (k:=abn k) with⟨q1,q2⟩|⟨a,v,q1,q2,_⟩
  ·show _=(gK d.kv (abn k)).isSome;rw[q1,q2];rfl
  ·show _=(gK d.kv (abn k)).isSome;rw[q1,q2];rfl
 rw[e]
 exact kk _ F2 H2 (g.trans g2) rfl
theorem zPj{kvs:List (Key×α)}{m:Option α}{mi:Option Int}{te ti:TE}(i:Nat)(hs:sl[i]?=some (.od kvs))(hh:sl.all (λs=>!cT s)=true)(hv:Ex B sl .fz te m)(hi:Ex B sl .hp ti mi) :
  Sn B sl (Ad (bZ i) ti te) (λys=>sl.set i (.od ys)) (m.bind λa=>mi.bind λk=>dput kvs k a):=λys ha G D σ H s k=>by
 obtain⟨a,ix,e1,e2,e3⟩:=qJ ha
 unfold dput at e3
 split at e3
 case isFalse=>cases e3
 rename_i hl
 cases e3
 obtain⟨F,O,g,z⟩:=s
 refine hv a e1 F O H σ _ z λv F' H' gr r=>?_
 obtain⟨p,ks,h1,h2,h3,_⟩:=(z.grow gr).Ek hs hh
 refine⟨_,h1,?_⟩
 refine hi ix e2 F' O H' σ _ (z.grow gr) λw F2 H2 tW rw=>?_
 cases rw
 obtain⟨p',ks',h1',h2',h3',h4'⟩:=((z.grow gr).grow tW).Ek hs hh
 have e:=h1.symm.trans h1'
 cases e
 obtain⟨O',z'⟩:=h4' (putK ks' (abn ix) v) (pK kvs (abn ix) a) (h3'.put (Rp.mono tW.ff r))
 exact⟨p,_,rfl,uw.k (k:=abn ix) h2' (Cy (by rw[h3'.len];exact hl)),k _ _ ⟨F2,O',(g.trans gr.ff).trans tW.ff,z'⟩⟩
end
end Ts
namespace L2
open PySem PySem.Spec PyProof.Rows
section
variable{X:Cx}{tg:Expr}
end
end L2
namespace Ts
open PySem L2
section
variable{K:PySem.W.Frag}{B:Bs}{sl:SL K}{t1 t2 t3:TE}{n:Bool}
end
section
variable{K:PySem.W.Frag}{B:Bs}{sl:SL K}{md:Md}{t:TE}{u:TS}{al:Bool}{α:Type}[Rp K α]
theorem zTa{n:Bool}{xs:List α}(i:Nat)(hs:sl[i]?=some (.ow n xs))(hn:n=!al):SB B sl (h_ (qN (bZ i)) u) al (some (some xs)):=λb hb G D σ H s k=>by
 cases hb
 exact Ej (u:=u) i hs hn xs rfl G { D with rt:=D.rt } σ H s λv H' r=>k v H' ⟨r.1,Nn.nn (K:=K) r.2,r.2⟩
end
end Ts
namespace L2
open PySem PySem.Spec PyProof.Rows
section
variable{X:Cx}
end
end L2
namespace Ts
open PySem L2
section
variable{K:PySem.W.Frag}{B:Bs}{sl:SL K}{md:Md}{t:TE}{α:Type}[Rp K α]
variable{S:Type}{n:Bool}{tb:TS}
end
end Ts
namespace L2
open PySem
open PySem PySem.Spec PyProof.Rows
def Its(x:Str):It:=⟨λi _=>i<x.cps.size,λi H v H'=>H'=H/\∃c,x.cps[i]?=some c/\v=.str ⟨#[c]⟩,λi _=>x.cps.size<=i⟩
theorem zNh{P:Program}{w:World}{K:PySem.W.Frag}{tg:Expr}(it:Addr)(x:Str)(t:Tok):Turn P w K tg (Its x) [it] it (λi h=>h.IsStrIter it "str_ascii_iterator" x t i) where
 mem:=mem_singleton.mpr rfl
 obj:=λi h st b hb=>by
  have e:b=it:=mem_singleton.mp hb
  subst e
  obtain⟨o,ho,hc,hd⟩:=st
  refine⟨o,ho,λv z=>?_⟩
  rw[hd] at z
  cases z
 keep:=λi h h' st k=>by
  obtain⟨o,ho,r⟩:=st
  exact⟨o,k it (mem_singleton.mpr rfl) _ ho,r⟩
 item:=by
  intro X hP hw hK hc i pins s σ H E I hf st hg
  subst hP hw hK
  obtain⟨f0,f1,f2,f3,f4,f5⟩:=hf it (mem_singleton.mpr rfl)
  refine(Walks.strAscii (prog:=X.prog) (w:=X.w) (I.ok.hd hc) it x t).item i s _ _ hg st λv h' tk hv st' kk=>?_
  obtain⟨c,u,hx,rfl⟩:=hv
  have I1:Inv X pins σ H { s with heap:=h',toks:=tk }:=I.turned (λb o hb e=>kk b o (λz=>hb (mem_singleton.mp z)) e) f0 f1 f3 f4 f5
  obtain⟨o,ho,hc,hd⟩:=id st'
  exact⟨_,rfl,O6 (s:={ s with heap:=h',toks:=tk }) (n:="str_ascii_iterator") ho hc hd (by decide) ⟨.str ⟨#[c]⟩,H,I1,⟨u,rfl⟩,⟨rfl,c,hx,rfl⟩,st',λb hb=>(hf b hb).1⟩⟩
 done:=by
  intro X hP hw hK hc i pins s σ H E I hf st hg
  subst hP hw hK
  obtain⟨f0,f1,f2,f3,f4,f5⟩:=hf it (mem_singleton.mpr rfl)
  exact wpAny_pyNext_ascii_end (I.ok.hd hc) st (abp hg) λh' eb=>⟨rfl,I.turned (t':=s.toks) (λb o hb e=>eb b o hb e) f0 f1 f3 f4 f5⟩
 self:=λ_ _ _ _ _ st h=>wpAny_pyIter_striter_ascii st h
theorem zO8{P:Program}{w:World}{K:PySem.W.Frag}{tg:Expr}(it:Addr)(x:Str)(t:Tok):Turn P w K tg (Its x) [it] it (λi h=>h.IsStrIter it "str_iterator" x t i) where
 mem:=mem_singleton.mpr rfl
 obj:=λi h st b hb=>by
  have e:b=it:=mem_singleton.mp hb
  subst e
  obtain⟨o,ho,hc,hd⟩:=st
  refine⟨o,ho,λv z=>?_⟩
  rw[hd] at z
  cases z
 keep:=λi h h' st k=>by
  obtain⟨o,ho,r⟩:=st
  exact⟨o,k it (mem_singleton.mpr rfl) _ ho,r⟩
 item:=by
  intro X hP hw hK hc i pins s σ H E I hf st hg
  subst hP hw hK
  obtain⟨f0,f1,f2,f3,f4,f5⟩:=hf it (mem_singleton.mpr rfl)
  refine(Walks.strWide (prog:=X.prog) (w:=X.w) (I.ok.hd hc) it x t).item i s _ _ hg st λv h' tk hv st' kk=>?_
  obtain⟨c,u,hx,rfl⟩:=hv
  have I1:Inv X pins σ H { s with heap:=h',toks:=tk }:=I.turned (λb o hb e=>kk b o (λz=>hb (mem_singleton.mp z)) e) f0 f1 f3 f4 f5
  obtain⟨o,ho,hc,hd⟩:=id st'
  exact⟨_,rfl,O6 (s:={ s with heap:=h',toks:=tk }) (n:="str_iterator") ho hc hd (by decide) ⟨.str ⟨#[c]⟩,H,I1,⟨u,rfl⟩,⟨rfl,c,hx,rfl⟩,st',λb hb=>(hf b hb).1⟩⟩
 done:=by
  intro X hP hw hK hc i pins s σ H E I hf st hg
  subst hP hw hK
  obtain⟨f0,f1,f2,f3,f4,f5⟩:=hf it (mem_singleton.mpr rfl)
  exact wpAny_pyNext_wide_end (I.ok.hd hc) st (abp hg) λh' eb=>⟨rfl,I.turned (t':=s.toks) (λb o hb e=>eb b o hb e) f0 f1 f3 f4 f5⟩
 self:=λ_ _ _ _ _ st h=>wpAny_pyIter_striter_wide st h
section
variable{X:Cx}{tg:Expr}
def S8(tl:TE):TI:=λσ H R=>tl σ H λx H1=>∃y,x=.str y/\R (Its y) H1
theorem La(hl:PE X l tl):PI X tg l (S8 tl):=by
 intro pins s σ H R I h
 refine aP (hl pins s σ H _ I h) λv s1 ⟨x,H1,I1,r1,q1⟩=>?_
 obtain⟨y,e,q⟩:=q1
 subst e
 obtain⟨t,rfl⟩:=r1
 have fp:∀b∈[s1.heap.objs.size],lU X pins H1 b:=λb hb=>by
  have e:b=s1.heap.objs.size:=mem_singleton.mp hb
  subst e
  exact I1.lV (aau _) (I1.hok.fresh (aau _))
 cases ha:y.cps.all (· < 128)
 ·exact wpAny_pyIter_wide ha ⟨s1.heap.objs.size,[s1.heap.objs.size],_,_,H1,rfl,I1.kept (t':=s1.toks) λb o e=>get?_push_of_some _ e,zO8 _ y t,⟨_,get?_push_size _ rfl,rfl,rfl⟩,fp,q⟩
 ·exact wpAny_pyIter_ascii ha ⟨s1.heap.objs.size,[s1.heap.objs.size],_,_,H1,rfl,I1.kept (t':=s1.toks) λb o e=>get?_push_of_some _ e,zNh _ y t,⟨_,get?_push_size _ rfl,rfl,rfl⟩,fp,q⟩
end
end L2
namespace Ts
open PySem L2
section
variable{K:PySem.W.Frag}{B:Bs}{sl:SL K}{md:Md}{t ta tb tc:TE}{n:Bool}
def S9(x:Str):List Str:=x.cps.toList.map λc=>(⟨#[c]⟩:Str)
theorem Lb(h:Ex B sl .hp t mi):Ei B sl n (S8 t) (mi.bind λx=>some (S9 x)):=λxs hx F O H σ R a k=>by
 cases mi with
 |none=>cases hx
 |some x =>
  cases(show some (S9 x)=some xs from hx)
  refine h x rfl F O H σ _ a λv F' H' gr r=>?_
  cases r
  refine⟨x,rfl,k _ F' H' gr λi F2 O2 H2 sf k2=>⟨λhl=>?_,λy hy=>?_⟩⟩
  ·show x.cps.size<=i
   unfold S9 at hl
   rw[length_map,length_toList] at hl
   exact hl
  ·unfold S9 at hy
   rw[getElem?_map,getElem?_toList] at hy
   cases e:x.cps[i]? with
   |none=>rw[e] at hy;cases hy
   |some c =>
    rw[e] at hy
    cases hy
    have hi:i<x.cps.size:=(Array.getElem?_eq_some_iff.mp e).1
    refine⟨hi,λv H3 yd=>?_⟩
    obtain⟨rfl,c',e',rfl⟩:=yd
    rw[e] at e'
    cases e'
    exact⟨F2,.refl k2,rfl⟩
theorem zMj{f g:Int->Int->Bool}(h1:Ex B sl .hp ta m1)(h2:Ex B sl .hp tb m2)(h3:Ex B sl .hp tc m3) :
  Ex B sl md (zU8 (rR λi j=>.bl (f i j)) (rR λi j=>.bl (g i j)) ta tb tc) (m1.bind λa=>m2.bind λb=>if f a b=true then m3.bind λc=>some (g b c) else some false):=λd hd F O H σ Q s k=>by
 obtain⟨a,b,e1,e2,e3⟩:=qJ hd
 refine h1 a e1 F O H σ _ s λv F' H' g1 r1=>?_
 refine h2 b e2 F' O H' σ _ (s.grow g1) λw F2 H2 g2 r2=>?_
 cases r1
 cases r2
 refine⟨a,b,rfl,rfl,_,rfl,?_⟩
 by_cases q:f a b=true
 ·rw[if_pos q] at e3 ⊢
  cases m3 with
  |none=>cases e3
  |some c =>
   cases(show some (g b c)=some d from e3)
   refine h3 c rfl F2 O H2 σ _ ((s.grow g1).grow g2) λu F3 H3 g3 r3=>?_
   cases r3
   exact⟨b,c,rfl,rfl,k _ F3 H3 ((g1.trans g2).trans g3) rfl⟩
 ·rw[if_neg q] at e3 ⊢
  cases e3
  exact k _ F2 H2 (g1.trans g2) rfl
def Il:List V->Hp->VK->Prop:=λxs H Q=>∃x:Str,xs=[.str x]/\x.length<cap/\Q (.int x.length) H
theorem zR4:uo X (.builtin "len") Il:=by
 intro pins s σ H xs us Q I r h
 obtain⟨x,rfl,hl,q⟩:=h
 exact zUs pins s σ H _ us Q I r ⟨_,_,rfl,⟨acw (Cy hl),rfl⟩,q⟩
def Fg(x:Str):Option Int:=if x.length<cap then some (x.length:Int) else none
theorem Fi(h:Ex B sl .hp t m):Ex B sl md (yu Il (yQ t bJ)) (m.bind Fg):=λc hc F O H σ Q s k=>by
 cases m with
 |none=>cases hc
 |some x =>
  have hc:Fg x=some c:=hc
  unfold Fg at hc
  split at hc
  case isFalse=>cases hc
  rename_i hl
  cases hc
  refine h x rfl F O H σ _ s λv F' H' g r1=>?_
  cases r1
  exact⟨x,rfl,hl,k _ F' H' g rfl⟩
def Ze(i j:Str):Bool:=!(adz j i 0 j.length 1).isEmpty
abbrev Zf:R2:=λx y H Q=>∃i j,x=.str i/\y=.str j/\Q (.bl (!(adz j i 0 j.length 1).isEmpty)) H
theorem Ld(h1:Ex B sl .hp ta m1)(h2:Ex B sl .hp tb m2):Ex B sl md (jT Zf ta tb) (m1.bind λa=>m2.bind λb=>some (Ze a b)) :=
 Cw (f:=λa b=>some (Ze a b)) (λa b c v w H Q e r1 r2 q=>by
  cases e
  cases r1
  cases r2
  exact⟨a,b,rfl,rfl,q⟩) h1 h2
theorem Lf{ws:List Str}(hT:∀H,cO K H p (ws.map V.str))(h:Ex B sl .hp t m):Ex B sl md (jT (Kl K false) t (tC (.ref p))) (m.bind λx=>some (decide (x∈ws))):=λc hc F O H σ Q s k=>by
 cases m with
 |none=>cases hc
 |some x =>
  cases(show some (decide (x∈ws))=some c from hc)
  refine h x rfl F O H σ _ s λv F' H' g r1=>?_
  cases r1
  refine⟨p,_,rfl,.inr (hT H'),Fl.flat (K:=K) x,Y5 (K:=K) ws,?_⟩
  have:=V_ (K:=K) x ws
  simp only[aa1,if_false]
  rw[show inV (V.str x) (ws.map V.str)=decide (x∈ws) from this]
  exact k _ F' H' g rfl
end
section
variable{P:Program}{w:World}{K:PySem.W.Frag}{mg:Str->Option Value}{base:Heap}{B:Bs}{sl:SL K}{al:Bool}{S β:Type}[Rp K β]
theorem Px:Sn B sl zU6 L none:=λa ha=>by cases ha
theorem Wj{A:Type}{as:A->SL K}{fM:A->Option Unit}(F:aY K x qual st f fd)(S:ao N ps (zH st))(hf:∀a,(as a).all isF=true)(hl:∀a,(as a).length=ps.length)(hb:∀(cdv:Value) (A:Around) (outer:List Env) (s:Shared) (H:Hp) (E:XK),bW k (A.deeper (adp qual (zH st) s.heap.objs.size f cdv)) ->
   ∃t,qI (oX aO P w K mg base N qual (zH st) f cdv A outer s H E).Dm (xQ st) t/\∀Fa a,∃L:Unit->SL K,Sn ⟨Fa,H⟩ (as a++replicate (N.length-ps.length) .un) t L (fM a)) :
  aq P w K mg base aO (k+1) f fd ps (cQ K al as fM) :=
 F.ok S (λvs H Q E h=>zU9 hl h) λcdv A outer s H vs Q E hr h=>by
  obtain⟨t,p,q⟩:=hb cdv A outer s H E hr
  refine⟨t,p,?_⟩
  obtain⟨a,b,Fa,s,hfa,r,kk⟩:=h
  have e:L2.start N vs=vs.map some++replicate (N.length-ps.length) none:=by
   unfold L2.start
   rw[r.len,hl]
  rw[e]
  obtain⟨L,q⟩:=q Fa a
  exact q b hfa Fa _ _ H ⟨Fa,[],.refl _,⟨s,.refl _,λb o h=>.inl h,λx hx=>(by cases hx),(by simp)⟩,zEv _ (hf a) r⟩ λσ' H' ⟨F',O',g,a'⟩=>kk .non H' a'.1.h0 rfl
def Lg(a:Str)(i:Int):Option Str:=if i.natAbs.log2<1920 then some (a++adi (toString i)) else none
def Py(a z:Str):Option Str:=if z.length<=1000 then some (a++z) else none
theorem zVs(a:Str)(h:Ex B sl .hp t m):Ex B sl md (Yz a t) (m.bind (Lg a)):=λc hc F O H σ Q s k=>by
 cases m with
 |none=>cases hc
 |some i =>
  have hc:Lg a i=some c:=hc
  unfold Lg at hc
  split at hc
  case isFalse=>cases hc
  rename_i hl
  cases hc
  refine h i rfl F O H σ _ s λv F' H' g r1=>?_
  cases r1
  exact .inl ⟨i,rfl,hl,k _ F' H' g rfl⟩
theorem Lh(a:Str)(h:Ex B sl .hp t m):Ex B sl md (Yz a t) (m.bind (Py a)):=λc hc F O H σ Q s k=>by
 cases m with
 |none=>cases hc
 |some i =>
  have hc:Py a i=some c:=hc
  unfold Py at hc
  split at hc
  case isFalse=>cases hc
  rename_i hl
  cases hc
  refine h i rfl F O H σ _ s λv F' H' g r1=>?_
  cases r1
  exact .inr ⟨i,rfl,hl,k _ F' H' g rfl⟩
theorem S_:kitOne K (.type "str") (.type "str")=some true:=rfl
theorem Li:bootBuiltins "str" = some (.type "str"):=by decide +kernel
end
section
variable{β:Type}
abbrev Im(kvs:List (Key×β))(k:Str):Option β:=gK kvs (ab5 k)
def Tc(kvs:List (Key×β))(k:Str)(v:β):Option (List (Key×β)):=if kvs.length<cap then some (pK kvs (ab5 k) v) else none
end
section
variable{K:PySem.W.Frag}{α:Type}[Rp K α]
variable{B:Bs}{sl:SL K}{md:Md}{t t2:TE}{F H G:Hp}{O:Own}{σ:St}{u:TS}{al:Bool}
theorem Fj{m:Option Str}{m2:Option (Dc α)}(h:Ex B sl .hp t m)(h2:Ex B sl .hp t2 m2):Ex B sl md (Ke t t2) (m.bind λk=>m2.bind λd=>some (Im d.kv k).isSome):=λc hc F O H σ Q s kk=>by
 obtain⟨k,d,e1,e2,e3⟩:=qJ hc
 cases e3
 refine h k e1 F O H σ _ s λv F' H' g r1=>?_
 refine h2 d e2 F' O H' σ _ (s.grow g) λw F2 H2 g2 r2=>?_
 cases r1
 obtain⟨p,ks,rfl,z1,z2⟩:=r2
 refine⟨p,_,rfl,qd.k (k:=ab5 k) z1,?_⟩
 have e:(ig ks (ab5 k:Key)).isSome=(Im d.kv k).isSome:=by
  rcases z2.val (k:=ab5 k) with⟨q1,q2⟩|⟨a,v,q1,q2,_⟩
  ·show _=(gK d.kv (ab5 k)).isSome;rw[q1,q2];rfl
  ·show _=(gK d.kv (ab5 k)).isSome;rw[q1,q2];rfl
 rw[e]
 exact kk _ F2 H2 (g.trans g2) rfl
theorem zS3{kvs:List (Key×α)}{m:Option α}{mi:Option Str}{te ti:TE}(i:Nat)(hs:sl[i]?=some (.od kvs))(hh:sl.all (λs=>!cT s)=true)(hv:Ex B sl .fz te m)(hi:Ex B sl .hp ti mi) :
  Sn B sl (Ad (bZ i) ti te) (λys=>sl.set i (.od ys)) (m.bind λa=>mi.bind λk=>Tc kvs k a):=λys ha G D σ H s k=>by
 obtain⟨a,ix,e1,e2,e3⟩:=qJ ha
 unfold Tc at e3
 split at e3
 case isFalse=>cases e3
 rename_i hl
 cases e3
 obtain⟨F,O,g,z⟩:=s
 refine hv a e1 F O H σ _ z λv F' H' gr r=>?_
 obtain⟨p,ks,h1,h2,h3,_⟩:=(z.grow gr).Ek hs hh
 refine⟨_,h1,?_⟩
 refine hi ix e2 F' O H' σ _ (z.grow gr) λw F2 H2 tW rw=>?_
 cases rw
 obtain⟨p',ks',h1',h2',h3',h4'⟩:=((z.grow gr).grow tW).Ek hs hh
 have e:=h1.symm.trans h1'
 cases e
 obtain⟨O',z'⟩:=h4' (putK ks' (ab5 ix) v) (pK kvs (ab5 ix) a) (h3'.put (Rp.mono tW.ff r))
 exact⟨p,_,rfl,uw.k (k:=ab5 ix) h2' (Cy (by rw[h3'.len];exact hl)),k _ _ ⟨F2,O',(g.trans gr.ff).trans tW.ff,z'⟩⟩
end
abbrev LLI:=List LI
abbrev CK:=List (Str×LI)
structure iw(p:Addr) where
 u:Unit
def Wk(C:Addr)(fS:LLI->Option Unit)(fM:CK->Int->Option Unit)(fF:LLI->Int->Option Unit)(fC fO:LLI->Option LLI)(xss:LLI)(mo:Option CK)(fo:Option LLI):Option (aF C) :=
 (fS xss).bind λ_=>(fM (mo.getD []) (xss.length:Int)).bind λ_=>(fF (fo.getD []) (xss.length:Int)).bind λ_=>(fC xss).bind λa=>(wP (λ_=>some true) (λx:Str×LI=>some (x.1,x.2)) (mo.getD [])).bind λb =>
  (fC (fo.getD [])).bind λc=>(fO a).bind λd=>some ⟨a,b,c,d⟩
theorem CN{α β:Type}{m:Option α}{f:α->Option β}{b:β}(h:m.bind f=some b):∃a,m=some a/\f a=some b:=by
 cases m with
 |none=>cases h
 |some a=>exact⟨a,rfl,h⟩
section
variable{K:PySem.W.Frag}{C:Addr}{B:Bs}{sl:SL K}{F H:Hp}{O:Own}{σ:St}
instance:Rp K (iw p):=⟨λ_ v _=>v=.ref p,λ_ h=>h⟩
def Td(K:PySem.W.Frag)(C:Addr)(mk:LLI->Option CK->Option LLI->Option (aF C)):Sp:=λvs H Q _=>∃(p dx:Addr)(vS vM vF:V)(xss:LLI)(mo:Option CK)(fo:Option LLI)(M:aF C),vs=[.ref p,vS,vM,vF]/\H p=some (.ins C dx []) /\
 rp K (hid H p) vS xss/\rp K (hid H p) vM mo/\rp K (hid H p) vF fo/\mk xss mo fo=some M/\∀H':Hp,(∀b o,b≠p->H b=some o->H' b=some o)->rp K (dif H' (hid H p)) (.ref p) M->Q .non H'
variable{mk:LLI->Option CK->Option LLI->Option (aF C)}
theorem zS0{H1:Hp}{x dx:Addr}(nx:H1 x=none)(ndx:H1 dx=none){vS vM vF:V}{xss:LLI}{mo:Option CK}{fo:Option LLI}{c:aF C}(rS:rp K H1 vS xss)(rM:rp K H1 vM mo)(rF:rp K H1 vF fo)(hc:mk xss mo fo=some c){Q:VK}{E:XK}(k:∀H2:Hp,Same H1 H2->rp K (dif H2 H1) (.ref x) c->Q (.ref x) H2):Td K C mk [.ref x,vS,vM,vF] (upd (upd H1 dx (.own x)) x (.ins C dx [])) (λv H2=>v=.non/\Q (.ref x) H2) E:=by
 have sG:Same H1 (upd (upd H1 dx (.own x)) x (.ins C dx [])):=λb o e=>by rw[zQ (zO e nx),zQ (zO e ndx)];exact e
 have sh:Same H1 (hid (upd (upd H1 dx (.own x)) x (.ins C dx [])) x):=λb o e=>by
  unfold hid
  rw[if_neg (zO e nx)]
  exact sG b o e
 refine⟨x,dx,vS,vM,vF,xss,mo,fo,c,rfl,zK,Rp.mono sh rS,Rp.mono sh rM,Rp.mono sh rF,hc,λH2 kp r2=>⟨rfl,?_⟩⟩
 refine k H2 (λb o e=>kp b o (zO e nx) (sG b o e)) (Rp.mono (λb o e=>?_) r2)
 have hb:H1 b=none:=by
  cases q:H1 b with
  |none=>rfl
  |some u =>
   have:hid (upd (upd H1 dx (.own x)) x (.ins C dx [])) x b=some u:=sh b u q
   unfold dif at e
   rw[this] at e
   cases e
 rw[wF hb]
 exact aZ _ _ e
theorem zRp(h1:Ex B sl .hp t1 m1)(h2:Ex B sl .hp t2 m2)(h3:Ex B sl .hp t3 m3) :
  En B sl (J_ C (Td K C mk) [] E0 (yQ t1 (yQ t2 (yQ t3 bJ)))) (m1.bind λa=>m2.bind λb=>m3.bind λc=>mk a (some b) (some c)):=λc hc F O H σ Q s kk=>by
 obtain⟨a,rfl,hc⟩:=CN (m:=m1) hc
 obtain⟨b,rfl,hc⟩:=CN (m:=m2) hc
 obtain⟨d,rfl,hc⟩:=CN (m:=m3) hc
 refine h1 a rfl F O H σ _ s λv1 F1 H1 g1 r1=>?_
 refine h2 b rfl F1 O H1 σ _ (s.grow g1) λv2 F2 H2 g2 r2=>?_
 refine h3 d rfl F2 O H2 σ _ ((s.grow g1).grow g2) λv3 F3 H3 g3 r3=>?_
 intro x dx nx ndx nex
 have r2':rp K H2 v2 b:=r2
 have r3':rp K H3 v3 d:=r3
 exact zS0 nx ndx (Rp.mono (g2.hh.trans g3.hh) r1) (show rp K H3 v2 (some b) from⟨Nn.nn (K:=K) r2',Rp.mono g3.hh r2⟩) (show rp K H3 v3 (some d) from⟨Nn.nn (K:=K) r3',r3⟩) hc λH4 s4 r4=>kk _ F3 H3 H4 (g1.trans (g2.trans g3)) s4 r4
theorem Lj(h:b≠p):hid H p b=H b:=by unfold hid;rw[if_neg h]
theorem Pz:hid H p p=none:=by unfold hid;rw[if_pos rfl]
theorem Te:Same (hid H p) H:=λb o e=>by
 by_cases q:b=p
 ·subst q;rw[Pz] at e;cases e
 ·rw[Lj q] at e;exact e
theorem PB(s:Same H H'):Same (hid H p) (hid H' p):=λb o e=>by
 by_cases q:b=p
 ·subst q;rw[Pz] at e;cases e
 ·rw[Lj q] at e ⊢;exact s b o e
theorem Io:hid (upd H p o) p=hid H p:=by
 funext b
 by_cases q:b=p
 ·subst q;rw[Pz,Pz]
 ·rw[Lj q,Lj q,zQ q]
theorem Wm(kp:∀b o,b≠p->H b=some o->Hi b=some o)(hp:Hi p≠none):Same (dif H' Hi) (dif (hid H' p) (hid H p)):=λb o e=>by
 have hb:Hi b=none:=by
  cases q:Hi b with
  |none=>rfl
  |some u=>unfold dif at e;rw[q] at e;cases e
 have nb:b≠p:=λq=>hp (by rw[<-q];exact hb)
 rw[wF hb] at e
 have h0:hid H p b=none:=by
  rw[Lj nb]
  cases q:H b with
  |none=>rfl
  |some u=>rw[kp b u nb q] at hb;cases hb
 rw[wF h0,Lj nb]
 exact e
theorem zV0(hs:ak (K:=K) ⟨hid Hi p,Hi⟩ (hid Hi p) (lo (hid Hi p) [] Hi) Hi sl σ []):At (K:=K) ⟨hid Hi p,Hi⟩ sl (hid Hi p) [] Hi σ :=
 ⟨⟨Te,.refl _,λb o h=>.inl h,λx hx=>(by cases hx),by simp⟩,hs⟩
end
end Ts
namespace qU
open PySem
def Rz(xs:Array Nat):Prop:=∀i k a b:Nat,i<k->xs[i]?=some a->xs[k]?=some b->a<b
theorem Zg(hr:Rz xs):∀(fuel lo hi:Nat),hi-lo<=fuel->lo<=hi->hi<=xs.size->(∀i a,i<lo->xs[i]?=some a->a<j)->(∀i a,hi<=i->xs[i]?=some a->j<=a) ->
  (below.go xs j fuel lo hi)<=xs.size/\(∀i a,i<below.go xs j fuel lo hi->xs[i]?=some a->a<j)/\(∀i a,below.go xs j fuel lo hi<=i->xs[i]?=some a->j<=a)
 |0,lo,hi,hf,hl,hz,h1,h2=>by
  have e:lo=hi:=by omega
  subst e
  unfold below.go
  exact⟨hz,h1,h2⟩
 |fuel+1,lo,hi,hf,hl,hz,h1,h2=>by
  unfold below.go
  by_cases hlt:lo<hi
  ·rw[if_pos hlt]
   have hm:(lo+hi)/2<hi:=by omega
   have hm0:lo<=(lo+hi)/2:=by omega
   have hms:(lo+hi)/2<xs.size:=by omega
   have e:xs.getD ((lo+hi)/2) j=xs[(lo+hi)/2]:=by simp[Array.getD,hms]
   dsimp only
   rw[e]
   by_cases hc:xs[(lo+hi)/2]<j
   ·rw[if_pos hc]
    refine Zg hr fuel _ hi (by omega) (by omega) hz (λi a hi' ha=>?_) h2
    by_cases hi2:i=(lo+hi)/2
    ·subst hi2
     rw[aax hms] at ha
     cases ha
     exact hc
    ·exact ad5 (hr i ((lo+hi)/2) a _ (by omega) ha (aax hms)) hc
   ·rw[if_neg hc]
    refine Zg hr fuel lo _ (by omega) (by omega) (by omega) h1 (λi a hi' ha=>?_)
    by_cases hi2:i=(lo+hi)/2
    ·subst hi2
     rw[aax hms] at ha
     cases ha
     omega
    ·have:=hr ((lo+hi)/2) i _ a (by omega) (aax hms) ha
     omega
  ·rw[if_neg hlt]
   have e:lo=hi:=by omega
   subst e
   exact⟨hz,h1,h2⟩
theorem Zh(hr:Rz xs)(j:Nat):below xs j<=xs.size/\(∀i a,i<below xs j->xs[i]?=some a->a<j)/\(∀i a,below xs j<=i->xs[i]?=some a->j<=a) :=
 Zg hr xs.size 0 xs.size (by omega) (abd _) (aau _) (λi a h=>absurd h (acq _)) (λi a h1 h2=>by
  rw[abp h1] at h2
  cases h2)
theorem Lk{α:Type}(xs:Array α)(p:Nat)(x:α)(hp:p<=xs.size)(i:Nat):(insertAt xs p x)[i]?=if i<p then xs[i]? else if i=p then some x else xs[i-1]?:=by
 have e:insertAt xs p x=(xs.toList.take p++x::xs.toList.drop p).toArray:=by
  unfold insertAt
  apply Array.ext'
  simp
  rw[List.take_of_length_le (by rw[length_drop,length_toList];exact aau _)]
 rw[e,getElem?_toArray]
 have hl:p<=xs.toList.length:=by simpa using hp
 by_cases h1:i<p
 ·rw[if_pos h1,getElem?_append_left (by rw[length_take];omega),getElem?_take_of_lt h1,getElem?_toList]
 ·rw[if_neg h1,getElem?_append_right (by rw[length_take];omega),length_take,Nat.min_eq_left hl]
  by_cases h2:i=p
  ·subst h2;simp
  ·rw[if_neg h2]
   obtain⟨k,rfl⟩:∃k,i=p+1+k:=⟨i-(p+1),by omega⟩
   rw[show p+1+k-p=k+1 by omega,List.getElem?_cons_succ,List.getElem?_drop,getElem?_toList]
   congr 1
   omega
theorem Ln(hr:Rz xs)(hn:xs[below xs j]?≠some j):Rz (insertAt xs (below xs j) j):=by
 obtain⟨b1,b2,b3⟩:=Zh hr j
 intro i k a b hik ha hb
 rw[Lk _ _ _ b1] at ha hb
 generalize below xs j=p at *
 have up:∀m c,p<=m->xs[m]?=some c->j<c:=λm c hm hc=>by
  have h1:=b3 m c hm hc
  by_cases e:m=p
  ·subst e
   have:c≠j:=λz=>hn (by rw[hc,z])
   omega
  ·have hp:p<xs.size:=by
    have:m<xs.size:=by
     by_cases z:m<xs.size
     ·exact z
     ·rw[abp (by omega)] at hc;cases hc
    omega
   have h2:=hr p m _ c (by omega) (aax hp) hc
   have h3:=b3 p _ (aau _) (aax hp)
   omega
 by_cases i1:i<p
 ·rw[if_pos i1] at ha
  have ja:=b2 i a i1 ha
  by_cases k1:k<p
  ·rw[if_pos k1] at hb;exact hr i k a b hik ha hb
  ·rw[if_neg k1] at hb
   by_cases k2:k=p
   ·rw[if_pos k2] at hb;cases hb;exact ja
   ·rw[if_neg k2] at hb
    exact ad5 ja (up (k-1) b (by omega) hb)
 ·rw[if_neg i1] at ha
  have k1:¬k<p:=by omega
  have k2:¬k=p:=by omega
  rw[if_neg k1,if_neg k2] at hb
  by_cases i2:i=p
  ·rw[if_pos i2] at ha;cases ha;exact up (k-1) b (by omega) hb
  ·rw[if_neg i2] at ha
   exact hr (i-1) (k-1) a b (by omega) ha hb
def Free(t:SetTable)(j:Nat):Prop:=t.place[below t.place j]?≠some j
theorem zIi{t:SetTable}(h:∀i,t.slot j≠.live i):Free t j:=λe=>by
 refine h (below t.place j) ?_
 unfold SetTable.slot
 simp[e]
theorem Zi:∀(fuel:Nat)(p:SetTable.Probe)(j:Nat)(d:Option Nat),(∀d,p.dummy=some d->Free t d)->probe.go t f h fuel p=some (.empty j d)->Free t j/\∀e,d=some e->Free t e
 |0,p,j,d,hd,e=>by unfold probe.go at e;cases e
 |fuel+1,p,j,d,hd,e=>by
  have adv:∀q:SetTable.Probe,(t.advance q).dummy=q.dummy:=λq=>by
   unfold SetTable.advance
   split
   ·rfl
   ·rfl
  unfold probe.go at e
  cases hs:t.slot p.j with
  |empty =>
   rw[hs] at e
   cases e
   exact⟨zIi (λi z=>by rw[hs] at z;cases z),hd⟩
  |dummy =>
   rw[hs] at e
   refine Zi fuel _ j d (λd' h'=>?_) e
   rw[adv] at h'
   cases h'
   exact zIi λi z=>by rw[hs] at z;cases z
  |live i =>
   rw[hs] at e
   dsimp only at e
   split at e
   ·cases e
   ·exact Zi fuel _ j d (λd' h'=>hd d' (by rw[adv] at h';exact h')) e
theorem zHt{t:SetTable}(e:t.freeSlot h=some (j,b)):Free t j:=by
 unfold SetTable.freeSlot at e
 split at e
 ·rename_i j' d hp
  cases e
  have q:=Zi (t:=t) _ _ j' d (λd h'=>by cases h') hp
  cases d with
  |none=>exact q.1
  |some d=>exact q.2 d rfl
 ·cases e
structure Tb(led:Bool)(t:SetTable):Prop where
 led:t.led=led
 rz:t.plain=true->Rz t.place
theorem Wn(h:Tb led t)(n:Nat):Tb led (t.standIn n):=⟨h.led,λz=>by cases z⟩
theorem Tf(h:Tb led t)(n:Nat):Tb led (t.orStandIn n):=by
 unfold SetTable.orStandIn
 split
 ·exact h
 ·exact Wn h n
theorem Lp(hb:Tb led t)(es:Array (Int×Value))(h:Int)(x:Value):Tb led (layNew t es h x).2.1:=by
 unfold layNew
 cases e:t.freeSlot h with
 |none=>exact Wn hb _
 |some q =>
  obtain⟨j,b⟩:=q
  dsimp only
  refine Tf (t:=(t.put j).1) ⟨hb.led,λz=>?_⟩ _
  exact Ln (hb.rz z) (zHt e)
theorem zIp(f:Nat->Option Nat)(n:Nat):Rz (((aa5 n).filterMap λj=>(f j).map (j,·)).map (·.1)).toArray:=by
 have hp:(((aa5 n).filterMap λj=>(f j).map (j,·)).map (·.1)).Pairwise (· < ·):=by
  rw[List.pairwise_map]
  refine Pairwise.filterMap _ ?_ (List.pairwise_lt_range (n:=n))
  intro a b hab x hx y hy
  cases ea:f a with
  |none=>rw[ea] at hx;cases hx
  |some u =>
   cases eb:f b with
   |none=>rw[eb] at hy;cases hy
   |some v =>
    rw[ea] at hx
    rw[eb] at hy
    cases hx
    cases hy
    exact hab
 intro i k a b hik ha hb
 rw[getElem?_toArray] at ha hb
 obtain⟨h1,e1⟩:=aa2.mp ha
 obtain⟨h2,e2⟩:=aa2.mp hb
 rw[<-e1,<-e2]
 exact List.pairwise_iff_getElem.mp hp i k h1 h2 hik
theorem zSt(hb:Tb led t)(es:Array (Int×Value))(n:Nat):Tb led (relayAll t es n).2.1:=by
 unfold relayAll
 cases e:t.relaid (es.map (·.1)) n with
 |none=>exact Wn hb _
 |some q =>
  obtain⟨t',order⟩:=q
  dsimp only
  split
  ·unfold SetTable.relaid SetTable.laid at e
   cases e2:SetTable.layClean (SetTable.sizeAbove n-1) (es.map (·.1)) with
   |none=>rw[e2] at e;cases e
   |some owner =>
    rw[e2] at e
    cases e
    exact⟨hb.led,λ_=>zIp _ _⟩
  ·exact Wn hb _
theorem zSu(led:Bool):Tb led (.fresh 0 0 led):=⟨rfl,λ_=>λi k a b _ h _=>by
 have:(#[]:Array Nat)[i]?=some a:=h
 simp at this⟩
section
variable{prog:Program}{w:World}{κ:Type}[DecidableEq κ](knd:KeyKind prog w κ)(dec:Value->κ)
def Good(led:Bool)(h:Heap)(a:Addr)(ks:List κ):Prop :=
 ∃o es ep t,h.get? a=some o/\o.ExactSet/\o.data=.set es ep t/\ElemsOf knd es.toList/\(es.toList.map λe=>dec e.2).Perm ks/\ks.Nodup/\es.size<scanBound/\t.fits es.size=true/\Tb led t
variable{knd}{dec}{led:Bool}{A:Around}{E:Value->Shared->Prop}{s:Shared}
theorem Good.len(g:Good knd dec led h a ks):ks.length<scanBound:=by
 obtain⟨o,es,ep,t,_,_,_,_,p,_,hb,_⟩:=g
 rw[<-p.length_eq,length_map,length_toList]
 exact hb
theorem Good.keep{h':Heap}(g:Good knd dec led h a ks)(k:∀o,h.get? a=some o->h'.get? a=some o):Good knd dec led h' a ks:=by
 obtain⟨o,es,ep,t,h1,rest⟩:=g
 exact⟨o,es,ep,t,k _ h1,rest⟩
theorem zJd(hdec:∀k v,knd.is k v=true->dec v=k)(hel:ElemsOf knd es)(k:κ):es.findIdx? (λe=>knd.is k e.2)=none↔k∉es.map λe=>dec e.2:=by
 rw[List.findIdx?_eq_none_iff]
 constructor
 ·intro h hm
  obtain⟨e,he,rfl⟩:=mem_map.mp hm
  obtain⟨⟨k',hk,_⟩,_⟩:=hel e he
  have:=h e he
  rw[hdec k' _ hk,hk] at this
  cases this
 ·intro h e he
  cases q:knd.is k e.2 with
  |false=>rfl
  |true=>exact absurd (mem_map.mpr ⟨e,he,hdec _ _ q⟩) h
theorem Ip{h:Heap}(ho:h.get? a=some o)(hd:o.data=.set es ep t):(h.update a (afb es' t')).get? a=some { o with data:=.set es' (ep+1) t' }:=by
 have q:=get?_update_self (afb es' t') ho (by rw[putSet_of es' t' hd];rfl)
 rw[putSet_of es' t' hd] at q
 exact q
theorem Zj{Q:Unit->Shared->Prop}(h:Q () s1):wpAny (model prog w) A (match b with|true=>rule "set.scan.the-table-gave-way" | false=>pure ()) Q E s1:=by
 cases b
 ·exact aar h
 ·exact aec h
theorem zMw{g:Bool->Sem Unit}(hg:∀(b:Bool) (s₁:Shared) (Q':Unit->Shared->Prop),Q' () s₁->wpAny (model prog w) A (g b) Q' E s₁){es1:Array (Int×Value)}{t2:SetTable}{R:Option Bool->Shared->Prop}(ho:s.heap.get? a=some o)(hx:o.ExactSet)(hd:o.data=.set es ep t)(hel:ElemsOf knd es1.toList)(hp:(es1.toList.map λe=>dec e.2).Perm ks)(nd:ks.Nodup)(hb:es1.size<scanBound)(hf:t2.fits es1.size=true)(tb:Tb led t2)(h:∀h',SameBut a s.heap h'->Good knd dec led h' a ks->R (some true) { s with heap:=h' }) :
  wpAny (model prog w) A (storeSet a es1 t2 >>= λ_=>if(!Ti&&t2.tooFull)=true then(g (relayAll t2 es1 (grown es1.size)).2.2 >>= λ_=>storeSet a (relayAll t2 es1 (grown es1.size)).1 (relayAll t2 es1 (grown es1.size)).2.1 >>= λ_=>pure (some true)) else pure (some true)) R E s:=by
 refine aaq (acj ho hd ?_ (aci hb))
 have o1:=Ip (es':=es1) (t':=t2) ho hd
 have sb:=SameBut.update s.heap a (afb es1 t2)
 split
 ·have rp:=relayAll_perm t2 es1 (grown es1.size)
  have rf:=relayAll_fits t2 es1 (grown es1.size)
  have rt:=zSt tb es1 (grown es1.size)
  generalize relayAll t2 es1 (grown es1.size)=L at rp rf rt ⊢
  obtain⟨es2,t3,gv⟩:=L
  dsimp only at rp rf rt ⊢
  have sz:es2.size=es1.size:=by rw[<-length_toList,rp.length_eq,length_toList]
  refine aaq (hg _ _ _ (aaq (acj o1 rfl (aar (h _ (sb.trans (SameBut.update _ a _)) ⟨_,es2,_,t3,Ip (es':=es2) (t':=t3) o1 rfl,hx,rfl,hel.perm rp,(rp.map _).trans hp,nd,by rw[sz];exact hb,rf,rt⟩)) (aci (by rw[sz];exact hb)))))
 ·exact aar (h _ sb ⟨_,es1,_,t2,o1,hx,rfl,hel,hp,nd,hb,hf,tb⟩)
theorem Lq(h:Tb led t):Tb led { t with plain:=false }:=⟨h.led,λz=>by cases z⟩
theorem Wo(hdec:∀k v,knd.is k v=true->dec v=k){Q:Bool->Shared->Prop}(hk:knd.is k x=true)(hs:x.scannable=true)(g:Good knd dec led s.heap a ks)(room:ks.length+1<scanBound)(h:∀(h':Heap) (b:Bool),SameBut a s.heap h'->Good knd dec led h' a (if k∈ks then ks else k::ks)->Q b { s with heap:=h' }) :
  wpAny (model prog w) A (setAddHashed a x (knd.hash k)) Q E s:=by
 obtain⟨o,es,ep,t,ho,hx,hd,hel,hp,nd,hb,hf,tb⟩:=g
 have n:es.size=ks.length:=by rw[<-hp.length_eq,length_map,length_toList]
 unfold setAddHashed setAddHashedIn
 refine abm (aaq (aa3 ho hd hf ?_))
 dsimp only
 rw[byScan_of hs hb hel]
 simp only[↓reduceIte]
 unfold setAddByScan
 refine aaq (aaq (aec (aaq (wpAny_setScan_of hk ho hd hf hel ?_))))
 have fi:=zJd hdec hel k
 cases hr:List.findIdx? (λe=>knd.is k e.2) es.toList with
 |some j =>
  have hm:k∈ks:=by
   refine hp.mem_iff.mp (ado λz=>?_)
   rw[fi.mpr z] at hr
   cases hr
  dsimp only
  refine aar (aar ?_)
  have q:=h s.heap false (SameBut.refl a s.heap)
  rw[if_pos hm] at q
  exact q ⟨o,es,ep,t,ho,hx,hd,hel,hp,nd,hb,hf,tb⟩
 |none =>
  have hm:k∉ks:=λz=>fi.mp hr (hp.mem_iff.mpr z)
  dsimp only
  have lp:=layNew_perm t es (knd.hash k) x
  have lf:=layNew_fits t es (knd.hash k) x
  have lt:=Lp tb es (knd.hash k) x
  generalize layNew t es (knd.hash k) x=L at lp lf lt ⊢
  obtain⟨es1,t1,Ti,gave⟩:=L
  dsimp only at lp lf lt ⊢
  rw[Array.toList_push] at lp
  have sz:es1.size=es.size+1:=by rw[<-length_toList,lp.length_eq,length_append,length_toList];rfl
  have hp1:(es1.toList.map λe=>dec e.2).Perm (k::ks):=by
   refine(lp.map _).trans ?_
   rw[map_append]
   show(_++[dec x]).Perm _
   rw[hdec k x hk]
   exact Perm.trans (l₂:=k::es.toList.map λ(e:Int×Value)=>dec e.2) List.perm_append_comm (hp.cons k)
  have fin:∀h',SameBut a s.heap h'->Good knd dec led h' a (k::ks)->Q true { s with heap:=h' }:=λh' sb g'=>by
   have q:=h h' true sb
   rw[if_neg hm] at q
   exact q g'
  have nd1:(k::ks).Nodup:=nodup_cons.mpr ⟨hm,nd⟩
  refine aaq (Zj ?_)
  split
  ·refine aaq ?_
   rw[hashByValue_scannable 8 hs]
   refine aar ?_
   refine zMw (led:=led) (Ti:=Ti) (λb s₁ Q' hq=>Zj hq) ho hx hd ((hel.push hk hs).perm lp) hp1 nd1 (by rw[sz,n];exact room) ?_ ?_ λh' sb g'=>?_
   ·split
    ·exact lf
    ·exact SetTable.fits_plain_off lf
   ·split
    ·exact lt
    ·exact Lq lt
   ·exact aar (fin h' sb g')
  ·refine aaq (aar ?_)
   simp only[↓reduceIte]
   refine zMw (led:=led) (Ti:=Ti) (λb s₁ Q' hq=>Zj hq) ho hx hd ((hel.push hk hs).perm lp) hp1 nd1 (by rw[sz,n];exact room) lf lt λh' sb g'=>?_
   exact aar (fin h' sb g')
end
open PySem PySem.Spec PyProof.Rows
section
variable{κ:Type}[DecidableEq κ]
def met(val:Nat->κ):Nat->List κ
 |0=>[]
 |i+1=>if val i∈met val i then met val i else val i::met val i
theorem zQs(val:Nat->κ):∀i,(met val i).length<=i
 |0=>aau _
 |i+1=>by
  have ih:=zQs val i
  unfold met
  split
  ·omega
  ·rw[length_cons];omega
theorem zQt(val:Nat->κ)(k:κ):∀i,k∈met val i↔∃j,j<i/\val j=k
 |0=>by simp[met]
 |i+1=>by
  have ih:=zQt val k i
  have lt:(∃j,j<i+1/\val j=k)↔(∃j,j<i/\val j=k)\/val i=k:=by
   constructor
   ·rintro⟨j,hj,e⟩
    by_cases q:j=i
    ·subst q;exact .inr e
    ·exact .inl ⟨j,by omega,e⟩
   ·rintro(⟨j,hj,e⟩|e)
    ·exact⟨j,by omega,e⟩
    ·exact⟨i,by omega,e⟩
  rw[lt,<-ih]
  show k∈(if val i∈met val i then met val i else val i::met val i)↔_
  split
  ·rename_i hm
   exact⟨.inl,λh=>h.elim id λe=>e▸hm⟩
  ·rw[mem_cons]
   exact⟨λh=>h.elim (λe=>.inr e.symm) .inl,λh=>h.elim .inr λe=>.inl e.symm⟩
variable{prog:Program}{w:World}{knd:KeyKind prog w κ}{dec:Value->κ}{led:Bool}{A:Around}{R:Result->Shared->Prop}{I:Addr}{fp wr:List Addr}{G:Array GenState->Array GenState->Prop}{n:Nat}{P:Nat->Value->Prop}{St:Nat->Shared->Prop}
theorem Fo(hdec:∀k v,knd.is k v=true->dec v=k)(W:WalksS prog w A.in1 I fp wr G n P St)(S:Addr)(off:S∉fp)(val:Nat->κ)(hval:∀i v,P i v->knd.is (val i) v=true/\v.scannable=true)(hb:n+1<scanBound) :
  ∀(k i:Nat)(s:Shared),n-i=k->i<=n->St i s->Good knd dec led s.heap S (met val i)->(∀s',Moved (S::wr) G s s'->Good knd dec led s'.heap S (met val n)->R (.ok (.ret .none)) s')->codeAny (model prog w) A (.builtin "set.update.loop" ⟨[.ref S,.ref I],[]⟩) R s:=by
 have Tj:S∉wr:=λh=>off (W.sub _ h)
 have sub:∀b∈wr,b∈S::wr:=λb hb=>mem_cons_of_mem _ hb
 intro k
 induction k with
 |zero =>
  intro i s hk hi st g fin
  have e:i=n:=by omega
  subst e
  refine ac7 F.entry_set_update_loop ?_
  rw[acs ad1 _]
  refine aaq (m:=pyNext (.ref I)) (W.done s _ _ st λs' hm=>?_)
  exact aar (fin s' (hm.mono sub) (g.keep λo h=>hm.heap S o Tj h))
 |succ k ih =>
  intro i s hk hi st g fin
  have lt:i<n:=by omega
  refine ac7 F.entry_set_update_loop ?_
  rw[acs ad1 _]
  refine aaq (m:=pyNext (.ref I)) (W.item i s _ _ lt st λv s' hP st' hm=>?_)
  obtain⟨his,hsc⟩:=hval i v hP
  refine aaq (m:=holding [v] (setAdd S v)) (abm ?_)
  unfold setAdd
  refine abm (aaq (knd.pyHash (k:=val i) his ?_))
  refine Wo (led:=led) (s:={ s' with toks:=s'.toks+1 }) hdec his hsc (g.keep λo h=>hm.heap S o Tj h) (by have:=zQs val i;omega) λh' b sb g'=>?_
  refine aar ⟨aef ad1 _,ih (i+1) _ (by omega) lt (W.frame _ s' _ _ st' (acd _) λb hb o e=>?_) g' λs'' hm'' g''=>?_⟩
  ·rw[sb.2 b (λh:b=S=>off (by rw[<-h];exact hb))];exact e
  ·refine fin s'' (Moved.trans W.gtrans ((hm.mono sub).then_heap (acd _) λb o hb e=>?_) hm'') g''
   rw[sb.2 b (λh:b=S=>hb (h▸mem_cons_self))];exact e
end
section
variable{prog:Program}{w:World}{A:Around}{E:Value->Shared->Prop}{s:Shared}
def zV(w:World):Bool:=!w.params.followText "set-order"
theorem zTw(a:Value){Q₁:Value->Shared->Prop}(h:Q₁ (.ref s.heap.objs.size) { s with heap:=s.heap.push { cls:=.type "set",dict:=none,data:=.set #[] 0 (.fresh 0 0 (zV w)) } }) :
  codeAny (model prog w) A (.call (.builtin "set.__new__") ⟨[.type "set",a],[]⟩) (wants Q₁ E) s:=by
 refine codeAny_of_tree (aaq (m:=checkBuiltinCall "set.__new__" ⟨[.type "set",a],[]⟩) (wpAny_of_eq (F.newCall_set_1 a) (aar ⟨aef F.plain_set_new _,ac7 F.entry_set_new ?_⟩)))
 rw[acs F.plain_set_new _]
 unfold Builtin.«set.__new__» Builtin.Frozenset.newClass
 have sub:=aey
 obtain⟨hp,g,d,tk,os⟩:=s
 dsimp only
 wp_walk
 refine adl (aar ?_)
 dsimp only
 simp only[newObj]
 exact aaq (wpAny_alloc (aar (aar h)))
theorem Tn{κ:Type}[DecidableEq κ]{knd:KeyKind prog w κ}{dec:Value->κ}{h:Heap}(e:h.get? a=some { cls:=.type "set",dict:=none,data:=.set #[] 0 (.fresh 0 0 led) }):Good knd dec led h a [] :=
 ⟨_,#[],0,.fresh 0 0 led,e,⟨rfl,rfl,rfl⟩,rfl,λx hx=>by simp at hx,by simp,List.nodup_nil,by show 0<4096;decide,by cases led<;>rfl,zSu led⟩
set_option maxHeartbeats 4000000 in
theorem zUr{κ:Type}[DecidableEq κ]{knd:KeyKind prog w κ}{dec:Value->κ}(hdec:∀k v,knd.is k v=true->dec v=k){Q:Value->Shared->Prop}(val:Nat->κ)(hh:A.handled=none)(hl:s.heap.IsList l items)(hi:∀(i:Nat) (v:Value),items[i]?=some v->knd.is (val i) v=true/\v.scannable=true)(hb:items.size+1<scanBound)(h:∀(h':Heap) (tk:Nat),Good knd dec (zV w) h' s.heap.objs.size (met val items.size)->(∀b o,b<s.heap.objs.size->s.heap.get? b=some o->h'.get? b=some o)->Q (.ref s.heap.objs.size) { s with heap:=h',toks:=tk }) :
  wpAny (model prog w) A (call (.type "set") [.ref l]) Q E s:=by
 obtain⟨c,tl,hmro⟩:=F.called_set.mro
 have hmade:=F.called_set.made
 have hsub:=F.called_set.sub
 refine wpAny_call (codeAny_of_tree (aar ⟨Code.quiet_builtin _ (by decide +kernel),ac7 F.entry_type_call ?_⟩))
 rw[Around.under_plain (weight_type_call_type "set" [.ref l] []) rfl]
 have h1:=F.called_set.notType
 have h2:=F.called_set.canCreate
 have hct:=F.typeCall_set_1 (.ref l)
 repeat(any_goals (first|assumption|wp_step))
 refine adk (zTw (.ref l) (E:=E) (Q₁:=λobj s₁=>obj=.ref s.heap.objs.size/\s₁={ s with heap:=s.heap.push { cls:=.type "set",dict:=none,data:=.set #[] 0 (.fresh 0 0 (zV w)) } }) ⟨rfl,rfl⟩) λr s₁ hr=>?_
 cases r with
 |error e=>exact hr
 |ok fl =>
  cases fl with
  |ret obj =>
   obtain⟨rfl,rfl⟩:=hr
   have hS:(s.heap.push { cls:=.type "set",dict:=none,data:=.set #[] 0 (.fresh 0 0 (zV w)) }).get? s.heap.objs.size=some { cls:=.type "set",dict:=none,data:=.set #[] 0 (.fresh 0 0 (zV w)) }:=get?_push_size _ rfl
   have hT:Shared.TypeIs { s with heap:=s.heap.push { cls:=.type "set",dict:=none,data:=.set #[] 0 (.fresh 0 0 (zV w)) } } (.ref s.heap.objs.size) "set":=⟨_,hS,rfl⟩
   have hli:=F.called_set.init.lookup
   have hbi:=F.called_set.init.bind (.ref s.heap.objs.size)
   repeat(any_goals (first|assumption|wp_step))
   refine adk (codeAny_call_builtin (R:=wants (λr s₂=>r=.none/\∃h' tk,s₂={ s with heap:=h',toks:=tk }/\Good knd dec (zV w) h' s.heap.objs.size (met val items.size)/\(∀b o,b<s.heap.objs.size->s.heap.get? b=some o->h'.get? b=some o)) E)
    F.called_set.init.plain F.entry_set_init (check_set_init_1 hT ?_)) λr₂ s₂ hr₂=>?_
   ·obtain⟨ol,hol,hcl,nl,hdl⟩:=hl
    obtain⟨ocls,odict,odata,oslots⟩:=ol
    simp only at hcl hdl
    subst hcl
    subst hdl
    have hol':(s.heap.push { cls:=.type "set",dict:=none,data:=.set #[] 0 (.fresh 0 0 (zV w)) }).get? l=some { cls:=.type "list",dict:=odict,data:=.seq items nl,slots:=oslots }:=get?_push_of_some _ hol
    have hsls:=F.sub_list_set
    have hslf:=F.sub_list_frozenset
    have hne:(ady "list" == ady "dict")=false:=by decide
    have hl1:(s.heap.push { cls:=.type "set",dict:=none,data:=.set #[] 0 (.fresh 0 0 (zV w)) }).IsList l items:=⟨_,hol',rfl,nl,rfl⟩
    unfold Builtin.«set.__init__» noKeywords ac6
    generalize hPI:pyIter=PI
    wp_walk
    subst hPI
    refine ad8 hl1 (aaq (wpAny_runValue ?_))
    have hlS:l<s.heap.objs.size:=lt_size hol
    have sz:(s.heap.push { cls:=.type "set",dict:=none,data:=.set #[] 0 (.fresh 0 0 (zV w)) }).objs.size=s.heap.objs.size+1:=size_push ..
    have hneI:l≠(s.heap.push { cls:=.type "set",dict:=none,data:=.set #[] 0 (.fresh 0 0 (zV w)) }).objs.size:=by rw[sz];exact aay (ad4 hlS)
    refine Fo (led:=zV w) hdec ((Walks.list (by simp[hh]) _ l hneI items).toS) s.heap.objs.size (by
     rw[sz]
     intro z
     rcases mem_cons.mp z with z|z
     ·exact absurd z (aay (acg _))
     ·exact absurd (mem_singleton.mp z) (adh hlS)) val hi hb (items.size-0) 0 _ (by omega) (abd _) ⟨⟨_,get?_push_size _ rfl,rfl,rfl⟩,hl1.push _⟩ (Tn (get?_push_of_some _ hS)) λs' hm g'=>?_
    obtain⟨h',g1,d1,tk',os1⟩:=s'
    have eg:g1=s.gens:=hm.gens
    have ed:d1=s.drawn:=hm.drawn
    have eo:os1=s.os:=hm.os
    subst eg ed eo
    refine aar ?_
    refine aar ⟨rfl,h',tk',rfl,g',λb o hb e=>hm.heap b o (λz=>?_) (get?_push_of_some _ (get?_push_of_some _ e))⟩
    rcases mem_cons.mp z with z|z
    ·exact absurd z (aay hb)
    ·have z:=mem_singleton.mp z
     rw[sz] at z
     exact absurd z (aay (ad4 hb))
   ·cases r₂ with
    |error e=>exact hr₂
    |ok fl₂ =>
     cases fl₂ with
     |ret r =>
      obtain⟨rfl,h',tk,rfl,hS',hk'⟩:=hr₂
      repeat(any_goals (first|assumption|wp_step))
      exact h _ _ hS' hk'
     |_=>exact hr₂.elim
  |_=>exact hr.elim
end
set_option maxRecDepth 100000
theorem zLt:Manifest.owners.lookup (String.ofList ['r','o','t','a','r','e','t','i','_','t','e','s'].reverse)=some Manifest.sig_set_iterator:=by kernel_rfl
theorem jZ:Slot "set_iterator" "__next__" "set_iterator.__next__":=.of (owner:="set_iterator") (n:="__next__") (by rw[aez,ad9];kernel_rfl) (by decide +kernel) (by decide +kernel) (by decide +kernel) (by first|exact .inl (by decide +kernel)|exact .inr (by decide +kernel)) (by rw[isSubtype_type];kernel_rfl)
theorem zG8:entryFor table "set_iterator.__next__" = some Builtin.«set_iterator.__next__»:=entryFor_of_tree (by kernel_rfl)
theorem zIk(a:Value):argsOk "set_iterator.__next__" ⟨[a],[]⟩:=by unfold argsOk;rw[signature?_of (id:="set_iterator.__next__") (n:=['_','_','t','x','e','n','_','_']) (o:=['r','o','t','a','r','e','t','i','_','t','e','s']) (by kernel_rfl) zLt];kernel_rfl
theorem zPm:Slot "set_iterator" "__iter__" "set_iterator.__iter__":=.of (owner:="set_iterator") (n:="__iter__") (by rw[aez,ad9];kernel_rfl) (by decide +kernel) (by decide +kernel) (by decide +kernel) (by first|exact .inl (by decide +kernel)|exact .inr (by decide +kernel)) (by rw[isSubtype_type];kernel_rfl)
theorem zG9:entryFor table "set_iterator.__iter__" = some Builtin.«dict_keyiterator.__iter__»:=ad6 (id':="dict_keyiterator.__iter__") (by kernel_rfl) rfl (by decide +kernel) (by kernel_rfl)
theorem zIl(a:Value):argsOk "set_iterator.__iter__" ⟨[a],[]⟩:=by unfold argsOk;rw[signature?_of (id:="set_iterator.__iter__") (n:=['_','_','r','e','t','i','_','_']) (o:=['r','o','t','a','r','e','t','i','_','t','e','s']) (by kernel_rfl) zLt];kernel_rfl
theorem zF5:entryFor table "set.__iter__" = some Builtin.«frozenset.__iter__»:=ad6 (id':="frozenset.__iter__") (by kernel_rfl) rfl (by decide +kernel) (by kernel_rfl)
theorem tX:typeLookup (.type "set") "__len__" = pure (some (.builtin "set.__len__")):=by rw[aez,ad9];kernel_rfl
set_option maxRecDepth 100000
section
variable{prog:Program}{w:World}{A:Around}{E:Value->Shared->Prop}{s:Shared}
theorem Wq{α:Type}:∀{l:List α}{i:Nat}(h:i<l.length),(l[i]::l.eraseIdx i).Perm l
 |x::l,0,h=>.refl _
 |x::l,i+1,h=>by
  have hi:i<l.length:=by simpa using h
  have ih:=Wq (l:=l) (i:=i) hi
  show(l[i]::x::l.eraseIdx i).Perm (x::l)
  exact(Perm.swap _ _ _).trans (ih.cons x)
theorem zOv{Q:Nat->Shared->Prop}(hn:0<n)(h:∀i d,i<n->Q i { s with drawn:=d }):wpAny (model prog w) A (choose src n) Q E s :=
 λ_ _ _=>⟨adh hn,h _ _ (afa _ hn)⟩
theorem zRq{α:Type}:∀(n:Nat)(xs:List α)(s:Shared)(Q:List α->Shared->Prop),xs.length=n->(∀ys d,ys.Perm xs->Q ys { s with drawn:=d })->wpAny (model prog w) A (drawOrder n xs) Q E s
 |0,xs,s,Q,hl,h=>by
  have e:xs=[]:=length_eq_zero_iff.mp hl
  subst e
  unfold drawOrder
  exact aar (h [] s.drawn (.refl _))
 |n+1,[],s,Q,hl,h=>by simp at hl
 |n+1,x::xs,s,Q,hl,h=>by
  unfold drawOrder
  refine aaq (zOv (by rw[hl];omega) λi d hi=>?_)
  have e:(x::xs)[i]?=some (x::xs)[i]:=aat hi
  rw[e]
  refine aaq (zRq n _ _ _ (by rw[length_eraseIdx,if_pos hi,hl];rfl) λys d' p=>?_)
  exact aar (h _ d' ((p.cons _).trans (Wq hi)))
theorem zP2{α:Type}(next:Nat->Nat):∀(fuel k:Nat)(left:List α)(out:Array α),left.length=fuel->(afj next fuel k left out).toList.Perm (out.toList++left)
 |0,k,left,out,hl=>by
  have e:left=[]:=length_eq_zero_iff.mp hl
  subst e
  unfold afj
  rw[append_nil]
 |fuel+1,k,left,out,hl=>by
  have hi:next k%left.length<left.length:=afa _ (by omega)
  unfold afj
  rw[aat hi]
  dsimp only
  refine(zP2 next fuel (k+1) _ _ (by rw[length_eraseIdx,if_pos hi,hl];rfl)).trans ?_
  rw[Array.toList_push,append_assoc]
  exact Perm.append_left _ (Wq hi)
theorem PJ{α:Type}(next:Nat->Nat)(xs:Array α):(pickOrder next xs).toList.Perm xs.toList:=by
 have q:=zP2 next xs.size 0 xs.toList #[] (by simp)
 have e:(#[]:Array α).toList++xs.toList=xs.toList:=rfl
 rw[e] at q
 exact q
variable{a it T:Addr}{o:Obj}{es:Array (Int×Value)}{ep:Nat}{t:SetTable}
theorem Lr{Q:Bool->Shared->Prop}(h:Q (w.params.followText "set-order") s):wpAny (model prog w) A setsByText Q E s:=by
 unfold setsByText
 exact aaq (adl (aar h))
theorem zUm{Q:Bool->Shared->Prop}(ho:s.heap.get? a=some o)(hd:o.data=.set es ep t)(hf:t.fits es.size=true)(h:Q (!w.params.followText "set-order" && (!t.plain&&decide (es.size > 1))) s):wpAny (model prog w) A (setDrawn a) Q E s:=by
 unfold setDrawn
 refine aaq (aa3 ho hd hf ?_)
 exact aaq (Lr (aar h))
theorem Wr{Q:Array (Int×Value)->Shared->Prop}(ho:s.heap.get? a=some o)(hd:o.data=.set es ep t)(hf:t.fits es.size=true)(h:Q es s):wpAny (model prog w) A (setEntries a) Q E s:=by
 unfold setEntries
 exact aaq (aa3 ho hd hf (aar h))
theorem zI6{Q:Option (Value×Nat)->Shared->Prop}(ho:s.heap.get? a=some o)(hd:o.data=.set es ep t)(hf:t.fits es.size=true)(hb:w.params.followText "set-order" = true)(h:Q (((pickOrder (w.params.setOrder a ep) es)[i]?).map λe=>(e.2,slot)) s):wpAny (model prog w) A (setNext a slot i ep) Q E s:=by
 unfold setNext
 refine aaq (aa3 ho hd hf ?_)
 refine aaq (Lr ?_)
 rw[hb]
 simp only[↓reduceIte,bne_self_eq_false,aa1]
 refine aaq ?_
 unfold setWalk
 refine aaq (aa3 ho hd hf ?_)
 refine aaq (Lr ?_)
 rw[hb]
 simp only[↓reduceIte]
 refine aaq (adl (aar ?_))
 exact aar h
theorem zGo{Q:Option (Value×Nat)->Shared->Prop}(ho:s.heap.get? a=some o)(hd:o.data=.set es ep t)(hf:t.fits es.size=true)(hb:w.params.followText "set-order" = false)(hl:t.led=true)(hn:(!t.plain&&decide (es.size > 1))=false)(h:Q (match es[below t.place slot]?,t.place[below t.place slot]? with|some (_,x),some j=>some (x,j+1)|_,_=>none) s):wpAny (model prog w) A (setNext a slot i ep) Q E s:=by
 unfold setNext
 refine aaq (aa3 ho hd hf ?_)
 refine aaq (Lr ?_)
 rw[hb]
 simp only[↓reduceIte,aa1]
 show wpAny _ _ (if(!t.plain&&decide (es.size > 1))=true then _ else _) _ _ _
 rw[if_neg (by rw[hn];exact aas)]
 refine aaq ?_
 show wpAny _ _ (if(!t.led&&!es.isEmpty)=true then _ else pure ()) _ _ _
 rw[if_neg (by rw[hl];exact aas)]
 exact aar (aar h)
theorem zN4{Q:Value->Shared->Prop}(ho:s.heap.get? a=some o)(hd:o.data=.set es ep t)(hf:t.fits es.size=true)(hx:es[place]?=some x)(h:Q x.2 s):wpAny (model prog w) A (setNextDrawn a place ep) Q E s:=by
 unfold setNextDrawn
 refine aaq (aa3 ho hd hf ?_)
 simp only[bne_self_eq_false,aa1,↓reduceIte,hx]
 exact aar h
def oZ(first:Value)(i:Nat)(a:Addr)(n ep:Nat):Obj:={ cls:=.type "set_iterator",data:=.fields #[first,.int i 0,.ref a,.int n 0,.int ep 0] }
theorem zT5{Q:Value->Shared->Prop}(ho:s.heap.get? a=some o)(hx:o.ExactSet)(hd:o.data=.set es ep t)(hf:t.fits es.size=true)(h1:(!w.params.followText "set-order" && (!t.plain&&decide (es.size > 1)))=false->Q (.ref s.heap.objs.size) { s with heap:=s.heap.push (oZ (.int 0 0) 0 a es.size ep) })(h2:(!w.params.followText "set-order" && (!t.plain&&decide (es.size > 1)))=true->es.size<=sizeLine/\∀(d:Drawn) (ps:List Nat),ps.Perm (aa5 es.size)->Q (.ref (s.heap.objs.size+1)) { s with drawn:=d,heap:=(s.heap.push { cls:=.type "tuple",data:=.seq (ps.map λ(i:Nat)=>ab8 i 0).toArray }).push (oZ (.ref s.heap.objs.size) 0 a es.size ep) }) :
  wpAny (model prog w) A (pyIter (.ref a)) Q E s:=by
 have hT:s.TypeIs (.ref a) "set":=⟨o,ho,hx.1⟩
 refine wpAny_pyIter_slot hT F.slot_set_iter (ach F.slot_set_iter hT zF5 ?_ (F.args_set_iter_1 _))
 unfold Builtin.«frozenset.__iter__»
 refine aaq (aar ?_)
 refine aaq ?_
 unfold adt
 refine aaq (Wr ho hd hf (aar ?_))
 refine aaq (zUm ho hd hf ?_)
 cases hc:(!w.params.followText "set-order" && (!t.plain&&decide (es.size > 1))) with
 |false =>
  simp only[aa1,↓reduceIte]
  refine aaq (aar ?_)
  refine aaq (aby ho hd hf ?_)
  exact aaq (abx (aar ⟨_,rfl,"set_iterator",_,⟨_,get?_push_size _ rfl,rfl⟩,jZ.lookup,h1 hc⟩))
 |true =>
  obtain⟨hz,h2⟩:=h2 hc
  simp only[↓reduceIte]
  refine aaq (zRq _ _ _ _ (by simp) λps d hp=>?_)
  refine aaq (wpAny_newTuple ?_ (by rw[length_map,hp.length_eq,length_range];exact hz))
  have ho':=get?_push_of_some ({ cls:=.type "tuple",data:=.seq (ps.map λ(i:Nat)=>rawInt i).toArray }:Obj) ho
  refine aaq (aby (s:={ s with drawn:=d,heap:=_ }) ho' hd hf ?_)
  refine aaq (abx (aar ⟨_,rfl,"set_iterator",_,⟨_,get?_push_size _ rfl,rfl⟩,jZ.lookup,?_⟩))
  have q:=h2 d ps hp
  have sz:(s.heap.push ({ cls:=.type "tuple",data:=.seq (ps.map λ(i:Nat)=>ab8 i 0).toArray }:Obj)).objs.size=s.heap.objs.size+1:=size_push ..
  rw[<-sz] at q
  exact q
end
set_option maxRecDepth 100000
section
variable{prog:Program}{w:World}{A:Around}{E:Value->Shared->Prop}{s:Shared}{a it T:Addr}{o:Obj}{es:Array (Int×Value)}{ep:Nat}{t:SetTable}{i:Nat}{first:Value}
theorem Ws{Q:Option Value->Shared->Prop}(hi:s.heap.get? it=some (oZ first i a es.size ep))(ho:s.heap.get? a=some o)(hd:o.data=.set es ep t)(hf:t.fits es.size=true)(h:wpAny (model prog w) A.in1 (if let .int slot _:=first then do
    match <-setNext a slot.toNat (i:Int).toNat (ep:Int).toNat with
    |some (x,next) =>
     setField (.ref it) 0 (rawInt next)
     setField (.ref it) 1 (rawInt ((i:Int)+1))
     ret x
    |none=>setField (.ref it) 2 .none;raiseNew (<-newExc (.type "StopIteration") [])
   else do
    let some places <-seqItems? first|unsupported "internal:set_iterator"
    match places[(i:Int).toNat]? with
    |some (.int place _) =>
     let x <-setNextDrawn a place.toNat (ep:Int).toNat
     setField (.ref it) 1 (rawInt ((i:Int)+1))
     ret x
    |some _=>unsupported "internal:set_iterator"
    |none=>setField (.ref it) 0 (rawInt 0);setField (.ref it) 2 .none;raiseNew (<-newExc (.type "StopIteration") []))
   (λfin s'=>∃v,fin=.done (.ret v)/\Q (some v) s')
   (λe s'=>s'.TypeIs e "StopIteration" /\ Q none s') s):wpAny (model prog w) A (pyNext (.ref it)) Q E s:=by
 have hT:s.TypeIs (.ref it) "set_iterator":=⟨_,hi,rfl⟩
 unfold pyNext
 refine aaq (wpAny_attempt (wpAny_callSpecial?_slot (name:=adi "__next__") hT jZ (ach jZ hT zG8 ?_ (zIk _))))
 unfold Builtin.«set_iterator.__next__»
 refine aaq (aar ?_)
 refine aaq (wpAny_fieldsOf hi rfl ?_)
 dsimp only
 refine aaq (Wr ho hd hf ?_)
 rw[if_neg (by simp)]
 exact ab9 h (λfin s' ⟨v,e,q⟩=>⟨v,e,aar q⟩) λe s' ⟨ty,q⟩=>aaq (aeb (T:="StopIteration") (b:=true) ty isSubtype_stop (aar q))
theorem zPf{α:Type}{Q:α->Shared->Prop}{E':Value->Shared->Prop}(hh:A.handled=none)(h:∀(e:Value) (h':Heap),(∀b u,s.heap.get? b=some u->h'.get? b=some u)->({ s with heap:=h' }:Shared).TypeIs e "StopIteration"->E' e { s with heap:=h' }) :
  wpAny (model prog w) A (newExc (.type "StopIteration") [] >>= λe=>(raiseNew e:Sem α)) Q E' s:=by
 refine aaq ?_
 simp only[newExc,newTuple]
 refine aaq (abx (aaq (m:=firstArgMember _ _) (wpAny_of_eq (a:=adb) (by first|rfl|(simp only[firstArgMember];rfl)) (abx ?_ (by size_fits)))) (by size_fits))
 simp only[raiseNew]
 refine aaq (wpAny_handled ?_)
 rw[hh]
 refine aaq (aar (wpAny_throw ?_))
 refine h _ _ (λb u e=>get?_push_of_some _ (get?_push_of_some _ e)) ?_
 exact⟨_,get?_push_size _ rfl,rfl⟩
theorem Wt{f:Obj->Obj}(hi:s.heap.get? it=some u)(hn:(f u).isFreed=false):(s.heap.update it f).get? it=some (f u):=get?_update_self f hi hn
theorem PK(hb:b≠it)(e:s.heap.get? b=some u):(s.heap.update it f).get? b=some u:=(get?_update_other _ _ (aco hb)).trans e
theorem zGp{Q:Option Value->Shared->Prop}{slot next:Nat}{tk:Tok}{x:Value}(hi:s.heap.get? it=some (oZ (.int slot tk) i a es.size ep))(ho:s.heap.get? a=some o)(hd:o.data=.set es ep t)(hf:t.fits es.size=true)(hs:∀(R:Option (Value×Nat)->Shared->Prop) (E':Value->Shared->Prop),R (some (x,next)) s->wpAny (model prog w) A.in1 (setNext a slot i ep) R E' s)(h:∀h',h'.get? it=some (oZ (.int next 0) (i+1) a es.size ep)->(∀b u,b≠it->s.heap.get? b=some u->h'.get? b=some u)->Q (some x) { s with heap:=h' }):wpAny (model prog w) A (pyNext (.ref it)) Q E s:=by
 refine Ws hi ho hd hf ?_
 dsimp only
 refine aaq (hs _ _ ?_)
 dsimp only
 refine aaq (adf hi rfl (by simp) ?_)
 have h1:=Wt (f:=aer (·.setIfInBounds 0 (rawInt next))) hi rfl
 refine aaq (adf (s:={ s with heap:=_ }) h1 rfl (by simp) ?_)
 have h2:=Wt (s:={ s with heap:=_ }) (f:=aer (·.setIfInBounds 1 (rawInt ((i:Int)+1)))) h1 rfl
 exact aar ⟨x,rfl,h _ h2 λb u hb e=>PK (s:={ s with heap:=_ }) hb (PK hb e)⟩
theorem zJm{Q:Option Value->Shared->Prop}{slot:Nat}{tk:Tok}(hh:A.handled=none)(hi:s.heap.get? it=some (oZ (.int slot tk) i a es.size ep))(ho:s.heap.get? a=some o)(hd:o.data=.set es ep t)(hf:t.fits es.size=true)(hs:∀(R:Option (Value×Nat)->Shared->Prop) (E':Value->Shared->Prop),R none s->wpAny (model prog w) A.in1 (setNext a slot i ep) R E' s)(h:∀h',(∀b u,b≠it->s.heap.get? b=some u->h'.get? b=some u)->Q none { s with heap:=h' }):wpAny (model prog w) A (pyNext (.ref it)) Q E s:=by
 refine Ws hi ho hd hf ?_
 dsimp only
 refine aaq (hs _ _ ?_)
 dsimp only
 refine aaq (adf hi rfl (by simp) ?_)
 exact zPf (s:={ s with heap:=_ }) (by simp[hh]) λe h' k ty=>⟨ty,h h' λb u hb e=>k b u (PK hb e)⟩
theorem zN9{Q:Option Value->Shared->Prop}{ps:List Nat}(hi:s.heap.get? it=some (oZ (.ref T) i a es.size ep))(ho:s.heap.get? a=some o)(hd:o.data=.set es ep t)(hf:t.fits es.size=true)(hT:s.heap.get? T=some { cls:=.type "tuple",data:=.seq (ps.map λ(i:Nat)=>ab8 i 0).toArray })(hp:ps[i]?=some place)(hx:es[place]?=some x)(h:∀h',h'.get? it=some (oZ (.ref T) (i+1) a es.size ep)->(∀b u,b≠it->s.heap.get? b=some u->h'.get? b=some u)->Q (some x.2) { s with heap:=h' }):wpAny (model prog w) A (pyNext (.ref it)) Q E s:=by
 refine Ws hi ho hd hf ?_
 dsimp only
 refine aaq (wpAny_seqItems hT rfl ?_)
 have e:((ps.map λ(i:Nat)=>ab8 i 0).toArray)[(i:Int).toNat]?=some (.int (place:Nat) 0):=by
  rw[abu,getElem?_toArray,getElem?_map,hp]
  rfl
 dsimp only
 rw[e]
 dsimp only
 refine aaq (zN4 ho hd hf (x:=x) (by rw[abu];exact hx) ?_)
 refine aaq (adf hi rfl (by simp) ?_)
 have h1:=Wt (f:=aer (·.setIfInBounds 1 (rawInt ((i:Int)+1)))) hi rfl
 exact aar ⟨x.2,rfl,h _ h1 λb u hb e=>PK hb e⟩
theorem zRo{Q:Option Value->Shared->Prop}{ps:List Nat}(hh:A.handled=none)(hi:s.heap.get? it=some (oZ (.ref T) i a es.size ep))(ho:s.heap.get? a=some o)(hd:o.data=.set es ep t)(hf:t.fits es.size=true)(hT:s.heap.get? T=some { cls:=.type "tuple",data:=.seq (ps.map λ(i:Nat)=>ab8 i 0).toArray })(hp:ps[i]?=none)(h:∀h',(∀b u,b≠it->s.heap.get? b=some u->h'.get? b=some u)->Q none { s with heap:=h' }):wpAny (model prog w) A (pyNext (.ref it)) Q E s:=by
 refine Ws hi ho hd hf ?_
 dsimp only
 refine aaq (wpAny_seqItems hT rfl ?_)
 have e:((ps.map λ(i:Nat)=>ab8 i 0).toArray)[(i:Int).toNat]?=none:=by
  rw[abu,getElem?_toArray,getElem?_map,hp]
  rfl
 dsimp only
 rw[e]
 dsimp only
 refine aaq (adf hi rfl (by simp) ?_)
 have h1:=Wt (f:=aer (·.setIfInBounds 0 (rawInt 0))) hi rfl
 refine aaq (adf (s:={ s with heap:=_ }) h1 rfl (by simp) ?_)
 exact zPf (s:={ s with heap:=_ }) (by simp[hh]) λe h' k ty=>⟨ty,h h' λb u hb e=>k b u (PK (s:={ s with heap:=_ }) hb (PK hb e))⟩
end
set_option maxRecDepth 100000
section
variable{prog:Program}{w:World}{A:Around}{E:Value->Shared->Prop}{s:Shared}{a it T:Addr}{o:Obj}{es:Array (Int×Value)}{ep:Nat}{t:SetTable}
theorem Zk{Q:Value->Shared->Prop}(hi:s.heap.get? it=some (oZ first i a n ep))(h:Q (.ref it) s):wpAny (model prog w) A (pyIter (.ref it)) Q E s:=by
 have hT:s.TypeIs (.ref it) "set_iterator":=⟨_,hi,rfl⟩
 refine wpAny_pyIter_slot hT zPm (ach zPm hT zG9 ?_ (zIl _))
 refine aaq (aar ?_)
 exact aar ⟨_,rfl,"set_iterator",_,hT,jZ.lookup,h⟩
theorem Tp(hf:t.fits es.size=true):t.place.size=es.size:=by
 unfold fits at hf
 rw[aav] at hf
 exact abz hf.1
theorem zOt(hr:Rz xs):below xs 0=0:=by
 obtain⟨b1,b2,b3⟩:=Zh hr 0
 cases e:below xs 0 with
 |zero=>rfl
 |succ k =>
  rw[e] at b1 b2
  have h0:0<xs.size:=by omega
  exact absurd (b2 0 _ (aew k) (aax h0)) (acq _)
theorem zOu(hr:Rz xs)(h:xs[i]?=some j):below xs (j+1)=i+1:=by
 obtain⟨b1,b2,b3⟩:=Zh hr (j+1)
 generalize below xs (j+1)=p at *
 have hi:i<xs.size:=by
  by_cases z:i<xs.size
  ·exact z
  ·rw[abp (by omega)] at h;cases h
 have h1:i<p:=by
  by_cases z:i<p
  ·exact z
  ·have:=b3 i j (by omega) h;omega
 by_cases z:p=i+1
 ·exact z
 ·have hp:i+1<xs.size:=by omega
  have q1:=b2 (i+1) _ (by omega) (aax hp)
  have q2:=hr i (i+1) j _ (by omega) h (aax hp)
  omega
theorem zTb{xs:Array Nat}(h:xs.size<=1):Rz xs:=λi k a b hik ha hb=>by
 rw[abp (by omega)] at hb
 cases hb
theorem zM5(hh:A.handled=none)(hne:a≠it)(hd:o.data=.set es ep t)(hf:t.fits es.size=true)(hb:w.params.followText "set-order" = false)(hl:t.led=true)(hn:(!t.plain&&decide (es.size > 1))=false)(hr:Rz t.place) :
  Walks prog w A it [it,a] [it] es.size (λi v=>(es.toList.map (·.2))[i]?=some v) (λi h=>h.get? a=some o/\∃(slot:Nat)(tk:Tok),h.get? it=some (oZ (.int slot tk) i a es.size ep)/\below t.place slot=i) where
 sub:=λb hb=>by simp at hb;simp[hb]
 frame:=λi h h' ⟨h1,slot,tk,h2,h3⟩ k=>⟨k a (by simp) _ h1,slot,tk,k it (by simp) _ h2,h3⟩
 item:=λi s Q E hi ⟨h1,slot,tk,h2,h3⟩ hQ=>by
  have hp:i<t.place.size:=by rw[Tp hf];exact hi
  refine zGp (x:=es[i].2) (next:=t.place[i]+1) h2 h1 hd hf (λR E' hR=>zGo h1 hd hf hb hl hn ?_) λh' hi' k=>?_
  ·rw[h3,aax hi,aax hp]
   exact hR
  ·refine hQ _ h' s.toks (by simp[hi]) ⟨k a o hne h1,_,_,hi',zOu hr (aax hp)⟩ λb u hb e=>k b u (λz=>hb (by simp[z])) e
 done:=λs Q E ⟨h1,slot,tk,h2,h3⟩ hQ=>by
  refine zJm hh h2 h1 hd hf (λR E' hR=>zGo h1 hd hf hb hl hn ?_) λh' k=>hQ h' s.toks λb u hb e=>k b u (λz=>hb (by simp[z])) e
  rw[h3,abp (aau _)]
  exact hR
 self:=λi s Q E ⟨h1,slot,tk,h2,h3⟩ hQ=>Zk h2 hQ
theorem zOz(hh:A.handled=none)(hne:a≠it)(hd:o.data=.set es ep t)(hf:t.fits es.size=true)(hb:w.params.followText "set-order" = true) :
  Walks prog w A it [it,a] [it] es.size (λi v=>((pickOrder (w.params.setOrder a ep) es).toList.map (·.2))[i]?=some v) (λi h=>h.get? a=some o/\∃(slot:Nat)(tk:Tok),h.get? it=some (oZ (.int slot tk) i a es.size ep)) where
 sub:=λb hb=>by simp at hb;simp[hb]
 frame:=λi h h' ⟨h1,slot,tk,h2⟩ k=>⟨k a (by simp) _ h1,slot,tk,k it (by simp) _ h2⟩
 item:=λi s Q E hi ⟨h1,slot,tk,h2⟩ hQ=>by
  have hz:i<(pickOrder (w.params.setOrder a ep) es).size:=by rw[<-length_toList,(PJ _ es).length_eq,length_toList];exact hi
  refine zGp (x:=(pickOrder (w.params.setOrder a ep) es)[i].2) (next:=slot) h2 h1 hd hf (λR E' hR=>zI6 h1 hd hf hb ?_) λh' hi' k=>?_
  ·rw[aax hz]
   exact hR
  ·refine hQ _ h' s.toks (by simp[hz]) ⟨k a o hne h1,_,_,hi'⟩ λb u hb e=>k b u (λz=>hb (by simp[z])) e
 done:=λs Q E ⟨h1,slot,tk,h2⟩ hQ=>by
  have hz:(pickOrder (w.params.setOrder a ep) es).size=es.size:=by rw[<-length_toList,(PJ _ es).length_eq,length_toList]
  refine zJm hh h2 h1 hd hf (λR E' hR=>zI6 h1 hd hf hb ?_) λh' k=>hQ h' s.toks λb u hb e=>k b u (λz=>hb (by simp[z])) e
  rw[abp (by rw[hz];exact aau _)]
  exact hR
 self:=λi s Q E ⟨h1,slot,tk,h2⟩ hQ=>Zk h2 hQ
theorem zM6{ps:List Nat}(hh:A.handled=none)(hne:a≠it)(hnT:T≠it)(hd:o.data=.set es ep t)(hf:t.fits es.size=true)(hp:ps.Perm (aa5 es.size)) :
  Walks prog w A it [it,a,T] [it] es.size (λi v=>(ps.map λp=>((es[p]?).map (·.2)).getD .none)[i]?=some v)
   (λi h=>h.get? a=some o/\h.get? T=some { cls:=.type "tuple",data:=.seq (ps.map λ(i:Nat)=>ab8 i 0).toArray }/\h.get? it=some (oZ (.ref T) i a es.size ep)) where
 sub:=λb hb=>by simp at hb;simp[hb]
 frame:=λi h h' ⟨h1,h2,h3⟩ k=>⟨k a (by simp) _ h1,k T (by simp) _ h2,k it (by simp) _ h3⟩
 item:=λi s Q E hi ⟨h1,h2,h3⟩ hQ=>by
  have hl:ps.length=es.size:=by rw[hp.length_eq,length_range]
  have hi':i<ps.length:=by omega
  have hm:ps[i]<es.size:=mem_range.mp (hp.mem_iff.mp (getElem_mem hi'))
  refine zN9 (place:=ps[i]) (x:=es[ps[i]]) h3 h1 hd hf h2 (aat hi') (aax hm) λh' hi' k=>?_
  refine hQ _ h' s.toks ?_ ⟨k a o hne h1,k T _ hnT h2,hi'⟩ λb u hb e=>k b u (λz=>hb (by simp[z])) e
  rw[getElem?_map,aat (by omega),Option.map_some,aax hm]
  rfl
 done:=λs Q E ⟨h1,h2,h3⟩ hQ=>by
  have hl:ps.length=es.size:=by rw[hp.length_eq,length_range]
  exact zRo hh h3 h1 hd hf h2 (abk (by omega)) λh' k=>hQ h' s.toks λb u hb e=>k b u (λz=>hb (by simp[z])) e
 self:=λi s Q E ⟨h1,h2,h3⟩ hQ=>Zk h3 hQ
end
set_option maxRecDepth 100000
section
variable{prog:Program}{w:World}{A:Around}{E:Value->Shared->Prop}{s:Shared}{a it T:Addr}{o:Obj}{es:Array (Int×Value)}{ep:Nat}{t:SetTable}
theorem zT9{Q:Bool->Shared->Prop}(hT:s.TypeIs (.ref a) "set")(h:Q false s):wpAny (model prog w) A (ac9 (.ref a)) Q E s:=by
 unfold ac9
 refine aaq (wpAny_specialOf hT F.slot_set_len.lookup ?_)
 generalize hid:("set.__len__":String)=id0
 wp_delta
 rw[show splitId id0=some ("set","__len__") from by subst hid;decide +kernel]
 subst hid
 refine aaq (aeb (T:="set") (b:=true) hT aey (ae0 (λhab=>absurd hab (by decide)) λ_=>ae0 (λ_=>aaq (afl hT (aar h))) λhab=>absurd (by decide +kernel) hab))
theorem zQu{R:Result->Shared->Prop}{P:Nat->Value->Prop}{St:Nat->Heap->Prop}(W:Walks prog w A.in1 it fp [it] n P St)(hn:n<=sizeLine)(off:S∉fp)(st:St 0 s.heap)(hS:s.heap.get? S=some { cls:=.type "list",data:=.seq #[] c₁ })(hR:∀h' tk acc c',(∀b u,b≠S->b≠it->s.heap.get? b=some u->h'.get? b=some u)->h'.get? S=some { cls:=.type "list",dict:=none,data:=.seq acc c',slots:=#[] }->ItemsOf P acc n->R (.ok (.ret res)) { s with heap:=h',toks:=tk }) :
  codeAny (model prog w) A (.builtin "list.extend.loop" ⟨[.ref S,.ref it,res],[]⟩) R s:=by
 refine codeAny_extend_loopS W.toS hn S off res n 0 _ #[] c₁ rfl (abd _) st hS (ItemsOf.nil _) λs' acc c' hm hS' hacc=>?_
 rw[Moved.eq_with hm]
 refine hR s'.heap s'.toks acc c' (λb u h1 h2 e=>hm.heap b u (λz=>?_) e) hS' hacc
 rcases mem_cons.mp z with z|z
 ·exact h1 z
 ·exact h2 (mem_singleton.mp z)
theorem Zm{R:Result->Shared->Prop}{P:Nat->Value->Prop}{St:Nat->Heap->Prop}(W:Walks prog w A.in1 it fp [it] n P St)(hn:n<=sizeLine)(off:S∉fp)(hT:s.TypeIs (.ref a) "set")(st:St 0 s.heap)(hS:s.heap.get? S=some { cls:=.type "list",data:=.seq #[] c₀ })(hR:∀h' tk acc c',(∀b u,b≠S->b≠it->s.heap.get? b=some u->h'.get? b=some u)->h'.get? S=some { cls:=.type "list",dict:=none,data:=.seq acc c',slots:=#[] }->ItemsOf P acc n->R (.ok (.ret res)) { s with heap:=h',toks:=tk }) :
  wpAny (model prog w) A.in1 (holding [.ref it] (ac9 (.ref a)) >>= λroom=>if(room||b)=true then(rule "list.extend.makes-room" >>= λ_=>Builtin.List.listTouch (.ref S) >>= λ_=>again (.builtin "list.extend.loop" ⟨[.ref S,.ref it,res],[]⟩)) else again (.builtin "list.extend.loop" ⟨[.ref S,.ref it,res],[]⟩))
   (λfin s'=>match fin with|.done f=>R (.ok f) s'|.again c'=>c'.quiet=true/\codeAny (model prog w) A c' R s') (λe s'=>R (.error e) s') s:=by
 refine aaq (abm (zT9 hT ?_))
 refine ae0 (λ_=>?_) λ_=>aar ⟨aef F.plain_extend_loop _,zQu W hn off st hS hR⟩
 refine aaq (aec ?_)
 refine aaq ?_
 show wpAny _ _ (updateSeq S (·.push .none) >>= λ_=>updateSeq S (·.pop)) _ _ _
 refine aaq (wpAny_updateSeq hS rfl ?_)
 have hS2:=get?_update_self (ac5 (·.push adb)) hS rfl
 refine wpAny_updateSeq (hz:=by seq_fits) hS2 rfl ?_
 have hS3:=get?_update_self (ac5 (·.pop)) hS2 rfl
 have keep:∀c u,c≠S->s.heap.get? c=some u->((s.heap.update S (ac5 (·.push adb))).update S (ac5 (·.pop))).get? c=some u:=λc u hc e=>(get?_update_other _ _ (aco hc)).trans ((get?_update_other _ _ (aco hc)).trans e)
 refine aar ⟨aef F.plain_extend_loop _,zQu (s:={ s with heap:=_ }) W hn off (W.frame 0 _ _ st λc hc u e=>keep c u (λz=>off (z▸hc)) e) hS3 λh' tk acc c' k h1 h2=>hR h' tk acc c' (λc u n1 n2 e=>k c u n1 n2 (keep c u n1 e)) h1 h2⟩
theorem Zn(h:ItemsOf (λi v=>ord[i]?=some v) acc n)(hl:ord.length=n):acc.toList=ord:=by
 apply ext_getElem?
 intro i
 rw[getElem?_toList]
 by_cases hi:i<acc.size
 ·rw[aax hi]
  exact(h.2 i _ (aax hi)).symm
 ·rw[abp (by omega),abk (by rw[hl,<-h.1];omega)]
theorem zNv(es:Array (Int×Value)):(aa5 es.size).map (λp=>((es[p]?).map (·.2)).getD adb)=es.toList.map (·.2):=by
 apply List.ext_getElem (by simp)
 intro i h1 h2
 have hi:i<es.size:=by simpa using h1
 simp[hi]
theorem zOj{R:Result->Shared->Prop}(hh:A.handled=none)(ho:s.heap.get? a=some o)(hx:o.ExactSet)(hd:o.data=.set es ep t)(hf:t.fits es.size=true)(tb:Tb (zV w) t)(hz:es.size<=sizeLine)(Zo:S≠a)(hS:s.heap.get? S=some { cls:=.type "list",data:=.seq #[] c₀ })(hR:∀h' tk d acc c',(∀b u,b≠S->s.heap.get? b=some u->h'.get? b=some u)->h'.get? S=some { cls:=.type "list",dict:=none,data:=.seq acc c',slots:=#[] }->acc.toList.Perm (es.toList.map (·.2))->R (.ok (.ret res)) { s with heap:=h',toks:=tk,drawn:=d }) :
  wpAny (model prog w) A.in1 (Builtin.List.listExtendWith (.ref S) (.ref a) res)
   (λfin s'=>match fin with|.done f=>R (.ok f) s'|.again c'=>c'.quiet=true/\codeAny (model prog w) A c' R s') (λe s'=>R (.error e) s') s:=by
 have hT:s.TypeIs (.ref a) "set":=⟨o,ho,hx.1⟩
 have lta:a<s.heap.objs.size:=lt_size ho
 have ltS:S<s.heap.objs.size:=lt_size hS
 have hi:A.in1.handled=none:=by simp[hh]
 unfold Builtin.List.listExtendWith
 refine aaq (afl hT ?_)
 have h1:Builtin.List.listSameRef (.ref S) (.ref a)=false:=by simp[Builtin.List.listSameRef,Zo]
 simp only[h1,show(ady "set" == ady "list")=false by decide,show(ady "set" == ady "tuple")=false by decide,Bool.or_false,aa1,if_false]
 have old:∀{b:Addr}{u:Obj}{n:Nat},s.heap.get? b=some u->s.heap.objs.size<=n->b≠n:=λe hn z=>absurd (lt_size e) (by rw[z];exact Nat.not_lt_of_le hn)
 refine aaq (zT5 ho hx hd hf (λhc=>?_) λhc=>⟨hz,λd ps hp=>?_⟩)
 ·have hS':=get?_push_of_some (oZ (.int 0 0) 0 a es.size ep) hS
  have ho':=get?_push_of_some (oZ (.int 0 0) 0 a es.size ep) ho
  have hI:(s.heap.push (oZ (.int 0 0) 0 a es.size ep)).get? s.heap.objs.size=some (oZ (.int 0 0) 0 a es.size ep):=get?_push_size _ rfl
  have off:S∉[s.heap.objs.size,a]:=λz=>by
   rcases mem_cons.mp z with z|z
   ·exact old hS (aau _) z
   ·exact Zo (mem_singleton.mp z)
  have hne:a≠s.heap.objs.size:=old ho (aau _)
  cases hb:w.params.followText "set-order" with
  |true =>
   refine Zm (s:={ s with heap:=_ }) (zOz hi hne hd hf hb) hz off ⟨o,ho',hx.1⟩ ⟨ho',0,0,hI⟩ hS' λh' tk acc c' k h2 h3=>?_
   refine hR h' tk s.drawn acc c' (λb u n e=>k b u n (old e (aau _)) (get?_push_of_some _ e)) h2 ?_
   rw[Zn h3 (by rw[length_map,(PJ _ es).length_eq,length_toList])]
   exact(PJ _ es).map _
  |false =>
   have hl:t.led=true:=by rw[tb.led];unfold zV;rw[hb];rfl
   have hn:(!t.plain&&decide (es.size > 1))=false:=by rw[hb] at hc;exact hc
   have hr:Rz t.place:=by
    cases hp:t.plain with
    |true=>exact tb.rz hp
    |false =>
     rw[hp] at hn
     refine zTb ?_
     rw[Tp hf]
     have:¬es.size > 1:=of_decide_eq_false (by simpa using hn)
     omega
   refine Zm (s:={ s with heap:=_ }) (zM5 hi hne hd hf hb hl hn hr) hz off ⟨o,ho',hx.1⟩ ⟨ho',0,0,hI,zOt hr⟩ hS' λh' tk acc c' k h2 h3=>?_
   refine hR h' tk s.drawn acc c' (λb u n e=>k b u n (old e (aau _)) (get?_push_of_some _ e)) h2 ?_
   rw[Zn h3 (by rw[length_map,length_toList])]
 ·have e0:∀{b:Addr}{u:Obj},s.heap.get? b=some u->((s.heap.push { cls:=.type "tuple",data:=.seq (ps.map λ(i:Nat)=>ab8 i 0).toArray }).push (oZ (.ref s.heap.objs.size) 0 a es.size ep)).get? b=some u:=λe=>get?_push_of_some _ (get?_push_of_some _ e)
  have sz:(s.heap.push ({ cls:=.type "tuple",data:=.seq (ps.map λ(i:Nat)=>ab8 i 0).toArray }:Obj)).objs.size=s.heap.objs.size+1:=size_push ..
  have hI:((s.heap.push { cls:=.type "tuple",data:=.seq (ps.map λ(i:Nat)=>ab8 i 0).toArray }).push (oZ (.ref s.heap.objs.size) 0 a es.size ep)).get? (s.heap.objs.size+1)=some (oZ (.ref s.heap.objs.size) 0 a es.size ep):=by
   rw[<-sz];exact get?_push_size _ rfl
  have hTT:((s.heap.push { cls:=.type "tuple",data:=.seq (ps.map λ(i:Nat)=>ab8 i 0).toArray }).push (oZ (.ref s.heap.objs.size) 0 a es.size ep)).get? s.heap.objs.size=some { cls:=.type "tuple",data:=.seq (ps.map λ(i:Nat)=>ab8 i 0).toArray }:=get?_push_of_some _ (get?_push_size _ rfl)
  have off:S∉[s.heap.objs.size+1,a,s.heap.objs.size]:=λz=>by
   rcases mem_cons.mp z with z|z
   ·exact old hS (acd _) z
   ·rcases mem_cons.mp z with z|z
    ·exact Zo z
    ·exact old hS (aau _) (mem_singleton.mp z)
  refine Zm (s:={ s with drawn:=d,heap:=_ }) (zM6 hi (old ho (acd _)) (aay (acg _)) hd hf hp) hz off ⟨o,e0 ho,hx.1⟩ ⟨e0 ho,hTT,hI⟩ (e0 hS) λh' tk acc c' k h2 h3=>?_
  refine hR h' tk d acc c' (λb u n e=>k b u n (old e (acd _)) (e0 e)) h2 ?_
  rw[Zn h3 (by rw[length_map,hp.length_eq,length_range])]
  have e1:=zNv es
  rw[<-e1]
  exact hp.map _
theorem zLg{R:List Value->Shared->Prop}(hh:A.handled=none)(ho:s.heap.get? a=some o)(hx:o.ExactSet)(hd:o.data=.set es ep t)(hf:t.fits es.size=true)(tb:Tb (zV w) t)(hz:es.size<=sizeLine)(h:∀h' tk d (acc:List Value),(∀b u,s.heap.get? b=some u->h'.get? b=some u)->acc.Perm (es.toList.map (·.2))->R acc { s with heap:=h',toks:=tk,drawn:=d }) :
  wpAny (model prog w) A (collect (.ref a)) R E s:=by
 have lt:a<s.heap.objs.size:=lt_size ho
 unfold collect
 refine aaq (wpAny_runValue (ac7 entry_proto_collect' ?_))
 rw[acs F.plain_proto_collect _]
 refine aaq (m:=newList []) (abx (aar ⟨aef F.plain_list_iadd _,ac7 entry_list_iadd' ?_⟩))
 rw[acs F.plain_list_iadd _]
 have hS:(s.heap.push { cls:=.type "list",data:=.seq ([]:List Value).toArray }).get? s.heap.objs.size=some { cls:=.type "list",data:=.seq #[] }:=get?_push_size _ rfl
 have key:=zOj (prog:=prog) (A:=A) (S:=s.heap.objs.size) (res:=.ref s.heap.objs.size) (s:={ s with heap:=s.heap.push { cls:=.type "list",data:=.seq ([]:List Value).toArray } })
  (R:=λ(q:Result) (s':Shared)=>∃(h':Heap)(tk:Nat)(d:Drawn)(acc:Array Value)(c':Nat),q=.ok (.ret (.ref s.heap.objs.size))/\s'={ s with heap:=h',toks:=tk,drawn:=d }/\(∀b u,s.heap.get? b=some u->h'.get? b=some u) /\
   h'.get? s.heap.objs.size=some { cls:=.type "list",dict:=none,data:=.seq acc c',slots:=#[] }/\acc.toList.Perm (es.toList.map (·.2)))
  hh (get?_push_of_some _ ho) hx hd hf tb hz (adh lt) hS λh' tk d acc c' k h1 h2=>⟨h',tk,d,acc,c',rfl,rfl,λb u e=>k b u (aay (lt_size e)) (get?_push_of_some _ e),h1,h2⟩
 refine ab9 key (λfin s' x=>?_) λe s' x=>?_
 ·cases fin with
  |done f =>
   obtain⟨h',tk,d,acc,c',e,rfl,k,h1,h2⟩:=x
   cases e
   refine aaq (m:=load s.heap.objs.size) (wpAny_load h1 ?_)
   exact aar (h h' tk d acc.toList k h2)
  |again c1 =>
   refine⟨x.1,adk x.2 λq s2 y=>?_⟩
   obtain⟨h',tk,d,acc,c',rfl,rfl,k,h1,h2⟩:=y
   refine aaq (m:=load s.heap.objs.size) (wpAny_load h1 ?_)
   exact aar (h h' tk d acc.toList k h2)
 ·obtain⟨_,_,_,_,_,e',_⟩:=x
  cases e'
end
end qU
namespace L2
open PySem PySem.Spec PyProof.Rows qU
def qW:Value->Int
 |.int k _=>k
 |_=>0
theorem Wu:∀k v,(intKind P w).is k v=true->qW v=k:=λk v h=>by
 obtain⟨t,rfl⟩:=acz h
 rfl
theorem Inv.drew(I:Inv X pins σ H s)(d:Drawn):Inv X pins σ H { s with drawn:=d }:=⟨I.ok,I.os,I.bare,I.base,I.loc,I.cell,I.free,I.g8,I.pin,I.hok,I.len⟩
abbrev Fp:=St->Hp->(LI->Hp->Prop)->Prop
def StP(X:Cx)(pins:List (Addr×Obj))(σ:St)(Q:LI->Hp->Prop)(v:Value)(s':Shared):Prop :=
 ∃(a:Addr)(ks:LI)(H':Hp),v=.ref a/\Inv X pins σ H' s'/\Good (intKind X.prog X.w) qW (zV X.w) s'.heap a ks/\lU X pins H' a/\Q ks H'
def Az(X:Cx)(e:Expr)(t:Fp):Prop:=∀(pins:List (Addr×Obj))(s:Shared)(σ:St)(H:Hp)(Q:LI->Hp->Prop),Inv X pins σ H s->t σ H Q->wpAny (model X.prog X.w) X.A (eval e X.env) (StP X pins σ Q) X.xe s
section
variable{X:Cx}
theorem zV1:∀{ns:LI}{its:List Value},IntsAre its ns->∀{i:Nat}{v:Value},its[i]?=some v->∃t,v=.int (ns.getD i 0) t
 |_,_,.nil,i,v,h=>by simp at h
 |_,_,.cons n t r,0,v,h=>by simp at h;subst h;exact⟨t,rfl⟩
 |_,_,.cons n t r,i+1,v,h=>by
  obtain⟨t',e⟩:=zV1 r (by simpa using h)
  exact⟨t',e⟩
theorem zR9:∀{ns:LI}{its:List Value},IntsAre its ns->its.length=ns.length
 |_,_,.nil=>rfl
 |_,_,.cons n t r=>congrArg (· + 1) (zR9 r)
def Ir(K:PySem.W.Frag)(te:TE):Fp:=λσ H Q=>yQ te bJ σ H λvs H1=>∃(p:Addr)(ns:LI),vs=[.ref p]/\aW K H1 p (ns.map V.int)/\ns.length<4000/\∀ks:LI,ks.Nodup->(∀z,z∈ks↔z∈ns)->Q ks H1
theorem Ls:bootBuiltins "set" = some (.type "set"):=by decide +kernel
theorem Lw(K:PySem.W.Frag)(hc:X.calm=true)(hm:X.mg "set" = none)(he:PE X e te)(hK:X.K=K:=by rfl)(hg:Gl X "set":=by rfl)(hs:starEach [e] X.env=[(false,eval e X.env)]:=by rfl):Az X (.Call (.Name "set" p) [e] [] pos) (Ir K te):=by
 subst hK
 intro pins s σ H Q I h
 refine ab1 (Ck I hg hm Ls ?_)
 have ha:PA X [e] (yQ te bJ):=zA he zF hs
 refine abr (aP (ha pos pins s σ H _ I h) λus s1 ⟨vs,H1,I1,r1,q1⟩=>?_) hs rfl
 obtain⟨l,ns,e1,hq,h4,q⟩:=q1
 subst e1
 cases r1 with
 |cons r rr =>
  cases rr
  cases r
  obtain⟨its,rv,pl,hz⟩:=I1.list hq
  have hi:IntsAre its ns:=Y_ rv
  have hl:=zR9 hi
  refine zUr (knd:=intKind X.prog X.w) (dec:=qW) Wu (λi=>ns.getD i 0) (I1.ok.hd hc) pl.isList (λi v hv=>?_) (by rw[size_toArray,hl];show ns.length+1<4096;omega) λh' tk g k=>?_
  ·obtain⟨t,rfl⟩:=zV1 hi (by rw[getElem?_toArray] at hv;exact hv)
   exact⟨intKind_is _ _ _ _,rfl⟩
  ·have I2:=I1.kept (h':=h') (t':=tk) λb o e=>k b o (lt_size e) e
   obtain⟨_,_,_,_,_,_,_,_,_,nd,_⟩:=id g
   refine⟨_,_,H1,rfl,I2,g,I1.lV (aau _) (I1.hok.fresh (aau _)),q _ nd λz=>?_⟩
   rw[zQt,size_toArray,hl]
   constructor
   ·rintro⟨j,hj,rfl⟩
    rw[getD_eq_getElem?_getD,aat hj]
    exact getElem_mem hj
   ·intro hz
    obtain⟨j,hj,e⟩:=getElem_of_mem hz
    exact⟨j,hj,by rw[getD_eq_getElem?_getD,aat hj];exact e⟩
def Tq(ts:Fp):TE:=λσ H Q=>ts σ H λks H1=>ks.length<64/\∀(l:Addr)(ms:LI),H1 l=none->ms.Perm ks->ms.Pairwise (· <= ·)->Q (.ref l) (upd H1 l (.lst (ms.map V.int)))
theorem zMc:∀{vs:List Value},(∀v∈vs,∃k,(intKind P w).is k v=true)->IntsAre vs (vs.map qW)
 |[],_=>.nil
 |v::vs,h=>by
  obtain⟨k,hk⟩:=h v mem_cons_self
  obtain⟨t,rfl⟩:=acz hk
  exact .cons k t (zMc (P:=P) (w:=w) λu hu=>h u (mem_cons_of_mem _ hu))
theorem zS1(hc:X.calm=true)(I:Inv X pins σ H s)(g:Good (intKind X.prog X.w) qW (zV X.w) s.heap a ks)(h64:ks.length<64)(q:∀(l:Addr) (ms:LI),H l=none->ms.Perm ks->ms.Pairwise (· <= ·)->Q (.ref l) (upd H l (.lst (ms.map V.int)))):wpAny (model X.prog X.w) X.A (call (.builtin "sorted") [.ref a]) (EP X pins σ Q) X.xe s:=by
 obtain⟨o,es,ep,t,ho,hx,hd,hel,hp,nd,hb,hf,tb⟩:=g
 have hsz:es.size=ks.length:=by rw[<-hp.length_eq,length_map,length_toList]
 refine PySem.Calls.call_function_entry kind_sorted plain_sorted entry_sorted (args_sorted1 _) ?_
 unfold Builtin.«sorted»
 refine aaq (m:=checkCount "sorted" 1 1 _) (aar ?_)
 refine aaq (zLg (A:=X.A.in1) (I.ok.hd hc) ho hx hd hf tb (aci hb) λh' tk d acc hkeep hacc=>?_)
 have I':Inv X pins σ H { s with heap:=h',toks:=tk,drawn:=d }:=(I.kept (h':=h') (t':=tk) hkeep).drew d
 have hI:IntsAre acc (acc.map qW):=zMc (P:=X.prog) (w:=X.w) λv hv=>by
  obtain⟨e,he,rfl⟩:=mem_map.mp (hacc.mem_iff.mp hv)
  obtain⟨⟨k,hk,_⟩,_⟩:=hel e he
  exact⟨k,hk⟩
 have hpk:(acc.map qW).Perm ks:=by
  refine(hacc.map qW).trans ?_
  rw[List.map_map]
  exact hp
 have hal:acc.length=ks.length:=by rw[<-hpk.length_eq,length_map]
 have hsl:acc.length<=sizeLine:=by rw[hal];exact acw (ad5 h64 (by decide))
 refine aaq (wpAny_newList ?_ hsl)
 have hoL:(h'.push (seqObj "list" acc.toArray 0)).get? h'.objs.size=some (seqObj "list" acc.toArray 0):=get?_push_size _ rfl
 refine aaq (abm (ach slot_list_sort ⟨_,hoL,rfl⟩ entry_list_sort (list_sort_tree hoL hI (by omega) λout ns' a1 a2 a3=>⟨_,rfl,?_⟩) (args_list_sort _)))
 refine aar ⟨_,rfl,?_⟩
 obtain⟨e,he⟩:=sortedHeap_at (out:=out) hoL
 refine⟨.ref h'.objs.size,_,I'.laid (t':=tk) (o:=.lst (ns'.map V.int)) (λb ob w=>?_) (aau _) ?_,rfl,q _ ns' (I'.hok.fresh (aau _)) (a2.trans hpk) a3⟩
 ·have hb:h'.get? b=some ob:=w
  have hlt:=lt_size hb
  rw[sortedHeap_old (aay hlt) (by rw[size_push'];exact ad4 hlt),Heap.get?_push_ne _ _ _ (aay hlt)]
  exact hb
 ·refine⟨?_,out.toList,e,Wh a1,?_⟩
  ·rw[length_map,a2.length_eq,length_map];exact hsl
  ·rw[toArray_toList];exact he
theorem Wv(hc:X.calm=true)(hm:X.mg "sorted" = none)(he:Az X e ts)(hg:Gl X "sorted":=by rfl)(hs:starEach [e] X.env=[(false,eval e X.env)]:=by rfl):PE X (.Call (.Name "sorted" p) [e] [] pos) (Tq ts):=by
 intro pins s σ H Q I h
 refine ab1 (Ck I hg hm (by decide +kernel:bootBuiltins "sorted" = some (.builtin "sorted")) ?_)
 refine PyProof.Rows.callWith_builtin1 (Q:=_) ?_ hs rfl
 rw[hs]
 show wpAny _ _ (spliced ((false,eval e X.env)::backTo pos [])) _ _ s
 refine aei (aP (he pins s σ H _ I h) λu s1 ⟨a,ks,H1,e1,I1,g,fo,h64,q⟩=>?_)
 subst e1
 refine aek ?_
 exact zS1 hc I1 g h64 q
end
end L2
namespace Ts
open PySem L2
def qg(z:Int):LI->LI
 |[]=>[z]
 |y::ys=>if z<y then z::y::ys else if z=y then y::ys else y::qg z ys
def wX(ns:LI):LI:=ns.foldr qg []
def PL(ns:LI):Option LI:=if ns.length<64 then some (wX ns) else none
theorem mU:∀{ys:LI},x∈qg z ys↔x=z\/x∈ys
 |[]=>by simp[qg]
 |y::ys=>by
  unfold qg
  split
  ·simp
  ·split
   ·rename_i h;subst h;simp
   ·rw[mem_cons,mU,mem_cons]
    exact⟨λh=>h.elim (λh=>.inr (.inl h)) λh=>h.elim .inl λh=>.inr (.inr h),λh=>h.elim (λh=>.inr (.inl h)) λh=>h.elim .inl λh=>.inr (.inr h)⟩
theorem zQ8:∀{ys:LI},ys.Pairwise (· < ·)->(qg z ys).Pairwise (· < ·)
 |[],_=>by simp[qg]
 |y::ys,h=>by
  have h1:=pairwise_cons.mp h
  unfold qg
  split
  ·rename_i hz
   refine pairwise_cons.mpr ⟨λx hx=>?_,h⟩
   rcases mem_cons.mp hx with e|e
   ·rw[e];exact hz
   ·exact Int.lt_trans hz (h1.1 x e)
  ·split
   ·exact h
   ·refine pairwise_cons.mpr ⟨λx hx=>?_,zQ8 h1.2⟩
    rcases mU.mp hx with e|e
    ·rw[e];omega
    ·exact h1.1 x e
theorem bT:∀{ns:LI},x∈wX ns↔x∈ns
 |[]=>by simp[wX]
 |n::ns=>by
  show x∈qg n (wX ns)↔_
  rw[mU,bT,mem_cons]
theorem Iu:∀ns:LI,(wX ns).Pairwise (· < ·)
 |[]=>.nil
 |n::ns=>zQ8 (Iu ns)
theorem Iv:∀{xs ys:LI},xs.Pairwise (· < ·)->ys.Pairwise (· < ·)->(∀s,s∈xs↔s∈ys)->xs=ys
 |[],[],_,_,_=>rfl
 |[],y::ys,_,_,h=>absurd ((h y).mpr mem_cons_self) (by simp)
 |x::xs,[],_,_,h=>absurd ((h x).mp mem_cons_self) (by simp)
 |x::xs,y::ys,hx,hy,h=>by
  have h1:=pairwise_cons.mp hx
  have h2:=pairwise_cons.mp hy
  have e:x=y:=by
   rcases mem_cons.mp ((h x).mp mem_cons_self) with e|e
   ·exact e
   ·rcases mem_cons.mp ((h y).mpr mem_cons_self) with e'|e'
    ·exact e'.symm
    ·have a1:=h2.1 x e
     have a2:=h1.1 y e'
     omega
  subst e
  rw[Iv h1.2 h2.2 λs=>?_]
  constructor
  ·intro hs
   rcases mem_cons.mp ((h s).mp (mem_cons_of_mem _ hs)) with e|e
   ·have:=h1.1 s hs;omega
   ·exact e
  ·intro hs
   rcases mem_cons.mp ((h s).mpr (mem_cons_of_mem _ hs)) with e|e
   ·have:=h2.1 s hs;omega
   ·exact e
theorem Fq:∀{ks ns:LI},ks.Nodup->(∀z∈ks,z∈ns)->ks.length<=ns.length
 |[],_,_,_=>abd _
 |k::ks,ns,nd,h=>by
  obtain⟨a,b,e⟩:=List.append_of_mem (h k mem_cons_self)
  have nd':=nodup_cons.mp nd
  have q:=Fq (ks:=ks) (ns:=a++b) nd'.2 λz hz=>by
   have hm:=h z (mem_cons_of_mem _ hz)
   rw[e] at hm
   rcases mem_append.mp hm with m|m
   ·exact mem_append.mpr (.inl m)
   ·rcases mem_cons.mp m with m|m
    ·exact absurd (m▸hz) nd'.1
    ·exact mem_append.mpr (.inr m)
  rw[e,length_append,length_cons,length_cons]
  rw[length_append] at q
  omega
theorem vT:∀{ms:LI},ms.Pairwise (· <= ·)->ms.Nodup->ms.Pairwise (· < ·)
 |[],_,_=>.nil
 |m::ms,h,nd=>by
  have h1:=pairwise_cons.mp h
  have n1:=nodup_cons.mp nd
  refine pairwise_cons.mpr ⟨λx hx=>?_,vT h1.2 n1.2⟩
  have a:=h1.1 x hx
  have b:m≠x:=λe=>n1.1 (e▸hx)
  omega
section
variable{K:PySem.W.Frag}{B:Bs}{sl:SL K}{md:Md}{t:TE}
theorem zOn(h:Ex B sl .hp t m):Eo B sl md (Tq (Ir K t)) (m.bind PL):=λc hc F O H σ Q s k=>by
 cases m with
 |none=>cases hc
 |some ns =>
  have hc:PL ns=some c:=hc
  unfold PL at hc
  split at hc
  case isFalse=>cases hc
  rename_i hl
  cases hc
  refine h ns rfl F O H σ _ s λv F' H' g r1=>?_
  obtain⟨p,vs,rfl,z1,z2⟩:=r1
  have z3:vs=ns.map V.int:=z2.vals
  subst z3
  refine⟨p,ns,rfl,aW.of z1,by omega,λks nd hm=>⟨aaz (Fq nd λz hz=>(hm z).mp hz) hl,λl ms hn p1 p2=>?_⟩⟩
  have e:ms=wX ns:=Iv (vT p2 (p1.nodup_iff.mpr nd)) (Iu ns) λz=>by rw[p1.mem_iff,hm,bT]
  subst e
  exact k l _ F' H' g hn (Ie _)
end
end Ts
namespace qU
open PySem PySem.Spec PyProof.Rows
set_option maxRecDepth 100000
theorem zHd:entryFor table "set.__and__" = some Builtin.«frozenset.__and__»:=ad6 (id':="frozenset.__and__") (by kernel_rfl) rfl (by decide +kernel) (by kernel_rfl)
section
variable{prog:Program}{w:World}{κ:Type}[DecidableEq κ]{knd:KeyKind prog w κ}{dec:Value->κ}{led:Bool}{A:Around}{E:Value->Shared->Prop}{s:Shared}
theorem Good.setOf(hdec:∀k v,knd.is k v=true->dec v=k)(g:Good knd dec led h a ks):h.SetOf knd a (λk=>decide (k∈ks)) ks.length:=by
 obtain⟨o,es,ep,t,h1,h2,h3,hel,hp,nd,hb,hf,tb⟩:=g
 refine⟨o,es,ep,t,h1,h2,h3,hel,λk=>?_,hb,hf,by rw[<-hp.length_eq,length_map,length_toList]⟩
 rw[decide_eq_true_iff,<-hp.mem_iff,mem_map]
 constructor
 ·rintro⟨e,he,rfl⟩
  obtain⟨⟨k',hk,_⟩,_⟩:=hel e he
  exact⟨e,he,by rw[hdec k' _ hk];exact hk⟩
 ·rintro⟨e,he,hk⟩
  exact⟨e,he,hdec _ _ hk⟩
theorem Good.size(g:Good knd dec led h a ks):∃o es ep t,h.get? a=some o/\o.ExactSet/\o.data=.set es ep t/\t.fits es.size=true/\es.size=ks.length/\Tb led t/\ElemsOf knd es.toList/\(es.toList.map λe=>dec e.2).Perm ks:=by
 obtain⟨o,es,ep,t,h1,h2,h3,hel,hp,nd,hb,hf,tb⟩:=g
 exact⟨o,es,ep,t,h1,h2,h3,hf,by rw[<-hp.length_eq,length_map,length_toList],tb,hel,hp⟩
theorem Good.type{s:Shared}(g:Good knd dec led s.heap a ks):s.TypeIs (.ref a) "set":=by
 obtain⟨o,_,_,_,h1,h2,_⟩:=g
 exact⟨o,h1,h2.1⟩
theorem CP{Q:Bool->Shared->Prop}(hT:s.TypeIs (.ref a) "set")(h:Q true s):wpAny (model prog w) A (Builtin.Frozenset.isAnySet (.ref a)) Q E s:=by
 unfold Builtin.Frozenset.isAnySet
 refine aaq (aeb (T:="set") (b:=true) hT aey ?_)
 exact aar h
theorem PN{Q:Nat->Shared->Prop}(g:Good knd dec led s.heap a ks)(h:Q ks.length s):wpAny (model prog w) A (adt a) Q E s:=by
 obtain⟨o,es,ep,t,h1,h2,h3,hf,hl,_⟩:=g.size
 unfold adt
 refine aaq (Wr h1 h3 hf (aar ?_))
 rw[hl]
 exact h
theorem zL0(sets:List Addr)(hs:∀a∈sets,∃ks:List κ,Good knd dec led s.heap a ks)(hn:∀k v,knd.is k v=true->∀b,v≠.ref b){Q:Bool->Shared->Prop}(h:Q true s):wpAny (model prog w) A (setsQuiet sets) Q E s:=by
 unfold setsQuiet
 refine aaq (ab9 (ac3 (β:=Option Bool×Unit) _ (λl b s'=>s'=s/\b=(none,())/\∀a∈l,∃ks:List κ,Good knd dec led s.heap a ks) (λb s'=>s'=s/\b=(none,())) ?turn (λb s' hI=>⟨hI.1,hI.2.1⟩) sets _ ⟨rfl,rfl,hs⟩) ?post (λ_ _ h=>h))
 case post =>
  rintro b s' ⟨rfl,rfl⟩
  exact aar h
 case turn =>
  rintro a rest b s' ⟨rfl,rfl,hg⟩
  obtain⟨ks,g⟩:=hg a mem_cons_self
  obtain⟨o,es,ep,t,h1,h2,h3,hf,hl,tb,hel,hp⟩:=g.size
  refine aaq (Wr h1 h3 hf ?_)
  rw[<-forIn_toList]
  refine aaq (ab9 (ac3 (β:=Option Bool×Unit) _ (λl b s''=>s''=s'/\b=(none,())/\∀e∈l,∀c,e.2≠.ref c) (λb s''=>s''=s'/\b=(none,())) ?t2 (λb s' hI=>⟨hI.1,hI.2.1⟩) es.toList _ ⟨rfl,rfl,?p0⟩) ?p2 (λ_ _ h=>h))
  case p0 =>
   intro e he c z
   obtain⟨⟨k,hk,_⟩,_⟩:=hel e he
   exact hn k _ hk c z
  case p2 =>
   rintro b s'' ⟨rfl,rfl⟩
   exact aar ⟨rfl,rfl,λa ha=>hg a (mem_cons_of_mem _ ha)⟩
  case t2 =>
   rintro⟨hh,x⟩ l b s'' ⟨rfl,rfl,hl⟩
   have hx:=hl _ mem_cons_self
   dsimp only at hx ⊢
   split
   ·exact absurd rfl (hx _)
   ·exact aar ⟨rfl,rfl,λe he=>hl e (mem_cons_of_mem _ he)⟩
theorem zO0(g:Good knd dec (zV w) s.heap a ks)(hq:w.params.followText "set-order" = false->∀o es ep t,s.heap.get? a=some o->o.data=.set es ep t->(!t.plain&&decide (es.size > 1))=false){Q:Array (Int×Value)->Shared->Prop}(h:∀es:Array (Int×Value),ElemsOf knd es.toList->(es.toList.map λe=>dec e.2).Perm ks->Q es s):wpAny (model prog w) A (setWalk a) Q E s:=by
 obtain⟨o,es,ep,t,h1,h2,h3,hf,hl,tb,hel,hp⟩:=g.size
 unfold setWalk
 refine aaq (aa3 h1 h3 hf ?_)
 dsimp only
 refine aaq (Lr ?_)
 cases hb:w.params.followText "set-order" with
 |true =>
  simp only[↓reduceIte]
  refine aaq (adl (aar ?_))
  exact h _ (hel.perm (PJ _ es)) (((PJ _ es).map _).trans hp)
 |false =>
  have q:=hq hb o es ep t h1 h3
  have Zq:t.led=true:=by rw[tb.led];unfold zV;rw[hb];rfl
  simp only[aa1,↓reduceIte]
  show wpAny _ _ (if(!t.plain&&decide (es.size > 1))=true then _ else _) _ _ _
  rw[if_neg (by rw[q];exact aas)]
  refine aaq ?_
  show wpAny _ _ (if(!t.led&&decide (es.size > 1))=true then _ else pure ()) _ _ _
  rw[if_neg (by rw[Zq];exact aas)]
  exact aar (aar (h es hel hp))
theorem Zr(g:Good knd dec (zV w) s.heap a ks)(gf:Good knd dec (zV w) s.heap f kf)(hs:∀b∈others,∃ks:List κ,Good knd dec (zV w) s.heap b ks)(hn:∀k v,knd.is k v=true->∀b,v≠.ref b){Q:Array (Int×Value)->Shared->Prop}(h:∀(es:Array (Int×Value)) (h':Heap),ElemsOf knd es.toList->(es.toList.map λe=>dec e.2).Perm ks->SameBut f s.heap h'->Good knd dec (zV w) h' f kf->Q es { s with heap:=h' }):wpAny (model prog w) A (setWalkUnseen a others (some f)) Q E s:=by
 obtain⟨o,es,ep,t,h1,h2,h3,hf,hl,tb,hel,hp⟩:=g.size
 unfold setWalkUnseen
 refine aaq (aa3 h1 h3 hf ?_)
 dsimp only
 refine aaq (Lr ?_)
 split
 ·rename_i c
  refine zO0 g (λhb o' es' ep' t' h1' h3'=>?_) λes' mV hp'=>h es' s.heap mV hp' (SameBut.refl f s.heap) gf
  rw[h1] at h1'
  cases h1'
  rw[h3] at h3'
  cases h3'
  rw[hb] at c
  simp only[aed,abl,aav,decide_eq_true_eq] at c
  rcases c with⟨_,c⟩|c
  ·rw[c];rfl
  ·rw[decide_eq_false (by omega),ae1]
 ·refine aaq (zL0 (knd:=knd) (dec:=dec) (led:=zV w) (a::others) (λb hb=>(mem_cons.mp hb).elim (λe=>e▸⟨ks,g⟩) (hs b)) hn ?_)
  simp only[abt,aa1,↓reduceIte]
  refine aaq (aec ?_)
  obtain⟨of,ef,epf,tf,f1,f2,f3,ff,fl,tbf,Zt,fp⟩:=gf.size
  refine aaq (aa3 f1 f3 ff ?_)
  dsimp only
  split
  ·have gl:=gf.len
   refine aaq (acj f1 f3 ?_ (aci (by rw[fl];exact gl)))
   obtain⟨_,_,_,_,e1,_,_,_,_,nd,hb,_,_⟩:=gf
   refine aar (h es _ hel hp (SameBut.update _ f _) ⟨_,ef,_,_,Ip (es':=ef) (t':=_) f1 f3,f2,rfl,Zt,fp,nd,?_,?_,?_⟩)
   ·rw[fl];exact gl
   ·exact ff
   ·refine⟨?_,λz=>?_⟩
    ·show(tf.led&&t.led)=_
     rw[tbf.led,tb.led,ae7]
    ·exact tbf.rz (Bool.and_eq_true_iff.mp z).1
  ·exact aar (h es s.heap hel hp (SameBut.refl f s.heap) gf)
theorem zGr(hdec:∀k v,knd.is k v=true->dec v=k)(id:String)(hn:∀k v,knd.is k v=true->∀b,v≠.ref b)(Zu:x≠r)(Ww:y≠r)(gx:Good knd dec (zV w) s.heap x ka)(gy:Good knd dec (zV w) s.heap y ky)(gr:Good knd dec (zV w) s.heap r []){Q:Unit->Shared->Prop}(h:∀(h':Heap) (kr:List κ),SameBut r s.heap h'->Good knd dec (zV w) h' r kr->(∀k,k∈kr↔k∈ka/\k∈ky)->Q () { s with heap:=h' }) :
  wpAny (model prog w) A (do
   let was <-setEpoch y
   for (h,x') in <-setWalkUnseen y [x,r] (some r) do
    holding [x'] do
     if(<-setFind x x' h).isSome then
      let _ <-setAddHashed r x' h
    abg id y was) Q E s:=by
 obtain⟨o,es,ep,t,h1,h2,h3,hf,hl,tb,hel,hp⟩:=gy.size
 refine aaq (aby h1 h3 hf ?_)
 refine aaq (Zr gy gr (λb hb=>(mem_cons.mp hb).elim (λe=>e▸⟨ka,gx⟩) λe=>(mem_singleton.mp e)▸⟨[],gr⟩) hn λes' h' mV hp' sb Tt=>?_)
 rw[<-forIn_toList]
 have ln:es'.toList.length=ky.length:=by rw[<-hp'.length_eq,length_map]
 refine aaq (ab9 (ac3 (β:=Unit) _ (λl _ s'=>∃h2 kr,s'={ s with heap:=h2 }/\SameBut r s.heap h2/\Good knd dec (zV w) h2 r kr/\ElemsOf knd l/\kr.length+l.length<=ky.length/\∀k,(k∈kr\/(k∈ka/\k∈l.map λe=>dec e.2))↔(k∈ka/\k∈ky)) (λ_ s'=>∃h2 kr,s'={ s with heap:=h2 }/\SameBut r s.heap h2/\Good knd dec (zV w) h2 r kr/\∀k,k∈kr↔k∈ka/\k∈ky) ?turn ?fin es'.toList () ⟨h',[],rfl,sb,Tt,mV,by rw[ln,length_nil];omega,λk=>?_⟩) ?post (λ_ _ h=>h))
 case turn =>
  rintro⟨hs,v⟩ l b s' ⟨h2,kr,rfl,jU,g2,hl2,hlen,hm⟩
  obtain⟨⟨k,hk,hh⟩,hsc⟩:=hl2 _ mem_cons_self
  dsimp only at hk hh hsc ⊢
  subst hh
  have kx:∀o,s.heap.get? x=some o->h2.get? x=some o:=λo e=>by rw[jU.2 x Zu];exact e
  have ky':∀o,s.heap.get? y=some o->h2.get? y=some o:=λo e=>by rw[jU.2 y Ww];exact e
  have Zv:=gx.keep kx
  have dv:dec v=k:=hdec k v hk
  rw[length_cons] at hlen
  have cont:∀(h3':Heap)(A_:List κ),SameBut r s.heap h3'->Good knd dec (zV w) h3' r A_->A_.length+l.length<=ky.length->(∀c,(c∈A_\/(c∈ka/\c∈l.map λe=>dec e.2))↔(c∈ka/\c∈ky)) ->
    wpAny (model prog w) A (abg id y ep) (λ_ s''=>wpAny (model prog w) A (pure (acn ())) (λq s''=>match q with|.yield _=>∃h2 kr,s''={ s with heap:=h2 }/\SameBut r s.heap h2/\Good knd dec (zV w) h2 r kr/\ElemsOf knd l/\kr.length+l.length<=ky.length/\∀k,(k∈kr\/(k∈ka/\k∈l.map λe=>dec e.2))↔(k∈ka/\k∈ky)|.done _=>∃h2 kr,s''={ s with heap:=h2 }/\SameBut r s.heap h2/\Good knd dec (zV w) h2 r kr/\∀k,k∈kr↔k∈ka/\k∈ky) E s'') E { s with heap:=h3' }:=λh3' A_ qX g3 l3 m3=>by
   unfold abg
   refine aaq (aby (s:={ s with heap:=h3' }) (by show h3'.get? y=_;rw[qX.2 y Ww];exact h1) h3 hf ?_)
   simp only[bne_self_eq_false,aa1,↓reduceIte]
   exact aar (aar ⟨h3',A_,rfl,qX,g3,λe he=>hl2 e (mem_cons_of_mem _ he),l3,m3⟩)
  refine aaq (abm (aaq (wpAny_setFind_of (s:={ s with heap:=h2 }) hk hsc (Zv.setOf hdec) λq hq=>?_)))
  cases q with
  |none =>
   have nk:k∉ka:=by simpa using hq.symm
   simp only[Option.isSome_none,aa1,↓reduceIte]
   refine aar (aaq (cont h2 kr jU g2 (by omega) λc=>?_))
   rw[<-hm c,map_cons,mem_cons]
   show _↔(c∈kr\/c∈ka/\(c=dec v\/_))
   rw[dv]
   constructor
   ·rintro(z|⟨z1,z2⟩)
    ·exact .inl z
    ·exact .inr ⟨z1,.inr z2⟩
   ·rintro(z|⟨z1,z2|z2⟩)
    ·exact .inl z
    ·exact absurd (z2▸z1) nk
    ·exact .inr ⟨z1,z2⟩
  |some j =>
   have mk:k∈ka:=by simpa using hq.symm
   simp only[adx,↓reduceIte]
   refine aaq (Wo (led:=zV w) (s:={ s with heap:=h2 }) hdec hk hsc g2 (by have:=gy.len;omega) λh3' b' qX g3=>?_)
   refine aar (aaq (cont h3' _ (jU.trans qX) g3 ?_ λc=>?_))
   ·split
    ·omega
    ·rw[length_cons];omega
   ·rw[<-hm c,map_cons,mem_cons]
    show _↔(c∈kr\/c∈ka/\(c=dec v\/_))
    rw[dv]
    have e:c∈(if k∈kr then kr else k::kr)↔c=k\/c∈kr:=by
     split
     ·rename_i z
      exact⟨.inr,λq=>q.elim (λq=>q▸z) λq=>q⟩
     ·exact mem_cons
    rw[e]
    constructor
    ·rintro((z|z)|⟨z1,z2⟩)
     ·exact .inr ⟨z▸mk,.inl z⟩
     ·exact .inl z
     ·exact .inr ⟨z1,.inr z2⟩
    ·rintro(z|⟨z1,z2|z2⟩)
     ·exact .inl (.inr z)
     ·exact .inl (.inl z2)
     ·exact .inr ⟨z1,z2⟩
 case fin =>
  rintro b s' ⟨h2,kr,rfl,jU,g2,_,_,hm⟩
  refine⟨h2,kr,rfl,jU,g2,λk=>?_⟩
  rw[<-hm k]
  simp
 case post =>
  rintro b s' ⟨h2,kr,rfl,jU,g2,hm⟩
  exact aar (h h2 kr jU g2 hm)
 ·rw[hp'.mem_iff]
  simp
theorem Zw(hT:s.TypeIs (.ref a) "set"){Q:Value->Shared->Prop}(h:Q (.type "set") s):wpAny (model prog w) A (Builtin.Frozenset.baseOf a) Q E s:=by
 unfold Builtin.Frozenset.baseOf
 refine aaq (aeb (T:="set") (b:=true) hT aey ?_)
 exact aar h
theorem Zx{Q:Value->Shared->Prop}(h:Q (.ref s.heap.objs.size) { s with heap:=s.heap.push { cls:=.type "set",dict:=none,data:=.set #[] 0 (.fresh 0 0 (zV w)) } }):wpAny (model prog w) A (newSet (.type "set")) Q E s:=by
 unfold newSet setsByText
 refine aaq (aaq (adl (aar ?_)))
 dsimp only
 simp only[newObj]
 exact aaq (wpAny_alloc (aar h))
theorem zT7(hdec:∀k v,knd.is k v=true->dec v=k)(id:String)(hn:∀k v,knd.is k v=true->∀b,v≠.ref b)(hab:b≠a)(ga:Good knd dec (zV w) s.heap a ka)(gb:Good knd dec (zV w) s.heap b kb){Q:Value->Shared->Prop}(h:∀(h':Heap) (kr:List κ),Good knd dec (zV w) h' s.heap.objs.size kr->(∀k,k∈kr↔k∈ka/\k∈kb)->(∀c o,c<s.heap.objs.size->s.heap.get? c=some o->h'.get? c=some o)->Q (.ref s.heap.objs.size) { s with heap:=h' }) :
  wpAny (model prog w) A (Builtin.Frozenset.intersection id a (.ref b)) Q E s:=by
 have la:a<s.heap.objs.size:=by obtain⟨o,_,_,_,h1,_⟩:=ga;exact lt_size h1
 have lb:b<s.heap.objs.size:=by obtain⟨o,_,_,_,h1,_⟩:=gb;exact lt_size h1
 unfold Builtin.Frozenset.intersection
 rw[if_neg (λe=>hab (aeu (abz e)))]
 refine aaq (Zw ga.type (aaq (Zx ?_)))
 refine aaq (aar ?_)
 have up:∀c o,s.heap.get? c=some o->(s.heap.push { cls:=.type "set",dict:=none,data:=.set #[] 0 (.fresh 0 0 (zV w)) }).get? c=some o:=λc o e=>get?_push_of_some _ e
 have Iw:=ga.keep (up a)
 have Iz:=gb.keep (up b)
 have PX:Good knd dec (zV w) (s.heap.push { cls:=.type "set",dict:=none,data:=.set #[] 0 (.fresh 0 0 (zV w)) }) s.heap.objs.size []:=Tn (get?_push_size _ rfl)
 generalize hp:s.heap.push { cls:=.type "set",dict:=none,data:=.set #[] 0 (.fresh 0 0 (zV w)) }=hq at up Iw Iz PX ⊢
 have fin:∀(h':Heap)(kr:List κ),SameBut s.heap.objs.size hq h'->Good knd dec (zV w) h' s.heap.objs.size kr->(∀k,k∈kr↔k∈ka/\k∈kb)->Q (.ref s.heap.objs.size) { s with heap:=h' }:=λh' kr sb g m =>
  h h' kr g m λc o hc e=>by rw[sb.2 c (aay hc)];exact up c o e
 refine aaq (abm (aaq (CP (s:={ s with heap:=hq }) (Good.type (s:={ s with heap:=hq }) Iz) ?_)))
 simp only[↓reduceIte]
 refine aaq (aar ?_)
 refine aaq (PN (s:={ s with heap:=hq }) Iz (aaq (PN (s:={ s with heap:=hq }) Iw ?_)))
 split
 ·exact zGr (s:={ s with heap:=hq }) hdec id hn (aay lb) (aay la) Iz Iw PX λh' kr sb g m=>aar (fin h' kr sb g λk=>by rw[m k,and_comm])
 ·exact zGr (s:={ s with heap:=hq }) hdec id hn (aay la) (aay lb) Iw Iz PX λh' kr sb g m=>aar (fin h' kr sb g m)
theorem Ly(hdec:∀k v,knd.is k v=true->dec v=k)(hn:∀k v,knd.is k v=true->∀b,v≠.ref b)(hab:b≠a)(ga:Good knd dec (zV w) s.heap a ka)(gb:Good knd dec (zV w) s.heap b kb){Q:Value->Shared->Prop}(h:∀(h':Heap) (kr:List κ),Good knd dec (zV w) h' s.heap.objs.size kr->(∀k,k∈kr↔k∈ka/\k∈kb)->(∀c o,c<s.heap.objs.size->s.heap.get? c=some o->h'.get? c=some o)->Q (.ref s.heap.objs.size) { s with heap:=h' }) :
  wpAny (model prog w) A (binaryOp .BitAnd (.ref a) (.ref b)) Q E s:=by
 refine aeh (op:=.BitAnd) (T:="set") ga.type gb.type F.fills_set_and F.slot_set_and (ach F.slot_set_and ga.type zHd ?_ (F.args_set_and_2 _ _))
 refine aaq (m:=ab6 "__and__" ⟨[.ref a,.ref b],[]⟩) ?_
 unfold ab6 slotArgs
 refine aar ?_
 dsimp only
 refine aaq (aaq (CP ga.type ?_))
 refine CP gb.type ?_
 simp only[abt,aa1,↓reduceIte]
 refine aaq (aar (aaq (zT7 hdec _ hn hab ga gb λh' kr g m k=>aar ⟨.ref s.heap.objs.size,rfl,?_,h h' kr g m k⟩)))
 exactλz=>aep z
end
end qU
namespace L2
open PySem PySem.Spec PyProof.Rows qU
section
variable{X:Cx}
def IK(ta tb:Fp):Fp:=λσ H Q=>ta σ H λks H1=>tb σ H1 λjs H2=>∀rs:LI,rs.Nodup->(∀z,z∈rs↔z∈ks/\z∈js)->Q rs H2
theorem Ft(ha:Az X a ta)(hb:Az X b tb):Az X (.BinOp a .BitAnd b pos) (IK ta tb):=by
 intro pins s σ H Q I h
 refine ae5 (aP (ha pins s σ H _ I h) λu s1 ⟨p,ks,H1,e,I1,g,fo,h1⟩=>?_)
 subst e
 obtain⟨o,es,ep,t,go,gx,gd,_⟩:=id g
 have Tv:=I1.pinned (fp:=[p]) (λb hb=>by rw[mem_singleton.mp hb];exact fo) (λb hb=>by
  rw[mem_singleton.mp hb]
  exact⟨o,go,λv z=>by rw[gd] at z;cases z⟩)
 refine aP (hb _ s1 σ H1 _ Tv h1) λu2 s2 ⟨p2,js,H2,e2,I2,g2,Tw,q2⟩=>?_
 subst e2
 have pm:(p,o)∈X.pn++(pins++HD [p] s1.heap):=mem_append_right _ (mem_append_right _ (vR (mem_singleton.mpr rfl) go))
 have kp:s2.heap.get? p=some o:=(I2.pin (p,o) pm).1
 have g1:=g.keep (h':=s2.heap) λo' e'=>by rw[go] at e';cases e';exact kp
 have ne:p2≠p:=aco (Tw.2.2.2.2.2 (p,o) pm)
 have I3:=I2.fU
 refine Ly Wu (λk v hk b z=>?_) ne g1 g2 λh' kr g3 m k=>?_
 ·obtain⟨t,rfl⟩:=acz hk
  cases z
 ·have I4:=I3.kept (h':=h') (t':=s2.toks) λb o e=>k b o (lt_size e) e
  obtain⟨_,_,_,_,_,_,_,_,_,nd,_⟩:=id g3
  exact⟨_,kr,H2,rfl,I4,g3,I3.lV (aau _) (I3.hok.fresh (aau _)),q2 kr nd m⟩
end
end L2
namespace Ts
open PySem L2
def Wx(ns ms:LI):Option LI:=if(ns.length<64\/ms.length<64)/\ns.length<4000/\ms.length<4000 then some (wX (ns.filter λz=>decide (z∈ms))) else none
section
variable{K:PySem.W.Frag}{B:Bs}{sl:SL K}{md:Md}{t1 t2:TE}
theorem zOo(h1:Ex B sl .hp t1 m1)(h2:Ex B sl .hp t2 m2):Eo B sl md (Tq (IK (Ir K t1) (Ir K t2))) (m1.bind λa=>m2.bind λb=>Wx a b):=λc hc F O H σ Q s k=>by
 obtain⟨ns,ms,ha,hb,hf⟩:=qJ hc
 unfold Wx at hf
 split at hf
 case isFalse=>cases hf
 rename_i hl
 cases hf
 refine h1 ns ha F O H σ _ s λv F' H' g r1=>?_
 obtain⟨p,vs,rfl,z1,z2⟩:=r1
 have z3:vs=ns.map V.int:=z2.vals
 subst z3
 refine⟨p,ns,rfl,aW.of z1,hl.2.1,λks nd hm=>?_⟩
 refine h2 ms hb F' O H' σ _ (s.grow g) λw F2 H2 g2 r2=>?_
 obtain⟨p',vs',rfl,y1,y2⟩:=r2
 have y3:vs'=ms.map V.int:=y2.vals
 subst y3
 refine⟨p',ms,rfl,aW.of y1,hl.2.2,λjs jd hj rs rd hr=>⟨hl.1.elim (aaz (Fq rd λz hz=>(hm z).mp ((hr z).mp hz).1)) (aaz (Fq rd λz hz=>(hj z).mp ((hr z).mp hz).2)),λl us hn p1 p2=>?_⟩⟩
 have e:us=wX (ns.filter λz=>decide (z∈ms)):=Iv (vT p2 (p1.nodup_iff.mpr rd)) (Iu _) λz=>by rw[p1.mem_iff,hr,hm,hj,bT,mem_filter,decide_eq_true_iff]
 subst e
 exact k l _ F2 H2 (g.trans g2) hn (Ie _)
end
end Ts
namespace L2
open PySem PySem.Spec PyProof.Rows
section
variable{X:Cx}
theorem IV:Vr X .BitOr (Vs λi j=>ac8 i j):=by
 intro pins s σ H x y v u Q I r1 r2 h
 obtain⟨i,j,e1,e2,q⟩:=h
 subst e1;subst e2
 obtain⟨t,rfl⟩:=r1
 obtain⟨t',rfl⟩:=r2
 exact ior_int ⟨.int _,H,I.tok _,⟨_,rfl⟩,q⟩
def IW(K:PySem.W.Frag):V->V->Hp->VK->Prop:=λx y H Q=>∃p xs i v,x=.ref p/\y=.int i/\0<=i/\aW K H p xs/\bx xs i=some v/\Q v H
theorem zRb(K:PySem.W.Frag)(h:X.K=K:=by rfl):Q_ X (IW K):=by
 subst h
 intro pins s σ H o i ov iv Q I rx ry h
 obtain⟨p,xs,i,z,rfl,rfl,h0,hq,he,q⟩:=h
 cases rx
 obtain⟨t,rfl⟩:=ry
 obtain⟨its,r,pl,hz⟩:=I.list hq
 obtain⟨j,h1,h2,h3,h4,h5⟩:=Yg he
 obtain⟨w,ew,Rq⟩:=r.get h2
 have hl:=r.length
 have hn:=J8
 have hj:i.toNat=j:=by
  rw[ae3 h0 h5] at h1
  exact aaw h1
 exact wpAny_getItem_list pl.isList h0 (by omega) (by rw[hj];simpa using ew) ⟨z,H,I,Rq,q⟩
theorem Zy(K:PySem.W.Frag)(ha:PE X a ta)(hK:X.K=K:=by rfl)(he:∀whole,isTrue a X.env whole=(do let v <-whole;standAt a.pos;holding [v] (truthy v)):=by intro _;rfl) :
  PT X a (λσ H Q=>ta σ H λx H'=>∃k,Du K x H' k/\Q k H'):=by
 subst hK
 exact zTh ha he
def tLR(ta:TA):TE:=λσ H Q=>ta σ H λvs H1=>∃j:Int,vs=[.int j] /\ -(2^62)<=j/\j<1000000/\∀l,H1 l=none->Q (.ref l) (upd H1 l (.lst (((aa5 j.toNat).map adg).map V.int)))
theorem Fv{acc:List Value}:∀{ns:LI},acc.length=ns.length->(∀(i:Nat)(v:Value),acc[i]?=some v->∃t:Tok,v=ab8 (ns.getD i 0) t)->IntsAre acc ns:=by
 induction acc with
 |nil =>
  intro ns h _
  cases ns with
  |nil=>exact .nil
  |cons n ns=>simp at h
 |cons v acc ih =>
  intro ns h g
  cases ns with
  |nil=>simp at h
  |cons n ns =>
   obtain⟨t,e⟩:=g 0 v rfl
   subst e
   exact .cons n t (ih (by simpa using h) λi v hv=>g (i+1) v hv)
theorem zL1(hc:X.calm=true)(hg:Gl X "list")(hm:X.mg "list" = none)(hg2:Gl X "range")(hm2:X.mg "range" = none)(ha:PA X [a] ta)(hs:starEach [a] X.env=[(false,eval a X.env)]:=by rfl)(hs2:starEach [Expr.Call (.Name "range" p2) [a] [] pos2] X.env=[(false,eval (Expr.Call (.Name "range" p2) [a] [] pos2) X.env)]:=by rfl):PE X (.Call (.Name "list" p) [.Call (.Name "range" p2) [a] [] pos2] [] pos) (tLR ta):=by
 intro pins s σ H Q I h
 refine ab1 (Ck I hg hm (by decide +kernel:bootBuiltins "list" = some (.type "list")) ?_)
 refine abr ?_ hs2 rfl
 rw[hs2]
 show wpAny _ _ (spliced ((false,eval (Expr.Call (.Name "range" p2) [a] [] pos2) X.env)::backTo pos [])) _ _ s
 refine aei (ab1 (Ck I hg2 hm2 boot_range (abr (aP (ha pos2 pins s σ H _ I h) λus s1 ⟨vs,H1,I1,r1,q1⟩=>?_) hs rfl)))
 obtain⟨j,e,q1,q2,q⟩:=q1
 subst e
 cases r1 with
 |cons r rr =>
  cases rr
  obtain⟨t,rfl⟩:=r
  refine call_range_1 (aek ?_)
  have I2:Inv X pins σ H1 { s1 with heap:=s1.heap.push { cls:=.type "range",data:=.fields #[.int 0 s1.toks,.int j t,.int 1 (s1.toks+1)] },toks:=s1.toks+1+1 }:=I1.kept λb o e=>get?_push_of_some _ e
  refine call_list_range (n:=j.toNat) (I2.ok.hd hc) (IsRange.new ..) (small_one (by omega) (by omega) q1 (by omega)) (by rw[rangeSize_one];split<;>omega) (by omega) λh' tk acc' c' hk hS hacc=>?_
  have hI:IntsAre acc'.toList ((aa5 j.toNat).map adg):=Fv (by rw[length_toList,hacc.1,length_map,length_range]) λi v hv=>by
   rw[getElem?_toList] at hv
   obtain⟨t',rfl⟩:=hacc.2 i v hv
   have hi:i<j.toNat:=by
    have:=(Array.getElem?_eq_some_iff.mp hv).1
    rw[hacc.1] at this
    exact this
   refine⟨t',?_⟩
   have e:((aa5 j.toNat).map adg).getD i 0=(i:Int):=by
    rw[getD_eq_getElem?_getD,getElem?_map,getElem?_range hi]
    rfl
   rw[e]
   simp
  refine⟨.ref _,_,I2.laid (h':=h') (t':=tk) (o:=.lst (((aa5 j.toNat).map adg).map V.int)) (λb ob w=>hk b ob w) (aau _) ?_,rfl,q _ (I2.hok.fresh (aau _))⟩
  refine⟨?_,acc'.toList,c',Wh hI,?_⟩
  ·rw[length_map,length_map,length_range]
   exact aa6 (show j.toNat<=1000000 by omega) (by decide)
  ·rw[toArray_toList];exact hS
end
end L2
namespace Ts
open PySem L2
def vf(a b:Int):Option Int:=if 0<=b/\b<=1000000/\a.natAbs<2^64 then some (a*2^b.toNat) else none
def jG(a b:Int):Option Int:=if 0<=b then some (a/2^b.toNat) else none
section
variable{K:PySem.W.Frag}{B:Bs}{sl:SL K}{md:Md}{t t1 t2 te:TE}{m1 m2:Option Int}
theorem Tz(h1:Ex B sl .hp t1 m1)(h2:Ex B sl .hp t2 m2):Ex B sl md (jT (rR λi j=>.int (abf i j)) t1 t2) (m1.bind λa=>m2.bind λb=>some (abf a b)):=V8 (λ_ _=>rfl) h1 h2
theorem Lz(h1:Ex B sl .hp t1 m1)(h2:Ex B sl .hp t2 m2):Ex B sl md (jT (rI Rb λi j=>.int (i*2^j.toNat)) t1 t2) (m1.bind λa=>m2.bind λb=>vf a b) :=
 Cw (f:=vf) (λa b c v w H Q e r1 r2 q=>by
  unfold vf at e
  split at e
  case isFalse=>cases e
  rename_i hc
  cases e;cases r1;cases r2
  exact⟨a,b,rfl,rfl,hc,q⟩) h1 h2
theorem Wy(h1:Ex B sl .hp t1 m1)(h2:Ex B sl .hp t2 m2):Ex B sl md (jT (rI (λ_ j=>0<=j) λi j=>.int (i/2^j.toNat)) t1 t2) (m1.bind λa=>m2.bind λb=>jG a b) :=
 Cw (f:=jG) (λa b c v w H Q e r1 r2 q=>by
  unfold jG at e
  split at e
  case isFalse=>cases e
  rename_i hc
  cases e;cases r1;cases r2
  exact⟨a,b,rfl,rfl,hc,q⟩) h1 h2
theorem Zz{m:Option Int}(h:Ex B sl .hp t m):Et B sl (λσ H Q=>t σ H λx H'=>∃k,Du K x H' k/\Q k H') (m.bind λi=>some (i != 0)):=λc hc F O H σ Q s k=>by
 cases m with
 |none=>cases hc
 |some i =>
  cases(show some (i != 0)=some c from hc)
  refine h i rfl F O H σ _ s λv F' H' g r=>?_
  cases r
  exact⟨_,rfl,k F' H' g⟩
def Fw(n:Int):Option LI:=if -(2^62)<=n/\n<1000000 then some ((aa5 n.toNat).map adg) else none
theorem zMm(h:Ex B sl .hp t m):Eo B sl md (tLR (yQ t bJ)) (m.bind Fw):=λc hc F O H σ Q s k=>by
 cases m with
 |none=>cases hc
 |some n =>
  have hc:Fw n=some c:=hc
  unfold Fw at hc
  split at hc
  case isFalse=>cases hc
  rename_i hl
  cases hc
  refine h n rfl F O H σ _ s λv F' H' g r1=>?_
  cases r1
  exact⟨n,rfl,hl.1,hl.2,λl hn=>k l _ F' H' g hn (Ie _)⟩
def Ba(xs ys:LI):Option LI:=if xs.length+ys.length<cap then some (xs++ys) else none
theorem zPi(i:Nat)(hs:sl[i]?=some (.ow n xs))(hh:sl.all (λs=>!cT s)=true)(h:Ex B sl .hp te m) :
  Sn B sl (Ow (O_ K "list" Ym (bZ i) (yQ te bJ))) (λys=>sl.set i (.ow n ys)) (m.bind λa=>Ba xs a):=λys ha G D σ H s k=>by
 cases m with
 |none=>cases ha
 |some a =>
  have ha':Ba xs a=some ys:=ha
  unfold Ba at ha'
  split at ha'
  case isFalse=>cases ha'
  rename_i hl
  cases ha'
  obtain⟨F,O,g,z⟩:=s
  obtain⟨p,vs,h1,h2,h3,_⟩:=z.chg hs hh
  refine⟨_,h1,.inl ⟨rfl,_,aW.of h2⟩,?_⟩
  refine h a rfl F O H σ _ z λv F' H' gr r=>?_
  obtain⟨p',vs',h1',h2',h3',h4'⟩:=(z.grow gr).chg hs hh
  have e:=h1.symm.trans h1'
  cases e
  obtain⟨q,us,rfl,z1,z2⟩:=r
  have z3:us=a.map V.int:=z2.vals
  subst z3
  have e3:vs'=xs.map V.int:=h3'.vals
  subst e3
  obtain⟨O',z'⟩:=h4' (xs.map V.int++a.map V.int) (xs++a) (by rw[<-map_append];exact Ie _)
  exact⟨p,q,_,_,rfl,rfl,h2',z1,by rw[length_map,length_map];exact acw (Cy hl),k _ _ ⟨F',O',g.trans gr.ff,z'⟩⟩
def Fx(f:Int->Int->Int)(xs:LI)(ix:Int)(y:Int):Option LI:=if 0<=ix then(L2.bx xs ix).bind λx=>uz xs ix (f x y) else none
theorem zS4(i:Nat)(hs:sl[i]?=some (.ow n xs))(hh:sl.all (λs=>!cT s)=true)(hi:Ex B sl .hp ti mi)(hv:Ex B sl .hp te m) :
  Sn B sl (Hz (bZ i) ti te (IW K) (Vs f) Ae) (λys=>sl.set i (.ow n ys)) (mi.bind λk=>m.bind λa=>Fx f xs k a):=λys ha G D σ H s k=>by
 obtain⟨ix,a,e1,e2,ha'⟩:=qJ ha
 unfold Fx at ha'
 split at ha'
 case isFalse=>cases ha'
 rename_i h0
 obtain⟨x,ex,ha'⟩:=Option.bind_eq_some_iff.mp ha'
 obtain⟨F,O,g,z⟩:=s
 obtain⟨p,vs,h1,h2,h3,_⟩:=z.chg hs hh
 refine⟨_,h1,?_⟩
 refine hi ix e1 F O H σ _ z λv F' H' gr r=>?_
 cases r
 obtain⟨p',vs',h1',h2',h3',h4'⟩:=(z.grow gr).chg hs hh
 have e:=h1.symm.trans h1'
 cases e
 obtain⟨xv,exv,rx⟩:=h3'.bx ex
 have rx:xv=.int x:=Sc.is.mp rx
 subst rx
 refine⟨p,vs',ix,_,rfl,rfl,h0,aW.of h2',exv,?_⟩
 refine hv a e2 F' O H' σ _ (z.grow gr) λw F2 H2 tW rw=>?_
 cases rw
 obtain⟨p2,vs2,y1,y2,y3,y4⟩:=((z.grow gr).grow tW).chg hs hh
 have e:=h1.symm.trans y1
 cases e
 refine⟨x,a,rfl,rfl,?_⟩
 unfold uz at ha'
 cases ej:tR xs.length ix with
 |none=>rw[ej] at ha';cases ha'
 |some jj =>
  rw[ej] at ha'
  cases ha'
  obtain⟨O',z'⟩:=y4 (vs2.set jj (.int (f x a))) (xs.set jj (f x a)) (y3.set (Sc.is.mpr rfl) jj)
  exact⟨p,vs2,ix,jj,rfl,rfl,y2,by rw[y3.len,ej],k _ _ ⟨F2,O',(g.trans gr.ff).trans tW.ff,z'⟩⟩
end
section
variable{K:PySem.W.Frag}{B:Bs}{sl:SL K}{F H H2:Hp}{O:Own}{σ:St}{te:TE}
end
section
variable{K:PySem.W.Frag}{B:Bs}{sl sl2:SL K}{G F H:Hp}{O:Own}{σ:St}{te:TE}
inductive ZC{α:Type}[Rp K α](kvs:List (Key×α)):SL K->SL K->Prop
 |here {a:SL K}:ZC kvs (.od kvs::a) (.fz false (Dc.mk kvs)::a)
 |skip {s:Slot K} {a b:SL K}:ZC kvs a b->ZC kvs (s::a) (s::b)
end
section
variable{K:PySem.W.Frag}{B:Bs}{sl:SL K}{md:Md}{t t2:TE}{α β:Type}[Rp K α][Rp K β]
end
def qj{α:Type}(xs:List α)(lo hi:Option Int):List α:=(xs.drop (HT.c7 xs.length 0 lo)).take (HT.c7 xs.length xs.length hi-HT.c7 xs.length 0 lo)
def Fy{α:Type}(xs ys:List α):Option (List α):=if xs.length+ys.length<=cap then some (xs++ys) else none
section
variable{P:Program}{w:World}{K:PySem.W.Frag}{mg:Str->Option Value}{base:Heap}{B:Bs}{sl:SL K}{md:Md}{α β:Type}[Rp K α][Rp K β]{tA:Addr}{tO:HO}{te t1 t2:TE}
theorem A2.cut(h:A2 R vs xs)(lo hi:Option Int):A2 R (qO vs lo hi) (qj xs lo hi):=by
 unfold qO qj
 rw[h.len]
 exact(h.dr _).tk _
theorem zUj[Sc K α]{m:Option (List α)}{mi:Option Int}{ti:TE}(h:Ex B sl .hp te m)(hi:Ex B sl .hp ti mi):Eo B sl md (VJ (Af K) te (Rn ti) Yc) (m.bind λxs=>mi.bind λi=>some (qj xs (some i) none)):=λc hc F O H σ Q s k=>by
 obtain⟨xs,i,hx,hi',hc⟩:=qJ hc
 cases hc
 refine h xs hx F O H σ _ s λv F' H' g r=>?_
 refine hi i hi' F' O H' σ _ (s.grow g) λu F2 H2 g2 r2=>?_
 have r2:u=.int i:=r2
 obtain⟨p,vs,rfl,z1,z2⟩:=r
 exact⟨i,r2,p,vs,rfl,aW.of (g2.hh _ _ z1),λl hl=>k l _ F2 H2 (g.trans g2) hl (z2.cut _ _).sc⟩
theorem LC(K:PySem.W.Frag){X:Cx}(h:X.K=K:=by rfl):VH X (Af K):=by subst h;exact DX
end
section
variable{X:Cx}{pos pos':Pos}{x:Str}{e:Expr}{te:TE}
theorem xB(i:Nat)(hN:X.N.Nodup)(he:PE X e te)(hi:X.N[i]?=some x:=by rfl)(hx:Loc X.env.scope x:=by first|exact .inl rfl|exact .inr rfl)(hs:swapsWith e (some (.Name x pos')) pos.line X.env=pure false:=by rfl)(hf:X.fn x=true\/X.env.scope.names.lookup x=some .local:=by first|exact .inl rfl|exact .inr rfl|assumption):PS X (.Assign [.Name x pos'] e pos) (mO te (pF i)):=Hy hN hi hx he hs hf
theorem cP(i:Nat)(hN:X.N.Nodup)(hi:X.N[i]?=some x:=by rfl)(hx:Loc X.env.scope x:=by first|exact .inl rfl|exact .inr rfl)(hf:X.fn x=true\/X.env.scope.names.lookup x=some .local:=by first|exact .inl rfl|exact .inr rfl|assumption):PG X (.Name x pos) (pF i):=yL hN hi hx hf
end
theorem esc{K:PySem.W.Frag}{B:Bs}{sl:SL K}{md:Md}{α:Type}[Rp K α][Sc K α]{t:TE}{m:Option α}(h:Ex B sl .hp t m):Ex B sl md t m:=h.sc
theorem fsc{N P:List Str}{s:Scope}(h1:s.kind=.function:=by rfl)(h2:s.isCoroutine=false:=by rfl)(h3:s.isGenerator=false:=by rfl)(h4:N.Nodup:=by decide +kernel)(h5:N.take P.length=P:=by rfl)(h6:∀x∈P,s.names.lookup x=some .local\/s.names.lookup x=some .cell:=by decide +kernel)(h7:∀y∈s.names,y.2≠.free:=by decide +kernel):ao N P s:=⟨h1,h2,h3,h4,h5,h6,h7⟩
section
variable{K:PySem.W.Frag}{x y:Str}{st:Stmt}{f:Addr}{fd:FuncData}{p0 p1 p2 p3 p4:Str}
theorem tY(F:aY K x y st f fd)(h:∀kV dc pm an cd ct u0,bindArgs (fnOf x y (vJ st) (xQ st) (zH st) .none kV dc pm an cd ct) ⟨[u0],[]⟩=pure [(p0,u0)]:=by intros;rfl):Binds K fd [p0] []:=F.binds λa b c d e g us hl=>match us,hl with|[u0],_=>h a b c d e g u0
theorem j4(F:aY K x y st f fd)(h:∀kV dc pm an cd ct u0 u1,bindArgs (fnOf x y (vJ st) (xQ st) (zH st) .none kV dc pm an cd ct) ⟨[u0,u1],[]⟩=pure [(p0,u0),(p1,u1)]:=by intros;rfl):Binds K fd [p0,p1] []:=F.binds λa b c d e g us hl=>match us,hl with|[u0,u1],_=>h a b c d e g u0 u1
theorem qK(F:aY K x y st f fd)(h:∀kV dc pm an cd ct u0 u1 u2,bindArgs (fnOf x y (vJ st) (xQ st) (zH st) .none kV dc pm an cd ct) ⟨[u0,u1,u2],[]⟩=pure [(p0,u0),(p1,u1),(p2,u2)]:=by intros;rfl):Binds K fd [p0,p1,p2] []:=F.binds λa b c d e g us hl=>match us,hl with|[u0,u1,u2],_=>h a b c d e g u0 u1 u2
theorem P0(F:aY K x y st f fd)(h:∀kV dc pm an cd ct u0 u1 u2 u3,bindArgs (fnOf x y (vJ st) (xQ st) (zH st) .none kV dc pm an cd ct) ⟨[u0,u1,u2,u3],[]⟩=pure [(p0,u0),(p1,u1),(p2,u2),(p3,u3)]:=by intros;rfl):Binds K fd [p0,p1,p2,p3] []:=F.binds λa b c d e g us hl=>match us,hl with|[u0,u1,u2,u3],_=>h a b c d e g u0 u1 u2 u3
theorem bi5(F:aY K x y st f fd)(h:∀kV dc pm an cd ct u0 u1 u2 u3 u4,bindArgs (fnOf x y (vJ st) (xQ st) (zH st) .none kV dc pm an cd ct) ⟨[u0,u1,u2,u3,u4],[]⟩=pure [(p0,u0),(p1,u1),(p2,u2),(p3,u3),(p4,u4)]:=by intros;rfl):Binds K fd [p0,p1,p2,p3,p4] []:=F.binds λa b c d e g us hl=>match us,hl with|[u0,u1,u2,u3,u4],_=>h a b c d e g u0 u1 u2 u3 u4
end
theorem bQ{K:PySem.W.Frag}{a b:SL K}(h:Le a b:=by repeat(first|exact Le.nil|refine Le.eq ?_|refine Le.un ?_|refine Le.fr ?_)):Le a b:=h
theorem gR{K:PySem.W.Frag}{a b:SL K}(h:rP a b:=by repeat(first|exact rP.nil|refine rP.eq ?_|refine rP.un ?_)):rP a b:=h
abbrev Slot.z{α:Type}[Rp K α](a:α):Slot K:=.fz false a
abbrev Slot.y{α:Type}[Rp K α](a:α):Slot K:=.fz true a
end Ts
namespace qU
open PySem PySem.SetTable
set_option maxRecDepth 100000
def Wz(m:Nat):Nat->Nat->Nat
 |0,i=>i
 |t+1,i=>Wz m t ((i*5+1)%m)
def seen(m:Nat):Nat->Nat->Nat->Nat
 |0,_,acc=>acc
 |t+1,i,acc=>seen m t ((i*5+1)%m) (acc|||1 <<< i)
theorem zLv(m j:Nat):∀(t i acc:Nat),(seen m t i acc).testBit j=true->acc.testBit j=true\/∃u,u<t/\Wz m u i=j
 |0,i,acc,h=>.inl h
 |t+1,i,acc,h=>by
  rcases zLv m j t _ _ h with z|⟨u,hu,e⟩
  ·rw[Nat.testBit_or,abl] at z
   rcases z with z|z
   ·exact .inl z
   ·rw[Nat.testBit_shiftLeft,aav,decide_eq_true_eq] at z
    obtain⟨z1,z2⟩:=z
    have:j-i=0:=by
     cases q:j-i with
     |zero=>rfl
     |succ n =>
      rw[q] at z2
      have:(1:Nat).testBit (n+1)=false:=Nat.testBit_lt_two_pow (aa0 (by decide) (Nat.pow_le_pow_right (by decide) (ab7 (abd n))))
      rw[this] at z2
      cases z2
    exact .inr ⟨0,aew _,by show i=j;omega⟩
  ·exact .inr ⟨u+1,Nat.succ_lt_succ hu,e⟩
def vg(m:Nat):Bool:=(aa5 m).all λi=>seen m m i 0==2^m-1
theorem Fz(h:vg m=true)(hi:i<m)(hj:j<m):∃u,u<m/\Wz m u i=j:=by
 have q:=all_eq_true.mp h i (mem_range.mpr hi)
 have e:seen m m i 0=2^m-1:=by simpa using q
 have t:(seen m m i 0).testBit j=true:=by rw[e,Nat.testBit_two_pow_sub_one];simpa using hj
 rcases zLv m j m i 0 t with z|z
 ·rw[Nat.zero_testBit] at z;cases z
 ·exact z
theorem TF:vg 8=true:=by decide +kernel
theorem TJ:vg 16=true:=by decide +kernel
theorem TQ:vg 32=true:=by decide +kernel
theorem TV:vg 64=true:=by decide +kernel
theorem LK:vg 128=true:=by decide +kernel
theorem LQ:vg 256=true:=by decide +kernel
theorem TX{owner:Array (Option Nat)}{mask i:Nat}(h:owner.getD i (some 0)=none):(aa5 (runEnd mask i+1-i)).find? (λk=>(owner.getD (i+k) (some 0)).isNone)≠none:=λe=>by
 have q:=List.find?_eq_none.mp e 0 (mem_range.mpr (by unfold runEnd;split<;>omega))
 apply q
 show(owner.getD (i+0) (some 0)).isNone=true
 rw[Nat.add_zero,h];rfl
theorem zJb{owner:Array (Option Nat)}{mask:Nat}:∀(fuel i p j:Nat),layClean.free mask owner fuel i p=some j->owner.getD j (some 0)=none
 |0,_,_,_,h=>by cases h
 |fuel+1,i,p,j,h=>by
  unfold layClean.free at h
  split at h
  ·rename_i k hk
   cases h
   have:=List.find?_some hk
   simpa using this
  ·exact zJb fuel _ _ j h
theorem zJc{owner:Array (Option Nat)}{mask j:Nat}(hj:owner.getD j (some 0)=none):∀(fuel u i:Nat),u<fuel->Wz (mask+1) u i=j->layClean.free mask owner fuel i 0≠none
 |0,u,i,h,_=>absurd h (acq _)
 |fuel+1,0,i,_,e=>by
  have e':i=j:=e
  subst e'
  unfold layClean.free
  cases q:(aa5 (runEnd mask i+1-i)).find? λk=>(owner.getD (i+k) (some 0)).isNone with
  |none=>exact absurd q (TX hj)
  |some k=>exactλz=>by cases z
 |fuel+1,u+1,i,h,e=>by
  unfold layClean.free
  cases q:(aa5 (runEnd mask i+1-i)).find? λk=>(owner.getD (i+k) (some 0)).isNone with
  |none=>exact zJc hj fuel u _ (Nat.lt_of_succ_lt_succ h) e
  |some k=>exactλz=>by cases z
theorem zMf{owner:Array (Option Nat)}{mask:Nat}(fuel:Nat)(h0:∀i,i<=mask->layClean.free mask owner fuel i 0≠none):∀(d i p:Nat),i<=mask->p<32^d->layClean.free mask owner (fuel+d) i p≠none
 |0,i,p,hi,hp=>by
  have e:p=0:=by rw[Nat.pow_zero] at hp;omega
  subst e
  exact h0 i hi
 |d+1,i,p,hi,hp=>by
  show layClean.free mask owner (fuel+d+1) i p≠none
  unfold layClean.free
  cases q:(aa5 (runEnd mask i+1-i)).find? λk=>(owner.getD (i+k) (some 0)).isNone with
  |none=>exact zMf fuel h0 d _ _ (ada (afa _ (aew _))) (by rw[Nat.pow_succ] at hp;show p/32<_;omega)
  |some k=>exactλz=>by cases z
theorem FJ{owner:Array (Option Nat)}{mask j:Nat}(hc:vg (mask+1)=true)(hs:j<=mask)(hj:owner.getD j (some 0)=none)(h:Int):∃k,layClean.free mask owner (turns mask) (bits h%(mask+1)) (bits h)=some k/\owner.getD k (some 0)=none:=by
 have q:layClean.free mask owner (mask+2+13) (bits h%(mask+1)) (bits h)≠none:=zMf (mask+2) (λi hi=>by
  obtain⟨u,hu,e⟩:=Fz hc (Nat.lt_succ_of_le hi) (Nat.lt_succ_of_le hs)
  exact zJc hj _ u i (by omega) e) 13 _ _ (ada (afa _ (aew _))) (by unfold bits;have:=ac4 h (b:=2^64) (by decide);have:=adw h (b:=2^64) (by decide);omega)
 unfold turns
 cases e:layClean.free mask owner (mask+15) (bits h%(mask+1)) (bits h) with
 |none=>exact absurd e q
 |some k=>exact⟨k,rfl,zJb _ _ _ _ e⟩
theorem ZD{α:Type}(v:α):∀(l:List (Option α))(j:Nat),l[j]?=some none->((l.set j (some v)).filterMap id).Perm (v::l.filterMap id)
 |[],j,h=>by simp at h
 |x::l,0,h=>by
  have e:x=none:=by simpa using h
  subst e
  exact .refl _
 |none::l,j+1,h=>by
  show((l.set j (some v)).filterMap id).Perm (v::l.filterMap id)
  exact ZD v l j (by simpa using h)
 |some x::l,j+1,h=>by
  show(x::(l.set j (some v)).filterMap id).Perm (v::x::l.filterMap id)
  exact((ZD v l j (by simpa using h)).cons x).trans (.swap _ _ _)
theorem zIg:∀(l:List (Option Nat)),(l.filterMap id).length<l.length->∃j,j<l.length/\l[j]?=some none
 |[],h=>by simp at h
 |none::l,_=>⟨0,by simp,rfl⟩
 |some x::l,h=>by
  obtain⟨j,hj,e⟩:=zIg l (by simpa using h)
  exact⟨j+1,by simpa using hj,e⟩
theorem getD_none{owner:Array (Option Nat)}:owner.getD j (some 0)=none↔owner.toList[j]?=some none:=by
 rw[Array.getD_eq_getD_getElem?,getElem?_toList]
 cases owner[j]? with
 |none=>simp
 |some x=>simp
theorem zVo{mask:Nat}(hc:vg (mask+1)=true):∀(hs:LI)(owner:Array (Option Nat))(k:Nat),owner.size=mask+1->(owner.toList.filterMap id).Perm (aa5 k)->k+hs.length<=mask ->
  ∃sy,hs.foldl (λacc h=>do
   let(owner,k) <-acc
   let j <-layClean.free mask owner (turns mask) (bits h%(mask+1)) (bits h)
   pure (owner.setIfInBounds j (some k),k+1)) (some (owner,k))=some (sy,k+hs.length)/\sy.size=mask+1/\(sy.toList.filterMap id).Perm (aa5 (k+hs.length))
 |[],owner,k,h1,h2,h3=>⟨owner,rfl,h1,h2⟩
 |h::hs,owner,k,h1,h2,h3=>by
  obtain⟨j,hj,ej⟩:=zIg owner.toList (by rw[h2.length_eq,length_range,length_toList,h1];rw[length_cons] at h3;omega)
  obtain⟨i,ei,fi⟩:=FJ hc (owner:=owner) (j:=j) (by rw[length_toList,h1] at hj;omega) (getD_none.mpr ej) h
  have q:=zVo hc hs (owner.setIfInBounds i (some k)) (k+1) (by rw[Array.size_setIfInBounds];exact h1) ?_ (by rw[length_cons] at h3;omega)
  ·obtain⟨o',e,z1,z2⟩:=q
   have ek:k+(h::hs).length=k+1+hs.length:=by rw[length_cons];omega
   refine⟨o',?_,z1,by rw[ek];exact z2⟩
   rw[ek,List.foldl_cons,<-e]
   refine congrArg (λz=>List.foldl _ z hs) ?_
   show(layClean.free mask owner (turns mask) (bits h%(mask+1)) (bits h)).bind _=_
   rw[ei]
   rfl
  ·rw[Array.toList_setIfInBounds,range_succ]
   exact((ZD k owner.toList i (getD_none.mp fi)).trans (h2.cons k)).trans (List.perm_append_singleton k _).symm
theorem zIu:∀(l:List (Option Nat)),(aa5 l.length).filterMap (λj=>(l[j]?).getD none)=l.filterMap id
 |[]=>rfl
 |x::l=>by
  rw[length_cons,range_succ_eq_map,filterMap_cons,filterMap_map]
  have e:((λj=>((x::l)[j]?).getD none)∘Nat.succ)=λj=>(l[j]?).getD none:=rfl
  rw[e,zIu l]
  cases x<;>rfl
theorem zQz{mask:Nat}(hc:vg (mask+1)=true)(finger moves:Nat)(led plain:Bool)(hs:Array Int)(hn:hs.size<=mask) :
  ∃t order,laid mask finger moves led plain hs=some (t,order)/\order.toList.Perm (aa5 hs.size)/\t.place.size=hs.size/\t.dummies=#[]/\t.mask=mask/\t.led=led/\t.plain=plain/\Rz t.place:=by
 obtain⟨o',e,z1,z2⟩:=zVo hc hs.toList (Array.replicate (mask+1) none) 0 (by rw[Array.size_replicate]) (by rw[Array.toList_replicate,List.filterMap_replicate_of_none rfl];exact .refl _) (by rw[acy,length_toList];exact hn)
 rw[acy,length_toList] at z2
 have el:layClean mask hs=some o':=by
  unfold layClean
  rw[<-Array.foldl_toList,e]
  rfl
 have eo:((aa5 (mask+1)).filterMap λj=>(o'.getD j none).map λk=>(j,k)).map (·.2)=o'.toList.filterMap id:=by
  rw[<-zIu o'.toList,length_toList,z1,List.map_filterMap]
  refine congrArg (λf=>filterMap f _) (funext λj=>?_)
  rw[Array.getD_eq_getD_getElem?,getElem?_toList]
  cases(o'[j]?).getD none<;>rfl
 refine⟨_,_,by unfold laid;rw[el];rfl,?_,?_,rfl,rfl,rfl,rfl,zIp (λj=>o'.getD j none) _⟩
 ·show((aa5 (mask+1)).filterMap λj=>(o'.getD j none).map λk=>(j,k)).map (·.2) |>.Perm _
  rw[eo]
  exact z2
 ·show(((aa5 (mask+1)).filterMap λj=>(o'.getD j none).map λk=>(j,k)).map (·.1)).length=_
  rw[length_map,<-length_map (f:=(·.2)),eo,z2.length_eq,length_range]
theorem zUu(h:n<=255):∃m,sizeAbove n=m+1/\n<=m/\vg (m+1)=true/\m<=255:=by
 by_cases h1:n<8
 ·exact⟨7,by unfold sizeAbove;unfold sizeAbove.go;rw[if_neg (by omega)],by omega,TF,by omega⟩
 by_cases h2:n<16
 ·exact⟨15,by unfold sizeAbove;unfold sizeAbove.go;rw[if_pos (by omega)];unfold sizeAbove.go;rw[if_neg (by omega)],by omega,TJ,by omega⟩
 by_cases h3:n<32
 ·exact⟨31,by unfold sizeAbove;unfold sizeAbove.go;rw[if_pos (by omega)];unfold sizeAbove.go;rw[if_pos (by omega)];unfold sizeAbove.go;rw[if_neg (by omega)],by omega,TQ,by omega⟩
 by_cases h4:n<64
 ·exact⟨63,by unfold sizeAbove;unfold sizeAbove.go;rw[if_pos (by omega)];unfold sizeAbove.go;rw[if_pos (by omega)];unfold sizeAbove.go;rw[if_pos (by omega)];unfold sizeAbove.go;rw[if_neg (by omega)],by omega,TV,by omega⟩
 by_cases h5:n<128
 ·exact⟨127,by unfold sizeAbove;unfold sizeAbove.go;rw[if_pos (by omega)];unfold sizeAbove.go;rw[if_pos (by omega)];unfold sizeAbove.go;rw[if_pos (by omega)];unfold sizeAbove.go;rw[if_pos (by omega)];unfold sizeAbove.go;rw[if_neg (by omega)],by omega,LK,by omega⟩
 ·exact⟨255,by unfold sizeAbove;unfold sizeAbove.go;rw[if_pos (by omega)];unfold sizeAbove.go;rw[if_pos (by omega)];unfold sizeAbove.go;rw[if_pos (by omega)];unfold sizeAbove.go;rw[if_pos (by omega)];unfold sizeAbove.go;rw[if_pos (by omega)];unfold sizeAbove.go;rw[if_neg (by omega)],by omega,LQ,by omega⟩
open PySem PySem.Spec PyProof.Rows
set_option maxRecDepth 100000
section
variable{prog:Program}{w:World}{κ:Type}[DecidableEq κ]{knd:KeyKind prog w κ}{dec:Value->κ}{led:Bool}{A:Around}{E:Value->Shared->Prop}{s:Shared}
theorem zGl{α:Type}(es:Array α)(order:Array Nat)(h:order.toList.Perm (aa5 es.size)):(order.filterMap (es[·]?)).toList.Perm es.toList:=by
 rw[Array.toList_filterMap]
 refine(h.filterMap _).trans ?_
 have e:(aa5 es.size).filterMap (es[·]?)=es.toList:=by
  have:∀l:List α,(aa5 l.length).filterMap (λj=>l[j]?)=l:=λl=>by
   induction l with
   |nil=>rfl
   |cons x l ih =>
    rw[length_cons,range_succ_eq_map,filterMap_cons,filterMap_map]
    show x::filterMap (λj=>l[j]?) _=_
    rw[ih]
  have q:=this es.toList
  rw[length_toList] at q
  rw[<-q]
  refine congrArg (λf=>filterMap f _) (funext λj=>?_)
  rw[getElem?_toList]
 rw[e]
theorem zLz{Q:Unit->Shared->Prop}(ho:s.heap.get? a=some o)(hd:o.data=.set es ep t)(hf:t.fits es.size=true)(hw:wanted<=255)(hn:es.size<=wanted)(h:∀(es':Array (Int×Value)) (t':SetTable),es'.toList.Perm es.toList->t'.place.size=es.size->t'.dummies=#[]->wanted<=t'.mask->vg (t'.mask+1)=true->t'.led=t.led->Rz t'.place->Q () { s with heap:=s.heap.update a (afb es' t') }):wpAny (model prog w) A (setRelay a wanted) Q E s:=by
 obtain⟨m,e1,e2,e3,e4⟩:=zUu hw
 unfold setRelay
 refine aaq (aa3 ho hd hf ?_)
 dsimp only
 rw[if_neg (by rw[e1];show¬m+1 > 2^24;omega)]
 obtain⟨t',order,q1,q2,q3,q4,q5,q6,q7,q8⟩:=zQz (mask:=m) e3 t.finger (t.movedTo m) t.led t.plain (es.map (·.1)) (by rw[size_map];omega)
 rw[size_map] at q2 q3
 have er:t.relaid (es.map (·.1)) wanted=some (t',order):=by
  unfold SetTable.relaid
  rw[e1]
  exact q1
 rw[er]
 have p:=zGl es order q2
 have sz:(order.filterMap (es[·]?)).size=es.size:=by rw[<-length_toList,p.length_eq,length_toList]
 refine aaq (m:=(if((order.filterMap (es[·]?)).size != es.size)=true then unsupported "internal:set-table-lost-an-element" else pure (order.filterMap (es[·]?),t'))) ?_
 rw[if_neg (by rw[sz];simp)]
 refine aar ?_
 exact acj ho hd (h _ t' p q3 q4 (by rw[q5];exact e2) (by rw[q5];exact e3) q6 q8) (by rw[sz];show es.size<=2^24;omega)
theorem ZF{t':SetTable}(h1:t'.place.size=n)(h2:t'.dummies=#[])(h3:wanted<=t'.mask)(h4:n<=wanted):t'.fits n=true:=by
 unfold fits aee
 rw[h1,h2]
 simp
 omega
theorem zLy{Q:Unit->Shared->Prop}(g:Good knd dec led s.heap a ks)(hw:wanted<=255)(hn:ks.length<=wanted)(h:∀h',SameBut a s.heap h'->Good knd dec led h' a ks->Q () { s with heap:=h' }):wpAny (model prog w) A (setRelay a wanted) Q E s:=by
 obtain⟨o,es,ep,t,ho,hx,hd,hel,hp,nd,hb,hf,tb⟩:=g
 have ln:es.size=ks.length:=by rw[<-hp.length_eq,length_map,length_toList]
 refine zLz ho hd hf hw (by rw[ln];exact hn) λes' t' p q3 q4 q5 q6 q7 q8=>h _ (SameBut.update _ a _) ?_
 have sz:es'.size=es.size:=by rw[<-length_toList,p.length_eq,length_toList]
 exact⟨_,es',_,t',Ip (es':=es') (t':=t') ho hd,hx,rfl,hel.perm p,(p.map _).trans hp,nd,by rw[sz];exact hb,by rw[sz];exact ZF q3 q4 q5 (by rw[ln];exact hn),⟨q7.trans tb.led,λ_=>q8⟩⟩
theorem FN{Q:Unit->Shared->Prop}(g:Good knd dec led s.heap a ks)(hw:(ks.length+more)*2<=255)(h:∀h',SameBut a s.heap h'->Good knd dec led h' a ks->Q () { s with heap:=h' }):wpAny (model prog w) A (setRoomFor a more) Q E s:=by
 obtain⟨o,es,ep,t,ho,hx,hd,hel,hp,nd,hb,hf,tb⟩:=id g
 have ln:es.size=ks.length:=by rw[<-hp.length_eq,length_map,length_toList]
 unfold setRoomFor
 refine aaq (aa3 ho hd hf ?_)
 dsimp only
 unfold SetTable.roomFor
 have pl:t.place.size=es.size:=Tp hf
 split
 ·rename_i z
  split at z
  ·cases z
   exact zLy g (by rw[pl,ln];exact hw) (by rw[pl,ln];omega) h
  ·cases z
 ·exact aar (h _ (SameBut.refl a s.heap) g)
theorem zFe{Q:Unit->Shared->Prop}(hr:s.heap.get? r=some { cls:=.type "set",dict:=none,data:=.set #[] 0 (.fresh 0 0 (zV w)) })(hne:r≠o)(g:Good knd dec (zV w) s.heap o ks)(hl:ks.length<=127)(h:∀h',SameBut r s.heap h'->Good knd dec (zV w) h' r ks->Q () { s with heap:=h' }):wpAny (model prog w) A (setMerge r o each) Q E s:=by
 obtain⟨ob,es,ep,t,ho,hx,hd,hel,hp,nd,hb,hf,tb⟩:=id g
 have ln:es.size=ks.length:=by rw[<-hp.length_eq,length_map,length_toList]
 unfold setMerge
 rw[if_neg (by simpa using hne)]
 refine aaq (aa3 ho hd hf ?_)
 dsimp only
 by_cases hemp:es.isEmpty=true
 ·rw[if_pos hemp]
  have e0:es.size=0:=by simpa[isEmpty] using hemp
  have k0:ks=[]:=length_eq_zero_iff.mp (by rw[<-ln];exact e0)
  subst k0
  exact aar (h _ (SameBut.refl r s.heap) (Tn hr))
 rw[if_neg hemp]
 refine aaq (ab9 (Q:=λ_ s'=>∃(h1:Heap)(o1:Obj)(ep1:Nat)(t1:SetTable),s'={ s with heap:=h1 }/\SameBut r s.heap h1/\h1.get? r=some o1/\o1.ExactSet/\o1.data=.set #[] ep1 t1/\t1.place.size=0/\t1.dummies=#[]/\t1.led=zV w/\vg (t1.mask+1)=true/\es.size<=t1.mask) ?first ?post (λ_ _ h=>h))
 case post =>
  rintro _ _ ⟨h1,o1,ep1,t1,rfl,sb,g1,x1,d1,pl,du,le,cy,rm⟩
  refine aaq (aa3 (s:={ s with heap:=h1 }) g1 d1 (by show t1.fits 0=true;exact ZF pl du (abd _) (aau 0)) ?_)
  dsimp only
  have hfill:t1.fill=0:=by unfold aee;rw[pl,du];rfl
  unfold SetTable.road
  rw[hfill]
  rw[if_neg (by simp)]
  by_cases hsl:(t1.mask==t.mask&&t.dummies.isEmpty)=true
  ·rw[if_pos hsl]
   refine acj (s:={ s with heap:=h1 }) g1 d1 (h _ (sb.trans (SameBut.update _ r _)) ⟨_,es,_,_,Ip (es':=es) (t':=_) g1 d1,x1,rfl,hel,hp,nd,hb,hf,⟨?_,λz=>tb.rz (Bool.and_eq_true_iff.mp z).2⟩⟩) (aci hb)
   show(t1.led&&t.led)=_
   rw[le,tb.led,ae7]
  ·rw[if_neg hsl]
   obtain⟨t',order,q1,q2,q3,q4,q5,q6,q7,q8⟩:=zQz (mask:=t1.mask) cy t1.finger t1.moves (t1.led&&t.led) (t1.plain&&t.plain) (es.map (·.1)) (by rw[size_map];exact rm)
   rw[size_map] at q2 q3
   dsimp only
   rw[q1]
   have p:=zGl es order q2
   have sz:(order.filterMap (es[·]?)).size=es.size:=by rw[<-length_toList,p.length_eq,length_toList]
   refine aaq (m:=(if((order.filterMap (es[·]?)).size != es.size)=true then unsupported "internal:set-table-lost-an-element" else pure (order.filterMap (es[·]?),t'))) ?_
   rw[if_neg (by rw[sz];simp)]
   refine aar ?_
   refine acj (s:={ s with heap:=h1 }) g1 d1 (h _ (sb.trans (SameBut.update _ r _)) ⟨_,_,_,t',Ip (es':=order.filterMap (es[·]?)) (t':=t') g1 d1,x1,rfl,hel.perm p,(p.map _).trans hp,nd,by rw[sz];exact hb,by rw[sz];exact ZF q3 q4 (by rw[q5];exact rm) (aau _),⟨?_,λ_=>q8⟩⟩) (aci (by rw[sz];exact hb))
   rw[q6,le,tb.led,ae7]
 case first =>
  unfold setRoomFor
  refine aaq (aa3 hr rfl rfl ?_)
  dsimp only
  have e1:(SetTable.fresh 0 0 (zV w)).roomFor es.size=if(es.size*5 ≥ 21) then some (es.size*2) else none:=by
   unfold SetTable.roomFor aee SetTable.fresh
   simp
  rw[e1]
  by_cases c:es.size*5 ≥ 21
  ·rw[if_pos c]
   refine zLz hr rfl rfl (by omega) (abd _) λes' t' p q3 q4 q5 q6 q7 q8=>?_
   have ee:es'=#[]:=by
    have:=p.length_eq
    rw[length_toList] at this
    exact Array.eq_empty_of_size_eq_zero this
   subst ee
   exact⟨_,_,_,t',rfl,SameBut.update _ r _,Ip (es':=#[]) (t':=t') hr rfl,⟨rfl,rfl,rfl⟩,rfl,q3,q4,q7,q6,by omega⟩
  ·rw[if_neg c]
   exact aar ⟨s.heap,_,0,_,rfl,SameBut.refl r s.heap,hr,⟨rfl,rfl,rfl⟩,rfl,rfl,rfl,rfl,TF,by show es.size<=7;omega⟩
end
set_option maxRecDepth 100000
section
variable{prog:Program}{w:World}{κ:Type}[DecidableEq κ]{knd:KeyKind prog w κ}{dec:Value->κ}{led:Bool}{A:Around}{E:Value->Shared->Prop}{s:Shared}
theorem zRy{Q:Value->Shared->Prop}(g:Good knd dec (zV w) s.heap a ks)(hl:ks.length<=127)(h:∀(h':Heap),Good knd dec (zV w) h' s.heap.objs.size ks->(∀c o,c<s.heap.objs.size->s.heap.get? c=some o->h'.get? c=some o)->(ks=[]->h'=s.heap.push { cls:=.type "set",dict:=none,data:=.set #[] 0 (.fresh 0 0 (zV w)) })->Q (.ref s.heap.objs.size) { s with heap:=h' }) :
  wpAny (model prog w) A (adq a) Q E s:=by
 have la:a<s.heap.objs.size:=by obtain⟨o,_,_,_,h1,_⟩:=g;exact lt_size h1
 have up:∀c o,s.heap.get? c=some o->(s.heap.push { cls:=.type "set",dict:=none,data:=.set #[] 0 (.fresh 0 0 (zV w)) }).get? c=some o:=λc o e=>get?_push_of_some _ e
 have g1:=g.keep (up a)
 unfold adq
 refine aaq (Zw g.type (aaq (Zx ?_)))
 refine aaq (aar ?_)
 cases ks with
 |nil =>
  obtain⟨o,es,ep,t,ho,hx,hd,hel,hp,nd,hb,hf,tb⟩:=g1
  have e0:es.size=0:=by rw[<-length_toList];have:=hp.length_eq;rw[length_map] at this;exact this
  unfold setMerge
  rw[if_neg (by simpa using(adh la))]
  refine aaq (aaq (aa3 (s:={ s with heap:=_ }) ho hd hf ?_))
  dsimp only
  rw[if_pos (by simpa[isEmpty] using e0)]
  refine aar (aar (h _ (Tn (get?_push_size _ rfl)) (λc o _ e=>up c o e) λ_=>rfl))
 |cons k0 ks0 =>
  refine aaq (zFe (s:={ s with heap:=_ }) (get?_push_size _ rfl) (adh la) g1 hl λh' sb g'=>?_)
  exact aar (h h' g' (λc o hc e=>by rw[sb.2 c (aay hc)];exact up c o e) λz=>by cases z)
theorem TY{α:Type}(xs:Array α)(p:Nat):(eraseAt xs p).toList=xs.toList.eraseIdx p:=by
 unfold eraseAt
 rw[Array.toList_append,List.eraseIdx_eq_take_drop_succ,Array.toList_extract,Array.toList_extract]
 simp[List.extract_eq_take_drop]
 exact List.take_of_length_le (by rw[length_drop,length_toList];omega)
theorem zT8{α:Type}(xs:Array α)(p:Nat)(x:α):(insertAt xs p x).size=xs.size+1:=by
 unfold insertAt
 simp
 omega
theorem T3(hr:Rz xs)(p:Nat):Rz (eraseAt xs p):=by
 intro i k a b hik ha hb
 rw[<-getElem?_toList,TY,List.getElem?_eraseIdx] at ha hb
 have q:∀j,xs.toList[j]?=xs[j]?:=λj=>getElem?_toList
 split at ha<;>split at hb
 ·exact hr i k a b hik (by rw[<-q];exact ha) (by rw[<-q];exact hb)
 ·exact hr i (k+1) a b (by omega) (by rw[<-q];exact ha) (by rw[<-q];exact hb)
 ·omega
 ·exact hr (i+1) (k+1) a b (by omega) (by rw[<-q];exact ha) (by rw[<-q];exact hb)
theorem zOp(hdec:∀k v,knd.is k v=true->dec v=k){Q:Bool->Shared->Prop}(hk:knd.is k x=true)(hs:x.scannable=true)(g:Good knd dec led s.heap a ks)(h:∀(h':Heap) (b:Bool),SameBut a s.heap h'->Good knd dec led h' a (ks.erase k)->Q b { s with heap:=h' }) :
  wpAny (model prog w) A (setDiscardHashed a x (knd.hash k)) Q E s:=by
 obtain⟨o,es,ep,t,ho,hx,hd,hel,hp,nd,hb,hf,tb⟩:=id g
 unfold setDiscardHashed
 refine aaq ?_
 unfold setFind setFindIn
 refine aaq (aa3 ho hd hf ?_)
 dsimp only
 rw[byScan_of hs hb hel]
 simp only[↓reduceIte]
 refine aaq (aec (aaq (wpAny_setScan_of hk ho hd hf hel ?_)))
 have fi:=zJd hdec hel k
 cases hr:List.findIdx? (λe=>knd.is k e.2) es.toList with
 |none =>
  have hm:k∉ks:=λz=>fi.mp hr (hp.mem_iff.mpr z)
  dsimp only
  refine aar (aar ?_)
  have q:=h s.heap false (SameBut.refl a s.heap)
  rw[List.erase_of_not_mem hm] at q
  exact q g
 |some j =>
  obtain⟨hj,hpj,_⟩:=List.findIdx?_eq_some_iff_getElem.mp hr
  dsimp only
  rw[acy]
  refine aar (aaq (aa3 ho hd hf ?_))
  dsimp only
  have pl:t.place.size=es.size:=Tp hf
  have hj':j<t.place.size:=by rw[pl,<-length_toList];exact hj
  have sz:(eraseAt es j).size=es.size-1:=by rw[<-length_toList,TY,length_eraseIdx,if_pos hj,length_toList]
  have ed:t.drop j={ t with place:=eraseAt t.place j,dummies:=insertAt t.dummies (below t.dummies t.place[j]) t.place[j] }:=by
   unfold SetTable.drop
   rw[aax hj']
  have jz:j<es.size:=by rw[<-length_toList];exact hj
  have ft:(t.drop j).fits (eraseAt es j).size=true:=by
   rw[ed]
   unfold fits aee at hf ⊢
   have e1:(eraseAt t.place j).size=es.size-1:=by rw[<-length_toList,TY,length_eraseIdx,length_toList,if_pos hj',pl]
   dsimp only
   rw[e1,zT8,sz]
   rw[aav,decide_eq_true_eq] at hf
   rw[aav,decide_eq_true_eq]
   refine⟨by simp,?_⟩
   have:=hf.2
   omega
  have tb':Tb led (t.drop j):=by
   rw[ed]
   exact⟨tb.led,λz=>T3 (tb.rz z) j⟩
  have hp':((eraseAt es j).toList.map λe=>dec e.2).Perm (ks.erase k):=by
   rw[TY]
   have p1:=((Wq hj).map λe=>dec e.2).trans hp
   rw[map_cons,hdec k _ hpj] at p1
   have p2:=p1.erase k
   rw[List.erase_cons_head] at p2
   exact p2
  refine aaq (acj ho hd (aaq (wpAny_point (aar (h _ true (SameBut.update _ a _) ⟨_,_,_,_,Ip (es':=eraseAt es j) (t':=t.drop j) ho hd,hx,rfl,λe he=>?_,hp',nd.erase k,by rw[sz];omega,ft,tb'⟩)))) (aci (by rw[sz];omega)))
  rw[TY] at he
  exact hel e (List.mem_of_mem_eraseIdx he)
theorem FQ{Q:Unit->Shared->Prop}(g:Good knd dec led s.heap a ks)(hw:ks.length<=63)(h:∀h',SameBut a s.heap h'->Good knd dec led h' a ks->Q () { s with heap:=h' }):wpAny (model prog w) A (setTidy a) Q E s:=by
 obtain⟨o,es,ep,t,ho,hx,hd,hel,hp,nd,hb,hf,tb⟩:=id g
 have ln:es.size=ks.length:=by rw[<-hp.length_eq,length_map,length_toList]
 unfold setTidy
 refine aaq (aa3 ho hd hf ?_)
 dsimp only
 split
 ·have e:grown es.size=ks.length*4:=by unfold grown;rw[if_neg (by omega),ln]
  rw[e]
  exact zLy g (by omega) (by omega) h
 ·exact aar (h _ (SameBut.refl a s.heap) g)
theorem zNd(g:Good knd dec (zV w) s.heap a ks)(hs:∀b∈others,∃ks:List κ,Good knd dec (zV w) s.heap b ks)(hn:∀k v,knd.is k v=true->∀b,v≠.ref b){Q:Array (Int×Value)->Shared->Prop}(h:∀(es:Array (Int×Value)),ElemsOf knd es.toList->(es.toList.map λe=>dec e.2).Perm ks->Q es s):wpAny (model prog w) A (setWalkUnseen a others none) Q E s:=by
 obtain⟨o,es,ep,t,h1,h2,h3,hf,hl,tb,hel,hp⟩:=g.size
 unfold setWalkUnseen
 refine aaq (aa3 h1 h3 hf ?_)
 dsimp only
 refine aaq (Lr ?_)
 split
 ·rename_i c
  refine zO0 g (λhb o' es' ep' t' h1' h3'=>?_) λes' mV hp'=>h es' mV hp'
  rw[h1] at h1'
  cases h1'
  rw[h3] at h3'
  cases h3'
  rw[hb] at c
  simp only[aed,abl,aav,decide_eq_true_eq] at c
  rcases c with⟨_,c⟩|c
  ·rw[c];rfl
  ·rw[decide_eq_false (by omega),ae1]
 ·refine aaq (zL0 (knd:=knd) (dec:=dec) (led:=zV w) (a::others) (λb hb=>(mem_cons.mp hb).elim (λe=>e▸⟨ks,g⟩) (hs b)) hn ?_)
  simp only[abt,aa1,↓reduceIte]
  exact aaq (aec (aar (h es hel hp)))
theorem FT(hdec:∀k v,knd.is k v=true->dec v=k)(id:String)(hn:∀k v,knd.is k v=true->∀b,v≠.ref b)(hab:b≠r)(ga:Good knd dec (zV w) s.heap r ka)(gb:Good knd dec (zV w) s.heap b kb)(hl:ka.length<=63)(hs:¬kb.length/8 > ka.length){Q:Unit->Shared->Prop}(h:∀(h':Heap) (kr:List κ),SameBut r s.heap h'->Good knd dec (zV w) h' r kr->(∀k,k∈kr↔k∈ka/\k∉kb)->Q () { s with heap:=h' }) :
  wpAny (model prog w) A (Builtin.Frozenset.differenceUpdate id r (.ref b)) Q E s:=by
 obtain⟨o,es,ep,t,h1,h2,h3,hf,hlb,tb,hel,hp⟩:=gb.size
 have nda:ka.Nodup:=by obtain⟨_,_,_,_,_,_,_,_,_,nd,_⟩:=ga;exact nd
 unfold Builtin.Frozenset.differenceUpdate
 rw[if_neg (λe=>hab (aeu (abz e)))]
 refine aaq (CP gb.type ?_)
 simp only[↓reduceIte]
 refine aaq (aar ?_)
 refine aaq (PN gb (aaq (PN ga ?_)))
 rw[if_neg hs]
 refine aaq (aby h1 h3 hf ?_)
 refine aaq (abm (aaq (zNd gb (λc hc=>(mem_singleton.mp hc)▸⟨ka,ga⟩) hn λes' mV hp'=>?_)))
 rw[<-forIn_toList]
 refine aaq (ab9 (ac3 (β:=Unit) _ (λl _ s'=>∃h2 kr,s'={ s with heap:=h2 }/\SameBut r s.heap h2/\Good knd dec (zV w) h2 r kr/\ElemsOf knd l/\kr.length<=63/\∀k,(k∈kr/\k∉l.map λe=>dec e.2)↔(k∈ka/\k∉kb)) (λ_ s'=>∃h2 kr,s'={ s with heap:=h2 }/\SameBut r s.heap h2/\Good knd dec (zV w) h2 r kr/\kr.length<=63/\∀k,k∈kr↔k∈ka/\k∉kb) ?turn ?fin es'.toList () ⟨s.heap,ka,rfl,SameBut.refl r s.heap,ga,mV,hl,λk=>?_⟩) ?post (λ_ _ h=>h))
 case turn =>
  rintro⟨hs',v⟩ l b' s' ⟨h2',kr,rfl,jU,g2,hl2,hlen,hm⟩
  obtain⟨⟨k,hk,hh⟩,hsc⟩:=hl2 _ mem_cons_self
  dsimp only at hk hh hsc ⊢
  subst hh
  have dv:dec v=k:=hdec k v hk
  have ndr:kr.Nodup:=by obtain⟨_,_,_,_,_,_,_,_,_,nd,_⟩:=g2;exact nd
  refine aaq (abm (zOp (led:=zV w) (s:={ s with heap:=h2' }) hdec hk hsc g2 λh3' b'' qX g3=>?_))
  refine aaq ?_
  unfold abg
  refine aaq (aby (s:={ s with heap:=h3' }) (by show h3'.get? b=_;rw[qX.2 b hab];show h2'.get? b=_;rw[jU.2 b hab];exact h1) h3 hf ?_)
  simp only[bne_self_eq_false,aa1,↓reduceIte]
  refine aar (aar ⟨h3',kr.erase k,rfl,jU.trans qX,g3,λe he=>hl2 e (mem_cons_of_mem _ he),?_,λc=>?_⟩)
  ·have:=List.length_erase_le (a:=k) (l:=kr)
   omega
  ·rw[<-hm c,map_cons,mem_cons]
   show _↔(c∈kr/\¬(c=dec v\/_))
   rw[dv,ndr.mem_erase_iff]
   constructor
   ·rintro⟨⟨z1,z2⟩,z3⟩
    exact⟨z2,λq=>q.elim z1 z3⟩
   ·rintro⟨z1,z2⟩
    exact⟨⟨λq=>z2 (.inl q),z1⟩,λq=>z2 (.inr q)⟩
 case fin =>
  rintro b' s' ⟨h2',kr,rfl,jU,g2,_,hlen,hm⟩
  refine⟨h2',kr,rfl,jU,g2,hlen,λk=>?_⟩
  rw[<-hm k]
  simp
 case post =>
  rintro b' s' ⟨h2',kr,rfl,jU,g2,hlen,hm⟩
  refine aar ?_
  exact FQ (s:={ s with heap:=h2' }) g2 hlen λh3' qX g3=>h h3' kr (jU.trans qX) g3 hm
 ·rw[hp'.mem_iff]
end
set_option maxRecDepth 100000
theorem zHa:entryFor table "set.__sub__" = some Builtin.«frozenset.__sub__»:=ad6 (id':="frozenset.__sub__") (by kernel_rfl) rfl (by decide +kernel) (by kernel_rfl)
theorem zIm:entryFor table "set.__or__" = some Builtin.«frozenset.__or__»:=ad6 (id':="frozenset.__or__") (by kernel_rfl) rfl (by decide +kernel) (by kernel_rfl)
section
variable{prog:Program}{w:World}{κ:Type}[DecidableEq κ]{knd:KeyKind prog w κ}{dec:Value->κ}{led:Bool}{A:Around}{E:Value->Shared->Prop}{s:Shared}
theorem zRt(hdec:∀k v,knd.is k v=true->dec v=k)(id:String)(hn:∀k v,knd.is k v=true->∀b,v≠.ref b)(Zu:x≠r)(Ww:y≠r)(gx:Good knd dec (zV w) s.heap x kx)(gy:Good knd dec (zV w) s.heap y ky)(gr:Good knd dec (zV w) s.heap r [])(ZG:∀o es e t,s.heap.get? y=some o->o.data=.set es e t->e=ep){Q:Unit->Shared->Prop}(h:∀(h':Heap) (kr:List κ),SameBut r s.heap h'->Good knd dec (zV w) h' r kr->(∀k,k∈kr↔k∈ky/\k∉kx)->Q () { s with heap:=h' }) :
  wpAny (model prog w) A (do
   for (h,x') in <-setWalkUnseen y [x,r] (some r) do
    holding [x'] do
     let there <-pure (<-setFind x x' h).isSome
     if !there then
      let _ <-setAddHashed r x' h
    abg id y ep) Q E s:=by
 obtain⟨o,es,ep',t,h1,h2,h3,hf,hl,tb,hel,hp⟩:=gy.size
 have e1:=ZG o es ep' t h1 h3
 subst e1
 refine aaq (Zr gy gr (λb hb=>(mem_cons.mp hb).elim (λe=>e▸⟨kx,gx⟩) λe=>(mem_singleton.mp e)▸⟨[],gr⟩) hn λes' h' mV hp' sb Tt=>?_)
 rw[<-forIn_toList]
 have ln:es'.toList.length=ky.length:=by rw[<-hp'.length_eq,length_map]
 refine aaq (ab9 (ac3 (β:=Unit) _ (λl _ s'=>∃h2 kr,s'={ s with heap:=h2 }/\SameBut r s.heap h2/\Good knd dec (zV w) h2 r kr/\ElemsOf knd l/\kr.length+l.length<=ky.length/\∀k,(k∈kr\/(k∉kx/\k∈l.map λe=>dec e.2))↔(k∈ky/\k∉kx)) (λ_ s'=>∃h2 kr,s'={ s with heap:=h2 }/\SameBut r s.heap h2/\Good knd dec (zV w) h2 r kr/\∀k,k∈kr↔k∈ky/\k∉kx) ?turn ?fin es'.toList () ⟨h',[],rfl,sb,Tt,mV,by rw[ln,length_nil];omega,λk=>?_⟩) ?post (λ_ _ h=>h))
 case turn =>
  rintro⟨hs,v⟩ l b s' ⟨h2,kr,rfl,jU,g2,hl2,hlen,hm⟩
  obtain⟨⟨k,hk,hh⟩,hsc⟩:=hl2 _ mem_cons_self
  dsimp only at hk hh hsc ⊢
  subst hh
  have kx':∀o,s.heap.get? x=some o->h2.get? x=some o:=λo e=>by rw[jU.2 x Zu];exact e
  have Zv:=gx.keep kx'
  have dv:dec v=k:=hdec k v hk
  rw[length_cons] at hlen
  have cont:∀(h3':Heap)(A_:List κ),SameBut r s.heap h3'->Good knd dec (zV w) h3' r A_->A_.length+l.length<=ky.length->(∀c,(c∈A_\/(c∉kx/\c∈l.map λe=>dec e.2))↔(c∈ky/\c∉kx)) ->
    wpAny (model prog w) A (abg id y ep') (λ_ s''=>wpAny (model prog w) A (pure (acn ())) (λq s''=>match q with|.yield _=>∃h2 kr,s''={ s with heap:=h2 }/\SameBut r s.heap h2/\Good knd dec (zV w) h2 r kr/\ElemsOf knd l/\kr.length+l.length<=ky.length/\∀k,(k∈kr\/(k∉kx/\k∈l.map λe=>dec e.2))↔(k∈ky/\k∉kx)|.done _=>∃h2 kr,s''={ s with heap:=h2 }/\SameBut r s.heap h2/\Good knd dec (zV w) h2 r kr/\∀k,k∈kr↔k∈ky/\k∉kx) E s'') E { s with heap:=h3' }:=λh3' A_ qX g3 l3 m3=>by
   unfold abg
   refine aaq (aby (s:={ s with heap:=h3' }) (by show h3'.get? y=_;rw[qX.2 y Ww];exact h1) h3 hf ?_)
   simp only[bne_self_eq_false,aa1,↓reduceIte]
   exact aar (aar ⟨h3',A_,rfl,qX,g3,λe he=>hl2 e (mem_cons_of_mem _ he),l3,m3⟩)
  refine aaq (abm (aaq (wpAny_setFind_of (s:={ s with heap:=h2 }) hk hsc (Zv.setOf hdec) λq hq=>aaq (aar ?_))))
  cases q with
  |some j =>
   have nk:k∈kx:=by simpa using hq.symm
   simp only[adx,abt,aa1,↓reduceIte]
   refine aar (aaq (cont h2 kr jU g2 (by omega) λc=>?_))
   rw[<-hm c,map_cons,mem_cons]
   show _↔(c∈kr\/c∉kx/\(c=dec v\/_))
   rw[dv]
   constructor
   ·rintro(z|⟨z1,z2⟩)
    ·exact .inl z
    ·exact .inr ⟨z1,.inr z2⟩
   ·rintro(z|⟨z1,z2|z2⟩)
    ·exact .inl z
    ·exact absurd nk (z2▸z1)
    ·exact .inr ⟨z1,z2⟩
  |none =>
   have mk:k∉kx:=by simpa using hq.symm
   simp only[Option.isSome_none,Bool.not_false,↓reduceIte]
   refine aaq (Wo (led:=zV w) (s:={ s with heap:=h2 }) hdec hk hsc g2 (by have:=gy.len;omega) λh3' b' qX g3=>?_)
   refine aar (aaq (cont h3' _ (jU.trans qX) g3 ?_ λc=>?_))
   ·split
    ·omega
    ·rw[length_cons];omega
   ·rw[<-hm c,map_cons,mem_cons]
    show _↔(c∈kr\/c∉kx/\(c=dec v\/_))
    rw[dv]
    have e:c∈(if k∈kr then kr else k::kr)↔c=k\/c∈kr:=by
     split
     ·rename_i z
      exact⟨.inr,λq=>q.elim (λq=>q▸z) λq=>q⟩
     ·exact mem_cons
    rw[e]
    constructor
    ·rintro((z|z)|⟨z1,z2⟩)
     ·exact .inr ⟨z▸mk,.inl z⟩
     ·exact .inl z
     ·exact .inr ⟨z1,.inr z2⟩
    ·rintro(z|⟨z1,z2|z2⟩)
     ·exact .inl (.inr z)
     ·exact .inl (.inl z2)
     ·exact .inr ⟨z1,z2⟩
 case fin =>
  rintro b s' ⟨h2,kr,rfl,jU,g2,_,_,hm⟩
  refine⟨h2,kr,rfl,jU,g2,λk=>?_⟩
  rw[<-hm k]
  simp
 case post =>
  rintro b s' ⟨h2,kr,rfl,jU,g2,hm⟩
  exact aar (h h2 kr jU g2 hm)
 ·rw[hp'.mem_iff]
  constructor
  ·rintro(z|⟨z1,z2⟩)
   ·cases z
   ·exact⟨z2,z1⟩
  ·exactλ⟨z1,z2⟩=>.inr ⟨z2,z1⟩
theorem FW(hdec:∀k v,knd.is k v=true->dec v=k)(id:String)(hn:∀k v,knd.is k v=true->∀b,v≠.ref b)(hab:b≠a)(ga:Good knd dec (zV w) s.heap a ka)(gb:Good knd dec (zV w) s.heap b kb)(hl:ka.length<=63){Q:Value->Shared->Prop}(h:∀(h':Heap) (kr:List κ),Good knd dec (zV w) h' s.heap.objs.size kr->(∀k,k∈kr↔k∈ka/\k∉kb)->(∀c o,c<s.heap.objs.size->s.heap.get? c=some o->h'.get? c=some o)->Q (.ref s.heap.objs.size) { s with heap:=h' }) :
  wpAny (model prog w) A (Builtin.Frozenset.difference id a (.ref b)) Q E s:=by
 have la:a<s.heap.objs.size:=by obtain⟨o,_,_,_,h1,_⟩:=ga;exact lt_size h1
 have lb:b<s.heap.objs.size:=by obtain⟨o,_,_,_,h1,_⟩:=gb;exact lt_size h1
 unfold Builtin.Frozenset.difference
 refine aaq (CP gb.type ?_)
 simp only[abt,aa1,Bool.false_and,↓reduceIte]
 refine aaq (aar ?_)
 refine aaq (PN gb (aaq (PN ga ?_)))
 split
 ·rename_i c
  refine aaq (aec (aaq (zRy ga (by omega) λh' g' k' _=>?_)))
  refine aaq (aar ?_)
  refine aaq (abm (FT (s:={ s with heap:=h' }) hdec id hn (aay lb) g' (gb.keep λo e=>k' b o lb e) hl (by omega) λh2 kr sb g2 m=>aar (h h2 kr g2 m λc o hc e=>?_)))
  rw[sb.2 c (aay hc)]
  exact k' c o hc e
 ·refine aaq (Zw ga.type (aaq (Zx ?_)))
  refine aaq (aar ?_)
  have up:∀c o,s.heap.get? c=some o->(s.heap.push { cls:=.type "set",dict:=none,data:=.set #[] 0 (.fresh 0 0 (zV w)) }).get? c=some o:=λc o e=>get?_push_of_some _ e
  have Iw:=ga.keep (up a)
  have Iz:=gb.keep (up b)
  have PX:Good knd dec (zV w) (s.heap.push { cls:=.type "set",dict:=none,data:=.set #[] 0 (.fresh 0 0 (zV w)) }) s.heap.objs.size []:=Tn (get?_push_size _ rfl)
  generalize hp:s.heap.push { cls:=.type "set",dict:=none,data:=.set #[] 0 (.fresh 0 0 (zV w)) }=hq at up Iw Iz PX ⊢
  obtain⟨o,es,ep,t,h1,h2,h3,hf,hl,tb,hel,hpp⟩:=Iw.size
  refine aaq (aby (s:={ s with heap:=hq }) h1 h3 hf ?_)
  refine aaq (abm (zRt (s:={ s with heap:=hq }) hdec id hn (aay lb) (aay la) Iz Iw PX (λo' es' e' t' z1 z2=>?_) λh' kr sb g m=>aar (h h' kr g m λc o hc e=>?_)))
  ·have P_:hq.get? a=some o':=z1
   rw[h1] at P_
   cases P_
   rw[h3] at z2
   cases z2
   rfl
  ·rw[sb.2 c (aay hc)];exact up c o e
theorem LR(hdec:∀k v,knd.is k v=true->dec v=k)(hn:∀k v,knd.is k v=true->∀b,v≠.ref b)(hab:b≠a)(ga:Good knd dec (zV w) s.heap a ka)(gb:Good knd dec (zV w) s.heap b kb)(hl:ka.length<=63){Q:Value->Shared->Prop}(h:∀(h':Heap) (kr:List κ),Good knd dec (zV w) h' s.heap.objs.size kr->(∀k,k∈kr↔k∈ka/\k∉kb)->(∀c o,c<s.heap.objs.size->s.heap.get? c=some o->h'.get? c=some o)->Q (.ref s.heap.objs.size) { s with heap:=h' }) :
  wpAny (model prog w) A (binaryOp .Sub (.ref a) (.ref b)) Q E s:=by
 refine aeh (op:=.Sub) (T:="set") ga.type gb.type F.fills_set_sub F.slot_set_sub (ach F.slot_set_sub ga.type zHa ?_ (F.args_set_sub_2 _ _))
 refine aaq (m:=ab6 "__sub__" ⟨[.ref a,.ref b],[]⟩) ?_
 unfold ab6 slotArgs
 refine aar ?_
 dsimp only
 refine aaq (aaq (CP ga.type ?_))
 refine CP gb.type ?_
 simp only[abt,aa1,↓reduceIte]
 refine aaq (aar (aaq (FW hdec _ hn hab ga gb hl λh' kr g m k=>aar ⟨.ref s.heap.objs.size,rfl,?_,h h' kr g m k⟩)))
 exactλz=>aep z
end
set_option maxRecDepth 100000
section
variable{prog:Program}{w:World}{κ:Type}[DecidableEq κ]{knd:KeyKind prog w κ}{dec:Value->κ}{led:Bool}{A:Around}{E:Value->Shared->Prop}{s:Shared}
theorem zTy(hdec:∀k v,knd.is k v=true->dec v=k)(id:String)(hn:∀k v,knd.is k v=true->∀b,v≠.ref b)(hne:o≠r)(g:Good knd dec (zV w) s.heap r kr)(go:Good knd dec (zV w) s.heap o ko)(hk:kr≠[])(hl:(kr.length+ko.length)*2<=255)(ZG:∀ob es e t,s.heap.get? o=some ob->ob.data=.set es e t->e=ep){Q:Unit->Shared->Prop}(h:∀(h':Heap) (ks:List κ),SameBut r s.heap h'->Good knd dec (zV w) h' r ks->(∀k,k∈ks↔k∈kr\/k∈ko)->Q () { s with heap:=h' }) :
  wpAny (model prog w) A (setMerge r o (abg id o ep)) Q E s:=by
 obtain⟨ob,es,ep',t,h1,h2,h3,hf,hlo,tb,hel,hp⟩:=go.size
 have e1:=ZG ob es ep' t h1 h3
 subst e1
 unfold setMerge
 rw[if_neg (by simpa using(aco hne))]
 refine aaq (aa3 h1 h3 hf ?_)
 dsimp only
 by_cases hemp:es.isEmpty=true
 ·rw[if_pos hemp]
  have e0:es.size=0:=by simpa[isEmpty] using hemp
  have k0:ko=[]:=length_eq_zero_iff.mp (by rw[<-hlo];exact e0)
  subst k0
  exact aar (h _ kr (SameBut.refl r s.heap) g λk=>by simp)
 rw[if_neg hemp]
 refine aaq (FN g (by rw[hlo];exact hl) λh4 sb4 g4=>?_)
 obtain⟨o5,es5,ep5,t5,i1,i2,i3,if5,il5,tb5,aap,ip5⟩:=g4.size
 have go4:=go.keep (h':=h4) λob' e=>by rw[sb4.2 o hne];exact e
 refine aaq (aa3 (s:={ s with heap:=h4 }) i1 i3 if5 ?_)
 dsimp only
 have hfill:t5.fill≠0:=by
  unfold aee
  rw[Tp if5,il5]
  cases kr with
  |nil=>exact absurd rfl hk
  |cons a l=>rw[length_cons];omega
 unfold SetTable.road
 rw[if_pos (by simpa using hfill)]
 dsimp only
 refine aaq (Zr (s:={ s with heap:=h4 }) go4 g4 (λb hb=>(mem_singleton.mp hb)▸⟨kr,g4⟩) hn λes' h' mV hp' sb Tt=>?_)
 rw[<-forIn_toList]
 have ln:es'.toList.length=ko.length:=by rw[<-hp'.length_eq,length_map]
 refine aaq (ab9 (ac3 (β:=Unit) _ (λl _ s'=>∃h2 ks,s'={ s with heap:=h2 }/\SameBut r s.heap h2/\Good knd dec (zV w) h2 r ks/\ElemsOf knd l/\ks.length+l.length<=128/\∀k,(k∈ks\/k∈l.map λe=>dec e.2)↔(k∈kr\/k∈ko)) (λ_ s'=>∃h2 ks,s'={ s with heap:=h2 }/\SameBut r s.heap h2/\Good knd dec (zV w) h2 r ks/\∀k,k∈ks↔k∈kr\/k∈ko) ?turn ?fin es'.toList () ⟨h',kr,rfl,sb4.trans sb,Tt,mV,by rw[ln];omega,λk=>?_⟩) ?post (λ_ _ h=>h))
 case turn =>
  rintro⟨hs,v⟩ l b s' ⟨h2',ks,rfl,jU,g2,hl2,hlen,hm⟩
  obtain⟨⟨k,hk',hh⟩,hsc⟩:=hl2 _ mem_cons_self
  dsimp only at hk' hh hsc ⊢
  subst hh
  have dv:dec v=k:=hdec k v hk'
  rw[length_cons] at hlen
  have big:(129:Nat)<scanBound:=by decide
  have room:ks.length+1<scanBound:=by omega
  refine aaq (abm (Wo (led:=zV w) (s:={ s with heap:=h2' }) hdec hk' hsc g2 room λh3' b' qX g3=>?_))
  have Pn:h3'.get? o=some ob:=by rw[qX.2 o hne];show h2'.get? o=_;rw[jU.2 o hne];exact h1
  refine aaq ?_
  unfold abg
  refine aaq (aby (s:={ s with heap:=h3' }) Pn h3 hf ?_)
  simp only[bne_self_eq_false,aa1,↓reduceIte]
  refine aar (aaq (aa3 (s:={ s with heap:=h3' }) Pn h3 hf ?_))
  simp only[bne_self_eq_false,aa1,↓reduceIte]
  refine aar ⟨h3',_,rfl,jU.trans qX,g3,λe he=>hl2 e (mem_cons_of_mem _ he),?_,λc=>?_⟩
  ·split
   ·omega
   ·rw[length_cons];omega
  ·rw[<-hm c,map_cons,mem_cons]
   show _↔(c∈ks\/(c=dec v\/_))
   rw[dv]
   have e:c∈(if k∈ks then ks else k::ks)↔c=k\/c∈ks:=by
    split
    ·rename_i z
     exact⟨.inr,λq=>q.elim (λq=>q▸z) λq=>q⟩
    ·exact mem_cons
   rw[e]
   constructor
   ·rintro((z|z)|z)
    ·exact .inr (.inl z)
    ·exact .inl z
    ·exact .inr (.inr z)
   ·rintro(z|z|z)
    ·exact .inl (.inr z)
    ·exact .inl (.inl z)
    ·exact .inr z
 case fin =>
  rintro b s' ⟨h2',ks,rfl,jU,g2,_,_,hm⟩
  refine⟨h2',ks,rfl,jU,g2,λk=>?_⟩
  rw[<-hm k]
  simp
 case post =>
  rintro b s' ⟨h2',ks,rfl,jU,g2,hm⟩
  exact aar (h h2' ks jU g2 hm)
 ·rw[hp'.mem_iff]
theorem L_(hdec:∀k v,knd.is k v=true->dec v=k)(id:String)(hn:∀k v,knd.is k v=true->∀b,v≠.ref b)(hne:o≠r)(g:Good knd dec (zV w) s.heap r kr)(go:Good knd dec (zV w) s.heap o ko)(h0:kr=[]->s.heap.get? r=some { cls:=.type "set",dict:=none,data:=.set #[] 0 (.fresh 0 0 (zV w)) })(hl:(kr.length+ko.length)*2<=255){Q:Unit->Shared->Prop}(h:∀(h':Heap) (ks:List κ),SameBut r s.heap h'->Good knd dec (zV w) h' r ks->(∀k,k∈ks↔k∈kr\/k∈ko)->Q () { s with heap:=h' }) :
  wpAny (model prog w) A (ac6 id r (.ref o)) Q E s:=by
 obtain⟨ob,es,ep',t,h1,h2,h3,hf,hlo,tb,hel,hp⟩:=go.size
 unfold ac6
 refine aaq (CP go.type ?_)
 simp only[↓reduceIte]
 refine aaq (aar ?_)
 unfold Builtin.Frozenset.merge
 refine aaq (aby h1 h3 hf ?_)
 cases kr with
 |nil=>exact zFe (h0 rfl) (aco hne) go (by simp at hl;omega) λh' sb g'=>h h' ko sb g' λk=>by simp
 |cons a l =>
  refine zTy hdec id hn hne g go (λz=>by cases z) hl (λob' es' e' t' z1 z2=>?_) h
  rw[h1] at z1
  cases z1
  rw[h3] at z2
  cases z2
  rfl
theorem T4(hdec:∀k v,knd.is k v=true->dec v=k)(hn:∀k v,knd.is k v=true->∀b,v≠.ref b)(hab:b≠a)(ga:Good knd dec (zV w) s.heap a ka)(gb:Good knd dec (zV w) s.heap b kb)(hl:ka.length<=63)(hl':kb.length<=63){Q:Value->Shared->Prop}(h:∀(h':Heap) (kr:List κ),Good knd dec (zV w) h' s.heap.objs.size kr->(∀k,k∈kr↔k∈ka\/k∈kb)->(∀c o,c<s.heap.objs.size->s.heap.get? c=some o->h'.get? c=some o)->Q (.ref s.heap.objs.size) { s with heap:=h' }) :
  wpAny (model prog w) A (binaryOp .BitOr (.ref a) (.ref b)) Q E s:=by
 have lb:b<s.heap.objs.size:=by obtain⟨o,_,_,_,h1,_⟩:=gb;exact lt_size h1
 refine aeh (op:=.BitOr) (T:="set") ga.type gb.type F.fills_set_or F.slot_set_or (ach F.slot_set_or ga.type zIm ?_ (F.args_set_or_2 _ _))
 refine aaq (m:=ab6 "__or__" ⟨[.ref a,.ref b],[]⟩) ?_
 unfold ab6 slotArgs
 refine aar ?_
 dsimp only
 refine aaq (aaq (CP ga.type ?_))
 refine CP gb.type ?_
 simp only[abt,aa1,↓reduceIte]
 refine aaq (aar (aaq ?_))
 refine aaq (m:=adq a) (zRy ga (by omega) λh' g' k' z0=>?_)
 have e1:(abo b != .ref a)=true:=by
  rw[bne_iff_ne]
  exactλe=>hab (aeu e)
 rw[if_pos e1]
 refine aaq (aar ?_)
 refine aaq (abm (L_ (s:={ s with heap:=h' }) hdec _ hn (aay lb) g' (gb.keep λo e=>k' b o lb e) (λz=>?_) (by omega) λh2 ks sb g2 m=>aar (aar ⟨.ref s.heap.objs.size,rfl,?_,h h2 ks g2 m λc o hc e=>?_⟩)))
 ·show h'.get? _=_
  rw[z0 z]
  exact get?_push_size _ rfl
 ·exactλz=>aep z
 ·rw[sb.2 c (aay hc)]
  exact k' c o hc e
end
end qU
namespace L2
open PySem PySem.Spec PyProof.Rows qU
section
variable{X:Cx}
def I8(ta tb:Fp):Fp:=λσ H Q=>ta σ H λks H1=>ks.length<64/\tb σ H1 λjs H2=>∀rs:LI,rs.Nodup->(∀z,z∈rs↔z∈ks/\z∉js)->Q rs H2
theorem FZ(ha:Az X a ta)(hb:Az X b tb):Az X (.BinOp a .Sub b pos) (I8 ta tb):=by
 intro pins s σ H Q I h
 refine ae5 (aP (ha pins s σ H _ I h) λu s1 ⟨p,ks,H1,e,I1,g,fo,hl,h1⟩=>?_)
 subst e
 obtain⟨o,es,ep,t,go,gx,gd,_⟩:=id g
 have Tv:=I1.pinned (fp:=[p]) (λb hb=>by rw[mem_singleton.mp hb];exact fo) (λb hb=>by
  rw[mem_singleton.mp hb]
  exact⟨o,go,λv z=>by rw[gd] at z;cases z⟩)
 refine aP (hb _ s1 σ H1 _ Tv h1) λu2 s2 ⟨p2,js,H2,e2,I2,g2,Tw,q2⟩=>?_
 subst e2
 have pm:(p,o)∈X.pn++(pins++HD [p] s1.heap):=mem_append_right _ (mem_append_right _ (vR (mem_singleton.mpr rfl) go))
 have kp:s2.heap.get? p=some o:=(I2.pin (p,o) pm).1
 have g1:=g.keep (h':=s2.heap) λo' e'=>by rw[go] at e';cases e';exact kp
 have ne:p2≠p:=aco (Tw.2.2.2.2.2 (p,o) pm)
 have I3:=I2.fU
 refine LR Wu (λk v hk b z=>?_) ne g1 g2 (ada hl) λh' kr g3 m k=>?_
 ·obtain⟨t,rfl⟩:=acz hk
  cases z
 ·have I4:=I3.kept (h':=h') (t':=s2.toks) λb o e=>k b o (lt_size e) e
  obtain⟨_,_,_,_,_,_,_,_,_,nd,_⟩:=id g3
  exact⟨_,kr,H2,rfl,I4,g3,I3.lV (aau _) (I3.hok.fresh (aau _)),q2 kr nd m⟩
def T5(ta tb:Fp):Fp:=λσ H Q=>ta σ H λks H1=>ks.length<64/\tb σ H1 λjs H2=>js.length<64/\∀rs:LI,rs.Nodup->(∀z,z∈rs↔z∈ks\/z∈js)->Q rs H2
theorem Ma(ha:Az X a ta)(hb:Az X b tb):Az X (.BinOp a .BitOr b pos) (T5 ta tb):=by
 intro pins s σ H Q I h
 refine ae5 (aP (ha pins s σ H _ I h) λu s1 ⟨p,ks,H1,e,I1,g,fo,hl,h1⟩=>?_)
 subst e
 obtain⟨o,es,ep,t,go,gx,gd,_⟩:=id g
 have Tv:=I1.pinned (fp:=[p]) (λb hb=>by rw[mem_singleton.mp hb];exact fo) (λb hb=>by
  rw[mem_singleton.mp hb]
  exact⟨o,go,λv z=>by rw[gd] at z;cases z⟩)
 refine aP (hb _ s1 σ H1 _ Tv h1) λu2 s2 ⟨p2,js,H2,e2,I2,g2,Tw,hl2,q2⟩=>?_
 subst e2
 have pm:(p,o)∈X.pn++(pins++HD [p] s1.heap):=mem_append_right _ (mem_append_right _ (vR (mem_singleton.mpr rfl) go))
 have kp:s2.heap.get? p=some o:=(I2.pin (p,o) pm).1
 have g1:=g.keep (h':=s2.heap) λo' e'=>by rw[go] at e';cases e';exact kp
 have ne:p2≠p:=aco (Tw.2.2.2.2.2 (p,o) pm)
 have I3:=I2.fU
 refine T4 Wu (λk v hk b z=>?_) ne g1 g2 (ada hl) (ada hl2) λh' kr g3 m k=>?_
 ·obtain⟨t,rfl⟩:=acz hk
  cases z
 ·have I4:=I3.kept (h':=h') (t':=s2.toks) λb o e=>k b o (lt_size e) e
  obtain⟨_,_,_,_,_,_,_,_,_,nd,_⟩:=id g3
  exact⟨_,kr,H2,rfl,I4,g3,I3.lV (aau _) (I3.hok.fresh (aau _)),q2 kr nd m⟩
end
end L2
namespace Ts
open PySem L2
def Qa(ns ms:LI):Option LI:=if ns.length<64/\ms.length<4000 then some (wX (ns.filter λz=>!decide (z∈ms))) else none
def Ga(ns ms:LI):Option LI:=if ns.length<64/\ms.length<64/\(wX (ns++ms)).length<64 then some (wX (ns++ms)) else none
section
variable{K:PySem.W.Frag}{B:Bs}{sl:SL K}{md:Md}{t1 t2:TE}
theorem zOm(h1:Ex B sl .hp t1 m1)(h2:Ex B sl .hp t2 m2):Eo B sl md (Tq (I8 (Ir K t1) (Ir K t2))) (m1.bind λa=>m2.bind λb=>Qa a b):=λc hc F O H σ Q s k=>by
 obtain⟨ns,ms,ha,hb,hf⟩:=qJ hc
 unfold Qa at hf
 split at hf
 case isFalse=>cases hf
 rename_i hl
 cases hf
 refine h1 ns ha F O H σ _ s λv F' H' g r1=>?_
 obtain⟨p,vs,rfl,z1,z2⟩:=r1
 have z3:vs=ns.map V.int:=z2.vals
 subst z3
 refine⟨p,ns,rfl,aW.of z1,aa0 hl.1 (by decide),λks nd hm=>⟨aaz (Fq nd λz hz=>(hm z).mp hz) hl.1,?_⟩⟩
 refine h2 ms hb F' O H' σ _ (s.grow g) λw F2 H2 g2 r2=>?_
 obtain⟨p',vs',rfl,y1,y2⟩:=r2
 have y3:vs'=ms.map V.int:=y2.vals
 subst y3
 refine⟨p',ms,rfl,aW.of y1,hl.2,λjs jd hj rs rd hr=>⟨aaz (Fq rd λz hz=>(hm z).mp ((hr z).mp hz).1) hl.1,λl us hn p1 p2=>?_⟩⟩
 have e:us=wX (ns.filter λz=>!decide (z∈ms)):=Iv (vT p2 (p1.nodup_iff.mpr rd)) (Iu _) λz=>by rw[p1.mem_iff,hr,hm,hj,bT,mem_filter,ad3,decide_eq_false_iff_not]
 subst e
 exact k l _ F2 H2 (g.trans g2) hn (Ie _)
theorem zRn(h1:Ex B sl .hp t1 m1)(h2:Ex B sl .hp t2 m2):Eo B sl md (Tq (T5 (Ir K t1) (Ir K t2))) (m1.bind λa=>m2.bind λb=>Ga a b):=λc hc F O H σ Q s k=>by
 obtain⟨ns,ms,ha,hb,hf⟩:=qJ hc
 unfold Ga at hf
 split at hf
 case isFalse=>cases hf
 rename_i hl
 cases hf
 refine h1 ns ha F O H σ _ s λv F' H' g r1=>?_
 obtain⟨p,vs,rfl,z1,z2⟩:=r1
 have z3:vs=ns.map V.int:=z2.vals
 subst z3
 refine⟨p,ns,rfl,aW.of z1,aa0 hl.1 (by decide),λks nd hm=>⟨aaz (Fq nd λz hz=>(hm z).mp hz) hl.1,?_⟩⟩
 refine h2 ms hb F' O H' σ _ (s.grow g) λw F2 H2 g2 r2=>?_
 obtain⟨p',vs',rfl,y1,y2⟩:=r2
 have y3:vs'=ms.map V.int:=y2.vals
 subst y3
 refine⟨p',ms,rfl,aW.of y1,aa0 hl.2.1 (by decide),λjs jd hj=>⟨aaz (Fq jd λz hz=>(hj z).mp hz) hl.2.1,λrs rd hr=>⟨aaz (Fq rd λz hz=>bT.mpr (mem_append.mpr (((hr z).mp hz).imp (hm z).mp (hj z).mp))) hl.2.2,λl us hn p1 p2=>?_⟩⟩⟩
 have e:us=wX (ns++ms):=Iv (vT p2 (p1.nodup_iff.mpr rd)) (Iu _) λz=>by rw[p1.mem_iff,hr,hm,hj,bT,mem_append]
 subst e
 exact k l _ F2 H2 (g.trans g2) hn (Ie _)
end
end Ts
namespace L2
open PySem PySem.Spec PyProof.Rows
def ZJ(K:PySem.W.Frag)(a:Addr)(n:Nat):It :=
 ⟨λi H=>i<n/\∃xs x,aW K H a xs/\xs[n-1-i]?=some x,λi H x H'=>H'=H/\∀xs,aW K H a xs->xs[n-1-i]?=some x,λi _=>i=n⟩
theorem zSs{P:Program}{w:World}{K:PySem.W.Frag}{tg:Expr}(a it:Addr)(n:Nat):Turn P w K tg (ZJ K a n) [it] it (λi h=>h.IsRevIter it a ((n:Int)-1-(i:Nat))) where
 mem:=by simp
 obj:=λi h st b hb=>by
  have e:b=it:=by simpa using hb
  subst e
  obtain⟨o,e,c,d⟩:=st
  exact⟨o,e,λv z=>by rw[d] at z;cases z⟩
 keep:=λi h h' st k=>st.at λo e=>k it (by simp) o e
 item:=by
  intro X hP hw hK hc i pins s σ H E I hf st hg
  subst hP hw hK
  obtain⟨hi,xs,x,hq,hx⟩:=hg
  obtain⟨its,rv,p,hz⟩:=I.list hq
  obtain⟨u,hu,ru⟩:=rv.get hx
  obtain⟨f0,f1,f2,f3,f4,f5⟩:=hf it (by simp)
  have e:(n:Int)-1-(i:Nat)=((n-1-i:Nat):Int):=by omega
  rw[e] at st
  refine wpAny_pyNext_rev_item st p.isList (x:=u) (by simpa using hu) λh' st' sb=>?_
  have I1:Inv X pins σ H { s with heap:=h' }:=I.turned (t':=s.toks) (λb o hb e=>(sb.2 b hb).trans e) f0 f1 f3 f4 f5
  have e2:((n-1-i:Nat):Int)-1=(n:Int)-1-((i+1:Nat):Int):=by omega
  rw[e2] at st'
  obtain⟨o,e,c,d⟩:=id st'
  exact⟨u,rfl,O6 (s:={ s with heap:=h' }) e c d (by decide) ⟨x,H,I1,ru,⟨rfl,λys hy=>by rw[I.mL hy hq];exact hx⟩,st',λb hb=>(hf b hb).1⟩⟩
 done:=by
  intro X hP hw hK hc i pins s σ H E I hf st hg
  subst hP hw hK
  have hi:i=n:=hg
  subst hi
  obtain⟨f0,f1,f2,f3,f4,f5⟩:=hf it (by simp)
  have e:(i:Int)-1-(i:Nat)=-1:=by omega
  rw[e] at st
  exact wpAny_pyNext_rev_end (I.ok.hd hc) st λh' eb=>⟨rfl,I.turned (t':=s.toks) (λb o hb e=>eb b o hb e) f0 f1 f3 f4 f5⟩
 self:=λ_ _ _ _ _ st h=>wpAny_pyIter_revIter st h
def Gb(K:PySem.W.Frag)(ta:TA):TI:=λσ H R=>ta σ H λvs H1=>∃a xs,vs=[.ref a]/\aW K H1 a xs/\R (ZJ K a xs.length) H1
theorem mW:bootBuiltins "reversed" = some (.type "reversed"):=by decide +kernel
theorem Mf(hg:Gl X "reversed")(hm:X.mg "reversed" = none)(ha:PA X [a] ta)(hs:starEach [a] X.env=[(false,eval a X.env)]:=by rfl):PI X tg (.Call (.Name "reversed" p) [a] [] pos) (Gb X.K ta):=by
 intro pins s σ H R I h
 refine Call_ (Ck I hg hm mW (abr (aP (ha pos pins s σ H _ I h) λus s1 ⟨vs,H1,I1,r1,q1⟩=>?_) hs rfl))
 obtain⟨l,xs,e,hq,q⟩:=q1
 subst e
 obtain⟨u,rfl,ru⟩:=r1.one
 cases ru
 obtain⟨its,rv,p,hz⟩:=I1.list hq
 have hl:=rv.length
 refine call_reversed_list p.isList ?_
 have I2:Inv X pins σ H1 { s1 with heap:=s1.heap.push (revObj l ((its.toArray.size:Int)-1)),toks:=s1.toks }:=I1.kept λb o e=>get?_push_of_some _ e
 have R0:(s1.heap.push (revObj l ((its.toArray.size:Int)-1))).IsRevIter s1.heap.objs.size l ((xs.length:Int)-1-((0:Nat):Int)):=by
  refine⟨_,get?_push_size _ rfl,rfl,?_⟩
  show afm #[.ref l,rawInt ((its.toArray.size:Int)-1)]=_
  rw[show((its.toArray.size:Int)-1)=(xs.length:Int)-1-((0:Nat):Int) by rw[size_toArray];omega]
 refine wpAny_pyIter_revIter (s:={ s1 with heap:=s1.heap.push (revObj l ((its.toArray.size:Int)-1)) }) R0 ?_
 refine⟨s1.heap.objs.size,[s1.heap.objs.size],_,_,H1,rfl,I2,zSs l _ xs.length,R0,λb hb=>?_,q⟩
 have e:b=s1.heap.objs.size:=by simpa using hb
 subst e
 exact I1.lV (aau _) (I1.hok.fresh (aau _))
theorem zUp{n:Nat}{ix:List Nat}{g:TG}{tc:TT}{te:TE}{σ:St}{Q:VK}{H:Hp}{K:PySem.W.Frag}{a:Addr}{xs:List V}(Pv:Nat->List V->St->Hp->Prop)(h0:Pv 0 [] (je σ n ix) H)(hl:∀i ys σ H,i<=xs.length->Pv i ys σ H->aW K H a xs/\ys.length<=i)(hz:xs.length<sizeLine)(hs:∀i x ys σ H,xs[xs.length-1-i]?=some x->i<xs.length->Pv i ys σ H->g x σ H λσ4 H4=>tc σ4 H4 λb H5=>if b=true then te σ4 H5 λy H6=>Pv (i+1) (ys++[y]) σ4 H6 else Pv (i+1) ys σ4 H5)(hd:∀ys σ H,Pv xs.length ys σ H->∀p,H p=none->Q (.ref p) (upd H p (.lst ys))):Pa n ix g tc te σ Q (ZJ K a xs.length) H:=by
 refine⟨λi m ys σ H=>m=xs.length-i/\i<=xs.length/\Pv i ys σ H,⟨xs.length,by simp,abd _,h0⟩,?_⟩
 rintro i m ys σ H ⟨rfl,hi,p⟩
 obtain⟨q,hy⟩:=hl i ys σ H hi p
 by_cases hlt:i<xs.length
 ·refine .inr ⟨⟨hlt,xs,xs[xs.length-1-i]'(by omega),q,aat (by omega)⟩,by omega,Pv (i+1),λys' σ' H' p'=>⟨xs.length-(i+1),by omega,rfl,hlt,p'⟩,λx H' y=>?_⟩
  obtain⟨e,y⟩:=y
  subst e
  exact hs i x ys σ _ (y xs q) hlt p
 ·have e:i=xs.length:=by omega
  subst e
  exact .inl ⟨rfl,by omega,hd ys σ H p⟩
structure qL(K:PySem.W.Frag)(C:Addr)(m:Str)(f:Addr):Prop where
 sp:specialIn K (.ref C) "__getattribute__" = some (some (.builtin "type.__getattribute__"))
 rd:PySem.W.readsIn K C (.type "type")=true
 at_:PySem.W.findCls K (.ref C) (.type "type") m=some (.val (.ref f))
 kp:keepIn K (.ref f)=true
section
variable{X:Cx}{CX:ur}{k:Nat}{f C:Addr}{fd:FuncData}{ps:List Str}{sp:Sp}{lJ:List V}{ds:List Value}{E:XK}{x m:Str}{p pos apos:Pos}{e o:Expr}{es:List Expr}{ta:TE}{t:TA}
theorem uU(hg:Gl X x)(hm:X.mg x=some (.ref C))(c:qL X.K C m f)(F:aq X.prog X.w X.K X.mg X.base CX k f fd ps sp)(hr:bW k X.A)(hb:Binds X.K fd ps ds)(hd:Vals lJ ds)(hx:DG CX X E)(ha:PA X (e::es) t)(hdb:(x==("__debug__":Str))=false:=by decide)(hst:starEach (e::es) X.env=(false,eval e X.env)::starEach es X.env:=by rfl)(hpl:(backTo pos (starEach es X.env)).any (·.1)=false:=by rfl)(ht:eval (.Call (.Attribute (.Name x p) m apos) (e::es) [] pos) X.env=(do
   let ov <-eval (.Name x p) X.env
   standAt apos.atName
   let(f,first) <-holding [ov] (getMethod ov m pl)
   callWith pos f first (backTo pos (starEach (e::es) X.env)) (backToKw pos (keywordEach [] X.env))):=by rfl) :
  PE X (.Call (.Attribute (.Name x p) m apos) (e::es) [] pos) (Dz sp lJ E t):=by
 intro pins s σ H Q I h
 refine aev (pl:=pl) (QH I hg hm ?_ hdb) ht
 refine PySem.W.method_cls I.jV c.sp (PySem.W.cls_value I.jV c.rd c.at_ rfl ?_)
 have I':=I.tok (s.toks+1)
 refine aex (first:=[]) (h₀:=X.base) I.ok.mod.Ov c.kp (aP (ha pos pins _ σ H _ I' h) λus s1 ⟨vs,H1,I1,r,q⟩=>⟨I1.jV,?_⟩) hst hpl
 exact VB F hr hb hd hx I1 r q
end
theorem vh{x y:V}{A B:Prop}(h:x=y)(a:A):if decide (x=y)=true then A else B:=by
 rw[decide_eq_true h]
 exact iu a
theorem cI{x y:V}{A B:Prop}(h:¬x=y)(b:B):if decide (x=y)=true then A else B:=by
 rw[decide_eq_false h]
 exact kJ b
end L2
namespace Sy
open PySem L2
inductive Tr where
 |all
 |mark (x:Str)
 |one (i:Fin 7) (t:Tr)
 |two (i:Fin 4) (l r:Tr)
def w1(i:Fin 7):Str:=(["not","somenext","eachnext","somealways","eachalways","someever","eachever"]:List Str).getD i.val ad2
def w2(i:Fin 4):Str:=(["both","either","sometill","eachtill"]:List Str).getD i.val ad2
def Tr.depth:Tr->Nat
 |.all=>0
 |.mark _=>0
 |.one _ t=>t.depth+1
 |.two _ l r=>max l.depth r.depth+1
def Kp(p:Addr)(H H':Hp):Prop:=∀b o,b≠p->H b=some o->H' b=some o
theorem Kp.of(s:Same H H'):Kp p H H':=λb o _ e=>s b o e
theorem Kp.trans(a:Kp p H H1)(b:Kp p H1 H2):Kp p H H2:=λc o n e=>b c o n (a c o n e)
theorem Kp.put(p:Addr)(H:Hp)(o:HO):Kp p H (upd H p o):=λb u n e=>by rw[zQ n];exact e
theorem au(h:H p=none)(o:HO):Same H (upd H p o):=λb u q=>by rw[zQ (zO q h)];exact q
theorem WD(h:aW K H b xs)(n:b≠a)(k:Kp a H H'):aW K H' b xs:=by
 rcases h with(h|⟨ob,h⟩)|h
 ·exact .inl (.inl (k _ _ n h))
 ·exact .inl (.inr ⟨ob,k _ _ n h⟩)
 ·exact .inr h
def zc(w:V)(q:Addr):List (Str×V):=aG "parts" (.ref q) (aG "word" w [])
def vm(w v:V)(q:Addr):List (Str×V):=aG "part" v (zc w q)
def vo(w v u:V)(q:Addr):List (Str×V):=aG "right" u (aG "left" v (zc w q))
def Qc(x:V)(q:Addr):List (Str×V):=aG "name" x (zc x q)
theorem b_(f:Str)(v:V):∀fs:List (Str×V),(aG f v fs).length<=fs.length+1
 |[]=>aau _
 | (g,x)::r=>by
  unfold aG
  split
  ·exact acd _
  ·exact ab7 (b_ f v r)
theorem WK(w:V)(q:Addr):(zc w q).length<=2:=by
 have a1:=b_ "parts" (V.ref q) (aG "word" w [])
 have a2:=b_ "word" w []
 have a3:([]:List (Str×V)).length=0:=rfl
 show(aG "parts" (V.ref q) (aG "word" w [])).length<=2
 omega
structure gU(K:PySem.W.Frag)(C:Addr):Prop where
 cl:Cls K C
 nW:bH K C "word"
 nP:bH K C "parts"
 n1:bH K C "part"
 nL:bH K C "left"
 nR:bH K C "right"
 nN:bH K C "name"
inductive Hd where
 |all
 |mark
 |one (i:Fin 7)
 |two (i:Fin 4)
def spS(K:PySem.W.Frag):Sp:=λvs H Q _=>∃(p C dx:Addr)(x y:V),vs=[.ref p,x,y]/\H p=some (.ins C dx [])/\gU K C/\∀H':Hp,Kp p H H'->H' p=some (.ins C dx (aG "parts" y (aG "word" x [])))->Q .non H'
def qY(K:PySem.W.Frag):Sp:=λvs H Q _=>∃(p C dx:Addr)(x v:V),vs=[.ref p,x,v]/\H p=some (.ins C dx [])/\gU K C/\∀(q:Addr)(H':Hp),Kp p H H'->H q=none->H' q=some (.tup [v])->H' p=some (.ins C dx (vm x v q))->Q .non H'
def Bb(K:PySem.W.Frag):Sp:=λvs H Q _=>∃(p C dx:Addr)(x v u:V),vs=[.ref p,x,v,u]/\H p=some (.ins C dx [])/\gU K C/\∀(q:Addr)(H':Hp),Kp p H H'->H q=none->H' q=some (.tup [v,u])->H' p=some (.ins C dx (vo x v u q))->Q .non H'
def T6(C:Addr):Sp:=λvs H Q _=>∃(p dx:Addr),vs=[.ref p]/\H p=some (.ins C dx [])/\∀(q:Addr)(H':Hp),Kp p H H'->H q=none->H' q=some (.tup [])->H' p=some (.ins C dx (zc (.str "all") q))->Q .non H'
def T7(C:Addr):Sp:=λvs H Q _=>∃(p dx:Addr)(x:V),vs=[.ref p,x]/\H p=some (.ins C dx [])/\∀(q:Addr)(H':Hp),Kp p H H'->H q=none->H' q=some (.tup [])->H' p=some (.ins C dx (Qc x q))->Q .non H'
def o_(C:Addr)(w:Str):Sp:=λvs H Q _=>∃(p dx:Addr)(v:V),vs=[.ref p,v]/\H p=some (.ins C dx [])/\∀(q:Addr)(H':Hp),Kp p H H'->H q=none->H' q=some (.tup [v])->H' p=some (.ins C dx (vm (.str w) v q))->Q .non H'
def sE(C:Addr)(w:Str):Sp:=λvs H Q _=>∃(p dx:Addr)(v u:V),vs=[.ref p,v,u]/\H p=some (.ins C dx [])/\∀(q:Addr)(H':Hp),Kp p H H'->H q=none->H' q=some (.tup [v,u])->H' p=some (.ins C dx (vo (.str w) v u q))->Q .non H'
inductive bh(cl:Hd->Addr)(H:Hp):Addr->Tr->Prop where
 |all {p q dx:Addr}:H p=some (.ins (cl .all) dx (zc (.str "all") q))->H q=some (.tup [])->bh cl H p .all
 |mark {p q dx:Addr} {x:Str}:H p=some (.ins (cl .mark) dx (Qc (.str x) q))->H q=some (.tup [])->bh cl H p (.mark x)
 |one {p q dx c:Addr} {i:Fin 7} {t:Tr}:H p=some (.ins (cl (.one i)) dx (vm (.str (w1 i)) (.ref c) q))->H q=some (.tup [.ref c])->bh cl H c t->bh cl H p (.one i t)
 |two {p q dx c d:Addr} {i:Fin 4} {l r:Tr}:H p=some (.ins (cl (.two i)) dx (vo (.str (w2 i)) (.ref c) (.ref d) q))->H q=some (.tup [.ref c,.ref d])->bh cl H c l->bh cl H d r->bh cl H p (.two i l r)
theorem bh.same(h:bh cl H p t)(s:Same H H'):bh cl H' p t:=by
 induction h with
 |all h1 h2=>exact .all (s _ _ h1) (s _ _ h2)
 |mark h1 h2=>exact .mark (s _ _ h1) (s _ _ h2)
 |one h1 h2 _ ih=>exact .one (s _ _ h1) (s _ _ h2) ih
 |two h1 h2 _ _ ih1 ih2=>exact .two (s _ _ h1) (s _ _ h2) ih1 ih2
def hd:Tr->Hd
 |.all=>.all
 |.mark _=>.mark
 |.one i _=>.one i
 |.two i _ _=>.two i
def hw:Tr->Str
 |.all=>"all"
 |.mark x=>x
 |.one i _=>w1 i
 |.two i _ _=>w2 i
def sH:Tr->List Tr
 |.all=>[]
 |.mark _=>[]
 |.one _ t=>[t]
 |.two _ l r=>[l,r]
theorem kw1:¬(("word":Str) = "parts"):=by decide +kernel
theorem kw2:¬(("word":Str) = "part"):=by decide +kernel
theorem kw3:¬(("word":Str) = "left"):=by decide +kernel
theorem kw4:¬(("word":Str) = "right"):=by decide +kernel
theorem kw5:¬(("word":Str) = "name"):=by decide +kernel
theorem kp2:¬(("parts":Str) = "part"):=by decide +kernel
theorem kp3:¬(("parts":Str) = "left"):=by decide +kernel
theorem kp4:¬(("parts":Str) = "right"):=by decide +kernel
theorem kp5:¬(("parts":Str) = "name"):=by decide +kernel
theorem WL(w:V)(q:Addr):(zc w q).lookup ("word":Str)=some w:=by unfold zc;rw[zM,if_neg kw1,zM,if_pos rfl]
theorem WM(w:V)(q:Addr):(zc w q).lookup ("parts":Str)=some (.ref q):=by unfold zc;rw[zM,if_pos rfl]
theorem WQ(w:V)(q:Addr){m:Str}(h1:¬m = "parts")(h2:¬m = "word"):(zc w q).lookup m=none:=by
 unfold zc
 rw[zM,if_neg h1,zM,if_neg h2]
 rfl
theorem bh.look(h:bh cl H p t):∃(dx q:Addr)(fs:List (Str×V))(cs:List Addr),H p=some (.ins (cl (hd t)) dx fs)/\fs.lookup ("word":Str)=some (.str (hw t))/\fs.lookup ("parts":Str)=some (.ref q) /\
  (∀m:Str,¬m = "word"->¬m = "parts"->¬m = "part"->¬m = "left"->¬m = "right"->¬m = "name"->fs.lookup m=none)/\H q=some (.tup (cs.map V.ref))/\Paired (bh cl H) cs (sH t):=by
 cases h with
 |all h1 h2=>exact⟨_,_,_,[],h1,WL _ _,WM _ _,λm a b _ _ _ _=>WQ _ _ b a,h2,.nil⟩
 |mark h1 h2 =>
  refine⟨_,_,_,[],h1,?_,?_,λm a b _ _ _ f=>?_,h2,.nil⟩
  ·unfold Qc;rw[zM,if_neg kw5];exact WL _ _
  ·unfold Qc;rw[zM,if_neg kp5];exact WM _ _
  ·unfold Qc;rw[zM,if_neg f];exact WQ _ _ b a
 |one h1 h2 h3 =>
  refine⟨_,_,_,[_],h1,?_,?_,λm a b c _ _ _=>?_,h2,.cons h3 .nil⟩
  ·unfold vm;rw[zM,if_neg kw2];exact WL _ _
  ·unfold vm;rw[zM,if_neg kp2];exact WM _ _
  ·unfold vm;rw[zM,if_neg c];exact WQ _ _ b a
 |two h1 h2 h3 h4 =>
  refine⟨_,_,_,[_,_],h1,?_,?_,λm a b _ c d _=>?_,h2,.cons h3 (.cons h4 .nil)⟩
  ·unfold vo;rw[zM,if_neg kw4,zM,if_neg kw3];exact WL _ _
  ·unfold vo;rw[zM,if_neg kp4,zM,if_neg kp3];exact WM _ _
  ·unfold vo;rw[zM,if_neg d,zM,if_neg c];exact WQ _ _ b a
theorem zP0(h:u∈sH t):u.depth<t.depth:=by
 cases t with
 |all=>cases h
 |mark x=>cases h
 |one i t=>simp[sH] at h;subst h;exact acg _
 |two i l r =>
  simp[sH] at h
  rcases h with rfl|rfl
  ·show _<max _ _+1;omega
  ·show _<max _ _+1;omega
def n1(i:Fin 7):Str:=(["Not","SomeNext","EachNext","SomeAlways","EachAlways","SomeEver","EachEver"]:List Str).getD i.val ad2
def n2(i:Fin 4):Str:=(["Both","Either","SomeTill","EachTill"]:List Str).getD i.val ad2
structure ZK(P:Program)(w:World)(K:PySem.W.Frag)(mg:Str->Option Value)(base:Heap)(k:Nat)(cl fi:Hd->Addr)(di:Hd->FuncData):Prop where
 made:∀h,Mk K (cl h) (fi h)
 iA:aq P w K mg base aO k (fi .all) (di .all) ["self"] (T6 (cl .all))
 bA:Binds K (di .all) ["self"] []
 iM:aq P w K mg base aO k (fi .mark) (di .mark) ["self","name"] (T7 (cl .mark))
 bM:Binds K (di .mark) ["self","name"] []
 i1:∀i,aq P w K mg base aO k (fi (.one i)) (di (.one i)) ["self","part"] (o_ (cl (.one i)) (w1 i))
 b1:∀i,Binds K (di (.one i)) ["self","part"] []
 i2:∀i,aq P w K mg base aO k (fi (.two i)) (di (.two i)) ["self","left","right"] (sE (cl (.two i)) (w2 i))
 b2:∀i,Binds K (di (.two i)) ["self","left","right"] []
 mA:mg "All" = some (.ref (cl .all))
 mM:mg "Mark" = some (.ref (cl .mark))
 m1:∀i,mg (n1 i)=some (.ref (cl (.one i)))
 m2:∀i,mg (n2 i)=some (.ref (cl (.two i)))
theorem T8(nx:H x=none)(nd:H dx=none):Same H (upd (upd H dx (.own x)) x (.ins C dx [])):=λb o e=>by
 rw[zQ (zO e nx),zQ (zO e nd)]
 exact e
theorem uQ(nx:H x=none)(nd:H dx=none)(k:Kp x (upd (upd H dx (.own x)) x (.ins C dx [])) H'):Same H H':=λb o e=>k b o (zO e nx) (T8 nx nd b o e)
end Sy
namespace Ts
open PySem L2 Sy
structure cR(cl:Hd->Addr) where
 t:Tr
def jH:Hd->Tr->Bool
 |.all,.all=>true
 |.mark,.mark _=>true
 |.one i,.one j _=>decide (j=i)
 |.two i,.two j _ _=>decide (j=i)
 |_,_=>false
def cR.parts(x:cR cl):List (cR cl):=(sH x.t).map cR.mk
def cR.name(x:cR cl):Option Str:=match x.t with
 |.mark s=>some s
 |_=>none
structure ql(P:Program)(w:World)(K:PySem.W.Frag)(mg:Str->Option Value)(base:Heap)(k:Nat)(cl fi:Hd->Addr)(di:Hd->FuncData):Prop where
 ini:ZK P w K mg base k cl fi di
 kd:∀h,gU K (cl h)
 qe:∀h h':Hd,∀t:Tr,hd t=h->kitOne K (.ref (cl h)) (.ref (cl h'))=some (jH h' t)
 c1:∀h,findIn K (.ref (cl h)) "__class__" = some (some (.builtin "object.__class__"))
 c2:specialIn K (.builtin "object.__class__") "__get__" = some (some (.builtin "getset_descriptor.__get__"))
 c3:takesIn K (.builtin "object.__class__")=some true
 c4:∀h,mroIn K (cl h) (.type "object")=some true
section
variable{K:PySem.W.Frag}{cl:Hd->Addr}
instance:Rp K (cR cl):=⟨λF v x=>∃p,v=.ref p/\bh cl F p x.t,λs ⟨p,h1,h2⟩=>⟨p,h1,h2.same s⟩⟩
instance:Nn K (cR cl):=⟨λ⟨_,h,_⟩=>by rw[h];intro e;cases e⟩
end
section
variable{K:PySem.W.Frag}{B:Bs}{F H H2:Hp}{O:Own}
theorem WR(k:Ok B F O H)(s:Same H H2)(hx:H x=none)(e:H2 x=some o):∀md:Md,reg B (ext F H H2) H2 md x=some o
 |.hp=>e
 |.fz=>by
  show ext F H H2 x=some o
  unfold ext
  rw[hx]
  exact e
 |.nw=>by
  show dif (ext F H H2) B.H0 x=some o
  rw[wF (k.h0.free hx)]
  unfold ext
  rw[hx]
  exact e
end
section
variable{P:Program}{w:World}{K:PySem.W.Frag}{mg:Str->Option Value}{base:Heap}{B:Bs}{sl:SL K}{md:Md}{te t1 t2:TE}{cl fi:Hd->Addr}{di:Hd->FuncData}{k:Nat}
theorem zH8(h:upd (upd H dx o1) x o2 q=none):H q=none:=by
 by_cases e1:q=x
 ·subst e1;rw[zK] at h;cases h
 ·rw[zQ e1] at h
  by_cases e2:q=dx
  ·subst e2;rw[zK] at h;cases h
  ·rw[zQ e2] at h;exact h
theorem WT(i:Fin 7){m:Option (cR cl)}(h:Ex B sl md te m):Ex B sl md (J_ (cl (.one i)) (o_ (cl (.one i)) (w1 i)) [] E0 (yQ te bJ)) (m.bind λa=>some (cR.mk (cl:=cl) (.one i a.t))):=λc hc F O H σ Q s kk=>by
 cases m with
 |none=>cases hc
 |some a =>
  cases hc
  refine h a rfl F O H σ _ s λv F' H' g r1=>?_
  obtain⟨p,rfl,sa⟩:=r1
  intro x dx nx nd ne
  refine⟨x,dx,.ref p,rfl,zK,λq H2 k1 f0 e1 e2=>⟨rfl,?_⟩⟩
  have s2:=uQ nx nd k1
  have g2:=g.ok.called s2
  exact kk (.ref x) _ H2 (g.trans g2) ⟨x,rfl,.one (WR g.ok s2 nx e2 md) (WR g.ok s2 (zH8 f0) e1 md) (sa.same (xE g2 md))⟩
theorem zRh(i:Fin 4){m1 m2:Option (cR cl)}(h1:Ex B sl md t1 m1)(h2:Ex B sl md t2 m2):Ex B sl md (J_ (cl (.two i)) (sE (cl (.two i)) (w2 i)) [] E0 (yQ t1 (yQ t2 bJ))) (m1.bind λa=>m2.bind λb=>some (cR.mk (cl:=cl) (.two i a.t b.t))):=λc hc F O H σ Q s kk=>by
 obtain⟨a,b,ha,hb,hf⟩:=qJ hc
 cases hf
 refine h1 a ha F O H σ _ s λv F' H' g r1=>?_
 refine h2 b hb F' O H' σ _ (s.grow g) λw F2 H2' g2 r2=>?_
 obtain⟨p,rfl,sa⟩:=r1
 obtain⟨p2,rfl,sb⟩:=r2
 intro x dx nx nd ne
 refine⟨x,dx,.ref p,.ref p2,rfl,zK,λq H2 k1 f0 e1 e2=>⟨rfl,?_⟩⟩
 have s2:=uQ nx nd k1
 have g3:=g2.ok.called s2
 exact kk (.ref x) _ H2 (g.trans (g2.trans g3)) ⟨x,rfl,.two (WR g2.ok s2 nx e2 md) (WR g2.ok s2 (zH8 f0) e1 md) (sa.same (xE (g2.trans g3) md)) (sb.same (xE g3 md))⟩
theorem wS(I:ql P w K mg base k cl fi di)(hh:Hd){m:Option (cR cl)}(h:Ex B sl .hp te m):Ex B sl md (yu (Eb K (.ref (cl hh))) (yQ te (yQ (tC (.ref (cl hh))) bJ))) (m.bind λa=>some (jH hh a.t)):=λc hc F O H σ Q s kk=>by
 cases m with
 |none=>cases hc
 |some a =>
  cases hc
  refine h a rfl F O H σ _ s λv F' H' g r1=>?_
  obtain⟨p,rfl,sa⟩:=r1
  obtain⟨dx,q,fs,cs,l1,_⟩:=sa.look
  exact⟨.ref p,.ref (cl hh),_,_,rfl,rfl,.ins l1 (I.kd (hd a.t)).cl (I.c1 _) I.c2 I.c3 (I.c4 _),I.qe (hd a.t) hh a.t rfl,kk _ F' H' g rfl⟩
theorem zOk(I:ql P w K mg base k cl fi di){m:Option (cR cl)}(h:Ex B sl .hp te m):Ex B sl md (qb K te "name") (m.bind λa=>a.name):=λc hc F O H σ Q s kk=>by
 cases m with
 |none=>cases hc
 |some a =>
  obtain⟨t⟩:=a
  cases t with
  |mark x =>
   cases hc
   refine h _ rfl F O H σ _ s λv F' H' g r1=>?_
   obtain⟨p,rfl,sa⟩:=r1
   cases sa with
   |mark e1 e2=>exact⟨p,_,_,_,_,rfl,e1,(I.kd .mark).cl,(I.kd .mark).nN,by unfold Qc;rw[zM,if_pos rfl],kk _ F' H' g rfl⟩
  |_=>cases hc
theorem I9:∀{cs:List Addr}{ts:List Tr},Paired (bh cl F) cs ts->A2 (rp K F) (cs.map V.ref) (ts.map (cR.mk (cl:=cl)))
 |_,_,.nil=>trivial
 |_,_,.cons h r=>⟨⟨_,rfl,h⟩,I9 r⟩
theorem zUl{n:Bool}(I:ql P w K mg base k cl fi di){mi:Option (cR cl)}(h:Ex B sl (eN n) te mi):Ei B sl n (JZ K (qb K te "parts")) (mi.bind λa=>some a.parts):=λxs hx F O H σ R a kk=>by
 cases mi with
 |none=>cases hx
 |some y =>
  cases hx
  refine h y rfl F O H σ _ a λv F' H' gr r=>?_
  obtain⟨p,rfl,sa⟩:=r
  obtain⟨dx,q,fs,cs,l1,l2,l3,l4,l5,l6⟩:=sa.look
  have h2:A2 (rp K (reg B F' H' (eN n))) (cs.map V.ref) y.parts:=I9 l6
  have e1:=Ao gr.ok n p _ l1
  refine⟨p,_,dx,fs,.ref q,rfl,e1,(I.kd _).cl,(I.kd _).nP,l3,q,rfl,⟨_,cO.of (Ao gr.ok n q _ l5)⟩,kk _ F' H' gr λi F2 O2 H2 sf k2=>?_⟩
  have hq:cO K H2 q (cs.map V.ref):=cO.of (k2.fh _ _ (sf _ _ (by cases n with|true=>exact aZ _ _ l5|false=>exact l5)))
  refine⟨λhl=>⟨_,hq,by rw[h2.len];exact hl⟩,λx hx=>?_⟩
  obtain⟨w,hw,rw⟩:=h2.at2 hx
  refine⟨⟨_,w,hq,hw⟩,λv H3 yd=>?_⟩
  obtain⟨e,y'⟩:=yd
  subst e
  have:=(hw.symm.trans (y' _ hq))
  cases this
  exact⟨F2,.refl k2,Rp.mono (wJ n sf) rw⟩
end
theorem Mg(K:PySem.W.Frag)(hl:PE X l tl)(h:X.K=K:=by rfl):PI X tg l (JZ K tl):=by subst h;exact zVg hl
section
variable{K:PySem.W.Frag}{B:Bs}{sl:SL K}{md:Md}{te:TE}{α:Type}[Rp K α]
def Bc{α:Type}(xs ys:List α):Option (List α):=if xs.length+ys.length<cap then some (xs++ys) else none
theorem zNl{n:Bool}{xs:List α}{m:Option (List α)}(i:Nat)(hs:sl[i]?=some (.ow n xs))(hh:sl.all (λs=>!cT s)=true)(h:Ex B sl (eN n) te m) :
  Sn B sl (Ow (O_ K "list" Ym (bZ i) (yQ te bJ))) (λys=>sl.set i (.ow n ys)) (m.bind λa=>Bc xs a):=λys ha G D σ H s k=>by
 cases m with
 |none=>cases ha
 |some a =>
  have ha':Bc xs a=some ys:=ha
  unfold Bc at ha'
  split at ha'
  case isFalse=>cases ha'
  rename_i hl
  cases ha'
  obtain⟨F,O,g,z⟩:=s
  obtain⟨p,vs,h1,h2,h3,_⟩:=z.chg hs hh
  refine⟨_,h1,.inl ⟨rfl,_,aW.of h2⟩,?_⟩
  refine h a rfl F O H σ _ z λv F' H' gr r=>?_
  obtain⟨p',vs',h1',h2',h3',h4'⟩:=(z.grow gr).chg hs hh
  have e:=h1.symm.trans h1'
  cases e
  obtain⟨q,us,rfl,z1,z2⟩:=r
  obtain⟨O',z'⟩:=h4' (vs'++us) (xs++a) (h3'.app z2)
  exact⟨p,q,_,_,rfl,rfl,h2',Ao gr.ok n q _ z1,by rw[h3'.len,z2.len];exact acw (Cy hl),k _ _ ⟨F',O',g.trans gr.ff,z'⟩⟩
end
end Ts
namespace T9
open PySem PySem.Spec PyProof.Rows
set_option maxRecDepth 100000
section
variable{prog:Program}{w:World}{A:Around}{E:Value->Shared->Prop}{s:Shared}
abbrev ZL(h:Heap)(z TI TO T:Addr)(b:Bool):Prop :=
 h.get? z=some { cls:=.type "zip",dict:=none,data:=.fields #[rawInt T,.bool b,.bool false,.ref TI,.ref TO],slots:=#[] }
structure ZSt(h:Heap)(S z TI TO i1 i2 l1 l2 N i:Nat)(xs ys acc:Array Value):Prop where
 sz:h.objs.size=N+i
 zz:(i=0/\IsZip h z TI TO .none/\∃a b,IsPair h TO a b)\/(0<i/\∃b,ZL h z TI TO N b)
 ti:IsPair h TI (.ref i1) (.ref i2)
 h1:h.IsListIter i1 l1 i
 h2:h.IsListIter i2 l2 i
 q1:h.IsList l1 xs
 q2:h.IsList l2 ys
 ls:∃c,h.get? S=some { cls:=.type "list",dict:=none,data:=.seq acc c,slots:=#[] }
 al:acc.toList=(aa5 i).map λj=>abo (N+j)
 tp:∀j x y,j<i->xs[j]?=some x->ys[j]?=some y->IsPair h (N+j) x y
variable{R:Result->Shared->Prop}
end
section
variable{prog:Program}{w:World}{A:Around}{E:Value->Shared->Prop}{s:Shared}
end
end T9
namespace L2
open PySem PySem.Spec PyProof.Rows T9
end L2
namespace Ts
open PySem L2
section
variable{K:PySem.W.Frag}{B:Bs}{sl:SL K}{md:Md}{t1 t2:TE}{α β:Type}[Rp K α][Rp K β]
end
open PySem L2 Sy
inductive tZ where
 |none
 |step (n:Int)
 |shut
 |walk (xs:LI)
 |out
 |loop (xs ys:LI)
 |rank (n:Int) (o:Option Int)
 |here
 |dead
 |plain
def tZ.word:tZ->Str
 |.none=>"none"
 |.step _=>"step"
 |.shut=>"shut"
 |.walk _=>"walk"
 |.out=>"out"
 |.loop _ _=>"loop"
 |.rank _ _=>"rank"
 |.here=>"here"
 |.dead=>"dead"
 |.plain=>"plain"
def tZ.len:tZ->Int
 |.step _=>2
 |.walk _=>2
 |.loop _ _=>3
 |.rank _ _=>3
 |_=>1
def tZ.at1:tZ->Option Int
 |.step n=>some n
 |.rank n _=>some n
 |_=>afn
section
variable{K:PySem.W.Frag}
def tZ.rest(K:PySem.W.Frag)(F:Hp):tZ->List V->Prop
 |.step n,vs=>vs=[.int n]
 |.walk xs,vs=>∃a,vs=[a]/\rp K F a xs
 |.loop xs ys,vs=>∃a b,vs=[a,b]/\rp K F a xs/\rp K F b ys
 |.rank n o,vs=>∃b,vs=[.int n,b]/\rp K F b o
 |_,vs=>vs=[]
theorem tZ.vp(s:Same F F'):∀{r:tZ}{vs:List V},r.rest K F vs->r.rest K F' vs
 |.step _,_,h=>h
 |.walk _,_,⟨a,h1,h2⟩=>⟨a,h1,Rp.mono s h2⟩
 |.loop _ _,_,⟨a,b,h1,h2,h3⟩=>⟨a,b,h1,Rp.mono s h2,Rp.mono s h3⟩
 |.rank _ _,_,⟨b,h1,h2⟩=>⟨b,h1,Rp.mono s h2⟩
 |.none,_,h=>h
 |.shut,_,h=>h
 |.out,_,h=>h
 |.here,_,h=>h
 |.dead,_,h=>h
 |.plain,_,h=>h
instance:Rp K tZ:=⟨λF v r=>∃p vs,v=.ref p/\F p=some (.tup (.str r.word::vs))/\r.rest K F vs,λs ⟨p,vs,h1,h2,h3⟩=>⟨p,vs,h1,s _ _ h2,tZ.vp s h3⟩⟩
instance:Nn K tZ:=⟨λ⟨_,_,h,_⟩=>by rw[h];intro e;cases e⟩
instance:Ty K tZ:=⟨.type "tuple",λ⟨p,_,e,h,_⟩=>by rw[e];exact .tup h⟩
end
section
variable{K:PySem.W.Frag}{B:Bs}{sl:SL K}{md:Md}{te t1 t2:TE}
end
end Ts
namespace L2
open PySem PySem.Spec PyProof.Rows
section
variable{X:Cx}
end
end L2
namespace Ts
open PySem L2
section
variable{K:PySem.W.Frag}{B:Bs}{sl:SL K}{md:Md}{t t1 t2:TE}
end
section
variable{K:PySem.W.Frag}{B:Bs}{sl:SL K}{F H H' L L':Hp}{O:Own}{σ:St}{α:Type}[Rp K α]
abbrev jh:Slot K->Bool
 |@Slot.nu _ _ _ _=>true
 |_=>false
theorem ak.Mh(h:ak B F L H sl σ O)(hn:sl.all (λs=>!cT s&&!jh s)=true):ak B F L' H' sl σ O:=by
 induction h with
 |nil=>exact .nil
 |un _ ih=>exact .un (ih (by rw[all_cons,aav] at hn;exact hn.2))
 |fz r _ ih=>exact .fz (Rp.mono (wJ _ (.refl _)) r) (ih (by rw[all_cons,aav] at hn;exact hn.2))
 |hs r _ ih=>rw[all_cons,aav] at hn;exact absurd hn.1 (by simp)
 |nu r _ ih=>rw[all_cons,aav] at hn;exact absurd hn.1 (by simp)
 |ow r _ ih=>exact .ow (r.imp λ_ _=>Rp.mono (wJ _ (.refl _))) (ih (by rw[all_cons,aav] at hn;exact hn.2))
 |od r _ ih=>exact .od r (ih (by rw[all_cons,aav] at hn;exact hn.2))
end
open PySem L2 Sy
open PySem.SeqAt (EqAt RcAt RcNeAt)
section
variable{K:PySem.W.Frag}
variable{B:Bs}{sl:SL K}{md:Md}{t1 t2:TE}
end
theorem bi6(F:aY K x y st f fd)(h:∀kV dc pm an cd ct u0 u1 u2 u3 u4 u5,bindArgs (fnOf x y (vJ st) (xQ st) (zH st) .none kV dc pm an cd ct) ⟨[u0,u1,u2,u3,u4,u5],[]⟩=pure [(p0,u0),(p1,u1),(p2,u2),(p3,u3),(p4,u4),(p5,u5)]:=by intros;rfl):Binds K fd [p0,p1,p2,p3,p4,p5] []:=F.binds λa b c d e g us hl=>match us,hl with|[u0,u1,u2,u3,u4,u5],_=>h a b c d e g u0 u1 u2 u3 u4 u5
theorem Qd{β:Type}[Rp K β]{m:Option β}(sl2:SL K)(h:SB B sl2 t al m)(e:sl=sl2:=by rfl):SB B sl t al m:=e▸h
def del(H:Hp)(p:Addr):Hp:=λb=>if b=p then none else H b
def Mi(K:PySem.W.Frag){A β:Type}[Rp K β](as:A->SL K)(f:LI->A->Option (β×LI)):Sp:=λvs H Q _ =>
 ∃(p:Addr)(ws:LI)(us:List V)(a:A)(b:β)(ws':LI)(Fa:Hp),vs=.ref p::us/\H p=some (.lst (ws.map V.int))/\Fa p=none/\Same Fa H/\f ws a=some (b,ws')/\Ar Fa (as a) us /\
  ∀v H',Same (del H p) H'->H' p=some (.lst (ws'.map V.int))->rp K (dif H' H) v b->Q v H'
section
variable{K:PySem.W.Frag}{B:Bs}{sl:SL K}{md:Md}{β:Type}[Rp K β]
def Ey(B:Bs)(sl:SL K)(md:Md)(t:TE){α S:Type}[Rp K α](L:S->SL K)(m:Option (α×S)):Prop :=
 ∀a s,m=some (a,s)->∀(F:Hp)(O:Own)(H:Hp)(σ:St)(Q:VK),At B sl F O H σ->(∀(v:V)(F':Hp)(O':Own)(H':Hp),Same F F'->At B (L s) F' O' H' σ->rp K (reg B F' H' md) v a->Q v H')->t σ H Q
theorem zUf{A:Type}{as:A->SL K}{f:LI->A->Option (β×LI)}{ma:Option A}(i:Nat)(hs:sl[i]?=some (.ow n ws))(hh:sl.all (λs=>!cT s)=true)(h:Ea B sl .fz ta as ma) :
  Ey B sl md (Dz (Mi K as f) [] E0 (yQ (bZ i) ta)) (λws'=>sl.set i (.ow n ws')) (ma.bind λa=>f ws a):=λb ws' hc F O H σ Q z k=>by
 cases ma with
 |none=>cases hc
 |some a =>
  have hc:f ws a=some (b,ws'):=hc
  obtain⟨p,vs,h1,h2,h3,_⟩:=z.chg hs hh
  refine⟨_,h1,?_⟩
  refine h a rfl F O H σ _ z λus F' H' gr r=>?_
  have z1:=z.grow gr
  obtain⟨p',vs',h1',h2',h3',h4'⟩:=z1.chg hs hh
  cases h1.symm.trans h1'
  obtain⟨O1,O2,p2,vs2,eO,D_,_⟩:=z1.2.pH hs
  cases h1.symm.trans D_
  have fp:F' p=none:=by
   have k1:=z1.1
   rw[eO] at k1
   exact k1.one.1
  have ev:vs'=ws.map V.int:=A2.mR h3'
  show Mi K as f ((.ref p::us)++[]) H' Q E0
  rw[append_nil]
  refine⟨p,ws,us,a,b,ws',F',rfl,by rw[h2',ev],fp,gr.ok.fh,hc,r,λv H2 s2 e2 r2=>?_⟩
  obtain⟨O',z'⟩:=h4' (ws'.map V.int) ws' (A2.of_map (R:=rp K (reg B F' H' (eN n))) (f:=V.int) (λ_=>rfl) ws')
  have s3:Same (upd H' p (.lst (ws'.map V.int))) H2:=λc o e=>by
   by_cases q:c=p
   ·subst q
    rw[zK] at e
    rw[e2]
    exact e
   ·rw[zQ q] at e
    refine s2 c o ?_
    unfold del
    rw[if_neg q]
    exact e
  have g2:=z'.1.called s3
  refine k v _ O' H2 (gr.ff.trans g2.ff) (z'.grow g2) ?_
  have d:Same (dif H2 H') (dif H2 (upd H' p (.lst (ws'.map V.int)))):=λc o e=>by
   unfold dif at e ⊢
   by_cases q:c=p
   ·subst q
    rw[h2'] at e
    cases e
   ·rw[zQ q]
    exact e
  have r3:=Rp.mono (Ph (F:=F') z'.1.h0 s3) (Rp.mono d r2)
  exact match md with
  |.nw=>r3
  |.fz=>Rp.mono aZ r3
  |.hp=>Rp.mono (aZ.trans g2.ok.fh) r3
end
structure RL(p:Addr) where
 ws:LI
section
variable{K:PySem.W.Frag}{B:Bs}{sl:SL K}{F H:Hp}{O:Own}{σ:St}{md:Md}{β:Type}[Rp K β]{p:Addr}{ws:LI}
instance:Rp K (RL p):=⟨λF v x=>v=.ref p/\F p=some (.lst (x.ws.map V.int)),λs ⟨h1,h2⟩=>⟨h1,s _ _ h2⟩⟩
theorem At.ji(z:At B sl F O H σ)(hs:sl[i]?=some (.nu (RL.mk (p:=p) ws)))(hh:(sl.set i .un).all (λs=>!cT s&&!jh s)=true) :
  σ[i]?=some (some (.ref p))/\H p=some (.lst (ws.map V.int))/\B.H0 p=none/\F p=none/\(∀x∈O,x.1≠p)/\∀ws':LI,At B (sl.set i (.nu (RL.mk (p:=p) ws'))) F O (upd H p (.lst (ws'.map V.int))) σ:=by
 obtain⟨v,h1,rfl,h2⟩:=z.2.Am hs
 have b0:B.H0 p=none:=by
  cases q:B.H0 p with
  |none=>rfl
  |some u=>unfold dif at h2;rw[q] at h2;cases h2
 rw[wF b0] at h2
 have h2':=h2
 unfold lo at h2
 split at h2
 case isTrue=>cases h2
 rename_i hlo
 have hlo':=hlo
 rw[abl,not_or] at hlo
 have f0:F p=none:=by
  cases q:F p with
  |none=>rfl
  |some u=>exact absurd (by rw[q];rfl) hlo.1
 have o0:∀x∈O,x.1≠p:=λx hx e=>hlo.2 (any_eq_true.mpr ⟨x,hx,by simpa using e⟩)
 refine⟨h1,h2,b0,f0,o0,λws'=>⟨⟨z.1.fh.put f0 _,z.1.h0.put b0 _,z.1.fa,λx hx=>?_,z.1.nd⟩,?_⟩⟩
 ·obtain⟨a1,a2,a3⟩:=z.1.fo x hx
  exact⟨a1,a2,by rw[zQ (o0 x hx)];exact a3⟩
 ·have e:σ.set i (some (.ref p))=σ:=by
   apply ext_getElem?
   intro j
   rw[acu]
   split
   ·rename_i hij
    subst hij
    split
    ·exact h1.symm
    ·rename_i hlt
     rw[abk (by omega)] at h1
     cases h1
   ·rfl
  have q:=z.2.put (s':=.un) (x:=some (.ref p)) (λsl σ O h=>.un h) hs rfl
  rw[e] at q
  have q2:=q.Mh (L':=lo F O (upd H p (.lst (ws'.map V.int)))) (H':=upd H p (.lst (ws'.map V.int))) hh
  have hlt:i<sl.length:=by
   cases c:decide (i<sl.length) with
   |true=>exact of_decide_eq_true c
   |false=>rw[abk (by have:=of_decide_eq_false c;omega)] at hs;cases hs
  have q3:=q2.put (s:=.un) (s':=.nu (RL.mk (p:=p) ws')) (x:=some (.ref p)) (i:=i) (λsl σ O h=>.nu (by
   refine⟨rfl,?_⟩
   rw[wF b0]
   unfold lo
   rw[if_neg hlo',zK]) h) (by rw[acu,if_pos rfl,if_pos hlt]) rfl
  rw[e,set_set] at q3
  exact q3
end
section
variable{K:PySem.W.Frag}{B:Bs}{sl:SL K}{F H:Hp}{O:Own}{σ:St}{md:Md}{α β S:Type}[Rp K α][Rp K β]{p:Addr}{ws:LI}{te:TE}{t u:TS}
def qZ(B:Bs)(p:Addr)(sl:SL K)(t:TS){β:Type}[Rp K β](m:Option (β×LI)):Prop :=
 ∀b ws,m=some (b,ws)->∀(G:Hp)(D:Ends)(σ:St)(H:Hp),Sg B G sl σ H->(∀v H',Same B.H0 H'->H' p=some (.lst (ws.map V.int))->(∃F:Hp,F p=none/\Same F H'/\rp K (dif F B.H0) v b)->D.rt v H')->t D σ H
theorem qZ.of{m m':Option (β×LI)}(h:qZ B p sl t m)(e:m=m'):qZ B p sl t m':=e▸h
theorem zPp{m:Option β}(i:Nat)(hs:sl[i]?=some (.nu (RL.mk (p:=p) ws)))(hh:(sl.set i .un).all (λs=>!cT s&&!jh s)=true)(h:Ex B sl .nw te m):qZ B p sl (h_ (qN te) u) (m.bind λb=>some (b,ws)):=λb ws' hb G D σ H s k=>by
 cases m with
 |none=>cases hb
 |some c =>
  obtain⟨rfl,rfl⟩:=aeo (aaw (show some (c,ws)=some (b,ws') from hb))
  obtain⟨F,O,g,a⟩:=s
  refine h c rfl F O H σ _ a λv F' H' gr r=>?_
  obtain⟨_,h2,_,f0,_⟩:=(a.grow gr).ji hs hh
  exact k v H' gr.ok.h0 h2 ⟨F',f0,gr.ok.fh,r⟩
theorem Qe(hs:sl[i]?=some s):(sl.set i s')[i]?=some s':=by
 have hlt:i<sl.length:=by
  cases c:decide (i<sl.length) with
  |true=>exact of_decide_eq_true c
  |false=>rw[abk (by have:=of_decide_eq_false c;omega)] at hs;cases hs
 rw[acu,if_pos rfl,if_pos hlt]
theorem zS9{s:Slot K}{m:Option (β×LI)}(i:Nat)(hs:sl[i]?=some s)(hh:(sl.set i .un).all (λs=>!cT s&&!jh s)=true)(h:Ey B sl .nw te (λws'=>sl.set i (.nu (RL.mk (p:=p) ws'))) m):qZ B p sl (h_ (qN te) u) m:=λb ws' hb G D σ H s k=>by
 obtain⟨F,O,g,a⟩:=s
 refine h b ws' hb F O H σ _ a λv F' O' H' sf a' r=>?_
 obtain⟨_,h2,_,f0,_⟩:=a'.ji (Qe hs) (by rw[set_set];exact hh)
 exact k v H' a'.1.h0 h2 ⟨F',f0,a'.1.fh,r⟩
theorem Mj{f:S->Option (β×LI)}(h1:Sn B sl t L m1)(h2:∀s,qZ B p (L s) u (f s)):qZ B p sl (h_ t u) (m1.bind f):=λa w ha G D σ H q k=>by
 cases m1 with
 |none=>cases ha
 |some s=>exact h1 s rfl G _ σ H q λσ' H' q'=>h2 s a w ha G D σ' H' q' k
theorem Gd{c:TT}{n:Option Bool}{m1 m2:Option (β×LI)}(hc:Et B sl c n)(h1:qZ B p sl t m1)(h2:qZ B p sl u m2):qZ B p sl (h_ (uh c t JM) u) (n.bind λb=>if b=true then m1 else m2):=λa w ha G D σ H s k=>by
 cases n with
 |none=>cases ha
 |some b =>
  obtain⟨F,O,g,z⟩:=s
  refine hc b rfl F O H σ _ z λF' H' gr=>?_
  cases b with
  |true=>exact iu (h1 a w (by simpa using ha) G _ σ H' (Sg.grow g z gr) k)
  |false=>exact kJ (h2 a w (by simpa using ha) G D σ H' (Sg.grow g z gr) k)
theorem Ge(i:Nat)(hs:sl[i]?=some (.nu (RL.mk (p:=p) ws)))(hh:(sl.set i .un).all (λs=>!cT s&&!jh s)=true):Ey B sl md (Km K "list" Rx (bZ i)) (λws'=>sl.set i (.nu (RL.mk (p:=p) ws'))) (ws.getLast?.bind λy=>some (y,ws.dropLast)):=λb ws' hb F O H σ Q z k=>by
 cases e2:ws.getLast? with
 |none=>rw[e2] at hb;cases hb
 |some y =>
  rw[e2] at hb
  obtain⟨rfl,rfl⟩:=aeo (aaw (show some (y,ws.dropLast)=some (b,ws') from hb))
  obtain⟨h1,h2,b0,f0,o0,ch⟩:=z.ji hs hh
  refine⟨_,h1,.inl ⟨rfl,_,aW.of h2⟩,p,ws.map V.int,V.int y,rfl,rfl,h2,?_,?_⟩
  ·rw[length_map,getElem?_map,<-List.getLast?_eq_getElem?,e2];rfl
  rw[<-List.map_dropLast]
  exact k _ F O _ (.refl _) (ch ws.dropLast) rfl
theorem Gf(i:Nat)(hs:sl[i]?=some (.nu (RL.mk (p:=p) ws)))(hh:(sl.set i .un).all (λs=>!cT s&&!jh s)=true):Ex B sl md (yu (K1 K) (yQ (bZ i) bJ)) (some (ws.length:Int)):=λd hd F O H σ Q z k=>by
 cases hd
 obtain⟨h1,h2,_⟩:=z.ji hs hh
 refine⟨_,h1,p,_,rfl,.inl (aW.of h2),k _ F H (.refl z.1) ?_⟩
 rw[length_map]
 rfl
theorem zIh{as:SL K}(k:Nat)(hf:as.all isF=true)(r:Ar F as vs):ak B F L' H (as++replicate k .un) (vs.map some++replicate k none) []:=by
 induction r with
 |nil =>
  show ak _ _ _ _ ([]++_) ([]++_) []
  rw[nil_append,nil_append]
  induction k with
  |zero=>exact .nil
  |succ k ih=>exact .un ih
 |@cons n _ _ _ _ _ _ r _ ih =>
  rw[all_cons,aav] at hf
  cases n with
  |false=>exact .fz r (ih hf.2)
  |true=>exact absurd hf.1 (by simp)
end
section
variable{P:Program}{w:World}{K:PySem.W.Frag}{mg:Str->Option Value}{base:Heap}
theorem zRv{A β:Type}[Rp K β]{as:A->SL K}{fM:LI->A->Option (β×LI)}(F:aY K x qual st f fd)(S:ao N ps (zH st))(hf:∀a,(as a).all isF=true)(hl:∀a,(as a).length+1=ps.length)(hb:∀(cdv:Value) (A:Around) (outer:List Env) (s:Shared) (H:Hp) (E:XK),bW k (A.deeper (adp qual (zH st) s.heap.objs.size f cdv)) ->
   ∃t,qI (oX aO P w K mg base N qual (zH st) f cdv A outer s H E).Dm (xQ st) t/\∀Fa p ws a,qZ ⟨Fa,del H p⟩ p (.nu (RL.mk (p:=p) ws)::(as a++replicate (N.length-ps.length) .un)) t (fM ws a)) :
  aq P w K mg base aO (k+1) f fd ps (Mi K as fM) :=
 F.ok S (λvs H Q E h=>by
  obtain⟨p,ws,us,a,b,ws',Fa,rfl,_,_,_,_,r,_⟩:=h
  rw[length_cons,r.len,hl]) λcdv A outer s H vs Q E hr h=>by
  obtain⟨t,pt,q⟩:=hb cdv A outer s H E hr
  refine⟨t,pt,?_⟩
  obtain⟨p,ws,us,a,b,ws',Fa,rfl,hp,fp,sf,hfa,r,kk⟩:=h
  have e:L2.start N (.ref p::us)=some (.ref p)::(us.map some++replicate (N.length-ps.length) none):=by
   unfold L2.start
   rw[length_cons,r.len,hl]
   rfl
  have d0:Same (del H p) H:=λc o e=>by
   unfold del at e
   split at e
   ·cases e
   ·exact e
  have dp:del H p p=none:=by
   unfold del
   rw[if_pos rfl]
  rw[e]
  refine q Fa p ws a b ws' hfa Fa _ _ H ⟨Fa,[],.refl _,⟨sf,d0,λb o h=>.inl h,λx hx=>(by cases hx),(by simp)⟩,.nu ⟨rfl,?_⟩ (zIh _ (hf a) r)⟩ (λv H' s1 e1 z=>?_)
  ·rw[wF dp]
   unfold lo
   rw[fp]
   exact hp
  ·obtain⟨F2,f2,s2,r2⟩:=z
   refine kk v H' s1 e1 (Rp.mono (λc o e=>?_) r2)
   unfold dif at e ⊢
   by_cases c1:c=p
   ·subst c1
    have e:(match del H c c with|none=>F2 c|some _=>none)=some o:=e
    rw[dp,f2] at e
    cases e
   ·have ed:del H p c=H c:=by
     unfold del
     rw[if_neg c1]
    have e:(match del H p c with|none=>F2 c|some _=>none)=some o:=e
    rw[ed] at e
    show(match H c with|none=>H' c|some _=>none)=some o
    cases hc:H c with
    |none=>rw[hc] at e;exact s2 _ _ e
    |some u=>rw[hc] at e;cases e
end
section
variable{K:PySem.W.Frag}{B:Bs}{sl:SL K}{md:Md}{α β S:Type}[Rp K α][Rp K β]{te:TE}
theorem ZM{L:S->SL K}(n:Bool)(j:Nat)(hs:∀s,∃x,(L s)[j]?=some x/\jE x=false)(h:Ey B sl (eN n) te L m):Sn B sl (mO te (pF j)) (λr:α×S=>(L r.2).set j (.fz n r.1)) m:=λa ha G D σ H s k=>by
 obtain⟨F,O,g,z⟩:=s
 obtain⟨x,h1,h2⟩:=hs a.2
 exact h a.1 a.2 ha F O H σ _ z λv F' O' H' sf z' r=>k _ _ (Sg.set (g.trans sf) z' h1 h2 r)
end
section
variable{K:PySem.W.Frag}{B:Bs}{sl:SL K}{md:Md}{α β S:Type}[Rp K α][Rp K β]{te:TE}{p:Addr}{ws:LI}
structure Fr(p:Addr)(F H F' H':Hp):Prop where
 ff:Same F F'
 hh:∀b o,b≠p->H b=some o->H' b=some o
 nw:∀b,F b=none->H b≠none->F' b=none
theorem Fr.of(g:bK B F H O F' H'):Fr p F H F' H':=⟨g.ff,λb o _ e=>g.hh b o e,g.nw⟩
theorem Fr.refl(F H:Hp):Fr p F H F H:=⟨.refl _,λ_ _ _ e=>e,λ_ h _=>h⟩
theorem Fr.trans(a:Fr p F H F1 H1)(b:Fr p F1 H1 F2 H2)(hp:H1 p≠none):Fr p F H F2 H2 :=
 ⟨a.ff.trans b.ff,λc o n e=>b.hh c o n (a.hh c o n e),λc h1 h2=>b.nw c (a.nw c h1 h2) (by
  by_cases n:c=p
  ·rw[n];exact hp
  ·cases q:H c with
   |none=>exact absurd q h2
   |some o=>rw[a.hh c o n q];intro z;cases z)⟩
def vq(B:Bs)(p:Addr)(sl:SL K)(md:Md)(t:TE){α S:Type}[Rp K α](L:S->SL K)(m:Option (α×S)):Prop :=
 ∀a s,m=some (a,s)->∀(F:Hp)(O:Own)(H:Hp)(σ:St)(Q:VK),At B sl F O H σ->(∀(v:V)(F' H':Hp),Fr p F H F' H'->At B (L s) F' O H' σ->rp K (reg B F' H' md) v a->Q v H')->t σ H Q
theorem vq.ey{L:S->SL K}{m:Option (α×S)}(h:vq B p sl md te L m):Ey B sl md te L m:=λa s e F O H σ Q z k=>h a s e F O H σ Q z λv F' H' f z' r=>k v F' O H' f.ff z' r
theorem WW{A:Type}{as:A->SL K}{f:LI->A->Option (β×LI)}{ma:Option A}(i:Nat)(hs:sl[i]?=some (.nu (RL.mk (p:=p) ws)))(hh:(sl.set i .un).all (λs=>!cT s&&!jh s)=true)(h:Ea B sl .fz ta as ma) :
  vq B p sl md (Dz (Mi K as f) [] E0 (yQ (bZ i) ta)) (λws'=>sl.set i (.nu (RL.mk (p:=p) ws'))) (ma.bind λa=>f ws a):=λb ws' hc F O H σ Q z k=>by
 cases ma with
 |none=>cases hc
 |some a =>
  have hc:f ws a=some (b,ws'):=hc
  obtain⟨h1,_⟩:=z.ji hs hh
  refine⟨_,h1,?_⟩
  refine h a rfl F O H σ _ z λus F' H' gr r=>?_
  obtain⟨_,h2,b0,f0,o0,ch⟩:=(z.grow gr).ji hs hh
  show Mi K as f ((.ref p::us)++[]) H' Q E0
  rw[append_nil]
  refine⟨p,ws,us,a,b,ws',F',rfl,h2,f0,gr.ok.fh,hc,r,λv H2 s2 e2 r2=>?_⟩
  have z':=ch ws'
  have s3:Same (upd H' p (.lst (ws'.map V.int))) H2:=λc o e=>by
   by_cases q:c=p
   ·subst q
    rw[zK] at e
    rw[e2]
    exact e
   ·rw[zQ q] at e
    refine s2 c o ?_
    unfold del
    rw[if_neg q]
    exact e
  have g2:=z'.1.called s3
  have V1:Fr p F' H' F' (upd H' p (.lst (ws'.map V.int))):=⟨.refl _,λc o n e=>by rw[zQ n];exact e,λ_ h _=>h⟩
  have up:upd H' p (.lst (ws'.map V.int)) p≠none:=by rw[zK];intro q;cases q
  refine k v _ H2 ((Fr.of gr).trans (V1.trans (.of g2) up) (by rw[h2];intro q;cases q)) (z'.grow g2) ?_
  have d:Same (dif H2 H') (dif H2 (upd H' p (.lst (ws'.map V.int)))):=λc o e=>by
   unfold dif at e ⊢
   by_cases q:c=p
   ·subst q
    rw[h2] at e
    cases e
   ·rw[zQ q]
    exact e
  have r3:=Rp.mono (Ph (F:=F') z'.1.h0 s3) (Rp.mono d r2)
  exact match md with
  |.nw=>r3
  |.fz=>Rp.mono aZ r3
  |.hp=>Rp.mono (aZ.trans g2.ok.fh) r3
theorem ZP{A:Type}{as:A->SL K}{f:α×A->Option β}{ma:S->Option A}(h0:vq B p sl .hp te L m)(hL:∀s,∃(i:Nat) (ws:LI),(L s)[i]?=some (.nu (RL.mk (p:=p) ws))/\((L s).set i .un).all (λs=>!cT s&&!jh s)=true)(h:∀s,Ea B (L s) .hp ta as (ma s)) :
  vq B p sl md (Dz (cQ K false (λx:α×A=>.fz false x.1::as x.2) f) [] E0 (yQ te ta)) L (m.bind λr=>(ma r.2).bind λa=>(f (r.1,a)).bind λb=>some (b,r.2)):=λc s hc F O H σ Q z k=>by
 cases m with
 |none=>cases hc
 |some r =>
  obtain⟨a,s'⟩:=r
  have hc:((ma s').bind λx=>(f (a,x)).bind λb=>some (b,s'))=some (c,s):=hc
  cases e1:ma s' with
  |none=>rw[e1] at hc;cases hc
  |some x =>
   rw[e1] at hc
   have hc:((f (a,x)).bind λb=>some (b,s'))=some (c,s):=hc
   cases e2:f (a,x) with
   |none=>rw[e2] at hc;cases hc
   |some b =>
    rw[e2] at hc
    obtain⟨rfl,rfl⟩:=aeo (aaw (show some (b,s')=some (c,s) from hc))
    refine h0 a s' rfl F O H σ _ z λv F1 H1 fr z1 r1=>?_
    obtain⟨i,w1,i1,i2⟩:=hL s'
    obtain⟨_,hp1,_⟩:=z1.ji i1 i2
    refine h s' x e1 F1 O H1 σ _ z1 λvs F2 H2 gr r2=>?_
    show cQ K false (λx:α×A=>.fz false x.1::as x.2) f ((v::vs)++[]) H2 Q E0
    rw[append_nil]
    refine⟨(a,x),b,H2,.refl _,e2,.cons (Rp.mono gr.hh r1) r2,λv2 H3 s3 r3=>?_⟩
    have g2:=gr.ok.called s3
    refine k v2 _ H3 (fr.trans (.of (gr.trans g2)) (by rw[hp1];intro q;cases q)) (z1.grow (gr.trans g2)) ?_
    have r4:=Rp.mono (Ph (F:=F2) gr.ok.h0 s3) r3
    exact match md with
    |.nw=>r4
    |.fz=>Rp.mono aZ r4
    |.hp=>Rp.mono (aZ.trans g2.ok.fh) r4
end
def lY{α β:Type}(f:LI->α->Option (β×LI)):LI->List α->Option (List β×LI)
 |ws,[]=>some ([],ws)
 |ws,x::xs=>(f ws x).bind λr=>(lY f r.2 xs).bind λq=>some (r.1::q.1,q.2)
def Ml{α β:Type}(f:LI->α->Option (β×LI))(ws:LI)(xs:List α):Option (List β×LI):=if xs.length<cap then lY f ws xs else none
section
variable{K:PySem.W.Frag}{B:Bs}{sl:SL K}{md:Md}{α β S:Type}[Rp K α][Rp K β]{te:TE}{p:Addr}{ws:LI}{n n':Bool}
def T_(B:Bs)(p:Addr)(sl:SL K)(md:Md)(t:TE){α S:Type}[Rp K α](L:S->SL K)(m:Option (List α×S)):Prop :=
 ∀a s,m=some (a,s)->∀(F:Hp)(O:Own)(H:Hp)(σ:St)(Q:VK),At B sl F O H σ->(∀(q:Addr)(vs:List V)(F' H':Hp),Fr p F H F' H'->At B (L s) F' O H' σ->H' q=none->A2 (rp K (reg B F' H' md)) vs a->Q (.ref q) (upd H' q (.lst vs)))->t σ H Q
theorem At.Ua{w2:LI}(z:At B sl F O H σ)(hs:sl[i]?=some (.nu (RL.mk (p:=p) ws)))(hh:(sl.set i .un).all (λs=>!cT s&&!jh s)=true)(fr:Fr p F H F2 H2)(k2:Ok B F2 [] H2)(hp:H2 p=some (.lst (w2.map V.int)))(fp:F2 p=none):At B (sl.set i (.nu (RL.mk (p:=p) w2))) F2 O H2 σ:=by
 obtain⟨h1,h2,b0,f0,o0,_⟩:=z.ji hs hh
 refine⟨⟨k2.fh,k2.h0,k2.fa,λx hx=>?_,z.1.nd⟩,?_⟩
 ·obtain⟨a1,a2,a3⟩:=z.1.fo x hx
  exact⟨fr.nw _ a1 (by rw[a3];intro q;cases q),a2,fr.hh _ _ (o0 x hx) a3⟩
 ·have e:σ.set i (some (.ref p))=σ:=by
   apply ext_getElem?
   intro j
   rw[acu]
   split
   ·rename_i hij
    subst hij
    split
    ·exact h1.symm
    ·rename_i hlt
     rw[abk (by omega)] at h1
     cases h1
   ·rfl
  have q:=z.2.put (s':=.un) (x:=some (.ref p)) (λsl σ O h=>.un h) hs rfl
  rw[e] at q
  have q2:=(q.Mh (L':=lo F2 O H2) (H':=H2) hh).mono fr.ff (.refl _) (.refl _)
  have q3:=q2.put (s:=.un) (s':=.nu (RL.mk (p:=p) w2)) (x:=some (.ref p)) (i:=i) (λsl σ O h=>.nu (by
   refine⟨rfl,?_⟩
   rw[wF b0]
   unfold lo
   rw[if_neg,hp]
   rw[fp,abl,not_or]
   exact⟨by simp,λq=>by
    obtain⟨x,hx,ex⟩:=any_eq_true.mp q
    exact o0 x hx (by simpa using ex)⟩) h) (Qe hs) rfl
  rw[e,set_set] at q3
  exact q3
theorem zMn{iU:LI->SL K}{Lx:LI->α->SL K}{f:LI->α->Option (β×LI)}(j:Nat)(hs:sl[j]?=some (.nu (RL.mk (p:=p) ws)))(hh:(sl.set j .un).all (λs=>!cT s&&!jh s)=true)(h0:∀(F:Hp) (O:Own) (H:Hp) (σ:St),At B sl F O H σ->ak B F (lo F [] H) H (iU ws) (je σ no ix) [])(hi:Ei B sl n wi mi)(hg:∀ws,Tg B (iU ws) n g (Lx ws))(hc:∀ws x,Et B (Lx ws x) tc (some true))(he:∀ws x,vq B p (Lx ws x) (eN n') te (λws'=>Lx ws' x) (f ws x))(hle:∀ws x,rP (Lx ws x) (iU ws))(hI:∀ws x,∃jI,(Lx ws x)[jI]?=some (.nu (RL.mk (p:=p) ws))/\((Lx ws x).set jI .un).all (λs=>!cT s&&!jh s)=true) :
  T_ B p sl (eN n') (Pb no ix wi g tc te) (λws'=>sl.set j (.nu (RL.mk (p:=p) ws'))) (mi.bind λxs=>Ml f ws xs):=λzs wE hz F O H σ Q a k=>by
 cases mi with
 |none=>cases hz
 |some xs =>
  have hz:Ml f ws xs=some (zs,wE):=hz
  unfold Ml at hz
  split at hz
  case isFalse=>cases hz
  rename_i hcap
  have hcl:=Cy hcap
  refine hi xs rfl F O H σ _ a λJ F' H' gr yl=>?_
  have a':=a.grow gr
  have zl:zs.length=xs.length:=by
   have key:∀(xs:List α)(ws:LI)(zs:List β)(wE:LI),lY f ws xs=some (zs,wE)->zs.length=xs.length:=by
    intro xs
    induction xs with
    |nil=>intro ws zs wE h;cases h;rfl
    |cons x xs ih =>
     intro ws zs wE h
     unfold lY at h
     cases e1:f ws x with
     |none=>rw[e1] at h;cases h
     |some r =>
      rw[e1] at h
      have h:((lY f r.2 xs).bind λq=>some (r.1::q.1,q.2))=some (zs,wE):=h
      cases e2:lY f r.2 xs with
      |none=>rw[e2] at h;cases h
      |some q =>
       rw[e2] at h
       cases(show some (r.1::q.1,q.2)=some (zs,wE) from h)
       rw[length_cons,length_cons,ih r.2 q.1 q.2 e2]
   exact key xs ws zs wE hz
  refine⟨λi m ys σ2 H2=>m=xs.length-i/\i<=xs.length/\∃(F2:Hp)(wi:LI)(bs cs:List β),lY f wi (xs.drop i)=some (cs,wE)/\bs++cs=zs/\bs.length=i/\Fr p F' H' F2 H2/\At B (sl.set j (.nu (RL.mk (p:=p) wi))) F2 O H2 σ/\ak B F2 (lo F2 [] H2) H2 (iU wi) σ2 []/\A2 (rp K (reg B F2 H2 (eN n'))) ys bs,
   ⟨xs.length,rfl,abd _,F',ws,[],zs,hz,rfl,rfl,.refl _ _,?_,h0 F' O H' σ a',trivial⟩,?_⟩
  ·have e:sl.set j (.nu (RL.mk (p:=p) ws))=sl:=by
    apply ext_getElem?
    intro i
    rw[acu]
    split
    ·rename_i hij
     subst hij
     split
     ·exact hs.symm
     ·rename_i hlt
      rw[abk (by omega)] at hs
      cases hs
    ·rfl
   rw[e]
   exact a'
  rintro i m ys σ2 H2 ⟨rfl,hil,F2,wi,bs,cs,hw,ez,bl,ZQ,at2,s2,r2⟩
  have hyl:ys.length=i:=by rw[r2.len,bl]
  obtain⟨y1,y2⟩:=yl i F2 O H2 ZQ.ff at2.1
  by_cases hlt:i<xs.length
  ·obtain⟨go,y3⟩:=y2 xs[i] (aat hlt)
   rw[List.drop_eq_getElem_cons hlt] at hw
   unfold lY at hw
   cases e1:f wi xs[i] with
   |none=>rw[e1] at hw;cases hw
   |some r =>
    rw[e1] at hw
    have hw:((lY f r.2 (xs.drop (i+1))).bind λq=>some (r.1::q.1,q.2))=some (cs,wE):=hw
    cases e2:lY f r.2 (xs.drop (i+1)) with
    |none=>rw[e2] at hw;cases hw
    |some q =>
     rw[e2] at hw
     obtain⟨y,w2⟩:=r
     obtain⟨cs',wE'⟩:=q
     obtain⟨rfl,rfl⟩:=aeo (aaw (show some (y::cs',wE')=some (cs,wE) from hw))
     refine .inr ⟨go,by omega,λys' σ' H4=>∃(F4:Hp),Fr p F' H' F4 H4/\At B (sl.set j (.nu (RL.mk (p:=p) w2))) F4 O H4 σ/\ak B F4 (lo F4 [] H4) H4 (iU w2) σ' []/\A2 (rp K (reg B F4 H4 (eN n'))) ys' (bs++[y]),λys' σ' H4 ⟨F4,z1,z2,z3,z4⟩=>⟨xs.length-(i+1),by omega,rfl,hlt,F4,w2,bs++[y],cs',e2,by rw[append_assoc];exact ez,by rw[length_append,bl];rfl,z1,z2,z3,z4⟩,λv H3 yd=>?_⟩
     obtain⟨F3,g3,r3⟩:=y3 v H3 yd
     have Ub:=at2.grow g3
     have Pn:At B (iU wi) F3 [] H3 σ2:=⟨g3.ok.nil,s2.mono g3.ff (YD ⟨g3.ff,g3.hh,g3.ok.nil,g3.nw⟩) g3.hh⟩
     refine hg wi v xs[i] F3 [] H3 σ2 _ Pn r3 λσ4 a4=>?_
     refine hc wi xs[i] true rfl F3 [] H3 σ4 _ a4 λF5 H5 g5=>iu ?_
     have g5':=bK.lift g3.ok g5
     have at5:=Ub.grow g5'
     refine he wi xs[i] y w2 e1 F5 [] H5 σ4 _ (a4.grow g5) λu F6 H6 ZR a6 r6=>?_
     obtain⟨_,WX,b5,f5,o5,ch5⟩:=at5.ji (Qe hs) (by rw[set_set];exact hh)
     obtain⟨jI,i1,i2⟩:=hI w2 xs[i]
     obtain⟨_,ZS,_,f6,_⟩:=a6.ji i1 i2
     obtain⟨_,hp2,_⟩:=at2.ji (Qe hs) (by rw[set_set];exact hh)
     obtain⟨_,hp3,_⟩:=Ub.ji (Qe hs) (by rw[set_set];exact hh)
     have nn:∀{H:Hp}{w:LI},H p=some (.lst (w.map V.int))->H p≠none:=λe=>by rw[e];intro z;cases z
     have at6:=at5.Ua (Qe hs) (by rw[set_set];exact hh) ZR a6.1 ZS f6
     rw[set_set] at at6
     exact⟨F6,ZQ.trans ((Fr.of g3).trans ((Fr.of g5').trans ZR (nn WX)) (nn hp3)) (nn hp2),at6,a6.2.le0 (hle w2 xs[i]),(r2.imp λ_ _=>Rp.mono (wJ _ (g3.ff.trans (g5.ff.trans ZR.ff)))).snoc r6⟩
  ·have e:i=xs.length:=by omega
   subst e
   rw[List.drop_length] at hw
   cases(show some (([]:List β),wi)=some (cs,wE) from hw)
   rw[append_nil] at ez
   subst ez
   exact .inl ⟨y1 (aau _),by omega,λq hq=>k q ys F2 H2 ((Fr.of gr).trans ZQ (by
    obtain⟨_,h2,_⟩:=a'.ji hs hh
    rw[h2];intro q;cases q)) at2 hq r2⟩
end
section
variable{K:PySem.W.Frag}{B:Bs}{sl:SL K}{md:Md}{α β S:Type}[Rp K α][Rp K β]{te t1 t2:TE}{p:Addr}
theorem T_.eyn{L:S->SL K}{m:Option (List α×S)}(hL:∀s,∃(i:Nat) (ws:LI),(L s)[i]?=some (.nu (RL.mk (p:=p) ws))/\((L s).set i .un).all (λs=>!cT s&&!jh s)=true)(h:T_ B p sl md te L m):vq B p sl md te L m:=λa s e F O H σ Q z k=>h a s e F O H σ Q z λq vs F' H' fr z' hq r=>by
 have g2:=bK.new z'.1 hq (.lst vs)
 obtain⟨i,w1,i1,i2⟩:=hL s
 obtain⟨_,hp1,_⟩:=z'.ji i1 i2
 exact k _ _ _ (fr.trans (.of g2) (by rw[hp1];intro q;cases q)) (z'.grow g2) ⟨q,vs,rfl,Pj z'.1 hq md,r.imp λ_ _=>Rp.mono (xE g2 md)⟩
theorem zUe{n:Bool}{L:S->SL K}{m1:Option α}{m2:Option (β×S)}{i:Nat}{ws:LI}(hs:sl[i]?=some (.nu (RL.mk (p:=p) ws)))(hh:(sl.set i .un).all (λs=>!cT s&&!jh s)=true)(hL:∀s,∃(i:Nat) (ws:LI),(L s)[i]?=some (.nu (RL.mk (p:=p) ws))/\((L s).set i .un).all (λs=>!cT s&&!jh s)=true)(h1:Ex B sl (eN n) t1 m1)(h2:vq B p sl (eN n) t2 L m2):vq B p sl (eN n) (uq (yQ t1 (yQ t2 bJ))) L (m1.bind λa=>m2.bind λr=>some ((a,r.1),r.2)):=λc s hc F O H σ Q z k=>by
 cases m1 with
 |none=>cases hc
 |some a =>
  cases m2 with
  |none=>cases hc
  |some r =>
   obtain⟨b,s'⟩:=r
   obtain⟨rfl,rfl⟩:=aeo (aaw (show some ((a,b),s')=some (c,s) from hc))
   refine h1 a rfl F O H σ _ z λv F1 H1 g r1=>?_
   obtain⟨_,hp1,_⟩:=(z.grow g).ji hs hh
   refine h2 b s' rfl F1 O H1 σ _ (z.grow g) λw F2 H2 fr z2 r2=>?_
   obtain⟨i',w1,i1,i2⟩:=hL s'
   obtain⟨_,hp2,_⟩:=z2.ji i1 i2
   refine⟨by show 2<=sizeLine;decide,λq hq=>?_⟩
   have g3:=bK.new z2.1 hq (.tup [v,w])
   exact k _ _ _ ((Fr.of g).trans (fr.trans (.of g3) (by rw[hp2];intro q;cases q)) (by rw[hp1];intro q;cases q)) (z2.grow g3) ⟨q,v,w,rfl,Pj z2.1 hq _,Rp.mono (wJ _ (fr.ff.trans g3.ff)) r1,Rp.mono (wJ _ g3.ff) r2⟩
theorem zNm{L:S->SL K}(i:Nat)(hs:sl[i]?=some (.ow n xs))(hh:sl.all (λs=>!cT s)=true)(hL:∀s,(L s)[i]?=some (.ow n xs)/\(L s).all (λs=>!cT s)=true)(h:vq B p sl (eN n) te L m) :
  Sn B sl (Ow (O_ K "list" Yk (bZ i) (yQ te bJ))) (λr:List α×S=>(L r.2).set i (.ow n r.1)) (m.bind λr=>(push xs r.1).bind λys=>some (ys,r.2)):=λys ha G D σ H s k=>by
 cases m with
 |none=>cases ha
 |some r =>
  obtain⟨a,s'⟩:=r
  have ha:((push xs a).bind λys=>some (ys,s'))=some ys:=ha
  cases e1:push xs a with
  |none=>rw[e1] at ha;cases ha
  |some ys' =>
   rw[e1] at ha
   cases(show some (ys',s')=some ys from ha)
   unfold push at e1
   split at e1
   case isFalse=>cases e1
   rename_i hl
   cases e1
   obtain⟨F,O,g,z⟩:=s
   obtain⟨q,vs,h1,h2,h3,_⟩:=z.chg hs hh
   refine⟨_,h1,.inl ⟨rfl,_,aW.of h2⟩,?_⟩
   refine h a s' rfl F O H σ _ z λv F' H' fr z' r=>?_
   obtain⟨q',vs',h1',h2',h3',h4'⟩:=z'.chg (hL s').1 (hL s').2
   cases h1.symm.trans h1'
   obtain⟨O',z2⟩:=h4' (vs'++[v]) (xs++[a]) (h3'.snoc r)
   exact⟨q,vs',v,rfl,rfl,h2',Cy (by rw[h3'.len];exact hl),k _ _ ⟨F',O',g.trans fr.ff,z2⟩⟩
end
section
variable{K:PySem.W.Frag}{B:Bs}{sl:SL K}{F H:Hp}{O:Own}{σ:St}
abbrev Uc:Slot K->Slot K
 |@Slot.fz _ n _ i a=>@Slot.fz _ n _ i a
 |@Slot.nu _ _ i a=>@Slot.nu _ _ i a
 |_=>.un
theorem Mp:Same (lo F O H) (lo F [] H):=λb o h=>by
 unfold lo at h ⊢
 split at h
 case isTrue=>cases h
 rename_i e
 rw[if_neg]
 ·exact h
 ·intro q
  apply e
  rw[abl] at q ⊢
  rcases q with q|q
  ·exact .inl q
  ·simp at q
theorem ak.ZV(a:At B sl F O H σ)(j:Nat)(hs:sl[j]?=some s):∀{sl':SL K}{σ':St},ak B F (lo F [] H) H sl' σ' []->ak B F (lo F [] H) H (Uc s::sl') ((σ[j]?).getD none::σ') []:=λ{sl' σ'} h=>by
 cases s with
 |un=>exact .un h
 |fz n b=>obtain⟨v,h1,h2⟩:=a.2.qQ hs;rw[h1];exact .fz h2 h
 |hs b=>exact .un h
 |nu b=>obtain⟨v,h1,h2⟩:=a.2.Am hs;rw[h1];exact .nu (Rp.mono (xA Mp) h2) h
 |ow n xs=>exact .un h
 |od kvs=>exact .un h
def Bd(sl:SL K)(n:Nat)(ix:List Nat):SL K:=replicate n .un++ix.map λj=>Uc ((sl[j]?).getD .un)
theorem zS5(a:At B sl F O H σ)(n:Nat):∀(ix:List Nat),(∀j∈ix,j<sl.length)->ak B F (lo F [] H) H (Bd sl n ix) (je σ n ix) []:=λix hix=>by
 unfold Bd je
 induction n with
 |zero =>
  show ak B F _ H ([]++_) ([]++_) []
  rw[nil_append,nil_append]
  induction ix with
  |nil=>exact .nil
  |cons j ix ih =>
   rw[map_cons,map_cons]
   have hl:=hix j mem_cons_self
   have hj:sl[j]?=some sl[j]:=aat hl
   have z:=ak.ZV a j hj (ih λk hk=>hix k (mem_cons_of_mem _ hk))
   rw[show(sl[j]?).getD .un=sl[j] by rw[hj]<;>rfl]
   exact z
 |succ n ih=>exact .un ih
theorem zVw{ix:List Nat}(hix:(ix.all λj=>decide (j<sl.length))=true)(hI:iU=Bd sl no ix):∀(F:Hp)(O:Own)(H:Hp)(σ:St),At B sl F O H σ->ak B F (lo F [] H) H iU (je σ no ix) []:=λF O H σ a=>by
 rw[hI]
 exact zS5 a no ix λj hj=>by simpa using(all_eq_true.mp hix) j hj
end
structure I_(α β γ:Type) where
 a:α
 b:β
 c:γ
section
variable{K:PySem.W.Frag}{B:Bs}{sl:SL K}{md:Md}{n:Bool}{α β γ S:Type}[Rp K α][Rp K β][Rp K γ]{te t1 t2 t3:TE}
instance:Rp K (I_ α β γ):=⟨λF v x=>∃p u w z,v=.ref p/\F p=some (.tup [u,w,z])/\rp K F u x.a/\rp K F w x.b/\rp K F z x.c,λs ⟨p,u,w,z,h1,h2,h3,h4,h5⟩=>⟨p,u,w,z,h1,s _ _ h2,Rp.mono s h3,Rp.mono s h4,Rp.mono s h5⟩⟩
instance:Nn K (I_ α β γ):=⟨λ⟨_,_,_,_,h,_⟩=>by rw[h];intro e;cases e⟩
theorem Gg{m1:Option α}{m2:Option β}{m3:Option γ}(h1:Ex B sl md t1 m1)(h2:Ex B sl md t2 m2)(h3:Ex B sl md t3 m3):Ex B sl md (uq (yQ t1 (yQ t2 (yQ t3 bJ)))) (m1.bind λa=>m2.bind λb=>m3.bind λc=>some (I_.mk a b c)):=λd hd F O H σ Q s kk=>by
 cases m1 with
 |none=>cases hd
 |some a =>
  cases m2 with
  |none=>cases hd
  |some b =>
   cases m3 with
   |none=>cases hd
   |some c =>
    cases(show some (I_.mk a b c)=some d from hd)
    refine h1 a rfl F O H σ _ s λv F1 H1 g1 r1=>?_
    refine h2 b rfl F1 O H1 σ _ (s.grow g1) λw F2 H2 g2 r2=>?_
    refine h3 c rfl F2 O H2 σ _ ((s.grow g1).grow g2) λu F3 H3 g3 r3=>?_
    refine⟨by show 3<=sizeLine;decide,λp hp=>?_⟩
    have g4:=bK.new g3.ok hp (.tup [v,w,u])
    exact kk _ _ _ (g1.trans (g2.trans (g3.trans g4))) ⟨p,v,w,u,rfl,Pj g3.ok hp md,Rp.mono (xE (g2.trans (g3.trans g4)) md) r1,Rp.mono (xE (g3.trans g4) md) r2,Rp.mono (xE g4 md) r3⟩
theorem Gh(i j l:Nat)(hs:sl[i]?=some s)(ho:jE s=false)(hs':∀x:Slot K,(sl.set i x)[j]?=some s')(ho':jE s'=false)(hs2:∀x y:Slot K,((sl.set i x).set j y)[l]?=some s2)(ho2:jE s2=false) :
  Tg B sl n (Dp K 3 (OD (pF i) (OD (pF j) (OD (pF l) JR)))) (λx:I_ α β γ=>((sl.set i (.fz n x.a)).set j (.fz n x.b)).set l (.fz n x.c)):=λv x F O H σ Q a r k=>by
 obtain⟨p,w1,w2,w3,rfl,h1,h2,h3,h4⟩:=r
 refine⟨p,[w1,w2,w3],rfl,.inl (.inl (zPb a.1 h1)),rfl,w1,[w2,w3],rfl,w2,[w3],rfl,w3,[],rfl,rfl,?_⟩
 exact k _ ⟨a.1,((a.2.put (s':=.fz n x.a) (λ_ _ _ z=>.fz h2 z) hs ho).put (s':=.fz n x.b) (λ_ _ _ z=>.fz h3 z) (hs' _) ho').put (λ_ _ _ z=>.fz h4 z) (hs2 _ _) ho2⟩
theorem Mq{L2:S->α->SL K}(h:Ey B sl (eN n) te L m)(hg:∀s,Tg B (L s) n g (L2 s)):Sn B sl (mO te g) (λr:α×S=>L2 r.2 r.1) m:=λa ha G D σ H s k=>by
 obtain⟨F,O,g0,z⟩:=s
 exact h a.1 a.2 ha F O H σ _ z λv F' O' H' sf z' r=>hg a.2 v a.1 F' O' H' σ _ z' r λσ' z2=>k _ _ ⟨F',O',g0.trans sf,z2⟩
end
section
variable{K:PySem.W.Frag}{B:Bs}{sl:SL K}{md:Md}{te:TE}
theorem Mr{mi:Option LI}(h:Ex B sl .hp te mi):Eo B sl md (Pb 1 [] (Gb K (yQ te bJ)) (pF 0) uy (bZ 0)) (mi.bind λus=>if us.length<cap then some us.reverse else none):=λzs hz F O H σ Q a k=>by
 cases mi with
 |none=>cases hz
 |some us =>
  have hz:(if us.length<cap then some us.reverse else none)=some zs:=hz
  split at hz
  case isFalse=>cases hz
  rename_i hcap
  cases hz
  refine h us rfl F O H σ _ a λv F' H' gr r=>?_
  obtain⟨p,vs,rfl,h1,h2⟩:=r
  have h1:H' p=some (.lst vs):=h1
  have ev:vs=us.map V.int:=A2.mR h2
  have hl:vs.length=us.length:=h2.len
  refine⟨p,vs,rfl,aW.of h1,zUp (xs:=vs) (λi ys σ2 H2=>H2=H'/\(∃v,σ2=[v])/\ys=vs.reverse.take i) ⟨rfl,⟨none,rfl⟩,rfl⟩ (λi ys σ2 H2 hi ⟨e1,_,e2⟩=>?_) (by rw[hl];exact Cy hcap) (λi x ys σ2 H2 hx hi ⟨e1,⟨v,e2⟩,e3⟩=>?_) (λys σ2 H2 ⟨e1,_,e3⟩ q hq=>?_)⟩
  ·subst e1
   exact⟨aW.of h1,by rw[e2,length_take];exact Nat.min_le_left _ _⟩
  ·subst e1
   subst e2
   subst e3
   refine(iu ?_:if true=true then _ else bZ 0 [some x] H2 (λ_ _=>False))
   refine⟨x,rfl,rfl,⟨some x,rfl⟩,?_⟩
   rw[take_add_one,List.getElem?_reverse hi,hx]
   rfl
  ·subst e1
   subst e3
   refine k q _ F' H2 gr hq ?_
   rw[<-List.length_reverse,take_length,ev]
   exact(A2.of_map (R:=rp K (reg B F' H2 md)) (f:=V.int) (λ_=>rfl) us).rev
end
def Ms(us:LI):Option LI:=if us.length<cap then some us.reverse else none
section
variable{K:PySem.W.Frag}{B:Bs}{sl sl2:SL K}{md:Md}{te:TE}{t:TS}{β:Type}[Rp K β]{p:Addr}
theorem zUi{m:Option KC}{mi:Option Int}{ti:TE}(h:Ex B sl .hp te m)(hi:Ex B sl .hp ti mi):Eo B sl md (VJ (Af K) te Yc (Rn ti)) (m.bind λxs=>mi.bind λi=>some (qj xs.ns none (some i))):=λc hc F O H σ Q s k=>by
 obtain⟨xs,i,hx,hi',hc⟩:=qJ hc
 cases hc
 refine h xs hx F O H σ _ s λv F' H' g r=>?_
 refine hi i hi' F' O H' σ _ (s.grow g) λu F2 H2 g2 r2=>?_
 have r2:u=.int i:=r2
 obtain⟨p,rfl,z1⟩:=r
 exact⟨i,r2,p,xs.ns.map V.int,rfl,g2.hh.seq z1,λl hl=>k l _ F2 H2 (g.trans g2) hl ((A2.of_map (R:=rp K (reg B F2 H2 md)) (f:=V.int) (λ_=>rfl) xs.ns).cut _ _)⟩
theorem Gi(h:Ex B sl .hp te mi):Eo B sl md (Pb 1 [] (Gb K (yQ te bJ)) (pF 0) uy (bZ 0)) (mi.bind λus=>Ms us):=Mr h
theorem Mt(K:PySem.W.Frag){X:Cx}(hm:X.mg "reversed" = none)(ha:PA X [a] ta)(h:X.K=K:=by rfl)(hg:Gl X "reversed":=by rfl)(hs:starEach [a] X.env=[(false,eval a X.env)]:=by rfl):PI X tg (.Call (.Name "reversed" q) [a] [] pos) (Gb K ta):=by subst h;exact Mf hg hm ha hs
theorem Gj{m:Option (β×LI)}(l:Le sl sl2)(h:qZ B p sl2 t m):qZ B p sl t m:=λa w ha G D σ H q k=>h a w ha G D σ H (q.le l) k
theorem Mu{m:Option (β×LI)}(sl2:SL K)(h:qZ B p sl2 t m)(e:sl=sl2:=by rfl):qZ B p sl t m:=e▸h
end
section
variable{K:PySem.W.Frag}{B:Bs}{sl:SL K}{F H:Hp}{O:Own}{σ:St}{t u:TS}{al:Bool}{α β S A A1 A2:Type}[Rp K α][Rp K β]{b:β}
def SnA(B:Bs)(sl:SL K)(t:TS){S:Type}(L:S->SL K)(P:S->Prop):Prop :=
 ∀(G:Hp)(D:Ends)(σ:St)(H:Hp),Sg B G sl σ H->(∀s,P s->∀σ' H',Sg B G (L s) σ' H'->D.nx σ' H')->t D σ H
def CQ(B:Bs)(sl:SL K)(t:TS)(al:Bool){β A:Type}[Rp K β](m:A->Option β)(P:A->Prop)(b:β):Prop :=
 (∃a,P a)->(∀a,P a->m a=some b)->∀(G:Hp)(D:Ends)(σ:St)(H:Hp),Sg B G sl σ H->(∀v H',Rt K B al b v H'->D.rt v H')->t D σ H
theorem Gk(h:SB B sl t al m):CQ B sl t al (λ_:Unit=>m) (λ_=>True) b:=λ_ hm G D σ H q k=>h b (hm () trivial) G D σ H q k
theorem Ud{f:S->A->Option β}(h1:Sn B sl t L m1)(h2:∀s,CQ B (L s) u al (f s) P b):CQ B sl (h_ t u) al (λa=>m1.bind λs=>f s a) P b:=λne hm G D σ H q k=>by
 cases m1 with
 |none=>obtain⟨a,ha⟩:=ne;cases hm a ha
 |some s=>exact h1 s rfl G _ σ H q λσ' H' q'=>h2 s ne (λa ha=>hm a ha) G D σ' H' q' k
theorem Gm{g:A1->A2->Option β}(h1:SnA B sl t L P1)(h2:∀s,CQ B (L s) u al (g s) P2 b):CQ B sl (h_ t u) al (λa:A1×A2=>g a.1 a.2) (λa=>P1 a.1/\P2 a.2) b:=λne hm G D σ H q k =>
 h1 G _ σ H q λs hs σ' H' q'=>h2 s (by obtain⟨a,_,ha⟩:=ne;exact⟨a.2,ha⟩) (λa ha=>hm (s,a) ⟨hs,ha⟩) G D σ' H' q' k
theorem Qf(sl2:SL K)(h:CQ B sl2 t al m P b)(e:sl=sl2:=by rfl):CQ B sl t al m P b:=e▸h
theorem CQ.sb(h:CQ B sl t al m P b)(ne:∃a,P a)(hm:∀a,P a->m a=some b):SB B sl t al (some b):=λc hc G D σ H q k=>by
 cases hc
 exact h ne hm G D σ H q k
theorem At.off(z:At B sl F O H σ)(hh:sl.all (λs=>!cT s&&!jh s)=true)(fp:F p=none)(hp:B.H0 p=none)(op:∀x∈O,x.1≠p)(k:∀b o,b≠p->H b=some o->H2 b=some o):At B sl F O H2 σ :=
 ⟨⟨λb o e=>k b o (λq=>by rw[q,fp] at e;cases e) (z.1.fh b o e),λb o e=>k b o (λq=>by rw[q,hp] at e;cases e) (z.1.h0 b o e),z.1.fa,λx hx=>⟨(z.1.fo x hx).1,(z.1.fo x hx).2.1,k _ _ (op x hx) (z.1.fo x hx).2.2⟩,z.1.nd⟩,z.2.Mh hh⟩
theorem Gn{n:Bool}{t1 t2:TE}{m1 m2:Option (List α)}(h1:Ex B sl (eN n) t1 m1)(h2:Ex B sl (eN n) t2 m2):Eo B sl (eN n) (jT Ry t1 t2) (m1.bind λa=>m2.bind λb=>Fy a b):=λc hc F O H σ Q s k=>by
 obtain⟨xs,ys,hx,hy,hc⟩:=qJ hc
 unfold Fy at hc
 split at hc
 case isFalse=>cases hc
 rename_i hl
 cases hc
 refine h1 xs hx F O H σ _ s λv F' H' g r=>?_
 refine h2 ys hy F' O H' σ _ (s.grow g) λu F2 H2 g2 r2=>?_
 obtain⟨p,vs,rfl,z1,z2⟩:=r
 obtain⟨q,ws,rfl,z3,z4⟩:=r2
 refine⟨p,q,vs,ws,rfl,rfl,g2.hh _ _ (Ao g.ok n _ _ z1),Ao g2.ok n _ _ z3,?_,λl hl'=>k l _ F2 H2 (g.trans g2) hl' ((z2.imp λ_ _=>Rp.mono (wJ n g2.ff)).app z4)⟩
 rw[z2.len,z4.len]
 exact zVx hl
theorem zUh{md:Md}{te ti tj:TE}{m:Option LI}{mi mj:Option Int}(h:Ex B sl .hp te m)(hi:Ex B sl .hp ti mi)(hj:Ex B sl .hp tj mj):Eo B sl md (VJ (Af K) te (Rn ti) (Rn tj)) (m.bind λxs=>mi.bind λi=>mj.bind λj=>some (qj xs (some i) (some j))):=λc hc F O H σ Q s k=>by
 obtain⟨xs,i,hx,hi',hc⟩:=qJ hc
 cases ej:mj with
 |none=>rw[ej] at hc;cases hc
 |some j =>
  rw[ej] at hc
  cases(show some (qj xs (some i) (some j))=some c from hc)
  refine h xs hx F O H σ _ s λv F' H' g r=>?_
  refine hi i hi' F' O H' σ _ (s.grow g) λu F2 H2 g2 r2=>?_
  have r2:u=.int i:=r2
  refine⟨i,r2,?_⟩
  refine hj j ej F2 O H2 σ _ ((s.grow g).grow g2) λu' F3 H3 g3 r3=>?_
  have r3:u'=.int j:=r3
  obtain⟨p,vs,rfl,z1,z2⟩:=r
  exact⟨j,r3,p,vs,rfl,aW.of (g3.hh _ _ (g2.hh _ _ z1)),λl hl=>k l _ F3 H3 (g.trans (g2.trans g3)) hl (z2.cut _ _).sc⟩
end
end Ts
namespace Sy
open PySem L2 Ts
inductive bY(H:Hp):V->Tr->Prop where
 |all {a:Addr}:H a=some (.tup [.str "all"])->bY H (.ref a) .all
 |mark {a:Addr} {x:Str}:H a=some (.tup [.str "mark",.str x])->bY H (.ref a) (.mark x)
 |one {a:Addr} {i:Fin 7} {v:V} {t:Tr}:H a=some (.tup [.str (w1 i),v])->bY H v t->bY H (.ref a) (.one i t)
 |two {a:Addr} {i:Fin 4} {v u:V} {l r:Tr}:H a=some (.tup [.str (w2 i),v,u])->bY H v l->bY H u r->bY H (.ref a) (.two i l r)
theorem bY.mono(h:bY H v t)(k:∀a xs,H a=some (.tup xs)->H' a=some (.tup xs)):bY H' v t:=by
 induction h with
 |all h=>exact .all (k _ _ h)
 |mark h=>exact .mark (k _ _ h)
 |one h _ ih=>exact .one (k _ _ h) ih
 |two h _ _ ih1 ih2=>exact .two (k _ _ h) ih1 ih2
theorem bY.same(h:bY H v t)(s:Same H H'):bY H' v t:=h.mono λa xs e=>s a _ e
theorem bY.kp(h:bY H v t)(hp:H p=some (.lst xs))(k:Kp p H H'):bY H' v t:=h.mono λa ys e=>k a _ (Ht e hp (by intro z;cases z)) e
inductive Itm where
 |s (x:Str)
 |t (t:Tr)
def items:Tr->List Itm
 |.all=>[.s "all"]
 |.mark x=>[.s "mark",.s x]
 |.one i t=>[.s (w1 i),.t t]
 |.two i l r=>[.s (w2 i),.t l,.t r]
theorem zU2:∀i j:Fin 7,w1 i=w1 j->i=j:=by decide +kernel
theorem zU1:∀i j:Fin 4,w2 i=w2 j->i=j:=by decide +kernel
theorem ZW:∀i:Fin 7,¬w1 i = "mark":=by decide +kernel
theorem Mv:∀i:Fin 7,¬w1 i = "all":=by decide +kernel
theorem Gp:∀i:Fin 4,¬w2 i = "mark":=by decide +kernel
theorem Mw:∀i:Fin 4,¬w2 i = "all":=by decide +kernel
theorem zTz:¬(("mark":Str) = "all"):=by decide +kernel
theorem zQ3:∀{t u:Tr},items t=items u->t=u
 |.all,.all,_=>rfl
 |.all,.mark _,h=>by simp[items] at h
 |.all,.one _ _,h=>by simp[items] at h
 |.all,.two _ _ _,h=>by simp[items] at h
 |.mark _,.all,h=>by simp[items] at h
 |.mark x,.mark y,h=>by
  simp[items] at h
  rw[h]
 |.mark _,.one i t,h=>by simp[items] at h
 |.mark _,.two _ _ _,h=>by simp[items] at h
 |.one _ _,.all,h=>by simp[items] at h
 |.one i t,.mark _,h=>by simp[items] at h
 |.one i t,.one j u,h=>by
  simp[items] at h
  rw[zU2 i j h.1,h.2]
 |.one _ _,.two _ _ _,h=>by simp[items] at h
 |.two _ _ _,.all,h=>by simp[items] at h
 |.two _ _ _,.mark _,h=>by simp[items] at h
 |.two _ _ _,.one _ _,h=>by simp[items] at h
 |.two i l r,.two j l' r',h=>by
  simp[items] at h
  rw[zU1 i j h.1,h.2.1,h.2.2]
def ZX(H:Hp)(x:V):Itm->Prop
 |.s y=>x=.str y
 |.t t=>bY H x t
theorem bY.items(h:bY H v t):∃a xs,v=.ref a/\H a=some (.tup xs)/\Paired (ZX H) xs (items t):=by
 cases h with
 |all h=>exact⟨_,_,rfl,h,.cons rfl .nil⟩
 |mark h=>exact⟨_,_,rfl,h,.cons rfl (.cons rfl .nil)⟩
 |one h h1=>exact⟨_,_,rfl,h,.cons rfl (.cons h1 .nil)⟩
 |two h h1 h2=>exact⟨_,_,rfl,h,.cons rfl (.cons h1 (.cons h2 .nil))⟩
theorem WY{α β:Type}{F:α->β->Prop}:∀{l₁:List α}{l₂:List β}{j:Nat}{x:α},Paired F l₁ l₂->l₁[j]?=some x->∃y,l₂[j]?=some y/\F x y
 |_,_,_,_,.nil,e=>by simp at e
 |_,_,0,_,.cons r _,e=>by simp at e;subst e;exact⟨_,rfl,r⟩
 |_,_,j+1,x,.cons _ t,e=>by
  obtain⟨u,h1,h2⟩:=WY (j:=j) (x:=x) t (by simpa using e)
  exact⟨u,by simpa using h1,h2⟩
theorem zOq(h:Itm.t u∈items t):u.depth<t.depth:=by
 cases t with
 |all=>simp[items] at h
 |mark x=>simp[items] at h
 |one i t=>simp[items] at h;subst h;exact acg _
 |two i l r =>
  simp[items] at h
  rcases h with rfl|rfl
  ·show _<max _ _+1;omega
  ·show _<max _ _+1;omega
theorem bY.inj:∀{t u:Tr},bY H v t->bY H v u->t=u:=by
 intro t u h
 induction h generalizing u with
 |all h =>
  intro h'
  cases h' with
  |all _=>rfl
  |mark h2=>rw[h] at h2;simp at h2
  |one h2 _=>rw[h] at h2;simp at h2
  |two h2 _ _=>rw[h] at h2;simp at h2
 |mark h =>
  intro h'
  cases h' with
  |all h2=>rw[h] at h2;simp at h2
  |mark h2=>rw[h] at h2;simp at h2;rw[h2]
  |one h2 _=>rw[h] at h2;simp at h2;exact absurd h2.1.symm (ZW _)
  |two h2 _ _=>rw[h] at h2;simp at h2
 |one h h1 ih =>
  intro h'
  cases h' with
  |all h2=>rw[h] at h2;simp at h2
  |mark h2=>rw[h] at h2;simp at h2;exact absurd h2.1 (ZW _)
  |one h2 h3 =>
   rw[h] at h2
   simp at h2
   obtain⟨e1,e2⟩:=h2
   subst e2
   rw[zU2 _ _ e1,ih h3]
  |two h2 _ _=>rw[h] at h2;simp at h2
 |two h h1 h2 ih1 ih2 =>
  intro h'
  cases h' with
  |all h2=>rw[h] at h2;simp at h2
  |mark h2=>rw[h] at h2;simp at h2
  |one h2 _=>rw[h] at h2;simp at h2
  |two h3 h4 h5 =>
   rw[h] at h3
   simp at h3
   obtain⟨e1,e2,e3⟩:=h3
   subst e2 e3
   rw[zU1 _ _ e1,ih1 h4,ih2 h5]
theorem v7{α:Type}{l m:List α}(h:l.length=m.length)(k:∀j,j<l.length->l[j]?=m[j]?):l=m:=by
 refine ext_getElem? λj=>?_
 by_cases hj:j<l.length
 ·exact k j hj
 ·rw[getElem?_eq_none_iff.mpr (by omega),getElem?_eq_none_iff.mpr (by omega)]
theorem Ja(s:Shared)(ok:gZ P w H s.heap)(n:Nat)(ih:∀(t u:Tr) (A:Around) (v1 v2:V) (x1 x2:Value),t.depth<n->A.units+n<cLine->bY H v1 t->bY H v2 u->RelV v1 x1->RelV v2 x2->∃b,aea A s x1 x2 b/\(b=true->t=u))(t u:Tr)(A:Around)(a1 a2:Addr)(hd:t.depth<n+1)(hu:A.units+(n+1)<cLine)(h1:bY H (.ref a1) t)(h2:bY H (.ref a2) u):∃b,SeqAt.RcAt A s (.ref a1) (.ref a2) b/\(b=true->t=u):=by
 obtain⟨_,xs1,q1,e1,p1⟩:=h1.items
 obtain⟨_,xs2,q2,e2,p2⟩:=h2.items
 cases q1
 cases q2
 obtain⟨z1,Jb,Ky,T1⟩:=ok a1 _ e1
 obtain⟨z2,Jc,rv2,T2⟩:=ok a2 _ e2
 have l1:=Ky.length
 have l2:=rv2.length
 have m1:=p1.length
 have m2:=p2.length
 have it:∀j:Nat,∃b:Bool,(∀(k1:j<Jb.toArray.size)(k2:j<Jc.toArray.size),aea A.in1 s Jb.toArray[j] Jc.toArray[j] b)/\(b=true->j<Jb.length->j<Jc.length->(items t)[j]?=(items u)[j]?):=λj=>by
  by_cases k1:j<Jb.length
  ·by_cases k2:j<Jc.length
   ·have g1:xs1[j]?=some (xs1[j]'(by omega)):=aat (by omega)
    have g2:xs2[j]?=some (xs2[j]'(by omega)):=aat (by omega)
    obtain⟨y1,hy1,Qg⟩:=Ky.get g1
    obtain⟨y2,hy2,Mx⟩:=rv2.get g2
    obtain⟨i1,hi1,f1⟩:=WY p1 g1
    obtain⟨i2,hi2,f2⟩:=WY p2 g2
    have q1:Jb[j]=y1:=aaw ((aat k1).symm.trans hy1)
    have q2:Jc[j]=y2:=aaw ((aat k2).symm.trans hy2)
    rw[hi1,hi2]
    have fin:∀b,aea A.in1 s y1 y2 b->∀(k1:j<Jb.toArray.size)(k2:j<Jc.toArray.size),aea A.in1 s Jb.toArray[j] Jc.toArray[j] b:=λb hb _ _=>by
     simp only[List.getElem_toArray,q1,q2]
     exact hb
    have hu1:A.in1.units+n<cLine:=by show A.units+1+n<cLine;omega
    cases i1 with
    |s c1 =>
     have f1':xs1[j]'(by omega)=.str c1:=f1
     rw[f1'] at Qg
     cases i2 with
     |s c2 =>
      have Z0:xs2[j]'(by omega)=.str c2:=f2
      rw[Z0] at Mx
      refine⟨Cq (.str c1) (.str c2),fin _ (zVv Qg Mx rfl rfl),λhb _ _=>?_⟩
      rw[abz (show(c1==c2)=true from hb)]
     |t c2 =>
      obtain⟨a,ys,e,ea,pa⟩:=bY.items f2
      rw[e] at Mx
      cases Mx
      obtain⟨tk,rfl⟩:=Qg
      obtain⟨_,_,_,Ta⟩:=ok a _ ea
      exact⟨false,fin _ (SeqAt.EqAt.str_tuple c1 tk (show s.heap.IsTuple a _ from Ta) (by omega)),λhb=>by cases hb⟩
    |t c1 =>
     cases i2 with
     |s c2 =>
      have Z0:xs2[j]'(by omega)=.str c2:=f2
      rw[Z0] at Mx
      obtain⟨a,ys,e,ea,pa⟩:=bY.items f1
      rw[e] at Qg
      cases Qg
      obtain⟨tk,rfl⟩:=Mx
      obtain⟨_,_,_,Ta⟩:=ok a _ ea
      exact⟨false,fin _ (SeqAt.EqAt.tuple_str c2 tk (show s.heap.IsTuple a _ from Ta) (by omega)),λhb=>by cases hb⟩
     |t c2 =>
      have dlt:c1.depth<n:=by
       have:=zOq (mem_of_getElem? hi1)
       omega
      obtain⟨b,hb,hb2⟩:=ih c1 c2 A.in1 _ _ y1 y2 dlt hu1 f1 f2 Qg Mx
      exact⟨b,fin _ hb,λhbt _ _=>by rw[hb2 hbt]⟩
   ·exact⟨false,λ_ k=>absurd (by simpa using k) k2,λhb=>by cases hb⟩
  ·exact⟨false,λk _=>absurd (by simpa using k) k1,λhb=>by cases hb⟩
 obtain⟨e,he⟩:=Classical.axiomOfChoice it
 refine⟨_,SeqAt.RcAt.tuples (show s.heap.IsTuple a1 _ from T1) (show s.heap.IsTuple a2 _ from T2) (by omega) (e:=e) (λj k1 k2=>(he j).1 k1 k2),λhb=>?_⟩
 rw[aav] at hb
 obtain⟨hb1,hb2⟩:=hb
 have hs:Jb.length=Jc.length:=by simpa using hb2
 rw[all_eq_true] at hb1
 refine zQ3 (v7 (by omega) λj hj=>?_)
 refine(he j).2 (hb1 j ?_) (by omega) (by omega)
 rw[mem_range]
 simp
 omega
theorem Jd(s:Shared)(ok:gZ P w H s.heap):∀(n:Nat)(t u:Tr)(A:Around)(v1 v2:V)(x1 x2:Value),t.depth<n->A.units+n<cLine->bY H v1 t->bY H v2 u->RelV v1 x1->RelV v2 x2 ->
  ∃b,aea A s x1 x2 b/\(b=true->t=u)
 |0,_,_,_,_,_,_,_,h,_,_,_,_,_=>absurd h (acq _)
 |n+1,t,u,A,v1,v2,x1,x2,hd,hu,h1,h2,r1,r2=>by
  obtain⟨a1,xs1,rfl,e1,p1⟩:=h1.items
  obtain⟨a2,xs2,rfl,e2,p2⟩:=h2.items
  cases r1
  cases r2
  by_cases ha:a1=a2
  ·subst ha
   exact⟨true,SeqAt.EqAt.same _,λ_=>h1.inj h2⟩
  obtain⟨b,hb,hb2⟩:=Ja s ok n (λt u A v1 v2 x1 x2=>Jd s ok n t u A v1 v2 x1 x2) t u A a1 a2 hd hu h1 h2
  exact⟨b,SeqAt.EqAt.of_refs ha hb,hb2⟩
def Ue:R2:=λx y H Q=>∃t u,bY H x t/\bY H y u/\t.depth<20/\∀b:Bool,(b=true->t=u)->Q (.bl b) H
theorem Gq{X:Cx}(hu:X.A.units+64<cLine):kI X (compareOp .Eq) Ue:=by
 intro pins s σ H x y v u Q I rx ry h
 obtain⟨t,u',ht,hu',hd,q⟩:=h
 obtain⟨a1,xs1,rfl,e1,p1⟩:=ht.items
 obtain⟨a2,xs2,rfl,e2,p2⟩:=hu'.items
 cases rx
 cases ry
 obtain⟨b,hb,hb2⟩:=Ja s I.hok 19 (λt u A v1 v2 x1 x2=>Jd s I.hok 19 t u A v1 v2 x1 x2) t u' X.A a1 a2 hd (by omega) ht hu'
 exact hb _ _ _ _ ⟨.bl b,H,I,rfl,q b hb2⟩
end Sy
namespace Ts
open PySem L2
def top(i:Nat):Stmt:=PySem.Challenge.pw_treesay_k43_one_step_on.main.body.getD i (.Pass ⟨0,0,0,0⟩)
abbrev fZ:Stmt:=top 2
abbrev qm:Stmt:=top 3
abbrev mY:Stmt:=top 4
abbrev mZ:Stmt:=top 5
abbrev jJ:Stmt:=top 6
abbrev kO:Stmt:=top 7
abbrev iy:Stmt:=top 9
abbrev jK:Stmt:=top 10
abbrev gj:Stmt:=top 11
abbrev fj:Stmt:=top 12
abbrev kW:Stmt:=top 14
abbrev fu:Stmt:=top 15
abbrev qp:Stmt:=top 16
abbrev iz:Stmt:=top 17
abbrev gk:Stmt:=top 18
abbrev m5:Stmt:=top 19
abbrev sI:Stmt:=top 20
abbrev s_alive:Stmt:=top 21
abbrev j5:Stmt:=xC (top 23) 0
abbrev kY:Stmt:=xC (top 24) 0
abbrev kZ:Stmt:=xC (top 25) 0
abbrev m6:Stmt:=xC (top 26) 0
abbrev lZ:Stmt:=xC (top 27) 0
abbrev m7:Stmt:=xC (top 28) 0
abbrev mq:Stmt:=xC (top 29) 0
abbrev j6:Stmt:=xC (top 30) 0
abbrev jk:Stmt:=xC (top 31) 0
abbrev jl:Stmt:=xC (top 32) 0
abbrev jm:Stmt:=xC (top 33) 0
abbrev jo:Stmt:=xC (top 34) 0
abbrev gW:Stmt:=xC (top 35) 0
abbrev gY:Stmt:=xC (top 36) 0
abbrev jq:Stmt:=xC (top 37) 0
abbrev jr:Stmt:=xC (top 38) 0
abbrev iB:Stmt:=top 40
abbrev iC:Stmt:=top 41
abbrev jL:Stmt:=top 42
abbrev iD:Stmt:=top 43
abbrev cg:Stmt:=top 44
abbrev lg:Stmt:=top 45
abbrev fG:Stmt:=top 46
abbrev qt:Stmt:=top 47
abbrev qu:Stmt:=top 48
abbrev jM:Stmt:=top 59
abbrev dU:Stmt:=top 60
abbrev fH:Stmt:=top 61
abbrev lq:Stmt:=top 62
abbrev fJ:Stmt:=top 63
abbrev gn:Stmt:=top 64
abbrev m8:Stmt:=top 65
abbrev W0:Stmt:=top 66
abbrev Bg:Stmt:=xC (top 67) 0
abbrev dW:Stmt:=xC (top 67) 1
abbrev cU:Stmt:=xC (top 67) 2
abbrev dh:Stmt:=xC (top 67) 3
abbrev dj:Stmt:=xC (top 67) 4
abbrev cV:Stmt:=xC (top 67) 6
abbrev m9:Stmt:=top 69
abbrev pJ:Stmt:=top 70
abbrev q9:Stmt:=top 71
abbrev m_:Stmt:=top 72
abbrev ni:Stmt:=top 73
abbrev nj:Stmt:=top 74
abbrev lu:Stmt:=top 75
abbrev nq:Stmt:=top 76
abbrev nA:Stmt:=top 77
abbrev jN:Stmt:=top 78
abbrev pL:Stmt:=top 79
section
variable{P:Program}{w:World}{K:PySem.W.Frag}{mg:Str->Option Value}{base:Heap}
def Z1(K:PySem.W.Frag):Sp:=λvs H Q _=>∃(a:Addr)(bs:List Addr)(xss:List LI),vs=[.ref a]/\aW K H a (bs.map V.ref)/\qR K H bs xss/\xss.length<=60/\Wa xss.length xss /\
 ∀(r:Addr)(cs:List Addr)(H':Hp),Same H H'->H r=none->H' r=some (.lst (cs.map V.ref))->cs.length=xss.length->qT H' cs (src xss)->(∀c∈cs,H c=none)->Q (.ref r) H'
theorem Bh:ao ["steps","sources","stand","targets","target"] ["steps"] (zH W0):=⟨rfl,rfl,rfl,by decide +kernel,rfl,by decide +kernel,by decide +kernel⟩
theorem Z2:(["stand"]:List Str).Nodup:=by decide +kernel
theorem Mz{cs:List Addr}(nd:cs.Nodup){i j:Nat}{c:Addr}(h1:cs[i]?=some c)(h2:cs[j]?=some c):i=j:=by
 obtain⟨k1,e1⟩:=aa2.mp h1
 obtain⟨k2,e2⟩:=aa2.mp h2
 exact(getElem_inj nd).mp (e1.trans e2.symm)
theorem qT.put{MF:Nat->LI}(r:qT H cs row)(nd:cs.Nodup)(hc:cs[j]?=some c)(e:MF j=xs)(e':∀k,k≠j->MF k=row k):qT (upd H c (.lst (xs.map V.int))) cs MF:=λk d hd=>by
 by_cases hk:k=j
 ·subst hk
  rw[hc] at hd
  cases hd
  rw[zK,e]
 ·rw[zQ (λz=>hk (Mz nd hd (by rw[z];exact hc))),e' k hk]
  exact r k d hd
theorem Ug(F:aY K "sources_of" "sources_of" W0 f fd)(B:Bl K mg):aq P w K mg base aO 1 f fd ["steps"] (Z1 K):=by
 refine F.ok Bh (λvs H Q E h=>?_) (λcdv A outer s H vs Q E hr h=>?_)
 ·obtain⟨a,bs,xss,rfl,_⟩:=h
  rfl
 obtain⟨a,bs,xss,rfl,hS,hR,v8,hV,q⟩:=h
 have hbl:(bs.map V.ref).length=xss.length:=by rw[length_map];exact hR.1
 refine⟨_,zB (uK (i:=1) (own:=["stand"]) (ix:=[]) Bh.nd rfl rfl rfl rfl rfl (XD (pv 0)) (λC s H fp=>yL (i:=0) Z2 rfl (Or.inl rfl)) (λC s H fp=>wT) (λC s H fp=>wN zF))
  (zB (xU aa4 rfl (zP3 rfl B.enum (zA (pv 0) zF)) (JT rfl (yV (yL (i:=2) Bh.nd rfl (Or.inl rfl)) (yV (yL (i:=3) Bh.nd rfl (Or.inl rfl)) Dn)))
   (zZ (xU aa4 rfl (XD (pv 3)) (yL (i:=4) Bh.nd rfl (Or.inl rfl))
    (zZ (yJ (HS aa8 abh abj wO (yC wU (pv 1) (pv 4) (λ_ _=>rfl)) (zA (pv 2) zF)))))))
  (zZ (zP (pv 1)))),?_⟩
 refine⟨_,rfl,a,rfl,⟨_,hS⟩,zRz (K:=K) (a:=a) (xs:=bs.map V.ref) (λi ys σ H2=>∃(cs:List Addr)(v:Option V),ys=cs.map V.ref/\σ=[v]/\Same H H2/\News H H2 cs (replicate i [])/\cs.length=i)
  ⟨[],none,rfl,rfl,Same.refl H,News.nil,rfl⟩ (λi ys σ H2 _ ⟨cs,v,e,_,s2,_,hi⟩=>⟨s2.seq hS,by rw[e,length_map,hi];exact aau _⟩) (Yo (by omega)) ?_ ?_⟩
 ·rintro i y ys σ H2 hi ⟨cs,v,rfl,rfl,s2,hN,Qh⟩
  refine zL9 ?_
  refine⟨(by show 0<=sizeLine;decide),λl hl'=>?_⟩
  refine⟨cs++[l],_,by rw[map_append]<;>rfl,rfl,s2.trans (au hl' _),?_,by rw[length_append,Qh]<;>rfl⟩
  have e:replicate (i+1) ([]:List V)=replicate i []++[[]]:=List.replicate_succ'
  rw[e]
  exact hN.snoc s2 hl'
 rintro ys σ H2 ⟨cs,v,rfl,rfl,s2,hN,Qh⟩ r hr0
 have hcl:cs.length=xss.length:=by rw[Qh,hbl]
 have s3:Same H (upd H2 r (.lst (cs.map V.ref))):=s2.trans (au hr0 _)
 have hrH:H r=none:=s2.free hr0
 have nrc:r∉cs:=hN.Sd hr0
 have R0:qT (upd H2 r (.lst (cs.map V.ref))) cs (src (xss.take 0)):=λj c hc=>by
  obtain⟨xs,h1,h2⟩:=hN.at_ j c hc
  have e:xs=[]:=by
   rw[getElem?_replicate] at h1
   split at h1
   ·exact(aaw h1).symm
   ·cases h1
  subst e
  rw[zQ (λz=>nrc (by rw[<-z];exact mem_of_getElem? hc)),h2]
  rfl
 refine⟨_,rfl,a,rfl,⟨_,s3.seq hS⟩,zUd (K:=K) (a:=a) (xs:=bs.map V.ref) (λi σ H4=>∃u v t,σ=[some (.ref a),some (.ref r),u,v,t]/\Same H H4/\H4 r=some (.lst (cs.map V.ref))/\qT H4 cs (src (xss.take i)))
  ⟨none,none,none,rfl,s3,zK,R0⟩ (λi σ H4 _ ⟨_,_,_,_,s4,_⟩=>s4.seq hS) ?_ ?_⟩
 ·rintro i x t σ H4 hi ht ⟨u,v,t',rfl,s4,CT,R4⟩
  obtain⟨b,rfl,hb⟩:=K4 hi
  obtain⟨xs,hx,hsq⟩:=hR.2 i b hb
  obtain⟨ne,nd,len,vr⟩:=hV.2 xs (mem_of_getElem? hx)
  have il:=yZ hx
  have st:Same H4 (upd H4 t (.tup [.int i,.ref b])):=au ht _
  have s5:=s4.trans st
  refine⟨t,_,rfl,cO.of zK,rfl,_,_,rfl,_,_,rfl,rfl,?_⟩
  refine⟨_,rfl,b,rfl,⟨_,s5.seq hsq⟩,zUc (K:=K) (a:=b) (xs:=xs.map V.int) (λm σ H6=>∃tt,σ=[some (.ref a),some (.ref r),some (.int i),some (.ref b),tt]/\Same H H6/\H6 r=some (.lst (cs.map V.ref)) /\
   qT H6 cs λj=>src (xss.take i) j++(if(j:Int)∈xs.take m then[(i:Int)] else[])) ⟨t',rfl,s5,st _ _ CT,λj c hc=>?_⟩ (λm σ H6 _ ⟨_,_,s6,_⟩=>s6.seq hsq) ?_ ?_⟩
  ·rw[st _ _ (R4 j c hc)]
   simp
  ·rintro m y σ H6 hm ⟨tt,rfl,s6,W2,R6⟩
   obtain⟨z,rfl,hz⟩:=int_at hm
   obtain⟨z0,z1⟩:=vr z (mem_of_getElem? hz)
   have zl:z.toNat<cs.length:=by rw[hcl];omega
   have hc:cs[z.toNat]?=some cs[z.toNat]:=aat zl
   have hz':((z.toNat:Nat):Int)=z:=by omega
   have hrow:=R6 z.toNat _ hc
   have hno:¬z∈xs.take m:=zGn nd hz
   simp only[hz',if_neg hno,append_nil] at hrow
   have hix:bx (cs.map V.ref) z=some (.ref cs[z.toNat]):=by
    have:=zR8 (Eu hc)
    rw[hz'] at this
    exact this
   refine⟨_,rfl,_,rfl,r,_,z,_,rfl,rfl,aW.of W2,hix,.inl ⟨rfl,_,aW.of hrow⟩,_,rfl,_,_,_,rfl,rfl,hrow,?_,?_⟩
   ·have:=Es (xss.take i) z.toNat
    rw[length_take] at this
    refine Yo ?_
    rw[length_map]
    omega
   ·have cH:H cs[z.toNat]=none:=hN.new _ (mem_of_getElem? hc)
    have cr:r≠cs[z.toNat]:=λe=>nrc (by rw[e];exact mem_of_getElem? hc)
    refine⟨_,rfl,s6.put cH _,by rw[zQ cr];exact W2,?_⟩
    have em:(src (xss.take i) z.toNat).map V.int++[V.int i]=(src (xss.take i) z.toNat++[(i:Int)]).map V.int:=by rw[map_append]<;>rfl
    rw[em]
    refine R6.put hN.nd hc ?_ λk hk=>?_
    ·rw[hz',if_pos ((uR hz).mpr (.inr rfl))]
    ·have hk':((k:Int)∈xs.take (m+1))=((k:Int)∈xs.take m):=by
      rw[uR hz]
      refine propext ⟨λh=>h.elim id λe=>absurd (by omega) hk,.inl⟩
     simp only[hk']
  ·rintro σ H6 ⟨tt,rfl,s6,W2,R6⟩
   refine⟨_,_,_,rfl,s6,W2,λj c hc=>?_⟩
   rw[R6 j c hc,zSw hx j,length_map,take_length]
 ·rintro σ H4 ⟨u,v,t,rfl,s4,CT,R4⟩
  refine⟨_,rfl,?_⟩
  have e:xss.take (bs.map V.ref).length=xss:=by rw[hbl];exact take_length
  rw[e] at R4
  exact q r cs H4 s4 hrH CT hcl R4 hN.new
end
structure Bj(K:PySem.W.Frag)(x qual:Str)(st:Stmt)(dV:Value)(f:Addr)(fd:FuncData):Prop where
 ex:∃(oc:Value)(od:Option Addr)(kV doc pm:Value)(an:Option Addr)(cdv ct:Value)(osl:Array (Option Value)),
  fd=fnOf x qual (vJ st) (xQ st) (zH st) dV kV doc pm an cdv ct/\K.lookup f=some ⟨oc,od,.func fd,osl⟩/\codeIn K cdv qual=true
 kp:keepIn K (.ref f)=true
section
variable{P:Program}{w:World}{K:PySem.W.Frag}{mg:Str->Option Value}{base:Heap}
theorem Bj.ok(F:Bj K x qual st dV f fd)(S:ao N ps (zH st))(len:∀vs H Q E,sp vs H Q E->vs.length=ps.length)(hbody:∀(cdv:Value) (A:Around) (outer:List Env) (s:Shared) (H:Hp) (vs:List V) (Q:VK) (E:XK),bW k (A.deeper (adp qual (zH st) s.heap.objs.size f cdv))->sp vs H Q E ->
   ∃t,qI (oX aO P w K mg base N qual (zH st) f cdv A outer s H E).Dm (xQ st) t/\t { nx:=λ_ H'=>Q .non H',rt:=Q } (start N vs) H):aq P w K mg base aO (k+1) f fd ps sp:=by
 obtain⟨oc,od,kV,doc,pm,an,cdv,ct,osl,rfl,lk,hcd⟩:=F.ex
 refine HJ lk hcd S len λA outer s H vs Q E hr hsp=>?_
 obtain⟨t,h,q⟩:=hbody cdv A outer s H vs Q E hr hsp
 exact⟨t,h.Dm,q⟩
structure Cl(K:PySem.W.Frag)(mg:Str->Option Value)(C:Addr):Prop where
 cl:Cls K C
 nS:bH K C "steps"
 nM:bH K C "marks"
 nF:bH K C "fair"
 nB:bH K C "sources"
 mgC:mg "Machine" = some (.ref C)
theorem MJ:ao ["self","steps","marks","fair","given_marks","given_fair"] ["self","steps","marks","fair"] (zH Bg):=⟨rfl,rfl,rfl,by decide +kernel,rfl,by decide +kernel,by decide +kernel⟩
theorem Uh:(["name","stands"]:List Str).Nodup:=by decide +kernel
theorem b_(f:Str)(v:V):∀fs:List (Str×V),(aG f v fs).length<=fs.length+1
 |[]=>aau _
 | (g,x)::r=>by
  unfold aG
  split
  ·exact acd _
  ·exact ab7 (b_ f v r)
theorem zPt:∀{vs:List V}{xss:List LI},A2 (rp K R) vs xss->∃bs:List Addr,vs=bs.map V.ref/\qR K R bs xss
 |[],[],_=>⟨[],rfl,rfl,λi b h=>by simp at h⟩
 |v::vs,xs::xss,h=>by
  obtain⟨bs,e,h1,h2⟩:=zPt h.2
  obtain⟨p,ws,rfl,h3,h4⟩:=h.1
  have h5:ws=xs.map V.int:=h4.vals
  refine⟨p::bs,by rw[e,map_cons],by rw[length_cons,length_cons,h1],λi b hb=>?_⟩
  cases i with
  |zero=>simp at hb;subst hb;exact⟨xs,rfl,aW.of (by rw[h3,h5])⟩
  |succ i=>exact h2 i b (by simpa using hb)
 |[],_::_,h=>h.elim
 |_::_,[],h=>h.elim
def Qi(xss:LLI):Option LLI:=if xss.length<=60/\Wa xss.length xss then some (srcs xss) else none
theorem MN(F:aY K "sources_of" "sources_of" W0 f fd)(B:Bl K mg):aq P w K mg base aO 1 f fd ["steps"] (cQ K false (λa:LLI×Unit=>([.fz false a.1]:SL K)) λa=>Qi a.1):=by
 refine(Ug F B).imp λvs H Q E h=>?_
 obtain⟨⟨xss,⟨⟩⟩,b,Fa,s,hb,r,q⟩:=h
 have hb:Qi xss=some b:=hb
 unfold Qi at hb
 split at hb
 case isFalse=>cases hb
 rename_i hv
 cases hb
 cases r with
 |cons r1 r2 =>
  cases r2
  obtain⟨a,ws,rfl,h1,h2⟩:=r1
  obtain⟨bs,rfl,h3⟩:=zPt (K:=K) h2
  refine⟨a,bs,xss,rfl,aW.of (s _ _ h1),h3.same s,hv.1,hv.2,λrr cs H' s' hr e l R N=>q _ _ s' ?_⟩
  refine⟨rr,_,rfl,by show dif H' H rr=_;rw[wF hr];exact e,?_⟩
  exact EY (K:=K) l R λc hc o e=>by show dif H' H c=_;rw[wF (N c hc)];exact e
theorem M4{fS:LLI->Option Unit}{fM:CK->Int->Option Unit}{fF:LLI->Int->Option Unit}{fC fO:LLI->Option LLI}(F:Bj K "__init__" "Machine.__init__" Bg dV f fd)(T:Cl K mg C)(B:Bl K mg)(CS:bL P w K mg base k "check_steps" ["steps"] (cQ K false (λa:LLI×Unit=>([.fz false a.1]:SL K)) λa=>fS a.1))(CM:bL P w K mg base k "check_marks" ["marks","many"] (cQ K false (λa:CK×Int×Unit=>([.fz false a.1,.fz false a.2.1]:SL K)) λa=>fM a.1 a.2.1))(CF:bL P w K mg base k "check_fair" ["fair","many"] (cQ K false (λa:LLI×Int×Unit=>([.fz false a.1,.fz false a.2.1]:SL K)) λa=>fF a.1 a.2.1))(CC:bL P w K mg base k "copied" ["lists"] (cQ K false (λa:LLI×Unit=>([.fz false a.1]:SL K)) λa=>fC a.1))(CO:bL P w K mg base k "sources_of" ["steps"] (cQ K false (λa:LLI×Unit=>([.fz false a.1]:SL K)) λa=>fO a.1)) :
  aq P w K mg base aO (k+1) f fd ["self","steps","marks","fair"] (Td K C (Wk C fS fM fF fC fO)):=by
 refine F.ok MJ (λvs H Q E h=>?_) (λcdv A outer s H vs Q E hr h=>?_)
 ·obtain⟨p,dx,vS,vM,vF,xss,mo,fo,M,rfl,_⟩:=h
  rfl
 obtain⟨p,dx,vS,vM,vF,xss,mo,fo,M,rfl,hp,rS,rM,rF,hm,q⟩:=h
 unfold Wk at hm
 obtain⟨⟨⟩,e1,hm⟩:=CN hm
 obtain⟨⟨⟩,e2,hm⟩:=CN hm
 obtain⟨⟨⟩,e3,hm⟩:=CN hm
 obtain⟨a,e4,hm⟩:=CN hm
 obtain⟨b,e5,hm⟩:=CN hm
 obtain⟨c,e6,hm⟩:=CN hm
 obtain⟨d,e7,hm⟩:=CN hm
 cases hm
 refine⟨_,zB (Hy (i:=4) MJ.nd rfl (Or.inl rfl) (zL2 (Dj (QL (pv 2))) (wN zF) (pv 2)))
  (zB (Hy (i:=5) MJ.nd rfl (Or.inl rfl) (zL2 (Dj (QL (pv 3))) (wN zF) (pv 3)))
  (zB (yJ (zW CS hr (zA (pv 1) zF)))
  (zB (yJ (zW CM hr (zA (pv 4) (zA (zS (vN K) rfl B.len aa7 (zA (pv 1) zF)) zF))))
  (zB (yJ (zW CF hr (zA (pv 5) (zA (zS (vN K) rfl B.len aa7 (zA (pv 1) zF)) zF))))
  (zB (Cm (pv 0) (zW CC hr (zA (pv 1) zF)) rfl)
  (zB (Cm (pv 0) (Cr (own:=["name","stands"]) (ix:=[]) rfl rfl rfl (yR K (pv 4)) (λC s H fp=>YC (K:=K) (n:=2) rfl rfl (yV (yL (i:=0) Uh rfl (Or.inl rfl)) (yV (yL (i:=1) Uh rfl (Or.inl rfl)) Dn))) (λC s H fp=>wT)
   (λC s H fp=>yt (zA (pv 0) (zA (uV (K6 K) rfl B.list Ez (zA (pv 1) zF)) zF)))) rfl)
  (zB (Cm (pv 0) (zW CC hr (zA (pv 5) zF)) rfl)
  (zZ (Cm (pv 0) (zW CO hr (zA (zVh (pv 0) rfl) zF)) rfl))))))))),?_⟩
 have sg0:Sg (K:=K) ⟨hid H p,H⟩ (hid H p) [.fz false (iw.mk ():iw p),.fz false xss,.fz false mo,.fz false fo,.un,.un] [some (.ref p),some vS,some vM,some vF,none,none] H :=
  ⟨hid H p,[],.refl _,zV0 (.fz (show rp K _ _ (iw.mk ():iw p) from rfl) (.fz rS (.fz rM (.fz rF (.un (.un .nil))))))⟩
 refine(Sn.of (yM false 4 rfl rfl (zVr (cG (md:=.hp) (R5 (zD 2 rfl))) (Eo.ex (yw (α:=Str×LI))) (uE (yH 2 rfl)))) (show _=some (mo.getD []) by cases mo<;>rfl)) _ rfl (hid H p) _ _ H sg0 λσ1 H1 sg1=>?_
 refine(Sn.of (yM false 5 rfl rfl (zVr (cG (md:=.hp) (R5 (zD 3 rfl))) (Eo.ex (yw (α:=LI))) (uE (yH 3 rfl)))) (show _=some (fo.getD []) by cases fo<;>rfl)) _ rfl (hid H p) _ _ H1 sg1 λσ2 H2 sg2=>?_
 refine(Sn.of (Pk (md:=.hp) (zL (f:=λa:LLI×Unit=>fS a.1) (zE (zD 1 rfl) zN))) (show _=fS xss from rfl)) () e1 (hid H p) _ _ H2 sg2 λσ3 H3 sg3=>?_
 refine(Sn.of (Pk (md:=.hp) (zL (f:=λa:CK×Int×Unit=>fM a.1 a.2.1) (zE (zD 4 rfl) (zE (Ex.sc (md:=.hp) (uD (zD 1 rfl))) zN)))) (show _=fM (mo.getD []) (xss.length:Int) from rfl)) () e2 (hid H p) _ _ H3 sg3 λσ4 H4 sg4=>?_
 refine(Sn.of (Pk (md:=.hp) (zL (f:=λa:LLI×Int×Unit=>fF a.1 a.2.1) (zE (zD 5 rfl) (zE (Ex.sc (md:=.hp) (uD (zD 1 rfl))) zN)))) (show _=fF (fo.getD []) (xss.length:Int) from rfl)) () e3 (hid H p) _ _ H4 sg4 λσ5 H5 sg5=>?_
 obtain⟨F5,O5,g5,k5,s5⟩:=sg5
 have s5:ak (K:=K) ⟨hid H p,H⟩ F5 (lo F5 O5 H5) H5 [.fz false (iw.mk ():iw p),.fz false xss,.fz false mo,.fz false fo,.fz false (mo.getD []),.fz false (fo.getD [])] σ5 O5:=s5
 cases s5 with|fz r0 s5 =>
 cases s5 with|fz r1 s5 =>
 cases s5 with|fz r2 s5 =>
 cases s5 with|fz r3 s5 =>
 cases s5 with|fz r4 s5 =>
 cases s5 with|fz r5 s5 =>
 cases s5
 rename_i v0 v1 v2 v3 v4 v5
 have r0:v0=.ref p:=r0
 subst r0
 have hF:Same F5 (hid H5 p):=λb o e=>by
  by_cases z:b=p
  ·subst z
   rcases k5.fa b o e with z|z
   ·have z:hid H b b=some o:=z
    rw[Pz] at z
    cases z
   ·have z:H b=none:=z
    rw[hp] at z
    cases z
  ·rw[Lj z];exact k5.fh b o e
 have r1:rp K (hid H5 p) v1 xss:=Rp.mono hF r1
 have r2:rp K (hid H5 p) v2 mo:=Rp.mono hF r2
 have r3:rp K (hid H5 p) v3 fo:=Rp.mono hF r3
 have r4:rp K (hid H5 p) v4 (mo.getD []):=Rp.mono hF r4
 have r5:rp K (hid H5 p) v5 (fo.getD []):=Rp.mono hF r5
 have Z4:Same H H5:=k5.h0
 have WX:H5 p=some (.ins C dx []):=Z4 _ _ hp
 refine⟨_,rfl,(xss,()),a,H5,.refl _,e4,.cons (Rp.mono Te r1) .nil,λy1 H6 s6 t1=>?_⟩
 have t1:rp K (dif H6 H5) y1 a:=t1
 have ZS:=s6 _ _ WX
 refine⟨_,rfl,p,C,dx,[],rfl,ZS,T.cl,T.nS,(by show 0<1000;decide),?_⟩
 have f1:=Rp.mono (Wm (H:=H) (p:=p) (λb o _ e=>Z4 b o e) (by rw[WX];intro z;cases z)) t1
 have kp6:∀b o,b≠p->H b=some o->(upd H6 p (.ins C dx (aG "steps" y1 []))) b=some o:=λb o n e=>by rw[zQ n];exact s6 _ _ (Z4 _ _ e)
 have h6:Same (hid H5 p) (hid (upd H6 p (.ins C dx (aG "steps" y1 []))) p):=by rw[Io];exact PB s6
 have E2:Ex (K:=K) ⟨hid (upd H6 p (.ins C dx (aG "steps" y1 []))) p,upd H6 p (.ins C dx (aG "steps" y1 []))⟩ [.fz false (iw.mk ():iw p),.fz false xss,.fz false mo,.fz false fo,.fz false (mo.getD []),.fz false (fo.getD [])] .nw _ _ :=
  (wC (n:=false) (iU:=[.un,.un]) (no:=2) (ix:=[]) rfl rfl (yS (yH 4 rfl)) (KJ 0 1 rfl rfl (λ_=>rfl) rfl) (λx=>za) (λx=>zRg (zI 0 rfl) (K3 (zD 1 rfl)).ex) (λx=>rP.un (rP.un rP.nil))).ex
 refine E2 b e5 (hid (upd H6 p (.ins C dx (aG "steps" y1 []))) p) [] _ _ _ (zV0 (.fz (show rp K _ _ (iw.mk ():iw p) from rfl) (.fz (Rp.mono h6 r1) (.fz (Rp.mono h6 r2) (.fz (Rp.mono h6 r3) (.fz (Rp.mono h6 r4) (.fz (Rp.mono h6 r5) .nil))))))) λy2 F7 H7 g7 t2=>?_
 have s7:=g7.hh
 have t2:rp K (dif H7 (upd H6 p (.ins C dx (aG "steps" y1 [])))) y2 b:=Rp.mono (xA g7.ok.fh) t2
 have hp7:H7 p=some (.ins C dx (aG "steps" y1 [])):=s7 _ _ zK
 refine⟨_,rfl,p,C,dx,_,rfl,hp7,T.cl,T.nM,(by show 1<1000;decide),?_⟩
 have f2:=Rp.mono (Wm (H:=H) (p:=p) kp6 (by rw[zK];intro z;cases z)) t2
 have kp7:∀b o,b≠p->H b=some o->(upd H7 p (.ins C dx (aG "marks" y2 (aG "steps" y1 [])))) b=some o:=λb o n e=>by rw[zQ n];exact s7 _ _ (kp6 _ _ n e)
 have h7:Same (hid (upd H6 p (.ins C dx (aG "steps" y1 []))) p) (hid (upd H7 p (.ins C dx (aG "marks" y2 (aG "steps" y1 [])))) p):=by rw[Io (H:=H7)];exact PB s7
 refine⟨_,rfl,(fo.getD [],()),c,_,.refl _,e6,.cons (Rp.mono (h6.trans (h7.trans Te)) r5) .nil,λy3 H8 s8 t3=>?_⟩
 have t3:rp K (dif H8 (upd H7 p (.ins C dx (aG "marks" y2 (aG "steps" y1 []))))) y3 c:=t3
 have hp8:H8 p=some (.ins C dx (aG "marks" y2 (aG "steps" y1 []))):=s8 _ _ zK
 have l2:(aG "marks" y2 (aG "steps" y1 [])).length<1000:=by
  have a1:=b_ "marks" y2 (aG "steps" y1 [])
  have a2:=b_ "steps" y1 []
  have a3:([]:List (Str×V)).length=0:=rfl
  omega
 refine⟨_,rfl,p,C,dx,_,rfl,hp8,T.cl,T.nF,l2,?_⟩
 have f3:=Rp.mono (Wm (H:=H) (p:=p) kp7 (by rw[zK];intro z;cases z)) t3
 have kp8:∀b o,b≠p->H b=some o->(upd H8 p (.ins C dx (aG "fair" y3 (aG "marks" y2 (aG "steps" y1 []))))) b=some o:=λb o n e=>by rw[zQ n];exact s8 _ _ (kp7 _ _ n e)
 have h8:Same (hid (upd H7 p (.ins C dx (aG "marks" y2 (aG "steps" y1 [])))) p) (hid (upd H8 p (.ins C dx (aG "fair" y3 (aG "marks" y2 (aG "steps" y1 []))))) p):=by rw[Io (H:=H8)];exact PB s8
 have lk:(aG "fair" y3 (aG "marks" y2 (aG "steps" y1 []))).lookup ("steps":Str)=some y1:=by
  rw[zM,if_neg (by decide +kernel),zM,if_neg (by decide +kernel),zM,if_pos rfl]
 have d1:Same (dif (hid H6 p) (hid H p)) (hid (upd H8 p (.ins C dx (aG "fair" y3 (aG "marks" y2 (aG "steps" y1 []))))) p):=aZ.trans ((by rw[Io];exact .refl _:Same (hid H6 p) (hid (upd H6 p (.ins C dx (aG "steps" y1 []))) p)).trans (h7.trans h8))
 refine⟨_,rfl,p,C,dx,_,_,rfl,zK,T.cl,T.nS,lk,(a,()),d,_,.refl _,e7,.cons (Rp.mono (d1.trans Te) f1) .nil,λy4 H9 s9 t4=>?_⟩
 have t4:rp K (dif H9 (upd H8 p (.ins C dx (aG "fair" y3 (aG "marks" y2 (aG "steps" y1 [])))))) y4 d:=t4
 have hp9:H9 p=some (.ins C dx (aG "fair" y3 (aG "marks" y2 (aG "steps" y1 [])))):=s9 _ _ zK
 have l3:(aG "fair" y3 (aG "marks" y2 (aG "steps" y1 []))).length<1000:=by
  have a0:=b_ "fair" y3 (aG "marks" y2 (aG "steps" y1 []))
  have a1:=b_ "marks" y2 (aG "steps" y1 [])
  have a2:=b_ "steps" y1 []
  have a3:([]:List (Str×V)).length=0:=rfl
  omega
 refine⟨_,rfl,p,C,dx,_,rfl,hp9,T.cl,T.nB,l3,?_⟩
 have f4:=Rp.mono (Wm (H:=H) (p:=p) kp8 (by rw[zK];intro z;cases z)) t4
 have kp9:∀b o,b≠p->H b=some o->(upd H9 p (.ins C dx (aG "sources" y4 (aG "fair" y3 (aG "marks" y2 (aG "steps" y1 [])))))) b=some o:=λb o n e=>by rw[zQ n];exact s9 _ _ (kp8 _ _ n e)
 have u9:Same (hid H9 p) (upd H9 p (.ins C dx (aG "sources" y4 (aG "fair" y3 (aG "marks" y2 (aG "steps" y1 [])))))):=(by rw[Io];exact .refl _:Same (hid H9 p) (hid (upd H9 p (.ins C dx (aG "sources" y4 (aG "fair" y3 (aG "marks" y2 (aG "steps" y1 [])))))) p)).trans Te
 have u8:Same (hid H8 p) (hid H9 p):=(by rw[Io];exact .refl _:Same (hid H8 p) (hid (upd H8 p (.ins C dx (aG "fair" y3 (aG "marks" y2 (aG "steps" y1 []))))) p)).trans (PB s9)
 have u7:Same (hid H7 p) (hid H8 p):=(by rw[Io];exact .refl _:Same (hid H7 p) (hid (upd H7 p (.ins C dx (aG "marks" y2 (aG "steps" y1 [])))) p)).trans (PB s8)
 have u6:Same (hid H6 p) (hid H7 p):=(by rw[Io];exact .refl _:Same (hid H6 p) (hid (upd H6 p (.ins C dx (aG "steps" y1 []))) p)).trans (PB s7)
 refine q _ kp9 ⟨p,dx,aG "sources" y4 (aG "fair" y3 (aG "marks" y2 (aG "steps" y1 []))),y1,y2,y3,y4,rfl,?_,?_,Rp.mono (xA (u6.trans (u7.trans (u8.trans u9)))) f1,?_,Rp.mono (xA (u7.trans (u8.trans u9))) f2,?_,Rp.mono (xA (u8.trans u9)) f3,?_,Rp.mono (xA u9) f4,?_⟩
 ·rw[wF Pz];exact zK
 ·rw[zM,if_neg (by decide +kernel)];exact lk
 ·rw[zM,if_neg (by decide +kernel),zM,if_neg (by decide +kernel),zM,if_pos rfl]
 ·rw[zM,if_neg (by decide +kernel),zM,if_pos rfl]
 ·rw[zM,if_pos rfl]
 ·intro g hg
  simp only[Y6,mem_cons,List.not_mem_nil,or_false] at hg
  rcases hg with rfl|rfl|rfl|rfl|rfl|rfl<;>(rw[zM,if_neg (by decide +kernel),zM,if_neg (by decide +kernel),zM,if_neg (by decide +kernel),zM,if_neg (by decide +kernel)];rfl)
end
end Ts
namespace Sy
open PySem L2
abbrev Z5:Stmt:=Ts.j5
abbrev Z6:Stmt:=Ts.kY
abbrev Z7:Stmt:=Ts.kZ
abbrev M5:Stmt:=Ts.m6
abbrev Bk:Stmt:=Ts.lZ
abbrev M6:Stmt:=Ts.m7
abbrev Z8:Stmt:=Ts.jk
abbrev Z9:Stmt:=Ts.jl
abbrev Z_:Stmt:=Ts.gW
abbrev zCj:Stmt:=Ts.gY
abbrev zEz:Stmt:=Ts.jq
abbrev zE2:Stmt:=Ts.jr
abbrev Bo:Stmt:=Ts.mq
abbrev zKh:Stmt:=Ts.j6
abbrev zEx:Stmt:=Ts.jm
abbrev zE0:Stmt:=Ts.jo
section
variable{P:Program}{w:World}{K:PySem.W.Frag}{mg:Str->Option Value}{base:Heap}
theorem zS7:ao ["self","word","parts"] ["self","word","parts"] (zH Z5):=⟨rfl,rfl,rfl,by decide +kernel,rfl,by decide +kernel,by decide +kernel⟩
theorem zQn(F:aY K "__init__" "Saying.__init__" Z5 f fd):aq P w K mg base aO 1 f fd ["self","word","parts"] (spS K):=by
 refine F.ok zS7 (λvs H Q E h=>?_) (λcdv A outer s H vs Q E hr h=>?_)
 ·obtain⟨p,C,dx,x,y,rfl,_⟩:=h
  rfl
 obtain⟨p,C,dx,x,y,rfl,hp,T,q⟩:=h
 refine⟨_,zB (Cm (pv 0) (pv 1) rfl) (zZ (Cm (pv 0) (pv 2) rfl)),?_⟩
 refine⟨_,rfl,_,rfl,p,C,dx,[],rfl,hp,T.cl,T.nW,(by show 0<1000;decide),_,rfl,_,rfl,p,C,dx,_,rfl,zK,T.cl,T.nP,(by show 1<1000;decide),?_⟩
 exact q _ ((Kp.put p H _).trans (Kp.put p _ _)) zK
theorem Gs:ao ["self","word","part"] ["self","word","part"] (zH Z6):=⟨rfl,rfl,rfl,by decide +kernel,rfl,by decide +kernel,by decide +kernel⟩
theorem zTt(F:aY K "__init__" "OfOne.__init__" Z6 f fd)(mD:mg "Saying" = some (.ref D))(cD:qL K D "__init__" g)(G:aq P w K mg base aO 1 g gd ["self","word","parts"] (spS K))(bG:Binds K gd ["self","word","parts"] []) :
  aq P w K mg base aO 2 f fd ["self","word","part"] (qY K):=by
 refine F.ok Gs (λvs H Q E h=>?_) (λcdv A outer s H vs Q E hr h=>?_)
 ·obtain⟨p,C,dx,x,v,rfl,_⟩:=h
  rfl
 obtain⟨p,C,dx,x,v,rfl,hp,T,q⟩:=h
 refine⟨_,zB (yJ (uU rfl mD cD G hr bG .nil xG (zA (pv 0) (zA (pv 1) (zA (yt (zA (pv 2) zF)) zF))))) (zZ (Cm (pv 0) (pv 2) rfl)),?_⟩
 refine⟨_,rfl,_,rfl,_,rfl,(by show 1<=sizeLine;decide),λt ht=>?_⟩
 have hp1:=au ht (.tup [v]) _ _ hp
 refine⟨p,C,dx,_,_,rfl,hp1,T,λH' k1 e1=>?_⟩
 have pt:t≠p:=(zO hp ht).symm
 refine⟨_,rfl,_,rfl,p,C,dx,_,rfl,e1,T.cl,T.n1,aaz (WK x t) (by decide),?_⟩
 exact q t _ (((Kp.of (au ht _)).trans k1).trans (Kp.put p _ _)) ht (by rw[zQ pt];exact k1 _ _ pt zK) zK
theorem Gu:ao ["self","word","left","right"] ["self","word","left","right"] (zH Z7):=⟨rfl,rfl,rfl,by decide +kernel,rfl,by decide +kernel,by decide +kernel⟩
theorem zTs(F:aY K "__init__" "OfTwo.__init__" Z7 f fd)(mD:mg "Saying" = some (.ref D))(cD:qL K D "__init__" g)(G:aq P w K mg base aO 1 g gd ["self","word","parts"] (spS K))(bG:Binds K gd ["self","word","parts"] []) :
  aq P w K mg base aO 2 f fd ["self","word","left","right"] (Bb K):=by
 refine F.ok Gu (λvs H Q E h=>?_) (λcdv A outer s H vs Q E hr h=>?_)
 ·obtain⟨p,C,dx,x,v,u,rfl,_⟩:=h
  rfl
 obtain⟨p,C,dx,x,v,u,rfl,hp,T,q⟩:=h
 refine⟨_,zB (yJ (uU rfl mD cD G hr bG .nil xG (zA (pv 0) (zA (pv 1) (zA (yt (zA (pv 2) (zA (pv 3) zF))) zF))))) (zB (Cm (pv 0) (pv 2) rfl) (zZ (Cm (pv 0) (pv 3) rfl))),?_⟩
 refine⟨_,rfl,_,rfl,_,rfl,_,rfl,(by show 2<=sizeLine;decide),λt ht=>?_⟩
 have hp1:=au ht (.tup [v,u]) _ _ hp
 refine⟨p,C,dx,_,_,rfl,hp1,T,λH' k1 e1=>?_⟩
 have pt:t≠p:=(zO hp ht).symm
 refine⟨_,rfl,_,rfl,p,C,dx,_,rfl,e1,T.cl,T.nL,aaz (WK x t) (by decide),?_⟩
 refine⟨_,rfl,_,rfl,p,C,dx,_,rfl,zK,T.cl,T.nR,aaz (aa6 (b_ "left" v _) (ab7 (WK x t))) (by decide),?_⟩
 exact q t _ ((((Kp.of (au ht _)).trans k1).trans (Kp.put p _ _)).trans (Kp.put p _ _)) ht (by rw[zQ pt,zQ pt];exact k1 _ _ pt zK) zK
theorem Ui:ao ["self"] ["self"] (zH M5):=⟨rfl,rfl,rfl,by decide +kernel,rfl,by decide +kernel,by decide +kernel⟩
theorem M7(F:aY K "__init__" "All.__init__" M5 f fd)(T:gU K C)(mD:mg "Saying" = some (.ref D))(cD:qL K D "__init__" g)(G:aq P w K mg base aO 1 g gd ["self","word","parts"] (spS K))(bG:Binds K gd ["self","word","parts"] []) :
  aq P w K mg base aO 2 f fd ["self"] (T6 C):=by
 refine F.ok Ui (λvs H Q E h=>?_) (λcdv A outer s H vs Q E hr h=>?_)
 ·obtain⟨p,dx,rfl,_⟩:=h
  rfl
 obtain⟨p,dx,rfl,hp,q⟩:=h
 refine⟨_,zZ (yJ (uU rfl mD cD G hr bG .nil xG (zA (pv 0) (zA yI (zA (yt zF) zF))))),?_⟩
 refine⟨_,rfl,(by show 0<=sizeLine;decide),λt ht=>?_⟩
 have hp1:=au ht (.tup []) _ _ hp
 have pt:t≠p:=(zO hp ht).symm
 exact⟨p,C,dx,_,_,rfl,hp1,T,λH' k1 e1=>q t H' ((Kp.of (au ht _)).trans k1) ht (k1 _ _ pt zK) e1⟩
theorem M8:ao ["self","name"] ["self","name"] (zH Bk):=⟨rfl,rfl,rfl,by decide +kernel,rfl,by decide +kernel,by decide +kernel⟩
theorem Gv(F:aY K "__init__" "Mark.__init__" Bk f fd)(T:gU K C)(mD:mg "Saying" = some (.ref D))(cD:qL K D "__init__" g)(G:aq P w K mg base aO 1 g gd ["self","word","parts"] (spS K))(bG:Binds K gd ["self","word","parts"] []) :
  aq P w K mg base aO 2 f fd ["self","name"] (T7 C):=by
 refine F.ok M8 (λvs H Q E h=>?_) (λcdv A outer s H vs Q E hr h=>?_)
 ·obtain⟨p,dx,x,rfl,_⟩:=h
  rfl
 obtain⟨p,dx,x,rfl,hp,q⟩:=h
 refine⟨_,zB (yJ (uU rfl mD cD G hr bG .nil xG (zA (pv 0) (zA (pv 1) (zA (yt zF) zF))))) (zZ (Cm (pv 0) (pv 1) rfl)),?_⟩
 refine⟨_,rfl,_,rfl,(by show 0<=sizeLine;decide),λt ht=>?_⟩
 have hp1:=au ht (.tup []) _ _ hp
 have pt:t≠p:=(zO hp ht).symm
 refine⟨p,C,dx,_,_,rfl,hp1,T,λH' k1 e1=>?_⟩
 refine⟨_,rfl,_,rfl,p,C,dx,_,rfl,e1,T.cl,T.nN,aaz (WK x t) (by decide),?_⟩
 exact q t _ (((Kp.of (au ht _)).trans k1).trans (Kp.put p _ _)) ht (by rw[zQ pt];exact k1 _ _ pt zK) zK
end
section
variable{P:Program}{w:World}{K:PySem.W.Frag}{mg:Str->Option Value}{base:Heap}
theorem Uj:ao ["self","part"] ["self","part"] (zH M6):=⟨rfl,rfl,rfl,by decide +kernel,rfl,by decide +kernel,by decide +kernel⟩
theorem M9(F:aY K "__init__" "Not.__init__" M6 f fd)(T:gU K C)(mD:mg "OfOne" = some (.ref D))(cD:qL K D "__init__" g)(G:aq P w K mg base aO 2 g gd ["self","word","part"] (qY K))(bG:Binds K gd ["self","word","part"] []) :
  aq P w K mg base aO 3 f fd ["self","part"] (o_ C "not"):=by
 refine F.ok Uj (λvs H Q E h=>?_) (λcdv A outer s H vs Q E hr h=>?_)
 ·obtain⟨p,dx,c,rfl,_⟩:=h
  rfl
 obtain⟨p,dx,c,rfl,hp,q⟩:=h
 refine⟨_,zZ (yJ (uU rfl mD cD G hr bG .nil xG (zA (pv 0) (zA yI (zA (pv 1) zF))))),?_⟩
 exact⟨_,rfl,_,rfl,p,C,dx,_,_,rfl,hp,T,λq0 H' k1 f0 e1 e2=>q q0 H' k1 f0 e1 e2⟩
theorem zNp:ao ["self","part"] ["self","part"] (zH Z8):=⟨rfl,rfl,rfl,by decide +kernel,rfl,by decide +kernel,by decide +kernel⟩
theorem zKx(F:aY K "__init__" "SomeNext.__init__" Z8 f fd)(T:gU K C)(mD:mg "OfOne" = some (.ref D))(cD:qL K D "__init__" g)(G:aq P w K mg base aO 2 g gd ["self","word","part"] (qY K))(bG:Binds K gd ["self","word","part"] []) :
  aq P w K mg base aO 3 f fd ["self","part"] (o_ C "somenext"):=by
 refine F.ok zNp (λvs H Q E h=>?_) (λcdv A outer s H vs Q E hr h=>?_)
 ·obtain⟨p,dx,c,rfl,_⟩:=h
  rfl
 obtain⟨p,dx,c,rfl,hp,q⟩:=h
 refine⟨_,zZ (yJ (uU rfl mD cD G hr bG .nil xG (zA (pv 0) (zA yI (zA (pv 1) zF))))),?_⟩
 exact⟨_,rfl,_,rfl,p,C,dx,_,_,rfl,hp,T,λq0 H' k1 f0 e1 e2=>q q0 H' k1 f0 e1 e2⟩
theorem zNs:ao ["self","part"] ["self","part"] (zH Z9):=⟨rfl,rfl,rfl,by decide +kernel,rfl,by decide +kernel,by decide +kernel⟩
theorem zK0(F:aY K "__init__" "EachNext.__init__" Z9 f fd)(T:gU K C)(mD:mg "OfOne" = some (.ref D))(cD:qL K D "__init__" g)(G:aq P w K mg base aO 2 g gd ["self","word","part"] (qY K))(bG:Binds K gd ["self","word","part"] []) :
  aq P w K mg base aO 3 f fd ["self","part"] (o_ C "eachnext"):=by
 refine F.ok zNs (λvs H Q E h=>?_) (λcdv A outer s H vs Q E hr h=>?_)
 ·obtain⟨p,dx,c,rfl,_⟩:=h
  rfl
 obtain⟨p,dx,c,rfl,hp,q⟩:=h
 refine⟨_,zZ (yJ (uU rfl mD cD G hr bG .nil xG (zA (pv 0) (zA yI (zA (pv 1) zF))))),?_⟩
 exact⟨_,rfl,_,rfl,p,C,dx,_,_,rfl,hp,T,λq0 H' k1 f0 e1 e2=>q q0 H' k1 f0 e1 e2⟩
theorem zIn:ao ["self","part"] ["self","part"] (zH Z_):=⟨rfl,rfl,rfl,by decide +kernel,rfl,by decide +kernel,by decide +kernel⟩
theorem zHn(F:aY K "__init__" "SomeAlways.__init__" Z_ f fd)(T:gU K C)(mD:mg "OfOne" = some (.ref D))(cD:qL K D "__init__" g)(G:aq P w K mg base aO 2 g gd ["self","word","part"] (qY K))(bG:Binds K gd ["self","word","part"] []) :
  aq P w K mg base aO 3 f fd ["self","part"] (o_ C "somealways"):=by
 refine F.ok zIn (λvs H Q E h=>?_) (λcdv A outer s H vs Q E hr h=>?_)
 ·obtain⟨p,dx,c,rfl,_⟩:=h
  rfl
 obtain⟨p,dx,c,rfl,hp,q⟩:=h
 refine⟨_,zZ (yJ (uU rfl mD cD G hr bG .nil xG (zA (pv 0) (zA yI (zA (pv 1) zF))))),?_⟩
 exact⟨_,rfl,_,rfl,p,C,dx,_,_,rfl,hp,T,λq0 H' k1 f0 e1 e2=>q q0 H' k1 f0 e1 e2⟩
theorem zIo:ao ["self","part"] ["self","part"] (zH zCj):=⟨rfl,rfl,rfl,by decide +kernel,rfl,by decide +kernel,by decide +kernel⟩
theorem zHo(F:aY K "__init__" "EachAlways.__init__" zCj f fd)(T:gU K C)(mD:mg "OfOne" = some (.ref D))(cD:qL K D "__init__" g)(G:aq P w K mg base aO 2 g gd ["self","word","part"] (qY K))(bG:Binds K gd ["self","word","part"] []) :
  aq P w K mg base aO 3 f fd ["self","part"] (o_ C "eachalways"):=by
 refine F.ok zIo (λvs H Q E h=>?_) (λcdv A outer s H vs Q E hr h=>?_)
 ·obtain⟨p,dx,c,rfl,_⟩:=h
  rfl
 obtain⟨p,dx,c,rfl,hp,q⟩:=h
 refine⟨_,zZ (yJ (uU rfl mD cD G hr bG .nil xG (zA (pv 0) (zA yI (zA (pv 1) zF))))),?_⟩
 exact⟨_,rfl,_,rfl,p,C,dx,_,_,rfl,hp,T,λq0 H' k1 f0 e1 e2=>q q0 H' k1 f0 e1 e2⟩
theorem zNq:ao ["self","part"] ["self","part"] (zH zEz):=⟨rfl,rfl,rfl,by decide +kernel,rfl,by decide +kernel,by decide +kernel⟩
theorem zKy(F:aY K "__init__" "SomeEver.__init__" zEz f fd)(T:gU K C)(mD:mg "OfOne" = some (.ref D))(cD:qL K D "__init__" g)(G:aq P w K mg base aO 2 g gd ["self","word","part"] (qY K))(bG:Binds K gd ["self","word","part"] []) :
  aq P w K mg base aO 3 f fd ["self","part"] (o_ C "someever"):=by
 refine F.ok zNq (λvs H Q E h=>?_) (λcdv A outer s H vs Q E hr h=>?_)
 ·obtain⟨p,dx,c,rfl,_⟩:=h
  rfl
 obtain⟨p,dx,c,rfl,hp,q⟩:=h
 refine⟨_,zZ (yJ (uU rfl mD cD G hr bG .nil xG (zA (pv 0) (zA yI (zA (pv 1) zF))))),?_⟩
 exact⟨_,rfl,_,rfl,p,C,dx,_,_,rfl,hp,T,λq0 H' k1 f0 e1 e2=>q q0 H' k1 f0 e1 e2⟩
theorem zNt:ao ["self","part"] ["self","part"] (zH zE2):=⟨rfl,rfl,rfl,by decide +kernel,rfl,by decide +kernel,by decide +kernel⟩
theorem zK1(F:aY K "__init__" "EachEver.__init__" zE2 f fd)(T:gU K C)(mD:mg "OfOne" = some (.ref D))(cD:qL K D "__init__" g)(G:aq P w K mg base aO 2 g gd ["self","word","part"] (qY K))(bG:Binds K gd ["self","word","part"] []) :
  aq P w K mg base aO 3 f fd ["self","part"] (o_ C "eachever"):=by
 refine F.ok zNt (λvs H Q E h=>?_) (λcdv A outer s H vs Q E hr h=>?_)
 ·obtain⟨p,dx,c,rfl,_⟩:=h
  rfl
 obtain⟨p,dx,c,rfl,hp,q⟩:=h
 refine⟨_,zZ (yJ (uU rfl mD cD G hr bG .nil xG (zA (pv 0) (zA yI (zA (pv 1) zF))))),?_⟩
 exact⟨_,rfl,_,rfl,p,C,dx,_,_,rfl,hp,T,λq0 H' k1 f0 e1 e2=>q q0 H' k1 f0 e1 e2⟩
theorem M_:ao ["self","left","right"] ["self","left","right"] (zH Bo):=⟨rfl,rfl,rfl,by decide +kernel,rfl,by decide +kernel,by decide +kernel⟩
theorem Gw(F:aY K "__init__" "Both.__init__" Bo f fd)(T:gU K C)(mD:mg "OfTwo" = some (.ref D))(cD:qL K D "__init__" g)(G:aq P w K mg base aO 2 g gd ["self","word","left","right"] (Bb K))(bG:Binds K gd ["self","word","left","right"] []) :
  aq P w K mg base aO 3 f fd ["self","left","right"] (sE C "both"):=by
 refine F.ok M_ (λvs H Q E h=>?_) (λcdv A outer s H vs Q E hr h=>?_)
 ·obtain⟨p,dx,c,d,rfl,_⟩:=h
  rfl
 obtain⟨p,dx,c,d,rfl,hp,q⟩:=h
 refine⟨_,zZ (yJ (uU rfl mD cD G hr bG .nil xG (zA (pv 0) (zA yI (zA (pv 1) (zA (pv 2) zF)))))),?_⟩
 exact⟨_,rfl,_,rfl,_,rfl,p,C,dx,_,_,_,rfl,hp,T,λq0 H' k1 f0 e1 e2=>q q0 H' k1 f0 e1 e2⟩
theorem zS8:ao ["self","left","right"] ["self","left","right"] (zH zKh):=⟨rfl,rfl,rfl,by decide +kernel,rfl,by decide +kernel,by decide +kernel⟩
theorem zQo(F:aY K "__init__" "Either.__init__" zKh f fd)(T:gU K C)(mD:mg "OfTwo" = some (.ref D))(cD:qL K D "__init__" g)(G:aq P w K mg base aO 2 g gd ["self","word","left","right"] (Bb K))(bG:Binds K gd ["self","word","left","right"] []) :
  aq P w K mg base aO 3 f fd ["self","left","right"] (sE C "either"):=by
 refine F.ok zS8 (λvs H Q E h=>?_) (λcdv A outer s H vs Q E hr h=>?_)
 ·obtain⟨p,dx,c,d,rfl,_⟩:=h
  rfl
 obtain⟨p,dx,c,d,rfl,hp,q⟩:=h
 refine⟨_,zZ (yJ (uU rfl mD cD G hr bG .nil xG (zA (pv 0) (zA yI (zA (pv 1) (zA (pv 2) zF)))))),?_⟩
 exact⟨_,rfl,_,rfl,_,rfl,p,C,dx,_,_,_,rfl,hp,T,λq0 H' k1 f0 e1 e2=>q q0 H' k1 f0 e1 e2⟩
theorem zNo:ao ["self","left","right"] ["self","left","right"] (zH zEx):=⟨rfl,rfl,rfl,by decide +kernel,rfl,by decide +kernel,by decide +kernel⟩
theorem zKw(F:aY K "__init__" "SomeTill.__init__" zEx f fd)(T:gU K C)(mD:mg "OfTwo" = some (.ref D))(cD:qL K D "__init__" g)(G:aq P w K mg base aO 2 g gd ["self","word","left","right"] (Bb K))(bG:Binds K gd ["self","word","left","right"] []) :
  aq P w K mg base aO 3 f fd ["self","left","right"] (sE C "sometill"):=by
 refine F.ok zNo (λvs H Q E h=>?_) (λcdv A outer s H vs Q E hr h=>?_)
 ·obtain⟨p,dx,c,d,rfl,_⟩:=h
  rfl
 obtain⟨p,dx,c,d,rfl,hp,q⟩:=h
 refine⟨_,zZ (yJ (uU rfl mD cD G hr bG .nil xG (zA (pv 0) (zA yI (zA (pv 1) (zA (pv 2) zF)))))),?_⟩
 exact⟨_,rfl,_,rfl,_,rfl,p,C,dx,_,_,_,rfl,hp,T,λq0 H' k1 f0 e1 e2=>q q0 H' k1 f0 e1 e2⟩
theorem zNr:ao ["self","left","right"] ["self","left","right"] (zH zE0):=⟨rfl,rfl,rfl,by decide +kernel,rfl,by decide +kernel,by decide +kernel⟩
theorem zKz(F:aY K "__init__" "EachTill.__init__" zE0 f fd)(T:gU K C)(mD:mg "OfTwo" = some (.ref D))(cD:qL K D "__init__" g)(G:aq P w K mg base aO 2 g gd ["self","word","left","right"] (Bb K))(bG:Binds K gd ["self","word","left","right"] []) :
  aq P w K mg base aO 3 f fd ["self","left","right"] (sE C "eachtill"):=by
 refine F.ok zNr (λvs H Q E h=>?_) (λcdv A outer s H vs Q E hr h=>?_)
 ·obtain⟨p,dx,c,d,rfl,_⟩:=h
  rfl
 obtain⟨p,dx,c,d,rfl,hp,q⟩:=h
 refine⟨_,zZ (yJ (uU rfl mD cD G hr bG .nil xG (zA (pv 0) (zA yI (zA (pv 1) (zA (pv 2) zF)))))),?_⟩
 exact⟨_,rfl,_,rfl,_,rfl,p,C,dx,_,_,_,rfl,hp,T,λq0 H' k1 f0 e1 e2=>q q0 H' k1 f0 e1 e2⟩
end
open PySem L2 Ts
abbrev zVb:Stmt:=Ts.pJ
abbrev Je:Stmt:=Ts.q9
abbrev zPq:Stmt:=Ts.m_
section
variable{P:Program}{w:World}{K:PySem.W.Frag}{mg:Str->Option Value}{base:Heap}
theorem vac(no:∀vs H Q E,¬sp vs H Q E):aq P w K mg base aO k f fd ps sp :=
 ⟨λvs H Q E h=>absurd h (no vs H Q E),λA outer s H args us vs Q E _ _ _ _ h=>absurd h (no vs H Q E)⟩
def Uk:Sp:=λvs H Q _=>∃(a:Addr)(ns:LI),vs=[.ref a]/\H a=some (.lst (ns.map V.int))/\∀(z:Int)(ns':LI)(H':Hp),Kp a H H'->H' a=some (.lst (ns'.map V.int))->Q (.int z) H'
end
section
variable{P:Program}{w:World}{K:PySem.W.Frag}{mg:Str->Option Value}{base:Heap}
def Nb(K:PySem.W.Frag)(n:Nat):Sp:=λvs H Q _=>∃(a b:Addr)(d:Nat)(ns:LI)(xs:List Str),vs=[.ref a,.ref b,.int d]/\d<n/\H a=some (.lst (ns.map V.int))/\aW K H b (xs.map V.str)/\b≠a/\xs.length<=1000 /\
 ∀(v:V)(t:Tr)(ns':LI)(H':Hp),Kp a H H'->H' a=some (.lst (ns'.map V.int))->bY H' v t->t.depth<=d->Q v H'
theorem v9:ao ["_law_rest","_law_names","_law_deep","_law_cell_here","_law_way","_law_word","_law_left"] ["_law_rest","_law_names","_law_deep"] (zH zVb):=⟨rfl,rfl,rfl,by decide +kernel,rfl,by decide +kernel,by decide +kernel⟩
theorem Um(h0:0<=c)(h1:c<7):∃i:Fin 7,bx [V.str "not",V.str "somenext",V.str "eachnext",V.str "somealways",V.str "eachalways",V.str "someever",V.str "eachever"] c=some (.str (w1 i)):=by
 have h:c=0\/c=1\/c=2\/c=3\/c=4\/c=5\/c=6:=by omega
 rcases h with rfl|rfl|rfl|rfl|rfl|rfl|rfl
 ·exact⟨0,rfl⟩
 ·exact⟨1,rfl⟩
 ·exact⟨2,rfl⟩
 ·exact⟨3,rfl⟩
 ·exact⟨4,rfl⟩
 ·exact⟨5,rfl⟩
 ·exact⟨6,rfl⟩
theorem Uo(h0:0<=c)(h1:c<4):∃i:Fin 4,bx [V.str "both",V.str "either",V.str "sometill",V.str "eachtill"] c=some (.str (w2 i)):=by
 have h:c=0\/c=1\/c=2\/c=3:=by omega
 rcases h with rfl|rfl|rfl|rfl
 ·exact⟨0,rfl⟩
 ·exact⟨1,rfl⟩
 ·exact⟨2,rfl⟩
 ·exact⟨3,rfl⟩
set_option maxHeartbeats 4000000 in
theorem Jf(F:aY K "_law_grown" "_law_grown" zVb f fd)(bF:Binds K fd ["_law_rest","_law_names","_law_deep"] [])(mF:mg "_law_grown" = some (.ref f))(GC:aq P w K mg base aO 1 g gd ["_law_rest"] Uk)(bC:Binds K gd ["_law_rest"] [])(kC:keepIn K (.ref g)=true)(mC:mg "_law_cell" = some (.ref g))(B:Bl K mg) :
  ∀n:Nat,aq P w K mg base aO (n+2) f fd ["_law_rest","_law_names","_law_deep"] (Nb K n)
 |0=>vac λvs H Q E h=>by
  obtain⟨_,_,_,_,_,_,h,_⟩:=h
  exact acq _ h
 |n+1=>by
  have G:=Jf F bF mF GC bC kC mC B n
  refine F.ok v9 (λvs H Q E h=>?_) (λcdv A outer s H vs Q E hr h=>?_)
  ·obtain⟨a,b,d,ns,xs,rfl,_⟩:=h
   rfl
  obtain⟨a,b,d,ns,xs,rfl,hdn,hA,hB,hba,Pg,q⟩:=h
  refine⟨_,zB (Hy (i:=3) v9.nd rfl (Or.inl rfl) (Ka (GC.mono (by omega)) hr rfl mC kC bC .nil xG (zA (pv 0) zF)))
   (zB (Hy (i:=4) v9.nd rfl (Or.inl rfl) (xW zy (pv 3) zJ))
   (zB (yP (PW.pt (pw_or (yB rO (pv 2) zJ (yO _)) (pw_or1 (yB Rh (pv 4) zJ (yO _)))))
    (zB (yP (PW.pt (pw_or (yB rO (pv 4) zJ (yO _)) (pw_or1 (yB rO (zS uG rfl B.len aa7 (zA (pv 1) zF)) zJ (yO _))))) (zZ (zP (yt (zA yI zF)))) zG)
     (zZ (zP (yt (zA yI (zA (yC wU (pv 1) (xW zy (xW HF (pv 3) zJ) (zS uG rfl B.len aa7 (zA (pv 1) zF))) (λ_ _=>rfl)) zF)))))) zG)
   (zB (yP (yB Rh (pv 4) zJ (yO _))
    (zB (Hy (i:=5) v9.nd rfl (Or.inl rfl) (yC wU (wN (zA yI (zA yI (zA yI (zA yI (zA yI (zA yI (zA yI zF)))))))) (xW zy (xW HF (pv 3) zJ) zJ) (λ_ _=>rfl)))
     (zZ (zP (yt (zA (pv 5) (zA (Ka G hr rfl mF F.kp bF .nil xG (zA (pv 0) (zA (pv 1) (zA (xW XM (pv 2) zJ) zF)))) zF)))))) zG)
   (zB (Hy (i:=5) v9.nd rfl (Or.inl rfl) (yC wU (wN (zA yI (zA yI (zA yI (zA yI zF))))) (xW zy (xW HF (pv 3) zJ) zJ) (λ_ _=>rfl)))
   (zB (Hy (i:=6) v9.nd rfl (Or.inl rfl) (Ka G hr rfl mF F.kp bF .nil xG (zA (pv 0) (zA (pv 1) (zA (xW XM (pv 2) zJ) zF)))))
   (zZ (zP (yt (zA (pv 5) (zA (pv 6) (zA (Ka G hr rfl mF F.kp bF .nil xG (zA (pv 0) (zA (pv 1) (zA (xW XM (pv 2) zJ) zF)))) zF))))))))))),?_⟩
  refine⟨_,rfl,a,ns,rfl,hA,λc W3 H1 k1 e1=>?_⟩
  have Qj:=WD hB hba k1
  refine⟨_,rfl,_,_,rfl,rfl,(by show(0:Int)<16;decide),?_⟩
  have c0:=adw (c/16) (show(7:Int)≠0 by decide)
  have c1:=ac4 (c/16) (show(0:Int)<7 by decide)
  have c2:=adw (c/16) (show(4:Int)≠0 by decide)
  have c3:=ac4 (c/16) (show(0:Int)<4 by decide)
  have stop:∀{D:Ends},D.rt=Q->h_ (uh (Xx (Vy (jT XR (bZ 4) (tC (.int 0)))) (Vy (jT XR (yu (λxs H Q=>∃p ys,xs=[V.ref p]/\(aW K H p ys\/cO K H p ys)/\Q (.int ys.length) H) (yQ (bZ 1) bJ)) (tC (.int 0))))) (qN (uq (yQ (tC (.str "all")) bJ))) JM)
    (qN (uq (yQ (tC (.str "mark")) (yQ (jT (rY K) (bZ 1) (jT (rI (λ_ j=>0<j) λi j=>.int (i%j)) (jT (rI J5 λi j=>.int (i/j)) (bZ 3) (tC (.int 16))) (yu (λxs H Q=>∃p ys,xs=[V.ref p]/\(aW K H p ys\/cO K H p ys)/\Q (.int ys.length) H) (yQ (bZ 1) bJ)))) bJ)))) D
    [some (.ref a),some (.ref b),some (.int d),some (.int c),some (.int (c%16)),none,none] H1:=by
   intro D hD
   have Jg:∀p,H1 p=none->D.rt (.ref p) (upd H1 p (.tup [.str "all"])):=λp hp=>by
    rw[hD]
    exact q _ .all W3 _ (k1.trans (Kp.of (au hp _))) (au hp _ _ _ e1) (.all zK) (abd _)
   refine⟨_,rfl,rfl,_,rfl,?_⟩
   refine Ah (λ_=>iu ⟨(by show 1<=sizeLine;decide),Jg⟩) (λ_=>?_)
   refine⟨_,rfl,b,_,rfl,.inl Qj,rfl,_,rfl,Ah (λ_=>⟨(by show 1<=sizeLine;decide),Jg⟩) (λhne=>?_)⟩
   have hx0:xs.length≠0:=λe=>hne (by rw[length_map,e];exact decide_eq_true rfl)
   have hpos:(0:Int)<((xs.map V.str).length:Int):=by rw[length_map];omega
   have d0:=adw (c/16) (show((xs.map V.str).length:Int)≠0 by omega)
   have d1:=ac4 (c/16) hpos
   rw[length_map] at d0 d1
   have hil:((c/16)%(xs.length:Int)).toNat<xs.length:=by omega
   have hat:bx (xs.map V.str) ((((c/16)%(xs.length:Int)).toNat:Nat):Int)=some (.str xs[((c/16)%(xs.length:Int)).toNat]):=zR8 (by rw[getElem?_map,aat hil]<;>rfl)
   rw[show((((c/16)%(xs.length:Int)).toNat:Nat):Int)=(c/16)%(xs.length:Int) by omega] at hat
   refine⟨_,rfl,_,rfl,_,_,rfl,rfl,⟨by decide,by decide⟩,_,rfl,b,_,rfl,.inl Qj,_,_,rfl,rfl,hpos,b,_,_,_,rfl,rfl,Qj,(by rw[length_map];exact hat),(by show 2<=sizeLine;decide),λp hp=>?_⟩
   rw[hD]
   exact q _ (.mark _) W3 _ (k1.trans (Kp.of (au hp _))) (au hp _ _ _ e1) (.mark zK) (abd _)
  refine⟨_,rfl,rfl,_,rfl,?_⟩
  refine Ah (λ_=>iu (stop rfl)) (λhd0=>?_)
  have hd1:1<=d:=by
   have:¬((d:Int)=0):=λe=>hd0 (by rw[e];exact decide_eq_true rfl)
   omega
  refine⟨_,rfl,_,_,rfl,rfl,_,rfl,?_⟩
  refine Ah (λ_=>stop rfl) (λ_=>?_)
  have dm:(d:Int)-1=((d-1:Nat):Int):=by omega
  refine⟨_,rfl,_,_,rfl,rfl,_,rfl,Ah (λ_=>?_) (λ_=>?_)⟩
  ·obtain⟨i,hi⟩:=Um c0 c1
   refine⟨(by show 7<=sizeLine;decide),λt0 h0=>?_⟩
   have k2:=Kp.of (p:=a) (au h0 (.lst [V.str "not",V.str "somenext",V.str "eachnext",V.str "somealways",V.str "eachalways",V.str "someever",V.str "eachever"]))
   have at0:a≠t0:=zO e1 h0
   refine⟨_,rfl,_,_,rfl,rfl,⟨by decide,by decide⟩,_,_,rfl,rfl,(by show(0:Int)<7;decide),t0,_,_,_,rfl,rfl,aW.of zK,hi,?_⟩
   refine⟨_,rfl,_,rfl,_,rfl,_,rfl,_,_,rfl,rfl,a,b,d-1,W3,xs,congrArg (λz=>[V.ref a,V.ref b,V.int z]) dm,by omega,by rw[zQ at0];exact e1,WD Qj hba k2,hba,Pg,λv t ns2 H2 k3 e2 ht hdt=>?_⟩
   refine⟨(by show 2<=sizeLine;decide),λp hp=>?_⟩
   refine q _ (.one i t) ns2 _ (((k1.trans k2).trans k3).trans (Kp.of (au hp _))) (au hp _ _ _ e2) (.one zK (ht.same (au hp _))) ?_
   show t.depth+1<=d
   omega
  ·obtain⟨i,hi⟩:=Uo c2 c3
   refine⟨(by show 4<=sizeLine;decide),λt0 h0=>?_⟩
   have k2:=Kp.of (p:=a) (au h0 (.lst [V.str "both",V.str "either",V.str "sometill",V.str "eachtill"]))
   have at0:a≠t0:=zO e1 h0
   refine⟨_,rfl,_,_,rfl,rfl,⟨by decide,by decide⟩,_,_,rfl,rfl,(by show(0:Int)<4;decide),t0,_,_,_,rfl,rfl,aW.of zK,hi,?_⟩
   refine⟨_,rfl,_,rfl,_,rfl,_,_,rfl,rfl,a,b,d-1,W3,xs,congrArg (λz=>[V.ref a,V.ref b,V.int z]) dm,by omega,by rw[zQ at0];exact e1,WD Qj hba k2,hba,Pg,λv t ns2 H2 k3 e2 ht hdt=>?_⟩
   refine⟨_,rfl,_,rfl,_,rfl,_,rfl,_,rfl,_,_,rfl,rfl,a,b,d-1,ns2,xs,congrArg (λz=>[V.ref a,V.ref b,V.int z]) dm,by omega,e2,WD Qj hba (k2.trans k3),hba,Pg,λv' t' ns3 H3 k4 e3 ht' hdt'=>?_⟩
   refine⟨(by show 3<=sizeLine;decide),λp hp=>?_⟩
   have ht3:=(ht.kp e2 k4).same (au hp (.tup [V.str (w2 i),v,v']))
   refine q _ (.two i t t') ns3 _ ((((k1.trans k2).trans k3).trans k4).trans (Kp.of (au hp _))) (au hp _ _ _ e3) (.two zK ht3 (ht'.same (au hp _))) ?_
   show max t.depth t'.depth+1<=d
   omega
end
section
variable{P:Program}{w:World}{K:PySem.W.Frag}{mg:Str->Option Value}{base:Heap}{cl fi:Hd->Addr}{di:Hd->FuncData}
theorem Nf(sz:Same Z H)(hc:bh cl (dif H Z) c t)(hσ:σ[1]?=some (some (.ref c)))(k:∀(p:Addr) (H':Hp),Same H H'->bh cl (dif H' Z) p (.one i t)->Q (.ref p) H') :
  J_ (cl (.one i)) (o_ (cl (.one i)) (w1 i)) [] E0 (yQ (bZ 1) bJ) σ H Q:=by
 refine⟨_,hσ,?_⟩
 intro x dx nx nd ne
 exact⟨x,dx,.ref c,rfl,zK,λq H' k1 f0 e1 e2=>⟨rfl,k x H' (uQ nx nd k1) (.one (by rw[wF (sz.free nx)];exact e2) (by rw[wF (sz.free ((T8 nx nd).free f0))];exact e1) (hc.same (xA (uQ nx nd k1))))⟩⟩
def Ng(cl:Hd->Addr):Sp:=λvs H Q _=>∃(Z:Hp)(i:Fin 7)(c:Addr)(t:Tr),vs=[.str (w1 i),.ref c]/\Same Z H/\bh cl (dif H Z) c t/\∀(p:Addr)(H':Hp),Same H H'->bh cl (dif H' Z) p (.one i t)->Q (.ref p) H'
theorem aac:ao ["_law_word","_law_part"] ["_law_word","_law_part"] (zH zPq):=⟨rfl,rfl,rfl,by decide +kernel,rfl,by decide +kernel,by decide +kernel⟩
theorem fi7:∀i:Fin 7,i=0\/i=1\/i=2\/i=3\/i=4\/i=5\/i=6:=by decide
theorem fi4:∀i:Fin 4,i=0\/i=1\/i=2\/i=3:=by decide
theorem jw(h:¬x=y):¬V.str x=V.str y:=λe=>h (V.str.inj e)
set_option maxHeartbeats 4000000 in
theorem Uq(F:aY K "_law_single" "_law_single" zPq f fd)(I:ZK P w K mg base 3 cl fi di):aq P w K mg base aO 5 f fd ["_law_word","_law_part"] (Ng cl):=by
 refine F.ok aac (λvs H Q E h=>?_) (λcdv A outer s H vs Q E hr h=>?_)
 ·obtain⟨_,i,c,t,rfl,_⟩:=h
  rfl
 obtain⟨Z,i,c,t,rfl,sz,hc,q⟩:=h
 refine⟨_,zB (yP (yB rO (pv 0) yI (yO _)) (zZ (zP (xM (I.made (.one 0)) (I.i1 0) hr rfl (I.m1 0) (I.b1 0) .nil xG (zA (pv 1) zF)))) zG)
  (zB (yP (yB rO (pv 0) yI (yO _)) (zZ (zP (xM (I.made (.one 1)) (I.i1 1) hr rfl (I.m1 1) (I.b1 1) .nil xG (zA (pv 1) zF)))) zG)
  (zB (yP (yB rO (pv 0) yI (yO _)) (zZ (zP (xM (I.made (.one 2)) (I.i1 2) hr rfl (I.m1 2) (I.b1 2) .nil xG (zA (pv 1) zF)))) zG)
  (zB (yP (yB rO (pv 0) yI (yO _)) (zZ (zP (xM (I.made (.one 3)) (I.i1 3) hr rfl (I.m1 3) (I.b1 3) .nil xG (zA (pv 1) zF)))) zG)
  (zB (yP (yB rO (pv 0) yI (yO _)) (zZ (zP (xM (I.made (.one 4)) (I.i1 4) hr rfl (I.m1 4) (I.b1 4) .nil xG (zA (pv 1) zF)))) zG)
  (zB (yP (yB rO (pv 0) yI (yO _)) (zZ (zP (xM (I.made (.one 5)) (I.i1 5) hr rfl (I.m1 5) (I.b1 5) .nil xG (zA (pv 1) zF)))) zG)
  (zZ (zP (xM (I.made (.one 6)) (I.i1 6) hr rfl (I.m1 6) (I.b1 6) .nil xG (zA (pv 1) zF))))))))),?_⟩
 rcases fi7 i with rfl|rfl|rfl|rfl|rfl|rfl|rfl
 ·exact⟨_,rfl,rfl,_,rfl,vh rfl (Nf sz hc rfl q)⟩
 ·exact⟨_,rfl,rfl,_,rfl,cI (jw (by decide +kernel)) ⟨_,rfl,rfl,_,rfl,vh rfl (Nf sz hc rfl q)⟩⟩
 ·exact⟨_,rfl,rfl,_,rfl,cI (jw (by decide +kernel)) ⟨_,rfl,rfl,_,rfl,cI (jw (by decide +kernel)) ⟨_,rfl,rfl,_,rfl,vh rfl (Nf sz hc rfl q)⟩⟩⟩
 ·exact⟨_,rfl,rfl,_,rfl,cI (jw (by decide +kernel)) ⟨_,rfl,rfl,_,rfl,cI (jw (by decide +kernel)) ⟨_,rfl,rfl,_,rfl,cI (jw (by decide +kernel)) ⟨_,rfl,rfl,_,rfl,vh rfl (Nf sz hc rfl q)⟩⟩⟩⟩
 ·exact⟨_,rfl,rfl,_,rfl,cI (jw (by decide +kernel)) ⟨_,rfl,rfl,_,rfl,cI (jw (by decide +kernel)) ⟨_,rfl,rfl,_,rfl,cI (jw (by decide +kernel)) ⟨_,rfl,rfl,_,rfl,cI (jw (by decide +kernel)) ⟨_,rfl,rfl,_,rfl,vh rfl (Nf sz hc rfl q)⟩⟩⟩⟩⟩
 ·exact⟨_,rfl,rfl,_,rfl,cI (jw (by decide +kernel)) ⟨_,rfl,rfl,_,rfl,cI (jw (by decide +kernel)) ⟨_,rfl,rfl,_,rfl,cI (jw (by decide +kernel)) ⟨_,rfl,rfl,_,rfl,cI (jw (by decide +kernel)) ⟨_,rfl,rfl,_,rfl,cI (jw (by decide +kernel)) ⟨_,rfl,rfl,_,rfl,vh rfl (Nf sz hc rfl q)⟩⟩⟩⟩⟩⟩
 ·exact⟨_,rfl,rfl,_,rfl,cI (jw (by decide +kernel)) ⟨_,rfl,rfl,_,rfl,cI (jw (by decide +kernel)) ⟨_,rfl,rfl,_,rfl,cI (jw (by decide +kernel)) ⟨_,rfl,rfl,_,rfl,cI (jw (by decide +kernel)) ⟨_,rfl,rfl,_,rfl,cI (jw (by decide +kernel)) ⟨_,rfl,rfl,_,rfl,cI (jw (by decide +kernel)) (Nf sz hc rfl q)⟩⟩⟩⟩⟩⟩
def Nh(cl:Hd->Addr)(n:Nat):Sp:=λvs H Q _=>∃(Z:Hp)(v:V)(t:Tr),vs=[v]/\Same Z H/\bY H v t/\t.depth<n/\t.depth<8/\∀(p:Addr)(H':Hp),Same H H'->bh cl (dif H' Z) p t->Q (.ref p) H'
theorem Ur:ao ["_law_tree","_law_parts"] ["_law_tree"] (zH Je):=⟨rfl,rfl,rfl,by decide +kernel,rfl,by decide +kernel,by decide +kernel⟩
theorem aad:(["_law_part"]:List Str).Nodup:=by decide +kernel
theorem zCp(s:Same H H'):∀{cs:List Addr}{ts:List Tr},Paired (bh cl H) cs ts->Paired (bh cl H') cs ts
 |_,_,.nil=>.nil
 |_,_,.cons r t=>.cons (r.same s) (zCp s t)
theorem zP7{α β:Type}{F:α->β->Prop}{ts:List β}{cs:List α}{t:β}{c:α}(h:Paired F cs (ts.take i))(ht:ts[i]?=some t)(f:F c t):Paired F (cs++[c]) (ts.take (i+1)):=by
 rw[take_add_one,ht]
 exact afo h f
theorem zGk(sz:Same Z H)(hb:cO K H b vs)(hp:Paired (bY H) vs ts)(hd:∀t∈ts,t.depth<n/\t.depth<8)(hz:vs.length<=2)(k:∀(l:Addr) (cs:List Addr) (H':Hp),Same H H'->H' l=some (.lst (cs.map V.ref))->H l=none->Paired (bh cl (dif H' Z)) cs ts->Q (.ref l) H') :
  Pa 1 [] (pF 0) uy (Dz (Nh cl n) [] E0 (yQ (bZ 0) bJ)) σ Q (Vt K b) H:=by
 have hln:=hp.length
 refine zUo (K:=K) (a:=b) (xs:=vs) (λi ys σ H2=>∃(cs:List Addr)(v:Option V),ys=cs.map V.ref/\σ=[v]/\Same H H2/\Paired (bh cl (dif H2 Z)) cs (ts.take i)/\cs.length=i)
  ⟨[],none,rfl,rfl,Same.refl H,.nil,rfl⟩ (λi ys σ H2 _ ⟨cs,v,e,_,s2,_,hi⟩=>⟨?_,by rw[e,length_map,hi];exact aau _⟩) (Yo (by omega)) ?_ ?_
 ·rcases hb with(hb|⟨o,hb⟩)|hb
  ·exact .inl (.inl (s2 _ _ hb))
  ·exact .inl (.inr ⟨o,s2 _ _ hb⟩)
  ·exact .inr hb
 ·rintro i y ys σ H2 hi ⟨cs,v,rfl,rfl,s2,hN,Qh⟩
  obtain⟨t,ht,hty⟩:=WY hp hi
  obtain⟨d1,d2⟩:=hd t (mem_of_getElem? ht)
  refine zL9 ?_
  refine⟨_,rfl,Z,_,t,rfl,sz.trans s2,hty.same s2,d1,d2,λp H3 s3 hs=>?_⟩
  exact⟨cs++[p],_,by rw[map_append]<;>rfl,rfl,s2.trans s3,zP7 (zCp (xA s3) hN) ht hs,by rw[length_append,Qh]<;>rfl⟩
 ·rintro ys σ H2 ⟨cs,v,rfl,rfl,s2,hN,Qh⟩ p hp0
  have e:ts.take vs.length=ts:=by rw[hln];exact take_length
  rw[e] at hN
  exact k p cs _ (s2.trans (au hp0 _)) zK (s2.free hp0) (zCp (xA (au hp0 _)) hN)
theorem W4(sz:Same Z H)(hl:H l=some (.lst [V.ref c,V.ref d]))(hc:bh cl (dif H Z) c t)(hd:bh cl (dif H Z) d u)(hσ:σ[1]?=some (some (.ref l)))(k:∀(p:Addr) (H':Hp),Same H H'->bh cl (dif H' Z) p (.two i t u)->Q (.ref p) H') :
  J_ (cl (.two i)) (sE (cl (.two i)) (w2 i)) [] E0 (yQ (jT (rY K) (bZ 1) (tC (.int 0))) (yQ (jT (rY K) (bZ 1) (tC (.int 1))) bJ)) σ H Q:=by
 refine⟨_,hσ,l,_,_,_,rfl,rfl,aW.of hl,rfl,_,hσ,l,_,_,_,rfl,rfl,aW.of hl,rfl,?_⟩
 intro x dx nx nd ne
 exact⟨x,dx,.ref c,.ref d,rfl,zK,λq H' k1 f0 e1 e2=>⟨rfl,k x H' (uQ nx nd k1) (.two (by rw[wF (sz.free nx)];exact e2) (by rw[wF (sz.free ((T8 nx nd).free f0))];exact e1) (hc.same (xA (uQ nx nd k1))) (hd.same (xA (uQ nx nd k1))))⟩⟩
set_option maxHeartbeats 8000000 in
theorem Jh(F:aY K "_law_made" "_law_made" Je f fd)(bF:Binds K fd ["_law_tree"] [])(mF:mg "_law_made" = some (.ref f))(I:ZK P w K mg base 3 cl fi di)(GS:aq P w K mg base aO 5 g gd ["_law_word","_law_part"] (Ng cl))(bS:Binds K gd ["_law_word","_law_part"] [])(kS:keepIn K (.ref g)=true)(mS:mg "_law_single" = some (.ref g))(B:Bl K mg) :
  ∀n:Nat,aq P w K mg base aO (n+5) f fd ["_law_tree"] (Nh cl n)
 |0=>vac λvs H Q E h=>by
  obtain⟨_,_,_,_,_,_,h,_⟩:=h
  exact acq _ h
 |n+1=>by
  have G:=Jh F bF mF I GS bS kS mS B n
  refine F.ok Ur (λvs H Q E h=>?_) (λcdv A outer s H vs Q E hr h=>?_)
  ·obtain⟨_,v,t,rfl,_⟩:=h
   rfl
  obtain⟨Z,v,t,rfl,sz,hT,hn,h8,q⟩:=h
  have hu:=hr.units
  have CT:bW 4 _:=hr.mono (show 4<=n+5 by omega)
  refine⟨_,zB (yP (yB rO (yC DW (pv 0) zJ (λ_ _=>rfl)) yI (yO _)) (zZ (zP (zTl (I.made .all) I.iA CT rfl I.mA I.bA .nil xG))) zG)
   (zB (yP (yB rO (yC DW (pv 0) zJ (λ_ _=>rfl)) yI (yO _)) (zZ (zP (xM (I.made .mark) I.iM CT rfl I.mM I.bM .nil xG (zA (yC DW (pv 0) zJ (λ_ _=>rfl)) zF)))) zG)
   (zB (uK (i:=1) (own:=["_law_part"]) (ix:=[]) Ur.nd rfl rfl rfl rfl rfl (zVg (VL Kg (pv 0) (Ro zJ) Yd)) (λC s H fp=>yL (i:=0) aad rfl (Or.inl rfl)) (λC s H fp=>wT)
    (λC s H fp=>Ka G hr rfl mF F.kp bF .nil xG (zA (pv 0) zF)))
   (zB (Kz (yP (PW.pt (pw_and (yB rO (zS uG rfl B.len aa7 (zA (pv 0) zF)) zJ (yO _)) (pw_and1 (yB (Gq hu) (yC DW (pv 0) zJ (λ_ _=>rfl)) (yC DW (pv 0) zJ (λ_ _=>rfl)) (yO _)))))
    (zZ (OJ (yC wU (pv 1) zJ (λ_ _=>rfl)) (QX (pv 1) zJ O9))) zG))
   (zB (yP (yB rO (zS uG rfl B.len aa7 (zA (pv 0) zF)) zJ (yO _)) (zZ (zP (Ka (GS.mono (show 5<=n+5 by omega)) hr rfl mS kS bS .nil xG (zA (yC DW (pv 0) zJ (λ_ _=>rfl)) (zA (yC wU (pv 1) zJ (λ_ _=>rfl)) zF))))) zG)
   (zB (yP (yB rO (yC DW (pv 0) zJ (λ_ _=>rfl)) yI (yO _)) (zZ (zP (xM (I.made (.two 0)) (I.i2 0) CT rfl (I.m2 0) (I.b2 0) .nil xG (zA (yC wU (pv 1) zJ (λ_ _=>rfl)) (zA (yC wU (pv 1) zJ (λ_ _=>rfl)) zF))))) zG)
   (zB (yP (yB rO (yC DW (pv 0) zJ (λ_ _=>rfl)) yI (yO _)) (zZ (zP (xM (I.made (.two 1)) (I.i2 1) CT rfl (I.m2 1) (I.b2 1) .nil xG (zA (yC wU (pv 1) zJ (λ_ _=>rfl)) (zA (yC wU (pv 1) zJ (λ_ _=>rfl)) zF))))) zG)
   (zB (yP (yB rO (yC DW (pv 0) zJ (λ_ _=>rfl)) yI (yO _)) (zZ (zP (xM (I.made (.two 2)) (I.i2 2) CT rfl (I.m2 2) (I.b2 2) .nil xG (zA (yC wU (pv 1) zJ (λ_ _=>rfl)) (zA (yC wU (pv 1) zJ (λ_ _=>rfl)) zF))))) zG)
   (zZ (zP (xM (I.made (.two 3)) (I.i2 3) CT rfl (I.m2 3) (I.b2 3) .nil xG (zA (yC wU (pv 1) zJ (λ_ _=>rfl)) (zA (yC wU (pv 1) zJ (λ_ _=>rfl)) zF)))))))))))),?_⟩
  cases hT with
  |@all a h1 =>
   refine⟨_,rfl,a,_,_,_,rfl,rfl,cO.of h1,rfl,rfl,_,rfl,vh rfl ?_⟩
   intro x dx nx nd ne
   exact⟨x,dx,rfl,zK,λq0 H' k1 f0 e1 e2=>⟨rfl,q x H' (uQ nx nd k1) (.all (by rw[wF (sz.free nx)];exact e2) (by rw[wF (sz.free ((T8 nx nd).free f0))];exact e1))⟩⟩
  |@mark a x0 h1 =>
   refine⟨_,rfl,a,_,_,_,rfl,rfl,cO.of h1,rfl,rfl,_,rfl,cI (jw zTz) ?_⟩
   refine⟨_,rfl,a,_,_,_,rfl,rfl,cO.of h1,rfl,rfl,_,rfl,vh rfl ?_⟩
   refine⟨_,rfl,a,_,_,_,rfl,rfl,cO.of h1,rfl,?_⟩
   intro x dx nx nd ne
   exact⟨x,dx,.str x0,rfl,zK,λq0 H' k1 f0 e1 e2=>⟨rfl,q x H' (uQ nx nd k1) (.mark (by rw[wF (sz.free nx)];exact e2) (by rw[wF (sz.free ((T8 nx nd).free f0))];exact e1))⟩⟩
  |@one a i v t h1 ht =>
   have hd1:t.depth+1<n+1:=hn
   have hd8:t.depth+1<8:=h8
   refine⟨_,rfl,a,_,_,_,rfl,rfl,cO.of h1,rfl,rfl,_,rfl,cI (jw (Mv i)) ?_⟩
   refine⟨_,rfl,a,_,_,_,rfl,rfl,cO.of h1,rfl,rfl,_,rfl,cI (jw (ZW i)) ?_⟩
   refine⟨_,rfl,1,rfl,a,_,rfl,cO.of h1,(by show¬(1=0/\2=2);decide),λb hb=>⟨b,rfl,⟨_,cO.of zK⟩,?_⟩⟩
   have s1:=au hb (.tup [v])
   refine zGk (n:=n) (vs:=[v]) (ts:=[t]) (sz.trans s1) (cO.of zK) (.cons (ht.same s1) .nil) (λt' h'=>by
    have e:t'=t:=by simpa using h'
    subst e
    exact⟨by omega,by omega⟩) (by show 1<=2;decide) λl cs H2 s2 e2 f2 hp=>?_
   cases hp with
   |@cons c _ _ _ hc hnil =>
    cases hnil
    have hA:=s2 _ _ (s1 _ _ h1)
    refine⟨λσ H3=>σ=[some (.ref a),some (.ref l)]/\H3=H2,?_,?_⟩
    ·refine⟨_,rfl,a,_,rfl,.inr (cO.of hA),rfl,_,rfl,?_⟩
     refine cI (by intro z;injection z with z;have z':((2:Nat):Int)=3:=z;omega) ?_
     exact⟨rfl,rfl⟩
    rintro σ H3 ⟨rfl,rfl⟩
    refine⟨_,rfl,a,_,rfl,.inr (cO.of hA),rfl,_,rfl,vh rfl ?_⟩
    refine⟨_,rfl,a,_,_,_,rfl,rfl,cO.of hA,rfl,_,rfl,l,_,_,_,rfl,rfl,aW.of e2,rfl,Z,i,c,t,rfl,sz.trans (s1.trans s2),hc,λp H4 s4 hs=>?_⟩
    exact q p H4 (s1.trans (s2.trans s4)) hs
  |@two a i v u t t' h1 ht ht' =>
   have hd1:max t.depth t'.depth+1<n+1:=hn
   have hd8:max t.depth t'.depth+1<8:=h8
   refine⟨_,rfl,a,_,_,_,rfl,rfl,cO.of h1,rfl,rfl,_,rfl,cI (jw (Mw i)) ?_⟩
   refine⟨_,rfl,a,_,_,_,rfl,rfl,cO.of h1,rfl,rfl,_,rfl,cI (jw (Gp i)) ?_⟩
   refine⟨_,rfl,1,rfl,a,_,rfl,cO.of h1,(by show¬(1=0/\3=3);decide),λb hb=>⟨b,rfl,⟨_,cO.of zK⟩,?_⟩⟩
   have s1:=au hb (.tup [v,u])
   refine zGk (n:=n) (vs:=[v,u]) (ts:=[t,t']) (sz.trans s1) (cO.of zK) (.cons (ht.same s1) (.cons (ht'.same s1) .nil)) (λt0 h'=>by
    have e:t0=t\/t0=t':=by simpa using h'
    rcases e with rfl|rfl
    ·exact⟨by omega,by omega⟩
    ·exact⟨by omega,by omega⟩) (by show 2<=2;decide) λl cs H2 s2 e2 f2 hp=>?_
   cases hp with
   |@cons c _ _ _ hc hrest =>
    cases hrest with
    |@cons d _ _ _ hd hnil =>
     cases hnil
     have hA:=s2 _ _ (s1 _ _ h1)
     have ht2:=(ht.same s1).same s2
     have aae:=(ht'.same s1).same s2
     refine⟨λσ H3=>σ=[some (.ref a),some (.ref l)]/\∃d',Kp l H2 H3/\H3 l=some (.lst [V.ref c,V.ref d'])/\bh cl (dif H2 Z) d' t',?_,?_⟩
     ·refine⟨_,rfl,a,_,rfl,.inr (cO.of hA),rfl,_,rfl,vh rfl ?_⟩
      refine⟨_,rfl,a,_,_,_,rfl,rfl,cO.of hA,rfl,_,rfl,a,_,_,_,rfl,rfl,cO.of hA,rfl,t,t',ht2,aae,by omega,λb hb=>⟨_,rfl,?_⟩⟩
      cases b with
      |true =>
       refine iu ?_
       refine⟨_,rfl,l,_,_,_,rfl,rfl,aW.of e2,rfl,_,rfl,l,_,_,_,rfl,rfl,e2,rfl,rfl,c,Kp.put l H2 _,zK,?_⟩
       rw[<-hb rfl]
       exact hc
      |false =>
       refine kJ ?_
       exact⟨rfl,d,λb o _ e=>e,e2,hd⟩
     rintro σ H3 ⟨rfl,d',k3,e3,hd'⟩
     have s3:Same H H3:=λb o e=>k3 b o (zO e (s1.free f2)) ((s1.trans s2) b o e)
     have CV:H3 a=some (.tup [V.str (w2 i),v,u]):=s3 _ _ h1
     have dk:∀{b:Addr}{o:HO},(∀xs,o≠.lst xs)->dif H2 Z b=some o->dif H3 Z b=some o:=λ{b o} no e=>by
      unfold dif at e ⊢
      cases hz:Z b with
      |some u=>rw[hz] at e;cases e
      |none=>rw[hz] at e;exact k3 b o (λq=>by subst q;rw[e2] at e;exact no _ (aaw e).symm) e
     have Us:∀{p:Addr}{t0:Tr},bh cl (dif H2 Z) p t0->bh cl (dif H3 Z) p t0:=λ{p t0} h0=>by
      induction h0 with
      |all g1 g2=>exact .all (dk (by intro _ z;cases z) g1) (dk (by intro _ z;cases z) g2)
      |mark g1 g2=>exact .mark (dk (by intro _ z;cases z) g1) (dk (by intro _ z;cases z) g2)
      |one g1 g2 _ ih=>exact .one (dk (by intro _ z;cases z) g1) (dk (by intro _ z;cases z) g2) ih
      |two g1 g2 _ _ ih1 ih2=>exact .two (dk (by intro _ z;cases z) g1) (dk (by intro _ z;cases z) g2) ih1 ih2
     have hc3:=Us hc
     have W5:=Us hd'
     have fin:∀(p:Addr)(H4:Hp),Same H3 H4->bh cl (dif H4 Z) p (.two i t t')->Q (.ref p) H4:=λp H4 s4 hs=>q p H4 (s3.trans s4) hs
     refine⟨_,rfl,a,_,rfl,.inr (cO.of CV),rfl,_,rfl,cI (by intro z;injection z with z;have z':((3:Nat):Int)=2:=z;omega) ?_⟩
     rcases fi4 i with rfl|rfl|rfl|rfl
     ·exact⟨_,rfl,a,_,_,_,rfl,rfl,cO.of CV,rfl,rfl,_,rfl,vh rfl (W4 (sz.trans s3) e3 hc3 W5 rfl fin)⟩
     ·exact⟨_,rfl,a,_,_,_,rfl,rfl,cO.of CV,rfl,rfl,_,rfl,cI (jw (by decide +kernel)) ⟨_,rfl,a,_,_,_,rfl,rfl,cO.of CV,rfl,rfl,_,rfl,vh rfl (W4 (sz.trans s3) e3 hc3 W5 rfl fin)⟩⟩
     ·exact⟨_,rfl,a,_,_,_,rfl,rfl,cO.of CV,rfl,rfl,_,rfl,cI (jw (by decide +kernel)) ⟨_,rfl,a,_,_,_,rfl,rfl,cO.of CV,rfl,rfl,_,rfl,cI (jw (by decide +kernel)) ⟨_,rfl,a,_,_,_,rfl,rfl,cO.of CV,rfl,rfl,_,rfl,vh rfl (W4 (sz.trans s3) e3 hc3 W5 rfl fin)⟩⟩⟩
     ·exact⟨_,rfl,a,_,_,_,rfl,rfl,cO.of CV,rfl,rfl,_,rfl,cI (jw (by decide +kernel)) ⟨_,rfl,a,_,_,_,rfl,rfl,cO.of CV,rfl,rfl,_,rfl,cI (jw (by decide +kernel)) ⟨_,rfl,a,_,_,_,rfl,rfl,cO.of CV,rfl,rfl,_,rfl,cI (jw (by decide +kernel)) (W4 (sz.trans s3) e3 hc3 W5 rfl fin)⟩⟩⟩
end
end Sy
namespace Ts
open PySem L2 Sy
structure nD where
 t:Tr
section
variable{P:Program}{w:World}{K:PySem.W.Frag}{mg:Str->Option Value}{base:Heap}{B:Bs}{sl:SL K}{cl:Hd->Addr}{t1 t2 t3:TE}
instance:Rp K nD:=⟨λF v x=>bY F v x.t,λs h=>h.same s⟩
def ExH(B:Bs)(sl:SL K)(t:TE){α:Type}[Rp K α](P:α->Prop):Prop :=
 ∀(F:Hp)(O:Own)(H:Hp)(σ:St)(Q:VK),At B sl F O H σ->(∀a,P a->∀(v:V)(F' H':Hp),Same F F'->Same H H'->At B sl F' O H' σ->rp K H' v a->Q v H')->t σ H Q
theorem zMe(k:Ok B F O H)(hp:H p=none)(o:HO):bK B F H O F (upd H p o):=⟨.refl _,au hp _,⟨k.fh.put (k.fh.free hp) _,k.h0.put (k.h0.free hp) _,k.fa,λx hx=>by
 obtain⟨a1,a2,a3⟩:=k.fo x hx
 exact⟨a1,a2,au hp _ _ _ a3⟩,k.nd⟩,λ_ h _=>h⟩
theorem zJj{m1:Option LI}{m2:Option (List Str)}{ws:LI}{xs:List Str}{d n:Nat}{di:Int}(hh:sl.all (λs=>!cT s&&!jh s)=true)(h1:Eo B sl .fz t1 m1)(e1:m1=some ws)(h2:Ex B sl .fz t2 m2)(e2:m2=some xs)(xl:xs.length<=1000)(h3:Ex B sl .hp t3 (some di))(ed:di=(d:Int))(dn:d<n) :
  ExH B sl (Dz (Nb K n) [] E0 (yQ t1 (yQ t2 (yQ t3 bJ)))) (λx:nD=>x.t.depth<=d):=λF O H σ Q z k=>by
 subst ed
 refine h1 ws e1 F O H σ _ z λp vs F1 H1 gr hp r=>?_
 have ev:vs=ws.map V.int:=A2.mR r
 subst ev
 have P_:=(z.grow gr).grow (zMe gr.ok hp (.lst (ws.map V.int)))
 refine h2 xs e2 F1 O _ σ _ P_ λv2 F2 H2 g2 r2=>?_
 refine h3 _ rfl F2 O H2 σ _ (P_.grow g2) λv3 F3 H3 g3 r3=>?_
 have z3:=(P_.grow g2).grow g3
 have r3:v3=.int d:=r3
 obtain⟨b,bs,rfl,b1,b2⟩:=r2
 have eb:bs=xs.map V.str:=A2.mR b2
 subst eb
 have up:upd H1 p (.lst (ws.map V.int)) p≠none:=by rw[zK];intro q;cases q
 have p2:H2 p=some (.lst (ws.map V.int)):=g2.hh _ _ zK
 have f2:F2 p=none:=g2.nw p (gr.ok.fh.free hp) up
 have f3:F3 p=none:=g3.nw p f2 (by rw[p2];intro q;cases q)
 have b1':F2 b=some (.lst (xs.map V.str)):=b1
 subst r3
 refine⟨p,b,d,ws,xs,rfl,dn,g3.hh _ _ p2,aW.of (g3.hh _ _ (g2.ok.fh _ _ b1')),λq=>(by rw[q,f2] at b1';cases b1'),xl,λv t ns' H4 kp _ tr dt=>?_⟩
 have z4:At B sl F3 O H4 σ:=z3.off hh f3 (gr.ok.h0.free hp) (λx hx e=>by
  have:=(gr.ok.fo x hx).2.2
  rw[e,hp] at this
  cases this) kp
 have s4:Same H H4:=λc o e=>kp c o (λq=>by
  have:=gr.hh _ _ e
  rw[q,hp] at this
  cases this) (g3.hh _ _ (g2.hh _ _ (au hp _ _ _ (gr.hh _ _ e))))
 exact k (nD.mk t) dt v F3 H4 (gr.ff.trans (g2.ff.trans g3.ff)) s4 z4 tr
theorem zPk{α:Type}[Rp K α]{P1 P2:α->Prop}(j:Nat)(hs:sl[j]?=some s)(ho:jE s=false)(h1:ExH B sl t1 P1)(h2:ExH B sl t2 P2):SnA B sl (mO (Dy (yQ t1 (yQ t2 bJ))) (pF j)) (λx:α×α=>sl.set j (.hs [x.1,x.2])) (λx=>P1 x.1/\P2 x.2):=λG D σ H q k=>by
 obtain⟨F,O,g,z⟩:=q
 refine h1 F O H σ _ z λa ha v F1 H1 f1 s1 z1 r1=>?_
 refine h2 F1 O H1 σ _ z1 λb hb u F2 H2 f2 s2 z2 r2=>?_
 refine⟨by show 2<=sizeLine;decide,λp hp=>?_⟩
 have g3:=zMe z2.1 hp (.lst [v,u])
 have z3:=z2.grow g3
 have rl:rp K (upd H2 p (.lst [v,u])) (.ref p) [a,b]:=⟨p,[v,u],rfl,zK,Rp.mono (s2.trans g3.hh) r1,Rp.mono g3.hh r2,trivial⟩
 have z4:At B (sl.set j (.hs [a,b])) F2 O (upd H2 p (.lst [v,u])) (σ.set j (some (.ref p))):=⟨z3.1,z3.2.put (s':=.hs [a,b]) (λ_ _ _ h=>.hs rl h) hs ho⟩
 exact k (a,b) ⟨ha,hb⟩ _ _ ⟨F2,O,g.trans (f1.trans f2),z4⟩
abbrev zJ0(K:PySem.W.Frag):Sp:=Nb K 4
def uN(q0:nD):Option (cR cl):=if q0.t.depth<4 then some (cR.mk q0.t) else none
abbrev zH1(K:PySem.W.Frag)(cl:Hd->Addr):Sp:=cQ K false (λa:nD×Unit=>([.fz false a.1]:SL K)) (λa=>(uN a.1:Option (cR cl)))
theorem Ni(h:aq P w K mg base aO k f fd ps (Nh cl 4)):aq P w K mg base aO k f fd ps (zH1 K cl):=aq.imp h λvs H Q E ⟨a,b,Fa,sf,e,r,q⟩=>by
 cases r with
 |cons r1 rn =>
  cases rn
  have e:uN a.1=some b:=e
  unfold uN at e
  split at e
  case isFalse=>cases e
  rename_i hd
  cases e
  have r1:bY Fa _ a.1.t:=r1
  exact⟨H,_,a.1.t,rfl,.refl _,r1.same sf,hd,by omega,λp H' s say=>q _ H' s ⟨p,rfl,say⟩⟩
end
end Ts
set_option maxHeartbeats 40000000
namespace Ts
open PySem L2 Sy
section
variable{P:Program}{w:World}{K:PySem.W.Frag}{mg:Str->Option Value}{base:Heap}
def Ut(q0:Int)(q1:Int):Option Bool:=if true=true then if(!false)=true then if decide ((0:Int)<=q0)=true then some (decide (q0<q1)) else some false else some false else some false
theorem lK:ao ["thing","many"] ["thing","many"] (zH jM):=fsc
abbrev zGz(K:PySem.W.Frag):Sp:=cQ K false (λa:Int×Int×Unit=>([.z a.1,.z a.2.1]:SL K)) (λa=>Ut a.1 a.2.1)
theorem zKu(F:aY K "is_stand" "is_stand" jM f fd)(B:Bl K mg):aq P w K mg base aO (k+1) f fd ["thing","many"] (zGz K):=by
 refine yK F lK (λ_=>rfl) (λ_=>rfl) λcdv A outer s H E hr=>?_
 have nd:=lK.nd
 refine⟨_,(zB (zP (Dl (zS (uH K (RM (n:="int"))) rfl B.qe uI (zA (pv 0) (zA (QJ (v:=.ty "int") rfl B.int K5 rfl) zF))) (Dl (JL (zS (uH K (RM (n:="bool"))) rfl B.qe uI (zA (pv 0) (zA (QJ (v:=.ty "bool") rfl B.bool Ew rfl) zF)))) (zq (zL3 z_ Rh zJ (pv 0) (pv 1)))))) zG),?_⟩
 rintro Fa ⟨q0,q1,⟨⟩⟩
 exact SB.of (zY (esc (Ed (R7 B.ii rfl (zI 0 rfl)) (Ed (KH (R7 B.ib rfl (zI 0 rfl))) (zMj (f:=(λi j=>decide (i<=j))) (g:=(λi j=>decide (i<j))) (zR 0) (zI 0 rfl) (zI 1 rfl)))))) (by unfold Ut;simp only[bnd])
def xJ(q0:LI)(q1:Int)(q2:Str):Option Unit:=(some ()).bind λsJ=>((some q0).bind λxs=>wH (λ(s2:List (Key×Bool)) (x4:Int)=>(((Ut x4 q1).bind λa5=>some (!a5)).bind λb=>if b=true then none else some ()).bind λs6=>(if((jg (Dc.mk s2).kv x4).isSome)=true then none else some ()).bind λs8=>(dput s2 x4 true).bind λgq=>some gq) xs (([]:List (Key×Bool)))).bind λs3=>some ()
theorem gO:ao ["stands","many","where","ahead","stand"] ["stands","many","where"] (zH dU):=fsc
abbrev vX(K:PySem.W.Frag):Sp:=cQ K false (λa:LI×Int×Str×Unit=>([.z a.1,.z a.2.1,.z a.2.2.1]:SL K)) (λa=>xJ a.1 a.2.1 a.2.2.1)
theorem zFa(F:aY K "check_stands" "check_stands" dU f fd)(B:Bl K mg)(jO:bL P w K mg base k "is_stand" ["thing","many"] (zGz K)):aq P w K mg base aO (k+1) f fd ["stands","many","where"] (vX K):=by
 refine Wj F gO (λ_=>rfl) (λ_=>rfl) λcdv A outer s H E hr=>?_
 have nd:=gO.nd
 have hu:=Ag hr
 refine⟨_,(zB (xB 3 nd Yb) (zB (xU aa4 rfl (yR K (pv 0)) (cP 4 nd) (zB (yP (Dk (xT (zW jO hr (zA (pv 4) (zA (pv 1) zF))))) Ox zG) (zB (yP (Dj (zVi hu (pv 4) (pv 3))) Ox zG) (zB (X_ hu (pv 3) (pv 4) oW rfl) zG)))) zG)),?_⟩
 rintro Fa ⟨q0,q1,q2,⟨⟩⟩
 exact⟨_,Sn.of (zT (YK (α:=Bool) 3 rfl rfl) (λsJ=>(zT (vK (n:=false) (L:=(λs2:List (Key×Bool)=>([.z q0,.z q1,.z q2,.od (s2:List (Key×Bool)),.un]:SL K))) (([]:List (Key×Bool))) bQ (yS (yH 0 rfl)) (λs2=>(yD 4 rfl rfl)) (λs2 x4=>(zT (su (Ec (cG (md:=.hp) (zL (zE (esc (zI 4 rfl)) (zE (esc (zI 1 rfl)) zN))))) Px (yE (λs7:Unit=>([.z q0,.z q1,.z q2,.od (s2:List (Key×Bool)),.z x4]:SL K)) () bQ)) (λs6=>(zT (su (cG (md:=.hp) (K_ (zI 4 rfl) (Zd 3 rfl))) Px (yE (λs9:Unit=>([.z q0,.z q1,.z q2,.od (s2:List (Key×Bool)),.z x4]:SL K)) () bQ)) (λs8=>(zT (zPj 3 rfl rfl (esc (oY true)) (zI 4 rfl)) (λgq=>(yE (λs2:List (Key×Bool)=>([.z q0,.z q1,.z q2,.od (s2:List (Key×Bool)),.un]:SL K)) gq bQ))))))))) (λs3=>(yE (λ_:Unit=>([.un,.un,.un,.un,.un]:SL K)) () bQ))))) (by unfold xJ;simp only[bnd])⟩
def vE(q0:List LI):Option Unit:=(some (q0.length:Int)).bind λmany1=>((if(decide (many1<(1:Int)))=true then some true else some (decide ((60:Int)<many1))).bind λb=>if b=true then none else some ()).bind λs2=>((some (Av q0)).bind λxs=>wH (λ(s4:Unit) (x6:Int×LI)=>(((((Lg "steps of stand " x6.1).bind λa8=>some ((a8,()))).bind λb9=>some (many1,b9)).bind λb10=>some (x6.2,b10)).bind λz7=>xJ z7.1 z7.2.1 z7.2.2.1).bind λu11=>(if(decide ((x6.2.length:Int)=(0:Int)))=true then none else some ()).bind λs12=>some ()) xs ()).bind λs5=>some ()
theorem iG:ao ["steps","many","stand","targets"] ["steps"] (zH fH):=fsc
abbrev zH3(K:PySem.W.Frag):Sp:=cQ K false (λa:((List LI))×Unit=>([.z a.1]:SL K)) (λa=>vE a.1)
theorem zF9(F:aY K "check_steps" "check_steps" fH f fd)(B:Bl K mg)(pq:mg "MOST_STANDS" = some (.int 60 pA))(aN:bL P w K mg base k "check_stands" ["stands","many","where"] (vX K)):aq P w K mg base aO (k+1) f fd ["steps"] (zH3 K):=by
 refine Wj F iG (λ_=>rfl) (λ_=>rfl) λcdv A outer s H E hr=>?_
 have nd:=iG.nd
 refine⟨_,(zB (xB 1 nd (zS (vN K) rfl B.len aa7 (zA (pv 0) zF))) (zB (yP (PW.pt (pw_or (yB Rh (pv 1) zJ (yO _)) (pw_or1 (yB Aa (pv 1) (wK (v:=.int 60) rfl pq ⟨_,rfl⟩) (yO _))))) Ox zG) (zB (xU aa4 rfl (Y7 K B.enum (zA (pv 0) zF)) (JT rfl (yV (cP 2 nd) (yV (cP 3 nd) Dn))) (zB (yJ (zW aN hr (zA (pv 3) (zA (pv 1) (zA (Al (pv 2) (by decide)) zF))))) (zB (yP (yB (Cz K Int hr) (zS (vN K) rfl B.len aa7 (zA (pv 3) zF)) zJ (yO _)) Ox zG) zG))) zG))),?_⟩
 rintro Fa ⟨q0,⟨⟩⟩
 exact⟨_,Sn.of (zT (yM true 1 rfl rfl (esc (uD (zD 0 rfl)))) (λmany1=>(zT (su (V3 (xX (md:=.hp) (Ia (zI 1 rfl) (zR 1))) (xX (md:=.hp) (Ax (zI 1 rfl) (zR 60)))) Px (yE (λs3:Unit=>([.z q0,.y many1,.un,.un]:SL K)) () bQ)) (λs2=>(zT (vK (n:=false) (L:=(λs4:Unit=>([.z q0,.y many1,.un,.un]:SL K))) () bQ (YT (yH 0 rfl)) (λs4=>(KJ 2 3 rfl rfl (λ_=>rfl) rfl)) (λs4 x6=>(zT (Pk (md:=.hp) (zL (zE (zD 3 rfl) (zE (esc (zI 1 rfl)) (zE (esc (zVs "steps of stand " (zI 2 rfl))) zN))))) (λu11=>(zT (su (xX (md:=.hp) (CG (uD (zD 3 rfl)) (zR 0))) Px (yE (λGx:Unit=>([.z q0,.y many1,.z x6.1,.z x6.2]:SL K)) () bQ)) (λs12=>(yE (λs4:Unit=>([.z q0,.y many1,.un,.un]:SL K)) () bQ))))))) (λs5=>(yE (λ_:Unit=>([.un,.un,.un,.un]:SL K)) () bQ))))))) (by unfold vE;simp only[bnd])⟩
def uY(q0:Str):Option Bool:=(if(!true)=true then some true else some (decide (q0∈(["all","not","both","either","somenext","eachnext","sometill","eachtill","someever","eachever"]:List Str)))).bind λb=>if b=true then some false else((Fg q0).bind λb1=>if decide ((1:Int)<=b1)=true then some (decide (b1<=(8:Int))) else some false).bind λc4=>if c4=true then((some (S9 q0)).bind λxs=>wP (λ(x2:Str)=>some true) (λ(x2:Str)=>some (Ze x2 ("abcdefghijklmnopqrstuvwxyz":Str))) xs).bind λa3=>some (a3.all id) else some false
theorem nG:ao ["name"] ["name"] (zH lq):=fsc
abbrev zJ2(K:PySem.W.Frag):Sp:=cQ K false (λa:Str×Unit=>([.z a.1]:SL K)) (λa=>uY a.1)
theorem zN2(F:aY K "is_name" "is_name" lq f fd)(B:Bl K mg)(wg:mg "LETTERS" = some (.str "abcdefghijklmnopqrstuvwxyz" wj))(nH:mg "LONGEST_NAME" = some (.int 8 nJ))(nO:mg "SAYING_WORDS" = some (.ref cj))(dX:∀H,cO K H cj ((["all","not","both","either","somenext","eachnext","sometill","eachtill","someever","eachever"]:List Str).map V.str))(Nj:mg "all" = none)(Nk:mg "str" = none):aq P w K mg base aO (k+1) f fd ["name"] (zJ2 K):=by
 refine yK F nG (λ_=>rfl) (λ_=>rfl) λcdv A outer s H E hr=>?_
 have nd:=nG.nd
 refine⟨_,(zB (yP (PW.pt (pw_or (Dk (xT (zS (uH K (RM (n:="str"))) rfl B.qe uI (zA (pv 0) (zA (QJ (v:=.ty "str") rfl Nk Li rfl) zF))))) (pw_or1 (yB (vd K) (pv 0) (wK (v:=.ref cj) rfl nO rfl) (by with_unfolding_all rfl))))) (zB (zP oW) zG) zG) (zB (zP (Dl (zL3 z_ z_ zJ (zS zR4 rfl B.len aa7 (zA (pv 0) zF)) (wK (v:=.int 8) rfl nH ⟨_,rfl⟩)) (zq (zS (zR6 K rfl) rfl Nj K9 (zA (Cr (own:=["sign"]) (ix:=[]) rfl rfl rfl (La (pv 0)) (λC s H fp=>yL (i:=0) (show(["sign"]:List Str).Nodup from by decide +kernel) rfl (Or.inl rfl)) (λC s H fp=>wT) (λC s H fp=>(wL zQc (pv 0) (wK (v:=.str "abcdefghijklmnopqrstuvwxyz") rfl wg ⟨_,rfl⟩) (by with_unfolding_all rfl)))) zF))))) zG)),?_⟩
 rintro Fa ⟨q0,⟨⟩⟩
 exact SB.of (vL (V3 (Ec (cG (md:=.hp) (R7 S_ rfl (zI 0 rfl)))) (xX (md:=.hp) (Lf dX (zI 0 rfl)))) (zY (esc (oY false))) (zY (esc (Ed (zMj (f:=(λi j=>decide (i<=j))) (g:=(λi j=>decide (i<=j))) (zR 1) (Fi (zI 0 rfl)) (zR 8)) (zMk (wC (n:=true) (iU:=[.un]) (no:=1) (ix:=[]) rfl rfl (Lb (zI 0 rfl)) (yD 0 rfl rfl) (λx2=>za) (λx2=>(esc (Ld (zI 0 rfl) (Cv "abcdefghijklmnopqrstuvwxyz")))) (λx2=>gR)).ex))))) (by unfold uY;simp only[bnd])
def vG(q0:List (Str×LI))(q1:Int):Option Unit:=(some ()).bind λsJ=>((some q0).bind λxs=>wH (λ(s2:List (Key×Bool)) (x4:Str×LI)=>(((uY x4.1).bind λa5=>some (!a5)).bind λb=>if b=true then none else some ()).bind λs6=>(if((Im (Dc.mk s2).kv x4.1).isSome)=true then none else some ()).bind λs8=>(Tc s2 x4.1 true).bind λgq=>(((((Py "mark " x4.1).bind λa12=>some ((a12,()))).bind λb13=>some (q1,b13)).bind λNm=>some (x4.2,Nm)).bind λz11=>xJ z11.1 z11.2.1 z11.2.2.1).bind λu15=>some gq) xs (([]:List (Key×Bool)))).bind λs3=>some ()
theorem iH:ao ["marks","many","ahead","name","stands"] ["marks","many"] (zH fJ):=fsc
abbrev zH4(K:PySem.W.Frag):Sp:=cQ K false (λa:((List (Str×LI)))×Int×Unit=>([.z a.1,.z a.2.1]:SL K)) (λa=>vG a.1 a.2.1)
theorem zGa(F:aY K "check_marks" "check_marks" fJ f fd)(B:Bl K mg)(aN:bL P w K mg base k "check_stands" ["stands","many","where"] (vX K))(lB:bL P w K mg base k "is_name" ["name"] (zJ2 K)):aq P w K mg base aO (k+1) f fd ["marks","many"] (zH4 K):=by
 refine Wj F iH (λ_=>rfl) (λ_=>rfl) λcdv A outer s H E hr=>?_
 have nd:=iH.nd
 have hu:=Ag hr
 refine⟨_,(zB (xB 2 nd Yb) (zB (xU aa4 rfl (yR K (pv 0)) (JT rfl (yV (cP 3 nd) (yV (cP 4 nd) Dn))) (zB (yP (Dk (xT (zW lB hr (zA (pv 3) zF)))) Ox zG) (zB (yP (Dj (zVi hu (pv 3) (pv 2))) Ox zG) (zB (X_ hu (pv 2) (pv 3) oW rfl) (zB (yJ (zW aN hr (zA (pv 4) (zA (pv 1) (zA (Al (pv 3) (by decide)) zF))))) zG))))) zG)),?_⟩
 rintro Fa ⟨q0,q1,⟨⟩⟩
 exact⟨_,Sn.of (zT (YK (α:=Bool) 2 rfl rfl) (λsJ=>(zT (vK (n:=false) (L:=(λs2:List (Key×Bool)=>([.z q0,.z q1,.od (s2:List (Key×Bool)),.un,.un]:SL K))) (([]:List (Key×Bool))) bQ (yS (yH 0 rfl)) (λs2=>(KJ 3 4 rfl rfl (λ_=>rfl) rfl)) (λs2 x4=>(zT (su (Ec (cG (md:=.hp) (zL (zE (esc (zI 3 rfl)) zN)))) Px (yE (λs7:Unit=>([.z q0,.z q1,.od (s2:List (Key×Bool)),.z x4.1,.z x4.2]:SL K)) () bQ)) (λs6=>(zT (su (cG (md:=.hp) (Fj (zI 3 rfl) (Zd 2 rfl))) Px (yE (λs9:Unit=>([.z q0,.z q1,.od (s2:List (Key×Bool)),.z x4.1,.z x4.2]:SL K)) () bQ)) (λs8=>(zT (zS3 2 rfl rfl (esc (oY true)) (zI 3 rfl)) (λgq=>(zT (Pk (md:=.hp) (zL (zE (zD 4 rfl) (zE (esc (zI 1 rfl)) (zE (esc (Lh "mark " (zI 3 rfl))) zN))))) (λu15=>(yE (λs2:List (Key×Bool)=>([.z q0,.z q1,.od (s2:List (Key×Bool)),.un,.un]:SL K)) gq bQ))))))))))) (λs3=>(yE (λ_:Unit=>([.un,.un,.un,.un,.un]:SL K)) () bQ))))) (by unfold vG;simp only[bnd])⟩
def uB(q0:List LI)(q1:Int):Option Unit:=((some (Av q0)).bind λxs=>wH (λ(s1:Unit) (x3:Int×LI)=>(((((Lg "fair set " x3.1).bind λa5=>some ((a5,()))).bind λb6=>some (q1,b6)).bind λb7=>some (x3.2,b7)).bind λz4=>xJ z4.1 z4.2.1 z4.2.2.1).bind λu8=>some ()) xs ()).bind λs2=>some ()
theorem jx:ao ["fair","many","number","stands"] ["fair","many"] (zH gn):=fsc
abbrev zJ3(K:PySem.W.Frag):Sp:=cQ K false (λa:((List LI))×Int×Unit=>([.z a.1,.z a.2.1]:SL K)) (λa=>uB a.1 a.2.1)
theorem zHm(F:aY K "check_fair" "check_fair" gn f fd)(B:Bl K mg)(aN:bL P w K mg base k "check_stands" ["stands","many","where"] (vX K)):aq P w K mg base aO (k+1) f fd ["fair","many"] (zJ3 K):=by
 refine Wj F jx (λ_=>rfl) (λ_=>rfl) λcdv A outer s H E hr=>?_
 have nd:=jx.nd
 refine⟨_,(zB (xU aa4 rfl (Y7 K B.enum (zA (pv 0) zF)) (JT rfl (yV (cP 2 nd) (yV (cP 3 nd) Dn))) (zB (yJ (zW aN hr (zA (pv 3) (zA (pv 1) (zA (Al (pv 2) (by decide)) zF))))) zG)) zG),?_⟩
 rintro Fa ⟨q0,q1,⟨⟩⟩
 exact⟨_,Sn.of (zT (vK (n:=false) (L:=(λs1:Unit=>([.z q0,.z q1,.un,.un]:SL K))) () bQ (YT (yH 0 rfl)) (λs1=>(KJ 2 3 rfl rfl (λ_=>rfl) rfl)) (λs1 x3=>(zT (Pk (md:=.hp) (zL (zE (zD 3 rfl) (zE (esc (zI 1 rfl)) (zE (esc (zVs "fair set " (zI 2 rfl))) zN))))) (λu8=>(yE (λs1:Unit=>([.z q0,.z q1,.un,.un]:SL K)) () bQ))))) (λs2=>(yE (λ_:Unit=>([.un,.un,.un,.un]:SL K)) () bQ))) (by unfold uB;simp only[bnd])⟩
def Qk(q0:List LI):Option (List LI):=(some q0).bind λxs=>wP (λ(x1:LI)=>some true) (λ(x1:LI)=>some x1) xs
theorem pN:ao ["lists"] ["lists"] (zH m8):=fsc
abbrev zUz(K:PySem.W.Frag):Sp:=cQ K false (λa:((List LI))×Unit=>([.z a.1]:SL K)) (λa=>Qk a.1)
theorem zQm(F:aY K "copied" "copied" m8 f fd)(B:Bl K mg):aq P w K mg base aO (k+1) f fd ["lists"] (zUz K):=by
 refine yK F pN (λ_=>rfl) (λ_=>rfl) λcdv A outer s H E hr=>?_
 have nd:=pN.nd
 refine⟨_,(zB (zP (Cr (own:=["things"]) (ix:=[]) rfl rfl rfl (yR K (pv 0)) (λC s H fp=>yL (i:=0) (show(["things"]:List Str).Nodup from by decide +kernel) rfl (Or.inl rfl)) (λC s H fp=>wT) (λC s H fp=>(uV (K6 K) rfl B.list Ez (zA (pv 0) zF))))) zG),?_⟩
 rintro Fa ⟨q0,⟨⟩⟩
 exact SB.of (zY (wC (n:=false) (iU:=[.un]) (no:=1) (ix:=[]) rfl rfl (yS (yH 0 rfl)) (yD 0 rfl rfl) (λx1=>za) (λx1=>(K3 (zD 0 rfl)).ex) (λx1=>gR)).ex) (by unfold Qk;simp only[bnd])
end
abbrev Ql(C:Addr):=Wk C vE vG uB Qk Qi
section
variable{P:Program}{w:World}{K:PySem.W.Frag}{mg:Str->Option Value}{base:Heap}
def yX(q0:aF C):Option Int:=some (q0.steps.length:Int)
theorem gP:ao ["self"] ["self"] (zH dW):=fsc
abbrev wQ(K:PySem.W.Frag)(C:Addr):Sp:=cQ K false (λa:(aF C)×Unit=>([.z a.1]:SL K)) (λa=>yX a.1)
theorem zFb(F:aY K "many" "Machine.many" dW f fd)(B:Bl K mg)(T:Cl K mg C):aq P w K mg base aO (k+1) f fd ["self"] (wQ K C):=by
 refine yK F gP (λ_=>rfl) (λ_=>rfl) λcdv A outer s H E hr=>?_
 have nd:=gP.nd
 refine⟨_,(zB (zP (zS (vN K) rfl B.len aa7 (zA (Ig K (pv 0)) zF))) zG),?_⟩
 rintro Fa ⟨q0,⟨⟩⟩
 exact SB.of (zY (esc (uD (zJh T.cl T.nS (zD 0 rfl))))) (by unfold yX;simp only[bnd])
def yY(q0:aF C)(q1:Int):Option LI:=(bx q0.steps q1).bind λa1=>Fe a1
theorem dY:ao ["self","stand"] ["self","stand"] (zH cU):=fsc
abbrev vW(K:PySem.W.Frag)(C:Addr):Sp:=cQ K false (λa:(aF C)×Int×Unit=>([.z a.1,.z a.2.1]:SL K)) (λa=>yY a.1 a.2.1)
theorem zCy(F:aY K "next_of" "Machine.next_of" cU f fd)(B:Bl K mg)(T:Cl K mg C)(bN:mg "sorted" = none):aq P w K mg base aO (k+1) f fd ["self","stand"] (vW K C):=by
 refine yK F dY (λ_=>rfl) (λ_=>rfl) λcdv A outer s H E hr=>?_
 have nd:=dY.nd
 refine⟨_,(zB (zP (zS (Za K) rfl bN Y8 (zA (yC (aU K) (Ig K (pv 0)) (pv 1) (λ_ _=>rfl)) zF))) zG),?_⟩
 rintro Fa ⟨q0,q1,⟨⟩⟩
 exact SB.of (zY (Zc (yW (zJh T.cl T.nS (zD 0 rfl)) (zI 1 rfl))).ex) (by unfold yY;simp only[bnd])
def xV(q0:aF C)(q1:Int):Option LI:=bx q0.sources q1
theorem eU:ao ["self","stand"] ["self","stand"] (zH dh):=fsc
abbrev zBd(K:PySem.W.Frag)(C:Addr):Sp:=cQ K false (λa:(aF C)×Int×Unit=>([.z a.1,.z a.2.1]:SL K)) (λa=>xV a.1 a.2.1)
theorem zDs(F:aY K "before" "Machine.before" dh f fd)(B:Bl K mg)(T:Cl K mg C):aq P w K mg base aO (k+1) f fd ["self","stand"] (zBd K C):=by
 refine yK F eU (λ_=>rfl) (λ_=>rfl) λcdv A outer s H E hr=>?_
 have nd:=eU.nd
 refine⟨_,(zB (zP (uV (K6 K) rfl B.list Ez (zA (yC (aU K) (Ig K (pv 0)) (pv 1) (λ_ _=>rfl)) zF))) zG),?_⟩
 rintro Fa ⟨q0,q1,⟨⟩⟩
 exact SB.of (zY (K3 (yW (zLc T.cl T.nB (zD 0 rfl)) (zI 1 rfl))).ex) (by unfold xV;simp only[bnd])
def yF(q0:aF C)(q1:Str):Option LI:=((some q0.marks).bind λxs=>uC (λ(s1:Unit) (x3:Str×LI)=>if(decide (x3.1=q1))=true then(Fe x3.2).bind λb=>some (.rt b) else some (.nx ())) xs ()).bind λo=>o.els λs2=>some ([]:LI)
theorem eV:ao ["self","name","known","stands"] ["self","name"] (zH dj):=fsc
abbrev zBc(K:PySem.W.Frag)(C:Addr):Sp:=cQ K false (λa:(aF C)×Str×Unit=>([.z a.1,.z a.2.1]:SL K)) (λa=>yF a.1 a.2.1)
theorem zDr(F:aY K "marked" "Machine.marked" dj f fd)(B:Bl K mg)(T:Cl K mg C)(bN:mg "sorted" = none):aq P w K mg base aO (k+1) f fd ["self","name"] (zBc K C):=by
 refine yK F eV (λ_=>rfl) (λ_=>rfl) λcdv A outer s H E hr=>?_
 have nd:=eV.nd
 refine⟨_,(zB (xU aa4 rfl (yR K (Ig K (pv 0))) (JT rfl (yV (cP 2 nd) (yV (cP 3 nd) Dn))) (zB (yP (yB (Cz K Str hr) (pv 2) (pv 1) (yO _)) (zB (zP (zS (Za K) rfl bN Y8 (zA (pv 3) zF))) zG) zG) zG)) (zB (zP (wN zF)) zG)),?_⟩
 rintro Fa ⟨q0,q1,⟨⟩⟩
 exact SB.of (RQ (RW (n:=false) (L:=(λs1:Unit=>([.z q0,.z q1,.un,.un]:SL K))) () bQ (yS (zRj T.cl T.nM (yH 0 rfl))) (λs1=>(KJ 2 3 rfl rfl (λ_=>rfl) rfl)) (λs1 x3=>(RV (xX (md:=.hp) (CG (zI 2 rfl) (zI 1 rfl))) (zY (Zc (zD 3 rfl)).ex) (RT (λs1:Unit=>([.z q0,.z q1,.un,.un]:SL K)) () bQ)))) (λs2=>(zY (yw (α:=Int)).ex))) (by unfold yF;simp only[bnd])
def xK(q0:aF C)(q1:Int):Option LI:=(bx q0.fair q1).bind λa1=>Fe a1
theorem dZ:ao ["self","number"] ["self","number"] (zH cV):=fsc
abbrev zAy(K:PySem.W.Frag)(C:Addr):Sp:=cQ K false (λa:(aF C)×Int×Unit=>([.z a.1,.z a.2.1]:SL K)) (λa=>xK a.1 a.2.1)
theorem zCz(F:aY K "fair_at" "Machine.fair_at" cV f fd)(B:Bl K mg)(T:Cl K mg C)(bN:mg "sorted" = none):aq P w K mg base aO (k+1) f fd ["self","number"] (zAy K C):=by
 refine yK F dZ (λ_=>rfl) (λ_=>rfl) λcdv A outer s H E hr=>?_
 have nd:=dZ.nd
 refine⟨_,(zB (zP (zS (Za K) rfl bN Y8 (zA (yC (aU K) (Ig K (pv 0)) (pv 1) (λ_ _=>rfl)) zF))) zG),?_⟩
 rintro Fa ⟨q0,q1,⟨⟩⟩
 exact SB.of (zY (Zc (yW (zMi T.cl T.nF (zD 0 rfl)) (zI 1 rfl))).ex) (by unfold xK;simp only[bnd])
def yN(q0:aF C):Option LI:=(yX q0).bind λa1=>Fw a1
theorem jy:ao ["machine"] ["machine"] (zH fZ):=fsc
abbrev wW(K:PySem.W.Frag)(C:Addr):Sp:=cQ K false (λa:(aF C)×Unit=>([.z a.1]:SL K)) (λa=>yN a.1)
theorem zHl(F:aY K "everywhere" "everywhere" fZ f fd)(B:Bl K mg)(aM:fY P w K mg base k C "many" ["self"] (wQ K C)):aq P w K mg base aO (k+1) f fd ["machine"] (wW K C):=by
 refine yK F jy (λ_=>rfl) (λ_=>rfl) λcdv A outer s H E hr=>?_
 have nd:=jy.nd
 refine⟨_,(zB (zP (zL1 rfl rfl B.list rfl B.range (zA (Wc aM hr (pv 0)) zF))) zG),?_⟩
 rintro Fa ⟨q0,⟨⟩⟩
 exact SB.of (zY (zMm (E_ (by decide +kernel) (zD 0 rfl) zN)).ex) (by unfold yN;simp only[bnd])
def Qm(q0:aF C)(q1:LI):Option (List Bool):=(((yX q0).bind λa2=>vZ a2).bind λxs=>wP (λ(x3:Int)=>some true) (λ(x3:Int)=>some false) xs).bind λd_=>((some q1).bind λxs=>wH (λ(s4:List Bool) (x6:Int)=>(uz s4 x6 true).bind λBp=>some Bp) xs d_).bind λs5=>some s5
theorem q_:ao ["machine","stands","told","stand"] ["machine","stands"] (zH qm):=fsc
abbrev zLl(K:PySem.W.Frag)(C:Addr):Sp:=cQ K false (λa:(aF C)×LI×Unit=>([.z a.1,.z a.2.1]:SL K)) (λa=>Qm a.1 a.2.1)
theorem zTq(F:aY K "flags" "flags" qm f fd)(B:Bl K mg)(aM:fY P w K mg base k C "many" ["self"] (wQ K C)):aq P w K mg base aO (k+1) f fd ["machine","stands"] (zLl K C):=by
 refine yK F q_ (λ_=>rfl) (λ_=>rfl) λcdv A outer s H E hr=>?_
 have nd:=q_.nd
 refine⟨_,(zB (uK (i:=2) (own:=["stand"]) (ix:=[]) nd rfl rfl rfl rfl rfl (xY rfl B.range (zA (Wc aM hr (pv 0)) zF)) (λC s H fp=>yL (i:=0) (show(["stand"]:List Str).Nodup from by decide +kernel) rfl (Or.inl rfl)) (λC s H fp=>wT) (λC s H fp=>oW)) (zB (xU aa4 rfl (yR K (pv 1)) (cP 3 nd) (zB (OJ oW (QX (pv 2) (pv 3) O9)) zG)) (zB (zP (pv 2)) zG))),?_⟩
 rintro Fa ⟨q0,q1,⟨⟩⟩
 exact SB.of (zX (u_ true 2 rfl rfl (wC (n:=true) (iU:=[.un]) (no:=1) (ix:=[]) rfl rfl (vI (E_ (by decide +kernel) (zD 0 rfl) zN)) (yD 0 rfl rfl) (λx3=>za) (λx3=>(esc (oY false))) (λx3=>gR))) (λd_=>(zX (vK (n:=false) (L:=(λs4:List Bool=>([.z q0,.z q1,.ow true s4,.un]:SL K))) d_ bQ (yS (yH 1 rfl)) (λs4=>(yD 3 rfl rfl)) (λs4 x6=>(zT (V4 2 rfl rfl (esc (oY true)) (zI 3 rfl)) (λBp=>(yE (λs4:List Bool=>([.z q0,.z q1,.ow true s4,.un]:SL K)) Bp bQ))))) (λs5=>(Ej 2 rfl rfl))))) (by unfold Qm;simp only[bnd])
def uW(q0:LI)(q1:LI):Option LI:=Qa q0 q1
theorem nQ:ao ["one","other"] ["one","other"] (zH kO):=fsc
abbrev zFz(K:PySem.W.Frag):Sp:=cQ K false (λa:LI×LI×Unit=>([.z a.1,.z a.2.1]:SL K)) (λa=>uW a.1 a.2.1)
theorem zNz(F:aY K "without" "without" kO f fd)(B:Bl K mg)(bN:mg "sorted" = none)(mz:mg "set" = none):aq P w K mg base aO (k+1) f fd ["one","other"] (zFz K):=by
 refine yK F nQ (λ_=>rfl) (λ_=>rfl) λcdv A outer s H E hr=>?_
 have nd:=nQ.nd
 refine⟨_,(zB (zP (Wv rfl bN (FZ (Lw K rfl mz (pv 0)) (Lw K rfl mz (pv 1))))) zG),?_⟩
 rintro Fa ⟨q0,q1,⟨⟩⟩
 exact SB.of (zY (zOm (zD 0 rfl) (zD 1 rfl)).ex) (by unfold uW;simp only[bnd])
def xH(q0:aF C)(q1:LI):Option LI:=((yN q0).bind λa2=>some ((a2,(q1,())))).bind λz1=>uW z1.1 z1.2.1
theorem pO:ao ["machine","stands"] ["machine","stands"] (zH mY):=fsc
abbrev Uu(K:PySem.W.Frag)(C:Addr):Sp:=cQ K false (λa:(aF C)×LI×Unit=>([.z a.1,.z a.2.1]:SL K)) (λa=>xH a.1 a.2.1)
theorem zQf(F:aY K "others" "others" mY f fd)(B:Bl K mg)(aJ:bL P w K mg base k "everywhere" ["machine"] (wW K C))(dN:bL P w K mg base k "without" ["one","other"] (zFz K)):aq P w K mg base aO (k+1) f fd ["machine","stands"] (Uu K C):=by
 refine yK F pO (λ_=>rfl) (λ_=>rfl) λcdv A outer s H E hr=>?_
 have nd:=pO.nd
 refine⟨_,(zB (zP (zW dN hr (zA (zW aJ hr (zA (pv 0) zF)) (zA (pv 1) zF)))) zG),?_⟩
 rintro Fa ⟨q0,q1,⟨⟩⟩
 exact SB.of (zY (zL (zE (zL (zE (zD 0 rfl) zN)) (zE (zD 1 rfl) zN)))) (by unfold xH;simp only[bnd])
def vP(q0:LI)(q1:LI):Option LI:=Ga q0 q1
theorem lM:ao ["one","other"] ["one","other"] (zH jJ):=fsc
abbrev zDz(K:PySem.W.Frag):Sp:=cQ K false (λa:LI×LI×Unit=>([.z a.1,.z a.2.1]:SL K)) (λa=>vP a.1 a.2.1)
theorem zKr(F:aY K "together" "together" jJ f fd)(B:Bl K mg)(bN:mg "sorted" = none)(mz:mg "set" = none):aq P w K mg base aO (k+1) f fd ["one","other"] (zDz K):=by
 refine yK F lM (λ_=>rfl) (λ_=>rfl) λcdv A outer s H E hr=>?_
 have nd:=lM.nd
 refine⟨_,(zB (zP (Wv rfl bN (Ma (Lw K rfl mz (pv 0)) (Lw K rfl mz (pv 1))))) zG),?_⟩
 rintro Fa ⟨q0,q1,⟨⟩⟩
 exact SB.of (zY (zRn (zD 0 rfl) (zD 1 rfl)).ex) (by unfold vP;simp only[bnd])
def xO(q0:LI)(q1:LI):Option LI:=Wx q0 q1
theorem pP:ao ["one","other"] ["one","other"] (zH mZ):=fsc
abbrev Qn(K:PySem.W.Frag):Sp:=cQ K false (λa:LI×LI×Unit=>([.z a.1,.z a.2.1]:SL K)) (λa=>xO a.1 a.2.1)
theorem zQe(F:aY K "shared" "shared" mZ f fd)(B:Bl K mg)(bN:mg "sorted" = none)(mz:mg "set" = none):aq P w K mg base aO (k+1) f fd ["one","other"] (Qn K):=by
 refine yK F pP (λ_=>rfl) (λ_=>rfl) λcdv A outer s H E hr=>?_
 have nd:=pP.nd
 refine⟨_,(zB (zP (Wv rfl bN (Ft (Lw K rfl mz (pv 0)) (Lw K rfl mz (pv 1))))) zG),?_⟩
 rintro Fa ⟨q0,q1,⟨⟩⟩
 exact SB.of (zY (zOo (zD 0 rfl) (zD 1 rfl)).ex) (by unfold xO;simp only[bnd])
def uZ(q0:aF C)(q1:LI)(q2:LI):Option (List (Option Int)):=(Qm q0 q1).bind λbV=>(((yX q0).bind λa3=>vZ a3).bind λxs=>wP (λ(x4:Int)=>some true) (λ(x4:Int)=>some (none:Option Int)) xs).bind λBq=>((some q2).bind λxs=>wH (λ(s5:List (Option Int)) (x7:Int)=>(uz s5 x7 (some (0:Int))).bind λBr=>some Br) xs Bq).bind λs6=>(some q2).bind λNp=>(some (0:Int)).bind λqw=>(HY (λjt:(List (Option Int))×LI×Int=>some (decide (jt.2.2<(jt.2.1.length:Int)))) (λjt:(List (Option Int))×LI×Int=>(bx jt.2.1 jt.2.2).bind λgw=>((xV q0 gw).bind λxs=>wH (λ(qx:(List (Option Int))×LI) (Nq:Int)=>(((bx bV Nq).bind λc18=>if c18=true then(bx qx.1 Nq).bind λa17=>some a17.isNone else some false).bind λb=>if b=true then(((((bx qx.1 gw).bind λa22=>a22).bind λa23=>some (a23+(1:Int))).bind λa24=>some (some a24)).bind λa25=>uz qx.1 Nq a25).bind λgA=>(push qx.2 Nq).bind λBt=>some (gA,Bt) else some (qx.1,qx.2)).bind λwk=>some (wk.1,wk.2)) xs (jt.1,jt.2.1)).bind λUv=>(some (jt.2.2+(1:Int))).bind λqy=>some (Uv.1,Uv.2,qy)) fuel (s6,Np,qw)).bind λs12=>some s12.1
theorem j7:ao ["machine","through","goal","passable","told","stand","row","place","source"] ["machine","through","goal"] (zH iy):=fsc
abbrev zF4(K:PySem.W.Frag)(C:Addr):Sp:=cQ K false (λa:(aF C)×LI×LI×Unit=>([.z a.1,.z a.2.1,.z a.2.2.1]:SL K)) (λa=>uZ a.1 a.2.1 a.2.2.1)
theorem zI4(F:aY K "distances" "distances" iy f fd)(B:Bl K mg)(dw:fY P w K mg base k C "before" ["self","stand"] (zBd K C))(aM:fY P w K mg base k C "many" ["self"] (wQ K C))(iW:bL P w K mg base k "flags" ["machine","stands"] (zLl K C)):aq P w K mg base aO (k+1) f fd ["machine","through","goal"] (zF4 K C):=by
 refine yK F j7 (λ_=>rfl) (λ_=>rfl) λcdv A outer s H E hr=>?_
 have nd:=j7.nd
 refine⟨_,(zB (xB 3 nd (zW iW hr (zA (pv 0) (zA (pv 1) zF)))) (zB (uK (i:=4) (own:=["stand"]) (ix:=[]) nd rfl rfl rfl rfl rfl (xY rfl B.range (zA (Wc aM hr (pv 0)) zF)) (λC s H fp=>yL (i:=0) (show(["stand"]:List Str).Nodup from by decide +kernel) rfl (Or.inl rfl)) (λC s H fp=>wT) (λC s H fp=>Xw)) (zB (xU aa4 rfl (yR K (pv 2)) (cP 5 nd) (zB (OJ zJ (QX (pv 4) (pv 5) O9)) zG)) (zB (xB 6 nd (uV (K6 K) rfl B.list Ez (zA (pv 2) zF))) (zB (xB 7 nd zJ) (zB (zTi aa4 (yB Rh (pv 7) (zS (vN K) rfl B.len aa7 (zA (pv 6) zF)) (yO _)) (zB (xB 5 nd (yC (aU K) (pv 6) (pv 7) (λ_ _=>rfl))) (zB (xU aa4 rfl (yR K (Sv dw hr (pv 0) (zA (pv 5) zF))) (cP 8 nd) (zB (yP (PW.pt (pw_and (xT (yC (aU K) (pv 3) (pv 8) (λ_ _=>rfl))) (pw_and1 (Dj (QL (yC (aU K) (pv 4) (pv 8) (λ_ _=>rfl))))))) (zB (OJ (xW Vw (yC (aU K) (pv 4) (pv 5) (λ_ _=>rfl)) zJ) (QX (pv 4) (pv 8) O9)) (zB (yJ (Ay K aa8 abh abj wO (pv 6) (zA (pv 8) zF))) zG)) zG) zG)) (zB (zVf (i:=7) nd rfl (by first|exact .inl rfl|exact .inr rfl) zJ JX) zG)))) (zB (zP (pv 4)) zG))))))),?_⟩
 rintro Fa ⟨q0,q1,q2,⟨⟩⟩
 exact SB.of (zX (yM true 3 rfl rfl (zL (zE (zD 0 rfl) (zE (zD 1 rfl) zN)))) (λbV=>(zX (u_ true 4 rfl rfl (wC (n:=true) (iU:=[.un]) (no:=1) (ix:=[]) rfl rfl (vI (E_ (by decide +kernel) (zD 0 rfl) zN)) (yD 0 rfl rfl) (λx4=>za) (λx4=>(esc (YH (α:=Int)))) (λx4=>gR))) (λBq=>(zX (vK (n:=false) (L:=(λs5:List (Option Int)=>([.z q0,.z q1,.z q2,.y bV,.ow true s5,.un,.un,.un,.un]:SL K))) Bq bQ (yS (yH 2 rfl)) (λs5=>(yD 5 rfl rfl)) (λs5 x7=>(zT (V4 4 rfl rfl (esc (YG (zR 0))) (zI 5 rfl)) (λBr=>(yE (λs5:List (Option Int)=>([.z q0,.z q1,.z q2,.y bV,.ow true s5,.un,.un,.un,.un]:SL K)) Br bQ))))) (λs6=>(zX (u_ true 6 rfl rfl (K3 (zD 2 rfl))) (λNp=>(zX (yM true 7 rfl rfl (esc (zR 0))) (λqw=>(zX (zS2 (L:=(λjt:(List (Option Int))×LI×Int=>([.z q0,.z q1,.z q2,.y bV,.ow true jt.1,.un,.ow true jt.2.1,.y jt.2.2,.un]:SL K))) fuel (s6,Np,qw) bQ (λjt=>(xX (md:=.hp) (Ia (zI 7 rfl) (uD (Cu 6 rfl))))) (λjt=>(zT (yM true 5 rfl rfl (esc (esc (yW (Cu 6 rfl) (zI 7 rfl))))) (λgw=>(zT (vK (n:=true) (L:=(λqx:(List (Option Int))×LI=>([.z q0,.z q1,.z q2,.y bV,.ow true qx.1,.y gw,.ow true qx.2,.y jt.2.2,.un]:SL K))) (jt.1,jt.2.1) bQ (yS (E_ (by decide +kernel) (zD 0 rfl) (zE (esc (zI 5 rfl)) zN))) (λqx=>(yD 8 rfl rfl)) (λqx Nq=>(zT (su (zVt (cG (md:=.hp) (esc (yW (zD 3 rfl) (zI 8 rfl)))) (cG (md:=.hp) (R5 (esc (yW (Cu 4 rfl) (zI 8 rfl)))))) (zT (V4 4 rfl rfl (esc (YG (V9 (uE (esc (yW (Cu 4 rfl) (zI 5 rfl)))) (zR 1)))) (zI 8 rfl)) (λgA=>(zT (vY 6 rfl rfl (esc (zI 8 rfl))) (λBt=>(yE (λUw:(List (Option Int))×LI=>([.z q0,.z q1,.z q2,.y bV,.ow true Uw.1,.y gw,.ow true Uw.2,.y jt.2.2,.y Nq]:SL K)) (gA,Bt) bQ))))) (yE (λUw:(List (Option Int))×LI=>([.z q0,.z q1,.z q2,.y bV,.ow true Uw.1,.y gw,.ow true Uw.2,.y jt.2.2,.y Nq]:SL K)) (qx.1,qx.2) bQ)) (λwk=>(yE (λqx:(List (Option Int))×LI=>([.z q0,.z q1,.z q2,.y bV,.ow true qx.1,.y gw,.ow true qx.2,.y jt.2.2,.un]:SL K)) (wk.1,wk.2) bQ))))) (λUv=>(zT (zVa (s:=.un) 7 rfl (zR 1)) (λqy=>(yE (λjt:(List (Option Int))×LI×Int=>([.z q0,.z q1,.z q2,.y bV,.ow true jt.1,.un,.ow true jt.2.1,.y jt.2.2,.un]:SL K)) (Uv.1,Uv.2,qy) bQ))))))))) (λs12=>(Ej 4 rfl rfl))))))))))))) (by unfold uZ;simp only[bnd])
def xD(q0:aF C)(q1:LI)(q2:LI):Option LI:=(uZ q0 q1 q2).bind λJi=>(some (Av Ji)).bind λxs=>wP (λ(x2:Int×(Option Int))=>some x2.2.isSome) (λ(x2:Int×(Option Int))=>some x2.1) xs
theorem lN:ao ["machine","through","goal","away"] ["machine","through","goal"] (zH jK):=fsc
abbrev W6(K:PySem.W.Frag)(C:Addr):Sp:=cQ K false (λa:(aF C)×LI×LI×Unit=>([.z a.1,.z a.2.1,.z a.2.2.1]:SL K)) (λa=>xD a.1 a.2.1 a.2.2.1)
theorem zKv(F:aY K "comes_to" "comes_to" jK f fd)(B:Bl K mg)(iI:bL P w K mg base k "distances" ["machine","through","goal"] (zF4 K C)):aq P w K mg base aO (k+1) f fd ["machine","through","goal"] (W6 K C):=by
 refine yK F lN (λ_=>rfl) (λ_=>rfl) λcdv A outer s H E hr=>?_
 have nd:=lN.nd
 refine⟨_,(zB (xB 3 nd (zW iI hr (zA (pv 0) (zA (pv 1) (zA (pv 2) zF))))) (zB (zP (Cr (own:=["stand","steps"]) (ix:=[]) rfl rfl rfl (Y7 K B.enum (zA (pv 3) zF)) (λC s H fp=>YC (K:=K) (n:=2) rfl rfl (yV (yL (i:=0) (show(["stand","steps"]:List Str).Nodup from by decide +kernel) rfl (Or.inl rfl)) (yV (yL (i:=1) (show(["stand","steps"]:List Str).Nodup from by decide +kernel) rfl (Or.inl rfl)) Dn))) (λC s H fp=>Kw (Dj (Di (pv 1)))) (λC s H fp=>(pv 0)))) zG)),?_⟩
 rintro Fa ⟨q0,q1,q2,⟨⟩⟩
 exact SB.of (zX (yM true 3 rfl rfl (zL (zE (zD 0 rfl) (zE (zD 1 rfl) (zE (zD 2 rfl) zN))))) (λJi=>(zY (wC (n:=true) (iU:=[.un,.un]) (no:=2) (ix:=[]) rfl rfl (YT (yH 3 rfl)) (KJ 0 1 rfl rfl (λ_=>rfl) rfl) (λx2=>(cG (md:=.hp) (Er (zI 1 rfl)))) (λx2=>(esc (zI 0 rfl))) (λx2=>gR)).ex))) (by unfold xD;simp only[bnd])
def uA(q0:aF C)(q1:Int)(q2:List Bool):Option Bool:=((yY q0 q1).bind λxs=>wP (λ(x1:Int)=>some true) (λ(x1:Int)=>bx q2 x1) xs).bind λa2=>some (a2.any id)
theorem jA:ao ["machine","stand","hit"] ["machine","stand","hit"] (zH gj):=fsc
abbrev zD9(K:PySem.W.Frag)(C:Addr):Sp:=cQ K false (λa:(aF C)×Int×(List Bool)×Unit=>([.z a.1,.z a.2.1,.z a.2.2.1]:SL K)) (λa=>uA a.1 a.2.1 a.2.2.1)
theorem zHj(F:aY K "steps_into" "steps_into" gj f fd)(B:Bl K mg)(Nr:mg "any" = none)(aR:fY P w K mg base k C "next_of" ["self","stand"] (vW K C)):aq P w K mg base aO (k+1) f fd ["machine","stand","hit"] (zD9 K C):=by
 refine yK F jA (λ_=>rfl) (λ_=>rfl) λcdv A outer s H E hr=>?_
 have nd:=jA.nd
 refine⟨_,(zB (zP (zS (zR5 K rfl) rfl Nr K8 (zA (Cr (own:=["after"]) (ix:=[2]) rfl rfl rfl (yR K (Sv aR hr (pv 0) (zA (pv 1) zF))) (λC s H fp=>yL (i:=0) (show(["after","hit"]:List Str).Nodup from by decide +kernel) rfl (Or.inl rfl)) (λC s H fp=>wT) (λC s H fp=>(yC (aU K) (pv 1) (pv 0) (λ_ _=>rfl)))) zF))) zG),?_⟩
 rintro Fa ⟨q0,q1,q2,⟨⟩⟩
 exact SB.of (zY (esc (zMk (wC (n:=true) (iU:=[.un,.z q2]) (no:=1) (ix:=[2]) rfl rfl (yS (E_ (by decide +kernel) (zD 0 rfl) (zE (esc (zI 1 rfl)) zN))) (yD 0 rfl rfl) (λx1=>za) (λx1=>(esc (esc (yW (zD 1 rfl) (zI 0 rfl))))) (λx1=>gR)).ex))) (by unfold uA;simp only[bnd])
def vA(q0:aF C)(q1:LI)(q2:LI):Option LI:=(Qm q0 q2).bind λhit1=>(some q1).bind λxs=>wP (λ(x2:Int)=>uA q0 x2 hit1) (λ(x2:Int)=>some x2) xs
theorem iJ:ao ["machine","among","goal","hit"] ["machine","among","goal"] (zH fj):=fsc
abbrev zDg(K:PySem.W.Frag)(C:Addr):Sp:=cQ K false (λa:(aF C)×LI×LI×Unit=>([.z a.1,.z a.2.1,.z a.2.2.1]:SL K)) (λa=>vA a.1 a.2.1 a.2.2.1)
theorem zF7(F:aY K "stepping_to" "stepping_to" fj f fd)(B:Bl K mg)(iW:bL P w K mg base k "flags" ["machine","stands"] (zLl K C))(gB:bL P w K mg base k "steps_into" ["machine","stand","hit"] (zD9 K C)):aq P w K mg base aO (k+1) f fd ["machine","among","goal"] (zDg K C):=by
 refine yK F iJ (λ_=>rfl) (λ_=>rfl) λcdv A outer s H E hr=>?_
 have nd:=iJ.nd
 refine⟨_,(zB (xB 3 nd (zW iW hr (zA (pv 0) (zA (pv 2) zF)))) (zB (zP (Cr (own:=["stand"]) (ix:=[0,3]) rfl rfl rfl (yR K (pv 1)) (λC s H fp=>yL (i:=0) (show(["stand","machine","hit"]:List Str).Nodup from by decide +kernel) rfl (Or.inl rfl)) (λC s H fp=>Kw (xT (zW gB hr (zA (pv 1) (zA (pv 0) (zA (pv 2) zF)))))) (λC s H fp=>(pv 0)))) zG)),?_⟩
 rintro Fa ⟨q0,q1,q2,⟨⟩⟩
 exact SB.of (zX (yM true 3 rfl rfl (zL (zE (zD 0 rfl) (zE (zD 2 rfl) zN)))) (λhit1=>(zY (wC (n:=false) (iU:=[.un,.z q0,.y hit1]) (no:=1) (ix:=[0,3]) rfl rfl (yS (yH 1 rfl)) (yD 0 rfl rfl) (λx2=>(cG (md:=.hp) (zL (zE (zD 1 rfl) (zE (esc (zI 0 rfl)) (zE (zD 2 rfl) zN)))))) (λx2=>(esc (zI 0 rfl))) (λx2=>gR)).ex))) (by unfold vA;simp only[bnd])
def Qo(q0:LI):Option Int:=(some (0:Int)).bind λd_=>((some q0).bind λxs=>wH (λ(s2:Int) (x4:Int)=>((vf (1:Int) x4).bind λa6=>some (ac8 s2 a6)).bind λnU=>some nU) xs d_).bind λs3=>some s3
theorem nY:ao ["stands","told","stand"] ["stands"] (zH kW):=fsc
abbrev zJ4(K:PySem.W.Frag):Sp:=cQ K false (λa:LI×Unit=>([.z a.1]:SL K)) (λa=>Qo a.1)
theorem zN3(F:aY K "bits_of" "bits_of" kW f fd)(B:Bl K mg):aq P w K mg base aO (k+1) f fd ["stands"] (zJ4 K):=by
 refine yK F nY (λ_=>rfl) (λ_=>rfl) λcdv A outer s H E hr=>?_
 have nd:=nY.nd
 refine⟨_,(zB (xB 1 nd zJ) (zB (xU aa4 rfl (yR K (pv 0)) (cP 2 nd) (zB (zVf (i:=1) nd rfl (by first|exact .inl rfl|exact .inr rfl) (xW J6 zJ (pv 2)) IV) zG)) (zB (zP (pv 1)) zG))),?_⟩
 rintro Fa ⟨q0,⟨⟩⟩
 exact SB.of (zX (yM true 1 rfl rfl (esc (zR 0))) (λd_=>(zX (vK (n:=false) (L:=(λs2:Int=>([.z q0,.y s2,.un]:SL K))) d_ bQ (yS (yH 0 rfl)) (λs2=>(yD 2 rfl rfl)) (λs2 x4=>(zT (zVa (s:=.un) 1 rfl (Lz (zR 1) (zI 2 rfl))) (λnU=>(yE (λs2:Int=>([.z q0,.y s2,.un]:SL K)) nU bQ))))) (λs3=>(zY (esc (zI 1 rfl))))))) (by unfold Qo;simp only[bnd])
def vC(q0:aF C)(q1:LI):Option LI:=(Qo q1).bind λdG=>(((yX q0).bind λa3=>vZ a3).bind λxs=>wP (λ(x4:Int)=>some true) (λ(x4:Int)=>some (0:Int)) xs).bind λeE=>((some q1).bind λxs=>wH (λ(s5:LI) (x7:Int)=>(((((yY q0 x7).bind λa10=>some ((a10,()))).bind λz9=>Qo z9.1).bind λa11=>some (abf a11 dG)).bind λa12=>uz s5 x7 a12).bind λBu=>some Bu) xs eE).bind λs6=>((some q1).bind λxs=>wH (λ(Gx:LI) (Nt:Int)=>((some q1).bind λxs=>wH (λ(Bv:LI) (x18:Int)=>(((((bx Bv x18).bind λa19=>jG a19 Nt).bind λa20=>some (abf a20 (1:Int))).bind λa21=>some (a21 != 0)).bind λb=>if b=true then((bx Bv Nt).bind λb25=>Fx (λi j=>ac8 i j) Bv x18 b25).bind λsO=>some sO else some Bv).bind λBw=>some Bw) xs Gx).bind λs17=>some s17) xs s6).bind λqx=>some qx
theorem iK:ao ["machine","within","inside","rows","stand","middle"] ["machine","within"] (zH fu):=fsc
abbrev zDi(K:PySem.W.Frag)(C:Addr):Sp:=cQ K false (λa:(aF C)×LI×Unit=>([.z a.1,.z a.2.1]:SL K)) (λa=>vC a.1 a.2.1)
theorem zF8(F:aY K "onward_bits" "onward_bits" fu f fd)(B:Bl K mg)(aM:fY P w K mg base k C "many" ["self"] (wQ K C))(aR:fY P w K mg base k C "next_of" ["self","stand"] (vW K C))(iY:bL P w K mg base k "bits_of" ["stands"] (zJ4 K)):aq P w K mg base aO (k+1) f fd ["machine","within"] (zDi K C):=by
 refine yK F iK (λ_=>rfl) (λ_=>rfl) λcdv A outer s H E hr=>?_
 have nd:=iK.nd
 refine⟨_,(zB (xB 2 nd (zW iY hr (zA (pv 1) zF))) (zB (uK (i:=3) (own:=["stand"]) (ix:=[]) nd rfl rfl rfl rfl rfl (xY rfl B.range (zA (Wc aM hr (pv 0)) zF)) (λC s H fp=>yL (i:=0) (show(["stand"]:List Str).Nodup from by decide +kernel) rfl (Or.inl rfl)) (λC s H fp=>wT) (λC s H fp=>zJ)) (zB (xU aa4 rfl (yR K (pv 1)) (cP 4 nd) (zB (OJ (xW Rf (zW iY hr (zA (Sv aR hr (pv 0) (zA (pv 4) zF)) zF)) (pv 2)) (QX (pv 3) (pv 4) O9)) zG)) (zB (xU aa4 rfl (yR K (pv 1)) (cP 5 nd) (zB (xU aa4 rfl (yR K (pv 1)) (cP 4 nd) (zB (yP (Zy K (xW Rf (xW Vx (yC (aU K) (pv 3) (pv 4) (λ_ _=>rfl)) (pv 5)) zJ)) (zB (Dq (pv 3) (pv 4) (zRb K) (yC (aU K) (pv 3) (pv 5) (λ_ _=>rfl)) IV O9) zG) zG) zG)) zG)) (zB (zP (pv 3)) zG))))),?_⟩
 rintro Fa ⟨q0,q1,⟨⟩⟩
 exact SB.of (zX (yM true 2 rfl rfl (esc (zL (zE (zD 1 rfl) zN)))) (λdG=>(zX (u_ true 3 rfl rfl (wC (n:=true) (iU:=[.un]) (no:=1) (ix:=[]) rfl rfl (vI (E_ (by decide +kernel) (zD 0 rfl) zN)) (yD 0 rfl rfl) (λx4=>za) (λx4=>(esc (zR 0))) (λx4=>gR))) (λeE=>(zX (vK (n:=false) (L:=(λs5:LI=>([.z q0,.z q1,.y dG,.ow true s5,.un,.un]:SL K))) eE bQ (yS (yH 1 rfl)) (λs5=>(yD 4 rfl rfl)) (λs5 x7=>(zT (V4 3 rfl rfl (esc (Tz (zL (zE (E_ (by decide +kernel) (zD 0 rfl) (zE (esc (zI 4 rfl)) zN)) zN)) (zI 2 rfl))) (zI 4 rfl)) (λBu=>(yE (λs5:LI=>([.z q0,.z q1,.y dG,.ow true s5,.un,.un]:SL K)) Bu bQ))))) (λs6=>(zX (vK (n:=false) (L:=(λGx:LI=>([.z q0,.z q1,.y dG,.ow true Gx,.un,.un]:SL K))) s6 bQ (yS (yH 1 rfl)) (λGx=>(yD 5 rfl rfl)) (λGx Nt=>(zT (vK (n:=false) (L:=(λBv:LI=>([.z q0,.z q1,.y dG,.ow true Bv,.un,.z Nt]:SL K))) Gx bQ (yS (yH 1 rfl)) (λBv=>(yD 4 rfl rfl)) (λBv x18=>(zT (su (Zz (Tz (Wy (esc (yW (Cu 3 rfl) (zI 4 rfl))) (zI 5 rfl)) (zR 1))) (zT (zS4 3 rfl rfl (zI 4 rfl) (esc (yW (Cu 3 rfl) (zI 5 rfl)))) (λsO=>(yE (λNu:LI=>([.z q0,.z q1,.y dG,.ow true Nu,.z x18,.z Nt]:SL K)) sO bQ))) (yE (λNu:LI=>([.z q0,.z q1,.y dG,.ow true Nu,.z x18,.z Nt]:SL K)) Bv bQ)) (λBw=>(yE (λBv:LI=>([.z q0,.z q1,.y dG,.ow true Bv,.un,.z Nt]:SL K)) Bw bQ))))) (λs17=>(yE (λGx:LI=>([.z q0,.z q1,.y dG,.ow true Gx,.un,.un]:SL K)) s17 bQ))))) (λqx=>(Ej 3 rfl rfl))))))))) (by unfold vC;simp only[bnd])
def Ux(q0:aF C)(q1:LI):Option (List LI):=(PL q1).bind λdH=>(vC q0 dH).bind λeE=>(some (([]:List LI))).bind λBx=>(some ()).bind λUy=>((some dH).bind λxs=>wH (λ(s5:(List LI)×(List (Key×Bool))) (x7:Int)=>((if(!(jg (Dc.mk s5.2).kv x7).isSome)=true then(((bx eE x7).bind λa8=>jG a8 x7).bind λa9=>some (abf a9 (1:Int))).bind λa10=>some (a10 != 0) else some false).bind λb=>if b=true then((some dH).bind λxs=>wP (λ(Nv:Int)=>((((bx eE x7).bind λa15=>jG a15 Nv).bind λa17=>((bx eE Nv).bind λa16=>jG a16 x7).bind λb18=>some (abf a17 b18)).bind λa19=>some (abf a19 (1:Int))).bind λa20=>some (a20 != 0)) (λ(Nv:Int)=>some Nv) xs).bind λnZ=>(push s5.1 nZ).bind λgA=>((some nZ).bind λxs=>wH (λ(Bw:List (Key×Bool)) (x24:Int)=>(dput Bw x24 true).bind λsS=>some sS) xs s5.2).bind λNu=>some (gA,Nu) else some (s5.1,s5.2)).bind λjt=>some (jt.1,jt.2)) xs ((Bx,([]:List (Key×Bool))))).bind λs6=>some s6.1
theorem rC:ao ["machine","within","stands","rows","told","done","stand","ring","other"] ["machine","within"] (zH qp):=fsc
abbrev zSh(K:PySem.W.Frag)(C:Addr):Sp:=cQ K false (λa:(aF C)×LI×Unit=>([.z a.1,.z a.2.1]:SL K)) (λa=>Ux a.1 a.2.1)
theorem zTo(F:aY K "rings" "rings" qp f fd)(B:Bl K mg)(bN:mg "sorted" = none)(mz:mg "set" = none)(fK:bL P w K mg base k "onward_bits" ["machine","within"] (zDi K C)):aq P w K mg base aO (k+1) f fd ["machine","within"] (zSh K C):=by
 refine yK F rC (λ_=>rfl) (λ_=>rfl) λcdv A outer s H E hr=>?_
 have nd:=rC.nd
 have hu:=Ag hr
 refine⟨_,(zB (xB 2 nd (Wv rfl bN (Lw K rfl mz (pv 1)))) (zB (xB 3 nd (zW fK hr (zA (pv 0) (zA (pv 2) zF)))) (zB (xB 4 nd (wN zF)) (zB (xB 5 nd Yb) (zB (xU aa4 rfl (yR K (pv 2)) (cP 6 nd) (zB (yP (PW.pt (pw_and (Dj (zP6 hu (pv 6) (pv 5))) (pw_and1 (Zy K (xW Rf (xW Vx (yC (aU K) (pv 3) (pv 6) (λ_ _=>rfl)) (pv 6)) zJ))))) (zB (uK (i:=7) (own:=["other"]) (ix:=[3,6]) nd rfl rfl rfl rfl rfl (yR K (pv 2)) (λC s H fp=>yL (i:=0) (show(["other","rows","stand"]:List Str).Nodup from by decide +kernel) rfl (Or.inl rfl)) (λC s H fp=>Kw (Zy K (xW Rf (xW Rf (xW Vx (yC (aU K) (pv 1) (pv 2) (λ_ _=>rfl)) (pv 0)) (xW Vx (yC (aU K) (pv 1) (pv 0) (λ_ _=>rfl)) (pv 2))) zJ))) (λC s H fp=>(pv 0))) (zB (yJ (Ay K aa8 abh abj wO (pv 4) (zA (pv 7) zF))) (zB (xU aa4 rfl (yR K (pv 7)) (cP 8 nd) (zB (X_ hu (pv 5) (pv 8) oW rfl) zG)) zG))) zG) zG)) (zB (zP (pv 4)) zG)))))),?_⟩
 rintro Fa ⟨q0,q1,⟨⟩⟩
 exact SB.of (zX (yM true 2 rfl rfl (zOn (zD 1 rfl)).ex) (λdH=>(zX (yM true 3 rfl rfl (zL (zE (zD 0 rfl) (zE (zD 2 rfl) zN)))) (λeE=>(zX (u_ true 4 rfl rfl (yw (α:=LI))) (λBx=>(zX (YK (α:=Bool) 5 rfl rfl) (λUy=>(zX (vK (n:=true) (L:=(λs5:(List LI)×(List (Key×Bool))=>([.z q0,.z q1,.y dH,.y eE,.ow true s5.1,.od (s5.2:List (Key×Bool)),.un,.un,.un]:SL K))) ((Bx,([]:List (Key×Bool)))) bQ (yS (yH 2 rfl)) (λs5=>(yD 6 rfl rfl)) (λs5 x7=>(zT (su (zVt (cG (md:=.hp) (zRk (zI 6 rfl) (Zd 5 rfl))) (Zz (Tz (Wy (esc (yW (zD 3 rfl) (zI 6 rfl))) (zI 6 rfl)) (zR 1)))) (zT (yM true 7 rfl rfl (wC (n:=true) (iU:=[.un,.y eE,.y x7]) (no:=1) (ix:=[3,6]) rfl rfl (yS (yH 2 rfl)) (yD 0 rfl rfl) (λNv=>(Zz (Tz (Tz (Wy (esc (yW (zD 1 rfl) (zI 2 rfl))) (zI 0 rfl)) (Wy (esc (yW (zD 1 rfl) (zI 0 rfl))) (zI 2 rfl))) (zR 1)))) (λNv=>(esc (zI 0 rfl))) (λNv=>gR)).ex) (λnZ=>(zT (vY 4 rfl rfl (yH 7 rfl)) (λgA=>(zT (vK (n:=true) (L:=(λBw:List (Key×Bool)=>([.z q0,.z q1,.y dH,.y eE,.ow true gA,.od (Bw:List (Key×Bool)),.y x7,.y nZ,.un]:SL K))) s5.2 bQ (yS (yH 7 rfl)) (λBw=>(yD 8 rfl rfl)) (λBw x24=>(zT (zPj 5 rfl rfl (esc (oY true)) (zI 8 rfl)) (λsS=>(yE (λBw:List (Key×Bool)=>([.z q0,.z q1,.y dH,.y eE,.ow true gA,.od (Bw:List (Key×Bool)),.y x7,.y nZ,.un]:SL K)) sS bQ))))) (λNu=>(yE (λs12:(List LI)×(List (Key×Bool))=>([.z q0,.z q1,.y dH,.y eE,.ow true s12.1,.od (s12.2:List (Key×Bool)),.y x7,.un,.un]:SL K)) (gA,Nu) bQ))))))) (yE (λs12:(List LI)×(List (Key×Bool))=>([.z q0,.z q1,.y dH,.y eE,.ow true s12.1,.od (s12.2:List (Key×Bool)),.y x7,.un,.un]:SL K)) (s5.1,s5.2) bQ)) (λjt=>(yE (λs5:(List LI)×(List (Key×Bool))=>([.z q0,.z q1,.y dH,.y eE,.ow true s5.1,.od (s5.2:List (Key×Bool)),.un,.un,.un]:SL K)) (jt.1,jt.2) bQ))))) (λs6=>(Ej 4 rfl rfl))))))))))) (by unfold Ux;simp only[bnd])
def uX(q0:aF C)(q1:LI):Option (Option Int):=((vZ (q0.fair.length:Int)).bind λxs=>uC (λ(s1:Unit) (x3:Int)=>((((((xK q0 x3).bind λa5=>some ((a5,()))).bind λb6=>some (q1,b6)).bind λz4=>xO z4.1 z4.2.1).bind λa7=>some (a7.length:Int)).bind λa8=>some (decide (a8=(0:Int)))).bind λb=>if b=true then(some (some x3)).bind λb=>some (.rt b) else some (.nx ())) xs ()).bind λo=>o.els λs2=>some (none:Option Int)
theorem j8:ao ["machine","ring","number"] ["machine","ring"] (zH iz):=fsc
abbrev zF2(K:PySem.W.Frag)(C:Addr):Sp:=cQ K false (λa:(aF C)×LI×Unit=>([.z a.1,.z a.2.1]:SL K)) (λa=>uX a.1 a.2.1)
theorem zI2(F:aY K "missed_by" "missed_by" iz f fd)(B:Bl K mg)(T:Cl K mg C)(cW:fY P w K mg base k C "fair_at" ["self","number"] (zAy K C))(bw:bL P w K mg base k "shared" ["one","other"] (Qn K)):aq P w K mg base aO (k+1) f fd ["machine","ring"] (zF2 K C):=by
 refine yK F j8 (λ_=>rfl) (λ_=>rfl) λcdv A outer s H E hr=>?_
 have nd:=j8.nd
 refine⟨_,(zB (xU aa4 rfl (xY rfl B.range (zA (zS (vN K) rfl B.len aa7 (zA (Ig K (pv 0)) zF)) zF)) (cP 2 nd) (zB (yP (yB (Cz K Int hr) (zS (vN K) rfl B.len aa7 (zA (zW bw hr (zA (pv 1) (zA (Sv cW hr (pv 0) (zA (pv 2) zF)) zF))) zF)) zJ (yO _)) (zB (zP (pv 2)) zG) zG) zG)) (zB (zP Xw) zG)),?_⟩
 rintro Fa ⟨q0,q1,⟨⟩⟩
 exact SB.of (RQ (RW (n:=true) (L:=(λs1:Unit=>([.z q0,.z q1,.un]:SL K))) () bQ (vI (uD (zMi T.cl T.nF (zD 0 rfl)))) (λs1=>(yD 2 rfl rfl)) (λs1 x3=>(RV (xX (md:=.hp) (CG (uD (zL (zE (zD 1 rfl) (zE (E_ (by decide +kernel) (zD 0 rfl) (zE (esc (zI 2 rfl)) zN)) zN)))) (zR 0))) (zY (esc (YG (zI 2 rfl)))) (RT (λs1:Unit=>([.z q0,.z q1,.un]:SL K)) () bQ)))) (λs2=>(zY (esc (YH (α:=Int)))))) (by unfold uX;simp only[bnd])
def wV(q0:aF C)(q1:LI):Option (List LI):=(Ux q0 q1).bind λxs=>wP (λ(x1:LI)=>(uX q0 x1).bind λa2=>some a2.isNone) (λ(x1:LI)=>some x1) xs
theorem jB:ao ["machine","within"] ["machine","within"] (zH gk):=fsc
abbrev zEa(K:PySem.W.Frag)(C:Addr):Sp:=cQ K false (λa:(aF C)×LI×Unit=>([.z a.1,.z a.2.1]:SL K)) (λa=>wV a.1 a.2.1)
theorem zHk(F:aY K "fair_rings" "fair_rings" gk f fd)(B:Bl K mg)(iQ:bL P w K mg base k "missed_by" ["machine","ring"] (zF2 K C))(qz:bL P w K mg base k "rings" ["machine","within"] (zSh K C)):aq P w K mg base aO (k+1) f fd ["machine","within"] (zEa K C):=by
 refine yK F jB (λ_=>rfl) (λ_=>rfl) λcdv A outer s H E hr=>?_
 have nd:=jB.nd
 refine⟨_,(zB (zP (Cr (own:=["ring"]) (ix:=[0]) rfl rfl rfl (yR K (zW qz hr (zA (pv 0) (zA (pv 1) zF)))) (λC s H fp=>yL (i:=0) (show(["ring","machine"]:List Str).Nodup from by decide +kernel) rfl (Or.inl rfl)) (λC s H fp=>Kw (Dj (QL (zW iQ hr (zA (pv 1) (zA (pv 0) zF)))))) (λC s H fp=>(pv 0)))) zG),?_⟩
 rintro Fa ⟨q0,q1,⟨⟩⟩
 exact SB.of (zY (wC (n:=true) (iU:=[.un,.z q0]) (no:=1) (ix:=[0]) rfl rfl (yS (zL (zE (zD 0 rfl) (zE (zD 1 rfl) zN)))) (yD 0 rfl rfl) (λx1=>(cG (md:=.hp) (R5 (zL (zE (zD 1 rfl) (zE (zD 0 rfl) zN)))))) (λx1=>(yH 0 rfl)) (λx1=>gR)).ex) (by unfold wV;simp only[bnd])
def Nx(q0:List LI):Option LI:=(some ([]:LI)).bind λd_=>((some q0).bind λxs=>wH (λ(s2:LI) (x4:LI)=>(Ba s2 x4).bind λnU=>some nU) xs d_).bind λs3=>some s3
theorem pQ:ao ["lists","told","things"] ["lists"] (zH m5):=fsc
abbrev zM3(K:PySem.W.Frag):Sp:=cQ K false (λa:((List LI))×Unit=>([.z a.1]:SL K)) (λa=>Nx a.1)
theorem zQl(F:aY K "joined" "joined" m5 f fd)(B:Bl K mg):aq P w K mg base aO (k+1) f fd ["lists"] (zM3 K):=by
 refine yK F pQ (λ_=>rfl) (λ_=>rfl) λcdv A outer s H E hr=>?_
 have nd:=pQ.nd
 refine⟨_,(zB (xB 1 nd (wN zF)) (zB (xU aa4 rfl (yR K (pv 0)) (cP 2 nd) (zB (yJ (Ay K aa8 PySem.F.slot_list_extend PySem.F.type_list_extend zI7 (pv 1) (zA (pv 2) zF))) zG)) (zB (zP (pv 1)) zG))),?_⟩
 rintro Fa ⟨q0,⟨⟩⟩
 exact SB.of (zX (u_ true 1 rfl rfl (yw (α:=Int))) (λd_=>(zX (vK (n:=false) (L:=(λs2:LI=>([.z q0,.ow true s2,.un]:SL K))) d_ bQ (yS (yH 0 rfl)) (λs2=>(yD 2 rfl rfl)) (λs2 x4=>(zT (zPi 1 rfl rfl (zD 2 rfl)) (λnU=>(yE (λs2:LI=>([.z q0,.ow true s2,.un]:SL K)) nU bQ))))) (λs3=>(Ej 1 rfl rfl))))) (by unfold Nx;simp only[bnd])
def CW(q0:aF C)(q1:LI):Option LI:=((((((wV q0 q1).bind λa2=>some ((a2,()))).bind λz1=>Nx z1.1).bind λa4=>some ((a4,()))).bind λb5=>some (q1,b5)).bind λb6=>some (q0,b6)).bind λz3=>xD z3.1 z3.2.1 z3.2.2.1
theorem t_:ao ["machine","within"] ["machine","within"] (zH sI):=fsc
abbrev W7(K:PySem.W.Frag)(C:Addr):Sp:=cQ K false (λa:(aF C)×LI×Unit=>([.z a.1,.z a.2.1]:SL K)) (λa=>CW a.1 a.2.1)
theorem Gy(F:aY K "core" "core" sI f fd)(B:Bl K mg)(bO:bL P w K mg base k "comes_to" ["machine","through","goal"] (W6 K C))(gD:bL P w K mg base k "fair_rings" ["machine","within"] (zEa K C))(n8:bL P w K mg base k "joined" ["lists"] (zM3 K)):aq P w K mg base aO (k+1) f fd ["machine","within"] (W7 K C):=by
 refine yK F t_ (λ_=>rfl) (λ_=>rfl) λcdv A outer s H E hr=>?_
 have nd:=t_.nd
 refine⟨_,(zB (zP (zW bO hr (zA (pv 0) (zA (pv 1) (zA (zW n8 hr (zA (zW gD hr (zA (pv 0) (zA (pv 1) zF))) zF)) zF))))) zG),?_⟩
 rintro Fa ⟨q0,q1,⟨⟩⟩
 exact SB.of (zY (zL (zE (zD 0 rfl) (zE (zD 1 rfl) (zE (zL (zE (zL (zE (zD 0 rfl) (zE (zD 1 rfl) zN))) zN)) zN))))) (by unfold CW;simp only[bnd])
def Jj(q0:aF C):Option LI:=(((yN q0).bind λa2=>some ((a2,()))).bind λb3=>some (q0,b3)).bind λz1=>CW z1.1 z1.2.1
theorem rD:ao ["machine"] ["machine"] (zH s_alive):=fsc
abbrev zLm(K:PySem.W.Frag)(C:Addr):Sp:=cQ K false (λa:(aF C)×Unit=>([.z a.1]:SL K)) (λa=>Jj a.1)
theorem zTr(F:aY K "alive" "alive" s_alive f fd)(B:Bl K mg)(gF:bL P w K mg base k "core" ["machine","within"] (W7 K C))(aJ:bL P w K mg base k "everywhere" ["machine"] (wW K C)):aq P w K mg base aO (k+1) f fd ["machine"] (zLm K C):=by
 refine yK F rD (λ_=>rfl) (λ_=>rfl) λcdv A outer s H E hr=>?_
 have nd:=rD.nd
 refine⟨_,(zB (zP (zW gF hr (zA (pv 0) (zA (zW aJ hr (zA (pv 0) zF)) zF)))) zG),?_⟩
 rintro Fa ⟨q0,⟨⟩⟩
 exact SB.of (zY (zL (zE (zD 0 rfl) (zE (zL (zE (zD 0 rfl) zN)) zN)))) (by unfold Jj;simp only[bnd])
def xZ(q0:aF C)(q1:LI)(q2:LI):Option LI:=(((yN q0).bind λa3=>((xO q1 q2).bind λa2=>some ((a2,()))).bind λb4=>some (a3,b4)).bind λb5=>some (q0,b5)).bind λz1=>vA z1.1 z1.2.1 z1.2.2.1
theorem j9:ao ["machine","living","part"] ["machine","living","part"] (zH iB):=fsc
abbrev zF1(K:PySem.W.Frag)(C:Addr):Sp:=cQ K false (λa:(aF C)×LI×LI×Unit=>([.z a.1,.z a.2.1,.z a.2.2.1]:SL K)) (λa=>xZ a.1 a.2.1 a.2.2.1)
theorem zI1(F:aY K "some_next" "some_next" iB f fd)(B:Bl K mg)(aJ:bL P w K mg base k "everywhere" ["machine"] (wW K C))(bw:bL P w K mg base k "shared" ["one","other"] (Qn K))(fL:bL P w K mg base k "stepping_to" ["machine","among","goal"] (zDg K C)):aq P w K mg base aO (k+1) f fd ["machine","living","part"] (zF1 K C):=by
 refine yK F j9 (λ_=>rfl) (λ_=>rfl) λcdv A outer s H E hr=>?_
 have nd:=j9.nd
 refine⟨_,(zB (zP (zW fL hr (zA (pv 0) (zA (zW aJ hr (zA (pv 0) zF)) (zA (zW bw hr (zA (pv 1) (zA (pv 2) zF))) zF))))) zG),?_⟩
 rintro Fa ⟨q0,q1,q2,⟨⟩⟩
 exact SB.of (zY (zL (zE (zD 0 rfl) (zE (zL (zE (zD 0 rfl) zN)) (zE (zL (zE (zD 1 rfl) (zE (zD 2 rfl) zN))) zN))))) (by unfold xZ;simp only[bnd])
def xI(q0:aF C)(q1:LI)(q2:LI)(q3:LI):Option LI:=((((xO q1 q3).bind λa2=>some ((a2,()))).bind λb3=>some (q2,b3)).bind λb4=>some (q0,b4)).bind λz1=>xD z1.1 z1.2.1 z1.2.2.1
theorem j_:ao ["machine","living","left","right"] ["machine","living","left","right"] (zH iC):=fsc
abbrev zF0(K:PySem.W.Frag)(C:Addr):Sp:=cQ K false (λa:(aF C)×LI×LI×LI×Unit=>([.z a.1,.z a.2.1,.z a.2.2.1,.z a.2.2.2.1]:SL K)) (λa=>xI a.1 a.2.1 a.2.2.1 a.2.2.2.1)
theorem zI0(F:aY K "some_till" "some_till" iC f fd)(B:Bl K mg)(bO:bL P w K mg base k "comes_to" ["machine","through","goal"] (W6 K C))(bw:bL P w K mg base k "shared" ["one","other"] (Qn K)):aq P w K mg base aO (k+1) f fd ["machine","living","left","right"] (zF0 K C):=by
 refine yK F j_ (λ_=>rfl) (λ_=>rfl) λcdv A outer s H E hr=>?_
 have nd:=j_.nd
 refine⟨_,(zB (zP (zW bO hr (zA (pv 0) (zA (pv 2) (zA (zW bw hr (zA (pv 1) (zA (pv 3) zF))) zF))))) zG),?_⟩
 rintro Fa ⟨q0,q1,q2,q3,⟨⟩⟩
 exact SB.of (zY (zL (zE (zD 0 rfl) (zE (zD 2 rfl) (zE (zL (zE (zD 1 rfl) (zE (zD 3 rfl) zN))) zN))))) (by unfold xI;simp only[bnd])
def Uz(q0:aF C)(q1:LI)(q2:LI)(q3:LI):Option LI:=(((((xH q0 q3).bind λa2=>some ((a2,()))).bind λb3=>some (q1,b3)).bind λz1=>xO z1.1 z1.2.1).bind λa5=>some ((a5,(q2,())))).bind λz4=>uW z4.1 z4.2.1
theorem lO:ao ["machine","living","left","right"] ["machine","living","left","right"] (zH jL):=fsc
abbrev zGx(K:PySem.W.Frag)(C:Addr):Sp:=cQ K false (λa:(aF C)×LI×LI×LI×Unit=>([.z a.1,.z a.2.1,.z a.2.2.1,.z a.2.2.2.1]:SL K)) (λa=>Uz a.1 a.2.1 a.2.2.1 a.2.2.2.1)
theorem zKs(F:aY K "spoilers" "spoilers" jL f fd)(B:Bl K mg)(aV:bL P w K mg base k "others" ["machine","stands"] (Uu K C))(bw:bL P w K mg base k "shared" ["one","other"] (Qn K))(dN:bL P w K mg base k "without" ["one","other"] (zFz K)):aq P w K mg base aO (k+1) f fd ["machine","living","left","right"] (zGx K C):=by
 refine yK F lO (λ_=>rfl) (λ_=>rfl) λcdv A outer s H E hr=>?_
 have nd:=lO.nd
 refine⟨_,(zB (zP (zW dN hr (zA (zW bw hr (zA (pv 1) (zA (zW aV hr (zA (pv 0) (zA (pv 3) zF))) zF))) (zA (pv 2) zF)))) zG),?_⟩
 rintro Fa ⟨q0,q1,q2,q3,⟨⟩⟩
 exact SB.of (zY (zL (zE (zL (zE (zD 1 rfl) (zE (zL (zE (zD 0 rfl) (zE (zD 3 rfl) zN))) zN))) (zE (zD 2 rfl) zN)))) (by unfold Uz;simp only[bnd])
def wA(q0:aF C)(q1:LI)(q2:LI)(q3:LI):Option LI:=(xH q0 q3).bind λn_=>(((((Uz q0 q1 q2 q3).bind λa4=>some ((a4,()))).bind λb5=>some (n_,b5)).bind λb6=>some (q0,b6)).bind λz3=>xD z3.1 z3.2.1 z3.2.2.1).bind λuc=>((((((CW q0 n_).bind λa8=>some ((a8,()))).bind λb9=>some (uc,b9)).bind λz7=>vP z7.1 z7.2.1).bind λa11=>some ((a11,()))).bind λb12=>some (q0,b12)).bind λUG=>xH UG.1 UG.2.1
theorem kh:ao ["machine","living","left","right","waiting","broken"] ["machine","living","left","right"] (zH iD):=fsc
abbrev zF3(K:PySem.W.Frag)(C:Addr):Sp:=cQ K false (λa:(aF C)×LI×LI×LI×Unit=>([.z a.1,.z a.2.1,.z a.2.2.1,.z a.2.2.2.1]:SL K)) (λa=>wA a.1 a.2.1 a.2.2.1 a.2.2.2.1)
theorem zI3(F:aY K "each_till" "each_till" iD f fd)(B:Bl K mg)(bO:bL P w K mg base k "comes_to" ["machine","through","goal"] (W6 K C))(gF:bL P w K mg base k "core" ["machine","within"] (W7 K C))(aV:bL P w K mg base k "others" ["machine","stands"] (Uu K C))(jP:bL P w K mg base k "spoilers" ["machine","living","left","right"] (zGx K C))(dz:bL P w K mg base k "together" ["one","other"] (zDz K)):aq P w K mg base aO (k+1) f fd ["machine","living","left","right"] (zF3 K C):=by
 refine yK F kh (λ_=>rfl) (λ_=>rfl) λcdv A outer s H E hr=>?_
 have nd:=kh.nd
 refine⟨_,(zB (xB 4 nd (zW aV hr (zA (pv 0) (zA (pv 3) zF)))) (zB (xB 5 nd (zW bO hr (zA (pv 0) (zA (pv 4) (zA (zW jP hr (zA (pv 0) (zA (pv 1) (zA (pv 2) (zA (pv 3) zF))))) zF))))) (zB (zP (zW aV hr (zA (pv 0) (zA (zW dz hr (zA (pv 5) (zA (zW gF hr (zA (pv 0) (zA (pv 4) zF))) zF))) zF)))) zG))),?_⟩
 rintro Fa ⟨q0,q1,q2,q3,⟨⟩⟩
 exact SB.of (zX (yM true 4 rfl rfl (zL (zE (zD 0 rfl) (zE (zD 3 rfl) zN)))) (λn_=>(zX (yM true 5 rfl rfl (zL (zE (zD 0 rfl) (zE (zD 4 rfl) (zE (zL (zE (zD 0 rfl) (zE (zD 1 rfl) (zE (zD 2 rfl) (zE (zD 3 rfl) zN))))) zN))))) (λuc=>(zY (zL (zE (zD 0 rfl) (zE (zL (zE (zD 5 rfl) (zE (zL (zE (zD 0 rfl) (zE (zD 4 rfl) zN))) zN))) zN)))))))) (by unfold wA;simp only[bnd])
def zU(q0:aF C)(q1:LI)(q2:cR cl)(q3:List LI):Option LI:=if(jH (.one 1) q2.t)=true then((((bx q3 (0:Int)).bind λa2=>some ((a2,()))).bind λb3=>some (q1,b3)).bind λb4=>some (q0,b4)).bind λz1=>xZ z1.1 z1.2.1 z1.2.2.1 else if(jH (.one 2) q2.t)=true then((((((((((bx q3 (0:Int)).bind λa6=>some ((a6,()))).bind λb7=>some (q0,b7)).bind λz5=>xH z5.1 z5.2.1).bind λa9=>some ((a9,()))).bind λb10=>some (q1,b10)).bind λb11=>some (q0,b11)).bind λz8=>xZ z8.1 z8.2.1 z8.2.2.1).bind λa13=>some ((a13,()))).bind λNm=>some (q0,Nm)).bind λz12=>xH z12.1 z12.2.1 else if(jH (.two 2) q2.t)=true then((((bx q3 (0:Int)).bind λa17=>((bx q3 (1:Int)).bind λa16=>some ((a16,()))).bind λb18=>some (a17,b18)).bind λb19=>some (q1,b19)).bind λb20=>some (q0,b20)).bind λW8=>xI W8.1 W8.2.1 W8.2.2.1 W8.2.2.2.1 else if(jH (.two 3) q2.t)=true then((((bx q3 (0:Int)).bind λa23=>((bx q3 (1:Int)).bind λa22=>some ((a22,()))).bind λUJ=>some (a23,UJ)).bind λb25=>some (q1,b25)).bind λb26=>some (q0,b26)).bind λW9=>wA W9.1 W9.2.1 W9.2.2.1 W9.2.2.2.1 else if(jH (.one 3) q2.t)=true then(((bx q3 (0:Int)).bind λa28=>some ((a28,()))).bind λb29=>some (q0,b29)).bind λz27=>CW z27.1 z27.2.1 else if(jH (.one 4) q2.t)=true then(((((((yN q0).bind λa35=>(((((bx q3 (0:Int)).bind λa31=>some ((a31,()))).bind λb32=>some (q0,b32)).bind λz30=>xH z30.1 z30.2.1).bind λa34=>some ((a34,()))).bind λb36=>some (a35,b36)).bind λb37=>some (q1,b37)).bind λb38=>some (q0,b38)).bind λW_=>xI W_.1 W_.2.1 W_.2.2.1 W_.2.2.2.1).bind λa40=>some ((a40,()))).bind λb41=>some (q0,b41)).bind λGz=>xH Gz.1 Gz.2.1 else if(jH (.one 5) q2.t)=true then((((yN q0).bind λa44=>((bx q3 (0:Int)).bind λa43=>some ((a43,()))).bind λb45=>some (a44,b45)).bind λb46=>some (q1,b46)).bind λb47=>some (q0,b47)).bind λXa=>xI Xa.1 Xa.2.1 Xa.2.2.1 Xa.2.2.2.1 else((((yN q0).bind λa50=>((bx q3 (0:Int)).bind λa49=>some ((a49,()))).bind λb51=>some (a50,b51)).bind λb52=>some (q1,b52)).bind λb53=>some (q0,b53)).bind λXb=>wA Xb.1 Xb.2.1 Xb.2.2.1 Xb.2.2.2.1
theorem cZ:ao ["machine","living","saying","sets"] ["machine","living","saying","sets"] (zH cg):=fsc
abbrev uM(K:PySem.W.Frag)(C:Addr)(cl:Hd->Addr):Sp:=cQ K false (λa:(aF C)×LI×(cR cl)×((List LI))×Unit=>([.z a.1,.z a.2.1,.z a.2.2.1,.z a.2.2.2.1]:SL K)) (λa=>zU a.1 a.2.1 a.2.2.1 a.2.2.2.1)
theorem zBl(F:aY K "meaning_over_walks" "meaning_over_walks" cg f fd)(B:Bl K mg)(I:ql P w K mg base kS cl fi di)(gF:bL P w K mg base k "core" ["machine","within"] (W7 K C))(eX:bL P w K mg base k "each_till" ["machine","living","left","right"] (zF3 K C))(aJ:bL P w K mg base k "everywhere" ["machine"] (wW K C))(aV:bL P w K mg base k "others" ["machine","stands"] (Uu K C))(eY:bL P w K mg base k "some_next" ["machine","living","part"] (zF1 K C))(dI:bL P w K mg base k "some_till" ["machine","living","left","right"] (zF0 K C)):aq P w K mg base aO (k+1) f fd ["machine","living","saying","sets"] (uM K C cl):=by
 refine yK F cZ (λ_=>rfl) (λ_=>rfl) λcdv A outer s H E hr=>?_
 have nd:=cZ.nd
 refine⟨_,(zB (yP (xT (zS (uH K (uJ (a:=cl (.one 1)))) rfl B.qe uI (zA (pv 2) (zA (wK (v:=.ref (cl (.one 1))) rfl (I.ini.m1 1) rfl) zF)))) (zB (zP (zW eY hr (zA (pv 0) (zA (pv 1) (zA (yC (aU K) (pv 3) zJ (λ_ _=>rfl)) zF))))) zG) zG) (zB (yP (xT (zS (uH K (uJ (a:=cl (.one 2)))) rfl B.qe uI (zA (pv 2) (zA (wK (v:=.ref (cl (.one 2))) rfl (I.ini.m1 2) rfl) zF)))) (zB (zP (zW aV hr (zA (pv 0) (zA (zW eY hr (zA (pv 0) (zA (pv 1) (zA (zW aV hr (zA (pv 0) (zA (yC (aU K) (pv 3) zJ (λ_ _=>rfl)) zF))) zF)))) zF)))) zG) zG) (zB (yP (xT (zS (uH K (uJ (a:=cl (.two 2)))) rfl B.qe uI (zA (pv 2) (zA (wK (v:=.ref (cl (.two 2))) rfl (I.ini.m2 2) rfl) zF)))) (zB (zP (zW dI hr (zA (pv 0) (zA (pv 1) (zA (yC (aU K) (pv 3) zJ (λ_ _=>rfl)) (zA (yC (aU K) (pv 3) zJ (λ_ _=>rfl)) zF)))))) zG) zG) (zB (yP (xT (zS (uH K (uJ (a:=cl (.two 3)))) rfl B.qe uI (zA (pv 2) (zA (wK (v:=.ref (cl (.two 3))) rfl (I.ini.m2 3) rfl) zF)))) (zB (zP (zW eX hr (zA (pv 0) (zA (pv 1) (zA (yC (aU K) (pv 3) zJ (λ_ _=>rfl)) (zA (yC (aU K) (pv 3) zJ (λ_ _=>rfl)) zF)))))) zG) zG) (zB (yP (xT (zS (uH K (uJ (a:=cl (.one 3)))) rfl B.qe uI (zA (pv 2) (zA (wK (v:=.ref (cl (.one 3))) rfl (I.ini.m1 3) rfl) zF)))) (zB (zP (zW gF hr (zA (pv 0) (zA (yC (aU K) (pv 3) zJ (λ_ _=>rfl)) zF)))) zG) zG) (zB (yP (xT (zS (uH K (uJ (a:=cl (.one 4)))) rfl B.qe uI (zA (pv 2) (zA (wK (v:=.ref (cl (.one 4))) rfl (I.ini.m1 4) rfl) zF)))) (zB (zP (zW aV hr (zA (pv 0) (zA (zW dI hr (zA (pv 0) (zA (pv 1) (zA (zW aJ hr (zA (pv 0) zF)) (zA (zW aV hr (zA (pv 0) (zA (yC (aU K) (pv 3) zJ (λ_ _=>rfl)) zF))) zF))))) zF)))) zG) zG) (zB (yP (xT (zS (uH K (uJ (a:=cl (.one 5)))) rfl B.qe uI (zA (pv 2) (zA (wK (v:=.ref (cl (.one 5))) rfl (I.ini.m1 5) rfl) zF)))) (zB (zP (zW dI hr (zA (pv 0) (zA (pv 1) (zA (zW aJ hr (zA (pv 0) zF)) (zA (yC (aU K) (pv 3) zJ (λ_ _=>rfl)) zF)))))) zG) zG) (zB (zP (zW eX hr (zA (pv 0) (zA (pv 1) (zA (zW aJ hr (zA (pv 0) zF)) (zA (yC (aU K) (pv 3) zJ (λ_ _=>rfl)) zF)))))) zG)))))))),?_⟩
 rintro Fa ⟨q0,q1,q2,q3,⟨⟩⟩
 exact SB.of (vL (cG (md:=.hp) (wS I (.one 1) (zD 2 rfl))) (zY (zL (zE (zD 0 rfl) (zE (zD 1 rfl) (zE (yW (zD 3 rfl) (zR 0)) zN))))) (vL (cG (md:=.hp) (wS I (.one 2) (zD 2 rfl))) (zY (zL (zE (zD 0 rfl) (zE (zL (zE (zD 0 rfl) (zE (zD 1 rfl) (zE (zL (zE (zD 0 rfl) (zE (yW (zD 3 rfl) (zR 0)) zN))) zN)))) zN)))) (vL (cG (md:=.hp) (wS I (.two 2) (zD 2 rfl))) (zY (zL (zE (zD 0 rfl) (zE (zD 1 rfl) (zE (yW (zD 3 rfl) (zR 0)) (zE (yW (zD 3 rfl) (zR 1)) zN)))))) (vL (cG (md:=.hp) (wS I (.two 3) (zD 2 rfl))) (zY (zL (zE (zD 0 rfl) (zE (zD 1 rfl) (zE (yW (zD 3 rfl) (zR 0)) (zE (yW (zD 3 rfl) (zR 1)) zN)))))) (vL (cG (md:=.hp) (wS I (.one 3) (zD 2 rfl))) (zY (zL (zE (zD 0 rfl) (zE (yW (zD 3 rfl) (zR 0)) zN)))) (vL (cG (md:=.hp) (wS I (.one 4) (zD 2 rfl))) (zY (zL (zE (zD 0 rfl) (zE (zL (zE (zD 0 rfl) (zE (zD 1 rfl) (zE (zL (zE (zD 0 rfl) zN)) (zE (zL (zE (zD 0 rfl) (zE (yW (zD 3 rfl) (zR 0)) zN))) zN))))) zN)))) (vL (cG (md:=.hp) (wS I (.one 5) (zD 2 rfl))) (zY (zL (zE (zD 0 rfl) (zE (zD 1 rfl) (zE (zL (zE (zD 0 rfl) zN)) (zE (yW (zD 3 rfl) (zR 0)) zN)))))) (zY (zL (zE (zD 0 rfl) (zE (zD 1 rfl) (zE (zL (zE (zD 0 rfl) zN)) (zE (yW (zD 3 rfl) (zR 0)) zN))))))))))))) (by unfold zU;simp only[bnd])
def vD(q0:aF C)(q1:LI)(q2:cR cl)(q3:List LI):Option LI:=if(jH .all q2.t)=true then yN q0 else if(jH .mark q2.t)=true then(q2.name.bind λa2=>some ((a2,()))).bind λz1=>yF q0 z1.1 else if(jH (.one 0) q2.t)=true then(((bx q3 (0:Int)).bind λa4=>some ((a4,()))).bind λb5=>some (q0,b5)).bind λz3=>xH z3.1 z3.2.1 else if(jH (.two 0) q2.t)=true then((bx q3 (0:Int)).bind λa8=>((bx q3 (1:Int)).bind λa7=>some ((a7,()))).bind λb9=>some (a8,b9)).bind λz6=>xO z6.1 z6.2.1 else if(jH (.two 1) q2.t)=true then((bx q3 (0:Int)).bind λa12=>((bx q3 (1:Int)).bind λa11=>some ((a11,()))).bind λb13=>some (a12,b13)).bind λUG=>vP UG.1 UG.2.1 else zU q0 q1 q2 q3
theorem oh:ao ["machine","living","saying","sets"] ["machine","living","saying","sets"] (zH lg):=fsc
abbrev zJz(K:PySem.W.Frag)(C:Addr)(cl:Hd->Addr):Sp:=cQ K false (λa:(aF C)×LI×(cR cl)×((List LI))×Unit=>([.z a.1,.z a.2.1,.z a.2.2.1,.z a.2.2.2.1]:SL K)) (λa=>vD a.1 a.2.1 a.2.2.1 a.2.2.2.1)
theorem zN0(F:aY K "meaning" "meaning" lg f fd)(B:Bl K mg)(I:ql P w K mg base kS cl fi di)(dF:fY P w K mg base k C "marked" ["self","name"] (zBc K C))(aJ:bL P w K mg base k "everywhere" ["machine"] (wW K C))(cu:bL P w K mg base k "meaning_over_walks" ["machine","living","saying","sets"] (uM K C cl))(aV:bL P w K mg base k "others" ["machine","stands"] (Uu K C))(bw:bL P w K mg base k "shared" ["one","other"] (Qn K))(dz:bL P w K mg base k "together" ["one","other"] (zDz K)):aq P w K mg base aO (k+1) f fd ["machine","living","saying","sets"] (zJz K C cl):=by
 refine yK F oh (λ_=>rfl) (λ_=>rfl) λcdv A outer s H E hr=>?_
 have nd:=oh.nd
 refine⟨_,(zB (yP (xT (zS (uH K (uJ (a:=cl .all))) rfl B.qe uI (zA (pv 2) (zA (wK (v:=.ref (cl .all)) rfl I.ini.mA rfl) zF)))) (zB (zP (zW aJ hr (zA (pv 0) zF))) zG) zG) (zB (yP (xT (zS (uH K (uJ (a:=cl .mark))) rfl B.qe uI (zA (pv 2) (zA (wK (v:=.ref (cl .mark)) rfl I.ini.mM rfl) zF)))) (zB (zP (Sv dF hr (pv 0) (zA (Ig K (pv 2)) zF))) zG) zG) (zB (yP (xT (zS (uH K (uJ (a:=cl (.one 0)))) rfl B.qe uI (zA (pv 2) (zA (wK (v:=.ref (cl (.one 0))) rfl (I.ini.m1 0) rfl) zF)))) (zB (zP (zW aV hr (zA (pv 0) (zA (yC (aU K) (pv 3) zJ (λ_ _=>rfl)) zF)))) zG) zG) (zB (yP (xT (zS (uH K (uJ (a:=cl (.two 0)))) rfl B.qe uI (zA (pv 2) (zA (wK (v:=.ref (cl (.two 0))) rfl (I.ini.m2 0) rfl) zF)))) (zB (zP (zW bw hr (zA (yC (aU K) (pv 3) zJ (λ_ _=>rfl)) (zA (yC (aU K) (pv 3) zJ (λ_ _=>rfl)) zF)))) zG) zG) (zB (yP (xT (zS (uH K (uJ (a:=cl (.two 1)))) rfl B.qe uI (zA (pv 2) (zA (wK (v:=.ref (cl (.two 1))) rfl (I.ini.m2 1) rfl) zF)))) (zB (zP (zW dz hr (zA (yC (aU K) (pv 3) zJ (λ_ _=>rfl)) (zA (yC (aU K) (pv 3) zJ (λ_ _=>rfl)) zF)))) zG) zG) (zB (zP (zW cu hr (zA (pv 0) (zA (pv 1) (zA (pv 2) (zA (pv 3) zF)))))) zG)))))),?_⟩
 rintro Fa ⟨q0,q1,q2,q3,⟨⟩⟩
 exact SB.of (vL (cG (md:=.hp) (wS I .all (zD 2 rfl))) (zY (zL (zE (zD 0 rfl) zN))) (vL (cG (md:=.hp) (wS I .mark (zD 2 rfl))) (zY (E_ (by decide +kernel) (zD 0 rfl) (zE (esc (esc (zOk I (zD 2 rfl)))) zN))) (vL (cG (md:=.hp) (wS I (.one 0) (zD 2 rfl))) (zY (zL (zE (zD 0 rfl) (zE (yW (zD 3 rfl) (zR 0)) zN)))) (vL (cG (md:=.hp) (wS I (.two 0) (zD 2 rfl))) (zY (zL (zE (yW (zD 3 rfl) (zR 0)) (zE (yW (zD 3 rfl) (zR 1)) zN)))) (vL (cG (md:=.hp) (wS I (.two 1) (zD 2 rfl))) (zY (zL (zE (yW (zD 3 rfl) (zR 0)) (zE (yW (zD 3 rfl) (zR 1)) zN)))) (zY (zL (zE (zD 0 rfl) (zE (zD 1 rfl) (zE (zD 2 rfl) (zE (zD 3 rfl) zN))))))))))) (by unfold vD;simp only[bnd])
def wZ(rec:(aF C)->LI->(cR cl)->Option (List LI))(q0:aF C)(q1:LI)(q2:cR cl):Option (List LI):=(some (([]:List LI))).bind λd_=>(some (([]:List LI))).bind λBJ=>((some q2.parts).bind λxs=>wH (λ(s3:(List LI)×(List LI)) (x5:cR cl)=>((rec q0 q1 x5).bind λa7=>Bc s3.1 a7).bind λud=>((bx ud (-(1:Int))).bind λa9=>push s3.2 a9).bind λBK=>some (ud,BK)) xs (d_,BJ)).bind λs4=>((vD q0 q1 q2 s4.2).bind λa11=>push s4.1 a11).bind λBL=>some BL
def xN:Nat->(aF C)->LI->(cR cl)->Option (List LI)
 |0=>λ_ _ _=>none
 |n+1=>wZ (xN n)
theorem iR:ao ["machine","living","saying","told","sets","part"] ["machine","living","saying"] (zH fG):=fsc
abbrev uS(K:PySem.W.Frag)(C:Addr)(cl:Hd->Addr)(rec:(aF C)->LI->(cR cl)->Option (List LI)):Sp:=cQ K false (λa:(aF C)×LI×(cR cl)×Unit=>([.z a.1,.z a.2.1,.z a.2.2.1]:SL K)) (λa=>rec a.1 a.2.1 a.2.2.1)
abbrev zDf(K:PySem.W.Frag)(C:Addr)(cl:Hd->Addr):Sp:=uS K C cl (xN 9 )
theorem zF6(F:aY K "table_among" "table_among" fG f fd)(B:Bl K mg)(I:ql P w K mg base kS cl fi di)(lC:bL P w K mg base k "meaning" ["machine","living","saying","sets"] (zJz K C cl))(cN:bL P w K mg base k "table_among" ["machine","living","saying"] (uS K C cl rec)):aq P w K mg base aO (k+1) f fd ["machine","living","saying"] (uS K C cl (wZ rec)):=by
 refine yK F iR (λ_=>rfl) (λ_=>rfl) λcdv A outer s H E hr=>?_
 have nd:=iR.nd
 refine⟨_,(zB (xB 3 nd (wN zF)) (zB (xB 4 nd (wN zF)) (zB (xU aa4 rfl (Mg K (Ig K (pv 2))) (cP 5 nd) (zB (yJ (Ay K aa8 PySem.F.slot_list_extend PySem.F.type_list_extend zI7 (pv 3) (zA (zW cN hr (zA (pv 0) (zA (pv 1) (zA (pv 5) zF)))) zF))) (zB (yJ (Ay K aa8 abh abj wO (pv 4) (zA (yC (aU K) (pv 3) (Ra Rg zJ) (λ_ _=>rfl)) zF))) zG))) (zB (yJ (Ay K aa8 abh abj wO (pv 3) (zA (zW lC hr (zA (pv 0) (zA (pv 1) (zA (pv 2) (zA (pv 4) zF))))) zF))) (zB (zP (pv 3)) zG))))),?_⟩
 rintro Fa ⟨q0,q1,q2,⟨⟩⟩
 exact SB.of (zX (u_ true 3 rfl rfl (yw (α:=LI))) (λd_=>(zX (u_ true 4 rfl rfl (yw (α:=LI))) (λBJ=>(zX (vK (n:=false) (L:=(λs3:(List LI)×(List LI)=>([.z q0,.z q1,.z q2,.ow true s3.1,.ow true s3.2,.un]:SL K))) (d_,BJ) bQ (zUl I (yH 2 rfl)) (λs3=>(yD 5 rfl rfl)) (λs3 x5=>(zT (zNl 3 rfl rfl (zL (zE (zD 0 rfl) (zE (zD 1 rfl) (zE (zD 5 rfl) zN))))) (λud=>(zT (vY 4 rfl rfl (KZ 3 rfl (SQ (zR 1)))) (λBK=>(yE (λs3:(List LI)×(List LI)=>([.z q0,.z q1,.z q2,.ow true s3.1,.ow true s3.2,.un]:SL K)) (ud,BK) bQ))))))) (λs4=>(zX (vY 3 rfl rfl (zL (zE (zD 0 rfl) (zE (zD 1 rfl) (zE (zD 2 rfl) (zE (Cu 4 rfl) zN)))))) (λBL=>(Ej 3 rfl rfl))))))))) (by unfold wZ;simp only[bnd])
def Xc(q0:aF C)(q1:cR cl):Option (List LI):=(((Jj q0).bind λa2=>some ((a2,(q1,())))).bind λb3=>some (q0,b3)).bind λz1=>xN 9 z1.1 z1.2.1 z1.2.2.1
theorem rE:ao ["machine","saying"] ["machine","saying"] (zH qt):=fsc
abbrev zSg(K:PySem.W.Frag)(C:Addr)(cl:Hd->Addr):Sp:=cQ K false (λa:(aF C)×(cR cl)×Unit=>([.z a.1,.z a.2.1]:SL K)) (λa=>Xc a.1 a.2.1)
theorem zTn(F:aY K "table" "table" qt f fd)(B:Bl K mg)(iZ:bL P w K mg base k "alive" ["machine"] (zLm K C))(cN:bL P w K mg base k "table_among" ["machine","living","saying"] (zDf K C cl)):aq P w K mg base aO (k+1) f fd ["machine","saying"] (zSg K C cl):=by
 refine yK F rE (λ_=>rfl) (λ_=>rfl) λcdv A outer s H E hr=>?_
 have nd:=rE.nd
 refine⟨_,(zB (zP (zW cN hr (zA (pv 0) (zA (zW iZ hr (zA (pv 0) zF)) (zA (pv 1) zF))))) zG),?_⟩
 rintro Fa ⟨q0,q1,⟨⟩⟩
 exact SB.of (zY (zL (zE (zD 0 rfl) (zE (zL (zE (zD 0 rfl) zN)) (zE (zD 1 rfl) zN))))) (by unfold Xc;simp only[bnd])
def UL(q0:aF C)(q1:cR cl):Option LI:=(Xc q0 q1).bind λa1=>bx a1 (-(1:Int))
theorem rG:ao ["machine","saying"] ["machine","saying"] (zH qu):=fsc
abbrev zSi(K:PySem.W.Frag)(C:Addr)(cl:Hd->Addr):Sp:=cQ K false (λa:(aF C)×(cR cl)×Unit=>([.z a.1,.z a.2.1]:SL K)) (λa=>UL a.1 a.2.1)
theorem zTp(F:aY K "holds" "holds" qu f fd)(B:Bl K mg)(qC:bL P w K mg base k "table" ["machine","saying"] (zSg K C cl)):aq P w K mg base aO (k+1) f fd ["machine","saying"] (zSi K C cl):=by
 refine yK F rG (λ_=>rfl) (λ_=>rfl) λcdv A outer s H E hr=>?_
 have nd:=rG.nd
 refine⟨_,(zB (zP (yC (aU K) (zW qC hr (zA (pv 0) (zA (pv 1) zF))) (Ra Rg zJ) (λ_ _=>rfl))) zG),?_⟩
 rintro Fa ⟨q0,q1,⟨⟩⟩
 exact SB.of (zY (yW (zL (zE (zD 0 rfl) (zE (zD 1 rfl) zN))) (SQ (zR 1)))) (by unfold UL;simp only[bnd])
end
end Ts
set_option maxHeartbeats 40000000
namespace Ts
open PySem L2 Sy
section
variable{P:Program}{w:World}{K:PySem.W.Frag}{mg:Str->Option Value}{base:Heap}
def uO(q0:LI) :Option (Int×LI):=if(decide ((q0.length:Int)=(0:Int)))=true then some ((0:Int),q0) else q0.getLast?.bind λy=>some (y,q0.dropLast)
theorem pR:ao ["_law_rest"] ["_law_rest"] (zH m9):=fsc
abbrev zH2(K:PySem.W.Frag):Sp:=Mi K (λa:Unit=>([]:SL K)) (λws a=>uO ws )
theorem zQj(F:aY K "_law_cell" "_law_cell" m9 f fd)(B:Bl K mg):aq P w K mg base aO (k+1) f fd ["_law_rest"] (zH2 K):=by
 refine zRv F pR (λ_=>rfl) (λ_=>rfl) λcdv A outer s H E hr=>?_
 have nd:=pR.nd
 refine⟨_,(zB (yP (yB (Cz K Int hr) (zS (vN K) rfl B.len aa7 (zA (pv 0) zF)) zJ (yO _)) (zB (zP zJ) zG) zG) (zB (zP (K7 K aa8 PySem.F.slot_list_pop PySem.F.type_list_pop Kr (pv 0))) zG)),?_⟩
 rintro Fa p q0 ⟨⟩
 exact qZ.of (Gd (xX (md:=.hp) (CG (Gf 0 rfl rfl) (zR 0))) (zPp 0 rfl rfl (esc (zR 0))) (zS9 0 rfl rfl (Ge 0 rfl rfl))) (by unfold uO;simp only[bnd])
def uP(q0:Int)(q1:Int):Option LI:=(some ([]:LI)).bind λjQ=>((vZ q1).bind λxs=>wH (λ(s2:LI×Int) (x4:Int)=>(((jF s2.2 (2:Int)).bind λa5=>some (decide (a5=(1:Int)))).bind λb=>if b=true then(push s2.1 x4).bind λsV=>some sV else some s2.1).bind λs6=>(lX s2.2 (2:Int)).bind λlD=>some (s6,lD)) xs (jQ,q0)).bind λs3=>some s3.1
theorem pU:ao ["_law_cell_here","_law_many","_law_found","_law_stand"] ["_law_cell_here","_law_many"] (zH ni):=fsc
abbrev zM2(K:PySem.W.Frag):Sp:=cQ K false (λa:Int×Int×Unit=>([.z a.1,.z a.2.1]:SL K)) (λa=>uP a.1 a.2.1)
theorem zQk(F:aY K "_law_bits" "_law_bits" ni f fd)(B:Bl K mg):aq P w K mg base aO (k+1) f fd ["_law_cell_here","_law_many"] (zM2 K):=by
 refine yK F pU (λ_=>rfl) (λ_=>rfl) λcdv A outer s H E hr=>?_
 have nd:=pU.nd
 refine⟨_,(zB (xB 2 nd (wN zF)) (zB (xU aa4 rfl (xY rfl B.range (zA (pv 1) zF)) (cP 3 nd) (zB (yP (yB (Cz K Int hr) (xW zy (pv 0) zJ) zJ (yO _)) (zB (yJ (Ay K aa8 abh abj wO (pv 2) (zA (pv 3) zF))) zG) zG) (zB (xB 0 nd (xW HF (pv 0) zJ)) zG))) (zB (zP (pv 2)) zG))),?_⟩
 rintro Fa ⟨q0,q1,⟨⟩⟩
 exact SB.of (zX (u_ true 2 rfl rfl (yw (α:=Int))) (λjQ=>(zX (vK (n:=true) (L:=(λs2:LI×Int=>([.z s2.2,.z q1,.ow true s2.1,.un]:SL K))) (jQ,q0) bQ (vI (zI 1 rfl)) (λs2=>(yD 3 rfl rfl)) (λs2 x4=>(zT (su (xX (md:=.hp) (CG (KY (zI 0 rfl) (zR 2)) (zR 1))) (zT (vY 2 rfl rfl (esc (zI 3 rfl))) (λsV=>(yE (λs7:LI=>([.z s2.2,.z q1,.ow true s7,.y x4]:SL K)) sV bQ))) (yE (λs7:LI=>([.z s2.2,.z q1,.ow true s7,.y x4]:SL K)) s2.1 bQ)) (λs6=>(zT (yM true 0 rfl rfl (esc (R3 (zI 0 rfl) (zR 2)))) (λlD=>(yE (λs2:LI×Int=>([.z s2.2,.z q1,.ow true s2.1,.un]:SL K)) (s6,lD) (Le.old bQ)))))))) (λs3=>(Ej 2 rfl rfl))))) (by unfold uP;simp only[bnd])
def Qp(q0:Int)(q1:Int)(q2:Int):Option LI:=(some ([]:LI)).bind λjQ=>(some q0).bind λBP=>((vZ q2).bind λxs=>wH (λ(s3:LI×Int) (x5:Int)=>(((jF s3.2 (3:Int)).bind λa6=>some (decide (a6=(1:Int)))).bind λb=>if b=true then(push s3.1 x5).bind λsW=>some sW else some s3.1).bind λs7=>(lX s3.2 (3:Int)).bind λsX=>some (s7,sX)) xs (jQ,BP)).bind λs4=>(if(decide (s4.1=([]:LI)))=true then((jF (q0+q1) q2).bind λa14=>push s4.1 a14).bind λqD=>some qD else some s4.1).bind λjt=>some jt
theorem pW:ao ["_law_cell_here","_law_k","_law_many","_law_found","_law_rest","_law_stand"] ["_law_cell_here","_law_k","_law_many"] (zH nj):=fsc
abbrev zM1(K:PySem.W.Frag):Sp:=cQ K false (λa:Int×Int×Int×Unit=>([.z a.1,.z a.2.1,.z a.2.2.1]:SL K)) (λa=>Qp a.1 a.2.1 a.2.2.1)
theorem zQi(F:aY K "_law_next" "_law_next" nj f fd)(B:Bl K mg):aq P w K mg base aO (k+1) f fd ["_law_cell_here","_law_k","_law_many"] (zM1 K):=by
 refine yK F pW (λ_=>rfl) (λ_=>rfl) λcdv A outer s H E hr=>?_
 have nd:=pW.nd
 refine⟨_,(zB (xB 3 nd (wN zF)) (zB (xB 4 nd (pv 0)) (zB (xU aa4 rfl (xY rfl B.range (zA (pv 2) zF)) (cP 5 nd) (zB (yP (yB (Cz K Int hr) (xW zy (pv 4) zJ) zJ (yO _)) (zB (yJ (Ay K aa8 abh abj wO (pv 3) (zA (pv 5) zF))) zG) zG) (zB (xB 4 nd (xW HF (pv 4) zJ)) zG))) (zB (yP (yB (Cz K LI hr) (pv 3) (wN zF) (yO _)) (zB (yJ (Ay K aa8 abh abj wO (pv 3) (zA (xW zy (xW Vw (pv 0) (pv 1)) (pv 2)) zF))) zG) zG) (zB (zP (pv 3)) zG))))),?_⟩
 rintro Fa ⟨q0,q1,q2,⟨⟩⟩
 exact SB.of (zX (u_ true 3 rfl rfl (yw (α:=Int))) (λjQ=>(zX (yM true 4 rfl rfl (esc (zI 0 rfl))) (λBP=>(zX (vK (n:=true) (L:=(λs3:LI×Int=>([.z q0,.z q1,.z q2,.ow true s3.1,.y s3.2,.un]:SL K))) (jQ,BP) bQ (vI (zI 2 rfl)) (λs3=>(yD 5 rfl rfl)) (λs3 x5=>(zT (su (xX (md:=.hp) (CG (KY (zI 4 rfl) (zR 3)) (zR 1))) (zT (vY 3 rfl rfl (esc (zI 5 rfl))) (λsW=>(yE (λs8:LI=>([.z q0,.z q1,.z q2,.ow true s8,.y s3.2,.y x5]:SL K)) sW bQ))) (yE (λs8:LI=>([.z q0,.z q1,.z q2,.ow true s8,.y s3.2,.y x5]:SL K)) s3.1 bQ)) (λs7=>(zT (yM true 4 rfl rfl (esc (R3 (zI 4 rfl) (zR 3)))) (λsX=>(yE (λs3:LI×Int=>([.z q0,.z q1,.z q2,.ow true s3.1,.y s3.2,.un]:SL K)) (s7,sX) bQ))))))) (λs4=>(zX (su (xX (md:=.hp) (CG (Cu 3 rfl) (yw (α:=Int)).ex)) (zT (vY 3 rfl rfl (esc (KY (V9 (zI 0 rfl) (zI 1 rfl)) (zI 2 rfl)))) (λqD=>(yE (λs12:LI=>([.z q0,.z q1,.z q2,.ow true s12,.y s4.2,.un]:SL K)) qD bQ))) (yE (λs12:LI=>([.z q0,.z q1,.z q2,.ow true s12,.y s4.2,.un]:SL K)) s4.1 bQ)) (λjt=>(Ej 3 rfl rfl))))))))) (by unfold Qp;simp only[bnd])
def UW(q0:LI) :Option ((I_ (List LI) (List (Str×LI)) (List LI))×LI):=(uO q0 ).bind λaK=>(((lX aK.1 (8:Int)).bind λa3=>jF a3 (7:Int)).bind λb4=>some ((1:Int)+b4)).bind λou=>(((jF aK.1 (8:Int)).bind λa5=>some (decide (a5=(1:Int)))).bind λb=>if b=true then(((lX aK.1 (8:Int)).bind λa9=>jF a9 (5:Int)).bind λb10=>some ((8:Int)+b10)).bind λrH=>some rH else some ou).bind λs6=>((vZ s6).bind λxs=>Ml (λ(w13:LI) (x12:Int)=>(uO w13 ).bind λr15=>(Qp r15.1 x12 s6).bind λb16=>some (b16,r15.2)) aK.2 xs).bind λcJ=>(some (([]:List (Str×LI)))).bind λmH=>((some ([("p":Str),("wet":Str),("darkness":Str)])).bind λxs=>wH (λ(CZ:(List (Str×LI))×LI) (x20:Str)=>((((uO CZ.2 ).bind λr23=>(uP r23.1 s6).bind λUJ=>some (UJ,r23.2)).bind λr25=>some ((x20,r25.1),r25.2)).bind λr26=>(push CZ.1 r26.1).bind λy27=>some (y27,r26.2)).bind λeZ=>some (eZ.1,eZ.2)) xs (mH,cJ.2)).bind λwk=>((((lX aK.1 (60:Int)).bind λa29=>jF a29 (4:Int)).bind λa30=>vZ a30).bind λxs=>Ml (λ(w32:LI) (x31:Int)=>(uO w32 ).bind λr34=>(uP r34.1 s6).bind λb35=>some (b35,r34.2)) wk.2 xs).bind λjR=>some (I_.mk cJ.1 wk.1 jR.1,jR.2)
theorem oE:ao ["_law_rest","_law_cell_here","_law_many","_law_steps","_law_marks","_law_name","_law_fair"] ["_law_rest"] (zH lu):=fsc
abbrev zJ1(K:PySem.W.Frag):Sp:=Mi K (λa:Unit=>([]:SL K)) (λws a=>UW ws )
theorem zN1(F:aY K "_law_drawn" "_law_drawn" lu f fd)(B:Bl K mg)(kj:bL P w K mg base k "_law_bits" ["_law_cell_here","_law_many"] (zM2 K))(eF:bL P w K mg base k "_law_cell" ["_law_rest"] (zH2 K))(oF:bL P w K mg base k "_law_next" ["_law_cell_here","_law_k","_law_many"] (zM1 K)):aq P w K mg base aO (k+1) f fd ["_law_rest"] (zJ1 K):=by
 refine zRv F oE (λ_=>rfl) (λ_=>rfl) λcdv A outer s H E hr=>?_
 have nd:=oE.nd
 refine⟨_,(zB (xB 1 nd (zW eF hr (zA (pv 0) zF))) (zB (xB 2 nd (xW Vw zJ (xW zy (xW HF (pv 1) zJ) zJ))) (zB (yP (yB (Cz K Int hr) (xW zy (pv 1) zJ) zJ (yO _)) (zB (xB 2 nd (xW Vw zJ (xW zy (xW HF (pv 1) zJ) zJ))) zG) zG) (zB (uK (i:=3) (own:=["_law_k"]) (ix:=[2,0]) nd rfl rfl rfl rfl rfl (xY rfl B.range (zA (pv 2) zF)) (λC s H fp=>yL (i:=0) (show(["_law_k","_law_many","_law_rest"]:List Str).Nodup from by decide +kernel) rfl (Or.inl rfl)) (λC s H fp=>wT) (λC s H fp=>(zW oF hr (zA (zW eF hr (zA (pv 2) zF)) (zA (pv 0) (zA (pv 1) zF)))))) (zB (xB 4 nd (wN zF)) (zB (xU aa4 rfl (yR K (wN (zA yI (zA yI (zA yI zF))))) (cP 5 nd) (zB (yJ (Ay K aa8 abh abj wO (pv 4) (zA (yt (zA (pv 5) (zA (zW kj hr (zA (zW eF hr (zA (pv 0) zF)) (zA (pv 2) zF))) zF))) zF))) zG)) (zB (uK (i:=6) (own:=["_law_k"]) (ix:=[2,0]) nd rfl rfl rfl rfl rfl (xY rfl B.range (zA (xW zy (xW HF (pv 1) zJ) zJ) zF)) (λC s H fp=>yL (i:=0) (show(["_law_k","_law_many","_law_rest"]:List Str).Nodup from by decide +kernel) rfl (Or.inl rfl)) (λC s H fp=>wT) (λC s H fp=>(zW kj hr (zA (zW eF hr (zA (pv 2) zF)) (zA (pv 1) zF))))) (zB (zP (yt (zA (pv 3) (zA (pv 4) (zA (pv 6) zF))))) zG)))))))),?_⟩
 rintro Fa p q0 ⟨⟩
 exact qZ.of (Mj (ZM true 1 (λ_=>⟨_,rfl,rfl⟩) (vq.ey (WW 0 rfl rfl zN))) (λaK=>(Mu [.nu (RL.mk (p:=p) aK.2),.y aK.1,.un,.un,.un,.un,.un] (Mj (yM true 2 rfl rfl (esc (V9 (zR 1) (KY (R3 (zI 1 rfl) (zR 8)) (zR 7))))) (λou=>(Mu [.nu (RL.mk (p:=p) aK.2),.y aK.1,.y ou,.un,.un,.un,.un] (Mj (su (xX (md:=.hp) (CG (KY (zI 1 rfl) (zR 8)) (zR 1))) (zT (yM true 2 rfl rfl (esc (V9 (zR 8) (KY (R3 (zI 1 rfl) (zR 8)) (zR 5))))) (λrH=>(yE (λs7:Int=>([.nu (RL.mk (p:=p) aK.2),.y aK.1,.y s7,.un,.un,.un,.un]:SL K)) rH bQ))) (yE (λs7:Int=>([.nu (RL.mk (p:=p) aK.2),.y aK.1,.y s7,.un,.un,.un,.un]:SL K)) ou bQ)) (λs6=>(Mu [.nu (RL.mk (p:=p) aK.2),.y aK.1,.y s6,.un,.un,.un,.un] (Mj (ZM true 3 (λ_=>⟨_,rfl,rfl⟩) (vq.ey (T_.eyn (λ_=>⟨0,_,rfl,rfl⟩) (zMn (n:=true) (n':=true) (iU:=λw13:LI=>([.un,.y s6,.nu (RL.mk (p:=p) w13)]:SL K)) (no:=1) (ix:=[2,0]) 0 rfl rfl (zVw rfl rfl) (vI (zI 2 rfl)) (λw13=>yD 0 rfl rfl) (λw13 x12=>za) (λw13 x12=>(ZP (as:=(λa:Int×Int×Unit=>([.z a.1,.z a.2.1]:SL K))) (f:=(λa=>Qp a.1 a.2.1 a.2.2.1)) (WW 2 rfl rfl zN) (λ_=>⟨2,_,rfl,rfl⟩) (λw14=>(zE (esc (zI 0 rfl)) (zE (esc (zI 1 rfl)) zN))))) (λw13 x12=>gR) (λw13 x12=>⟨2,rfl,rfl⟩))))) (λcJ=>(Mu [.nu (RL.mk (p:=p) cJ.2),.y aK.1,.y s6,.y cJ.1,.un,.un,.un] (Mj (u_ true 4 rfl rfl (yw (α:=Str×LI))) (λmH=>(Mu [.nu (RL.mk (p:=p) cJ.2),.y aK.1,.y s6,.y cJ.1,.ow true mH,.un,.un] (Mj (vK (n:=true) (L:=(λCZ:(List (Str×LI))×LI=>([.nu (RL.mk (p:=p) CZ.2),.y aK.1,.y s6,.y cJ.1,.ow true CZ.1,.un,.un]:SL K))) (mH,cJ.2) bQ (yS (RP (wD (esc (Cv "p")) (wD (esc (Cv "wet")) (wD (esc (Cv "darkness")) RN))) (λa h=>aa6 ((uF (uF (uF Sq))) a h) (by decide))).ex) (λCZ=>(yD 5 rfl rfl)) (λCZ x20=>(zT (zNm (n:=true) 4 rfl rfl (λ_=>⟨rfl,rfl⟩) (zUe (n:=true) (i:=0) rfl rfl (λ_=>⟨0,_,rfl,rfl⟩) (esc (zI 5 rfl)) (ZP (as:=(λa:Int×Unit=>([.z a.1]:SL K))) (f:=(λa=>uP a.1 a.2.1)) (WW 0 rfl rfl zN) (λ_=>⟨0,_,rfl,rfl⟩) (λw22=>(zE (esc (zI 2 rfl)) zN))))) (λeZ=>(yE (λCZ:(List (Str×LI))×LI=>([.nu (RL.mk (p:=p) CZ.2),.y aK.1,.y s6,.y cJ.1,.ow true CZ.1,.un,.un]:SL K)) (eZ.1,eZ.2) bQ))))) (λwk=>(Mu [.nu (RL.mk (p:=p) wk.2),.y aK.1,.y s6,.y cJ.1,.ow true wk.1,.un,.un] (Mj (ZM true 6 (λ_=>⟨_,rfl,rfl⟩) (vq.ey (T_.eyn (λ_=>⟨0,_,rfl,rfl⟩) (zMn (n:=true) (n':=true) (iU:=λw32:LI=>([.un,.y s6,.nu (RL.mk (p:=p) w32)]:SL K)) (no:=1) (ix:=[2,0]) 0 rfl rfl (zVw rfl rfl) (vI (KY (R3 (zI 1 rfl) (zR 60)) (zR 4))) (λw32=>yD 0 rfl rfl) (λw32 x31=>za) (λw32 x31=>(ZP (as:=(λa:Int×Unit=>([.z a.1]:SL K))) (f:=(λa=>uP a.1 a.2.1)) (WW 2 rfl rfl zN) (λ_=>⟨2,_,rfl,rfl⟩) (λw33=>(zE (esc (zI 1 rfl)) zN)))) (λw32 x31=>gR) (λw32 x31=>⟨2,rfl,rfl⟩))))) (λjR=>(Mu [.nu (RL.mk (p:=p) jR.2),.y aK.1,.y s6,.y cJ.1,.ow true wk.1,.un,.y jR.1] (Gj (sl2:=[.nu (RL.mk (p:=p) jR.2),.y aK.1,.y s6,.y cJ.1,.y wk.1,.un,.y jR.1]) bQ (zPp 0 rfl rfl (Gg (md:=eN true) (yH 3 rfl) (yH 4 rfl) (yH 6 rfl))))))))))))))))))))))))) (by unfold UW;simp only[bnd])
def Qq(q0:aF C)(q1:List (cR cl))(q2:Int):Option (Option (List LI)):=(some (([]:List LI))).bind λlE=>((some q1).bind λxs=>uC (λ(s2:List LI) (x4:cR cl)=>(UL q0 x4).bind λoG=>(if(!true)=true then some true else((vZ q2).bind λxs=>wP (λ(x6:Int)=>some (decide (x6∈oG))) (λ(x6:Int)=>some x6) xs).bind λb7=>some (!decide (oG=b7))).bind λb=>if b=true then(some ((none:Option (List LI)))).bind λb=>some (.rt b) else(push s2 oG).bind λlF=>some (.nx lF)) xs lE).bind λo=>o.els λs3=>some (some s3)
theorem pX:ao ["_law_machine","_law_sayings","_law_many","_law_sets_here","_law_saying","_law_found"] ["_law_machine","_law_sayings","_law_many"] (zH nq):=fsc
abbrev zM0(K:PySem.W.Frag)(C:Addr)(cl:Hd->Addr):Sp:=cQ K false (λa:(aF C)×((List (cR cl)))×Int×Unit=>([.z a.1,.z a.2.1,.z a.2.2.1]:SL K)) (λa=>Qq a.1 a.2.1 a.2.2.1)
theorem zQh(F:aY K "_law_sets" "_law_sets" nq f fd)(B:Bl K mg)(qF:bL P w K mg base k "holds" ["machine","saying"] (zSi K C cl)):aq P w K mg base aO (k+1) f fd ["_law_machine","_law_sayings","_law_many"] (zM0 K C cl):=by
 refine yK F pX (λ_=>rfl) (λ_=>rfl) λcdv A outer s H E hr=>?_
 have nd:=pX.nd
 refine⟨_,(zB (xB 3 nd (wN zF)) (zB (xU aa4 rfl (yR K (pv 1)) (cP 4 nd) (zB (xB 5 nd (zW qF hr (zA (pv 0) (zA (pv 4) zF)))) (zB (yP (PW.pt (pw_or (Dk (xT (zS (uH K (RM (n:="list"))) rfl B.qe uI (zA (pv 5) (zA (QJ (v:=.ty "list") rfl B.list Ez rfl) zF))))) (pw_or1 (yB (Y0 K LI hr) (pv 5) (Cr (own:=["_law_stand"]) (ix:=[5]) rfl rfl rfl (xY rfl B.range (zA (pv 2) zF)) (λC s H fp=>yL (i:=0) (show(["_law_stand","_law_found"]:List Str).Nodup from by decide +kernel) rfl (Or.inl rfl)) (λC s H fp=>Kw (yB (vd K) (pv 0) (pv 1) (by with_unfolding_all rfl))) (λC s H fp=>(pv 0))) (yO _))))) (zB (zP Xw) zG) zG) (zB (yJ (Ay K aa8 abh abj wO (pv 3) (zA (pv 5) zF))) zG)))) (zB (zP (pv 3)) zG))),?_⟩
 rintro Fa ⟨q0,q1,q2,⟨⟩⟩
 exact SB.of (zX (u_ true 3 rfl rfl (yw (α:=LI))) (λlE=>(RQ (RW (n:=false) (L:=(λs2:List LI=>([.z q0,.z q1,.z q2,.ow true s2,.un,.un]:SL K))) lE bQ (yS (yH 1 rfl)) (λs2=>(yD 4 rfl rfl)) (λs2 x4=>(Ef (yM true 5 rfl rfl (zL (zE (zD 0 rfl) (zE (zD 4 rfl) zN)))) (λoG=>(RV (V3 (Ec (cG (md:=.hp) (R7 B.ll rfl (zD 5 rfl)))) (xX (md:=.hp) (Y4 (zD 5 rfl) (wC (n:=true) (iU:=[.un,.y oG]) (no:=1) (ix:=[5]) rfl rfl (vI (zI 2 rfl)) (yD 0 rfl rfl) (λx6=>(xX (md:=.hp) (yx (zI 0 rfl) (zD 1 rfl)))) (λx6=>(esc (zI 0 rfl))) (λx6=>gR)).ex))) (zY (YH (α:=List LI))) (Ef (vY 3 rfl rfl (yH 5 rfl)) (λlF=>(RT (λs2:List LI=>([.z q0,.z q1,.z q2,.ow true s2,.un,.un]:SL K)) lF bQ)))))))) (λs3=>(zTa 3 rfl rfl))))) (by unfold Qq;simp only[bnd])
def wR(q0:List LI)(q1:LI)(q2:LI)(q3:LI)(q4:LI)(q5:Bool):Option Bool:=((vZ (q0.length:Int)).bind λxs=>uC (λ(s1:Unit) (x3:Int)=>((bx q0 x3).bind λxs=>wP (λ(x5:Int)=>some (decide (x5∈q3))) (λ(x5:Int)=>some x5) xs).bind λcX=>(if(decide (x3∈q1))=true then some (decide ((0:Int)<(cX.length:Int))) else some false).bind λU0=>(if(decide (x3∈q2))=true then some (decide (x3∈q4)) else some false).bind λNy=>(if q5=true then(if(decide (x3∈q1))=true then((bx q0 x3).bind λa11=>some (a11.length:Int)).bind λb12=>some (decide ((cX.length:Int)=b12)) else some false).bind λNz=>(if(decide (x3∈q2))=true then some true else some (!decide (x3∈q4))).bind λBR=>some (Nz,BR) else some (U0,Ny)).bind λs8=>((if s8.2=true then some true else some s8.1).bind λNm=>some (!decide ((decide (x3∈q3))=Nm))).bind λb=>if b=true then(some false).bind λb=>some (.rt b) else some (.nx ())) xs ()).bind λo=>o.els λs2=>some true
theorem pY:ao ["_law_steps","_law_left","_law_right","_law_found","_law_live","_law_each","_law_stand","_law_inside","_law_on","_law_now"] ["_law_steps","_law_left","_law_right","_law_found","_law_live","_law_each"] (zH nA):=fsc
abbrev zMz(K:PySem.W.Frag):Sp:=cQ K false (λa:((List LI))×LI×LI×LI×LI×Bool×Unit=>([.z a.1,.z a.2.1,.z a.2.2.1,.z a.2.2.2.1,.z a.2.2.2.2.1,.z a.2.2.2.2.2.1]:SL K)) (λa=>wR a.1 a.2.1 a.2.2.1 a.2.2.2.1 a.2.2.2.2.1 a.2.2.2.2.2.1)
theorem zQg(F:aY K "_law_till" "_law_till" nA f fd)(B:Bl K mg):aq P w K mg base aO (k+1) f fd ["_law_steps","_law_left","_law_right","_law_found","_law_live","_law_each"] (zMz K):=by
 refine yK F pY (λ_=>rfl) (λ_=>rfl) λcdv A outer s H E hr=>?_
 have nd:=pY.nd
 refine⟨_,(zB (xU aa4 rfl (xY rfl B.range (zA (zS (vN K) rfl B.len aa7 (zA (pv 0) zF)) zF)) (cP 6 nd) (zB (uK (i:=7) (own:=["_law_other"]) (ix:=[3]) nd rfl rfl rfl rfl rfl (yR K (yC (aU K) (pv 0) (pv 6) (λ_ _=>rfl))) (λC s H fp=>yL (i:=0) (show(["_law_other","_law_found"]:List Str).Nodup from by decide +kernel) rfl (Or.inl rfl)) (λC s H fp=>Kw (yB (vd K) (pv 0) (pv 1) (by with_unfolding_all rfl))) (λC s H fp=>(pv 0))) (zB (xB 8 nd (Dl (wL (vd K) (pv 6) (pv 1) (by with_unfolding_all rfl)) (zq (wL Aa (zS (vN K) rfl B.len aa7 (zA (pv 7) zF)) zJ (yO _))))) (zB (xB 9 nd (Dl (wL (vd K) (pv 6) (pv 2) (by with_unfolding_all rfl)) (zq (wL (vd K) (pv 6) (pv 4) (by with_unfolding_all rfl))))) (zB (yP (xT (pv 5)) (zB (xB 8 nd (Dl (wL (vd K) (pv 6) (pv 1) (by with_unfolding_all rfl)) (zq (wL (Cz K Int hr) (zS (vN K) rfl B.len aa7 (zA (pv 7) zF)) (zS (vN K) rfl B.len aa7 (zA (yC (aU K) (pv 0) (pv 6) (λ_ _=>rfl)) zF)) (yO _))))) (zB (xB 9 nd (zu (wL (vd K) (pv 6) (pv 2) (by with_unfolding_all rfl)) (zq (wL (zP9 K) (pv 6) (pv 4) (by with_unfolding_all rfl))))) zG)) zG) (zB (yP (yB (Y0 K Bool hr) (wL (vd K) (pv 6) (pv 3) (by with_unfolding_all rfl)) (zu (pv 9) (zq (pv 8))) (yO _)) (zB (zP oW) zG) zG) zG)))))) (zB (zP oW) zG)),?_⟩
 rintro Fa ⟨q0,q1,q2,q3,q4,q5,⟨⟩⟩
 exact SB.of (RQ (RW (n:=true) (L:=(λs1:Unit=>([.z q0,.z q1,.z q2,.z q3,.z q4,.z q5,.un,.un,.un,.un]:SL K))) () bQ (vI (uD (zD 0 rfl))) (λs1=>(yD 6 rfl rfl)) (λs1 x3=>(Ef (yM true 7 rfl rfl (wC (n:=false) (iU:=[.un,.z q3]) (no:=1) (ix:=[3]) rfl rfl (yS (yW (yH 0 rfl) (zI 6 rfl))) (yD 0 rfl rfl) (λx5=>(xX (md:=.hp) (yx (zI 0 rfl) (zD 1 rfl)))) (λx5=>(esc (zI 0 rfl))) (λx5=>gR)).ex) (λcX=>(Ef (yM true 8 rfl rfl (esc (Ed (yx (zI 6 rfl) (zD 1 rfl)) (Ax (uD (zD 7 rfl)) (zR 0))))) (λU0=>(Ef (yM true 9 rfl rfl (esc (Ed (yx (zI 6 rfl) (zD 2 rfl)) (yx (zI 6 rfl) (zD 4 rfl))))) (λNy=>(Ef (su (cG (md:=.hp) (zI 5 rfl)) (zT (yM true 8 rfl rfl (esc (Ed (yx (zI 6 rfl) (zD 1 rfl)) (CG (uD (zD 7 rfl)) (uD (yW (zD 0 rfl) (zI 6 rfl))))))) (λNz=>(zT (yM true 9 rfl rfl (esc (Aq (yx (zI 6 rfl) (zD 2 rfl)) (zVq (zI 6 rfl) (zD 4 rfl))))) (λBR=>(yE (λs9:Bool×Bool=>([.z q0,.z q1,.z q2,.z q3,.z q4,.z q5,.y x3,.y cX,.y s9.1,.y s9.2]:SL K)) (Nz,BR) bQ))))) (yE (λs9:Bool×Bool=>([.z q0,.z q1,.z q2,.z q3,.z q4,.z q5,.y x3,.y cX,.y s9.1,.y s9.2]:SL K)) (U0,Ny) bQ)) (λs8=>(RV (xX (md:=.hp) (Y4 (yx (zI 6 rfl) (zD 3 rfl)) (Aq (zI 9 rfl) (zI 8 rfl)))) (zY (esc (oY false))) (RT (λs1:Unit=>([.z q0,.z q1,.z q2,.z q3,.z q4,.z q5,.un,.un,.un,.un]:SL K)) () bQ)))))))))))) (λs2=>(zY (esc (oY true))))) (by unfold wR;simp only[bnd])
def uT(q0:List LI)(q1:LI)(q2:LI)(q3:LI)(q4:Bool):Option Bool:=((vZ (q0.length:Int)).bind λxs=>uC (λ(s1:Unit) (x3:Int)=>((bx q0 x3).bind λxs=>wP (λ(x5:Int)=>some (decide (x5∈q2))) (λ(x5:Int)=>some x5) xs).bind λcX=>(if(decide (x3∈q1))=true then some (decide ((0:Int)<(cX.length:Int))) else some false).bind λNK=>(if q4=true then(if(!decide (x3∈q3))=true then some true else if(decide (x3∈q1))=true then((bx q0 x3).bind λa10=>some (a10.length:Int)).bind λb11=>some (decide ((cX.length:Int)=b11)) else some false).bind λNP=>some NP else some NK).bind λs7=>if(!decide ((decide (x3∈q2))=s7))=true then(some false).bind λb=>some (.rt b) else some (.nx ())) xs ()).bind λo=>o.els λs2=>some true
theorem lQ:ao ["_law_steps","_law_part","_law_found","_law_live","_law_each","_law_stand","_law_inside","_law_due"] ["_law_steps","_law_part","_law_found","_law_live","_law_each"] (zH jN):=fsc
abbrev zGy(K:PySem.W.Frag):Sp:=cQ K false (λa:((List LI))×LI×LI×LI×Bool×Unit=>([.z a.1,.z a.2.1,.z a.2.2.1,.z a.2.2.2.1,.z a.2.2.2.2.1]:SL K)) (λa=>uT a.1 a.2.1 a.2.2.1 a.2.2.2.1 a.2.2.2.2.1)
theorem zKt(F:aY K "_law_always" "_law_always" jN f fd)(B:Bl K mg):aq P w K mg base aO (k+1) f fd ["_law_steps","_law_part","_law_found","_law_live","_law_each"] (zGy K):=by
 refine yK F lQ (λ_=>rfl) (λ_=>rfl) λcdv A outer s H E hr=>?_
 have nd:=lQ.nd
 refine⟨_,(zB (xU aa4 rfl (xY rfl B.range (zA (zS (vN K) rfl B.len aa7 (zA (pv 0) zF)) zF)) (cP 5 nd) (zB (uK (i:=6) (own:=["_law_other"]) (ix:=[2]) nd rfl rfl rfl rfl rfl (yR K (yC (aU K) (pv 0) (pv 5) (λ_ _=>rfl))) (λC s H fp=>yL (i:=0) (show(["_law_other","_law_found"]:List Str).Nodup from by decide +kernel) rfl (Or.inl rfl)) (λC s H fp=>Kw (yB (vd K) (pv 0) (pv 1) (by with_unfolding_all rfl))) (λC s H fp=>(pv 0))) (zB (xB 7 nd (Dl (wL (vd K) (pv 5) (pv 1) (by with_unfolding_all rfl)) (zq (wL Aa (zS (vN K) rfl B.len aa7 (zA (pv 6) zF)) zJ (yO _))))) (zB (yP (xT (pv 4)) (zB (xB 7 nd (zu (wL (zP9 K) (pv 5) (pv 3) (by with_unfolding_all rfl)) (zq (Dl (wL (vd K) (pv 5) (pv 1) (by with_unfolding_all rfl)) (zq (wL (Cz K Int hr) (zS (vN K) rfl B.len aa7 (zA (pv 6) zF)) (zS (vN K) rfl B.len aa7 (zA (yC (aU K) (pv 0) (pv 5) (λ_ _=>rfl)) zF)) (yO _))))))) zG) zG) (zB (yP (yB (Y0 K Bool hr) (wL (vd K) (pv 5) (pv 2) (by with_unfolding_all rfl)) (pv 7) (yO _)) (zB (zP oW) zG) zG) zG))))) (zB (zP oW) zG)),?_⟩
 rintro Fa ⟨q0,q1,q2,q3,q4,⟨⟩⟩
 exact SB.of (RQ (RW (n:=true) (L:=(λs1:Unit=>([.z q0,.z q1,.z q2,.z q3,.z q4,.un,.un,.un]:SL K))) () bQ (vI (uD (zD 0 rfl))) (λs1=>(yD 5 rfl rfl)) (λs1 x3=>(Ef (yM true 6 rfl rfl (wC (n:=false) (iU:=[.un,.z q2]) (no:=1) (ix:=[2]) rfl rfl (yS (yW (yH 0 rfl) (zI 5 rfl))) (yD 0 rfl rfl) (λx5=>(xX (md:=.hp) (yx (zI 0 rfl) (zD 1 rfl)))) (λx5=>(esc (zI 0 rfl))) (λx5=>gR)).ex) (λcX=>(Ef (yM true 7 rfl rfl (esc (Ed (yx (zI 5 rfl) (zD 1 rfl)) (Ax (uD (zD 6 rfl)) (zR 0))))) (λNK=>(Ef (su (cG (md:=.hp) (zI 4 rfl)) (zT (yM true 7 rfl rfl (esc (Aq (zVq (zI 5 rfl) (zD 3 rfl)) (Ed (yx (zI 5 rfl) (zD 1 rfl)) (CG (uD (zD 6 rfl)) (uD (yW (zD 0 rfl) (zI 5 rfl)))))))) (λNP=>(yE (λs8:Bool=>([.z q0,.z q1,.z q2,.z q3,.z q4,.y x3,.y cX,.y s8]:SL K)) NP bQ))) (yE (λs8:Bool=>([.z q0,.z q1,.z q2,.z q3,.z q4,.y x3,.y cX,.y s8]:SL K)) NK bQ)) (λs7=>(RV (xX (md:=.hp) (Y4 (yx (zI 5 rfl) (zD 2 rfl)) (zI 7 rfl))) (zY (esc (oY false))) (RT (λs1:Unit=>([.z q0,.z q1,.z q2,.z q3,.z q4,.un,.un,.un]:SL K)) () bQ)))))))))) (λs2=>(zY (esc (oY true))))) (by unfold uT;simp only[bnd])
end
open PySem L2
def NQ(n:Int)(xs:LI):Prop:=xs≠[]/\xs.Nodup/\xs.length<=60/\∀z∈xs,0<=z/\z<n
structure Gr{C:Addr}(m:aF C)(n:Int):Prop where
 len:(m.steps.length:Int)=n
 pos:1<=n
 few:n<=60
 row:∀xs∈m.steps,xs≠[]/\xs.Nodup/\∀z∈xs,0<=z/\z<n
 src:m.sources=srcs m.steps
def nxt(xss:List LI)(s:Int):LI:=xss.getD s.toNat []
theorem GD:x∈src xss j↔0<=x/\x<(xss.length:Int)/\(j:Int)∈nxt xss x:=by
 unfold src nxt
 rw[mem_map]
 constructor
 ·rintro⟨k,h,rfl⟩
  rw[mem_filter,mem_range] at h
  have h2:=of_decide_eq_true h.2
  exact⟨ace _,by show(k:Int)<_;omega,h2⟩
 ·intro⟨h0,h1,h2⟩
  refine⟨x.toNat,?_,by show((x.toNat:Nat):Int)=x;omega⟩
  rw[mem_filter,mem_range]
  exact⟨by omega,decide_eq_true h2⟩
theorem Xd{C:Addr}{m:aF C}(g:Gr m n):yX m=some n:=by
 unfold yX
 rw[g.len]
theorem zSp{C:Addr}{m:aF C}(g:Gr m n)(h0:0<=s)(h1:s<n):W (xV m s) λxs=>∀x,x∈xs↔0<=x/\x<n/\s∈nxt m.steps x:=by
 unfold xV
 rw[dR h0,g.src]
 have hl:=g.len
 refine⟨_,zPg (by omega),λx=>?_⟩
 rw[GD,hl,show((s.toNat:Nat):Int)=s by omega]
theorem U3{α:Type}{xs:List α}{a d:α}(h:i<xs.length):(xs.set i a).getD j d=if j=i then a else xs.getD j d:=by
 rw[getD_eq_getElem?_getD,getD_eq_getElem?_getD,acu]
 by_cases e:i=j
 ·subst e;simp[h]
 ·rw[if_neg e,if_neg (aco e)]
theorem zO5{C:Addr}{m:aF C}(g:Gr m n)(hx:∀x∈xs,0<=x/\x<n):W (Qm m xs) λfl=>(fl.length:Int)=n/\∀s:Int,0<=s->s<n->fl.getD s.toNat false=decide (s∈xs):=by
 unfold Qm
 have hp:=g.pos
 have hf:=g.few
 simp only[zC,aj,Xd g,dM]
 refine⟨⟨by omega,by omega⟩,?_⟩
 rw[Ii (λ_=>false)]
 have e:=CJ (n:=n) (by omega)
 refine⟨yU (by omega),vO (λi fl=>(fl.length:Int)=n/\∀s:Int,0<=s->s<n->fl.getD s.toNat false=decide (s∈xs.take i)) ⟨by rw[length_map];exact e,λs _ _=>?_⟩ (λi x fl hi hI=>?_) λfl hI=>?_⟩
 ·rw[getD_eq_getElem?_getD,getElem?_map]
  cases(rng n)[s.toNat]?<;>simp
 ·have hxx:=hx x (mem_of_getElem? hi)
  simp only[zC,aj]
  rw[SN hxx.1 (by omega)]
  refine⟨by rw[length_set];exact hI.1,λs s0 s1=>?_⟩
  rw[U3 (by omega)]
  have tk:xs.take (i+1)=xs.take i++[x]:=by rw[take_add_one,hi]<;>rfl
  by_cases q:s.toNat=x.toNat
  ·have:s=x:=by omega
   subst this
   rw[if_pos rfl,tk];simp
  ·have:s≠x:=λz=>q (by rw[z])
   rw[if_neg q,hI.2 s s0 s1,tk]
   simp[this]
 ·rw[take_length] at hI
  exact hI
abbrev dg(d:List (Option Int))(s:Int):Option Int:=d.getD s.toNat none
structure sY(xss:List LI)(through goal:LI)(n:Int)(d:List (Option Int)):Prop where
 len:(d.length:Int)=n
 pos:∀s k,0<=s->s<n->dg d s=some k->0<=k/\k<n
 zero:∀s,0<=s->s<n->(dg d s=some 0↔s∈goal)
 via:∀s k,0<=s->s<n->dg d s=some k->s∉goal->s∈through/\∃t∈nxt xss s,0<=t/\t<n/\dg d t=some (k-1)
 near:∀s t k,0<=s->s<n->0<=t->t<n->s∈through->t∈nxt xss s->dg d t=some k->∃j,dg d s=some j/\j<=k+1
structure Bf(xss:List LI)(pass:Int->Prop)(goal:LI)(n:Int)(d:List (Option Int))(row:LI)(place:Nat):Prop where
 len:(d.length:Int)=n
 rng:∀s∈row,0<=s/\s<n
 nd:row.Nodup
 iff:∀s:Int,0<=s->s<n->((dg d s).isSome=true↔s∈row)
 idx:∀(i:Nat)(s:Int),row[i]?=some s->∃k:Int,dg d s=some k/\0<=k/\k<=i
 mono:∀(i j:Nat)(s t k l:Int),i<=j->row[i]?=some s->row[j]?=some t->dg d s=some k->dg d t=some l->k<=l
 top:∀(j:Nat)(s t k l:Int),row[place]?=some s->row[j]?=some t->dg d s=some k->dg d t=some l->l<=k+1
 zero:∀s:Int,0<=s->s<n->(dg d s=some 0↔s∈goal)
 via:∀(s k:Int),s∈row->dg d s=some k->s∉goal->pass s/\∃t∈nxt xss s,0<=t/\t<n/\dg d t=some (k-1)
 done:∀(i:Nat)(s t k:Int),i<place->row[i]?=some t->dg d t=some k->0<=s->s<n->pass s->t∈nxt xss s->∃j,dg d s=some j/\j<=k+1
theorem zRu{d:List (Option Int)}(hl:(d.length:Int)=n)(h0:0<=s)(h1:s<n)(t0:0<=t):dg (d.set s.toNat v) t=if t=s then v else dg d t:=by
 show(d.set s.toNat v).getD t.toNat none=_
 rw[U3 (by omega)]
 by_cases e:t=s
 ·rw[if_pos e,if_pos (by rw[e])]
 ·rw[if_neg e,if_neg (by omega)]
theorem Qs{row:LI}{i:Nat}{s x:Int}(h:(row++[x])[i]?=some s):row[i]?=some s\/(i=row.length/\s=x):=by
 by_cases q:i<row.length
 ·rw[getElem?_append_left q] at h;exact .inl h
 ·rw[getElem?_append_right (by omega)] at h
  have:i-row.length=0:=by
   have:=yZ h
   simp at this
   omega
  rw[this] at h
  exact .inr ⟨by omega,(aaw h).symm⟩
structure Bm(xss:List LI)(pass:Int->Prop)(goal:LI)(n:Int)(d:List (Option Int))(row:LI)(place:Nat)(t k:Int)(seen:LI):Prop where
 bf:Bf xss pass goal n d row place
 at_:row[place]?=some t
 k_:dg d t=some k
 uf:∀s∈seen,pass s->∃j,dg d s=some j/\j<=k+1
theorem Bm.put(b:Bm xss pass goal n d row place t k seen)(hx0:0<=x)(hx1:x<n)(hp:pass x)(hn:dg d x=none)(ht:t∈nxt xss x) :
  Bm xss pass goal n (d.set x.toNat (some (k+1))) (row++[x]) place t k (seen++[x]):=by
 have B:=b.bf
 have tr:=B.rng t (mem_of_getElem? b.at_)
 have xr:x∉row:=λh=>by have:=(B.iff x hx0 hx1).mpr h;rw[hn] at this;cases this
 have tx:t≠x:=λe=>xr (e▸mem_of_getElem? b.at_)
 obtain⟨k',e1,k0,kp⟩:=B.idx place t b.at_
 rw[b.k_] at e1
 cases e1
 have pl:=yZ b.at_
 have old:∀s:Int,0<=s->s≠x->dg (d.set x.toNat (some (k+1))) s=dg d s:=λs s0 q=>by rw[zRu B.len hx0 hx1 s0,if_neg q]
 have new:dg (d.set x.toNat (some (k+1))) x=some (k+1):=by rw[zRu B.len hx0 hx1 hx0,if_pos rfl]
 have inr:∀{i:Nat}{s:Int},row[i]?=some s->0<=s/\s<n/\s≠x:=λh=>by
  have:=B.rng _ (mem_of_getElem? h)
  exact⟨this.1,this.2,λe=>xr (e▸mem_of_getElem? h)⟩
 refine⟨⟨by rw[length_set];exact B.len,λs hs=>?_,?_,λs s0 s1=>?_,λi s h=>?_,λi j s u a l ij h1 h2 h3 h4=>?_,λj s u a l h1 h2 h3 h4=>?_,λs s0 s1=>?_,λs a hs h1 h2=>?_,λi s u a hi h1 h2 s0 s1 ps hu=>?_⟩,?_,?_,λs hs ps=>?_⟩
 ·rcases mem_append.mp hs with q|q
  ·exact B.rng s q
  ·rw[mem_singleton.mp q];exact⟨hx0,hx1⟩
 ·rw[nodup_append]
  exact⟨B.nd,by simp,λa ha c hc e=>by rw[mem_singleton.mp hc] at e;exact xr (e▸ha)⟩
 ·by_cases e:s=x
  ·subst e;rw[new];simp
  ·rw[old s s0 e,B.iff s s0 s1];simp[e]
 ·rcases Qs h with h|⟨rfl,rfl⟩
  ·obtain⟨a1,a2,a3⟩:=inr h
   rw[old s a1 a3];exact B.idx i s h
  ·exact⟨k+1,new,by omega,by omega⟩
 ·rcases Qs h1 with g1|⟨rfl,rfl⟩
  ·obtain⟨a1,a2,a3⟩:=inr g1
   rw[old s a1 a3] at h3
   rcases Qs h2 with g2|⟨rfl,rfl⟩
   ·obtain⟨b1,b2,b3⟩:=inr g2
    rw[old u b1 b3] at h4
    exact B.mono i j s u a l ij g1 g2 h3 h4
   ·rw[new] at h4
    cases h4
    exact B.top i t s k a b.at_ g1 b.k_ h3
  ·rcases Qs h2 with h2|⟨rfl,rfl⟩
   ·have:=yZ h2;omega
   ·rw[h3] at h4;cases h4;exact ael _
 ·have h1':s=t:=by
   rcases Qs h1 with h1|⟨e,_⟩
   ·rw[b.at_] at h1;exact(aaw h1).symm
   ·omega
  subst h1'
  rw[old s tr.1 tx,b.k_] at h3
  cases h3
  rcases Qs h2 with h2|⟨rfl,rfl⟩
  ·obtain⟨b1,b2,b3⟩:=inr h2
   rw[old u b1 b3] at h4
   exact B.top j s u k l b.at_ h2 b.k_ h4
  ·rw[new] at h4;cases h4;exact ael _
 ·by_cases e:s=x
  ·subst e
   rw[new]
   constructor
   ·intro q;have q:=aaw q;omega
   ·intro q;have:=(B.zero s s0 s1).mpr q;rw[hn] at this;cases this
  ·rw[old s s0 e];exact B.zero s s0 s1
 ·rcases mem_append.mp hs with q|q
  ·have sr:=B.rng s q
   have sx:s≠x:=λe=>xr (e▸q)
   rw[old s sr.1 sx] at h1
   obtain⟨p1,u,u1,u2,u3,u4⟩:=B.via s a q h1 h2
   refine⟨p1,u,u1,u2,u3,?_⟩
   rw[old u u2 λe=>by rw[e,hn] at u4;cases u4]
   exact u4
  ·have:=mem_singleton.mp q
   subst this
   rw[new] at h1
   cases h1
   exact⟨hp,t,ht,tr.1,tr.2,by rw[old t tr.1 tx,b.k_,show k+1-1=k by omega]⟩
 ·have h1':row[i]?=some u:=by rw[getElem?_append_left (by omega)] at h1;exact h1
  obtain⟨b1,b2,b3⟩:=inr h1'
  rw[old u b1 b3] at h2
  obtain⟨j,q1,q2⟩:=B.done i s u a hi h1' h2 s0 s1 ps hu
  by_cases e:s=x
  ·subst e;rw[hn] at q1;cases q1
  ·exact⟨j,by rw[old s s0 e];exact q1,q2⟩
 ·rw[getElem?_append_left pl];exact b.at_
 ·rw[old t tr.1 tx];exact b.k_
 ·rcases mem_append.mp hs with q|q
  ·obtain⟨j,q1,q2⟩:=b.uf s q ps
   by_cases e:s=x
   ·subst e;rw[hn] at q1;cases q1
   ·by_cases s0:0<=s
    ·exact⟨j,by rw[old s s0 e];exact q1,q2⟩
    ·refine⟨j,?_,q2⟩
     show(d.set x.toNat (some (k+1))).getD s.toNat none=some j
     have z:s.toNat=0:=by omega
     rw[U3 (by have:=B.len;omega)]
     by_cases w:s.toNat=x.toNat
     ·have xz:x=0:=by omega
      have q1':d.getD s.toNat none=some j:=q1
      have hn':d.getD x.toNat none=none:=hn
      rw[w] at q1'
      rw[q1'] at hn'
      cases hn'
     ·rw[if_neg w];exact q1
  ·rw[mem_singleton.mp q];exact⟨k+1,new,ael _⟩
theorem zJ6{C:Addr}{m:aF C}(g:Gr m n){goal:LI}(ht:∀x∈through,0<=x/\x<n)(hg:goal.Nodup/\∀x∈goal,0<=x/\x<n):W (uZ m through goal) (sY m.steps through goal n):=by
 unfold uZ
 have hp:=g.pos
 have hf:=g.few
 simp only[zC,aj,Xd g,dM]
 refine(zO5 g ht).imp λfl ⟨fl1,fl2⟩=>⟨⟨by omega,by omega⟩,?_⟩
 rw[Ii (λ_=>(none:Option Int))]
 have e:=CJ (n:=n) (by omega)
 refine⟨yU (by omega),vO (λi (d:List (Option Int))=>(d.length:Int)=n/\∀s:Int,0<=s->s<n->dg d s=if s∈goal.take i then some 0 else none) ⟨by rw[length_map];exact e,λs _ _=>?_⟩ (λi x d hi hI=>?_) λd hd=>?_⟩
 ·show(List.map (λ_=>(none:Option Int)) (rng n)).getD s.toNat none=_
  rw[getD_eq_getElem?_getD,getElem?_map]
  cases(rng n)[s.toNat]?<;>simp
 ·have hx:=hg.2 x (mem_of_getElem? hi)
  simp only[zC,aj]
  rw[SN hx.1 (by omega)]
  refine⟨by rw[length_set];exact hI.1,λs s0 s1=>?_⟩
  have tk:goal.take (i+1)=goal.take i++[x]:=by rw[take_add_one,hi]<;>rfl
  rw[zRu hI.1 hx.1 hx.2 s0,hI.2 s s0 s1,tk]
  by_cases q:s=x<;>simp[q]
 rw[take_length] at hd
 have base:Bf m.steps (· ∈ through) goal n d goal 0:=by
  have z:∀s:Int,0<=s->s<n->∀k,dg d s=some k->k=0/\s∈goal:=λs s0 s1 k h=>by
   rw[hd.2 s s0 s1] at h
   split at h
   ·rename_i q;cases h;exact⟨rfl,q⟩
   ·cases h
  refine⟨hd.1,hg.2,hg.1,λs s0 s1=>?_,λi s h=>?_,λi j s t k l _ h1 h2 h3 h4=>?_,λj s t k l h1 h2 h3 h4=>?_,λs s0 s1=>?_,λs k hs h1 h2=>absurd hs h2,λi s t k hi=>by omega⟩
  ·rw[hd.2 s s0 s1];by_cases q:s∈goal<;>simp[q]
  ·have hs:=mem_of_getElem? h
   have:=hg.2 s hs
   exact⟨0,by rw[hd.2 s this.1 this.2,if_pos hs],ael _,by omega⟩
  ·have a1:=hg.2 s (mem_of_getElem? h1)
   have a2:=hg.2 t (mem_of_getElem? h2)
   have:=(z s a1.1 a1.2 k h3).1
   have:=(z t a2.1 a2.2 l h4).1
   omega
  ·have a1:=hg.2 s (mem_of_getElem? h1)
   have a2:=hg.2 t (mem_of_getElem? h2)
   have:=(z s a1.1 a1.2 k h3).1
   have:=(z t a2.1 a2.2 l h4).1
   omega
  ·rw[hd.2 s s0 s1];by_cases q:s∈goal<;>simp[q]
 have aaf:n.toNat<=60:=by omega
 refine Fd (λs=>∃pl:Nat,s.2.2=(pl:Int)/\Bf m.steps (· ∈ through) goal n s.1 s.2.1 pl) (λs=>n.toNat-s.2.2.toNat) ⟨0,rfl,base⟩ (show n.toNat-(0:Int).toNat<fuel from aaz (Nat.sub_le _ _) (aaz aaf (by decide))) λs ⟨pl,hpl,B⟩=>?_
 rw[aj]
 have rl:s.2.1.length<=n.toNat:=wG B.nd λx hx=>by have:=B.rng x hx;omega
 by_cases lt:s.2.2<(s.2.1.length:Int)
 ·rw[decide_eq_true lt,if_pos rfl]
  simp only[zC,aj]
  rw[dR (by omega)]
  have pll:pl<s.2.1.length:=by omega
  have e1:s.2.2.toNat=pl:=by omega
  rw[e1]
  refine⟨_,aat pll,?_⟩
  have hat:s.2.1[pl]?=some s.2.1[pl]:=aat pll
  generalize s.2.1[pl]=t at hat
  have tr:=B.rng t (mem_of_getElem? hat)
  obtain⟨k,hk,k0,k1⟩:=B.idx pl t hat
  refine(zSp g tr.1 tr.2).imp λxs hxs=>?_
  refine vO (λi (r:List (Option Int)×LI)=>Bm m.steps (· ∈ through) goal n r.1 r.2 pl t k (xs.take i)) ⟨B,hat,hk,λs hs=>by cases hs⟩ (λi x r hi b=>?_) λr b=>?_
  ·have hx:=(hxs x).mp (mem_of_getElem? hi)
   have tk:xs.take (i+1)=xs.take i++[x]:=by rw[take_add_one,hi]<;>rfl
   rw[tk]
   simp only[zC,aj]
   rw[dR hx.1]
   have fx:=fl2 x hx.1 hx.2.1
   have fl3:x.toNat<fl.length:=by omega
   refine⟨_,aat fl3,?_⟩
   rw[getD_eq_getElem?_getD,aat fl3] at fx
   have fx:fl[x.toNat]=decide (x∈through):=fx
   rw[fx]
   have dl:x.toNat<r.1.length:=by have:=b.bf.len;omega
   have dx:dg r.1 x=r.1[x.toNat]:=by show r.1.getD x.toNat none=_;rw[getD_eq_getElem?_getD,aat dl];rfl
   by_cases px:x∈through
   ·rw[decide_eq_true px,if_pos rfl,zC,dR hx.1]
    refine⟨_,aat dl,?_⟩
    rw[<-dx,aj]
    cases hdx:dg r.1 x with
    |none =>
     simp only[Option.isNone_none,if_true,zC,aj]
     have tr':t.toNat<r.1.length:=by have:=b.bf.len;omega
     rw[dR tr.1]
     refine⟨_,aat tr',?_⟩
     have ek:r.1[t.toNat]=some k:=by
      have:=b.k_
      have z:r.1.getD t.toNat none=some k:=this
      rw[getD_eq_getElem?_getD,aat tr'] at z
      exact z
     rw[ek,aj,SN hx.1 (by have:=b.bf.len;omega),Fb]
     have rl2:r.2.length<=n.toNat:=wG b.bf.nd λx hx=>by have:=b.bf.rng x hx;omega
     exact⟨yU (by omega),b.put hx.1 hx.2.1 px hdx hx.2.2⟩
    |some j =>
     simp only[Option.isNone_some,aa1,if_false,aj]
     refine⟨b.bf,b.at_,b.k_,λs hs ps=>?_⟩
     rcases mem_append.mp hs with q|q
     ·exact b.uf s q ps
     ·rw[mem_singleton.mp q]
      have hin:x∈r.2:=(b.bf.iff x hx.1 hx.2.1).mp (by rw[hdx];rfl)
      obtain⟨ii,hii⟩:=mem_iff_getElem?.mp hin
      exact⟨j,hdx,b.bf.top ii t x k j b.at_ hii b.k_ hdx⟩
   ·rw[decide_eq_false px,if_neg (by decide),aj]
    simp only[aa1,if_false,aj]
    refine⟨b.bf,b.at_,b.k_,λs hs ps=>?_⟩
    rcases mem_append.mp hs with q|q
    ·exact b.uf s q ps
    ·rw[mem_singleton.mp q] at ps;exact absurd ps px
  ·rw[take_length] at b
   refine⟨⟨pl+1,by show s.2.2+1=_;omega,?_⟩,?_⟩
   ·have B':=b.bf
    refine⟨B'.len,B'.rng,B'.nd,B'.iff,B'.idx,B'.mono,λj u v a l h1 h2 h3 h4=>?_,B'.zero,B'.via,λi u v a hi h1 h2 u0 u1 pu hu=>?_⟩
    ·have q1:=B'.mono pl (pl+1) t u k a (by omega) b.at_ h1 b.k_ h3
     have q2:=B'.top j t v k l b.at_ h2 b.k_ h4
     omega
    ·by_cases q:i=pl
     ·subst q
      rw[b.at_] at h1
      cases h1
      rw[b.k_] at h2
      cases h2
      exact b.uf u ((hxs u).mpr ⟨u0,u1,hu⟩) pu
     ·exact B'.done i u v a (by omega) h1 h2 u0 u1 pu hu
   ·show n.toNat-(s.2.2+1).toNat<n.toNat-pl
    omega
 ·rw[decide_eq_false lt,if_neg (by decide)]
  have all:∀t∈s.2.1,∃i,i<pl/\s.2.1[i]?=some t:=λt h=>by
   obtain⟨i,hi⟩:=mem_iff_getElem?.mp h
   exact⟨i,by have:=yZ hi;omega,hi⟩
  refine⟨B.len,λu k u0 u1 h=>?_,B.zero,λu k u0 u1 h hu=>?_,λu t k u0 u1 t0 t1 hu ht hk=>?_⟩
  ·have hin:=(B.iff u u0 u1).mp (by rw[h];rfl)
   obtain⟨i,hi⟩:=mem_iff_getElem?.mp hin
   obtain⟨k',e1,e2,e3⟩:=B.idx i u hi
   rw[h] at e1
   cases e1
   have:=yZ hi
   exact⟨e2,by omega⟩
  ·exact B.via u k ((B.iff u u0 u1).mp (by rw[h];rfl)) h hu
  ·obtain⟨i,h1,h2⟩:=all t ((B.iff t t0 t1).mp (by rw[hk];rfl))
   exact B.done i u t k h1 h2 hk u0 u1 hu ht
theorem NT{xss:List LI}(hl:(xss.length:Int)=n)(h0:0<=s)(h1:s<n):xss[s.toNat]?=some (nxt xss s):=by
 have:s.toNat<xss.length:=by omega
 unfold nxt
 rw[getD_eq_getElem?_getD,aat this]
 rfl
theorem zVl:∀{xs ys:LI},xs.Pairwise (· < ·)->ys.Pairwise (· < ·)->(∀s,s∈xs↔s∈ys)->xs=ys
 |[],[],_,_,_=>rfl
 |[],y::ys,_,_,h=>by have:=(h y).mpr mem_cons_self;cases this
 |x::xs,[],_,_,h=>by have:=(h x).mp mem_cons_self;cases this
 |x::xs,y::ys,h1,h2,h=>by
  have a1:=pairwise_cons.mp h1
  have a2:=pairwise_cons.mp h2
  have e:x=y:=by
   rcases mem_cons.mp ((h x).mp mem_cons_self) with q|q
   ·exact q
   ·rcases mem_cons.mp ((h y).mpr mem_cons_self) with r|r
    ·exact r.symm
    ·have:=a1.1 y r;have:=a2.1 x q;omega
  subst e
  rw[zVl a1.2 a2.2 λs=>?_]
  constructor
  ·intro q
   rcases mem_cons.mp ((h s).mp (mem_cons_of_mem _ q)) with r|r
   ·have:=a1.1 s q;omega
   ·exact r
  ·intro q
   rcases mem_cons.mp ((h s).mpr (mem_cons_of_mem _ q)) with r|r
   ·have:=a2.1 s q;omega
   ·exact r
theorem zVd(n:Int):(rng n).Pairwise (· < ·):=by
 unfold rng
 rw[List.pairwise_map]
 exact List.pairwise_lt_range.imp λh=>by show(_:Int)<_;simpa using h
def pick(n:Int)(p:Int->Bool):LI:=(rng n).filter p
theorem eG:s∈pick n p↔0<=s/\s<n/\p s=true:=by
 unfold pick
 rw[mem_filter,iV,and_assoc]
theorem yT(n:Int)(p:Int->Bool):aH n (pick n p):=⟨(zVd n).filter p,λx hx=>by have:=eG.mp hx;omega⟩
theorem GF(h:aH n xs)(e:∀s,0<=s->s<n->(s∈xs↔p s=true)):xs=pick n p :=
 zVl h.1 (yT n p).1 λs=>by
  rw[eG]
  constructor
  ·intro q;have:=h.2 s q;exact⟨this.1,this.2,(e s this.1 this.2).mp q⟩
  ·intro⟨a,b,c⟩;exact(e s a b).mpr c
theorem zUk{d:List (Option Int)}(hl:(d.length:Int)=n):Av d=(rng n).map λs=>(s,dg d s):=by
 refine ext_getElem? λi=>?_
 have e:n.toNat=d.length:=by omega
 by_cases q:i<d.length
 ·have h1:(rng n)[i]?=some (i:Int):=by unfold rng;rw[getElem?_map,getElem?_range (by omega)];rfl
  rw[getElem?_map,h1]
  unfold Av
  rw[List.getElem?_zip_eq_some (z:=((i:Int),dg d i))|>.mpr ⟨?_,?_⟩]
  ·rfl
  ·rw[getElem?_map,getElem?_range q];rfl
  ·show d[i]?=some (d.getD ((i:Int).toNat) none)
   rw[abu,getD_eq_getElem?_getD,aat q];rfl
 ·rw[abk (by rw[zJl];omega),abk (by rw[length_map];unfold rng;rw[length_map,length_range];omega)]
theorem GJ:W (dput kvs k v) Q↔kvs.length<cap/\Q (pK kvs (abn k) v):=by
 unfold dput
 rw[Pr]
 constructor
 ·intro⟨h1,h2⟩
  by_cases h:kvs.length<cap
  ·exact⟨h,aj.mp (h1 h)⟩
  ·exact absurd (h2 h) (by rw[Ih];exact id)
 ·intro⟨h,q⟩
  exact⟨λ_=>aj.mpr q,λz=>absurd h z⟩
theorem zUw:W (Tc kvs k v) Q↔kvs.length<cap/\Q (pK kvs (ab5 k) v):=by
 unfold Tc
 rw[Pr]
 constructor
 ·intro⟨h1,h2⟩
  by_cases h:kvs.length<cap
  ·exact⟨h,aj.mp (h1 h)⟩
  ·exact absurd (h2 h) (by rw[Ih];exact id)
 ·intro⟨h,q⟩
  exact⟨λ_=>aj.mpr q,λz=>absurd h z⟩
def C_(n:Int)(xs:LI):Prop:=xs.Nodup/\xs.length<=100/\∀z∈xs,0<=z/\z<n
theorem zO4(h:0<=z/\z<n):Ut z n=some true:=by
 unfold Ut
 rw[if_pos rfl,if_pos (show(!false)=true from rfl),decide_eq_true h.1,if_pos rfl,decide_eq_true h.2]
theorem zCg(h:C_ n xs)(x:Str):W (xJ xs n x) λ_=>True:=by
 unfold xJ
 rw[zC,aj,zC,zC,aj]
 refine vO (λi s=>s.length<=i/\∀z,(jg s z).isSome=true->z∈xs.take i) ⟨abd _,λz hz=>by cases hz⟩ (λi y s hi hI=>?_) λs _=>aj.mpr trivial
 have il:=yZ hi
 rw[zO4 (h.2.2 y (mem_of_getElem? hi)),zC,zC,zC,aj,aj,abt,if_neg (by decide),aj,zC]
 have hn:(jg s y).isSome=false:=by
  cases q:(jg s y).isSome with
  |false=>rfl
  |true=>exact absurd (hI.2 y q) (zGn h.1 hi)
 have hn':(jg (Dc.mk s).kv y).isSome=false:=hn
 rw[hn',if_neg (by decide),aj,zC,GJ]
 have l1:=h.2.1
 refine⟨yU (by omega),?_⟩
 rw[aj]
 have l2:=zVj s (abn y) true
 refine⟨by omega,λz hz=>?_⟩
 rw[uR hi]
 have e:jg (pK s (abn y) true) z=if(abn z:Key)=abn y then some true else jg s z:=zVp s (abn y) (abn z) true
 rw[e] at hz
 by_cases q:(abn z:Key)=abn y
 ·exact .inr (afp q)
 ·rw[if_neg q] at hz
  exact .inl (hI.2 z hz)
theorem Jk(a:Str){i:Nat}(h:i<1000):W (Lg a (i:Int)) λ_=>True:=by
 unfold Lg
 rw[if_pos (zQw (by omega)),aj]
 trivial
theorem zM9{xss:List LI}(hl:(xss.length:Int)=n)(h0:1<=n)(h1:n<=60)(h:∀xs∈xss,xs≠[]/\C_ n xs):W (vE xss) λ_=>True:=by
 unfold vE
 rw[zC,aj,zC,zC,hl,decide_eq_false (by omega),if_neg (by decide),aj,decide_eq_false (by omega),if_neg (by decide),aj,zC,zC,aj]
 refine vO (λ_ _=>True) trivial (λi y s hi _=>?_) λs _=>aj.mpr trivial
 obtain⟨e1,e2⟩:=YS hi
 have il:=yZ e2
 obtain⟨ne,ok⟩:=h y.2 (mem_of_getElem? e2)
 rw[e1]
 simp only[zC]
 refine(Jk "steps of stand " (i:=i) (by omega)).imp λt _=>?_
 rw[aj,aj,aj]
 refine(zCg ok t).imp λ_ _=>?_
 rw[decide_eq_false (λz=>ne (length_eq_zero_iff.mp (by omega))),if_neg (by decide),aj,aj]
 trivial
theorem zO7{xss:List LI}(hl:xss.length<=100)(h:∀xs∈xss,C_ n xs):W (uB xss n) λ_=>True:=by
 unfold uB
 rw[zC,zC,aj]
 refine vO (λ_ _=>True) trivial (λi y s hi _=>?_) λs _=>aj.mpr trivial
 obtain⟨e1,e2⟩:=YS hi
 have il:=yZ e2
 rw[e1]
 simp only[zC]
 refine(Jk "fair set " (i:=i) (by omega)).imp λt _=>?_
 rw[aj,aj,aj]
 refine(zCg (h y.2 (mem_of_getElem? e2)) t).imp λ_ _=>?_
 rw[aj]
 trivial
def zSj(n:Int)(ms:List (Str×LI)):Prop:=(ms.map (·.1)).Nodup/\ms.length<=100/\∀m∈ms,uY m.1=some true/\m.1.length<=1000/\C_ n m.2
theorem zNa(h:zSj n ms):W (vG ms n) λ_=>True:=by
 unfold vG
 rw[zC,aj,zC,zC,aj]
 refine vO (λi s=>s.length<=i/\∀z,(Im s z).isSome=true->z∈(ms.map (·.1)).take i) ⟨abd _,λz hz=>by cases hz⟩ (λi y s hi hI=>?_) λs _=>aj.mpr trivial
 have il:=yZ hi
 have hi':(ms.map (·.1))[i]?=some y.1:=by rw[getElem?_map,hi];rfl
 obtain⟨nm,ln,ok⟩:=h.2.2 y (mem_of_getElem? hi)
 have nin:y.1∉(ms.map (·.1)).take i:=λhz=>by
  obtain⟨j,hj⟩:=mem_iff_getElem?.mp hz
  have hji:j<i:=by
   have:=yZ hj
   rw[length_take] at this
   omega
  rw[getElem?_take_of_lt hji] at hj
  have a1:=yZ hi'
  have a2:=yZ hj
  rw[aat a1] at hi'
  rw[aat a2] at hj
  have e:(ms.map (·.1))[j]=(ms.map (·.1))[i]:=(aaw hj).trans (aaw hi').symm
  have:=(getElem_inj h.1).mp e
  omega
 rw[nm,zC,zC,zC,aj,aj,abt,if_neg (by decide),aj,zC]
 have hn:(Im (Dc.mk s).kv y.1).isSome=false:=by
  cases q:(Im s y.1).isSome with
  |false=>rfl
  |true=>exact absurd (hI.2 y.1 q) nin
 rw[hn,if_neg (by decide),aj,zC,zUw]
 have l1:=h.2.1
 refine⟨yU (by omega),?_⟩
 simp only[zC]
 have fs:W (Py "mark " y.1) λ_=>True:=by
  unfold Py
  rw[if_pos ln,aj]
  trivial
 refine fs.imp λt _=>?_
 rw[aj,aj,aj]
 refine(zCg ok t).imp λ_ _=>?_
 rw[aj]
 have l2:=zVj s (ab5 y.1) true
 refine⟨by omega,λz hz=>?_⟩
 rw[uR hi']
 have e:Im (pK s (ab5 y.1) true) z=if(ab5 z:Key)=ab5 y.1 then some true else Im s z:=zVp s (ab5 y.1) (ab5 z) true
 rw[e] at hz
 by_cases q:(ab5 z:Key)=ab5 y.1
 ·exact .inr (Sum.inr.inj q)
 ·rw[if_neg q] at hz
  exact .inl (hI.2 z hz)
theorem zLq{xss:List LI}(h:xss.length<=100):Qk xss=some xss:=by
 have q:W (Qk xss) (· = xss):=by
  unfold Qk
  rw[zC,aj,Ii (λx=>x),map_id']
  exact⟨yU (by omega),rfl⟩
 obtain⟨a,e,rfl⟩:=q
 exact e
theorem U4(C:Addr){xss:List LI}{mo:Option CK}{fo:Option LLI}(hl:(xss.length:Int)=n)(h0:1<=n)(h1:n<=60)(h:∀xs∈xss,xs≠[]/\C_ n xs)(hm:zSj n (mo.getD []))(hf:(fo.getD []).length<=100/\∀xs∈fo.getD [],C_ n xs) :
  W (Ql C xss mo fo) λm=>Gr m n/\m.steps=xss/\m.marks=mo.getD []/\m.fair=fo.getD []:=by
 unfold Ql Wk
 rw[zC]
 refine(zM9 hl h0 h1 h).imp λ_ _=>?_
 rw[zC,hl]
 refine(zNa hm).imp λ_ _=>?_
 rw[zC]
 refine(zO7 hf.1 hf.2).imp λ_ _=>?_
 have m1:=hm.2.1
 rw[zLq (by omega),zC,aj,zC,Ii (λx:Str×LI=>(x.1,x.2))]
 refine⟨yU (by omega),?_⟩
 have e:(mo.getD []).map (λx:Str×LI=>(x.1,x.2))=mo.getD []:=map_id' _
 rw[zLq hf.1,zC,aj,zC]
 have hv:Qi xss=some (srcs xss):=by
  unfold Qi
  rw[if_pos ⟨by omega,rfl,λxs hx=>by obtain⟨a,b,c,d⟩:=h xs hx;exact⟨a,b,c,λz hz=>by have:=d z hz;omega⟩⟩]
 rw[hv,aj,aj,e]
 exact⟨⟨hl,h0,h1,λxs hx=>by obtain⟨a,b,c,d⟩:=h xs hx;exact⟨a,b,d⟩,rfl⟩,rfl,rfl,rfl⟩
theorem Xe(h:aH n xs)(v8:n<=60):C_ n xs:=⟨h.nodup,by
 by_cases hn:0<=n
 ·have:=wG (n:=n.toNat) h.nodup λx hx=>by have:=h.2 x hx;omega
  omega
 ·cases xs with
  |nil=>exact abd _
  |cons x xs=>have:=h.2 x mem_cons_self;omega,h.2⟩
theorem GK(h:NQ n xs):xs≠[]/\C_ n xs:=⟨h.1,h.2.1,by have:=h.2.2.1;omega,h.2.2.2⟩
theorem zFx(hx:0<=x)(hy:0<=y):abf x y=((x.toNat&&&y.toNat:Nat):Int):=by
 unfold abf
 rw[decide_eq_true hx,decide_eq_true hy]
theorem zMu(hx:0<=x)(hy:0<=y):ac8 x y=((x.toNat|||y.toNat:Nat):Int):=by
 have h1:¬0<=ac2 x:=by unfold ac2;omega
 have h2:¬0<=ac2 y:=by unfold ac2;omega
 have nn:∀z:Int,ac2 (ac2 z)=z:=λz=>by unfold ac2;omega
 unfold ac8 abf
 rw[decide_eq_false h1,decide_eq_false h2]
 dsimp only
 rw[nn,nn,nn]
def bt(x t:Int):Bool:=x.toNat.testBit t.toNat
theorem Jl(hx:0<=x)(hy:0<=y)(t:Int):bt (ac8 x y) t=(bt x t||bt y t):=by
 unfold bt
 rw[zMu hx hy,abu,Nat.testBit_or]
theorem zVz(hx:0<=x)(hy:0<=y)(t:Int):bt (abf x y) t=(bt x t&&bt y t):=by
 unfold bt
 rw[zFx hx hy,abu,Nat.testBit_and]
theorem Jm(hx:0<=x)(hy:0<=y):0<=ac8 x y:=by rw[zMu hx hy];exact ace _
theorem zV2(hx:0<=x)(hy:0<=y):0<=abf x y:=by rw[zFx hx hy];exact ace _
theorem GP(t:Int):bt 0 t=false:=by unfold bt;simp
theorem NZ(ht:0<=t)(hu:0<=u):bt (1*2^t.toNat) u=decide (u=t):=by
 unfold bt
 rw[Int.one_mul,show((2:Int)^t.toNat).toNat=2^t.toNat by
  rw[show((2:Int)^t.toNat)=((2^t.toNat:Nat):Int) by simp]
  exact abu _,Nat.testBit_two_pow]
 rw[abb,decide_eq_true_iff,decide_eq_true_iff]
 omega
theorem zPn{x:Int}(hx:0<=x)(k:Nat):0<=x/2^k:=Int.ediv_nonneg hx (Int.le_of_lt (Int.pow_pos (by decide)))
theorem GQ{x:Int}(hx:0<=x)(k:Nat):(x/2^k).toNat=x.toNat>>>k:=by
 obtain⟨m,rfl⟩:=Int.eq_ofNat_of_zero_le hx
 rw[Nat.shiftRight_eq_div_pow,abu]
 have:((m:Int)/2^k)=((m/2^k:Nat):Int):=by simp
 rw[this,abu]
theorem zR7{t:Int}(hx:0<=x):bt (x/2^t.toNat) 0=bt x t:=by
 unfold bt
 rw[GQ hx,Int.toNat_zero,Nat.testBit_shiftRight]
 rfl
theorem zVy(hx:0<=x):(abf x 1 != 0)=bt x 0:=by
 rw[zFx hx (by decide)]
 unfold bt
 rw[Nat.testBit]
 simp only[Int.toNat_zero,Nat.shiftRight_zero,show(1:Int).toNat=1 from rfl]
 rw[Nat.and_comm]
 rw[abb]
 simp only[bne_iff_ne,ne_eq]
 omega
theorem zU0(h:∀x∈xs,0<=x/\x<n)(v8:n<=60):W (Qo xs) λb=>0<=b/\∀t:Int,0<=t->bt b t=decide (t∈xs):=by
 unfold Qo
 rw[zC,aj,zC,zC,aj]
 refine vO (λi s=>0<=s/\∀t:Int,0<=t->bt s t=decide (t∈xs.take i)) ⟨by decide,λt _=>by rw[GP];simp⟩ (λi x s hi hI=>?_) λs hI=>?_
 ·obtain⟨h0,hb⟩:=hI
  have xb:=h x (mem_of_getElem? hi)
  have e:vf 1 x=some (1*2^x.toNat):=by unfold vf;rw[if_pos ⟨xb.1,by omega,by decide⟩]
  have tk:xs.take (i+1)=xs.take i++[x]:=by rw[take_add_one,hi]<;>rfl
  have p0:(0:Int)<=1*2^x.toNat:=by rw[Int.one_mul];exact Int.le_of_lt (Int.pow_pos (by decide))
  rw[zC,zC,e,aj,aj,aj]
  refine⟨Jm h0 p0,λt ht=>?_⟩
  rw[Jl h0 p0,hb t ht,NZ xb.1 ht,tk,abb]
  simp
 ·rw[aj]
  rw[take_length] at hI
  exact hI
def rb(rows:LI)(s t:Int):Bool:=bt (rows.getD s.toNat 0) t
theorem U5{rows:LI}(hl:(rows.length:Int)=n)(h0:0<=s)(h1:s<n):L2.bx rows s=some (rows.getD s.toNat 0):=by
 rw[Wf h0,getD_eq_getElem?_getD,aat (by omega)]
 rfl
def Jo(rows:LI):Prop:=∀i:Nat,0<=rows.getD i 0
theorem zMt{rows:LI}{n s t:Int}(hl:(rows.length:Int)=n)(nn:Jo rows)(h0:0<=s)(h1:s<n)(t0:0<=t) :
  ((((L2.bx rows s).bind λa=>jG a t).bind λa=>some (abf a 1)).bind λa=>some (a != 0))=some (rb rows s t):=by
 rw[U5 hl h0 h1]
 show(((jG _ t).bind _).bind _)=_
 unfold jG
 rw[if_pos t0]
 show some (abf (rows.getD s.toNat 0/2^t.toNat) 1 != 0)=_
 rw[zVy (zPn (nn _) _),zR7 (nn _)]
 rfl
theorem zSr{rows:LI}{n s t:Int}(hl:(rows.length:Int)=n)(nn:Jo rows)(h0:0<=s)(h1:s<n)(t0:0<=t)(t1:t<n) :
  (((((L2.bx rows s).bind λa=>jG a t).bind λa=>((L2.bx rows t).bind λb=>jG b s).bind λb=>some (abf a b)).bind λa=>some (abf a 1)).bind λa=>some (a != 0))=some (rb rows s t&&rb rows t s):=by
 rw[U5 hl h0 h1,U5 hl t0 t1]
 show((((jG _ t).bind λa=>(jG _ s).bind _).bind _).bind _)=_
 unfold jG
 rw[if_pos t0,if_pos h0]
 show some (abf (abf (rows.getD s.toNat 0/2^t.toNat) (rows.getD t.toNat 0/2^s.toNat)) 1 != 0)=_
 have a1:=zPn (nn s.toNat) t.toNat
 have a2:=zPn (nn t.toNat) s.toNat
 rw[zVy (zV2 a1 a2),zVz a1 a2,zR7 (nn _),zR7 (nn _)]
 rfl
theorem zVe{rows:LI}(hl:(rows.length:Int)=n)(x0:0<=x)(x1:x<n)(s0:0<=s):rb (rows.set x.toNat v) s t=if s=x then bt v t else rb rows s t:=by
 unfold rb
 rw[U3 (by omega)]
 by_cases e:s=x
 ·subst e;rw[if_pos rfl,if_pos rfl]
 ·rw[if_neg (by omega),if_neg e]
theorem zVk{rows:LI}(hl:(rows.length:Int)=n)(x0:0<=x)(x1:x<n)(nn:Jo rows)(hv:0<=v):Jo (rows.set x.toNat v):=λi=>by
 rw[U3 (by omega)]
 split
 ·exact hv
 ·exact nn i
inductive jC(xss:List LI)(U:LI):Int->Int->Prop
 |one {s t:Int}:t∈nxt xss s->t∈U->jC xss U s t
 |step {s u t:Int}:u∈nxt xss s->u∈U->jC xss U u t->jC xss U s t
theorem jC.trans(h:jC xss U s t)(k:jC xss U t u):jC xss U s u:=by
 induction h with
 |one a b=>exact .step a b k
 |step a b _ ih=>exact .step a b (ih k)
theorem jC.mem(h:jC xss U s t):t∈U:=by
 induction h with
 |one _ b=>exact b
 |step _ _ _ ih=>exact ih
theorem jC.mono{xss:List LI}{U V:LI}{s t:Int}(h:jC xss U s t)(k:∀x∈U,x∈V):jC xss V s t:=by
 induction h with
 |one a b=>exact .one a (k _ b)
 |step a b _ ih=>exact .step a (k _ b) ih
structure oH(xss:List LI)(U rows:LI):Prop where
 nn:Jo rows
 edge:∀s∈U,∀t∈U,t∈nxt xss s->rb rows s t=true
 sound:∀s∈U,∀t:Int,0<=t->rb rows s t=true->jC xss U s t
 trans:∀s∈U,∀u∈U,∀t:Int,0<=t->rb rows s u=true->rb rows u t=true->rb rows s t=true
theorem zMq{α β:Type}{c:α->Option Bool}{f:α->Option β}{p:α->Bool}{g:α->β}:∀{xs:List α},(∀x∈xs,c x=some (p x))->(∀x∈xs,f x=some (g x))->wM c f xs=some ((xs.filter p).map g)
 |[],_,_=>rfl
 |x::xs,hc,hf=>by
  have ih:=zMq (xs:=xs) (λy hy=>hc y (mem_cons_of_mem _ hy)) λy hy=>hf y (mem_cons_of_mem _ hy)
  show((c x).bind λb=>if b=true then(f x).bind λy=>(wM c f xs).bind λys=>some (y::ys) else wM c f xs)=_
  rw[hc x mem_cons_self,bnd,hf x mem_cons_self,ih,filter_cons]
  cases p x with
  |true=>rw[if_pos rfl,if_pos rfl];rfl
  |false=>rw[if_neg (by decide),if_neg (by decide)]
theorem U6{α β:Type}{c:α->Option Bool}{f:α->Option β}{p:α->Bool}{g:α->β}{xs:List α}(hl:xs.length<cap)(hc:∀x∈xs,c x=some (p x))(hf:∀x∈xs,f x=some (g x)):wP c f xs=some ((xs.filter p).map g):=by
 unfold wP
 rw[if_pos hl]
 exact zMq hc hf
theorem zVc{C:Addr}{m:aF C}(g:Gr m n)(h0:0<=s)(h1:s<n):nxt m.steps s∈m.steps:=mem_of_getElem? (NT g.len h0 h1)
theorem zLp{C:Addr}{m:aF C}(g:Gr m n)(h0:0<=s)(h1:s<n):W (yY m s) λxs=>xs.length<=60/\∀x,x∈xs↔x∈nxt m.steps s:=by
 unfold yY
 have f:=g.few
 obtain⟨_,nd,rg⟩:=g.row _ (zVc g h0 h1)
 have l:=wG (n:=n.toNat) nd λx hx=>by have:=rg x hx;omega
 rw[zC,dR h0]
 refine⟨_,NT g.len h0 h1,?_⟩
 unfold Fe
 rw[if_pos (by omega),aj]
 refine⟨by rw[(vV _).length_eq];omega,λx=>(vV _).mem_iff⟩
def dl(xs:LI):List (Key×Bool):=xs.map λx=>((abn x:Key),true)
theorem zRs:∀(xs:LI)(x:Int),(jg (dl xs) x).isSome=decide (x∈xs)
 |[],x=>by simp[dl,jg,gK]
 |y::xs,x=>by
  have ih:=zRs xs x
  unfold jg gK dl at ih ⊢
  rw[map_cons,find?_cons]
  by_cases e:y=x
  ·subst e;simp
  ·rw[decide_eq_false (show¬((abn y:Key),true).1=(abn x:Key) fromλz=>e (afp z))]
   rw[ih,abb,decide_eq_true_eq,decide_eq_true_eq,mem_cons]
   exact⟨.inr,λh=>h.resolve_left λz=>e z.symm⟩
theorem N5(h:x∉xs):pK (dl xs) (abn x) true=dl (xs++[x]):=by
 unfold pK
 have:((dl xs).any λkv=>decide (kv.1=(abn x:Key)))=false:=by
  rw[zRc]
  have:=zRs xs x
  rw[decide_eq_false h] at this
  exact this
 rw[if_neg (by rw[this];decide)]
 unfold dl
 rw[map_append]
 rfl
theorem N6(xs:LI):(dl xs).length=xs.length:=length_map ..
theorem N7:W (dput kvs k v) Q↔kvs.length<cap/\Q (pK kvs (abn k) v):=by
 unfold dput
 split
 ·rename_i h;rw[aj];exact⟨λq=>⟨h,q⟩,λq=>q.2⟩
 ·rename_i h;rw[Ih];exact⟨abv,λq=>h q.1⟩
section
variable{S α β:Type}
theorem zSd{step:S->α->Option (Out S β)}{Q:Out S β->Prop}(I:Nat->S->Prop)(h0:I 0 s)(hs:∀i x s,xs[i]?=some x->I i s->W (step s x) λo=>(∃s',o=.nx s'/\I (i+1) s')\/∃b,o=.rt b/\Q (.rt b))(hd:∀s,I xs.length s->Q (.nx s)):W (uC step xs s) Q:=by
 have key:∀(ys:List α)(i:Nat)(s:S),(∀j x,ys[j]?=some x->xs[i+j]?=some x)->i+ys.length=xs.length->I i s->W (uC step ys s) Q:=by
  intro ys
  induction ys with
  |nil=>intro i s _ hl h;exact⟨.nx s,rfl,hd s ((show i=xs.length from hl)▸h)⟩
  |cons y ys ih =>
   intro i s hy hl h
   rw[zGu,zC]
   refine(hs i y s (hy 0 y rfl) h).imp ?_
   rintro o (⟨s',rfl,h'⟩|⟨b,rfl,h'⟩)
   ·refine ih (i+1) s' (λj x hx=>?_) (by rw[length_cons] at hl;omega) h'
    have:=hy (j+1) x (by simpa using hx)
    rw[show i+1+j=i+(j+1) by omega]
    exact this
   ·exact⟨.rt b,rfl,h'⟩
 exact key xs 0 s (λj x h=>by rw[acy];exact h) (acy _) h0
end
theorem Xf{α:Type}{xs:List α}{x:α}(h:xs[i]?=some x):xs.take (i+1)=xs.take i++[x]:=by rw[take_add_one,h]<;>rfl
theorem Jp{xs:LI}{i:Nat}{x s:Int}(h:xs[i]?=some x):s∈xs.take (i+1)↔s∈xs.take i\/s=x:=by rw[Xf h,mem_append,mem_singleton]
theorem Qt{C:Addr}{m:aF C}(g:Gr m n)(h0:0<=s)(h1:s<n):∀x∈nxt m.steps s,0<=x/\x<n:=(g.row _ (zVc g h0 h1)).2.2
theorem zSl{C:Addr}{m:aF C}(g:Gr m n)(hU:∀x∈U,0<=x/\x<n):W (vC m U) λrows=>(rows.length:Int)=n/\oH m.steps U rows:=by
 unfold vC
 have few:=g.few
 have pos:=g.pos
 rw[zC]
 refine(zU0 hU few).imp λinside ⟨i0,ib⟩=>?_
 rw[zC,zC,zC,Xd g,aj,dM]
 refine⟨⟨by omega,by omega⟩,?_⟩
 have rl:=CJ (n:=n) (by omega)
 rw[Ii (λ_=>(0:Int))]
 refine⟨yU (by omega),?_⟩
 rw[zC,zC,aj]
 refine vO (λi rows=>(rows.length:Int)=n/\Jo rows/\∀s∈U.take i,∀t:Int,0<=t->rb rows s t=decide (t∈nxt m.steps s/\t∈U)) ⟨by rw[length_map];exact rl,λi=>?_,λs hs=>by simp at hs⟩ (λi x rows hi hI=>?_) λrows hI=>?_
 ·rw[getD_eq_getElem?_getD,getElem?_map]
  cases(rng n)[i]?<;>exact ael 0
 ·obtain⟨hl,nn,hb⟩:=hI
  have xb:=hU x (mem_of_getElem? hi)
  rw[zC,zC,zC,zC,zC]
  refine(zLp g xb.1 xb.2).imp λns ⟨_,hns⟩=>?_
  rw[aj]
  refine(zU0 (xs:=ns) (λy hy=>Qt g xb.1 xb.2 y ((hns y).mp hy)) few).imp λb ⟨b0,bb⟩=>?_
  rw[aj,SN xb.1 (by omega),aj]
  refine⟨by rw[length_set];exact hl,zVk hl xb.1 xb.2 nn (zV2 b0 i0),λs hs t ht=>?_⟩
  rw[Jp hi] at hs
  have s0:0<=s:=hs.elim (λh=>(hU s (List.mem_of_mem_take h)).1) λh=>h▸xb.1
  rw[zVe hl xb.1 xb.2 s0]
  by_cases e:s=x
  ·subst e
   rw[if_pos rfl,zVz b0 i0,bb t ht,ib t ht,abb]
   simp[hns]
  ·rw[if_neg e]
   exact hb s (hs.resolve_right e) t ht
 ·obtain⟨hl,nn,hb⟩:=hI
  rw[take_length] at hb
  rw[zC,zC,aj]
  refine vO (λi rows=>(rows.length:Int)=n/\Jo rows/\(∀s∈U,∀t∈U,t∈nxt m.steps s->rb rows s t=true)/\(∀s∈U,∀t:Int,0<=t->rb rows s t=true->jC m.steps U s t)/\∀u∈U.take i,∀s∈U,∀t:Int,0<=t->rb rows s u=true->rb rows u t=true->rb rows s t=true)
   ⟨hl,nn,λs hs t ht h=>by rw[hb s hs t (hU t ht).1];exact decide_eq_true ⟨h,ht⟩,λs hs t ht h=>by
    rw[hb s hs t ht] at h
    have:=of_decide_eq_true h
    exact .one this.1 this.2,λu hu=>by simp at hu⟩ (λi u R0 hi hI=>?_) λrows hI=>?_
  ·obtain⟨hl0,nn0,ed0,so0,tr0⟩:=hI
   have um:=mem_of_getElem? hi
   have ub:=hU u um
   rw[zC,zC,aj]
   refine vO (λj rows=>(rows.length:Int)=n/\Jo rows/\∀s∈U,∀t:Int,0<=t->rb rows s t=(rb R0 s t||(decide (s∈U.take j)&&(rb R0 s u&&rb R0 u t)))) ⟨hl0,nn0,λs _ t _=>by simp⟩ (λj x rows hj hJ=>?_) λrows hJ=>?_
   ·obtain⟨hl1,BW,hb1⟩:=hJ
    have xm:=mem_of_getElem? hj
    have xb:=hU x xm
    have ex:rb rows x u=rb R0 x u:=by
     rw[hb1 x xm u ub.1]
     cases rb R0 x u<;>simp
    have eu:∀t:Int,0<=t->rb rows u t=rb R0 u t:=λt ht=>by
     rw[hb1 u um t ht]
     cases rb R0 u t<;>simp
    rw[zMt hl1 BW xb.1 xb.2 ub.1,zC,zC,aj,ex]
    by_cases c:rb R0 x u=true
    ·rw[c,if_pos rfl,zC,zC,U5 hl1 ub.1 ub.2,aj]
     unfold Fx
     rw[if_pos xb.1,U5 hl1 xb.1 xb.2]
     show W (uz rows x _) _
     rw[SN xb.1 (by omega),aj,aj]
     refine⟨by rw[length_set];exact hl1,zVk hl1 xb.1 xb.2 BW (Jm (BW _) (BW _)),λs hs t ht=>?_⟩
     rw[zVe hl1 xb.1 xb.2 (hU s hs).1]
     by_cases e:s=x
     ·subst e
      rw[if_pos rfl,Jl (BW _) (BW _)]
      show(rb rows s t||rb rows u t)=_
      rw[hb1 s hs t ht,eu t ht,c,decide_eq_true ((Jp hj).mpr (.inr rfl))]
      cases rb R0 s t<;>cases rb R0 u t<;>simp
     ·rw[if_neg e,hb1 s hs t ht]
      have:decide (s∈U.take (j+1))=decide (s∈U.take j):=by
       rw[abb,decide_eq_true_iff,decide_eq_true_iff,Jp hj]
       exact⟨λh=>h.resolve_right e,.inl⟩
      rw[this]
    ·have c:rb R0 x u=false:=by simpa using c
     rw[c,if_neg (by decide),aj,aj]
     refine⟨hl1,BW,λs hs t ht=>?_⟩
     rw[hb1 s hs t ht]
     by_cases e:s=x
     ·subst e
      rw[c]
      simp
     ·have:decide (s∈U.take (j+1))=decide (s∈U.take j):=by
       rw[abb,decide_eq_true_iff,decide_eq_true_iff,Jp hj]
       exact⟨λh=>h.resolve_right e,.inl⟩
      rw[this]
   ·obtain⟨hl1,BW,hb1⟩:=hJ
    rw[take_length] at hb1
    have nw:∀s∈U,∀t:Int,0<=t->(rb rows s t=true↔rb R0 s t=true\/(rb R0 s u=true/\rb R0 u t=true)):=λs hs t ht=>by
     rw[hb1 s hs t ht,decide_eq_true hs]
     simp
    rw[aj]
    refine⟨hl1,BW,λs hs t ht h=>(nw s hs t (hU t ht).1).mpr (.inl (ed0 s hs t ht h)),λs hs t ht h=>?_,λv hv s hs t ht h1 h2=>?_⟩
    ·rcases(nw s hs t ht).mp h with h|⟨h,k⟩
     ·exact so0 s hs t ht h
     ·exact(so0 s hs u ub.1 h).trans (so0 u um t ht k)
    ·rw[Jp hi] at hv
     refine(nw s hs t ht).mpr ?_
     rcases hv with hv|rfl
     ·have vU:=List.mem_of_mem_take hv
      have v0:=(hU v vU).1
      have T:=tr0 v hv
      rcases(nw s hs v v0).mp h1 with a|⟨a,b⟩<;>rcases(nw v vU t ht).mp h2 with c|⟨c,d⟩
      ·exact .inl (T s hs t ht a c)
      ·exact .inr ⟨T s hs u ub.1 a c,d⟩
      ·exact .inr ⟨a,T u um t ht b c⟩
      ·exact .inr ⟨a,d⟩
     ·have a:rb R0 s v=true:=((nw s hs v ub.1).mp h1).elim id And.left
      have b:rb R0 v t=true:=((nw v um t ht).mp h2).elim id And.right
      exact .inr ⟨a,b⟩
  ·obtain⟨hl1,BW,ed,so,tr⟩:=hI
   rw[take_length] at tr
   rw[aj]
   exact⟨hl1,BW,ed,so,λs hs u hu t ht=>tr u hu s hs t ht⟩
def ring(rows U:LI)(s:Int):LI:=U.filter λt=>rb rows s t&&rb rows t s
theorem aQ:t∈ring rows U s↔t∈U/\rb rows s t=true/\rb rows t s=true:=by
 unfold ring
 rw[mem_filter,aav]
structure sZ(xss:List LI)(U G:LI):Prop where
 sub:∀s∈G,s∈U
 nd:G.Nodup
 go:∀s∈G,∀t∈G,jC xss G s t
theorem oH.full(R:oH xss U rows)(h0:∀x∈U,0<=x)(h:jC xss U s t):s∈U->rb rows s t=true:=by
 induction h with
 |one a b=>exactλhs=>R.edge _ hs _ b a
 |step a b p ih=>exactλhs=>R.trans _ hs _ b _ (h0 _ p.mem) (R.edge _ hs _ b a) (ih b)
theorem zPw(R:oH xss U rows)(h0:∀x∈U,0<=x)(nd:U.Nodup)(ho:o∈U):sZ xss U (ring rows U o):=by
 have key:∀{s t:Int},jC xss U s t->s∈ring rows U o->t∈ring rows U o->jC xss (ring rows U o) s t:=by
  intro s t h
  induction h with
  |one a b=>exactλ_ ht=>.one a ht
  |@step s u t a b p ih =>
   intro hs ht
   obtain⟨sU,s1,s2⟩:=aQ.mp hs
   obtain⟨tU,t1,t2⟩:=aQ.mp ht
   have u1:rb rows o u=true:=R.trans o ho s sU u (h0 u b) s1 (R.edge s sU u b a)
   have u2:rb rows u o=true:=R.trans u b t tU o (h0 o ho) (R.full h0 p b) t2
   have hu:=aQ.mpr ⟨b,u1,u2⟩
   exact .step a hu (ih hu ht)
 refine⟨λs hs=>(aQ.mp hs).1,nd.filter _,λs hs t ht=>?_⟩
 obtain⟨sU,s1,s2⟩:=aQ.mp hs
 obtain⟨tU,t1,t2⟩:=aQ.mp ht
 exact key (R.sound s sU t (h0 t tU) (R.trans s sU o ho t (h0 t tU) s2 t1)) hs ht
structure GR(rows U:LI)(told:List LI):Prop where
 are:∀G∈told,∃s∈U,rb rows s s=true/\G=ring rows U s
 nd:told.flatten.Nodup
 all:∀s∈U,rb rows s s=true->s∈told.flatten
theorem zO1(h:∀x∈xs,0<=x/\x<n)(hl:xs.length<64):PL xs=some (wX xs)/\aH n (wX xs):=by
 unfold PL
 rw[if_pos hl]
 exact⟨rfl,Iu xs,λx hx=>h x (bT.mp hx)⟩
theorem GX{C:Addr}{m:aF C}(g:Gr m n)(hx:∀x∈xs,0<=x/\x<n)(hl:xs.length<64):W (Ux m xs) λtold=>∃rows,oH m.steps (wX xs) rows/\GR rows (wX xs) told:=by
 obtain⟨e,hR⟩:=zO1 hx hl
 have few:=g.few
 have pos:=g.pos
 unfold Ux
 rw[e,zC,aj,zC]
 generalize wX xs=U at hR ⊢
 have h0:∀x∈U,0<=x:=λx hx=>(hR.2 x hx).1
 have Ul:U.length<=n.toNat:=wG hR.nodup λx hx=>by have:=hR.2 x hx;omega
 refine(zSl g hR.2).imp λrows ⟨rl,R⟩=>?_
 rw[zC,aj,zC,aj,zC,zC,aj]
 refine vO (λi z=>∃told:List LI,z=(told,dl told.flatten)/\(∀G∈told,∃s∈U,rb rows s s=true/\G=ring rows U s)/\told.flatten.Nodup/\(∀s∈U.take i,rb rows s s=true->s∈told.flatten)/\told.length<=i) ⟨[],rfl,λG hG=>(by cases hG),by simp,λs hs=>(by simp at hs),aau _⟩ (λi x z hi hI=>?_) λz hI=>?_
 ·obtain⟨told,rfl,are,nd,all,tl⟩:=hI
  have xm:=mem_of_getElem? hi
  have xb:=hR.2 x xm
  have sub:∀t∈told.flatten,t∈U:=λt ht=>by
   obtain⟨G,hG,tG⟩:=mem_flatten.mp ht
   obtain⟨s,_,_,rfl⟩:=are G hG
   exact(aQ.mp tG).1
  have il:i<U.length:=(aa2.mp hi).1
  rw[zC,zC]
  show W (if(!(jg (dl told.flatten) x).isSome)=true then _ else _) _
  rw[zRs]
  by_cases xf:x∈told.flatten
  ·rw[decide_eq_true xf,abt,if_neg (by decide),aj,if_neg (by decide),aj,aj]
   exact⟨told,rfl,are,nd,λs hs h=>((Jp hi).mp hs).elim (λq=>all s q h) λq=>q▸xf,by omega⟩
  ·rw[decide_eq_false xf,Bool.not_false,if_pos rfl,zMt rl R.nn xb.1 xb.2 xb.1,aj]
   by_cases c:rb rows x x=true
   ·have dis:∀t∈ring rows U x,t∉told.flatten:=λt ht tf=>by
     obtain⟨G,hG,tG⟩:=mem_flatten.mp tf
     obtain⟨s,sU,_,rfl⟩:=are G hG
     obtain⟨tU,t1,t2⟩:=aQ.mp ht
     obtain⟨_,t3,t4⟩:=aQ.mp tG
     exact xf (mem_flatten.mpr ⟨_,hG,aQ.mpr ⟨xm,R.trans s sU t tU x xb.1 t3 t2,R.trans x xm t tU s (h0 s sU) t1 t4⟩⟩)
    have rn:(ring rows U x).Nodup:=hR.nodup.filter _
    have nd2:(told.flatten++ring rows U x).Nodup:=by
     rw[nodup_append]
     exact⟨nd,rn,λa ha b hb e=>dis b hb (e▸ha)⟩
    have ln:(told.flatten++ring rows U x).length<=n.toNat:=wG nd2 λy hy=>by
     have:y∈U:=(mem_append.mp hy).elim (sub y) λq=>(aQ.mp q).1
     have:=hR.2 y this
     omega
    rw[c,if_pos rfl,zC,zC,aj,U6 (p:=λt=>rb rows x t&&rb rows t x) (g:=λt=>t) (yU (by omega)) (λt ht=>zSr rl R.nn xb.1 xb.2 (hR.2 t ht).1 (hR.2 t ht).2) (λt _=>rfl),aj,map_id']
    show W ((push told (ring rows U x)).bind _) _
    rw[zC,Fb]
    refine⟨yU (by omega),?_⟩
    rw[zC,zC,aj]
    refine vO (λk d=>d=dl (told.flatten++(ring rows U x).take k)) (by rw[List.take_zero,append_nil]) (λk y d hk hd=>?_) λd hd=>?_
    ·subst hd
     have hk:(ring rows U x)[k]?=some y:=hk
     have ym:=mem_of_getElem? hk
     have kl:=(aa2.mp hk).1
     have yn:y∉told.flatten++(ring rows U x).take k:=λq=>by
      rcases mem_append.mp q with q|q
      ·exact dis y ym q
      ·obtain⟨j,hj,e⟩:=getElem_of_mem q
       rw[List.getElem_take] at e
       rw[length_take] at hj
       have e2:=(aa2.mp hk).2
       have:=(List.nodup_iff_pairwise_ne.mp rn)
       have ne:=List.pairwise_iff_getElem.mp this j k (by omega) kl (by omega)
       exact ne (e.trans e2.symm)
     rw[zC,N7,N5 yn,N6]
     refine⟨yU ?_,?_⟩
     ·rw[length_append] at ln ⊢
      rw[length_take]
      omega
     ·rw[aj,Xf hk,append_assoc]
    ·subst hd
     rw[show(ring rows U x).take (U.filter λt=>rb rows x t&&rb rows t x).length=ring rows U x from take_length,aj,aj]
     refine⟨told++[ring rows U x],by rw[flatten_append,flatten_singleton],λG hG=>?_,by rw[flatten_append,flatten_singleton];exact nd2,λs hs h=>?_,by rw[length_append];exact ab7 tl⟩
     ·rcases mem_append.mp hG with q|q
      ·exact are G q
      ·exact⟨x,xm,c,mem_singleton.mp q⟩
     ·rw[flatten_append,flatten_singleton,mem_append]
      exact((Jp hi).mp hs).elim (λq=>.inl (all s q h)) λq=>.inr (by rw[q];exact aQ.mpr ⟨xm,c,c⟩)
   ·have c':rb rows x x=false:=by simpa using c
    rw[c',if_neg (by decide),aj,aj]
    exact⟨told,rfl,are,nd,λs hs h=>((Jp hi).mp hs).elim (λq=>all s q h) λq=>absurd (q▸h) c,by omega⟩
 ·obtain⟨told,rfl,are,nd,all,_⟩:=hI
  rw[take_length] at all
  rw[aj]
  exact⟨rows,R,are,nd,all⟩
def wI(n:Int)(fair:List LI):Prop:=fair.length<=100/\∀F∈fair,C_ n F
def wB(fair:List LI)(G:LI):Bool:=fair.all λF=>G.any λx=>decide (x∈F)
theorem tX(h:C_ n xs)(v8:n<=60)(h0:0<=n):xs.length<=60:=by
 have:=wG (n:=n.toNat) h.1 λx hx=>by have:=h.2.2 x hx;omega
 omega
theorem zSo{C:Addr}{m:aF C}{n:Int}(g:Gr m n)(hf:wI n m.fair){i:Nat}{F:LI}(hi:m.fair[i]?=some F):W (xK m (i:Int)) λxs=>xs.length<=60/\∀x,x∈xs↔x∈F:=by
 unfold xK
 have few:=g.few
 have pos:=g.pos
 have l:=tX (hf.2 F (mem_of_getElem? hi)) few (by omega)
 rw[zC,dR (by omega)]
 refine⟨F,by rw[abu];exact hi,?_⟩
 unfold Fe
 rw[if_pos (by omega),aj]
 exact⟨by rw[(vV _).length_eq];exact l,λx=>(vV _).mem_iff⟩
theorem zO2{xs ys:LI}(h:xs.length<64\/ys.length<64)(h1:xs.length<4000)(h2:ys.length<4000):xO xs ys=some (wX (xs.filter λz=>decide (z∈ys))):=by
 unfold xO Wx
 rw[if_pos ⟨h,h1,h2⟩]
theorem zLo{xs ys:LI}(h1:xs.length<64)(h2:ys.length<4000):xO xs ys=some (wX (xs.filter λz=>decide (z∈ys))):=zO2 (.inl h1) (by omega) h2
theorem pZ:(wX xs).length=0↔xs=[]:=by
 rw[length_eq_zero_iff]
 constructor
 ·intro h
  cases xs with
  |nil=>rfl
  |cons x xs =>
   have:=(bT (x:=x) (ns:=x::xs)).mpr mem_cons_self
   rw[h] at this
   cases this
 ·intro h;subst h;rfl
theorem zSm{C:Addr}{m:aF C}(g:Gr m n)(hf:wI n m.fair){G:LI}(hG:G.length<64):W (uX m G) λo=>o.isNone=wB m.fair G:=by
 unfold uX
 have hl:=hf.1
 rw[zC,zC,dM]
 refine⟨⟨by omega,by omega⟩,zSd (λi _=>∀F∈m.fair.take i,(G.any λx=>decide (x∈F))=true) (λF hF=>by simp at hF) (λi x s hi hI=>?_) λs hI=>?_⟩
 ·obtain⟨rfl,hx⟩:=SM hi
  have il:i<m.fair.length:=by omega
  have hF:m.fair[i]?=some m.fair[i]:=aat il
  rw[zC,zC,zC,zC,zC,zC]
  refine(zSo g hf hF).imp λys ⟨yl,ym⟩=>?_
  rw[aj,aj]
  show W (xO G ys) _
  rw[zLo hG (by omega),aj,aj,aj]
  by_cases e:G.filter (λz=>decide (z∈ys))=[]
  ·rw[decide_eq_true (show((wX (G.filter λz=>decide (z∈ys))).length:Int)=0 by have:=pZ.mpr e;omega),if_pos rfl,zC,aj,aj]
   refine .inr ⟨_,rfl,?_⟩
   show W (some (some (i:Int))) _
   rw[aj]
   symm
   show wB m.fair G=false
   have:(G.any λx=>decide (x∈m.fair[i]))=false:=by
    rw[any_eq_false]
    intro x hx q
    have q:=of_decide_eq_true q
    have:x∈G.filter (λz=>decide (z∈ys)):=mem_filter.mpr ⟨hx,decide_eq_true ((ym x).mpr q)⟩
    rw[e] at this
    cases this
   unfold wB
   rw[List.all_eq_false]
   exact⟨_,getElem_mem il,by rw[this];decide⟩
  ·rw[decide_eq_false (λz=>e (pZ.mp (by omega))),if_neg (by decide),aj]
   refine .inl ⟨(),rfl,λF hF'=>?_⟩
   rw[Xf hF,mem_append,mem_singleton] at hF'
   rcases hF' with q|q
   ·exact hI F q
   ·subst q
    obtain⟨x,hx⟩:=List.exists_mem_of_ne_nil _ e
    rw[mem_filter] at hx
    exact any_eq_true.mpr ⟨x,hx.1,decide_eq_true ((ym x).mp (of_decide_eq_true hx.2))⟩
 ·have e:(rng (m.fair.length:Int)).length=m.fair.length:=by have:=CJ (n:=(m.fair.length:Int)) (by omega);omega
  rw[e,take_length] at hI
  rw[Sw,aj]
  symm
  show wB m.fair G=true
  exact all_eq_true.mpr hI
theorem zTf{U:LI}(h:U.length<=k):(ring rows U s).length<=k:=aa6 (length_filter_le ..) h
structure tu(xss:List LI)(fair:List LI)(U goal:LI):Prop where
 nd:goal.Nodup
 sub:∀s∈goal,s∈U
 of:∀s∈goal,∃G:LI,sZ xss U G/\s∈G/\wB fair G=true/\∀t∈G,t∈goal
 all:∀s∈U,∀G:LI,(∀t,t∈G↔t∈U/\jC xss U s t/\jC xss U t s)->jC xss U s s->wB fair G=true->s∈goal
theorem zI8(h:∀t,t∈G↔t∈G'):wB fair G=wB fair G':=by
 unfold wB
 congr 1
 funext F
 rw[abb,any_eq_true,any_eq_true]
 exact⟨λ⟨x,a,b⟩=>⟨x,(h x).mp a,b⟩,λ⟨x,a,b⟩=>⟨x,(h x).mpr a,b⟩⟩
theorem GZ{C:Addr}{m:aF C}(g:Gr m n)(hf:wI n m.fair)(hx:∀x∈xs,0<=x/\x<n)(hl:xs.length<64) :
  W (wV m xs) λa=>a.length<=60/\(∀G∈a,sZ m.steps (wX xs) G/\wB m.fair G=true)/\W (Nx a) λgoal=>goal=a.flatten/\tu m.steps m.fair (wX xs) goal:=by
 have few:=g.few
 have pos:=g.pos
 have hR:=(zO1 hx hl).2
 have h0:∀x∈wX xs,0<=x:=λx hx=>(hR.2 x hx).1
 have Ul:(wX xs).length<=n.toNat:=wG hR.nodup λx hx=>by have:=hR.2 x hx;omega
 unfold wV
 rw[zC]
 refine(GX g hx hl).imp λtold ⟨rows,R,T⟩=>?_
 have tl:told.length<=60/\told.flatten.length<=60:=by
  have f:told.flatten.length<=n.toNat:=wG T.nd λy hy=>by
   obtain⟨G,hG,yG⟩:=mem_flatten.mp hy
   obtain⟨s,_,_,rfl⟩:=T.are G hG
   have:=hR.2 y (aQ.mp yG).1
   omega
  refine⟨?_,by omega⟩
  have ne:∀G∈told,1<=G.length:=λG hG=>by
   obtain⟨s,sU,c,rfl⟩:=T.are G hG
   exact List.length_pos_of_mem (aQ.mpr ⟨sU,c,c⟩)
  have:∀l:List LI,(∀G∈l,1<=G.length)->l.length<=l.flatten.length:=λl=>by
   induction l with
   |nil=>intro _;exact abd _
   |cons G l ih =>
    intro h
    rw[flatten_cons,length_append,length_cons]
    have a:=ih λG' hG'=>h G' (mem_cons_of_mem _ hG')
    have b:=h G mem_cons_self
    omega
  have:=this told ne
  omega
 have gl:∀G∈told,G.length<64:=λG hG=>by
  obtain⟨s,_,_,rfl⟩:=T.are G hG
  have:=zTf (rows:=rows) (s:=s) Ul
  omega
 rw[U6 (p:=wB m.fair) (g:=λG=>G) (yU (by omega)) (λG hG=>by
  obtain⟨o,e,q⟩:=zSm g hf (gl G hG)
  rw[e]
  exact congrArg some q) (λ_ _=>rfl),aj,map_id']
 have fl:∀l:List LI,(l.filter (wB m.fair)).flatten.Sublist l.flatten:=λl=>by
  induction l with
  |nil=>exact List.Sublist.refl _
  |cons G l ih =>
   rw[filter_cons]
   split
   ·rw[flatten_cons,flatten_cons];exact(List.Sublist.refl _).append ih
   ·rw[flatten_cons];exact ih.trans (List.sublist_append_right ..)
 have js:W (Nx (told.filter (wB m.fair))) (· = (told.filter (wB m.fair)).flatten):=by
  unfold Nx
  rw[zC,aj,zC,zC,aj]
  refine vO (λi s=>s=((told.filter (wB m.fair)).take i).flatten) (by rw[List.take_zero];rfl) (λi G s hi hI=>?_) λs hI=>?_
  ·subst hI
   unfold Ba
   have e:((told.filter (wB m.fair)).take i).flatten++G=((told.filter (wB m.fair)).take (i+1)).flatten:=by rw[Xf hi,flatten_append,flatten_singleton]
   have l:(((told.filter (wB m.fair)).take i).flatten++G).length<=60:=by
    rw[e]
    have a:((told.filter (wB m.fair)).take (i+1)).flatten.Sublist (told.filter (wB m.fair)).flatten:=by
     have e2:(told.filter (wB m.fair)).flatten=((told.filter (wB m.fair)).take (i+1)).flatten++((told.filter (wB m.fair)).drop (i+1)).flatten:=by rw[<-flatten_append,take_append_drop]
     rw[e2]
     exact List.sublist_append_left ..
    have:=(a.trans (fl told)).length_le
    omega
   rw[length_append] at l
   rw[if_pos (yU (by omega)),zC,aj,aj,e]
  ·subst hI
   rw[take_length,aj]
 refine⟨aa6 (length_filter_le ..) tl.1,λG hG=>?_,js.imp λgoal e=>⟨e,?_⟩⟩
 ·obtain⟨o,oU,_,rfl⟩:=T.are G (mem_filter.mp hG).1
  exact⟨zPw R h0 hR.nodup oU,(mem_filter.mp hG).2⟩
 subst e
 refine⟨T.nd.sublist (fl told),λs hs=>?_,λs hs=>?_,λs sU G hG p q=>?_⟩
 ·obtain⟨G,hG,sG⟩:=mem_flatten.mp hs
  obtain⟨o,_,_,rfl⟩:=T.are G (mem_filter.mp hG).1
  exact(aQ.mp sG).1
 ·obtain⟨G,hG,sG⟩:=mem_flatten.mp hs
  obtain⟨o,oU,_,rfl⟩:=T.are G (mem_filter.mp hG).1
  exact⟨_,zPw R h0 hR.nodup oU,sG,(mem_filter.mp hG).2,λt ht=>mem_flatten.mpr ⟨_,hG,ht⟩⟩
 ·obtain⟨G',hG',sG⟩:=mem_flatten.mp (T.all s sU (R.full h0 p sU))
  obtain⟨o,oU,oo,rfl⟩:=T.are G' hG'
  obtain⟨_,s1,s2⟩:=aQ.mp sG
  refine mem_flatten.mpr ⟨_,mem_filter.mpr ⟨hG',?_⟩,sG⟩
  rw[<-q]
  refine zI8 λt=>?_
  rw[hG t,aQ]
  constructor
  ·rintro⟨tU,t1,t2⟩
   exact⟨tU,R.sound s sU t (h0 t tU) (R.trans s sU o oU t (h0 t tU) s2 t1),R.sound t tU s (h0 s sU) (R.trans t tU o oU s (h0 s sU) t2 s1)⟩
  ·rintro⟨tU,t1,t2⟩
   exact⟨tU,R.trans o oU s sU t (h0 t tU) s1 (R.full h0 t1 sU),R.trans t tU s sU o (h0 o oU) (R.full h0 t2 tU) s2⟩
theorem N8{C:Addr}{m:aF C}(g:Gr m n)(hf:wI n m.fair)(hx:∀x∈xs,0<=x/\x<n)(hl:xs.length<64) :
  W ((wV m xs).bind λa=>Nx a) (tu m.steps m.fair (wX xs)):=by
 rw[zC]
 exact(GZ g hf hx hl).imp λa ⟨_,_,h⟩=>h.imp λ_ q=>q.2
theorem zO6{C:Addr}{m:aF C}(g:Gr m n){goal:LI}(ht:∀x∈through,0<=x/\x<n)(hg:goal.Nodup/\∀x∈goal,0<=x/\x<n):W (xD m through goal) λR=>∃d,sY m.steps through goal n d/\R=pick n λs=>(dg d s).isSome:=by
 unfold xD
 have few:=g.few
 have pos:=g.pos
 rw[zC]
 refine(zJ6 g ht hg).imp λd D=>?_
 have rl:=CJ (n:=n) (by omega)
 rw[zC,aj,zUk D.len]
 have e:wP (λx:Int×Option Int=>some x.2.isSome) (λx:Int×Option Int=>some x.1) ((rng n).map λs=>(s,dg d s))=some (pick n λs=>(dg d s).isSome):=by
  rw[U6 (p:=λx:Int×Option Int=>x.2.isSome) (g:=λx:Int×Option Int=>x.1) (yU (by rw[length_map];omega)) (λ_ _=>rfl) (λ_ _=>rfl)]
  congr 1
  rw[List.filter_map,List.map_map]
  exact map_id' _
 rw[e,aj]
 exact⟨d,D,rfl⟩
structure aag(xss fair:List LI)(n:Int)(U R:LI):Prop where
 rise:aH n R
 sub:∀s∈R,s∈U
 go:∀s∈R,∃t∈nxt xss s,t∈R
 come:∀s∈R,∀F∈fair,∃x∈F,x=s\/jC xss R s x
theorem Xg(h:aH n U):wX U=U:=Iv (Iu U) h.1 λ_=>bT
inductive Rc(xss:List LI)(U:LI)(s:Int):Int->Prop
 |here:Rc xss U s s
 |on {t u:Int}:Rc xss U s t->u∈nxt xss t->u∈U->Rc xss U s u
theorem Rc.mem(h:Rc xss U s t)(hs:s∈U):t∈U:=by
 cases h with
 |here=>exact hs
 |on _ _ h=>exact h
theorem Rc.trans(h:Rc xss U s t)(k:Rc xss U t u):Rc xss U s u:=by
 induction k with
 |here=>exact h
 |on _ a b ih=>exact .on ih a b
theorem Rc.pth(h:Rc xss U s t):t=s\/jC xss U s t:=by
 induction h with
 |here=>exact .inl rfl
 |@on t u _ a b ih =>
  rcases ih with rfl|ih
  ·exact .inr (.one a b)
  ·exact .inr (ih.trans (.one a b))
theorem jC.rc(h:jC xss U s t):Rc xss U s t:=by
 induction h with
 |one a b=>exact .on .here a b
 |step a b _ ih=>exact(Rc.on .here a b).trans ih
theorem cls(P:Int->Prop):∃p:Int->Bool,∀x,p x=true↔P x:=⟨λx=>@decide _ (ad0 (P x)),λx=>by
 constructor
 ·intro h;exact@of_decide_eq_true _ (ad0 _) h
 ·intro h;exact@decide_eq_true _ (ad0 _) h⟩
def U7(xss fair:List LI)(U:LI)(b:Int):Prop:=jC xss U b b/\∀F∈fair,∃x∈F,Rc xss U b x/\Rc xss U x b
theorem G3(D:sY xss U goal n d)(G:tu xss fair U goal)(hU:∀x∈U,0<=x/\x<n)(s:Int):s∈pick n (λs=>(dg d s).isSome)↔s∈U/\∃b∈U,U7 xss fair U b/\Rc xss U s b:=by
 have base:∀b∈U,(b∈goal↔U7 xss fair U b):=λb bU=>by
  constructor
  ·intro h
   obtain⟨R,RO,bR,met,_⟩:=G.of b h
   have up:∀{x y:Int},x∈R->y∈R->jC xss U x y:=λhx hy=>(RO.go _ hx _ hy).mono RO.sub
   refine⟨up bR bR,λF hF=>?_⟩
   obtain⟨x,xR,xF⟩:=any_eq_true.mp (all_eq_true.mp met F hF)
   exact⟨x,of_decide_eq_true xF,(up bR xR).rc,(up xR bR).rc⟩
  ·rintro⟨p,m⟩
   obtain⟨f,hf⟩:=cls λt=>jC xss U b t/\jC xss U t b
   refine G.all b bU (U.filter f) (λt=>by rw[mem_filter,hf t]) p ?_
   refine all_eq_true.mpr λF hF=>?_
   obtain⟨x,xF,r1,r2⟩:=m F hF
   have p1:jC xss U b x:=r1.pth.elim (λe=>e▸p) id
   have p2:jC xss U x b:=r2.pth.elim (λe=>by rw[<-e];exact e▸p) id
   exact any_eq_true.mpr ⟨x,mem_filter.mpr ⟨p1.mem,(hf x).mpr ⟨p1,p2⟩⟩,decide_eq_true xF⟩
 have key:∀(k:Nat)(s:Int),0<=s->s<n->dg d s=some (k:Int)->s∈U/\∃b∈goal,Rc xss U s b:=by
  intro k
  induction k with
  |zero =>
   intro s s0 s1 e
   have hg:=(D.zero s s0 s1).mp e
   exact⟨G.sub s hg,s,hg,.here⟩
  |succ k ih =>
   intro s s0 s1 e
   have ng:s∉goal:=λhg=>by
    have:=(D.zero s s0 s1).mpr hg
    rw[e] at this
    have:=aaw this
    omega
   obtain⟨sU,t,tn,t0,t1,e2⟩:=D.via s _ s0 s1 e ng
   obtain⟨tU,b,bg,r⟩:=ih t t0 t1 (by rw[e2];congr 1;omega)
   exact⟨sU,b,bg,(Rc.on .here tn tU).trans r⟩
 have back:∀{s t:Int},Rc xss U s t->s∈U->(dg d t).isSome=true->(dg d s).isSome=true:=λh=>by
  induction h with
  |here=>exactλ_ q=>q
  |@on t u r a b ih =>
   intro sU q
   have tU:=r.mem sU
   obtain⟨k,e⟩:=abq.mp q
   obtain⟨j,ej,_⟩:=D.near t u k (hU t tU).1 (hU t tU).2 (hU u b).1 (hU u b).2 tU a e
   exact ih sU (by rw[ej];rfl)
 rw[eG]
 constructor
 ·rintro⟨s0,s1,q⟩
  obtain⟨k,e⟩:=abq.mp q
  have kp:=D.pos s k s0 s1 e
  obtain⟨sU,b,bg,r⟩:=key k.toNat s s0 s1 (by rw[e];congr 1;omega)
  exact⟨sU,b,G.sub b bg,(base b (G.sub b bg)).mp bg,r⟩
 ·rintro⟨sU,b,bU,bB,r⟩
  refine⟨(hU s sU).1,(hU s sU).2,back r sU ?_⟩
  rw[(D.zero b (hU b bU).1 (hU b bU).2).mpr ((base b bU).mpr bB)]
  rfl
theorem zJ7{C:Addr}{m:aF C}(g:Gr m n)(hf:wI n m.fair)(hU:aH n U):W (CW m U) λR=>aH n R/\∀s,s∈R↔s∈U/\∃b∈U,U7 m.steps m.fair U b/\Rc m.steps U s b:=by
 unfold CW
 have few:=g.few
 have Ul:U.length<=n.toNat:=wG hU.nodup λx hx=>by have:=hU.2 x hx;omega
 have q:=N8 g hf hU.2 (by omega)
 rw[Xg hU,zC] at q
 rw[zC,zC,zC,zC,zC,zC]
 refine q.imp λa qa=>?_
 rw[aj]
 refine qa.imp λgoal G=>?_
 rw[aj,aj,aj]
 show W (xD m U goal) _
 refine(zO6 g hU.2 ⟨G.nd,λx h=>hU.2 x (G.sub x h)⟩).imp λR ⟨d,D,e⟩=>?_
 subst e
 exact⟨yT n _,G3 D G hU.2⟩
theorem N_{C:Addr}{m:aF C}(g:Gr m n):yN m=some (rng n):=by
 unfold yN
 rw[Xd g]
 have:=g.pos
 have:=g.few
 show Fw n=_
 unfold Fw
 rw[if_pos ⟨by omega,by omega⟩]
 rfl
theorem U8(h:n<=60)(h0:0<=n):(rng n).length<=60:=by have:=CJ (n:=n) h0;omega
theorem zSk{C:Addr}{m:aF C}(g:Gr m n){xs:LI}(hl:xs.length<4000):xH m xs=some (pick n λz=>!decide (z∈xs)):=by
 unfold xH
 rw[N_ g]
 have r:=U8 g.few (by have:=g.pos;omega)
 show Qa (rng n) xs=_
 unfold Qa
 rw[if_pos ⟨by omega,hl⟩]
 exact congrArg some (Xg (yT n _))
theorem wY(h:aH n xs)(v8:n<=60):xs.length<=60:=by
 by_cases h0:0<=n
 ·have:=wG (n:=n.toNat) h.nodup λx hx=>by have:=h.2 x hx;omega
  omega
 ·cases xs with
  |nil=>exact abd _
  |cons a l=>have:=h.2 a mem_cons_self;omega
theorem zH5{ys:LI}(hx:aH n xs)(v8:n<=60)(hy:ys.length<4000):xO xs ys=some (xs.filter λz=>decide (z∈ys)):=by
 rw[zLo (by have:=wY hx v8;omega) hy]
 exact congrArg some (Xg (n:=n) ⟨hx.1.filter _,λx h=>hx.2 x (mem_filter.mp h).1⟩)
theorem zM7{ys:LI}(hx:aH n xs)(v8:n<=60)(hy:ys.length<4000):uW xs ys=some (xs.filter λz=>!decide (z∈ys)):=by
 unfold uW Qa
 rw[if_pos ⟨by have:=wY hx v8;omega,hy⟩]
 exact congrArg some (Xg (n:=n) ⟨hx.1.filter _,λx h=>hx.2 x (mem_filter.mp h).1⟩)
def Jq(xss fair:List LI)(n:Int)(L:LI):Prop:=aH n L/\∀s,s∈L↔s∈rng n/\∃b∈rng n,U7 xss fair (rng n) b/\Rc xss (rng n) s b
theorem Qu(n:Int):aH n (rng n):=⟨zVd n,λx hx=>iV.mp hx⟩
theorem G4{C:Addr}{m:aF C}(g:Gr m n)(hf:wI n m.fair):W (Jj m) (Jq m.steps m.fair n):=by
 unfold Jj
 rw[N_ g]
 exact zJ7 g hf (Qu n)
def into(xss:List LI)(G:LI)(s:Int):Bool:=(nxt xss s).any λt=>decide (t∈G)
theorem Oa{C:Addr}{m:aF C}(g:Gr m n)(h0:0<=s)(h1:s<n){fl:List Bool}(hl:(fl.length:Int)=n)(hh:∀t:Int,0<=t->t<n->fl.getD t.toNat false=decide (t∈G)):uA m s fl=some (into m.steps G s):=by
 unfold uA
 obtain⟨xs,e,xl,xm⟩:=zLp g h0 h1
 rw[e]
 have bd:∀x∈xs,0<=x/\x<n:=λx hx=>by
  have hx':=(xm x).mp hx
  have hr:nxt m.steps s∈m.steps:=mem_of_getElem? (NT g.len h0 h1)
  exact(g.row _ hr).2.2 x hx'
 show((wP _ _ xs).bind _)=_
 rw[U6 (p:=λ_=>true) (g:=λx=>decide (x∈G)) (yU (by omega)) (λ_ _=>rfl) (λx hx=>?_)]
 ·show some _=some _
  congr 1
  rw[List.filter_eq_self.mpr (λ_ _=>rfl)]
  unfold into
  rw[abb,any_eq_true,any_eq_true]
  constructor
  ·rintro⟨b,hb,e⟩
   obtain⟨x,hx,rfl⟩:=mem_map.mp hb
   exact⟨x,(xm x).mp hx,e⟩
  ·rintro⟨x,hx,e⟩
   exact⟨_,mem_map.mpr ⟨x,(xm x).mpr hx,rfl⟩,e⟩
 ·obtain⟨x0,x1⟩:=bd x hx
  have q:W (bx fl x) (· = decide (x∈G)):=by
   rw[dR x0]
   refine⟨fl.getD x.toNat false,?_,hh x x0 x1⟩
   rw[getD_eq_getElem?_getD,aat (by omega)]
   rfl
  obtain⟨a,ea,e2⟩:=q
  rw[ea,e2]
theorem zM8{C:Addr}{m:aF C}(g:Gr m n)(hG:∀x∈G,0<=x/\x<n):vA m (rng n) G=some (pick n (into m.steps G)):=by
 unfold vA
 obtain⟨fl,e,hl,hh⟩:=zO5 g hG
 rw[e]
 have r:=U8 g.few (by have:=g.pos;omega)
 show wP _ _ (rng n)=_
 rw[U6 (p:=into m.steps G) (g:=λx=>x) (yU (by omega)) (λx hx=>?_) (λ_ _=>rfl),map_id']
 ·rfl
 ·obtain⟨x0,x1⟩:=iV.mp hx
  exact Oa g x0 x1 hl hh
theorem aah{α:Type}{m:Option α}{a:α}(h:m=some a):W m (· = a):=⟨a,h,rfl⟩
theorem qG{α:Type}{m:Option α}{a:α}(h:W m (· = a)):m=some a:=by obtain⟨b,e,rfl⟩:=h;exact e
theorem zGf{C:Addr}{m:aF C}(g:Gr m n)(hL:aH n L)(hS:aH n S):xZ m L S=some (pick n (into m.steps (L.filter λz=>decide (z∈S)))):=by
 apply qG
 unfold xZ
 rw[zC,zC,zC,N_ g,aj,zC,zC,zH5 hL g.few (by have:=wY hS g.few;omega),aj,aj,aj,aj]
 exact aah (zM8 g λx hx=>hL.2 x (mem_filter.mp hx).1)
theorem rJ{α:Type}{pre:List α}{x:α}:L2.bx (pre++[x]) (-(1:Int))=some x:=by
 unfold L2.bx tR
 rw[if_neg (by decide),if_pos (by rw[length_append,length_singleton];omega)]
 show(pre++[x])[((-(1:Int))+((pre++[x]).length:Nat)).toNat]?=some x
 have e:((-(1:Int))+((pre++[x]).length:Nat)).toNat=pre.length:=by rw[length_append,length_singleton];omega
 rw[e,getElem?_append_right (aau _),Nat.sub_self]
 rfl
theorem zOa(h:aH n xs):Wi xs=xs :=
 Iv (vT (zD7 xs) ((vV xs).nodup_iff.mpr h.nodup)) h.1 λs=>(vV xs).mem_iff
theorem zSn{C:Addr}{m:aF C}(v8:n<=60)(hs:∀mk∈m.marks,aH n mk.2)(x:Str):W (yF m x) λS=>(∃mk∈m.marks,mk.1=x/\S=mk.2)\/((∀mk∈m.marks,mk.1≠x)/\S=[]):=by
 unfold yF
 rw[zC,zC,aj]
 refine zSd (λi _=>∀mk∈m.marks.take i,mk.1≠x) (λmk h=>by simp at h) (λi mk _ hi hI=>?_) λ_ hI=>?_
 ·have mm:=mem_of_getElem? hi
  by_cases c:mk.1=x
  ·rw[decide_eq_true c,if_pos rfl,zC]
   have r:=wY (hs mk mm) v8
   unfold Fe
   rw[if_pos (by omega),aj,aj,zOa (hs mk mm)]
   refine .inr ⟨_,rfl,?_⟩
   show W (some mk.2) _
   rw[aj]
   exact .inl ⟨mk,mm,c,rfl⟩
  ·rw[decide_eq_false c,if_neg (by decide),aj]
   refine .inl ⟨(),rfl,λmk' h=>?_⟩
   rw[take_add_one,hi,mem_append] at h
   rcases h with h|h
   ·exact hI mk' h
   ·have e:mk'=mk:=by simpa using h
    rw[e];exact c
 ·rw[take_length] at hI
  rw[Sw,aj]
  exact .inr ⟨hI,rfl⟩
theorem U9(ws:LI):W (uO ws) λ_=>True:=by
 unfold uO
 rw[Pr]
 refine⟨λ_=>aj.mpr trivial,λh=>?_⟩
 cases ws with
 |nil=>exact absurd rfl h
 |cons x r =>
  rw[List.getLast?_cons]
  exact⟨_,rfl,trivial⟩
theorem zO3(c:Int)(h0:0<=n)(h1:n<=60):W (uP c n) (aH n):=by
 unfold uP
 rw[zC,aj,zC,zC,dM]
 refine⟨⟨by omega,by omega⟩,?_⟩
 have rn:=CJ h0
 refine vO (λj z=>aH j z.1/\z.1.length<=j) ⟨Pu,aau _⟩ (λj y z hj hJ=>?_) λz hJ=>?_
 ·obtain⟨rfl,hy⟩:=SM hj
  simp only[zC,Wd,SJ,aj,Pr,Fb]
  exact⟨by decide,λ_=>⟨yU (by omega),⟨by decide,by decide⟩,zIs hJ.1 (by omega) (by omega),by rw[length_append];exact ab7 hJ.2⟩,λ_=>⟨⟨by decide,by decide⟩,zPv hJ.1 (by omega),by omega⟩⟩
 ·rw[rn] at hJ
  rw[aj]
  exact hJ.1
theorem zKi(h:aH n xs)(v8:n<=60)(ne:xs≠[]):NQ n xs:=⟨ne,h.nodup,wY h v8,h.2⟩
theorem G5(c k:Int)(h0:1<=n)(h1:n<=60):W (Qp c k n) (NQ n):=by
 unfold Qp
 rw[zC,aj,zC,aj,zC,zC,dM]
 refine⟨⟨by omega,by omega⟩,?_⟩
 have rn:=CJ (n:=n) (by omega)
 refine vO (λj z=>aH j z.1/\z.1.length<=j) ⟨Pu,aau _⟩ (λj y z hj hJ=>?_) λz hJ=>?_
 ·obtain⟨rfl,hy⟩:=SM hj
  simp only[zC,Wd,SJ,aj,Pr,Fb]
  exact⟨by decide,λ_=>⟨yU (by omega),⟨by decide,by decide⟩,zIs hJ.1 (by omega) (by omega),by rw[length_append];exact ab7 hJ.2⟩,λ_=>⟨⟨by decide,by decide⟩,zPv hJ.1 (by omega),by omega⟩⟩
 ·rw[rn] at hJ
  rw[zC]
  by_cases e:z.1=[]
  ·rw[if_pos (decide_eq_true e),zC,zC,SJ]
   refine⟨by omega,?_⟩
   have z0:=adw (c+k) (show n≠0 by omega)
   have z1:=ac4 (c+k) (show 0<n by omega)
   rw[e,Fb]
   refine⟨yU (by simp),?_⟩
   rw[aj,aj]
   refine⟨by simp,by simp,by simp,λy hy=>?_⟩
   have:y=(c+k)%n:=by simpa using hy
   rw[this]
   exact⟨z0,z1⟩
  ·rw[if_neg (by rw[decide_eq_false e];decide),aj,aj]
   exact zKi hJ.1 h1 e
section
variable{α β:Type}{f:LI->α->Option (β×LI)}{R:β->Prop}
theorem zV3:∀(xs:List α)(ws:LI),(∀ws,∀x∈xs,W (f ws x) λr=>R r.1)->W (lY f ws xs) λr=>r.1.length=xs.length/\∀y∈r.1,R y
 |[],ws,_=>aj.mpr ⟨rfl,λy h=>by cases h⟩
 |x::xs,ws,h=>by
  unfold lY
  rw[zC]
  refine(h ws x mem_cons_self).imp λr hr=>?_
  rw[zC]
  refine(zV3 xs r.2 λw y hy=>h w y (mem_cons_of_mem _ hy)).imp λq hq=>?_
  rw[aj]
  refine⟨by rw[length_cons,length_cons,hq.1],λy hy=>?_⟩
  rcases mem_cons.mp hy with rfl|hy
  ·exact hr
  ·exact hq.2 y hy
theorem zSf{xs:List α}(hl:xs.length<cap)(h:∀ws,∀x∈xs,W (f ws x) λr=>R r.1):W (Ml f ws xs) λr=>r.1.length=xs.length/\∀y∈r.1,R y:=by
 unfold Ml
 rw[if_pos hl]
 exact zV3 xs ws h
end
structure Ob(n:Int)(T:I_ (List LI) (List (Str×LI)) (List LI)):Prop where
 pos:1<=n
 few:n<=60
 len:(T.a.length:Int)=n
 row:∀xs∈T.a,NQ n xs
 marks:∃A B D,T.b=[(("p":Str),A),(("wet":Str),B),(("darkness":Str),D)]/\aH n A/\aH n B/\aH n D
 fair:wI n T.c
theorem G6(h0:1<=n)(h1:n<=60)(s:List (Str×LI))(ws:LI)(x:Str)(hs:s.length<=100):W (((((uO ws).bind λr23=>(uP r23.1 n).bind λUJ=>some (UJ,r23.2)).bind λr25=>some ((x,r25.1),r25.2)).bind λr26=>(push s r26.1).bind λy27=>some (y27,r26.2)).bind λeZ=>some (eZ.1,eZ.2)) λz=>∃A,z.1=s++[(x,A)]/\aH n A:=by
 rw[zC,zC,zC,zC]
 refine(U9 ws).imp λr _=>?_
 rw[zC]
 refine(zO3 r.1 (by omega) h1).imp λA hA=>?_
 rw[aj,aj,zC,Fb]
 refine⟨yU (by omega),?_⟩
 rw[aj,aj]
 exact⟨A,rfl,hA⟩
theorem G7(ws:LI):W (UW ws) λv=>∃n,Ob n v.1:=by
 unfold UW
 rw[zC]
 refine(U9 ws).imp λc _=>?_
 have hn:∀Q:Int->Prop,(∀n,1<=n->n<=60->Q n)->W ((((lX c.1 (8:Int)).bind λa3=>jF a3 (7:Int)).bind λb4=>some ((1:Int)+b4))) λou=>W (((jF c.1 (8:Int)).bind λa5=>some (decide (a5=(1:Int)))).bind λb=>if b=true then(((lX c.1 (8:Int)).bind λa9=>jF a9 (5:Int)).bind λb10=>some ((8:Int)+b10)).bind λrH=>some rH else some ou) Q:=λQ h=>by
  simp only[zC,SJ,Wd,aj,Pr]
  exact⟨⟨by decide,by decide⟩,by decide,by decide,λ_=>⟨⟨by decide,by decide⟩,by decide,h _ (by omega) (by omega)⟩,λ_=>h _ (by omega) (by omega)⟩
 rw[zC]
 refine(hn _ λn n1 oR=>?_).imp λou h=>by rw[zC];exact h
 have rl:=U8 oR (by omega)
 have rn:=CJ (n:=n) (by omega)
 rw[zC,zC,dM]
 refine⟨⟨by omega,by omega⟩,?_⟩
 refine(zSf (R:=NQ n) (yU (by omega)) λw x _=>?_).imp λsteps hst=>?_
 ·rw[zC]
  refine(U9 w).imp λr _=>?_
  rw[zC]
  refine(G5 r.1 x n1 oR).imp λb hb=>?_
  rw[aj]
  exact hb
 rw[zC,aj,zC,zC,aj]
 refine vO (λi z=>z.1.length=i/\∃A B D,aH n A/\aH n B/\aH n D/\z.1=([(("p":Str),A),("wet",B),("darkness",D)]:List (Str×LI)).take i) ⟨rfl,[],[],[],Pu,Pu,Pu,rfl⟩ (λi x z hi hI=>?_) λz hI=>?_
 ·obtain⟨l,A,B,D,a,b,d,e⟩:=hI
  have i3:i<3:=by
   have:=(aa2.mp hi).1
   simpa using this
  refine(G6 n1 oR z.1 z.2 x (by omega)).imp λz' ⟨E,e1,e2⟩=>⟨by rw[e1,length_append,l];rfl,?_⟩
  rw[e1,e]
  match i,hi,i3 with
  |0,hi,_ =>
   have hx:x = "p":=by simpa using hi.symm
   subst hx
   exact⟨E,B,D,e2,b,d,rfl⟩
  |1,hi,_ =>
   have hx:x = "wet":=by simpa using hi.symm
   subst hx
   exact⟨A,E,D,a,e2,d,rfl⟩
  |2,hi,_ =>
   have hx:x = "darkness":=by simpa using hi.symm
   subst hx
   exact⟨A,B,E,a,b,e2,rfl⟩
 ·obtain⟨l,A,B,D,a,b,d,e⟩:=hI
  have e:z.1=[(("p":Str),A),("wet",B),("darkness",D)]:=e
  rw[zC,zC,zC,zC,Wd]
  refine⟨⟨by decide,by decide⟩,?_⟩
  rw[SJ]
  refine⟨by decide,?_⟩
  have q4:0<=c.1/60%4/\c.1/60%4<4:=by omega
  have r4:=CJ q4.1
  rw[dM]
  refine⟨⟨by omega,by omega⟩,?_⟩
  refine(zSf (R:=aH n) (yU (by omega)) λw x _=>?_).imp λfair hfa=>?_
  ·rw[zC]
   refine(U9 w).imp λr _=>?_
   rw[zC]
   refine(zO3 r.1 (by omega) oR).imp λF hF=>?_
   rw[aj]
   exact hF
  rw[aj]
  exact⟨n,n1,oR,by show(steps.1.length:Int)=n;rw[hst.1];exact rn,hst.2,⟨A,B,D,e,a,b,d⟩,by show fair.1.length<=100;omega,λF hF=>Xe (hfa.2 F hF) oR⟩
theorem yA{α:Type}[Decidable c]{a b:Option α}{Q:α->Prop}(h:¬c)(q:W b Q):W (if c then a else b) Q:=by rw[if_neg h];exact q
theorem Dd{α:Type}[Decidable c]{a b:Option α}{Q:α->Prop}(h:c)(q:W a Q):W (if c then a else b) Q:=by rw[if_pos h];exact q
inductive wu(xss:List LI)(U G:LI):Int->Prop
 |here {s:Int}:s∈G->wu xss U G s
 |on {s t:Int}:s∈U->t∈nxt xss s->wu xss U G t->wu xss U G s
section
variable{C:Addr}{cl:Hd->Addr}{m:aF C}{n:Int}
theorem xL(hL:aH n L)(p:Int->Bool):aH n (L.filter p):=⟨hL.1.filter p,λx hx=>hL.2 x (mem_filter.mp hx).1⟩
def nt(n:Int)(S:LI):LI:=pick n λz=>!decide (z∈S)
def tg(n:Int)(A B:LI):LI:=pick n λz=>decide (z∈A)||decide (z∈B)
def sn(m:aF C)(n:Int)(L S:LI):LI:=pick n (into m.steps (L.filter λz=>decide (z∈S)))
def cm(m:aF C)(U G:LI):LI:=(xD m U G).getD []
def co(m:aF C)(U:LI):LI:=(CW m U).getD []
def st(m:aF C)(L A B:LI):LI:=cm m A (L.filter λz=>decide (z∈B))
def wz(n:Int)(L A B:LI):LI:=(L.filter λz=>decide (z∈nt n B)).filter λz=>!decide (z∈A)
def et(m:aF C)(n:Int)(L A B:LI):LI:=nt n (tg n (cm m (nt n B) (wz n L A B)) (co m (nt n B)))
theorem U_(g:Gr m n)(hU:aH n U)(hG:aH n G):xD m U G=some (cm m U G)/\aH n (cm m U G)/\∀s,s∈cm m U G↔0<=s/\s<n/\wu m.steps U G s:=by
 obtain⟨R,e,d,D,rfl⟩:=zO6 g hU.2 ⟨hG.nodup,hG.2⟩
 have ec:cm m U G=pick n λs=>(dg d s).isSome:=by
  unfold cm
  rw[e]
  rfl
 refine⟨by rw[e,ec],by rw[ec];exact yT n _,λs=>?_⟩
 rw[ec,eG]
 have key:∀(k:Nat)(s:Int),0<=s->s<n->dg d s=some (k:Int)->wu m.steps U G s:=by
  intro k
  induction k with
  |zero=>exactλs s0 s1 e=>.here ((D.zero s s0 s1).mp e)
  |succ k ih =>
   intro s s0 s1 e
   by_cases sg:s∈G
   ·exact .here sg
   ·obtain⟨sU,t,tn,t0,t1,e2⟩:=D.via s _ s0 s1 e sg
    exact .on sU tn (ih t t0 t1 (by rw[e2];exact congrArg some (by omega)))
 constructor
 ·rintro⟨s0,s1,q⟩
  obtain⟨k,e⟩:=abq.mp q
  have kp:=D.pos s k s0 s1 e
  exact⟨s0,s1,key k.toNat s s0 s1 (by rw[e];exact congrArg some (by omega))⟩
 ·rintro⟨s0,s1,h⟩
  refine⟨s0,s1,?_⟩
  induction h with
  |here h=>rw[(D.zero _ s0 s1).mpr h];rfl
  |@on s t sU tn _ ih =>
   obtain⟨t0,t1⟩:=Qt g s0 s1 t tn
   obtain⟨k,e⟩:=abq.mp (ih t0 t1)
   obtain⟨j,ej,_⟩:=D.near s t k s0 s1 t0 t1 sU tn e
   rw[ej];rfl
theorem BX(g:Gr m n)(hf:wI n m.fair)(hU:aH n U):CW m U=some (co m U)/\aH n (co m U):=by
 obtain⟨R,e,h,_⟩:=zJ7 g hf hU
 have ec:co m U=R:=by
  unfold co
  rw[e]
  rfl
 rw[ec]
 exact⟨e,h⟩
theorem Jr(g:Gr m n)(hS:aH n S):xH m S=some (nt n S):=zSk g (by have:=wY hS g.few;omega)
theorem Oc(S:LI):aH n (nt n S):=yT n _
theorem Js(g:Gr m n)(hA:aH n A)(hB:aH n B):vP A B=some (tg n A B):=by
 have la:=wY hA g.few
 have lb:=wY hB g.few
 have e:wX (A++B)=tg n A B:=Iv (Iu _) (yT n _).1 λs=>by
  rw[bT,mem_append]
  unfold tg
  rw[eG,abl,decide_eq_true_iff,decide_eq_true_iff]
  exact⟨λh=>h.elim (λa=>⟨(hA.2 s a).1,(hA.2 s a).2,.inl a⟩) λb=>⟨(hB.2 s b).1,(hB.2 s b).2,.inr b⟩,λh=>h.2.2⟩
 have lt:=wY (yT n λz=>decide (z∈A)||decide (z∈B)) g.few
 unfold vP Ga
 rw[e,if_pos ⟨by omega,by omega,by unfold tg;omega⟩]
theorem BZ(g:Gr m n)(hA:aH n A)(hB:aH n B):xO A B=some (A.filter λz=>decide (z∈B)):=zH5 hA g.few (by have:=wY hB g.few;omega)
theorem Qv(g:Gr m n)(hL:aH n L)(hA:aH n A)(hB:aH n B):xI m L A B=some (st m L A B)/\aH n (st m L A B):=by
 have q:=U_ g hA (xL hL λz=>decide (z∈B))
 refine⟨qG ?_,q.2.1⟩
 unfold xI
 rw[zC,zC,zC,zC,BZ g hL hB,aj,aj,aj,aj]
 show W (xD m A _) _
 rw[q.1]
 exact aj.mpr rfl
theorem Jt(g:Gr m n)(hf:wI n m.fair)(hL:aH n L)(hA:aH n A)(hB:aH n B):wA m L A B=some (et m n L A B):=by
 apply qG
 have rS:aH n (wz n L A B):=xL (xL hL _) _
 have qc:=U_ g (Oc (n:=n) B) rS
 have qo:=BX g hf (Oc (n:=n) B)
 have lA:=wY hA g.few
 have es:Uz m L A B=some (wz n L A B):=by
  apply qG
  unfold Uz
  rw[zC,zC,zC,zC,zC,Jr g hB,aj,aj,aj]
  show W (xO L (nt n B)) _
  rw[BZ g hL (Oc B),aj,aj]
  show W (uW _ A) _
  rw[zM7 (xL hL _) g.few (by omega),aj]
  rfl
 unfold wA
 rw[zC,Jr g hB,aj,zC,zC,zC,zC,zC,es,aj,aj,aj,aj]
 show W (xD m (nt n B) (wz n L A B)) _
 rw[qc.1,aj,zC,zC,zC,zC,zC,zC,qo.1,aj,aj,aj]
 dsimp only
 rw[Js g qc.2.1 qo.2,aj,aj,aj]
 dsimp only
 rw[Jr g (S:=tg n (cm m (nt n B) (wz n L A B)) (co m (nt n B))) (yT n _)]
 exact aj.mpr rfl
def one(m:aF C)(n:Int)(L:LI)(i:Fin 7)(S:LI):LI :=
 if i=0 then nt n S else if i=1 then sn m n L S else if i=2 then nt n (sn m n L (nt n S)) else if i=3 then co m S else if i=4 then nt n (st m L (rng n) (nt n S)) else if i=5 then st m L (rng n) S else et m n L (rng n) S
def two(m:aF C)(n:Int)(L:LI)(i:Fin 4)(A B:LI):LI :=
 if i=0 then A.filter (λz=>decide (z∈B)) else if i=1 then tg n A B else if i=2 then st m L A B else et m n L A B
def vv(m:aF C)(n:Int)(L:LI):Tr->LI
 |.all=>rng n
 |.mark x=>(yF m x).getD []
 |.one i t=>one m n L i (vv m n L t)
 |.two i l r=>two m n L i (vv m n L l) (vv m n L r)
theorem f7:∀i:Fin 7,i=0\/i=1\/i=2\/i=3\/i=4\/i=5\/i=6:=by decide
theorem f4:∀i:Fin 4,i=0\/i=1\/i=2\/i=3:=by decide
theorem Ju(g:Gr m n)(hs:∀mk∈m.marks,aH n mk.2)(x:Str):yF m x=some ((yF m x).getD [])/\aH n ((yF m x).getD []):=by
 obtain⟨S,e,h⟩:=zSn g.few hs x
 rw[e]
 refine⟨rfl,?_⟩
 rcases h with⟨mk,h1,_,rfl⟩|⟨_,rfl⟩
 ·exact hs mk h1
 ·exact Pu
theorem zTe(g:Gr m n)(hf:wI n m.fair)(hL:aH n L)(hS:aH n S)(i:Fin 7):aH n (one m n L i S):=by
 have rr:=Qu n
 rcases f7 i with rfl|rfl|rfl|rfl|rfl|rfl|rfl
 ·exact yT n _
 ·exact yT n _
 ·exact yT n _
 ·exact(BX g hf hS).2
 ·exact yT n _
 ·exact(Qv g hL rr hS).2
 ·exact yT n _
theorem zTd(g:Gr m n)(hL:aH n L)(hA:aH n A)(hB:aH n B)(i:Fin 4):aH n (two m n L i A B):=by
 rcases f4 i with rfl|rfl|rfl|rfl
 ·exact xL hA _
 ·exact yT n _
 ·exact(Qv g hL hA hB).2
 ·exact yT n _
theorem G8(g:Gr m n)(hf:wI n m.fair)(hs:∀mk∈m.marks,aH n mk.2)(hL:aH n L):∀t:Tr,aH n (vv m n L t)
 |.all=>Qu n
 |.mark x=>(Ju g hs x).2
 |.one i t=>zTe g hf hL (G8 g hf hs hL t) i
 |.two i l r=>zTd g hL (G8 g hf hs hL l) (G8 g hf hs hL r) i
theorem Od(g:Gr m n)(hf:wI n m.fair)(hL:aH n L)(hS:aH n S)(i:Fin 7)(t:Tr):vD m L (cR.mk (cl:=cl) (.one i t)) [S]=some (one m n L i S):=by
 have rr:=Qu n
 apply qG
 unfold vD
 rcases f7 i with rfl|rfl|rfl|rfl|rfl|rfl|rfl
 ·refine(yA aas (yA aas (Dd (by show decide ((0:Fin 7)=0)=true;decide) ?_)))
  rw[zC,zC,zC,dR (by decide)]
  refine⟨S,rfl,?_⟩
  rw[aj,aj]
  show W (xH m S) _
  rw[Jr g hS]
  exact aj.mpr rfl
 ·refine(yA aas (yA aas (yA (by show¬decide ((1:Fin 7)=0)=true;decide) (yA aas (yA aas ?_)))))
  unfold zU
  refine(Dd (by show decide ((1:Fin 7)=1)=true;decide) ?_)
  rw[zC,zC,zC,zC,dR (by decide)]
  refine⟨S,rfl,?_⟩
  rw[aj,aj,aj]
  show W (xZ m L S) _
  rw[zGf g hL hS]
  exact aj.mpr rfl
 ·refine(yA aas (yA aas (yA (by show¬decide ((2:Fin 7)=0)=true;decide) (yA aas (yA aas ?_)))))
  unfold zU
  refine(yA (by show¬decide ((2:Fin 7)=1)=true;decide) (Dd (by show decide ((2:Fin 7)=2)=true;decide) ?_))
  rw[zC,zC,zC,zC,zC,zC,zC,zC,zC,zC,dR (by decide)]
  refine⟨S,rfl,?_⟩
  rw[aj,aj]
  show W (xH m S) _
  rw[Jr g hS,aj,aj,aj,aj]
  show W (xZ m L (nt n S)) _
  rw[zGf g hL (Oc S),aj,aj,aj]
  show W (xH m (sn m n L (nt n S))) _
  rw[Jr g (S:=sn m n L (nt n S)) (yT n _)]
  exact aj.mpr rfl
 ·refine(yA aas (yA aas (yA (by show¬decide ((3:Fin 7)=0)=true;decide) (yA aas (yA aas ?_)))))
  unfold zU
  refine(yA (by show¬decide ((3:Fin 7)=1)=true;decide) (yA (by show¬decide ((3:Fin 7)=2)=true;decide) (yA aas (yA aas (Dd (by show decide ((3:Fin 7)=3)=true;decide) ?_)))))
  rw[zC,zC,zC,dR (by decide)]
  refine⟨S,rfl,?_⟩
  rw[aj,aj]
  show W (CW m S) _
  rw[(BX g hf hS).1]
  exact aj.mpr rfl
 ·refine(yA aas (yA aas (yA (by show¬decide ((4:Fin 7)=0)=true;decide) (yA aas (yA aas ?_)))))
  unfold zU
  refine(yA (by show¬decide ((4:Fin 7)=1)=true;decide) (yA (by show¬decide ((4:Fin 7)=2)=true;decide) (yA aas (yA aas (yA (by show¬decide ((4:Fin 7)=3)=true;decide) (Dd (by show decide ((4:Fin 7)=4)=true;decide) ?_))))))
  rw[zC,zC,zC,zC,zC,zC,zC,N_ g,aj]
  rw[zC,zC,zC,zC,zC,dR (by decide)]
  refine⟨S,rfl,?_⟩
  rw[aj,aj]
  show W (xH m S) _
  rw[Jr g hS,aj,aj,aj,aj,aj]
  show W (xI m L (rng n) (nt n S)) _
  rw[(Qv g hL rr (Oc S)).1,aj,aj,aj]
  dsimp only
  rw[Jr g (Qv g hL rr (Oc S)).2]
  exact aj.mpr rfl
 ·refine(yA aas (yA aas (yA (by show¬decide ((5:Fin 7)=0)=true;decide) (yA aas (yA aas ?_)))))
  unfold zU
  refine(yA (by show¬decide ((5:Fin 7)=1)=true;decide) (yA (by show¬decide ((5:Fin 7)=2)=true;decide) (yA aas (yA aas (yA (by show¬decide ((5:Fin 7)=3)=true;decide) (yA (by show¬decide ((5:Fin 7)=4)=true;decide) (Dd (by show decide ((5:Fin 7)=5)=true;decide) ?_)))))))
  rw[zC,zC,zC,zC,N_ g,aj]
  rw[zC,zC,dR (by decide)]
  refine⟨S,rfl,?_⟩
  rw[aj,aj,aj,aj]
  show W (xI m L (rng n) S) _
  rw[(Qv g hL rr hS).1]
  exact aj.mpr rfl
 ·refine(yA aas (yA aas (yA (by show¬decide ((6:Fin 7)=0)=true;decide) (yA aas (yA aas ?_)))))
  unfold zU
  refine(yA (by show¬decide ((6:Fin 7)=1)=true;decide) (yA (by show¬decide ((6:Fin 7)=2)=true;decide) (yA aas (yA aas (yA (by show¬decide ((6:Fin 7)=3)=true;decide) (yA (by show¬decide ((6:Fin 7)=4)=true;decide) (yA (by show¬decide ((6:Fin 7)=5)=true;decide) ?_)))))))
  rw[zC,zC,zC,zC,N_ g,aj]
  rw[zC,zC,dR (by decide)]
  refine⟨S,rfl,?_⟩
  rw[aj,aj,aj,aj]
  show W (wA m L (rng n) S) _
  rw[Jt g hf hL rr hS]
  exact aj.mpr rfl
theorem Oe(g:Gr m n)(hf:wI n m.fair)(hL:aH n L)(hA:aH n A)(hB:aH n B)(i:Fin 4)(l r:Tr):vD m L (cR.mk (cl:=cl) (.two i l r)) [A,B]=some (two m n L i A B):=by
 apply qG
 unfold vD
 rcases f4 i with rfl|rfl|rfl|rfl
 ·refine(yA aas (yA aas (yA aas (Dd (by show decide ((0:Fin 4)=0)=true;decide) ?_))))
  rw[zC,zC,dR (by decide)]
  refine⟨A,rfl,?_⟩
  rw[zC,zC,dR (by decide)]
  refine⟨B,rfl,?_⟩
  rw[aj,aj]
  show W (xO A B) _
  rw[BZ g hA hB]
  exact aj.mpr rfl
 ·refine(yA aas (yA aas (yA aas (yA (by show¬decide ((1:Fin 4)=0)=true;decide) (Dd (by show decide ((1:Fin 4)=1)=true;decide) ?_)))))
  rw[zC,zC,dR (by decide)]
  refine⟨A,rfl,?_⟩
  rw[zC,zC,dR (by decide)]
  refine⟨B,rfl,?_⟩
  rw[aj,aj]
  show W (vP A B) _
  rw[Js g hA hB]
  exact aj.mpr rfl
 ·refine(yA aas (yA aas (yA aas (yA (by show¬decide ((2:Fin 4)=0)=true;decide) (yA (by show¬decide ((2:Fin 4)=1)=true;decide) ?_)))))
  unfold zU
  refine(yA aas (yA aas (Dd (by show decide ((2:Fin 4)=2)=true;decide) ?_)))
  rw[zC,zC,zC,zC,dR (by decide)]
  refine⟨A,rfl,?_⟩
  rw[zC,zC,dR (by decide)]
  refine⟨B,rfl,?_⟩
  rw[aj,aj,aj,aj]
  show W (xI m L A B) _
  rw[(Qv g hL hA hB).1]
  exact aj.mpr rfl
 ·refine(yA aas (yA aas (yA aas (yA (by show¬decide ((3:Fin 4)=0)=true;decide) (yA (by show¬decide ((3:Fin 4)=1)=true;decide) ?_)))))
  unfold zU
  refine(yA aas (yA aas (yA (by show¬decide ((3:Fin 4)=2)=true;decide) (Dd (by show decide ((3:Fin 4)=3)=true;decide) ?_))))
  rw[zC,zC,zC,zC,dR (by decide)]
  refine⟨A,rfl,?_⟩
  rw[zC,zC,dR (by decide)]
  refine⟨B,rfl,?_⟩
  rw[aj,aj,aj,aj]
  show W (wA m L A B) _
  rw[Jt g hf hL hA hB]
  exact aj.mpr rfl
theorem Va(g:Gr m n)(hf:wI n m.fair)(hs:∀mk∈m.marks,aH n mk.2)(hL:aH n L)(t:Tr):vD m L (cR.mk (cl:=cl) t) ((sH t).map (vv m n L))=some (vv m n L t):=by
 cases t with
 |all =>
  show yN m=_
  exact N_ g
 |mark x =>
  show yF m x=_
  exact(Ju g hs x).1
 |one i t=>exact Od g hf hL (G8 g hf hs hL t) i t
 |two i l r=>exact Oe g hf hL (G8 g hf hs hL l) (G8 g hf hs hL r) i l r
theorem w_tab(g:Gr m n)(hf:wI n m.fair)(hs:∀mk∈m.marks,aH n mk.2)(hL:aH n L):∀(k:Nat)(t:Tr),t.depth<k->k<=9->W (xN k m L (cR.mk (cl:=cl) t)) λT=>∃pre,T=pre++[vv m n L t]/\T.length<2^k
 |0,t,h,_=>absurd h (acq _)
 |k+1,t,h,h9=>by
  show W (wZ (xN k) m L _) _
  unfold wZ
  rw[zC,aj,zC,aj,zC,zC,aj]
  show W (wH _ ((sH t).map cR.mk) _) _
  have p9:2^k<=2^8:=Nat.pow_le_pow_right (by decide) (by omega)
  have p9':2^k<=256:=p9
  have p1:1<=2^k:=Nat.one_le_two_pow
  have l2:(sH t).length<=2:=by cases t<;>simp[sH]
  refine vO (λi z=>z.1.length<=i*(2^k-1)/\z.2=((sH t).take i).map (vv m n L)) ⟨abd _,rfl⟩ (λi x z hi hz=>?_) λz hz=>?_
  ·obtain⟨z1,z2⟩:=hz
   rw[getElem?_map] at hi
   obtain⟨u,hu,rfl⟩:=Option.map_eq_some_iff.mp hi
   have il:i<2:=by
    have:=(aa2.mp hu).1
    omega
   have du:=zP0 (mem_of_getElem? hu)
   have im:i*(2^k-1)<=1*255:=Nat.mul_le_mul (by omega) (by omega)
   rw[zC,zC]
   refine(w_tab g hf hs hL k u (by omega) (by omega)).imp λT ⟨pre,e,hl⟩=>?_
   subst e
   unfold Bc
   rw[if_pos (yU (by omega)),aj,zC,zC]
   show W (L2.bx (z.1++(pre++[vv m n L u])) (-(1:Int))) _
   rw[<-append_assoc,rJ,aj,z2,Fb]
   refine⟨yU (by rw[length_map,length_take];omega),?_⟩
   rw[aj]
   refine⟨?_,?_⟩
   ·show((z.1++pre)++[vv m n L u]).length<=(i+1)*(2^k-1)
    rw[append_assoc,length_append,Nat.succ_mul]
    omega
   ·show((sH t).take i).map (vv m n L)++[vv m n L u]=_
    rw[take_add_one,hu,map_append]
    rfl
  ·obtain⟨told,sets⟩:=z
   obtain⟨z1,z2⟩:=hz
   rw[length_map] at z1 z2
   rw[take_length] at z2
   have z2:sets=(sH t).map (vv m n L):=z2
   have z1:told.length<=(sH t).length*(2^k-1):=z1
   have zm:(sH t).length*(2^k-1)<=2*(2^k-1):=Nat.mul_le_mul_right _ l2
   subst z2
   rw[zC,zC]
   show W (vD m L (cR.mk (cl:=cl) t) ((sH t).map (vv m n L))) _
   rw[Va g hf hs hL t,aj,Fb]
   refine⟨yU (by show told.length<=1000;omega),?_⟩
   rw[aj]
   refine⟨told,rfl,?_⟩
   show(told++[_]).length<2^(k+1)
   rw[length_append,Nat.pow_succ]
   show told.length+1<_
   omega
theorem Og(g:Gr m n)(hf:wI n m.fair)(hs:∀mk∈m.marks,aH n mk.2)(hL:aH n L)(eL:Jj m=some L){t:Tr}(hd:t.depth<9):UL m (cR.mk (cl:=cl) t)=some (vv m n L t):=by
 apply qG
 unfold UL Xc
 rw[zC,zC,zC,zC,eL,aj,aj,aj]
 show W (xN 9 m L (cR.mk t)) _
 refine(w_tab g hf hs hL 9 t hd (by decide)).imp λT ⟨pre,e,_⟩=>?_
 subst e
 rw[rJ,aj]
end
theorem Vb(xs:LI):(qj xs none (some (60:Int))).length<=60:=by
 unfold qj
 rw[length_take,show(60:Int)=((60:Nat):Int) from rfl,HT.DP]
 omega
theorem oJ:uY "p" = some true/\uY "wet" = some true/\uY "darkness" = some true:=by decide +kernel
theorem zPu(h0:0<=n)(v8:n<=60):vZ n=some (rng n):=qG (dM.mpr ⟨⟨by omega,by omega⟩,rfl⟩)
section
variable{C:Addr}{cl:Hd->Addr}{m:aF C}{n:Int}{L:LI}
theorem G9(h:aH n X):pick n (λz=>decide (z∈X))=X:=(GF h λs _ _=>by rw[decide_eq_true_iff]).symm
theorem iT:s∈nt n S↔0<=s/\s<n/\s∉S:=by
 unfold nt
 rw[eG]
 simp
theorem zQx(g:Gr m n)(hL:Jq m.steps m.fair n L)(s0:0<=s)(s1:s<n)(tn:t∈nxt m.steps s)(tL:t∈L):s∈L:=by
 obtain⟨tr,b,br,hb,r⟩:=(hL.2 t).mp tL
 exact(hL.2 s).mpr ⟨iV.mpr ⟨s0,s1⟩,b,br,hb,(Rc.on .here tn tr).trans r⟩
theorem zIa(g:Gr m n)(hL:Jq m.steps m.fair n L)(hG:∀x∈G,x∈L)(h:wu m.steps U G s):0<=s->s<n->s∈L:=by
 induction h with
 |here h=>exactλ_ _=>hG _ h
 |@on s t _ tn _ ih =>
  intro s0 s1
  obtain⟨t0,t1⟩:=Qt g s0 s1 t tn
  exact zQx g hL s0 s1 tn (ih t0 t1)
theorem Xh(i:Fin 7)(t:Tr):vv m n L (.one i t)=one m n L i (vv m n L t):=by rw[vv]
theorem zU3(i:Fin 4)(l r:Tr):vv m n L (.two i l r)=two m n L i (vv m n L l) (vv m n L r):=by rw[vv]
theorem on3(S:LI):one m n L 3 S=co m S:=by unfold one;rw[if_neg (by decide),if_neg (by decide),if_neg (by decide),if_pos rfl]
theorem on4(S:LI):one m n L 4 S=nt n (st m L (rng n) (nt n S)):=by unfold one;rw[if_neg (by decide),if_neg (by decide),if_neg (by decide),if_neg (by decide),if_pos rfl]
theorem on5(S:LI):one m n L 5 S=st m L (rng n) S:=by unfold one;rw[if_neg (by decide),if_neg (by decide),if_neg (by decide),if_neg (by decide),if_neg (by decide),if_pos rfl]
theorem U0(S:LI):one m n L 6 S=et m n L (rng n) S:=by unfold one;rw[if_neg (by decide),if_neg (by decide),if_neg (by decide),if_neg (by decide),if_neg (by decide),if_neg (by decide)]
theorem tw2(A B:LI):two m n L 2 A B=st m L A B:=by unfold two;rw[if_neg (by decide),if_neg (by decide),if_pos rfl]
theorem tw3(A B:LI):two m n L 3 A B=et m n L A B:=by unfold two;rw[if_neg (by decide),if_neg (by decide),if_neg (by decide)]
end
end Ts
set_option maxHeartbeats 40000000
namespace Ts
open PySem L2 Sy
section
variable{P:Program}{w:World}{K:PySem.W.Frag}{mg:Str->Option Value}{base:Heap}
def Xi(C:Addr)(cl:Hd->Addr)(q0:KC)(ch:(nD×nD)×Unit):Option Bool:=(Ms (qj q0.ns none (some (60:Int)))).bind λB_=>(UW B_ ).bind λv2=>(some (v2.1.a.length:Int)).bind λfW=>((some v2.1.b).bind λxs=>wP (λ(x5:Str×LI)=>some true) (λ(x5:Str×LI)=>some (x5.1,x5.2)) xs).bind λcY=>(((some v2.1.a).bind λxs=>wP (λ(x7:LI)=>some true) (λ(x7:LI)=>some x7) xs).bind λa9=>((some v2.1.c).bind λxs=>wP (λ(x8:LI)=>some true) (λ(x8:LI)=>some x8) xs).bind λa10=>Ql C a9 (some cY) (some a10)).bind λcF=>(λaX:nD×nD=>(((bx ([aX.1,aX.2]) (0:Int)).bind λa14=>some ((a14,()))).bind λz13=>uN z13.1).bind λgQ=>(((bx ([aX.1,aX.2]) (1:Int)).bind λa17=>some ((a17,()))).bind λz16=>uN z16.1).bind λtwo15=>(some ([gQ,two15,(cR.mk (.two 2 gQ.t two15.t):cR cl),(cR.mk (.two 3 gQ.t two15.t):cR cl),(cR.mk (.one 5 two15.t):cR cl),(cR.mk (.one 6 two15.t):cR cl),(cR.mk (.one 3 gQ.t):cR cl)])).bind λdO=>((((Fy dO ([(cR.mk (.one 4 gQ.t):cR cl)])).bind λa21=>some ((a21,(fW,())))).bind λb22=>some (cF,b22)).bind λz20=>Qq z20.1 z20.2.1 z20.2.2.1).bind λaL=>(Jj cF).bind λgG=>(if aL.isNone=true then some true else some (!true)).bind λb=>if b=true then some false else(Fw fW).bind λmJ=>(((((aL.bind λa25=>bx a25 (0:Int)).bind λa32=>((aL.bind λa26=>bx a26 (1:Int)).bind λa30=>((aL.bind λa27=>bx a27 (2:Int)).bind λa29=>some ((a29,(gG,(false,()))))).bind λb31=>some (a30,b31)).bind λb33=>some (a32,b33)).bind λb34=>some (v2.1.a,b34)).bind λQw=>wR Qw.1 Qw.2.1 Qw.2.2.1 Qw.2.2.2.1 Qw.2.2.2.2.1 Qw.2.2.2.2.2.1).bind λa35=>some (!a35)).bind λb=>if b=true then some false else(((((aL.bind λa36=>bx a36 (0:Int)).bind λa43=>((aL.bind λa37=>bx a37 (1:Int)).bind λa41=>((aL.bind λa38=>bx a38 (3:Int)).bind λa40=>some ((a40,(gG,(true,()))))).bind λb42=>some (a41,b42)).bind λb44=>some (a43,b44)).bind λb45=>some (v2.1.a,b45)).bind λGz=>wR Gz.1 Gz.2.1 Gz.2.2.1 Gz.2.2.2.1 Gz.2.2.2.2.1 Gz.2.2.2.2.2.1).bind λa46=>some (!a46)).bind λb=>if b=true then some false else((((((aL.bind λa47=>bx a47 (1:Int)).bind λa51=>((aL.bind λa48=>bx a48 (4:Int)).bind λa50=>some ((a50,(gG,(false,()))))).bind λb52=>some (a51,b52)).bind λb53=>some (mJ,b53)).bind λb54=>some (v2.1.a,b54)).bind λQx=>wR Qx.1 Qx.2.1 Qx.2.2.1 Qx.2.2.2.1 Qx.2.2.2.2.1 Qx.2.2.2.2.2.1).bind λa55=>some (!a55)).bind λb=>if b=true then some false else((((((aL.bind λa56=>bx a56 (1:Int)).bind λa60=>((aL.bind λa57=>bx a57 (5:Int)).bind λa59=>some ((a59,(gG,(true,()))))).bind λb61=>some (a60,b61)).bind λb62=>some (mJ,b62)).bind λb63=>some (v2.1.a,b63)).bind λQy=>wR Qy.1 Qy.2.1 Qy.2.2.1 Qy.2.2.2.1 Qy.2.2.2.2.1 Qy.2.2.2.2.2.1).bind λa64=>some (!a64)).bind λb=>if b=true then some false else((((aL.bind λa65=>bx a65 (0:Int)).bind λa69=>((aL.bind λa66=>bx a66 (6:Int)).bind λa68=>some ((a68,(gG,(false,()))))).bind λb70=>some (a69,b70)).bind λb71=>some (v2.1.a,b71)).bind λVc=>uT Vc.1 Vc.2.1 Vc.2.2.1 Vc.2.2.2.1 Vc.2.2.2.2.1).bind λc79=>if c79=true then(((aL.bind λa72=>bx a72 (0:Int)).bind λa76=>((aL.bind λa73=>bx a73 (7:Int)).bind λa75=>some ((a75,(gG,(true,()))))).bind λb77=>some (a76,b77)).bind λb78=>some (v2.1.a,b78)).bind λVd=>uT Vd.1 Vd.2.1 Vd.2.2.1 Vd.2.2.2.1 Vd.2.2.2.2.1 else some false) ch.1
def Jv(C:Addr)(cl:Hd->Addr)(_:KC):Option Bool:=some true
end
section
variable{C:Addr}{cl:Hd->Addr}{m:aF C}{n:Int}{L:LI}
theorem zR1(g:Gr m n)(hU:aH n U)(hG:aH n G)(s0:0<=s)(s1:s<n):s∈cm m U G↔s∈G\/(s∈U/\∃t∈nxt m.steps s,t∈cm m U G):=by
 have q:=(U_ g hU hG).2.2
 rw[q s]
 constructor
 ·rintro⟨_,_,h⟩
  cases h with
  |here h=>exact .inl h
  |@on _ t sU tn T =>
   obtain⟨t0,t1⟩:=Qt g s0 s1 t tn
   exact .inr ⟨sU,t,tn,(q t).mpr ⟨t0,t1,T⟩⟩
 ·rintro(h|⟨sU,t,tn,h⟩)
  ·exact⟨s0,s1,.here h⟩
  ·exact⟨s0,s1,.on sU tn ((q t).mp h).2.2⟩
theorem Qz(g:Gr m n)(hf:wI n m.fair)(hU:aH n U)(s:Int):s∈co m U↔s∈U/\∃b∈U,U7 m.steps m.fair U b/\Rc m.steps U s b:=by
 obtain⟨R,e,_,h⟩:=zJ7 g hf hU
 have ec:co m U=R:=by
  unfold co
  rw[e]
  rfl
 rw[ec]
 exact h s
theorem zR0(g:Gr m n)(hf:wI n m.fair)(hU:aH n U):s∈co m U↔s∈U/\∃t∈nxt m.steps s,t∈co m U:=by
 constructor
 ·intro h
  obtain⟨sU,b,bU,hb,r⟩:=(Qz g hf hU s).mp h
  have p:jC m.steps U s b:=r.pth.elim (λe=>by rw[<-e];exact hb.1) id
  refine⟨sU,?_⟩
  cases p with
  |one a c=>exact⟨b,a,(Qz g hf hU b).mpr ⟨bU,b,bU,hb,.here⟩⟩
  |@step _ u _ a c p=>exact⟨u,a,(Qz g hf hU u).mpr ⟨c,b,bU,hb,p.rc⟩⟩
 ·rintro⟨sU,t,tn,h⟩
  obtain⟨tU,b,bU,hb,r⟩:=(Qz g hf hU t).mp h
  exact(Qz g hf hU s).mpr ⟨sU,b,bU,hb,(Rc.on .here tn tU).trans r⟩
theorem zKj{xss:List LI}{U V:LI}{s t:Int}(h:Rc xss U s t)(k:∀x∈U,x∈V):Rc xss V s t:=by
 induction h with
 |here=>exact .here
 |on _ a b ih=>exact .on ih a (k _ b)
theorem G_(g:Gr m n)(hf:wI n m.fair)(hL:Jq m.steps m.fair n L)(hU:aH n U)(h:s∈co m U):s∈L:=by
 obtain⟨sU,b,bU,hb,r⟩:=(Qz g hf hU s).mp h
 have up:∀x∈U,x∈rng n:=λx hx=>iV.mpr (hU.2 x hx)
 refine(hL.2 s).mpr ⟨up s sU,b,up b bU,⟨hb.1.mono up,λF hF=>?_⟩,zKj r up⟩
 obtain⟨x,xF,r1,r2⟩:=hb.2 F hF
 exact⟨x,xF,zKj r1 up,zKj r2 up⟩
theorem zKd(g:Gr m n)(hL:Jq m.steps m.fair n L)(hA:aH n A)(s0:0<=s)(s1:s<n):s∈st m L A B↔(s∈B/\s∈L)\/(s∈A/\∃t∈nxt m.steps s,t∈st m L A B):=by
 show s∈cm m A _↔_\/(_/\∃t∈_,t∈cm m A _)
 rw[zR1 g hA (xL hL.1 λz=>decide (z∈B)) s0 s1,mem_filter,decide_eq_true_iff,And.comm (a:=s∈L)]
theorem Hf(g:Gr m n)(hL:Jq m.steps m.fair n L)(hA:aH n A)(h:s∈st m L A B):s∈L:=by
 obtain⟨s0,s1,T⟩:=((U_ g hA (xL hL.1 λz=>decide (z∈B))).2.2 s).mp h
 exact zIa g hL (λx hx=>(mem_filter.mp hx).1) T s0 s1
theorem Hg(g:Gr m n)(hL:Jq m.steps m.fair n L)(s0:0<=s)(s1:s<n):s∈nt n (st m L (rng n) (nt n A))↔s∉L\/(s∈A/\∀t∈nxt m.steps s,t∈nt n (st m L (rng n) (nt n A))):=by
 have rr:=Qu n
 have q:=zKd g hL (B:=nt n A) rr s0 s1
 rw[iT]
 constructor
 ·rintro⟨_,_,h⟩
  by_cases c:s∈L
  ·refine .inr ⟨ado λa=>h (q.mpr (.inl ⟨iT.mpr ⟨s0,s1,a⟩,c⟩)),λt tn=>?_⟩
   obtain⟨t0,t1⟩:=Qt g s0 s1 t tn
   exact iT.mpr ⟨t0,t1,λht=>h (q.mpr (.inr ⟨iV.mpr ⟨s0,s1⟩,t,tn,ht⟩))⟩
  ·exact .inl c
 ·intro h
  refine⟨s0,s1,λhx=>?_⟩
  rcases h with h|⟨h1,h2⟩
  ·exact h (Hf g hL rr hx)
  ·rcases q.mp hx with⟨a,_⟩|⟨_,t,tn,ht⟩
   ·exact(iT.mp a).2.2 h1
   ·exact(iT.mp (h2 t tn)).2.2 ht
theorem zRl(g:Gr m n)(hf:wI n m.fair)(hL:Jq m.steps m.fair n L)(s0:0<=s)(s1:s<n):s∈et m n L A B↔(s∈B\/s∉L)\/(s∈A/\∀t∈nxt m.steps s,t∈et m n L A B):=by
 have rN:=Oc (n:=n) B
 have rS:aH n (wz n L A B):=xL (xL hL.1 _) _
 have mt:∀x,x∈et m n L A B↔0<=x/\x<n/\¬(x∈cm m (nt n B) (wz n L A B)\/x∈co m (nt n B)):=λx=>by
  unfold et
  rw[iT]
  unfold tg
  rw[eG,abl,decide_eq_true_iff,decide_eq_true_iff]
  exact⟨λ⟨a,b,c⟩=>⟨a,b,λd=>c ⟨a,b,d⟩⟩,λ⟨a,b,c⟩=>⟨a,b,λd=>c d.2.2⟩⟩
 have ms:s∈wz n L A B↔s∈L/\s∉B/\s∉A:=by
  unfold wz
  rw[mem_filter,mem_filter,decide_eq_true_iff,iT,ad3,decide_eq_false_iff_not]
  exact⟨λh=>⟨h.1.1,h.1.2.2.2,h.2⟩,λh=>⟨⟨h.1,s0,s1,h.2.1⟩,h.2.2⟩⟩
 have mX:(s∈cm m (nt n B) (wz n L A B)\/s∈co m (nt n B))↔s∈wz n L A B\/(s∉B/\∃t∈nxt m.steps s,t∈cm m (nt n B) (wz n L A B)\/t∈co m (nt n B)):=by
  rw[zR1 g rN rS s0 s1,zR0 g hf rN,iT]
  constructor
  ·rintro((h|⟨h1,t,t1,t2⟩)|⟨h1,t,t1,t2⟩)
   ·exact .inl h
   ·exact .inr ⟨h1.2.2,t,t1,.inl t2⟩
   ·exact .inr ⟨h1.2.2,t,t1,.inr t2⟩
  ·rintro(h|⟨h1,t,t1,t2|t2⟩)
   ·exact .inl (.inl h)
   ·exact .inl (.inr ⟨⟨s0,s1,h1⟩,t,t1,t2⟩)
   ·exact .inr ⟨⟨s0,s1,h1⟩,t,t1,t2⟩
 have xl:(s∈cm m (nt n B) (wz n L A B)\/s∈co m (nt n B))->s∈L:=by
  rintro(h|h)
  ·obtain⟨_,_,T⟩:=((U_ g rN rS).2.2 s).mp h
   exact zIa g hL (λx hx=>(mem_filter.mp (mem_filter.mp hx).1).1) T s0 s1
  ·exact G_ g hf hL rN h
 rw[mt s]
 constructor
 ·rintro⟨_,_,h⟩
  by_cases cB:s∈B
  ·exact .inl (.inl cB)
  by_cases cL:s∈L
  ·refine .inr ⟨ado λa=>h (mX.mpr (.inl (ms.mpr ⟨cL,cB,a⟩))),λt tn=>?_⟩
   obtain⟨t0,t1⟩:=Qt g s0 s1 t tn
   exact(mt t).mpr ⟨t0,t1,λht=>h (mX.mpr (.inr ⟨cB,t,tn,ht⟩))⟩
  ·exact .inl (.inr cL)
 ·intro h
  refine⟨s0,s1,λhx=>?_⟩
  rcases h with(h|h)|⟨h1,h2⟩
  ·rcases mX.mp hx with a|⟨a,_⟩
   ·exact(ms.mp a).2.1 h
   ·exact a h
  ·exact h (xl hx)
  ·rcases mX.mp hx with a|⟨_,t,tn,ht⟩
   ·exact(ms.mp a).2.2 h1
   ·exact((mt t).mp (h2 t tn)).2.2 ht
theorem Oh(g:Gr m n)(hf:wI n m.fair)(hs:∀mk∈m.marks,aH n mk.2)(hL:aH n L)(eL:Jj m=some L)(ts:List Tr)(hd:∀t∈ts,t.depth<9)(hl:ts.length<=100):W (Qq m (ts.map (cR.mk (cl:=cl))) n) (· = some (ts.map (vv m n L))):=by
 have few:=g.few
 have pos:=g.pos
 have rl:=U8 few (by omega)
 unfold Qq
 rw[zC,aj,zC,zC,aj]
 refine Y9 (λi z=>z=(ts.take i).map (vv m n L)) rfl (λi x z hi hz=>?_) λz hz=>?_
 ·rw[getElem?_map] at hi
  obtain⟨u,hu,rfl⟩:=Option.map_eq_some_iff.mp hi
  have e2:(rng n).filter (λx=>decide (x∈vv m n L u))=vv m n L u:=G9 (G8 g hf hs hL u)
  rw[zC,Og g hf hs hL eL (hd u (mem_of_getElem? hu)),aj,zC,if_neg (show¬((!true)=true) by decide),zC,zPu (by omega) few]
  show W (wP _ _ (rng n)) _
  rw[Wg (λx=>decide (x∈vv m n L u)) (λx=>x),map_id']
  refine⟨yU (by omega),?_⟩
  rw[e2,aj,decide_eq_true rfl,abt,if_neg (show¬(false=true) by decide),zC,Fb]
  refine⟨yU (by rw[hz,length_map,length_take];omega),?_⟩
  rw[aj]
  exact⟨_,rfl,by rw[hz,take_add_one,hu,map_append];rfl⟩
 ·rw[length_map,take_length] at hz
  rw[Sw,aj,hz]
theorem Ve(a b:Bool):(if a=true then some b else some false)=some (a&&b):=by cases a<;>rfl
theorem sc2(a b:Bool):(if a=true then some true else some b)=some (a||b):=by cases a<;>rfl
theorem zQ6{ys X:LI}:(decide ((0:Int)<((ys.filter λx=>decide (x∈X)).length:Int))=true)↔∃t∈ys,t∈X:=by
 rw[decide_eq_true_iff]
 constructor
 ·intro h
  have:0<(ys.filter λx=>decide (x∈X)).length:=by omega
  obtain⟨x,hx⟩:=List.length_pos_iff_exists_mem.mp this
  exact⟨x,(mem_filter.mp hx).1,of_decide_eq_true (mem_filter.mp hx).2⟩
 ·rintro⟨x,h1,h2⟩
  have:=List.length_pos_of_mem ((mem_filter (p:=λx=>decide (x∈X))).mpr ⟨h1,decide_eq_true h2⟩)
  omega
theorem zQ7{ys X:LI}:(decide (((ys.filter λx=>decide (x∈X)).length:Int)=(ys.length:Int))=true)↔∀t∈ys,t∈X:=by
 rw[decide_eq_true_iff,Int.ofNat_inj,List.length_filter_eq_length_iff]
 exact⟨λh t ht=>of_decide_eq_true (h t ht),λh t ht=>decide_eq_true (h t ht)⟩
theorem Xj{xss:List LI}(hl:(xss.length:Int)=n)(n1:1<=n)(oR:n<=60)(hr:∀xs∈xss,NQ n xs)(each:Bool)(h:∀s,0<=s->s<n->(s∈X↔if each=true then((s∈B\/s∉L)\/(s∈A/\∀t∈nxt xss s,t∈X)) else((s∈B/\s∈L)\/(s∈A/\∃t∈nxt xss s,t∈X)))):W (wR xss A B X L each) (· = true):=by
 unfold wR
 rw[hl,zC,zC,zPu (by omega) oR,aj]
 refine Y9 (λ_ _=>True) trivial (λi s _ hi _=>?_) λ_ _=>by rw[Sw,aj]
 obtain⟨rfl,s1⟩:=SM hi
 have s0:(0:Int)<=(i:Int):=ace _
 have ea:L2.bx xss (i:Int)=some (nxt xss i):=by rw[Wf s0];exact NT hl s0 s1
 have rr:=(hr _ (mem_of_getElem? (NT hl s0 s1))).2.2.1
 have hi':=h i s0 s1
 rw[zC,ea,zC,aj,Wg (λx=>decide (x∈X)) (λx=>x),map_id']
 refine⟨yU (by omega),?_⟩
 rw[zC,Ve,aj,zC,Ve,aj,zC]
 have fin:∀on now:Bool,decide ((i:Int)∈X)=(now||on)->W ((((if now=true then some true else some on).bind λNm=>some (!decide ((decide ((i:Int)∈X))=Nm))).bind λb=>if b=true then(some false).bind λb=>some (Out.rt (S:=Unit) b) else some (.nx ()))) λo=>∃s',o=.nx s'/\True:=λon now e=>by
  rw[zC,zC,sc2,aj,aj,e,decide_eq_true rfl,abt,if_neg (show¬(false=true) by decide),aj]
  exact⟨(),rfl,trivial⟩
 cases each with
 |false =>
  rw[if_neg (show¬(false=true) by decide),aj]
  refine fin _ _ ?_
  rw[if_neg (show¬(false=true) by decide)] at hi'
  rw[abb,abl,aav,aav,decide_eq_true_iff,decide_eq_true_iff,decide_eq_true_iff,decide_eq_true_iff,zQ6]
  exact hi'
 |true =>
  rw[if_pos rfl,zC]
  show W (if(decide ((i:Int)∈A))=true then some (decide ((((nxt xss i).filter λx=>decide (x∈X)).length:Int)=((nxt xss i).length:Int))) else some false) _
  rw[Ve,aj,zC,sc2,aj,aj]
  refine fin _ _ ?_
  rw[if_pos rfl] at hi'
  rw[abb,abl,abl,aav,decide_eq_true_iff,decide_eq_true_iff,decide_eq_true_iff,ad3,decide_eq_false_iff_not,zQ7]
  exact hi'
theorem zH6{xss:List LI}(hl:(xss.length:Int)=n)(n1:1<=n)(oR:n<=60)(hr:∀xs∈xss,NQ n xs)(each:Bool)(h:∀s,0<=s->s<n->(s∈X↔if each=true then(s∉L\/(s∈A/\∀t∈nxt xss s,t∈X)) else(s∈A/\∃t∈nxt xss s,t∈X))):W (uT xss A X L each) (· = true):=by
 unfold uT
 rw[hl,zC,zC,zPu (by omega) oR,aj]
 refine Y9 (λ_ _=>True) trivial (λi s _ hi _=>?_) λ_ _=>by rw[Sw,aj]
 obtain⟨rfl,s1⟩:=SM hi
 have s0:(0:Int)<=(i:Int):=ace _
 have ea:L2.bx xss (i:Int)=some (nxt xss i):=by rw[Wf s0];exact NT hl s0 s1
 have rr:=(hr _ (mem_of_getElem? (NT hl s0 s1))).2.2.1
 have hi':=h i s0 s1
 rw[zC,ea,zC,aj,Wg (λx=>decide (x∈X)) (λx=>x),map_id']
 refine⟨yU (by omega),?_⟩
 rw[zC,Ve,aj,zC]
 have fin:∀due:Bool,decide ((i:Int)∈X)=due->W (if(!decide ((decide ((i:Int)∈X))=due))=true then(some false).bind λb=>some (Out.rt (S:=Unit) b) else some (.nx ())) λo=>∃s',o=.nx s'/\True:=λdue e=>by
  rw[e,decide_eq_true rfl,abt,if_neg (show¬(false=true) by decide),aj]
  exact⟨(),rfl,trivial⟩
 cases each with
 |false =>
  rw[if_neg (show¬(false=true) by decide),aj]
  refine fin _ ?_
  rw[if_neg (show¬(false=true) by decide)] at hi'
  rw[abb,aav,decide_eq_true_iff,decide_eq_true_iff,zQ6]
  exact hi'
 |true =>
  rw[if_pos rfl,zC]
  show W (if(!decide ((i:Int)∈L))=true then some true else if(decide ((i:Int)∈A))=true then some (decide ((((nxt xss i).filter λx=>decide (x∈X)).length:Int)=((nxt xss i).length:Int))) else some false) _
  rw[Ve,sc2,aj,aj]
  refine fin _ ?_
  rw[if_pos rfl] at hi'
  rw[abb,abl,aav,decide_eq_true_iff,decide_eq_true_iff,ad3,decide_eq_false_iff_not,zQ7]
  exact hi'
end
theorem Xk{β:Type}{x:β}{r:Option β}{Q:β->Prop}(h:W m (· = true))(k:W r Q):W ((m.bind λa=>some (!a)).bind λb=>if b=true then some x else r) Q:=by
 rw[zC,zC]
 refine h.imp λb hb=>?_
 subst hb
 rw[aj,abt,if_neg (by decide)]
 exact k
theorem zQy(C:Addr)(cl:Hd->Addr)(Xl:KC)(ch:(nD×nD)×Unit)(hch:(ch.1.1.t.depth<=3/\ch.1.2.t.depth<=3)/\True):Xi C cl Xl ch=some true:=by
 apply qG
 obtain⟨⟨⟨a⟩,⟨b⟩⟩,_⟩:=ch
 obtain⟨⟨ha,hb⟩,_⟩:=hch
 have ha:a.depth<=3:=ha
 have hb:b.depth<=3:=hb
 unfold Xi
 rw[zC]
 have c60:=Vb Xl.ns
 unfold Ms
 rw[if_pos (yU (by omega)),aj,zC]
 refine(G7 _).imp λv ⟨n,D⟩=>?_
 obtain⟨⟨xss,marks,fair⟩,rest⟩:=v
 obtain⟨n1,oR,hl,hr,⟨A0,A1,A2,em,r0,r1,r2⟩,hf⟩:=D
 dsimp only at hl hr em hf
 subst em
 have fl:=hf.1
 have xl:xss.length<=60:=by omega
 rw[zC,aj,zC,zC,aj]
 show W (wP (λ(x21:Str×LI)=>some true) (λ(x21:Str×LI)=>some (x21.1,x21.2)) _) _
 rw[Ii (λx:Str×LI=>(x.1,x.2)),map_id']
 refine⟨yU (by simp),?_⟩
 rw[zC,zC,zC,aj]
 show W (wP (λ(x29:LI)=>some true) (λ(x29:LI)=>some x29) xss) _
 rw[Ii (λx=>x),map_id']
 refine⟨yU (show xss.length<=1000 by omega),?_⟩
 rw[zC,zC,aj]
 show W (wP (λ(x29:LI)=>some true) (λ(x29:LI)=>some x29) fair) _
 rw[Ii (λx=>x),map_id']
 refine⟨yU (show fair.length<=1000 by omega),?_⟩
 show W (Ql C xss (some [(("p":Str),A0),("wet",A1),("darkness",A2)]) (some fair)) _
 have nd3:(([(("p":Str),A0),("wet",A1),("darkness",A2)]:List (Str×LI)).map (·.1)).Nodup:=by
  show([("p":Str),"wet","darkness"]:List Str).Nodup
  decide +kernel
 refine(U4 C (mo:=some [(("p":Str),A0),("wet",A1),("darkness",A2)]) (fo:=some fair) hl n1 oR (λxs hx=>GK (hr xs hx)) ⟨nd3,by simp,λmk hm=>?_⟩ hf).imp λm ⟨g,es,em',ef⟩=>?_
 ·have hm':mk=(("p":Str),A0)\/mk=(("wet":Str),A1)\/mk=(("darkness":Str),A2):=by simpa using hm
  rcases hm' with rfl|rfl|rfl
  ·exact⟨oJ.1,(show("p":Str).length<=1000 by decide +kernel),Xe r0 oR⟩
  ·exact⟨oJ.2.1,(show("wet":Str).length<=1000 by decide +kernel),Xe r1 oR⟩
  ·exact⟨oJ.2.2,(show("darkness":Str).length<=1000 by decide +kernel),Xe r2 oR⟩
 have em2:m.marks=[(("p":Str),A0),("wet",A1),("darkness",A2)]:=em'
 have ef2:m.fair=fair:=ef
 have hf':wI n m.fair:=by rw[ef2];exact hf
 have hs:∀mk∈m.marks,aH n mk.2:=λmk h=>by
  rw[em2] at h
  have h':mk=(("p":Str),A0)\/mk=(("wet":Str),A1)\/mk=(("darkness":Str),A2):=by simpa using h
  rcases h' with rfl|rfl|rfl
  ·exact r0
  ·exact r1
  ·exact r2
 obtain⟨L,eL,hL⟩:=G4 g hf'
 have rl:=U8 oR (by omega)
 have el:Fw n=some (rng n):=by
  unfold Fw
  rw[if_pos ⟨by omega,by omega⟩]
  rfl
 have rA:=G8 g hf' hs hL.1 a
 have rB:=G8 g hf' hs hL.1 b
 dsimp only
 have md:∀t:Tr,t.depth<=3->(uN (nD.mk t):Option (cR cl))=some (cR.mk t):=λt h=>by
  unfold uN
  rw[if_pos (show t.depth<4 by omega)]
 rw[zC]
 show W (uN (nD.mk a)) _
 rw[md a ha,aj,zC]
 show W (uN (nD.mk b)) _
 rw[md b hb,aj,zC,aj,zC,zC,zC,zC]
 unfold Fy
 rw[if_pos (by show(7+1:Nat)<=cap;decide),aj,aj,aj,hl]
 show W (Qq m (([a,b,.two 2 a b,.two 3 a b,.one 5 b,.one 6 b,.one 3 a,.one 4 a]:List Tr).map (cR.mk (cl:=cl))) n) _
 have d1:∀(i:Fin 7)(t:Tr),(Tr.one i t).depth=t.depth+1:=λ_ _=>rfl
 have d2:∀(i:Fin 4)(t u:Tr),(Tr.two i t u).depth=max t.depth u.depth+1:=λ_ _ _=>rfl
 refine(Oh g hf' hs hL.1 eL _ (λt ht=>?_) (by simp)).imp λSs hS=>?_
 ·simp only[mem_cons,List.not_mem_nil,or_false] at ht
  rcases ht with rfl|rfl|rfl|rfl|rfl|rfl|rfl|rfl
  all_goals (first|omega|(simp only[d1];omega)|(simp only[d2];omega))
 subst hS
 rw[map_cons,map_cons,map_cons,map_cons,map_cons,map_cons,map_cons,map_cons,map_nil,zU3,tw2,zU3,tw3,Xh,on5,Xh,U0,Xh,on3,Xh,on4]
 generalize vv m n L a=A at rA ⊢
 generalize vv m n L b=B at rB ⊢
 have rr:=Qu n
 have ex:m.steps=xss:=es
 have f2:∀s,0<=s->s<n->(s∈st m L A B↔if(false:Bool)=true then((s∈B\/s∉L)\/(s∈A/\∀t∈nxt xss s,t∈st m L A B)) else((s∈B/\s∈L)\/(s∈A/\∃t∈nxt xss s,t∈st m L A B))):=λs s0 s1=>by rw[if_neg (show¬(false=true) by decide),<-ex];exact zKd g hL rA s0 s1
 have f3:∀s,0<=s->s<n->(s∈et m n L A B↔if(true:Bool)=true then((s∈B\/s∉L)\/(s∈A/\∀t∈nxt xss s,t∈et m n L A B)) else((s∈B/\s∈L)\/(s∈A/\∃t∈nxt xss s,t∈et m n L A B))):=λs s0 s1=>by rw[if_pos rfl,<-ex];exact zRl g hf' hL s0 s1
 have f4:∀s,0<=s->s<n->(s∈st m L (rng n) B↔if(false:Bool)=true then((s∈B\/s∉L)\/(s∈rng n/\∀t∈nxt xss s,t∈st m L (rng n) B)) else((s∈B/\s∈L)\/(s∈rng n/\∃t∈nxt xss s,t∈st m L (rng n) B))):=λs s0 s1=>by rw[if_neg (show¬(false=true) by decide),<-ex];exact zKd g hL rr s0 s1
 have f5:∀s,0<=s->s<n->(s∈et m n L (rng n) B↔if(true:Bool)=true then((s∈B\/s∉L)\/(s∈rng n/\∀t∈nxt xss s,t∈et m n L (rng n) B)) else((s∈B/\s∈L)\/(s∈rng n/\∃t∈nxt xss s,t∈et m n L (rng n) B))):=λs s0 s1=>by rw[if_pos rfl,<-ex];exact zRl g hf' hL s0 s1
 have f6:∀s,0<=s->s<n->(s∈co m A↔if(false:Bool)=true then(s∉L\/(s∈A/\∀t∈nxt xss s,t∈co m A)) else(s∈A/\∃t∈nxt xss s,t∈co m A)):=λs s0 s1=>by rw[if_neg (show¬(false=true) by decide),<-ex];exact zR0 g hf' rA
 have f7:∀s,0<=s->s<n->(s∈nt n (st m L (rng n) (nt n A))↔if(true:Bool)=true then(s∉L\/(s∈A/\∀t∈nxt xss s,t∈nt n (st m L (rng n) (nt n A)))) else(s∈A/\∃t∈nxt xss s,t∈nt n (st m L (rng n) (nt n A)))):=λs s0 s1=>by rw[if_pos rfl,<-ex];exact Hg g hL s0 s1
 generalize nt n (st m L (rng n) (nt n A))=S7 at f7 ⊢
 generalize co m A=S6 at f6 ⊢
 generalize et m n L (rng n) B=S5 at f5 ⊢
 generalize st m L (rng n) B=S4 at f4 ⊢
 generalize et m n L A B=S3 at f3 ⊢
 generalize st m L A B=S2 at f2 ⊢
 generalize hR:rng n=R at f4 f5 el
 rw[zC,eL,aj,zC]
 rw[if_neg (show¬((some [A,B,S2,S3,S4,S5,S6,S7]).isNone=true) from aas),aj,abt,if_neg (show¬(false=true) by decide),zC,el,aj]
 have a0:L2.bx [A,B,S2,S3,S4,S5,S6,S7] (0:Int)=some A:=rfl
 have a1:L2.bx [A,B,S2,S3,S4,S5,S6,S7] (1:Int)=some B:=rfl
 have a2:L2.bx [A,B,S2,S3,S4,S5,S6,S7] (2:Int)=some S2:=rfl
 have a3:L2.bx [A,B,S2,S3,S4,S5,S6,S7] (3:Int)=some S3:=rfl
 have a4:L2.bx [A,B,S2,S3,S4,S5,S6,S7] (4:Int)=some S4:=rfl
 have a5:L2.bx [A,B,S2,S3,S4,S5,S6,S7] (5:Int)=some S5:=rfl
 have a6:L2.bx [A,B,S2,S3,S4,S5,S6,S7] (6:Int)=some S6:=rfl
 have a7:L2.bx [A,B,S2,S3,S4,S5,S6,S7] (7:Int)=some S7:=rfl
 simp only[bnd,a0,a1,a2,a3,a4,a5,a6,a7]
 refine Xk (m:=wR xss A B S2 L false) (Xj hl n1 oR hr false f2) ?_
 refine Xk (m:=wR xss A B S3 L true) (Xj hl n1 oR hr true f3) ?_
 refine Xk (m:=wR xss R B S4 L false) (Xj hl n1 oR hr false f4) ?_
 refine Xk (m:=wR xss R B S5 L true) (Xj hl n1 oR hr true f5) ?_
 rw[zC]
 refine(zH6 hl n1 oR hr false f6).imp λb hb=>?_
 subst hb
 rw[if_pos rfl]
 exact zH6 hl n1 oR hr true f7
end Ts
set_option maxHeartbeats 40000000
namespace Ts
open PySem L2 Sy
section
variable{P:Program}{w:World}{K:PySem.W.Frag}{mg:Str->Option Value}{base:Heap}
theorem Ca:ao ["_law_script","_law_rest","_law_steps","_law_marks","_law_fair","_law_many","_law_marked","_law_machine","_law_trees","_law_one","_law_two","_law_sayings","_law_sets_here","_law_live","_law_every"] ["_law_script"] (zH pL):=fsc
abbrev Vf(K:PySem.W.Frag)(C:Addr)(cl:Hd->Addr):Sp:=cQ K false (λa:KC×Unit=>([.z a.1]:SL K)) (λa=>Jv C cl a.1)
theorem Oi(F:aY K "law" "law" pL f fd)(B:Bl K mg)(T:Cl K mg C)(I:ql P w K mg base kS cl fi di)(hS:kS+1<=k0+1)(MK:Mk K C fI)(GI:aq P w K mg base aO k0 fI Xm ["self","steps","marks","fair"] (Td K C (Ql C)))(bI0:Binds K Xm ["self","steps","marks","fair"] [])(lG:mg "reversed" = none)(gH:bL P w K mg base (k0+1) "_law_always" ["_law_steps","_law_part","_law_found","_law_live","_law_each"] (zGy K))(lH:bL P w K mg base (k0+1) "_law_drawn" ["_law_rest"] (zJ1 K))(i_:bL P w K mg base (k0+1) "_law_grown" ["_law_rest","_law_names","_law_deep"] (zJ0 K))(kE:bL P w K mg base (k0+1) "_law_made" ["_law_tree"] (zH1 K cl))(oK:bL P w K mg base (k0+1) "_law_sets" ["_law_machine","_law_sayings","_law_many"] (zM0 K C cl))(fX:bL P w K mg base (k0+1) "_law_till" ["_law_steps","_law_left","_law_right","_law_found","_law_live","_law_each"] (zMz K))(iZ:bL P w K mg base (k0+1) "alive" ["machine"] (zLm K C)):aq P w K mg base aO ((k0+1)+1) f fd ["_law_script"] (Vf K C cl):=by
 refine yK F Ca (λ_=>rfl) (λ_=>rfl) λcdv A outer s H E hr=>?_
 have nd:=Ca.nd
 refine⟨_,(zB (uK (i:=1) (own:=["_law_cell_here"]) (ix:=[]) nd rfl rfl rfl rfl rfl (Mt K lG (zA (VL (LC K) (pv 0) Yd (Ro zJ)) zF)) (λC s H fp=>yL (i:=0) (show(["_law_cell_here"]:List Str).Nodup from by decide +kernel) rfl (Or.inl rfl)) (λC s H fp=>wT) (λC s H fp=>(pv 0))) (zB (OJ (zW lH hr (zA (pv 1) zF)) (JT rfl (yV (cP 2 nd) (yV (cP 3 nd) (yV (cP 4 nd) Dn))))) (zB (xB 5 nd (zS (vN K) rfl B.len aa7 (zA (pv 2) zF))) (zB (uK (i:=6) (own:=["_law_name","_law_some"]) (ix:=[]) nd rfl rfl rfl rfl rfl (yR K (pv 3)) (λC s H fp=>YC (K:=K) (n:=2) rfl rfl (yV (yL (i:=0) (show(["_law_name","_law_some"]:List Str).Nodup from by decide +kernel) rfl (Or.inl rfl)) (yV (yL (i:=1) (show(["_law_name","_law_some"]:List Str).Nodup from by decide +kernel) rfl (Or.inl rfl)) Dn))) (λC s H fp=>wT) (λC s H fp=>(yt (zA (pv 0) (zA (uV (K6 K) rfl B.list Ez (zA (pv 1) zF)) zF))))) (zB (xB 7 nd (xM MK GI hr rfl T.mgC bI0 .nil xG (zA (Cr (own:=["_law_some"]) (ix:=[]) rfl rfl rfl (yR K (pv 2)) (λC s H fp=>yL (i:=0) (show(["_law_some"]:List Str).Nodup from by decide +kernel) rfl (Or.inl rfl)) (λC s H fp=>wT) (λC s H fp=>(uV (K6 K) rfl B.list Ez (zA (pv 0) zF)))) (zA (pv 6) (zA (Cr (own:=["_law_some"]) (ix:=[]) rfl rfl rfl (yR K (pv 4)) (λC s H fp=>yL (i:=0) (show(["_law_some"]:List Str).Nodup from by decide +kernel) rfl (Or.inl rfl)) (λC s H fp=>wT) (λC s H fp=>(uV (K6 K) rfl B.list Ez (zA (pv 0) zF)))) zF))))) (zB (xB 8 nd (wN (zA (zW i_ hr (zA (VL (LC K) (pv 1) (Ro (Ra Rg zJ)) (Ro (Ra Rg zJ))) (zA (wN (zA yI (zA yI (zA yI zF)))) (zA zJ zF)))) (zA (zW i_ hr (zA (VL (LC K) (pv 1) (Ro (Ra Rg zJ)) Yd) (zA (wN (zA yI (zA yI (zA yI zF)))) (zA zJ zF)))) zF)))) (zB (xB 9 nd (zW kE hr (zA (yC (aU K) (pv 8) zJ (λ_ _=>rfl)) zF))) (zB (xB 10 nd (zW kE hr (zA (yC (aU K) (pv 8) zJ (λ_ _=>rfl)) zF))) (zB (xB 11 nd (wN (zA (pv 9) (zA (pv 10) (zA (xM (I.ini.made (.two 2)) (I.ini.i2 2) (hr.mono hS) rfl (I.ini.m2 2) (I.ini.b2 2) .nil xG (zA (pv 9) (zA (pv 10) zF))) (zA (xM (I.ini.made (.two 3)) (I.ini.i2 3) (hr.mono hS) rfl (I.ini.m2 3) (I.ini.b2 3) .nil xG (zA (pv 9) (zA (pv 10) zF))) (zA (xM (I.ini.made (.one 5)) (I.ini.i1 5) (hr.mono hS) rfl (I.ini.m1 5) (I.ini.b1 5) .nil xG (zA (pv 10) zF)) (zA (xM (I.ini.made (.one 6)) (I.ini.i1 6) (hr.mono hS) rfl (I.ini.m1 6) (I.ini.b1 6) .nil xG (zA (pv 10) zF)) (zA (xM (I.ini.made (.one 3)) (I.ini.i1 3) (hr.mono hS) rfl (I.ini.m1 3) (I.ini.b1 3) .nil xG (zA (pv 9) zF)) zF))))))))) (zB (xB 12 nd (zW oK hr (zA (pv 7) (zA (xW Ks (pv 11) (wN (zA (xM (I.ini.made (.one 4)) (I.ini.i1 4) (hr.mono hS) rfl (I.ini.m1 4) (I.ini.b1 4) .nil xG (zA (pv 9) zF)) zF))) (zA (pv 5) zF))))) (zB (xB 13 nd (zW iZ hr (zA (pv 7) zF))) (zB (yP (PW.pt (pw_or (Dj (QL (pv 12))) (pw_or1 (Dk (xT (zS (uH K (RM (n:="list"))) rfl B.qe uI (zA (pv 13) (zA (QJ (v:=.ty "list") rfl B.list Ez rfl) zF)))))))) (zB (zP oW) zG) zG) (zB (xB 14 nd (zL1 rfl rfl B.list rfl B.range (zA (pv 5) zF))) (zB (yP (Dk (xT (zW fX hr (zA (pv 2) (zA (yC (aU K) (pv 12) zJ (λ_ _=>rfl)) (zA (yC (aU K) (pv 12) zJ (λ_ _=>rfl)) (zA (yC (aU K) (pv 12) zJ (λ_ _=>rfl)) (zA (pv 13) (zA oW zF))))))))) (zB (zP oW) zG) zG) (zB (yP (Dk (xT (zW fX hr (zA (pv 2) (zA (yC (aU K) (pv 12) zJ (λ_ _=>rfl)) (zA (yC (aU K) (pv 12) zJ (λ_ _=>rfl)) (zA (yC (aU K) (pv 12) zJ (λ_ _=>rfl)) (zA (pv 13) (zA oW zF))))))))) (zB (zP oW) zG) zG) (zB (yP (Dk (xT (zW fX hr (zA (pv 2) (zA (pv 14) (zA (yC (aU K) (pv 12) zJ (λ_ _=>rfl)) (zA (yC (aU K) (pv 12) zJ (λ_ _=>rfl)) (zA (pv 13) (zA oW zF))))))))) (zB (zP oW) zG) zG) (zB (yP (Dk (xT (zW fX hr (zA (pv 2) (zA (pv 14) (zA (yC (aU K) (pv 12) zJ (λ_ _=>rfl)) (zA (yC (aU K) (pv 12) zJ (λ_ _=>rfl)) (zA (pv 13) (zA oW zF))))))))) (zB (zP oW) zG) zG) (zB (zP (Dl (zW gH hr (zA (pv 2) (zA (yC (aU K) (pv 12) zJ (λ_ _=>rfl)) (zA (yC (aU K) (pv 12) zJ (λ_ _=>rfl)) (zA (pv 13) (zA oW zF)))))) (zq (zW gH hr (zA (pv 2) (zA (yC (aU K) (pv 12) zJ (λ_ _=>rfl)) (zA (yC (aU K) (pv 12) zJ (λ_ _=>rfl)) (zA (pv 13) (zA oW zF))))))))) zG)))))))))))))))))),?_⟩
 rintro Fa ⟨q0,⟨⟩⟩
 refine CQ.sb (Ud (u_ true 1 rfl rfl (Gi (zUi (zD 0 rfl) (zR 60)).ex)) (λB_=>(Qf [.z q0,.ow true B_,.un,.un,.un,.un,.un,.un,.un,.un,.un,.un,.un,.un,.un] (Ud (Mq (n:=true) (zUf 1 rfl rfl zN) (λ_=>Gh 2 3 4 rfl rfl (λ_=>rfl) rfl (λ_ _=>rfl) rfl)) (λv2=>(Qf [.z q0,.ow true v2.2,.y v2.1.a,.y v2.1.b,.y v2.1.c,.un,.un,.un,.un,.un,.un,.un,.un,.un,.un] (Ud (yM true 5 rfl rfl (esc (uD (zD 2 rfl)))) (λfW=>(Qf [.z q0,.ow true v2.2,.y v2.1.a,.y v2.1.b,.y v2.1.c,.y fW,.un,.un,.un,.un,.un,.un,.un,.un,.un] (Ud (yM true 6 rfl rfl (wC (n:=true) (iU:=[.un,.un]) (no:=2) (ix:=[]) rfl rfl (yS (yH 3 rfl)) (KJ 0 1 rfl rfl (λ_=>rfl) rfl) (λx5=>za) (λx5=>(zRg (zI 0 rfl) (K3 (zD 1 rfl)).ex)) (λx5=>gR)).ex) (λcY=>(Qf [.z q0,.ow true v2.2,.y v2.1.a,.y v2.1.b,.y v2.1.c,.y fW,.y cY,.un,.un,.un,.un,.un,.un,.un,.un] (Ud (yM true 7 rfl rfl (zRp (wC (n:=true) (iU:=[.un]) (no:=1) (ix:=[]) rfl rfl (yS (yH 2 rfl)) (yD 0 rfl rfl) (λx7=>za) (λx7=>(K3 (zD 0 rfl)).ex) (λx7=>gR)).ex (zD 6 rfl) (wC (n:=true) (iU:=[.un]) (no:=1) (ix:=[]) rfl rfl (yS (yH 4 rfl)) (yD 0 rfl rfl) (λx8=>za) (λx8=>(K3 (zD 0 rfl)).ex) (λx8=>gR)).ex).ex) (λcF=>(Qf [.z q0,.ow true v2.2,.y v2.1.a,.y v2.1.b,.y v2.1.c,.y fW,.y cY,.y cF,.un,.un,.un,.un,.un,.un,.un] (Gm (zPk 8 rfl rfl (zJj (d:=3) rfl (zUh (Cu 1 rfl) (SQ (zR 16)) (SQ (zR 8))) rfl (RP (wD (esc (Cv "p")) (wD (esc (Cv "wet")) (wD (esc (Cv "x")) RN))) (λa h=>aa6 ((uF (uF (uF Sq))) a h) (by decide))).ex rfl (by decide) (zR 3) rfl (by decide)) (zJj (d:=3) rfl (zUj (Cu 1 rfl) (SQ (zR 8))) rfl (RP (wD (esc (Cv "p")) (wD (esc (Cv "wet")) (wD (esc (Cv "darkness")) RN))) (λa h=>aa6 ((uF (uF (uF Sq))) a h) (by decide))).ex rfl (by decide) (zR 3) rfl (by decide))) (λaX=>(Qf [.z q0,.ow true v2.2,.y v2.1.a,.y v2.1.b,.y v2.1.c,.y fW,.y cY,.y cF,.hs ([aX.1,aX.2]:List nD),.un,.un,.un,.un,.un,.un] (Gk (zX (yM true 9 rfl rfl (zL (zE (yW (zRf 8 rfl) (zR 0)) zN))) (λgQ=>(Qd [.z q0,.ow true v2.2,.y v2.1.a,.y v2.1.b,.y v2.1.c,.y fW,.y cY,.y cF,.hs ([aX.1,aX.2]:List nD),.y gQ,.un,.un,.un,.un,.un] (zX (yM true 10 rfl rfl (zL (zE (yW (zRf 8 rfl) (zR 1)) zN))) (λtwo15=>(Qd [.z q0,.ow true v2.2,.y v2.1.a,.y v2.1.b,.y v2.1.c,.y fW,.y cY,.y cF,.hs ([aX.1,aX.2]:List nD),.y gQ,.y two15,.un,.un,.un,.un] (zX (yM true 11 rfl rfl (RP (wD (yH 9 rfl) (wD (yH 10 rfl) (wD (zRh 2 (yH 9 rfl) (yH 10 rfl)) (wD (zRh 3 (yH 9 rfl) (yH 10 rfl)) (wD (WT 5 (yH 10 rfl)) (wD (WT 6 (yH 10 rfl)) (wD (WT 3 (yH 9 rfl)) RN))))))) (λa h=>aa6 ((uF (uF (uF (uF (uF (uF (uF Sq))))))) a h) (by decide))).ex) (λdO=>(Qd [.z q0,.ow true v2.2,.y v2.1.a,.y v2.1.b,.y v2.1.c,.y fW,.y cY,.y cF,.hs ([aX.1,aX.2]:List nD),.y gQ,.y two15,.y dO,.un,.un,.un] (zX (yM true 12 rfl rfl (zL (zE (zD 7 rfl) (zE (Gn (n:=true) (yH 11 rfl) (RP (wD (WT 4 (yH 9 rfl)) RN) (λa h=>aa6 ((uF Sq) a h) (by decide))).ex).ex.up.uph (zE (esc (zI 5 rfl)) zN))))) (λaL=>(Qd [.z q0,.ow true v2.2,.y v2.1.a,.y v2.1.b,.y v2.1.c,.y fW,.y cY,.y cF,.hs ([aX.1,aX.2]:List nD),.y gQ,.y two15,.y dO,.y aL,.un,.un] (zX (yM true 13 rfl rfl (zL (zE (zD 7 rfl) zN))) (λgG=>(Qd [.z q0,.ow true v2.2,.y v2.1.a,.y v2.1.b,.y v2.1.c,.y fW,.y cY,.y cF,.hs ([aX.1,aX.2]:List nD),.y gQ,.y two15,.y dO,.y aL,.y gG,.un] (vL (V3 (cG (md:=.hp) (R5 (zD 12 rfl))) (Ec (cG (md:=.hp) (R7 B.ll rfl (zD 13 rfl))))) (zY (esc (oY false))) (zX (yM true 14 rfl rfl (zMm (zI 5 rfl)).ex) (λmJ=>(Qd [.z q0,.ow true v2.2,.y v2.1.a,.y v2.1.b,.y v2.1.c,.y fW,.y cY,.y cF,.hs ([aX.1,aX.2]:List nD),.y gQ,.y two15,.y dO,.y aL,.y gG,.y mJ] (vL (Ec (cG (md:=.hp) (zL (zE (zD 2 rfl) (zE (yW (uE (zD 12 rfl)) (zR 0)) (zE (yW (uE (zD 12 rfl)) (zR 1)) (zE (yW (uE (zD 12 rfl)) (zR 2)) (zE (zD 13 rfl) (zE (esc (oY false)) zN))))))))) (zY (esc (oY false))) (vL (Ec (cG (md:=.hp) (zL (zE (zD 2 rfl) (zE (yW (uE (zD 12 rfl)) (zR 0)) (zE (yW (uE (zD 12 rfl)) (zR 1)) (zE (yW (uE (zD 12 rfl)) (zR 3)) (zE (zD 13 rfl) (zE (esc (oY true)) zN))))))))) (zY (esc (oY false))) (vL (Ec (cG (md:=.hp) (zL (zE (zD 2 rfl) (zE (zD 14 rfl) (zE (yW (uE (zD 12 rfl)) (zR 1)) (zE (yW (uE (zD 12 rfl)) (zR 4)) (zE (zD 13 rfl) (zE (esc (oY false)) zN))))))))) (zY (esc (oY false))) (vL (Ec (cG (md:=.hp) (zL (zE (zD 2 rfl) (zE (zD 14 rfl) (zE (yW (uE (zD 12 rfl)) (zR 1)) (zE (yW (uE (zD 12 rfl)) (zR 5)) (zE (zD 13 rfl) (zE (esc (oY true)) zN))))))))) (zY (esc (oY false))) (zY (esc (Ed (zL (zE (zD 2 rfl) (zE (yW (uE (zD 12 rfl)) (zR 0)) (zE (yW (uE (zD 12 rfl)) (zR 6)) (zE (zD 13 rfl) (zE (esc (oY false)) zN)))))) (zL (zE (zD 2 rfl) (zE (yW (uE (zD 12 rfl)) (zR 0)) (zE (yW (uE (zD 12 rfl)) (zR 7)) (zE (zD 13 rfl) (zE (esc (oY true)) zN))))))))))))))))))))))))))))))))))))))))))))))))))) ⟨((nD.mk .all,nD.mk .all),()),⟨by show 0<=3;decide,by show 0<=3;decide⟩,trivial⟩ λch hch=>?_
 exact(show _=Xi C cl q0 ch by unfold Xi;simp only[bnd]).trans (zQy C cl q0 ch hch)
end
open PySem L2
theorem Vg(h:aq P w K mg base aO k f fd ["_law_rest"] (zH2 K)):aq P w K mg base aO k f fd ["_law_rest"] Sy.Uk:=aq.imp h λvs H Q E ⟨a,ns,e,ha,q⟩=>by
 subst e
 obtain⟨⟨z,ns'⟩,ez,_⟩:=U9 ns
 refine⟨a,ns,[],(),z,ns',λ_=>none,rfl,ha,rfl,(λb o e=>by cases e),ez,.nil,λv H' s1 e1 r=>?_⟩
 have r:v=.int z:=r
 subst r
 exact q z ns' H' (λb o n e=>s1 b o (by unfold del;rw[if_neg n];exact e)) e1
theorem zT2(C:Addr)(cl:Sy.Hd->Addr)(Xl:KC):W (Jv C cl Xl) (· = true):=⟨true,rfl,rfl⟩
end Ts
namespace Sy
open PySem L2
section
variable{K:PySem.W.Frag}{C D:Addr}
theorem Hh(hc:isClsIn K D=true)(ht:typeIn K (.ref D)=some (.type "type"))(hm:mroIn K C (.ref D)=some true):kitOne K (.ref C) (.ref D)=some true:=by
 unfold kitOne
 split
 ·rfl
 ·unfold kitCls PySem.W.subIn
  dsimp only
  rw[ht,hm,show(PySem.W.clsIn K D).isSome=true from hc]
  rfl
theorem Oj(hc:isClsIn K D=true)(ht:typeIn K (.ref D)=some (.type "type"))(hm:mroIn K C (.ref D)=some false)(hs:mroIn K C (.ref C)=some true):kitOne K (.ref C) (.ref D)=some false:=by
 have ne:C≠D:=λe=>by
  subst e
  rw[hm] at hs
  cases hs
 unfold kitOne
 rw[if_neg (λe=>ne (aeu (abz e)))]
 unfold kitCls PySem.W.subIn
 dsimp only
 rw[ht,hm,show(PySem.W.clsIn K D).isSome=true from hc]
 rfl
def Xn(K:PySem.W.Frag)(C:Addr):List Addr->Prop
 |[]=>True
 |D::r=>mroIn K C (.ref D)=some false/\Xn K C r
def Cd(K:PySem.W.Frag):List Addr->List Addr->Prop
 |_,[]=>True
 |p,C::r=>mroIn K C (.ref C)=some true/\Xn K C p/\Xn K C r/\Cd K (C::p) r
theorem zMa(h:Xn K C ds)(m:D∈ds):mroIn K C (.ref D)=some false:=by
 induction ds with
 |nil=>cases m
 |cons E r ih =>
  cases m with
  |head=>exact h.1
  |tail _ m=>exact ih h.2 m
theorem Vh:∀{p:List Addr},Cd K p r->∀{i:Nat},r[i]?=some C->mroIn K C (.ref C)=some true/\(D∈p->mroIn K C (.ref D)=some false)/\∀{j:Nat},r[j]?=some D->j≠i->mroIn K C (.ref D)=some false:=by
 induction r with
 |nil=>intro p _ i e;cases e
 |cons E r ih =>
  intro p h i e
  cases i with
  |zero =>
   cases e
   refine⟨h.1,zMa h.2.1,λ{j} f n=>?_⟩
   cases j with
   |zero=>exact absurd rfl n
   |succ j=>exact zMa h.2.2.1 (mem_of_getElem? f)
  |succ i =>
   obtain⟨a,b,c⟩:=ih h.2.2.2 e
   refine⟨a,λm=>b (.tail _ m),λ{j} f n=>?_⟩
   cases j with
   |zero=>cases f;exact b (.head _)
   |succ j=>exact c f λq=>n (congrArg _ q)
end
def hix:Hd->Nat
 |.all=>0
 |.mark=>1
 |.one i=>i.val+2
 |.two i=>i.val+9
theorem Hj(h:Hd)(t:Tr):Ts.jH h t=decide (hix h=hix (hd t)):=by
 cases h<;>cases t
 case one.one i j _=>exact decide_eq_decide.2 ⟨λe=>by subst e;rfl,λe=>Fin.ext (by have e:i.val+2=j.val+2:=e;omega)⟩
 case two.two i j _ _=>exact decide_eq_decide.2 ⟨λe=>by subst e;rfl,λe=>Fin.ext (by have e:i.val+9=j.val+9:=e;omega)⟩
 all_goals first|rfl|(symm;apply decide_eq_false;intro e;simp only[hix,hd] at e;omega)
theorem Hl:∀i:Fin 7,i=0\/i=1\/i=2\/i=3\/i=4\/i=5\/i=6:=by decide
theorem Ho:∀i:Fin 4,i=0\/i=1\/i=2\/i=3:=by decide
abbrev HdR(K:PySem.W.Frag)(C:Addr):Prop:=findIn K (.ref C) "__class__" = some (some (.builtin "object.__class__"))/\mroIn K C (.type "object")=some true/\isClsIn K C=true/\typeIn K (.ref C)=some (.type "type")
abbrev tD(K:PySem.W.Frag)(C:Addr)(x y:Str)(st:Stmt):Prop:=nsIn K abe x=some (some (.ref C))/\(∃f fd,Mk K C f/\aY K "__init__" y st f fd)/\Cls K C/\(findIn K (.ref C) "word" = some none/\findIn K (.ref C) "parts" = some none/\findIn K (.ref C) "part" = some none/\findIn K (.ref C) "left" = some none/\findIn K (.ref C) "right" = some none/\findIn K (.ref C) "name" = some none)/\HdR K C
abbrev Xo(K:PySem.W.Frag)(C:Addr)(x y:Str)(st:Stmt):Prop:=nsIn K abe x=some (some (.ref C))/\∃f fd,qL K C "__init__" f/\aY K "__init__" y st f fd
def HdQ(K:PySem.W.Frag)(C f:Addr):Prop:=Mk K C f/\gU K C/\HdR K C
section
variable{K:PySem.W.Frag}{h:Heap}{mg:Str->Option Value}{C:Addr}{x y:Str}{st:Stmt}
theorem Ol(a:nsIn K abe x=some (some (.ref C)))(c:qL K C "__init__" f)(F:aY K "__init__" y st f fd):Xo K C x y st:=⟨a,f,fd,c,F⟩
theorem Om(a:nsIn K abe x=some (some (.ref C)))(m:Mk K C f)(F:aY K "__init__" y st f fd)(c:Cls K C)(n:(findIn K (.ref C) "word" = some none/\findIn K (.ref C) "parts" = some none/\findIn K (.ref C) "part" = some none/\findIn K (.ref C) "left" = some none/\findIn K (.ref C) "right" = some none/\findIn K (.ref C) "name" = some none)/\HdR K C):tD K C x y st:=⟨a,⟨f,fd,m,F⟩,c,n⟩
theorem w5(X:K.In h)(G:h.Ns abe mg)(p:tD K C x y st):mg x=some (.ref C)/\∃f fd,aY K "__init__" y st f fd/\HdQ K C f:=by
 obtain⟨a,⟨f,fd,m,F⟩,c,⟨n1,n2,n3,n4,n5,n6⟩,r⟩:=p
 exact⟨mg_of X G a,f,fd,F,m,⟨c,n1,n2,n3,n4,n5,n6⟩,r⟩
end
set_option maxHeartbeats 8000000 in
theorem Oo{l:PySem.W.OpenLaw}{K:PySem.W.Frag}(X:K.In h)(G:h.Ns abe mg)(bA:Xo K CA "Saying" "Saying.__init__" Z5)(bB:Xo K CB "OfOne" "OfOne.__init__" Z6)(bD:Xo K CD "OfTwo" "OfTwo.__init__" Z7)(h0:tD K C0 "All" "All.__init__" M5)(h1:tD K C1 "Mark" "Mark.__init__" Bk)(h2:tD K C2 "Not" "Not.__init__" M6)(h3:tD K C3 "SomeNext" "SomeNext.__init__" Z8)(h4:tD K C4 "EachNext" "EachNext.__init__" Z9)(h5:tD K C5 "SomeAlways" "SomeAlways.__init__" Z_)(h6:tD K C6 "EachAlways" "EachAlways.__init__" zCj)(h7:tD K C7 "SomeEver" "SomeEver.__init__" zEz)(h8:tD K C8 "EachEver" "EachEver.__init__" zE2)(h9:tD K C9 "Both" "Both.__init__" Bo)(h10:tD K C10 "Either" "Either.__init__" zKh)(h11:tD K C11 "SomeTill" "SomeTill.__init__" zEx)(h12:tD K C12 "EachTill" "EachTill.__init__" zE0)(m:Cd K [] [C0,C1,C2,C3,C4,C5,C6,C7,C8,C9,C10,C11,C12])(hn:specialIn K (.builtin "object.__class__") "__get__" = some (some (.builtin "getset_descriptor.__get__")))(ht:takesIn K (.builtin "object.__class__")=some true)
   :∃(cl fi:Hd->Addr)(di:Hd->FuncData),∀base:Heap,Ts.ql l.prog w K mg base 3 cl fi di:=by
 obtain⟨aA,fA,dA,cA,FA⟩:=bA
 have aA:=mg_of X G aA
 obtain⟨aB,fB,dB,cB,FB⟩:=bB
 have aB:=mg_of X G aB
 obtain⟨aD,fD,dD,cD,FD⟩:=bD
 have aD:=mg_of X G aD
 obtain⟨a0,f0,d0,F0,Q0⟩:=w5 X G h0
 obtain⟨a1,f1,d1,F1,Q1⟩:=w5 X G h1
 obtain⟨a2,f2,d2,F2,Q2⟩:=w5 X G h2
 obtain⟨a3,f3,d3,F3,Q3⟩:=w5 X G h3
 obtain⟨a4,f4,d4,F4,Q4⟩:=w5 X G h4
 obtain⟨a5,f5,d5,F5,Q5⟩:=w5 X G h5
 obtain⟨a6,f6,d6,F6,Q6⟩:=w5 X G h6
 obtain⟨a7,f7,d7,F7,Q7⟩:=w5 X G h7
 obtain⟨a8,f8,d8,F8,Q8⟩:=w5 X G h8
 obtain⟨a9,f9,d9,F9,Q9⟩:=w5 X G h9
 obtain⟨a10,f10,d10,F10,Q10⟩:=w5 X G h10
 obtain⟨a11,f11,d11,F11,Q11⟩:=w5 X G h11
 obtain⟨a12,f12,d12,F12,Q12⟩:=w5 X G h12
 refine⟨λh=>([C0,C1,C2,C3,C4,C5,C6,C7,C8,C9,C10,C11,C12]:List Addr).getD (hix h) 0,λh=>([f0,f1,f2,f3,f4,f5,f6,f7,f8,f9,f10,f11,f12]:List Addr).getD (hix h) 0,λh=>([d0,d1,d2,d3,d4,d5,d6,d7,d8,d9,d10,d11,d12]:List FuncData).getD (hix h) d0,λbase=>?_⟩
 have Z:∀h,HdQ K (([C0,C1,C2,C3,C4,C5,C6,C7,C8,C9,C10,C11,C12]:List Addr).getD (hix h) 0) (([f0,f1,f2,f3,f4,f5,f6,f7,f8,f9,f10,f11,f12]:List Addr).getD (hix h) 0)/\([C0,C1,C2,C3,C4,C5,C6,C7,C8,C9,C10,C11,C12]:List Addr)[hix h]?=some (([C0,C1,C2,C3,C4,C5,C6,C7,C8,C9,C10,C11,C12]:List Addr).getD (hix h) 0):=λh=>by
  rcases h with _|_|i|i
  ·exact⟨Q0,rfl⟩
  ·exact⟨Q1,rfl⟩
  ·rcases Hl i with rfl|rfl|rfl|rfl|rfl|rfl|rfl<;>exact⟨by assumption,rfl⟩
  ·rcases Ho i with rfl|rfl|rfl|rfl<;>exact⟨by assumption,rfl⟩
 have oA:=zQn (P:=l.prog) (w:=w) (mg:=mg) (base:=base) FA
 have bA:=Ts.qK (p0:="self") (p1:="word") (p2:="parts") FA
 have oB:=zTt FB aA cA oA bA
 have bB:=Ts.qK (p0:="self") (p1:="word") (p2:="part") FB
 have oD:=zTs FD aA cA oA bA
 have bD:=Ts.P0 (p0:="self") (p1:="word") (p2:="left") (p3:="right") FD
 have o0:=M7 F0 Q0.2.1 aA cA oA bA
 have o1:=Gv F1 Q1.2.1 aA cA oA bA
 have o2:=M9 F2 Q2.2.1 aB cB oB bB
 have o3:=zKx F3 Q3.2.1 aB cB oB bB
 have o4:=zK0 F4 Q4.2.1 aB cB oB bB
 have o5:=zHn F5 Q5.2.1 aB cB oB bB
 have o6:=zHo F6 Q6.2.1 aB cB oB bB
 have o7:=zKy F7 Q7.2.1 aB cB oB bB
 have o8:=zK1 F8 Q8.2.1 aB cB oB bB
 have o9:=Gw F9 Q9.2.1 aD cD oD bD
 have o10:=zQo F10 Q10.2.1 aD cD oD bD
 have o11:=zKw F11 Q11.2.1 aD cD oD bD
 have o12:=zKz F12 Q12.2.1 aD cD oD bD
 refine⟨⟨λh=>(Z h).1.1,o0.mono (by decide),Ts.tY F0,o1.mono (by decide),Ts.j4 F1,λi=>by rcases Hl i with rfl|rfl|rfl|rfl|rfl|rfl|rfl<;>assumption,λi=>by rcases Hl i with rfl|rfl|rfl|rfl|rfl|rfl|rfl<;>(first|exact Ts.j4 F2|exact Ts.j4 F3|exact Ts.j4 F4|exact Ts.j4 F5|exact Ts.j4 F6|exact Ts.j4 F7|exact Ts.j4 F8),λi=>by rcases Ho i with rfl|rfl|rfl|rfl<;>assumption,λi=>by rcases Ho i with rfl|rfl|rfl|rfl<;>(first|exact Ts.qK F9|exact Ts.qK F10|exact Ts.qK F11|exact Ts.qK F12),a0,a1,λi=>by rcases Hl i with rfl|rfl|rfl|rfl|rfl|rfl|rfl<;>assumption,λi=>by rcases Ho i with rfl|rfl|rfl|rfl<;>assumption⟩,λh=>(Z h).1.2.1,λh h' t e=>?_,λh=>(Z h).1.2.2.1,hn,ht,λh=>(Z h).1.2.2.2.1⟩
 subst e
 rw[Hj]
 obtain⟨x,_,y⟩:=Vh (D:=_) m (Z (hd t)).2
 by_cases e:hix h'=hix (hd t)
 ·rw[decide_eq_true e]
  exact Hh (Z h').1.2.2.2.2.1 (Z h').1.2.2.2.2.2 (by rw[e];exact x)
 ·rw[decide_eq_false e]
  exact Oj (Z h').1.2.2.2.2.1 (Z h').1.2.2.2.2.2 (y (Z h').2 e) x
end Sy
namespace Ts
open PySem L2 Sy
def Ce(K:PySem.W.Frag):Sp:=λvs H Q _=>∃(a:Addr)(ns:LI),vs=[.ref a]/\aW K H a (ns.map V.int)/\ns.length<=63/\∀H',Q (.bl true) H'
section
variable{P:Program}{w:World}{K:PySem.W.Frag}{mg:Str->Option Value}{base h:Heap}{j k:Nat}{f C:Addr}{fd:FuncData}{ps:List Str}{sp:Sp}{x y:Str}{st:Stmt}
theorem aai(no:∀vs H Q E,¬sp vs H Q E):aq P w K mg base aO k f fd ps sp :=
 ⟨λvs H Q E h=>absurd h (no vs H Q E),λA outer s H args us vs Q E _ _ _ _ h=>absurd h (no vs H Q E)⟩
abbrev FP(K:PySem.W.Frag)(x:Str)(st:Stmt):Prop:=∃f fd,nsIn K abe x=some (some (.ref f))/\aY K x x st f fd
abbrev MP(K:PySem.W.Frag)(C:Addr)(x y:Str)(st:Stmt):Prop:=∃f fd,Meth K C x f/\aY K x y st f fd
def Jw(K:PySem.W.Frag):List Str->Prop
 |[]=>True
 |x::r=>nsIn K abe x=some none/\Jw K r
theorem Vi(a:nsIn K abe x=some (some (.ref f)))(F:aY K x x st f fd):FP K x st:=⟨f,fd,a,F⟩
theorem Vj(a:Meth K C x f)(F:aY K x y st f fd):MP K C x y st:=⟨f,fd,a,F⟩
theorem Hq{dV oc kV doc pm cdv ct:Value}{od an:Option Addr}{osl:Array (Option Value)}(l:K.lookup f=some ⟨oc,od,.func (fnOf x y (vJ st) (xQ st) (zH st) dV kV doc pm an cdv ct),osl⟩)(c:codeIn K cdv y=true)(k:keepIn K (.ref f)=true):Bj K x y st dV f (fnOf x y (vJ st) (xQ st) (zH st) dV kV doc pm an cdv ct):=⟨⟨oc,od,kV,doc,pm,an,cdv,ct,osl,rfl,l,c⟩,k⟩
theorem Oq(X:K.In h)(G:h.Ns abe mg)(p:FP K x st)(t:∀f fd,aY K x x st f fd->aq P w K mg base aO k f fd ps sp/\Binds K fd ps []):bL P w K mg base k x ps sp:=by
 obtain⟨f,fd,a,F⟩:=p
 exact⟨f,fd,(t f fd F).1,(t f fd F).2,F.kp,mg_of X G a⟩
theorem Hr(c:Cls K C)(p:MP K C x y st)(t:∀f fd,aY K x y st f fd->aq P w K mg base aO k f fd ps sp/\Binds K fd ps []):fY P w K mg base k C x ps sp:=by
 obtain⟨f,fd,a,F⟩:=p
 exact⟨⟨f,fd,(t f fd F).1,(t f fd F).2,a⟩,c⟩
theorem bL.m(c:bL P w K mg base j x ps sp)(h:j<=k:=by decide):bL P w K mg base k x ps sp:=c.mono h
theorem fY.m(c:fY P w K mg base j C x ps sp)(h:j<=k:=by decide):fY P w K mg base k C x ps sp:=c.mono h
end
set_option maxHeartbeats 8000000 in
theorem all_mk{l:PySem.W.OpenLaw}{K:PySem.W.Frag}(X:K.In h)(G:h.Ns abe mg)(hfa:mg "law" = some (.ref fa))(SY:∃(cl fi:Hd->Addr) (di:Hd->FuncData),∀base:Heap,ql l.prog w K mg base 3 cl fi di)(h1:FP K "sources_of" W0)(h2:FP K "is_stand" jM)(h3:FP K "check_stands" dU)(h4:FP K "check_steps" fH)(h5:FP K "is_name" lq)(h6:FP K "check_marks" fJ)(h7:FP K "check_fair" gn)(h8:FP K "copied" m8)(h9:FP K "everywhere" fZ)(h10:FP K "flags" qm)(h11:FP K "without" kO)(h12:FP K "others" mY)(h13:FP K "together" jJ)(h14:FP K "shared" mZ)(h15:FP K "distances" iy)(h16:FP K "comes_to" jK)(h17:FP K "steps_into" gj)(h18:FP K "stepping_to" fj)(h19:FP K "bits_of" kW)(h20:FP K "onward_bits" fu)(h21:FP K "rings" qp)(h22:FP K "missed_by" iz)(h23:FP K "fair_rings" gk)(h24:FP K "joined" m5)(h25:FP K "core" sI)(h26:FP K "alive" s_alive)(h27:FP K "some_next" iB)(h28:FP K "some_till" iC)(h29:FP K "spoilers" jL)(h30:FP K "each_till" iD)(h31:FP K "meaning_over_walks" cg)(h32:FP K "meaning" lg)(h33:FP K "table_among" fG)(h34:FP K "table" qt)(h35:FP K "holds" qu)(h36:FP K "_law_cell" m9)(h37:FP K "_law_grown" pJ)(h38:FP K "_law_single" m_)(h39:FP K "_law_made" q9)(h40:FP K "_law_bits" ni)(h41:FP K "_law_next" nj)(h42:FP K "_law_drawn" lu)(h43:FP K "_law_sets" nq)(h44:FP K "_law_till" nA)(h45:FP K "_law_always" jN)(h46:FP K "law" pL)(aC:nsIn K abe "Machine" = some (some (.ref C)))(mk:Mk K C fI)(FI:Bj K "__init__" "Machine.__init__" Bg (.ref TD) fI Xm)(lT:K.lookup TD=some ⟨ocT,odT,.seq #[.none,.none] nT,slT⟩)(m0:MP K C "many" "Machine.many" dW)(m1:MP K C "next_of" "Machine.next_of" cU)(m2:MP K C "before" "Machine.before" dh)(m3:MP K C "marked" "Machine.marked" dj)(m4:MP K C "fair_at" "Machine.fair_at" cV)(cC:Cls K C)(nC:findIn K (.ref C) "steps" = some none/\findIn K (.ref C) "marks" = some none/\findIn K (.ref C) "fair" = some none/\findIn K (.ref C) "sources" = some none)(oM:nsIn K abe "LETTERS" = some (some (.str "abcdefghijklmnopqrstuvwxyz" wj)))(fP:nsIn K abe "LONGEST_NAME" = some (some (.int 8 nJ)))(gJ:nsIn K abe "MOST_STANDS" = some (some (.int 60 pA)))(fQ:nsIn K abe "SAYING_WORDS" = some (some (.ref cj)))(pB:K.lookup cj=some ⟨.type "tuple",none,.seq #[.str "all" w6,.str "not" xg,.str "both" xq,.str "either" xu,.str "somenext" yc,.str "eachnext" yg,.str "sometill" yh,.str "eachtill" yj,.str "someever" yp,.str "eachever" yq] Cg,zf⟩)(z:Jw K ["len","range","isinstance","int","bool","list","enumerate","any","all","sorted","str","set","reversed"]) :
  ∃fd:FuncData,(∀(s:Shared)(v:Value),BindsTo s fd ⟨[v],[]⟩ [("_law_script",v)])/\∀base:Heap,K.In base->base.Ns abe mg->aq l.prog w K mg base aO 21 fa fd ["_law_script"] (Ce K):=by
 obtain⟨f,fd,a,⟨oc,od,kV,dc,pm,an,cd,ct,sl,rfl,lk,ck⟩,kp⟩:=h46
 have e:=hfa.symm.trans (mg_of X G a)
 cases e
 obtain⟨cl,fi,di,I0⟩:=SY
 obtain⟨aaj,Ot,rK,aak,Vk,Vl,tE,Nr,Nj,bN,Nk,mz,lG,_⟩:=z
 obtain⟨nS,nM,nF,nB⟩:=nC
 have N:∀{x:Str},nsIn K abe x=some none->mg x=none:=λe=>PySem.W.mg_none_of X G e
 have B:Bl K mg:=⟨N aaj,N Ot,N rK,N aak,N Vk,N Vl,N tE,R8,R_,R9⟩
 have aal:=N Nr
 have aam:=N Nj
 have gM:=N bN
 have aan:=N Nk
 have Hs:=N mz
 have yr:=N lG
 have oM:=mg_of X G oM
 have fP:=mg_of X G fP
 have gJ:=mg_of X G gJ
 have fQ:=mg_of X G fQ
 have T:Cl K mg C:=⟨cC,nS,nM,nF,nB,mg_of X G aC⟩
 have bI0:Binds K Xm ["self","steps","marks","fair"] []:=λs us KX hl=>by
  obtain⟨_,_,_,_,_,_,_,_,_,rfl,_⟩:=FI.ex
  have h2:us.length=4:=by
   rw[length_append] at hl
   have:([]:List Value).length=0:=rfl
   have h4:(["self","steps","marks","fair"]:List Str).length=4:=rfl
   omega
  match us,h2 with
  |[u0,u1,u2,u3],_=>exact BindsTo.of_defaults rfl (KX _ _ lT) rfl rfl rfl
 refine⟨fnOf "law" "law" (vJ pL) (xQ pL) (zH pL) .none kV dc pm an cd ct,λs v=>.of_eq rfl,λbase _ _=>?_⟩
 have cal:∀{k:Nat}{x:Str}{st:Stmt}{ps:List Str}{sp:Sp},FP K x st->(∀f fd,aY K x x st f fd->aq l.prog w K mg base aO k f fd ps sp/\Binds K fd ps [])->bL l.prog w K mg base k x ps sp:=λh t=>Oq X G h t
 have Ci:∀{k:Nat}{x y:Str}{st:Stmt}{ps:List Str}{sp:Sp},MP K C x y st->(∀f fd,aY K x y st f fd->aq l.prog w K mg base aO k f fd ps sp/\Binds K fd ps [])->fY l.prog w K mg base k C x ps sp:=λh t=>Hr cC h t
 have I:=I0 base
 have dX:∀H:Hp,cO K H cj ((["all","not","both","either","somenext","eachnext","sometill","eachtill","someever","eachever"]:List Str).map V.str):=λH=>.inr ⟨_,_,_,pB,rfl,rfl,(by show 10<=sizeLine;decide),by repeat(first|exact Paired.nil|refine Paired.cons ⟨_,rfl⟩ ?_)⟩
 have jO:=cal h2 λ_ _ F=>⟨zKu (k:=0) F B,j4 F⟩
 have aN:=cal h3 λ_ _ F=>⟨zFa (k:=1) F B jO.m,qK F⟩
 have pC:=cal h4 λ_ _ F=>⟨zF9 (k:=2) F B gJ aN.m,tY F⟩
 have lB:=cal h5 λ_ _ F=>⟨zN2 (k:=0) F B oM fP fQ dX aam aan,tY F⟩
 have pD:=cal h6 λ_ _ F=>⟨zGa (k:=2) F B aN.m lB.m,j4 F⟩
 have qH:=cal h7 λ_ _ F=>⟨zHm (k:=2) F B aN.m,j4 F⟩
 have Cj:=cal h8 λ_ _ F=>⟨zQm (k:=0) F B,tY F⟩
 have aao:=cal h1 λ_ _ F=>⟨MN F B,tY F⟩
 have OI:aq l.prog w K mg base aO 4 fI Xm ["self","steps","marks","fair"] (Td K C (Ql C)):=M4 (k:=3) FI T B pC.m pD.m qH.m Cj.m aao.m
 have aM:=Ci m0 λ_ _ F=>⟨zFb (k:=0) (C:=C) F B T,tY F⟩
 have aR:=Ci m1 λ_ _ F=>⟨zCy (k:=0) (C:=C) F B T gM,j4 F⟩
 have dw:=Ci m2 λ_ _ F=>⟨zDs (k:=0) (C:=C) F B T,j4 F⟩
 have dF:=Ci m3 λ_ _ F=>⟨zDr (k:=0) (C:=C) F B T gM,j4 F⟩
 have cW:=Ci m4 λ_ _ F=>⟨zCz (k:=0) (C:=C) F B T gM,j4 F⟩
 have aJ:=cal h9 λ_ _ F=>⟨zHl (k:=1) (C:=C) F B aM.m,tY F⟩
 have iW:=cal h10 λ_ _ F=>⟨zTq (k:=1) (C:=C) F B aM.m,j4 F⟩
 have dN:=cal h11 λ_ _ F=>⟨zNz (k:=0) F B gM Hs,j4 F⟩
 have aV:=cal h12 λ_ _ F=>⟨zQf (k:=2) (C:=C) F B aJ.m dN.m,j4 F⟩
 have dz:=cal h13 λ_ _ F=>⟨zKr (k:=0) F B gM Hs,j4 F⟩
 have bw:=cal h14 λ_ _ F=>⟨zQe (k:=0) F B gM Hs,j4 F⟩
 have iI:=cal h15 λ_ _ F=>⟨zI4 (k:=2) (C:=C) F B dw.m aM.m iW.m,qK F⟩
 have bO:=cal h16 λ_ _ F=>⟨zKv (k:=3) (C:=C) F B iI.m,qK F⟩
 have gB:=cal h17 λ_ _ F=>⟨zHj (k:=1) (C:=C) F B aal aR.m,qK F⟩
 have fL:=cal h18 λ_ _ F=>⟨zF7 (k:=2) (C:=C) F B iW.m gB.m,qK F⟩
 have iY:=cal h19 λ_ _ F=>⟨zN3 (k:=0) F B,tY F⟩
 have fK:=cal h20 λ_ _ F=>⟨zF8 (k:=1) (C:=C) F B aM.m aR.m iY.m,j4 F⟩
 have qz:=cal h21 λ_ _ F=>⟨zTo (k:=2) (C:=C) F B gM Hs fK.m,j4 F⟩
 have iQ:=cal h22 λ_ _ F=>⟨zI2 (k:=1) (C:=C) F B T cW.m bw.m,j4 F⟩
 have gD:=cal h23 λ_ _ F=>⟨zHk (k:=3) (C:=C) F B iQ.m qz.m,j4 F⟩
 have n8:=cal h24 λ_ _ F=>⟨zQl (k:=0) F B,tY F⟩
 have gF:=cal h25 λ_ _ F=>⟨Gy (k:=4) (C:=C) F B bO.m gD.m n8.m,j4 F⟩
 have iZ:=cal h26 λ_ _ F=>⟨zTr (k:=5) (C:=C) F B gF.m aJ.m,tY F⟩
 have eY:=cal h27 λ_ _ F=>⟨zI1 (k:=3) (C:=C) F B aJ.m bw.m fL.m,qK F⟩
 have dI:=cal h28 λ_ _ F=>⟨zI0 (k:=4) (C:=C) F B bO.m bw.m,P0 F⟩
 have jP:=cal h29 λ_ _ F=>⟨zKs (k:=3) (C:=C) F B aV.m bw.m dN.m,P0 F⟩
 have eX:=cal h30 λ_ _ F=>⟨zI3 (k:=5) (C:=C) F B bO.m gF.m aV.m jP.m dz.m,P0 F⟩
 have cu:=cal h31 λ_ _ F=>⟨zBl (k:=6) (C:=C) (cl:=cl) F B I gF.m eX.m aJ.m aV.m eY.m dI.m,P0 F⟩
 have lC:=cal h32 λ_ _ F=>⟨zN0 (k:=7) (C:=C) (cl:=cl) F B I dF.m aJ.m cu.m aV.m bw.m dz.m,P0 F⟩
 have oO:∀n:Nat,bL l.prog w K mg base (8+n) "table_among" ["machine","living","saying"] (uS K C cl (xN n)):=λn=>by
  induction n with
  |zero=>exact cal h33 λ_ _ F=>⟨aai (λvs H Q E ⟨_,_,_,_,z,_⟩=>by cases z),qK F⟩
  |succ n ih=>exact cal h33 λ_ _ F=>⟨zF6 (k:=8+n) F B I (lC.mono (aa6 (by decide) (acf 8 n))) ih,qK F⟩
 have cN:bL l.prog w K mg base 17 "table_among" ["machine","living","saying"] (zDf K C cl):=oO 9
 have qC:=cal h34 λ_ _ F=>⟨zTn (k:=17) (C:=C) (cl:=cl) F B iZ.m cN.m,j4 F⟩
 have qF:=cal h35 λ_ _ F=>⟨zTp (k:=18) (C:=C) (cl:=cl) F B qC.m,j4 F⟩
 have eF:=cal h36 λ_ _ F=>⟨zQj (k:=0) F B,tY F⟩
 have i_:bL l.prog w K mg base 6 "_law_grown" ["_law_rest","_law_names","_law_deep"] (zJ0 K):=by
  obtain⟨f,fd,a,F⟩:=h37
  obtain⟨gC,dC,GC0,bC,kC,mC⟩:=eF
  exact⟨f,fd,Sy.Jf F (qK F) (mg_of X G a) (Vg GC0) bC kC mC B 4,qK F,F.kp,mg_of X G a⟩
 have tH:bL l.prog w K mg base 5 "_law_single" ["_law_word","_law_part"] (Sy.Ng cl):=by
  obtain⟨f,fd,a,F⟩:=h38
  exact⟨f,fd,Sy.Uq F I.ini,j4 F,F.kp,mg_of X G a⟩
 have kE:bL l.prog w K mg base 9 "_law_made" ["_law_tree"] (zH1 K cl):=by
  obtain⟨f,fd,a,F⟩:=h39
  obtain⟨gS,dS,GS,bS,kS,mS⟩:=tH
  exact⟨f,fd,Ni (Sy.Jh F (tY F) (mg_of X G a) I.ini GS bS kS mS B 4),tY F,F.kp,mg_of X G a⟩
 have kj:=cal h40 λ_ _ F=>⟨zQk (k:=0) F B,j4 F⟩
 have oF:=cal h41 λ_ _ F=>⟨zQi (k:=0) F B,qK F⟩
 have lH:=cal h42 λ_ _ F=>⟨zN1 (k:=1) F B kj.m eF.m oF.m,tY F⟩
 have oK:=cal h43 λ_ _ F=>⟨zQh (k:=19) (C:=C) (cl:=cl) F B qF.m,qK F⟩
 have fX:=cal h44 λ_ _ F=>⟨zQg (k:=0) F B,bi6 F⟩
 have gH:=cal h45 λ_ _ F=>⟨zKt (k:=0) F B,bi5 F⟩
 refine aq.imp (Oi (k0:=19) (C:=C) (cl:=cl) (mQ lk ck kp) B T I (by decide) mk (OI.mono (by decide)) bI0 yr gH.m lH.m i_.m kE.m oK.m fX.m iZ.m) λvs H Q E h=>?_
 obtain⟨a,ns,rfl,hS,h63,hQ⟩:=h
 obtain⟨b,e1,e2⟩:=zT2 C cl ⟨ns⟩
 subst e2
 exact⟨(⟨ns⟩,()),true,H,.refl _,e1,.cons ⟨a,rfl,hS⟩ .nil,λv H' _ r=>by cases r;exact hQ H'⟩
theorem walk{l:PySem.W.OpenLaw}{YP:World->Heap->Prop}{d:DefRec}{K:Params->PySem.W.Frag}(hn:l.most=some 63)(hdf:d.params.defaults=[])(hY:∀(w:World) (h:Heap),YP w h->(K w.params).In h)(F:∀(w:World) (mg:Str->Option Value) (fa:Addr) (h:Heap),(K w.params).In h->h.Ns abe mg->mg d.name=some (.ref fa) ->
   ∃fd:FuncData,(∀(s:Shared) (u:Value),BindsTo s fd ⟨[u],[]⟩ [("_law_script",u)])/\∀base:Heap,(K w.params).In base->base.Ns abe mg->aq l.prog w (K w.params) mg base aO 21 fa fd ["_law_script"] (Ce (K w.params))) :
  PySem.W.WalkO q loose XP YP l.row.toRowW d [] (λf vs=>PySem.call f vs) :=
 L2.DY (n:=63) (k:=21) (x:="_law_script") (CX:=λ_=>aO) (sp:=λw=>Ce (K w.params)) hn (by decide) hdf ⟨rfl,by decide,by decide⟩ hY F (λ_ _ a ns hl _ hS=>⟨a,ns,rfl,hS,hl,λ_=>rfl⟩) λ_ _ _ _ _ z=>z
end Ts
namespace PySem.W.Fast
def tw17533208997426372162:=0
def tw16066942033560593010:=0
def tw7765964004661496194:=0
def tw3790706234532753467:=0
def tw13537668994225303125:=0
def tw4230387599556694258:=0
def tw8274833470164127479:=0
def tw16961100384008482429:=0
def tw13094922536819645862:=0
def tw14135351018285675235:=0
def tw835901408575856167:=0
def tw6999247935169826271:=0
def tw12060068021111780413:=0
def tw18069142656762594122:=0
def tw16033127981197251940:=0
def tw23399460906714817:=0
def tw3585066433837900205:=0
def tw12036381996864446347:=0
def tw4142414076789527111:=0
def tw7151824852134667698:=0
def tw12529835938738232931:=0
def tw7677481512346807102:=0
def tw6720696133133788029:=0
def tw14020588878978836526:=0
def tw7142771144430847730:=0
def tw3390207719572285609:=0
def tw11377649299260715760:=0
def tw8261946531144393181:=0
def tw15319830108596371673:=0
def tw4848731314744345195:=0
def tw14744294366296355610:=0
def tw17719593126425478407:=0
def tw3169016987980870053:=0
def tw7601598466480512457:=0
def tw2472579344337226059:=0
def tw10658622509528032071:=0
def tw919545282360762223:=0
def tw3076636728082990038:=0
def tw4750195556403517866:=0
def tw8370121463299297101:=0
def tw18161167167441894590:=0
def tw3628900543672584793:=0
def tw17561410531866265410:=0
def tw13336337869612799195:=0
def tw17031039421865704289:=0
def tw13214631864620446626:=0
def tw10547053826272170002:=0
def tw11666925845321027713:=0
def tw6144072829944522839:=0
def tw14383756644529805825:=0
def tw10433822984861969946:=0
def tw16948332422850178487:=0
def tw6520622348606033467:=0
def tw6183433092120664475:=0
def tw13991558886574042864:=0
def tw9996947268017400578:=0
def tw10025921672118364346:=0
def tw399610592611575554:=0
def tw4807700178565388738:=0
def tw1386072710889202285:=0
def tw3165743657735752112:=0
def tw1434262290138603726:=0
def tw12727931685648875440:=0
def tw12401106765381750974:=0
def tw16103439612948884641:=0
def tw4201484548640068850:=0
def tw17479336476745537504:=0
def tw946508884686981872:=0
def tw1546776428254311564:=0
def tw7396919978984744462:=0
def tw3453335162307118169:=0
def tw739377302448845965:=0
def tw10550903235560279618:=0
def tw15536555869587744704:=0
def tw10546107850236411403:=0
def tw10775055834990102925:=0
def tw6988640136143799479:=0
def tw9540569450177002625:=0
def tw16112927519397420599:=0
def tw14704196635662863543:=0
def tw4497890932379147218:=0
def tw12403829075463069935:=0
def tw966486808651917883:=0
def tw12739740653204389677:=0
def tw6843933241244027772:=0
def tw311545115617465555:=0
def tw463346131200081581:=0
def tw13983989080467950099:=0
def tw9103294215303120108:=0
def tw14315650416128392454:=0
def tw14286767616490689745:=0
def tw10576541143542767997:=0
def tw3887286285745404463:=0
def tw3323912118111288585:=0
def tw15911587814106550812:=0
def tw6102707962389034716:=0
def tw17871752001825483439:=0
def tw13918180095202726343:=0
def tw16190003576324125491:=0
def tw9975423635938019221:=0
def tw13351301671760271409:=0
def tw4905845849736810625:=0
def tw11719645643096515793:=0
def tw5139022519663717411:=0
def tw11696144784994308798:=0
def tw9409338282935347570:=0
def tw939184983229541028:=0
def tw5632431163730477335:=0
def tw1372618186453094769:=0
def tw6843904306717666365:=0
def tw1161202723220992704:=0
def tw11096500670166515474:=0
def tw9136542862425242841:=0
def tw6850908608449634932:=0
def tw49562660776873373:=0
def tw3509280222605977155:=0
def tw8271380208176480222:=0
def tw17639990301148602431:=0
def tw6313380192297138834:=0
def tw3981182774009770614:=0
def tw7304323345406046230:=0
def tw540308967146408862:=0
def tw17586417511719823262:=0
def tw8248253692822681805:=0
def tw8277459476966587962:=0
def tw12938652398942192634:=0
def tw14242952932458521451:=0
def tw13837285603697279484:=0
def tw9194202559254036278:=0
def tw12382088833309012541:=0
def tw13908733230097775559:=0
def tw17169491751175832372:=0
def tw16300879530471357364:=0
def tw17429497784462936607:=0
def tw3705888599724490181:=0
def tw5711878149833839265:=0
def tw5057947809651523082:=0
def tw69901279808572948:=0
def tw15119189913714153111:=0
def tw10333914951726577261:=0
def tw1553975778593604463:=0
def tw2047481393104807030:=0
def tw11813339927071780616:=0
def tw15789657714402299841:=0
def tw12872641727969158543:=0
def tw189442909142043247:=0
def tw11691610422180384455:=0
def tw3094477532554556317:=0
def tw14777440810353359902:=0
def tw6911443771891335305:=0
def tw8003721868310155551:=0
def tw3843073817730770094:=0
def tw5399851328094091292:=0
def tw2444003699716234209:=0
def tw13115565751298141558:=0
def tw3408098613533159974:=0
def tw6330462949454759061:=0
def tw7126040162950266453:=0
def tw17275395103501064899:=0
def tw12921319953167755534:=0
def tw17021292118392023584:=0
def tw4675154324551385262:=0
def tw3339413673767522685:=0
def tw9978652013316184167:=0
def tw17765178549460269867:=0
def tw14518765238397710778:=0
def tw89747915689627741:=0
def tw8695854951214889392:=0
def tw2651213074368429838:=0
def tw665332514062880223:=0
def tw5497884682574444264:=0
def tw6948573606238223022:=0
def tw3357508015520525090:=0
def tw14464286627638927148:=0
def tw17540909443454286844:=0
def tw5071837169448920859:=0
def tw13722621832521233726:=0
def tw16025080163064457777:=0
def tw11842022087684341725:=0
def tw17261406328932554693:=0
def tw15430032150791159603:=0
def tw13215200130314681130:=0
def tw16407120084510518581:=0
def tw13086143059713031200:=0
def tw15726134838904858174:=0
def tw308005764308983967:=0
def tw10882970913604790646:=0
def tw18019721524045347871:=0
def tw2966990093977287543:=0
def tw4362059666651125255:=0
def tw10952204935191272393:=0
def tw2107956685339038367:=0
def tw5957717258353341937:=0
def tw15420313330748465416:=0
def tw3445396519007123136:=0
def tw7209279081752740373:=0
def tw7641963234596638191:=0
def tw11694006061333711597:=0
def tw4880221921006348311:=0
def tw10742159135004918802:=0
def tw15165477006076889623:=0
def tw16987231639456534989:=0
def tw2277198555904971125:=0
def tw9426441403235737608:=0
def tw3692393252147033739:=0
def tw11360731108094245483:=0
def tw14213340574760527254:=0
def tw5079162254146053551:=0
def tw6363492014346378481:=0
def tw656416436168823359:=0
def tw11687207824831703255:=0
def tw13301283006738528563:=0
def tw3698397920378947821:=0
def tw649868448046166849:=0
def tw4567157193191482956:=0
def tw13369723584140275631:=0
def tw5928168106279352256:=0
def tw4225887678234004560:=0
def tw1952805371007377985:=0
def tw15915590094790268795:=0
def tw5681635777467027920:=0
def tw3167638687125375880:=0
def tw2281657431378620196:=0
def tw12789091747000396273:=0
def tw12183983484849674983:=0
def tw7700083217404876209:=0
def tw12317397599151783181:=0
def tw4319453220860476659:=0
def tw9631886441762716584:=0
def tw11154979120831886481:=0
def tw8559865084376878613:=0
def tw8404072505833660567:=0
def tw3922940080435873516:=0
def tw9768593891837512809:=0
def tw13048449660855755711:=0
def tw13247499962479329277:=0
def tw11635874535245591439:=0
def tw864766984167660316:=0
def tw3795102609536668655:=0
def tw5568031406411061881:=0
def tw9264491101315178528:=0
def tw1075693066692720591:=0
def tw10444705614084330912:=0
def tw9738982274460827998:=0
def tw16861365484741785326:=0
def tw14620637066368129323:=0
def tw13929866560054637513:=0
def tw7436655733614534579:=0
def tw5661523206602231096:=0
def tw7345926705945456414:=0
def tw5225457535896503808:=0
def tw13725958630084516249:=0
def tw16470428661495762294:=0
def tw6186559407280516047:=0
def tw4772782603868502423:=0
def tw8238309412267669250:=0
def tw14270227089209881174:=0
def tw5223721391612066387:=0
def tw5216026528234258265:=0
def tw10607756065198813970:=0
def tw13231984367454878906:=0
def tw15236654938415595400:=0
def tw3271168808102384686:=0
def tw8269362661247746707:=0
def tw17288715263903390403:=0
def tw431896050018530402:=0
def tw13029769616158087149:=0
def tw7747837116320828315:=0
def tw3329246104197931765:=0
def tw11224330102577760972:=0
def tw18181855176913034374:=0
def tw10813633468547306216:=0
def tw8088996181415981880:=0
def tw16238663940605048159:=0
def tw15680961369766374988:=0
def tw3058021573632898726:=0
def tw9322527432355039545:=0
def tw6928814663494672236:=0
def tw16881119788285154497:=0
def tw1333798770261848003:=0
def tw4502676734980871627:=0
def tw8327935382951222389:=0
def tw4727252048888412033:=0
def tw4769228077815594508:=0
def tw17447109343292216653:=0
def tw9796459278290890860:=0
def tw16587918074144438966:=0
def tw16023179268097475354:=0
def tw2871496405100060194:=0
def tw13295776761794747461:=0
def tw13122992242963399753:=0
def tw6329481452412671933:=0
def tw9220470227905530838:=0
def tw6325198322425554327:=0
def tw11939764268463337231:=0
def tw16956060455560467017:=0
def tw17243351812105258952:=0
def tw14073040775156006167:=0
def tw14313437899768025157:=0
def tw3317159444144209131:=0
end PySem.W.Fast
open PySem PySem.W PyProof.Rows
set_option maxRecDepth 100000 in
set_option maxHeartbeats 0 in
theorem PySem.Challenge.cw_treesay_k43_one_step_on_holds : PySem.Challenge.rw_treesay_k43_one_step_on.Holds := by
 w_on; o_law; k_head; (case hw=>w_witness2)
 k_fill
 refine Ts.walk (l:=PySem.Challenge.rw_treesay_k43_one_step_on) rfl rfl (fun w h Y=>by first | exact PySem.W.kIn_of Y | exact PySem.W.km_in_of Y) ?F
 case F =>
  intro w mg fa h KX G hmg
  refine' Ts.all_mk KX G hmg (Sy.Oo KX G ?_ ?_ ?_ ?_ ?_ ?_ ?_ ?_ ?_ ?_ ?_ ?_ ?_ ?_ ?_ ?_ ?_ ?_ ?_) ?_ ?_ ?_ ?_ ?_ ?_ ?_ ?_ ?_ ?_ ?_ ?_ ?_ ?_ ?_ ?_ ?_ ?_ ?_ ?_ ?_ ?_ ?_ ?_ ?_ ?_ ?_ ?_ ?_ ?_ ?_ ?_ ?_ ?_ ?_ ?_ ?_ ?_ ?_ ?_ ?_ ?_ ?_ ?_ ?_ ?_ ?_ ?_ ?_ ?_ ?_ ?_ ?_ ?_ ?_ ?_ ?_ ?_ ?_ ?_ ?_ ?_ ?_
  all_goals first | refine' Sy.Om ?_ ⟨?_,?_,?_,?_⟩ (L2.mQ ?_ ?_ ?_) ⟨?_,?_,?_,?_⟩ ?_ | refine' Sy.Ol ?_ ⟨?_,?_,?_,?_⟩ (L2.mQ ?_ ?_ ?_) | refine' Ts.Vj ⟨?_,?_,?_⟩ (L2.mQ ?_ ?_ ?_) | refine' Ts.Vi ?_ (L2.mQ ?_ ?_ ?_) | refine' Ts.Hq ?_ ?_ ?_ | refine' ⟨?_,?_,?_,?_⟩ | skip
  all_goals repeat' first | refine' And.intro ?_ ?_ | exact True.intro
  all_goals first | k_is | skip
  all_goals first | k_is | skip
