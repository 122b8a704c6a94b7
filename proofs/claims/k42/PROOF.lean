import PyProof.Rows.All
import Wide.All
import OpenK.AllK
import Wide.FinOn
import Lean
import PyProof.EqAt
import PyProof.EqKinds
import PyProof.TupleCall
import PyProof.NeKinds
import PyProof.EnumStmt
import PyProof.EnumMake
import PyProof.CompFree
import PyProof.Rows.FStr
import PySem.Challenge.RW_treesay_k42_next_sayings
open PySem renaming wpAny_bind->aac,wpAny_pure->aae,wpAny_setState_of->aat,mainGlobals->aax,boot_len->aa7,wpAny_holding->aa9,mem_of_lookup->abd,Spec->abf,wpAny_truthy_bool->abk,wpAny_Call_Name_kw->abo,wpAny_setEpoch_of->abr,wpAny_mono->abv,fits_of_scanBound->abx,wpAny_storeSet_of->aby,wpAny_passesOwn->ab0,wpAny_newObj_type->ab6,wpAny_call_entry->acf,codeAny_builtin->ach,wpAny_setField->acq,codeAny_mono->acu,wpAny_askSetting->acv,wpAny_forIn_list->acw,wpAny_pyIter_list->adb,builtinLookup_eq_fast->ade,wpAny_isInstance->adf,wpAny_rule->adg,plainId_quiet->adi,wpAny_execs_nil->adk,entryFor_alias->adn,tupleKind_room_in1->ado,sub_set_self->ad4,typeLookup_type->ad6,wpAny_ite_split->ad7,seqIndex_of->aea,sizeLine_eq->aeb,wpAny_standAt->aeg,call_meets->aek,Within->aeo,seqIndex_neg->aer
open List renaming getElem?_eq_getElem->aad,getElem?_eq_some_iff->aao,range->aar,getElem?_eq_none->aaz,getElem?_set->ab2,lookup->ab3
open Nat renaming le_refl->aaf,ne_of_lt->aaj,lt_of_lt_of_le->aal,lt_of_le_of_lt->aan,le_trans->aas,zero_le->aa0,lt_irrefl->abh,succ_le_succ->abj,le_succ->abt,le_add_right->abu,le_of_lt->ab4,zero_add->ab5,lt_succ_self->ace,ne_of_gt->acs,lt_succ_of_lt->ac7,lt_trans->ac8,le_of_lt_succ->adu,le_of_succ_le->adv,succ_pos->ad2,not_lt_zero->ad5,mod_lt->aeh
open Bool renaming and_eq_true->aag,false_ne_true->aam,false_eq_true->aap,eq_iff_iff->aa6,or_eq_true->abg,not_true->abw,false_or->adh,not_eq_true'->adp,and_false->ad8,and_self->aed
open Array renaming getElem?_eq_getElem->aah,getElem?_eq_none->aa2
open Option.some renaming inj->aai
open PySem.PassesOwn renaming never->aak
open PySem.F renaming plainAttrs_list->aaq,slot_list_append->aav,type_list_append->aaw
open PySem.NameKind renaming free->aau,cell->abl
open PySem.Builtin renaming bitAnd->aay,bitNot->acd,bitOr->aci
open Sum renaming inl->aa1,inr->abn
open PySem.Builtin.Frozenset renaming unchanged->aa3,slot1->ab9,sizeOf->acz
open PyProof.Rows renaming callWith_type1->aa4,envOfC->acy,Constant_none->aee
open PySem.Value renaming ref->aa5,int->abp,isInt_shape->acn,none->aco,type->ac2,str->aec,bool->aej,float->aew
open Int renaming toNat_natCast->aa8,natCast_nonneg->abe,ofNat->acr,le_refl->adt
open False renaming elim->abb
open Option renaming isSome_iff_exists->abm,isSome_some->ac1,isSome_map->adw,none->aeu
open LawfulBEq renaming eq_of_beq->abq
open ForInStep renaming yield->abz
open PySem.Around renaming under_plainId->ab1,under->ael
open True renaming intro->ab7
open Ne renaming symm->ab8
open PySem.Obj renaming mapSeq->acg,mapFields->ady,putSet->aei
open PySem.Builtin.List renaming listLengthHint->acj,listTooLong->ac0
open PySem.W renaming cellsFrom_some->acp,kia_one->ada,methodCall_KW->ad1,callWith_K->ad3,plainGet_of->ad9
open PySem.Builtin.Str renaming occurrences->ac3
open Classical renaming propDecidable->ac4
open PyProof.Rows.F renaming plain_set_update_loop->ac5
open PySem.Str renaming empty->ac6,ofString->ac9
open PySem.Calls renaming spliced_cons->adl,spliced_nil->adq
open Prod.mk renaming inj->adx
open PySem.Paired renaming length->adz
open PySem.SetTable renaming fill->ad0
open PySem.Value.ref renaming inj->aef
open PySem.Code renaming isFrame->aem
open Iff renaming rfl->aen
open PySem.pickOrder renaming go->aep
open PySem.Data renaming fields->aes
open Sum.inl renaming inj->aev
open PySem.W (instObj methodObj lookIn plainGet hasDictIn findIn plainGet_of isFn takerIn typeIn emptyDict specialIn keepIn takesIn mroIn kitOne kia_one callWith_K methodCall_KW cellsFrom_some fnOf codeIn kitCls isClsIn nsIn mg_of)
open List (mem_filter mem_range filterMap_cons mem_cons_self mem_cons_of_mem mem_cons mem_append mem_append_left getElem_inj mem_append_right size_toArray any_eq_false length_cons map_cons length_map append_nil nodup_cons of_mem_zip replicate length_take getElem?_append_right getElem?_replicate getElem?_append_left getElem?_map getElem?_take_of_lt mem_of_getElem? length_append find?_cons any_cons length_nil length_drop length_set all_cons reverse_cons length_singleton Pairwise lookup_cons all_eq_true lookup_append getD_eq_getElem?_getD toArray getElem?_cons_zero map_append mem_map any_append take_append_drop take_add_one take_length getElem?_range length_range nil_append range_succ_eq_map range_succ filter_cons length_filter_le mem_iff_getElem? mem_singleton nodup_append any_eq_true getElem_mem getElem_of_mem Perm pairwise_cons getElem?_toArray length_eq_zero_iff length_eraseIdx append_assoc ext_getElem? filterMap set_set map_id' mem_flatten flatten_append flatten_singleton flatten_cons)
open PySem.Heap (lt_size SameBut get?_push_of_some get?_push_size size_push get?_update_self get?_update_other)
open Array (length_toList getElem?_toList toArray_toList forIn_toList size_map)
open PySem.SetTable (below insertAt probe grown fits eraseAt)
set_option Elab.async false
set_option linter.all false
set_option maxRecDepth 100000
abbrev LI:=List Int
namespace L2
open PySem PySem.Spec PyProof.Rows
abbrev Key:=Sum Int Str
def K4:Key->Value->Bool
 |.inl k,v=>Value.isInt k v
 |.inr x,v=>Value.isStrOf x v
def Te(w:World):Key->Int
 |.inl k=>hashInt k
 |.inr x=>hashStr w x
theorem xJ:∀{k:Key}{v:Value},K4 k v=true->(∃i t,k=aa1 i/\v=abp i t)\/(∃x t,k=abn x/\v=aec x t)
 |.inl i,v,h=>by
  obtain⟨t,e⟩:=acn (k:=i) (v:=v) h
  exact .inl ⟨i,t,rfl,e⟩
 |.inr x,v,h=>by
  obtain⟨t,e⟩:=Value.isStrOf_shape (x:=x) (v:=v) h
  exact .inr ⟨x,t,rfl,e⟩
theorem zO0(i:Int)(t:Tok):K4 (.inl i) (.int i t)=true:=by simp[K4,Value.isInt]
theorem zOz(x:Str)(t:Tok):K4 (.inr x) (.str x t)=true:=by simp[K4,Value.isStrOf]
theorem GP(a b:Int):decide ((aa1 a:Key)=aa1 b)=(a==b):=by
 by_cases e:a=b
 ·subst e;simp
 ·have h:¬(aa1 a:Key)=aa1 b:=λq=>e (aev q)
  rw[decide_eq_false h]
  exact(beq_eq_false_iff_ne.mpr e).symm
theorem GQ(a b:Str):decide ((abn a:Key)=abn b)=decide (a=b):=by
 by_cases e:a=b
 ·subst e;simp
 ·have h:¬(abn a:Key)=abn b:=λq=>e (Sum.inr.inj q)
  rw[decide_eq_false h,decide_eq_false e]
theorem GR(a:Int)(b:Str):decide ((aa1 a:Key)=abn b)=false:=decide_eq_false (λq=>nomatch q)
theorem GX(a:Str)(b:Int):decide ((abn a:Key)=aa1 b)=false:=decide_eq_false (λq=>nomatch q)
def wX(prog:Program)(w:World):PySem.KeyKind prog w Key where
 is:=K4
 hash:=Te w
 inj:=λv a b ha hb=>by
  rcases xJ ha with⟨i,t,rfl,rfl⟩|⟨x,t,rfl,rfl⟩
  ·rcases xJ hb with⟨j,u,rfl,e⟩|⟨y,u,rfl,e⟩
   ·injection e with e1 _;rw[e1]
   ·exact nomatch e
  ·rcases xJ hb with⟨j,u,rfl,e⟩|⟨y,u,rfl,e⟩
   ·exact nomatch e
   ·injection e with e1 _;rw[e1]
 byValue:=λk v h=>by
  rcases xJ h with⟨i,t,rfl,rfl⟩|⟨x,t,rfl,rfl⟩<;>rfl
 pyHash:=λhv h=>by
  rcases xJ hv with⟨i,t,rfl,rfl⟩|⟨x,t,rfl,rfl⟩
  ·exact wpAny_pyHash_int h
  ·exact wpAny_pyHash_str h
 eqBool:=λhu hv h=>by
  rcases xJ hu with⟨i,t,rfl,rfl⟩|⟨x,t,rfl,rfl⟩
  ·rcases xJ hv with⟨j,u,rfl,rfl⟩|⟨y,u,rfl,rfl⟩
   ·rw[GP] at h;exact wpAny_eqBool_int h
   ·rw[GR] at h;exact SeqAt.EqAt.int_str i t y u _ _ _ _ h
  ·rcases xJ hv with⟨j,u,rfl,rfl⟩|⟨y,u,rfl,rfl⟩
   ·rw[GX] at h;exact SeqAt.EqAt.str_int x t j u _ _ _ _ h
   ·rw[GQ] at h;exact wpAny_eqBool_str h
 «strs»:=λk x t v h=>by
  rcases xJ h with⟨i,u,rfl,e⟩|⟨y,u,rfl,e⟩
  ·exact nomatch e
  ·injection e with e1 _
   subst e1
   cases v<;>rfl
theorem zI9(prog:Program)(w:World)(i:Int)(t:Tok):(wX prog w).is (.inl i) (.int i t)=true:=zO0 i t
theorem zI8(prog:Program)(w:World)(x:Str)(t:Tok):(wX prog w).is (.inr x) (.str x t)=true:=zOz x t
inductive V where
 |non|bl (b:Bool)|int (i:Int)|str (x:Str)|Ah (b:Array UInt8)|flt (b:UInt64)|ref (a:Addr)|ty (n:String)
 deriving DecidableEq
def RelV:V->Value->Prop
 |.non,u=>u=aco
 |.bl b,u=>u=aej b
 |.int i,u=>∃t,u=abp i t
 |.str x,u=>∃t,u=aec x t
 |.Ah b,u=>∃t,u=Value.bytes b t
 |.flt b,u=>∃t,u=aew b t
 |.ref a,u=>u=aa5 a
 |.ty n,u=>u=ac2 n
abbrev Vals:List V->List Value->Prop:=Paired RelV
theorem Vals.length(r:Vals xs us):xs.length=us.length:=adz r
theorem Vals.get:∀{xs:List V}{us:List Value}{i:Nat}{x:V},Vals xs us->xs[i]?=some x->∃u,us[i]?=some u/\RelV x u
 |_,_,_,_,.nil,e=>by simp at e
 |_,_,0,_,.cons r _,e=>by simp at e;subst e;exact⟨_,rfl,r⟩
 |_,_,i+1,x,.cons _ t,e=>by
  obtain⟨u,h1,h2⟩:=Vals.get (i:=i) (x:=x) t (by simpa using e)
  exact⟨u,by simpa using h1,h2⟩
theorem Vals.set(r:RelV x u):∀{xs:List V}{us:List Value}(i:Nat),Vals xs us->Vals (xs.set i x) (us.set i u)
 |_,_,_,.nil=>.nil
 |_,_,0,.cons _ t=>.cons r t
 |_,_,i+1,.cons q t=>.cons q (Vals.set r i t)
theorem Vals.append:∀{xs ys:List V}{us ws:List Value},Vals xs us->Vals ys ws->Vals (xs++ys) (us++ws)
 |_,_,_,_,.nil,s=>s
 |_,_,_,_,.cons r t,s=>.cons r (Vals.append t s)
theorem Vals.take:∀{xs:List V}{us:List Value}(n:Nat),Vals xs us->Vals (xs.take n) (us.take n)
 |_,_,0,_=>.nil
 |_,_,_+1,.nil=>.nil
 |_,_,n+1,.cons r t=>.cons r (Vals.take n t)
theorem Vals.drop:∀{xs:List V}{us:List Value}(n:Nat),Vals xs us->Vals (xs.drop n) (us.drop n)
 |_,_,0,r=>r
 |_,_,_+1,.nil=>.nil
 |_,_,n+1,.cons _ t=>Vals.drop n t
theorem Vals.none_of:∀{xs:List V}{us:List Value}{i:Nat},Vals xs us->xs[i]?=none->us[i]?=none:=λ{xs us i} r e=>by
 have h1:=r.length
 have h2:xs.length<=i:=List.getElem?_eq_none_iff.mp e
 exact List.getElem?_eq_none_iff.mpr (by omega)
def iy:Option V->Option Value->Prop
 |some v,some u=>RelV v u
 |none,none=>True
 |_,_=>False
def KV{κ:Type}:List (κ×V)->List (κ×Value)->Prop:=Paired λ(p:κ×V) (q:κ×Value)=>p.1=q.1/\RelV p.2 q.2
def kV:Key->V
 |.inl i=>.int i
 |.inr x=>.str x
inductive HO where
 |lst (xs:List V)
 |tup (xs:List V)
 |dK (kvs:List (Key×V))|dT (kvs:List (List Key×V))
 |set (S:Int->Bool) (n:Nat)
 |ins (C dx:Addr) (fs:List (Str×V))
 |own (x:Addr)
 |xd (fs:List (Str×V))
 |met (f x:Addr)
 |rng (lo hi:Int)
 |q9 (o:Obj) (u:HO)
 |GZ (ps:Array Value)
 |ext (φ:Heap->Prop)
abbrev Hp:=Addr->Option HO
def upd(H:Hp)(a:Addr)(o:HO):Hp:=λb=>if b=a then some o else H b
theorem zM:upd H a o a=some o:=by unfold upd;rw[if_pos rfl]
theorem zO(h:b≠a):upd H a o b=H b:=by unfold upd;rw[if_neg h]
theorem M6{H:Hp}{a b:Addr}{o u:HO}(h:H a=some o)(h':H b=some u)(d:o≠u):a≠b:=by
 intro e;subst e;rw[h] at h';exact d (aai h')
theorem zL{H:Hp}{a b:Addr}{o:HO}(h:H a=some o)(h':H b=none):a≠b:=by
 intro e;subst e;rw[h] at h';cases h'
section
variable(P:Program)(w:World)
def bh(H:Hp)(h:Heap)(a:Addr):HO->Prop
 |.lst xs=>xs.length<=sizeLine/\∃(its:List Value)(n:Nat),Vals xs its/\h.get? a=some { cls:=.type "list",data:=.seq its.toArray n }
 |.tup xs=>xs.length<=sizeLine/\∃its:List Value,Vals xs its/\IsTup h a its.toArray
 |.dK kvs=>kvs.length<=sizeLine/\(a==sysModules)=false/\∃vs,KV kvs vs/\h.DictOf (wX P w) a vs
 |.dT kvs=>kvs.length<=sizeLine/\(a==sysModules)=false/\∃xs:List (List Key×Addr×Value),
   Paired (λ(p:List Key×V) (q:List Key×Addr×Value)=>p.1=q.1/\H q.2.1=some (.tup (p.1.map kV))/\RelV p.2 q.2.2) kvs xs /\
   ∃o es ep,h.get? a=some o/\o.ExactDict/\o.data=.dict es ep/\es.toList=xs.map (entryOfKey (tupleKind (wX P w)))/\(xs.map (·.1)).Nodup
 |.set S n=>h.SetOf (intKind P w) a S n
 |.ins C dx fs=>H dx=some (.own a)/\fs.length<=1000/\dx≠a/\h.get? a=some (instObj C dx) /\
   ∃mA,h.Ns1 dx mA/\(∀f,iy (fs.lookup f) (mA f))/\aeo mA (fs.map (·.1))
 |.own _=>∃o,h.get? a=some o
 |.xd fs=>∃mA,h.Ns1 a mA/\∀f,iy (fs.lookup f) (mA f)
 |.rng lo hi=>∃t u v,h.get? a=some { cls:=.type "range",data:=.fields #[.int lo t,.int hi u,.int 1 v] }
 |.q9 o u=>h.get? a=some o/\bh H h a u
 |.GZ ps=>h.get? a=some { cls:=.none,data:=.fields ps }
 |.met f x=>h.get? a=some (methodObj (.ref f) (.ref x))
 |.ext φ=>φ h/\(∃o,h.get? a=some o)/\∀h1 h2:Heap,φ h1->(∀o,h1.get? a=some o->h2.get? a=some o)->φ h2
def g_(H:Hp)(h:Heap):Prop:=∀a o,H a=some o->bh P w H h a o
end
section
variable{P:Program}{w:World}{H H':Hp}{h h':Heap}{a:Addr}{o:HO}
theorem bh.lt(x:bh P w H h a o):a<h.objs.size:=by
 cases o with
 |lst xs=>obtain⟨_,_,_,_,e⟩:=x;exact lt_size e
 |tup xs=>obtain⟨_,_,_,p⟩:=x;exact p.lt
 |dK kvs=>obtain⟨_,_,_,_,o,_,_,e,_⟩:=x;exact lt_size e
 |dT kvs=>obtain⟨_,_,_,_,o,_,_,e,_⟩:=x;exact lt_size e
 |set S n=>obtain⟨o,_,_,_,e,_⟩:=x;exact lt_size e
 |ins C dx fs=>obtain⟨_,_,_,e,_⟩:=x;exact lt_size e
 |own y=>obtain⟨_,e⟩:=x;exact lt_size e
 |xd fs=>obtain⟨_,⟨_,_,_,e,_⟩,_⟩:=x;exact lt_size e
 |rng lo hi=>obtain⟨_,_,_,e⟩:=x;exact lt_size e
 |q9 ob u=>obtain⟨e,_⟩:=x;exact lt_size e
 |GZ ps=>exact lt_size (show h.get? a=some _ from x)
 |met f y=>exact lt_size (show h.get? a=some _ from x)
 |ext φ=>obtain⟨_,⟨_,e⟩,_⟩:=x;exact lt_size e
theorem Paired.G3{α β:Type}{F G:α->β->Prop}:∀{l₁:List α}{l₂:List β},Paired F l₁ l₂->(∀a b,F a b->G a b)->Paired G l₁ l₂
 |_,_,.nil,_=>.nil
 |_,_,.cons r t,f=>.cons (f _ _ r) (Paired.G3 t f)
theorem bh.stay(x:bh P w H h a o)(k:∀b u,(b=a\/H b=some (.own a))->h.get? b=some u->h'.get? b=some u)(ho:∀b,H b=some (.own a)->H' b=some (.own a))(ht:∀b xs,H b=some (.tup xs)->H' b=some (.tup xs)):bh P w H' h' a o:=by
 induction o with
 |lst xs=>obtain⟨z,its,n,r,e⟩:=x;exact⟨z,its,n,r,k _ _ (.inl rfl) e⟩
 |tup xs=>obtain⟨z,its,r,ob,e,c⟩:=x;exact⟨z,its,r,ob,k _ _ (.inl rfl) e,c⟩
 |dK kvs=>obtain⟨z,y,vs,r,ob,es,ep,e,c⟩:=x;exact⟨z,y,vs,r,ob,es,ep,k _ _ (.inl rfl) e,c⟩
 |dT kvs =>
  obtain⟨z,y,xs,r,ob,es,ep,e,c⟩:=x
  exact⟨z,y,xs,Paired.G3 r λp q z=>⟨z.1,ht _ _ z.2.1,z.2.2⟩,ob,es,ep,k _ _ (.inl rfl) e,c⟩
 |set S n=>obtain⟨ob,es,ep,t,e,c⟩:=x;exact⟨ob,es,ep,t,k _ _ (.inl rfl) e,c⟩
 |ins C dx fs =>
  obtain⟨d,z,ne,e,mA,⟨od,es,ep,e2,c⟩,r⟩:=x
  exact⟨ho _ d,z,ne,k _ _ (.inl rfl) e,mA,⟨od,es,ep,k _ _ (.inr d) e2,c⟩,r⟩
 |own y=>obtain⟨ob,e⟩:=x;exact⟨ob,k _ _ (.inl rfl) e⟩
 |xd fs=>obtain⟨mA,⟨od,es,ep,e,c⟩,r⟩:=x;exact⟨mA,⟨od,es,ep,k _ _ (.inl rfl) e,c⟩,r⟩
 |rng lo hi=>obtain⟨t,u,v,e⟩:=x;exact⟨t,u,v,k _ _ (.inl rfl) e⟩
 |q9 ob u ih=>obtain⟨e,q⟩:=x;exact⟨k _ _ (.inl rfl) e,ih q⟩
 |GZ ps =>
  have e:h.get? a=some { cls:=.none,data:=.fields ps }:=x
  show h'.get? a=some { cls:=.none,data:=.fields ps }
  exact k a _ (.inl rfl) e
 |met f y =>
  have e:h.get? a=some (methodObj (.ref f) (.ref y)):=x
  show h'.get? a=some (methodObj (.ref f) (.ref y))
  exact k a _ (.inl rfl) e
 |ext φ=>obtain⟨p,⟨o,e⟩,st⟩:=x;exact⟨st _ _ p λo q=>k _ _ (.inl rfl) q,⟨o,k _ _ (.inl rfl) e⟩,st⟩
theorem g_.lt(x:g_ P w H h)(e:H a=some o):a<h.objs.size:=(x a o e).lt
theorem g_.fresh(x:g_ P w H h)(e:h.objs.size<=a):H a=none:=by
 cases q:H a with
 |none=>rfl
 |some u=>exact absurd (aal (x.lt q) e) (abh _)
theorem g_.kept(x:g_ P w H h)(k:∀b u,h.get? b=some u->h'.get? b=some u):g_ P w H h':=λa o e =>
 (x a o e).stay (λb u _ q=>k b u q) (λ_ q=>q) λ_ _ q=>q
theorem g_.laid(x:g_ P w H h)(k:∀b u,h.get? b=some u->h'.get? b=some u)(hp:h.objs.size<=a)(new:bh P w (upd H a o) h' a o):g_ P w (upd H a o) h':=λb u e=>by
 have hn:=x.fresh hp
 by_cases hb:b=a
 ·subst hb;rw[zM] at e;cases e;exact new
 ·rw[zO hb] at e
  exact(x b u e).stay (λc v _ q=>k c v q) (λc q=>by rw[zO (zL q hn)];exact q) λc xs q=>by rw[zO (zL q hn)];exact q
end
def Rd(H:Hp)(a:Addr)(u:HO):Prop:=H a=some u\/∃o,H a=some (.q9 o u)
theorem Rd.ok(r:Rd H a u)(x:g_ P w H h):bh P w H h a u:=by
 rcases r with r|⟨o,r⟩
 ·exact x a u r
 ·obtain⟨_,q⟩:=x a _ r
  exact q
def M7:Option HO->Prop
 |some (.lst _)=>True
 |some (.dK _)=>True
 |some (.dT _)=>True
 |some (.set _ _)=>True
 |some (.ins _ _ _)=>True
 |some (.ext _)=>True
 |_=>False
section
variable{P:Program}{w:World}{H:Hp}{h h':Heap}{x e:Addr}{o':HO}
theorem g_.write(ok:g_ P w H h)(mu:M7 (H x))(he:e=x\/H e=some (.own x))(k:∀b u,b≠e->h.get? b=some u->h'.get? b=some u)(heo:∃u,h'.get? e=some u)(new:bh P w (upd H x o') h' x o'):g_ P w (upd H x o') h':=λb u q=>by
 have M8:∀c y,H c=some (.own y)->c≠x:=λc y r z=>by subst z;rw[r] at mu;exact mu
 have Tf:∀c xs,H c=some (.tup xs)->c≠x:=λc xs r z=>by subst z;rw[r] at mu;exact mu
 by_cases hb:b=x
 ·subst hb;rw[zM] at q;cases q;exact new
 ·rw[zO hb] at q
  by_cases hbe:b=e
  ·have q':H b=some (.own x):=by
    rcases he with z|z
    ·exact absurd (hbe.trans z) hb
    ·rw[hbe];exact z
   rw[q] at q';cases q'
   obtain⟨v,hv⟩:=heo
   exact⟨v,by rw[hbe];exact hv⟩
  ·refine(ok b u q).stay (λc v hc r=>k c v ?_ r) (λc r=>by rw[zO (M8 c b r)];exact r) λc xs r=>by rw[zO (Tf c xs r)];exact r
   rcases hc with rfl|hc
   ·exact hbe
   ·rintro rfl
    rcases he with z|z
    ·exact M8 c b hc z
    ·rw[hc] at z;cases z;exact hb rfl
end
structure Un(fs ex:List Addr)(H H':Hp)(h h':Heap):Prop where
 keep:∀b o,h.get? b=some o->H b=none->b∉fs->b∉ex->h'.get? b=some o
 slot:∀b o,h.get? b=some o->H b=none->b∈fs->b∉ex->∃sl,h'.get? b=some { o with slots:=sl }
 free:∀b o,h.get? b=some o->H b=none->b∉ex->H' b=none
 there:∀b o,h.get? b=some o->b∉ex->∃o',h'.get? b=some o'
 tups:∀b xs,H b=some (.tup xs)->H' b=some (.tup xs)
 kY:∀b o u,H b=some (.q9 o u)->H' b=some (.q9 o u)
 mX:∀b ps,H b=some (.GZ ps)->∃more,H' b=some (.GZ (ps++more))
section
variable{fs fs' ex ex':List Addr}{H H1 H2:Hp}{h h1 h2 h':Heap}{a x e:Addr}{o:HO}
theorem Un.any(u:Un fs ex H H1 h h1)(q:h.get? b=some ob)(n:H b=none)(hx:b∉ex):∃sl,h1.get? b=some { ob with slots:=sl }:=by
 by_cases hb:b∈fs
 ·exact u.slot b ob q n hb hx
 ·exact⟨ob.slots,u.keep b ob q n hb hx⟩
theorem Un.kept(k:∀b u,h.get? b=some u->h'.get? b=some u):Un fs ex H H h h' :=
 ⟨λb ob q _ _ _=>k b ob q,λb ob q _ _ _=>⟨ob.slots,k b ob q⟩,λ_ _ _ n _=>n,λb ob q _=>⟨ob,k b ob q⟩,λ_ _ q=>q,λ_ _ _ q=>q,λ_ ps q=>⟨#[],by rw[q];simp⟩⟩
theorem Un.refl:Un fs ex H H h h:=Un.kept λ_ _ q=>q
theorem Un.laid(k:∀b u,h.get? b=some u->h'.get? b=some u)(hp:h.objs.size<=a)(hn:H a=none):Un fs ex H (upd H a o) h h' where
 keep:=λb u q _ _ _=>k b u q
 slot:=λb u q _ _ _=>⟨u.slots,k b u q⟩
 free:=λb u q n _=>by rw[zO (aaj (aal (lt_size q) hp))];exact n
 there:=λb u q _=>⟨u,k b u q⟩
 tups:=λb xs q=>by rw[zO (zL q hn)];exact q
 kY:=λb u xs q=>by rw[zO (zL q hn)];exact q
 mX:=λb ps q=>⟨#[],by rw[zO (zL q hn),q];simp⟩
theorem Un.write(mu:M7 (H x))(he:e=x\/H e=some (.own x))(k:∀b u,b≠e->h.get? b=some u->h'.get? b=some u)(heo:∃u,h'.get? e=some u):Un fs ex H (upd H x o) h h':=by
 have hx:∀b,H b=none->b≠x:=λb n z=>by subst z;rw[n] at mu;exact mu
 have hb:∀b,H b=none->b≠e:=λb n z=>by
  subst z
  rcases he with r|r
  ·exact hx b n r
  ·rw[n] at r;cases r
 have hm:∀b u,H b=some u->¬M7 (some u)->b≠x:=λb u q nm z=>by subst z;rw[q] at mu;exact nm mu
 refine⟨λb u q n _ _=>k b u (hb b n) q,λb u q n _ _=>⟨u.slots,k b u (hb b n) q⟩,λb u q n _=>by rw[zO (hx b n)];exact n,λb u q _=>?_,
  λb xs q=>by rw[zO (hm b _ q λz=>z)];exact q,λb u xs q=>by rw[zO (hm b _ q λz=>z)];exact q,λb ps q=>⟨#[],by rw[zO (hm b _ q λz=>z),q];simp⟩⟩
 by_cases hbe:b=e
 ·subst hbe;exact heo
 ·exact⟨u,k b u hbe q⟩
end
def QF(h:Heap)(H:Hp):List Addr:=(aar h.objs.size).filter λa=>(H a).isSome
def oh(h:Heap)(H:Hp):Heap:=PySem.W.hideAll h (QF h H)
theorem zO6(h:Heap)(H:Hp):(oh h H).objs.size=h.objs.size:=PySem.W.hideAll_size _ _
theorem zR4{h:Heap}(e:h.get? b=some o)(n:H b=none):(oh h H).get? b=some o :=
 PySem.W.hideAll_get _ e λhm=>by
  have q:(H b).isSome=true:=(mem_filter.mp hm).2
  rw[n] at q;simp at q
theorem Ai(e:(oh h H).get? b=some o):h.get? b=some o/\H b=none:=by
 have e':h.get? b=some o:=PySem.W.of_hideAll (QF h H) e
 refine⟨e',?_⟩
 cases q:H b with
 |none=>rfl
 |some x =>
  have hm:b∈QF h H:=mem_filter.mpr ⟨mem_range.mpr (lt_size e'),by simp[q]⟩
  have z:(oh h H).get? b=none:=PySem.W.hideAll_none (QF h H) hm
  rw[z] at e;cases e
def Aj(g h:Heap)(L:Addr):List (Addr×Obj):=(aar h.objs.size).filterMap λa=>if a=L\/(g.get? a).isSome=true then none else(h.get? a).map λo=>(a,o)
def rest(g h:Heap)(L d:Addr):List (Addr×Obj):=(Aj g h L).filter λp=>decide (p.1≠d)
structure Mod(K:PySem.W.Frag)(mg:Str->Option Value)(base:Heap):Prop where
 K5:K.In base
 glob:base.Ns aax mg
 blt:∃mb,base.Ns builtinsNs mb/\∀x:Str,x ≠ "__name__"->mb x=bootBuiltins x
 nolimit:base.NoLimit
structure Cx where
 prog:Program
 w:World
 K:PySem.W.Frag
 mg:Str->Option Value
 base:Heap
 A:Around
 N:List Str
 s₀:Shared
 H₀:Hp
 env:Env
 outer:List Env
 stack:List Env
 ex:List Addr
 fn:Str->Bool
 calm:Bool
 pn:List (Addr×Obj)
 xe:Value->Shared->Prop
def frs(l:List Env):List Addr:=l.filterMap (·.frame)
abbrev Cx.fs(X:Cx):List Addr:=frs X.outer
def M9(sc:Scope)(x:Str):Prop:=sc.names.lookup x=some .local\/sc.names.lookup x=some .cell\/sc.names.lookup x=some .free
def Loc(sc:Scope)(x:Str):Prop:=sc.names.lookup x=some .local\/sc.names.lookup x=some .cell
def Look(env:Env)(h:Heap)(m:Str->Option Value)(x:Str)(u:Value):Prop :=
 (env.kindOf x=some .local/\m x=some u)\/((env.kindOf x=some .cell\/env.kindOf x=some .free)/\∃c,env.cells.lookup x=some c/\h.IsCell c (some u))
structure Cx.Ok(X:Cx):Prop where
 mod:Mod X.K X.mg X.base
 kind:X.env.scope.kind=.function
 glob:X.env.globals=aax
 blt:X.env.builtins=builtinsNs
 above:X.s₀.heap.objs.size<=X.env.locals
 inj:∀x y c,X.env.cells.lookup x=some c->X.env.cells.lookup y=some c->x=y
 has:∀x,(X.env.kindOf x=some .cell\/X.env.kindOf x=some .free)->∃c,X.env.cells.lookup x=some c
 cab:∀x c,X.fn x=true->X.env.cells.lookup x=some c->X.s₀.heap.objs.size<=c
 hd:X.calm=true->X.A.handled=none
 frames:X.A.frames=some X.stack
 stk:X.stack=X.outer\/(X.stack=X.env::X.outer/\X.env.frame=some X.env.locals)
 QG:∀b∈X.ex,b≠X.env.locals/\∀x c,X.env.cells.lookup x=some c->c≠b
 bs:∀b o,X.base.get? b=some o->X.s₀.heap.get? b=some o/\X.H₀ b=none
 Ak:X.base.objs.size<=X.s₀.heap.objs.size
 uh:∀b o,X.base.get? b=some o->b∉X.ex
 uo:∀b∈X.ex,b∉X.fs
 jZ:X.s₀.heap.FunFrames X.base X.outer
 G4:∀b∈X.fs,X.H₀ b=none
structure Inv(X:Cx)(pins:List (Addr×Obj))(σ:List (Option V))(H:Hp)(s:Shared):Prop where
 ok:X.Ok
 os:s.os=X.s₀.os
 bare:AllBare s.gens
 base:Un X.fs X.ex X.H₀ H X.s₀.heap s.heap
 loc:∃m,s.heap.Ns X.env.locals m/\∀(i:Nat)(x:Str)(v:V),X.N[i]?=some x->σ[i]?=some (some v)->M9 X.env.scope x->∃u,RelV v u/\Look X.env s.heap m x u
 cell:∀x c,X.env.cells.lookup x=some c->∃v,s.heap.IsCell c v
 free:H X.env.locals=none
 gq:∀x c,X.env.cells.lookup x=some c->H c=none
 pin:∀p∈X.pn++pins,s.heap.get? p.1=some p.2/\H p.1=none/\p.1≠X.env.locals/\p.1∉X.fs/\∀v,p.2.data≠.cell v
 hok:g_ X.prog X.w H s.heap
 len:σ.length=X.N.length
section
variable{X:Cx}{pins:List (Addr×Obj)}{σ:List (Option V)}{H H':Hp}{s:Shared}{h':Heap}
theorem Cx.Ok.Ti(ok:X.Ok)(e:X.base.get? b=some o):b∉X.fs:=λhb=>by
 have:=(ok.jZ.mem hb).1
 rw[e] at this;cases this
theorem Inv.bs(I:Inv X pins σ H s):∀b o,X.base.get? b=some o->s.heap.get? b=some o/\H b=none:=λb o e =>
 ⟨I.base.keep b o (I.ok.bs b o e).1 (I.ok.bs b o e).2 (I.ok.Ti e) (I.ok.uh b o e),I.base.free b o (I.ok.bs b o e).1 (I.ok.bs b o e).2 (I.ok.uh b o e)⟩
theorem Inv.bk(I:Inv X pins σ H s):∀b o,X.base.get? b=some o->s.heap.get? b=some o:=λb o e=>(I.bs b o e).1
theorem Inv.mod(I:Inv X pins σ H s):Mod X.K X.mg X.base:=I.ok.mod
theorem Inv.jC(I:Inv X pins σ H s):X.K.In s.heap:=I.ok.mod.K5.keeps I.bk
theorem Inv.nolimit(I:Inv X pins σ H s):s.heap.NoLimit:=I.ok.mod.nolimit.keeps I.bk
theorem Inv.lt(I:Inv X pins σ H s):X.env.locals<s.heap.objs.size:=let⟨_,hn,_⟩:=I.loc;hn.lt
theorem Inv.sz(I:Inv X pins σ H s):X.s₀.heap.objs.size<=s.heap.objs.size:=aas I.ok.above (ab4 I.lt)
theorem Inv.G5(I:Inv X pins σ H s)(h:s.heap.objs.size<=a):a∉X.fs:=λhb=>by
 obtain⟨_,o,ho,_⟩:=I.ok.jZ.mem hb
 exact absurd (aal (lt_size ho) (aas I.sz h)) (abh _)
theorem Inv.G6(I:Inv X pins σ H s):∀x c,X.env.cells.lookup x=some c->c≠X.env.locals:=λx c e z=>by
 obtain⟨v,o,ho,hd⟩:=I.cell x c e
 obtain⟨m,⟨o',es,ep,ho',hd',_⟩,_⟩:=I.loc
 rw[z,ho'] at ho;cases ho;rw[hd'] at hd;cases hd
theorem Inv.jZ(I:Inv X pins σ H s):s.heap.FunFrames X.base X.outer:=by
 have all:∀(l:List Env),(∀b∈frs l,b∈X.fs)->X.s₀.heap.FunFrames X.base l->s.heap.FunFrames X.base l:=by
  intro l
  induction l with
  |nil=>intro _ _;trivial
  |cons env r ih =>
   intro hs hl
   obtain⟨hk,⟨L,o,hf,hn,ho,hd⟩,hr⟩:=hl
   have hL:L∈X.fs:=hs L (by unfold frs;rw[filterMap_cons,hf];exact mem_cons_self)
   obtain⟨sl,e⟩:=I.base.slot L o ho (I.ok.G4 L hL) hL λz=>I.ok.uo L z hL
   exact⟨hk,⟨L,_,hf,hn,e,hd⟩,ih (λb hb=>hs b (by unfold frs;rw[filterMap_cons,hf];exact mem_cons_of_mem _ hb)) hr⟩
 exact all X.outer (λ_ hb=>hb) I.ok.jZ
theorem Inv.stack(I:Inv X pins σ H s):s.heap.FunFrames X.base X.stack:=by
 rcases I.ok.stk with e|⟨e,hf⟩
 ·rw[e];exact I.jZ
 ·rw[e]
  obtain⟨m,hn,_⟩:=I.loc
  refine .cons (by rw[I.ok.kind];decide) hf hn ?_ I.jZ
  exact Heap.get?_none_of_le (aas I.ok.Ak I.ok.above)
theorem Inv.ou(I:Inv X pins σ H s):∀b∈frs X.stack,b∈X.env.locals::X.fs:=λb hb=>by
 rcases I.ok.stk with e|⟨e,hf⟩
 ·rw[e] at hb;exact mem_cons_of_mem _ hb
 ·rw[e] at hb
  unfold frs at hb
  rw[filterMap_cons,hf] at hb
  exact hb
theorem Inv.q_(I:Inv X pins σ H s):∀b∈frs X.stack,H b=none:=λb hb=>by
 rcases mem_cons.mp (I.ou b hb) with e|hb
 ·rw[e];exact I.free
 ·obtain⟨_,o,ho,_⟩:=I.ok.jZ.mem hb
  exact I.base.free b o ho (I.ok.G4 b hb) λz=>I.ok.uo b z hb
theorem Inv.step{g':Array GenState}{t':Nat}{d':Drawn}{ch:List Addr}(I:Inv X pins σ H s)(hch:∀b∈ch,(b∈X.ex\/X.s₀.heap.objs.size<=b)/\b≠X.env.locals/\(∀x c,X.env.cells.lookup x=some c->c≠b)/\∀p∈X.pn++pins,p.1≠b)(keep:∀b o,b≠X.env.locals->b∉X.fs->b∉ch->s.heap.get? b=some o->H b=none->h'.get? b=some o)(slot:∀b o,b≠X.env.locals->b∈X.fs->b∉ch->s.heap.get? b=some o->H b=none->∃sl,h'.get? b=some { o with slots:=sl })(free:∀b o,b∉ch->s.heap.get? b=some o->H b=none->H' b=none)(there:∀b o,b∉ch->s.heap.get? b=some o->∃o',h'.get? b=some o')(tups:∀b xs,H b=some (.tup xs)->H' b=some (.tup xs))(kY:∀b o u,H b=some (.q9 o u)->H' b=some (.q9 o u))(mX:∀b ps,H b=some (.GZ ps)->∃more,H' b=some (.GZ (ps++more)))(ns:∀m,s.heap.Ns X.env.locals m->h'.Ns X.env.locals m)(hok:g_ X.prog X.w H' h')(hg:AllBare g') :
  Inv X pins σ H' { s with heap:=h',gens:=g',drawn:=d',toks:=t' }:=by
 have Xr:∀b o,X.s₀.heap.get? b=some o->b≠X.env.locals:=λb o e=>aaj (aal (lt_size e) I.ok.above)
 have QH:∀b o,X.s₀.heap.get? b=some o->b∉X.ex->b∉ch:=λb o e hx hb=>by
  rcases(hch b hb).1 with z|z
  ·exact hx z
  ·exact absurd (aal (lt_size e) z) (abh _)
 have cellK:∀x c,X.env.cells.lookup x=some c->∀v,s.heap.IsCell c v->h'.IsCell c v:=λx c e v ⟨o,ho,hd⟩=>by
  have M_:c∉ch:=λz=>(hch c z).2.2.1 x c e rfl
  by_cases hc:c∈X.fs
  ·obtain⟨sl,q⟩:=slot c o (I.G6 x c e) hc M_ ho (I.gq x c e)
   exact⟨_,q,hd⟩
  ·exact⟨o,keep c o (I.G6 x c e) hc M_ ho (I.gq x c e),hd⟩
 refine⟨I.ok,I.os,hg,⟨λb o e n hb hx=>?_,λb o e n hb hx=>?_,λb o e n hx=>?_,λb o e hx=>?_,λb xs e=>tups b xs (I.base.tups b xs e),λb o xs e=>kY b o xs (I.base.kY b o xs e),λb ps e=>?_⟩,?_,λx c e=>?_,?_,λx c e=>?_,λp hp=>?_,hok,I.len⟩
 ·exact keep b o (Xr b o e) hb (QH b o e hx) (I.base.keep b o e n hb hx) (I.base.free b o e n hx)
 ·obtain⟨sl,e1⟩:=I.base.slot b o e n hb hx
  obtain⟨sl',e2⟩:=slot b _ (Xr b o e) hb (QH b o e hx) e1 (I.base.free b o e n hx)
  exact⟨sl',e2⟩
 ·obtain⟨o',e1⟩:=I.base.there b o e hx
  exact free b o' (QH b o e hx) e1 (I.base.free b o e n hx)
 ·obtain⟨o',e1⟩:=I.base.there b o e hx
  exact there b o' (QH b o e hx) e1
 ·obtain⟨m1,e1⟩:=I.base.mX b ps e
  obtain⟨m2,e2⟩:=mX b _ e1
  exact⟨m1++m2,by rw[e2,Array.append_assoc]⟩
 ·obtain⟨m,hn,hl⟩:=I.loc
  refine⟨m,ns m hn,λi x v e1 e2 e3=>?_⟩
  obtain⟨u,r,l⟩:=hl i x v e1 e2 e3
  refine⟨u,r,?_⟩
  rcases l with l|⟨k,c,e,z⟩
  ·exact .inl l
  ·exact .inr ⟨k,c,e,cellK x c e _ z⟩
 ·obtain⟨v,z⟩:=I.cell x c e
  exact⟨v,cellK x c e v z⟩
 ·obtain⟨m,⟨o,_,_,ho,_⟩,_⟩:=I.loc
  exact free _ o (λz=>(hch _ z).2.1 rfl) ho I.free
 ·obtain⟨v,o,ho,hd⟩:=I.cell x c e
  exact free c o (λz=>(hch c z).2.2.1 x c e rfl) ho (I.gq x c e)
 ·obtain⟨e,n,ne,nf,d⟩:=I.pin p hp
  have M_:p.1∉ch:=λz=>(hch p.1 z).2.2.2 p hp rfl
  exact⟨keep p.1 p.2 ne nf M_ e n,free p.1 p.2 M_ e n,ne,nf,d⟩
theorem Inv.un(I:Inv X pins σ H s)(u:Un X.fs [] H H' s.heap h')(hok:g_ X.prog X.w H' h'):Inv X pins σ H' { s with heap:=h',toks:=t' }:=by
 obtain⟨m,⟨o,es,ep,ho,r⟩,_⟩:=id I.loc
 obtain⟨sl,hL⟩:=u.any ho I.free (by simp)
 exact I.step (g':=s.gens) (d':=s.drawn) (ch:=[]) (λ_ z=>nomatch z) (λb o _ hb _ e n=>u.keep b o e n hb (by simp)) (λb o _ hb _ e n=>u.slot b o e n hb (by simp)) (λb o _ e n=>u.free b o e n (by simp)) (λb o _ e=>u.there b o e (by simp)) u.tups u.kY u.mX (λm' hm=>by
  obtain⟨o',es',ep',ho',r'⟩:=hm
  rw[ho] at ho';cases ho'
  exact⟨_,es',ep',hL,r'⟩) hok I.bare
theorem Inv.call(I:Inv X pins σ H s)(u:Un (frs X.stack) ch H H' s.heap h')(hok:g_ X.prog X.w H' h')(hg:AllBare g')(hch:∀b∈ch,(b∈X.ex\/X.s₀.heap.objs.size<=b)/\b≠X.env.locals/\(∀x c,X.env.cells.lookup x=some c->c≠b)/\∀p∈X.pn++pins,p.1≠b) :
  Inv X pins σ H' { s with heap:=h',gens:=g',drawn:=d',toks:=t' }:=by
 obtain⟨m,⟨o,es,ep,ho,r⟩,_⟩:=id I.loc
 obtain⟨sl,hL⟩:=u.any ho I.free λz=>(hch _ z).2.1 rfl
 exact I.step (ch:=ch) hch (λb o hL hb hc e n=>u.keep b o e n (λz=>(mem_cons.mp (I.ou b z)).elim hL hb) hc) (λb o _ _ hc e n=>u.any e n hc) (λb o hc e n=>u.free b o e n hc) (λb o hc e=>u.there b o e hc) u.tups u.kY u.mX (λm' hm=>by
  obtain⟨o',es',ep',ho',r'⟩:=hm
  rw[ho] at ho';cases ho'
  exact⟨_,es',ep',hL,r'⟩) hok hg
theorem Inv.turned(I:Inv X pins σ H s)(k:∀b o,b≠it->s.heap.get? b=some o->h'.get? b=some o)(hn:H it=none)(hL:it≠X.env.locals)(h1:it∈X.ex\/X.s₀.heap.objs.size<=it)(h2:∀x c,X.env.cells.lookup x=some c->c≠it)(h3:∀p∈X.pn++pins,p.1≠it):Inv X pins σ H { s with heap:=h',toks:=t' }:=by
 have Xu:∀b u,H b=some u->b≠it:=λb u e z=>by rw[z,hn] at e;cases e
 refine I.step (g':=s.gens) (d':=s.drawn) (ch:=[it]) (λb hb=>?_) (λb o _ _ hc e _=>k b o (λz=>hc (by simp[z])) e) (λb o _ _ hc e _=>⟨o.slots,k b o (λz=>hc (by simp[z])) e⟩) (λ_ _ _ _ n=>n)
  (λb o hc e=>⟨o,k b o (λz=>hc (by simp[z])) e⟩) (λ_ _ e=>e) (λ_ _ _ e=>e) (λb ps e=>⟨#[],by rw[e];simp⟩) (λm hm=>?_) (λb u e=>?_) I.bare
 ·have e:b=it:=by simpa using hb
  subst e
  exact⟨h1,hL,h2,h3⟩
 ·obtain⟨o,es,ep,ho,r⟩:=hm
  exact⟨o,es,ep,k _ o (ab8 hL) ho,r⟩
 ·refine(I.hok b u e).stay (λc v hc q=>k c v ?_ q) (λ_ q=>q) λ_ _ q=>q
  rcases hc with z|z
  ·rw[z];exact Xu b u e
  ·exact Xu c _ z
theorem Inv.tok(I:Inv X pins σ H s)(t:Nat):Inv X pins σ H { s with toks:=t }:=I.un (h':=s.heap) (t':=t) Un.refl I.hok
theorem Inv.kept(I:Inv X pins σ H s)(k:∀b u,s.heap.get? b=some u->h'.get? b=some u):Inv X pins σ H { s with heap:=h',toks:=t' }:=I.un (Un.kept k) (I.hok.kept k)
theorem Inv.laid(I:Inv X pins σ H s)(k:∀b u,s.heap.get? b=some u->h'.get? b=some u)(hp:s.heap.objs.size<=a)(new:bh X.prog X.w (upd H a o) h' a o) :
  Inv X pins σ (upd H a o) { s with heap:=h',toks:=t' }:=I.un (Un.laid k hp (I.hok.fresh hp)) (I.hok.laid k hp new)
theorem Inv.write(I:Inv X pins σ H s)(mu:M7 (H x))(he:e=x\/H e=some (.own x))(k:∀b u,b≠e->s.heap.get? b=some u->h'.get? b=some u)(heo:∃u,h'.get? e=some u)(new:bh X.prog X.w (upd H x o) h' x o):Inv X pins σ (upd H x o) { s with heap:=h',toks:=t' }:=I.un (Un.write mu he k heo) (I.hok.write mu he k heo new)
theorem Inv.ji(I:Inv X pins σ H s)(h:∀p∈Er,s.heap.get? p.1=some p.2/\H p.1=none/\p.1≠X.env.locals/\p.1∉X.fs/\∀v,p.2.data≠.cell v):Inv X Er σ H s :=
 ⟨I.ok,I.os,I.bare,I.base,I.loc,I.cell,I.free,I.gq,λp hp=>(mem_append.mp hp).elim (λz=>I.pin p (mem_append_left _ z)) (h p),I.hok,I.len⟩
theorem Xv{N:List Str}(hN:N.Nodup){i j:Nat}{x:Str}(a:N[i]?=some x)(b:N[j]?=some x):i=j:=by
 obtain⟨h1,e1⟩:=aao.mp a
 obtain⟨h2,e2⟩:=aao.mp b
 exact(getElem_inj hN).mp (e1.trans e2.symm)
theorem Xw{Q:Unit->Shared->Prop}(I:Inv X pins σ H s)(hN:X.N.Nodup)(hi:X.N[i]?=some x)(hx:Loc X.env.scope x)(r:RelV v u)(h:∀s',Inv X pins (σ.set i (some v)) H s'->(∃a,SameBut a s.heap s'.heap/\(a=X.env.locals\/X.env.cells.lookup x=some a))->Q () s')(hf:X.fn x=true\/X.env.scope.names.lookup x=some .local:=by first|exact .inl rfl|exact .inr rfl|assumption):wpAny M A (storeName X.env x u) Q E s:=by
 obtain⟨m,hn,hl⟩:=id I.loc
 have hcls:(X.env.scope.kind==.class||(X.env.scope.kind==.module&&X.env.locals != X.env.globals))=false:=by rw[I.ok.kind];rfl
 have Nb:i<σ.length:=by rw[I.len];exact(aao.mp hi).1
 have G6:=I.G6
 have tracked:∀{a:Addr}{h':Heap},(∃o,s.heap.get? a=some o/\H a=none)->SameBut a s.heap h'->g_ X.prog X.w H h':=λ{a h'} ha hs b ob e=>by
  obtain⟨_,_,hfree⟩:=ha
  refine(I.hok b ob e).stay (λc w' hc q=>(hs.2 c ?_).trans q) (λ_ q=>q) λ_ _ q=>q
  rintro rfl
  rcases hc with rfl|hc
  ·rw[hfree] at e;cases e
  ·rw[hfree] at hc;cases hc
 rcases hx with hk|hk
 ·refine wpAny_storeName_local hk hn (λh' hn' hs=>?_) hcls
  obtain⟨oL,_,_,hoL,_⟩:=id hn
  refine h _ ⟨I.ok,I.os,I.bare,⟨λb o e n hb hx=>?_,λb o e n hb hx=>?_,I.base.free,λb o e hx=>?_,I.base.tups,I.base.kY,I.base.mX⟩,⟨_,hn',λj y v' e1 e2 e3=>?_⟩,λy c e=>?_,I.free,I.gq,λp hp=>?_,tracked ⟨oL,hoL,I.free⟩ hs,by simpa using I.len⟩ ⟨_,hs,.inl rfl⟩
  ·exact(hs.2 b (aaj (aal (lt_size e) I.ok.above))).trans (I.base.keep b o e n hb hx)
  ·obtain⟨sl,e1⟩:=I.base.slot b o e n hb hx
   exact⟨sl,(hs.2 b (aaj (aal (lt_size e) I.ok.above))).trans e1⟩
  ·obtain⟨o',e1⟩:=I.base.there b o e hx
   exact⟨o',(hs.2 b (aaj (aal (lt_size e) I.ok.above))).trans e1⟩
  ·by_cases hj:j=i
   ·subst hj
    rw[hi] at e1;cases e1
    rw[List.getElem?_set_self Nb] at e2
    cases e2
    exact⟨u,r,.inl ⟨hk,by simp⟩⟩
   ·rw[List.getElem?_set_ne (ab8 hj)] at e2
    obtain⟨u',r',q⟩:=hl j y v' e1 e2 e3
    refine⟨u',r',?_⟩
    rcases q with⟨k,e⟩|⟨k,c,e,z⟩
    ·refine .inl ⟨k,?_⟩
     have:y≠x:=λe=>hj (Xv hN e1 (e▸hi))
     simp[this,e]
    ·exact .inr ⟨k,c,e,z.sameBut hs (G6 y c e)⟩
  ·obtain⟨w',z⟩:=I.cell y c e
   exact⟨w',z.sameBut hs (G6 y c e)⟩
  ·obtain⟨e,n,ne,nf,d⟩:=I.pin p hp
   exact⟨(hs.2 p.1 ne).trans e,n,ne,nf,d⟩
 ·have hfn:X.fn x=true:=by
   rcases hf with z|z
   ·exact z
   ·rw[z] at hk;cases hk
  obtain⟨c,hc⟩:=I.ok.has x (.inl hk)
  obtain⟨w',z⟩:=I.cell x c hc
  refine wpAny_storeName_cell I.ok.kind hk hc z (λh' hc' hs=>?_)
  obtain⟨oc,hoc,Tj⟩:=id z
  refine h { s with heap:=h' } ⟨I.ok,I.os,I.bare,⟨λb o e n hb hx=>?_,λb o e n hb hx=>?_,I.base.free,λb o e hx=>?_,I.base.tups,I.base.kY,I.base.mX⟩,⟨m,hn.sameBut hs (ab8 (G6 x c hc)),λj y v' e1 e2 e3=>?_⟩,λy c' e=>?_,I.free,I.gq,λp hp=>?_,tracked ⟨oc,hoc,I.gq x c hc⟩ hs,by simpa using I.len⟩ ⟨c,hs,.inr hc⟩
  ·exact(hs.2 b (aaj (aal (lt_size e) (I.ok.cab x c hfn hc)))).trans (I.base.keep b o e n hb hx)
  ·obtain⟨sl,e1⟩:=I.base.slot b o e n hb hx
   exact⟨sl,(hs.2 b (aaj (aal (lt_size e) (I.ok.cab x c hfn hc)))).trans e1⟩
  ·obtain⟨o',e1⟩:=I.base.there b o e hx
   exact⟨o',(hs.2 b (aaj (aal (lt_size e) (I.ok.cab x c hfn hc)))).trans e1⟩
  ·by_cases hj:j=i
   ·subst hj
    rw[hi] at e1;cases e1
    rw[List.getElem?_set_self Nb] at e2
    cases e2
    exact⟨u,r,.inr ⟨.inl hk,c,hc,hc'⟩⟩
   ·rw[List.getElem?_set_ne (ab8 hj)] at e2
    obtain⟨u',r',q⟩:=hl j y v' e1 e2 e3
    refine⟨u',r',?_⟩
    rcases q with q|⟨k,c',e,z'⟩
    ·exact .inl q
    ·refine .inr ⟨k,c',e,z'.sameBut hs ?_⟩
     rintro rfl
     exact hj (Xv hN e1 (I.ok.inj _ _ _ e hc▸hi))
  ·by_cases hcc:c'=c
   ·subst hcc;exact⟨_,hc'⟩
   ·obtain⟨w2,z2⟩:=I.cell y c' e
    exact⟨w2,z2.sameBut hs hcc⟩
  ·obtain⟨e,n,ne,nf,d⟩:=I.pin p hp
   refine⟨(hs.2 p.1 ?_).trans e,n,ne,nf,d⟩
   intro q
   rw[q,hoc] at e
   have q':oc=p.2:=aai e
   exact d w' (by rw[<-q'];exact Tj)
theorem Tn{Q:Unit->Shared->Prop}(I:Inv X pins σ H s)(hN:X.N.Nodup)(hi:X.N[i]?=some x)(hx:Loc X.env.scope x)(r:RelV v u)(h:∀s',Inv X pins (σ.set i (some v)) H s'->Q () s')(hf:X.fn x=true\/X.env.scope.names.lookup x=some .local:=by first|exact .inl rfl|exact .inr rfl|assumption):wpAny M A (storeName X.env x u) Q E s :=
 Xw I hN hi hx r (λs' I' _=>h s' I') hf
theorem Inv.call'{s':Shared}(I:Inv X pins σ H s)(ho:s'.os=s.os)(u:Un (frs X.stack) ch H H' s.heap s'.heap)(hok:g_ X.prog X.w H' s'.heap)(hg:AllBare s'.gens)(hch:∀b∈ch,(b∈X.ex\/X.s₀.heap.objs.size<=b)/\b≠X.env.locals/\(∀x c,X.env.cells.lookup x=some c->c≠b)/\∀p∈X.pn++pins,p.1≠b):Inv X pins σ H' s':=by
 obtain⟨h',g',d',t',o'⟩:=s'
 have e:o'=s.os:=ho
 subst e
 exact I.call (g':=g') (t':=t') (d':=d') u hok hg hch
end
abbrev XK:=Value->Option Addr->Hp->Prop
abbrev St:=List (Option V)
abbrev VK:=V->Hp->Prop
abbrev TE:=St->Hp->VK->Prop
abbrev TT:=St->Hp->(Bool->Hp->Prop)->Prop
abbrev TA:=St->Hp->(List V->Hp->Prop)->Prop
structure Ends where
 nx:St->Hp->Prop
 rt:VK
 bk:St->Hp->Prop:=λ_ _=>False
 ct:St->Hp->Prop:=λ_ _=>False
abbrev TS:=Ends->St->Hp->Prop
def EP(X:Cx)(pins:List (Addr×Obj))(σ:St)(Q:VK)(u:Value)(s':Shared):Prop:=∃v H',Inv X pins σ H' s'/\RelV v u/\Q v H'
def TP(X:Cx)(pins:List (Addr×Obj))(σ:St)(Q:Bool->Hp->Prop)(b:Bool)(s':Shared):Prop:=∃H',Inv X pins σ H' s'/\Q b H'
def AP(X:Cx)(pins:List (Addr×Obj))(σ:St)(Q:List V->Hp->Prop)(us:List Value)(s':Shared):Prop:=∃vs H',Inv X pins σ H' s'/\Vals vs us/\Q vs H'
def SP(X:Cx)(pins:List (Addr×Obj))(D:Ends)(f:Flow)(s':Shared):Prop :=
 match f with
 |.next=>∃σ' H',Inv X pins σ' H' s'/\D.nx σ' H'
 |.brk=>∃σ' H',Inv X pins σ' H' s'/\D.bk σ' H'
 |.cont=>∃σ' H',Inv X pins σ' H' s'/\D.ct σ' H'
 |.ret u=>∃v σ' H',Inv X pins σ' H' s'/\RelV v u/\D.rt v H'
def PE(X:Cx)(e:Expr)(t:TE):Prop :=
 ∀(pins:List (Addr×Obj))(s:Shared)(σ:St)(H:Hp)(Q:VK),Inv X pins σ H s->t σ H Q->wpAny (model X.prog X.w) X.A (eval e X.env) (EP X pins σ Q) X.xe s
def PT(X:Cx)(e:Expr)(t:TT):Prop :=
 ∀(pins:List (Addr×Obj))(s:Shared)(σ:St)(H:Hp)(Q:Bool->Hp->Prop),Inv X pins σ H s->t σ H Q->wpAny (model X.prog X.w) X.A (isTrue e X.env (eval e X.env)) (TP X pins σ Q) X.xe s
def PW(X:Cx)(e:Expr)(t:TT):Prop :=
 ∀(whole:Sem Value)(pins:List (Addr×Obj))(s:Shared)(σ:St)(H:Hp)(Q:Bool->Hp->Prop),Inv X pins σ H s->t σ H Q->wpAny (model X.prog X.w) X.A (isTrue e X.env whole) (TP X pins σ Q) X.xe s
theorem PW.pt(h:PW X e t):PT X e t:=h _
def PA(X:Cx)(es:List Expr)(t:TA):Prop :=
 ∀(pos:Pos)(pins:List (Addr×Obj))(s:Shared)(σ:St)(H:Hp)(Q:List V->Hp->Prop),Inv X pins σ H s->t σ H Q->wpAny (model X.prog X.w) X.A (spliced (backTo pos (starEach es X.env))) (AP X pins σ Q) X.xe s
def PS(X:Cx)(st:Stmt)(t:TS):Prop :=
 ∀(pins:List (Addr×Obj))(s:Shared)(σ:St)(H:Hp)(D:Ends),Inv X pins σ H s->t D σ H->wpAny (model X.prog X.w) X.A (exec st X.env) (SP X pins D) X.xe s
def pJ(X:Cx)(st:List Stmt)(t:TS):Prop :=
 ∀(pins:List (Addr×Obj))(s:Shared)(σ:St)(H:Hp)(D:Ends),Inv X pins σ H s->t D σ H->wpAny (model X.prog X.w) X.A (execs st X.env) (SP X pins D) X.xe s
theorem aN{α:Type}{t:Sem α}{Q Q':α->Shared->Prop}(h:wpAny M A t Q E s)(hQ:∀a s,Q a s->Q' a s):wpAny M A t Q' E s:=abv h hQ λ_ _ x=>x
section
variable{X:Cx}
def c7(i:Nat):TE:=λσ H Q=>∃v,σ[i]?=some (some v)/\Q v H
def tC(v:V):TE:=λ_ H Q=>Q v H
theorem G7(hN:X.N[i]?=some x)(hv:M9 X.env.scope x)(hd:(x==("__debug__":Str))=false:=by decide)(hcd:(x==("__classdict__":Str))=false:=by decide):PE X (.Name x pos) (c7 i):=by
 intro pins s σ H Q I h
 obtain⟨v,e,h⟩:=h
 obtain⟨m,hn,hl⟩:=I.loc
 obtain⟨u,r,l⟩:=hl i x v hN e hv
 have fin:EP X pins σ Q u s:=⟨v,H,I,r,h⟩
 rcases l with⟨hk,hm⟩|⟨hk,c,hc,hcell⟩
 ·exact wpAny_Name (wpAny_loadName_local I.ok.kind hk hn hm fin) hd
 ·rcases hk with hk|hk
  ·exact wpAny_Name (wpAny_loadName_cell I.ok.kind hk hc hcell fin) hd
  ·exact wpAny_Name (wpAny_loadName_free I.ok.kind hk hc hcell fin hcd) hd
theorem yB{i j pos}:PE X (.Constant (.int i) j pos) (tC (.int i)):=λ_ _ _ H _ I h=>wpAny_Constant_int ⟨.int i,H,I.tok _,⟨_,rfl⟩,h⟩
theorem Al{b j pos}:PE X (.Constant (.bool b) j pos) (tC (.bl b)):=λ_ _ _ H _ I h=>Constant_bool ⟨.bl b,H,I,rfl,h⟩
theorem Xx{j pos}:PE X (.Constant .none j pos) (tC .non):=λ_ _ _ H _ I h=>aee ⟨.non,H,I,rfl,h⟩
theorem uR{x j pos}:PE X (.Constant (.str x) j pos) (tC (.str x)):=λ_ _ _ H _ I h=>Calls.Constant_str ⟨.str x,H,I.tok _,⟨_,rfl⟩,h⟩
def Gl(X:Cx)(x:Str):Prop:=X.env.kindOf x=some .globalImplicit
theorem QJ{Q:Value->Shared->Prop}(I:Inv X pins σ H s)(hg:Gl X x)(hm:X.mg x=some u)(h:Q u s)(hd:(x==("__debug__":Str))=false:=by decide):wpAny (model X.prog X.w) X.A (eval (.Name x pos) X.env) Q E s :=
 Calls.Name_function_global I.ok.kind hg (Calls.loadGlobal_global (by rw[I.ok.glob];exact I.mod.glob.keeps I.bk) hm h) hd
theorem zy{Q:Value->Shared->Prop}(I:Inv X pins σ H s)(hg:Gl X x)(hm:X.mg x=none)(hv:bootBuiltins x=some u)(h:Q u s)(hn:x ≠ "__name__":=by decide)(hd:(x==("__debug__":Str))=false:=by decide):wpAny (model X.prog X.w) X.A (eval (.Name x pos) X.env) Q E s:=by
 obtain⟨mb,h1,h2⟩:=I.mod.blt
 exact Calls.Name_function_global I.ok.kind hg (Calls.loadGlobal_builtin (by rw[I.ok.glob];exact I.mod.glob.keeps I.bk) hm (by rw[I.ok.blt];exact h1.keeps I.bk) ((h2 x hn).trans hv) h) hd
theorem wD(hg:Gl X x)(hm:X.mg x=some u)(r:RelV v u)(hd:(x==("__debug__":Str))=false:=by decide):PE X (.Name x pos) (tC v) :=
 λ_ _ _ H _ I h=>QJ I hg hm ⟨v,H,I,r,h⟩ hd
theorem K6(hg:Gl X x)(hm:X.mg x=none)(hv:bootBuiltins x=some u)(r:RelV v u)(hn:x ≠ "__name__":=by decide)(hd:(x==("__debug__":Str))=false:=by decide):PE X (.Name x pos) (tC v) :=
 λ_ _ _ H _ I h=>zy I hg hm hv ⟨v,H,I,r,h⟩ hn hd
variable{a b:Expr}{ta tb:TE}{pos:Pos}
def PC(X:Cx)(op:CmpOp)(a b:Expr)(t:TE):Prop :=
 ∀(pins:List (Addr×Obj))(s:Shared)(σ:St)(H:Hp)(Q:VK),Inv X pins σ H s->t σ H Q ->
  wpAny (model X.prog X.w) X.A (eval a X.env) (λv s₁=>wpAny (model X.prog X.w) X.A (eval b X.env) (λu s₂=>wpAny (model X.prog X.w) X.A (compareOp op v u) (EP X pins σ Q) X.xe s₂) X.xe s₁) X.xe s
theorem zRr(b:Expr)(h:op≠.In)(h2:op≠.NotIn):behindInMarks op b=false:=by
 have e1:(op==CmpOp.In)=false:=by cases op<;>first|rfl|exact absurd rfl h
 have e2:(op==CmpOp.NotIn)=false:=by cases op<;>first|rfl|exact absurd rfl h2
 cases b<;>simp[behindInMarks,e1,e2]
def Nf(ta:TE):TE:=λσ H Q=>ta σ H λx H1=>Q (.bl (decide (x=.non))) H1
def Es(ta:TE):TE:=λσ H Q=>ta σ H λx H1=>Q (.bl (!decide (x=.non))) H1
theorem RelV.pN(r:RelV x v):(v==aco)=decide (x=.non):=by
 cases x with
 |non=>cases r;rfl
 |bl _=>cases r;rfl
 |int _=>obtain⟨t,rfl⟩:=r;rfl
 |str _=>obtain⟨t,rfl⟩:=r;rfl
 |Ah _=>obtain⟨t,rfl⟩:=r;rfl
 |flt _=>obtain⟨t,rfl⟩:=r;rfl
 |ref _=>cases r;rfl
 |ty _=>cases r;rfl
theorem QK{j pos'}(ha:PE X a ta):PC X .Is a (.Constant .none j pos') (Nf ta):=by
 intro pins s σ H Q I h
 refine aN (ha pins s σ H _ I h) λv s1 ⟨x,H1,I1,r1,q1⟩=>?_
 exact aee (is_none_gen ⟨.bl _,H1,I1,by rw[r1.pN];rfl,q1⟩)
theorem Am{j pos'}(ha:PE X a ta):PC X .IsNot a (.Constant .none j pos') (Es ta):=by
 intro pins s σ H Q I h
 refine aN (ha pins s σ H _ I h) λv s1 ⟨x,H1,I1,r1,q1⟩=>?_
 exact aee (isnot_none_gen ⟨.bl _,H1,I1,by rw[r1.pN];rfl,q1⟩)
def tB(t:TE):TT:=λσ H Q=>t σ H λx H1=>∃c,x=.bl c/\Q c H1
theorem Eu(h:PC X op a b t)(h1:behindInMarks op b=false:=by first|exact zRr _ (by decide) (by decide)|rfl):PT X (.Compare a [op] [b] pos) (tB t):=by
 intro pins s σ H Q I hw
 refine wpAny_isTrue_Compare1 (aN (h pins s σ H _ I hw) λv s1 h1=>aN h1 λu s2 h2=>aN h2 λc s3 ⟨x,H1,I1,r1,q1⟩=>?_) h1
 obtain⟨d,rfl,q⟩:=q1
 cases r1
 exact abk ⟨H1,I1,q⟩
theorem xM(h:PE X e t)(he:∀whole,isTrue e X.env whole=(do let v <-whole;standAt e.pos;holding [v] (truthy v)):=by intro _;rfl):PT X e (tB t):=by
 intro pins s σ H Q I hw
 refine isTrue_plain (aN (h pins s σ H _ I hw) λv s1 ⟨x,H1,I1,r1,q1⟩=>?_) (he _)
 obtain⟨d,rfl,q⟩:=q1
 cases r1
 exact abk ⟨H1,I1,q⟩
variable{tA QL:TT}{rest:List Expr}
def Ng(t u:TT):TT:=λσ H Q=>t σ H λc H1=>if c=true then u σ H1 Q else Q false H1
def Xy(t u:TT):TT:=λσ H Q=>t σ H λc H1=>if c=true then Q true H1 else u σ H1 Q
def Nh(t:TT):TT:=λσ H Q=>t σ H λc H1=>Q (!c) H1
theorem pw_and1(ha:PT X a tA):PW X (.BoolOp .And [a] pos) tA:=by
 intro wh pins s σ H Q I h
 refine isTrue_and (aN (ha pins s σ H Q I h) λc s1 e=>?_)
 cases c with
 |true=>exact isTrue_and_nil e
 |false=>exact e
theorem pw_or1(ha:PT X a tA):PW X (.BoolOp .Or [a] pos) tA:=by
 intro wh pins s σ H Q I h
 refine isTrue_or (aN (ha pins s σ H Q I h) λc s1 e=>?_)
 cases c with
 |false=>exact isTrue_or_nil e
 |true=>exact e
theorem pw_and(ha:PT X a tA)(hb:PW X (.BoolOp .And (b::rest) pos) QL):PW X (.BoolOp .And (a::b::rest) pos) (Ng tA QL):=by
 intro wh pins s σ H Q I h
 refine isTrue_and (aN (ha pins s σ H _ I h) λc s1 ⟨H1,I1,q1⟩=>?_)
 cases c with
 |true=>exact hb wh pins s1 σ H1 Q I1 q1
 |false=>exact⟨H1,I1,q1⟩
theorem pw_or(ha:PT X a tA)(hb:PW X (.BoolOp .Or (b::rest) pos) QL):PW X (.BoolOp .Or (a::b::rest) pos) (Xy tA QL):=by
 intro wh pins s σ H Q I h
 refine isTrue_or (aN (ha pins s σ H _ I h) λc s1 ⟨H1,I1,q1⟩=>?_)
 cases c with
 |true=>exact⟨H1,I1,q1⟩
 |false=>exact hb wh pins s1 σ H1 Q I1 q1
theorem Ni(ha:PT X a tA):PT X (.UnaryOp .Not a pos) (Nh tA):=by
 intro pins s σ H Q I h
 exact isTrue_not (ha pins s σ H (λc H1=>Q (!c) H1) I h)
def Ew(ta tb:TE):TE:=λσ H Q=>ta σ H λx H1=>∃c,x=.bl c/\if c=true then tb σ H1 Q else Q (.bl false) H1
def Nj(ta tb:TE):TE:=λσ H Q=>ta σ H λx H1=>∃c,x=.bl c/\if c=true then Q (.bl true) H1 else tb σ H1 Q
def Ez(ta:TE):TE:=λσ H Q=>ta σ H λx H1=>∃c,x=.bl c/\Q (.bl (!c)) H1
theorem K7{op}(h:PE X a t):PE X (.BoolOp op [a] pos) t:=λpins s σ H Q I hw=>BoolOp_one (h pins s σ H Q I hw)
theorem G8(ha:PE X a ta)(hb:PE X (.BoolOp .And (b::rest) pos) tb):PE X (.BoolOp .And (a::b::rest) pos) (Ew ta tb):=by
 intro pins s σ H Q I h
 refine BoolOp_and (aN (ha pins s σ H _ I h) λv s1 ⟨x,H1,I1,r1,q1⟩=>?_)
 obtain⟨c,rfl,q1⟩:=q1
 cases r1
 refine abk ?_
 cases c with
 |true=>exact hb pins s1 σ H1 Q I1 q1
 |false=>exact⟨.bl false,H1,I1,rfl,q1⟩
theorem Nk(ha:PE X a ta)(hb:PE X (.BoolOp .Or (b::rest) pos) tb):PE X (.BoolOp .Or (a::b::rest) pos) (Nj ta tb):=by
 intro pins s σ H Q I h
 refine BoolOp_or (aN (ha pins s σ H _ I h) λv s1 ⟨x,H1,I1,r1,q1⟩=>?_)
 obtain⟨c,rfl,q1⟩:=q1
 cases r1
 refine abk ?_
 cases c with
 |false=>exact hb pins s1 σ H1 Q I1 q1
 |true=>exact⟨.bl true,H1,I1,rfl,q1⟩
theorem G9(ha:PE X a ta):PE X (.UnaryOp .Not a pos) (Ez ta):=by
 intro pins s σ H Q I h
 refine UnaryOp_ (aN (ha pins s σ H _ I h) λv s1 ⟨x,H1,I1,r1,q1⟩=>?_)
 obtain⟨c,rfl,q1⟩:=q1
 cases r1
 exact not_of (abk ⟨.bl (!c),H1,I1,rfl,q1⟩)
def Xz(t:TT)(ta tb:TE):TE:=λσ H Q=>t σ H λc H1=>if c=true then ta σ H1 Q else tb σ H1 Q
theorem XC(hc:PT X c tA)(ha:PE X a ta)(hb:PE X b tb):PE X (.IfExp c a b pos) (Xz tA ta tb):=by
 intro pins s σ H Q I h
 refine wpAny_IfExp (aN (hc pins s σ H _ I h) λd s1 ⟨H1,I1,q1⟩=>?_)
 cases d with
 |true=>exact ha pins s1 σ H1 Q I1 q1
 |false=>exact hb pins s1 σ H1 Q I1 q1
end
def bw(K:PySem.W.Frag)(H:Hp)(a:Addr)(xs:List V):Prop :=
 Rd H a (.lst xs) \/
  ∃(o:Obj)(its:Array Value)(n:Nat),K.lookup a=some o/\o.cls=.type "list" /\ o.dict=none/\o.data=.seq its n/\its.size<=sizeLine/\Vals xs its.toList
def jV(K:PySem.W.Frag)(H:Hp)(a:Addr)(xs:List V):Prop :=
 Rd H a (.tup xs) \/
  ∃(o:Obj)(its:Array Value)(n:Nat),K.lookup a=some o/\o.cls=.type "tuple" /\ o.data=.seq its n/\its.size<=sizeLine/\Vals xs its.toList
def Tp:Value->Option V
 |.none=>some .non
 |.bool b=>some (.bl b)
 |.int i _=>some (.int i)
 |.str x _=>some (.str x)
 |.bytes b _=>some (.Ah b)
 |.float b _=>some (.flt b)
 |.ref a=>some (.ref a)
 |.type n=>some (.ty n)
 |_=>none
theorem RelV.abs(r:RelV x u):Tp u=some x:=by
 cases x with
 |non=>cases r;rfl
 |bl _=>cases r;rfl
 |int _=>obtain⟨t,rfl⟩:=r;rfl
 |str _=>obtain⟨t,rfl⟩:=r;rfl
 |Ah _=>obtain⟨t,rfl⟩:=r;rfl
 |flt _=>obtain⟨t,rfl⟩:=r;rfl
 |ref _=>cases r;rfl
 |ty _=>cases r;rfl
theorem RelV.inj(r:RelV x u)(q:RelV y u):x=y:=aai (r.abs.symm.trans q.abs)
theorem Vals.inj:∀{xs ys:List V}{us:List Value},Vals xs us->Vals ys us->xs=ys
 |_,_,_,.nil,.nil=>rfl
 |_,_,_,.cons r t,.cons r' t'=>by rw[r.inj r',Vals.inj t t']
section
variable{X:Cx}{pins:List (Addr×Obj)}{σ:St}{H:Hp}{s:Shared}{a:Addr}{xs ys:List V}
theorem bw.of{K:PySem.W.Frag}(h:H a=some (.lst xs)):bw K H a xs:=.inl (.inl h)
theorem jV.of{K:PySem.W.Frag}(h:H a=some (.tup xs)):jV K H a xs:=.inl (.inl h)
theorem Inv.list(I:Inv X pins σ H s)(h:bw X.K H a xs):∃its:List Value,Vals xs its/\PlainL s.heap a its.toArray/\xs.length<=sizeLine:=by
 rcases h with h|⟨o,its,n,hk,hc,hd,hs,hz,r⟩
 ·obtain⟨z,its,n,r,e⟩:=h.ok I.hok
  exact⟨its,r,⟨_,n,e,rfl,rfl,rfl⟩,z⟩
 ·refine⟨its.toList,r,⟨o,n,I.jC a o hk,hc,hd,by simpa using hs⟩,?_⟩
  have e:=r.length
  simp only[length_toList] at e
  omega
theorem Inv.tuple(I:Inv X pins σ H s)(h:jV X.K H a xs):∃its:List Value,Vals xs its/\IsTup s.heap a its.toArray/\xs.length<=sizeLine:=by
 rcases h with h|⟨o,its,n,hk,hc,hs,hz,r⟩
 ·obtain⟨z,its,r,p⟩:=h.ok I.hok
  exact⟨its,r,p,z⟩
 ·refine⟨its.toList,r,⟨o,I.jC a o hk,hc,n,by simpa using hs⟩,?_⟩
  have e:=r.length
  simp only[length_toList] at e
  omega
theorem Inv.kZ(I:Inv X pins σ H s)(h:bw X.K H a xs)(h':bw X.K H a ys):xs=ys:=by
 obtain⟨its,r,⟨o,n,e,_,_,d⟩,_⟩:=I.list h
 obtain⟨its',r',⟨o',n',e',_,_,d'⟩,_⟩:=I.list h'
 rw[e] at e';cases e'
 rw[d] at d'
 injection d' with d1 _
 have:its=its':=by simpa using congrArg Array.toList d1
 subst this
 exact r.inj r'
theorem Inv.rQ(I:Inv X pins σ H s)(h:jV X.K H a xs)(h':jV X.K H a ys):xs=ys:=by
 obtain⟨its,r,⟨o,e,_,n,d⟩,_⟩:=I.tuple h
 obtain⟨its',r',⟨o',e',_,n',d'⟩,_⟩:=I.tuple h'
 rw[e] at e';cases e'
 rw[d] at d'
 injection d' with d1 _
 have:its=its':=by simpa using congrArg Array.toList d1
 subst this
 exact r.inj r'
end
abbrev Cx.wish(X:Cx)(E:Value->Shared->Prop):Cx:={ X with xe:=E }
abbrev Cx.Ao(X:Cx):Cx:=X.wish λ_ _=>False
theorem Cx.Ok.wish{X:Cx}(ok:X.Ok)(E:Value->Shared->Prop):(X.wish E).Ok :=
 ⟨ok.mod,ok.kind,ok.glob,ok.blt,ok.above,ok.inj,ok.has,ok.cab,ok.hd,ok.frames,ok.stk,ok.QG,ok.bs,ok.Ak,ok.uh,ok.uo,ok.jZ,ok.G4⟩
theorem Cx.Ok.gw{X:Cx}(ok:(X.wish E).Ok):X.Ok :=
 ⟨ok.mod,ok.kind,ok.glob,ok.blt,ok.above,ok.inj,ok.has,ok.cab,ok.hd,ok.frames,ok.stk,ok.QG,ok.bs,ok.Ak,ok.uh,ok.uo,ok.jZ,ok.G4⟩
section
variable{X:Cx}{pins:List (Addr×Obj)}{σ:St}{H:Hp}{s:Shared}{E:Value->Shared->Prop}
theorem Inv.wish(I:Inv X pins σ H s)(E:Value->Shared->Prop):Inv (X.wish E) pins σ H s:=⟨I.ok.wish E,I.os,I.bare,I.base,I.loc,I.cell,I.free,I.gq,I.pin,I.hok,I.len⟩
theorem Inv.gw(I:Inv (X.wish E) pins σ H s):Inv X pins σ H s:=⟨I.ok.gw,I.os,I.bare,I.base,I.loc,I.cell,I.free,I.gq,I.pin,I.hok,I.len⟩
theorem SP.gw(h:SP (X.wish E) pins D f s'):SP X pins D f s':=by
 cases f with
 |next=>obtain⟨σ',H',I,q⟩:=h;exact⟨σ',H',I.gw,q⟩
 |brk=>obtain⟨σ',H',I,q⟩:=h;exact⟨σ',H',I.gw,q⟩
 |cont=>obtain⟨σ',H',I,q⟩:=h;exact⟨σ',H',I.gw,q⟩
 |ret u=>obtain⟨v,σ',H',I,r,q⟩:=h;exact⟨v,σ',H',I.gw,r,q⟩
theorem pJ.Ao{st:List Stmt}{t:TS}(h:pJ X.Ao st t):pJ X st t:=λpins s σ H D I hw =>
 abv (h pins s σ H D (I.wish _) hw) (λ_ _ q=>q.gw) λ_ _ z=>abb z
end
section
variable{X:Cx}{st:Stmt}{rest:List Stmt}{t u:TS}{e:Expr}{te:TE}{pos:Pos}
def K8:TS:=λD σ H=>D.nx σ H
def j4(t u:TS):TS:=λD σ H=>t { D with nx:=u D } σ H
theorem zG:pJ X [] K8:=λ_ _ σ H _ I h=>adk ⟨σ,H,I,h⟩
theorem zB(h1:PS X st t)(h2:pJ X rest u):pJ X (st::rest) (j4 t u):=by
 intro pins s σ H D I h
 refine wpAny_execs_cons (aN (h1 pins s σ H { D with nx:=u D } I h) λf s1 q=>?_)
 cases f with
 |next =>
  obtain⟨σ',H',I',q⟩:=q
  exact h2 pins s1 σ' H' D I' q
 |ret v=>exact q
 |brk=>exact q
 |cont=>exact q
theorem xI(h1:PS X st t):pJ X [st] t:=by
 intro pins s σ H D I h
 refine wpAny_execs_cons (aN (h1 pins s σ H D I h) λf s1 q=>?_)
 cases f with
 |next=>exact adk q
 |ret v=>exact q
 |brk=>exact q
 |cont=>exact q
theorem Inv.quiet(I:Inv X pins σ H s):interactive X.env=false:=by simp[interactive,I.ok.kind]
def K9(te:TE):TS:=λD σ H=>te σ H λ_ H1=>D.nx σ H1
theorem zZ(he:PE X e te)(hs:swapsWith e none pos.line X.env=pure false:=by rfl):PS X (.Expr e pos) (K9 te):=by
 intro pins s σ H D I h
 exact wpAny_Expr_any (aN (he pins s σ H _ I h) λv s1 ⟨x,H1,I1,r1,q1⟩=>⟨σ,H1,I1,q1⟩) I.quiet hs
def uq(te:TE):TS:=λD σ H=>te σ H D.rt
theorem zV(he:PE X e te):PS X (.Return (some e) pos) (uq te):=by
 intro pins s σ H D I h
 exact wpAny_Return_some (aN (he pins s σ H _ I h) λv s1 ⟨x,H1,I1,r1,q1⟩=>⟨x,σ,H1,I1,r1,q1⟩)
def ur(c:TT)(t u:TS):TS:=λD σ H=>c σ H λb H1=>if b=true then t D σ H1 else u D σ H1
theorem xP(hc:PT X c tc)(ha:pJ X a t)(hb:pJ X b u):PS X (.If c a b pos) (ur tc t u):=by
 intro pins s σ H D I h
 refine wpAny_If (aN (hc pins s σ H _ I h) λd s1 ⟨H1,I1,q1⟩=>?_)
 cases d with
 |true=>exact ha pins s1 σ H1 D I1 q1
 |false=>exact hb pins s1 σ H1 D I1 q1
def Tq:TS:=λ_ _ _=>False
theorem yX:pJ X sts Tq:=λ_ _ _ _ _ _ h=>h.elim
end
abbrev TG:=V->St->Hp->(St->Hp->Prop)->Prop
abbrev K_:=List V->St->Hp->(St->Hp->Prop)->Prop
def PG(X:Cx)(target:Expr)(t:TG):Prop :=
 ∀(pins:List (Addr×Obj))(s:Shared)(σ:St)(H:Hp)(v:V)(u:Value)(Q:St->Hp->Prop),Inv X pins σ H s->RelV v u->t v σ H Q ->
  wpAny (model X.prog X.w) X.A (assign target X.env u) (λ_ s'=>∃σ' H',Inv X pins σ' H' s'/\Q σ' H') X.xe s
def Nm(X:Cx)(ts:List Expr)(t:K_):Prop :=
 ∀(pins:List (Addr×Obj))(s:Shared)(σ:St)(H:Hp)(vs:List V)(us:List Value)(Q:St->Hp->Prop),Inv X pins σ H s->Vals vs us->t vs σ H Q ->
  wpAny (model X.prog X.w) X.A (assignInOrder ((assignEach ts X.env).map (·.2)) us) (λ_ s'=>∃σ' H',Inv X pins σ' H' s'/\Q σ' H') X.xe s
abbrev G_:=V->V->V->Hp->(Hp->Prop)->Prop
def Hf(X:Cx)(t:G_):Prop :=
 ∀(pins:List (Addr×Obj))(s:Shared)(σ:St)(H:Hp)(o i v:V)(ov iv u:Value)(Q:Hp->Prop),Inv X pins σ H s->RelV o ov->RelV i iv->RelV v u->t o i v H Q ->
  wpAny (model X.prog X.w) X.A (setItem ov iv u) (λ_ s'=>∃H',Inv X pins σ H' s'/\Q H') X.xe s
abbrev QM:=V->V->Hp->VK->Prop
def QS(X:Cx)(op:Operator)(t:QM):Prop :=
 ∀(pins:List (Addr×Obj))(s:Shared)(σ:St)(H:Hp)(x y:V)(v u:Value)(Q:VK),Inv X pins σ H s->RelV x v->RelV y u->t x y H Q ->
  wpAny (model X.prog X.w) X.A (inplaceOp op v u) (EP X pins σ Q) X.xe s
section
variable{X:Cx}{pos:Pos}
def pL(i:Nat):TG:=λv σ H Q=>Q (σ.set i (some v)) H
theorem yA(hN:X.N.Nodup)(hi:X.N[i]?=some x)(hx:Loc X.env.scope x)(hf:X.fn x=true\/X.env.scope.names.lookup x=some .local:=by first|exact .inl rfl|exact .inr rfl|assumption):PG X (.Name x pos) (pL i):=by
 intro pins s σ H v u Q I r h
 exact wpAny_assign_Name (Tn I hN hi hx r (λs' I'=>⟨_,H,I',h⟩) hf)
def Hg:K_:=λvs σ H Q=>vs=[]/\Q σ H
def La(t:TG)(u:K_):K_:=λvs σ H Q=>∃v r,vs=v::r/\t v σ H λσ' H'=>u r σ' H' Q
theorem uW:Nm X [] Hg:=by
 intro pins s σ H vs us Q I r h
 obtain⟨e,h⟩:=h
 subst e
 cases r
 exact assignInOrder_nil ⟨σ,H,I,h⟩
theorem yK(h1:PG X e t)(h2:Nm X es u)(hs:(assignEach (e::es) X.env).map (·.2)=assign e X.env::(assignEach es X.env).map (·.2):=by rfl):Nm X (e::es) (La t u):=by
 intro pins s σ H vs us Q I r h
 obtain⟨v,vr,e1,h⟩:=h
 subst e1
 cases r with
 |cons r rr =>
  rw[hs]
  refine assignInOrder_cons (aN (h1 pins s σ H _ _ _ I r h) λ_ s1 ⟨σ1,H1,I1,q1⟩=>?_)
  exact h2 pins s1 σ1 H1 _ _ Q I1 rr q1
def Aq(K:PySem.W.Frag)(n:Nat)(t:K_):TG:=λv σ H Q=>∃a xs,v=.ref a/\jV K H a xs/\xs.length=n/\t xs σ H Q
theorem EY(hc:X.calm=true)(h:Nm X es t)(hn:(assignEach es X.env).length=n:=by rfl)(hst:(assignEach es X.env).findIdx? (·.1)=none:=by rfl):PG X (.Tuple es k pos) (Aq X.K n t):=by
 intro pins s σ H v u Q I r hw
 obtain⟨a,xs,e1,hq,hl,hw⟩:=hw
 subst e1
 cases r
 obtain⟨its,rv,ht,hz⟩:=I.tuple hq
 refine assign_Tuple_tuple (I.ok.hd hc) ht (by simp[hn,<-hl,rv.length]) hst λh' hx=>?_
 have I1:Inv X pins σ H { s with heap:=h' }:=I.kept (t':=s.toks) λb o e=>hx b o (aaj (lt_size e)) e
 exact h pins _ σ H xs _ Q I1 (by simpa using rv) hw
def Np(to ti:TE)(t:G_):TG:=λv σ H Q=>to σ H λo H1=>ti σ H1 λi H2=>t o i v H2 λH3=>Q σ H3
theorem Nq(ho:PE X o to)(hi:PE X i ti)(hs:Hf X t)(ha:∀v,assign (.Subscript o i pos) X.env v=(do
   let ov <-holding [v] (eval o X.env)
   let iv <-holding [v,ov] (eval i X.env)
   standAt pos
   holding [v,ov,iv] (setItem ov iv v)
   release [v,ov,iv] []):=by intro _;rfl):PG X (.Subscript o i pos) (Np to ti t):=by
 intro pins s σ H v u Q I r h
 rw[ha]
 refine aac (aa9 (aN (ho pins s σ H _ I h) λov s1 ⟨x,H1,I1,r1,q1⟩=>?_))
 refine aac (aa9 (aN (hi pins s1 σ H1 _ I1 q1) λiv s2 ⟨y,H2,I2,r2,q2⟩=>?_))
 refine aac (aeg (aac (aa9 (aN (hs pins s2 σ H2 x y v ov iv u _ I2 r1 r2 r q2) λ_ s3 ⟨H3,I3,q3⟩=>?_))))
 exact wpAny_release ⟨σ,H3,I3,q3⟩
def lg(te:TE)(g:TG):TS:=λD σ H=>te σ H λx H1=>g x σ H1 D.nx
theorem Hh(he:PE X e te)(hg:PG X tg g)(hs:swapsWithSole [tg] e pos.line X.env=pure false:=by rfl)(hw:swappedStores [tg] e X.env=pure none:=by rfl)(h1:(assignEach [tg] X.env).map (·.2)=[assign tg X.env]:=by rfl):PS X (.Assign [tg] e pos) (lg te g):=by
 intro pins s σ H D I h
 refine wpAny_Assign_stores (aN (he pins s σ H _ I h) λv s1 ⟨x,H1,I1,r1,q1⟩=>?_) hs hw
 rw[h1]
 exact aN (hg pins s1 σ H1 x v _ I1 r1 q1) λ_ s2 q=>q
theorem Tt(hN:X.N.Nodup)(hi:X.N[i]?=some x)(hx:Loc X.env.scope x)(he:PE X e te)(hs:swapsWith e (some (.Name x pos')) pos.line X.env=pure false:=by rfl)(hf:X.fn x=true\/X.env.scope.names.lookup x=some .local:=by first|exact .inl rfl|exact .inr rfl|assumption) :
  PS X (.Assign [.Name x pos'] e pos) (lg te (pL i)):=by
 intro pins s σ H D I h
 refine wpAny_Assign_Name (aN (he pins s σ H _ I h) λv s1 ⟨y,H1,I1,r1,q1⟩=>?_) hs
 exact Tn I1 hN hi hx r1 (λs2 I2=>⟨_,H1,I2,q1⟩) hf
def Nr(i:Nat)(te:TE)(ti:QM):TS:=λD σ H=>∃x,σ[i]?=some (some x)/\te σ H λy H1=>ti x y H1 λz H2=>D.nx (σ.set i (some z)) H2
theorem XD(hN:X.N.Nodup)(hi:X.N[i]?=some x)(hx:Loc X.env.scope x)(he:PE X e te)(ho:QS X op ti)(hf:X.fn x=true\/X.env.scope.names.lookup x=some .local:=by first|exact .inl rfl|exact .inr rfl|assumption) :
  PS X (.AugAssign (.Name x pos') op e pos) (Nr i te ti):=by
 intro pins s σ H D I h
 obtain⟨v,e1,h⟩:=h
 obtain⟨m,hn,hl⟩:=I.loc
 have vis:M9 X.env.scope x:=by rcases hx with k|k;exact .inl k;exact .inr (.inl k)
 obtain⟨u,r,l⟩:=hl i x v hi e1 vis
 refine wpAny_AugAssign_Name ?_
 have go:wpAny (model X.prog X.w) X.A (eval e X.env) (λw s₂=>wpAny (model X.prog X.w) X.A (inplaceOp op u w) (λr s₃=>wpAny (model X.prog X.w) X.A (storeName X.env x r) (λ_=>SP X pins D .next) X.xe s₃) X.xe s₂) X.xe s:=by
  refine aN (he pins s σ H _ I h) λw s1 ⟨y,H1,I1,r1,q1⟩=>?_
  refine aN (ho pins s1 σ H1 v y u w _ I1 r r1 q1) λz s2 ⟨zv,H2,I2,r2,q2⟩=>?_
  exact Tn I2 hN hi hx r2 (λs3 I3=>⟨_,H2,I3,q2⟩) hf
 rcases l with⟨hk,hm⟩|⟨hk,c,hc,hcell⟩
 ·exact wpAny_loadName_local I.ok.kind hk hn hm go
 ·rcases hk with hk|hk
  ·exact wpAny_loadName_cell I.ok.kind hk hc hcell go
  ·rcases hx with k|k
   ·have:X.env.scope.names.lookup x=some .free:=hk
    rw[k] at this;cases this
   ·have:X.env.scope.names.lookup x=some .free:=hk
    rw[k] at this;cases this
def E_(to ti te:TE)(Hj:V->V->Hp->VK->Prop)(Tv:QM)(Hl:G_):TS:=λD σ H=>to σ H λo H1=>ti σ H1 λi H2=>Hj o i H2 λx H3=>te σ H3 λy H4=>Tv x y H4 λz H5=>Hl o i z H5 λH6=>D.nx σ H6
def Nt(X:Cx)(t:V->V->Hp->VK->Prop):Prop :=
 ∀(pins:List (Addr×Obj))(s:Shared)(σ:St)(H:Hp)(o i:V)(ov iv:Value)(Q:VK),Inv X pins σ H s->RelV o ov->RelV i iv->t o i H Q ->
  wpAny (model X.prog X.w) X.A (getItem ov iv) (EP X pins σ Q) X.xe s
theorem Av(ho:PE X o to)(hi:PE X i ti)(hg:Nt X Hj)(he:PE X e te)(hp:QS X op Tv)(hs:Hf X Hl)(ha:∀ov iv new,augStore i ov iv new=(do holding [new,ov,iv] (setItem ov iv new);release [new,ov,iv] [];pure .next):=by intros;rfl):PS X (.AugAssign (.Subscript o i tpos) op e pos) (E_ to ti te Hj Tv Hl):=by
 intro pins s σ H D I h
 refine wpAny_AugAssign_SubscriptAny (aN (ho pins s σ H _ I h) λov s1 ⟨x1,H1,I1,r1,q1⟩=>?_) ha
 refine aN (hi pins s1 σ H1 _ I1 q1) λiv s2 ⟨x2,H2,I2,r2,q2⟩=>?_
 refine aN (hg pins s2 σ H2 x1 x2 ov iv _ I2 r1 r2 q2) λold s3 ⟨x3,H3,I3,r3,q3⟩=>?_
 refine aN (he pins s3 σ H3 _ I3 q3) λv s4 ⟨x4,H4,I4,r4,q4⟩=>?_
 refine aN (hp pins s4 σ H4 x3 x4 old v _ I4 r3 r4 q4) λnew s5 ⟨x5,H5,I5,r5,q5⟩=>?_
 exact aN (hs pins s5 σ H5 x1 x2 x5 ov iv new _ I5 r1 r2 r5 q5) λ_ s6 ⟨H6,I6,q6⟩=>⟨σ,H6,I6,q6⟩
def QT(f:Int->Int->Int):QM:=λx y H Q=>∃i j,x=.int i/\y=.int j/\Q (.int (f i j)) H
theorem Ho:QS X .Add (QT λi j=>i+j):=by
 intro pins s σ H x y v u Q I r1 r2 h
 obtain⟨i,j,e1,e2,q⟩:=h
 subst e1;subst e2
 obtain⟨t,rfl⟩:=r1
 obtain⟨t',rfl⟩:=r2
 exact iadd_int ⟨.int _,H,I.tok _,⟨_,rfl⟩,q⟩
end
section
variable{X:Cx}{pos:Pos}
def XF(c:TT)(tb:TS):TS:=λD σ H=>∃W:Nat->St->Hp->Prop,(∃m,W m σ H)/\∀m σ H,W m σ H ->
 c σ H λb H1=>if b=true then∃N:St->Hp->Prop,(∀σ' H',N σ' H'->∃m',m'<m/\W m' σ' H')/\tb { D with nx:=N,ct:=N,bk:=D.nx } σ H1 else D.nx σ H1
theorem zRc(hp:PassesOwn (model X.prog X.w) X.A X.env X.xe)(hc:PT X c tc)(hb:pJ X body tb):PS X (.While c body [] pos) (XF tc tb):=by
 intro pins s σ H D I h
 obtain⟨W,⟨m0,w0⟩,turn⟩:=h
 refine wpAny_While (codeAny_whileLoop (λn s'=>∃σ' H',Inv X pins σ' H' s'/\W n σ' H') ?_ m0 ⟨σ,H,I,w0⟩)
 rintro n s1 ⟨σ1,H1,I1,w1⟩
 refine ab0 hp (aN (hc pins s1 σ1 H1 _ I1 (turn n σ1 H1 w1)) λb s2 ⟨H2,I2,q2⟩=>?_)
 cases b with
 |true =>
  obtain⟨N,hN,q2⟩:=q2
  rw[if_pos rfl]
  refine ab0 hp (aN (hb pins s2 σ1 H2 _ I2 q2) λf s3 q3=>?_)
  cases f with
  |next =>
   obtain⟨σ3,H3,I3,n3⟩:=q3
   obtain⟨m',hm,w3⟩:=hN σ3 H3 n3
   exact⟨m',hm,σ3,H3,I3,w3⟩
  |cont =>
   obtain⟨σ3,H3,I3,n3⟩:=q3
   obtain⟨m',hm,w3⟩:=hN σ3 H3 n3
   exact⟨m',hm,σ3,H3,I3,w3⟩
  |brk=>exact q3
  |ret v=>exact q3
 |false =>
  rw[if_neg aam]
  exact adk ⟨σ1,H2,I2,q2⟩
end
structure It where
 go:Nat->Hp->Prop
 Lb:Nat->Hp->V->Hp->Prop
 stop:Nat->Hp->Prop
def j5(X:Cx)(pins:List (Addr×Obj))(H:Hp)(b:Addr):Prop :=
 H b=none/\b≠X.env.locals/\b∉X.fs/\(b∈X.ex\/X.s₀.heap.objs.size<=b)/\(∀x c,X.env.cells.lookup x=some c->c≠b)/\∀p∈X.pn++pins,p.1≠b
theorem Inv.lq(I:Inv X pins σ H s)(hb:s.heap.objs.size<=b)(hn:H' b=none):j5 X pins H' b:=by
 refine⟨hn,acs (aal I.lt hb),I.G5 hb,.inr (aas I.sz hb),λx c e z=>?_,λp hp z=>?_⟩
 ·obtain⟨v,q⟩:=I.cell x c e
  exact absurd (aal q.lt (by rw[z];exact hb)) (abh _)
 ·exact absurd (aal (lt_size (I.pin p hp).1) (by rw[z];exact hb)) (abh _)
structure Turn(P:Program)(w:World)(K:PySem.W.Frag)(tg:Expr)(J:It)(fp:List Addr)(it:Addr)(tn:Nat->Heap->Prop):Prop where
 mem:it∈fp
 obj:∀i h,tn i h->∀b∈fp,∃o,h.get? b=some o/\∀v,o.data≠.cell v
 keep:∀i h h',tn i h->(∀b∈fp,∀o,h.get? b=some o->h'.get? b=some o)->tn i h'
 item:∀(X:Cx),X.prog=P->X.w=w->X.K=K->X.calm=true->∀(i:Nat)(pins:List (Addr×Obj))(s:Shared)(σ:St)(H:Hp)(E:Value->Shared->Prop),Inv X pins σ H s->(∀b∈fp,j5 X pins H b)->tn i s.heap->J.go i H ->
  wpAny (model P w) X.A (pyNext (.ref it)) (λr s1=>∃u,r=some u /\
   wpAny (model P w) X.A (letOwnedTupleGo tg (.ref it) u) (λ_ s2=>∃x H',Inv X pins σ H' s2/\RelV x u/\J.Lb i H x H'/\tn (i+1) s2.heap/\∀b∈fp,H' b=none) E s1) E s
 done:∀(X:Cx),X.prog=P->X.w=w->X.K=K->X.calm=true->∀(i:Nat)(pins:List (Addr×Obj))(s:Shared)(σ:St)(H:Hp)(E:Value->Shared->Prop),Inv X pins σ H s->(∀b∈fp,j5 X pins H b)->tn i s.heap->J.stop i H ->
  wpAny (model P w) X.A (pyNext (.ref it)) (λr s1=>r=none/\Inv X pins σ H s1) E s
 self:∀(A:Around)(i:Nat)(s:Shared)(Q:Value->Shared->Prop)(E:Value->Shared->Prop),tn i s.heap->Q (.ref it) s->wpAny (model P w) A (pyIter (.ref it)) Q E s
abbrev TI:=St->Hp->(It->Hp->Prop)->Prop
def PIE(X:Cx)(pins:List (Addr×Obj))(σ:St)(tg:Expr)(R:It->Hp->Prop)(itv:Value)(s2:Shared):Prop :=
 ∃(it:Addr)(fp:List Addr)(tn:Nat->Heap->Prop)(J:It)(H':Hp),itv=.ref it/\Inv X pins σ H' s2/\Turn X.prog X.w X.K tg J fp it tn/\tn 0 s2.heap/\(∀b∈fp,j5 X pins H' b)/\R J H'
def PI(X:Cx)(tg iter:Expr)(wi:TI):Prop :=
 ∀(pins:List (Addr×Obj))(s:Shared)(σ:St)(H:Hp)(R:It->Hp->Prop),Inv X pins σ H s->wi σ H R ->
  wpAny (model X.prog X.w) X.A (eval iter X.env) (λv s1=>wpAny (model X.prog X.w) X.A (pyIter v) (PIE X pins σ tg R) X.xe s1) X.xe s
theorem Ld{s:Shared}{Q:Unit->Shared->Prop}(ho:s.heap.get? it=some o)(hc:o.cls=.type n)(hd:o.data=.fields vs)(hn:["enumerate","zip","dict_itemiterator","dict_reverseitemiterator","odict_iterator","itertools.zip_longest","itertools.pairwise"].contains n=false)(hQ:Q () s):wpAny M A (letOwnedTupleGo tg (.ref it) u) Q E s:=by
 unfold letOwnedTupleGo
 cases tg<;>first
  |exact aae hQ
  | (cases u<;>first
    |exact aae hQ
    | (refine aac (wpAny_load ho ?_)
       rw[hc,hd]
       show wpAny M A (if(["enumerate","zip","dict_itemiterator","dict_reverseitemiterator","odict_iterator","itertools.zip_longest","itertools.pairwise"].contains n&&vs[0]?==some (rawInt _))=true then _ else _) Q E s
       rw[if_neg (by intro h;rw[hn,Bool.false_and] at h;cases h)]
       exact aae hQ))
def Lf(K:PySem.W.Frag)(a:Addr):It :=
 ⟨λi H=>∃xs x,bw K H a xs/\xs[i]?=some x,λi H x H'=>H'=H/\∀xs,bw K H a xs->xs[i]?=some x,λi H=>∃xs,bw K H a xs/\xs.length<=i⟩
def XH(K:PySem.W.Frag)(a:Addr):It :=
 ⟨λi H=>∃xs x,jV K H a xs/\xs[i]?=some x,λi H x H'=>H'=H/\∀xs,jV K H a xs->xs[i]?=some x,λi H=>∃xs,jV K H a xs/\xs.length<=i⟩
def Tw(lo:Int)(n:Nat):It:=⟨λi _=>i<n,λi H x H'=>H'=H/\x=.int (lo+i),λi _=>n<=i⟩
theorem zNc{P:Program}{w:World}{K:PySem.W.Frag}{tg:Expr}(a it:Addr):Turn P w K tg (Lf K a) [it] it (λi h=>h.IsListIter it a i) where
 mem:=by simp
 obj:=λi h st b hb=>by
  have e:b=it:=by simpa using hb
  subst e
  obtain⟨o,e,c,d⟩:=st
  exact⟨o,e,λv z=>by rw[d] at z;cases z⟩
 keep:=λi h h' st k=>st.at λo e=>k it (by simp) o e
 item:=by
  intro X hP hw hK hc i pins s σ H E I hf st hg
  subst hP hw hK
  obtain⟨xs,x,hq,hx⟩:=hg
  obtain⟨its,rv,p,hz⟩:=I.list hq
  obtain⟨u,hu,ru⟩:=rv.get hx
  obtain⟨f0,f1,f2,f3,f4,f5⟩:=hf it (by simp)
  refine wpAny_pyNext_list_item st p.isList (x:=u) (by simpa using hu) λh' st' sb=>?_
  have I1:Inv X pins σ H { s with heap:=h' }:=I.turned (t':=s.toks) (λb o hb e=>(sb.2 b hb).trans e) f0 f1 f3 f4 f5
  obtain⟨o,e,c,d⟩:=id st'
  exact⟨u,rfl,Ld (s:={ s with heap:=h' }) e c d (by decide) ⟨x,H,I1,ru,⟨rfl,λys hy=>by rw[I.kZ hy hq];exact hx⟩,st',λb hb=>(hf b hb).1⟩⟩
 done:=by
  intro X hP hw hK hc i pins s σ H E I hf st hg
  subst hP hw hK
  obtain⟨xs,hq,hx⟩:=hg
  obtain⟨its,rv,p,hz⟩:=I.list hq
  obtain⟨f0,f1,f2,f3,f4,f5⟩:=hf it (by simp)
  have hl:=rv.length
  exact wpAny_pyNext_list_end (I.ok.hd hc) st p.isList (by simp;omega) λh' eb=>⟨rfl,I.turned (t':=s.toks) (λb o hb e=>eb b o hb e) f0 f1 f3 f4 f5⟩
 self:=λ_ _ _ _ _ st h=>wpAny_pyIter_listiter st h
theorem zLh{P:Program}{w:World}{K:PySem.W.Frag}{tg:Expr}(a it:Addr):Turn P w K tg (XH K a) [it] it (λi h=>h.IsTupleIter it a i) where
 mem:=by simp
 obj:=λi h st b hb=>by
  have e:b=it:=by simpa using hb
  subst e
  obtain⟨o,e,c,d⟩:=st
  exact⟨o,e,λv z=>by rw[d] at z;cases z⟩
 keep:=λi h h' st k=>st.at λo e=>k it (by simp) o e
 item:=by
  intro X hP hw hK hc i pins s σ H E I hf st hg
  subst hP hw hK
  obtain⟨xs,x,hq,hx⟩:=hg
  obtain⟨its,rv,p,hz⟩:=I.tuple hq
  obtain⟨u,hu,ru⟩:=rv.get hx
  obtain⟨f0,f1,f2,f3,f4,f5⟩:=hf it (by simp)
  refine wpAny_pyNext_tuple_item st (show s.heap.IsTuple a its.toArray from p) (x:=u) (by simpa using hu) λh' st' sb=>?_
  have I1:Inv X pins σ H { s with heap:=h' }:=I.turned (t':=s.toks) (λb o hb e=>(sb.2 b hb).trans e) f0 f1 f3 f4 f5
  obtain⟨o,e,c,d⟩:=id st'
  exact⟨u,rfl,Ld (s:={ s with heap:=h' }) e c d (by decide) ⟨x,H,I1,ru,⟨rfl,λys hy=>by rw[I.rQ hy hq];exact hx⟩,st',λb hb=>(hf b hb).1⟩⟩
 done:=by
  intro X hP hw hK hc i pins s σ H E I hf st hg
  subst hP hw hK
  obtain⟨xs,hq,hx⟩:=hg
  obtain⟨its,rv,p,hz⟩:=I.tuple hq
  obtain⟨f0,f1,f2,f3,f4,f5⟩:=hf it (by simp)
  have hl:=rv.length
  exact wpAny_pyNext_tuple_end (I.ok.hd hc) st (show s.heap.IsTuple a its.toArray from p) (by simp;omega) λh' eb=>⟨rfl,I.turned (t':=s.toks) (λb o hb e=>eb b o hb e) f0 f1 f3 f4 f5⟩
 self:=λ_ _ _ _ _ st h=>wpAny_pyIter_tupleiter st h
theorem zLi{P:Program}{w:World}{K:PySem.W.Frag}{tg:Expr}(it:Addr)(lo:Int)(n:Nat):Turn P w K tg (Tw lo n) [it] it (λi h=>IsRangeIter h it (lo+(i:Nat)*1) ((n:Int)-(i:Nat)) 1) where
 mem:=by simp
 obj:=λi h st b hb=>by
  have e:b=it:=by simpa using hb
  subst e
  exact⟨_,st,λv z=>by
   have z':aes _=Data.cell v:=z
   cases z'⟩
 keep:=λi h h' st k=>k it (by simp) _ st
 item:=by
  intro X hP hw hK hc i pins s σ H E I hf st hg
  subst hP hw hK
  obtain⟨f0,f1,f2,f3,f4,f5⟩:=hf it (by simp)
  have W:=Walks.range (prog:=X.prog) (w:=X.w) (I.ok.hd hc) it lo 1 n
  refine W.item i s _ _ hg st λv h' tk hv st' kk=>?_
  obtain⟨t,rfl⟩:=hv
  have I1:Inv X pins σ H { s with heap:=h',toks:=tk }:=I.turned (λb o hb e=>kk b o (by simpa using hb) e) f0 f1 f3 f4 f5
  refine⟨_,rfl,Ld (s:={ s with heap:=h',toks:=tk }) (n:="range_iterator") st' rfl rfl (by decide) ⟨.int (lo+i),H,I1,⟨t,?_⟩,⟨rfl,rfl⟩,st',λb hb=>(hf b hb).1⟩⟩
  rw[Int.mul_one]
 done:=by
  intro X hP hw hK hc i pins s σ H E I hf st hg
  subst hP hw hK
  obtain⟨f0,f1,f2,f3,f4,f5⟩:=hf it (by simp)
  exact wpAny_pyNext_range_end (I.ok.hd hc) st (by have:n<=i:=hg;omega) λh' eb=>⟨rfl,I.turned (t':=s.toks) (λb o hb e=>eb b o hb e) f0 f1 f3 f4 f5⟩
 self:=λ_ _ _ _ _ st h=>wpAny_pyIter_rangeiter st h
section
variable{X:Cx}{tg:Expr}
def uw(K:PySem.W.Frag)(tl:TE):TI:=λσ H R=>tl σ H λx H1=>∃a,x=.ref a/\(∃xs,bw K H1 a xs)/\R (Lf K a) H1
def Hq(K:PySem.W.Frag)(tl:TE):TI:=λσ H R=>tl σ H λx H1=>∃a,x=.ref a/\(∃xs,jV K H1 a xs)/\R (XH K a) H1
theorem Tz(hl:PE X l tl):PI X tg l (uw X.K tl):=by
 intro pins s σ H R I h
 refine aN (hl pins s σ H _ I h) λv s1 ⟨x,H1,I1,r1,q1⟩=>?_
 obtain⟨a,e,⟨xs,hq⟩,q⟩:=q1
 subst e
 cases r1
 obtain⟨its,rv,p,hz⟩:=I1.list hq
 refine adb p.isList ?_
 refine⟨s1.heap.objs.size,[s1.heap.objs.size],_,_,H1,rfl,I1.kept (t':=s1.toks) λb o e=>get?_push_of_some _ e,zNc a _,⟨_,get?_push_size _ rfl,rfl,rfl⟩,λb hb=>?_,q⟩
 have e:b=s1.heap.objs.size:=by simpa using hb
 subst e
 exact I1.lq (aaf _) (I1.hok.fresh (aaf _))
theorem Hr(hl:PE X l tl):PI X tg l (Hq X.K tl):=by
 intro pins s σ H R I h
 refine aN (hl pins s σ H _ I h) λv s1 ⟨x,H1,I1,r1,q1⟩=>?_
 obtain⟨a,e,⟨xs,hq⟩,q⟩:=q1
 subst e
 cases r1
 obtain⟨its,rv,p,hz⟩:=I1.tuple hq
 refine wpAny_pyIter_tuple (show s1.heap.IsTuple a its.toArray from p) ?_
 refine⟨s1.heap.objs.size,[s1.heap.objs.size],_,_,H1,rfl,I1.kept (t':=s1.toks) λb o e=>get?_push_of_some _ e,zLh a _,⟨_,get?_push_size _ rfl,rfl,rfl⟩,λb hb=>?_,q⟩
 have e:b=s1.heap.objs.size:=by simpa using hb
 subst e
 exact I1.lq (aaf _) (I1.hok.fresh (aaf _))
theorem zQ9{pins:List (Addr×Obj)}{σ:St}{H:Hp}{s:Shared}{R:It->Hp->Prop}{E:Value->Shared->Prop}{lo hi:Int}{t u v:Tok}{tk:Nat}(I:Inv X pins σ H s)(h1:-(2^62)<=lo)(h2:lo<2^62)(h3:-(2^62)<=hi)(h4:hi<2^62)(q:R (Tw lo (hi-lo).toNat) H):wpAny (model X.prog X.w) X.A (pyIter (.ref s.heap.objs.size)) (PIE X pins σ tg R) E { s with heap:=s.heap.push { cls:=.type "range",data:=.fields #[.int lo t,.int hi u,.int 1 v] },toks:=tk }:=by
 refine wpAny_pyIter_range (IsRange.new ..) (small_one h1 h2 h3 h4) ?_
 have I1:Inv X pins σ H { s with heap:=s.heap.push { cls:=.type "range",data:=.fields #[.int lo t,.int hi u,.int 1 v] },toks:=tk }:=I.kept λb o e=>get?_push_of_some _ e
 refine⟨(s.heap.push { cls:=.type "range",data:=.fields #[.int lo t,.int hi u,.int 1 v] }).objs.size,[(s.heap.push { cls:=.type "range",data:=.fields #[.int lo t,.int hi u,.int 1 v] }).objs.size],_,_,H,rfl,
  I1.kept (t':=tk) λb o e=>get?_push_of_some _ e,zLi _ lo (hi-lo).toNat,?_,λb hb=>?_,q⟩
 ·have e1:lo+((0:Nat):Int)*1=lo:=by simp
  have e2:(((hi-lo).toNat:Nat):Int)-((0:Nat):Int)=Builtin.Range.rangeSize lo hi 1:=by rw[rangeSize_one];split<;>omega
  show IsRangeIter _ _ (lo+((0:Nat):Int)*1) ((((hi-lo).toNat:Nat):Int)-((0:Nat):Int)) 1
  rw[e1,e2]
  exact get?_push_size _ rfl
 ·have e:b=(s.heap.push { cls:=.type "range",data:=.fields #[.int lo t,.int hi u,.int 1 v] }).objs.size:=by simpa using hb
  subst e
  exact I1.lq (aaf _) (I1.hok.fresh (aaf _))
def Fb(ta:TA):TI:=λσ H R=>ta σ H λvs H1=>∃j:Int,vs=[.int j] /\ -(2^62)<=j/\j<2^62/\R (Tw 0 j.toNat) H1
theorem yR(hg:Gl X "range")(hm:X.mg "range" = none)(ha:PA X [a] ta)(hs:starEach [a] X.env=[(false,eval a X.env)]:=by rfl):PI X tg (.Call (.Name "range" p) [a] [] pos) (Fb ta):=by
 intro pins s σ H R I h
 refine Call_ (zy I hg hm boot_range (aa4 (aN (ha pos pins s σ H _ I h) λus s1 ⟨vs,H1,I1,r1,q1⟩=>?_) hs rfl))
 obtain⟨j,e,q1,q2,q⟩:=q1
 subst e
 cases r1 with
 |cons r rr =>
  cases rr
  obtain⟨t,rfl⟩:=r
  exact call_range_1 (zQ9 I1 (by omega) (by omega) q1 q2 (by simpa using q))
def Hs(wi:TI)(g:TG)(tb:TS):TS:=λD σ H=>wi σ H λJ H1=>∃W:Nat->Nat->St->Hp->Prop,(∃m,W 0 m σ H1)/\∀i m σ H,W i m σ H ->
 (J.stop i H/\D.nx σ H)\/(J.go i H/\∃N:St->Hp->Prop,(∀σ' H',N σ' H'->∃m',m'<m/\W (i+1) m' σ' H')/\∀x H',J.Lb i H x H'->g x σ H' λσ2 H2=>tb { D with nx:=N,ct:=N,bk:=D.nx } σ2 H2)
def Ht(fp:List Addr)(h:Heap):List (Addr×Obj):=fp.filterMap λb=>(h.get? b).map λo=>(b,o)
theorem uC{h:Heap}(hb:b∈fp)(e:h.get? b=some o):(b,o)∈Ht fp h:=List.mem_filterMap.mpr ⟨b,hb,by rw[e];rfl⟩
theorem zOp(hp:p∈Ht fp h):p.1∈fp/\h.get? p.1=some p.2:=by
 obtain⟨b,hb,e⟩:=List.mem_filterMap.mp hp
 cases q:h.get? b with
 |none=>rw[q] at e;cases e
 |some o =>
  rw[q] at e
  have e':(b,o)=p:=aai e
  subst e'
  exact⟨hb,q⟩
theorem Inv.pinned(I:Inv X pins σ H s)(hf:∀b∈fp,j5 X pins H b)(ho:∀b∈fp,∃o,s.heap.get? b=some o/\∀v,o.data≠.cell v):Inv X (pins++Ht fp s.heap) σ H s :=
 I.ji λp hp=>(mem_append.mp hp).elim (λz=>I.pin p (mem_append_right _ z)) λz=>by
  obtain⟨hb,e⟩:=zOp z
  obtain⟨f0,f1,f2,_⟩:=hf p.1 hb
  obtain⟨o,e',d⟩:=ho p.1 hb
  rw[e] at e';cases e'
  exact⟨e,f0,f1,f2,d⟩
theorem Inv.gA(I:Inv X (pins++pl) σ H s):Inv X pins σ H s:=I.ji λp hp=>I.pin p (mem_append_right _ (mem_append_left _ hp))
theorem xB(hp:PassesOwn (model X.prog X.w) X.A X.env X.xe)(hc:X.calm=true)(hi:PI X tg iter wi)(hg:PG X tg g)(hb:pJ X body tb)(hs:∀x,foldedSetIterable iter X.env x=pure x:=by intro _;rfl):PS X (.For tg iter body [] pos) (Hs wi g tb):=by
 intro pins s σ H D I h
 refine wpAny_For (aN (hi pins s σ H _ I h) λv s1 h1=>aN h1 λitv s2 h2=>?_) hs
 obtain⟨it,fp,tn,J,H2,e,I2,T,st2,f2,W,⟨m0,w0⟩,turn⟩:=h2
 subst e
 have stat:∀{H':Hp},(∀b∈fp,H' b=none)->∀b∈fp,j5 X pins H' b:=λhn b hb=>⟨hn b hb,(f2 b hb).2⟩
 refine codeAny_forLoop_any (λn s'=>∃i σ' H',Inv X pins σ' H' s'/\tn i s'.heap/\(∀b∈fp,H' b=none)/\W i n σ' H') ?_ m0 ⟨0,σ,H2,I2,st2,λb hb=>(f2 b hb).1,w0⟩
 rintro n s3 ⟨i,σ3,H3,I3,st3,QV,w3⟩
 rcases turn i n σ3 H3 w3 with⟨stop,qn⟩|⟨go,N,hN,step⟩
 ·refine ab0 hp (aN (T.done X rfl rfl rfl hc i pins s3 σ3 H3 X.xe I3 (stat QV) st3 stop) λr s4 ⟨hr,I4⟩=>?_)
  subst hr
  exact adk ⟨σ3,H3,I4,qn⟩
 ·refine ab0 hp (aN (T.item X rfl rfl rfl hc i pins s3 σ3 H3 X.xe I3 (stat QV) st3 go) λr s4 ⟨u,hr,h4⟩=>?_)
  subst hr
  refine ab0 hp (aN h4 λ_ s5 ⟨x,H5,I5,r5,y5,TF,fr5⟩=>?_)
  have I5':=I5.pinned (stat fr5) (T.obj _ _ TF)
  refine ab0 hp (aN (hg _ s5 σ3 H5 x u _ I5' r5 (step x H5 y5)) λ_ s6 ⟨σ6,H6,I6,q6⟩=>?_)
  refine ab0 hp (aN (hb _ s6 σ6 H6 _ I6 q6) λf s7 q7=>?_)
  have again:∀{σ7:St}{H7:Hp},Inv X (pins++Ht fp s5.heap) σ7 H7 s7->N σ7 H7->∃m,m<n/\∃i σ' H',Inv X pins σ' H' s7/\tn i s7.heap/\(∀b∈fp,H' b=none)/\W i m σ' H':=λ{σ7 H7} I7 n7=>by
   obtain⟨m',hm,w7⟩:=hN σ7 H7 n7
   refine⟨m',hm,i+1,σ7,H7,I7.gA,T.keep _ _ _ TF λb hb o e=>(I7.pin (b,o) (mem_append_right _ (mem_append_right _ (uC hb e)))).1,λb hb=>?_,w7⟩
   obtain⟨o,e,d⟩:=T.obj _ _ TF b hb
   exact(I7.pin (b,o) (mem_append_right _ (mem_append_right _ (uC hb e)))).2.1
  cases f with
  |next=>obtain⟨σ7,H7,I7,n7⟩:=q7;exact again I7 n7
  |cont=>obtain⟨σ7,H7,I7,n7⟩:=q7;exact again I7 n7
  |brk=>obtain⟨σ7,H7,I7,q7⟩:=q7;exact⟨σ7,H7,I7.gA,q7⟩
  |ret v=>obtain⟨x7,σ7,H7,I7,r7,q7⟩:=q7;exact⟨x7,σ7,H7,I7.gA,r7,q7⟩
end
theorem zR6{K:PySem.W.Frag}{a:Addr}{xs:List V}{g:TG}{tb:TS}{D:Ends}{σ:St}{H:Hp}(Pv:Nat->St->Hp->Prop)(h0:Pv 0 σ H)(hl:∀i σ H,i<=xs.length->Pv i σ H->bw K H a xs)(hs:∀i x σ H,xs[i]?=some x->Pv i σ H->g x σ H λσ2 H2=>tb { D with nx:=Pv (i+1),ct:=Pv (i+1),bk:=D.nx } σ2 H2)(hd:∀σ H,Pv xs.length σ H->D.nx σ H) :
  ∃W:Nat->Nat->St->Hp->Prop,(∃m,W 0 m σ H)/\∀i m σ H,W i m σ H ->
   ((Lf K a).stop i H/\D.nx σ H)\/((Lf K a).go i H/\∃N:St->Hp->Prop,(∀σ' H',N σ' H'->∃m',m'<m/\W (i+1) m' σ' H')/\∀x H',(Lf K a).Lb i H x H'->g x σ H' λσ2 H2=>tb { D with nx:=N,ct:=N,bk:=D.nx } σ2 H2):=by
 refine⟨λi m σ H=>m=xs.length-i/\i<=xs.length/\Pv i σ H,⟨xs.length,by simp,aa0 _,h0⟩,?_⟩
 rintro i m σ H ⟨rfl,hi,p⟩
 have q:=hl i σ H hi p
 by_cases hlt:i<xs.length
 ·refine .inr ⟨⟨xs,xs[i],q,by simp[hlt]⟩,Pv (i+1),λσ' H' p'=>⟨xs.length-(i+1),by omega,rfl,hlt,p'⟩,λx H' y=>?_⟩
  obtain⟨e,y⟩:=y
  subst e
  exact hs i x σ _ (y xs q) p
 ·have e:i=xs.length:=by omega
  subst e
  exact .inl ⟨⟨xs,q,aaf _⟩,hd σ H p⟩
abbrev R2:=V->V->Hp->VK->Prop
def kj(X:Cx)(f:Value->Value->Sem Value)(r:R2):Prop :=
 ∀(pins:List (Addr×Obj))(s:Shared)(σ:St)(H:Hp)(x y:V)(v u:Value)(Q:VK),Inv X pins σ H s->RelV x v->RelV y u->r x y H Q ->
  wpAny (model X.prog X.w) X.A (f v u) (EP X pins σ Q) X.xe s
def TJ(X:Cx)(f:Value->Sem Value)(r:V->Hp->VK->Prop):Prop :=
 ∀(pins:List (Addr×Obj))(s:Shared)(σ:St)(H:Hp)(x:V)(v:Value)(Q:VK),Inv X pins σ H s->RelV x v->r x H Q ->
  wpAny (model X.prog X.w) X.A (f v) (EP X pins σ Q) X.xe s
def rR(X:Cx)(f:Value)(r:List V->Hp->VK->Prop):Prop :=
 ∀(pins:List (Addr×Obj))(s:Shared)(σ:St)(H:Hp)(xs:List V)(us:List Value)(Q:VK),Inv X pins σ H s->Vals xs us->r xs H Q ->
  wpAny (model X.prog X.w) X.A (call f us) (EP X pins σ Q) X.xe s
def TQ(X:Cx)(r:V->Hp->(Bool->Hp->Prop)->Prop):Prop :=
 ∀(pins:List (Addr×Obj))(s:Shared)(σ:St)(H:Hp)(x:V)(v:Value)(Q:Bool->Hp->Prop),Inv X pins σ H s->RelV x v->r x H Q ->
  wpAny (model X.prog X.w) X.A (truthy v) (TP X pins σ Q) X.xe s
def mW(r:R2)(ta tb:TE):TE:=λσ H Q=>ta σ H λx H1=>tb σ H1 λy H2=>r x y H2 Q
def XJ(r:V->Hp->VK->Prop)(ta:TE):TE:=λσ H Q=>ta σ H λx H1=>r x H1 Q
def rI(C:Int->Int->Prop)(g:Int->Int->V):R2:=λx y H Q=>∃i j,x=.int i/\y=.int j/\C i j/\Q (g i j) H
def rA(g:Int->Int->V):R2:=λx y H Q=>∃i j,x=.int i/\y=.int j/\Q (g i j) H
def rU(g:Int->V):V->Hp->VK->Prop:=λx H Q=>∃i,x=.int i/\Q (g i) H
section
variable{X:Cx}{a b c:Expr}{ta tb tc:TE}{pos:Pos}
theorem Hu(ha:PE X a ta)(hb:PE X b tb){R:V->V->Hp->Prop}(I:Inv X pins σ H s)(h:ta σ H λx H1=>tb σ H1 λy H2=>R x y H2){f:Value->Value->Sem Value}(hf:∀v u s2 x y H2,Inv X pins σ H2 s2->RelV x v->RelV y u->R x y H2->wpAny (model X.prog X.w) X.A (f v u) Q X.xe s2) :
  wpAny (model X.prog X.w) X.A (eval a X.env) (λv s₁=>wpAny (model X.prog X.w) X.A (eval b X.env) (λu s₂=>wpAny (model X.prog X.w) X.A (f v u) Q X.xe s₂) X.xe s₁) X.xe s:=by
 refine aN (ha pins s σ H _ I h) λv s1 ⟨x,H1,I1,r1,q1⟩=>?_
 refine aN (hb pins s1 σ H1 _ I1 q1) λu s2 ⟨y,H2,I2,r2,q2⟩=>?_
 exact hf v u s2 x y H2 I2 r1 r2 q2
theorem wO(ho:kj X (binaryOp op) r)(ha:PE X a ta)(hb:PE X b tb):PE X (.BinOp a op b pos) (mW r ta tb):=by
 intro pins s σ H Q I h
 exact wpAny_BinOp (Hu ha hb I h λv u s2 x y H2 I2 rx ry q=>ho pins s2 σ H2 x y v u Q I2 rx ry q)
theorem Fd(ho:TJ X (unaryOp op) r)(ha:PE X a ta):PE X (.UnaryOp op a pos) (XJ r ta):=by
 intro pins s σ H Q I h
 exact UnaryOp_ (aN (ha pins s σ H _ I h) λv s1 ⟨x,H1,I1,r1,q1⟩=>ho pins s1 σ H1 x v Q I1 r1 q1)
theorem QW{f:Value->Value->Sem Value}{C:Int->Int->Prop}{g:Int->Int->Int}(rule:∀(i j:Int) (t u:Tok) (s:Shared) (Q:Value->Shared->Prop) (E:Value->Shared->Prop),C i j->Q (.int (g i j) s.toks) { s with toks:=s.toks+1 }->wpAny (model X.prog X.w) X.A (f (.int i t) (.int j u)) Q E s) :
  kj X f (rI C λi j=>.int (g i j)):=by
 intro pins s σ H x y v u Q I rx ry h
 obtain⟨i,j,rfl,rfl,hc,q⟩:=h
 obtain⟨t,rfl⟩:=rx
 obtain⟨t',rfl⟩:=ry
 exact rule i j t t' s _ _ hc ⟨.int (g i j),H,I.tok _,⟨_,rfl⟩,q⟩
theorem Nu{f:Value->Value->Sem Value}{g:Int->Int->Int}(rule:∀(i j:Int) (t u:Tok) (s:Shared) (Q:Value->Shared->Prop) (E:Value->Shared->Prop),Q (.int (g i j) s.toks) { s with toks:=s.toks+1 }->wpAny (model X.prog X.w) X.A (f (.int i t) (.int j u)) Q E s) :
  kj X f (rA λi j=>.int (g i j)):=by
 intro pins s σ H x y v u Q I rx ry h
 obtain⟨i,j,rfl,rfl,q⟩:=h
 obtain⟨t,rfl⟩:=rx
 obtain⟨t',rfl⟩:=ry
 exact rule i j t t' s _ _ ⟨.int (g i j),H,I.tok _,⟨_,rfl⟩,q⟩
theorem Hv{f:Value->Value->Sem Value}{g:Int->Int->Bool}(rule:∀(i j:Int) (t u:Tok) (s:Shared) (Q:Value->Shared->Prop) (E:Value->Shared->Prop),Q (.bool (g i j)) s->wpAny (model X.prog X.w) X.A (f (.int i t) (.int j u)) Q E s) :
  kj X f (rA λi j=>.bl (g i j)):=by
 intro pins s σ H x y v u Q I rx ry h
 obtain⟨i,j,rfl,rfl,q⟩:=h
 obtain⟨t,rfl⟩:=rx
 obtain⟨t',rfl⟩:=ry
 exact rule i j t t' s _ _ ⟨.bl (g i j),H,I,rfl,q⟩
def Nv(i j:Int):Prop:=0<j/\j<1073741824
def Nx(i j:Int):Prop:=0<=j/\j<=1000000/\i.natAbs<2^64
theorem zLg(k:Nat):(0:Int)<=2^k:=by
 rw[two_pow_cast]
 exact abe _
theorem QX:kj X (binaryOp .Add) (rA λi j=>.int (i+j)):=Nu λ_ _ _ _ _ _ _ q=>add_int q
theorem Lg:kj X (binaryOp .FloorDiv) (rI Nv λi j=>.int (i/j)):=QW λi j _ _ _ _ _ hc q=>by
 have h1:(0:Int)<j:=hc.1
 have h2:j<1073741824:=hc.2
 exact floordiv_int (by omega) (by rw[Int.fdiv_eq_ediv_of_nonneg i (by omega)];exact q) (.inl (PyProof.noPylong_small (by omega)))
theorem Aw:kj X (binaryOp .Mod) (rI (λ_ j=>0<j) λi j=>.int (i%j)):=QW λi j _ _ _ _ _ hc q=>by
 have h1:(0:Int)<j:=hc
 exact mod_int' (by omega) (by rw[Int.fmod_eq_emod_of_nonneg i (by omega)];exact q)
theorem Hw:kj X (binaryOp .LShift) (rI Nx λi j=>.int (i*2^j.toNat)):=QW λ_ _ _ _ _ _ _ hc q=>lshift_int_small hc.1 hc.2.1 hc.2.2 q
theorem QZ:kj X (binaryOp .RShift) (rI (λ_ j=>0<=j) λi j=>.int (i/2^j.toNat)):=QW λi j _ _ _ _ _ hc q =>
 rshift_int hc (by rw[Int.fdiv_eq_ediv_of_nonneg i (zLg _)];exact q)
theorem Ny:kj X (binaryOp .BitAnd) (rA λi j=>.int (aay i j)):=Nu λ_ _ _ _ _ _ _ q=>and_int q
theorem unI{f:Value->Sem Value}{g:Int->Int}(rule:∀(i:Int) (t:Tok) (s:Shared) (Q:Value->Shared->Prop) (E:Value->Shared->Prop),Q (.int (g i) s.toks) { s with toks:=s.toks+1 }->wpAny (model X.prog X.w) X.A (f (.int i t)) Q E s) :
  TJ X f (rU λi=>.int (g i)):=by
 intro pins s σ H x v Q I rx h
 obtain⟨i,rfl,q⟩:=h
 obtain⟨t,rfl⟩:=rx
 exact rule i t s _ _ ⟨.int (g i),H,I.tok _,⟨_,rfl⟩,q⟩
theorem XM:TJ X (unaryOp .USub) (rU λi=>.int (-i)):=unI λ_ _ _ _ _ q=>neg_int q
end
section
variable{X:Cx}{a b c:Expr}{ta tb tc:TE}{pos:Pos}
theorem Hx(I:Inv X pins σ H s)(q:Q (.bl k) H)(e:k=k'):EP X pins σ Q (.bool k') s:=by
 subst e
 exact⟨.bl k,H,I,rfl,q⟩
theorem ux:kj X (compareOp .Lt) (rA λi j=>.bl (decide (i<j))):=Hv λ_ _ _ _ _ _ _ q=>lt_int q
theorem uy:kj X (compareOp .LtE) (rA λi j=>.bl (decide (i<=j))):=Hv λ_ _ _ _ _ _ _ q=>le_int q
theorem Fe:kj X (compareOp .Gt) (rA λi j=>.bl (decide (j<i))):=Hv λ_ _ _ _ _ _ _ q=>gt_int q
theorem zOc:kj X (compareOp .In) (λx y H Q=>∃i j,x=.str i/\y=.str j/\Q (.bl (!(ac3 j i 0 j.length 1).isEmpty)) H):=by
 intro pins s σ H x y v u Q I rx ry h
 obtain⟨i,j,rfl,rfl,q⟩:=h
 obtain⟨t,rfl⟩:=rx
 obtain⟨t',rfl⟩:=ry
 exact in_str (Hx I q rfl)
theorem wW(b:Expr)(h:op≠.In:=by decide)(h2:op≠.NotIn:=by decide):behindInMarks op b=false:=by
 have e1:(op==CmpOp.In)=false:=by cases op<;>first|rfl|exact absurd rfl h
 have e2:(op==CmpOp.NotIn)=false:=by cases op<;>first|rfl|exact absurd rfl h2
 cases b<;>simp[behindInMarks,e1,e2]
theorem Nz(ho:kj X (compareOp op) r)(ha:PE X a ta)(hb:PE X b tb)(hm:behindInMarks op b=false):PE X (.Compare a [op] [b] pos) (mW r ta tb):=by
 intro pins s σ H Q I h
 exact wpAny_Compare1 (Hu ha hb I h λv u s2 x y H2 I2 rx ry q=>ho pins s2 σ H2 x y v u Q I2 rx ry q) hm
def Fg(t:TE):TT:=λσ H Q=>t σ H λx H'=>∃k,x=.bl k/\Q k H'
theorem yV(ho:kj X (compareOp op) r)(ha:PE X a ta)(hb:PE X b tb)(hm:behindInMarks op b=false):PT X (.Compare a [op] [b] pos) (Fg (mW r ta tb)):=by
 intro pins s σ H Q I h
 refine wpAny_isTrue_Compare1 (aN (ha pins s σ H _ I h) λv s1 ⟨x,H1,I1,r1,q1⟩=>aN (hb pins s1 σ H1 _ I1 q1) λu s2 ⟨y,H2,I2,r2,q2⟩ =>
  aN (ho pins s2 σ H2 x y v u _ I2 r1 r2 q2) λc s3 ⟨z,H3,I3,r3,k,e,q3⟩=>?_) hm
 subst e
 cases r3
 exact abk ⟨H3,I3,q3⟩
def XQ(r r':R2)(ta tb tc:TE):TE:=λσ H Q=>ta σ H λx H1=>tb σ H1 λy H2=>r x y H2 λz H3=>∃k,z=.bl k /\
 (if k=true then tc σ H3 λw' H4=>r' y w' H4 Q else Q (.bl false) H3)
theorem XR(ho:kj X (compareOp op) r)(ho':kj X (compareOp op') r')(ha:PE X a ta)(hb:PE X b tb)(hc:PE X c tc)(hm:lastMarks [op,op'] [b,c]=false:=by with_unfolding_all rfl):PE X (.Compare a [op,op'] [b,c] pos) (XQ r r' ta tb tc):=by
 intro pins s σ H Q I h
 refine Compare_chain (aN (ha pins s σ H _ I h) λv s1 ⟨x,H1,I1,r1,q1⟩=>chain_link (aN (hb pins s1 σ H1 _ I1 q1) λu s2 ⟨y,H2,I2,r2,q2⟩ =>
  aN (ho pins s2 σ H2 x y v u _ I2 r1 r2 q2) λd s3 ⟨z,H3,I3,r3,k,e,q3⟩=>?_)) hm
 subst e
 cases r3
 refine abk ?_
 cases k with
 |false=>exact ite_ff ⟨.bl false,H3,I3,rfl,q3⟩
 |true=>exact ite_tt (chain_last (aN (hc pins s3 σ H3 _ I3 q3) λw' s4 ⟨z',H4,I4,r4,q4⟩=>ho' pins s4 σ H4 y z' u w' Q I4 r2 r4 q4))
def Ax(K:PySem.W.Frag)(x:V)(H:Hp)(k:Bool):Prop :=
 match x with
 |.non=>k=false
 |.bl b=>k=b
 |.int i=>k=(i != 0)
 |.str y=>y.length<=sizeLine/\k=((y.length:Int) != 0)
 |.Ah y=>y.size<=sizeLine/\k=((y.size:Int) != 0)
 |.ref p=>(∃xs,bw K H p xs/\k=!xs.isEmpty)\/(∃xs,jV K H p xs/\k=!xs.isEmpty)\/∃kvs,H p=some (.dK kvs)/\k=!kvs.isEmpty
 |_=>False
theorem zMb{κ:Type}{kvs:List (κ×V)}{vs:List (κ×Value)}(r:KV kvs vs):(!vs.isEmpty)=!kvs.isEmpty:=by
 cases r<;>rfl
theorem XS(r:Vals xs its):(!its.toArray.isEmpty)=!xs.isEmpty:=by
 cases r<;>simp
theorem Lh:(sizeLine:Nat)<2^63:=by rw[aeb];decide
theorem Hy:TQ X (λx H Q=>∃k,Ax X.K x H k/\Q k H):=by
 intro pins s σ H x v Q I rx h
 obtain⟨k,e,q⟩:=h
 have hl:=Lh
 have hs:sizeLine=16777216:=aeb
 cases x with
 |non =>
  cases rx
  have e':k=false:=e
  subst e'
  exact truthy_none ⟨H,I,q⟩
 |bl b =>
  cases rx
  have e':k=b:=e
  subst e'
  exact abk ⟨H,I,q⟩
 |int i =>
  obtain⟨t,rfl⟩:=rx
  have e':k=(i != 0):=e
  subst e'
  exact PySem.P.truthy_int ⟨H,I,q⟩
 |str y =>
  obtain⟨t,rfl⟩:=rx
  obtain⟨hy,e'⟩:y.length<=sizeLine/\k=((y.length:Int) != 0):=e
  subst e'
  exact PySem.P.truthy_str (by omega) ⟨H,I.tok _,q⟩
 |Ah y =>
  obtain⟨t,rfl⟩:=rx
  obtain⟨hy,e'⟩:y.size<=sizeLine/\k=((y.size:Int) != 0):=e
  subst e'
  exact PySem.W.truthy_bytes (by omega) ⟨H,I.tok _,q⟩
 |ref p =>
  cases rx
  have e':(∃xs,bw X.K H p xs/\k=!xs.isEmpty)\/(∃xs,jV X.K H p xs/\k=!xs.isEmpty)\/∃kvs,H p=some (.dK kvs)/\k=!kvs.isEmpty:=e
  rcases e' with⟨xs,hx,e'⟩|⟨xs,hx,e'⟩|⟨kvs,hx,e'⟩
  ·subst e'
   obtain⟨its,r,pl,hz⟩:=I.list hx
   have hlen:=r.length
   exact wpAny_truthy_list pl.isList (by simp only[size_toArray];omega) ⟨H,I.tok _,by rw[XS r];exact q⟩
  ·subst e'
   obtain⟨its,r,pl,hz⟩:=I.tuple hx
   have hlen:=r.length
   exact truthy_tuple pl (by simp only[size_toArray];omega) ⟨H,I.tok _,by rw[XS r];exact q⟩
  ·subst e'
   obtain⟨hz,hS,vs,r,m⟩:kvs.length<=sizeLine/\(p==sysModules)=false/\∃vs,KV kvs vs/\s.heap.DictOf (wX X.prog X.w) p vs:=I.hok p _ hx
   have hlen:kvs.length=vs.length:=adz r
   exact wpAny_truthy_dict hS m (by omega) ⟨H,I.tok _,by rw[zMb r];exact q⟩
 |_=>exact(show False from e).elim
theorem zRb(ha:PE X a ta)(he:∀whole,isTrue a X.env whole=(do let v <-whole;standAt a.pos;holding [v] (truthy v))) :
  PT X a (λσ H Q=>ta σ H λx H'=>∃k,Ax X.K x H' k/\Q k H'):=by
 intro pins s σ H Q I h
 exact isTrue_plain (aN (ha pins s σ H _ I h) λv s1 ⟨x,H1,I1,r1,q1⟩=>Hy pins s1 σ H1 x v Q I1 r1 q1) (he _)
theorem Li(r:Vals [x] us):∃u,us=[u]/\RelV x u:=by
 cases r with
 |cons r1 r2=>cases r2;exact⟨_,rfl,r1⟩
theorem vals2(r:Vals [x,y] us):∃u w',us=[u,w']/\RelV x u/\RelV y w':=by
 cases r with
 |cons r1 r2 =>
  cases r2 with
  |cons r3 r4=>cases r4;exact⟨_,_,rfl,r1,r3⟩
def TV(K:PySem.W.Frag)(x:V)(H:Hp)(n:Nat):Prop :=
 match x with
 |.str y=>y.length<=sizeLine/\n=y.length
 |.Ah y=>y.size<=sizeLine/\n=y.size
 |.ref p=>(∃xs,bw K H p xs/\n=xs.length)\/∃xs,jV K H p xs/\n=xs.length
 |_=>False
theorem zSh:rR X (.builtin "len") (λxs H Q=>∃x n,xs=[x]/\TV X.K x H n/\Q (.int n) H):=by
 intro pins s σ H xs us Q I r h
 obtain⟨x,n,rfl,e,q⟩:=h
 obtain⟨u,rfl,rx⟩:=Li r
 have hl:=Lh
 have hs:sizeLine=16777216:=aeb
 cases x with
 |str y =>
  obtain⟨t,rfl⟩:=rx
  obtain⟨hy,e'⟩:y.length<=sizeLine/\n=y.length:=e
  subst e'
  exact len_str (by omega) ⟨.int _,H,I.tok _,⟨_,rfl⟩,q⟩
 |Ah y =>
  obtain⟨t,rfl⟩:=rx
  obtain⟨hy,e'⟩:y.size<=sizeLine/\n=y.size:=e
  subst e'
  exact PySem.W.len_bytes (by omega) ⟨.int _,H,I.tok _,⟨_,rfl⟩,q⟩
 |ref p =>
  cases rx
  have e':(∃xs,bw X.K H p xs/\n=xs.length)\/∃xs,jV X.K H p xs/\n=xs.length:=e
  rcases e' with⟨xs,hx,e'⟩|⟨xs,hx,e'⟩
  ·subst e'
   obtain⟨its,r',pl,hz⟩:=I.list hx
   have hlen:=r'.length
   exact Calls.call_len_list pl.isList (by simp only[size_toArray];omega) ⟨.int xs.length,H,I.tok _,⟨_,by simp only[size_toArray];rw[hlen]⟩,q⟩
  ·subst e'
   obtain⟨its,r',pl,hz⟩:=I.tuple hx
   have hlen:=r'.length
   exact len_tuple pl (by simp only[size_toArray];omega) ⟨.int xs.length,H,I.tok _,⟨_,by simp only[size_toArray];rw[hlen]⟩,q⟩
 |_=>exact(show False from e).elim
end
structure qz(h:Heap)(x dx C:Addr)(mA:Str->Option Value):Prop where
 obj:h.get? x=some (instObj C dx)
 ns:h.Ns1 dx mA
 ne:dx≠x
theorem zOw{h:Heap}(n:h.Ns1 dx mA):∃od,h.get? dx=some od/\∀name,lookIn name od=some (mA name):=by
 obtain⟨o,es,ep,ho,hd,hk,_,hm⟩:=n
 refine⟨o,ho,λname=>?_⟩
 have e:=hm name
 unfold nsFind findBy at e
 rw[<-Array.find?_toList] at e
 unfold lookIn
 rw[hd]
 dsimp only
 split
 ·rename_i y q
  rw[q] at e
  exact congrArg some e
 ·rename_i q
  rw[q] at e
  have a:es.toList.any (·.refKey)=false:=by
   rw[any_eq_false]
   intro y hy
   obtain⟨z,t,hkey⟩:=hk y (Array.mem_toList_iff.mp hy)
   simp[DictEntry.refKey,hkey]
  have a':¬es.toList.any (·.refKey)=true:=by rw[a];exact aam
  rw[if_neg a']
  exact congrArg some e
theorem qz.look(I:qz h x dx C mA):∃od,PySem.W.InstAt h x (instObj C dx) C (some od)/\∀name,lookIn name od=some (mA name) :=
 let⟨od,ho,hl⟩:=zOw I.ns
 ⟨od,⟨I.obj,rfl,rfl,ho⟩,hl⟩
section
variable{prog:Program}{w:World}{A:Around}{E:Value->Shared->Prop}{s:Shared}{K:PySem.W.Frag}{x dx C f:Addr}{mA:Str->Option Value}{name:Str}{v:Value}
theorem get_map{Q:Value->Shared->Prop}(X:K.In s.heap)(I:qz s.heap x dx C mA)(hg:plainGet K C name=true)(hh:hasDictIn K C=true)(ha:findIn K (.ref C) name=some none)(hv:mA name=some v)(hv':PySem.W.handedIn v=true)(h:Q v { s with toks:=s.toks+1 }) :
  wpAny (model prog w) A (getAttr (.ref x) name expr) Q E s:=by
 obtain⟨od,J,hl⟩:=I.look
 exact PySem.W.get_value X J (ad9 hg).1 (PySem.W.findObj_own hh ha rfl (by rw[hl,hv])) hv' h
theorem zR5{Q:Value×List Value->Shared->Prop}(X:K.In s.heap)(I:qz s.heap x dx C mA)(hg:plainGet K C name=true)(hf:findIn K (.ref C) name=some (some (.ref f)))(ht:isFn K (.ref f)=true)(hv:mA name=none)(h:Q (.ref f,[.ref x]) s) :
  wpAny (model prog w) A (getMethod (.ref x) name pl) Q E s:=by
 obtain⟨od,J,hl⟩:=I.look
 exact PySem.W.method_fn X J (ad9 hg).1 (ad9 hg).2 hf (beq_iff_eq.mp ht) (by show(lookIn name od).map (·.isSome)=some false;rw[hl,hv];rfl) h
theorem Ay{Q:Unit->Shared->Prop}(X:K.In s.heap)(I:qz s.heap x dx C mA)(hs:findIn K (.ref C) "__setattr__" = some (some (.builtin "object.__setattr__")))(hp:PySem.W.plainOver K C=true)(ht:takerIn K C name=some none)(hh:hasDictIn K C=true)(hw:aeo mA ns)(hsz:ns.length<=sizeLine)(h:∀h',qz h' x dx C (λy=>if y=name then some v else mA y)->SameBut dx s.heap h'->Q () { s with heap:=h',toks:=s.toks+2 }) :
  wpAny (model prog w) A (setAttr (.ref x) name v) Q E s:=by
 obtain⟨od,J,hl⟩:=I.look
 refine PySem.W.set_plain X J hs (PySem.W.osa_open (s:={ s with toks:=s.toks+1 }) (r:=none) X J hp ht λb=>?_)
 obtain⟨cd,hc,hd'⟩:=PySem.W.any_some hh
 have hx:s.heap.get? x=some ⟨.ref C,some dx,.plain,#[]⟩:=I.obj
 refine aac (aae (aac (aac (wpAny_loadPart hx (aac (PySem.W.Looks.here (s:={ s with toks:=s.toks+1 }) (PySem.W.looks_clsIn X hc) ?_))))))
 rw[hd']
 refine aae (a:=some dx) (aac (aae (aac ?_)))
 refine wpAny_nsSet1 (s:={ s with toks:=s.toks+1 }) I.ns λh' hn2 hs2=>?_
 obtain⟨oD,esD,epD,hoD,hdD,hcD⟩:=hn2.count (PySem.Within.cons name v hw)
 refine aac (wpAny_lookBehind hoD (by rw[hdD];exact pastItsLine_dict (aas hcD (by rw[length_cons];omega))) ?_)
 exact aae (h _ ⟨(hs2.2 _ (ab8 I.ne)).trans I.obj,hn2,I.ne⟩ hs2)
theorem zRv(X:K.In s.heap)(hm:PySem.W.makesIn K C=true)(hi:findIn K (.ref C) "__init__" = some (some (.ref f)))(hf:typeIn K (.ref f)=some (.type "function"))(h:codeAny (model prog w) (A.under (.builtin "type.__call__" ⟨.ref C::vs,kw⟩)) (.call (.ref f) ⟨.ref (s.heap.objs.size+1)::vs,kw⟩) (PySem.W.InitBack (s.heap.objs.size+1) R)
   { s with heap:=(s.heap.push emptyDict).push (instObj C s.heap.objs.size) }) :
  codeAny (model prog w) A (.call (.ref C) ⟨vs,kw⟩) R s:=by
 obtain⟨hh,g,d,t,os⟩:=s
 exact PySem.W.make_core (PySem.W.makes_of X hm) (PySem.W.looks_findIn X hi) (λself=>PySem.W.bind_fn X self hf) (.inl rfl) h
end
def aF(f:Str)(v:V):List (Str×V)->List (Str×V)
 |[]=>[(f,v)]
 | (g,x)::r=>if g=f then(g,v)::r else(g,x)::aF f v r
theorem zJ(f g:Str)(v:V):∀fs:List (Str×V),(aF f v fs).lookup g=if g=f then some v else fs.lookup g
 |[]=>by
  show ab3 g [(f,v)]=_
  by_cases h:g=f
  ·have hb:(g==f)=true:=beq_iff_eq.mpr h
   simp only[ab3,hb,if_pos h]
  ·have hb:(g==f)=false:=beq_eq_false_iff_ne.mpr h
   simp only[ab3,hb,if_neg h]
 | (k,x)::r=>by
  have ih:=zJ f g v r
  rw[show aF f v ((k,x)::r)=(if k=f then(k,v)::r else(k,x)::aF f v r) from rfl]
  by_cases hk:k=f
  ·rw[if_pos hk]
   by_cases h:g=k
   ·have hb:(g==k)=true:=beq_iff_eq.mpr h
    simp only[ab3,hb,if_pos (h.trans hk)]
   ·have hb:(g==k)=false:=beq_eq_false_iff_ne.mpr h
    simp only[ab3,hb,if_neg (λe:g=f=>h (e.trans hk.symm))]
  ·rw[if_neg hk]
   by_cases h:g=k
   ·have hb:(g==k)=true:=beq_iff_eq.mpr h
    simp only[ab3,hb,if_neg (λe:g=f=>hk (h.symm.trans e))]
   ·have hb:(g==k)=false:=beq_eq_false_iff_ne.mpr h
    simp only[ab3,hb]
    exact ih
theorem TX(f:Str)(v:V):∀fs:List (Str×V),f∈(aF f v fs).map (·.1)/\∀g,g∈fs.map (·.1)->g∈(aF f v fs).map (·.1)
 |[]=>⟨by simp[aF],λg h=>by simp at h⟩
 | (k,x)::r=>by
  obtain⟨i1,i2⟩:=TX f v r
  rw[show aF f v ((k,x)::r)=(if k=f then(k,v)::r else(k,x)::aF f v r) from rfl]
  by_cases hk:k=f
  ·rw[if_pos hk]
   subst hk
   exact⟨by simp,λg h=>by simpa using h⟩
  ·rw[if_neg hk]
   refine⟨?_,λg h=>?_⟩
   ·rw[map_cons]
    exact mem_cons_of_mem _ i1
   ·rw[map_cons] at h ⊢
    rcases mem_cons.mp h with e|e
    ·exact mem_cons.mpr (.inl e)
    ·exact mem_cons_of_mem _ (i2 g e)
theorem X3(f:Str)(v:V):∀fs:List (Str×V),(aF f v fs).length<=fs.length+1
 |[]=>by simp[aF]
 | (k,x)::r=>by
  have ih:=X3 f v r
  rw[show aF f v ((k,x)::r)=(if k=f then(k,v)::r else(k,x)::aF f v r) from rfl]
  by_cases hk:k=f
  ·rw[if_pos hk,length_cons,length_cons];omega
  ·rw[if_neg hk,length_cons,length_cons];omega
theorem iy.some_of(r:iy (some v) o):∃u,o=some u/\RelV v u:=by
 cases o with
 |none=>exact(show False from r).elim
 |some u=>exact⟨u,rfl,r⟩
theorem iy.none_of(r:iy none o):o=none:=by
 cases o with
 |none=>rfl
 |some u=>exact(show False from r).elim
theorem zO7(r:RelV v u):PySem.W.handedIn u=true:=by
 cases v with
 |non=>cases(show u=aco from r);rfl
 |bl b=>cases(show u=aej b from r);rfl
 |int i=>obtain⟨t,e⟩:=(show∃t,u=abp i t from r);cases e;rfl
 |str x=>obtain⟨t,e⟩:=(show∃t,u=aec x t from r);cases e;rfl
 |Ah b=>obtain⟨t,e⟩:=(show∃t,u=Value.bytes b t from r);cases e;rfl
 |flt b=>obtain⟨t,e⟩:=(show∃t,u=aew b t from r);cases e;rfl
 |ref a=>cases(show u=aa5 a from r);rfl
 |ty n=>cases(show u=ac2 n from r);rfl
section
variable{P:Program}{w:World}{H H':Hp}{h h':Heap}{a C dx:Addr}{fs fs':List (Str×V)}
theorem Q_(hok:g_ P w H h)(e:H a=some (.ins C dx fs)):∃mA,qz h a dx C mA/\(∀f,iy (fs.lookup f) (mA f))/\aeo mA (fs.map (·.1))/\fs.length<=1000/\H dx=some (.own a):=by
 obtain⟨d,z,ne,ob,mA,n,r,q⟩:=(show bh P w H h a (.ins C dx fs) from hok a _ e)
 exact⟨mA,⟨ob,n,ne⟩,r,q,z,d⟩
end
structure Cls(K:PySem.W.Frag)(C:Addr):Prop where
 pg:plainGet K C ac6=true
 hd:hasDictIn K C=true
 po:PySem.W.plainOver K C=true
 sa:findIn K (.ref C) "__setattr__" = some (some (.builtin "object.__setattr__"))
theorem Cls.get{K:PySem.W.Frag}{C:Addr}(c:Cls K C)(f:Str):plainGet K C f=true:=c.pg
def aX(K:PySem.W.Frag)(C:Addr)(f:Str):Prop:=findIn K (.ref C) f=some none
theorem aX.taker{K:PySem.W.Frag}{C:Addr}{f:Str}(n:aX K C f):takerIn K C f=some none:=by
 unfold takerIn
 rw[show findIn K (.ref C) f=some none from n]
 rfl
structure Con(K:PySem.W.Frag)(C:Addr)(f:Str)(v:V)(u:Value):Prop where
 at_:findIn K (.ref C) f=some (some u)
 rel:RelV v u
 get:specialIn K u "__get__" = some none
 cp:PySem.W.copiedNames.contains f=false
structure Meth(K:PySem.W.Frag)(C:Addr)(m:Str)(f:Addr):Prop where
 at_:findIn K (.ref C) m=some (some (.ref f))
 fn:isFn K (.ref f)=true
 kp:keepIn K (.ref f)=true
section
variable{X:Cx}{pins:List (Addr×Obj)}{σ:St}{H:Hp}{s:Shared}{a C dx:Addr}{fs:List (Str×V)}{f:Str}{v:V}{A:Around}{E:Value->Shared->Prop}
theorem zMd{Q:Value->Shared->Prop}(I:Inv X pins σ H s)(e:H a=some (.ins C dx fs))(c:Cls X.K C)(n:aX X.K C f)(l:fs.lookup f=some v)(h:∀u s',Inv X pins σ H s'->RelV v u->Q u s'):wpAny (model X.prog X.w) A (getAttr (.ref a) f b) Q E s:=by
 obtain⟨mA,O,r,_,_,_⟩:=Q_ I.hok e
 obtain⟨u,hu,ru⟩:=iy.some_of (v:=v) (o:=mA f) (by rw[<-l];exact r f)
 exact get_map I.jC O (c.get f) c.hd n hu (zO7 ru) (h u _ (I.tok _) ru)
theorem X4{Q:Value×List Value->Shared->Prop}(I:Inv X pins σ H s)(e:H a=some (.ins C dx fs))(c:Cls X.K C)(k:Meth X.K C m g)(l:fs.lookup m=none)(h:Q (.ref g,[.ref a]) s):wpAny (model X.prog X.w) A (getMethod (.ref a) m pl) Q E s:=by
 obtain⟨mA,O,r,_,_,_⟩:=Q_ I.hok e
 have hn:mA m=none:=iy.none_of (by rw[<-l];exact r m)
 exact zR5 I.jC O (c.get m) k.at_ k.fn hn h
theorem zLq{Q:Unit->Shared->Prop}(I:Inv X pins σ H s)(e:H a=some (.ins C dx fs))(c:Cls X.K C)(n:aX X.K C f)(hl:fs.length<1000)(ry:RelV y u)(h:∀s',Inv X pins σ (upd H a (.ins C dx (aF f y fs))) s'->Q () s'):wpAny (model X.prog X.w) A (setAttr (.ref a) f u) Q E s:=by
 obtain⟨mA,O,r,wi,_,ho⟩:=Q_ I.hok e
 have hz:(fs.map (·.1)).length<=sizeLine:=by rw[length_map,aeb];omega
 refine Ay I.jC O c.sa c.po n.taker c.hd wi hz λh' O' sb=>h _ ?_
 have hd:∃o,h'.get? dx=some o:=let⟨o,_,_,e',_⟩:=O'.ns;⟨o,e'⟩
 refine I.write (x:=a) (e:=dx) (by rw[e];exact ab7) (.inr ho) (λb q hb z=>(sb.2 b hb).trans z) hd ?_
 refine⟨by rw[zO O.ne];exact ho,?_,O.ne,O'.obj,_,O'.ns,λg=>?_,λg hg=>?_⟩
 ·have:=X3 f y fs;omega
 ·show iy ((aF f y fs).lookup g) (if g=f then some u else mA g)
  rw[zJ]
  by_cases q:g=f
  ·rw[if_pos q,if_pos q];exact ry
  ·rw[if_neg q,if_neg q];exact r g
 ·by_cases q:g=f
  ·rw[q];exact(TX f y fs).1
  ·refine(TX f y fs).2 g (wi g λz=>hg ?_)
   show(if g=f then some u else mA g)=none
   rw[if_neg q];exact z
theorem Inv.made(I:Inv X pins σ H s):Inv X pins σ (upd (upd H s.heap.objs.size (.own (s.heap.objs.size+1))) (s.heap.objs.size+1) (.ins C s.heap.objs.size []))
  { s with heap:=(s.heap.push emptyDict).push (instObj C s.heap.objs.size) }:=by
 have e1:(s.heap.push emptyDict).get? s.heap.objs.size=some emptyDict:=get?_push_size s.heap rfl
 have e2:((s.heap.push emptyDict).push (instObj C s.heap.objs.size)).get? (s.heap.objs.size+1)=some (instObj C s.heap.objs.size):=by
  have:=get?_push_size (s.heap.push emptyDict) (o:=instObj C s.heap.objs.size) rfl
  rwa [size_push] at this
 have e3:(s.heap.push emptyDict).Ns s.heap.objs.size (λ_=>none):=⟨emptyDict,#[],_,e1,rfl,(λe he=>absurd he (by simp)),λ_=>rfl⟩
 have I1:=I.laid (a:=s.heap.objs.size) (o:=.own (s.heap.objs.size+1)) (h':=s.heap.push emptyDict) (t':=s.toks) (λb u q=>get?_push_of_some _ q) (aaf _) ⟨_,e1⟩
 refine I1.laid (a:=s.heap.objs.size+1) (o:=.ins C s.heap.objs.size []) (t':=s.toks) (λb u q=>get?_push_of_some _ q) (Nat.le_of_eq (size_push _ _)) ?_
 have ne:s.heap.objs.size≠s.heap.objs.size+1:=aaj (ace _)
 refine⟨by rw[zO ne,zM],aa0 _,ne,e2,λ_=>none,(Heap.Ns1.of_empty e3).at λo q=>get?_push_of_some _ q,λ_=>ab7,λy hy=>absurd rfl hy⟩
theorem Az(hb:attributeBase e f env (eval e env)=eval e env)(h:wpAny (model prog w) A (eval e env) (λo s₁=>wpAny (model prog w) A (getAttr o f true) Q E s₁) E s):wpAny (model prog w) A (eval (.Attribute e f pos) env) Q E s :=
 Attribute_any_ h (by rw[arm_eval_Attribute,hb])
end
def oE(K:PySem.W.Frag)(ta:TE)(f:Str):TE:=λσ H Q=>ta σ H λx H1=>∃a C dx fs v,x=.ref a/\H1 a=some (.ins C dx fs)/\Cls K C/\aX K C f/\fs.lookup f=some v/\Q v H1
def TY(K:PySem.W.Frag)(ta tv:TE)(f:Str):TS:=λD σ H=>tv σ H λy H1=>ta σ H1 λx H2=>∃a C dx fs,x=.ref a/\H2 a=some (.ins C dx fs)/\Cls K C/\aX K C f/\fs.length<1000 /\
 D.nx σ (upd H2 a (.ins C dx (aF f y fs)))
section
variable{X:Cx}{o e value:Expr}{f:Str}{pos pos' tpos:Pos}{ta tv:TE}
theorem X5(he:PE X e ta)(hb:attributeBase e f X.env (eval e X.env)=eval e X.env):PE X (.Attribute e f pos) (oE X.K ta f):=by
 intro pins s σ H Q I h
 refine Az hb (aN (he pins s σ H _ I h) λu s1 ⟨x,H1,I1,rx,a,C,dx,fs,v,ex,ea,c,n,l,q⟩=>?_)
 subst ex
 obtain rfl:u=aa5 a:=rx
 exact zMd I1 ea c n l λu' s2 I2 ru=>⟨v,H1,I2,ru,q⟩
theorem z6(ha:PE X o ta)(hv:PE X value tv)(hs:swapsWith value (some (.Attribute o f pos')) pos.line X.env=pure false):PS X (.Assign [.Attribute o f pos'] value pos) (TY X.K ta tv f):=by
 intro pins s σ H D I h
 refine plainObj_wpAny_Assign_Attribute (aN (hv pins s σ H _ I h) λu s1 ⟨y,H1,I1,ry,q⟩=>aN (ha pins s1 σ H1 _ I1 q) λov s2 ⟨x,H2,I2,rx,a,C,dx,fs,ex,ea,c,n,l,q2⟩=>?_) hs
 subst ex
 obtain rfl:ov=aa5 a:=rx
 exact zLq I2 ea c n l ry λs3 I3=>⟨σ,_,I3,q2⟩
end
section
variable{X:Cx}{pins:List (Addr×Obj)}{σ:St}{H:Hp}{s:Shared}{A:Around}{E:Value->Shared->Prop}{Q:Value->Shared->Prop}{c:Value}{b:Bool}
inductive jk(K:PySem.W.Frag)(H:Hp):V->Value->Prop where
 |non:jk K H .non (.type "NoneType")
 |bl (x:Bool):jk K H (.bl x) (.type "bool")
 |int (i:Int):jk K H (.int i) (.type "int")
 |str (x:Str):jk K H (.str x) (.type "str")
 |flt (x:UInt64):jk K H (.flt x) (.type "float")
 |lst {a:Addr} {xs:List V} (e:H a=some (.lst xs)):jk K H (.ref a) (.type "list")
 |q9 {a:Addr} {o:Obj} {xs:List V} (e:H a=some (.q9 o (.lst xs))):jk K H (.ref a) (.type "list")
 |tup {a:Addr} {xs:List V} (e:H a=some (.tup xs)):jk K H (.ref a) (.type "tuple")
 |dK {a:Addr} {kvs:List (Key×V)} (e:H a=some (.dK kvs)):jk K H (.ref a) (.type "dict")
 |dT {a:Addr} {kvs:List (List Key×V)} (e:H a=some (.dT kvs)):jk K H (.ref a) (.type "dict")
 |ins {a C dx:Addr} {fs:List (Str×V)} (e:H a=some (.ins C dx fs)) (cl:Cls K C) (ha:findIn K (.ref C) "__class__" = some (some (.builtin "object.__class__")))
   (hn:specialIn K (.builtin "object.__class__") "__get__" = some (some (.builtin "getset_descriptor.__get__"))) (htk:takesIn K (.builtin "object.__class__")=some true)
   (hm:mroIn K C (.type "object")=some true):jk K H (.ref a) (.ref C)
theorem zO3(I:Inv X pins σ H s)(rx:RelV x u)(ty:jk X.K H x t)(e:kitOne X.K t c=some b)(h:∀tk,Q (.bool b) { s with toks:=tk }) :
  wpAny (model X.prog X.w) A (call (.builtin "isinstance") [u,c]) Q E s:=by
 cases ty with
 |non=>cases(show u=aco from rx);exact ada PySem.W.kitx_none I.jC ab7 e (λz=>nomatch z) h
 |bl y=>cases(show u=aej y from rx);exact ada PySem.W.kitx_bool I.jC ab7 e (λz=>nomatch z) h
 |int i=>obtain⟨t,q⟩:=(show∃t,u=abp i t from rx);cases q;exact ada PySem.W.kitx_int I.jC ab7 e (λz=>nomatch z) h
 |str y=>obtain⟨t,q⟩:=(show∃t,u=aec y t from rx);cases q;exact ada PySem.W.kitx_str I.jC ab7 e (λz=>nomatch z) h
 |flt y=>obtain⟨t,q⟩:=(show∃t,u=aew y t from rx);cases q;exact ada PySem.W.kitx_float I.jC ab7 e (λz=>nomatch z) h
 |@lst a xs ea =>
  cases(show u=aa5 a from rx)
  obtain⟨_,_,n,_,h1⟩:=(show bh X.prog X.w H s.heap a (.lst xs) from I.hok a _ ea)
  exact ada PySem.W.kitx_list I.jC ⟨_,h1,rfl⟩ e (λz=>nomatch z) h
 |@q9 a ob xs ea =>
  cases(show u=aa5 a from rx)
  obtain⟨_,_,_,n,_,h1⟩:=(show bh X.prog X.w H s.heap a (.q9 ob (.lst xs)) from I.hok a _ ea)
  exact ada PySem.W.kitx_list I.jC ⟨_,h1,rfl⟩ e (λz=>nomatch z) h
 |@tup a xs ea =>
  cases(show u=aa5 a from rx)
  obtain⟨_,_,_,p⟩:=(show bh X.prog X.w H s.heap a (.tup xs) from I.hok a _ ea)
  obtain⟨o,h1,h2,_⟩:=p
  exact ada PySem.W.kitx_tuple I.jC ⟨o,h1,h2⟩ e (λz=>nomatch z) h
 |@dK a kvs ea =>
  cases(show u=aa5 a from rx)
  obtain⟨_,_,vs,_,p⟩:=(show bh X.prog X.w H s.heap a (.dK kvs) from I.hok a _ ea)
  obtain⟨o,es,ep,h1,h2,_⟩:=p
  exact ada PySem.W.kitx_dict I.jC ⟨o,h1,h2.1⟩ e (λz=>nomatch z) h
 |@dT a kvs ea =>
  cases(show u=aa5 a from rx)
  obtain⟨_,_,xs,_,o,es,ep,h1,h2,_⟩:=(show bh X.prog X.w H s.heap a (.dT kvs) from I.hok a _ ea)
  exact ada PySem.W.kitx_dict I.jC ⟨o,h1,h2.1⟩ e (λz=>nomatch z) h
 |@ins a C dx fs ea cl ha hn htk hm =>
  cases(show u=aa5 a from rx)
  obtain⟨mA,O,_⟩:=Q_ I.hok ea
  obtain⟨od,J,_⟩:=O.look
  exact ada (PySem.W.kitx_own (cl.get _) cl.hd ha hn htk hm) I.jC J e (λz=>nomatch z) h
end
structure bJ(k:Nat)(A:Around):Prop where
 hd:A.handled=none
 dp:A.depth+3*k+5<recursionLimit
 un:A.units+16*k+200<cLine
theorem bJ.mono(r:bJ k A)(h:j<=k):bJ j A:=⟨r.hd,by have:=r.dp;omega,by have:=r.un;omega⟩
theorem bJ.deeper(r:bJ (k+1) A)(env:Env):bJ k (A.deeper env) :=
 ⟨r.hd,by have:=r.dp;show A.depth+1+3*k+5<_;omega,by have:=r.un;show A.units+3+16*k+200<_;omega⟩
theorem zL7{A:Around}:(A.under (.builtin "type.__call__" ⟨.ref C::us,kw⟩)).depth=A.depth+1:=by
 first|rfl|simp[ael,Code.weight,Code.isCreation,Code.isGuard,Code.isCaller,Code.frames,aem,guardIds]
theorem zL6{A:Around}:(A.under (.builtin "type.__call__" ⟨.ref C::us,kw⟩)).units=A.units+1:=by
 first|rfl|simp[ael,Code.cUnits,Code.frames,aem]
theorem bJ.make(r:bJ (k+1) A)(C:Addr)(us:List Value)(kw:List (Str×Value)):bJ k (A.under (.builtin "type.__call__" ⟨.ref C::us,kw⟩)) :=
 ⟨r.hd,by have:=r.dp;rw[zL7];omega,by have:=r.un;rw[zL6];omega⟩
theorem bJ.depth(r:bJ k A):A.depth<recursionLimit:=by have:=r.dp;omega
theorem bJ.units(r:bJ k A):A.units+64<cLine:=by have:=r.un;omega
def cj:TA:=λ_ H Q=>Q [] H
def xG(ta:TE)(tr:TA):TA:=λσ H Q=>ta σ H λx H1=>tr σ H1 λxs H2=>Q (x::xs) H2
section
variable{X:Cx}{e:Expr}{es:List Expr}{te:TE}{t:TA}{pos:Pos}
theorem zE:PA X [] cj:=λ_ _ _ _ H Q I h=>adq ⟨[],H,I,.nil,h⟩
theorem zA(ha:PE X e te)(hr:PA X es t)(hs:starEach (e::es) X.env=(false,eval e X.env)::starEach es X.env:=by rfl):PA X (e::es) (xG te t):=by
 intro pos pins s σ H Q I h
 rw[hs]
 show wpAny _ _ (spliced ((false,eval e X.env)::backTo pos (starEach es X.env))) _ _ s
 refine adl (aN (ha pins s σ H _ I h) λu s1 ⟨x,H1,I1,r1,q1⟩=>?_)
 exact aN (hr pos pins s1 σ H1 _ I1 q1) λus s2 ⟨xs,H2,I2,r2,q2⟩=>⟨x::xs,H2,I2,.cons r1 r2,q2⟩
def A_(t:TA):TE:=λσ H Q=>t σ H λxs H1=>xs.length<=sizeLine/\∀p,H1 p=none->Q (.ref p) (upd H1 p (.tup xs))
def Hz(t:TA):TE:=λσ H Q=>t σ H λxs H1=>xs.length<=sizeLine/\∀p,H1 p=none->Q (.ref p) (upd H1 p (.lst xs))
theorem Fi{x1}(h:PA X es t):PE X (.Tuple es x1 pos) (A_ t):=by
 intro pins s σ H Q I hq
 refine wpAny_Tuple_spliced (aN (h pos pins s σ H _ I hq) λus s1 ⟨xs,H1,I1,r,z,q⟩=>⟨by rw[<-r.length];exact z,?_⟩)
 have hf:H1 s1.heap.objs.size=none:=I1.hok.fresh (aaf _)
 refine⟨.ref s1.heap.objs.size,upd H1 s1.heap.objs.size (.tup xs),I1.laid (t':=s1.toks) (λb u e=>get?_push_of_some _ e) (aaf _) ?_,rfl,q _ hf⟩
 exact⟨z,us,r,⟨_,get?_push_size _ rfl,rfl,_,rfl⟩⟩
theorem wY(h:PA X es t):PE X (.List es pos) (Hz t):=by
 intro pins s σ H Q I hq
 refine wpAny_List_spliced (aN (h pos pins s σ H _ I hq) λus s1 ⟨xs,H1,I1,r,z,q⟩=>⟨by rw[<-r.length];exact z,?_⟩)
 have hf:H1 s1.heap.objs.size=none:=I1.hok.fresh (aaf _)
 refine⟨.ref s1.heap.objs.size,upd H1 s1.heap.objs.size (.lst xs),I1.laid (t':=s1.toks) (λb u e=>get?_push_of_some _ e) (aaf _) ?_,rfl,q _ hf⟩
 exact⟨z,us,0,r,get?_push_size _ rfl⟩
end
abbrev Sp:=List V->Hp->VK->XK->Prop
abbrev rT:=List Env->Hp->Shared->XK->Value->Shared->Prop
structure qC(P:Program)(w:World)(K:PySem.W.Frag)(mg:Str->Option Value)(base:Heap)(A:Around)(outer:List Env)(s:Shared)(H:Hp):Prop where
 frames:A.frames=some outer
 mod:Mod K mg base
 bs:∀b o,base.get? b=some o->s.heap.get? b=some o/\H b=none
 Ak:base.objs.size<=s.heap.objs.size
 jZ:s.heap.FunFrames base outer
 G4:∀b∈frs outer,H b=none
 hok:g_ P w H s.heap
 bare:AllBare s.gens
def CE(outer:List Env)(P:Program)(w:World)(H:Hp)(s:Shared)(Q:VK)(u:Value)(s':Shared):Prop :=
 ∃v H',s'.os=s.os/\AllBare s'.gens/\Un (frs outer) [] H H' s.heap s'.heap/\g_ P w H' s'.heap/\RelV v u/\Q v H'
def CR(CX:rT)(outer:List Env)(P:Program)(w:World)(H:Hp)(s:Shared)(Q:VK)(E:XK)(r:Result)(s':Shared):Prop :=
 match r with
 |.ok (.ret u)=>CE outer P w H s Q u s'
 |.ok _=>False
 |.error e=>CX outer H s E e s'
structure au(P:Program)(w:World)(K:PySem.W.Frag)(mg:Str->Option Value)(base:Heap)(CX:rT)(k:Nat)(f:Addr)(fd:FuncData)(ps:List Str)(sp:Sp):Prop where
 len:∀vs H Q E,sp vs H Q E->vs.length=ps.length
 run:∀(A:Around)(outer:List Env)(s:Shared)(H:Hp)(args:Args)(us:List Value)(vs:List V)(Q:VK)(E:XK),bJ k A->qC P w K mg base A outer s H->BindsTo s fd args (ps.zip us)->Vals vs us->sp vs H Q E ->
  codeAny (model P w) A (.call (.ref f) args) (CR CX outer P w H s Q E) s
theorem au.mono{P:Program}{w:World}{K:PySem.W.Frag}{mg:Str->Option Value}{base:Heap}{CX:rT}{j k:Nat}{f:Addr}{fd:FuncData}{ps:List Str}{sp:Sp}(F:au P w K mg base CX j f fd ps sp)(h:j<=k) :
  au P w K mg base CX k f fd ps sp:=⟨F.len,λA outer s H args us vs Q E hr=>F.run A outer s H args us vs Q E (hr.mono h)⟩
theorem au.imp{P:Program}{w:World}{K:PySem.W.Frag}{mg:Str->Option Value}{base:Heap}{CX:rT}{k:Nat}{f:Addr}{fd:FuncData}{ps:List Str}{sp X6:Sp}(F:au P w K mg base CX k f fd ps sp)(h:∀vs H Q E,X6 vs H Q E->sp vs H Q E):au P w K mg base CX k f fd ps X6 :=
 ⟨λvs H Q E q=>F.len vs H Q E (h _ _ _ _ q),λA outer s H args us vs Q E hr he hb hv hs=>F.run A outer s H args us vs Q E hr he hb hv (h _ _ _ _ hs)⟩
theorem qC.make{P:Program}{w:World}{K:PySem.W.Frag}{mg:Str->Option Value}{base:Heap}{A:Around}{outer:List Env}{s:Shared}{H:Hp}(e:qC P w K mg base A outer s H)(C:Addr)(us:List Value)(kw:List (Str×Value)) :
  qC P w K mg base (A.under (.builtin "type.__call__" ⟨.ref C::us,kw⟩)) outer s H:=⟨by first|exact e.frames|(simpa[ael,Code.envs,aem,pushEnvs] using e.frames),e.mod,e.bs,e.Ak,e.jZ,e.G4,e.hok,e.bare⟩
section
variable{X:Cx}{pins:List (Addr×Obj)}{σ:St}{H:Hp}{s s':Shared}
theorem Inv.env0(I:Inv X pins σ H s):qC X.prog X.w X.K X.mg X.base X.A X.stack s H :=
 ⟨I.ok.frames,I.ok.mod,I.bs,aas I.ok.Ak I.sz,I.stack,I.q_,I.hok,I.bare⟩
theorem Inv.after(I:Inv X pins σ H s)(h:CE X.stack X.prog X.w H s Q u s'):EP X pins σ Q u s':=by
 obtain⟨v,H',os,bare,un,hok,r,q⟩:=h
 obtain⟨hh,g,d,t,os'⟩:=s'
 obtain rfl:os'=s.os:=os
 exact⟨v,H',I.call (h':=hh) (g':=g) (d':=d) (t':=t) (ch:=[]) un hok bare (λb z=>absurd z (by simp)),r,q⟩
end
def HB(sp:Sp)(kE:List V)(E:XK)(t:TA):TE:=λσ H Q=>t σ H λvs H1=>sp (vs++kE) H1 Q E
def NK(C:Addr)(m:Str)(sp:Sp)(kE:List V)(E:XK)(ta:TE)(t:TA):TE:=λσ H Q=>ta σ H λx H1=>∃a dx fs,x=.ref a/\H1 a=some (.ins C dx fs)/\fs.lookup m=none /\
 t σ H1 λvs H2=>sp (x::(vs++kE)) H2 Q E
def Ra(C:Addr)(sp:Sp)(kE:List V)(E:XK)(t:TA):TE:=λσ H Q=>t σ H λvs H1=>∀x dx,H1 x=none->H1 dx=none->dx≠x ->
 sp (.ref x::(vs++kE)) (upd (upd H1 dx (.own x)) x (.ins C dx [])) (λv H2=>v=.non/\Q (.ref x) H2) E
def Binds(K:PySem.W.Frag)(fd:FuncData)(ps:List Str)(ds:List Value):Prop :=
 ∀(s:Shared)(us:List Value),K.In s.heap->(us++ds).length=ps.length->BindsTo s fd ⟨us,[]⟩ (ps.zip (us++ds))
theorem Binds.all{K:PySem.W.Frag}{fd:FuncData}{ps:List Str}(h:∀us:List Value,us.length=ps.length->bindArgs fd ⟨us,[]⟩=pure (ps.zip us)):Binds K fd ps []:=λs us _ hl=>by
 rw[append_nil] at hl ⊢
 exact .of_eq (h us hl)
def Fj(CX:rT)(X:Cx)(E:XK):Prop:=∀(pins:List (Addr×Obj))(σ:St)(H:Hp)(s:Shared)(e:Value)(s':Shared),Inv X pins σ H s->CX X.stack H s E e s'->X.xe e s'
section
variable{X:Cx}{CX:rT}{k:Nat}{f C:Addr}{fd:FuncData}{ps:List Str}{sp:Sp}{kE:List V}{ds:List Value}{E:XK}{x m:Str}{p pos apos:Pos}{e o:Expr}{es:List Expr}{ta:TE}{t:TA}
theorem Rb(F:au X.prog X.w X.K X.mg X.base CX k f fd ps sp)(hr:bJ k X.A)(hb:Binds X.K fd ps ds)(hd:Vals kE ds)(hx:Fj CX X E)(I:Inv X pins σ H s)(r:Vals vs us)(h:sp (vs++kE) H Q E):wpAny (model X.prog X.w) X.A (call (.ref f) us) (EP X pins σ Q) X.xe s:=by
 have r2:Vals (vs++kE) (us++ds):=r.append hd
 have hl:(us++ds).length=ps.length:=by rw[<-r2.length];exact F.len _ _ _ _ h
 refine wpAny_call (acu (F.run X.A X.stack s H ⟨us,[]⟩ (us++ds) (vs++kE) Q E hr I.env0 (hb s us I.jC hl) r2 h) λr s' hq=>?_)
 cases r with
 |error e=>exact hx pins σ H s e s' I hq
 |ok fl =>
  cases fl with
  |ret u=>exact I.after hq
  |next=>exact abb hq
  |brk=>exact abb hq
  |cont=>exact abb hq
theorem Ba(F:au X.prog X.w X.K X.mg X.base CX k f fd ps sp)(hr:bJ k X.A)(hg:Gl X x)(hm:X.mg x=some (.ref f))(hk:keepIn X.K (.ref f)=true)(hb:Binds X.K fd ps ds)(hd:Vals kE ds)(hx:Fj CX X E)(ha:PA X (e::es) t)(hdb:(x==("__debug__":Str))=false:=by decide)(he:starEach (e::es) X.env=(false,eval e X.env)::starEach es X.env:=by rfl)(hpl:(backTo pos (starEach es X.env)).any (·.1)=false:=by rfl) :
  PE X (.Call (.Name x p) (e::es) [] pos) (HB sp kE E t):=by
 intro pins s σ H Q I h
 refine abo (QJ I hg hm ?_ hdb)
 refine ad3 (h₀:=X.base) I.ok.mod.K5 hk (aN (ha pos pins s σ H _ I h) λus s1 ⟨vs,H1,I1,r,q⟩=>⟨I1.jC,?_⟩) he hpl
 exact Rb F hr hb hd hx I1 r q
theorem Bb(he:PE X o ta)(c:Cls X.K C)(hm:Meth X.K C m f)(F:au X.prog X.w X.K X.mg X.base CX k f fd ps sp)(hr:bJ k X.A)(hb:Binds X.K fd ps ds)(hd:Vals kE ds)(hx:Fj CX X E)(ha:PA X (e::es) t)(hst:starEach (e::es) X.env=(false,eval e X.env)::starEach es X.env:=by rfl)(hpl:(backTo pos (starEach es X.env)).any (·.1)=false:=by rfl)(ht:eval (.Call (.Attribute o m apos) (e::es) [] pos) X.env=(do
   let ov <-eval o X.env
   standAt apos.atName
   let(f,first) <-holding [ov] (getMethod ov m pl)
   callWith pos f first (backTo pos (starEach (e::es) X.env)) (backToKw pos (keywordEach [] X.env))):=by rfl) :
  PE X (.Call (.Attribute o m apos) (e::es) [] pos) (NK C m sp kE E ta t):=by
 intro pins s σ H Q I h
 refine ad1 (pl:=pl) (aN (he pins s σ H _ I h) λu s1 ⟨x,H1,I1,rx,a,dx,fs,ex,ea,l,q⟩=>?_) ht
 subst ex
 obtain rfl:u=aa5 a:=rx
 refine X4 I1 ea c hm l ?_
 refine ad3 (first:=[.ref a]) (h₀:=X.base) I.ok.mod.K5 hm.kp (aN (ha pos pins s1 σ H1 _ I1 q) λus s2 ⟨vs,H2,I2,r,q2⟩=>⟨I2.jC,?_⟩) hst hpl
 exact Rb (us:=.ref a::us) (vs:=.ref a::vs) F hr hb hd hx I2 (.cons rfl r) q2
theorem zRe(he:PE X o ta)(c:Cls X.K C)(hm:Meth X.K C m f)(F:au X.prog X.w X.K X.mg X.base CX k f fd ps sp)(hr:bJ k X.A)(hb:Binds X.K fd ps ds)(hd:Vals kE ds)(hx:Fj CX X E)(ht:eval (.Call (.Attribute o m apos) [] [] pos) X.env=(do
   let ov <-eval o X.env
   standAt apos.atName
   let(f,first) <-holding [ov] (getMethod ov m pl)
   callWith pos f first (backTo pos (starEach [] X.env)) (backToKw pos (keywordEach [] X.env))):=by rfl) :
  PE X (.Call (.Attribute o m apos) [] [] pos) (NK C m sp kE E ta cj):=by
 intro pins s σ H Q I h
 refine ad1 (pl:=pl) (aN (he pins s σ H _ I h) λu s1 ⟨x,H1,I1,rx,a,dx,fs,ex,ea,l,q⟩=>?_) ht
 subst ex
 obtain rfl:u=aa5 a:=rx
 refine X4 I1 ea c hm l ?_
 exact PySem.W.callWith_K0 (first:=[.ref a]) I1.jC hm.kp (Rb (us:=[.ref a]) (vs:=[.ref a]) F hr hb hd hx I1 (.cons rfl .nil) q)
structure Mk(K:PySem.W.Frag)(C f:Addr):Prop where
 makes:PySem.W.makesIn K C=true
 init:findIn K (.ref C) "__init__" = some (some (.ref f))
 fn:isFn K (.ref f)=true
 kp:keepIn K (.ref C)=true
theorem zQ5(M:Mk X.K C f)(F:au X.prog X.w X.K X.mg X.base CX k f fd ps sp)(hr:bJ (k+1) X.A)(hb:Binds X.K fd ps ds)(hd:Vals kE ds)(hx:Fj CX X E)(I:Inv X pins σ H s)(r:Vals vs us)(h:∀x dx,H x=none->H dx=none->dx≠x->sp (.ref x::(vs++kE)) (upd (upd H dx (.own x)) x (.ins C dx [])) (λv H2=>v=.non/\Q (.ref x) H2) E) :
  wpAny (model X.prog X.w) X.A (call (.ref C) us) (EP X pins σ Q) X.xe s:=by
 have hq:=h (s.heap.objs.size+1) s.heap.objs.size (I.hok.fresh (abt _)) (I.hok.fresh (aaf _)) (aaj (ace _))
 have I2:=Inv.made (C:=C) I
 have r2:Vals (V.ref (s.heap.objs.size+1)::(vs++kE)) (aa5 (s.heap.objs.size+1)::(us++ds)):=.cons rfl (r.append hd)
 have hl:(aa5 (s.heap.objs.size+1)::us++ds).length=ps.length:=by
  have e:=r2.length
  rw[F.len _ _ _ _ hq] at e
  exact e.symm
 refine wpAny_call (zRv (f:=f) I.jC M.makes M.init (beq_iff_eq.mp M.fn) (acu (F.run _ X.stack _ _ ⟨aa5 (s.heap.objs.size+1)::us,[]⟩ (aa5 (s.heap.objs.size+1)::(us++ds)) _ _ E (hr.make C us [])
  (I2.env0.make C us []) (hb _ (aa5 (s.heap.objs.size+1)::us) I2.jC hl) r2 hq) λr s' hq'=>?_))
 cases r with
 |error e=>exact hx pins σ _ _ e s' I2 hq'
 |ok fl =>
  cases fl with
  |ret u =>
   obtain⟨v,H',I3,rv,ev,q3⟩:=I2.after hq'
   subst ev
   exact⟨rv,⟨V.ref (s.heap.objs.size+1),H',I3,rfl,q3⟩⟩
  |next=>exact abb hq'
  |brk=>exact abb hq'
  |cont=>exact abb hq'
theorem NP(M:Mk X.K C f)(F:au X.prog X.w X.K X.mg X.base CX k f fd ps sp)(hr:bJ (k+1) X.A)(hg:Gl X x)(hm:X.mg x=some (.ref C))(hb:Binds X.K fd ps ds)(hd:Vals kE ds)(hx:Fj CX X E)(ha:PA X (e::es) t)(hdb:(x==("__debug__":Str))=false:=by decide)(he:starEach (e::es) X.env=(false,eval e X.env)::starEach es X.env:=by rfl)(hpl:(backTo pos (starEach es X.env)).any (·.1)=false:=by rfl) :
  PE X (.Call (.Name x p) (e::es) [] pos) (Ra C sp kE E t):=by
 intro pins s σ H Q I h
 refine abo (QJ I hg hm ?_ hdb)
 refine ad3 (h₀:=X.base) I.ok.mod.K5 M.kp (aN (ha pos pins s σ H _ I h) λus s1 ⟨vs,H1,I1,r,q⟩=>⟨I1.jC,?_⟩) he hpl
 exact zQ5 M F hr hb hd hx I1 r q
end
section
variable{X:Cx}{CX:rT}{k:Nat}{f C:Addr}{fd:FuncData}{ps ks:List Str}{sp:Sp}{E:XK}{x m:Str}{p pos apos kpos:Pos}{e o:Expr}{es:List Expr}{kws:List Keyword}{te ta:TE}{t tk:TA}{nm:Option Str}
structure T3(K:PySem.W.Frag)(fd:FuncData)(ps ks:List Str)(g:List Value->List Value->List Value)(gV:List V->List V->List V):Prop where
 to:∀(s:Shared)(us ws:List Value),K.In s.heap->(g us ws).length=ps.length->BindsTo s fd ⟨us,ks.zip ws⟩ (ps.zip (g us ws))
 rel:∀{vs:List V}{us:List Value}{zs:List V}{ws:List Value},Vals vs us->Vals zs ws->Vals (gV vs zs) (g us ws)
variable{g:List Value->List Value->List Value}{gV:List V->List V->List V}
end
structure ao(N P:List Str)(sc:Scope):Prop where
 kind:sc.kind=.function
 co:sc.isCoroutine=false
 gen:sc.isGenerator=false
 nd:N.Nodup
 pre:N.take P.length=P
 par:∀x∈P,sc.names.lookup x=some .local\/sc.names.lookup x=some .cell
 HD:∀y∈sc.names,y.2≠.free
theorem X7{kindOf:Str->Option NameKind}{x:Str}:∀{binds:List (Str×Value)}{m:Str->Option Value},(∀v,(x,v)∉binds)->bindL kindOf binds m x=m x
 |[],_,_=>rfl
 | (n,v)::r,m,h=>by
  unfold bindL
  rw[X7 λw hw=>h w (mem_cons_of_mem _ hw)]
  split
  ·have:x≠n:=by rintro rfl;exact h v mem_cons_self
   simp[this]
  ·rfl
theorem X8{kindOf:Str->Option NameKind}{x:Str}:∀{binds:List (Str×Value)}{m:Str->Option Value},(∀v,(x,v)∉binds)->bindC kindOf binds m x=m x
 |[],_,_=>rfl
 | (n,v)::r,m,h=>by
  unfold bindC
  rw[X8 λw hw=>h w (mem_cons_of_mem _ hw)]
  split
  ·rfl
  ·have:x≠n:=by rintro rfl;exact h v mem_cons_self
   simp[this]
theorem X_{kindOf:Str->Option NameKind}:∀{P:List Str}{vs:List Value}{i:Nat}{m:Str->Option Value},P.Nodup->P[i]?=some x->vs[i]?=some v->kindOf x=some .local ->
  bindL kindOf (P.zip vs) m x=some v
 |[],_,_,_,_,h,_,_=>by simp at h
 |_::_,[],_,_,_,_,h,_=>by simp at h
 |p::P,w::vs,0,m,nd,h1,h2,hk=>by
  simp at h1 h2;subst h1;subst h2
  show bindL kindOf ((p,w)::P.zip vs) m p=_
  unfold bindL
  rw[X7 λv hv=>(nodup_cons.mp nd).1 (of_mem_zip hv).1,if_pos hk]
  simp
 |p::P,w::vs,i+1,m,nd,h1,h2,hk=>by
  show bindL kindOf ((p,w)::P.zip vs) m x=_
  unfold bindL
  exact X_ (i:=i) (nodup_cons.mp nd).2 (by simpa using h1) (by simpa using h2) hk
theorem Yb{kindOf:Str->Option NameKind}:∀{P:List Str}{vs:List Value}{i:Nat}{m:Str->Option Value},P.Nodup->P[i]?=some x->vs[i]?=some v->kindOf x≠some .local ->
  bindC kindOf (P.zip vs) m x=some v
 |[],_,_,_,_,h,_,_=>by simp at h
 |_::_,[],_,_,_,_,h,_=>by simp at h
 |p::P,w::vs,0,m,nd,h1,h2,hk=>by
  simp at h1 h2;subst h1;subst h2
  show bindC kindOf ((p,w)::P.zip vs) m p=_
  unfold bindC
  rw[X8 λv hv=>(nodup_cons.mp nd).1 (of_mem_zip hv).1,if_neg hk]
  simp
 |p::P,w::vs,i+1,m,nd,h1,h2,hk=>by
  show bindC kindOf ((p,w)::P.zip vs) m x=_
  unfold bindC
  exact Yb (i:=i) (nodup_cons.mp nd).2 (by simpa using h1) (by simpa using h2) hk
def start(N:List Str)(vs:List V):St:=vs.map some++replicate (N.length-vs.length) none
def mY(CX:rT)(P:Program)(w:World)(K:PySem.W.Frag)(mg:Str->Option Value)(base:Heap)(N:List Str)(qual:Str)(scope:Scope)(f:Addr)(cd:Value)(A:Around)(outer:List Env)(s:Shared)(H:Hp)(E:XK):Cx where
 prog:=P
 w:=w
 K:=K
 mg:=mg
 base:=base
 A:=A.deeper (envOfC qual scope s.heap.objs.size f cd)
 N:=N
 s₀:=s
 H₀:=H
 env:=envOfC qual scope s.heap.objs.size f cd
 outer:=outer
 stack:=envOfC qual scope s.heap.objs.size f cd::outer
 ex:=[]
 calm:=true
 fn:=λ_=>true
 pn:=[]
 xe:=λe s'=>wpAny (model P w) (A.deeper (envOfC qual scope s.heap.objs.size f cd)) (leaving (envOfC qual scope s.heap.objs.size f cd) e) (λ_ s''=>CX outer H s E e s'') (λe' s''=>CX outer H s E e' s'') s'
theorem Yc{sc:Scope}(h:sc.names.lookup x=some .cell):∃c,(cellsFrom n sc.names []).lookup x=some c:=by
 have q:=acp sc.names n [] (.inl h)
 exact abm.mp q
theorem zO4{CX:rT}{P:Program}{w:World}{K:PySem.W.Frag}{mg:Str->Option Value}{base:Heap}{N ps:List Str}{qual:Str}{scope:Scope}{f:Addr}{cd:Value}{A:Around}{outer:List Env}{s s1:Shared}{H:Hp}{E:XK}{us:List Value}{vs:List V}(S:ao N ps scope)(hd:A.handled=none)(e0:qC P w K mg base A outer s H)(hl:vs.length=ps.length)(r:Vals vs us)(x:InCallC s s.heap.objs.size (bindL (envOfC qual scope s.heap.objs.size f cd).kindOf (ps.zip us) λ_=>none) (cellsFrom (s.heap.objs.size+1) scope.names []) (bindC (envOfC qual scope s.heap.objs.size f cd).kindOf (ps.zip us) λ_=>none) s1) :
  Inv (mY CX P w K mg base N qual scope f cd A outer s H E) [] (start N vs) H s1:=by
 have hpl:ps.length<=N.length:=by have:=congrArg List.length S.pre;rw[length_take] at this;omega
 obtain⟨h1,tk,rfl,hk⟩:=x.done
 have NQ:∀b:Addr,b∉(mY CX P w K mg base N qual scope f cd A outer s H E).ex:=λb z=>absurd (show b∈([]:List Addr) from z) (by simp)
 refine⟨⟨e0.mod,S.kind,rfl,rfl,aaf _,λy z c h1 h2=>?_,λy hy=>?_,λy c _ h=>?_,λ_=>hd,Around.frames_deeper e0.frames,.inr ⟨rfl,rfl⟩,λb z=>absurd z (NQ b),e0.bs,e0.Ak,λb _ _=>NQ b,λb z=>absurd z (NQ b),e0.jZ,e0.G4⟩,
  rfl,e0.bare,Un.kept hk,⟨_,x.toInCall.ns,λi y v h1 h2 h3=>?_⟩,λy c h=>⟨_,x.cell y c h⟩,e0.hok.fresh (aaf _),λy c h=>?_,λp hp=>absurd (show p∈([]:List (Addr×Obj)) from hp) (by simp),e0.hok.kept hk,?_⟩
 ·exact name_of_addr x.apart (abd h1) (abd h2)
 ·have hy:scope.names.lookup y=some .cell\/scope.names.lookup y=some .free:=hy
  rcases hy with hy|hy
  ·exact Yc hy
  ·exact absurd rfl (S.HD _ (abd hy))
 ·exact ab4 (x.above y c (abd h))
 ·have hi:i<vs.length:=by
   unfold start at h2
   by_cases hi:i<vs.length
   ·exact hi
   ·rw[getElem?_append_right (by simpa using hi)] at h2
    rw[getElem?_replicate] at h2
    split at h2<;>cases h2
  have ha:vs[i]?=some v:=by
   unfold start at h2
   rw[getElem?_append_left (by simpa using hi),getElem?_map] at h2
   cases e:vs[i]? with
   |none=>rw[e] at h2;cases h2
   |some a=>rw[e] at h2;cases h2;rfl
  obtain⟨u,hu,rv⟩:=r.get ha
  have hp:ps[i]?=some y:=by
   rw[<-S.pre,getElem?_take_of_lt (by omega)];exact h1
  have Yd:ps.Nodup:=by rw[<-S.pre];exact S.nd.sublist (List.take_sublist _ _)
  refine⟨u,rv,?_⟩
  rcases S.par y (mem_of_getElem? hp) with k|k
  ·exact .inl ⟨k,X_ Yd hp hu k⟩
  ·obtain⟨c,e⟩:=Yc (n:=s.heap.objs.size+1) k
   refine .inr ⟨.inl k,c,e,?_⟩
   have q:=x.cell y c e
   rw[Yb Yd hp hu (by show scope.names.lookup y≠_;rw[k];decide)] at q
   exact q
 ·exact e0.hok.fresh (ab4 (x.above y c (abd h)))
 ·unfold start
  show _=N.length
  rw[length_append,length_map,List.length_replicate]
  omega
theorem Fo{CX:rT}{P:Program}{w:World}{K:PySem.W.Frag}{mg:Str->Option Value}{base:Heap}{k:Nat}{f:Addr}{name qual:Str}{params:Arguments}{body:List Stmt}{scope:Scope}{dV kV doc pm cdv ct oc:Value}{an od:Option Addr}{osl:Array (Option Value)}{N ps:List Str}{sp:Sp}(lk:K.lookup f=some ⟨oc,od,.func (fnOf name qual params body scope dV kV doc pm an cdv ct),osl⟩)(hcd:codeIn K cdv qual=true)(S:ao N ps scope)(len:∀vs H Q E,sp vs H Q E->vs.length=ps.length)(hbody:∀(A:Around) (outer:List Env) (s:Shared) (H:Hp) (vs:List V) (Q:VK) (E:XK),bJ k (A.deeper (envOfC qual scope s.heap.objs.size f cdv))->sp vs H Q E ->
   ∃t,pJ (mY CX P w K mg base N qual scope f cdv A outer s H E) body t/\t { nx:=λ_ H'=>Q .non H',rt:=Q } (start N vs) H) :
  au P w K mg base CX (k+1) f (fnOf name qual params body scope dV kV doc pm an cdv ct) ps sp:=by
 refine⟨len,λA outer s H args us vs Q E hr e0 hb r hsp=>?_⟩
 have hl:=len _ _ _ _ hsp
 have KX:K.In s.heap:=e0.mod.K5.keeps λb o e=>(e0.bs b o e).1
 have lim:s.heap.NoLimit:=e0.mod.nolimit.keeps λb o e=>(e0.bs b o e).1
 have hkind:∀y∈ps.zip us,scope.names.lookup y.1=some .local\/(scope.names.lookup y.1=some .cell/\((cellsFrom (s.heap.objs.size+1) scope.names []).lookup y.1).isSome=true):=λ⟨n,v⟩ hy=>by
  rcases S.par n (of_mem_zip hy).1 with q|q
  ·exact .inl q
  ·exact .inr ⟨q,acp _ _ _ (.inl q)⟩
 refine codeAny_call_function hr.depth (KX _ _ lk) rfl S.co S.gen rfl (PySem.W.codeRec_of KX hcd) (hb _ _ _ _ ?_)
 refine wpAny_newFunctionEnv_cells S.kind hkind λenv he s1 x=>?_
 subst he
 refine⟨lim.keeps x.toInCall.keep,codeAny_func ?_⟩
 obtain⟨t,ht,hq⟩:=hbody A outer s H vs Q E (hr.deeper _) hsp
 have I:Inv (mY CX P w K mg base N qual scope f cdv A outer s H E) [] (start N vs) H s1:=zO4 S hr.hd e0 hl r x
 refine abv (ht [] s1 (start N vs) H _ I hq) (λfl s' hs=>?_) λe s' hs=>hs
 have fin:∀{σ':St}{H':Hp}{v:V}{u:Value},Inv (mY CX P w K mg base N qual scope f cdv A outer s H E) [] σ' H' s'->RelV v u->Q v H'->CE outer P w H s Q u s' :=
  λ{σ' H' v u} J rv q=>⟨v,H',J.os,J.bare,J.base,J.hok,rv,q⟩
 cases fl with
 |ret u =>
  obtain⟨v,σ',H',J,rv,q⟩:=hs
  exact fin J rv q
 |next =>
  obtain⟨σ',H',J,q⟩:=hs
  exact fin (v:=V.non) (u:=aco) J rfl q
 |brk =>
  obtain⟨_,_,_,q⟩:=hs
  exact abb q
 |cont =>
  obtain⟨_,_,_,q⟩:=hs
  exact abb q
section
variable{X:Cx}{x:Str}{p pos:Pos}{e:Expr}{es:List Expr}{t:TA}{id T:String}{r:List V->Hp->VK->Prop}
def z_(r:List V->Hp->VK->Prop)(t:TA):TE:=λσ H Q=>t σ H λvs H1=>r vs H1 Q
theorem zS(hc:rR X (.builtin id) r)(hg:Gl X x)(hm:X.mg x=none)(hv:bootBuiltins x=some (.builtin id))(ha:PA X (e::es) t)(hn:x ≠ "__name__":=by decide)(hdb:(x==("__debug__":Str))=false:=by decide)(he:starEach (e::es) X.env=(false,eval e X.env)::starEach es X.env:=by rfl)(hpl:(backTo pos (starEach es X.env)).any (·.1)=false:=by rfl):PE X (.Call (.Name x p) (e::es) [] pos) (z_ r t):=by
 intro pins s σ H Q I h
 refine abo (zy I hg hm hv ?_ hn hdb)
 exact PyProof.Rows.callWith_builtin1 (aN (ha pos pins s σ H _ I h) λus s1 ⟨vs,H1,I1,r1,q1⟩=>hc pins s1 σ H1 vs us Q I1 r1 q1) he hpl
theorem uD(hc:rR X (.type T) r)(hg:Gl X x)(hm:X.mg x=none)(hv:bootBuiltins x=some (.type T))(ha:PA X (e::es) t)(hn:x ≠ "__name__":=by decide)(hdb:(x==("__debug__":Str))=false:=by decide)(he:starEach (e::es) X.env=(false,eval e X.env)::starEach es X.env:=by rfl)(hpl:(backTo pos (starEach es X.env)).any (·.1)=false:=by rfl):PE X (.Call (.Name x p) (e::es) [] pos) (z_ r t):=by
 intro pins s σ H Q I h
 refine abo (zy I hg hm hv ?_ hn hdb)
 exact aa4 (aN (ha pos pins s σ H _ I h) λus s1 ⟨vs,H1,I1,r1,q1⟩=>hc pins s1 σ H1 vs us Q I1 r1 q1) he hpl
end
section
variable{κ:Type}[DecidableEq κ]
def gB(kvs:List (κ×V))(k:κ):Option V:=(kvs.find? λkv=>decide (kv.1=k)).map (·.2)
def putK(kvs:List (κ×V))(k:κ)(v:V):List (κ×V) :=
 if(kvs.any λkv=>decide (kv.1=k))=true then kvs.map (λkv=>if kv.1=k then(kv.1,v) else kv) else kvs++[(k,v)]
theorem T4{p:κ×V}{r:List (κ×V)}{k:κ}(e:p.1=k):gB (p::r) k=some p.2:=by simp[gB,find?_cons,e]
theorem T5{p:κ×V}{r:List (κ×V)}{k:κ}(e:¬p.1=k):gB (p::r) k=gB r k:=by simp[gB,find?_cons,e]
theorem Ye(k:κ):∀kvs:List (κ×V),(kvs.any λkv=>decide (kv.1=k))=(gB kvs k).isSome
 |[]=>rfl
 |p::r=>by
  rw[any_cons]
  by_cases e:p.1=k
  ·simp only[T4 e,decide_eq_true e,Bool.true_or,ac1]
  ·rw[T5 e,decide_eq_false e,adh];exact Ye k r
theorem Yg(kvs:List (κ×V))(k:κ)(v:V):(putK kvs k v).length<=kvs.length+1:=by
 unfold putK
 split
 ·rw[length_map];omega
 ·rw[length_append,length_cons,length_nil];omega
theorem iy.eZ(r:iy o u):o.isSome=u.isSome:=by
 cases o with
 |none=>cases u with
  |none=>rfl
  |some _=>exact(show False from r).elim
 |some _=>cases u with
  |none=>exact(show False from r).elim
  |some _=>rfl
theorem iy.getD(r:iy o u)(rd:RelV d d'):RelV (o.getD d) (u.getD d'):=by
 cases o with
 |none=>cases u with
  |none=>exact rd
  |some _=>exact(show False from r).elim
 |some _=>cases u with
  |none=>exact(show False from r).elim
  |some _=>exact r
theorem KV.val(r:KV kvs vs)(k:κ):iy (gB kvs k) (valueAt vs k):=by
 unfold KV at r
 induction r with
 |nil=>exact ab7
 |@cons p q ps qs h t ih =>
  obtain⟨h1,h2⟩:=h
  by_cases e:p.1=k
  ·have e':q.1=k:=h1.symm.trans e
   have b:valueAt (q::qs) k=some q.2:=by simp[valueAt,find?_cons,e']
   rw[T4 e,b];exact h2
  ·have e':¬q.1=k:=λz=>e (h1.trans z)
   have b:valueAt (q::qs) k=valueAt qs k:=by simp[valueAt,find?_cons,e']
   rw[T5 e,b];exact ih
theorem KV.any(r:KV kvs vs)(k:κ):(kvs.any λkv=>decide (kv.1=k))=vs.any λkv=>decide (kv.1=k):=by
 unfold KV at r
 induction r with
 |nil=>rfl
 |cons h t ih=>rw[any_cons,any_cons,ih,h.1]
theorem KV.repl(r:KV kvs vs)(k:κ)(ry:RelV y u) :
  KV (kvs.map λkv=>if kv.1=k then(kv.1,y) else kv) (vs.map λkv=>if kv.1=k then(kv.1,u) else kv):=by
 unfold KV at r ⊢
 induction r with
 |nil=>exact .nil
 |@cons p q ps qs h t ih =>
  rw[map_cons,map_cons]
  refine .cons ?_ ih
  obtain⟨h1,h2⟩:=h
  by_cases e:p.1=k
  ·rw[if_pos e,if_pos (h1.symm.trans e)];exact⟨h1,ry⟩
  ·rw[if_neg e,if_neg (λz=>e (h1.trans z))];exact⟨h1,h2⟩
theorem KV.put(r:KV kvs vs)(k:κ)(ry:RelV y u):KV (putK kvs k y) (stored vs k u):=by
 unfold putK stored
 rw[r.any k]
 by_cases e:(vs.any λkv=>decide (kv.1=k))=true
 ·rw[if_pos e,if_pos e];exact r.repl k ry
 ·rw[if_neg e,if_neg e];exact Paired.snoc r ⟨rfl,ry⟩
theorem KV.length(r:KV kvs vs):kvs.length=vs.length:=adz r
end
theorem Rf(r:RelV (kV k) u):(wX P w).is k u=true:=by
 cases k with
 |inl i=>obtain⟨t,e⟩:=(show∃t,u=abp i t from r);subst e;exact zI9 P w i t
 |inr x=>obtain⟨t,e⟩:=(show∃t,u=aec x t from r);subst e;exact zI8 P w x t
theorem Yh:∀{ks:List Key}{us:List Value},Vals (ks.map kV) us->ItemsAre (wX P w) ks us
 |[],_,r=>by rw[List.map_nil] at r;cases r;exact .nil
 |k::ks,_,r=>by
  rw[map_cons] at r
  cases r with
  |cons h t=>exact .cons (Rf h) (Yh t)
abbrev KT(H:Hp):List (List Key×V)->List (List Key×Addr×Value)->Prop:=Paired λp q=>p.1=q.1/\H q.2.1=some (.tup (p.1.map kV))/\RelV p.2 q.2.2
theorem KT.val(r:KT H kvs xs)(k:List Key):iy (gB kvs k) ((atKey xs k).map (·.2)):=by
 induction r with
 |nil=>exact ab7
 |@cons p q ps qs h t ih =>
  obtain⟨h1,_,h2⟩:=h
  by_cases e:p.1=k
  ·have e':q.1=k:=h1.symm.trans e
   have b:atKey (q::qs) k=some q.2:=by simp[atKey,find?_cons,e']
   rw[T4 e,b];exact h2
  ·have e':¬q.1=k:=λz=>e (h1.trans z)
   have b:atKey (q::qs) k=atKey qs k:=by simp[atKey,find?_cons,e']
   rw[T5 e,b];exact ih
theorem KT.repl(r:KT H kvs xs)(k:List Key)(ry:RelV y u) :
  KT H (kvs.map λkv=>if kv.1=k then(kv.1,y) else kv) (xs.map (putAt k u)):=by
 induction r with
 |nil=>exact .nil
 |@cons p q ps qs h t ih =>
  rw[map_cons,map_cons]
  refine .cons ?_ ih
  obtain⟨h1,h2,h3⟩:=h
  unfold putAt
  by_cases e:p.1=k
  ·rw[if_pos e,if_pos (h1.symm.trans e)];exact⟨h1,h2,ry⟩
  ·rw[if_neg e,if_neg (λz=>e (h1.trans z))];exact⟨h1,h2,h3⟩
theorem KT.put(r:KT H kvs xs)(k:List Key)(hb:H b=some (.tup (k.map kV)))(ry:RelV y u) :
  KT H (putK kvs k y) (storedH xs k b u):=by
 have e:(kvs.any λkv=>decide (kv.1=k))=(atKey xs k).isSome:=by
  rw[Ye,(r.val k).eZ,adw]
 unfold putK storedH
 rw[e]
 by_cases q:(atKey xs k).isSome=true
 ·rw[if_pos q,if_pos q];exact r.repl k ry
 ·rw[if_neg q,if_neg q];exact Paired.snoc r ⟨rfl,hb,ry⟩
theorem KT.keeps(r:KT H kvs xs)(ht:∀b ys,H b=some (.tup ys)->H' b=some (.tup ys)):KT H' kvs xs :=
 Paired.G3 r λ_ _ z=>⟨z.1,ht _ _ z.2.1,z.2.2⟩
section
variable{P:Program}{w:World}{H:Hp}{h:Heap}{a:Addr}
theorem Fp(ok:g_ P w H h)(e:Rd H a u):bh P w H h a u:=e.ok ok
theorem uz(ok:g_ P w H h)(e:Rd H a (.dK kvs)):kvs.length<=sizeLine/\(a==sysModules)=false/\∃vs,KV kvs vs/\h.DictOf (wX P w) a vs :=
 show bh P w H h a (.dK kvs) from Fp ok e
theorem NT(ok:g_ P w H h)(e:H a=some (.dK kvs)):kvs.length<=sizeLine/\(a==sysModules)=false/\∃vs,KV kvs vs/\h.DictOf (wX P w) a vs:=uz ok (.inl e)
theorem Rg{ks:List Key}(ok:g_ P w H h)(e:H a=some (.tup (ks.map kV))):(tupleKind (wX P w)).is h ks a:=by
 obtain⟨_,its,r,o,h1,h2,n,h3⟩:=(show bh P w H h a (.tup (ks.map kV)) from ok a _ e)
 exact⟨o,its.toArray,n,h1,h2,h3,by simpa using Yh r⟩
theorem u5(ok:g_ P w H h)(e:Rd H a (.dT kvs)):kvs.length<=sizeLine/\(a==sysModules)=false /\
  ∃xs,KT H kvs xs/\h.DictOfH (tupleKind (wX P w)) a xs:=by
 obtain⟨z,y,xs,r,o,es,ep,h1,h2,h3,h4,h5⟩:=(show bh P w H h a (.dT kvs) from Fp ok e)
 refine⟨z,y,xs,r,o,es,ep,h1,h2,h3,h4,λx hx=>?_,h5⟩
 have all:∀{l:List (List Key×V)}{m:List (List Key×Addr×Value)},KT H l m->∀x∈m,(tupleKind (wX P w)).is h x.1 x.2.1:=by
  intro l m q
  induction q with
  |nil=>intro x hx;exact nomatch hx
  |@cons p q ps qs hq t ih =>
   intro x hx
   rcases mem_cons.mp hx with e|hx
   ·subst e
    exact Rg ok (by rw[<-hq.1];exact hq.2.1)
   ·exact ih x hx
 exact all r x hx
theorem NZ(ok:g_ P w H h)(e:H a=some (.dT kvs)):kvs.length<=sizeLine/\(a==sysModules)=false /\
  ∃xs,KT H kvs xs/\h.DictOfH (tupleKind (wX P w)) a xs:=u5 ok (.inl e)
end
def oF(H:Hp)(a:Addr)(y:V)(r:Option V):Prop :=
 (∃kvs k,Rd H a (.dK kvs)/\y=kV k/\r=gB kvs k)\/∃kvs k b,Rd H a (.dT kvs)/\y=.ref b/\H b=some (.tup (k.map kV))/\r=gB kvs k
def rW(H:Hp)(a:Addr)(y v:V)(H':Hp):Prop :=
 (∃kvs k,H a=some (.dK kvs)/\y=kV k/\kvs.length<sizeLine/\H'=upd H a (.dK (putK kvs k v))) \/
 ∃kvs k b,H a=some (.dT kvs)/\y=.ref b/\H b=some (.tup (k.map kV))/\kvs.length<sizeLine/\H'=upd H a (.dT (putK kvs k v))
theorem oF.k{H:Hp}{a:Addr}{kvs:List (Key×V)}{k:Key}(e:H a=some (.dK kvs)):oF H a (kV k) (gB kvs k):=.inl ⟨kvs,k,.inl e,rfl,rfl⟩
theorem rW.k{H:Hp}{a:Addr}{kvs:List (Key×V)}{k:Key}{v:V}(e:H a=some (.dK kvs))(hl:kvs.length<sizeLine):rW H a (kV k) v (upd H a (.dK (putK kvs k v))):=.inl ⟨kvs,k,e,rfl,hl,rfl⟩
section
variable{X:Cx}{pins:List (Addr×Obj)}{σ:St}{H:Hp}{s:Shared}{a:Addr}{y v:V}{u r:Value}{o:Option V}{A:Around}{E:Value->Shared->Prop}
theorem Inv.big(I:Inv X pins σ H s):sysModules<s.heap.objs.size:=by
 have h:aax<s.heap.objs.size:=(I.mod.glob.keeps I.bk).lt
 exact ac8 (by decide) h
theorem T6{Q:Value->Shared->Prop}(hu:A.units+1<cLine)(I:Inv X pins σ H s)(g:oF H a y o)(ry:RelV y u)(h:∀s',Inv X pins σ H s'->Q (.bool o.isSome) s') :
  wpAny (model X.prog X.w) A (compareOp .In u (.ref a)) Q E s:=by
 rcases g with⟨kvs,k,e,ey,l⟩|⟨kvs,k,b,e,ey,eb,l⟩
 ·subst ey
  obtain⟨z,hd,vs,rel,dd⟩:=uz I.hok e
  refine wpAny_in_of (Rf ry) hd dd.mapOf ?_
  rw[<-(rel.val k).eZ,<-l]
  exact h _ (I.tok _)
 ·subst ey
  cases(show u=aa5 b from ry)
  obtain⟨z,hd,xs,rel,dd⟩:=u5 I.hok e
  refine wpAny_in_heap (ado hu) (Rg I.hok eb) hd dd ?_
  have q:=(rel.val k).eZ
  rw[adw] at q
  rw[<-q,<-l]
  exact h _ (I.tok _)
theorem Bc{Q:Value->Shared->Prop}(hu:A.units+1<cLine)(I:Inv X pins σ H s)(g:oF H a y o)(ry:RelV y u)(h:∀s',Inv X pins σ H s'->Q (.bool (!o.isSome)) s') :
  wpAny (model X.prog X.w) A (compareOp .NotIn u (.ref a)) Q E s:=by
 rcases g with⟨kvs,k,e,ey,l⟩|⟨kvs,k,b,e,ey,eb,l⟩
 ·subst ey
  obtain⟨z,hd,vs,rel,dd⟩:=uz I.hok e
  refine wpAny_notIn_of (Rf ry) hd dd.mapOf ?_
  rw[<-(rel.val k).eZ,<-l]
  exact h _ (I.tok _)
 ·subst ey
  cases(show u=aa5 b from ry)
  obtain⟨z,hd,xs,rel,dd⟩:=u5 I.hok e
  refine wpAny_notIn_heap (ado hu) (Rg I.hok eb) hd dd ?_
  have q:=(rel.val k).eZ
  rw[adw] at q
  rw[<-q,<-l]
  exact h _ (I.tok _)
theorem Yi(I:Inv X pins σ H s)(mu:M7 (H a))(hs:SameBut a s.heap h')(he:∃q,h'.get? a=some q)(new:bh X.prog X.w (upd H a ob) h' a ob) :
  Inv X pins σ (upd H a ob) { s with heap:=h',toks:=t' } :=
 I.write (x:=a) (e:=a) mu (.inl rfl) (λb q hb z=>(hs.2 b hb).trans z) he new
theorem HF{h':Heap}{kvs:List (Key×V)}(z:kvs.length<=sizeLine)(hd:(a==sysModules)=false)(rel:KV kvs vs)(dd:h'.DictOf (wX P w) a vs) :
  bh P w H' h' a (.dK kvs):=⟨z,hd,vs,rel,dd⟩
theorem zPt{Q:Unit->Shared->Prop}(hu:A.units+1<cLine)(I:Inv X pins σ H s)(g:rW H a y v H')(ry:RelV y u)(rv:RelV v r)(h:∀s',Inv X pins σ H' s'->Q () s') :
  wpAny (model X.prog X.w) A (setItem (.ref a) u r) Q E s:=by
 rcases g with⟨kvs,k,e,ey,l,eH⟩|⟨kvs,k,b,e,ey,eb,l,eH⟩
 ·subst ey eH
  obtain⟨z,hd,vs,rel,dd⟩:=NT I.hok e
  have hz:vs.length<=sizeLine:=by rw[<-rel.length];exact z
  have hl:(putK kvs k v).length<=sizeLine:=by have:=Yg kvs k v;omega
  refine wpAny_setItem_pairs (hsz:=hz) (Rf ry) dd λh' Rh hs=>h _ ?_
  have he:∃q,h'.get? a=some q:=let⟨q,_,_,hq,_⟩:=Rh;⟨q,hq⟩
  exact Yi I (by rw[e];exact ab7) hs he (HF hl hd (rel.put k rv) Rh)
 ·subst ey eH
  cases(show u=aa5 b from ry)
  obtain⟨z,hd,xs,rel,dd⟩:=NZ I.hok e
  have hz:xs.length<=sizeLine:=by rw[<-adz rel];exact z
  have hl:(putK kvs k v).length<=sizeLine:=by have:=Yg kvs k v;omega
  refine wpAny_setItem_heap (hsz:=hz) (ado hu) (Rg I.hok eb) dd λh' Rh hs=>h _ ?_
  obtain⟨q,es,ep,hq,h2,h3,h4,_,h5⟩:=Rh
  refine Yi I (by rw[e];exact ab7) hs ⟨q,hq⟩ ⟨hl,hd,_,(rel.put k eb rv).keeps λc ys ec=>?_,q,es,ep,hq,h2,h3,h4,h5⟩
  rw[zO (M6 ec e (λz=>nomatch z))]
  exact ec
end
section
variable{X:Cx}{pins:List (Addr×Obj)}{σ:St}{H:Hp}{s:Shared}{a:Addr}{kvs:List (Key×V)}{k:Key}{u:Value}{A:Around}{E:Value->Shared->Prop}
end
def HJ(ty td:TE):TE:=λσ H Q=>ty σ H λy H1=>td σ H1 λx H2=>∃a o,x=.ref a/\oF H2 a y o/\Q (.bl o.isSome) H2
def Yj(ty td:TE):TE:=λσ H Q=>ty σ H λy H1=>td σ H1 λx H2=>∃a o,x=.ref a/\oF H2 a y o/\Q (.bl (!o.isSome)) H2
def u_(td ty tv:TE):TS:=λD σ H=>tv σ H λv H1=>td σ H1 λx H2=>ty σ H2 λy H3=>∃a H4,x=.ref a/\rW H3 a y v H4/\D.nx σ H4
section
variable{X:Cx}{o i e value:Expr}{pos pos' tpos:Pos}{td ty tv:TE}
theorem Yk(hu:X.A.units+1<cLine)(hi:PE X i ty)(ho:PE X o td):PC X .In i o (HJ ty td):=by
 intro pins s σ H Q I h
 refine aN (hi pins s σ H _ I h) λiv s1 ⟨y,H1,I1,ry,q1⟩=>aN (ho pins s1 σ H1 _ I1 q1) λu s2 ⟨x,H2,I2,rx,a,ov,ex,g,q2⟩=>?_
 subst ex
 obtain rfl:u=aa5 a:=rx
 exact T6 hu I2 g ry λs3 I3=>⟨.bl ov.isSome,H2,I3,rfl,q2⟩
theorem zOa(hu:X.A.units+1<cLine)(hi:PE X i ty)(ho:PE X o td):PC X .NotIn i o (Yj ty td):=by
 intro pins s σ H Q I h
 refine aN (hi pins s σ H _ I h) λiv s1 ⟨y,H1,I1,ry,q1⟩=>aN (ho pins s1 σ H1 _ I1 q1) λu s2 ⟨x,H2,I2,rx,a,ov,ex,g,q2⟩=>?_
 subst ex
 obtain rfl:u=aa5 a:=rx
 exact Bc hu I2 g ry λs3 I3=>⟨.bl (!ov.isSome),H2,I3,rfl,q2⟩
theorem T7(hu:X.A.units+1<cLine)(ho:PE X o td)(hi:PE X i ty)(hv:PE X value tv)(hs:swapsWith value (some (.Subscript o i pos')) pos.line X.env=pure false) :
  PS X (.Assign [.Subscript o i pos'] value pos) (u_ td ty tv):=by
 intro pins s σ H D I h
 refine wpAny_Assign_Subscript (aN (hv pins s σ H _ I h) λr s1 ⟨v,H1,I1,rv,q1⟩=>aN (ho pins s1 σ H1 _ I1 q1) λu s2 ⟨x,H2,I2,rx,q2⟩=>aN (hi pins s2 σ H2 _ I2 q2) λiv s3 ⟨y,H3,I3,ry,a,H4,ex,g,q3⟩=>?_) hs
 subst ex
 obtain rfl:u=aa5 a:=rx
 exact zPt hu I3 g ry rv λs4 I4=>⟨σ,H4,I4,q3⟩
end
theorem zSd(h:Heap)(hb:sysModules<h.objs.size):bh P w H (h.push { cls:=.type "dict",data:=.dict #[] }) h.objs.size (.dK []) :=
 ⟨aa0 _,beq_eq_false_iff_ne.mpr (ab8 (aaj hb)),[],.nil,Heap.DictOf.new h⟩
def Ym:TE:=λ_ H Q=>∀p,H p=none->Q (.ref p) (upd H p (.dK []))
section
variable{X:Cx}{pos:Pos}
theorem T8:PE X (.Dict [] [] pos) Ym:=λpins s σ H Q I h =>
 wpAny_Dict_empty ⟨.ref s.heap.objs.size,_,I.laid (a:=s.heap.objs.size) (o:=.dK []) (t':=s.toks) (λ_ _ q=>get?_push_of_some _ q) (aaf _) (zSd s.heap I.big),rfl,h _ (I.hok.fresh (aaf _))⟩
end
structure M1(X:Cx)(o:Expr)(m:Str)(apos:Pos)(e:Expr)(cpos:Pos):Prop where
 base:attributeBase o m X.env (eval o X.env)=eval o X.env
 few:((backTo cpos (starEach [e] X.env)).all (λx=>!x.1)&&(backToKw cpos (keywordEach [] X.env)).all (λx=>x.1.isSome)
  && decide (([e]:List Expr).length+([]:List Keyword).length+(if([]:List Keyword).isEmpty then 0 else 1)<30))=true
 line:(apos.endLine==cpos.line)=true
 trees:backTo cpos (starEach [e] X.env)=[(false,eval e X.env)]
structure M2(X:Cx)(o:Expr)(m:Str)(apos:Pos)(e f:Expr)(cpos:Pos):Prop where
 base:attributeBase o m X.env (eval o X.env)=eval o X.env
 few:((backTo cpos (starEach [e,f] X.env)).all (λx=>!x.1)&&(backToKw cpos (keywordEach [] X.env)).all (λx=>x.1.isSome)
  && decide (([e,f]:List Expr).length+([]:List Keyword).length+(if([]:List Keyword).isEmpty then 0 else 1)<30))=true
 line:(apos.endLine==cpos.line)=true
 trees:backTo cpos (starEach [e,f] X.env)=[(false,eval e X.env),(false,eval f X.env)]
section
variable{X:Cx}{pins:List (Addr×Obj)}{σ:St}{H:Hp}{s:Shared}{a:Addr}{y d:V}{u r:Value}{o:Option V}{A:Around}{E:Value->Shared->Prop}
end
section
variable{X:Cx}{o e f:Expr}{apos cpos:Pos}{td ty tx:TE}
end
section
variable{X:Cx}{pins:List (Addr×Obj)}{σ:St}{H:Hp}{s:Shared}{a:Addr}{kvs:List (Key×V)}{A:Around}{E:Value->Shared->Prop}
end
section
variable{X:Cx}{pins:List (Addr×Obj)}{σ:St}{H:Hp}{s:Shared}{a:Addr}{y:V}{u:Value}{A:Around}{E:Value->Shared->Prop}
end
end L2
namespace HT
open PySem PyProof.Rows
section
open PySem.SeqAt
open PySem.AutoSeq1 (wpAny_loadPart')
open PySem.MeetsSeq PySem.MeetsSeq2 PySem.MeetsSeq3
end
section
variable{prog:Program}{w:World}{A:Around}{E:Value->Shared->Prop}{s:Shared}
def oG(n d:Nat):Option Int->Nat
 |none=>d
 |some v=>if v<0 then(v+(n:Int)).toNat else min v.toNat n
theorem Bd(n d k:Nat):oG n d (some (k:Int))=min k n:=by
 show(if(k:Int)<0 then((k:Int)+(n:Int)).toNat else min (k:Int).toNat n)=min k n
 rw[if_neg (by omega),aa8]
end
end HT
namespace L2
open PySem PySem.Spec PyProof.Rows
abbrev TO:=St->Hp->(Option Int->Hp->Prop)->Prop
def PO(X:Cx)(e:Option Expr)(t:TO):Prop :=
 ∀(pins:List (Addr×Obj))(s:Shared)(σ:St)(H:Hp)(Q:Option Int->Hp->Prop),Inv X pins σ H s->t σ H Q ->
  wpAny (model X.prog X.w) X.A (evalPart e X.env) (λu s'=>∃o H',Inv X pins σ H' s'/\IsPart u o/\Q o H') X.xe s
def Yn:TO:=λ_ H Q=>Q none H
def Fq(t:TE):TO:=λσ H Q=>t σ H λx H1=>∃i,x=.int i/\Q (some i) H1
section
variable{X:Cx}{e:Expr}{te:TE}{lo hi:Option Expr}{tl th:TO}{pos p2:Pos}
theorem Bg:PO X none Yn:=by
 intro pins s σ H Q I h
 rw[evalPart_none]
 exact aae ⟨none,H,I,.none,h⟩
theorem Bh(h:PE X e te):PO X (some e) (Fq te):=by
 intro pins s σ H Q I hw
 rw[evalPart_some]
 refine aN (h pins s σ H _ I hw) λu s1 ⟨x,H1,I1,r1,q1⟩=>?_
 obtain⟨i,rfl,q⟩:=q1
 obtain⟨t,rfl⟩:=r1
 exact⟨some i,H1,I1,.int i t,q⟩
def T9(X:Cx)(r:V->Option Int->Option Int->Hp->VK->Prop):Prop :=
 ∀(pins:List (Addr×Obj))(s:Shared)(σ:St)(H:Hp)(x:V)(v vl vu:Value)(lo hi:Option Int)(sl:Addr)(Q:VK),Inv X pins σ H s->RelV x v->s.heap.IsSliceOf sl vl vu .none->IsPart vl lo->IsPart vu hi->r x lo hi H Q ->
  ∃T id,typeLookup (.type T) "__getitem__" = pure (some (.builtin id))/\s.TypeIs v T/\wpAny (model X.prog X.w) X.A (getItem v (.ref sl)) (EP X pins σ Q) X.xe s
def Yo(r:V->Option Int->Option Int->Hp->VK->Prop)(te:TE)(tl th:TO):TE:=λσ H Q=>te σ H λx H1=>tl σ H1 λl H2=>th σ H2 λu H3=>r x l u H3 Q
theorem zRd(hr:T9 X r)(he:PE X e te)(hl:PO X lo tl)(hu:PO X hi th):PE X (.Subscript e (.Slice lo hi none p2) pos) (Yo r te tl th):=by
 intro pins s σ H Q I h
 refine Subscript_ (aN (he pins s σ H _ I h) λv s1 ⟨x,H1,I1,r1,q1⟩=>?_)
 refine wpAny_Slice (aN (hl pins s1 σ H1 _ I1 q1) λvl s2 ⟨l,H2,I2,pl,q2⟩=>aN (hu pins s2 σ H2 _ I2 q2) λvu s3 ⟨u,H3,I3,pu,q3⟩=>?_)
 rw[evalPart_none]
 refine aae ?_
 have I4:Inv X pins σ H3 { s3 with heap:=s3.heap.push { cls:=.type "slice",data:=.fields #[vl,vu,.none] } }:=I3.kept (t':=s3.toks) λb ob q=>get?_push_of_some _ q
 obtain⟨T,id,hT,ht,hg⟩:=hr pins { s3 with heap:=s3.heap.push { cls:=.type "slice",data:=.fields #[vl,vu,.none] } } σ H3 x v vl vu l u s3.heap.objs.size Q I4 r1 (Heap.IsSliceOf.new ..) pl pu q3
 show wpAny (model X.prog X.w) X.A (subscriptTail e (.Slice lo hi none p2) v (.ref s3.heap.objs.size)) (EP X pins σ Q) X.xe { s3 with heap:=s3.heap.push { cls:=.type "slice",data:=.fields #[vl,vu,.none] } }
 exact tail_any (ops:=[.ref s3.heap.objs.size,v]) ht hT hg (by with_unfolding_all rfl)
def rY(xs:List V)(lo hi:Option Int):List V:=(xs.drop (HT.oG xs.length 0 lo)).take (HT.oG xs.length xs.length hi-HT.oG xs.length 0 lo)
theorem zJn(xs:List V)(lo hi:Option Int):(rY xs lo hi).length<=xs.length:=by
 unfold rY
 rw[length_take,length_drop]
 omega
end
def rB(n:Nat)(i:Int):Option Nat:=if 0<=i then(if i<n then some i.toNat else none) else if -(n:Int)<=i then some (i+n).toNat else none
def bF{α:Type}(xs:List α)(i:Int):Option α:=(rB xs.length i).bind λj=>xs[j]?
theorem Yp(h:rB n i=some j):seqIndex? i n=some j/\j<n /\ -(n:Int)<=i/\i<n:=by
 unfold rB at h
 by_cases h0:0<=i
 ·rw[if_pos h0] at h
  by_cases h1:i<n
  ·rw[if_pos h1] at h
   have e:i.toNat=j:=aai h
   exact⟨by rw[aea h0 h1,e],by omega,by omega,h1⟩
  ·rw[if_neg h1] at h;cases h
 ·rw[if_neg h0] at h
  by_cases h1:-(n:Int)<=i
  ·rw[if_pos h1] at h
   have e:(i+n).toNat=j:=aai h
   exact⟨by rw[aer (by omega) h1,e],by omega,h1,by omega⟩
  ·rw[if_neg h1] at h;cases h
theorem Yq{α:Type}{xs:List α}{v:α}(h:bF xs i=some v):∃j,seqIndex? i xs.length=some j/\xs[j]?=some v/\j<xs.length /\ -(xs.length:Int)<=i/\i<xs.length:=by
 unfold bF at h
 cases e:rB xs.length i with
 |none=>rw[e] at h;cases h
 |some j =>
  rw[e] at h
  obtain⟨h1,h2,h3,h4⟩:=Yp e
  exact⟨j,h1,h,h2,h3,h4⟩
theorem Bj{α:Type}{xs:List α}{j:Nat}{v:α}(h:xs[j]?=some v):bF xs (j:Int)=some v:=by
 have hj:j<xs.length:=(aao.mp h).1
 have e:rB xs.length (j:Int)=some j:=by
  unfold rB
  rw[if_pos (by omega),if_pos (by omega)];simp
 unfold bF;rw[e];exact h
def Bk(b:Expr):Prop:=∀o i,subscripted b false o i=operate [o,i] (getItem o i)
def T_(X:Cx)(r:R2):Prop :=
 ∀(value slice:Expr)(pins:List (Addr×Obj))(s:Shared)(σ:St)(H:Hp)(x y:V)(v u:Value)(Q:VK),Inv X pins σ H s->RelV x v->RelV y u->r x y H Q ->
  subscripted slice false v u=operate [v,u] (getItem v u)->wpAny (model X.prog X.w) X.A (subscriptTail value slice v u) (EP X pins σ Q) X.xe s
def Yr(X:Cx)(id:String)(r:V->List V->Hp->VK->Prop):Prop :=
 ∀(pins:List (Addr×Obj))(s:Shared)(σ:St)(H:Hp)(x:V)(xs:List V)(v:Value)(us:List Value)(Q:VK),Inv X pins σ H s->RelV x v->Vals xs us->r x xs H Q ->
  wpAny (model X.prog X.w) X.A (call (.builtin id) (v::us)) (EP X pins σ Q) X.xe s
section
variable{X:Cx}{a b:Expr}{ta tb:TE}{pos:Pos}
theorem xQ(hr:T_ X r)(ha:PE X a ta)(hb:PE X b tb)(hs:Bk b):PE X (.Subscript a b pos) (mW r ta tb):=by
 intro pins s σ H Q I h
 exact Subscript_ (Hu ha hb I h λv u s2 x y H2 I2 rx ry q=>hr a b pins s2 σ H2 x y v u Q I2 rx ry q (hs _ _))
def Bo(K:PySem.W.Frag):R2:=λx y H Q=>∃p xs i v,x=.ref p/\y=.int i/\bw K H p xs/\bF xs i=some v/\Q v H
theorem Ys:T_ X (Bo X.K):=by
 intro value slice pins s σ H x y v u Q I rx ry h hs
 obtain⟨p,xs,i,z,rfl,rfl,hq,he,q⟩:=h
 cases rx
 obtain⟨t,rfl⟩:=ry
 obtain⟨its,r,pl,hz⟩:=I.list hq
 obtain⟨j,h1,h2,h3,h4,h5⟩:=Yq he
 obtain⟨w,ew,Ua⟩:=r.get h2
 have hl:=r.length
 have hn:=Lh
 have fin:EP X pins σ Q w s:=⟨z,H,I,Ua,q⟩
 by_cases h0:0<=i
 ·have hj:i.toNat=j:=by
   rw[aea h0 h5] at h1
   exact aai h1
  exact item_listR pl.isList h0 (by omega) (by rw[hj];simpa using ew) fin hs
 ·have hj:(i+(its.toArray.size:Int)).toNat=j:=by
   rw[aer (by omega) h4] at h1
   rw[size_toArray,<-hl]
   exact aai h1
  exact subscriptTail_builtinR (x:=w) pl.isList.typeIs slot_list_getitem.lookup
   (wpAny_getItem_list_neg (Q:=λr s'=>r=w/\EP X pins σ Q r s') pl.isList (by omega) (by rw[size_toArray]<;>omega) (by omega) (by rw[hj];simpa using ew) ⟨rfl,fin⟩) hs
theorem zL5(its:List Value)(n j:Nat)(u:Value):acg (·.setIfInBounds j u) { cls:=.type "list",data:=.seq its.toArray n }={ cls:=.type "list",data:=.seq (its.set j u).toArray n }:=by
 simp[acg]
theorem Inv.lst(I:Inv X pins σ H s)(h:H p=some (.lst xs)) :
  ∃(its:List Value)(n:Nat),Vals xs its/\s.heap.get? p=some { cls:=.type "list",data:=.seq its.toArray n }/\xs.length<=sizeLine:=by
 obtain⟨z,its,n,r,e⟩:=I.hok p _ h
 exact⟨its,n,r,e,z⟩
theorem Inv.HN{its its':List Value}(I:Inv X pins σ H s)(h:H p=some (.lst xs))(ho:s.heap.get? p=some { cls:=.type "list",data:=.seq its.toArray n })(hf:f { cls:=.type "list",data:=.seq its.toArray n }={ cls:=.type "list",data:=.seq its'.toArray n' })(r:Vals ys its')(hz:ys.length<=sizeLine)(t:Nat) :
  Inv X pins σ (upd H p (.lst ys)) { s with heap:=s.heap.update p f,toks:=t }:=by
 have e:(s.heap.update p f).get? p=some { cls:=.type "list",data:=.seq its'.toArray n' }:=by
  rw[get?_update_self f ho (by rw[hf]<;>rfl),hf]
 refine I.write (x:=p) (e:=p) (by rw[h];trivial) (.inl rfl) (λb u hb q=>(get?_update_other _ _ (ab8 hb)).trans q) ⟨_,e⟩ ?_
 exact⟨hz,its',n',r,e⟩
def vd:V->V->V->Hp->(Hp->Prop)->Prop:=λo i v H Q=>∃p xs k j,o=.ref p/\i=.int k/\H p=some (.lst xs)/\rB xs.length k=some j/\Q (upd H p (.lst (xs.set j v)))
theorem Lj:Hf X vd:=by
 intro pins s σ H o i v ov iv u Q I ro ri rv h
 obtain⟨p,xs,k,j,rfl,rfl,hp,hj,q⟩:=h
 cases ro
 obtain⟨t,rfl⟩:=ri
 obtain⟨its,n,r,ho,hz⟩:=I.lst hp
 obtain⟨h1,h2,h3,h4⟩:=Yp hj
 have hl:=r.length
 have hn:=Lh
 have I':Inv X pins σ (upd H p (.lst (xs.set j v))) { s with heap:=s.heap.update p (acg (·.setIfInBounds j u)) } :=
  I.HN hp ho (zL5 its n j u) (r.set rv j) (by rw[length_set];exact hz) s.toks
 by_cases h0:0<=k
 ·have hk:k.toNat=j:=by
   rw[aea h0 h4] at h1
   exact aai h1
  exact PySem.W.ki_setAt ho h0 (by omega) (by rw[size_toArray,<-hl];exact h4) (by rw[hk];exact⟨_,I',q⟩)
 ·have hk:(k+(its.toArray.size:Int)).toNat=j:=by
   rw[aer (by omega) h3] at h1
   rw[size_toArray,<-hl]
   exact aai h1
  exact PySem.W.ki_setBack ho (by omega) (by rw[size_toArray,<-hl];exact h3) (by omega) (by rw[hk];exact⟨_,I',q⟩)
theorem zG9(lo hi:Option Int)(n:Nat):(sliceBounds lo hi none n).1=((HT.oG n 0 lo:Nat):Int)/\(sliceBounds lo hi none n).2.1=((HT.oG n n hi:Nat):Int)/\(sliceBounds lo hi none n).2.2=1:=by
 refine⟨?_,?_,rfl⟩
 ·cases lo with
  |none=>simp[sliceBounds,HT.oG]
  |some i =>
   simp only[sliceBounds,HT.oG,Option.getD_none,show(1:Int) > 0 by decide,if_true]
   by_cases h:i<0
   ·simp only[h,if_true]<;>omega
   ·simp only[h,if_false]<;>omega
 ·cases hi with
  |none=>simp[sliceBounds,HT.oG]
  |some i =>
   simp only[sliceBounds,HT.oG,Option.getD_none,show(1:Int) > 0 by decide,if_true]
   by_cases h:i<0
   ·simp only[h,if_true]<;>omega
   ·simp only[h,if_false]<;>omega
theorem zFx(its:List Value)(lo hi:Option Int):slicePick its.toArray lo hi none=((its.drop (HT.oG its.length 0 lo)).take (HT.oG its.length its.length hi-HT.oG its.length 0 lo)).toArray:=by
 obtain⟨h1,h2,h3⟩:=zG9 lo hi its.toArray.size
 unfold slicePick
 rw[h1,h2,h3]
 simp only[sliceRange_one,pick_run,size_toArray]<;>rfl
def HS(K:PySem.W.Frag):V->Option Int->Option Int->Hp->VK->Prop:=λx lo hi H Q=>∃a xs,x=.ref a/\bw K H a xs/\∀p,H p=none->Q (.ref p) (upd H p (.lst (rY xs lo hi)))
theorem Bp:T9 X (HS X.K):=by
 intro pins s σ H x v vl vu lo hi sl Q I rx hs pl pu h
 obtain⟨a,xs,rfl,hx,q⟩:=h
 cases rx
 obtain⟨its,r,ht,hz⟩:=I.list hx
 have hlen:=r.length
 refine⟨"list",_,slot_list_getitem.lookup,ht.isList.typeIs,?_⟩
 refine wpAny_getItem_list_slice ht.isList hs pl pu .none (by simp) ?_ (by rw[size_toArray]<;>omega)
 rw[zFx,<-hlen]
 refine⟨.ref s.heap.objs.size,_,I.laid (t':=s.toks) (o:=.lst (rY xs lo hi)) (λb ob q=>get?_push_of_some _ q) (aaf _) ?_,rfl,q _ (I.hok.fresh (aaf _))⟩
 exact⟨aas (zJn xs lo hi) hz,_,0,(r.drop (HT.oG xs.length 0 lo)).take (HT.oG xs.length xs.length hi-HT.oG xs.length 0 lo),get?_push_size _ rfl⟩
def Aa:V->Bool
 |.non=>true
 |.bl _=>true
 |.int _=>true
 |.str _=>true
 |_=>false
def Bq:V->V->Bool
 |.non,.non=>true
 |.bl a,.bl b=>a==b
 |.bl a,.int b=>(if a then 1 else 0)==b
 |.int a,.bl b=>a==(if b then 1 else 0)
 |.int a,.int b=>a==b
 |.str a,.str b=>a==b
 |_,_=>false
theorem HW(ry:RelV y u)(rx:RelV x v)(fy:Aa y=true)(fx:Aa x=true):SeqAt.EqAt A s u v (Bq y x):=by
 cases y with
 |non =>
  cases ry
  cases x with
  |non=>cases rx;exact SeqAt.EqAt.same _
  |bl b=>cases rx;exact SeqAt.EqAt.none_bool b
  |int b=>obtain⟨t,rfl⟩:=rx;exact SeqAt.EqAt.none_int b t
  |str b=>obtain⟨t,rfl⟩:=rx;exact SeqAt.EqAt.none_str b t
  |_=>exact absurd (show false=true from fx) aam
 |bl a =>
  cases ry
  cases x with
  |non=>cases rx;exact SeqAt.EqAt.bool_none a
  |bl b=>cases rx;exact SeqAt.EqAt.bool_bool a b
  |int b=>obtain⟨t,rfl⟩:=rx;exact SeqAt.EqAt.bool_int a b t
  |str b=>obtain⟨t,rfl⟩:=rx;exact SeqAt.EqAt.bool_str a b t
  |_=>exact absurd (show false=true from fx) aam
 |int a =>
  obtain⟨t',rfl⟩:=ry
  cases x with
  |non=>cases rx;exact SeqAt.EqAt.int_none a t'
  |bl b=>cases rx;exact SeqAt.EqAt.int_bool a t' b
  |int b=>obtain⟨t,rfl⟩:=rx;exact SeqAt.EqAt.int_int a t' b t
  |str b=>obtain⟨t,rfl⟩:=rx;exact SeqAt.EqAt.int_str a t' b t
  |_=>exact absurd (show false=true from fx) aam
 |str a =>
  obtain⟨t',rfl⟩:=ry
  cases x with
  |non=>cases rx;exact SeqAt.EqAt.str_none a t'
  |bl b=>cases rx;exact SeqAt.EqAt.str_bool a t' b
  |int b=>obtain⟨t,rfl⟩:=rx;exact SeqAt.EqAt.str_int a t' b t
  |str b=>obtain⟨t,rfl⟩:=rx;exact SeqAt.EqAt.str_str a t' b t
  |_=>exact absurd (show false=true from fx) aam
 |_=>exact absurd (show false=true from fy) aam
def qD(x:V)(u:Value):Bool:=match u with
 |.none=>Bq .non x
 |.bool b=>Bq (.bl b) x
 |.int i _=>Bq (.int i) x
 |.str z _=>Bq (.str z) x
 |_=>false
theorem Yt(r:RelV y u)(f:Aa y=true):qD x u=Bq y x:=by
 cases y with
 |non=>cases r;rfl
 |bl b=>cases r;rfl
 |int i=>obtain⟨t,rfl⟩:=r;rfl
 |str z=>obtain⟨t,rfl⟩:=r;rfl
 |_=>exact absurd (show false=true from f) aam
theorem N5:∀{xs:List V}{us:List Value},Vals xs us->xs.all Aa=true->us.any (qD x)=xs.any λy=>Bq y x
 |_,_,.nil,_=>rfl
 |y::xs,u::us,.cons r t,f=>by
  rw[all_cons,aag] at f
  rw[any_cons,any_cons,Yt r f.1,N5 t f.2]
theorem N6(rx:RelV x v)(fx:Aa x=true):∀{xs:List V}{us:List Value},Vals xs us->xs.all Aa=true->∀u∈us,SeqAt.EqAt A s u v (qD x u)
 |_,_,.nil,_=>λu hu=>by cases hu
 |y::xs,u::us,.cons r t,f=>λu' hu=>by
  rw[all_cons,aag] at f
  rcases mem_cons.mp hu with rfl|hu
  ·rw[Yt r f.1];exact HW r rx f.1 fx
  ·exact N6 rx fx t f.2 u' hu
def inV(x:V)(xs:List V):Bool:=xs.any λy=>Bq y x
def HX(K:PySem.W.Frag)(neg:Bool):R2:=λx y H Q=>∃p xs,y=.ref p/\(bw K H p xs\/jV K H p xs)/\Aa x=true/\xs.all Aa=true/\Q (.bl (if neg then !inV x xs else inV x xs)) H
theorem zOd:kj X (compareOp .In) (HX X.K false):=by
 intro pins s σ H x y v u Q I rx ry h
 obtain⟨p,xs,rfl,hq,fx,fs,q⟩:=h
 cases ry
 rcases hq with hq|hq
 ·obtain⟨its,r,pl,hz⟩:=I.list hq
  refine SeqAt.in_listAt (qD x) pl.isList (λw hw=>N6 rx fx r fs w (by simpa using hw)) ⟨.bl _,H,I,rfl,?_⟩
  rw[show its.toArray.any (qD x)=its.any (qD x) by simp,N5 r fs]
  exact q
 ·obtain⟨its,r,pl,hz⟩:=I.tuple hq
  refine SeqAt.in_tupleAt (qD x) pl (λw hw=>N6 rx fx r fs w (by simpa using hw)) ⟨.bl _,H,I,rfl,?_⟩
  rw[show its.toArray.any (qD x)=its.any (qD x) by simp,N5 r fs]
  exact q
theorem zHl:kj X (compareOp .NotIn) (HX X.K true):=by
 intro pins s σ H x y v u Q I rx ry h
 obtain⟨p,xs,rfl,hq,fx,fs,q⟩:=h
 cases ry
 rcases hq with hq|hq
 ·obtain⟨its,r,pl,hz⟩:=I.list hq
  refine SeqAt.notIn_listAt (qD x) pl.isList (λw hw=>N6 rx fx r fs w (by simpa using hw)) ⟨.bl _,H,I,rfl,?_⟩
  rw[show its.toArray.any (qD x)=its.any (qD x) by simp,N5 r fs]
  exact q
 ·obtain⟨its,r,pl,hz⟩:=I.tuple hq
  refine SeqAt.notIn_tupleAt (qD x) pl (λw hw=>N6 rx fx r fs w (by simpa using hw)) ⟨.bl _,H,I,rfl,?_⟩
  rw[show its.toArray.any (qD x)=its.any (qD x) by simp,N5 r fs]
  exact q
theorem zH9:rR X (.builtin "len") (λxs H Q=>∃p ys,xs=[.ref p]/\(bw X.K H p ys\/jV X.K H p ys)/\Q (.int ys.length) H):=by
 intro pins s σ H xs us Q I r h
 obtain⟨p,ys,rfl,hq,q⟩:=h
 obtain⟨u,rfl,rx⟩:=Li r
 cases rx
 have hn:=Lh
 rcases hq with hq|hq
 ·obtain⟨its,r',pl,hz⟩:=I.list hq
  have hlen:=r'.length
  exact Calls.call_len_list pl.isList (by simp only[size_toArray]<;>omega) ⟨.int ys.length,H,I.tok _,⟨s.toks+1,by rw[size_toArray,hlen]⟩,q⟩
 ·obtain⟨its,r',pl,hz⟩:=I.tuple hq
  have hlen:=r'.length
  exact len_tuple pl (by simp only[size_toArray]<;>omega) ⟨.int ys.length,H,I.tok _,⟨s.toks+1,by rw[size_toArray,hlen]⟩,q⟩
theorem zH8:rR X (.type "list") (λxs H Q=>∃p ys,xs=[.ref p]/\(bw X.K H p ys\/jV X.K H p ys)/\∀l,H l=none->Q (.ref l) (upd H l (.lst ys))):=by
 intro pins s σ H xs us Q I r h
 obtain⟨p,ys,rfl,hq,q⟩:=h
 obtain⟨u,rfl,rx⟩:=Li r
 cases rx
 have fin:∀(its:List Value),Vals ys its->ys.length<=sizeLine->∀(h':Heap)(c':Nat),(∀b o',s.heap.get? b=some o'->h'.get? b=some o') ->
   h'.get? s.heap.objs.size=some { cls:=.type "list",dict:=none,data:=.seq its.toArray c',slots:=#[] }->EP X pins σ Q (.ref s.heap.objs.size) { s with heap:=h' }:=λits r' hz h' c' kp e =>
  ⟨.ref s.heap.objs.size,_,I.laid (t':=s.toks) kp (aaf _) (show bh X.prog X.w _ h' _ (.lst ys) from⟨hz,its,c',r',e⟩),rfl,q _ (I.hok.fresh (aaf _))⟩
 rcases hq with hq|hq
 ·obtain⟨its,r',pl,hz⟩:=I.list hq
  have hlen:=r'.length
  obtain⟨o,ho,hc,n,hd⟩:=pl.isList
  exact call_list_seq p (.inl rfl) ho hc hd (λh' c' kp e=>fin its r' hz h' c' kp e) (by simp only[size_toArray]<;>omega)
 ·obtain⟨its,r',pl,hz⟩:=I.tuple hq
  have hlen:=r'.length
  obtain⟨o,ho,hc,n,hd⟩:=pl
  exact call_list_seq p (.inr rfl) ho hc hd (λh' c' kp e=>fin its r' hz h' c' kp e) (by simp only[size_toArray]<;>omega)
def Ub(K:PySem.W.Frag)(T:String)(x:V)(H:Hp):Prop:=match x with
 |.str _=>T = "str"
 |.int _=>T = "int"
 |.ref p=>(T = "list" /\ ∃xs,bw K H p xs)\/(T = "tuple" /\ ∃o,K.lookup p=some o/\o.cls=.type "tuple" /\ o.dict=none) \/
   (T = "dict" /\ ((∃kvs,H p=some (.dK kvs))\/∃kvs,H p=some (.dT kvs)))\/(T = "set" /\ ∃S n,H p=some (.set S n))
 |_=>False
theorem Yu(I:Inv X pins σ H s)(r:RelV x v)(ty:Ub X.K T x H) :
  s.TypeIs v T/\∀a,v=.ref a->∃ob,s.heap.get? a=some ob/\ob.dict=none:=by
 cases x with
 |str z =>
  obtain⟨t,rfl⟩:=r
  cases(show T = "str" from ty)
  exact⟨typeIs_str s z t,λ_ e=>nomatch e⟩
 |int i =>
  obtain⟨t,rfl⟩:=r
  cases(show T = "int" from ty)
  exact⟨typeIs_int s i t,λ_ e=>nomatch e⟩
 |ref p =>
  cases r
  rcases ty with⟨rfl,xs,hq⟩|⟨rfl,o,hk,hc,hd⟩|⟨rfl,hk⟩|⟨rfl,S,n,hk⟩
  ·obtain⟨its,_,pl,_⟩:=I.list hq
   refine⟨pl.isList.typeIs,λa e=>?_⟩
   cases e
   obtain⟨o,n,e,c,hd,_⟩:=pl
   exact⟨o,e,hd⟩
  ·refine⟨⟨o,I.jC p o hk,hc⟩,λa e=>?_⟩
   cases e
   exact⟨o,I.jC _ o hk,hd⟩
  ·have z:∃o,s.heap.get? p=some o/\o.ExactDict:=by
    rcases hk with⟨kvs,hk⟩|⟨kvs,hk⟩
    ·obtain⟨_,_,_,_,o,_,_,e,ex,_⟩:=I.hok p _ hk
     exact⟨o,e,ex⟩
    ·obtain⟨_,_,_,_,o,_,_,e,ex,_⟩:=I.hok p _ hk
     exact⟨o,e,ex⟩
   obtain⟨o,e,ex⟩:=z
   refine⟨⟨o,e,ex.1⟩,λa e2=>?_⟩
   cases e2
   exact⟨o,e,ex.2.1⟩
  ·obtain⟨o,_,_,_,e,ex,_⟩:=I.hok p _ hk
   refine⟨⟨o,e,ex.1⟩,λa e2=>?_⟩
   cases e2
   exact⟨o,e,ex.2.1⟩
 |_=>exact abb ty
def HY(K:PySem.W.Frag)(T:String)(r:V->List V->Hp->VK->Prop)(to:TE):TE:=λσ H Q=>to σ H λx H1=>Ub K T x H1/\r x [] H1 Q
def Lk(K:PySem.W.Frag)(T:String)(r:V->List V->Hp->VK->Prop)(to:TE)(t:TA):TE:=λσ H Q=>to σ H λx H1=>Ub K T x H1/\t σ H1 λxs H2=>r x xs H2 Q
variable{o e:Expr}{es:List Expr}{to:TE}{t:TA}{name:Str}{apos cpos:Pos}{T id:String}{r:V->List V->Hp->VK->Prop}
theorem H_(pa:PlainAttrs T)(slot:Slot T name id)(hty:typeOf (.builtin id)=pure (.type "method_descriptor"))(hm:Yr X id r)(ho:PE X o to)(hbase:attributeBase o name X.env (eval o X.env)=eval o X.env:=by rfl)(hline:(apos.endLine==cpos.line)=true:=by rfl):PE X (.Call (.Attribute o name apos) [] [] cpos) (HY X.K T r to):=by
 intro pins s σ H Q I h
 refine wpAny_Call_method0_late hbase hline (aN (ho pins s σ H _ I h) λv s1 ⟨x,H1,I1,r1,ty,q1⟩=>?_)
 obtain⟨h1,h2⟩:=Yu I1 r1 ty
 exact⟨T,id,pa,slot,hty,h1,h2,Calls.callWith_builtin rfl (PySem.evalArgs_none (hm pins s1 σ H1 x [] v [] Q I1 r1 .nil q1))⟩
theorem Ft(pa:PlainAttrs T)(slot:Slot T name id)(hty:typeOf (.builtin id)=pure (.type "method_descriptor"))(hm:Yr X id r)(ho:PE X o to)(ha:PA X (e::es) t)(hbase:attributeBase o name X.env (eval o X.env)=eval o X.env:=by rfl)(hfew:((backTo cpos (starEach (e::es) X.env)).all (λx=>!x.1)&&(backToKw cpos (keywordEach [] X.env)).all (λx=>x.1.isSome)
   && decide ((e::es).length+([]:List Keyword).length+(if([]:List Keyword).isEmpty then 0 else 1)<30))=true:=by rfl)(hline:(apos.endLine==cpos.line)=true:=by rfl)(hs:starEach (e::es) X.env=(false,eval e X.env)::starEach es X.env:=by rfl)(hplain:(backTo cpos (starEach es X.env)).any (·.1)=false:=by rfl) :
  PE X (.Call (.Attribute o name apos) (e::es) [] cpos) (Lk X.K T r to t):=by
 intro pins s σ H Q I h
 refine wpAny_Call_method_late hbase hfew hline rfl (aN (ho pins s σ H _ I h) λv s1 ⟨x,H1,I1,r1,ty,q1⟩=>?_)
 obtain⟨h1,h2⟩:=Yu I1 r1 ty
 refine⟨T,id,pa,slot,hty,h1,h2,?_⟩
 have hA:=ha cpos pins s1 σ H1 _ I1 q1
 rw[hs] at hA ⊢
 refine Calls.callWith_builtin (by show(false||(backTo cpos (starEach es X.env)).any (·.1))=false;rw[hplain]<;>rfl) (Calls.evalArgs_plain ?_)
 exact aN hA λus s2 ⟨vs,H2,I2,r2,q2⟩=>hm pins s2 σ H2 x vs v us Q I2 r1 r2 q2
end
def N7(X:Cx)(id:String)(r:V->List V->Hp->VK->Prop):Prop :=
 ∀(pins:List (Addr×Obj))(s:Shared)(σ:St)(H:Hp)(x:V)(xs:List V)(v:Value)(us:List Value)(Q:VK),Inv X pins σ H s->RelV x v->Vals xs us->r x xs H Q ->
  wpAny (model X.prog X.w) X.A (call (.builtin id) (v::us)) (EP X pins σ Q) X.xe s
theorem Vals.one:∀{x:V}{us:List Value},Vals [x] us->∃u,us=[u]/\RelV x u
 |_,_,.cons r .nil=>⟨_,rfl,r⟩
theorem Vals.two:∀{x y:V}{us:List Value},Vals [x,y] us->∃u v,us=[u,v]/\RelV x u/\RelV y v
 |_,_,_,.cons r (.cons q .nil)=>⟨_,_,rfl,r,q⟩
theorem Vals.zero:∀{us:List Value},Vals [] us->us=[]
 |_,.nil=>rfl
theorem Vals.dropLast(h:Vals xs us):Vals xs.dropLast us.dropLast:=by
 induction h with
 |nil=>exact .nil
 |cons r t ih =>
  cases t with
  |nil=>exact .nil
  |cons q t'=>exact .cons r ih
theorem Vals.eraseIdx:∀{xs:List V}{us:List Value}(i:Nat),Vals xs us->Vals (xs.eraseIdx i) (us.eraseIdx i)
 |_,_,_,.nil=>.nil
 |_,_,0,.cons _ t=>t
 |_,_,i+1,.cons r t=>.cons r (Vals.eraseIdx i t)
theorem Vals.reverse(h:Vals xs us):Vals xs.reverse us.reverse:=by
 induction h with
 |nil=>exact .nil
 |cons r t ih=>rw[reverse_cons,reverse_cons];exact Vals.append ih (.cons r .nil)
theorem zMl{α:Type}(l:List α):l.eraseIdx (l.length-1)=l.dropLast:=by
 induction l with
 |nil=>rfl
 |cons a r ih =>
  cases r with
  |nil=>rfl
  |cons b r =>
   have e:(a::b::r).length-1=((b::r).length-1)+1:=by
    have h1:(a::b::r).length=r.length+2:=rfl
    have h2:(b::r).length=r.length+1:=rfl
    omega
   rw[e,List.eraseIdx_cons_succ,ih]
   all_goals rfl
section
variable{X:Cx}{pins:List (Addr×Obj)}{σ:St}{H:Hp}{s:Shared}{l b:Addr}{xs ys zs:List V}
theorem Inv.Ia{its its':List Value}{f:Array Value->Array Value}(I:Inv X pins σ H s)(hH:H l=some (.lst xs))(e:s.heap.get? l=some { cls:=.type "list",data:=.seq its.toArray n })(hf:f its.toArray=its'.toArray)(hv:Vals ys its')(hz:ys.length<=sizeLine) :
  Inv X pins σ (upd H l (.lst ys)) { s with heap:=s.heap.update l (acg f),toks:=t' }:=by
 have q:=PySem.IsL.update e f
 rw[hf] at q
 refine I.write (x:=l) (e:=l) (by rw[hH];exact trivial) (.inl rfl) (λb' u hb hu=>(get?_update_other s.heap (acg f) (ab8 hb)).trans hu) ⟨_,q⟩ ?_
 exact⟨hz,its',_,hv,q⟩
theorem Inv.Br(I:Inv X pins σ H s)(hH:H l=some (.lst xs)):xs.length<=sizeLine/\∃(its:List Value)(n:Nat),Vals xs its/\xs.length=its.length/\s.heap.get? l=some { cls:=.type "list",data:=.seq its.toArray n }:=by
 obtain⟨z,its,n,r,e⟩:=I.hok l _ hH
 exact⟨z,its,n,r,r.length,e⟩
theorem zRq(h:n<=sizeLine):ac0 n=false:=by
 unfold ac0
 exact decide_eq_false (by omega)
end
section
variable{X:Cx}
def Uc:V->List V->Hp->VK->Prop:=λx vs H Q=>∃l xs y,x=.ref l/\vs=[y]/\H l=some (.lst xs)/\xs.length<sizeLine/\Q .non (upd H l (.lst (xs++[y])))
theorem xO:N7 X "list.append" Uc:=by
 intro pins s σ H x vs v us Q I rx rv h
 obtain⟨l,xs,y,rfl,rfl,hH,hz,q⟩:=h
 cases rx
 obtain⟨u,rfl,ru⟩:=rv.one
 obtain⟨z,its,n,r,hl,e⟩:=I.Br hH
 refine aek F.slot_list_append ⟨_,e,rfl⟩ F.entry_list_append (F.args_list_append_2 _ _) (PySem.list_append l its.toArray n u (by rw[size_toArray];omega)) ⟨e,?_⟩
 refine⟨.non,_,I.Ia (its':=its++[u]) hH e (by simp) (r.append (.cons ru .nil)) ?_,rfl,q⟩
 rw[length_append,length_singleton]
 omega
def Ud:V->List V->Hp->VK->Prop:=λx vs H Q=>∃l b xs zs,x=.ref l/\vs=[.ref b]/\H l=some (.lst xs)/\H b=some (.lst zs)/\xs.length+zs.length<=sizeLine/\Q .non (upd H l (.lst (xs++zs)))
theorem Yv:N7 X "list.extend" Ud:=by
 intro pins s σ H x vs v us Q I rx rv h
 obtain⟨l,b,xs,zs,rfl,rfl,hH,hB,hz,q⟩:=h
 cases rx
 obtain⟨u,rfl,ru⟩:=rv.one
 cases ru
 obtain⟨z,its,n,r,hl,e⟩:=I.Br hH
 obtain⟨z2,its2,n2,r2,hl2,e2⟩:=I.Br hB
 have hsz:its.toArray.size+its2.toArray.size<=sizeLine:=by rw[size_toArray,size_toArray];omega
 have N8:¬(!its.toArray.isEmpty&&ac0 (its.toArray.size+its2.toArray.size))=true:=by
  rw[zRq hsz,ad8]
  exact aam
 refine aek F.slot_list_extend ⟨_,e,rfl⟩ F.entry_list_extend (F.args_list_extend_2 _ _)
  (AutoSeq1.list_extend_list_list_0 l its.toArray n b its2.toArray n2 N8 (by rw[size_toArray];omega) (by omega)) ⟨e,e2,?_⟩
 refine⟨.non,_,I.Ia (its':=its++its2) hH e (by simp) (r.append r2) ?_,rfl,q⟩
 rw[length_append]
 omega
def N_:V->List V->Hp->VK->Prop:=λx vs H Q=>∃l xs y,x=.ref l/\vs=[]/\H l=some (.lst xs)/\xs[xs.length-1]?=some y/\Q y (upd H l (.lst xs.dropLast))
theorem Ib:N7 X "list.pop" N_:=by
 intro pins s σ H x vs v us Q I rx rv h
 obtain⟨l,xs,y,rfl,rfl,hH,hy,q⟩:=h
 cases rx
 have hus:=rv.zero
 subst hus
 obtain⟨z,its,n,r,hl,e⟩:=I.Br hH
 obtain⟨u,hu,ru⟩:=r.get hy
 have hy':its.toArray[its.toArray.size-1]?=some u:=by
  show its.toArray[its.length-1]?=some u
  rw[<-getElem?_toList,<-hl]
  exact hu
 refine aek F.slot_list_pop ⟨_,e,rfl⟩ F.entry_list_pop (F.args_list_pop_1 _) (MeetsSeq.list_pop_last l its.toArray n u hy' (by rw[size_toArray];omega)) ⟨e,?_⟩
 refine⟨y,_,I.Ia (its':=its.dropLast) hH e ?_ r.dropLast ?_,ru,q⟩
 ·show its.toArray.eraseIdxIfInBounds (its.toArray.size-1)=its.dropLast.toArray
  rw[size_toArray,List.eraseIdxIfInBounds_toArray,zMl]
 ·rw[List.length_dropLast]
  omega
end
section
variable{prog:Program}{w:World}{A:Around}{E:Value->Shared->Prop}{s:Shared}
end
section
variable{X:Cx}
end
end L2
namespace Yw
open PySem PySem.W PySem.Calls PyProof.Rows
theorem zEd:∀(ns:LI)(vs:List Value),WellAll P h vs (ns.map WData.int)->IntsAre vs ns:=by
 intro ns
 induction ns with
 |nil =>
  intro vs w
  rw[List.map_nil] at w
  cases w
  exact .nil
 |cons n ns ih =>
  intro vs w
  rw[map_cons] at w
  cases w with
  |cons a b =>
   cases a
   exact .cons _ _ (ih _ b)
theorem zNu{l:OpenLaw}(hn:l.most=some n)(hpre:l.row.toRowW.claim.pre args=true)(hwl:WellAll P h vals args) :
  ∃a vs ns,vals=[aa5 a]/\args=[WData.list (ns.map WData.int)]/\h.get? a=some { cls:=.type "list",data:=.seq vs.toArray }/\IntsAre vs ns/\ns.length<=n:=by
 have hsh:WShape.hasAll [] args [.list .int]=true:=(pre_splitW hpre).1
 have hc:l.pre.holds [] { args:=args }=true:=(pre_splitW hpre).2
 obtain⟨d,r,rfl,h1,h2⟩:=hasAllW_cons hsh
 obtain rfl:=hasAllW_nil h2
 obtain⟨xs,rfl,h3⟩:=hasW_list h1
 obtain⟨ns,rfl⟩:=items_int h3
 have hlen:ns.length<=n:=by
  unfold OpenLaw.pre at hc
  have h4:(WTm.not (.lt (.lit (.int (n:Int))) (.len (.arg 0)))).holds [] { args:=[.list (ns.map .int)] }=true:=by
   have h4:=(holds_andW hc).1
   rw[hn] at h4
   exact h4
  have h5:=condW_of h4 (w_not (w_lt w_lit (w_len_list (w_arg rfl))))
  rw[length_map] at h5
  refine Nat.le_of_not_lt λq=>?_
  have q':(n:Int)<((ns.length:Nat):Int):=by omega
  first
   | (rw[decide_eq_true q'] at h5;exact absurd h5 (by decide))
   | (simp at h5;omega)
 cases hwl with
 |cons w1 w2 =>
  cases w2
  cases w1 with
  |list ho hall=>exact⟨_,_,ns,rfl,rfl,ho,zEd ns _ hall,hlen⟩
theorem zN6(l:OpenLaw)(args:List WData):l.row.toRowW.claim.post args (.bool true) args=true :=
 postW_of (r:=l.row.toRowW) (X:=(true==true))
  (show WShape.has [] (.bool true) .bool=true by first|rfl|decide|simp[WShape.has,WShape.arms,WShape.armsAll])
  (show(WTm.eq .res (.lit (.bool true))).value [] { args:=args,res:=some (.bool true),after:=args }=some (.bool (true==true)) from w_eq_bool (w_res rfl) w_lit) rfl
theorem pO{l:OpenLaw}{YP:World->Heap->Prop}{d:DefRec}(hn:l.most=some n)(hdf:d.params.defaults=[])(call:∀(w:World) (s₀ s₁:Shared) (mg mb:Str->Option Value) (fa:Addr) (o:Obj) (pm cd doc:Value) (a:Addr) (vs:List Value) (ns:LI),
   Ground q loose [] XP w s₀ mg mb s₁.heap->YP w s₁.heap ->
   s₁.heap.get? fa=some o->o.data=.func (docDef d.name d.params d.body d.scope pm cd doc)->s₁.heap.CodeRec cd d.name->mg d.name=some (.ref fa) ->
   s₁.heap.get? a=some { cls:=.type "list",data:=.seq vs.toArray }->IntsAre vs ns->ns.length<=n->s₁.gens=#[] ->
   codeAny (model l.prog w) callerA (.call (.ref fa) ⟨[.ref a],[]⟩) (λr s'=>r=.ok (.ret (.bool true))/\OldK s₁.heap s'.heap/\s'.os=s₁.os/\AllBare s'.gens) s₁) :
  WalkO q loose XP YP l.row.toRowW d [] (λf vs=>PySem.call f vs):=by
 intro w s₀ s₁ mg mb G Y fa o pm cd doc dV kV ho hd hcd hD hmg hg args vals as hpre hlay hrd hwl hlo
 obtain rfl:dV=.none:=Dflts.none hD hdf
 obtain rfl:kV=.none:=Dflts.noKw hD
 obtain⟨a,vs,ns,rfl,rfl,hobj,hints,hlen⟩:=zNu hn hpre hwl
 refine enter_call (acu (call w s₀ s₁ mg mb fa o pm cd doc a vs ns G Y ho (fd_plain hd) hcd hmg hobj hints hlen hg) λr s' hq=>?_)
 obtain⟨rfl,h2,h3,h4⟩:=hq
 exact⟨.inl ⟨.bool true,.bool true,[],rfl,λ_=>rfl,.bool true,zN6 l _,λ_=>⟨Pairwise.nil,λ_ hm=>(nomatch hm)⟩⟩,h2,h3,h4⟩
section
variable{prog:Program}{w:World}{A:Around}{E:Value->Shared->Prop}{s:Shared}{K:Frag}
end
end Yw
namespace L2
open PySem PySem.Spec PyProof.Rows
theorem Yx:∀{vs:List Value}{ns:LI},IntsAre vs ns->Vals (ns.map V.int) vs
 |_,_,.nil=>.nil
 |_,_,.cons n t h=>.cons ⟨t,rfl⟩ (Yx h)
def Only(H:Hp):Prop:=∀b,H b=none\/∃o xs,H b=some (.q9 o (.lst xs))
theorem zRx{K:PySem.W.Frag}{s₁:Shared}{vs:List Value}(KX:K.In s₁.heap)(hns:s₁.heap.Ns aax mg)(hb:s₁.heap.Ns builtinsNs mb)(hbb:∀x:Str,x ≠ "__name__"->mb x=bootBuiltins x)(hlim:s₁.heap.NoLimit)(hg:s₁.gens=#[])(ha:s₁.heap.get? a=some { cls:=.type "list",data:=.seq vs.toArray })(hi:IntsAre vs ns)(hl:ns.length<=sizeLine)(hr:bJ k callerA)(F:∀base:Heap,K.In base->base.Ns aax mg->au P w K mg base CX k fa fd [x] sp)(hbind:∀(s:Shared) (u:Value),BindsTo s fd ⟨[u],[]⟩ [(x,u)])(hsp:∀H:Hp,Only H->bw K H a (ns.map V.int)->sp [.ref a] H (λv _=>v=.bl true) λ_ _ _=>False)(Ue:∀H e s',CX [] H s₁ (λ_ _ _=>False) e s'->False) :
  codeAny (model P w) callerA (.call (.ref fa) ⟨[.ref a],[]⟩) (λr s'=>r=.ok (.ret (.bool true))/\OldK s₁.heap s'.heap/\s'.os=s₁.os/\AllBare s'.gens) s₁:=by
 have rv:=Yx hi
 have lenV:=hi.length
 have core:∀H:Hp,Only H->bw K H a (ns.map V.int)->g_ P w H s₁.heap->(∀b,H b≠none->b=a)->(H a≠none->K.lookup a=none) ->
   codeAny (model P w) callerA (.call (.ref fa) ⟨[.ref a],[]⟩) (λr s'=>r=.ok (.ret (.bool true))/\OldK s₁.heap s'.heap/\s'.os=s₁.os/\AllBare s'.gens) s₁:=by
  intro H hO hS hok hA hK
  have rC:∀{b:Addr}{o:Obj},s₁.heap.get? b=some o->H b=none->(oh s₁.heap H).get? b=some o:=λe n=>zR4 e n
  have NQ:∀{b:Addr}{o:Obj}{es:Array DictEntry}{ep:Nat},s₁.heap.get? b=some o->o.data=.dict es ep->H b=none:=λ{b o es ep} e d=>by
   cases q:H b with
   |none=>rfl
   |some u =>
    have e':b=a:=hA b (by rw[q];simp)
    subst e'
    rw[ha] at e;cases e
    have d':Data.seq vs.toArray _=Data.dict es ep:=d
    cases d'
  have Ri:∀{b:Addr}{m:Str->Option Value},s₁.heap.Ns b m->(oh s₁.heap H).Ns b m:=λ{b m} ⟨o,es,ep,e,d,r⟩=>⟨o,es,ep,rC e (NQ e d),d,r⟩
  have Yy:K.In (oh s₁.heap H):=λb o e=>rC (KX b o e) (by
   cases q:H b with
   |none=>rfl
   |some u =>
    have e':b=a:=hA b (by rw[q];simp)
    subst e'
    rw[hK (by rw[q];simp)] at e;cases e)
  have hM:Mod K mg (oh s₁.heap H):=⟨Yy,Ri hns,⟨mb,Ri hb,hbb⟩,let⟨mc,h1,h2⟩:=hlim;⟨mc,Ri h1,h2⟩⟩
  have e0:qC P w K mg (oh s₁.heap H) callerA [] s₁ H:=⟨rfl,hM,λb o e=>Ai e,Nat.le_of_eq (zO6 _ _),trivial,λb hb=>absurd (show b∈([]:List Addr) from hb) (by simp),hok,.of_eq hg⟩
  refine acu ((F _ Yy (Ri hns)).run callerA [] s₁ H ⟨[.ref a],[]⟩ [.ref a] [.ref a] _ _ hr e0 (hbind s₁ (.ref a)) (.cons rfl .nil) (hsp H hO hS)) λr s' h=>?_
  cases r with
  |error e=>exact(Ue H e s' h).elim
  |ok fl =>
   cases fl with
   |next=>exact abb h
   |brk=>exact abb h
   |cont=>exact abb h
   |ret u =>
    obtain⟨v,H',os,bare,un,hok',r',q⟩:=h
    have q':v=.bl true:=q
    subst q'
    obtain rfl:u=aej true:=r'
    refine⟨rfl,OldK.of_keep λb o e=>?_,os,bare⟩
    cases q:H b with
    |none=>exact un.keep b o e q (by intro z;exact absurd (show b∈([]:List Addr) from z) (by simp)) (by simp)
    |some u =>
     rcases hO b with z|⟨ob,xs,z⟩
     ·rw[q] at z;cases z
     ·have z2:=un.kY b ob _ z
      obtain⟨e1,_⟩:=hok b _ z
      obtain⟨e2,_⟩:=hok' b _ z2
      rw[e] at e1;cases e1
      exact e2
 cases hk:K.lookup a with
 |some o =>
  have e:=KX a o hk
  rw[ha] at e
  cases e
  refine core (λ_=>none) (λ_=>.inl rfl) (.inr ⟨_,vs.toArray,_,hk,rfl,rfl,rfl,by rw[size_toArray,lenV];exact hl,by simpa using rv⟩) (λb u z=>by have z':(none:Option HO)=some u:=z;cases z') (λb z=>absurd rfl z) λz=>absurd rfl z
 |none =>
  refine core (λb=>if b=a then some (.q9 { cls:=.type "list",data:=.seq vs.toArray } (.lst (ns.map V.int))) else none) (λb=>?_) (.inl (.inr ⟨{ cls:=.type "list",data:=.seq vs.toArray },if_pos rfl⟩)) (λb u z=>?_) (λb z=>?_) λ_=>hk
  ·by_cases hb:b=a
   ·exact .inr ⟨_,_,if_pos hb⟩
   ·exact .inl (if_neg hb)
  ·by_cases hb:b=a
   ·have z':=(if_pos hb).symm.trans z
    cases z'
    subst hb
    exact⟨ha,by rw[length_map];exact hl,vs,_,rv,ha⟩
   ·have z':=(if_neg hb).symm.trans z
    cases z'
  ·by_cases hb:b=a
   ·exact hb
   ·exact absurd (if_neg hb) z
theorem Bt{l:PySem.W.OpenLaw}{YP:World->Heap->Prop}{d:DefRec}{K:Params->PySem.W.Frag}{CX:World->rT}{sp:World->Sp}(hn:l.most=some n)(hn2:n<=sizeLine)(hdf:d.params.defaults=[])(hr:bJ k callerA)(hY:∀(w:World) (h:Heap),YP w h->(K w.params).In h)(F:∀(w:World) (mg:Str->Option Value) (fa:Addr) (h:Heap),(K w.params).In h->h.Ns aax mg->mg d.name=some (.ref fa) ->
   ∃fd:FuncData,(∀(s:Shared) (u:Value),BindsTo s fd ⟨[u],[]⟩ [(x,u)]) /\
    ∀base:Heap,(K w.params).In base->base.Ns aax mg->au l.prog w (K w.params) mg base (CX w) k fa fd [x] (sp w))(hsp:∀(w:World) (H:Hp) (a:Addr) (ns:LI),ns.length<=n->Only H->bw (K w.params) H a (ns.map V.int)->sp w [.ref a] H (λv _=>v=.bl true) λ_ _ _=>False)(Ue:∀(w:World) (H:Hp) (s:Shared) (e:Value) (s':Shared),CX w [] H s (λ_ _ _=>False) e s'->False) :
  PySem.W.WalkO q loose XP YP l.row.toRowW d [] (λf vs=>PySem.call f vs):=by
 refine Yw.pO hn hdf λw s₀ s₁ mg mb fa o pm cd doc a vs ns G Y ho hd hcd hmg hobj hints hlen hg=>?_
 have KX:=hY w _ Y
 obtain⟨fd,hb,hF⟩:=F w mg fa _ KX G.T.g hmg
 exact zRx KX G.T.g G.T.b G.T.builtins G.T.nolimit hg hobj hints (aas hlen hn2) hr hF hb (λH hO hS=>hsp w H a ns hlen hO hS) λH e s'=>Ue w H s₁ e s'
def xA(s:Stmt)(j:Nat):Stmt:=match s with
 |.ClassDef _ _ _ body _ _ _ _ _ _ _=>body.getD j (.Pass ⟨0,0,0,0⟩)
 |_=>.Pass ⟨0,0,0,0⟩
def vQ(s:Stmt):Arguments:=match s with
 |.FunctionDef _ a _ _ _ _ _ _ _ _=>a
 |_=>{ posonlyargs:=[],args:=[],vararg:=none,kwonlyargs:=[],kw_defaults:=[],kwarg:=none,defaults:=[] }
def xX(s:Stmt):List Stmt:=match s with
 |.FunctionDef _ _ b _ _ _ _ _ _ _=>b
 |_=>[]
def zI(s:Stmt):Scope:=match s with
 |.FunctionDef _ _ _ _ _ _ sc _ _ _=>sc
 |_=>{ kind:=.function,names:=[],isGenerator:=false,isCoroutine:=false }
abbrev aP:rT:=λ_ _ _ _ _ _=>False
abbrev E0:XK:=λ_ _ _=>False
theorem uP:Fj aP X E0:=λ_ _ _ _ _ _ _ h=>h.elim
structure aY(K:PySem.W.Frag)(x qual:Str)(st:Stmt)(f:Addr)(fd:FuncData):Prop where
 ex:∃(oc:Value)(od:Option Addr)(kV doc pm:Value)(an:Option Addr)(cdv ct:Value)(osl:Array (Option Value)),
  fd=fnOf x qual (vQ st) (xX st) (zI st) .none kV doc pm an cdv ct/\K.lookup f=some ⟨oc,od,.func fd,osl⟩/\codeIn K cdv qual=true
 kp:keepIn K (.ref f)=true
section
variable{P:Program}{w:World}{K:PySem.W.Frag}{mg:Str->Option Value}{base:Heap}
theorem aY.ok{x qual:Str}{st:Stmt}{f:Addr}{fd:FuncData}{N ps:List Str}{k:Nat}{sp:Sp}(F:aY K x qual st f fd)(S:ao N ps (zI st))(len:∀vs H Q E,sp vs H Q E->vs.length=ps.length)(hbody:∀(cdv:Value) (A:Around) (outer:List Env) (s:Shared) (H:Hp) (vs:List V) (Q:VK) (E:XK),bJ k (A.deeper (envOfC qual (zI st) s.heap.objs.size f cdv))->sp vs H Q E ->
   ∃t,pJ (mY aP P w K mg base N qual (zI st) f cdv A outer s H E).Ao (xX st) t/\t { nx:=λ_ H'=>Q .non H',rt:=Q } (start N vs) H):au P w K mg base aP (k+1) f fd ps sp:=by
 obtain⟨oc,od,kV,doc,pm,an,cdv,ct,osl,rfl,lk,hcd⟩:=F.ex
 refine Fo lk hcd S len λA outer s H vs Q E hr hsp=>?_
 obtain⟨t,h,q⟩:=hbody cdv A outer s H vs Q E hr hsp
 exact⟨t,h.Ao,q⟩
theorem aY.binds{x qual:Str}{st:Stmt}{f:Addr}{fd:FuncData}{ps:List Str}(F:aY K x qual st f fd)(h:∀(kV doc pm:Value) (an:Option Addr) (cdv ct:Value) (us:List Value),us.length=ps.length->bindArgs (fnOf x qual (vQ st) (xX st) (zI st) .none kV doc pm an cdv ct) ⟨us,[]⟩=pure (ps.zip us)):Binds K fd ps []:=by
 obtain⟨oc,od,kV,doc,pm,an,cdv,ct,osl,rfl,lk,hcd⟩:=F.ex
 exact .all (h kV doc pm an cdv ct)
theorem lu{x qual:Str}{st:Stmt}{f:Addr}{oc:Value}{od an:Option Addr}{osl:Array (Option Value)}{kV doc pm cdv ct:Value}(l:K.lookup f=some ⟨oc,od,.func (fnOf x qual (vQ st) (xX st) (zI st) .none kV doc pm an cdv ct),osl⟩)(c:codeIn K cdv qual=true)(k:keepIn K (.ref f)=true):aY K x qual st f (fnOf x qual (vQ st) (xX st) (zI st) .none kV doc pm an cdv ct):=⟨⟨oc,od,kV,doc,pm,an,cdv,ct,osl,rfl,l,c⟩,k⟩
end
theorem vf(hr:bJ k A):A.units+1<cLine:=aan (Nat.add_le_add_left (by decide:1<=64) _) hr.units
theorem Yz(h:n<=1000):n<sizeLine:=aan h (by decide)
section
variable{X:Cx}
theorem pv(i:Nat)(hN:X.N[i]?=some x:=by rfl)(hv:M9 X.env.scope x:=by first|exact Or.inl rfl|exact Or.inr (Or.inl rfl)|exact Or.inr (Or.inr rfl))(hd:(x==("__debug__":Str))=false:=by decide)(hcd:(x==("__classdict__":Str))=false:=by decide):PE X (.Name x pos) (c7 i):=G7 hN hv hd hcd
end
theorem lA{A B:Prop}(h:B):if false=true then A else B:=by
 rw[if_neg aam]
 exact h
theorem jD{A B:Prop}(h:A):if true=true then A else B:=by
 rw[if_pos rfl]
 exact h
def Same(H H':Hp):Prop:=∀b o,H b=some o->H' b=some o
theorem Same.refl(H:Hp):Same H H:=λ_ _ h=>h
theorem Same.trans(a:Same H H1)(b:Same H1 H2):Same H H2:=λc o h=>b c o (a c o h)
theorem Same.free(e:Same H H')(h:H' l=aeu):H l=aeu:=by
 cases q:H l with
 |none=>rfl
 |some o =>
  rw[e l o q] at h
  cases h
theorem Same.seq{K:PySem.W.Frag}{H H':Hp}{a:Addr}{xs:List V}(e:Same H H')(h:bw K H a xs):bw K H' a xs:=by
 rcases h with(h|⟨o,h⟩)|h
 ·exact .inl (.inl (e _ _ h))
 ·exact .inl (.inr ⟨o,e _ _ h⟩)
 ·exact .inr h
section
variable{κ:Type}[DecidableEq κ]
end
open PySem
section
variable{prog:Program}{w:World}{A:Around}{R:Result->Shared->Prop}{s:Shared}
theorem vC{α:Type}{t:Sem α}{Q Q':α->Shared->Prop}(h:wpAny M A t Q (λ_ _=>False) s)(hQ:∀a s,Q a s->Q' a s):wpAny M A t Q' (notedBy M A env E) s :=
 abv h hQ λ_ _ z=>z.elim
theorem zH7(I:Nat->Shared->Prop)(turn:∀n s,I n s->wpAny (model prog w) A (pyNext it) (λr s₁=>match r with
   |none=>R (.ok .next) s₁
   |some v=>wpAny (model prog w) A (letOwnedTupleGo target it v) (λ_ s₂=>wpAny (model prog w) A (assign target env v) (λ_ s₃ =>
     wpAny (model prog w) A (forIn ifs true λc r=>if r=true then do let ok <-isTrue c env (eval c env);pure (abz ok) else pure (abz r)) (λok s₄ =>
      if ok=true then wpAny (model prog w) A (eval elt env) (λx s₅ =>
       wpAny (model prog w) A (call (.builtin "list.append") [acc,x]) (λ_ s₆=>∃m,m<n/\I m s₆) (λ_ _=>False) s₅) (λ_ _=>False) s₄
      else∃m,m<n/\I m s₄) (λ_ _=>False) s₃) (λ_ _=>False) s₂) (λ_ _=>False) s₁) (λ_ _=>False) s)(n:Nat)(h:I n s):codeAny (model prog w) A (.compLoop (.ListComp elt [⟨target,iter,ifs,0⟩] scope pos) 0 it acc env) R s:=by
 refine codeAny_loop rfl I (λn s hI=>?_) n h
 show wpAny _ A ((compTurn (.ListComp elt [⟨target,iter,ifs,0⟩] scope pos) 0 it acc env).onRaise (λx=>do noteFrame x env;theTreesLotGoes x)) _ _ s
 refine wpAny_noted ?_
 rw[compTurn_list]
 refine aac (aeg (aac (vC (turn n s hI) λr s₁ h₁=>?_)))
 cases r with
 |none=>exact aae h₁
 |some v =>
  refine aac (vC h₁ λ_ s₂ h₂=>?_)
  refine aac (vC h₂ λ_ s₃ h₃=>aac (vC h₃ λok s₄ h₄=>?_))
  cases ok with
  |false=>exact aae ⟨rfl,h₄⟩
  |true =>
   exact aac (aac (vC h₄ λx s₅ h₅=>aac (vC h₅ λ_ s₆ h₆=>aae (aae ⟨rfl,h₆⟩))))
end
def nj(env:Env):List (Str×NameKind)->List (Str×Addr)->List (Str×Addr)
 |[],acc=>acc
 | (n,k)::r,acc=>if k==.free then nj env r ((n,(env.cells.lookup n).getD 0)::acc) else nj env r acc
theorem YB{scope:Scope}{env:Env}(h:∀y∈scope.names,y.2=.free->∃c,env.cells.lookup y.1=some c):closureFor scope env=pure (nj env scope.names []):=by
 unfold closureFor
 generalize scope.names=l at h
 have go:∀(l:List (Str×NameKind))(acc:List (Str×Addr)),(∀y∈l,y.2=.free->∃c,env.cells.lookup y.1=some c) ->
    (forIn l acc (λ(x:Str×NameKind) (r:List (Str×Addr))=>match x with
    | (name,kind)=>if(kind==aau)=true then(do let __do_lift <-cellOf env name;pure (abz ((name,__do_lift)::r))) else pure (abz r)):Sem (List (Str×Addr)))=pure (nj env l acc):=by
  intro l
  induction l with
  |nil=>intro acc _;rfl
  |cons x r ih =>
   intro acc hl
   obtain⟨n,k⟩:=x
   rw[List.forIn_cons]
   unfold nj
   by_cases hk:(k==aau)=true
   ·obtain⟨c,hc⟩:=hl (n,k) mem_cons_self (abq hk)
    simp only[hk,if_true]
    have hc':env.cells.lookup n=some c:=hc
    unfold cellOf
    rw[hc']
    exact ih _ λy hy=>hl y (mem_cons_of_mem _ hy)
   ·simp only[hk,if_false]
    exact ih _ λy hy=>hl y (mem_cons_of_mem _ hy)
 have e:=go l [] h
 simp only[bind_pure]
 exact e
theorem Ug{env:Env}:∀(l:List (Str×NameKind))(acc:List (Str×Addr)),(∀x c,acc.lookup x=some c->(env.cells.lookup x).getD 0=c)->∀x c,(nj env l acc).lookup x=some c->(env.cells.lookup x).getD 0=c
 |[],_,h,x,c,e=>h x c e
 | (n,k)::r,acc,h,x,c,e=>by
  unfold nj at e
  by_cases hk:(k==aau)=true
  ·rw[if_pos hk] at e
   refine Ug r _ (λy d q=>?_) x c e
   cases hy:y==n with
   |true =>
    rw[lookup_cons,hy] at q
    cases q
    rw[abq hy]
   |false =>
    rw[lookup_cons,hy] at q
    exact h y d q
  ·rw[if_neg hk] at e
   exact Ug r acc h x c e
theorem Uh:∀(l:List (Str×NameKind))(acc:List (Str×Addr))(x:Str)(c:Addr),(nj env l acc).lookup x=some c->(acc.lookup x).isSome=true\/(x,aau)∈l
 |[],_,x,c,e=>.inl (by unfold nj at e;rw[e];rfl)
 | (n,k)::r,acc,x,c,e=>by
  unfold nj at e
  by_cases hk:(k==aau)=true
  ·rw[if_pos hk] at e
   rcases Uh r _ x c e with h|h
   ·cases hy:x==n with
    |true =>
     have e1:=abq hy
     have e2:=abq hk
     subst e1;subst e2
     exact .inr mem_cons_self
    |false =>
     rw[lookup_cons,hy] at h
     exact .inl h
   ·exact .inr (mem_cons_of_mem _ h)
  ·rw[if_neg hk] at e
   rcases Uh r _ x c e with h|h
   ·exact .inl h
   ·exact .inr (mem_cons_of_mem _ h)
theorem Rj:∀(l:List (Str×NameKind))(acc:List (Str×Addr))(x:Str),((acc.lookup x).isSome=true\/(x,aau)∈l)->((nj env l acc).lookup x).isSome=true
 |[],_,x,h=>by
  rcases h with h|h
  ·exact h
  ·cases h
 | (n,k)::r,acc,x,h=>by
  unfold nj
  by_cases hk:(k==aau)=true
  ·rw[if_pos hk]
   refine Rj r _ x ?_
   rcases h with h|h
   ·refine .inl ?_
    rw[lookup_cons]
    cases hy:x==n with
    |true=>rfl
    |false=>exact h
   ·rcases mem_cons.mp h with h|h
    ·cases h
     refine .inl ?_
     rw[lookup_cons,beq_self_eq_true]
     rfl
    ·exact .inr h
  ·rw[if_neg hk]
   refine Rj r _ x ?_
   rcases h with h|h
   ·exact .inl h
   ·rcases mem_cons.mp h with h|h
    ·cases h
     exact absurd rfl hk
    ·exact .inr h
theorem YC{env:Env}:∀{names:List (Str×NameKind)}{x:Str},names.lookup x=some .free ->
  (names.map λ(n,k)=>if(k==aau&&env.scope.kind==.function&&env.kindOf n==some .cell) then(n,abl) else(n,k)).lookup x=some .cell \/
  (names.map λ(n,k)=>if(k==aau&&env.scope.kind==.function&&env.kindOf n==some .cell) then(n,abl) else(n,k)).lookup x=some .free
 |[],_,h=>by simp at h
 | (n,k)::r,x,h=>by
  have ih:=@YC env r x
  show ab3 x ((if(k==aau&&env.scope.kind==.function&&env.kindOf n==some .cell)=true then(n,abl) else(n,k))::_)=_\/ab3 x ((if(k==aau&&env.scope.kind==.function&&env.kindOf n==some .cell)=true then(n,abl) else(n,k))::_)=_
  cases hx:x==n with
  |true =>
   simp only[lookup_cons,hx] at h
   cases h
   by_cases hc:(aau==aau&&env.scope.kind==.function&&env.kindOf n==some .cell)=true
   ·rw[if_pos hc];left;simp only[lookup_cons,hx]
   ·rw[if_neg hc];right;simp only[lookup_cons,hx]
  |false =>
   simp only[lookup_cons,hx] at h
   by_cases hc:(k==aau&&env.scope.kind==.function&&env.kindOf n==some .cell)=true
   ·rw[if_pos hc];simp only[lookup_cons,hx];exact ih h
   ·rw[if_neg hc];simp only[lookup_cons,hx];exact ih h
theorem Ui{env:Env}:∀{names:List (Str×NameKind)}{x:Str}{k:NameKind},(k=.cell\/k=.free) ->
  (names.map λ(n,k)=>if(k==aau&&env.scope.kind==.function&&env.kindOf n==some .cell) then(n,abl) else(n,k)).lookup x=some k->(x,aau)∈names\/(x,abl)∈names
 |[],_,_,_,h=>by simp at h
 | (n,k')::r,x,k,hk,h=>by
  have ih:=@Ui env r x k hk
  have h':ab3 x ((if(k'==aau&&env.scope.kind==.function&&env.kindOf n==some .cell)=true then(n,abl) else(n,k'))::(r.map λ(n,k)=>if(k==aau&&env.scope.kind==.function&&env.kindOf n==some .cell) then(n,abl) else(n,k)))=some k:=h
  cases hx:x==n with
  |true =>
   have e:=abq hx
   subst e
   by_cases hd:(k'==aau&&env.scope.kind==.function&&env.kindOf x==some .cell)=true
   ·have e2:k'=.free:=by
     rw[aag,aag] at hd
     exact abq hd.1.1
    subst e2
    exact .inl mem_cons_self
   ·rw[if_neg hd] at h'
    simp only[lookup_cons,hx] at h'
    cases h'
    rcases hk with e|e
    ·subst e;exact .inr mem_cons_self
    ·subst e;exact .inl mem_cons_self
  |false =>
   have g:(x,aau)∈r\/(x,abl)∈r:=by
    refine ih ?_
    by_cases hd:(k'==aau&&env.scope.kind==.function&&env.kindOf n==some .cell)=true
    ·rw[if_pos hd] at h';simp only[lookup_cons,hx] at h';exact h'
    ·rw[if_neg hd] at h';simp only[lookup_cons,hx] at h';exact h'
   rcases g with g|g
   ·exact .inl (mem_cons_of_mem _ g)
   ·exact .inr (mem_cons_of_mem _ g)
theorem xL:∀(l:List (Str×NameKind))(n:Nat)(acc:List (Str×Addr)),cellsFrom n l acc=cellsFrom n l []++acc
 |[],_,_=>rfl
 | (x,k)::r,n,acc=>by
  unfold cellsFrom
  split
  ·rw[xL r (n+1) ((x,n)::acc),xL r (n+1) [(x,n)]];simp
  ·exact xL r n acc
theorem uZ:∀(l:List (Str×NameKind))(n:Nat)(x:Str)(c:Addr),(x,c)∈cellsFrom n l []->(x,abl)∈l
 |[],_,_,_,h=>by cases h
 | (y,k)::r,n,x,c,h=>by
  unfold cellsFrom at h
  split at h
  ·rename_i hk
   rw[xL] at h
   rcases mem_append.mp h with h|h
   ·exact mem_cons_of_mem _ (uZ r _ x c h)
   ·have e:(x,c)=(y,n):=by simpa using h
    cases e
    rw[abq hk]
    exact mem_cons_self
  ·exact mem_cons_of_mem _ (uZ r _ x c h)
theorem zDa{s:Shared}{scope:Scope}{Q:Env->Shared->Prop}(hQ:∀h',h'.Ns s.heap.objs.size (λ_=>none)->(∀b o,s.heap.get? b=some o->h'.get? b=some o)->CellsOk h' (s.heap.objs.size+1) (cellsFrom (s.heap.objs.size+1) scope.names []) ->
   Q (newEnv scope s.heap.objs.size globals (cellsFrom (s.heap.objs.size+1) scope.names closure) qual none .none (some outer) builtinsNs) { s with heap:=h' }) :
  wpAny M A (newFunctionEnv scope globals closure [] qual none .none (some outer)) Q E s:=by
 simp only[newFunctionEnv,ac1,if_true]
 refine aac (wpAny_alloc ?_)
 refine aac (wpAny_layCells _ (λname kind cells=>by cases hkc:kind==abl<;>simp[hkc]) _ _ _ _ ?_)
 have ok:=cellsFrom_ok scope.names (s.heap.push { cls:=.type "dict",data:=.dict #[] }) (s.heap.objs.size+1) [] ⟨λ_ _ hm=>(nomatch hm),Pairwise.nil⟩ (by rw[size_push];exact aaf _)
 rw[size_push] at ok
 rw[show({ s with heap:=s.heap.push { cls:=.type "dict",data:=.dict #[] } }:Shared).heap.objs.size=s.heap.objs.size+1 from size_push ..]
 refine aac ?_
 rw[List.forIn_nil]
 exact aae (aae (hQ _ ((Heap.Ns.new s.heap (.type "dict")).keeps (pushCells_keeps _ _)) (λb o e=>pushCells_keeps _ _ b o (get?_push_of_some _ e)) ok))
theorem g_.track(x:g_ P w H h)(hn:H a=none)(new:bh P w (upd H a o) h a o):g_ P w (upd H a o) h:=λb u e=>by
 by_cases hb:b=a
 ·subst hb;rw[zM] at e;cases e;exact new
 ·rw[zO hb] at e
  exact(x b u e).stay (λc v _ q=>q) (λc q=>by rw[zO (zL q hn)];exact q) λc xs q=>by rw[zO (zL q hn)];exact q
theorem Un.track(u:Un fs ex H H' h h')(h0:h.get? a=none)(hn:H a=none):Un fs ex H (upd H' a o) h h' where
 keep:=u.keep
 slot:=u.slot
 free:=λb ob q n hx=>by
  rw[zO (λz=>by rw[z,h0] at q;cases q)];exact u.free b ob q n hx
 there:=u.there
 tups:=λb xs q=>by rw[zO (zL q hn)];exact u.tups b xs q
 kY:=λb ob xs q=>by rw[zO (zL q hn)];exact u.kY b ob xs q
 mX:=λb ps q=>by rw[zO (zL q hn)];exact u.mX b ps q
def nIn(N:List Str)(own:List Str)(ix:List Nat):List Str:=own++ix.map λj=>N.getD j ac6
def iW(σ:St)(n:Nat)(ix:List Nat):St:=replicate n none++ix.map λj=>(σ[j]?).getD none
def dh(X:Cx)(scope:Scope)(own:List Str)(ix:List Nat)(C:Addr)(s:Shared)(H:Hp)(fp:List Addr):Cx :=
 { X with N:=nIn X.N own ix,s₀:=s,H₀:=H,env:=compEnvC scope (cellsFrom (C+1) scope.names (nj X.env scope.names [])) C X.env,outer:=X.stack,stack:=X.stack,ex:=fp,fn:=λx=>scope.names.lookup x==some .cell,pn:=[] }
def Rk(Ie:Scope)(oN:List Str)(scope:Scope)(ix:List Nat):Bool :=
 scope.kind==.function &&
 (scope.names.all λy=>(y.2 != .cell||scope.names.lookup y.1==some .cell)&&(y.2 != .local||scope.names.lookup y.1==some .local)&&(y.2 != .free||(Ie.names.lookup y.1==some .cell||Ie.names.lookup y.1==some .free))) &&
 ix.all λj=>match oN[j]? with
  |some x=>scope.names.lookup x==some .free
  |none=>false
structure iY(Ie:Scope)(oN:List Str)(scope:Scope)(ix:List Nat):Prop where
 kind:scope.kind=.function
 YD:∀y∈scope.names,y.2=.cell->scope.names.lookup y.1=some .cell
 nm:∀y∈scope.names,y.2=.local->scope.names.lookup y.1=some .local
 fr:∀y∈scope.names,y.2=.free->Ie.names.lookup y.1=some .cell\/Ie.names.lookup y.1=some .free
 ix:∀j∈ix,∃x,oN[j]?=some x/\scope.names.lookup x=some .free
theorem YF(h:Rk Ie oN scope ix=true):iY Ie oN scope ix:=by
 unfold Rk at h
 rw[aag,aag,all_eq_true,all_eq_true] at h
 obtain⟨⟨h1,h2⟩,h3⟩:=h
 refine⟨abq h1,λy hy e=>?_,λy hy e=>?_,λy hy e=>?_,λj hj=>?_⟩
 ·have q:=h2 y hy
  rw[aag,aag] at q
  rcases abg _ _▸q.1.1 with z|z
  ·exact absurd e (bne_iff_ne.mp z)
  ·exact abq z
 ·have q:=h2 y hy
  rw[aag,aag] at q
  rcases abg _ _▸q.1.2 with z|z
  ·exact absurd e (bne_iff_ne.mp z)
  ·exact abq z
 ·have q:=h2 y hy
  rw[aag,aag] at q
  rcases abg _ _▸q.2 with z|z
  ·exact absurd e (bne_iff_ne.mp z)
  ·rcases abg _ _▸z with z|z
   ·exact .inl (abq z)
   ·exact .inr (abq z)
 ·have q:=h3 j hj
  cases e:oN[j]? with
  |none=>rw[e] at q;cases q
  |some x=>rw[e] at q;exact⟨x,rfl,abq q⟩
section
variable{X:Cx}{pins:List (Addr×Obj)}{σ:St}{H:Hp}{s:Shared}{scope:Scope}{own:List Str}{ix:List Nat}
theorem Uj(I:Inv X pins σ H s)(sc:iY X.env.scope X.N scope ix):∀y∈scope.names,y.2=.free->∃c,X.env.cells.lookup y.1=some c:=λy hy e=>by
 rcases sc.fr y hy e with q|q
 ·exact I.ok.has y.1 (.inl q)
 ·exact I.ok.has y.1 (.inr q)
theorem YG(I:Inv X pins σ H s)(sc:iY X.env.scope X.N scope ix)(e:(nj X.env scope.names []).lookup x=some c):X.env.cells.lookup x=some c:=by
 have h1:=Ug (env:=X.env) scope.names [] (λx c q=>by simp at q) x c e
 rcases Uh (env:=X.env) scope.names [] x c e with q|q
 ·simp at q
 ·obtain⟨c',hc⟩:=Uj I sc (x,.free) q rfl
  have hc':X.env.cells.lookup x=some c':=hc
  rw[hc'] at h1
  rw[hc']
  exact congrArg some h1
theorem zSf(I:Inv X pins σ H s)(sc:iY X.env.scope X.N scope ix)(hx:(x,aau)∈scope.names)(e:X.env.cells.lookup x=some c):(nj X.env scope.names []).lookup x=some c:=by
 have h1:=Rj (env:=X.env) scope.names [] x (.inr hx)
 obtain⟨c',hc⟩:=abm.mp h1
 rw[hc]
 have:=YG I sc hc
 rw[e] at this
 exact this.symm
theorem uM(I:Inv X pins σ H s)(sc:iY X.env.scope X.N scope ix)(e:(cellsFrom (C+1) scope.names (nj X.env scope.names [])).lookup x=some c):(x,c)∈cellsFrom (C+1) scope.names []\/X.env.cells.lookup x=some c:=by
 rw[xL,lookup_append] at e
 cases h:(cellsFrom (C+1) scope.names []).lookup x with
 |some d=>rw[h] at e;cases e;exact .inl (abd h)
 |none=>rw[h] at e;exact .inr (YG I sc e)
theorem vg(h:(iW σ n ix)[i]?=some (some v)):∃j,ix[i-n]?=some j/\σ[j]?=some (some v)/\n<=i:=by
 unfold iW at h
 by_cases hi:i<n
 ·rw[getElem?_append_left (by simpa using hi),getElem?_replicate] at h
  rw[if_pos hi] at h
  cases h
 ·rw[getElem?_append_right (by simpa using hi),List.length_replicate,getElem?_map] at h
  cases e:ix[i-n]? with
  |none=>rw[e] at h;cases h
  |some j =>
   rw[e] at h
   have h':(σ[j]?).getD none=some v:=aai h
   refine⟨j,rfl,?_,by omega⟩
   cases e2:σ[j]? with
   |none=>rw[e2] at h';cases h'
   |some o=>rw[e2] at h';exact congrArg some h'
theorem Inv.comp{h₁:Heap}(I:Inv X pins σ H s)(sc:iY X.env.scope X.N scope ix)(fo:∀b∈fp,j5 X pins H b)(Oa:∀b∈fp,b<s.heap.objs.size)(hC:s.heap.objs.size<=C)(hns:h₁.Ns C m₀)(hk:∀b o,s.heap.get? b=some o->h₁.get? b=some o)(co:CellsOk h₁ (C+1) (cellsFrom (C+1) scope.names [])):Inv (dh X scope own ix C s H fp) [] (iW σ own.length ix) H { s with heap:=h₁,toks:=t' }:=by
 have lt:∀{b:Addr},b<s.heap.objs.size->b≠C:=λ{b} hb=>aaj (aal hb hC)
 have Ob:∀{x:Str}{c:Addr},X.env.cells.lookup x=some c->c<C+1:=λ{x c} e=>by
  obtain⟨v,q⟩:=I.cell x c e
  exact ac7 (aal q.lt hC)
 have cellK:∀{x:Str}{c:Addr},X.env.cells.lookup x=some c->∀v,s.heap.IsCell c v->h₁.IsCell c v:=λ{x c} _ v ⟨o,ho,hd⟩=>⟨o,hk _ _ ho,hd⟩
 refine⟨⟨I.ok.mod,sc.kind,I.ok.glob,I.ok.blt,hC,λx y c h1 h2=>?_,λx hx=>?_,λx c h e=>by
  have h':scope.names.lookup x=some .cell:=abq h
  have e':(cellsFrom (C+1) scope.names (nj X.env scope.names [])).lookup x=some c:=e
  rw[xL,lookup_append] at e'
  obtain⟨d,hd⟩:=abm.mp (acp scope.names (C+1) [] (.inl h'))
  rw[hd] at e'
  cases e'
  exact aas hC (adv (co.empty _ _ (abd hd)).2),I.ok.hd,I.ok.frames,.inl rfl,λb hb=>?_,I.bs,aas I.ok.Ak I.sz,λb o e hb=>?_,λb hb z=>?_,I.stack,I.q_⟩,
  rfl,I.bare,Un.kept hk,⟨m₀,hns,λi x v h1 h2 h3=>?_⟩,λx c h=>?_,I.hok.fresh hC,λx c h=>?_,λp hp=>?_,I.hok.kept hk,?_⟩
 ·rcases uM I sc h1 with q1|q1
  ·rcases uM I sc h2 with q2|q2
   ·exact name_of_addr co.apart q1 q2
   ·exact absurd (aal (Ob q2) (co.empty _ _ q1).2) (abh _)
  ·rcases uM I sc h2 with q2|q2
   ·exact absurd (aal (Ob q1) (co.empty _ _ q2).2) (abh _)
   ·exact I.ok.inj x y c q1 q2
 ·have hm:(x,aau)∈scope.names\/(x,abl)∈scope.names:=by
   rcases hx with hx|hx
   ·exact Ui (env:=X.env) (.inl rfl) hx
   ·exact Ui (env:=X.env) (.inr rfl) hx
  refine abm.mp ?_
  show((cellsFrom (C+1) scope.names (nj X.env scope.names [])).lookup x).isSome=true
  rcases hm with hm|hm
  ·exact acp _ _ _ (.inr (Rj (env:=X.env) scope.names [] x (.inr hm)))
  ·exact acp _ _ _ (.inl (sc.YD _ hm rfl))
 ·obtain⟨f0,f1,f2,f3,f4,f5⟩:=fo b hb
  refine⟨lt (Oa b hb),λx c h=>?_⟩
  rcases uM I sc h with q|q
  ·exactλz=>absurd (aal (Oa b hb) (aas hC (adv (z▸(co.empty _ _ q).2)))) (abh _)
  ·exact f4 x c q
 ·obtain⟨f0,f1,f2,f3,f4,f5⟩:=fo b hb
  rcases f3 with z|z
  ·exact I.ok.uh b o e z
  ·exact absurd (aal (lt_size e) (aas I.ok.Ak z)) (abh _)
 ·obtain⟨f0,f1,f2,f3,f4,f5⟩:=fo b hb
  rcases mem_cons.mp (I.ou b z) with z|z
  ·exact f1 z
  ·exact f2 z
 ·obtain⟨j,hj,hv,hn⟩:=vg h2
  obtain⟨y,hy,hf⟩:=sc.ix j (mem_of_getElem? hj)
  have e:y=x:=by
   have h1':(nIn X.N own ix)[i]?=some x:=h1
   unfold nIn at h1'
   rw[getElem?_append_right hn,getElem?_map,hj] at h1'
   have Bu:X.N.getD j ac6=x:=aai h1'
   rw[getD_eq_getElem?_getD,hy] at Bu
   exact Bu
  subst e
  have hm:(y,aau)∈scope.names:=abd hf
  have vis:M9 X.env.scope y:=by
   rcases sc.fr _ hm rfl with q|q
   ·exact .inr (.inl q)
   ·exact .inr (.inr q)
  obtain⟨m,_,hl⟩:=I.loc
  obtain⟨u,r,l⟩:=hl j y v hy hv vis
  refine⟨u,r,?_⟩
  rcases l with⟨hk',_⟩|⟨_,c,hc,hcell⟩
  ·have hk'':X.env.scope.names.lookup y=some .local:=hk'
   rcases sc.fr _ hm rfl with q|q
   ·have q':X.env.scope.names.lookup y=some .cell:=q
    rw[hk''] at q';cases q'
   ·have q':X.env.scope.names.lookup y=some .free:=q
    rw[hk''] at q';cases q'
  ·refine .inr ⟨YC (env:=X.env) hf,c,?_,cellK hc _ hcell⟩
   show(cellsFrom (C+1) scope.names (nj X.env scope.names [])).lookup y=some c
   rw[xL,lookup_append,zSf I sc hm hc]
   cases e:(cellsFrom (C+1) scope.names []).lookup y with
   |none=>rfl
   |some d =>
    have q:=sc.YD _ (uZ _ _ _ _ (abd e)) rfl
    have q':scope.names.lookup y=some .cell:=q
    rw[hf] at q';cases q'
 ·rcases uM I sc h with q|q
  ·exact⟨_,(co.empty _ _ q).1⟩
  ·obtain⟨v,z⟩:=I.cell x c q
   exact⟨v,cellK q v z⟩
 ·rcases uM I sc h with q|q
  ·exact I.hok.fresh (aas hC (adv (co.empty _ _ q).2))
  ·exact I.gq x c q
 ·exact absurd (show p∈([]:List (Addr×Obj)) from hp) (by simp)
 ·show(iW σ own.length ix).length=(nIn X.N own ix).length
  unfold iW nIn
  simp
end
def vh(X:Cx)(ifs:List Expr)(t:TT):Prop :=
 ∀(pins:List (Addr×Obj))(s:Shared)(σ:St)(H:Hp)(Q:Bool->Hp->Prop),Inv X pins σ H s->t σ H Q ->
  wpAny (model X.prog X.w) X.A (forIn ifs true λc r=>if r=true then do let ok <-isTrue c X.env (eval c X.env);pure (abz ok) else pure (abz r)) (TP X pins σ Q) X.xe s
def vm:TT:=λ_ H Q=>Q true H
theorem xU:vh X [] vm:=λ_ _ _ H _ I h=>wpAny_tests_nil ⟨H,I,h⟩
theorem uV(h:PT X c t):vh X [c] t:=λpins s σ H Q I q=>wpAny_tests_one (h pins s σ H Q I q)
def Rm(n:Nat)(ix:List Nat)(g:TG)(tc:TT)(te:TE)(σ:St)(Q:VK)(J:It)(H1:Hp):Prop :=
 ∃W:Nat->Nat->List V->St->Hp->Prop,(∃m,W 0 m [] (iW σ n ix) H1)/\∀i m ys σ2 H2,W i m ys σ2 H2 ->
  (J.stop i H2/\ys.length<=sizeLine/\∀p,H2 p=none->Q (.ref p) (upd H2 p (.lst ys))) \/
  (J.go i H2/\ys.length<sizeLine/\∃N:List V->St->Hp->Prop,(∀ys' σ' H',N ys' σ' H'->∃m',m'<m/\W (i+1) m' ys' σ' H') /\
   ∀x H3,J.Lb i H2 x H3->g x σ2 H3 λσ4 H4=>tc σ4 H4 λb H5=>if b=true then te σ4 H5 λy H6=>N (ys++[y]) σ4 H6 else N ys σ4 H5)
def Ln(n:Nat)(ix:List Nat)(wi:TI)(g:TG)(tc:TT)(te:TE):TE:=λσ H Q=>wi σ H (Rm n ix g tc te σ Q)
def Uk(X:Cx)(pins:List (Addr×Obj))(σ:St)(Q:VK)(acc:Value)(C:Addr)(s':Shared):Prop :=
 ∃p H',acc=.ref p/\Inv X pins σ H' s'/\(∃m,s'.heap.Ns C m)/\j5 X pins H' C/\Q (.ref p) H'
theorem Um{X:Cx}{α:Type}{t:Sem α}{Q Q':α->Shared->Prop}(hx:X.xe=λ_ _=>False)(h:wpAny M A t Q X.xe s)(hQ:∀a s,Q a s->Q' a s):wpAny M A t Q' E s :=
 abv h hQ λe s' z=>by rw[hx] at z;exact z.elim
section
variable{X:Cx}{elt tg iter:Expr}{ifs:List Expr}{scope:Scope}{pos:Pos}{own:List Str}{ix:List Nat}{wi:TI}{g:TG}{tc:TT}{te:TE}
theorem YH{RR:Value->Addr->Result->Shared->Prop}(hx:X.xe=λ_ _=>False)(hc:X.calm=true)(sc:iY X.env.scope X.N scope ix)(I:Inv X pins σ H s)(T:Turn X.prog X.w X.K tg J fp it tn)(st:tn 0 s.heap)(fo:∀b∈fp,j5 X pins H b)(hg:∀C s H fp,PG (dh X scope own ix C s H fp) tg g)(hif:∀C s H fp,vh (dh X scope own ix C s H fp) ifs tc)(he:∀C s H fp,PE (dh X scope own ix C s H fp) elt te)(rd:Rm own.length ix g tc te σ Q J H)(hRR:∀acc C s',Uk X pins σ Q acc C s'->RR acc C (.ok .next) s') :
  wpAny (model X.prog X.w) X.A (newList []) (λacc s₃=>wpAny (model X.prog X.w) X.A (newFunctionEnv scope X.env.globals (nj X.env scope.names []) [] X.env.qual none .none (some X.env)) (λcenv s₄ =>
   codeAny (model X.prog X.w) X.A (.compStart (.ListComp elt [⟨tg,iter,ifs,0⟩] scope pos) 0 (.ref it) acc { cenv with scope:=relabel scope X.env }) (RR acc cenv.locals) s₄) E s₃) E s:=by
 refine ab6 (zDa (λh₁ hns₁ hsb₁ co=>?_))
 dsimp only at hns₁ hsb₁ co ⊢
 generalize hD':s.heap.objs.size=D at hns₁ hsb₁ co ⊢
 generalize hH2:s.heap.push { cls:=.type "list",dict:=none,data:=.seq ([]:List Value).toArray }=G at hns₁ hsb₁ co ⊢
 generalize hC':G.objs.size=C at hns₁ hsb₁ co ⊢
 have hC:C=D+1:=by rw[<-hC',<-hH2,size_push,hD']
 have hDC:D≠C:=by rw[hC];exact aaj (ace _)
 have hle:s.heap.objs.size<=C:=by rw[hC,hD'];exact abt _
 have old:∀b o,s.heap.get? b=some o->h₁.get? b=some o:=λb o e=>by
  exact hsb₁ b o (hH2▸get?_push_of_some _ e)
 have oD:h₁.get? D=some { cls:=.type "list",data:=.seq ([]:List Value).toArray 0 }:=by
  refine hsb₁ D _ ?_
  rw[<-hH2,<-hD']
  exact get?_push_size _ rfl
 have Oa:∀b∈fp,b<s.heap.objs.size:=λb hb=>by
  obtain⟨o,e,_⟩:=T.obj 0 _ st b hb
  exact lt_size e
 have YJ:∀b∈fp,b≠D:=λb hb=>by rw[<-hD'];exact aaj (Oa b hb)
 have sD:s.heap.get? D=none:=by
  cases e:s.heap.get? D with
  |none=>rfl
  |some o=>exact absurd (lt_size e) (by rw[hD'];exact abh _)
 have YK:H D=none:=I.hok.fresh (by rw[hD'];exact aaf _)
 have I0:Inv (dh X scope own ix C s H fp) [] (iW σ own.length ix) H { s with heap:=h₁ }:=I.comp sc fo Oa hle hns₁ old co
 have st0:tn 0 h₁:=T.keep 0 _ _ st λb _ o e=>old b o e
 have hx':(dh X scope own ix C s H fp).xe=λ_ _=>False:=hx
 have Oc:D≠(dh X scope own ix C s H fp).env.locals:=hDC
 have Dex:D∈(dh X scope own ix C s H fp).ex\/(dh X scope own ix C s H fp).s₀.heap.objs.size<=D:=.inr (by show s.heap.objs.size<=D;rw[hD'];exact aaf _)
 have Dfs:D∉(dh X scope own ix C s H fp).fs:=I0.G5 (a:=D) |> λk=>λz=>by
  have z':D∈frs X.stack:=z
  rcases mem_cons.mp (I.ou D z') with q|q
  ·exact absurd (q▸I.lt) (by rw[hD'];exact abh _)
  ·exact I.G5 (by rw[hD'];exact aaf _) q
 have Od:∀x c,(dh X scope own ix C s H fp).env.cells.lookup x=some c->c≠D:=λx c e z=>by
  rcases uM I sc e with q|q
  ·have w1:=(co.empty _ _ q).2
   rw[z,hC] at w1
   omega
  ·obtain⟨v,q⟩:=I.cell x c q
   exact absurd (aal q.lt (by rw[z,hD'];exact aaf _)) (abh _)
 have Uo:∀{H':Hp}{pl:List (Addr×Obj)},(∀b∈fp,H' b=none)->(∀p∈pl,p.1=D)->∀b∈fp,j5 (dh X scope own ix C s H fp) pl H' b:=λ{H' pl} hn hp b hb=>by
  obtain⟨f0,f1,f2,f3,f4,f5⟩:=fo b hb
  refine⟨hn b hb,(I0.ok.QG b hb).1,I0.ok.uo b hb,.inl hb,(I0.ok.QG b hb).2,λp hp' z=>?_⟩
  rcases mem_append.mp hp' with q|q
  ·exact absurd (show p∈([]:List (Addr×Obj)) from q) (by simp)
  ·exact YJ b hb (by rw[<-z];exact hp p q)
 obtain⟨W,⟨m0,w0⟩,step⟩:=rd
 have loop:codeAny (model X.prog X.w) X.A (.compLoop (.ListComp elt [⟨tg,iter,ifs,0⟩] scope pos) 0 (.ref it) (.ref D) (dh X scope own ix C s H fp).env) (RR (.ref D) C) { s with heap:=h₁ }:=by
  refine zH7 (λn s'=>∃i ys σ' H' its k,Inv (dh X scope own ix C s H fp) [] σ' H' s'/\tn i s'.heap/\(∀b∈fp,H' b=none)/\H' D=none/\s'.heap.get? D=some { cls:=.type "list",data:=.seq (toArray its) k }/\Vals ys its/\W i n ys σ' H') ?_ m0
   ⟨0,[],_,H,[],0,I0,st0,λb hb=>(fo b hb).1,YK,oD,.nil,w0⟩
  rintro n s1 ⟨i,ys,σ1,H1,its,k,I1,YL,Rn,D1,o1,Ro,w1⟩
  have J1:Inv (dh X scope own ix C s H fp) [(D,{ cls:=.type "list",data:=.seq (toArray its) k })] σ1 H1 s1:=I1.ji λp hp=>by
   have e:p=(D,{ cls:=.type "list",data:=.seq (toArray its) k }):=by simpa using hp
   subst e
   exact⟨o1,D1,Oc,Dfs,λv z=>by cases z⟩
  have single:∀p∈[((D,{ cls:=.type "list",data:=.seq (toArray its) k }):Addr×Obj)],p.1=D:=λp hp=>by
   have e:p=(D,{ cls:=.type "list",data:=.seq (toArray its) k }):=by simpa using hp
   rw[e]
  rcases step i n ys σ1 H1 w1 with⟨stop,hz,qn⟩|⟨go,hz,N,hN,stp⟩
  ·refine aN (T.done (dh X scope own ix C s H fp) rfl rfl rfl hc i _ s1 σ1 H1 _ J1 (Uo Rn single) YL stop) λr s2 ⟨hr,I2⟩=>?_
   subst hr
   obtain⟨e2,_⟩:=I2.pin (D,{ cls:=.type "list",data:=.seq (toArray its) k }) (mem_append_right _ (by simp))
   obtain⟨m2,Uq,_⟩:=I2.loc
   refine hRR _ _ _ ⟨D,upd H1 D (.lst ys),rfl,?_,⟨m2,Uq⟩,?_,qn D D1⟩
   ·refine I.call' (ch:=fp) I2.os (Un.track I2.base sD YK) (I2.hok.track D1 ⟨hz,its,k,Ro,e2⟩) I2.bare λb hb=>?_
    obtain⟨f0,f1,f2,f3,f4,f5⟩:=fo b hb
    exact⟨f3,f1,f4,f5⟩
   ·refine I.lq hle ?_
    rw[zO hDC.symm]
    exact I2.free
  ·refine aN (T.item (dh X scope own ix C s H fp) rfl rfl rfl hc i _ s1 σ1 H1 _ J1 (Uo Rn single) YL go) λr s2 ⟨u,hr,h2⟩=>?_
   subst hr
   refine aN h2 λ_ s3 ⟨x,H3,I3,rx,y3,Ur,QV⟩=>?_
   have I3':=I3.pinned (Uo QV single) (T.obj _ _ Ur)
   refine Um hx' (hg C s H fp _ s3 σ1 H3 x u _ I3' rx (stp x H3 y3)) λ_ s4 ⟨σ4,H4,I4,q4⟩=>?_
   refine Um hx' (hif C s H fp _ s4 σ4 H4 _ I4 q4) λb s5 ⟨H5,I5,q5⟩=>?_
   have back:∀{σ7:St}{H7:Hp}{s7:Shared},Inv (dh X scope own ix C s H fp) ([(D,{ cls:=.type "list",data:=.seq (toArray its) k })]++Ht fp s3.heap) σ7 H7 s7 ->
     tn (i+1) s7.heap/\(∀b∈fp,H7 b=none)/\H7 D=none/\s7.heap.get? D=some { cls:=.type "list",data:=.seq (toArray its) k }:=λ{σ7 H7 s7} I7=>by
    have Oe:=I7.pin (D,{ cls:=.type "list",data:=.seq (toArray its) k }) (mem_append_right _ (mem_append_left _ (by simp)))
    refine⟨T.keep _ _ _ Ur λb hb o e=>(I7.pin (b,o) (mem_append_right _ (mem_append_right _ (uC hb e)))).1,λb hb=>?_,Oe.2.1,Oe.1⟩
    obtain⟨o,e,d⟩:=T.obj _ _ Ur b hb
    exact(I7.pin (b,o) (mem_append_right _ (mem_append_right _ (uC hb e)))).2.1
   cases b with
   |false =>
    obtain⟨m',hm,w'⟩:=hN _ _ _ (show N ys σ4 H5 from q5)
    obtain⟨b1,b2,b3,b4⟩:=back I5
    exact⟨m',hm,i+1,ys,σ4,H5,its,k,I5.ji (λp hp=>absurd hp (by simp)),b1,b2,b3,b4,Ro,w'⟩
   |true =>
    rw[if_pos rfl]
    refine Um hx' (he C s H fp _ s5 σ4 H5 _ I5 q5) λv s6 ⟨y,H6,I6,ry,q6⟩=>?_
    obtain⟨m',hm,w'⟩:=hN _ _ _ q6
    obtain⟨b1,b2,b3,b4⟩:=back I6
    have zl:its.length=ys.length:=Ro.length.symm
    refine aek F.slot_list_append ⟨_,b4,rfl⟩ F.entry_list_append (F.args_list_append_2 _ _) (PySem.list_append D its.toArray k v (by rw[size_toArray];omega)) ⟨b4,?_⟩
    have q:=PySem.IsL.update b4 (λxs=>xs.push v)
    have keep:∀b o,b≠D->s6.heap.get? b=some o->(s6.heap.update D (acg λxs=>xs.push v)).get? b=some o:=λb o hb e=>(get?_update_other s6.heap _ (ab8 hb)).trans e
    refine⟨m',hm,i+1,ys++[y],σ4,H6,its++[v],(if(its.toArray.push v).size==its.toArray.size then k else k+1),?_,T.keep _ _ _ b1 (λb hb o e=>keep b o (YJ b hb) e),b2,b3,?_,Ro.append (.cons ry .nil),w'⟩
    ·exact(I6.ji (Er:=[]) λp hp=>absurd hp (by simp)).turned (t':=s6.toks) keep b3 Oc Dex Od λp hp=>absurd (show p∈([]:List (Addr×Obj)) from hp) (by simp)
    ·rw[show(its++[v]).toArray=its.toArray.push v by simp]
     exact q
 exact codeAny_compStart_list loop (T.self X.A 0 _ _ _ st0 loop)
theorem wL(hx:X.xe=λ_ _=>False)(hc:X.calm=true)(ho:Rk X.env.scope X.N scope ix=true)(hi:PI X tg iter wi)(hg:∀C s H fp,PG (dh X scope own ix C s H fp) tg g)(hif:∀C s H fp,vh (dh X scope own ix C s H fp) ifs tc)(he:∀C s H fp,PE (dh X scope own ix C s H fp) elt te)(hs:∀x,foldedSetIterable iter X.env x=pure x:=by intro _;rfl):PE X (.ListComp elt [⟨tg,iter,ifs,0⟩] scope pos) (Ln own.length ix wi g tc te):=by
 intro pins s σ H Q I h
 have sc:=YF ho
 rw[eval_ListComp]
 refine wpAny_comprehension_free (use:=none) rfl hs (YB (Uj I sc)) sc.kind sc.nm (aN (hi pins s σ H _ I h) λv s1 h1=>aN h1 λitv s2 h2=>?_)
 obtain⟨it,fp,tn,J,H2,e,I2,T,st2,f2,rd⟩:=h2
 subst e
 refine YH (RR:=λacc C=>compPost (model X.prog X.w) X.A X.xe none (EP X pins σ Q) acc C) hx hc sc I2 T st2 f2 hg hif he rd ?_
 rintro acc C s' ⟨p,H',rfl,I',⟨m,hns⟩,fC,q⟩
 obtain⟨f0,f1,f2,f3,f4,f5⟩:=fC
 exact⟨m,hns,λh' hs'=>⟨.ref p,H',I'.turned (t':=s'.toks) (λb o hb e=>(hs'.2 b hb).trans e) f0 f1 f3 f4 f5,rfl,q⟩⟩
theorem vP{spos:Pos}(hN:X.N.Nodup)(hi':X.N[i]?=some x)(YM:X.env.scope.names.lookup x=some .local)(hx:X.xe=λ_ _=>False)(hc:X.calm=true)(ho:Rk X.env.scope X.N scope ix=true)(hi:PI X tg iter wi)(hg:∀C s H fp,PG (dh X scope own ix C s H fp) tg g)(hif:∀C s H fp,vh (dh X scope own ix C s H fp) ifs tc)(he:∀C s H fp,PE (dh X scope own ix C s H fp) elt te)(hsw:swapsWith (.ListComp elt [⟨tg,iter,ifs,0⟩] scope pos) (some (.Name x pos')) spos.line X.env=pure true:=by rfl)(hs:∀x,foldedSetIterable iter X.env x=pure x:=by intro _;rfl):PS X (.Assign [.Name x pos'] (.ListComp elt [⟨tg,iter,ifs,0⟩] scope pos) spos) (lg (Ln own.length ix wi g tc te) (pL i)):=by
 intro pins s σ H D I h
 have sc:=YF ho
 rw[exec_Assign_Name_used _ _ _ _ hsw]
 refine aac (aeg (aac ?_))
 show wpAny _ X.A (do let _ <-comprehension (.ListComp elt [⟨tg,iter,ifs,0⟩] scope pos) scope X.env _ (newList []) false (eval iter X.env) (some (assign (.Name x pos') X.env))) _ _ s
 refine aac (abv (wpAny_comprehension_free (use:=some (assign (.Name x pos') X.env)) (Q:=λ_ s'=>SP X pins D .next s') rfl hs (YB (Uj I sc)) sc.kind sc.nm
  (aN (hi pins s σ H _ I h) λv s1 h1=>aN h1 λitv s2 h2=>?_)) (λ_ s' hq=>aae (aae hq)) λ_ _ e=>e)
 obtain⟨it,fp,tn,J,H2,e,I2,T,st2,f2,rd⟩:=h2
 subst e
 refine YH (RR:=λacc C=>compPost (model X.prog X.w) X.A X.xe (some (assign (.Name x pos') X.env)) (λ_ s'=>SP X pins D .next s') acc C) hx hc sc I2 T st2 f2 hg hif he rd ?_
 rintro acc C s' ⟨p,H',rfl,I',⟨m,hns⟩,fC,q⟩
 obtain⟨f0,f1,f2,f3,f4,f5⟩:=fC
 show wpAny _ X.A (assign (.Name x pos') X.env (.ref p)) _ _ _
 refine wpAny_assign_Name (Xw (v:=.ref p) I' hN hi' (.inl YM) rfl (λs'' I'' ⟨a,hsa,ha⟩=>?_) (.inr YM))
 have haC:C≠a:=by
  rcases ha with ha|ha
  ·rw[ha];exact f1
  ·exact(f4 x a ha).symm
 exact⟨m,hns.sameBut hsa haC,λh' hs'=>⟨_,H',I''.turned (t':=s''.toks) (λb o hb e=>(hs'.2 b hb).trans e) f0 f1 f3 f4 f5,q⟩⟩
end
section
variable{n:Nat}{ix:List Nat}{g:TG}{tc:TT}{te:TE}{σ:St}{Q:VK}{H:Hp}
theorem zPu{K:PySem.W.Frag}{a:Addr}{xs:List V}(Pv:Nat->List V->St->Hp->Prop)(h0:Pv 0 [] (iW σ n ix) H)(hl:∀i ys σ H,i<=xs.length->Pv i ys σ H->bw K H a xs/\ys.length<=i)(hz:xs.length<sizeLine)(hs:∀i x ys σ H,xs[i]?=some x->Pv i ys σ H->g x σ H λσ4 H4=>tc σ4 H4 λb H5=>if b=true then te σ4 H5 λy H6=>Pv (i+1) (ys++[y]) σ4 H6 else Pv (i+1) ys σ4 H5)(hd:∀ys σ H,Pv xs.length ys σ H->∀p,H p=none->Q (.ref p) (upd H p (.lst ys))):Rm n ix g tc te σ Q (Lf K a) H:=by
 refine⟨λi m ys σ H=>m=xs.length-i/\i<=xs.length/\Pv i ys σ H,⟨xs.length,by simp,aa0 _,h0⟩,?_⟩
 rintro i m ys σ H ⟨rfl,hi,p⟩
 obtain⟨q,hy⟩:=hl i ys σ H hi p
 by_cases hlt:i<xs.length
 ·refine .inr ⟨⟨xs,xs[i],q,by simp[hlt]⟩,by omega,Pv (i+1),λys' σ' H' p'=>⟨xs.length-(i+1),by omega,rfl,hlt,p'⟩,λx H' y=>?_⟩
  obtain⟨e,y⟩:=y
  subst e
  exact hs i x ys σ _ (y xs q) p
 ·have e:i=xs.length:=by omega
  subst e
  exact .inl ⟨⟨xs,q,aaf _⟩,by omega,hd ys σ H p⟩
end
def Ite(K:PySem.W.Frag)(a:Addr):It :=
 ⟨λi H=>∃xs x,bw K H a xs/\xs[i]?=some x,λi H v H'=>∃t x,v=.ref t/\H t=none/\H'=upd H t (.tup [.int i,x])/\∀xs,bw K H a xs->xs[i]?=some x,λi H=>∃xs,bw K H a xs/\xs.length<=i⟩
theorem zNd{P:Program}{w:World}{K:PySem.W.Frag}{elts:List Expr}{k:Nat}{tp:Pos}(a e it:Addr)(hne:e≠it) :
  Turn P w K (.Tuple elts k tp) (Ite K a) [e,it] e (λi h=>(∃old,IsEnum h e it ((i:Nat):Int) old)/\h.IsListIter it a i) where
 mem:=by simp
 obj:=λi h st b hb=>by
  obtain⟨⟨old,he⟩,o,ho,c,d⟩:=st
  have hb':b=e\/b=it:=by simpa using hb
  rcases hb' with rfl|rfl
  ·exact⟨_,he,λv z=>by
    have z':aes _=Data.cell v:=z
    cases z'⟩
  ·exact⟨o,ho,λv z=>by rw[d] at z;cases z⟩
 keep:=λi h h' st k=>⟨let⟨old,he⟩:=st.1;⟨old,k e (by simp) _ he⟩,st.2.at λo q=>k it (by simp) o q⟩
 item:=by
  intro X hP hw hK hc i pins s σ H E I hf st hg
  subst hP hw hK
  obtain⟨xs,x,hq,hx⟩:=hg
  obtain⟨its,rv,p,hz⟩:=I.list hq
  obtain⟨u,hu,ru⟩:=rv.get hx
  obtain⟨⟨old,he⟩,hit⟩:=st
  obtain⟨f0,f1,f2,f3,f4,f5⟩:=hf e (by simp)
  obtain⟨g0,g1,g2,g3,g4,g5⟩:=hf it (by simp)
  refine wpAny_pyNext_enum_item he hit p.isList (x:=u) (by simpa using hu) hne λh₁ heo hit₁ ht₁ hz₁ hk₁=>?_
  refine⟨_,rfl,wpAny_letOwnedTupleGo_enum (s:={ s with heap:=h₁,toks:=s.toks+1 }) heo λh₂ he₂ hs₂=>?_⟩
  replace hs₂:SameBut e h₁ h₂:=hs₂
  have hel:e<s.heap.objs.size:=lt_size he
  have nT:H s.heap.objs.size=none:=I.hok.fresh (aaf _)
  have ht₂:h₂.get? s.heap.objs.size=some { cls:=.type "tuple",data:=.seq #[.int i s.toks,u] }:=(hs₂.2 _ (acs hel)).trans ht₁
  have kk:∀b o,b≠e->b≠it->s.heap.get? b=some o->h₂.get? b=some o:=λb o h1 h2 q=>(hs₂.2 b h1).trans (hk₁ b o h1 h2 q)
  have lt:∀b o,s.heap.get? b=some o->b≠s.heap.objs.size:=λb o q=>aaj (lt_size q)
  have there:∀b o,s.heap.get? b=some o->b∉[e,it]->∃o',h₂.get? b=some o':=λb o q hx=>⟨o,kk b o (λz=>hx (by simp[z])) (λz=>hx (by simp[z])) q⟩
  have U:Un (frs X.stack) [e,it] H (upd H s.heap.objs.size (.tup [.int i,x])) s.heap h₂ :=
   ⟨λb o q _ _ hx=>kk b o (λz=>hx (by simp[z])) (λz=>hx (by simp[z])) q,λb o q _ _ hx=>⟨o.slots,kk b o (λz=>hx (by simp[z])) (λz=>hx (by simp[z])) q⟩,
    λb o q n _=>by rw[zO (lt b o q)];exact n,there,λb ys q=>by rw[zO (zL q nT)];exact q,λb o ys q=>by rw[zO (zL q nT)];exact q,λb ps q=>⟨#[],by rw[zO (zL q nT),q];simp⟩⟩
  have ok:g_ X.prog X.w (upd H s.heap.objs.size (.tup [.int i,x])) h₂:=λb o q=>by
   by_cases hb:b=s.heap.objs.size
   ·subst hb
    rw[zM] at q
    cases q
    exact⟨by show 2<=sizeLine;decide,[.int i s.toks,u],.cons ⟨_,rfl⟩ (.cons ru .nil),⟨_,ht₂,rfl,_,rfl⟩⟩
   ·rw[zO hb] at q
    refine(I.hok b o q).stay (λc v hc' z=>?_) (λc z=>by rw[zO (zL z nT)];exact z) λc ys z=>by rw[zO (zL z nT)];exact z
    have hcs:∃o',H c=some o':=by
     rcases hc' with rfl|hc'
     ·exact⟨o,q⟩
     ·exact⟨_,hc'⟩
    obtain⟨o',ho'⟩:=hcs
    exact kk c v (zL ho' f0) (zL ho' g0) z
  have I2:=I.call (h':=h₂) (g':=s.gens) (t':=s.toks+1) (d':=s.drawn) (ch:=[e,it]) U ok I.bare λb hb=>by
   have hb':b=e\/b=it:=by simpa using hb
   rcases hb' with rfl|rfl
   ·exact⟨f3,f1,f4,f5⟩
   ·exact⟨g3,g1,g4,g5⟩
  refine⟨.ref s.heap.objs.size,_,I2,rfl,⟨s.heap.objs.size,x,rfl,nT,rfl,λys hy=>by rw[I.kZ hy hq];exact hx⟩,⟨⟨_,by rw[show((i+1:Nat):Int)=(i:Int)+1 by push_cast;rfl];exact he₂⟩,hit₁.extBut hs₂.extBut hne.symm⟩,λb hb=>?_⟩
  have hb':b=e\/b=it:=by simpa using hb
  obtain⟨o2,ho2,_⟩:=hit
  rcases hb' with rfl|rfl
  ·rw[zO (aaj hel)];exact f0
  ·rw[zO (aaj (lt_size ho2))];exact g0
 done:=by
  intro X hP hw hK hc i pins s σ H E I hf st hg
  subst hP hw hK
  obtain⟨xs,hq,hx⟩:=hg
  obtain⟨its,rv,p,hz⟩:=I.list hq
  obtain⟨⟨old,he⟩,hit⟩:=st
  obtain⟨g0,g1,g2,g3,g4,g5⟩:=hf it (by simp)
  have hl:=rv.length
  exact wpAny_pyNext_enum_end (I.ok.hd hc) he hit p.isList (by simp;omega) λh' eb=>⟨rfl,I.turned (t':=s.toks) (λb o hb e=>eb b o hb e) g0 g1 g3 g4 g5⟩
 self:=λ_ _ _ _ _ st h=>let⟨⟨_,he⟩,_⟩:=st;wpAny_pyIter_enum he h
def vo(K:PySem.W.Frag)(ta:TA):TI:=λσ H R=>ta σ H λvs H1=>∃a,vs=[.ref a]/\(∃xs,bw K H1 a xs)/\R (Ite K a) H1
theorem j6:bootBuiltins "enumerate" = some (.type "enumerate"):=by decide +kernel
theorem YQ(hg:Gl X "enumerate")(hm:X.mg "enumerate" = none)(ha:PA X [a] ta)(hs:starEach [a] X.env=[(false,eval a X.env)]:=by rfl) :
  PI X (.Tuple elts k tp) (.Call (.Name "enumerate" p) [a] [] pos) (vo X.K ta):=by
 intro pins s σ H R I h
 refine Call_ (zy I hg hm j6 (aa4 (aN (ha pos pins s σ H _ I h) λus s1 ⟨vs,H1,I1,r1,q1⟩=>?_) hs rfl))
 obtain⟨l,e,⟨xs,hq⟩,q⟩:=q1
 subst e
 cases r1 with
 |cons r rr =>
  cases rr
  cases r
  obtain⟨its,rv,p,hz⟩:=I1.list hq
  refine call_enumerate_list p.isList λh' hE hI hsz hk=>wpAny_pyIter_enum hE ?_
  have I2:Inv X pins σ H1 { s1 with heap:=h',toks:=s1.toks }:=I1.kept hk
  refine⟨s1.heap.objs.size+1,[s1.heap.objs.size+1,s1.heap.objs.size],_,_,H1,rfl,I2,zNd l _ _ (Nat.succ_ne_self _),⟨⟨.none,hE⟩,hI⟩,λb hb=>?_,q⟩
  have hb':b=s1.heap.objs.size+1\/b=s1.heap.objs.size:=by simpa using hb
  rcases hb' with rfl|rfl
  ·exact I1.lq (abt _) (I1.hok.fresh (abt _))
  ·exact I1.lq (aaf _) (I1.hok.fresh (aaf _))
theorem zR7{K:PySem.W.Frag}{a:Addr}{xs:List V}{g:TG}{tb:TS}{D:Ends}{σ:St}{H:Hp}(Pv:Nat->St->Hp->Prop)(h0:Pv 0 σ H)(hl:∀i σ H,i<=xs.length->Pv i σ H->bw K H a xs)(hs:∀i x t σ H,xs[i]?=some x->H t=none->Pv i σ H->g (.ref t) σ (upd H t (.tup [.int i,x])) λσ2 H2=>tb { D with nx:=Pv (i+1),ct:=Pv (i+1),bk:=D.nx } σ2 H2)(hd:∀σ H,Pv xs.length σ H->D.nx σ H) :
  ∃W:Nat->Nat->St->Hp->Prop,(∃m,W 0 m σ H)/\∀i m σ H,W i m σ H ->
   ((Ite K a).stop i H/\D.nx σ H)\/((Ite K a).go i H/\∃N:St->Hp->Prop,(∀σ' H',N σ' H'->∃m',m'<m/\W (i+1) m' σ' H')/\∀x H',(Ite K a).Lb i H x H'->g x σ H' λσ2 H2=>tb { D with nx:=N,ct:=N,bk:=D.nx } σ2 H2):=by
 refine⟨λi m σ H=>m=xs.length-i/\i<=xs.length/\Pv i σ H,⟨xs.length,by simp,aa0 _,h0⟩,?_⟩
 rintro i m σ H ⟨rfl,hi,p⟩
 have q:=hl i σ H hi p
 by_cases hlt:i<xs.length
 ·refine .inr ⟨⟨xs,xs[i],q,by simp[hlt]⟩,Pv (i+1),λσ' H' p'=>⟨xs.length-(i+1),by omega,rfl,hlt,p'⟩,λx H' y=>?_⟩
  obtain⟨t,x',rfl,ht,rfl,y⟩:=y
  exact hs i x' t σ H (y xs q) ht p
 ·have e:i=xs.length:=by omega
  subst e
  exact .inl ⟨⟨xs,q,aaf _⟩,hd σ H p⟩
def Us(a:Str)(te:TE):TE:=λσ H Q=>te σ H λx H1=>(∃i,x=.int i/\i.natAbs.log2<1920/\Q (.str (a++ac9 (toString i))) H1)\/∃z,x=.str z/\z.length<=1000/\Q (.str (a++z)) H1
theorem YS(x y:Str):(x++y).length=x.length+y.length:=by rw[<-strLen_append]
theorem vp{a:Str}(he:PE X e te)(hl:a.length<=1000):PE X (.JoinedStr [.Constant (.str a) j p1,.FormattedValue e (-1) none p2] pos) (Us a te):=by
 intro pins s σ H Q I h
 refine JoinedStr_many (joinParts_cons (Calls.Constant_str ?_))
 have e0:(ac6++a)=a:=by
  cases a with
  |mk c=>show Str.mk _=_;simp[ac6]
 refine⟨by rw[e0];exact aas hl (by decide),?_⟩
 rw[e0]
 have I0:=I.tok (s.toks+1)
 refine joinParts_cons (FormattedValue_plain (aN (he pins _ σ H _ I0 h) λu s1 ⟨x,H1,I1,r1,q1⟩=>?_))
 rcases q1 with⟨i,rfl,hd,q⟩|⟨z,rfl,hz,q⟩
 ·obtain⟨t,rfl⟩:=r1
  refine formatField_int_small hd ?_
  have len:(a++ac9 (toString i)).length<=sizeLine:=by
   have:=int_text_len_1921 hd
   rw[YS]
   exact aas (show a.length+(ac9 (toString i)).length<=4000 by omega) (by decide)
  refine⟨len,joinParts_nil ?_ len⟩
  exact⟨.str (a++ac9 (toString i)),H1,(I1.tok (s1.toks+1+1)).tok _,⟨_,rfl⟩,q⟩
 ·obtain⟨t,rfl⟩:=r1
  have len:(a++z).length<=sizeLine:=by
   rw[YS]
   exact aas (show a.length+z.length<=4000 by omega) (by decide)
  refine formatField_str (λt' tk=>?_) (aas hz (by decide))
  refine⟨len,joinParts_nil ?_ len⟩
  exact⟨.str (a++z),H1,(I1.tok tk).tok _,⟨_,rfl⟩,q⟩
def Bv(K:PySem.W.Frag)(c:Value):List V->Hp->VK->Prop:=λxs H Q=>∃x y t b,xs=[x,y]/\RelV y c/\jk K H x t/\kitOne K t c=some b/\Q (.bl b) H
theorem zSi(hc:∀y u,RelV y c->RelV y u->u=c):rR X (.builtin "isinstance") (Bv X.K c):=by
 intro pins s σ H xs us Q I r h
 obtain⟨x,y,t,b,rfl,ry,ty,e,q⟩:=h
 obtain⟨u,v,rfl,ru,rv⟩:=r.two
 obtain rfl:=hc y v ry rv
 exact zO3 I ru ty e λtk=>⟨.bl b,H,I.tok tk,rfl,q⟩
theorem Lp:∀y u,RelV y (.type n)->RelV y u->u=.type n:=λy u h1 h2=>by
 cases y<;>first
  | (cases h1;done)
  | (obtain⟨_,e⟩:=h1;cases e;done)
  | (cases h1;cases h2;rfl)
theorem vO:∀y u,RelV y (.ref a)->RelV y u->u=.ref a:=λy u h1 h2=>by
 cases y<;>first
  | (cases h1;done)
  | (obtain⟨_,e⟩:=h1;cases e;done)
  | (cases h1;cases h2;rfl)
theorem zRt{σ:St}{A B:St->Hp->Prop}(h:A (σ.set i (some x)) H):pL i x σ H (λσ4 H4=>vm σ4 H4 λb H5=>if b=true then A σ4 H5 else B σ4 H5):=by
 show if true=true then A (σ.set i (some x)) H else B (σ.set i (some x)) H
 rw[if_pos rfl]
 exact h
theorem Ut{X:Cx}{K:PySem.W.Frag}(h:X.K=K){es:List Expr}{k:Nat}{t:K_}{n:Nat}{pos:Pos}(hc:X.calm=true)(ht:Nm X es t)(hn:(assignEach es X.env).length=n:=by rfl)(hst:(assignEach es X.env).findIdx? (·.1)=none:=by rfl):PG X (.Tuple es k pos) (Aq K n t):=by
 subst h
 exact EY hc ht hn hst
end L2
namespace Ts
open PySem L2
theorem aL(h:H p=none)(o:HO):Same H (upd H p o):=λb u q=>by rw[zO (zL q h)];exact q
theorem _root_.L2.Same.put(s:Same H H')(h:H p=none)(o:HO):Same H (upd H' p o):=λb u q=>by rw[zO (zL q h)];exact s b u q
def A2{α β:Type}(R:α->β->Prop):List α->List β->Prop
 |[],[]=>True
 |x::xs,y::ys=>R x y/\A2 R xs ys
 |_,_=>False
section
variable{α β:Type}{R R':α->β->Prop}
theorem A2.len:∀{xs:List α}{ys:List β},A2 R xs ys->xs.length=ys.length
 |[],[],_=>rfl
 |_::_,_::_,h=>congrArg (· + 1) (A2.len h.2)
 |[],_::_,h=>h.elim
 |_::_,[],h=>h.elim
theorem A2.imp(f:∀x y,R x y->R' x y):∀{xs:List α}{ys:List β},A2 R xs ys->A2 R' xs ys
 |[],[],_=>trivial
 |_::_,_::_,h=>⟨f _ _ h.1,A2.imp f h.2⟩
 |[],_::_,h=>h.elim
 |_::_,[],h=>h.elim
theorem A2.app:∀{xs:List α}{ys:List β}{xs':List α}{ys':List β},A2 R xs ys->A2 R xs' ys'->A2 R (xs++xs') (ys++ys')
 |[],[],_,_,_,h=>h
 |_::_,_::_,_,_,h,h'=>⟨h.1,A2.app h.2 h'⟩
 |[],_::_,_,_,h,_=>h.elim
 |_::_,[],_,_,h,_=>h.elim
theorem A2.snoc(h:A2 R xs ys)(r:R x y):A2 R (xs++[x]) (ys++[y]):=h.app ⟨r,trivial⟩
theorem A2.at1:∀{xs:List α}{ys:List β}{i:Nat}{x:α},A2 R xs ys->xs[i]?=some x->∃y,ys[i]?=some y/\R x y
 |[],_,_,_,_,e=>by simp at e
 |_::_,_::_,0,_,h,e=>by simp at e;subst e;exact⟨_,rfl,h.1⟩
 |_::_,_::_,i+1,_,h,e=>by
  obtain⟨y,h1,h2⟩:=A2.at1 (i:=i) h.2 (by simpa using e)
  exact⟨y,by simpa using h1,h2⟩
 |_::_,[],_,_,h,_=>h.elim
theorem A2.at2:∀{xs:List α}{ys:List β}{i:Nat}{y:β},A2 R xs ys->ys[i]?=some y->∃x,xs[i]?=some x/\R x y
 |_,[],_,_,_,e=>by simp at e
 |_::_,_::_,0,_,h,e=>by simp at e;subst e;exact⟨_,rfl,h.1⟩
 |_::_,_::_,i+1,_,h,e=>by
  obtain⟨y,h1,h2⟩:=A2.at2 (i:=i) h.2 (by simpa using e)
  exact⟨y,by simpa using h1,h2⟩
 |[],_::_,_,_,h,_=>h.elim
theorem A2.set(r:R x y):∀{xs:List α}{ys:List β}(i:Nat),A2 R xs ys->A2 R (xs.set i x) (ys.set i y)
 |[],[],_,_=>trivial
 |_::_,_::_,0,h=>⟨r,h.2⟩
 |_::_,_::_,i+1,h=>⟨h.1,A2.set r i h.2⟩
 |[],_::_,_,h=>h.elim
 |_::_,[],_,h=>h.elim
theorem A2.rev:∀{xs:List α}{ys:List β},A2 R xs ys->A2 R xs.reverse ys.reverse
 |[],[],_=>trivial
 |_::_,_::_,h=>by
  rw[reverse_cons,reverse_cons]
  exact(A2.rev h.2).snoc h.1
 |[],_::_,h=>h.elim
 |_::_,[],h=>h.elim
theorem A2.tk:∀{xs:List α}{ys:List β}(i:Nat),A2 R xs ys->A2 R (xs.take i) (ys.take i)
 |[],[],_,_=>by simp[A2]
 |_::_,_::_,0,h=>trivial
 |_::_,_::_,i+1,h=>⟨h.1,A2.tk i h.2⟩
 |[],_::_,_,h=>h.elim
 |_::_,[],_,h=>h.elim
theorem A2.dr:∀{xs:List α}{ys:List β}(i:Nat),A2 R xs ys->A2 R (xs.drop i) (ys.drop i)
 |[],[],_,_=>by simp[A2]
 |_::_,_::_,0,h=>h
 |_::_,_::_,i+1,h=>A2.dr i h.2
 |[],_::_,_,h=>h.elim
 |_::_,[],_,h=>h.elim
theorem A2.of_map{f:β->α}(h:∀y,R (f y) y):∀ys:List β,A2 R (ys.map f) ys
 |[]=>trivial
 |y::ys=>⟨h y,A2.of_map h ys⟩
end
theorem A2.qF{α β:Type}{f:β->α}:∀{xs:List α}{ys:List β},A2 (λx y=>x=f y) xs ys->xs=ys.map f
 |[],[],_=>rfl
 |_::_,_::_,h=>by rw[map_cons,h.1,A2.qF h.2]
 |[],_::_,h=>h.elim
 |_::_,[],h=>h.elim
class Rp (K:PySem.W.Frag) (α:Type) where
 rp:Hp->V->α->Prop
 mono:∀{F F':Hp}{v:V}{a:α},Same F F'->rp F v a->rp F' v a
abbrev rp(K:PySem.W.Frag){α:Type}[Rp K α]:Hp->V->α->Prop:=Rp.rp (K:=K)
class Nn (K:PySem.W.Frag) (α:Type) [Rp K α]:Prop where
 nn:∀{F:Hp}{v:V}{a:α},rp K F v a->v≠.non
class Sc (K:PySem.W.Frag) (α:Type) [Rp K α] where
 val:α->V
 is:∀{F:Hp}{v:V}{a:α},rp K F v a↔v=val a
 inj:∀{a b:α},val a=val b->a=b
section
variable{K:PySem.W.Frag}
instance:Rp K Int:=⟨λ_ v n=>v=.int n,λ_ h=>h⟩
instance:Rp K Bool:=⟨λ_ v n=>v=.bl n,λ_ h=>h⟩
instance:Rp K Str:=⟨λ_ v n=>v=.str n,λ_ h=>h⟩
instance:Rp K Unit:=⟨λ_ v _=>v=.non,λ_ h=>h⟩
instance{α:Type}[Rp K α]:Rp K (Option α):=⟨λF v a=>match a with
 |none=>v=.non
 |some x=>v≠.non/\rp K F v x,λ{F F' v a} s h=>match a,h with
 |none,h=>h
 |some x,h=>⟨h.1,Rp.mono s h.2⟩⟩
instance{α:Type}[Rp K α]:Rp K (List α):=⟨λF v xs=>∃p vs,v=.ref p/\F p=some (.lst vs)/\A2 (rp K F) vs xs,λs ⟨p,vs,h1,h2,h3⟩=>⟨p,vs,h1,s _ _ h2,h3.imp λ_ _=>Rp.mono s⟩⟩
instance{α β:Type}[Rp K α][Rp K β]:Rp K (α×β):=⟨λF v x=>∃p a b,v=.ref p/\F p=some (.tup [a,b])/\rp K F a x.1/\rp K F b x.2,λs ⟨p,a,b,h1,h2,h3,h4⟩=>⟨p,a,b,h1,s _ _ h2,Rp.mono s h3,Rp.mono s h4⟩⟩
structure Og where
 ns:LI
instance:Rp K Og:=⟨λF v x=>∃p,v=.ref p/\bw K F p (x.ns.map V.int),λs ⟨p,h1,h2⟩=>⟨p,h1,s.seq h2⟩⟩
instance:Nn K Int:=⟨λh=>by cases h;intro e;cases e⟩
instance:Nn K Bool:=⟨λh=>by cases h;intro e;cases e⟩
instance:Nn K Str:=⟨λh=>by cases h;intro e;cases e⟩
instance{α:Type}[Rp K α]:Nn K (List α):=⟨λ⟨_,_,h,_⟩=>by rw[h];intro e;cases e⟩
instance{α β:Type}[Rp K α][Rp K β]:Nn K (α×β):=⟨λ⟨_,_,_,h,_⟩=>by rw[h];intro e;cases e⟩
instance:Sc K Int:=⟨V.int,aen,λh=>by cases h;rfl⟩
instance:Sc K Bool:=⟨V.bl,aen,λh=>by cases h;rfl⟩
instance:Sc K Str:=⟨V.str,aen,λh=>by cases h;rfl⟩
instance{α:Type}[Rp K α][Sc K α][Nn K α]:Sc K (Option α):=⟨λa=>match a with
 |none=>.non
 |some x=>Sc.val K x,λ{F v a}=>match a with
 |none=>aen
 |some x=>⟨λh=>Sc.is.mp h.2,λh=>⟨Nn.nn (K:=K) (F:=F) (a:=x) (Sc.is.mpr h),Sc.is.mpr h⟩⟩,λ{a b} h=>match a,b,h with
 |none,none,_=>rfl
 |some x,some y,h=>by rw[Sc.inj (K:=K) (a:=x) (b:=y) h]
 |none,some y,h=>absurd h.symm (Nn.nn (K:=K) (F:=λ_=>none) (a:=y) (Sc.is.mpr rfl))
 |some x,none,h=>absurd h (Nn.nn (K:=K) (F:=λ_=>none) (a:=x) (Sc.is.mpr rfl))⟩
theorem Rq{α:Type}[Rp K α][Sc K α]{a:α}(h:rp K F v a):rp K F' v a:=Sc.is.mpr (Sc.is.mp h)
inductive Md|nw|fz|hp
def dif(H H0:Hp):Hp:=λb=>match H0 b with
 |none=>H b
 |some _=>none
def ext(Fa H0 H:Hp):Hp:=λb=>match H0 b with
 |none=>H b
 |some _=>Fa b
structure Bs where
 Fa:Hp
 H0:Hp
abbrev Own:=List (Addr×HO)
def reg(B:Bs)(F H:Hp):Md->Hp
 |.nw=>dif F B.H0
 |.fz=>F
 |.hp=>H
theorem aV:Same (dif H H0) H:=λb o h=>by
 unfold dif at h
 cases e:H0 b with
 |none=>rw[e] at h;exact h
 |some u=>rw[e] at h;cases h
theorem uL(h:H0 b=none):dif H H0 b=H b:=by
 unfold dif
 rw[h]
theorem wB(s:Same H H'):Same (dif H H0) (dif H' H0):=λb o h=>by
 unfold dif at h ⊢
 cases e:H0 b with
 |none=>rw[e] at h;exact s b o h
 |some u=>rw[e] at h;cases h
structure Ok(B:Bs)(F:Hp)(O:Own)(H:Hp):Prop where
 fh:Same F H
 h0:Same B.H0 H
 fa:∀b o,F b=some o->B.Fa b=some o\/B.H0 b=none
 fo:∀x∈O,F x.1=none/\B.H0 x.1=none/\H x.1=some x.2
 nd:(O.map (·.1)).Nodup
structure bC(B:Bs)(F H:Hp)(O:Own)(F' H':Hp):Prop where
 ff:Same F F'
 hh:Same H H'
 ok:Ok B F' O H'
 nw:∀b,F b=none->H b≠none->F' b=none
section
variable{B:Bs}{F H F' H' F2 H2:Hp}{O:Own}
theorem bC.refl(k:Ok B F O H):bC B F H O F H:=⟨.refl _,.refl _,k,λ_ h _=>h⟩
theorem bC.trans(a:bC B F H O F' H')(b:bC B F' H' O F2 H2):bC B F H O F2 H2 :=
 ⟨a.ff.trans b.ff,a.hh.trans b.hh,b.ok,λq h1 h2=>b.nw q (a.nw q h1 h2) λe=>h2 (a.hh.free e)⟩
theorem bC.new(k:Ok B F O H)(h:H p=none)(o:HO):bC B F H O (upd F p o) (upd H p o):=by
 have fp:=k.fh.free h
 refine⟨aL fp o,aL h o,⟨λb u e=>?_,k.h0.put (k.h0.free h) o,λb u e=>?_,λx hx=>?_,k.nd⟩,λb h1 h2=>?_⟩
 ·by_cases q:b=p
  ·subst q;rw[zM] at e ⊢;exact e
  ·rw[zO q] at e ⊢;exact k.fh b u e
 ·by_cases q:b=p
  ·subst q;exact .inr (k.h0.free h)
  ·rw[zO q] at e;exact k.fa b u e
 ·obtain⟨a1,a2,a3⟩:=k.fo x hx
  have q:x.1≠p:=zL a3 h
  exact⟨by rw[zO q];exact a1,a2,by rw[zO q];exact a3⟩
 ·rw[zO λe=>h2 (by rw[e];exact h)];exact h1
theorem xH(g:bC B F H O F' H')(md:Md):Same (reg B F H md) (reg B F' H' md):=match md with
 |.nw=>wB g.ff
 |.fz=>g.ff
 |.hp=>g.hh
end
inductive Slot(K:PySem.W.Frag):Type 1
 |un
 |fz (n:Bool) {α:Type} [Rp K α] (a:α)
 |hs {α:Type} [Rp K α] (a:α)
 |nu {α:Type} [Rp K α] (a:α)
 |ow (n:Bool) {α:Type} [Rp K α] (xs:List α)
 |od {α:Type} [Rp K α] (kvs:List (Key×α))
abbrev SL(K:PySem.W.Frag):=List (Slot K)
abbrev dX:Bool->Md
 |true=>.nw
 |false=>.fz
def lo(F:Hp)(O:Own)(H:Hp):Hp:=λb=>if(F b).isSome||(O.any λx=>x.1==b) then none else H b
inductive ak(B:Bs)(F L H:Hp):SL K->St->Own->Prop
 |nil:ak B F L H [] [] []
 |un {sl:SL K} {σ:St} {O:Own} {x:Option V}:ak B F L H sl σ O->ak B F L H (.un::sl) (x::σ) O
 |fz {n:Bool} {α:Type} [Rp K α] {a:α} {sl:SL K} {σ:St} {O:Own} {v:V}:rp K (reg B F H (dX n)) v a->ak B F L H sl σ O->ak B F L H (.fz n a::sl) (some v::σ) O
 |hs {α:Type} [Rp K α] {a:α} {sl:SL K} {σ:St} {O:Own} {v:V}:rp K H v a->ak B F L H sl σ O->ak B F L H (.hs a::sl) (some v::σ) O
 |nu {α:Type} [Rp K α] {a:α} {sl:SL K} {σ:St} {O:Own} {v:V}:rp K (dif L B.H0) v a->ak B F L H sl σ O->ak B F L H (.nu a::sl) (some v::σ) O
 |ow {n:Bool} {α:Type} [Rp K α] {xs:List α} {sl:SL K} {σ:St} {O:Own} {p:Addr} {vs:List V}:A2 (rp K (reg B F H (dX n))) vs xs->ak B F L H sl σ O->ak B F L H (.ow n xs::sl) (some (.ref p)::σ) ((p,.lst vs)::O)
 |od {α:Type} [Rp K α] {kvs:List (Key×α)} {sl:SL K} {σ:St} {O:Own} {p:Addr} {ks:List (Key×V)}:A2 (λ(x:Key×V) (y:Key×α)=>x.1=y.1/\rp K F x.2 y.2) ks kvs->ak B F L H sl σ O->ak B F L H (.od kvs::sl) (some (.ref p)::σ) ((p,.dK ks)::O)
def At(B:Bs)(sl:SL K)(F:Hp)(O:Own)(H:Hp)(σ:St):Prop:=Ok B F O H/\ak B F (lo F O H) H sl σ O
abbrev jl:Slot K->Bool
 |@Slot.ow _ _ _ _ _=>true
 |@Slot.od _ _ _ _=>true
 |_=>false
abbrev cP:Slot K->Bool
 |@Slot.hs _ _ _ _=>true
 |_=>false
section
variable{B:Bs}{F H F' H' L L':Hp}{O O':Own}{sl:SL K}{σ:St}
theorem wK(n:Bool)(hF:Same F F'):Same (reg B F H (dX n)) (reg B F' H' (dX n)):=match n with
 |true=>wB hF
 |false=>hF
theorem ak.mono(hF:Same F F')(hL:Same L L')(hH:Same H H')(h:ak B F L H sl σ O):ak B F' L' H' sl σ O:=by
 induction h with
 |nil=>exact .nil
 |un _ ih=>exact .un ih
 |fz r _ ih=>exact .fz (Rp.mono (wK _ hF) r) ih
 |hs r _ ih=>exact .hs (Rp.mono hH r) ih
 |nu r _ ih=>exact .nu (Rp.mono (wB hL) r) ih
 |ow r _ ih=>exact .ow (r.imp λ_ _=>Rp.mono (wK _ hF)) ih
 |od r _ ih=>exact .od (r.imp λ_ _ z=>⟨z.1,Rp.mono hF z.2⟩) ih
theorem ak.mut(hL:Same L L')(h:ak B F L H sl σ O)(hn:sl.all (λs=>!cP s)=true):ak B F L' H' sl σ O:=by
 induction h with
 |nil=>exact .nil
 |un _ ih=>exact .un (ih (by rw[all_cons,aag] at hn;exact hn.2))
 |fz r _ ih=>exact .fz (Rp.mono (wK _ (.refl _)) r) (ih (by rw[all_cons,aag] at hn;exact hn.2))
 |hs r _ ih=>rw[all_cons,aag] at hn;exact absurd hn.1 (by simp)
 |nu r _ ih=>exact .nu (Rp.mono (wB hL) r) (ih (by rw[all_cons,aag] at hn;exact hn.2))
 |ow r _ ih=>exact .ow (r.imp λ_ _=>Rp.mono (wK _ (.refl _))) (ih (by rw[all_cons,aag] at hn;exact hn.2))
 |od r _ ih=>exact .od r (ih (by rw[all_cons,aag] at hn;exact hn.2))
theorem Uu(g:bC B F H O F' H'):Same (lo F O H) (lo F' O H'):=λb o h=>by
 unfold lo at h ⊢
 cases e:(F b).isSome||(O.any λx=>x.1==b) with
 |true=>rw[e] at h;cases h
 |false =>
  rw[e] at h
  have hb:H b=some o:=h
  rw[Bool.or_eq_false_iff] at e
  have f':F' b=none:=g.nw b (by cases q:F b with|none=>rfl|some u=>rw[q] at e;cases e.1) (by rw[hb];intro z;cases z)
  rw[f',e.2]
  exact g.hh b o hb
theorem At.grow(h:At B sl F O H σ)(g:bC B F H O F' H'):At B sl F' O H' σ:=⟨g.ok,h.2.mono g.ff (Uu g) g.hh⟩
theorem ak.pP{α:Type}[Rp K α]{a:α}(h:ak B F L H sl σ O):∀{i:Nat},sl[i]?=some (.fz n a)->∃v,σ[i]?=some (some v)/\rp K (reg B F H (dX n)) v a:=by
 induction h with
 |nil=>intro i e;simp at e
 |fz r _ ih =>
  intro i e
  cases i with
  |zero=>simp only[getElem?_cons_zero] at e;cases e;exact⟨_,rfl,r⟩
  |succ i=>exact ih (by simpa using e)
 |_ =>
  rename_i ih
  intro i e
  cases i with
  |zero=>simp only[getElem?_cons_zero] at e;cases e
  |succ i=>exact ih (by simpa using e)
theorem ak.Fv{α:Type}[Rp K α]{a:α}(h:ak B F L H sl σ O):∀{i:Nat},sl[i]?=some (.hs a)->∃v,σ[i]?=some (some v)/\rp K H v a:=by
 induction h with
 |nil=>intro i e;simp at e
 |hs r _ ih =>
  intro i e
  cases i with
  |zero=>simp only[getElem?_cons_zero] at e;cases e;exact⟨_,rfl,r⟩
  |succ i=>exact ih (by simpa using e)
 |_ =>
  rename_i ih
  intro i e
  cases i with
  |zero=>simp only[getElem?_cons_zero] at e;cases e
  |succ i=>exact ih (by simpa using e)
theorem ak.vq{α:Type}[Rp K α]{a:α}(h:ak B F L H sl σ O):∀{i:Nat},sl[i]?=some (.nu a)->∃v,σ[i]?=some (some v)/\rp K (dif L B.H0) v a:=by
 induction h with
 |nil=>intro i e;simp at e
 |nu r _ ih =>
  intro i e
  cases i with
  |zero=>simp only[getElem?_cons_zero] at e;cases e;exact⟨_,rfl,r⟩
  |succ i=>exact ih (by simpa using e)
 |_ =>
  rename_i ih
  intro i e
  cases i with
  |zero=>simp only[getElem?_cons_zero] at e;cases e
  |succ i=>exact ih (by simpa using e)
theorem ak.put(h:ak B F L H sl σ O)(new:∀(sl:SL K) (σ:St) (O:Own),ak B F L H sl σ O->ak B F L H (s'::sl) (x::σ) O):∀{i:Nat},sl[i]?=some s->jl s=false->ak B F L H (sl.set i s') (σ.set i x) O:=by
 induction h with
 |nil=>intro i e;simp at e
 |un g ih =>
  intro i e o
  cases i with
  |zero=>exact new _ _ _ g
  |succ i=>exact .un (ih (by simpa using e) o)
 |fz r g ih =>
  intro i e o
  cases i with
  |zero=>exact new _ _ _ g
  |succ i=>exact .fz r (ih (by simpa using e) o)
 |hs r g ih =>
  intro i e o
  cases i with
  |zero=>exact new _ _ _ g
  |succ i=>exact .hs r (ih (by simpa using e) o)
 |nu r g ih =>
  intro i e o
  cases i with
  |zero=>exact new _ _ _ g
  |succ i=>exact .nu r (ih (by simpa using e) o)
 |ow r g ih =>
  intro i e o
  cases i with
  |zero=>simp only[getElem?_cons_zero] at e;cases e;cases o
  |succ i=>exact .ow r (ih (by simpa using e) o)
 |od r g ih =>
  intro i e o
  cases i with
  |zero=>simp only[getElem?_cons_zero] at e;cases e;cases o
  |succ i=>exact .od r (ih (by simpa using e) o)
theorem ak.own(h:ak B F L H sl σ O)(new:∀(sl:SL K) (σ:St) (O:Own),ak B F L H sl σ O->ak B F L H (s'::sl) (x::σ) (c::O)) :
  ∀{i:Nat},sl[i]?=some s->jl s=false->∃O1 O2,O=O1++O2/\ak B F L H (sl.set i s') (σ.set i x) (O1++c::O2):=by
 induction h with
 |nil=>intro i e;simp at e
 |un g ih =>
  intro i e o
  cases i with
  |zero=>exact⟨[],_,rfl,new _ _ _ g⟩
  |succ i=>obtain⟨O1,O2,q,z⟩:=ih (by simpa using e) o;exact⟨O1,O2,q,.un z⟩
 |fz r g ih =>
  intro i e o
  cases i with
  |zero=>exact⟨[],_,rfl,new _ _ _ g⟩
  |succ i=>obtain⟨O1,O2,q,z⟩:=ih (by simpa using e) o;exact⟨O1,O2,q,.fz r z⟩
 |hs r g ih =>
  intro i e o
  cases i with
  |zero=>exact⟨[],_,rfl,new _ _ _ g⟩
  |succ i=>obtain⟨O1,O2,q,z⟩:=ih (by simpa using e) o;exact⟨O1,O2,q,.hs r z⟩
 |nu r g ih =>
  intro i e o
  cases i with
  |zero=>exact⟨[],_,rfl,new _ _ _ g⟩
  |succ i=>obtain⟨O1,O2,q,z⟩:=ih (by simpa using e) o;exact⟨O1,O2,q,.nu r z⟩
 |ow r g ih =>
  intro i e o
  cases i with
  |zero=>simp only[getElem?_cons_zero] at e;cases e;cases o
  |succ i=>obtain⟨O1,O2,q,z⟩:=ih (by simpa using e) o;exact⟨_::O1,O2,by rw[q]<;>rfl,.ow r z⟩
 |od r g ih =>
  intro i e o
  cases i with
  |zero=>simp only[getElem?_cons_zero] at e;cases e;cases o
  |succ i=>obtain⟨O1,O2,q,z⟩:=ih (by simpa using e) o;exact⟨_::O1,O2,by rw[q]<;>rfl,.od r z⟩
theorem ak.nq{α:Type}[Rp K α]{xs:List α}(h:ak B F L H sl σ O):∀{i:Nat},sl[i]?=some (.ow n xs) ->
  ∃O1 O2 p vs,O=O1++(p,.lst vs)::O2/\σ[i]?=some (some (.ref p))/\A2 (rp K (reg B F H (dX n))) vs xs /\
   (∀(s':Slot K)(x:Option V)(c:Addr×HO),(∀(sl:SL K)(σ:St)(O:Own),ak B F L H sl σ O->ak B F L H (s'::sl) (x::σ) (c::O))->ak B F L H (sl.set i s') (σ.set i x) (O1++c::O2)) /\
   (∀(s':Slot K)(x:Option V),(∀(sl:SL K)(σ:St)(O:Own),ak B F L H sl σ O->ak B F L H (s'::sl) (x::σ) O)->ak B F L H (sl.set i s') (σ.set i x) (O1++O2)):=by
 induction h with
 |nil=>intro i e;simp at e
 |un g ih =>
  intro i e
  cases i with
  |zero=>simp only[getElem?_cons_zero] at e;cases e
  |succ i=>obtain⟨O1,O2,p,vs,q,h1,h2,h3,h4⟩:=ih (by simpa using e);exact⟨O1,O2,p,vs,q,h1,h2,λs' x c z=>.un (h3 s' x c z),λs' x z=>.un (h4 s' x z)⟩
 |fz r g ih =>
  intro i e
  cases i with
  |zero=>simp only[getElem?_cons_zero] at e;cases e
  |succ i=>obtain⟨O1,O2,p,vs,q,h1,h2,h3,h4⟩:=ih (by simpa using e);exact⟨O1,O2,p,vs,q,h1,h2,λs' x c z=>.fz r (h3 s' x c z),λs' x z=>.fz r (h4 s' x z)⟩
 |hs r g ih =>
  intro i e
  cases i with
  |zero=>simp only[getElem?_cons_zero] at e;cases e
  |succ i=>obtain⟨O1,O2,p,vs,q,h1,h2,h3,h4⟩:=ih (by simpa using e);exact⟨O1,O2,p,vs,q,h1,h2,λs' x c z=>.hs r (h3 s' x c z),λs' x z=>.hs r (h4 s' x z)⟩
 |nu r g ih =>
  intro i e
  cases i with
  |zero=>simp only[getElem?_cons_zero] at e;cases e
  |succ i=>obtain⟨O1,O2,p,vs,q,h1,h2,h3,h4⟩:=ih (by simpa using e);exact⟨O1,O2,p,vs,q,h1,h2,λs' x c z=>.nu r (h3 s' x c z),λs' x z=>.nu r (h4 s' x z)⟩
 |ow r g ih =>
  intro i e
  cases i with
  |zero=>simp only[getElem?_cons_zero] at e;cases e;exact⟨[],_,_,_,rfl,rfl,r,λs' x c z=>z _ _ _ g,λs' x z=>z _ _ _ g⟩
  |succ i=>obtain⟨O1,O2,p,vs,q,h1,h2,h3,h4⟩:=ih (by simpa using e);exact⟨_::O1,O2,p,vs,by rw[q]<;>rfl,h1,h2,λs' x c z=>.ow r (h3 s' x c z),λs' x z=>.ow r (h4 s' x z)⟩
 |od r g ih =>
  intro i e
  cases i with
  |zero=>simp only[getElem?_cons_zero] at e;cases e
  |succ i=>obtain⟨O1,O2,p,vs,q,h1,h2,h3,h4⟩:=ih (by simpa using e);exact⟨_::O1,O2,p,vs,by rw[q]<;>rfl,h1,h2,λs' x c z=>.od r (h3 s' x c z),λs' x z=>.od r (h4 s' x z)⟩
theorem ak.Fw{α:Type}[Rp K α]{kvs:List (Key×α)}(h:ak B F L H sl σ O):∀{i:Nat},sl[i]?=some (.od kvs) ->
  ∃O1 O2 p ks,O=O1++(p,.dK ks)::O2/\σ[i]?=some (some (.ref p))/\A2 (λ(x:Key×V) (y:Key×α)=>x.1=y.1/\rp K F x.2 y.2) ks kvs /\
   (∀(s':Slot K)(x:Option V)(c:Addr×HO),(∀(sl:SL K)(σ:St)(O:Own),ak B F L H sl σ O->ak B F L H (s'::sl) (x::σ) (c::O))->ak B F L H (sl.set i s') (σ.set i x) (O1++c::O2)) /\
   (∀(s':Slot K)(x:Option V),(∀(sl:SL K)(σ:St)(O:Own),ak B F L H sl σ O->ak B F L H (s'::sl) (x::σ) O)->ak B F L H (sl.set i s') (σ.set i x) (O1++O2)):=by
 induction h with
 |nil=>intro i e;simp at e
 |un g ih =>
  intro i e
  cases i with
  |zero=>simp only[getElem?_cons_zero] at e;cases e
  |succ i=>obtain⟨O1,O2,p,vs,q,h1,h2,h3,h4⟩:=ih (by simpa using e);exact⟨O1,O2,p,vs,q,h1,h2,λs' x c z=>.un (h3 s' x c z),λs' x z=>.un (h4 s' x z)⟩
 |fz r g ih =>
  intro i e
  cases i with
  |zero=>simp only[getElem?_cons_zero] at e;cases e
  |succ i=>obtain⟨O1,O2,p,vs,q,h1,h2,h3,h4⟩:=ih (by simpa using e);exact⟨O1,O2,p,vs,q,h1,h2,λs' x c z=>.fz r (h3 s' x c z),λs' x z=>.fz r (h4 s' x z)⟩
 |hs r g ih =>
  intro i e
  cases i with
  |zero=>simp only[getElem?_cons_zero] at e;cases e
  |succ i=>obtain⟨O1,O2,p,vs,q,h1,h2,h3,h4⟩:=ih (by simpa using e);exact⟨O1,O2,p,vs,q,h1,h2,λs' x c z=>.hs r (h3 s' x c z),λs' x z=>.hs r (h4 s' x z)⟩
 |nu r g ih =>
  intro i e
  cases i with
  |zero=>simp only[getElem?_cons_zero] at e;cases e
  |succ i=>obtain⟨O1,O2,p,vs,q,h1,h2,h3,h4⟩:=ih (by simpa using e);exact⟨O1,O2,p,vs,q,h1,h2,λs' x c z=>.nu r (h3 s' x c z),λs' x z=>.nu r (h4 s' x z)⟩
 |od r g ih =>
  intro i e
  cases i with
  |zero=>simp only[getElem?_cons_zero] at e;cases e;exact⟨[],_,_,_,rfl,rfl,r,λs' x c z=>z _ _ _ g,λs' x z=>z _ _ _ g⟩
  |succ i=>obtain⟨O1,O2,p,vs,q,h1,h2,h3,h4⟩:=ih (by simpa using e);exact⟨_::O1,O2,p,vs,by rw[q]<;>rfl,h1,h2,λs' x c z=>.od r (h3 s' x c z),λs' x z=>.od r (h4 s' x z)⟩
 |ow r g ih =>
  intro i e
  cases i with
  |zero=>simp only[getElem?_cons_zero] at e;cases e
  |succ i=>obtain⟨O1,O2,p,vs,q,h1,h2,h3,h4⟩:=ih (by simpa using e);exact⟨_::O1,O2,p,vs,by rw[q]<;>rfl,h1,h2,λs' x c z=>.ow r (h3 s' x c z),λs' x z=>.ow r (h4 s' x z)⟩
end
end
section
variable{K:PySem.W.Frag}{B:Bs}{F H F' H' L L':Hp}{O O' O1 O2:Own}{sl:SL K}{σ:St}{p:Addr}{o o':HO}
theorem Uv{α:Type}{a b:List α}{x:α}:(a++x::b).Nodup↔(a++b).Nodup/\x∉a++b:=by
 have q:(a++x::b).Perm (x::(a++b)):=List.perm_middle
 rw[q.nodup_iff,nodup_cons]
 exact⟨λh=>⟨h.2,h.1⟩,λh=>⟨h.2,h.1⟩⟩
theorem Ok.add(k:Ok B F (O1++O2) H)(h:H p=none):Ok B F (O1++(p,o)::O2) (upd H p o):=by
 refine⟨λb u e=>?_,k.h0.put (k.h0.free h) o,k.fa,λx hx=>?_,?_⟩
 ·rw[zO (zL (k.fh b u e) h)];exact k.fh b u e
 ·have hx':x=(p,o)\/x∈O1++O2:=by
   rcases mem_append.mp hx with z|z
   ·exact .inr (mem_append.mpr (.inl z))
   ·rcases mem_cons.mp z with z|z
    ·exact .inl z
    ·exact .inr (mem_append.mpr (.inr z))
  rcases hx' with rfl|hx'
  ·exact⟨k.fh.free h,k.h0.free h,zM⟩
  ·obtain⟨a1,a2,a3⟩:=k.fo x hx'
   exact⟨a1,a2,by rw[zO (zL a3 h)];exact a3⟩
 ·rw[map_append,map_cons,Uv,<-map_append]
  refine⟨k.nd,λz=>?_⟩
  obtain⟨x,hx,e⟩:=mem_map.mp z
  obtain⟨_,_,a3⟩:=k.fo x hx
  have e':x.1=p:=e
  rw[e',h] at a3
  cases a3
theorem Ok.one(k:Ok B F (O1++(p,o)::O2) H):F p=none/\B.H0 p=none/\H p=some o:=k.fo (p,o) (mem_append.mpr (.inr mem_cons_self))
theorem Ok.YT(k:Ok B F (O1++(p,o)::O2) H):∀x∈O1++O2,x.1≠p:=λx hx e=>by
 have q:=k.nd
 rw[map_append,map_cons,Uv,<-map_append] at q
 exact q.2 (mem_map.mpr ⟨x,hx,e⟩)
theorem Ok.drop(k:Ok B F (O1++(p,o)::O2) H):Ok B F (O1++O2) H:=by
 refine⟨k.fh,k.h0,k.fa,λx hx=>k.fo x ?_,?_⟩
 ·rcases mem_append.mp hx with z|z
  ·exact mem_append.mpr (.inl z)
  ·exact mem_append.mpr (.inr (mem_cons_of_mem _ z))
 ·have q:=k.nd
  rw[map_append,map_cons,Uv,<-map_append] at q
  exact q.1
theorem Ok.chg(k:Ok B F (O1++(p,o)::O2) H)(o':HO):Ok B F (O1++(p,o')::O2) (upd H p o'):=by
 obtain⟨a1,a2,a3⟩:=k.one
 refine⟨k.fh.put a1 o',k.h0.put a2 o',k.fa,λx hx=>?_,?_⟩
 ·have hx':x=(p,o')\/x∈O1++O2:=by
   rcases mem_append.mp hx with z|z
   ·exact .inr (mem_append.mpr (.inl z))
   ·rcases mem_cons.mp z with z|z
    ·exact .inl z
    ·exact .inr (mem_append.mpr (.inr z))
  rcases hx' with rfl|hx'
  ·exact⟨a1,a2,zM⟩
  ·obtain⟨b1,b2,b3⟩:=k.drop.fo x hx'
   exact⟨b1,b2,by rw[zO (k.YT x hx')];exact b3⟩
 ·have q:=k.nd
  rw[map_append,map_cons] at q ⊢
  exact q
theorem Ok.freeze(k:Ok B F (O1++(p,o)::O2) H):Ok B (upd F p o) (O1++O2) H:=by
 obtain⟨a1,a2,a3⟩:=k.one
 refine⟨λb u e=>?_,k.h0,λb u e=>?_,λx hx=>?_,k.drop.nd⟩
 ·by_cases q:b=p
  ·subst q;rw[zM] at e;cases e;exact a3
  ·rw[zO q] at e;exact k.fh b u e
 ·by_cases q:b=p
  ·subst q;exact .inr a2
  ·rw[zO q] at e;exact k.fa b u e
 ·obtain⟨b1,b2,b3⟩:=k.drop.fo x hx
  exact⟨by rw[zO (k.YT x hx)];exact b1,b2,b3⟩
theorem YW(h:H p=none):Same (lo F (O1++O2) H) (lo F (O1++(p,o)::O2) (upd H p o)):=λb u e=>by
 unfold lo at e ⊢
 by_cases q:b=p
 ·subst q
  split at e
  ·cases e
  ·rw[h] at e;cases e
 ·rw[zO q]
  have z:((O1++(p,o)::O2).any λx=>x.1==b)=((O1++O2).any λx=>x.1==b):=by
   rw[any_append,any_append,any_cons]
   have:(p==b)=false:=by simp;exactλe=>q e.symm
   simp[this]
  rw[z]
  exact e
theorem YX:Same (lo F (O1++(p,o)::O2) H) (lo F (O1++(p,o')::O2) (upd H p o')):=λb u e=>by
 unfold lo at e ⊢
 by_cases q:b=p
 ·subst q
  rw[any_append,any_cons] at e
  simp at e
 ·rw[zO q]
  have z:((O1++(p,o)::O2).any λx=>x.1==b)=((O1++(p,o')::O2).any λx=>x.1==b):=by
   rw[any_append,any_append,any_cons,any_cons]
  rw[<-z]
  exact e
theorem kI:Same (lo F (O1++(p,o)::O2) H) (lo F (O1++O2) H):=λb u e=>by
 unfold lo at e ⊢
 split at e
 ·cases e
 ·rename_i h
  rw[if_neg]
  ·exact e
  ·rw[any_append,any_cons] at h
   rw[any_append]
   simp at h ⊢
   exact⟨h.1,h.2.1,h.2.2.2⟩
theorem nA:Same (lo F (O1++(p,o)::O2) H) (lo (upd F p o) (O1++O2) H):=λb u e=>by
 unfold lo at e ⊢
 split at e
 ·cases e
 ·rename_i h
  rw[any_append,any_cons] at h
  simp at h
  have q:b≠p:=λz=>h.2.2.1 z.symm
  rw[zO q,if_neg]
  ·exact e
  ·rw[any_append]
   simp
   exact⟨h.1,h.2.1,h.2.2.2⟩
theorem Ok.called(k:Ok B F O H)(s:Same H H'):bC B F H O (ext F H H') H':=by
 have e1:∀b o,ext F H H' b=some o->F b=some o\/H b=none:=λb o h=>by
  unfold ext at h
  cases q:H b with
  |none=>exact .inr rfl
  |some u=>rw[q] at h;exact .inl h
 refine⟨λb o h=>?_,s,⟨λb o h=>?_,k.h0.trans s,λb o h=>?_,λx hx=>?_,k.nd⟩,λb h1 h2=>?_⟩
 ·unfold ext
  rw[k.fh b o h]
  exact h
 ·unfold ext at h
  cases q:H b with
  |none=>rw[q] at h;exact h
  |some u=>rw[q] at h;rw[<-k.fh b o h];exact(s b u q).trans q.symm
 ·rcases e1 b o h with z|z
  ·exact k.fa b o z
  ·exact .inr (k.h0.free z)
 ·obtain⟨a1,a2,a3⟩:=k.fo x hx
  refine⟨?_,a2,s _ _ a3⟩
  unfold ext
  rw[a3]
  exact a1
 ·unfold ext
  cases q:H b with
  |none=>exact absurd q h2
  |some u=>exact h1
theorem Lq(h0:Same B.H0 H)(s:Same H H'):Same (dif H' H) (dif (ext F H H') B.H0):=λb o h=>by
 unfold dif at h
 cases q:H b with
 |none =>
  rw[q] at h
  rw[uL (h0.free q)]
  unfold ext
  rw[q]
  exact h
 |some u=>rw[q] at h;cases h
variable{md YZ md2:Md}{α β γ:Type}[Rp K α][Rp K β][Rp K γ]{t t1 t2:TE}{m:Option α}{m1:Option β}{m2:Option γ}
def Ex(B:Bs)(sl:SL K)(md:Md)(t:TE){α:Type}[Rp K α](m:Option α):Prop :=
 ∀a,m=some a->∀(F:Hp)(O:Own)(H:Hp)(σ:St)(Q:VK),At B sl F O H σ->(∀(v:V)(F' H':Hp),bC B F H O F' H'->rp K (reg B F' H' md) v a->Q v H')->t σ H Q
def Et(B:Bs)(sl:SL K)(t:TT)(m:Option Bool):Prop :=
 ∀a,m=some a->∀(F:Hp)(O:Own)(H:Hp)(σ:St)(Q:Bool->Hp->Prop),At B sl F O H σ->(∀(F' H':Hp),bC B F H O F' H'->Q a H')->t σ H Q
inductive Ar(R:Hp):SL K->List V->Prop
 |nil:Ar R [] []
 |cons {n:Bool} {α:Type} [Rp K α] {a:α} {v:V} {sl:SL K} {vs:List V}:rp K R v a->Ar R sl vs->Ar R (.fz n a::sl) (v::vs)
def Ea(B:Bs)(sl:SL K)(md:Md)(t:TA){A:Type}(as:A->SL K)(m:Option A):Prop :=
 ∀a,m=some a->∀(F:Hp)(O:Own)(H:Hp)(σ:St)(Q:List V->Hp->Prop),At B sl F O H σ->(∀(vs:List V)(F' H':Hp),bC B F H O F' H'->Ar (reg B F' H' md) (as a) vs->Q vs H')->t σ H Q
theorem Ex.sc[Sc K α](h:Ex B sl md t m):Ex B sl YZ t m:=λa ha F O H σ Q s k=>h a ha F O H σ Q s λv F' H' g r=>k v F' H' g (Rq r)
theorem Uw[Nn K α](h:Ex B sl md t m):Ex B sl md t (m.bind λa=>some (some a)):=λa ha F O H σ Q s k=>by
 cases m with
 |none=>cases ha
 |some a' =>
  cases(show some (some a')=some a from ha)
  exact h a' rfl F O H σ Q s λv F' H' g r=>k v F' H' g ⟨Nn.nn (K:=K) r,r⟩
theorem yF{n:Bool}{a:α}(i:Nat)(hs:sl[i]?=some (.fz n a)):Ex B sl (dX n) (c7 i) (some a):=λa' ha F O H σ Q s k=>by
 cases ha
 obtain⟨v,h1,h2⟩:=s.2.pP hs
 exact⟨v,h1,k v F H (.refl s.1) h2⟩
theorem zF[Sc K α]{n:Bool}{a:α}(i:Nat)(hs:sl[i]?=some (.fz n a)):Ex B sl md (c7 i) (some a):=(yF i hs).sc
theorem lo_le:Same (lo F O H) H:=λb o h=>by
 unfold lo at h
 split at h
 ·cases h
 ·exact h
theorem Bw(k:Ok B F O H)(n:Bool):Same (reg B F H (dX n)) H:=match n with
 |true=>aV.trans k.fh
 |false=>k.fh
theorem Rr{a:α}(i:Nat)(hs:sl[i]?=some (.hs a)):Ex B sl .hp (c7 i) (some a):=λa' ha F O H σ Q s k=>by
 cases ha
 obtain⟨v,h1,h2⟩:=s.2.Fv hs
 exact⟨v,h1,k v F H (.refl s.1) h2⟩
theorem zD{n:Bool}{a:α}(i:Nat)(hs:sl[i]?=some (.fz n a)):Ex B sl .hp (c7 i) (some a):=λa' ha F O H σ Q s k=>by
 cases ha
 obtain⟨v,h1,h2⟩:=s.2.pP hs
 exact⟨v,h1,k v F H (.refl s.1) (Rp.mono (Bw s.1 n) h2)⟩
theorem uJ{n:Bool}{xs:List α}(i:Nat)(hs:sl[i]?=some (.ow n xs)):Ex B sl .hp (c7 i) (some xs):=λa' ha F O H σ Q s k=>by
 cases ha
 obtain⟨O1,O2,p,vs,rfl,h1,h2,_⟩:=s.2.nq hs
 exact⟨_,h1,k _ F H (.refl s.1) ⟨p,vs,rfl,s.1.one.2.2,h2.imp λ_ _=>Rp.mono (Bw s.1 n)⟩⟩
theorem Ig[Sc K α](a:α):Ex B sl md (tC (Sc.val K a)) (some a):=λa' ha F O H σ Q s k=>by cases ha;exact k _ F H (.refl s.1) (Sc.is.mpr rfl)
theorem zW(i:Int):Ex B sl md (tC (.int i)) (some i):=Ig (K:=K) i
theorem Bx(i:Bool):Ex B sl md (tC (.bl i)) (some i):=Ig (K:=K) i
theorem Ru(i:Str):Ex B sl md (tC (.str i)) (some i):=Ig (K:=K) i
theorem Y0:Ex B sl md (tC .non) (some (none:Option α)):=λa' ha F O H σ Q s k=>by cases ha;exact k _ F H (.refl s.1) rfl
theorem rZ{f:β->γ->Option α}(h:(m1.bind λa=>m2.bind λb=>f a b)=some c):∃a b,m1=some a/\m2=some b/\f a b=some c:=by
 cases m1 with
 |none=>cases h
 |some a =>
  cases m2 with
  |none=>cases h
  |some b=>exact⟨a,b,rfl,rfl,h⟩
theorem Ab{f:β->γ->Option α}[Sc K α](hr:∀(a:β) (b:γ) (c:α) (v w:V) (H:Hp) (Q:VK),f a b=some c->rp K H v a->rp K H w b->Q (Sc.val K c) H->r v w H Q)(h1:Ex B sl .hp t1 m1)(h2:Ex B sl .hp t2 m2):Ex B sl md (mW r t1 t2) (m1.bind λa=>m2.bind λb=>f a b):=λc hc F O H σ Q s k=>by
 obtain⟨a,b,ha,hb,hf⟩:=rZ hc
 refine h1 a ha F O H σ _ s λv F' H' g r1=>?_
 refine h2 b hb F' O H' σ _ (s.grow g) λw F2 H2 g2 r2=>?_
 exact hr a b c v w H2 Q hf (Rp.mono g2.hh r1) r2 (k _ F2 H2 (g.trans g2) (Sc.is.mpr rfl))
theorem yW(h:Ex B sl md t m'):Et B sl (Fg t) m':=λc hc F O H σ Q s k=>h c hc F O H σ _ s λv F' H' g r=>⟨c,r,k F' H' g⟩
theorem b_(h:Ex B sl md t m'):Et B sl (tB t) m':=λc hc F O H σ Q s k=>h c hc F O H σ _ s λv F' H' g r=>⟨c,r,k F' H' g⟩
theorem Oh{t:TT}{n:Option Bool}(h:Et B sl t n):Et B sl (Nh t) (n.bind λc=>some !c):=λc hc F O H σ Q s k=>by
 cases n with
 |none=>cases hc
 |some c' =>
  cases(show some (!c')=some c from hc)
  exact h c' rfl F O H σ _ s λF' H' g=>k F' H' g
theorem Ih(h:Ex B sl .hp t n):Ex B sl md (Ez t) (n.bind λc=>some !c):=λc hc F O H σ Q s k=>by
 cases n with
 |none=>cases hc
 |some c' =>
  cases(show some (!c')=some c from hc)
  refine h c' rfl F O H σ _ s λv F' H' g r=>?_
  cases r
  exact⟨c',rfl,k _ F' H' g rfl⟩
theorem Rv{t u:TT}{n n':Option Bool}(h:Et B sl t n)(h':Et B sl u n'):Et B sl (Ng t u) (n.bind λc=>if c=true then n' else some false):=λc hc F O H σ Q s k=>by
 cases n with
 |none=>cases hc
 |some c' =>
  refine h c' rfl F O H σ _ s λF' H' g=>?_
  cases c' with
  |true=>exact jD (h' c (by simpa using hc) F' O H' σ _ (s.grow g) λF2 H2 g2=>k F2 H2 (g.trans g2))
  |false=>cases(show some false=some c from by simpa using hc);exact lA (k F' H' g)
theorem Oi{t u:TT}{n n':Option Bool}(h:Et B sl t n)(h':Et B sl u n'):Et B sl (Xy t u) (n.bind λc=>if c=true then some true else n'):=λc hc F O H σ Q s k=>by
 cases n with
 |none=>cases hc
 |some c' =>
  refine h c' rfl F O H σ _ s λF' H' g=>?_
  cases c' with
  |true=>cases(show some true=some c from by simpa using hc);exact jD (k F' H' g)
  |false=>exact lA (h' c (by simpa using hc) F' O H' σ _ (s.grow g) λF2 H2 g2=>k F2 H2 (g.trans g2))
theorem Ii(h:Ex B sl .hp t1 n)(h':Ex B sl .hp t2 n'):Ex B sl md (Ew t1 t2) (n.bind λc=>if c=true then n' else some false):=λc hc F O H σ Q s k=>by
 cases n with
 |none=>cases hc
 |some c' =>
  refine h c' rfl F O H σ _ s λv F' H' g r=>?_
  cases r
  refine⟨c',rfl,?_⟩
  cases c' with
  |true=>exact jD (h' c (by simpa using hc) F' O H' σ _ (s.grow g) λv F2 H2 g2 r2=>k v F2 H2 (g.trans g2) (Rq r2))
  |false=>cases(show some false=some c from by simpa using hc);exact lA (k _ F' H' g rfl)
theorem Oj(h:Ex B sl .hp t1 n)(h':Ex B sl .hp t2 n'):Ex B sl md (Nj t1 t2) (n.bind λc=>if c=true then some true else n'):=λc hc F O H σ Q s k=>by
 cases n with
 |none=>cases hc
 |some c' =>
  refine h c' rfl F O H σ _ s λv F' H' g r=>?_
  cases r
  refine⟨c',rfl,?_⟩
  cases c' with
  |true=>cases(show some true=some c from by simpa using hc);exact jD (k _ F' H' g rfl)
  |false=>exact lA (h' c (by simpa using hc) F' O H' σ _ (s.grow g) λv F2 H2 g2 r2=>k v F2 H2 (g.trans g2) (Rq r2))
theorem Y4{t:TT}{n:Option Bool}{m m':Option α}(h:Et B sl t n)(h1:Ex B sl md t1 m)(h2:Ex B sl md t2 m'):Ex B sl md (Xz t t1 t2) (n.bind λc=>if c=true then m else m'):=λc hc F O H σ Q s k=>by
 cases n with
 |none=>cases hc
 |some c' =>
  refine h c' rfl F O H σ _ s λF' H' g=>?_
  cases c' with
  |true=>exact jD (h1 c (by simpa using hc) F' O H' σ _ (s.grow g) λv F2 H2 g2 r2=>k v F2 H2 (g.trans g2) r2)
  |false=>exact lA (h2 c (by simpa using hc) F' O H' σ _ (s.grow g) λv F2 H2 g2 r2=>k v F2 H2 (g.trans g2) r2)
theorem zP:Ea B sl md cj (λ_:Unit=>[]) (some ()):=λa ha F O H σ Q s k=>k [] F H (.refl s.1) .nil
theorem zH{A:Type}{as:A->SL K}{ma:Option A}(h1:Ex B sl md t m)(h2:Ea B sl md tr as ma):Ea B sl md (xG t tr) (λx:α×A=>.fz false x.1::as x.2) (m.bind λa=>ma.bind λb=>some (a,b)):=λc hc F O H σ Q s k=>by
 cases m with
 |none=>cases hc
 |some a =>
  cases ma with
  |none=>cases hc
  |some b =>
   cases(show some (a,b)=some c from hc)
   refine h1 a rfl F O H σ _ s λv F' H' g r1=>?_
   refine h2 b rfl F' O H' σ _ (s.grow g) λvs F2 H2 g2 r2=>?_
   exact k (v::vs) F2 H2 (g.trans g2) (.cons (Rp.mono (xH g2 md) r1) r2)
theorem Lr(k:Ok B F O H)(h:H p=none)(md:Md):reg B (upd F p o) (upd H p o) md p=some o:=match md with
 |.nw=>by show dif (upd F p o) B.H0 p=_;rw[uL (k.h0.free h)];exact zM
 |.fz=>zM
 |.hp=>zM
def cap:Nat:=100000
theorem Ac(h:n<cap):n<sizeLine:=ac8 h (by decide)
theorem Ij(h:n<=cap):n<=sizeLine:=aas h (by decide)
def El(B:Bs)(sl:SL K)(md:Md)(t:TA){α:Type}[Rp K α](m:Option (List α)):Prop :=
 ∀a,m=some a->∀(F:Hp)(O:Own)(H:Hp)(σ:St)(Q:List V->Hp->Prop),At B sl F O H σ->(∀(vs:List V)(F' H':Hp),bC B F H O F' H'->A2 (rp K (reg B F' H' md)) vs a->Q vs H')->t σ H Q
theorem Ik:El B sl md cj (some ([]:List α)):=λa ha F O H σ Q s k=>by cases ha;exact k [] F H (.refl s.1) trivial
theorem Ux(h1:Ex B sl md t m)(h2:El B sl md tr ma):El B sl md (xG t tr) (m.bind λa=>ma.bind λb=>some (a::b)):=λc hc F O H σ Q s k=>by
 cases m with
 |none=>cases hc
 |some a =>
  cases ma with
  |none=>cases hc
  |some b =>
   cases(show some (a::b)=some c from hc)
   refine h1 a rfl F O H σ _ s λv F' H' g r1=>?_
   refine h2 b rfl F' O H' σ _ (s.grow g) λvs F2 H2 g2 r2=>?_
   exact k (v::vs) F2 H2 (g.trans g2) ⟨Rp.mono (xH g2 md) r1,r2⟩
def Eo(B:Bs)(sl:SL K)(md:Md)(t:TE){α:Type}[Rp K α](m:Option (List α)):Prop :=
 ∀a,m=some a->∀(F:Hp)(O:Own)(H:Hp)(σ:St)(Q:VK),At B sl F O H σ->(∀(p:Addr)(vs:List V)(F' H':Hp),bC B F H O F' H'->H' p=none->A2 (rp K (reg B F' H' md)) vs a->Q (.ref p) (upd H' p (.lst vs)))->t σ H Q
theorem Eo.ex{m:Option (List α)}(h:Eo B sl md t m):Ex B sl md t m:=λa ha F O H σ Q s k=>h a ha F O H σ Q s λp vs F' H' g hp r=>by
 have g2:=bC.new g.ok hp (.lst vs)
 exact k _ _ _ (g.trans g2) ⟨p,vs,rfl,Lr g.ok hp md,r.imp λ_ _=>Rp.mono (xH g2 md)⟩
theorem vT:Eo B sl md (Hz cj) (some ([]:List α)):=λa ha F O H σ Q s k=>by
 cases ha
 exact⟨aa0 _,λp hp=>k p [] F H (.refl s.1) hp trivial⟩
theorem Il{t:TA}{ma:Option (List α)}(h:El B sl md t ma)(hl:∀a,ma=some a->a.length<=cap):Eo B sl md (Hz t) ma:=λa ha F O H σ Q s k =>
 h a ha F O H σ _ s λvs F' H' g r=>⟨by rw[r.len];exact Ij (hl a ha),λp hp=>k p vs F' H' g hp r⟩
theorem Y5(h1:Ex B sl md t1 m1)(h2:Ex B sl md t2 m2):Ex B sl md (A_ (xG t1 (xG t2 cj))) (m1.bind λa=>m2.bind λb=>some (a,b)):=λc hc F O H σ Q s kk=>by
 obtain⟨a,b,ha,hb,hf⟩:=rZ hc
 cases hf
 refine h1 a ha F O H σ _ s λv F' H' g r1=>?_
 refine h2 b hb F' O H' σ _ (s.grow g) λw F2 H2 g2 r2=>?_
 refine⟨by show 2<=sizeLine;decide,λp hp=>?_⟩
 have g3:=bC.new g2.ok hp (.tup [v,w])
 exact kk _ _ _ (g.trans (g2.trans g3)) ⟨p,v,w,rfl,Lr g2.ok hp md,Rp.mono (xH (g2.trans g3) md) r1,Rp.mono (xH g3 md) r2⟩
def cL(K:PySem.W.Frag)(al:Bool){A β:Type}[Rp K β](as:A->SL K)(f:A->Option β):Sp:=λvs H Q _ =>
 ∃a b Fa,Same Fa H/\f a=some b/\Ar Fa (as a) vs/\∀v H',Same H H'->rp K (if al=true then ext Fa H H' else dif H' H) v b->Q v H'
theorem zQ{A:Type}{as:A->SL K}{f:A->Option β}{ma:Option A}(h:Ea B sl .hp ta as ma):Ex B sl md (HB (cL K false as f) [] E0 ta) (ma.bind f):=λc hc F O H σ Q s kk=>by
 cases ma with
 |none=>cases hc
 |some a =>
  refine h a rfl F O H σ _ s λvs F' H' g r=>?_
  rw[append_nil]
  refine⟨a,c,H',.refl _,hc,r,λv H2 s2 r2=>?_⟩
  have g2:=g.ok.called s2
  refine kk v _ H2 (g.trans g2) ?_
  have r3:=Rp.mono (Lq (F:=F') g.ok.h0 s2) r2
  exact match md with
  |.nw=>r3
  |.fz=>Rp.mono aV r3
  |.hp=>Rp.mono (aV.trans g2.ok.fh) r3
end
def push{α:Type}(xs:List α)(a:α):Option (List α):=if xs.length<cap then some (xs++[a]) else none
def rD{α:Type}(xs:List α)(i:Int)(a:α):Option (List α):=(rB xs.length i).bind λj=>some (xs.set j a)
def xT(n:Int):Option LI:=if -(2^62)<=n/\n<2^62 then some ((aar n.toNat).map acr) else none
def yU{S α:Type}(step:S->α->Option S):List α->S->Option S
 |[],s=>some s
 |x::xs,s=>(step s x).bind λs'=>yU step xs s'
inductive Out(S β:Type)|nx (s:S)|rt (b:β)
def vZ{S α β:Type}(step:S->α->Option (Out S β)):List α->S->Option (Out S β)
 |[],s=>some (.nx s)
 |x::xs,s=>(step s x).bind λo=>match o with
  |.nx s'=>vZ step xs s'
  |.rt b=>some (.rt b)
def Fx{S:Type}(c:S->Option Bool)(body:S->Option S):Nat->S->Option S
 |0,_=>none
 |k+1,s=>(c s).bind λb=>if b=true then(body s).bind λs'=>Fx c body k s' else some s
def wF{α β:Type}(c:α->Option Bool)(f:α->Option β):List α->Option (List β)
 |[]=>some []
 |x::xs=>(c x).bind λb=>if b=true then(f x).bind λy=>(wF c f xs).bind λys=>some (y::ys) else wF c f xs
def Out.els{S β:Type}(o:Out S β)(f:S->Option β):Option β:=match o with
 |.nx s=>f s
 |.rt b=>some b
def Out.aN{S S' β:Type}(o:Out S β)(f:S->Option (Out S' β)):Option (Out S' β):=match o with
 |.nx s=>f s
 |.rt b=>some (.rt b)
theorem Uy{S α:Type}(step:S->α->Option S):∀(xs ys:List α)(s:S),yU step (xs++ys) s=(yU step xs s).bind λs'=>yU step ys s'
 |[],ys,s=>rfl
 |x::xs,ys,s=>by
  show(step s x).bind _=((step s x).bind _).bind _
  cases step s x with
  |none=>rfl
  |some s'=>exact Uy step xs ys s'
theorem zMh{S α:Type}{step:S->α->Option S}{xs:List α}{s s1:S}(h:yU step xs s=some s1){x:α}(hx:xs[i]?=some x):∃a b,yU step (xs.take i) s=some a/\step a x=some b/\yU step (xs.take (i+1)) s=some b:=by
 have e:xs=xs.take (i+1)++xs.drop (i+1):=(take_append_drop _ _).symm
 have e2:xs.take (i+1)=xs.take i++[x]:=by rw[take_add_one,hx]<;>rfl
 rw[e,Uy] at h
 cases q:yU step (xs.take (i+1)) s with
 |none=>rw[q] at h;cases h
 |some b =>
  have q':=q
  rw[e2,Uy] at q'
  cases z:yU step (xs.take i) s with
  |none=>rw[z] at q';cases q'
  |some a =>
   rw[z] at q'
   have q2:(step a x).bind (λs'=>some s')=some b:=q'
   refine⟨a,b,rfl,?_,rfl⟩
   cases w:step a x with
   |none=>rw[w] at q2;cases q2
   |some c=>rw[w] at q2;exact q2
section
variable{K:PySem.W.Frag}{B:Bs}{F H F' H' G:Hp}{O:Own}{sl sl2:SL K}{σ:St}{md:Md}{α β γ:Type}[Rp K α][Rp K β][Rp K γ]{t u v:TS}{te:TE}{m:Option α}{S S':Type}{al:Bool}
def Sg(B:Bs)(G:Hp)(sl:SL K)(σ:St)(H:Hp):Prop:=∃F O,Same G F/\At B sl F O H σ
def Rt(K:PySem.W.Frag){β:Type}[Rp K β](B:Bs)(al:Bool)(b:β)(v:V)(H':Hp):Prop:=Same B.H0 H'/\rp K (if al=true then ext B.Fa B.H0 H' else dif H' B.H0) v b
def Sn(B:Bs)(sl:SL K)(t:TS){S:Type}(L:S->SL K)(m:Option S):Prop :=
 ∀a,m=some a->∀(G:Hp)(D:Ends)(σ:St)(H:Hp),Sg B G sl σ H->(∀σ' H',Sg B G (L a) σ' H'->D.nx σ' H')->t D σ H
def SB(B:Bs)(sl:SL K)(t:TS)(al:Bool){β:Type}[Rp K β](m:Option β):Prop :=
 ∀b,m=some b->∀(G:Hp)(D:Ends)(σ:St)(H:Hp),Sg B G sl σ H->(∀v H',Rt K B al b v H'->D.rt v H')->t D σ H
def XE(B:Bs)(G:Hp)(al:Bool)(L:S->SL K)(D:Ends)(o:Out S β):Prop:=match o with
 |.nx s=>∀σ' H',Sg B G (L s) σ' H'->D.nx σ' H'
 |.rt b=>∀v H',Rt K B al b v H'->D.rt v H'
def Sx(B:Bs)(sl:SL K)(t:TS)(al:Bool){S β:Type}[Rp K β](L:S->SL K)(m:Option (Out S β)):Prop :=
 ∀o,m=some o->∀(G:Hp)(D:Ends)(σ:St)(H:Hp),Sg B G sl σ H->XE B G al L D o->t D σ H
theorem SB.of(h:SB B sl t al m)(q:m=m'):SB B sl t al m':=q▸h
theorem Sn.of(h:Sn B sl t L m)(q:m=m'):Sn B sl t L m':=q▸h
inductive Le:SL K->SL K->Prop
 |nil:Le [] []
 |eq {s:Slot K} {a b:SL K}:Le a b->Le (s::a) (s::b)
 |un {s:Slot K} {a b:SL K}:Le a b->Le (s::a) (.un::b)
 |fr {n:Bool} {α:Type} [Rp K α] {xs:List α} {a b:SL K}:Le a b->Le (.ow n xs::a) (.fz n xs::b)
 |old {α:Type} [Rp K α] {x:α} {a b:SL K}:Le a b->Le (.fz true x::a) (.fz false x::b)
theorem ak.le(h:Le sl sl2):∀{F:Hp}{σ:St}{O:Own},Ok B F (P++O) H->ak B F (lo F (P++O) H) H sl σ O->∃F' O',Same F F'/\Ok B F' (P++O') H/\Same (lo F (P++O) H) (lo F' (P++O') H)/\ak B F' (lo F' (P++O') H) H sl2 σ O':=by
 induction h generalizing P with
 |nil=>intro F σ O k h;cases h;exact⟨F,[],.refl _,k,.refl _,.nil⟩
 |eq _ ih =>
  intro F σ O k h
  cases h with
  |un h=>obtain⟨F',O',a,b,c,d⟩:=ih k h;exact⟨F',O',a,b,c,.un d⟩
  |fz r h=>obtain⟨F',O',a,b,c,d⟩:=ih k h;exact⟨F',O',a,b,c,.fz (Rp.mono (wK _ a) r) d⟩
  |hs r h=>obtain⟨F',O',a,b,c,d⟩:=ih k h;exact⟨F',O',a,b,c,.hs r d⟩
  |nu r h=>obtain⟨F',O',a,b,c,d⟩:=ih k h;exact⟨F',O',a,b,c,.nu (Rp.mono (wB c) r) d⟩
  |@ow _ _ _ _ _ _ O p vs r h =>
   have e:P++(p,HO.lst vs)::O=(P++[(p,HO.lst vs)])++O:=by simp
   rw[e] at k h
   obtain⟨F',O',a,b,c,d⟩:=ih k h
   have e':(P++[(p,HO.lst vs)])++O'=P++(p,HO.lst vs)::O':=by simp
   rw[e'] at b c d
   rw[<-e] at c
   exact⟨F',_::O',a,b,c,.ow (r.imp λ_ _=>Rp.mono (wK _ a)) d⟩
  |@od _ _ _ _ _ O p vs r h =>
   have e:P++(p,HO.dK vs)::O=(P++[(p,HO.dK vs)])++O:=by simp
   rw[e] at k h
   obtain⟨F',O',a,b,c,d⟩:=ih k h
   have e':(P++[(p,HO.dK vs)])++O'=P++(p,HO.dK vs)::O':=by simp
   rw[e'] at b c d
   rw[<-e] at c
   exact⟨F',_::O',a,b,c,.od (r.imp λ_ _ z=>⟨z.1,Rp.mono a z.2⟩) d⟩
 |un _ ih =>
  intro F σ O k h
  cases h with
  |un h=>obtain⟨F',O',a,b,c,d⟩:=ih k h;exact⟨F',O',a,b,c,.un d⟩
  |fz r h=>obtain⟨F',O',a,b,c,d⟩:=ih k h;exact⟨F',O',a,b,c,.un d⟩
  |hs r h=>obtain⟨F',O',a,b,c,d⟩:=ih k h;exact⟨F',O',a,b,c,.un d⟩
  |nu r h=>obtain⟨F',O',a,b,c,d⟩:=ih k h;exact⟨F',O',a,b,c,.un d⟩
  |ow r h=>obtain⟨F',O',a,b,c,d⟩:=ih k.drop (h.mono (.refl _) kI (.refl _));exact⟨F',O',a,b,kI.trans c,.un d⟩
  |od r h=>obtain⟨F',O',a,b,c,d⟩:=ih k.drop (h.mono (.refl _) kI (.refl _));exact⟨F',O',a,b,kI.trans c,.un d⟩
 |@fr n _ _ _ _ _ _ ih =>
  intro F σ O k h
  cases h with
  |@ow _ _ _ _ _ _ O p vs r h =>
   obtain⟨a1,a2,a3⟩:=k.one
   have sf:Same F (upd F p (.lst vs)):=aL a1 _
   obtain⟨F',O',a,b,c,d⟩:=ih k.freeze (h.mono sf nA (.refl _))
   refine⟨F',O',sf.trans a,b,nA.trans c,.fz ⟨p,vs,rfl,?_,r.imp λ_ _=>Rp.mono (wK _ (sf.trans a))⟩ d⟩
   cases n with
   |true=>exact(uL a2).trans (a _ _ zM)
   |false=>exact a _ _ zM
 |old _ ih =>
  intro F σ O k h
  cases h with
  |fz r h=>obtain⟨F',O',a,b,c,d⟩:=ih k h;exact⟨F',O',a,b,c,.fz (Rp.mono (aV.trans a) r) d⟩
theorem Sg.le(h:Sg B G sl σ H)(l:Le sl sl2):Sg B G sl2 σ H:=by
 obtain⟨F,O,g,k,s⟩:=h
 obtain⟨F',O',a,b,_,d⟩:=ak.le (P:=[]) l k s
 exact⟨F',O',g.trans a,b,d⟩
theorem Sg.grow(g:Same G F)(h:At B sl F O' H σ)(gr:bC B F H O' F' H'):Sg B G sl σ H':=⟨F',O',g.trans gr.ff,h.grow gr⟩
theorem zR(L:S->SL K)(s:S)(h:Le sl (L s)):Sn B sl K8 L (some s):=λa ha G D σ H q k=>by cases ha;exact k σ H (q.le h)
theorem zK{f:S->Option S'}(h1:Sn B sl t L m1)(h2:∀s,Sn B (L s) u L' (f s)):Sn B sl (j4 t u) L' (m1.bind f):=λa ha G D σ H q k=>by
 cases m1 with
 |none=>cases ha
 |some s=>exact h1 s rfl G _ σ H q λσ' H' q'=>h2 s a ha G D σ' H' q' k
theorem zN{f:S->Option β}(h1:Sn B sl t L m1)(h2:∀s,SB B (L s) u al (f s)):SB B sl (j4 t u) al (m1.bind f):=λa ha G D σ H q k=>by
 cases m1 with
 |none=>cases ha
 |some s=>exact h1 s rfl G _ σ H q λσ' H' q'=>h2 s a ha G D σ' H' q' k
theorem Uz{f:S->Option β}(h1:Sx B sl t al L m1)(h2:∀s,SB B (L s) u al (f s)):SB B sl (j4 t u) al (m1.bind λo=>o.els f):=λa ha G D σ H q k=>by
 cases m1 with
 |none=>cases ha
 |some o =>
  cases o with
  |nx s=>exact h1 _ rfl G _ σ H q λσ' H' q'=>h2 s a ha G D σ' H' q' k
  |rt b=>cases ha;exact h1 _ rfl G { D with nx:=u D } σ H q k
theorem UG(L:S->SL K)(s:S)(h:Le sl (L s)):Sx B sl K8 al L (some (.nx s):Option (Out S β)):=λa ha G D σ H q k=>by cases ha;exact k σ H (q.le h)
theorem Fy(k:Ok B F' O H')(n:Bool){v:V}{b:β}(r:rp K (reg B F' H' (dX n)) v b)(hn:n=!al):Rt K B al b v H':=by
 refine⟨k.h0,?_⟩
 cases al with
 |false=>subst hn;exact Rp.mono (wB k.fh) r
 |true =>
  subst hn
  refine Rp.mono (λb o h=>?_) r
  have h:F' b=some o:=h
  show ext B.Fa B.H0 H' b=some o
  unfold ext
  cases q:B.H0 b with
  |none=>exact k.fh b o h
  |some u =>
   rcases k.fa b o h with z|z
   ·exact z
   ·rw[q] at z;cases z
theorem yI(h:Ex B sl (dX !al) te m):SB B sl (j4 (uq te) u) al m:=λb hb G D σ H s k=>by
 obtain⟨F,O,g,a⟩:=s
 exact h b hb F O H σ _ a λv F' H' gr r=>k v H' (Fy gr.ok (!al) r rfl)
theorem BJ(h:F p=none):Same (dif F H0) (dif (upd F p o) H0):=wB (aL h o)
theorem BK{n:Bool}{xs:List α}(i:Nat)(hs:sl[i]?=some (.ow n xs))(hn:n=!al):SB B sl (j4 (uq (c7 i)) u) al (some xs):=λb hb G D σ H s k=>by
 cases hb
 obtain⟨F,O,g,a⟩:=s
 obtain⟨O1,O2,p,vs,rfl,h1,h2,_⟩:=a.2.nq hs
 obtain⟨a1,a2,a3⟩:=a.1.one
 refine⟨_,h1,k _ H (Fy a.1.freeze n ⟨p,vs,rfl,?_,h2.imp λ_ _=>Rp.mono ?_⟩ hn)⟩
 ·cases n with
  |true=>exact(uL a2).trans zM
  |false=>exact zM
 ·cases n with
  |true=>exact BJ a1
  |false=>exact aL a1 _
theorem vL(hc:Et B sl c n)(h1:Sn B sl t L m1)(h2:Sn B sl u L m2):Sn B sl (ur c t u) L (n.bind λb=>if b=true then m1 else m2):=λa ha G D σ H s k=>by
 cases n with
 |none=>cases ha
 |some b =>
  obtain⟨F,O,g,z⟩:=s
  refine hc b rfl F O H σ _ z λF' H' gr=>?_
  cases b with
  |true=>exact jD (h1 a (by simpa using ha) G D σ H' (Sg.grow g z gr) k)
  |false=>exact lA (h2 a (by simpa using ha) G D σ H' (Sg.grow g z gr) k)
theorem Im{c:TT}{n:Option Bool}{m1 m2:Option β}(hc:Et B sl c n)(h1:SB B sl t al m1)(h2:SB B sl u al m2):SB B sl (j4 (ur c t K8) u) al (n.bind λb=>if b=true then m1 else m2):=λa ha G D σ H s k=>by
 cases n with
 |none=>cases ha
 |some b =>
  obtain⟨F,O,g,z⟩:=s
  refine hc b rfl F O H σ _ z λF' H' gr=>?_
  cases b with
  |true=>exact jD (h1 a (by simpa using ha) G _ σ H' (Sg.grow g z gr) k)
  |false=>exact lA (h2 a (by simpa using ha) G D σ H' (Sg.grow g z gr) k)
theorem UJ{c:TT}{n:Option Bool}{m1:Option β}{L:S->SL K}{m2:Option (Out S β)}(hc:Et B sl c n)(h1:SB B sl t al m1)(h2:Sx B sl u al L m2) :
  Sx B sl (j4 (ur c t K8) u) al L (n.bind λb=>if b=true then m1.bind λb=>some (.rt b) else m2):=λa ha G D σ H s k=>by
 cases n with
 |none=>cases ha
 |some b =>
  obtain⟨F,O,g,z⟩:=s
  refine hc b rfl F O H σ _ z λF' H' gr=>?_
  cases b with
  |true =>
   have e:=(show(m1.bind λb=>some (Out.rt b))=some a by simpa using ha)
   cases m1 with
   |none=>cases e
   |some b=>cases e;exact jD (h1 b rfl G _ σ H' (Sg.grow g z gr) k)
  |false=>exact lA (h2 a (by simpa using ha) G D σ H' (Sg.grow g z gr) k)
theorem Sg.set{s:Slot K}{i:Nat}{n:Bool}{a:α}{v:V}{O:Own}(g:Same G F)(h:At B sl F O H σ)(hs:sl[i]?=some s)(ho:jl s=false)(r:rp K (reg B F H (dX n)) v a):Sg B G (sl.set i (.fz n a)) (σ.set i (some v)) H :=
 ⟨F,O,g,h.1,h.2.put (λ_ _ _ z=>.fz r z) hs ho⟩
theorem yN(n:Bool)(i:Nat)(hs:sl[i]?=some s)(ho:jl s=false)(h:Ex B sl (dX n) te m):Sn B sl (lg te (pL i)) (λa=>sl.set i (.fz n a)) m:=λa ha G D σ H s k=>by
 obtain⟨F,O,g,z⟩:=s
 exact h a ha F O H σ _ z λv F' H' gr r=>k _ _ (Sg.set (g.trans gr.ff) (z.grow gr) hs ho r)
theorem Ls(h:Ex B sl md te m):Sn B sl (K9 te) (λ_=>sl) m:=λa ha G D σ H s k=>by
 obtain⟨F,O,g,z⟩:=s
 exact h a ha F O H σ _ z λv F' H' gr r=>k _ _ (Sg.grow g z gr)
theorem At.own{s:Slot K}{i:Nat}{n:Bool}{xs:List α}{vs:List V}{p:Addr}(h:At B sl F O H σ)(hs:sl[i]?=some s)(ho:jl s=false)(hp:H p=none)(r:A2 (rp K (reg B F H (dX n))) vs xs) :
  ∃O',At B (sl.set i (.ow n xs)) F O' (upd H p (.lst vs)) (σ.set i (some (.ref p))):=by
 obtain⟨k,z0⟩:=h
 obtain⟨O1,O2,rfl,z⟩:=z0.own (s':=.ow n xs) (x:=some (.ref p)) (c:=(p,.lst vs)) (λ_ _ _ z=>.ow r z) hs ho
 exact⟨_,k.add hp,z.mono (.refl _) (YW hp) (aL hp _)⟩
theorem vR{s:Slot K}{m:Option (List α)}(n:Bool)(i:Nat)(hs:sl[i]?=some s)(ho:jl s=false)(h:Eo B sl (dX n) te m):Sn B sl (lg te (pL i)) (λa=>sl.set i (.ow n a)) m:=λa ha G D σ H s k=>by
 obtain⟨F,O,g,z⟩:=s
 refine h a ha F O H σ _ z λp vs F' H' gr hp r=>k _ _ ?_
 obtain⟨O',z'⟩:=(z.grow gr).own hs ho hp r
 exact⟨F',O',g.trans gr.ff,z'⟩
theorem UL(i:Nat)(hs:sl[i]?=some s)(ho:jl s=false):Sn B sl (lg Ym (pL i)) (λ_=>sl.set i (.od ([]:List (Key×α)))) (some ()):=λa ha G D σ H s k=>by
 obtain⟨F,O,g,k0,z0⟩:=s
 intro p hp
 refine k _ _ ?_
 obtain⟨O1,O2,rfl,z'⟩:=z0.own (s':=.od ([]:List (Key×α))) (x:=some (.ref p)) (c:=(p,.dK [])) (λ_ _ _ z=>.od trivial z) hs ho
 exact⟨F,_,g,k0.add hp,z'.mono (.refl _) (YW hp) (aL hp _)⟩
theorem UW{α:Type}:∀{l:List α}{i:Nat}{x:α},l[i]?=some x->l.set i x=l
 |[],_,_,h=>by simp at h
 |_::_,0,_,h=>by simp at h;subst h;rfl
 |_::l,i+1,_,h=>congrArg _ (UW (l:=l) (i:=i) (by simpa using h))
theorem U0{P:Slot K->Bool}(hs:P s=true):∀{l:SL K}{i:Nat},l.all P=true->(l.set i s).all P=true
 |[],_,h=>h
 |_::_,0,h=>by rw[all_cons,aag] at h;rw[List.set_cons_zero,all_cons,aag];exact⟨hs,h.2⟩
 |_::l,i+1,h=>by rw[all_cons,aag] at h;rw[List.set_cons_succ,all_cons,aag];exact⟨h.1,U0 hs h.2⟩
theorem At.chg{i:Nat}{n:Bool}{xs:List α}(h:At B sl F O H σ)(hs:sl[i]?=some (.ow n xs))(hh:sl.all (λs=>!cP s)=true):∃p vs,σ[i]?=some (some (.ref p))/\H p=some (.lst vs)/\A2 (rp K (reg B F H (dX n))) vs xs /\
  ∀(ws:List V)(ys:List α),A2 (rp K (reg B F H (dX n))) ws ys->∃O',At B (sl.set i (.ow n ys)) F O' (upd H p (.lst ws)) σ:=by
 obtain⟨k,z0⟩:=h
 obtain⟨O1,O2,p,vs,rfl,h1,h2,h3,_⟩:=z0.nq hs
 refine⟨p,vs,h1,k.one.2.2,h2,λws ys r=>⟨_,k.chg (.lst ws),?_⟩⟩
 have z:=h3 (.ow n ys) (some (.ref p)) (p,.lst ws) λ_ _ _ z=>.ow r z
 rw[UW h1] at z
 exact z.mut YX (U0 rfl hh)
theorem At.BL(h:At B sl F O H σ)(hs:sl[i]?=some (.od kvs))(hh:sl.all (λs=>!cP s)=true):∃p ks,σ[i]?=some (some (.ref p))/\H p=some (.dK ks)/\A2 (λ(x:Key×V) (y:Key×α)=>x.1=y.1/\rp K F x.2 y.2) ks kvs /\
  ∀(ws:List (Key×V))(ys:List (Key×α)),A2 (λ(x:Key×V) (y:Key×α)=>x.1=y.1/\rp K F x.2 y.2) ws ys->∃O',At B (sl.set i (.od ys)) F O' (upd H p (.dK ws)) σ:=by
 obtain⟨k,z0⟩:=h
 obtain⟨O1,O2,p,vs,rfl,h1,h2,h3,_⟩:=z0.Fw hs
 refine⟨p,vs,h1,k.one.2.2,h2,λws ys r=>⟨_,k.chg (.dK ws),?_⟩⟩
 have z:=h3 (.od ys) (some (.ref p)) (p,.dK ws) λ_ _ _ z=>.od r z
 rw[UW h1] at z
 exact z.mut YX (U0 rfl hh)
theorem wG(i:Nat)(hs:sl[i]?=some (.ow n xs))(hh:sl.all (λs=>!cP s)=true)(h:Ex B sl (dX n) te m) :
  Sn B sl (K9 (Lk K "list" Uc (c7 i) (xG te cj))) (λys=>sl.set i (.ow n ys)) (m.bind λa=>push xs a):=λys ha G D σ H s k=>by
 cases m with
 |none=>cases ha
 |some a =>
  have ha':push xs a=some ys:=ha
  unfold push at ha'
  split at ha'
  case isFalse=>cases ha'
  rename_i hl
  cases ha'
  obtain⟨F,O,g,z⟩:=s
  obtain⟨p,vs,h1,h2,h3,_⟩:=z.chg hs hh
  refine⟨_,h1,.inl ⟨rfl,_,bw.of h2⟩,?_⟩
  refine h a rfl F O H σ _ z λv F' H' gr r=>?_
  obtain⟨p',vs',h1',h2',h3',h4'⟩:=(z.grow gr).chg hs hh
  have e:=h1.symm.trans h1'
  cases e
  obtain⟨O',z'⟩:=h4' (vs'++[v]) (xs++[a]) (h3'.snoc r)
  exact⟨p,vs',v,rfl,rfl,h2',Ac (by rw[h3'.len];exact hl),k _ _ ⟨F',O',g.trans gr.ff,z'⟩⟩
theorem Ol(i:Nat)(hs:sl[i]?=some (.ow n xs))(hh:sl.all (λs=>!cP s)=true)(hv:Ex B sl (dX n) te m)(hi:Ex B sl .hp ti mi) :
  Sn B sl (lg te (Np (c7 i) ti vd)) (λys=>sl.set i (.ow n ys)) (m.bind λa=>mi.bind λk=>rD xs k a):=λys ha G D σ H s k=>by
 cases m with
 |none=>cases ha
 |some a =>
  cases mi with
  |none=>cases ha
  |some ix =>
   have ha':rD xs ix a=some ys:=ha
   obtain⟨F,O,g,z⟩:=s
   refine hv a rfl F O H σ _ z λv F' H' gr r=>?_
   obtain⟨p,vs,h1,h2,h3,_⟩:=(z.grow gr).chg hs hh
   refine⟨_,h1,?_⟩
   refine hi ix rfl F' O H' σ _ (z.grow gr) λw F2 H2 rE rw=>?_
   cases rw
   obtain⟨p',vs',h1',h2',h3',h4'⟩:=((z.grow gr).grow rE).chg hs hh
   have e:=h1.symm.trans h1'
   cases e
   unfold rD at ha'
   cases ej:rB xs.length ix with
   |none=>rw[ej] at ha';cases ha'
   |some jj =>
    rw[ej] at ha'
    cases ha'
    obtain⟨O',z'⟩:=h4' (vs'.set jj v) (xs.set jj a) (h3'.set (Rp.mono (xH rE (dX n)) r) jj)
    exact⟨p,vs',ix,jj,rfl,rfl,h2',by rw[h3'.len,ej],k _ _ ⟨F2,O',(g.trans gr.ff).trans rE.ff,z'⟩⟩
end
section
variable{K:PySem.W.Frag}{B:Bs}{F H F' H' G:Hp}{O:Own}{sl sl2:SL K}{σ:St}{md:Md}{α β γ:Type}[Rp K α][Rp K β][Rp K γ]{tb u v:TS}{te:TE}{m:Option α}{S S':Type}{al n:Bool}
theorem Rw{S α β:Type}(step:S->α->Option (Out S β)):∀(xs ys:List α)(s:S),vZ step (xs++ys) s=(vZ step xs s).bind λo=>o.aN λs'=>vZ step ys s'
 |[],ys,s=>rfl
 |x::xs,ys,s=>by
  show(step s x).bind _=((step s x).bind _).bind _
  cases step s x with
  |none=>rfl
  |some o =>
   cases o with
   |nx s'=>exact Rw step xs ys s'
   |rt b=>rfl
theorem zMf{S α β:Type}{step:S->α->Option (Out S β)}{xs:List α}{s a:S}{x:α}(h:vZ step (xs.take i) s=some (.nx a))(hx:xs[i]?=some x):vZ step (xs.take (i+1)) s=step a x:=by
 have e2:xs.take (i+1)=xs.take i++[x]:=by rw[take_add_one,hx]<;>rfl
 rw[e2,Rw,h]
 show(step a x).bind _=step a x
 cases step a x with
 |none=>rfl
 |some o=>cases o<;>rfl
theorem zPa{S α β:Type}{step:S->α->Option (Out S β)}{xs:List α}{s:S}{o:Out S β}{b:β}(h:vZ step xs s=some o)(hi:vZ step (xs.take i) s=some (.rt b)):o=.rt b:=by
 rw[<-take_append_drop i xs,Rw,hi] at h
 cases h
 rfl
theorem zMg{S α β:Type}{step:S->α->Option (Out S β)}{xs:List α}{s:S}{o:Out S β}(i:Nat)(h:vZ step xs s=some o):∃o',vZ step (xs.take i) s=some o':=by
 rw[<-take_append_drop i xs,Rw] at h
 cases q:vZ step (xs.take i) s with
 |none=>rw[q] at h;cases h
 |some o'=>exact⟨o',rfl⟩
def Yl(K:PySem.W.Frag)(B:Bs)(F':Hp)(n:Bool)(J:It){α:Type}[Rp K α](xs:List α):Prop:=∀(i:Nat)(F2:Hp)(O2:Own)(H2:Hp),Same F' F2->Ok B F2 O2 H2 ->
 (xs.length<=i->J.stop i H2)/\∀x,xs[i]?=some x->J.go i H2/\∀v H3,J.Lb i H2 v H3->∃F3,bC B F2 H2 O2 F3 H3/\rp K (reg B F3 H3 (dX n)) v x
def Ei(B:Bs)(sl:SL K)(n:Bool)(wi:TI){α:Type}[Rp K α](mi:Option (List α)):Prop :=
 ∀xs,mi=some xs->∀(F:Hp)(O:Own)(H:Hp)(σ:St)(R:It->Hp->Prop),At B sl F O H σ->(∀(J:It)(F' H':Hp),bC B F H O F' H'->Yl K B F' n J xs->R J H')->wi σ H R
def Tg(B:Bs)(sl:SL K)(n:Bool)(g:TG){α:Type}[Rp K α](L:α->SL K):Prop :=
 ∀(v:V)(x:α)(F:Hp)(O:Own)(H:Hp)(σ:St)(Q:St->Hp->Prop),At B sl F O H σ->rp K (reg B F H (dX n)) v x->(∀σ',At B (L x) F O H σ'->Q σ' H)->g v σ H Q
theorem zT(i:Nat)(hs:sl[i]?=some s)(ho:jl s=false):Tg B sl n (pL i) (λx:α=>sl.set i (.fz n x)):=λv x F O H σ Q a r k=>k _ ⟨a.1,a.2.put (λ_ _ _ z=>.fz r z) hs ho⟩
theorem Y6(k:Ok B F O H)(h:reg B F H (dX n) p=some o):H p=some o:=Bw k n p o h
theorem Fz(i j:Nat)(hs:sl[i]?=some s)(ho:jl s=false)(hs':∀x:Slot K,(sl.set i x)[j]?=some s')(ho':jl s'=false) :
  Tg B sl n (Aq K 2 (La (pL i) (La (pL j) Hg))) (λx:α×β=>(sl.set i (.fz n x.1)).set j (.fz n x.2)):=λv x F O H σ Q a r k=>by
 obtain⟨p,w1,w2,rfl,h1,h2,h3⟩:=r
 refine⟨p,[w1,w2],rfl,.inl (.inl (Y6 a.1 h1)),rfl,w1,[w2],rfl,w2,[],rfl,rfl,?_⟩
 exact k _ ⟨a.1,(a.2.put (s':=.fz n x.1) (λ_ _ _ z=>.fz h2 z) hs ho).put (λ_ _ _ z=>.fz h3 z) (hs' _) ho'⟩
theorem xS{L:S->SL K}{Lx:S->α->SL K}{step:S->α->Option S}(s0:S)(h0:Le sl (L s0))(hi:Ei B (L s0) n wi mi)(hg:∀s,Tg B (L s) n g (Lx s))(hb:∀s x,Sn B (Lx s x) tb L (step s x)) :
  Sn B sl (Hs wi g tb) L (mi.bind λxs=>yU step xs s0):=λs1 hs1 G D σ H q k=>by
 cases mi with
 |none=>cases hs1
 |some xs =>
  have hs1:yU step xs s0=some s1:=hs1
  obtain⟨F,O,g0,a⟩:=q.le h0
  refine hi xs rfl F O H σ _ a λJ F' H' gr yl=>?_
  refine⟨λi m σ H=>m=xs.length-i/\i<=xs.length/\∃s,yU step (xs.take i) s0=some s/\Sg B F' (L s) σ H,⟨xs.length,rfl,aa0 _,s0,rfl,F',O,.refl _,a.grow gr⟩,?_⟩
  rintro i m σ H ⟨rfl,hil,s,hs,F2,O2,sf,a2⟩
  obtain⟨y1,y2⟩:=yl i F2 O2 H sf a2.1
  by_cases hlt:i<xs.length
  ·obtain⟨go,y3⟩:=y2 xs[i] (aad hlt)
   obtain⟨s',s'',e1,e2,e3⟩:=zMh hs1 (aad hlt)
   rw[hs] at e1
   cases e1
   refine .inr ⟨go,Sg B F' (L s''),λσ' H' z=>⟨xs.length-(i+1),by omega,rfl,hlt,s'',e3,z⟩,λv H3 yd=>?_⟩
   obtain⟨F3,g3,r3⟩:=y3 v H3 yd
   exact hg s v xs[i] F3 O2 H3 σ _ (a2.grow g3) r3 λσ' a'=>hb s xs[i] s'' e2 F' _ σ' H3 ⟨F3,O2,sf.trans g3.ff,a'⟩ λσ2 H2 z=>z
  ·have e:i=xs.length:=by omega
   subst e
   rw[take_length,hs1] at hs
   cases hs
   exact .inl ⟨y1 (aaf _),k σ H ⟨F2,O2,(g0.trans gr.ff).trans sf,a2⟩⟩
theorem U3{L:S->SL K}{Lx:S->α->SL K}{step:S->α->Option (Out S β)}(s0:S)(h0:Le sl (L s0))(hi:Ei B (L s0) n wi mi)(hg:∀s,Tg B (L s) n g (Lx s))(hb:∀s x,Sx B (Lx s x) tb al L (step s x)) :
  Sx B sl (Hs wi g tb) al L (mi.bind λxs=>vZ step xs s0):=λo ho G D σ H q k=>by
 cases mi with
 |none=>cases ho
 |some xs =>
  have ho:vZ step xs s0=some o:=ho
  obtain⟨F,O,g0,a⟩:=q.le h0
  refine hi xs rfl F O H σ _ a λJ F' H' gr yl=>?_
  refine⟨λi m σ H=>m=xs.length-i/\i<=xs.length/\∃s,vZ step (xs.take i) s0=some (.nx s)/\Sg B F' (L s) σ H,⟨xs.length,rfl,aa0 _,s0,rfl,F',O,.refl _,a.grow gr⟩,?_⟩
  rintro i m σ H ⟨rfl,hil,s,hs,F2,O2,sf,a2⟩
  obtain⟨y1,y2⟩:=yl i F2 O2 H sf a2.1
  by_cases hlt:i<xs.length
  ·obtain⟨go,y3⟩:=y2 xs[i] (aad hlt)
   have e2:=zMf hs (aad hlt)
   obtain⟨o',e3⟩:=zMg (i+1) ho
   refine .inr ⟨go,λσ H=>∃s',o'=.nx s'/\Sg B F' (L s') σ H,λσ' H' ⟨s',e,z⟩=>⟨xs.length-(i+1),by omega,rfl,hlt,s',by rw[e3,e],z⟩,λv H3 yd=>?_⟩
   obtain⟨F3,g3,r3⟩:=y3 v H3 yd
   refine hg s v xs[i] F3 O2 H3 σ _ (a2.grow g3) r3 λσ' a'=>hb s xs[i] o' (by rw[<-e2,e3]) F' _ σ' H3 ⟨F3,O2,sf.trans g3.ff,a'⟩ ?_
   cases o' with
   |nx s'=>exactλσ2 H2 z=>⟨s',rfl,z⟩
   |rt b =>
    have:=zPa ho e3
    subst this
    exact k
  ·have e:i=xs.length:=by omega
   subst e
   rw[take_length,ho] at hs
   cases hs
   exact .inl ⟨y1 (aaf _),k σ H ⟨F2,O2,(g0.trans gr.ff).trans sf,a2⟩⟩
theorem zQv{L:S->SL K}{cM:S->Option Bool}{bM:S->Option S}(fuel:Nat)(s0:S)(h0:Le sl (L s0))(hc:∀s,Et B (L s) c (cM s))(hb:∀s,Sn B (L s) tb L (bM s)):Sn B sl (XF c tb) L (Fx cM bM fuel s0):=λs1 hs1 G D σ H q k=>by
 refine⟨λm σ H=>∃s,Fx cM bM m s=some s1/\Sg B G (L s) σ H,⟨fuel,s0,hs1,q.le h0⟩,?_⟩
 rintro m σ H ⟨s,hs,F,O,g,a⟩
 cases m with
 |zero=>cases hs
 |succ m =>
  have hs:((cM s).bind λb=>if b=true then(bM s).bind λs'=>Fx cM bM m s' else some s)=some s1:=hs
  cases e:cM s with
  |none=>rw[e] at hs;cases hs
  |some b =>
   rw[e] at hs
   refine hc s b e F O H σ _ a λF' H' gr=>?_
   cases b with
   |true =>
    have hs:((bM s).bind λs'=>Fx cM bM m s')=some s1:=by simpa using hs
    cases e2:bM s with
    |none=>rw[e2] at hs;cases hs
    |some s' =>
     rw[e2] at hs
     exact jD ⟨Sg B G (L s'),λσ' H' z=>⟨m,ace _,s',hs,z⟩,hb s s' e2 G _ σ H' (Sg.grow g a gr) λ_ _ z=>z⟩
   |false =>
    have hs:some s=some s1:=by simpa using hs
    cases hs
    exact lA (k σ H' (Sg.grow g a gr))
theorem yE{mi:Option (List α)}(h:Ex B sl (dX n) te mi):Ei B sl n (uw K te) mi:=λxs hx F O H σ R a k=>by
 refine h xs hx F O H σ _ a λv F' H' gr r=>?_
 obtain⟨p,vs,rfl,h1,h2⟩:=r
 refine⟨p,rfl,⟨vs,bw.of (Bw gr.ok n p _ h1)⟩,k _ F' H' gr λi F2 O2 H2 sf k2=>?_⟩
 have hq:bw K H2 p vs:=bw.of (k2.fh _ _ (sf _ _ (by cases n with|true=>exact aV _ _ h1|false=>exact h1)))
 refine⟨λhl=>⟨vs,hq,by rw[h2.len];exact hl⟩,λx hx=>?_⟩
 obtain⟨w,hw,rw⟩:=h2.at2 hx
 refine⟨⟨vs,w,hq,hw⟩,λv H3 yd=>?_⟩
 obtain⟨e,y⟩:=yd
 subst e
 have:=(hw.symm.trans (y vs hq))
 cases this
 exact⟨F2,.refl k2,Rp.mono (wK n sf) rw⟩
theorem U4{k i:Nat}{x:Int}(h:((aar k).map acr)[i]?=some x):i<k/\x=i:=by
 rw[getElem?_map] at h
 by_cases q:i<k
 ·rw[getElem?_range q] at h;cases h;exact⟨q,rfl⟩
 ·rw[aaz (by rw[length_range];omega)] at h;cases h
theorem xK(h:Ex B sl .hp te mi):Ei B sl n (Fb (xG te cj)) (mi.bind xT):=λxs hx F O H σ R a k=>by
 cases mi with
 |none=>cases hx
 |some j =>
  have hx:xT j=some xs:=hx
  unfold xT at hx
  split at hx
  case isFalse=>cases hx
  rename_i hb
  cases hx
  refine h j rfl F O H σ _ a λv F' H' gr r=>?_
  cases r
  refine⟨j,rfl,hb.1,hb.2,k _ F' H' gr λi F2 O2 H2 sf k2=>⟨λhl=>?_,λx hx=>?_⟩⟩
  ·rw[length_map,length_range] at hl;exact hl
  ·obtain⟨h1,rfl⟩:=U4 hx
   refine⟨h1,λv H3 yd=>?_⟩
   obtain⟨rfl,rfl⟩:=yd
   exact⟨F2,.refl k2,by show V.int (0+(i:Int))=V.int i;rw[Int.zero_add]⟩
def v7{α:Type}(xs:List α):List (Int×α):=((aar xs.length).map acr).zip xs
theorem U5{α:Type}{xs:List α}{i:Nat}{x:Int×α}(h:(v7 xs)[i]?=some x):x.1=i/\xs[i]?=some x.2:=by
 unfold v7 at h
 rw[List.getElem?_zip_eq_some] at h
 exact⟨(U4 h.1).2,h.2⟩
theorem Y7{α:Type}(xs:List α):(v7 xs).length=xs.length:=by unfold v7;simp
theorem U6{mi:Option (List α)}(h:Ex B sl (dX n) te mi):Ei B sl n (vo K (xG te cj)) (mi.bind λxs=>some (v7 xs)):=λxs hx F O H σ R a k=>by
 cases mi with
 |none=>cases hx
 |some zs =>
  cases(show some (v7 zs)=some xs from hx)
  refine h zs rfl F O H σ _ a λv F' H' gr r=>?_
  obtain⟨p,vs,rfl,h1,h2⟩:=r
  refine⟨p,rfl,⟨vs,bw.of (Bw gr.ok n p _ h1)⟩,k _ F' H' gr λi F2 O2 H2 sf k2=>?_⟩
  have hq:bw K H2 p vs:=bw.of (k2.fh _ _ (sf _ _ (by cases n with|true=>exact aV _ _ h1|false=>exact h1)))
  refine⟨λhl=>⟨vs,hq,by rw[h2.len,<-Y7];exact hl⟩,λx hx=>?_⟩
  obtain⟨e1,e2⟩:=U5 hx
  obtain⟨w,hw,rw⟩:=h2.at2 e2
  refine⟨⟨vs,w,hq,hw⟩,λv H3 yd=>?_⟩
  obtain⟨t,x',rfl,ht,rfl,y⟩:=yd
  have:=(hw.symm.trans (y vs hq))
  cases this
  have g3:=bC.new k2 ht (.tup [.int i,w])
  refine⟨_,g3,t,.int i,w,rfl,?_,?_,Rp.mono (wK n (sf.trans g3.ff)) rw⟩
  ·exact Lr k2 ht (dX n)
  ·rw[e1];rfl
def yQ{α β:Type}(c:α->Option Bool)(f:α->Option β)(xs:List α):Option (List β):=if xs.length<cap then wF c f xs else none
theorem Rx{α β:Type}(c:α->Option Bool)(f:α->Option β):∀(xs ys:List α),wF c f (xs++ys)=(wF c f xs).bind λa=>(wF c f ys).bind λb=>some (a++b)
 |[],ys=>by
  rw[nil_append]
  show wF c f ys=(wF c f ys).bind λb=>some ([]++b)
  cases wF c f ys<;>rfl
 |x::xs,ys=>by
  show(c x).bind _=((c x).bind _).bind _
  cases c x with
  |none=>rfl
  |some b =>
   cases b with
   |true =>
    show(f x).bind _=((f x).bind _).bind _
    cases f x with
    |none=>rfl
    |some y =>
     show(wF c f (xs++ys)).bind _=((wF c f xs).bind _).bind _
     rw[Rx c f xs ys]
     cases wF c f xs with
     |none=>rfl
     |some a =>
      show((wF c f ys).bind _).bind _=(wF c f ys).bind _
      cases wF c f ys<;>rfl
   |false=>exact Rx c f xs ys
theorem U7{α β:Type}(c:α->Option Bool)(f:α->Option β):∀{xs:List α}{ys:List β},wF c f xs=some ys->ys.length<=xs.length
 |[],ys,h=>by cases h;exact aaf _
 |x::xs,ys,h=>by
  have h:((c x).bind λb=>if b=true then(f x).bind λy=>(wF c f xs).bind λys=>some (y::ys) else wF c f xs)=some ys:=h
  cases e:c x with
  |none=>rw[e] at h;cases h
  |some b =>
   rw[e] at h
   cases b with
   |true =>
    have h:((f x).bind λy=>(wF c f xs).bind λys=>some (y::ys))=some ys:=by simpa using h
    cases e2:f x with
    |none=>rw[e2] at h;cases h
    |some y =>
     rw[e2] at h
     cases e3:wF c f xs with
     |none=>rw[e3] at h;cases h
     |some zs =>
      rw[e3] at h
      cases h
      exact abj (U7 c f e3)
   |false =>
    have h:wF c f xs=some ys:=by simpa using h
    exact Nat.le_succ_of_le (U7 c f h)
theorem zMq{α β:Type}{c:α->Option Bool}{f:α->Option β}{xs:List α}{zs:List β}(i:Nat)(h:wF c f xs=some zs):∃ys,wF c f (xs.take i)=some ys:=by
 rw[<-take_append_drop i xs,Rx] at h
 cases q:wF c f (xs.take i) with
 |none=>rw[q] at h;cases h
 |some o'=>exact⟨o',rfl⟩
theorem zMr{α β:Type}{c:α->Option Bool}{f:α->Option β}{xs:List α}{zs ys:List β}{x:α}(h:wF c f (xs.take (i+1))=some zs)(hy:wF c f (xs.take i)=some ys)(hx:xs[i]?=some x) :
  (c x=some false/\zs=ys)\/∃y,c x=some true/\f x=some y/\zs=ys++[y]:=by
 have e2:xs.take (i+1)=xs.take i++[x]:=by rw[take_add_one,hx]<;>rfl
 rw[e2,Rx,hy] at h
 have h:(((c x).bind λb=>if b=true then(f x).bind λy=>some [y] else some []).bind λb=>some (ys++b))=some zs:=h
 cases e:c x with
 |none=>rw[e] at h;cases h
 |some b =>
  rw[e] at h
  cases b with
  |true =>
   have h:(((f x).bind λy=>some [y]).bind λb=>some (ys++b))=some zs:=by simpa using h
   cases e2:f x with
   |none=>rw[e2] at h;cases h
   |some y=>rw[e2] at h;cases h;exact .inr ⟨y,rfl,rfl,rfl⟩
  |false =>
   have h:some (ys++[])=some zs:=by simpa using h
   rw[append_nil] at h
   cases h
   exact .inl ⟨rfl,rfl⟩
abbrev Om:Slot K->Slot K
 |.un=>.un
 |@Slot.fz _ n _ i a=>@Slot.fz _ n _ i a
 |@Slot.hs _ _ i a=>@Slot.hs _ _ i a
 |@Slot.nu _ _ i a=>@Slot.hs _ _ i a
 |@Slot.ow _ _ _ i xs=>@Slot.hs _ _ _ xs
 |@Slot.od _ _ _ _=>.un
theorem bC.lift(k:Ok B F O H)(g:bC B F H [] F' H'):bC B F H O F' H' :=
 ⟨g.ff,g.hh,⟨g.ok.fh,g.ok.h0,g.ok.fa,λx hx=>by
  obtain⟨a1,a2,a3⟩:=k.fo x hx
  exact⟨g.nw _ a1 (by rw[a3];intro z;cases z),a2,g.hh _ _ a3⟩,k.nd⟩,g.nw⟩
theorem Ok.nil(k:Ok B F O H):Ok B F [] H:=⟨k.fh,k.h0,k.fa,λx hx=>(by cases hx),(by simp)⟩
theorem ak.one(a:At B sl F O H σ)(L:Hp)(j:Nat)(hs:sl[j]?=some s):∀{sl':SL K}{σ':St},ak B F L H sl' σ' []->ak B F L H (Om s::sl') ((σ[j]?).getD none::σ') []:=λ{sl' σ'} h=>by
 cases s with
 |un=>exact .un h
 |fz n b=>obtain⟨v,h1,h2⟩:=a.2.pP hs;rw[h1];exact .fz h2 h
 |hs b=>obtain⟨v,h1,h2⟩:=a.2.Fv hs;rw[h1];exact .hs h2 h
 |nu b=>obtain⟨v,h1,h2⟩:=a.2.vq hs;rw[h1];exact .hs (Rp.mono (aV.trans lo_le) h2) h
 |ow n xs =>
  obtain⟨k,z0⟩:=a
  obtain⟨O1,O2,p,vs,rfl,h1,h2,_⟩:=z0.nq hs
  rw[h1]
  exact .hs ⟨p,vs,rfl,k.one.2.2,h2.imp λ_ _=>Rp.mono (Bw k n)⟩ h
 |od kvs=>exact .un h
def Io(sl:SL K)(n:Nat)(ix:List Nat):SL K:=replicate n .un++ix.map λj=>Om ((sl[j]?).getD .un)
theorem BP(a:At B sl F O H σ)(L:Hp)(n:Nat):∀(ix:List Nat),(∀j∈ix,j<sl.length)->ak B F L H (Io sl n ix) (iW σ n ix) []:=λix hix=>by
 unfold Io iW
 induction n with
 |zero =>
  show ak B F L H ([]++_) ([]++_) []
  rw[nil_append,nil_append]
  induction ix with
  |nil=>exact .nil
  |cons j ix ih =>
   rw[map_cons,map_cons]
   have hl:=hix j mem_cons_self
   have hj:sl[j]?=some sl[j]:=aad hl
   have z:=ak.one a L j hj (ih λk hk=>hix k (mem_cons_of_mem _ hk))
   rw[show(sl[j]?).getD .un=sl[j] by rw[hj]<;>rfl]
   exact z
 |succ n ih=>exact .un ih
inductive qy:SL K->SL K->Prop
 |nil:qy [] []
 |eq {s:Slot K} {a b:SL K}:qy a b->qy (s::a) (s::b)
 |un {s:Slot K} {a b:SL K}:qy a b->qy (s::a) (.un::b)
theorem ak.Y8(l:qy sl sl2):∀{σ:St},ak B F L H sl σ []->ak B F L H sl2 σ []:=by
 induction l with
 |nil=>intro σ h;exact h
 |eq _ ih =>
  intro σ h
  cases h with
  |un h=>exact .un (ih h)
  |fz r h=>exact .fz r (ih h)
  |hs r h=>exact .hs r (ih h)
  |nu r h=>exact .nu r (ih h)
 |un _ ih =>
  intro σ h
  cases h with
  |un h=>exact .un (ih h)
  |fz r h=>exact .un (ih h)
  |hs r h=>exact .un (ih h)
  |nu r h=>exact .un (ih h)
theorem yS{c:α->Option Bool}{f:α->Option β}{ix:List Nat}(hix:(ix.all λj=>decide (j<sl.length))=true)(hI:fu=Io sl no ix)(hi:Ei B sl n wi mi)(hg:Tg B fu n g Lx)(hc:∀x,Et B (Lx x) tc (c x))(he:∀x,Ex B (Lx x) md te (f x))(hle:∀x,qy (Lx x) fu) :
  Eo B sl md (Ln no ix wi g tc te) (mi.bind λxs=>yQ c f xs):=λzs hz F O H σ Q a k=>by
 cases mi with
 |none=>cases hz
 |some xs =>
  have hz:yQ c f xs=some zs:=hz
  unfold yQ at hz
  split at hz
  case isFalse=>cases hz
  rename_i hcap
  have hcl:=Ac hcap
  refine hi xs rfl F O H σ _ a λJ F' H' gr yl=>?_
  have a':=a.grow gr
  refine⟨λi m ys σ2 H2=>m=xs.length-i/\i<=xs.length/\∃(F2:Hp)(ws:List β),wF c f (xs.take i)=some ws/\bC B F' H' O F2 H2/\ak B F2 (lo F2 [] H2) H2 fu σ2 []/\A2 (rp K (reg B F2 H2 md)) ys ws,
   ⟨xs.length,rfl,aa0 _,F',[],rfl,.refl a'.1,?_,trivial⟩,?_⟩
  ·rw[hI]
   exact BP a' _ no ix λj hj=>by simpa using(all_eq_true.mp hix) j hj
  rintro i m ys σ2 H2 ⟨rfl,hil,F2,ws,hw,g2,s2,r2⟩
  have hyl:ys.length<=xs.length:=by
   rw[r2.len]
   exact aas (U7 c f hw) (by rw[length_take];omega)
  obtain⟨y1,y2⟩:=yl i F2 O H2 g2.ff g2.ok
  by_cases hlt:i<xs.length
  ·obtain⟨go,y3⟩:=y2 xs[i] (aad hlt)
   obtain⟨ws',hw'⟩:=zMq (i+1) hz
   refine .inr ⟨go,by omega,λys σ2 H2=>∃(F2:Hp),bC B F' H' O F2 H2/\ak B F2 (lo F2 [] H2) H2 fu σ2 []/\A2 (rp K (reg B F2 H2 md)) ys ws',λys' σ' H' ⟨F3,z1,z2,z3⟩=>⟨xs.length-(i+1),by omega,rfl,hlt,F3,ws',hw',z1,z2,z3⟩,λv H3 yd=>?_⟩
   obtain⟨F3,g3,r3⟩:=y3 v H3 yd
   have g23:=g2.trans g3
   have U8:At B fu F3 [] H3 σ2:=⟨g3.ok.nil,s2.mono g3.ff (Uu ⟨g3.ff,g3.hh,g3.ok.nil,g3.nw⟩) g3.hh⟩
   refine hg v xs[i] F3 [] H3 σ2 _ U8 r3 λσ4 a4=>?_
   have back:∀{F5 H5:Hp},bC B F3 H3 [] F5 H5->bC B F' H' O F5 H5/\ak B F5 (lo F5 [] H5) H5 fu σ4 []:=λ{F5 H5} g5=>⟨g23.trans (bC.lift g3.ok g5),(a4.grow g5).2.Y8 (hle xs[i])⟩
   rcases zMr hw' hw (aad hlt) with⟨e1,rfl⟩|⟨y,e1,e2,rfl⟩
   ·refine hc xs[i] false e1 F3 [] H3 σ4 _ a4 λF5 H5 g5=>lA ?_
    obtain⟨z1,z2⟩:=back g5
    exact⟨F5,z1,z2,r2.imp λ_ _=>Rp.mono (xH (g3.trans (bC.lift g3.ok g5)) md)⟩
   ·refine hc xs[i] true e1 F3 [] H3 σ4 _ a4 λF5 H5 g5=>jD ?_
    refine he xs[i] y e2 F5 [] H5 σ4 _ (a4.grow g5) λw F6 H6 g6 r6=>?_
    obtain⟨z1,z2⟩:=back (g5.trans g6)
    exact⟨F6,z1,z2,(r2.imp λ_ _=>Rp.mono (xH (g3.trans (bC.lift g3.ok (g5.trans g6))) md)).snoc r6⟩
  ·have e:i=xs.length:=by omega
   subst e
   rw[take_length,hz] at hw
   cases hw
   exact .inl ⟨y1 (aaf _),by omega,λp hp=>k p ys F2 H2 (gr.trans g2) hp r2⟩
abbrev isF:Slot K->Bool
 |@Slot.fz _ false _ _ _=>true
 |_=>false
theorem Y9{as:SL K}(k:Nat)(hf:as.all isF=true)(r:Ar F as vs):ak ⟨F,H⟩ F L' H (as++replicate k .un) (vs.map some++replicate k none) []:=by
 induction r with
 |nil =>
  show ak _ _ _ _ ([]++_) ([]++_) []
  rw[nil_append,nil_append]
  induction k with
  |zero=>exact .nil
  |succ k ih=>exact .un ih
 |@cons n _ _ _ _ _ _ r _ ih =>
  rw[all_cons,aag] at hf
  cases n with
  |false=>exact .fz r (ih hf.2)
  |true=>exact absurd hf.1 (by simp)
theorem Ar.len(r:Ar F as vs):vs.length=as.length:=by
 induction r with
 |nil=>rfl
 |cons _ _ ih=>rw[length_cons,length_cons,ih]
theorem zQs{A:Type}{as:A->SL K}{f:A->Option β}{N:List Str}(hf:∀a,(as a).all isF=true)(hl:∀a,(as a).length=np)(hb:∀Fa a,SB ⟨Fa,H⟩ (as a++replicate (N.length-np) .un) t al (f a))(h:cL K al as f vs H Q E):t { nx:=λ_ H'=>Q .non H',rt:=Q } (L2.start N vs) H:=by
 obtain⟨a,b,Fa,s,hfa,r,q⟩:=h
 have e:L2.start N vs=vs.map some++replicate (N.length-np) none:=by
  unfold L2.start
  rw[r.len,hl]
 rw[e]
 refine hb Fa a b hfa Fa _ _ H ⟨Fa,[],.refl _,⟨s,.refl _,λb o h=>.inl h,λx hx=>(by cases hx),(by simp)⟩,Y9 _ (hf a) r⟩ (λv H' z=>q v H' z.1 z.2)
theorem Y_{A:Type}{as:A->SL K}{f:A->Option β}(hl:∀a,(as a).length=np)(h:cL K al as f vs H Q E):vs.length=np:=by
 obtain⟨a,b,Fa,s,hfa,r,q⟩:=h
 rw[r.len,hl]
end
open PySem.SeqAt (EqAt RcAt RcNeAt)
class Eqv (K:PySem.W.Frag) (α:Type) [Rp K α] [DecidableEq α] where
 dep:Nat
 det:∀{H:Hp}{v:V}{a b:α},rp K H v a->rp K H v b->a=b
 v8:∀{X:Cx}{pins:List (Addr×Obj)}{σ:St}{H:Hp}{s:Shared},Inv X pins σ H s->∀{A:Around},A.units+dep<cLine->∀{v w:V}{u u':Value}{a b:α},rp K H v a->rp K H w b->RelV v u->RelV w u'->EqAt A s u u' (decide (a=b))
 Ip:∀{X:Cx}{pins:List (Addr×Obj)}{σ:St}{H:Hp}{s:Shared},Inv X pins σ H s->∀{A:Around},A.units+dep<cLine->∀{v w:V}{u u':Value}{a b:α},rp K H v a->rp K H w b->RelV v u->RelV w u'->RcAt A s u u' (decide (a=b))
 Ir:∀{X:Cx}{pins:List (Addr×Obj)}{σ:St}{H:Hp}{s:Shared},Inv X pins σ H s->∀{A:Around},A.units+dep<cLine->∀{v w:V}{u u':Value}{a b:α},rp K H v a->rp K H w b->RelV v u->RelV w u'->RcNeAt A s u u' (!decide (a=b))
section
variable{K:PySem.W.Frag}
theorem iz{α:Type}[BEq α][LawfulBEq α][DecidableEq α](a b:α):(a==b)=decide (a=b):=by
 by_cases h:a=b
 ·subst h;simp
 ·simp[h]
instance:Eqv K Int where
 dep:=0
 det h1 h2:=by cases h1;cases h2;rfl
 v8 _ _ _ _ _ _ _ _ _ h1 h2 r1 r2:=by cases h1;cases h2;obtain⟨t,rfl⟩:=r1;obtain⟨t',rfl⟩:=r2;rw[<-iz];exact EqAt.int_int _ _ _ _
 Ip _ _ _ _ _ _ _ _ _ h1 h2 r1 r2:=by cases h1;cases h2;obtain⟨t,rfl⟩:=r1;obtain⟨t',rfl⟩:=r2;rw[<-iz];exact RcAt.int_int _ _ _ _
 Ir _ _ _ _ _ _ _ _ _ h1 h2 r1 r2:=by cases h1;cases h2;obtain⟨t,rfl⟩:=r1;obtain⟨t',rfl⟩:=r2;rw[<-iz];exact RcNeAt.int_int _ _ _ _
instance:Eqv K Str where
 dep:=0
 det h1 h2:=by cases h1;cases h2;rfl
 v8 _ _ _ _ _ _ _ _ _ h1 h2 r1 r2:=by cases h1;cases h2;obtain⟨t,rfl⟩:=r1;obtain⟨t',rfl⟩:=r2;rw[<-iz];exact EqAt.str_str _ _ _ _
 Ip _ _ _ _ _ _ _ _ _ h1 h2 r1 r2:=by cases h1;cases h2;obtain⟨t,rfl⟩:=r1;obtain⟨t',rfl⟩:=r2;rw[<-iz];exact RcAt.str_str _ _ _ _
 Ir _ _ _ _ _ _ _ _ _ h1 h2 r1 r2:=by cases h1;cases h2;obtain⟨t,rfl⟩:=r1;obtain⟨t',rfl⟩:=r2;rw[<-iz];exact RcNeAt.str_str _ _ _ _
instance:Eqv K Bool where
 dep:=0
 det h1 h2:=by cases h1;cases h2;rfl
 v8 _ _ _ _ _ _ _ _ _ h1 h2 r1 r2:=by cases h1;cases h2;cases r1;cases r2;rw[<-iz];exact EqAt.bool_bool _ _
 Ip _ _ _ _ _ _ _ _ _ h1 h2 r1 r2:=by cases h1;cases h2;cases r1;cases r2;rw[<-iz];exact RcAt.bool_bool _ _
 Ir _ _ _ _ _ _ _ _ _ h1 h2 r1 r2:=by cases h1;cases h2;cases r1;cases r2;rw[<-iz];exact RcNeAt.bool_bool _ _
theorem U9{a b:Int}:decide (some a=some b)=decide (a=b):=by simp
instance:Eqv K (Option Int) where
 dep:=0
 det {H v a b} h1 h2:=by
  cases a with
  |none=>cases b with
   |none=>rfl
   |some y=>exact absurd h1 h2.1
  |some x=>cases b with
   |none=>exact absurd h2 h1.1
   |some y=>cases h1.2;cases h2.2;rfl
 v8 {X pins σ H s} _ {A} _ {v w u u' a b} h1 h2 r1 r2:=by
  cases a with
  |none =>
   cases h1;cases r1
   cases b with
   |none=>cases h2;cases r2;exact EqAt.same _
   |some y=>cases h2.2;obtain⟨t',rfl⟩:=r2;exact EqAt.none_int _ _
  |some x =>
   cases h1.2;obtain⟨t,rfl⟩:=r1
   cases b with
   |none=>cases h2;cases r2;exact EqAt.int_none _ _
   |some y=>cases h2.2;obtain⟨t',rfl⟩:=r2;rw[U9,<-iz];exact EqAt.int_int _ _ _ _
 Ip {X pins σ H s} _ {A} _ {v w u u' a b} h1 h2 r1 r2:=by
  cases a with
  |none =>
   cases h1;cases r1
   cases b with
   |none=>cases h2;cases r2;exact RcAt.none_none
   |some y=>cases h2.2;obtain⟨t',rfl⟩:=r2;exact RcAt.none_int _ _
  |some x =>
   cases h1.2;obtain⟨t,rfl⟩:=r1
   cases b with
   |none=>cases h2;cases r2;exact RcAt.int_none _ _
   |some y=>cases h2.2;obtain⟨t',rfl⟩:=r2;rw[U9,<-iz];exact RcAt.int_int _ _ _ _
 Ir {X pins σ H s} _ {A} _ {v w u u' a b} h1 h2 r1 r2:=by
  cases a with
  |none =>
   cases h1;cases r1
   cases b with
   |none=>cases h2;cases r2;exact RcNeAt.none_none
   |some y=>cases h2.2;obtain⟨t',rfl⟩:=r2;exact RcNeAt.none_int _ _
  |some x =>
   cases h1.2;obtain⟨t,rfl⟩:=r1
   cases b with
   |none=>cases h2;cases r2;exact RcNeAt.int_none _ _
   |some y=>cases h2.2;obtain⟨t',rfl⟩:=r2;rw[U9,<-iz];exact RcNeAt.int_int _ _ _ _
theorem A2.det{α β:Type}{R:α->β->Prop}(h:∀x y z,R x y->R x z->y=z):∀{xs:List α}{ys zs:List β},A2 R xs ys->A2 R xs zs->ys=zs
 |[],[],[],_,_=>rfl
 |_::_,_::_,_::_,h1,h2=>by rw[h _ _ _ h1.1 h2.1,A2.det h h1.2 h2.2]
 |[],_::_,_,h1,_=>h1.elim
 |[],[],_::_,_,h2=>h2.elim
 |_::_,[],_,h1,_=>h1.elim
 |_::_,_::_,[],_,h2=>h2.elim
theorem uU{α:Type}[DecidableEq α]:∀{xs ys:List α},xs.length=ys.length->((aar xs.length).all λj=>decide (xs[j]?=ys[j]?))=decide (xs=ys)
 |[],[],_=>by simp
 |x::xs,y::ys,h=>by
  have ih:=uU (xs:=xs) (ys:=ys) (by simpa using h)
  rw[length_cons,range_succ_eq_map,all_cons,List.all_map]
  have e:((λj=>decide ((x::xs)[j]?=(y::ys)[j]?))∘Nat.succ)=λj=>decide (xs[j]?=ys[j]?):=by
   funext j
   simp
  rw[e,ih]
  by_cases h1:x=y<;>by_cases h2:xs=ys<;>simp[h1,h2]
 |[],_::_,h=>by simp at h
 |_::_,[],h=>by simp at h
theorem Lw{α:Type}[Rp K α]{xs:List α}(r:Vals vs us)(h:A2 (rp K H) vs xs)(j:Nat)(hj:j<us.toArray.size):∃v x,xs[j]?=some x/\rp K H v x/\RelV v us.toArray[j]:=by
 have l1:j<vs.length:=by rw[r.length];simpa using hj
 obtain⟨u,hu,ru⟩:=r.get (aad l1)
 obtain⟨x,hx,rx⟩:=h.at1 (aad l1)
 refine⟨vs[j],x,hx,rx,?_⟩
 have e1:us.toArray[j]=u:=by
  have:us[j]?=some u:=hu
  rw[aad (by simpa using hj)] at this
  simpa using this
 rw[e1]
 exact ru
theorem Oo{A:Around}:A.in1.units=A.units+1:=rfl
instance{α:Type}[Rp K α][DecidableEq α][Eqv K α]:Eqv K (List α) where
 dep:=Eqv.dep K α+1
 det {H v a b} h1 h2:=by
  obtain⟨p,vs,rfl,h1,r1⟩:=h1
  obtain⟨p',vs',e,h2,r2⟩:=h2
  cases e
  cases h1.symm.trans h2
  exact A2.det (R:=rp K H) (λ_ _ _ z1 z2=>Eqv.det (K:=K) z1 z2) r1 r2
 Ip {X pins σ H s} I {A} hu {v w u u' a b} h1 h2 q1 q2:=by
  obtain⟨p,vs,rfl,h1,r1⟩:=h1
  obtain⟨p',ws,rfl,h2,r2⟩:=h2
  cases q1;cases q2
  obtain⟨us,s1,p1,_⟩:=I.list (bw.of h1)
  obtain⟨us',s2,p2,_⟩:=I.list (bw.of h2)
  have n1:us.toArray.size=a.length:=by rw[size_toArray,<-r1.len];exact s1.length.symm
  have n2:us'.toArray.size=b.length:=by rw[size_toArray,<-r2.len];exact s2.length.symm
  by_cases hl:a.length=b.length
  ·have z:=RcAt.lists (e:=λj=>decide (a[j]?=b[j]?)) p1.isList p2.isList (by rw[n1,n2];exact hl) (aan (abu _ _) hu) (λj h1 h2=>by
    obtain⟨v,x,e1,e2,e3⟩:=Lw s1 r1 j h1
    obtain⟨w,y,f1,f2,f3⟩:=Lw s2 r2 j h2
    rw[e1,f1]
    have z:=Eqv.v8 (K:=K) I (A:=A.in1) (by rw[Oo];omega) e2 f2 e3 f3
    simpa using z)
   rw[n1,uU hl] at z
   exact z
  ·rw[show decide (a=b)=false by simp;intro e;exact hl (by rw[e])]
   exact RcAt.lists_lengths p1.isList p2.isList (by rw[n1,n2];exact bne_iff_ne.mpr hl) (aan (abu _ _) hu)
 Ir {X pins σ H s} I {A} hu {v w u u' a b} h1 h2 q1 q2:=by
  obtain⟨p,vs,rfl,h1,r1⟩:=h1
  obtain⟨p',ws,rfl,h2,r2⟩:=h2
  cases q1;cases q2
  obtain⟨us,s1,p1,_⟩:=I.list (bw.of h1)
  obtain⟨us',s2,p2,_⟩:=I.list (bw.of h2)
  have n1:us.toArray.size=a.length:=by rw[size_toArray,<-r1.len];exact s1.length.symm
  have n2:us'.toArray.size=b.length:=by rw[size_toArray,<-r2.len];exact s2.length.symm
  by_cases hl:a.length=b.length
  ·have z:=RcNeAt.lists (e:=λj=>decide (a[j]?=b[j]?)) p1.isList p2.isList (by rw[n1,n2];exact hl) (aan (abu _ _) hu) (λj h1 h2=>by
    obtain⟨v,x,e1,e2,e3⟩:=Lw s1 r1 j h1
    obtain⟨w,y,f1,f2,f3⟩:=Lw s2 r2 j h2
    rw[e1,f1]
    have z:=Eqv.v8 (K:=K) I (A:=A.in1) (by rw[Oo];omega) e2 f2 e3 f3
    simpa using z)
   rw[n1,uU hl] at z
   exact z
  ·rw[show decide (a=b)=false by simp;intro e;exact hl (by rw[e])]
   exact RcNeAt.lists_lengths p1.isList p2.isList (by rw[n1,n2];exact bne_iff_ne.mpr hl) (aan (abu _ _) hu)
 v8 {X pins σ H s} I {A} hu {v w u u' a b} h1 h2 q1 q2:=by
  obtain⟨p,vs,rfl,h1,r1⟩:=h1
  obtain⟨p',ws,rfl,h2,r2⟩:=h2
  cases q1;cases q2
  by_cases hp:p=p'
  ·subst hp
   cases h1.symm.trans h2
   rw[show a=b from A2.det (R:=rp K H) (λ_ _ _ z1 z2=>Eqv.det (K:=K) z1 z2) r1 r2]
   simp
   exact EqAt.same _
  ·refine EqAt.of_refs hp ?_
   obtain⟨us,s1,p1,_⟩:=I.list (bw.of h1)
   obtain⟨us',s2,p2,_⟩:=I.list (bw.of h2)
   have n1:us.toArray.size=a.length:=by rw[size_toArray,<-r1.len];exact s1.length.symm
   have n2:us'.toArray.size=b.length:=by rw[size_toArray,<-r2.len];exact s2.length.symm
   by_cases hl:a.length=b.length
   ·have z:=RcAt.lists (e:=λj=>decide (a[j]?=b[j]?)) p1.isList p2.isList (by rw[n1,n2];exact hl) (aan (abu _ _) hu) (λj h1 h2=>by
     obtain⟨v,x,e1,e2,e3⟩:=Lw s1 r1 j h1
     obtain⟨w,y,f1,f2,f3⟩:=Lw s2 r2 j h2
     rw[e1,f1]
     have z:=Eqv.v8 (K:=K) I (A:=A.in1) (by rw[Oo];omega) e2 f2 e3 f3
     simpa using z)
    rw[n1,uU hl] at z
    exact z
   ·rw[show decide (a=b)=false by simp;intro e;exact hl (by rw[e])]
    exact RcAt.lists_lengths p1.isList p2.isList (by rw[n1,n2];exact bne_iff_ne.mpr hl) (aan (abu _ _) hu)
theorem zRf{α β:Type}[DecidableEq α][DecidableEq β](a b:α×β):((aar (min 2 2)).all (λj=>if j=0 then decide (a.1=b.1) else decide (a.2=b.2))&&((2:Nat)==2))=decide (a=b):=by
 obtain⟨a1,a2⟩:=a
 obtain⟨b1,b2⟩:=b
 by_cases h1:a1=b1<;>by_cases h2:a2=b2<;>simp[range_succ,h1,h2]
theorem vals2(h:Vals [v1,v2] us):∃u1 u2,us=[u1,u2]/\RelV v1 u1/\RelV v2 u2:=by
 cases h with
 |cons a1 h=>cases h with
  |cons a2 h=>cases h;exact⟨_,_,rfl,a1,a2⟩
section
variable{α β:Type}[Rp K α][DecidableEq α][Eqv K α][Rp K β][DecidableEq β][Eqv K β]{X:Cx}{pins:List (Addr×Obj)}{σ:St}{H:Hp}{s:Shared}{A:Around}{a b:α×β}{p p':Addr}{v1 v2 w1 w2:V}
theorem zLx(I:Inv X pins σ H s)(hu:A.units+(Eqv.dep K α+Eqv.dep K β+1)<cLine)(r1:rp K H v1 a.1)(r2:rp K H v2 a.2)(z1:rp K H w1 b.1)(z2:rp K H w2 b.2)(a1:RelV v1 u1)(a2:RelV v2 u2)(b1:RelV w1 t1)(b2:RelV w2 t2) :
  ∀(j:Nat)(h1:j < #[u1,u2].size)(h2:j < #[t1,t2].size),EqAt A.in1 s #[u1,u2][j] #[t1,t2][j] (if j=0 then decide (a.1=b.1) else decide (a.2=b.2)):=by
 intro j h1 h2
 have hj:j=0\/j=1:=by
  have:j<2:=h1
  omega
 rcases hj with rfl|rfl
 ·exact Eqv.v8 (K:=K) I (A:=A.in1) (by rw[Oo];omega) r1 z1 a1 b1
 ·exact Eqv.v8 (K:=K) I (A:=A.in1) (by rw[Oo];omega) r2 z2 a2 b2
theorem U_(I:Inv X pins σ H s)(hu:A.units+(Eqv.dep K α+Eqv.dep K β+1)<cLine)(h1:H p=some (.tup [v1,v2]))(h2:H p'=some (.tup [w1,w2]))(r1:rp K H v1 a.1)(r2:rp K H v2 a.2)(z1:rp K H w1 b.1)(z2:rp K H w2 b.2) :
  RcAt A s (.ref p) (.ref p') (decide (a=b))/\RcNeAt A s (.ref p) (.ref p') (!decide (a=b)):=by
 obtain⟨us,s1,p1,_⟩:=I.tuple (.inl (.inl h1))
 obtain⟨us',s2,p2,_⟩:=I.tuple (.inl (.inl h2))
 obtain⟨u1,u2,rfl,a1,a2⟩:=vals2 s1
 obtain⟨t1,t2,rfl,b1,b2⟩:=vals2 s2
 have he:=zLx (A:=A) I hu r1 r2 z1 z2 a1 a2 b1 b2
 have hu':A.units<cLine:=aan (abu _ _) hu
 have q1:=RcAt.tuples p1 p2 hu' he
 have q2:=RcNeAt.tuples p1 p2 hu' he
 rw[<-zRf]
 exact⟨q1,q2⟩
end
instance{α β:Type}[Rp K α][DecidableEq α][Eqv K α][Rp K β][DecidableEq β][Eqv K β]:Eqv K (α×β) where
 dep:=Eqv.dep K α+Eqv.dep K β+1
 det {H v a b} h1 h2:=by
  obtain⟨p,v1,v2,rfl,h1,r1,r2⟩:=h1
  obtain⟨p',w1,w2,e,h2,q1,q2⟩:=h2
  cases e
  cases h1.symm.trans h2
  exact Prod.ext (Eqv.det (K:=K) r1 q1) (Eqv.det (K:=K) r2 q2)
 Ip {X pins σ H s} I {A} hu {v w u u' a b} h1 h2 q1 q2:=by
  obtain⟨p,v1,v2,rfl,h1,r1,r2⟩:=h1
  obtain⟨p',w1,w2,rfl,h2,z1,z2⟩:=h2
  cases q1;cases q2
  exact(U_ I hu h1 h2 r1 r2 z1 z2).1
 Ir {X pins σ H s} I {A} hu {v w u u' a b} h1 h2 q1 q2:=by
  obtain⟨p,v1,v2,rfl,h1,r1,r2⟩:=h1
  obtain⟨p',w1,w2,rfl,h2,z1,z2⟩:=h2
  cases q1;cases q2
  exact(U_ I hu h1 h2 r1 r2 z1 z2).2
 v8 {X pins σ H s} I {A} hu {v w u u' a b} h1 h2 q1 q2:=by
  obtain⟨p,v1,v2,rfl,h1,r1,r2⟩:=h1
  obtain⟨p',w1,w2,rfl,h2,z1,z2⟩:=h2
  cases q1;cases q2
  by_cases hp:p=p'
  ·subst hp
   cases h1.symm.trans h2
   rw[show a=b from Prod.ext (Eqv.det (K:=K) r1 z1) (Eqv.det (K:=K) r2 z2)]
   simp
   exact EqAt.same _
  ·exact EqAt.of_refs hp (U_ I hu h1 h2 r1 r2 z1 z2).1
def BR(K:PySem.W.Frag)(α:Type)[Rp K α][DecidableEq α](neg:Bool):R2:=λx y H Q=>∃a b:α,rp K H x a/\rp K H y b/\Q (.bl (if neg=true then !decide (a=b) else decide (a=b))) H
theorem Ad(K:PySem.W.Frag)(α:Type)[Rp K α][DecidableEq α][Eqv K α]{X:Cx}(hr:bJ k X.A)(hd:Eqv.dep K α<=64:=by exact Nat.le_of_ble_eq_true rfl):kj X (compareOp .Eq) (BR K α false):=by
 intro pins s σ H x y v u Q I rx ry h
 obtain⟨a,b,h1,h2,q⟩:=h
 exact Eqv.Ip (K:=K) I (A:=X.A) (by have:=hr.units;omega) h1 h2 rx ry _ _ _ _ ⟨.bl (decide (a=b)),H,I,rfl,q⟩
theorem Za(K:PySem.W.Frag)(α:Type)[Rp K α][DecidableEq α][Eqv K α]{X:Cx}(hr:bJ k X.A)(hd:Eqv.dep K α<=64:=by exact Nat.le_of_ble_eq_true rfl):kj X (compareOp .NotEq) (BR K α true):=by
 intro pins s σ H x y v u Q I rx ry h
 obtain⟨a,b,h1,h2,q⟩:=h
 exact Eqv.Ir (K:=K) I (A:=X.A) (by have:=hr.units;omega) h1 h2 rx ry _ _ _ _ ⟨.bl (!decide (a=b)),H,I,rfl,q⟩
variable{B:Bs}{sl:SL K}{md YZ:Md}{α β:Type}[Rp K α][Rp K β]{t1 t2 t:TE}
theorem Ae[DecidableEq α]{m1 m2:Option α}(h1:Ex B sl .hp t1 m1)(h2:Ex B sl .hp t2 m2):Ex B sl md (mW (BR K α false) t1 t2) (m1.bind λa=>m2.bind λb=>some (decide (a=b))) :=
 Ab (f:=λa b=>some (decide (a=b))) (λa b c v w H Q e r1 r2 q=>by cases e;exact⟨a,b,r1,r2,q⟩) h1 h2
theorem Zb[DecidableEq α]{m1 m2:Option α}(h1:Ex B sl .hp t1 m1)(h2:Ex B sl .hp t2 m2):Ex B sl md (mW (BR K α true) t1 t2) (m1.bind λa=>m2.bind λb=>some (!decide (a=b))) :=
 Ab (f:=λa b=>some (!decide (a=b))) (λa b c v w H Q e r1 r2 q=>by cases e;exact⟨a,b,r1,r2,q⟩) h1 h2
section
variable{m1 m2:Option Int}
theorem Ry{g:Int->Int->V}{f:Int->Int->α}[Sc K α](hg:∀i j,g i j=Sc.val K (f i j))(h1:Ex B sl .hp t1 m1)(h2:Ex B sl .hp t2 m2):Ex B sl md (mW (rA g) t1 t2) (m1.bind λa=>m2.bind λb=>some (f a b)) :=
 Ab (f:=λa b=>some (f a b)) (λa b c v w H Q e r1 r2 q=>by cases e;cases r1;cases r2;exact⟨a,b,rfl,rfl,by rw[hg];exact q⟩) h1 h2
theorem RB(h1:Ex B sl .hp t1 m1)(h2:Ex B sl .hp t2 m2):Ex B sl md (mW (rA λi j=>.int (i+j)) t1 t2) (m1.bind λa=>m2.bind λb=>some (a+b)):=Ry (λ_ _=>rfl) h1 h2
theorem FJ(h1:Ex B sl .hp t1 m1)(h2:Ex B sl .hp t2 m2):Ex B sl md (mW (rA λi j=>.bl (decide (i<j))) t1 t2) (m1.bind λa=>m2.bind λb=>some (decide (a<b))):=Ry (λ_ _=>rfl) h1 h2
theorem FN(h1:Ex B sl .hp t1 m1)(h2:Ex B sl .hp t2 m2):Ex B sl md (mW (rA λi j=>.bl (decide (j<i))) t1 t2) (m1.bind λa=>m2.bind λb=>some (decide (b<a))):=Ry (λ_ _=>rfl) h1 h2
def gj(a b:Int):Option Int:=if 0<b then some (a%b) else none
def jm(a b:Int):Option Int:=if 0<b/\b<1073741824 then some (a/b) else none
theorem BW(h1:Ex B sl .hp t1 m1)(h2:Ex B sl .hp t2 m2):Ex B sl md (mW (rI (λ_ j=>0<j) λi j=>.int (i%j)) t1 t2) (m1.bind λa=>m2.bind λb=>gj a b) :=
 Ab (f:=gj) (λa b c v w H Q e r1 r2 q=>by
  unfold gj at e
  split at e
  case isFalse=>cases e
  rename_i hc
  cases e;cases r1;cases r2
  exact⟨a,b,rfl,rfl,hc,q⟩) h1 h2
theorem Ly(h1:Ex B sl .hp t1 m1)(h2:Ex B sl .hp t2 m2):Ex B sl md (mW (rI Nv λi j=>.int (i/j)) t1 t2) (m1.bind λa=>m2.bind λb=>jm a b) :=
 Ab (f:=jm) (λa b c v w H Q e r1 r2 q=>by
  unfold jm at e
  split at e
  case isFalse=>cases e
  rename_i hc
  cases e;cases r1;cases r2
  exact⟨a,b,rfl,rfl,hc,q⟩) h1 h2
end
theorem A2.bF(h:A2 R vs xs)(e:L2.bF xs i=some a):∃v,L2.bF vs i=some v/\R v a:=by
 unfold L2.bF at e ⊢
 rw[h.len]
 cases q:rB xs.length i with
 |none=>rw[q] at e;cases e
 |some j=>rw[q] at e;exact h.at2 e
theorem wA{m1:Option (List α)}{m2:Option Int}(h1:Ex B sl md t1 m1)(h2:Ex B sl .hp t2 m2):Ex B sl md (mW (Bo K) t1 t2) (m1.bind λxs=>m2.bind λi=>L2.bF xs i):=λc hc F O H σ Q s k=>by
 obtain⟨xs,i,e1,e2,e3⟩:=rZ hc
 refine h1 xs e1 F O H σ _ s λv F' H' g r1=>?_
 refine h2 i e2 F' O H' σ _ (s.grow g) λw F2 H2 g2 r2=>?_
 cases r2
 obtain⟨p,vs,rfl,z1,z2⟩:=r1
 obtain⟨u,y1,y2⟩:=z2.bF e3
 have hle:Same (reg B F' H' md) H2:=(match md with
  |.nw=>aV.trans g.ok.fh
  |.fz=>g.ok.fh
  |.hp=>.refl _:Same (reg B F' H' md) H').trans g2.hh
 exact⟨p,vs,i,u,rfl,rfl,bw.of (hle _ _ z1),y1,k u F2 H2 (g.trans g2) (Rp.mono (xH g2 md) y2)⟩
theorem Iu{n:Bool}{xs:List α}{m2:Option Int}(i:Nat)(hs:sl[i]?=some (.ow n xs))(h2:Ex B sl .hp t2 m2):Ex B sl (dX n) (mW (Bo K) (c7 i) t2) (m2.bind λi=>L2.bF xs i):=λc hc F O H σ Q s k=>by
 cases m2 with
 |none=>cases hc
 |some j =>
  have hc:L2.bF xs j=some c:=hc
  obtain⟨O1,O2,p,vs,rfl,y1,y2,_⟩:=s.2.nq hs
  refine⟨_,y1,?_⟩
  refine h2 j rfl F _ H σ _ s λw F2 H2 g2 r2=>?_
  cases r2
  obtain⟨u,z1,z2⟩:=y2.bF hc
  exact⟨p,vs,j,u,rfl,rfl,bw.of (g2.hh _ _ s.1.one.2.2),z1,k u F2 H2 g2 (Rp.mono (xH g2 (dX n)) z2)⟩
abbrev Iv(K:PySem.W.Frag):List V->Hp->VK->Prop:=λxs H Q=>∃p ys,xs=[.ref p]/\(bw K H p ys\/jV K H p ys)/\Q (.int ys.length) H
theorem tX{m:Option (List α)}(h:Ex B sl .hp t m):Ex B sl md (z_ (Iv K) (xG t cj)) (m.bind λxs=>some (xs.length:Int)):=λc hc F O H σ Q s k=>by
 cases m with
 |none=>cases hc
 |some xs =>
  cases(show some (xs.length:Int)=some c from hc)
  refine h xs rfl F O H σ _ s λv F' H' g r1=>?_
  obtain⟨p,vs,rfl,z1,z2⟩:=r1
  exact⟨p,vs,rfl,.inl (bw.of z1),k _ F' H' g (by show V.int vs.length=V.int xs.length;rw[z2.len])⟩
abbrev FQ(K:PySem.W.Frag):List V->Hp->VK->Prop:=λxs H Q=>∃p ys,xs=[V.ref p]/\(bw K H p ys\/jV K H p ys)/\∀l,H l=none->Q (.ref l) (upd H l (.lst ys))
theorem A2.sc{F F':Hp}[Sc K α]{vs:List V}{xs:List α}(h:A2 (rp K F) vs xs):A2 (rp K F') vs xs:=h.imp λ_ _=>Rq
theorem Iw[Sc K α]{m:Option (List α)}(h:Ex B sl .hp t m):Eo B sl md (z_ (FQ K) (xG t cj)) m:=λc hc F O H σ Q s k=>by
 refine h c hc F O H σ _ s λv F' H' g r1=>?_
 obtain⟨p,vs,rfl,z1,z2⟩:=r1
 exact⟨p,vs,rfl,.inl (bw.of z1),λl hl=>k l vs F' H' g hl z2.sc⟩
class Fl (K:PySem.W.Frag) (α:Type) [Rp K α] [Sc K α] [DecidableEq α]:Prop where
 flat:∀a:α,Aa (Sc.val K a)=true
 eq:∀a b:α,Bq (Sc.val K a) (Sc.val K b)=decide (a=b)
instance:Fl K Int:=⟨λ_=>rfl,λa b=>by show(a==b)=_;exact iz a b⟩
instance:Fl K Str:=⟨λ_=>rfl,λa b=>by show(a==b)=_;exact iz a b⟩
instance:Fl K Bool:=⟨λ_=>rfl,λa b=>by show(a==b)=_;exact iz a b⟩
instance:Fl K (Option Int):=⟨λa=>by cases a<;>rfl,λa b=>by
 cases a with
 |none=>cases b with
  |none=>rfl
  |some y=>rfl
 |some x=>cases b with
  |none=>rfl
  |some y=>show(x==y)=_;rw[iz];simp⟩
theorem A2.vals[Sc K α]:∀{vs:List V}{xs:List α},A2 (rp K F) vs xs->vs=xs.map (Sc.val K)
 |[],[],_=>rfl
 |_::_,_::_,h=>by rw[map_cons,Sc.is.mp h.1,A2.vals h.2]
 |[],_::_,h=>h.elim
 |_::_,[],h=>h.elim
theorem RD[Sc K α][DecidableEq α][Fl K α](a:α):∀xs:List α,inV (Sc.val K a) (xs.map (Sc.val K))=decide (a∈xs)
 |[]=>by simp[inV]
 |x::xs=>by
  have ih:=RD a xs
  unfold inV at ih ⊢
  rw[map_cons,any_cons,ih,Fl.eq]
  by_cases h1:x=a
  ·subst h1;simp
  ·by_cases h2:a∈xs<;>simp[h1,h2,ab8 h1]
theorem Va[Sc K α][DecidableEq α][Fl K α](xs:List α):(xs.map (Sc.val K)).all Aa=true:=by
 rw[List.all_map,all_eq_true]
 intro x _
 exact Fl.flat x
theorem Iz[Sc K α][DecidableEq α][Fl K α]{m1:Option α}{m2:Option (List α)}(h1:Ex B sl .hp t1 m1)(h2:Ex B sl .hp t2 m2):Ex B sl md (mW (HX K false) t1 t2) (m1.bind λa=>m2.bind λxs=>some (decide (a∈xs))) :=
 Ab (f:=λa xs=>some (decide (a∈xs))) (λa b c v w H Q e r1 r2 q=>by
  cases e
  obtain⟨p,vs,rfl,z1,z2⟩:=r2
  have ev:=Sc.is.mp r1
  have es:=z2.vals
  subst ev es
  refine⟨p,_,rfl,.inl (bw.of z1),Fl.flat a,Va b,?_⟩
  have:=RD (K:=K) a b
  simp only[aap,if_false]
  rw[this]
  exact q) h1 h2
theorem Zc[Sc K α][DecidableEq α][Fl K α]{m1:Option α}{m2:Option (List α)}(h1:Ex B sl .hp t1 m1)(h2:Ex B sl .hp t2 m2):Ex B sl md (mW (HX K true) t1 t2) (m1.bind λa=>m2.bind λxs=>some (!decide (a∈xs))) :=
 Ab (f:=λa xs=>some (!decide (a∈xs))) (λa b c v w H Q e r1 r2 q=>by
  cases e
  obtain⟨p,vs,rfl,z1,z2⟩:=r2
  have ev:=Sc.is.mp r1
  have es:=z2.vals
  subst ev es
  refine⟨p,_,rfl,.inl (bw.of z1),Fl.flat a,Va b,?_⟩
  have:=RD (K:=K) a b
  simp only[if_true]
  rw[this]
  exact q) h1 h2
theorem RG{m:Option (Option α)}(h:Ex B sl .hp t m):Ex B sl md (Nf t) (m.bind λa=>some a.isNone):=λc hc F O H σ Q s k=>by
 cases m with
 |none=>cases hc
 |some a =>
  cases(show some a.isNone=some c from hc)
  refine h a rfl F O H σ _ s λv F' H' g r1=>?_
  cases a with
  |none=>cases r1;exact k _ F' H' g rfl
  |some x=>rw[decide_eq_false r1.1];exact k _ F' H' g rfl
theorem BX{m:Option (Option α)}(h:Ex B sl .hp t m):Ex B sl md (Es t) (m.bind λa=>some a.isSome):=λc hc F O H σ Q s k=>by
 cases m with
 |none=>cases hc
 |some a =>
  cases(show some a.isSome=some c from hc)
  refine h a rfl F O H σ _ s λv F' H' g r1=>?_
  cases a with
  |none=>cases r1;exact k _ F' H' g rfl
  |some x=>rw[decide_eq_false r1.1];exact k _ F' H' g rfl
theorem Vb{m:Option (Option α)}(h:Ex B sl md t m):Ex B sl md t (m.bind λa=>a):=λc hc F O H σ Q s k=>by
 cases m with
 |none=>cases hc
 |some a =>
  cases a with
  |none=>cases hc
  |some x =>
   have e:x=c:=aai hc
   subst e
   exact h (some x) rfl F O H σ _ s λv F' H' g r1=>k v F' H' g r1.2
class Ty (K:PySem.W.Frag) (α:Type) [Rp K α] where
 ty:Value
 is:∀{H:Hp}{v:V}{a:α},rp K H v a->jk K H v ty
instance:Ty K Int:=⟨.type "int",λh=>by cases h;exact .int _⟩
instance:Ty K Bool:=⟨.type "bool",λh=>by cases h;exact .bl _⟩
instance:Ty K Str:=⟨.type "str",λh=>by cases h;exact .str _⟩
instance:Ty K (List α):=⟨.type "list",λ⟨p,vs,e,h,_⟩=>by rw[e];exact .lst h⟩
instance:Ty K (α×β):=⟨.type "tuple",λ⟨p,_,_,e,h,_⟩=>by rw[e];exact .tup h⟩
theorem Lz[Ty K α]{c:Value}{y:V}{b:Bool}{m:Option α}(hb:kitOne K (Ty.ty K α) c=some b)(hy:RelV y c)(h:Ex B sl .hp t m):Ex B sl md (z_ (Bv K c) (xG t (xG (tC y) cj))) (m.bind λ_=>some b):=λd hd F O H σ Q s k=>by
 cases m with
 |none=>cases hd
 |some a =>
  cases(show some b=some d from hd)
  refine h a rfl F O H σ _ s λv F' H' g r1=>?_
  exact⟨v,y,_,b,rfl,hy,Ty.is r1,hb,k _ F' H' g rfl⟩
end
def src(xss:List LI)(j:Nat):LI:=((aar xss.length).filter λk=>decide ((j:Int)∈xss.getD k [])).map acr
theorem iQ{α:Type}{p q:α->Bool}:∀{l:List α},(∀x∈l,p x=q x)->l.filter p=l.filter q
 |[],_=>rfl
 |a::l,h=>by
  rw[filter_cons,filter_cons,h a mem_cons_self,iQ λx hx=>h x (mem_cons_of_mem _ hx)]
theorem zQr(xss:List LI)(xs:LI)(j:Nat):src (xss++[xs]) j=src xss j++(if(j:Int)∈xs then[(xss.length:Int)] else[]):=by
 unfold src
 rw[length_append,length_singleton,range_succ,List.filter_append,map_append]
 congr 1
 ·congr 1
  refine iQ λk hk=>?_
  have hk':k<xss.length:=mem_range.mp hk
  rw[getD_eq_getElem?_getD,getD_eq_getElem?_getD,getElem?_append_left hk']
 ·rw[filter_cons,List.filter_nil,getD_eq_getElem?_getD,getElem?_append_right (aaf _),Nat.sub_self]
  by_cases h:(j:Int)∈xs
  ·simp[h]
  ·simp[h]
theorem zQq{xss:List LI}{i:Nat}{xs:LI}(h:xss[i]?=some xs)(j:Nat):src (xss.take (i+1)) j=src (xss.take i) j++(if(j:Int)∈xs then[(i:Int)] else[]):=by
 have hi:i<xss.length:=(aao.mp h).1
 rw[take_add_one,h]
 have e:(some xs:Option LI).toList=[xs]:=rfl
 rw[e,zQr,length_take,Nat.min_eq_left (ab4 hi)]
theorem BZ(xss:List LI)(j:Nat):(src xss j).length<=xss.length:=by
 unfold src
 rw[length_map]
 exact aas (length_filter_le _ _) (by rw[length_range];exact aaf _)
theorem int_at{ns:LI}{i:Nat}{y:V}(h:(ns.map V.int)[i]?=some y):∃z,y=.int z/\ns[i]?=some z:=by
 rw[getElem?_map] at h
 cases e:ns[i]? with
 |none=>rw[e] at h;cases h
 |some z=>rw[e] at h;exact⟨z,(aai h).symm,rfl⟩
theorem IK{bs:List Addr}{i:Nat}{y:V}(h:(bs.map V.ref)[i]?=some y):∃b,y=.ref b/\bs[i]?=some b:=by
 rw[getElem?_map] at h
 cases e:bs[i]? with
 |none=>rw[e] at h;cases h
 |some z=>rw[e] at h;exact⟨z,(aai h).symm,rfl⟩
theorem B_{bs:List Addr}{i:Nat}{b:Addr}(h:bs[i]?=some b):(bs.map V.ref)[i]?=some (.ref b):=by rw[getElem?_map,h]<;>rfl
theorem yT{α:Type}{xs:List α}{x:α}(h:xs[i]?=some x):i<xs.length:=(aao.mp h).1
theorem zOx{i:Nat}(h:i<1920):((i:Int)).natAbs.log2<1920:=by
 rw[Int.natAbs_natCast]
 exact aan (Nat.log2_le_self i) h
theorem Zd{ns:LI}(nd:ns.Nodup)(h:ns[i]?=some z):¬z∈ns.take i:=λhz=>by
 obtain⟨j,hj⟩:=mem_iff_getElem?.mp hz
 have hji:j<i:=by
  have:=yT hj
  rw[length_take] at this
  omega
 rw[getElem?_take_of_lt hji] at hj
 have hi:=yT h
 have hjl:=yT hj
 rw[aad hi] at h
 rw[aad hjl] at hj
 have e:ns[j]=ns[i]:=(aai hj).trans (aai h).symm
 have:=(getElem_inj nd).mp e
 omega
theorem vY{α:Type}{ns:List α}{z x:α}(h:ns[i]?=some z):x∈ns.take (i+1)↔x∈ns.take i\/x=z:=by
 rw[take_add_one,h]
 simp
def pQ(K:PySem.W.Frag)(H:Hp)(bs:List Addr)(xss:List LI):Prop:=bs.length=xss.length/\∀(i:Nat)(b:Addr),bs[i]?=some b->∃xs:LI,xss[i]?=some xs/\bw K H b (xs.map V.int)
theorem pQ.same(r:pQ K H bs xss)(s:Same H H'):pQ K H' bs xss:=⟨r.1,λi b h=>let⟨xs,h1,h2⟩:=r.2 i b h;⟨xs,h1,s.seq h2⟩⟩
def RJ(n:Nat)(xss:List LI):Prop:=xss.length=n/\∀xs∈xss,xs≠[]/\xs.Nodup/\xs.length<=100/\∀z∈xs,0<=z/\z<(n:Int)
def pR(H:Hp)(cs:List Addr)(row:Nat->LI):Prop:=∀(j:Nat)(c:Addr),cs[j]?=some c->H c=some (.lst ((row j).map V.int))
structure Bl(K:PySem.W.Frag)(mg:Str->Option Value):Prop where
 len:mg "len" = none
 range:mg "range" = none
 nD:mg "isinstance" = none
 int:mg "int" = none
 bool:mg "bool" = none
 list:mg "list" = none
 enum:mg "enumerate" = none
 ii:kitOne K (.type "int") (.type "int")=some true
 ib:kitOne K (.type "int") (.type "bool")=some false
 ll:kitOne K (.type "list") (.type "list")=some true
theorem Oq:kitOne K (.type "int") (.type "int")=some true:=rfl
theorem Ot:kitOne K (.type "list") (.type "list")=some true:=rfl
theorem Ou:kitOne K (.type "int") (.type "bool")=some false:=by
 first|rfl|(unfold kitOne kitCls;decide +kernel)
theorem vA:bootBuiltins "isinstance" = some (.builtin "isinstance"):=by decide +kernel
theorem Ze:bootBuiltins "int" = some (.type "int"):=by decide +kernel
theorem Zf:bootBuiltins "bool" = some (.type "bool"):=by decide +kernel
theorem FT:bootBuiltins "list" = some (.type "list"):=by decide +kernel
structure News(H H':Hp)(cs:List Addr)(xss:List (List V)):Prop where
 len:cs.length=xss.length
 at_:∀(i:Nat)(c:Addr),cs[i]?=some c->∃xs,xss[i]?=some xs/\H' c=some (.lst xs)
 new:∀c∈cs,H c=none
 nd:cs.Nodup
theorem News.nil:News H H' [] []:=⟨rfl,λi c h=>(by simp at h),λc h=>(by cases h),List.nodup_nil⟩
theorem News.snoc(n:News H H1 cs xss)(s:Same H H1)(h:H1 l=none):News H (upd H1 l (.lst xs)) (cs++[l]) (xss++[xs]):=by
 have hl:∀c∈cs,c≠l:=λc hc e=>by
  obtain⟨i,hi⟩:=mem_iff_getElem?.mp hc
  obtain⟨ys,_,q⟩:=n.at_ i c hi
  rw[e,h] at q
  cases q
 refine⟨by rw[length_append,length_append,n.len]<;>rfl,λi c hc=>?_,λc hc=>?_,?_⟩
 ·by_cases hi:i<cs.length
  ·rw[getElem?_append_left hi] at hc
   obtain⟨ys,h1,h2⟩:=n.at_ i c hc
   refine⟨ys,?_,?_⟩
   ·rw[getElem?_append_left (by rw[<-n.len];exact hi)];exact h1
   ·rw[zO (hl c (mem_of_getElem? hc))];exact h2
  ·rw[getElem?_append_right (by omega)] at hc
   have hi2:i-cs.length=0:=by
    have:=yT hc
    simp at this
    omega
   rw[hi2] at hc
   have e:l=c:=aai hc
   subst e
   refine⟨xs,?_,zM⟩
   rw[getElem?_append_right (by rw[<-n.len];omega),<-n.len,hi2]<;>rfl
 ·rcases mem_append.mp hc with hc|hc
  ·exact n.new c hc
  ·rw[mem_singleton.mp hc];exact s.free h
 ·rw[nodup_append]
  refine⟨n.nd,by simp,λa ha b hb e=>?_⟩
  rw[mem_singleton.mp hb] at e
  exact hl a ha e
theorem News.Ov(n:News H H' cs xss)(h:H' r=none):r∉cs:=λhc=>by
 obtain⟨i,hi⟩:=mem_iff_getElem?.mp hc
 obtain⟨ys,_,q⟩:=n.at_ i r hi
 rw[h] at q
 cases q
structure aG(C:Addr) where
 steps:List LI
 marks:List (Str×LI)
 fair:List LI
 sources:List LI
def Vc:List Str:=["many","next_of","before","marked","fair_at","names_at"]
def srcs(xss:List LI):List LI:=(aar xss.length).map (src xss)
def hid(H:Hp)(p:Addr):Hp:=λb=>if b=p then none else H b
section
variable{K:PySem.W.Frag}{C:Addr}
instance:Rp K (aG C):=⟨λF v m=>∃p dx fs vS vM vF vB,v=.ref p/\F p=some (.ins C dx fs)/\fs.lookup ("steps":Str)=some vS/\rp K F vS m.steps/\fs.lookup ("marks":Str)=some vM/\rp K F vM m.marks/\fs.lookup ("fair":Str)=some vF/\rp K F vF m.fair /\
 fs.lookup ("sources":Str)=some vB/\rp K F vB m.sources/\∀g∈Vc,fs.lookup g=none,
 λs ⟨p,dx,fs,vS,vM,vF,vB,h1,h2,h3,h4,h5,h6,h7,h8,h9,h10,h11⟩=>⟨p,dx,fs,vS,vM,vF,vB,h1,s _ _ h2,h3,Rp.mono s h4,h5,Rp.mono s h6,h7,Rp.mono s h8,h9,Rp.mono s h10,h11⟩⟩
instance:Nn K (aG C):=⟨λ⟨_,_,_,_,_,_,_,h,_⟩=>by rw[h];intro e;cases e⟩
theorem IV(ns:LI):A2 (rp K F) (ns.map V.int) ns:=A2.of_map (R:=rp K F) (f:=V.int) (λ_=>rfl) ns
theorem Zg:∀{cs:List Addr}{xss:List LI},cs.length=xss.length->(∀(i:Nat)(c:Addr),cs[i]?=some c->∃xs,xss[i]?=some xs/\F c=some (.lst (xs.map V.int)))->A2 (rp K F) (cs.map V.ref) xss
 |[],[],_,_=>trivial
 |c::cs,xs::xss,hl,h=>by
  obtain⟨ys,e1,e2⟩:=h 0 c rfl
  cases e1
  exact⟨⟨c,_,rfl,e2,IV _⟩,Zg (by simpa using hl) λi c' hc=>h (i+1) c' hc⟩
 |[],_::_,hl,_=>by simp at hl
 |_::_,[],hl,_=>by simp at hl
theorem Zh{xss:List LI}(h:i<xss.length):(srcs xss)[i]?=some (src xss i):=by
 unfold srcs
 rw[getElem?_map,getElem?_range h]
 rfl
theorem Ca{cs:List Addr}{xss:List LI}(hl:cs.length=xss.length)(n:pR H' cs (src xss))(h:∀c∈cs,∀o,H' c=some o->D c=some o):A2 (rp K D) (cs.map V.ref) (srcs xss):=by
 refine Zg (by rw[hl];unfold srcs;simp) λi c hc=>?_
 have hi:=yT hc
 exact⟨_,Zh (by omega),h c (mem_of_getElem? hc) _ (n i c hc)⟩
end
section
variable{K:PySem.W.Frag}{B:Bs}{F H F' H' G:Hp}{O:Own}{sl:SL K}{σ:St}{md:Md}{α β:Type}[Rp K α][Rp K β]{te ta:TE}{C:Addr}
theorem RK{pr:aG C->α}(cl:Cls K C)(na:aX K C f)(hp:∀(R:Hp) (v:V) (x:aG C),rp K R v x->∃p dx fs w,v=.ref p/\R p=some (.ins C dx fs)/\fs.lookup f=some w/\rp K R w (pr x))(h:Ex B sl md ta m) :
  Ex B sl md (oE K ta f) (m.bind λx=>some (pr x)):=λc hc F O H σ Q s k=>by
 cases m with
 |none=>cases hc
 |some x =>
  cases(show some (pr x)=some c from hc)
  refine h x rfl F O H σ _ s λv F' H' g r=>?_
  obtain⟨p,dx,fs,w,rfl,h1,h2,h3⟩:=hp _ v x r
  have hle:Same (reg B F' H' md) H':=match md with
   |.nw=>aV.trans g.ok.fh
   |.fz=>g.ok.fh
   |.hp=>.refl _
  exact⟨p,C,dx,fs,w,rfl,hle _ _ h1,cl,na,h2,k w F' H' g h3⟩
theorem Zi{m:Option (aG C)}(cl:Cls K C)(na:aX K C "steps")(h:Ex B sl md ta m):Ex B sl md (oE K ta "steps") (m.bind λx=>some x.steps) :=
 RK cl na (λR v x ⟨p,dx,fs,vS,vM,vF,vB,h1,h2,h3,h4,_⟩=>⟨p,dx,fs,vS,h1,h2,h3,h4⟩) h
theorem zPe{m:Option (aG C)}(cl:Cls K C)(na:aX K C "marks")(h:Ex B sl md ta m):Ex B sl md (oE K ta "marks") (m.bind λx=>some x.marks) :=
 RK cl na (λR v x ⟨p,dx,fs,vS,vM,vF,vB,h1,h2,_,_,h5,h6,_⟩=>⟨p,dx,fs,vM,h1,h2,h5,h6⟩) h
theorem Zj{m:Option (aG C)}(cl:Cls K C)(na:aX K C "fair")(h:Ex B sl md ta m):Ex B sl md (oE K ta "fair") (m.bind λx=>some x.fair) :=
 RK cl na (λR v x ⟨p,dx,fs,vS,vM,vF,vB,h1,h2,_,_,_,_,h7,h8,_⟩=>⟨p,dx,fs,vF,h1,h2,h7,h8⟩) h
theorem zJj{m:Option (aG C)}(cl:Cls K C)(na:aX K C "sources")(h:Ex B sl md ta m):Ex B sl md (oE K ta "sources") (m.bind λx=>some x.sources) :=
 RK cl na (λR v x ⟨p,dx,fs,vS,vM,vF,vB,h1,h2,_,_,_,_,_,_,h9,h10,_⟩=>⟨p,dx,fs,vB,h1,h2,h9,h10⟩) h
theorem Cd{A:Type}{as:A->SL K}{f:aG C×A->Option β}{ma:Option A}(hg:g∈Vc)(h0:Ex B sl .hp ta mm)(h:Ea B sl .hp t as ma) :
  Ex B sl md (NK C g (cL K false (λx:aG C×A=>.fz false x.1::as x.2) f) [] E0 ta t) (mm.bind λx=>ma.bind λa=>f (x,a)):=λc hc F O H σ Q s kk=>by
 cases mm with
 |none=>cases hc
 |some x =>
  cases ma with
  |none=>cases hc
  |some a =>
   have hc:f (x,a)=some c:=hc
   refine h0 x rfl F O H σ _ s λv F1 H1 g1 r1=>?_
   obtain⟨p,dx,fs,vS,vM,vF,vB,rfl,h2,h3,h4,h5,h6,h7,h8,h9,h10,h11⟩:=id r1
   refine⟨p,dx,fs,rfl,h2,h11 g hg,?_⟩
   refine h a rfl F1 O H1 σ _ (s.grow g1) λvs F' H' g2 r=>?_
   rw[append_nil]
   refine⟨(x,a),c,H',.refl _,hc,.cons (Rp.mono g2.hh r1) r,λv H2 s2 r2=>?_⟩
   have g3:=g2.ok.called s2
   refine kk v _ H2 (g1.trans (g2.trans g3)) ?_
   have r3:=Rp.mono (Lq (F:=F') g2.ok.h0 s2) r2
   exact match md with
   |.nw=>r3
   |.fz=>Rp.mono aV r3
   |.hp=>Rp.mono (aV.trans g3.ok.fh) r3
def En(B:Bs)(sl:SL K)(t:TE){α:Type}[Rp K α](m:Option α):Prop :=
 ∀a,m=some a->∀(F:Hp)(O:Own)(H:Hp)(σ:St)(Q:VK),At B sl F O H σ->(∀(v:V)(F' H1 H2:Hp),bC B F H O F' H1->Same H1 H2->rp K (dif H2 H1) v a->Q v H2)->t σ H Q
theorem En.ex{m:Option α}(h:En B sl te m):Ex B sl md te m:=λc hc F O H σ Q s kk=>h c hc F O H σ Q s λv F' H1 H2 g s2 r2=>by
 have g2:=g.ok.called s2
 refine kk v _ H2 (g.trans g2) ?_
 have r3:=Rp.mono (Lq (F:=F') g.ok.h0 s2) r2
 exact match md with
 |.nw=>r3
 |.fz=>Rp.mono aV r3
 |.hp=>Rp.mono (aV.trans g2.ok.fh) r3
structure Ow where
 n:Unit
instance:Rp K Ow:=⟨λF v _=>∃p vs,v=.ref p/\F p=some (.lst vs),λs ⟨p,vs,h1,h2⟩=>⟨p,vs,h1,s _ _ h2⟩⟩
class IsL (K:PySem.W.Frag) (α:Type) [Rp K α]:Prop where
 il:∀{F:Hp}{v:V}{a:α},rp K F v a->∃p vs,v=.ref p/\F p=some (.lst vs)
instance:IsL K (List α):=⟨λ⟨p,vs,h1,h2,_⟩=>⟨p,vs,h1,h2⟩⟩
instance:IsL K Ow:=⟨λh=>h⟩
instance(n:Nat)(xss:List LI):Decidable (RJ n xss):=by unfold RJ;infer_instance
theorem Zk{s:Slot K}(i:Nat)(hs:sl[i]?=some (.fz n x))(h:Ex B sl .hp te m):Sn B sl (Nr i te (QT f)) (λa=>sl.set i (.fz true a)) (m.bind λy=>some (f x y)):=λa ha G D σ H s k=>by
 cases m with
 |none=>cases ha
 |some y =>
  cases(show some (f x y)=some a from ha)
  obtain⟨F,O,g,z⟩:=s
  obtain⟨v,h1,h2⟩:=z.2.pP hs
  have h2:v=.int x:=Sc.is.mp h2
  subst h2
  refine⟨_,h1,h y rfl F O H σ _ z λw F' H' gr r=>?_⟩
  cases r
  exact⟨x,y,rfl,rfl,k _ _ (Sg.set (n:=true) (a:=f x y) (g.trans gr.ff) (z.grow gr) hs rfl rfl)⟩
end
section
variable{K:PySem.W.Frag}{X:Cx}
theorem FW(K:PySem.W.Frag)(h:X.K=K:=by rfl):kj X (compareOp .In) (HX K false):=by subst h;exact zOd
theorem Zm(K:PySem.W.Frag)(h:X.K=K:=by rfl):kj X (compareOp .NotIn) (HX K true):=by subst h;exact zHl
theorem bK(K:PySem.W.Frag)(h:X.K=K:=by rfl):T_ X (Bo K):=by subst h;exact Ys
theorem su(K:PySem.W.Frag)(h:X.K=K:=by rfl):rR X (.builtin "len") (Iv K):=by subst h;exact zH9
theorem IW(K:PySem.W.Frag)(h:X.K=K:=by rfl):rR X (.type "list") (FQ K):=by subst h;exact zH8
theorem wZ(K:PySem.W.Frag)(hc:∀y u,RelV y c->RelV y u->u=c)(h:X.K=K:=by rfl):rR X (.builtin "isinstance") (Bv K c):=by subst h;exact zSi hc
theorem FZ(K:PySem.W.Frag)(he:PE X e ta)(h:X.K=K:=by rfl)(hb:attributeBase e f X.env (eval e X.env)=eval e X.env:=by rfl):PE X (.Attribute e f pos) (oE K ta f):=by subst h;exact X5 he hb
theorem yD(K:PySem.W.Frag)(hl:PE X l tl)(h:X.K=K:=by rfl):PI X tg l (uw K tl):=by subst h;exact Tz hl
theorem Vd(K:PySem.W.Frag)(hm:X.mg "enumerate" = none)(ha:PA X [a] ta)(h:X.K=K:=by rfl)(hg:Gl X "enumerate":=by rfl)(hs:starEach [a] X.env=[(false,eval a X.env)]:=by rfl) :
  PI X (.Tuple elts k tp) (.Call (.Name "enumerate" p) [a] [] pos) (vo K ta):=by subst h;exact YQ hg hm ha hs
theorem sy(K:PySem.W.Frag){o e:Expr}{es:List Expr}{to:TE}{t:TA}{name:Str}{apos cpos:Pos}{T id:String}{r:V->List V->Hp->VK->Prop}(pa:PlainAttrs T)(slot:PySem.Slot T name id)(hty:typeOf (.builtin id)=pure (.type "method_descriptor"))(hm:N7 X id r)(ho:PE X o to)(ha:PA X (e::es) t)(h:X.K=K:=by rfl)(hbase:attributeBase o name X.env (eval o X.env)=eval o X.env:=by rfl)(hfew:((backTo cpos (starEach (e::es) X.env)).all (λx=>!x.1)&&(backToKw cpos (keywordEach [] X.env)).all (λx=>x.1.isSome)
   && decide ((e::es).length+([]:List Keyword).length+(if([]:List Keyword).isEmpty then 0 else 1)<30))=true:=by rfl)(hline:(apos.endLine==cpos.line)=true:=by rfl)(hs:starEach (e::es) X.env=(false,eval e X.env)::starEach es X.env:=by rfl)(hplain:(backTo cpos (starEach es X.env)).any (·.1)=false:=by rfl) :
  PE X (.Call (.Attribute o name apos) (e::es) [] cpos) (Lk K T r to t):=by subst h;exact Ft pa slot hty hm ho ha hbase hfew hline hs hplain
theorem I8(K:PySem.W.Frag){o:Expr}{to:TE}{name:Str}{apos cpos:Pos}{T id:String}{r:V->List V->Hp->VK->Prop}(pa:PlainAttrs T)(slot:PySem.Slot T name id)(hty:typeOf (.builtin id)=pure (.type "method_descriptor"))(hm:N7 X id r)(ho:PE X o to)(h:X.K=K:=by rfl)(hbase:attributeBase o name X.env (eval o X.env)=eval o X.env:=by rfl)(hline:(apos.endLine==cpos.line)=true:=by rfl):PE X (.Call (.Attribute o name apos) [] [] cpos) (HY K T r to):=by subst h;exact H_ pa slot hty hm ho hbase hline
theorem I9:bootBuiltins "any" = some (.builtin "any"):=by decide +kernel
theorem I_:bootBuiltins "all" = some (.builtin "all"):=by decide +kernel
theorem Ve:bootBuiltins "sorted" = some (.builtin "sorted"):=by decide +kernel
theorem uK:Et B sl vm (some true):=λa ha F O H σ Q s k=>by cases ha;exact k F H (.refl s.1)
theorem Ce{α:Type}:∀c:List α,some []=some c->c.length<=0:=λc h=>by cases h;exact aaf _
theorem Vf{α:Type}{m:Option α}{ma:Option (List α)}(h:∀b,ma=some b->b.length<=n):∀c,(m.bind λa=>ma.bind λb=>some (a::b))=some c->c.length<=n+1:=λc e=>by
 cases m with
 |none=>cases e
 |some a =>
  cases ma with
  |none=>cases e
  |some b=>cases e;exact abj (h b rfl)
theorem bnd{α β:Type}(a:α)(f:α->Option β):(some a).bind f=f a:=(λ(x:Option α) (e:x=some a)=>by subst e;rfl:∀x:Option α,x=some a->x.bind f=f a) _ rfl
def fuel:Nat:=100000
structure cu(P:Program)(w:World)(K:PySem.W.Frag)(mg:Str->Option Value)(base:Heap)(k:Nat)(x:Str)(ps:List Str)(sp:Sp):Prop where
 ex:∃f fd,au P w K mg base aP k f fd ps sp/\Binds K fd ps []/\keepIn K (.ref f)=true/\mg x=some (.ref f)
structure fG(P:Program)(w:World)(K:PySem.W.Frag)(mg:Str->Option Value)(base:Heap)(k:Nat)(C:Addr)(m:Str)(ps:List Str)(sp:Sp):Prop where
 ex:∃f fd,au P w K mg base aP k f fd ps sp/\Binds K fd ps []/\Meth K C m f
 cl:Cls K C
theorem cu.mono(c:cu P w K mg base j x ps sp)(h:j<=k):cu P w K mg base k x ps sp:=by
 obtain⟨f,fd,h1,h2⟩:=c.ex
 exact⟨f,fd,h1.mono h,h2⟩
theorem fG.mono(c:fG P w K mg base j C x ps sp)(h:j<=k):fG P w K mg base k C x ps sp:=by
 obtain⟨f,fd,h1,h2⟩:=c.ex
 exact⟨⟨f,fd,h1.mono h,h2⟩,c.cl⟩
theorem yH(c:cu X.prog X.w X.K X.mg X.base k x ps sp)(hr:bJ k X.A)(ha:PA X (e::es) t)(hg:Gl X x:=by rfl)(hdb:(x==("__debug__":Str))=false:=by decide)(he:starEach (e::es) X.env=(false,eval e X.env)::starEach es X.env:=by rfl)(hpl:(backTo pos (starEach es X.env)).any (·.1)=false:=by rfl):PE X (.Call (.Name x p) (e::es) [] pos) (HB sp [] E0 t):=by
 obtain⟨f,fd,h1,h2,h3,h4⟩:=c.ex
 exact Ba h1 hr hg h4 h3 h2 .nil uP ha hdb he hpl
theorem Ox(c:fG X.prog X.w X.K X.mg X.base k C m ps sp)(hr:bJ k X.A)(he:PE X o ta)(ha:PA X (e::es) t)(hst:starEach (e::es) X.env=(false,eval e X.env)::starEach es X.env:=by rfl)(hpl:(backTo pos (starEach es X.env)).any (·.1)=false:=by rfl)(ht:eval (.Call (.Attribute o m apos) (e::es) [] pos) X.env=(do
   let ov <-eval o X.env
   standAt apos.atName
   let(f,first) <-holding [ov] (getMethod ov m pl)
   callWith pos f first (backTo pos (starEach (e::es) X.env)) (backToKw pos (keywordEach [] X.env))):=by rfl):PE X (.Call (.Attribute o m apos) (e::es) [] pos) (NK C m sp [] E0 ta t):=by
 obtain⟨f,fd,h1,h2,h3⟩:=c.ex
 exact Bb he c.cl h3 h1 hr h2 .nil uP ha hst hpl ht
theorem RM(c:fG X.prog X.w X.K X.mg X.base k C m ps sp)(hr:bJ k X.A)(he:PE X o ta)(ht:eval (.Call (.Attribute o m apos) [] [] pos) X.env=(do
   let ov <-eval o X.env
   standAt apos.atName
   let(f,first) <-holding [ov] (getMethod ov m pl)
   callWith pos f first (backTo pos (starEach [] X.env)) (backToKw pos (keywordEach [] X.env))):=by rfl):PE X (.Call (.Attribute o m apos) [] [] pos) (NK C m sp [] E0 ta cj):=by
 obtain⟨f,fd,h1,h2,h3⟩:=c.ex
 exact zRe he c.cl h3 h1 hr h2 .nil uP ht
end
section
variable{P:Program}{w:World}{K:PySem.W.Frag}{mg:Str->Option Value}{base:Heap}
theorem yJ{A β:Type}[Rp K β]{as:A->SL K}{fM:A->Option β}(F:aY K x qual st f fd)(S:ao N ps (zI st))(hf:∀a,(as a).all isF=true)(hl:∀a,(as a).length=ps.length)(hb:∀(cdv:Value) (A:Around) (outer:List Env) (s:Shared) (H:Hp) (E:XK),bJ k (A.deeper (acy qual (zI st) s.heap.objs.size f cdv)) ->
   ∃t,pJ (mY aP P w K mg base N qual (zI st) f cdv A outer s H E).Ao (xX st) t/\∀Fa a,SB ⟨Fa,H⟩ (as a++replicate (N.length-ps.length) .un) t al (fM a)) :
  au P w K mg base aP (k+1) f fd ps (cL K al as fM) :=
 F.ok S (λvs H Q E h=>Y_ hl h) λcdv A outer s H vs Q E hr h=>by
  obtain⟨t,p,q⟩:=hb cdv A outer s H E hr
  exact⟨t,p,zQs hf hl q h⟩
end
def W{α:Type}(m:Option α)(P:α->Prop):Prop:=∃a,m=some a/\P a
section
variable{α β S:Type}
theorem aj:W (some a) P↔P a:=⟨λ⟨_,e,h⟩=>by cases e;exact h,λh=>⟨a,rfl,h⟩⟩
theorem Ga:W (none:Option α) P↔False:=⟨λ⟨_,e,_⟩=>(by cases e),abb⟩
theorem zC{m:Option α}:W (m.bind f) Q↔W m λa=>W (f a) Q:=by
 cases m with
 |none=>exact⟨λ⟨_,e,_⟩=>(by cases e),λ⟨_,e,_⟩=>(by cases e)⟩
 |some a=>exact⟨λh=>⟨a,rfl,h⟩,λ⟨_,e,h⟩=>by cases e;exact h⟩
theorem v9:W ((Out.nx s:Out S β).els f) Q↔W (f s) Q:=aen
theorem W.imp{Q:α->Prop}(h:W m P)(f:∀a,P a->Q a):W m Q:=let⟨a,e,p⟩:=h;⟨a,e,f a p⟩
theorem Ja:W (gj a b) Q↔0<b/\Q (a%b):=by
 unfold gj
 split
 ·rename_i h;rw[aj];exact⟨λq=>⟨h,q⟩,λq=>q.2⟩
 ·rename_i h;rw[Ga];exact⟨abb,λq=>h q.1⟩
theorem Oz:W (jm a b) Q↔(0<b/\b<1073741824)/\Q (a/b):=by
 unfold jm
 split
 ·rename_i h;rw[aj];exact⟨λq=>⟨h,q⟩,λq=>q.2⟩
 ·rename_i h;rw[Ga];exact⟨abb,λq=>h q.1⟩
theorem uO:W (push xs a) Q↔xs.length<cap/\Q (xs++[a]):=by
 unfold push
 split
 ·rename_i h;rw[aj];exact⟨λq=>⟨h,q⟩,λq=>q.2⟩
 ·rename_i h;rw[Ga];exact⟨abb,λq=>h q.1⟩
def rng(n:Int):LI:=(aar n.toNat).map acr
theorem cW:W (xT n) Q↔(-(2^62)<=n/\n<2^62)/\Q (rng n):=by
 unfold xT rng
 split
 ·rename_i h;rw[aj];exact⟨λq=>⟨h,q⟩,λq=>q.2⟩
 ·rename_i h;rw[Ga];exact⟨abb,λq=>h q.1⟩
theorem vN(h:0<=n):((rng n).length:Int)=n:=by
 unfold rng
 rw[length_map,length_range]
 omega
theorem Jb{n:Int}{i:Nat}{x:Int}(h:(rng n)[i]?=some x):x=i/\(i:Int)<n:=by
 obtain⟨a,b⟩:=U4 h
 exact⟨b,by omega⟩
theorem aZ:x∈rng n↔0<=x/\x<n:=by
 unfold rng
 rw[mem_map]
 constructor
 ·rintro⟨a,h,rfl⟩
  rw[mem_range] at h
  exact⟨abe _,by show(a:Int)<n;omega⟩
 ·intro⟨h1,h2⟩
  exact⟨x.toNat,mem_range.mpr (by omega),by show((x.toNat:Nat):Int)=x;omega⟩
theorem Jc(h:0<=i):L2.bF xs i=xs[i.toNat]?:=by
 unfold L2.bF rB
 rw[if_pos h]
 by_cases q:i<xs.length
 ·rw[if_pos q];rfl
 ·rw[if_neg q,aaz (by omega)];rfl
theorem j7(h0:0<=i):W (L2.bF xs i) Q↔∃a,xs[i.toNat]?=some a/\Q a:=by
 rw[Jc h0]
 exact aen
theorem zQz{xs:List α}{i:Int}{a:α}(h0:0<=i)(h1:i<xs.length):rD xs i a=some (xs.set i.toNat a):=by
 unfold rD rB
 rw[if_pos h0,if_pos h1]
 rfl
theorem LC{xs:List α}{i:Int}{a:α}{Q:List α->Prop}(h0:0<=i)(h1:i<xs.length):W (rD xs i a) Q↔Q (xs.set i.toNat a):=by
 rw[zQz h0 h1,aj]
theorem xE{step:S->α->Option S}{Q:S->Prop}(I:Nat->S->Prop)(h0:I 0 s)(hs:∀i x s,xs[i]?=some x->I i s->W (step s x) (I (i+1)))(hd:∀s,I xs.length s->Q s):W (yU step xs s) Q:=by
 have key:∀(ys:List α)(i:Nat)(s:S),(∀j x,ys[j]?=some x->xs[i+j]?=some x)->i+ys.length=xs.length->I i s->W (yU step ys s) Q:=by
  intro ys
  induction ys with
  |nil=>intro i s _ hl h;exact⟨s,rfl,hd s ((show i=xs.length from hl)▸h)⟩
  |cons y ys ih =>
   intro i s hy hl h
   show W ((step s y).bind λs'=>yU step ys s') Q
   rw[zC]
   refine(hs i y s (hy 0 y rfl) h).imp λs' h'=>ih (i+1) s' (λj x hx=>?_) (by rw[length_cons] at hl;omega) h'
   have:=hy (j+1) x (by simpa using hx)
   rw[show i+1+j=i+(j+1) by omega]
   exact this
 exact key xs 0 s (λj x h=>by rw[ab5];exact h) (ab5 _) h0
theorem Zn{step:S->α->Option (Out S β)}:vZ step (x::xs) s=(step s x).bind λo=>o.aN λs'=>vZ step xs s':=by
 rw[vZ]
 congr 1
theorem Cg{step:S->α->Option (Out S β)}{Q:Out S β->Prop}(I:Nat->S->Prop)(h0:I 0 s)(hs:∀i x s,xs[i]?=some x->I i s->W (step s x) λo=>∃s',o=.nx s'/\I (i+1) s')(hd:∀s,I xs.length s->Q (.nx s)):W (vZ step xs s) Q:=by
 have key:∀(ys:List α)(i:Nat)(s:S),(∀j x,ys[j]?=some x->xs[i+j]?=some x)->i+ys.length=xs.length->I i s->W (vZ step ys s) Q:=by
  intro ys
  induction ys with
  |nil=>intro i s _ hl h;exact⟨.nx s,rfl,hd s ((show i=xs.length from hl)▸h)⟩
  |cons y ys ih =>
   intro i s hy hl h
   rw[Zn,zC]
   refine(hs i y s (hy 0 y rfl) h).imp ?_
   rintro o ⟨s',rfl,h'⟩
   refine ih (i+1) s' (λj x hx=>?_) (by rw[length_cons] at hl;omega) h'
   have:=hy (j+1) x (by simpa using hx)
   rw[show i+1+j=i+(j+1) by omega]
   exact this
 exact key xs 0 s (λj x h=>by rw[ab5];exact h) (ab5 _) h0
theorem Ci{c:S->Option Bool}{body:S->Option S}(I:S->Prop)(μ:S->Nat)(h0:I s)(hk:μ s<k)(hs:∀s,I s->W (c s) λb=>if b=true then W (body s) λs'=>I s'/\μ s'<μ s else Q s):W (Fx c body k s) Q:=by
 induction k generalizing s with
 |zero=>omega
 |succ k ih =>
  show W ((c s).bind λb=>if b=true then(body s).bind λs'=>Fx c body k s' else some s) Q
  rw[zC]
  refine(hs s h0).imp λb h=>?_
  cases b with
  |true =>
   have h:W (body s) λs'=>I s'/\μ s'<μ s:=by simpa using h
   simp only[if_true]
   rw[zC]
   exact h.imp λs' ⟨h1,h2⟩=>ih h1 (by omega)
  |false=>simpa[aj] using h
theorem Zo(c:α->Bool)(f:α->β):∀xs:List α,wF (λx=>some (c x)) (λx=>some (f x)) xs=some ((xs.filter c).map f)
 |[]=>rfl
 |x::xs=>by
  have ih:=Zo c f xs
  show(some (c x)).bind _=_
  cases h:c x with
  |true =>
   show((some (f x)).bind λy=>(wF _ _ xs).bind λys=>some (y::ys))=_
   rw[ih,filter_cons,if_pos h]
   rfl
  |false =>
   show wF _ _ xs=_
   rw[ih,filter_cons,if_neg (by rw[h];decide)]
theorem Zq(c:α->Bool)(f:α->β):W (yQ (λx=>some (c x)) (λx=>some (f x)) xs) Q↔xs.length<cap/\Q ((xs.filter c).map f):=by
 unfold yQ
 split
 ·rename_i h;rw[Zo,aj];exact⟨λq=>⟨h,q⟩,λq=>q.2⟩
 ·rename_i h;rw[Ga];exact⟨abb,λq=>h q.1⟩
theorem RN(xs:List α):xs.filter (λ_=>true)=xs:=List.filter_eq_self.mpr λ_ _=>rfl
theorem Gb(f:α->β):W (yQ (λ_=>some true) (λx=>some (f x)) xs) Q↔xs.length<cap/\Q (xs.map f):=by
 rw[Zq (λ_=>true) f,RN]
theorem Jd[Decidable c]:W (if c then a else b) Q↔(c->W a Q)/\(¬c->W b Q):=by
 by_cases h:c
 ·rw[if_pos h];exact⟨λq=>⟨λ_=>q,λn=>absurd h n⟩,λq=>q.1 h⟩
 ·rw[if_neg h];exact⟨λq=>⟨λn=>absurd n h,λ_=>q⟩,λq=>q.2 h⟩
theorem zX(h:n<=1000):n<cap:=aan h (by decide)
def aW(n:Int)(xs:LI):Prop:=xs.Pairwise (· < ·)/\∀x∈xs,0<=x/\x<n
theorem aW.nodup(h:aW n xs):xs.Nodup:=h.1.imp λq=>Int.ne_of_lt q
theorem OD:aW n []:=⟨.nil,λx h=>by cases h⟩
theorem Zr(h:aW k xs)(h0:0<=k)(hk:k<n):aW n (xs++[k]):=by
 refine⟨List.pairwise_append.mpr ⟨h.1,by simp,λx hx y hy=>?_⟩,λx hx=>?_⟩
 ·rw[mem_singleton.mp hy];exact(h.2 x hx).2
 ·rcases mem_append.mp hx with q|q
  ·have:=h.2 x q;omega
  ·rw[mem_singleton.mp q];omega
theorem Zt(h:aW n xs)(l:n<=m):aW m xs:=⟨h.1,λx hx=>by have:=h.2 x hx;omega⟩
theorem xZ:∀{n:Nat}{xs:LI},xs.Nodup->(∀x∈xs,0<=x/\x<(n:Int))->xs.length<=n
 |0,xs,_,h=>by
  cases xs with
  |nil=>exact aaf _
  |cons x xs=>have:=h x mem_cons_self;omega
 |n+1,xs,nd,h=>by
  by_cases q:(n:Int)∈xs
  ·have l:=List.length_erase_of_mem q
   have ih:=xZ (n:=n) (xs:=xs.erase (n:Int)) (nd.erase _) λx hx=>by
    have h1:=h x (List.mem_of_mem_erase hx)
    have h2:x≠(n:Int):=λe=>by rw[e] at hx;exact(List.Nodup.not_mem_erase nd) hx
    omega
   omega
  ·have ih:=xZ (n:=n) nd λx hx=>by
    have h1:=h x hx
    have h2:x≠(n:Int):=λe=>q (e▸hx)
    omega
   omega
end
end Ts
namespace L2
open PySem PySem.Spec PyProof.Rows
theorem Vg:∀{ns:LI}{its:List Value},Vals (ns.map V.int) its->IntsAre its ns
 |[],[],_=>.nil
 |n::ns,_::its,h=>by
  cases h with
  |cons r t =>
   obtain⟨k,rfl⟩:=r
   exact .cons n k (Vg t)
theorem uQ:∀{ns:LI}{its:List Value},IntsAre its ns->Vals (ns.map V.int) its
 |_,_,.nil=>.nil
 |_,_,.cons n t h=>.cons ⟨t,rfl⟩ (uQ h)
section
variable{X:Cx}
def Gd(K:PySem.W.Frag):List V->Hp->VK->Prop:=λxs H Q=>∃(p:Addr)(ns:LI),xs=[.ref p]/\bw K H p (ns.map V.int)/\ns.length<64/\∀(l:Addr)(ns':LI),H l=none->ns'.Perm ns->ns'.Pairwise (· <= ·)->Q (.ref l) (upd H l (.lst (ns'.map V.int)))
theorem Vh(K:PySem.W.Frag)(hK:X.K=K:=by rfl):rR X (.builtin "sorted") (Gd K):=by
 subst hK
 intro pins s σ H xs us Q I r h
 obtain⟨p,ns,rfl,hq,h64,q⟩:=h
 obtain⟨u,rfl,rx⟩:=Li r
 cases rx
 obtain⟨its,r',pl,hz⟩:=I.list hq
 have hl:=r'.length
 rw[length_map] at hl
 refine sorted_ints pl.isList (Vg r') (by omega) λout ns' a1 a2 a3=>?_
 obtain⟨e,he⟩:=sortedAll_at s.heap its out
 have fr:H (s.heap.objs.size+1)=none:=I.hok.fresh (abt _)
 refine⟨.ref (s.heap.objs.size+1),_,I.laid (t':=s.toks) (o:=.lst (ns'.map V.int)) (λb ob w=>sortedAll_old w) (abt _) ?_,rfl,q _ ns' fr a2 a3⟩
 refine⟨?_,out.toList,e,uQ a1,?_⟩
 ·rw[length_map,a2.length_eq]
  exact ab4 (ac8 h64 (by decide))
 ·rw[toArray_toList]
  exact he
theorem Zu{bs:List Bool}(r:Vals (bs.map V.bl) its):TruthOf prog w A (λi v=>its.toArray[i]?=some v) (λi=>bs.getD i false):=by
 intro i v s Q E hv hq
 have hv:its[i]?=some v:=by simpa using hv
 have hi:i<bs.length:=by
  have:=(aao.mp hv).1
  rw[<-r.length,length_map] at this
  exact this
 obtain⟨u,h1,h2⟩:=r.get (i:=i) (x:=.bl bs[i]) (by rw[getElem?_map,aad hi]<;>rfl)
 rw[hv] at h1
 cases h1
 cases h2
 have hq:Q (bs.getD i false) s:=hq
 rw[getD_eq_getElem?_getD,aad hi] at hq
 exact abk hq
theorem zN2{bs:List Bool}:((aar bs.length).any λi=>bs.getD i false)=bs.any id:=by
 rw[aa6,any_eq_true,any_eq_true]
 constructor
 ·rintro⟨i,h1,h2⟩
  have hi:=mem_range.mp h1
  rw[getD_eq_getElem?_getD,aad hi] at h2
  exact⟨_,getElem_mem hi,h2⟩
 ·rintro⟨x,h1,h2⟩
  obtain⟨i,hi,e⟩:=getElem_of_mem h1
  refine⟨i,mem_range.mpr hi,?_⟩
  rw[getD_eq_getElem?_getD,aad hi,e]
  exact h2
theorem zN3{bs:List Bool}:((aar bs.length).all λi=>bs.getD i false)=bs.all id:=by
 rw[aa6,all_eq_true,all_eq_true]
 constructor
 ·intro h x hx
  obtain⟨i,hi,e⟩:=getElem_of_mem hx
  have z:=h i (mem_range.mpr hi)
  rw[getD_eq_getElem?_getD,aad hi,e] at z
  exact z
 ·intro h i hi
  have hi:=mem_range.mp hi
  rw[getD_eq_getElem?_getD,aad hi]
  exact h _ (getElem_mem hi)
def Vi(K:PySem.W.Frag)(f:List Bool->Bool):List V->Hp->VK->Prop:=λxs H Q=>∃(p:Addr)(bs:List Bool),xs=[.ref p]/\bw K H p (bs.map V.bl)/\Q (.bl (f bs)) H
theorem Ge{s:Shared}{h':Heap}(hk:∀b o,b∉[s.heap.objs.size]->(s.heap.push { cls:=.type "list_iterator",data:=.fields #[.ref l,.int 0 0] }).get? b=some o->h'.get? b=some o) :
  ∀b o,s.heap.get? b=some o->h'.get? b=some o:=λb o e=>hk b o (λm=>abh _ (mem_singleton.mp m▸lt_size e)) (get?_push_of_some _ e)
theorem zPw(K:PySem.W.Frag)(hc:X.calm=true)(hK:X.K=K:=by rfl):rR X (.builtin "any") (Vi K λbs=>bs.any id):=by
 subst hK
 intro pins s σ H xs us Q I r h
 obtain⟨p,bs,rfl,hq,q⟩:=h
 obtain⟨u,rfl,rx⟩:=Li r
 cases rx
 obtain⟨its,r',pl,hz⟩:=I.list hq
 have hl:=pl.isList
 have hlt:p<s.heap.objs.size:=by obtain⟨_,e,_⟩:=hl;exact lt_size e
 refine call_any_walk (adb hl ?_)
 refine⟨_,_,_,_,_,_,_,rfl,Walks.list (A:=X.A.in1) (I.ok.hd hc) s.heap.objs.size p (aaj hlt) its.toArray,⟨⟨_,get?_push_size _ rfl,rfl,rfl⟩,hl.push _⟩,Zu r',λh' tk hk=>?_⟩
 have hn:its.toArray.size=bs.length:=by
  rw[size_toArray,<-r'.length,length_map]
 rw[hn,zN2]
 exact⟨.bl (bs.any id),H,I.kept (Ge hk),rfl,q⟩
theorem zPx(K:PySem.W.Frag)(hc:X.calm=true)(hK:X.K=K:=by rfl):rR X (.builtin "all") (Vi K λbs=>bs.all id):=by
 subst hK
 intro pins s σ H xs us Q I r h
 obtain⟨p,bs,rfl,hq,q⟩:=h
 obtain⟨u,rfl,rx⟩:=Li r
 cases rx
 obtain⟨its,r',pl,hz⟩:=I.list hq
 have hl:=pl.isList
 have hlt:p<s.heap.objs.size:=by obtain⟨_,e,_⟩:=hl;exact lt_size e
 refine call_all_walk (adb hl ?_)
 refine⟨_,_,_,_,_,_,_,rfl,Walks.list (A:=X.A.in1) (I.ok.hd hc) s.heap.objs.size p (aaj hlt) its.toArray,⟨⟨_,get?_push_size _ rfl,rfl,rfl⟩,hl.push _⟩,Zu r',λh' tk hk=>?_⟩
 have hn:its.toArray.size=bs.length:=by
  rw[size_toArray,<-r'.length,length_map]
 rw[hn,zN3]
 exact⟨.bl (bs.all id),H,I.kept (Ge hk),rfl,q⟩
end
section
variable{prog:Program}{w:World}{A:Around}{R:Result->Shared->Prop}{It:Addr}{fp wr:List Addr}{n:Nat}{P:Nat->Value->Prop}{St:Nat->Heap->Prop}{kw:List (Str×Value)}
end
section
variable{X:Cx}{e e2:Expr}{te td:TE}{p pos kpos:Pos}
end
end L2
namespace Ts
open PySem L2
def RP(ns:LI):LI:=ns.mergeSort (λa b=>decide (a<=b))
def Cj(ns:LI):Option LI:=if ns.length<64 then some (RP ns) else none
theorem vD(ns:LI):(RP ns).Perm ns:=List.mergeSort_perm _ _
theorem Zv(ns:LI):(RP ns).Pairwise (· <= ·):=by
 have:=List.pairwise_mergeSort (le:=λa b:Int=>decide (a<=b)) (λa b c h1 h2=>by simp at *;omega) (λa b=>by simp;omega) ns
 exact this.imp λh=>by simpa using h
theorem Zw:∀{xs ys:LI},xs.Perm ys->xs.Pairwise (· <= ·)->ys.Pairwise (· <= ·)->xs=ys
 |[],ys,p,_,_=>(Perm.nil_eq p)
 |x::xs,[],p,_,_=>by have:=p.length_eq;simp at this
 |x::xs,y::ys,p,h1,h2=>by
  have a1:=pairwise_cons.mp h1
  have a2:=pairwise_cons.mp h2
  have e:x=y:=by
   have q1:x∈y::ys:=p.subset mem_cons_self
   have q2:y∈x::xs:=p.symm.subset mem_cons_self
   rcases mem_cons.mp q1 with q1|q1
   ·exact q1
   ·rcases mem_cons.mp q2 with q2|q2
    ·exact q2.symm
    ·have:=a1.1 y q2;have:=a2.1 x q1;omega
  subst e
  rw[Zw (Perm.cons_inv p) a1.2 a2.2]
section
variable{K:PySem.W.Frag}{B:Bs}{sl:SL K}{md:Md}{t t1 t2:TE}{n:Bool}
theorem Vj(h:Ex B sl .hp t m):Eo B sl md (z_ (Gd K) (xG t cj)) (m.bind Cj):=λc hc F O H σ Q s k=>by
 cases m with
 |none=>cases hc
 |some ns =>
  have hc:Cj ns=some c:=hc
  unfold Cj at hc
  split at hc
  case isFalse=>cases hc
  rename_i hl
  cases hc
  refine h ns rfl F O H σ _ s λv F' H' g r1=>?_
  obtain⟨p,vs,rfl,z1,z2⟩:=r1
  have z3:vs=ns.map V.int:=z2.vals
  subst z3
  refine⟨p,ns,rfl,bw.of z1,hl,λl ns' hn p1 p2=>?_⟩
  rw[Zw (p1.trans (vD ns).symm) p2 (Zv ns)]
  exact k l _ F' H' g hn (IV _)
theorem Zx(h:Ex B sl .hp t m):Ex B sl md (z_ (Vi K f) (xG t cj)) (m.bind λbs=>some (f bs)):=λc hc F O H σ Q s k=>by
 cases m with
 |none=>cases hc
 |some bs =>
  cases(show some (f bs)=some c from hc)
  refine h bs rfl F O H σ _ s λv F' H' g r1=>?_
  obtain⟨p,vs,rfl,z1,z2⟩:=r1
  have z3:vs=bs.map V.bl:=z2.vals
  subst z3
  exact⟨p,bs,rfl,bw.of z1,k _ F' H' g rfl⟩
theorem Zy(h:Ex B sl .hp t m):Ex B sl md (XJ (rU λi=>.int (-i)) t) (m.bind λa=>some (-a)):=λc hc F O H σ Q s k=>by
 cases m with
 |none=>cases hc
 |some a =>
  cases(show some (-a)=some c from hc)
  refine h a rfl F O H σ _ s λv F' H' g r1=>?_
  cases r1
  exact⟨a,rfl,k _ F' H' g rfl⟩
end
section
variable{β:Type}
def gK(kvs:List (Key×β))(k:Key):Option β:=(kvs.find? λkv=>decide (kv.1=k)).map (·.2)
def pK(kvs:List (Key×β))(k:Key)(v:β):List (Key×β):=if(kvs.any λkv=>decide (kv.1=k))=true then kvs.map (λkv=>if kv.1=k then(kv.1,v) else kv) else kvs++[(k,v)]
abbrev iB(kvs:List (Key×β))(k:Int):Option β:=gK kvs (aa1 k)
def dput(kvs:List (Key×β))(k:Int)(v:β):Option (List (Key×β)):=if kvs.length<cap then some (pK kvs (aa1 k) v) else none
theorem Zz:∀{kvs:List (Key×β)}{k:Key},(kvs.any λkv=>decide (kv.1=k))=(gK kvs k).isSome
 |[],_=>rfl
 |x::kvs,k=>by
  unfold gK
  rw[any_cons,find?_cons]
  by_cases e:x.1=k
  ·rw[decide_eq_true e];rfl
  ·rw[decide_eq_false e,adh];exact Zz
theorem ZC:∀(kvs:List (Key×β))(k j:Key)(v:β),gK (pK kvs k v) j=if j=k then some v else gK kvs j:=λkvs k j v=>by
 unfold pK
 cases a:(kvs.any λkv=>decide (kv.1=k)) with
 |true =>
  rw[if_pos rfl]
  induction kvs with
  |nil=>cases a
  |cons x kvs ih =>
   unfold gK at ih ⊢
   rw[map_cons,find?_cons,find?_cons]
   by_cases e:x.1=k
   ·rw[if_pos e]
    by_cases f:j=k
    ·subst f
     rw[decide_eq_true (show(x.1,v).1=j from e),if_pos rfl];rfl
    ·rw[decide_eq_false (show¬(x.1,v).1=j fromλz=>f (z.symm.trans e)),if_neg f]
     show Option.map (λx=>x.2) (List.find? (λkv=>decide (kv.1=j)) (List.map (λkv=>if kv.1=k then(kv.1,v) else kv) kvs))=Option.map (λx=>x.2) (List.find? (λkv=>decide (kv.1=j)) kvs)
     clear ih a
     induction kvs with
     |nil=>rfl
     |cons y kvs ih =>
      rw[map_cons,find?_cons,find?_cons]
      by_cases g:y.1=k
      ·rw[if_pos g,decide_eq_false (show¬(y.1,v).1=j fromλz=>f (z.symm.trans g))];exact ih
      ·rw[if_neg g]
       by_cases h:y.1=j
       ·rw[decide_eq_true h]
       ·rw[decide_eq_false h];exact ih
   ·rw[if_neg e]
    have a':(kvs.any λkv=>decide (kv.1=k))=true:=by rw[any_cons,decide_eq_false e,adh] at a;exact a
    by_cases f:x.1=j
    ·rw[decide_eq_true f,if_neg λz=>e (f.trans z)]
    ·rw[decide_eq_false f];exact ih a'
 |false =>
  rw[if_neg (by decide)]
  unfold gK
  rw[List.find?_append]
  have hn:kvs.find? (λkv=>decide (kv.1=k))=none:=by
   rw[List.find?_eq_none]
   intro x hx
   have:=any_eq_false.mp a x hx
   exact this
  by_cases f:j=k
  ·subst f;rw[hn,if_pos rfl];simp
  ·rw[if_neg f]
   cases kvs.find? (λkv=>decide (kv.1=j)) with
   |none=>simp[ab8 f]
   |some y=>rfl
theorem ZD(kvs:List (Key×β))(k:Key)(v:β):(pK kvs k v).length<=kvs.length+1:=by
 unfold pK
 split
 ·rw[length_map];omega
 ·rw[length_append];exact aaf _
end
section
variable{K:PySem.W.Frag}{α:Type}[Rp K α]
abbrev DR(K:PySem.W.Frag){α:Type}[Rp K α](F:Hp):Key×V->Key×α->Prop:=λx y=>x.1=y.1/\rp K F x.2 y.2
theorem A2.any:∀{ks:List (Key×V)}{kvs:List (Key×α)},A2 (DR K F) ks kvs->(ks.any λkv=>decide (kv.1=k))=(kvs.any λkv=>decide (kv.1=k))
 |[],[],_=>rfl
 |_::_,_::_,h=>by rw[any_cons,any_cons,h.1.1,A2.any h.2]
 |[],_::_,h=>h.elim
 |_::_,[],h=>h.elim
theorem A2.val:∀{ks:List (Key×V)}{kvs:List (Key×α)},A2 (DR K F) ks kvs->(gK kvs k=none/\gB ks k=none)\/∃a v,gK kvs k=some a/\gB ks k=some v/\rp K F v a
 |[],[],_=>.inl ⟨rfl,rfl⟩
 |x::ks,y::kvs,h=>by
  unfold gK gB
  rw[find?_cons,find?_cons,h.1.1]
  by_cases e:y.1=k
  ·rw[decide_eq_true e];exact .inr ⟨y.2,x.2,rfl,rfl,h.1.2⟩
  ·rw[decide_eq_false e];exact A2.val h.2
 |[],_::_,h=>h.elim
 |_::_,[],h=>h.elim
theorem A2.OJ(r:rp K F v a):∀{ks:List (Key×V)}{kvs:List (Key×α)},A2 (DR K F) ks kvs->A2 (DR K F) (ks.map λkv=>if kv.1=k then(kv.1,v) else kv) (kvs.map λkv=>if kv.1=k then(kv.1,a) else kv)
 |[],[],_=>trivial
 |x::ks,y::kvs,h=>by
  rw[map_cons,map_cons]
  refine⟨?_,A2.OJ r h.2⟩
  by_cases e:x.1=k
  ·rw[if_pos e,if_pos (h.1.1▸e)];exact⟨h.1.1,r⟩
  ·rw[if_neg e,if_neg (h.1.1▸e)];exact h.1
 |[],_::_,h=>h.elim
 |_::_,[],h=>h.elim
theorem A2.put{F:Hp}{k:Key}{v:V}{a:α}(r:rp K F v a){ks:List (Key×V)}{kvs:List (Key×α)}(h:A2 (DR K F) ks kvs):A2 (DR K F) (putK ks k v) (pK kvs k a):=by
 unfold putK pK
 rw[h.any]
 split
 ·exact h.OJ r
 ·exact h.snoc ⟨rfl,r⟩
structure Dc(α:Type) where
 kv:List (Key×α)
instance:Rp K (Dc α):=⟨λF v d=>∃p ks,v=.ref p/\F p=some (.dK ks)/\A2 (DR K F) ks d.kv,λs ⟨p,ks,h1,h2,h3⟩=>⟨p,ks,h1,s _ _ h2,h3.imp λ_ _ z=>⟨z.1,Rp.mono s z.2⟩⟩⟩
instance:Nn K (Dc α):=⟨λ⟨_,_,h,_⟩=>by rw[h];intro e;cases e⟩
variable{B:Bs}{sl:SL K}{md:Md}{t t2:TE}{F H G:Hp}{O:Own}{σ:St}{u:TS}{al:Bool}
theorem Vk{kvs:List (Key×α)}(i:Nat)(hs:sl[i]?=some (.od kvs)):Ex B sl .hp (c7 i) (some (Dc.mk kvs)):=λa' ha F O H σ Q s k=>by
 cases ha
 obtain⟨k0,z0⟩:=s
 obtain⟨O1,O2,p,ks,rfl,h1,h2,_⟩:=z0.Fw hs
 exact⟨_,h1,k _ F H (.refl k0) ⟨p,ks,rfl,k0.one.2.2,h2.imp λ_ _ z=>⟨z.1,Rp.mono k0.fh z.2⟩⟩⟩
theorem Je{m:Option Int}{m2:Option (Dc α)}(h:Ex B sl .hp t m)(h2:Ex B sl .hp t2 m2):Ex B sl md (HJ t t2) (m.bind λk=>m2.bind λd=>some (iB d.kv k).isSome):=λc hc F O H σ Q s kk=>by
 obtain⟨k,d,e1,e2,e3⟩:=rZ hc
 cases e3
 refine h k e1 F O H σ _ s λv F' H' g r1=>?_
 refine h2 d e2 F' O H' σ _ (s.grow g) λw F2 H2 g2 r2=>?_
 cases r1
 obtain⟨p,ks,rfl,z1,z2⟩:=r2
 refine⟨p,_,rfl,oF.k (k:=aa1 k) z1,?_⟩
 have e:(gB ks (aa1 k:Key)).isSome=(iB d.kv k).isSome:=by
  rcases z2.val (k:=aa1 k) with⟨q1,q2⟩|⟨a,v,q1,q2,_⟩
  ·show _=(gK d.kv (aa1 k)).isSome;rw[q1,q2];rfl
  ·show _=(gK d.kv (aa1 k)).isSome;rw[q1,q2];rfl
 rw[e]
 exact kk _ F2 H2 (g.trans g2) rfl
theorem zPf{m:Option Int}{m2:Option (Dc α)}(h:Ex B sl .hp t m)(h2:Ex B sl .hp t2 m2):Ex B sl md (Yj t t2) (m.bind λk=>m2.bind λd=>some !(iB d.kv k).isSome):=λc hc F O H σ Q s kk=>by
 obtain⟨k,d,e1,e2,e3⟩:=rZ hc
 cases e3
 refine h k e1 F O H σ _ s λv F' H' g r1=>?_
 refine h2 d e2 F' O H' σ _ (s.grow g) λw F2 H2 g2 r2=>?_
 cases r1
 obtain⟨p,ks,rfl,z1,z2⟩:=r2
 refine⟨p,_,rfl,oF.k (k:=aa1 k) z1,?_⟩
 have e:(gB ks (aa1 k:Key)).isSome=(iB d.kv k).isSome:=by
  rcases z2.val (k:=aa1 k) with⟨q1,q2⟩|⟨a,v,q1,q2,_⟩
  ·show _=(gK d.kv (aa1 k)).isSome;rw[q1,q2];rfl
  ·show _=(gK d.kv (aa1 k)).isSome;rw[q1,q2];rfl
 rw[e]
 exact kk _ F2 H2 (g.trans g2) rfl
theorem ZF{kvs:List (Key×α)}{m:Option α}{mi:Option Int}{te ti:TE}(i:Nat)(hs:sl[i]?=some (.od kvs))(hh:sl.all (λs=>!cP s)=true)(hv:Ex B sl .fz te m)(hi:Ex B sl .hp ti mi) :
  Sn B sl (u_ (c7 i) ti te) (λys=>sl.set i (.od ys)) (m.bind λa=>mi.bind λk=>dput kvs k a):=λys ha G D σ H s k=>by
 obtain⟨a,ix,e1,e2,e3⟩:=rZ ha
 unfold dput at e3
 split at e3
 case isFalse=>cases e3
 rename_i hl
 cases e3
 obtain⟨F,O,g,z⟩:=s
 refine hv a e1 F O H σ _ z λv F' H' gr r=>?_
 obtain⟨p,ks,h1,h2,h3,_⟩:=(z.grow gr).BL hs hh
 refine⟨_,h1,?_⟩
 refine hi ix e2 F' O H' σ _ (z.grow gr) λw F2 H2 rE rw=>?_
 cases rw
 obtain⟨p',ks',h1',h2',h3',h4'⟩:=((z.grow gr).grow rE).BL hs hh
 have e:=h1.symm.trans h1'
 cases e
 obtain⟨O',z'⟩:=h4' (putK ks' (aa1 ix) v) (pK kvs (aa1 ix) a) (h3'.put (Rp.mono rE.ff r))
 exact⟨p,_,rfl,rW.k (k:=aa1 ix) h2' (Ac (by rw[h3'.len];exact hl)),k _ _ ⟨F2,O',(g.trans gr.ff).trans rE.ff,z'⟩⟩
end
end Ts
namespace L2
open PySem PySem.Spec PyProof.Rows
section
variable{X:Cx}{tg:Expr}
end
end L2
namespace Ts
open PySem L2
section
variable{K:PySem.W.Frag}{B:Bs}{sl:SL K}{t1 t2 t3:TE}{n:Bool}
end
section
variable{K:PySem.W.Frag}{B:Bs}{sl:SL K}{md:Md}{t:TE}{u:TS}{al:Bool}{α:Type}[Rp K α]
end
end Ts
namespace L2
open PySem PySem.Spec PyProof.Rows
section
variable{X:Cx}
end
end L2
namespace Ts
open PySem L2
section
variable{K:PySem.W.Frag}{B:Bs}{sl:SL K}{md:Md}{t:TE}{α:Type}[Rp K α]
variable{S:Type}{n:Bool}{tb:TS}
end
end Ts
namespace L2
open PySem
open PySem PySem.Spec PyProof.Rows
def Its(x:Str):It:=⟨λi _=>i<x.cps.size,λi H v H'=>H'=H/\∃c,x.cps[i]?=some c/\v=.str ⟨#[c]⟩,λi _=>x.cps.size<=i⟩
theorem zLj{P:Program}{w:World}{K:PySem.W.Frag}{tg:Expr}(it:Addr)(x:Str)(t:Tok):Turn P w K tg (Its x) [it] it (λi h=>h.IsStrIter it "str_ascii_iterator" x t i) where
 mem:=mem_singleton.mpr rfl
 obj:=λi h st b hb=>by
  have e:b=it:=mem_singleton.mp hb
  subst e
  obtain⟨o,ho,hc,hd⟩:=st
  refine⟨o,ho,λv z=>?_⟩
  rw[hd] at z
  cases z
 keep:=λi h h' st k=>by
  obtain⟨o,ho,r⟩:=st
  exact⟨o,k it (mem_singleton.mpr rfl) _ ho,r⟩
 item:=by
  intro X hP hw hK hc i pins s σ H E I hf st hg
  subst hP hw hK
  obtain⟨f0,f1,f2,f3,f4,f5⟩:=hf it (mem_singleton.mpr rfl)
  refine(Walks.strAscii (prog:=X.prog) (w:=X.w) (I.ok.hd hc) it x t).item i s _ _ hg st λv h' tk hv st' kk=>?_
  obtain⟨c,u,hx,rfl⟩:=hv
  have I1:Inv X pins σ H { s with heap:=h',toks:=tk }:=I.turned (λb o hb e=>kk b o (λz=>hb (mem_singleton.mp z)) e) f0 f1 f3 f4 f5
  obtain⟨o,ho,hc,hd⟩:=id st'
  exact⟨_,rfl,Ld (s:={ s with heap:=h',toks:=tk }) (n:="str_ascii_iterator") ho hc hd (by decide) ⟨.str ⟨#[c]⟩,H,I1,⟨u,rfl⟩,⟨rfl,c,hx,rfl⟩,st',λb hb=>(hf b hb).1⟩⟩
 done:=by
  intro X hP hw hK hc i pins s σ H E I hf st hg
  subst hP hw hK
  obtain⟨f0,f1,f2,f3,f4,f5⟩:=hf it (mem_singleton.mpr rfl)
  exact wpAny_pyNext_ascii_end (I.ok.hd hc) st (aa2 hg) λh' eb=>⟨rfl,I.turned (t':=s.toks) (λb o hb e=>eb b o hb e) f0 f1 f3 f4 f5⟩
 self:=λ_ _ _ _ _ st h=>wpAny_pyIter_striter_ascii st h
theorem zNb{P:Program}{w:World}{K:PySem.W.Frag}{tg:Expr}(it:Addr)(x:Str)(t:Tok):Turn P w K tg (Its x) [it] it (λi h=>h.IsStrIter it "str_iterator" x t i) where
 mem:=mem_singleton.mpr rfl
 obj:=λi h st b hb=>by
  have e:b=it:=mem_singleton.mp hb
  subst e
  obtain⟨o,ho,hc,hd⟩:=st
  refine⟨o,ho,λv z=>?_⟩
  rw[hd] at z
  cases z
 keep:=λi h h' st k=>by
  obtain⟨o,ho,r⟩:=st
  exact⟨o,k it (mem_singleton.mpr rfl) _ ho,r⟩
 item:=by
  intro X hP hw hK hc i pins s σ H E I hf st hg
  subst hP hw hK
  obtain⟨f0,f1,f2,f3,f4,f5⟩:=hf it (mem_singleton.mpr rfl)
  refine(Walks.strWide (prog:=X.prog) (w:=X.w) (I.ok.hd hc) it x t).item i s _ _ hg st λv h' tk hv st' kk=>?_
  obtain⟨c,u,hx,rfl⟩:=hv
  have I1:Inv X pins σ H { s with heap:=h',toks:=tk }:=I.turned (λb o hb e=>kk b o (λz=>hb (mem_singleton.mp z)) e) f0 f1 f3 f4 f5
  obtain⟨o,ho,hc,hd⟩:=id st'
  exact⟨_,rfl,Ld (s:={ s with heap:=h',toks:=tk }) (n:="str_iterator") ho hc hd (by decide) ⟨.str ⟨#[c]⟩,H,I1,⟨u,rfl⟩,⟨rfl,c,hx,rfl⟩,st',λb hb=>(hf b hb).1⟩⟩
 done:=by
  intro X hP hw hK hc i pins s σ H E I hf st hg
  subst hP hw hK
  obtain⟨f0,f1,f2,f3,f4,f5⟩:=hf it (mem_singleton.mpr rfl)
  exact wpAny_pyNext_wide_end (I.ok.hd hc) st (aa2 hg) λh' eb=>⟨rfl,I.turned (t':=s.toks) (λb o hb e=>eb b o hb e) f0 f1 f3 f4 f5⟩
 self:=λ_ _ _ _ _ st h=>wpAny_pyIter_striter_wide st h
section
variable{X:Cx}{tg:Expr}
def O4(tl:TE):TI:=λσ H R=>tl σ H λx H1=>∃y,x=.str y/\R (Its y) H1
theorem Jf(hl:PE X l tl):PI X tg l (O4 tl):=by
 intro pins s σ H R I h
 refine aN (hl pins s σ H _ I h) λv s1 ⟨x,H1,I1,r1,q1⟩=>?_
 obtain⟨y,e,q⟩:=q1
 subst e
 obtain⟨t,rfl⟩:=r1
 have fp:∀b∈[s1.heap.objs.size],j5 X pins H1 b:=λb hb=>by
  have e:b=s1.heap.objs.size:=mem_singleton.mp hb
  subst e
  exact I1.lq (aaf _) (I1.hok.fresh (aaf _))
 cases ha:y.cps.all (· < 128)
 ·exact wpAny_pyIter_wide ha ⟨s1.heap.objs.size,[s1.heap.objs.size],_,_,H1,rfl,I1.kept (t':=s1.toks) λb o e=>get?_push_of_some _ e,zNb _ y t,⟨_,get?_push_size _ rfl,rfl,rfl⟩,fp,q⟩
 ·exact wpAny_pyIter_ascii ha ⟨s1.heap.objs.size,[s1.heap.objs.size],_,_,H1,rfl,I1.kept (t':=s1.toks) λb o e=>get?_push_of_some _ e,zLj _ y t,⟨_,get?_push_size _ rfl,rfl,rfl⟩,fp,q⟩
end
end L2
namespace Ts
open PySem L2
section
variable{K:PySem.W.Frag}{B:Bs}{sl:SL K}{md:Md}{t ta tb tc:TE}{n:Bool}
def O6(x:Str):List Str:=x.cps.toList.map λc=>(⟨#[c]⟩:Str)
theorem Jg(h:Ex B sl .hp t mi):Ei B sl n (O4 t) (mi.bind λx=>some (O6 x)):=λxs hx F O H σ R a k=>by
 cases mi with
 |none=>cases hx
 |some x =>
  cases(show some (O6 x)=some xs from hx)
  refine h x rfl F O H σ _ a λv F' H' gr r=>?_
  cases r
  refine⟨x,rfl,k _ F' H' gr λi F2 O2 H2 sf k2=>⟨λhl=>?_,λy hy=>?_⟩⟩
  ·show x.cps.size<=i
   unfold O6 at hl
   rw[length_map,length_toList] at hl
   exact hl
  ·unfold O6 at hy
   rw[getElem?_map,getElem?_toList] at hy
   cases e:x.cps[i]? with
   |none=>rw[e] at hy;cases hy
   |some c =>
    rw[e] at hy
    cases hy
    have hi:i<x.cps.size:=(Array.getElem?_eq_some_iff.mp e).1
    refine⟨hi,λv H3 yd=>?_⟩
    obtain⟨rfl,c',e',rfl⟩:=yd
    rw[e] at e'
    cases e'
    exact⟨F2,.refl k2,rfl⟩
theorem ZG{f g:Int->Int->Bool}(h1:Ex B sl .hp ta m1)(h2:Ex B sl .hp tb m2)(h3:Ex B sl .hp tc m3) :
  Ex B sl md (XQ (rA λi j=>.bl (f i j)) (rA λi j=>.bl (g i j)) ta tb tc) (m1.bind λa=>m2.bind λb=>if f a b=true then m3.bind λc=>some (g b c) else some false):=λd hd F O H σ Q s k=>by
 obtain⟨a,b,e1,e2,e3⟩:=rZ hd
 refine h1 a e1 F O H σ _ s λv F' H' g1 r1=>?_
 refine h2 b e2 F' O H' σ _ (s.grow g1) λw F2 H2 g2 r2=>?_
 cases r1
 cases r2
 refine⟨a,b,rfl,rfl,_,rfl,?_⟩
 by_cases q:f a b=true
 ·rw[if_pos q] at e3 ⊢
  cases m3 with
  |none=>cases e3
  |some c =>
   cases(show some (g b c)=some d from e3)
   refine h3 c rfl F2 O H2 σ _ ((s.grow g1).grow g2) λu F3 H3 g3 r3=>?_
   cases r3
   exact⟨b,c,rfl,rfl,k _ F3 H3 ((g1.trans g2).trans g3) rfl⟩
 ·rw[if_neg q] at e3 ⊢
  cases e3
  exact k _ F2 H2 (g1.trans g2) rfl
def Gf:List V->Hp->VK->Prop:=λxs H Q=>∃x:Str,xs=[.str x]/\x.length<cap/\Q (.int x.length) H
theorem zPv:rR X (.builtin "len") Gf:=by
 intro pins s σ H xs us Q I r h
 obtain⟨x,rfl,hl,q⟩:=h
 exact zSh pins s σ H _ us Q I r ⟨_,_,rfl,⟨ab4 (Ac hl),rfl⟩,q⟩
def Ck(x:Str):Option Int:=if x.length<cap then some (x.length:Int) else none
theorem Cm(h:Ex B sl .hp t m):Ex B sl md (z_ Gf (xG t cj)) (m.bind Ck):=λc hc F O H σ Q s k=>by
 cases m with
 |none=>cases hc
 |some x =>
  have hc:Ck x=some c:=hc
  unfold Ck at hc
  split at hc
  case isFalse=>cases hc
  rename_i hl
  cases hc
  refine h x rfl F O H σ _ s λv F' H' g r1=>?_
  cases r1
  exact⟨x,rfl,hl,k _ F' H' g rfl⟩
def Vl(i j:Str):Bool:=!(ac3 j i 0 j.length 1).isEmpty
abbrev Vm:R2:=λx y H Q=>∃i j,x=.str i/\y=.str j/\Q (.bl (!(ac3 j i 0 j.length 1).isEmpty)) H
theorem Jh(h1:Ex B sl .hp ta m1)(h2:Ex B sl .hp tb m2):Ex B sl md (mW Vm ta tb) (m1.bind λa=>m2.bind λb=>some (Vl a b)) :=
 Ab (f:=λa b=>some (Vl a b)) (λa b c v w H Q e r1 r2 q=>by
  cases e
  cases r1
  cases r2
  exact⟨a,b,rfl,rfl,q⟩) h1 h2
theorem Ji{ws:List Str}(hT:∀H,jV K H p (ws.map V.str))(h:Ex B sl .hp t m):Ex B sl md (mW (HX K false) t (tC (.ref p))) (m.bind λx=>some (decide (x∈ws))):=λc hc F O H σ Q s k=>by
 cases m with
 |none=>cases hc
 |some x =>
  cases(show some (decide (x∈ws))=some c from hc)
  refine h x rfl F O H σ _ s λv F' H' g r1=>?_
  cases r1
  refine⟨p,_,rfl,.inr (hT H'),Fl.flat (K:=K) x,Va (K:=K) ws,?_⟩
  have:=RD (K:=K) x ws
  simp only[aap,if_false]
  rw[show inV (V.str x) (ws.map V.str)=decide (x∈ws) from this]
  exact k _ F' H' g rfl
end
section
variable{P:Program}{w:World}{K:PySem.W.Frag}{mg:Str->Option Value}{base:Heap}{B:Bs}{sl:SL K}{al:Bool}{S β:Type}[Rp K β]
theorem xY:Sn B sl Tq L none:=λa ha=>by cases ha
theorem zQ3:SB B sl Tq al (none:Option β):=λa ha=>by cases ha
theorem RQ{A:Type}{as:A->SL K}{fM:A->Option Unit}(F:aY K x qual st f fd)(S:ao N ps (zI st))(hf:∀a,(as a).all isF=true)(hl:∀a,(as a).length=ps.length)(hb:∀(cdv:Value) (A:Around) (outer:List Env) (s:Shared) (H:Hp) (E:XK),bJ k (A.deeper (acy qual (zI st) s.heap.objs.size f cdv)) ->
   ∃t,pJ (mY aP P w K mg base N qual (zI st) f cdv A outer s H E).Ao (xX st) t/\∀Fa a,∃L:Unit->SL K,Sn ⟨Fa,H⟩ (as a++replicate (N.length-ps.length) .un) t L (fM a)) :
  au P w K mg base aP (k+1) f fd ps (cL K al as fM) :=
 F.ok S (λvs H Q E h=>Y_ hl h) λcdv A outer s H vs Q E hr h=>by
  obtain⟨t,p,q⟩:=hb cdv A outer s H E hr
  refine⟨t,p,?_⟩
  obtain⟨a,b,Fa,s,hfa,r,kk⟩:=h
  have e:L2.start N vs=vs.map some++replicate (N.length-ps.length) none:=by
   unfold L2.start
   rw[r.len,hl]
  rw[e]
  obtain⟨L,q⟩:=q Fa a
  exact q b hfa Fa _ _ H ⟨Fa,[],.refl _,⟨s,.refl _,λb o h=>.inl h,λx hx=>(by cases hx),(by simp)⟩,Y9 _ (hf a) r⟩ λσ' H' ⟨F',O',g,a'⟩=>kk .non H' a'.1.h0 rfl
def Jj(a:Str)(i:Int):Option Str:=if i.natAbs.log2<1920 then some (a++ac9 (toString i)) else none
def LK(a z:Str):Option Str:=if z.length<=1000 then some (a++z) else none
theorem ZJ(a:Str)(h:Ex B sl .hp t m):Ex B sl md (Us a t) (m.bind (Jj a)):=λc hc F O H σ Q s k=>by
 cases m with
 |none=>cases hc
 |some i =>
  have hc:Jj a i=some c:=hc
  unfold Jj at hc
  split at hc
  case isFalse=>cases hc
  rename_i hl
  cases hc
  refine h i rfl F O H σ _ s λv F' H' g r1=>?_
  cases r1
  exact .inl ⟨i,rfl,hl,k _ F' H' g rfl⟩
theorem Jk(a:Str)(h:Ex B sl .hp t m):Ex B sl md (Us a t) (m.bind (LK a)):=λc hc F O H σ Q s k=>by
 cases m with
 |none=>cases hc
 |some i =>
  have hc:LK a i=some c:=hc
  unfold LK at hc
  split at hc
  case isFalse=>cases hc
  rename_i hl
  cases hc
  refine h i rfl F O H σ _ s λv F' H' g r1=>?_
  cases r1
  exact .inr ⟨i,rfl,hl,k _ F' H' g rfl⟩
theorem O7:kitOne K (.type "str") (.type "str")=some true:=rfl
theorem Jl:bootBuiltins "str" = some (.type "str"):=by decide +kernel
end
section
variable{β:Type}
abbrev Gg(kvs:List (Key×β))(k:Str):Option β:=gK kvs (abn k)
def O8(kvs:List (Key×β))(k:Str)(v:β):Option (List (Key×β)):=if kvs.length<cap then some (pK kvs (abn k) v) else none
end
section
variable{K:PySem.W.Frag}{α:Type}[Rp K α]
variable{B:Bs}{sl:SL K}{md:Md}{t t2:TE}{F H G:Hp}{O:Own}{σ:St}{u:TS}{al:Bool}
theorem Cp{m:Option Str}{m2:Option (Dc α)}(h:Ex B sl .hp t m)(h2:Ex B sl .hp t2 m2):Ex B sl md (HJ t t2) (m.bind λk=>m2.bind λd=>some (Gg d.kv k).isSome):=λc hc F O H σ Q s kk=>by
 obtain⟨k,d,e1,e2,e3⟩:=rZ hc
 cases e3
 refine h k e1 F O H σ _ s λv F' H' g r1=>?_
 refine h2 d e2 F' O H' σ _ (s.grow g) λw F2 H2 g2 r2=>?_
 cases r1
 obtain⟨p,ks,rfl,z1,z2⟩:=r2
 refine⟨p,_,rfl,oF.k (k:=abn k) z1,?_⟩
 have e:(gB ks (abn k:Key)).isSome=(Gg d.kv k).isSome:=by
  rcases z2.val (k:=abn k) with⟨q1,q2⟩|⟨a,v,q1,q2,_⟩
  ·show _=(gK d.kv (abn k)).isSome;rw[q1,q2];rfl
  ·show _=(gK d.kv (abn k)).isSome;rw[q1,q2];rfl
 rw[e]
 exact kk _ F2 H2 (g.trans g2) rfl
theorem zQw{kvs:List (Key×α)}{m:Option α}{mi:Option Str}{te ti:TE}(i:Nat)(hs:sl[i]?=some (.od kvs))(hh:sl.all (λs=>!cP s)=true)(hv:Ex B sl .fz te m)(hi:Ex B sl .hp ti mi) :
  Sn B sl (u_ (c7 i) ti te) (λys=>sl.set i (.od ys)) (m.bind λa=>mi.bind λk=>O8 kvs k a):=λys ha G D σ H s k=>by
 obtain⟨a,ix,e1,e2,e3⟩:=rZ ha
 unfold O8 at e3
 split at e3
 case isFalse=>cases e3
 rename_i hl
 cases e3
 obtain⟨F,O,g,z⟩:=s
 refine hv a e1 F O H σ _ z λv F' H' gr r=>?_
 obtain⟨p,ks,h1,h2,h3,_⟩:=(z.grow gr).BL hs hh
 refine⟨_,h1,?_⟩
 refine hi ix e2 F' O H' σ _ (z.grow gr) λw F2 H2 rE rw=>?_
 cases rw
 obtain⟨p',ks',h1',h2',h3',h4'⟩:=((z.grow gr).grow rE).BL hs hh
 have e:=h1.symm.trans h1'
 cases e
 obtain⟨O',z'⟩:=h4' (putK ks' (abn ix) v) (pK kvs (abn ix) a) (h3'.put (Rp.mono rE.ff r))
 exact⟨p,_,rfl,rW.k (k:=abn ix) h2' (Ac (by rw[h3'.len];exact hl)),k _ _ ⟨F2,O',(g.trans gr.ff).trans rE.ff,z'⟩⟩
end
abbrev LLI:=List LI
abbrev Af:=List (Str×LI)
structure gC(p:Addr) where
 u:Unit
def RT(C:Addr)(fS:LLI->Option Unit)(fM:Af->Int->Option Unit)(fF:LLI->Int->Option Unit)(fC fO:LLI->Option LLI)(xss:LLI)(mo:Option Af)(fo:Option LLI):Option (aG C) :=
 (fS xss).bind λ_=>(fM (mo.getD []) (xss.length:Int)).bind λ_=>(fF (fo.getD []) (xss.length:Int)).bind λ_=>(fC xss).bind λa=>(yQ (λ_=>some true) (λx:Str×LI=>some (x.1,x.2)) (mo.getD [])).bind λb =>
  (fC (fo.getD [])).bind λc=>(fO a).bind λd=>some ⟨a,b,c,d⟩
theorem uY{α β:Type}{m:Option α}{f:α->Option β}{b:β}(h:m.bind f=some b):∃a,m=some a/\f a=some b:=by
 cases m with
 |none=>cases h
 |some a=>exact⟨a,rfl,h⟩
section
variable{K:PySem.W.Frag}{C:Addr}{B:Bs}{sl:SL K}{F H:Hp}{O:Own}{σ:St}
instance:Rp K (gC p):=⟨λ_ v _=>v=.ref p,λ_ h=>h⟩
def O9(K:PySem.W.Frag)(C:Addr)(mk:LLI->Option Af->Option LLI->Option (aG C)):Sp:=λvs H Q _=>∃(p dx:Addr)(vS vM vF:V)(xss:LLI)(mo:Option Af)(fo:Option LLI)(M:aG C),vs=[.ref p,vS,vM,vF]/\H p=some (.ins C dx []) /\
 rp K (hid H p) vS xss/\rp K (hid H p) vM mo/\rp K (hid H p) vF fo/\mk xss mo fo=some M/\∀H':Hp,(∀b o,b≠p->H b=some o->H' b=some o)->rp K (dif H' (hid H p)) (.ref p) M->Q .non H'
variable{mk:LLI->Option Af->Option LLI->Option (aG C)}
theorem zQt{H1:Hp}{x dx:Addr}(nx:H1 x=none)(ndx:H1 dx=none){vS vM vF:V}{xss:LLI}{mo:Option Af}{fo:Option LLI}{c:aG C}(rS:rp K H1 vS xss)(rM:rp K H1 vM mo)(rF:rp K H1 vF fo)(hc:mk xss mo fo=some c){Q:VK}{E:XK}(k:∀H2:Hp,Same H1 H2->rp K (dif H2 H1) (.ref x) c->Q (.ref x) H2):O9 K C mk [.ref x,vS,vM,vF] (upd (upd H1 dx (.own x)) x (.ins C dx [])) (λv H2=>v=.non/\Q (.ref x) H2) E:=by
 have sG:Same H1 (upd (upd H1 dx (.own x)) x (.ins C dx [])):=λb o e=>by rw[zO (zL e nx),zO (zL e ndx)];exact e
 have sh:Same H1 (hid (upd (upd H1 dx (.own x)) x (.ins C dx [])) x):=λb o e=>by
  unfold hid
  rw[if_neg (zL e nx)]
  exact sG b o e
 refine⟨x,dx,vS,vM,vF,xss,mo,fo,c,rfl,zM,Rp.mono sh rS,Rp.mono sh rM,Rp.mono sh rF,hc,λH2 kp r2=>⟨rfl,?_⟩⟩
 refine k H2 (λb o e=>kp b o (zL e nx) (sG b o e)) (Rp.mono (λb o e=>?_) r2)
 have hb:H1 b=none:=by
  cases q:H1 b with
  |none=>rfl
  |some u =>
   have:hid (upd (upd H1 dx (.own x)) x (.ins C dx [])) x b=some u:=sh b u q
   unfold dif at e
   rw[this] at e
   cases e
 rw[uL hb]
 exact aV _ _ e
theorem zPj(h1:Ex B sl .hp t1 m1)(h2:Ex B sl .hp t2 m2)(h3:Ex B sl .hp t3 m3) :
  En B sl (Ra C (O9 K C mk) [] E0 (xG t1 (xG t2 (xG t3 cj)))) (m1.bind λa=>m2.bind λb=>m3.bind λc=>mk a (some b) (some c)):=λc hc F O H σ Q s kk=>by
 obtain⟨a,rfl,hc⟩:=uY (m:=m1) hc
 obtain⟨b,rfl,hc⟩:=uY (m:=m2) hc
 obtain⟨d,rfl,hc⟩:=uY (m:=m3) hc
 refine h1 a rfl F O H σ _ s λv1 F1 H1 g1 r1=>?_
 refine h2 b rfl F1 O H1 σ _ (s.grow g1) λv2 F2 H2 g2 r2=>?_
 refine h3 d rfl F2 O H2 σ _ ((s.grow g1).grow g2) λv3 F3 H3 g3 r3=>?_
 intro x dx nx ndx nex
 have r2':rp K H2 v2 b:=r2
 have r3':rp K H3 v3 d:=r3
 exact zQt nx ndx (Rp.mono (g2.hh.trans g3.hh) r1) (show rp K H3 v2 (some b) from⟨Nn.nn (K:=K) r2',Rp.mono g3.hh r2⟩) (show rp K H3 v3 (some d) from⟨Nn.nn (K:=K) r3',r3⟩) hc λH4 s4 r4=>kk _ F3 H3 H4 (g1.trans (g2.trans g3)) s4 r4
theorem Jm(h:b≠p):hid H p b=H b:=by unfold hid;rw[if_neg h]
theorem LQ:hid H p p=none:=by unfold hid;rw[if_pos rfl]
theorem O_:Same (hid H p) H:=λb o e=>by
 by_cases q:b=p
 ·subst q;rw[LQ] at e;cases e
 ·rw[Jm q] at e;exact e
theorem LR(s:Same H H'):Same (hid H p) (hid H' p):=λb o e=>by
 by_cases q:b=p
 ·subst q;rw[LQ] at e;cases e
 ·rw[Jm q] at e ⊢;exact s b o e
theorem Gh:hid (upd H p o) p=hid H p:=by
 funext b
 by_cases q:b=p
 ·subst q;rw[LQ,LQ]
 ·rw[Jm q,Jm q,zO q]
theorem RV(kp:∀b o,b≠p->H b=some o->Hi b=some o)(hp:Hi p≠none):Same (dif H' Hi) (dif (hid H' p) (hid H p)):=λb o e=>by
 have hb:Hi b=none:=by
  cases q:Hi b with
  |none=>rfl
  |some u=>unfold dif at e;rw[q] at e;cases e
 have nb:b≠p:=λq=>hp (by rw[<-q];exact hb)
 rw[uL hb] at e
 have h0:hid H p b=none:=by
  rw[Jm nb]
  cases q:H b with
  |none=>rfl
  |some u=>rw[kp b u nb q] at hb;cases hb
 rw[uL h0,Jm nb]
 exact e
theorem ZK(hs:ak (K:=K) ⟨hid Hi p,Hi⟩ (hid Hi p) (lo (hid Hi p) [] Hi) Hi sl σ []):At (K:=K) ⟨hid Hi p,Hi⟩ sl (hid Hi p) [] Hi σ :=
 ⟨⟨O_,.refl _,λb o h=>.inl h,λx hx=>(by cases hx),by simp⟩,hs⟩
end
end Ts
namespace pU
open PySem
def Rz(xs:Array Nat):Prop:=∀i k a b:Nat,i<k->xs[i]?=some a->xs[k]?=some b->a<b
theorem Vn(hr:Rz xs):∀(fuel lo hi:Nat),hi-lo<=fuel->lo<=hi->hi<=xs.size->(∀i a,i<lo->xs[i]?=some a->a<j)->(∀i a,hi<=i->xs[i]?=some a->j<=a) ->
  (below.go xs j fuel lo hi)<=xs.size/\(∀i a,i<below.go xs j fuel lo hi->xs[i]?=some a->a<j)/\(∀i a,below.go xs j fuel lo hi<=i->xs[i]?=some a->j<=a)
 |0,lo,hi,hf,hl,hz,h1,h2=>by
  have e:lo=hi:=by omega
  subst e
  unfold below.go
  exact⟨hz,h1,h2⟩
 |fuel+1,lo,hi,hf,hl,hz,h1,h2=>by
  unfold below.go
  by_cases hlt:lo<hi
  ·rw[if_pos hlt]
   have hm:(lo+hi)/2<hi:=by omega
   have hm0:lo<=(lo+hi)/2:=by omega
   have hms:(lo+hi)/2<xs.size:=by omega
   have e:xs.getD ((lo+hi)/2) j=xs[(lo+hi)/2]:=by simp[Array.getD,hms]
   dsimp only
   rw[e]
   by_cases hc:xs[(lo+hi)/2]<j
   ·rw[if_pos hc]
    refine Vn hr fuel _ hi (by omega) (by omega) hz (λi a hi' ha=>?_) h2
    by_cases hi2:i=(lo+hi)/2
    ·subst hi2
     rw[aah hms] at ha
     cases ha
     exact hc
    ·exact ac8 (hr i ((lo+hi)/2) a _ (by omega) ha (aah hms)) hc
   ·rw[if_neg hc]
    refine Vn hr fuel lo _ (by omega) (by omega) (by omega) h1 (λi a hi' ha=>?_)
    by_cases hi2:i=(lo+hi)/2
    ·subst hi2
     rw[aah hms] at ha
     cases ha
     omega
    ·have:=hr ((lo+hi)/2) i _ a (by omega) (aah hms) ha
     omega
  ·rw[if_neg hlt]
   have e:lo=hi:=by omega
   subst e
   exact⟨hz,h1,h2⟩
theorem Vo(hr:Rz xs)(j:Nat):below xs j<=xs.size/\(∀i a,i<below xs j->xs[i]?=some a->a<j)/\(∀i a,below xs j<=i->xs[i]?=some a->j<=a) :=
 Vn hr xs.size 0 xs.size (by omega) (aa0 _) (aaf _) (λi a h=>absurd h (ad5 _)) (λi a h1 h2=>by
  rw[aa2 h1] at h2
  cases h2)
theorem Jo{α:Type}(xs:Array α)(p:Nat)(x:α)(hp:p<=xs.size)(i:Nat):(insertAt xs p x)[i]?=if i<p then xs[i]? else if i=p then some x else xs[i-1]?:=by
 have e:insertAt xs p x=(xs.toList.take p++x::xs.toList.drop p).toArray:=by
  unfold insertAt
  apply Array.ext'
  simp
  rw[List.take_of_length_le (by rw[length_drop,length_toList];exact aaf _)]
 rw[e,getElem?_toArray]
 have hl:p<=xs.toList.length:=by simpa using hp
 by_cases h1:i<p
 ·rw[if_pos h1,getElem?_append_left (by rw[length_take];omega),getElem?_take_of_lt h1,getElem?_toList]
 ·rw[if_neg h1,getElem?_append_right (by rw[length_take];omega),length_take,Nat.min_eq_left hl]
  by_cases h2:i=p
  ·subst h2;simp
  ·rw[if_neg h2]
   obtain⟨k,rfl⟩:∃k,i=p+1+k:=⟨i-(p+1),by omega⟩
   rw[show p+1+k-p=k+1 by omega,List.getElem?_cons_succ,List.getElem?_drop,getElem?_toList]
   congr 1
   omega
theorem Jp(hr:Rz xs)(hn:xs[below xs j]?≠some j):Rz (insertAt xs (below xs j) j):=by
 obtain⟨b1,b2,b3⟩:=Vo hr j
 intro i k a b hik ha hb
 rw[Jo _ _ _ b1] at ha hb
 generalize below xs j=p at *
 have up:∀m c,p<=m->xs[m]?=some c->j<c:=λm c hm hc=>by
  have h1:=b3 m c hm hc
  by_cases e:m=p
  ·subst e
   have:c≠j:=λz=>hn (by rw[hc,z])
   omega
  ·have hp:p<xs.size:=by
    have:m<xs.size:=by
     by_cases z:m<xs.size
     ·exact z
     ·rw[aa2 (by omega)] at hc;cases hc
    omega
   have h2:=hr p m _ c (by omega) (aah hp) hc
   have h3:=b3 p _ (aaf _) (aah hp)
   omega
 by_cases i1:i<p
 ·rw[if_pos i1] at ha
  have ja:=b2 i a i1 ha
  by_cases k1:k<p
  ·rw[if_pos k1] at hb;exact hr i k a b hik ha hb
  ·rw[if_neg k1] at hb
   by_cases k2:k=p
   ·rw[if_pos k2] at hb;cases hb;exact ja
   ·rw[if_neg k2] at hb
    exact ac8 ja (up (k-1) b (by omega) hb)
 ·rw[if_neg i1] at ha
  have k1:¬k<p:=by omega
  have k2:¬k=p:=by omega
  rw[if_neg k1,if_neg k2] at hb
  by_cases i2:i=p
  ·rw[if_pos i2] at ha;cases ha;exact up (k-1) b (by omega) hb
  ·rw[if_neg i2] at ha
   exact hr (i-1) (k-1) a b (by omega) ha hb
def Free(t:SetTable)(j:Nat):Prop:=t.place[below t.place j]?≠some j
theorem ZL{t:SetTable}(h:∀i,t.slot j≠.live i):Free t j:=λe=>by
 refine h (below t.place j) ?_
 unfold SetTable.slot
 simp[e]
theorem Vp:∀(fuel:Nat)(p:SetTable.Probe)(j:Nat)(d:Option Nat),(∀d,p.dummy=some d->Free t d)->probe.go t f h fuel p=some (.empty j d)->Free t j/\∀e,d=some e->Free t e
 |0,p,j,d,hd,e=>by unfold probe.go at e;cases e
 |fuel+1,p,j,d,hd,e=>by
  have ZM:∀q:SetTable.Probe,(t.advance q).dummy=q.dummy:=λq=>by
   unfold SetTable.advance
   split
   ·rfl
   ·rfl
  unfold probe.go at e
  cases hs:t.slot p.j with
  |empty =>
   rw[hs] at e
   cases e
   exact⟨ZL (λi z=>by rw[hs] at z;cases z),hd⟩
  |dummy =>
   rw[hs] at e
   refine Vp fuel _ j d (λd' h'=>?_) e
   rw[ZM] at h'
   cases h'
   exact ZL λi z=>by rw[hs] at z;cases z
  |live i =>
   rw[hs] at e
   dsimp only at e
   split at e
   ·cases e
   ·exact Vp fuel _ j d (λd' h'=>hd d' (by rw[ZM] at h';exact h')) e
theorem zGm{t:SetTable}(e:t.freeSlot h=some (j,b)):Free t j:=by
 unfold SetTable.freeSlot at e
 split at e
 ·rename_i j' d hp
  cases e
  have q:=Vp (t:=t) _ _ j' d (λd h'=>by cases h') hp
  cases d with
  |none=>exact q.1
  |some d=>exact q.2 d rfl
 ·cases e
structure Tb(led:Bool)(t:SetTable):Prop where
 led:t.led=led
 rz:t.plain=true->Rz t.place
theorem RW(h:Tb led t)(n:Nat):Tb led (t.standIn n):=⟨h.led,λz=>by cases z⟩
theorem Pa(h:Tb led t)(n:Nat):Tb led (t.orStandIn n):=by
 unfold SetTable.orStandIn
 split
 ·exact h
 ·exact RW h n
theorem Jq(hb:Tb led t)(es:Array (Int×Value))(h:Int)(x:Value):Tb led (layNew t es h x).2.1:=by
 unfold layNew
 cases e:t.freeSlot h with
 |none=>exact RW hb _
 |some q =>
  obtain⟨j,b⟩:=q
  dsimp only
  refine Pa (t:=(t.put j).1) ⟨hb.led,λz=>?_⟩ _
  exact Jp (hb.rz z) (zGm e)
theorem ZP(f:Nat->Option Nat)(n:Nat):Rz (((aar n).filterMap λj=>(f j).map (j,·)).map (·.1)).toArray:=by
 have hp:(((aar n).filterMap λj=>(f j).map (j,·)).map (·.1)).Pairwise (· < ·):=by
  rw[List.pairwise_map]
  refine Pairwise.filterMap _ ?_ (List.pairwise_lt_range (n:=n))
  intro a b hab x hx y hy
  cases ea:f a with
  |none=>rw[ea] at hx;cases hx
  |some u =>
   cases eb:f b with
   |none=>rw[eb] at hy;cases hy
   |some v =>
    rw[ea] at hx
    rw[eb] at hy
    cases hx
    cases hy
    exact hab
 intro i k a b hik ha hb
 rw[getElem?_toArray] at ha hb
 obtain⟨h1,e1⟩:=aao.mp ha
 obtain⟨h2,e2⟩:=aao.mp hb
 rw[<-e1,<-e2]
 exact List.pairwise_iff_getElem.mp hp i k h1 h2 hik
theorem zQn(hb:Tb led t)(es:Array (Int×Value))(n:Nat):Tb led (relayAll t es n).2.1:=by
 unfold relayAll
 cases e:t.relaid (es.map (·.1)) n with
 |none=>exact RW hb _
 |some q =>
  obtain⟨t',order⟩:=q
  dsimp only
  split
  ·unfold SetTable.relaid SetTable.laid at e
   cases e2:SetTable.layClean (SetTable.sizeAbove n-1) (es.map (·.1)) with
   |none=>rw[e2] at e;cases e
   |some owner =>
    rw[e2] at e
    cases e
    exact⟨hb.led,λ_=>ZP _ _⟩
  ·exact RW hb _
theorem zQo(led:Bool):Tb led (.fresh 0 0 led):=⟨rfl,λ_=>λi k a b _ h _=>by
 have:(#[]:Array Nat)[i]?=some a:=h
 simp at this⟩
section
variable{prog:Program}{w:World}{κ:Type}[DecidableEq κ](knd:KeyKind prog w κ)(dec:Value->κ)
def Good(led:Bool)(h:Heap)(a:Addr)(ks:List κ):Prop :=
 ∃o es ep t,h.get? a=some o/\o.ExactSet/\o.data=.set es ep t/\ElemsOf knd es.toList/\(es.toList.map λe=>dec e.2).Perm ks/\ks.Nodup/\es.size<scanBound/\t.fits es.size=true/\Tb led t
variable{knd}{dec}{led:Bool}{A:Around}{E:Value->Shared->Prop}{s:Shared}
theorem Good.len(g:Good knd dec led h a ks):ks.length<scanBound:=by
 obtain⟨o,es,ep,t,_,_,_,_,p,_,hb,_⟩:=g
 rw[<-p.length_eq,length_map,length_toList]
 exact hb
theorem Good.keep{h':Heap}(g:Good knd dec led h a ks)(k:∀o,h.get? a=some o->h'.get? a=some o):Good knd dec led h' a ks:=by
 obtain⟨o,es,ep,t,h1,rest⟩:=g
 exact⟨o,es,ep,t,k _ h1,rest⟩
theorem ZQ(hdec:∀k v,knd.is k v=true->dec v=k)(hel:ElemsOf knd es)(k:κ):es.findIdx? (λe=>knd.is k e.2)=none↔k∉es.map λe=>dec e.2:=by
 rw[List.findIdx?_eq_none_iff]
 constructor
 ·intro h hm
  obtain⟨e,he,rfl⟩:=mem_map.mp hm
  obtain⟨⟨k',hk,_⟩,_⟩:=hel e he
  have:=h e he
  rw[hdec k' _ hk,hk] at this
  cases this
 ·intro h e he
  cases q:knd.is k e.2 with
  |false=>rfl
  |true=>exact absurd (mem_map.mpr ⟨e,he,hdec _ _ q⟩) h
theorem Gi{h:Heap}(ho:h.get? a=some o)(hd:o.data=.set es ep t):(h.update a (aei es' t')).get? a=some { o with data:=.set es' (ep+1) t' }:=by
 have q:=get?_update_self (aei es' t') ho (by rw[putSet_of es' t' hd];rfl)
 rw[putSet_of es' t' hd] at q
 exact q
theorem Vq{Q:Unit->Shared->Prop}(h:Q () s1):wpAny (model prog w) A (match b with|true=>rule "set.scan.the-table-gave-way" | false=>pure ()) Q E s1:=by
 cases b
 ·exact aae h
 ·exact adg h
theorem ZR{g:Bool->Sem Unit}(hg:∀(b:Bool) (s₁:Shared) (Q':Unit->Shared->Prop),Q' () s₁->wpAny (model prog w) A (g b) Q' E s₁){es1:Array (Int×Value)}{t2:SetTable}{R:Option Bool->Shared->Prop}(ho:s.heap.get? a=some o)(hx:o.ExactSet)(hd:o.data=.set es ep t)(hel:ElemsOf knd es1.toList)(hp:(es1.toList.map λe=>dec e.2).Perm ks)(nd:ks.Nodup)(hb:es1.size<scanBound)(hf:t2.fits es1.size=true)(tb:Tb led t2)(h:∀h',SameBut a s.heap h'->Good knd dec led h' a ks->R (some true) { s with heap:=h' }) :
  wpAny (model prog w) A (storeSet a es1 t2 >>= λ_=>if(!Pb&&t2.tooFull)=true then(g (relayAll t2 es1 (grown es1.size)).2.2 >>= λ_=>storeSet a (relayAll t2 es1 (grown es1.size)).1 (relayAll t2 es1 (grown es1.size)).2.1 >>= λ_=>pure (some true)) else pure (some true)) R E s:=by
 refine aac (aby ho hd ?_ (abx hb))
 have o1:=Gi (es':=es1) (t':=t2) ho hd
 have sb:=SameBut.update s.heap a (aei es1 t2)
 split
 ·have rp:=relayAll_perm t2 es1 (grown es1.size)
  have rf:=relayAll_fits t2 es1 (grown es1.size)
  have rt:=zQn tb es1 (grown es1.size)
  generalize relayAll t2 es1 (grown es1.size)=L at rp rf rt ⊢
  obtain⟨es2,t3,gv⟩:=L
  dsimp only at rp rf rt ⊢
  have sz:es2.size=es1.size:=by rw[<-length_toList,rp.length_eq,length_toList]
  refine aac (hg _ _ _ (aac (aby o1 rfl (aae (h _ (sb.trans (SameBut.update _ a _)) ⟨_,es2,_,t3,Gi (es':=es2) (t':=t3) o1 rfl,hx,rfl,hel.perm rp,(rp.map _).trans hp,nd,by rw[sz];exact hb,rf,rt⟩)) (abx (by rw[sz];exact hb)))))
 ·exact aae (h _ sb ⟨_,es1,_,t2,o1,hx,rfl,hel,hp,nd,hb,hf,tb⟩)
theorem Jr(h:Tb led t):Tb led { t with plain:=false }:=⟨h.led,λz=>by cases z⟩
theorem Vr(hdec:∀k v,knd.is k v=true->dec v=k){Q:Bool->Shared->Prop}(hk:knd.is k x=true)(hs:x.scannable=true)(g:Good knd dec led s.heap a ks)(room:ks.length+1<scanBound)(h:∀(h':Heap) (b:Bool),SameBut a s.heap h'->Good knd dec led h' a (if k∈ks then ks else k::ks)->Q b { s with heap:=h' }) :
  wpAny (model prog w) A (setAddHashed a x (knd.hash k)) Q E s:=by
 obtain⟨o,es,ep,t,ho,hx,hd,hel,hp,nd,hb,hf,tb⟩:=g
 have n:es.size=ks.length:=by rw[<-hp.length_eq,length_map,length_toList]
 unfold setAddHashed setAddHashedIn
 refine aa9 (aac (aat ho hd hf ?_))
 dsimp only
 rw[byScan_of hs hb hel]
 simp only[↓reduceIte]
 unfold setAddByScan
 refine aac (aac (adg (aac (wpAny_setScan_of hk ho hd hf hel ?_))))
 have fi:=ZQ hdec hel k
 cases hr:List.findIdx? (λe=>knd.is k e.2) es.toList with
 |some j =>
  have hm:k∈ks:=by
   refine hp.mem_iff.mp (Classical.byContradiction λz=>?_)
   rw[fi.mpr z] at hr
   cases hr
  dsimp only
  refine aae (aae ?_)
  have q:=h s.heap false (SameBut.refl a s.heap)
  rw[if_pos hm] at q
  exact q ⟨o,es,ep,t,ho,hx,hd,hel,hp,nd,hb,hf,tb⟩
 |none =>
  have hm:k∉ks:=λz=>fi.mp hr (hp.mem_iff.mpr z)
  dsimp only
  have lp:=layNew_perm t es (knd.hash k) x
  have lf:=layNew_fits t es (knd.hash k) x
  have lt:=Jq tb es (knd.hash k) x
  generalize layNew t es (knd.hash k) x=L at lp lf lt ⊢
  obtain⟨es1,t1,Pb,gave⟩:=L
  dsimp only at lp lf lt ⊢
  rw[Array.toList_push] at lp
  have sz:es1.size=es.size+1:=by rw[<-length_toList,lp.length_eq,length_append,length_toList];rfl
  have hp1:(es1.toList.map λe=>dec e.2).Perm (k::ks):=by
   refine(lp.map _).trans ?_
   rw[map_append]
   show(_++[dec x]).Perm _
   rw[hdec k x hk]
   exact Perm.trans (l₂:=k::es.toList.map λ(e:Int×Value)=>dec e.2) List.perm_append_comm (hp.cons k)
  have fin:∀h',SameBut a s.heap h'->Good knd dec led h' a (k::ks)->Q true { s with heap:=h' }:=λh' sb g'=>by
   have q:=h h' true sb
   rw[if_neg hm] at q
   exact q g'
  have ZS:(k::ks).Nodup:=nodup_cons.mpr ⟨hm,nd⟩
  refine aac (Vq ?_)
  split
  ·refine aac ?_
   rw[hashByValue_scannable 8 hs]
   refine aae ?_
   refine ZR (led:=led) (Pb:=Pb) (λb s₁ Q' hq=>Vq hq) ho hx hd ((hel.push hk hs).perm lp) hp1 ZS (by rw[sz,n];exact room) ?_ ?_ λh' sb g'=>?_
   ·split
    ·exact lf
    ·exact SetTable.fits_plain_off lf
   ·split
    ·exact lt
    ·exact Jr lt
   ·exact aae (fin h' sb g')
  ·refine aac (aae ?_)
   simp only[↓reduceIte]
   refine ZR (led:=led) (Pb:=Pb) (λb s₁ Q' hq=>Vq hq) ho hx hd ((hel.push hk hs).perm lp) hp1 ZS (by rw[sz,n];exact room) lf lt λh' sb g'=>?_
   exact aae (fin h' sb g')
end
open PySem PySem.Spec PyProof.Rows
section
variable{κ:Type}[DecidableEq κ]
def met(val:Nat->κ):Nat->List κ
 |0=>[]
 |i+1=>if val i∈met val i then met val i else val i::met val i
theorem ZV(val:Nat->κ):∀i,(met val i).length<=i
 |0=>aaf _
 |i+1=>by
  have ih:=ZV val i
  unfold met
  split
  ·omega
  ·rw[length_cons];omega
theorem ZW(val:Nat->κ)(k:κ):∀i,k∈met val i↔∃j,j<i/\val j=k
 |0=>by simp[met]
 |i+1=>by
  have ih:=ZW val k i
  have lt:(∃j,j<i+1/\val j=k)↔(∃j,j<i/\val j=k)\/val i=k:=by
   constructor
   ·rintro⟨j,hj,e⟩
    by_cases q:j=i
    ·subst q;exact .inr e
    ·exact .inl ⟨j,by omega,e⟩
   ·rintro(⟨j,hj,e⟩|e)
    ·exact⟨j,by omega,e⟩
    ·exact⟨i,by omega,e⟩
  rw[lt,<-ih]
  show k∈(if val i∈met val i then met val i else val i::met val i)↔_
  split
  ·rename_i hm
   exact⟨.inl,λh=>h.elim id λe=>e▸hm⟩
  ·rw[mem_cons]
   exact⟨λh=>h.elim (λe=>.inr e.symm) .inl,λh=>h.elim .inr λe=>.inl e.symm⟩
variable{prog:Program}{w:World}{knd:KeyKind prog w κ}{dec:Value->κ}{led:Bool}{A:Around}{R:Result->Shared->Prop}{I:Addr}{fp wr:List Addr}{G:Array GenState->Array GenState->Prop}{n:Nat}{P:Nat->Value->Prop}{St:Nat->Shared->Prop}
theorem Cq(hdec:∀k v,knd.is k v=true->dec v=k)(W:WalksS prog w A.in1 I fp wr G n P St)(S:Addr)(off:S∉fp)(val:Nat->κ)(hval:∀i v,P i v->knd.is (val i) v=true/\v.scannable=true)(hb:n+1<scanBound) :
  ∀(k i:Nat)(s:Shared),n-i=k->i<=n->St i s->Good knd dec led s.heap S (met val i)->(∀s',Moved (S::wr) G s s'->Good knd dec led s'.heap S (met val n)->R (.ok (.ret .none)) s')->codeAny (model prog w) A (.builtin "set.update.loop" ⟨[.ref S,.ref I],[]⟩) R s:=by
 have Pg:S∉wr:=λh=>off (W.sub _ h)
 have sub:∀b∈wr,b∈S::wr:=λb hb=>mem_cons_of_mem _ hb
 intro k
 induction k with
 |zero =>
  intro i s hk hi st g fin
  have e:i=n:=by omega
  subst e
  refine ach F.entry_set_update_loop ?_
  rw[ab1 ac5 _]
  refine aac (m:=pyNext (.ref I)) (W.done s _ _ st λs' hm=>?_)
  exact aae (fin s' (hm.mono sub) (g.keep λo h=>hm.heap S o Pg h))
 |succ k ih =>
  intro i s hk hi st g fin
  have lt:i<n:=by omega
  refine ach F.entry_set_update_loop ?_
  rw[ab1 ac5 _]
  refine aac (m:=pyNext (.ref I)) (W.item i s _ _ lt st λv s' hP st' hm=>?_)
  obtain⟨his,hsc⟩:=hval i v hP
  refine aac (m:=holding [v] (setAdd S v)) (aa9 ?_)
  unfold setAdd
  refine aa9 (aac (knd.pyHash (k:=val i) his ?_))
  refine Vr (led:=led) (s:={ s' with toks:=s'.toks+1 }) hdec his hsc (g.keep λo h=>hm.heap S o Pg h) (by have:=ZV val i;omega) λh' b sb g'=>?_
  refine aae ⟨adi ac5 _,ih (i+1) _ (by omega) lt (W.frame _ s' _ _ st' (abt _) λb hb o e=>?_) g' λs'' hm'' g''=>?_⟩
  ·rw[sb.2 b (λh:b=S=>off (by rw[<-h];exact hb))];exact e
  ·refine fin s'' (Moved.trans W.gtrans ((hm.mono sub).then_heap (abt _) λb o hb e=>?_) hm'') g''
   rw[sb.2 b (λh:b=S=>hb (h▸mem_cons_self))];exact e
end
section
variable{prog:Program}{w:World}{A:Around}{E:Value->Shared->Prop}{s:Shared}
def zU(w:World):Bool:=!w.params.followText "set-order"
theorem zRs(a:Value){Q₁:Value->Shared->Prop}(h:Q₁ (.ref s.heap.objs.size) { s with heap:=s.heap.push { cls:=.type "set",dict:=none,data:=.set #[] 0 (.fresh 0 0 (zU w)) } }) :
  codeAny (model prog w) A (.call (.builtin "set.__new__") ⟨[.type "set",a],[]⟩) (wants Q₁ E) s:=by
 refine codeAny_of_tree (aac (m:=checkBuiltinCall "set.__new__" ⟨[.type "set",a],[]⟩) (wpAny_of_eq (F.newCall_set_1 a) (aae ⟨adi F.plain_set_new _,ach F.entry_set_new ?_⟩)))
 rw[ab1 F.plain_set_new _]
 unfold Builtin.«set.__new__» Builtin.Frozenset.newClass
 have sub:=ad4
 obtain⟨hp,g,d,tk,os⟩:=s
 dsimp only
 wp_walk
 refine acv (aae ?_)
 dsimp only
 simp only[newObj]
 exact aac (wpAny_alloc (aae (aae h)))
theorem Ph{κ:Type}[DecidableEq κ]{knd:KeyKind prog w κ}{dec:Value->κ}{h:Heap}(e:h.get? a=some { cls:=.type "set",dict:=none,data:=.set #[] 0 (.fresh 0 0 led) }):Good knd dec led h a [] :=
 ⟨_,#[],0,.fresh 0 0 led,e,⟨rfl,rfl,rfl⟩,rfl,λx hx=>by simp at hx,by simp,List.nodup_nil,by show 0<4096;decide,by cases led<;>rfl,zQo led⟩
set_option maxHeartbeats 4000000 in
theorem zSg{κ:Type}[DecidableEq κ]{knd:KeyKind prog w κ}{dec:Value->κ}(hdec:∀k v,knd.is k v=true->dec v=k){Q:Value->Shared->Prop}(val:Nat->κ)(hh:A.handled=none)(hl:s.heap.IsList l items)(hi:∀(i:Nat) (v:Value),items[i]?=some v->knd.is (val i) v=true/\v.scannable=true)(hb:items.size+1<scanBound)(h:∀(h':Heap) (tk:Nat),Good knd dec (zU w) h' s.heap.objs.size (met val items.size)->(∀b o,b<s.heap.objs.size->s.heap.get? b=some o->h'.get? b=some o)->Q (.ref s.heap.objs.size) { s with heap:=h',toks:=tk }) :
  wpAny (model prog w) A (call (.type "set") [.ref l]) Q E s:=by
 obtain⟨c,tl,hmro⟩:=F.called_set.mro
 have hmade:=F.called_set.made
 have hsub:=F.called_set.sub
 refine wpAny_call (codeAny_of_tree (aae ⟨Code.quiet_builtin _ (by decide +kernel),ach F.entry_type_call ?_⟩))
 rw[Around.under_plain (weight_type_call_type "set" [.ref l] []) rfl]
 have h1:=F.called_set.notType
 have h2:=F.called_set.canCreate
 have hct:=F.typeCall_set_1 (.ref l)
 repeat(any_goals (first|assumption|wp_step))
 refine acu (zRs (.ref l) (E:=E) (Q₁:=λobj s₁=>obj=.ref s.heap.objs.size/\s₁={ s with heap:=s.heap.push { cls:=.type "set",dict:=none,data:=.set #[] 0 (.fresh 0 0 (zU w)) } }) ⟨rfl,rfl⟩) λr s₁ hr=>?_
 cases r with
 |error e=>exact hr
 |ok fl =>
  cases fl with
  |ret obj =>
   obtain⟨rfl,rfl⟩:=hr
   have hS:(s.heap.push { cls:=.type "set",dict:=none,data:=.set #[] 0 (.fresh 0 0 (zU w)) }).get? s.heap.objs.size=some { cls:=.type "set",dict:=none,data:=.set #[] 0 (.fresh 0 0 (zU w)) }:=get?_push_size _ rfl
   have hT:Shared.TypeIs { s with heap:=s.heap.push { cls:=.type "set",dict:=none,data:=.set #[] 0 (.fresh 0 0 (zU w)) } } (.ref s.heap.objs.size) "set":=⟨_,hS,rfl⟩
   have hli:=F.called_set.init.lookup
   have hbi:=F.called_set.init.bind (.ref s.heap.objs.size)
   repeat(any_goals (first|assumption|wp_step))
   refine acu (codeAny_call_builtin (R:=wants (λr s₂=>r=.none/\∃h' tk,s₂={ s with heap:=h',toks:=tk }/\Good knd dec (zU w) h' s.heap.objs.size (met val items.size)/\(∀b o,b<s.heap.objs.size->s.heap.get? b=some o->h'.get? b=some o)) E)
    F.called_set.init.plain F.entry_set_init (check_set_init_1 hT ?_)) λr₂ s₂ hr₂=>?_
   ·obtain⟨ol,hol,hcl,nl,hdl⟩:=hl
    obtain⟨ocls,odict,odata,oslots⟩:=ol
    simp only at hcl hdl
    subst hcl
    subst hdl
    have hol':(s.heap.push { cls:=.type "set",dict:=none,data:=.set #[] 0 (.fresh 0 0 (zU w)) }).get? l=some { cls:=.type "list",dict:=odict,data:=.seq items nl,slots:=oslots }:=get?_push_of_some _ hol
    have hsls:=F.sub_list_set
    have hslf:=F.sub_list_frozenset
    have hne:(ac2 "list" == ac2 "dict")=false:=by decide
    have hl1:(s.heap.push { cls:=.type "set",dict:=none,data:=.set #[] 0 (.fresh 0 0 (zU w)) }).IsList l items:=⟨_,hol',rfl,nl,rfl⟩
    unfold Builtin.«set.__init__» noKeywords Builtin.Frozenset.updateFrom
    generalize hPI:pyIter=PI
    wp_walk
    subst hPI
    refine adb hl1 (aac (wpAny_runValue ?_))
    have hlS:l<s.heap.objs.size:=lt_size hol
    have sz:(s.heap.push { cls:=.type "set",dict:=none,data:=.set #[] 0 (.fresh 0 0 (zU w)) }).objs.size=s.heap.objs.size+1:=size_push ..
    have hneI:l≠(s.heap.push { cls:=.type "set",dict:=none,data:=.set #[] 0 (.fresh 0 0 (zU w)) }).objs.size:=by rw[sz];exact aaj (ac7 hlS)
    refine Cq (led:=zU w) hdec ((Walks.list (by simp[hh]) _ l hneI items).toS) s.heap.objs.size (by
     rw[sz]
     intro z
     rcases mem_cons.mp z with z|z
     ·exact absurd z (aaj (ace _))
     ·exact absurd (mem_singleton.mp z) (acs hlS)) val hi hb (items.size-0) 0 _ (by omega) (aa0 _) ⟨⟨_,get?_push_size _ rfl,rfl,rfl⟩,hl1.push _⟩ (Ph (get?_push_of_some _ hS)) λs' hm g'=>?_
    obtain⟨h',g1,d1,tk',os1⟩:=s'
    have eg:g1=s.gens:=hm.gens
    have ed:d1=s.drawn:=hm.drawn
    have eo:os1=s.os:=hm.os
    subst eg ed eo
    refine aae ?_
    refine aae ⟨rfl,h',tk',rfl,g',λb o hb e=>hm.heap b o (λz=>?_) (get?_push_of_some _ (get?_push_of_some _ e))⟩
    rcases mem_cons.mp z with z|z
    ·exact absurd z (aaj hb)
    ·have z:=mem_singleton.mp z
     rw[sz] at z
     exact absurd z (aaj (ac7 hb))
   ·cases r₂ with
    |error e=>exact hr₂
    |ok fl₂ =>
     cases fl₂ with
     |ret r =>
      obtain⟨rfl,h',tk,rfl,hS',hk'⟩:=hr₂
      repeat(any_goals (first|assumption|wp_step))
      exact h _ _ hS' hk'
     |_=>exact hr₂.elim
  |_=>exact hr.elim
end
set_option maxRecDepth 100000
theorem ZX:Manifest.owners.lookup (String.ofList ['r','o','t','a','r','e','t','i','_','t','e','s'].reverse)=some Manifest.sig_set_iterator:=by kernel_rfl
theorem jo:Slot "set_iterator" "__next__" "set_iterator.__next__":=.of (owner:="set_iterator") (n:="__next__") (by rw[ad6,ade];kernel_rfl) (by decide +kernel) (by decide +kernel) (by decide +kernel) (by first|exact .inl (by decide +kernel)|exact .inr (by decide +kernel)) (by rw[isSubtype_type];kernel_rfl)
theorem zFy:entryFor table "set_iterator.__next__" = some Builtin.«set_iterator.__next__»:=entryFor_of_tree (by kernel_rfl)
theorem zHa(a:Value):argsOk "set_iterator.__next__" ⟨[a],[]⟩:=by unfold argsOk;rw[signature?_of (id:="set_iterator.__next__") (n:=['_','_','t','x','e','n','_','_']) (o:=['r','o','t','a','r','e','t','i','_','t','e','s']) (by kernel_rfl) ZX];kernel_rfl
theorem Z0:Slot "set_iterator" "__iter__" "set_iterator.__iter__":=.of (owner:="set_iterator") (n:="__iter__") (by rw[ad6,ade];kernel_rfl) (by decide +kernel) (by decide +kernel) (by decide +kernel) (by first|exact .inl (by decide +kernel)|exact .inr (by decide +kernel)) (by rw[isSubtype_type];kernel_rfl)
theorem zFz:entryFor table "set_iterator.__iter__" = some Builtin.«dict_keyiterator.__iter__»:=adn (id':="dict_keyiterator.__iter__") (by kernel_rfl) rfl (by decide +kernel) (by kernel_rfl)
theorem zHb(a:Value):argsOk "set_iterator.__iter__" ⟨[a],[]⟩:=by unfold argsOk;rw[signature?_of (id:="set_iterator.__iter__") (n:=['_','_','r','e','t','i','_','_']) (o:=['r','o','t','a','r','e','t','i','_','t','e','s']) (by kernel_rfl) ZX];kernel_rfl
theorem zEw:entryFor table "set.__iter__" = some Builtin.«frozenset.__iter__»:=adn (id':="frozenset.__iter__") (by kernel_rfl) rfl (by decide +kernel) (by kernel_rfl)
theorem rG:typeLookup (.type "set") "__len__" = pure (some (.builtin "set.__len__")):=by rw[ad6,ade];kernel_rfl
set_option maxRecDepth 100000
section
variable{prog:Program}{w:World}{A:Around}{E:Value->Shared->Prop}{s:Shared}
theorem RX{α:Type}:∀{l:List α}{i:Nat}(h:i<l.length),(l[i]::l.eraseIdx i).Perm l
 |x::l,0,h=>.refl _
 |x::l,i+1,h=>by
  have hi:i<l.length:=by simpa using h
  have ih:=RX (l:=l) (i:=i) hi
  show(l[i]::x::l.eraseIdx i).Perm (x::l)
  exact(Perm.swap _ _ _).trans (ih.cons x)
theorem zMu{Q:Nat->Shared->Prop}(hn:0<n)(h:∀i d,i<n->Q i { s with drawn:=d }):wpAny (model prog w) A (choose src n) Q E s :=
 λ_ _ _=>⟨acs hn,h _ _ (aeh _ hn)⟩
theorem Z1{α:Type}:∀(n:Nat)(xs:List α)(s:Shared)(Q:List α->Shared->Prop),xs.length=n->(∀ys d,ys.Perm xs->Q ys { s with drawn:=d })->wpAny (model prog w) A (drawOrder n xs) Q E s
 |0,xs,s,Q,hl,h=>by
  have e:xs=[]:=length_eq_zero_iff.mp hl
  subst e
  unfold drawOrder
  exact aae (h [] s.drawn (.refl _))
 |n+1,[],s,Q,hl,h=>by simp at hl
 |n+1,x::xs,s,Q,hl,h=>by
  unfold drawOrder
  refine aac (zMu (by rw[hl];omega) λi d hi=>?_)
  have e:(x::xs)[i]?=some (x::xs)[i]:=aad hi
  rw[e]
  refine aac (Z1 n _ _ _ (by rw[length_eraseIdx,if_pos hi,hl];rfl) λys d' p=>?_)
  exact aae (h _ d' ((p.cons _).trans (RX hi)))
theorem Z2{α:Type}(next:Nat->Nat):∀(fuel k:Nat)(left:List α)(out:Array α),left.length=fuel->(aep next fuel k left out).toList.Perm (out.toList++left)
 |0,k,left,out,hl=>by
  have e:left=[]:=length_eq_zero_iff.mp hl
  subst e
  unfold aep
  rw[append_nil]
 |fuel+1,k,left,out,hl=>by
  have hi:next k%left.length<left.length:=aeh _ (by omega)
  unfold aep
  rw[aad hi]
  dsimp only
  refine(Z2 next fuel (k+1) _ _ (by rw[length_eraseIdx,if_pos hi,hl];rfl)).trans ?_
  rw[Array.toList_push,append_assoc]
  exact Perm.append_left _ (RX hi)
theorem L_{α:Type}(next:Nat->Nat)(xs:Array α):(pickOrder next xs).toList.Perm xs.toList:=by
 have q:=Z2 next xs.size 0 xs.toList #[] (by simp)
 have e:(#[]:Array α).toList++xs.toList=xs.toList:=rfl
 rw[e] at q
 exact q
variable{a it T:Addr}{o:Obj}{es:Array (Int×Value)}{ep:Nat}{t:SetTable}
theorem uN{Q:Bool->Shared->Prop}(h:Q (w.params.followText "set-order") s):wpAny (model prog w) A setsByText Q E s:=by
 unfold setsByText
 exact aac (acv (aae h))
theorem zSc{Q:Bool->Shared->Prop}(ho:s.heap.get? a=some o)(hd:o.data=.set es ep t)(hf:t.fits es.size=true)(h:Q (!w.params.followText "set-order" && (!t.plain&&decide (es.size > 1))) s):wpAny (model prog w) A (setDrawn a) Q E s:=by
 unfold setDrawn
 refine aac (aat ho hd hf ?_)
 exact aac (uN (aae h))
theorem RZ{Q:Array (Int×Value)->Shared->Prop}(ho:s.heap.get? a=some o)(hd:o.data=.set es ep t)(hf:t.fits es.size=true)(h:Q es s):wpAny (model prog w) A (setEntries a) Q E s:=by
 unfold setEntries
 exact aac (aat ho hd hf (aae h))
theorem Z4{Q:Option (Value×Nat)->Shared->Prop}(ho:s.heap.get? a=some o)(hd:o.data=.set es ep t)(hf:t.fits es.size=true)(hb:w.params.followText "set-order" = true)(h:Q (((pickOrder (w.params.setOrder a ep) es)[i]?).map λe=>(e.2,slot)) s):wpAny (model prog w) A (setNext a slot i ep) Q E s:=by
 unfold setNext
 refine aac (aat ho hd hf ?_)
 refine aac (uN ?_)
 rw[hb]
 simp only[↓reduceIte,bne_self_eq_false,aap]
 refine aac ?_
 unfold setWalk
 refine aac (aat ho hd hf ?_)
 refine aac (uN ?_)
 rw[hb]
 simp only[↓reduceIte]
 refine aac (acv (aae ?_))
 exact aae h
theorem Z5{Q:Option (Value×Nat)->Shared->Prop}(ho:s.heap.get? a=some o)(hd:o.data=.set es ep t)(hf:t.fits es.size=true)(hb:w.params.followText "set-order" = false)(hl:t.led=true)(hn:(!t.plain&&decide (es.size > 1))=false)(h:Q (match es[below t.place slot]?,t.place[below t.place slot]? with|some (_,x),some j=>some (x,j+1)|_,_=>none) s):wpAny (model prog w) A (setNext a slot i ep) Q E s:=by
 unfold setNext
 refine aac (aat ho hd hf ?_)
 refine aac (uN ?_)
 rw[hb]
 simp only[↓reduceIte,aap]
 show wpAny _ _ (if(!t.plain&&decide (es.size > 1))=true then _ else _) _ _ _
 rw[if_neg (by rw[hn];exact aam)]
 refine aac ?_
 show wpAny _ _ (if(!t.led&&!es.isEmpty)=true then _ else pure ()) _ _ _
 rw[if_neg (by rw[hl];exact aam)]
 exact aae (aae h)
theorem zL4{Q:Value->Shared->Prop}(ho:s.heap.get? a=some o)(hd:o.data=.set es ep t)(hf:t.fits es.size=true)(hx:es[place]?=some x)(h:Q x.2 s):wpAny (model prog w) A (setNextDrawn a place ep) Q E s:=by
 unfold setNextDrawn
 refine aac (aat ho hd hf ?_)
 simp only[bne_self_eq_false,aap,↓reduceIte,hx]
 exact aae h
def mZ(first:Value)(i:Nat)(a:Addr)(n ep:Nat):Obj:={ cls:=.type "set_iterator",data:=.fields #[first,.int i 0,.ref a,.int n 0,.int ep 0] }
theorem zRz{Q:Value->Shared->Prop}(ho:s.heap.get? a=some o)(hx:o.ExactSet)(hd:o.data=.set es ep t)(hf:t.fits es.size=true)(h1:(!w.params.followText "set-order" && (!t.plain&&decide (es.size > 1)))=false->Q (.ref s.heap.objs.size) { s with heap:=s.heap.push (mZ (.int 0 0) 0 a es.size ep) })(h2:(!w.params.followText "set-order" && (!t.plain&&decide (es.size > 1)))=true->es.size<=sizeLine/\∀(d:Drawn) (ps:List Nat),ps.Perm (aar es.size)->Q (.ref (s.heap.objs.size+1)) { s with drawn:=d,heap:=(s.heap.push { cls:=.type "tuple",data:=.seq (ps.map λ(i:Nat)=>abp i 0).toArray }).push (mZ (.ref s.heap.objs.size) 0 a es.size ep) }) :
  wpAny (model prog w) A (pyIter (.ref a)) Q E s:=by
 have hT:s.TypeIs (.ref a) "set":=⟨o,ho,hx.1⟩
 refine wpAny_pyIter_slot hT F.slot_set_iter (acf F.slot_set_iter hT zEw ?_ (F.args_set_iter_1 _))
 unfold Builtin.«frozenset.__iter__»
 refine aac (aae ?_)
 refine aac ?_
 unfold acz
 refine aac (RZ ho hd hf (aae ?_))
 refine aac (zSc ho hd hf ?_)
 cases hc:(!w.params.followText "set-order" && (!t.plain&&decide (es.size > 1))) with
 |false =>
  simp only[aap,↓reduceIte]
  refine aac (aae ?_)
  refine aac (abr ho hd hf ?_)
  exact aac (ab6 (aae ⟨_,rfl,"set_iterator",_,⟨_,get?_push_size _ rfl,rfl⟩,jo.lookup,h1 hc⟩))
 |true =>
  obtain⟨hz,h2⟩:=h2 hc
  simp only[↓reduceIte]
  refine aac (Z1 _ _ _ _ (by simp) λps d hp=>?_)
  refine aac (wpAny_newTuple ?_ (by rw[length_map,hp.length_eq,length_range];exact hz))
  have ho':=get?_push_of_some ({ cls:=.type "tuple",data:=.seq (ps.map λ(i:Nat)=>rawInt i).toArray }:Obj) ho
  refine aac (abr (s:={ s with drawn:=d,heap:=_ }) ho' hd hf ?_)
  refine aac (ab6 (aae ⟨_,rfl,"set_iterator",_,⟨_,get?_push_size _ rfl,rfl⟩,jo.lookup,?_⟩))
  have q:=h2 d ps hp
  have sz:(s.heap.push ({ cls:=.type "tuple",data:=.seq (ps.map λ(i:Nat)=>abp i 0).toArray }:Obj)).objs.size=s.heap.objs.size+1:=size_push ..
  rw[<-sz] at q
  exact q
end
set_option maxRecDepth 100000
section
variable{prog:Program}{w:World}{A:Around}{E:Value->Shared->Prop}{s:Shared}{a it T:Addr}{o:Obj}{es:Array (Int×Value)}{ep:Nat}{t:SetTable}{i:Nat}{first:Value}
theorem R3{Q:Option Value->Shared->Prop}(hi:s.heap.get? it=some (mZ first i a es.size ep))(ho:s.heap.get? a=some o)(hd:o.data=.set es ep t)(hf:t.fits es.size=true)(h:wpAny (model prog w) A.in1 (if let .int slot _:=first then do
    match <-setNext a slot.toNat (i:Int).toNat (ep:Int).toNat with
    |some (x,next) =>
     setField (.ref it) 0 (rawInt next)
     setField (.ref it) 1 (rawInt ((i:Int)+1))
     ret x
    |none=>setField (.ref it) 2 .none;raiseNew (<-newExc (.type "StopIteration") [])
   else do
    let some places <-seqItems? first|unsupported "internal:set_iterator"
    match places[(i:Int).toNat]? with
    |some (.int place _) =>
     let x <-setNextDrawn a place.toNat (ep:Int).toNat
     setField (.ref it) 1 (rawInt ((i:Int)+1))
     ret x
    |some _=>unsupported "internal:set_iterator"
    |none=>setField (.ref it) 0 (rawInt 0);setField (.ref it) 2 .none;raiseNew (<-newExc (.type "StopIteration") []))
   (λfin s'=>∃v,fin=.done (.ret v)/\Q (some v) s')
   (λe s'=>s'.TypeIs e "StopIteration" /\ Q none s') s):wpAny (model prog w) A (pyNext (.ref it)) Q E s:=by
 have hT:s.TypeIs (.ref it) "set_iterator":=⟨_,hi,rfl⟩
 unfold pyNext
 refine aac (wpAny_attempt (wpAny_callSpecial?_slot (name:=ac9 "__next__") hT jo (acf jo hT zFy ?_ (zHa _))))
 unfold Builtin.«set_iterator.__next__»
 refine aac (aae ?_)
 refine aac (wpAny_fieldsOf hi rfl ?_)
 dsimp only
 refine aac (RZ ho hd hf ?_)
 rw[if_neg (by simp)]
 exact abv h (λfin s' ⟨v,e,q⟩=>⟨v,e,aae q⟩) λe s' ⟨ty,q⟩=>aac (adf (T:="StopIteration") (b:=true) ty isSubtype_stop (aae q))
theorem Z6{α:Type}{Q:α->Shared->Prop}{E':Value->Shared->Prop}(hh:A.handled=none)(h:∀(e:Value) (h':Heap),(∀b u,s.heap.get? b=some u->h'.get? b=some u)->({ s with heap:=h' }:Shared).TypeIs e "StopIteration"->E' e { s with heap:=h' }) :
  wpAny (model prog w) A (newExc (.type "StopIteration") [] >>= λe=>(raiseNew e:Sem α)) Q E' s:=by
 refine aac ?_
 simp only[newExc,newTuple]
 refine aac (ab6 (aac (m:=firstArgMember _ _) (wpAny_of_eq (a:=aco) (by first|rfl|(simp only[firstArgMember];rfl)) (ab6 ?_ (by size_fits)))) (by size_fits))
 simp only[raiseNew]
 refine aac (wpAny_handled ?_)
 rw[hh]
 refine aac (aae (wpAny_throw ?_))
 refine h _ _ (λb u e=>get?_push_of_some _ (get?_push_of_some _ e)) ?_
 exact⟨_,get?_push_size _ rfl,rfl⟩
theorem R5{f:Obj->Obj}(hi:s.heap.get? it=some u)(hn:(f u).isFreed=false):(s.heap.update it f).get? it=some (f u):=get?_update_self f hi hn
theorem Ma(hb:b≠it)(e:s.heap.get? b=some u):(s.heap.update it f).get? b=some u:=(get?_update_other _ _ (ab8 hb)).trans e
theorem Z7{Q:Option Value->Shared->Prop}{slot next:Nat}{tk:Tok}{x:Value}(hi:s.heap.get? it=some (mZ (.int slot tk) i a es.size ep))(ho:s.heap.get? a=some o)(hd:o.data=.set es ep t)(hf:t.fits es.size=true)(hs:∀(R:Option (Value×Nat)->Shared->Prop) (E':Value->Shared->Prop),R (some (x,next)) s->wpAny (model prog w) A.in1 (setNext a slot i ep) R E' s)(h:∀h',h'.get? it=some (mZ (.int next 0) (i+1) a es.size ep)->(∀b u,b≠it->s.heap.get? b=some u->h'.get? b=some u)->Q (some x) { s with heap:=h' }):wpAny (model prog w) A (pyNext (.ref it)) Q E s:=by
 refine R3 hi ho hd hf ?_
 dsimp only
 refine aac (hs _ _ ?_)
 dsimp only
 refine aac (acq hi rfl (by simp) ?_)
 have h1:=R5 (f:=ady (·.setIfInBounds 0 (rawInt next))) hi rfl
 refine aac (acq (s:={ s with heap:=_ }) h1 rfl (by simp) ?_)
 have h2:=R5 (s:={ s with heap:=_ }) (f:=ady (·.setIfInBounds 1 (rawInt ((i:Int)+1)))) h1 rfl
 exact aae ⟨x,rfl,h _ h2 λb u hb e=>Ma (s:={ s with heap:=_ }) hb (Ma hb e)⟩
theorem Z8{Q:Option Value->Shared->Prop}{slot:Nat}{tk:Tok}(hh:A.handled=none)(hi:s.heap.get? it=some (mZ (.int slot tk) i a es.size ep))(ho:s.heap.get? a=some o)(hd:o.data=.set es ep t)(hf:t.fits es.size=true)(hs:∀(R:Option (Value×Nat)->Shared->Prop) (E':Value->Shared->Prop),R none s->wpAny (model prog w) A.in1 (setNext a slot i ep) R E' s)(h:∀h',(∀b u,b≠it->s.heap.get? b=some u->h'.get? b=some u)->Q none { s with heap:=h' }):wpAny (model prog w) A (pyNext (.ref it)) Q E s:=by
 refine R3 hi ho hd hf ?_
 dsimp only
 refine aac (hs _ _ ?_)
 dsimp only
 refine aac (acq hi rfl (by simp) ?_)
 exact Z6 (s:={ s with heap:=_ }) (by simp[hh]) λe h' k ty=>⟨ty,h h' λb u hb e=>k b u (Ma hb e)⟩
theorem zL9{Q:Option Value->Shared->Prop}{ps:List Nat}(hi:s.heap.get? it=some (mZ (.ref T) i a es.size ep))(ho:s.heap.get? a=some o)(hd:o.data=.set es ep t)(hf:t.fits es.size=true)(hT:s.heap.get? T=some { cls:=.type "tuple",data:=.seq (ps.map λ(i:Nat)=>abp i 0).toArray })(hp:ps[i]?=some place)(hx:es[place]?=some x)(h:∀h',h'.get? it=some (mZ (.ref T) (i+1) a es.size ep)->(∀b u,b≠it->s.heap.get? b=some u->h'.get? b=some u)->Q (some x.2) { s with heap:=h' }):wpAny (model prog w) A (pyNext (.ref it)) Q E s:=by
 refine R3 hi ho hd hf ?_
 dsimp only
 refine aac (wpAny_seqItems hT rfl ?_)
 have e:((ps.map λ(i:Nat)=>abp i 0).toArray)[(i:Int).toNat]?=some (.int (place:Nat) 0):=by
  rw[aa8,getElem?_toArray,getElem?_map,hp]
  rfl
 dsimp only
 rw[e]
 dsimp only
 refine aac (zL4 ho hd hf (x:=x) (by rw[aa8];exact hx) ?_)
 refine aac (acq hi rfl (by simp) ?_)
 have h1:=R5 (f:=ady (·.setIfInBounds 1 (rawInt ((i:Int)+1)))) hi rfl
 exact aae ⟨x.2,rfl,h _ h1 λb u hb e=>Ma hb e⟩
theorem zPi{Q:Option Value->Shared->Prop}{ps:List Nat}(hh:A.handled=none)(hi:s.heap.get? it=some (mZ (.ref T) i a es.size ep))(ho:s.heap.get? a=some o)(hd:o.data=.set es ep t)(hf:t.fits es.size=true)(hT:s.heap.get? T=some { cls:=.type "tuple",data:=.seq (ps.map λ(i:Nat)=>abp i 0).toArray })(hp:ps[i]?=none)(h:∀h',(∀b u,b≠it->s.heap.get? b=some u->h'.get? b=some u)->Q none { s with heap:=h' }):wpAny (model prog w) A (pyNext (.ref it)) Q E s:=by
 refine R3 hi ho hd hf ?_
 dsimp only
 refine aac (wpAny_seqItems hT rfl ?_)
 have e:((ps.map λ(i:Nat)=>abp i 0).toArray)[(i:Int).toNat]?=none:=by
  rw[aa8,getElem?_toArray,getElem?_map,hp]
  rfl
 dsimp only
 rw[e]
 dsimp only
 refine aac (acq hi rfl (by simp) ?_)
 have h1:=R5 (f:=ady (·.setIfInBounds 0 (rawInt 0))) hi rfl
 refine aac (acq (s:={ s with heap:=_ }) h1 rfl (by simp) ?_)
 exact Z6 (s:={ s with heap:=_ }) (by simp[hh]) λe h' k ty=>⟨ty,h h' λb u hb e=>k b u (Ma (s:={ s with heap:=_ }) hb (Ma hb e))⟩
end
set_option maxRecDepth 100000
section
variable{prog:Program}{w:World}{A:Around}{E:Value->Shared->Prop}{s:Shared}{a it T:Addr}{o:Obj}{es:Array (Int×Value)}{ep:Nat}{t:SetTable}
theorem Vs{Q:Value->Shared->Prop}(hi:s.heap.get? it=some (mZ first i a n ep))(h:Q (.ref it) s):wpAny (model prog w) A (pyIter (.ref it)) Q E s:=by
 have hT:s.TypeIs (.ref it) "set_iterator":=⟨_,hi,rfl⟩
 refine wpAny_pyIter_slot hT Z0 (acf Z0 hT zFz ?_ (zHb _))
 refine aac (aae ?_)
 exact aae ⟨_,rfl,"set_iterator",_,hT,jo.lookup,h⟩
theorem Vt(hf:t.fits es.size=true):t.place.size=es.size:=by
 unfold fits at hf
 rw[aag] at hf
 exact abq hf.1
theorem zMs(hr:Rz xs):below xs 0=0:=by
 obtain⟨b1,b2,b3⟩:=Vo hr 0
 cases e:below xs 0 with
 |zero=>rfl
 |succ k =>
  rw[e] at b1 b2
  have h0:0<xs.size:=by omega
  exact absurd (b2 0 _ (ad2 k) (aah h0)) (ad5 _)
theorem zMt(hr:Rz xs)(h:xs[i]?=some j):below xs (j+1)=i+1:=by
 obtain⟨b1,b2,b3⟩:=Vo hr (j+1)
 generalize below xs (j+1)=p at *
 have hi:i<xs.size:=by
  by_cases z:i<xs.size
  ·exact z
  ·rw[aa2 (by omega)] at h;cases h
 have h1:i<p:=by
  by_cases z:i<p
  ·exact z
  ·have:=b3 i j (by omega) h;omega
 by_cases z:p=i+1
 ·exact z
 ·have hp:i+1<xs.size:=by omega
  have q1:=b2 (i+1) _ (by omega) (aah hp)
  have q2:=hr i (i+1) j _ (by omega) h (aah hp)
  omega
theorem zQ4{xs:Array Nat}(h:xs.size<=1):Rz xs:=λi k a b hik ha hb=>by
 rw[aa2 (by omega)] at hb
 cases hb
theorem zK9(hh:A.handled=none)(hne:a≠it)(hd:o.data=.set es ep t)(hf:t.fits es.size=true)(hb:w.params.followText "set-order" = false)(hl:t.led=true)(hn:(!t.plain&&decide (es.size > 1))=false)(hr:Rz t.place) :
  Walks prog w A it [it,a] [it] es.size (λi v=>(es.toList.map (·.2))[i]?=some v) (λi h=>h.get? a=some o/\∃(slot:Nat)(tk:Tok),h.get? it=some (mZ (.int slot tk) i a es.size ep)/\below t.place slot=i) where
 sub:=λb hb=>by simp at hb;simp[hb]
 frame:=λi h h' ⟨h1,slot,tk,h2,h3⟩ k=>⟨k a (by simp) _ h1,slot,tk,k it (by simp) _ h2,h3⟩
 item:=λi s Q E hi ⟨h1,slot,tk,h2,h3⟩ hQ=>by
  have hp:i<t.place.size:=by rw[Vt hf];exact hi
  refine Z7 (x:=es[i].2) (next:=t.place[i]+1) h2 h1 hd hf (λR E' hR=>Z5 h1 hd hf hb hl hn ?_) λh' hi' k=>?_
  ·rw[h3,aah hi,aah hp]
   exact hR
  ·refine hQ _ h' s.toks (by simp[hi]) ⟨k a o hne h1,_,_,hi',zMt hr (aah hp)⟩ λb u hb e=>k b u (λz=>hb (by simp[z])) e
 done:=λs Q E ⟨h1,slot,tk,h2,h3⟩ hQ=>by
  refine Z8 hh h2 h1 hd hf (λR E' hR=>Z5 h1 hd hf hb hl hn ?_) λh' k=>hQ h' s.toks λb u hb e=>k b u (λz=>hb (by simp[z])) e
  rw[h3,aa2 (aaf _)]
  exact hR
 self:=λi s Q E ⟨h1,slot,tk,h2,h3⟩ hQ=>Vs h2 hQ
theorem zMy(hh:A.handled=none)(hne:a≠it)(hd:o.data=.set es ep t)(hf:t.fits es.size=true)(hb:w.params.followText "set-order" = true) :
  Walks prog w A it [it,a] [it] es.size (λi v=>((pickOrder (w.params.setOrder a ep) es).toList.map (·.2))[i]?=some v) (λi h=>h.get? a=some o/\∃(slot:Nat)(tk:Tok),h.get? it=some (mZ (.int slot tk) i a es.size ep)) where
 sub:=λb hb=>by simp at hb;simp[hb]
 frame:=λi h h' ⟨h1,slot,tk,h2⟩ k=>⟨k a (by simp) _ h1,slot,tk,k it (by simp) _ h2⟩
 item:=λi s Q E hi ⟨h1,slot,tk,h2⟩ hQ=>by
  have hz:i<(pickOrder (w.params.setOrder a ep) es).size:=by rw[<-length_toList,(L_ _ es).length_eq,length_toList];exact hi
  refine Z7 (x:=(pickOrder (w.params.setOrder a ep) es)[i].2) (next:=slot) h2 h1 hd hf (λR E' hR=>Z4 h1 hd hf hb ?_) λh' hi' k=>?_
  ·rw[aah hz]
   exact hR
  ·refine hQ _ h' s.toks (by simp[hz]) ⟨k a o hne h1,_,_,hi'⟩ λb u hb e=>k b u (λz=>hb (by simp[z])) e
 done:=λs Q E ⟨h1,slot,tk,h2⟩ hQ=>by
  have hz:(pickOrder (w.params.setOrder a ep) es).size=es.size:=by rw[<-length_toList,(L_ _ es).length_eq,length_toList]
  refine Z8 hh h2 h1 hd hf (λR E' hR=>Z4 h1 hd hf hb ?_) λh' k=>hQ h' s.toks λb u hb e=>k b u (λz=>hb (by simp[z])) e
  rw[aa2 (by rw[hz];exact aaf _)]
  exact hR
 self:=λi s Q E ⟨h1,slot,tk,h2⟩ hQ=>Vs h2 hQ
theorem zLa{ps:List Nat}(hh:A.handled=none)(hne:a≠it)(hnT:T≠it)(hd:o.data=.set es ep t)(hf:t.fits es.size=true)(hp:ps.Perm (aar es.size)) :
  Walks prog w A it [it,a,T] [it] es.size (λi v=>(ps.map λp=>((es[p]?).map (·.2)).getD .none)[i]?=some v)
   (λi h=>h.get? a=some o/\h.get? T=some { cls:=.type "tuple",data:=.seq (ps.map λ(i:Nat)=>abp i 0).toArray }/\h.get? it=some (mZ (.ref T) i a es.size ep)) where
 sub:=λb hb=>by simp at hb;simp[hb]
 frame:=λi h h' ⟨h1,h2,h3⟩ k=>⟨k a (by simp) _ h1,k T (by simp) _ h2,k it (by simp) _ h3⟩
 item:=λi s Q E hi ⟨h1,h2,h3⟩ hQ=>by
  have hl:ps.length=es.size:=by rw[hp.length_eq,length_range]
  have hi':i<ps.length:=by omega
  have hm:ps[i]<es.size:=mem_range.mp (hp.mem_iff.mp (getElem_mem hi'))
  refine zL9 (place:=ps[i]) (x:=es[ps[i]]) h3 h1 hd hf h2 (aad hi') (aah hm) λh' hi' k=>?_
  refine hQ _ h' s.toks ?_ ⟨k a o hne h1,k T _ hnT h2,hi'⟩ λb u hb e=>k b u (λz=>hb (by simp[z])) e
  rw[getElem?_map,aad (by omega),Option.map_some,aah hm]
  rfl
 done:=λs Q E ⟨h1,h2,h3⟩ hQ=>by
  have hl:ps.length=es.size:=by rw[hp.length_eq,length_range]
  exact zPi hh h3 h1 hd hf h2 (aaz (by omega)) λh' k=>hQ h' s.toks λb u hb e=>k b u (λz=>hb (by simp[z])) e
 self:=λi s Q E ⟨h1,h2,h3⟩ hQ=>Vs h3 hQ
end
set_option maxRecDepth 100000
section
variable{prog:Program}{w:World}{A:Around}{E:Value->Shared->Prop}{s:Shared}{a it T:Addr}{o:Obj}{es:Array (Int×Value)}{ep:Nat}{t:SetTable}
theorem zR3{Q:Bool->Shared->Prop}(hT:s.TypeIs (.ref a) "set")(h:Q false s):wpAny (model prog w) A (acj (.ref a)) Q E s:=by
 unfold acj
 refine aac (wpAny_specialOf hT F.slot_set_len.lookup ?_)
 generalize hid:("set.__len__":String)=id0
 wp_delta
 rw[show splitId id0=some ("set","__len__") from by subst hid;decide +kernel]
 subst hid
 refine aac (adf (T:="set") (b:=true) hT ad4 (ad7 (λhab=>absurd hab (by decide)) λ_=>ad7 (λ_=>aac (wpAny_typeOf hT (aae h))) λhab=>absurd (by decide +kernel) hab))
theorem Z9{R:Result->Shared->Prop}{P:Nat->Value->Prop}{St:Nat->Heap->Prop}(W:Walks prog w A.in1 it fp [it] n P St)(hn:n<=sizeLine)(off:S∉fp)(st:St 0 s.heap)(hS:s.heap.get? S=some { cls:=.type "list",data:=.seq #[] c₁ })(hR:∀h' tk acc c',(∀b u,b≠S->b≠it->s.heap.get? b=some u->h'.get? b=some u)->h'.get? S=some { cls:=.type "list",dict:=none,data:=.seq acc c',slots:=#[] }->ItemsOf P acc n->R (.ok (.ret res)) { s with heap:=h',toks:=tk }) :
  codeAny (model prog w) A (.builtin "list.extend.loop" ⟨[.ref S,.ref it,res],[]⟩) R s:=by
 refine codeAny_extend_loopS W.toS hn S off res n 0 _ #[] c₁ rfl (aa0 _) st hS (ItemsOf.nil _) λs' acc c' hm hS' hacc=>?_
 rw[Moved.eq_with hm]
 refine hR s'.heap s'.toks acc c' (λb u h1 h2 e=>hm.heap b u (λz=>?_) e) hS' hacc
 rcases mem_cons.mp z with z|z
 ·exact h1 z
 ·exact h2 (mem_singleton.mp z)
theorem Vu{R:Result->Shared->Prop}{P:Nat->Value->Prop}{St:Nat->Heap->Prop}(W:Walks prog w A.in1 it fp [it] n P St)(hn:n<=sizeLine)(off:S∉fp)(hT:s.TypeIs (.ref a) "set")(st:St 0 s.heap)(hS:s.heap.get? S=some { cls:=.type "list",data:=.seq #[] c₀ })(hR:∀h' tk acc c',(∀b u,b≠S->b≠it->s.heap.get? b=some u->h'.get? b=some u)->h'.get? S=some { cls:=.type "list",dict:=none,data:=.seq acc c',slots:=#[] }->ItemsOf P acc n->R (.ok (.ret res)) { s with heap:=h',toks:=tk }) :
  wpAny (model prog w) A.in1 (holding [.ref it] (acj (.ref a)) >>= λroom=>if(room||b)=true then(rule "list.extend.makes-room" >>= λ_=>Builtin.List.listTouch (.ref S) >>= λ_=>again (.builtin "list.extend.loop" ⟨[.ref S,.ref it,res],[]⟩)) else again (.builtin "list.extend.loop" ⟨[.ref S,.ref it,res],[]⟩))
   (λfin s'=>match fin with|.done f=>R (.ok f) s'|.again c'=>c'.quiet=true/\codeAny (model prog w) A c' R s') (λe s'=>R (.error e) s') s:=by
 refine aac (aa9 (zR3 hT ?_))
 refine ad7 (λ_=>?_) λ_=>aae ⟨adi F.plain_extend_loop _,Z9 W hn off st hS hR⟩
 refine aac (adg ?_)
 refine aac ?_
 show wpAny _ _ (updateSeq S (·.push .none) >>= λ_=>updateSeq S (·.pop)) _ _ _
 refine aac (wpAny_updateSeq hS rfl ?_)
 have hS2:=get?_update_self (acg (·.push aco)) hS rfl
 refine wpAny_updateSeq (hz:=by seq_fits) hS2 rfl ?_
 have hS3:=get?_update_self (acg (·.pop)) hS2 rfl
 have keep:∀c u,c≠S->s.heap.get? c=some u->((s.heap.update S (acg (·.push aco))).update S (acg (·.pop))).get? c=some u:=λc u hc e=>(get?_update_other _ _ (ab8 hc)).trans ((get?_update_other _ _ (ab8 hc)).trans e)
 refine aae ⟨adi F.plain_extend_loop _,Z9 (s:={ s with heap:=_ }) W hn off (W.frame 0 _ _ st λc hc u e=>keep c u (λz=>off (z▸hc)) e) hS3 λh' tk acc c' k h1 h2=>hR h' tk acc c' (λc u n1 n2 e=>k c u n1 n2 (keep c u n1 e)) h1 h2⟩
theorem Vv(h:ItemsOf (λi v=>ord[i]?=some v) acc n)(hl:ord.length=n):acc.toList=ord:=by
 apply ext_getElem?
 intro i
 rw[getElem?_toList]
 by_cases hi:i<acc.size
 ·rw[aah hi]
  exact(h.2 i _ (aah hi)).symm
 ·rw[aa2 (by omega),aaz (by rw[hl,<-h.1];omega)]
theorem zLw(es:Array (Int×Value)):(aar es.size).map (λp=>((es[p]?).map (·.2)).getD aco)=es.toList.map (·.2):=by
 apply List.ext_getElem (by simp)
 intro i h1 h2
 have hi:i<es.size:=by simpa using h1
 simp[hi]
theorem zMj{R:Result->Shared->Prop}(hh:A.handled=none)(ho:s.heap.get? a=some o)(hx:o.ExactSet)(hd:o.data=.set es ep t)(hf:t.fits es.size=true)(tb:Tb (zU w) t)(hz:es.size<=sizeLine)(Vw:S≠a)(hS:s.heap.get? S=some { cls:=.type "list",data:=.seq #[] c₀ })(hR:∀h' tk d acc c',(∀b u,b≠S->s.heap.get? b=some u->h'.get? b=some u)->h'.get? S=some { cls:=.type "list",dict:=none,data:=.seq acc c',slots:=#[] }->acc.toList.Perm (es.toList.map (·.2))->R (.ok (.ret res)) { s with heap:=h',toks:=tk,drawn:=d }) :
  wpAny (model prog w) A.in1 (Builtin.List.listExtendWith (.ref S) (.ref a) res)
   (λfin s'=>match fin with|.done f=>R (.ok f) s'|.again c'=>c'.quiet=true/\codeAny (model prog w) A c' R s') (λe s'=>R (.error e) s') s:=by
 have hT:s.TypeIs (.ref a) "set":=⟨o,ho,hx.1⟩
 have lta:a<s.heap.objs.size:=lt_size ho
 have ltS:S<s.heap.objs.size:=lt_size hS
 have hi:A.in1.handled=none:=by simp[hh]
 unfold Builtin.List.listExtendWith
 refine aac (wpAny_typeOf hT ?_)
 have h1:Builtin.List.listSameRef (.ref S) (.ref a)=false:=by simp[Builtin.List.listSameRef,Vw]
 simp only[h1,show(ac2 "set" == ac2 "list")=false by decide,show(ac2 "set" == ac2 "tuple")=false by decide,Bool.or_false,aap,if_false]
 have old:∀{b:Addr}{u:Obj}{n:Nat},s.heap.get? b=some u->s.heap.objs.size<=n->b≠n:=λe hn z=>absurd (lt_size e) (by rw[z];exact Nat.not_lt_of_le hn)
 refine aac (zRz ho hx hd hf (λhc=>?_) λhc=>⟨hz,λd ps hp=>?_⟩)
 ·have hS':=get?_push_of_some (mZ (.int 0 0) 0 a es.size ep) hS
  have ho':=get?_push_of_some (mZ (.int 0 0) 0 a es.size ep) ho
  have hI:(s.heap.push (mZ (.int 0 0) 0 a es.size ep)).get? s.heap.objs.size=some (mZ (.int 0 0) 0 a es.size ep):=get?_push_size _ rfl
  have off:S∉[s.heap.objs.size,a]:=λz=>by
   rcases mem_cons.mp z with z|z
   ·exact old hS (aaf _) z
   ·exact Vw (mem_singleton.mp z)
  have hne:a≠s.heap.objs.size:=old ho (aaf _)
  cases hb:w.params.followText "set-order" with
  |true =>
   refine Vu (s:={ s with heap:=_ }) (zMy hi hne hd hf hb) hz off ⟨o,ho',hx.1⟩ ⟨ho',0,0,hI⟩ hS' λh' tk acc c' k h2 h3=>?_
   refine hR h' tk s.drawn acc c' (λb u n e=>k b u n (old e (aaf _)) (get?_push_of_some _ e)) h2 ?_
   rw[Vv h3 (by rw[length_map,(L_ _ es).length_eq,length_toList])]
   exact(L_ _ es).map _
  |false =>
   have hl:t.led=true:=by rw[tb.led];unfold zU;rw[hb];rfl
   have hn:(!t.plain&&decide (es.size > 1))=false:=by rw[hb] at hc;exact hc
   have hr:Rz t.place:=by
    cases hp:t.plain with
    |true=>exact tb.rz hp
    |false =>
     rw[hp] at hn
     refine zQ4 ?_
     rw[Vt hf]
     have:¬es.size > 1:=of_decide_eq_false (by simpa using hn)
     omega
   refine Vu (s:={ s with heap:=_ }) (zK9 hi hne hd hf hb hl hn hr) hz off ⟨o,ho',hx.1⟩ ⟨ho',0,0,hI,zMs hr⟩ hS' λh' tk acc c' k h2 h3=>?_
   refine hR h' tk s.drawn acc c' (λb u n e=>k b u n (old e (aaf _)) (get?_push_of_some _ e)) h2 ?_
   rw[Vv h3 (by rw[length_map,length_toList])]
 ·have e0:∀{b:Addr}{u:Obj},s.heap.get? b=some u->((s.heap.push { cls:=.type "tuple",data:=.seq (ps.map λ(i:Nat)=>abp i 0).toArray }).push (mZ (.ref s.heap.objs.size) 0 a es.size ep)).get? b=some u:=λe=>get?_push_of_some _ (get?_push_of_some _ e)
  have sz:(s.heap.push ({ cls:=.type "tuple",data:=.seq (ps.map λ(i:Nat)=>abp i 0).toArray }:Obj)).objs.size=s.heap.objs.size+1:=size_push ..
  have hI:((s.heap.push { cls:=.type "tuple",data:=.seq (ps.map λ(i:Nat)=>abp i 0).toArray }).push (mZ (.ref s.heap.objs.size) 0 a es.size ep)).get? (s.heap.objs.size+1)=some (mZ (.ref s.heap.objs.size) 0 a es.size ep):=by
   rw[<-sz];exact get?_push_size _ rfl
  have hTT:((s.heap.push { cls:=.type "tuple",data:=.seq (ps.map λ(i:Nat)=>abp i 0).toArray }).push (mZ (.ref s.heap.objs.size) 0 a es.size ep)).get? s.heap.objs.size=some { cls:=.type "tuple",data:=.seq (ps.map λ(i:Nat)=>abp i 0).toArray }:=get?_push_of_some _ (get?_push_size _ rfl)
  have off:S∉[s.heap.objs.size+1,a,s.heap.objs.size]:=λz=>by
   rcases mem_cons.mp z with z|z
   ·exact old hS (abt _) z
   ·rcases mem_cons.mp z with z|z
    ·exact Vw z
    ·exact old hS (aaf _) (mem_singleton.mp z)
  refine Vu (s:={ s with drawn:=d,heap:=_ }) (zLa hi (old ho (abt _)) (aaj (ace _)) hd hf hp) hz off ⟨o,e0 ho,hx.1⟩ ⟨e0 ho,hTT,hI⟩ (e0 hS) λh' tk acc c' k h2 h3=>?_
  refine hR h' tk d acc c' (λb u n e=>k b u n (old e (abt _)) (e0 e)) h2 ?_
  rw[Vv h3 (by rw[length_map,hp.length_eq,length_range])]
  have e1:=zLw es
  rw[<-e1]
  exact hp.map _
theorem zJp{R:List Value->Shared->Prop}(hh:A.handled=none)(ho:s.heap.get? a=some o)(hx:o.ExactSet)(hd:o.data=.set es ep t)(hf:t.fits es.size=true)(tb:Tb (zU w) t)(hz:es.size<=sizeLine)(h:∀h' tk d (acc:List Value),(∀b u,s.heap.get? b=some u->h'.get? b=some u)->acc.Perm (es.toList.map (·.2))->R acc { s with heap:=h',toks:=tk,drawn:=d }) :
  wpAny (model prog w) A (collect (.ref a)) R E s:=by
 have lt:a<s.heap.objs.size:=lt_size ho
 unfold collect
 refine aac (wpAny_runValue (ach entry_proto_collect' ?_))
 rw[ab1 F.plain_proto_collect _]
 refine aac (m:=newList []) (ab6 (aae ⟨adi F.plain_list_iadd _,ach entry_list_iadd' ?_⟩))
 rw[ab1 F.plain_list_iadd _]
 have hS:(s.heap.push { cls:=.type "list",data:=.seq ([]:List Value).toArray }).get? s.heap.objs.size=some { cls:=.type "list",data:=.seq #[] }:=get?_push_size _ rfl
 have key:=zMj (prog:=prog) (A:=A) (S:=s.heap.objs.size) (res:=.ref s.heap.objs.size) (s:={ s with heap:=s.heap.push { cls:=.type "list",data:=.seq ([]:List Value).toArray } })
  (R:=λ(q:Result) (s':Shared)=>∃(h':Heap)(tk:Nat)(d:Drawn)(acc:Array Value)(c':Nat),q=.ok (.ret (.ref s.heap.objs.size))/\s'={ s with heap:=h',toks:=tk,drawn:=d }/\(∀b u,s.heap.get? b=some u->h'.get? b=some u) /\
   h'.get? s.heap.objs.size=some { cls:=.type "list",dict:=none,data:=.seq acc c',slots:=#[] }/\acc.toList.Perm (es.toList.map (·.2)))
  hh (get?_push_of_some _ ho) hx hd hf tb hz (acs lt) hS λh' tk d acc c' k h1 h2=>⟨h',tk,d,acc,c',rfl,rfl,λb u e=>k b u (aaj (lt_size e)) (get?_push_of_some _ e),h1,h2⟩
 refine abv key (λfin s' x=>?_) λe s' x=>?_
 ·cases fin with
  |done f =>
   obtain⟨h',tk,d,acc,c',e,rfl,k,h1,h2⟩:=x
   cases e
   refine aac (m:=load s.heap.objs.size) (wpAny_load h1 ?_)
   exact aae (h h' tk d acc.toList k h2)
  |again c1 =>
   refine⟨x.1,acu x.2 λq s2 y=>?_⟩
   obtain⟨h',tk,d,acc,c',rfl,rfl,k,h1,h2⟩:=y
   refine aac (m:=load s.heap.objs.size) (wpAny_load h1 ?_)
   exact aae (h h' tk d acc.toList k h2)
 ·obtain⟨_,_,_,_,_,e',_⟩:=x
  cases e'
end
end pU
namespace L2
open PySem PySem.Spec PyProof.Rows pU
def pW:Value->Int
 |.int k _=>k
 |_=>0
theorem Vx:∀k v,(intKind P w).is k v=true->pW v=k:=λk v h=>by
 obtain⟨t,rfl⟩:=acn h
 rfl
theorem Inv.drew(I:Inv X pins σ H s)(d:Drawn):Inv X pins σ H { s with drawn:=d }:=⟨I.ok,I.os,I.bare,I.base,I.loc,I.cell,I.free,I.gq,I.pin,I.hok,I.len⟩
abbrev Js:=St->Hp->(LI->Hp->Prop)->Prop
def StP(X:Cx)(pins:List (Addr×Obj))(σ:St)(Q:LI->Hp->Prop)(v:Value)(s':Shared):Prop :=
 ∃(a:Addr)(ks:LI)(H':Hp),v=.ref a/\Inv X pins σ H' s'/\Good (intKind X.prog X.w) pW (zU X.w) s'.heap a ks/\j5 X pins H' a/\Q ks H'
def Gj(X:Cx)(e:Expr)(t:Js):Prop:=∀(pins:List (Addr×Obj))(s:Shared)(σ:St)(H:Hp)(Q:LI->Hp->Prop),Inv X pins σ H s->t σ H Q->wpAny (model X.prog X.w) X.A (eval e X.env) (StP X pins σ Q) X.xe s
section
variable{X:Cx}
theorem Z_:∀{ns:LI}{its:List Value},IntsAre its ns->∀{i:Nat}{v:Value},its[i]?=some v->∃t,v=.int (ns.getD i 0) t
 |_,_,.nil,i,v,h=>by simp at h
 |_,_,.cons n t r,0,v,h=>by simp at h;subst h;exact⟨t,rfl⟩
 |_,_,.cons n t r,i+1,v,h=>by
  obtain⟨t',e⟩:=Z_ r (by simpa using h)
  exact⟨t',e⟩
theorem zP1:∀{ns:LI}{its:List Value},IntsAre its ns->its.length=ns.length
 |_,_,.nil=>rfl
 |_,_,.cons n t r=>congrArg (· + 1) (zP1 r)
def Mf(K:PySem.W.Frag)(te:TE):Js:=λσ H Q=>xG te cj σ H λvs H1=>∃(p:Addr)(ns:LI),vs=[.ref p]/\bw K H1 p (ns.map V.int)/\ns.length<4000/\∀ks:LI,ks.Nodup->(∀z,z∈ks↔z∈ns)->Q ks H1
theorem Jt:bootBuiltins "set" = some (.type "set"):=by decide +kernel
theorem Pj(K:PySem.W.Frag)(hc:X.calm=true)(hm:X.mg "set" = none)(he:PE X e te)(hK:X.K=K:=by rfl)(hg:Gl X "set":=by rfl)(hs:starEach [e] X.env=[(false,eval e X.env)]:=by rfl):Gj X (.Call (.Name "set" p) [e] [] pos) (Mf K te):=by
 subst hK
 intro pins s σ H Q I h
 refine abo (zy I hg hm Jt ?_)
 have ha:PA X [e] (xG te cj):=zA he zE hs
 refine aa4 (aN (ha pos pins s σ H _ I h) λus s1 ⟨vs,H1,I1,r1,q1⟩=>?_) hs rfl
 obtain⟨l,ns,e1,hq,h4,q⟩:=q1
 subst e1
 cases r1 with
 |cons r rr =>
  cases rr
  cases r
  obtain⟨its,rv,pl,hz⟩:=I1.list hq
  have hi:IntsAre its ns:=Vg rv
  have hl:=zP1 hi
  refine zSg (knd:=intKind X.prog X.w) (dec:=pW) Vx (λi=>ns.getD i 0) (I1.ok.hd hc) pl.isList (λi v hv=>?_) (by rw[size_toArray,hl];show ns.length+1<4096;omega) λh' tk g k=>?_
  ·obtain⟨t,rfl⟩:=Z_ hi (by rw[getElem?_toArray] at hv;exact hv)
   exact⟨intKind_is _ _ _ _,rfl⟩
  ·have I2:=I1.kept (h':=h') (t':=tk) λb o e=>k b o (lt_size e) e
   obtain⟨_,_,_,_,_,_,_,_,_,nd,_⟩:=id g
   refine⟨_,_,H1,rfl,I2,g,I1.lq (aaf _) (I1.hok.fresh (aaf _)),q _ nd λz=>?_⟩
   rw[ZW,size_toArray,hl]
   constructor
   ·rintro⟨j,hj,rfl⟩
    rw[getD_eq_getElem?_getD,aad hj]
    exact getElem_mem hj
   ·intro hz
    obtain⟨j,hj,e⟩:=getElem_of_mem hz
    exact⟨j,hj,by rw[getD_eq_getElem?_getD,aad hj];exact e⟩
def R7(ts:Js):TE:=λσ H Q=>ts σ H λks H1=>ks.length<64/\∀(l:Addr)(ms:LI),H1 l=none->ms.Perm ks->ms.Pairwise (· <= ·)->Q (.ref l) (upd H1 l (.lst (ms.map V.int)))
theorem zKj:∀{vs:List Value},(∀v∈vs,∃k,(intKind P w).is k v=true)->IntsAre vs (vs.map pW)
 |[],_=>.nil
 |v::vs,h=>by
  obtain⟨k,hk⟩:=h v mem_cons_self
  obtain⟨t,rfl⟩:=acn hk
  exact .cons k t (zKj (P:=P) (w:=w) λu hu=>h u (mem_cons_of_mem _ hu))
theorem zQu(hc:X.calm=true)(I:Inv X pins σ H s)(g:Good (intKind X.prog X.w) pW (zU X.w) s.heap a ks)(h64:ks.length<64)(q:∀(l:Addr) (ms:LI),H l=none->ms.Perm ks->ms.Pairwise (· <= ·)->Q (.ref l) (upd H l (.lst (ms.map V.int)))):wpAny (model X.prog X.w) X.A (call (.builtin "sorted") [.ref a]) (EP X pins σ Q) X.xe s:=by
 obtain⟨o,es,ep,t,ho,hx,hd,hel,hp,nd,hb,hf,tb⟩:=g
 have hsz:es.size=ks.length:=by rw[<-hp.length_eq,length_map,length_toList]
 refine PySem.Calls.call_function_entry kind_sorted plain_sorted entry_sorted (args_sorted1 _) ?_
 unfold Builtin.«sorted»
 refine aac (m:=checkCount "sorted" 1 1 _) (aae ?_)
 refine aac (zJp (A:=X.A.in1) (I.ok.hd hc) ho hx hd hf tb (abx hb) λh' tk d acc hkeep hacc=>?_)
 have I':Inv X pins σ H { s with heap:=h',toks:=tk,drawn:=d }:=(I.kept (h':=h') (t':=tk) hkeep).drew d
 have hI:IntsAre acc (acc.map pW):=zKj (P:=X.prog) (w:=X.w) λv hv=>by
  obtain⟨e,he,rfl⟩:=mem_map.mp (hacc.mem_iff.mp hv)
  obtain⟨⟨k,hk,_⟩,_⟩:=hel e he
  exact⟨k,hk⟩
 have hpk:(acc.map pW).Perm ks:=by
  refine(hacc.map pW).trans ?_
  rw[List.map_map]
  exact hp
 have hal:acc.length=ks.length:=by rw[<-hpk.length_eq,length_map]
 have hsl:acc.length<=sizeLine:=by rw[hal];exact ab4 (ac8 h64 (by decide))
 refine aac (wpAny_newList ?_ hsl)
 have hoL:(h'.push (seqObj "list" acc.toArray 0)).get? h'.objs.size=some (seqObj "list" acc.toArray 0):=get?_push_size _ rfl
 refine aac (aa9 (acf slot_list_sort ⟨_,hoL,rfl⟩ entry_list_sort (list_sort_tree hoL hI (by omega) λout ns' a1 a2 a3=>⟨_,rfl,?_⟩) (args_list_sort _)))
 refine aae ⟨_,rfl,?_⟩
 obtain⟨e,he⟩:=sortedHeap_at (out:=out) hoL
 refine⟨.ref h'.objs.size,_,I'.laid (t':=tk) (o:=.lst (ns'.map V.int)) (λb ob w=>?_) (aaf _) ?_,rfl,q _ ns' (I'.hok.fresh (aaf _)) (a2.trans hpk) a3⟩
 ·have hb:h'.get? b=some ob:=w
  have hlt:=lt_size hb
  rw[sortedHeap_old (aaj hlt) (by rw[size_push'];exact ac7 hlt),Heap.get?_push_ne _ _ _ (aaj hlt)]
  exact hb
 ·refine⟨?_,out.toList,e,uQ a1,?_⟩
  ·rw[length_map,a2.length_eq,length_map];exact hsl
  ·rw[toArray_toList];exact he
theorem Vy(hc:X.calm=true)(hm:X.mg "sorted" = none)(he:Gj X e ts)(hg:Gl X "sorted":=by rfl)(hs:starEach [e] X.env=[(false,eval e X.env)]:=by rfl):PE X (.Call (.Name "sorted" p) [e] [] pos) (R7 ts):=by
 intro pins s σ H Q I h
 refine abo (zy I hg hm (by decide +kernel:bootBuiltins "sorted" = some (.builtin "sorted")) ?_)
 refine PyProof.Rows.callWith_builtin1 (Q:=_) ?_ hs rfl
 rw[hs]
 show wpAny _ _ (spliced ((false,eval e X.env)::backTo pos [])) _ _ s
 refine adl (aN (he pins s σ H _ I h) λu s1 ⟨a,ks,H1,e1,I1,g,fo,h64,q⟩=>?_)
 subst e1
 refine adq ?_
 exact zQu hc I1 g h64 q
end
end L2
namespace Ts
open PySem L2
def oH(z:Int):LI->LI
 |[]=>[z]
 |y::ys=>if z<y then z::y::ys else if z=y then y::ys else y::oH z ys
def vK(ns:LI):LI:=ns.foldr oH []
def Mg(ns:LI):Option LI:=if ns.length<64 then some (vK ns) else none
theorem lB:∀{ys:LI},x∈oH z ys↔x=z\/x∈ys
 |[]=>by simp[oH]
 |y::ys=>by
  unfold oH
  split
  ·simp
  ·split
   ·rename_i h;subst h;simp
   ·rw[mem_cons,lB,mem_cons]
    exact⟨λh=>h.elim (λh=>.inr (.inl h)) λh=>h.elim .inl λh=>.inr (.inr h),λh=>h.elim (λh=>.inr (.inl h)) λh=>h.elim .inl λh=>.inr (.inr h)⟩
theorem zO5:∀{ys:LI},ys.Pairwise (· < ·)->(oH z ys).Pairwise (· < ·)
 |[],_=>by simp[oH]
 |y::ys,h=>by
  have h1:=pairwise_cons.mp h
  unfold oH
  split
  ·rename_i hz
   refine pairwise_cons.mpr ⟨λx hx=>?_,h⟩
   rcases mem_cons.mp hx with e|e
   ·rw[e];exact hz
   ·exact Int.lt_trans hz (h1.1 x e)
  ·split
   ·exact h
   ·refine pairwise_cons.mpr ⟨λx hx=>?_,zO5 h1.2⟩
    rcases lB.mp hx with e|e
    ·rw[e];omega
    ·exact h1.1 x e
theorem cQ:∀{ns:LI},x∈vK ns↔x∈ns
 |[]=>by simp[vK]
 |n::ns=>by
  show x∈oH n (vK ns)↔_
  rw[lB,cQ,mem_cons]
theorem Mh:∀ns:LI,(vK ns).Pairwise (· < ·)
 |[]=>.nil
 |n::ns=>zO5 (Mh ns)
theorem Mi:∀{xs ys:LI},xs.Pairwise (· < ·)->ys.Pairwise (· < ·)->(∀s,s∈xs↔s∈ys)->xs=ys
 |[],[],_,_,_=>rfl
 |[],y::ys,_,_,h=>absurd ((h y).mpr mem_cons_self) (by simp)
 |x::xs,[],_,_,h=>absurd ((h x).mp mem_cons_self) (by simp)
 |x::xs,y::ys,hx,hy,h=>by
  have h1:=pairwise_cons.mp hx
  have h2:=pairwise_cons.mp hy
  have e:x=y:=by
   rcases mem_cons.mp ((h x).mp mem_cons_self) with e|e
   ·exact e
   ·rcases mem_cons.mp ((h y).mpr mem_cons_self) with e'|e'
    ·exact e'.symm
    ·have a1:=h2.1 x e
     have a2:=h1.1 y e'
     omega
  subst e
  rw[Mi h1.2 h2.2 λs=>?_]
  constructor
  ·intro hs
   rcases mem_cons.mp ((h s).mp (mem_cons_of_mem _ hs)) with e|e
   ·have:=h1.1 s hs;omega
   ·exact e
  ·intro hs
   rcases mem_cons.mp ((h s).mpr (mem_cons_of_mem _ hs)) with e|e
   ·have:=h2.1 s hs;omega
   ·exact e
theorem Mj:∀{ks ns:LI},ks.Nodup->(∀z∈ks,z∈ns)->ks.length<=ns.length
 |[],_,_,_=>aa0 _
 |k::ks,ns,nd,h=>by
  obtain⟨a,b,e⟩:=List.append_of_mem (h k mem_cons_self)
  have nd':=nodup_cons.mp nd
  have q:=Mj (ks:=ks) (ns:=a++b) nd'.2 λz hz=>by
   have hm:=h z (mem_cons_of_mem _ hz)
   rw[e] at hm
   rcases mem_append.mp hm with m|m
   ·exact mem_append.mpr (.inl m)
   ·rcases mem_cons.mp m with m|m
    ·exact absurd (m▸hz) nd'.1
    ·exact mem_append.mpr (.inr m)
  rw[e,length_append,length_cons,length_cons]
  rw[length_append] at q
  omega
theorem uI:∀{ms:LI},ms.Pairwise (· <= ·)->ms.Nodup->ms.Pairwise (· < ·)
 |[],_,_=>.nil
 |m::ms,h,nd=>by
  have h1:=pairwise_cons.mp h
  have n1:=nodup_cons.mp nd
  refine pairwise_cons.mpr ⟨λx hx=>?_,uI h1.2 n1.2⟩
  have a:=h1.1 x hx
  have b:m≠x:=λe=>n1.1 (e▸hx)
  omega
section
variable{K:PySem.W.Frag}{B:Bs}{sl:SL K}{md:Md}{t:TE}
theorem zMn(h:Ex B sl .hp t m):Eo B sl md (R7 (Mf K t)) (m.bind Mg):=λc hc F O H σ Q s k=>by
 cases m with
 |none=>cases hc
 |some ns =>
  have hc:Mg ns=some c:=hc
  unfold Mg at hc
  split at hc
  case isFalse=>cases hc
  rename_i hl
  cases hc
  refine h ns rfl F O H σ _ s λv F' H' g r1=>?_
  obtain⟨p,vs,rfl,z1,z2⟩:=r1
  have z3:vs=ns.map V.int:=z2.vals
  subst z3
  refine⟨p,ns,rfl,bw.of z1,by omega,λks nd hm=>⟨aan (Mj nd λz hz=>(hm z).mp hz) hl,λl ms hn p1 p2=>?_⟩⟩
  have e:ms=vK ns:=Mi (uI p2 (p1.nodup_iff.mpr nd)) (Mh ns) λz=>by rw[p1.mem_iff,hm,cQ]
  subst e
  exact k l _ F' H' g hn (IV _)
end
end Ts
namespace pU
open PySem PySem.Spec PyProof.Rows
set_option maxRecDepth 100000
theorem zF3:entryFor table "set.__and__" = some Builtin.«frozenset.__and__»:=adn (id':="frozenset.__and__") (by kernel_rfl) rfl (by decide +kernel) (by kernel_rfl)
section
variable{prog:Program}{w:World}{κ:Type}[DecidableEq κ]{knd:KeyKind prog w κ}{dec:Value->κ}{led:Bool}{A:Around}{E:Value->Shared->Prop}{s:Shared}
theorem Good.setOf(hdec:∀k v,knd.is k v=true->dec v=k)(g:Good knd dec led h a ks):h.SetOf knd a (λk=>decide (k∈ks)) ks.length:=by
 obtain⟨o,es,ep,t,h1,h2,h3,hel,hp,nd,hb,hf,tb⟩:=g
 refine⟨o,es,ep,t,h1,h2,h3,hel,λk=>?_,hb,hf,by rw[<-hp.length_eq,length_map,length_toList]⟩
 rw[decide_eq_true_iff,<-hp.mem_iff,mem_map]
 constructor
 ·rintro⟨e,he,rfl⟩
  obtain⟨⟨k',hk,_⟩,_⟩:=hel e he
  exact⟨e,he,by rw[hdec k' _ hk];exact hk⟩
 ·rintro⟨e,he,hk⟩
  exact⟨e,he,hdec _ _ hk⟩
theorem Good.size(g:Good knd dec led h a ks):∃o es ep t,h.get? a=some o/\o.ExactSet/\o.data=.set es ep t/\t.fits es.size=true/\es.size=ks.length/\Tb led t/\ElemsOf knd es.toList/\(es.toList.map λe=>dec e.2).Perm ks:=by
 obtain⟨o,es,ep,t,h1,h2,h3,hel,hp,nd,hb,hf,tb⟩:=g
 exact⟨o,es,ep,t,h1,h2,h3,hf,by rw[<-hp.length_eq,length_map,length_toList],tb,hel,hp⟩
theorem Good.type{s:Shared}(g:Good knd dec led s.heap a ks):s.TypeIs (.ref a) "set":=by
 obtain⟨o,_,_,_,h1,h2,_⟩:=g
 exact⟨o,h1,h2.1⟩
theorem Ju{Q:Bool->Shared->Prop}(hT:s.TypeIs (.ref a) "set")(h:Q true s):wpAny (model prog w) A (Builtin.Frozenset.isAnySet (.ref a)) Q E s:=by
 unfold Builtin.Frozenset.isAnySet
 refine aac (adf (T:="set") (b:=true) hT ad4 ?_)
 exact aae h
theorem Ml{Q:Nat->Shared->Prop}(g:Good knd dec led s.heap a ks)(h:Q ks.length s):wpAny (model prog w) A (acz a) Q E s:=by
 obtain⟨o,es,ep,t,h1,h2,h3,hf,hl,_⟩:=g.size
 unfold acz
 refine aac (RZ h1 h3 hf (aae ?_))
 rw[hl]
 exact h
theorem zJ7(sets:List Addr)(hs:∀a∈sets,∃ks:List κ,Good knd dec led s.heap a ks)(hn:∀k v,knd.is k v=true->∀b,v≠.ref b){Q:Bool->Shared->Prop}(h:Q true s):wpAny (model prog w) A (setsQuiet sets) Q E s:=by
 unfold setsQuiet
 refine aac (abv (acw (β:=Option Bool×Unit) _ (λl b s'=>s'=s/\b=(none,())/\∀a∈l,∃ks:List κ,Good knd dec led s.heap a ks) (λb s'=>s'=s/\b=(none,())) ?turn (λb s' hI=>⟨hI.1,hI.2.1⟩) sets _ ⟨rfl,rfl,hs⟩) ?post (λ_ _ h=>h))
 case post =>
  rintro b s' ⟨rfl,rfl⟩
  exact aae h
 case turn =>
  rintro a rest b s' ⟨rfl,rfl,hg⟩
  obtain⟨ks,g⟩:=hg a mem_cons_self
  obtain⟨o,es,ep,t,h1,h2,h3,hf,hl,tb,hel,hp⟩:=g.size
  refine aac (RZ h1 h3 hf ?_)
  rw[<-forIn_toList]
  refine aac (abv (acw (β:=Option Bool×Unit) _ (λl b s''=>s''=s'/\b=(none,())/\∀e∈l,∀c,e.2≠.ref c) (λb s''=>s''=s'/\b=(none,())) ?t2 (λb s' hI=>⟨hI.1,hI.2.1⟩) es.toList _ ⟨rfl,rfl,?p0⟩) ?p2 (λ_ _ h=>h))
  case p0 =>
   intro e he c z
   obtain⟨⟨k,hk,_⟩,_⟩:=hel e he
   exact hn k _ hk c z
  case p2 =>
   rintro b s'' ⟨rfl,rfl⟩
   exact aae ⟨rfl,rfl,λa ha=>hg a (mem_cons_of_mem _ ha)⟩
  case t2 =>
   rintro⟨hh,x⟩ l b s'' ⟨rfl,rfl,hl⟩
   have hx:=hl _ mem_cons_self
   dsimp only at hx ⊢
   split
   ·exact absurd rfl (hx _)
   ·exact aae ⟨rfl,rfl,λe he=>hl e (mem_cons_of_mem _ he)⟩
theorem zMz(g:Good knd dec (zU w) s.heap a ks)(hq:w.params.followText "set-order" = false->∀o es ep t,s.heap.get? a=some o->o.data=.set es ep t->(!t.plain&&decide (es.size > 1))=false){Q:Array (Int×Value)->Shared->Prop}(h:∀es:Array (Int×Value),ElemsOf knd es.toList->(es.toList.map λe=>dec e.2).Perm ks->Q es s):wpAny (model prog w) A (setWalk a) Q E s:=by
 obtain⟨o,es,ep,t,h1,h2,h3,hf,hl,tb,hel,hp⟩:=g.size
 unfold setWalk
 refine aac (aat h1 h3 hf ?_)
 dsimp only
 refine aac (uN ?_)
 cases hb:w.params.followText "set-order" with
 |true =>
  simp only[↓reduceIte]
  refine aac (acv (aae ?_))
  exact h _ (hel.perm (L_ _ es)) (((L_ _ es).map _).trans hp)
 |false =>
  have q:=hq hb o es ep t h1 h3
  have Vz:t.led=true:=by rw[tb.led];unfold zU;rw[hb];rfl
  simp only[aap,↓reduceIte]
  show wpAny _ _ (if(!t.plain&&decide (es.size > 1))=true then _ else _) _ _ _
  rw[if_neg (by rw[q];exact aam)]
  refine aac ?_
  show wpAny _ _ (if(!t.led&&decide (es.size > 1))=true then _ else pure ()) _ _ _
  rw[if_neg (by rw[Vz];exact aam)]
  exact aae (aae (h es hel hp))
theorem zG3(g:Good knd dec (zU w) s.heap a ks)(gf:Good knd dec (zU w) s.heap f kf)(hs:∀b∈others,∃ks:List κ,Good knd dec (zU w) s.heap b ks)(hn:∀k v,knd.is k v=true->∀b,v≠.ref b){Q:Array (Int×Value)->Shared->Prop}(h:∀(es:Array (Int×Value)) (h':Heap),ElemsOf knd es.toList->(es.toList.map λe=>dec e.2).Perm ks->SameBut f s.heap h'->Good knd dec (zU w) h' f kf->Q es { s with heap:=h' }):wpAny (model prog w) A (setWalkUnseen a others (some f)) Q E s:=by
 obtain⟨o,es,ep,t,h1,h2,h3,hf,hl,tb,hel,hp⟩:=g.size
 unfold setWalkUnseen
 refine aac (aat h1 h3 hf ?_)
 dsimp only
 refine aac (uN ?_)
 split
 ·rename_i c
  refine zMz g (λhb o' es' ep' t' h1' h3'=>?_) λes' oJ hp'=>h es' s.heap oJ hp' (SameBut.refl f s.heap) gf
  rw[h1] at h1'
  cases h1'
  rw[h3] at h3'
  cases h3'
  rw[hb] at c
  simp only[adh,abg,aag,decide_eq_true_eq] at c
  rcases c with⟨_,c⟩|c
  ·rw[c];rfl
  ·rw[decide_eq_false (by omega),ad8]
 ·refine aac (zJ7 (knd:=knd) (dec:=dec) (led:=zU w) (a::others) (λb hb=>(mem_cons.mp hb).elim (λe=>e▸⟨ks,g⟩) (hs b)) hn ?_)
  simp only[abw,aap,↓reduceIte]
  refine aac (adg ?_)
  obtain⟨of,ef,epf,tf,f1,f2,f3,ff,fl,tbf,VB,fp⟩:=gf.size
  refine aac (aat f1 f3 ff ?_)
  dsimp only
  split
  ·have gl:=gf.len
   refine aac (aby f1 f3 ?_ (abx (by rw[fl];exact gl)))
   obtain⟨_,_,_,_,e1,_,_,_,_,nd,hb,_,_⟩:=gf
   refine aae (h es _ hel hp (SameBut.update _ f _) ⟨_,ef,_,_,Gi (es':=ef) (t':=_) f1 f3,f2,rfl,VB,fp,nd,?_,?_,?_⟩)
   ·rw[fl];exact gl
   ·exact ff
   ·refine⟨?_,λz=>?_⟩
    ·show(tf.led&&t.led)=_
     rw[tbf.led,tb.led,aed]
    ·exact tbf.rz (Bool.and_eq_true_iff.mp z).1
  ·exact aae (h es s.heap hel hp (SameBut.refl f s.heap) gf)
theorem zFf(hdec:∀k v,knd.is k v=true->dec v=k)(id:String)(hn:∀k v,knd.is k v=true->∀b,v≠.ref b)(VD:x≠r)(R8:y≠r)(gx:Good knd dec (zU w) s.heap x ka)(gy:Good knd dec (zU w) s.heap y ky)(gr:Good knd dec (zU w) s.heap r []){Q:Unit->Shared->Prop}(h:∀(h':Heap) (kr:List κ),SameBut r s.heap h'->Good knd dec (zU w) h' r kr->(∀k,k∈kr↔k∈ka/\k∈ky)->Q () { s with heap:=h' }) :
  wpAny (model prog w) A (do
   let was <-setEpoch y
   for (h,x') in <-setWalkUnseen y [x,r] (some r) do
    holding [x'] do
     if(<-setFind x x' h).isSome then
      let _ <-setAddHashed r x' h
    aa3 id y was) Q E s:=by
 obtain⟨o,es,ep,t,h1,h2,h3,hf,hl,tb,hel,hp⟩:=gy.size
 refine aac (abr h1 h3 hf ?_)
 refine aac (zG3 gy gr (λb hb=>(mem_cons.mp hb).elim (λe=>e▸⟨ka,gx⟩) λe=>(mem_singleton.mp e)▸⟨[],gr⟩) hn λes' h' oJ hp' sb VF=>?_)
 rw[<-forIn_toList]
 have ln:es'.toList.length=ky.length:=by rw[<-hp'.length_eq,length_map]
 refine aac (abv (acw (β:=Unit) _ (λl _ s'=>∃h2 kr,s'={ s with heap:=h2 }/\SameBut r s.heap h2/\Good knd dec (zU w) h2 r kr/\ElemsOf knd l/\kr.length+l.length<=ky.length/\∀k,(k∈kr\/(k∈ka/\k∈l.map λe=>dec e.2))↔(k∈ka/\k∈ky)) (λ_ s'=>∃h2 kr,s'={ s with heap:=h2 }/\SameBut r s.heap h2/\Good knd dec (zU w) h2 r kr/\∀k,k∈kr↔k∈ka/\k∈ky) ?turn ?fin es'.toList () ⟨h',[],rfl,sb,VF,oJ,by rw[ln,length_nil];omega,λk=>?_⟩) ?post (λ_ _ h=>h))
 case turn =>
  rintro⟨hs,v⟩ l b s' ⟨h2,kr,rfl,lC,g2,hl2,hlen,hm⟩
  obtain⟨⟨k,hk,hh⟩,hsc⟩:=hl2 _ mem_cons_self
  dsimp only at hk hh hsc ⊢
  subst hh
  have kx:∀o,s.heap.get? x=some o->h2.get? x=some o:=λo e=>by rw[lC.2 x VD];exact e
  have ky':∀o,s.heap.get? y=some o->h2.get? y=some o:=λo e=>by rw[lC.2 y R8];exact e
  have VG:=gx.keep kx
  have dv:dec v=k:=hdec k v hk
  rw[length_cons] at hlen
  have cont:∀(h3':Heap)(wg:List κ),SameBut r s.heap h3'->Good knd dec (zU w) h3' r wg->wg.length+l.length<=ky.length->(∀c,(c∈wg\/(c∈ka/\c∈l.map λe=>dec e.2))↔(c∈ka/\c∈ky)) ->
    wpAny (model prog w) A (aa3 id y ep) (λ_ s''=>wpAny (model prog w) A (pure (abz ())) (λq s''=>match q with|.yield _=>∃h2 kr,s''={ s with heap:=h2 }/\SameBut r s.heap h2/\Good knd dec (zU w) h2 r kr/\ElemsOf knd l/\kr.length+l.length<=ky.length/\∀k,(k∈kr\/(k∈ka/\k∈l.map λe=>dec e.2))↔(k∈ka/\k∈ky)|.done _=>∃h2 kr,s''={ s with heap:=h2 }/\SameBut r s.heap h2/\Good knd dec (zU w) h2 r kr/\∀k,k∈kr↔k∈ka/\k∈ky) E s'') E { s with heap:=h3' }:=λh3' wg rH g3 l3 m3=>by
   unfold aa3
   refine aac (abr (s:={ s with heap:=h3' }) (by show h3'.get? y=_;rw[rH.2 y R8];exact h1) h3 hf ?_)
   simp only[bne_self_eq_false,aap,↓reduceIte]
   exact aae (aae ⟨h3',wg,rfl,rH,g3,λe he=>hl2 e (mem_cons_of_mem _ he),l3,m3⟩)
  refine aac (aa9 (aac (wpAny_setFind_of (s:={ s with heap:=h2 }) hk hsc (VG.setOf hdec) λq hq=>?_)))
  cases q with
  |none =>
   have nk:k∉ka:=by simpa using hq.symm
   simp only[Option.isSome_none,aap,↓reduceIte]
   refine aae (aac (cont h2 kr lC g2 (by omega) λc=>?_))
   rw[<-hm c,map_cons,mem_cons]
   show _↔(c∈kr\/c∈ka/\(c=dec v\/_))
   rw[dv]
   constructor
   ·rintro(z|⟨z1,z2⟩)
    ·exact .inl z
    ·exact .inr ⟨z1,.inr z2⟩
   ·rintro(z|⟨z1,z2|z2⟩)
    ·exact .inl z
    ·exact absurd (z2▸z1) nk
    ·exact .inr ⟨z1,z2⟩
  |some j =>
   have mk:k∈ka:=by simpa using hq.symm
   simp only[ac1,↓reduceIte]
   refine aac (Vr (led:=zU w) (s:={ s with heap:=h2 }) hdec hk hsc g2 (by have:=gy.len;omega) λh3' b' rH g3=>?_)
   refine aae (aac (cont h3' _ (lC.trans rH) g3 ?_ λc=>?_))
   ·split
    ·omega
    ·rw[length_cons];omega
   ·rw[<-hm c,map_cons,mem_cons]
    show _↔(c∈kr\/c∈ka/\(c=dec v\/_))
    rw[dv]
    have e:c∈(if k∈kr then kr else k::kr)↔c=k\/c∈kr:=by
     split
     ·rename_i z
      exact⟨.inr,λq=>q.elim (λq=>q▸z) λq=>q⟩
     ·exact mem_cons
    rw[e]
    constructor
    ·rintro((z|z)|⟨z1,z2⟩)
     ·exact .inr ⟨z▸mk,.inl z⟩
     ·exact .inl z
     ·exact .inr ⟨z1,.inr z2⟩
    ·rintro(z|⟨z1,z2|z2⟩)
     ·exact .inl (.inr z)
     ·exact .inl (.inl z2)
     ·exact .inr ⟨z1,z2⟩
 case fin =>
  rintro b s' ⟨h2,kr,rfl,lC,g2,_,_,hm⟩
  refine⟨h2,kr,rfl,lC,g2,λk=>?_⟩
  rw[<-hm k]
  simp
 case post =>
  rintro b s' ⟨h2,kr,rfl,lC,g2,hm⟩
  exact aae (h h2 kr lC g2 hm)
 ·rw[hp'.mem_iff]
  simp
theorem VH(hT:s.TypeIs (.ref a) "set"){Q:Value->Shared->Prop}(h:Q (.type "set") s):wpAny (model prog w) A (Builtin.Frozenset.baseOf a) Q E s:=by
 unfold Builtin.Frozenset.baseOf
 refine aac (adf (T:="set") (b:=true) hT ad4 ?_)
 exact aae h
theorem VJ{Q:Value->Shared->Prop}(h:Q (.ref s.heap.objs.size) { s with heap:=s.heap.push { cls:=.type "set",dict:=none,data:=.set #[] 0 (.fresh 0 0 (zU w)) } }):wpAny (model prog w) A (newSet (.type "set")) Q E s:=by
 unfold newSet setsByText
 refine aac (aac (acv (aae ?_)))
 dsimp only
 simp only[newObj]
 exact aac (wpAny_alloc (aae h))
theorem zR1(hdec:∀k v,knd.is k v=true->dec v=k)(id:String)(hn:∀k v,knd.is k v=true->∀b,v≠.ref b)(hab:b≠a)(ga:Good knd dec (zU w) s.heap a ka)(gb:Good knd dec (zU w) s.heap b kb){Q:Value->Shared->Prop}(h:∀(h':Heap) (kr:List κ),Good knd dec (zU w) h' s.heap.objs.size kr->(∀k,k∈kr↔k∈ka/\k∈kb)->(∀c o,c<s.heap.objs.size->s.heap.get? c=some o->h'.get? c=some o)->Q (.ref s.heap.objs.size) { s with heap:=h' }) :
  wpAny (model prog w) A (Builtin.Frozenset.intersection id a (.ref b)) Q E s:=by
 have la:a<s.heap.objs.size:=by obtain⟨o,_,_,_,h1,_⟩:=ga;exact lt_size h1
 have lb:b<s.heap.objs.size:=by obtain⟨o,_,_,_,h1,_⟩:=gb;exact lt_size h1
 unfold Builtin.Frozenset.intersection
 rw[if_neg (λe=>hab (aef (abq e)))]
 refine aac (VH ga.type (aac (VJ ?_)))
 refine aac (aae ?_)
 have up:∀c o,s.heap.get? c=some o->(s.heap.push { cls:=.type "set",dict:=none,data:=.set #[] 0 (.fresh 0 0 (zU w)) }).get? c=some o:=λc o e=>get?_push_of_some _ e
 have Gk:=ga.keep (up a)
 have Gm:=gb.keep (up b)
 have Mp:Good knd dec (zU w) (s.heap.push { cls:=.type "set",dict:=none,data:=.set #[] 0 (.fresh 0 0 (zU w)) }) s.heap.objs.size []:=Ph (get?_push_size _ rfl)
 generalize hp:s.heap.push { cls:=.type "set",dict:=none,data:=.set #[] 0 (.fresh 0 0 (zU w)) }=hq at up Gk Gm Mp ⊢
 have fin:∀(h':Heap)(kr:List κ),SameBut s.heap.objs.size hq h'->Good knd dec (zU w) h' s.heap.objs.size kr->(∀k,k∈kr↔k∈ka/\k∈kb)->Q (.ref s.heap.objs.size) { s with heap:=h' }:=λh' kr sb g m =>
  h h' kr g m λc o hc e=>by rw[sb.2 c (aaj hc)];exact up c o e
 refine aac (aa9 (aac (Ju (s:={ s with heap:=hq }) (Good.type (s:={ s with heap:=hq }) Gm) ?_)))
 simp only[↓reduceIte]
 refine aac (aae ?_)
 refine aac (Ml (s:={ s with heap:=hq }) Gm (aac (Ml (s:={ s with heap:=hq }) Gk ?_)))
 split
 ·exact zFf (s:={ s with heap:=hq }) hdec id hn (aaj lb) (aaj la) Gm Gk Mp λh' kr sb g m=>aae (fin h' kr sb g λk=>by rw[m k,and_comm])
 ·exact zFf (s:={ s with heap:=hq }) hdec id hn (aaj la) (aaj lb) Gk Gm Mp λh' kr sb g m=>aae (fin h' kr sb g m)
theorem Jv(hdec:∀k v,knd.is k v=true->dec v=k)(hn:∀k v,knd.is k v=true->∀b,v≠.ref b)(hab:b≠a)(ga:Good knd dec (zU w) s.heap a ka)(gb:Good knd dec (zU w) s.heap b kb){Q:Value->Shared->Prop}(h:∀(h':Heap) (kr:List κ),Good knd dec (zU w) h' s.heap.objs.size kr->(∀k,k∈kr↔k∈ka/\k∈kb)->(∀c o,c<s.heap.objs.size->s.heap.get? c=some o->h'.get? c=some o)->Q (.ref s.heap.objs.size) { s with heap:=h' }) :
  wpAny (model prog w) A (binaryOp .BitAnd (.ref a) (.ref b)) Q E s:=by
 refine wpAny_binaryOp_same (op:=.BitAnd) (T:="set") ga.type gb.type F.fills_set_and F.slot_set_and (acf F.slot_set_and ga.type zF3 ?_ (F.args_set_and_2 _ _))
 refine aac (m:=ab9 "__and__" ⟨[.ref a,.ref b],[]⟩) ?_
 unfold ab9 slotArgs
 refine aae ?_
 dsimp only
 refine aac (aac (Ju ga.type ?_))
 refine Ju gb.type ?_
 simp only[abw,aap,↓reduceIte]
 refine aac (aae (aac (zR1 hdec _ hn hab ga gb λh' kr g m k=>aae ⟨.ref s.heap.objs.size,rfl,?_,h h' kr g m k⟩)))
 exactλz=>Value.noConfusion z
end
end pU
namespace L2
open PySem PySem.Spec PyProof.Rows pU
section
variable{X:Cx}
def Gn(ta tb:Js):Js:=λσ H Q=>ta σ H λks H1=>tb σ H1 λjs H2=>∀rs:LI,rs.Nodup->(∀z,z∈rs↔z∈ks/\z∈js)->Q rs H2
theorem Cr(ha:Gj X a ta)(hb:Gj X b tb):Gj X (.BinOp a .BitAnd b pos) (Gn ta tb):=by
 intro pins s σ H Q I h
 refine wpAny_BinOp (aN (ha pins s σ H _ I h) λu s1 ⟨p,ks,H1,e,I1,g,fo,h1⟩=>?_)
 subst e
 obtain⟨o,es,ep,t,go,gx,gd,_⟩:=id g
 have VL:=I1.pinned (fp:=[p]) (λb hb=>by rw[mem_singleton.mp hb];exact fo) (λb hb=>by
  rw[mem_singleton.mp hb]
  exact⟨o,go,λv z=>by rw[gd] at z;cases z⟩)
 refine aN (hb _ s1 σ H1 _ VL h1) λu2 s2 ⟨p2,js,H2,e2,I2,g2,VN,q2⟩=>?_
 subst e2
 have pm:(p,o)∈X.pn++(pins++Ht [p] s1.heap):=mem_append_right _ (mem_append_right _ (uC (mem_singleton.mpr rfl) go))
 have kp:s2.heap.get? p=some o:=(I2.pin (p,o) pm).1
 have g1:=g.keep (h':=s2.heap) λo' e'=>by rw[go] at e';cases e';exact kp
 have ne:p2≠p:=ab8 (VN.2.2.2.2.2 (p,o) pm)
 have I3:=I2.gA
 refine Jv Vx (λk v hk b z=>?_) ne g1 g2 λh' kr g3 m k=>?_
 ·obtain⟨t,rfl⟩:=acn hk
  cases z
 ·have I4:=I3.kept (h':=h') (t':=s2.toks) λb o e=>k b o (lt_size e) e
  obtain⟨_,_,_,_,_,_,_,_,_,nd,_⟩:=id g3
  exact⟨_,kr,H2,rfl,I4,g3,I3.lq (aaf _) (I3.hok.fresh (aaf _)),q2 kr nd m⟩
end
end L2
namespace Ts
open PySem L2
def R9(ns ms:LI):Option LI:=if(ns.length<64\/ms.length<64)/\ns.length<4000/\ms.length<4000 then some (vK (ns.filter λz=>decide (z∈ms))) else none
section
variable{K:PySem.W.Frag}{B:Bs}{sl:SL K}{md:Md}{t1 t2:TE}
theorem zMo(h1:Ex B sl .hp t1 m1)(h2:Ex B sl .hp t2 m2):Eo B sl md (R7 (Gn (Mf K t1) (Mf K t2))) (m1.bind λa=>m2.bind λb=>R9 a b):=λc hc F O H σ Q s k=>by
 obtain⟨ns,ms,ha,hb,hf⟩:=rZ hc
 unfold R9 at hf
 split at hf
 case isFalse=>cases hf
 rename_i hl
 cases hf
 refine h1 ns ha F O H σ _ s λv F' H' g r1=>?_
 obtain⟨p,vs,rfl,z1,z2⟩:=r1
 have z3:vs=ns.map V.int:=z2.vals
 subst z3
 refine⟨p,ns,rfl,bw.of z1,hl.2.1,λks nd hm=>?_⟩
 refine h2 ms hb F' O H' σ _ (s.grow g) λw F2 H2 g2 r2=>?_
 obtain⟨p',vs',rfl,y1,y2⟩:=r2
 have y3:vs'=ms.map V.int:=y2.vals
 subst y3
 refine⟨p',ms,rfl,bw.of y1,hl.2.2,λjs jd hj rs rd hr=>⟨hl.1.elim (aan (Mj rd λz hz=>(hm z).mp ((hr z).mp hz).1)) (aan (Mj rd λz hz=>(hj z).mp ((hr z).mp hz).2)),λl us hn p1 p2=>?_⟩⟩
 have e:us=vK (ns.filter λz=>decide (z∈ms)):=Mi (uI p2 (p1.nodup_iff.mpr rd)) (Mh _) λz=>by rw[p1.mem_iff,hr,hm,hj,cQ,mem_filter,decide_eq_true_iff]
 subst e
 exact k l _ F2 H2 (g.trans g2) hn (IV _)
end
end Ts
namespace L2
open PySem PySem.Spec PyProof.Rows
section
variable{X:Cx}
theorem Gp:QS X .BitOr (QT λi j=>aci i j):=by
 intro pins s σ H x y v u Q I r1 r2 h
 obtain⟨i,j,e1,e2,q⟩:=h
 subst e1;subst e2
 obtain⟨t,rfl⟩:=r1
 obtain⟨t',rfl⟩:=r2
 exact ior_int ⟨.int _,H,I.tok _,⟨_,rfl⟩,q⟩
def Gq(K:PySem.W.Frag):V->V->Hp->VK->Prop:=λx y H Q=>∃p xs i v,x=.ref p/\y=.int i/\0<=i/\bw K H p xs/\bF xs i=some v/\Q v H
theorem zO8(K:PySem.W.Frag)(h:X.K=K:=by rfl):Nt X (Gq K):=by
 subst h
 intro pins s σ H o i ov iv Q I rx ry h
 obtain⟨p,xs,i,z,rfl,rfl,h0,hq,he,q⟩:=h
 cases rx
 obtain⟨t,rfl⟩:=ry
 obtain⟨its,r,pl,hz⟩:=I.list hq
 obtain⟨j,h1,h2,h3,h4,h5⟩:=Yq he
 obtain⟨w,ew,Ua⟩:=r.get h2
 have hl:=r.length
 have hn:=Lh
 have hj:i.toNat=j:=by
  rw[aea h0 h5] at h1
  exact aai h1
 exact wpAny_getItem_list pl.isList h0 (by omega) (by rw[hj];simpa using ew) ⟨z,H,I,Ua,q⟩
theorem VP(K:PySem.W.Frag)(ha:PE X a ta)(hK:X.K=K:=by rfl)(he:∀whole,isTrue a X.env whole=(do let v <-whole;standAt a.pos;holding [v] (truthy v)):=by intro _;rfl) :
  PT X a (λσ H Q=>ta σ H λx H'=>∃k,Ax K x H' k/\Q k H'):=by
 subst hK
 exact zRb ha he
def tLR(ta:TA):TE:=λσ H Q=>ta σ H λvs H1=>∃j:Int,vs=[.int j] /\ -(2^62)<=j/\j<1000000/\∀l,H1 l=none->Q (.ref l) (upd H1 l (.lst (((aar j.toNat).map acr).map V.int)))
theorem Cu{acc:List Value}:∀{ns:LI},acc.length=ns.length->(∀(i:Nat)(v:Value),acc[i]?=some v->∃t:Tok,v=abp (ns.getD i 0) t)->IntsAre acc ns:=by
 induction acc with
 |nil =>
  intro ns h _
  cases ns with
  |nil=>exact .nil
  |cons n ns=>simp at h
 |cons v acc ih =>
  intro ns h g
  cases ns with
  |nil=>simp at h
  |cons n ns =>
   obtain⟨t,e⟩:=g 0 v rfl
   subst e
   exact .cons n t (ih (by simpa using h) λi v hv=>g (i+1) v hv)
theorem zJ8(hc:X.calm=true)(hg:Gl X "list")(hm:X.mg "list" = none)(hg2:Gl X "range")(hm2:X.mg "range" = none)(ha:PA X [a] ta)(hs:starEach [a] X.env=[(false,eval a X.env)]:=by rfl)(hs2:starEach [Expr.Call (.Name "range" p2) [a] [] pos2] X.env=[(false,eval (Expr.Call (.Name "range" p2) [a] [] pos2) X.env)]:=by rfl):PE X (.Call (.Name "list" p) [.Call (.Name "range" p2) [a] [] pos2] [] pos) (tLR ta):=by
 intro pins s σ H Q I h
 refine abo (zy I hg hm (by decide +kernel:bootBuiltins "list" = some (.type "list")) ?_)
 refine aa4 ?_ hs2 rfl
 rw[hs2]
 show wpAny _ _ (spliced ((false,eval (Expr.Call (.Name "range" p2) [a] [] pos2) X.env)::backTo pos [])) _ _ s
 refine adl (abo (zy I hg2 hm2 boot_range (aa4 (aN (ha pos2 pins s σ H _ I h) λus s1 ⟨vs,H1,I1,r1,q1⟩=>?_) hs rfl)))
 obtain⟨j,e,q1,q2,q⟩:=q1
 subst e
 cases r1 with
 |cons r rr =>
  cases rr
  obtain⟨t,rfl⟩:=r
  refine call_range_1 (adq ?_)
  have I2:Inv X pins σ H1 { s1 with heap:=s1.heap.push { cls:=.type "range",data:=.fields #[.int 0 s1.toks,.int j t,.int 1 (s1.toks+1)] },toks:=s1.toks+1+1 }:=I1.kept λb o e=>get?_push_of_some _ e
  refine call_list_range (n:=j.toNat) (I2.ok.hd hc) (IsRange.new ..) (small_one (by omega) (by omega) q1 (by omega)) (by rw[rangeSize_one];split<;>omega) (by omega) λh' tk acc' c' hk hS hacc=>?_
  have hI:IntsAre acc'.toList ((aar j.toNat).map acr):=Cu (by rw[length_toList,hacc.1,length_map,length_range]) λi v hv=>by
   rw[getElem?_toList] at hv
   obtain⟨t',rfl⟩:=hacc.2 i v hv
   have hi:i<j.toNat:=by
    have:=(Array.getElem?_eq_some_iff.mp hv).1
    rw[hacc.1] at this
    exact this
   refine⟨t',?_⟩
   have e:((aar j.toNat).map acr).getD i 0=(i:Int):=by
    rw[getD_eq_getElem?_getD,getElem?_map,getElem?_range hi]
    rfl
   rw[e]
   simp
  refine⟨.ref _,_,I2.laid (h':=h') (t':=tk) (o:=.lst (((aar j.toNat).map acr).map V.int)) (λb ob w=>hk b ob w) (aaf _) ?_,rfl,q _ (I2.hok.fresh (aaf _))⟩
  refine⟨?_,acc'.toList,c',uQ hI,?_⟩
  ·rw[length_map,length_map,length_range]
   exact aas (show j.toNat<=1000000 by omega) (by decide)
  ·rw[toArray_toList];exact hS
end
end L2
namespace Ts
open PySem L2
def sE(a b:Int):Option Int:=if 0<=b/\b<=1000000/\a.natAbs<2^64 then some (a*2^b.toNat) else none
def iZ(a b:Int):Option Int:=if 0<=b then some (a/2^b.toNat) else none
section
variable{K:PySem.W.Frag}{B:Bs}{sl:SL K}{md:Md}{t t1 t2 te:TE}{m1 m2:Option Int}
theorem Pk(h1:Ex B sl .hp t1 m1)(h2:Ex B sl .hp t2 m2):Ex B sl md (mW (rA λi j=>.int (aay i j)) t1 t2) (m1.bind λa=>m2.bind λb=>some (aay a b)):=Ry (λ_ _=>rfl) h1 h2
theorem Jw(h1:Ex B sl .hp t1 m1)(h2:Ex B sl .hp t2 m2):Ex B sl md (mW (rI Nx λi j=>.int (i*2^j.toNat)) t1 t2) (m1.bind λa=>m2.bind λb=>sE a b) :=
 Ab (f:=sE) (λa b c v w H Q e r1 r2 q=>by
  unfold sE at e
  split at e
  case isFalse=>cases e
  rename_i hc
  cases e;cases r1;cases r2
  exact⟨a,b,rfl,rfl,hc,q⟩) h1 h2
theorem R_(h1:Ex B sl .hp t1 m1)(h2:Ex B sl .hp t2 m2):Ex B sl md (mW (rI (λ_ j=>0<=j) λi j=>.int (i/2^j.toNat)) t1 t2) (m1.bind λa=>m2.bind λb=>iZ a b) :=
 Ab (f:=iZ) (λa b c v w H Q e r1 r2 q=>by
  unfold iZ at e
  split at e
  case isFalse=>cases e
  rename_i hc
  cases e;cases r1;cases r2
  exact⟨a,b,rfl,rfl,hc,q⟩) h1 h2
theorem VR{m:Option Int}(h:Ex B sl .hp t m):Et B sl (λσ H Q=>t σ H λx H'=>∃k,Ax K x H' k/\Q k H') (m.bind λi=>some (i != 0)):=λc hc F O H σ Q s k=>by
 cases m with
 |none=>cases hc
 |some i =>
  cases(show some (i != 0)=some c from hc)
  refine h i rfl F O H σ _ s λv F' H' g r=>?_
  cases r
  exact⟨_,rfl,k F' H' g⟩
def Cv(n:Int):Option LI:=if -(2^62)<=n/\n<1000000 then some ((aar n.toNat).map acr) else none
theorem zKw(h:Ex B sl .hp t m):Eo B sl md (tLR (xG t cj)) (m.bind Cv):=λc hc F O H σ Q s k=>by
 cases m with
 |none=>cases hc
 |some n =>
  have hc:Cv n=some c:=hc
  unfold Cv at hc
  split at hc
  case isFalse=>cases hc
  rename_i hl
  cases hc
  refine h n rfl F O H σ _ s λv F' H' g r1=>?_
  cases r1
  exact⟨n,rfl,hl.1,hl.2,λl hn=>k l _ F' H' g hn (IV _)⟩
def wj(xs ys:LI):Option LI:=if xs.length+ys.length<cap then some (xs++ys) else none
theorem zNp(i:Nat)(hs:sl[i]?=some (.ow n xs))(hh:sl.all (λs=>!cP s)=true)(h:Ex B sl .hp te m) :
  Sn B sl (K9 (Lk K "list" Ud (c7 i) (xG te cj))) (λys=>sl.set i (.ow n ys)) (m.bind λa=>wj xs a):=λys ha G D σ H s k=>by
 cases m with
 |none=>cases ha
 |some a =>
  have ha':wj xs a=some ys:=ha
  unfold wj at ha'
  split at ha'
  case isFalse=>cases ha'
  rename_i hl
  cases ha'
  obtain⟨F,O,g,z⟩:=s
  obtain⟨p,vs,h1,h2,h3,_⟩:=z.chg hs hh
  refine⟨_,h1,.inl ⟨rfl,_,bw.of h2⟩,?_⟩
  refine h a rfl F O H σ _ z λv F' H' gr r=>?_
  obtain⟨p',vs',h1',h2',h3',h4'⟩:=(z.grow gr).chg hs hh
  have e:=h1.symm.trans h1'
  cases e
  obtain⟨q,us,rfl,z1,z2⟩:=r
  have z3:us=a.map V.int:=z2.vals
  subst z3
  have e3:vs'=xs.map V.int:=h3'.vals
  subst e3
  obtain⟨O',z'⟩:=h4' (xs.map V.int++a.map V.int) (xs++a) (by rw[<-map_append];exact IV _)
  exact⟨p,q,_,_,rfl,rfl,h2',z1,by rw[length_map,length_map];exact ab4 (Ac hl),k _ _ ⟨F',O',g.trans gr.ff,z'⟩⟩
def Cw(f:Int->Int->Int)(xs:LI)(ix:Int)(y:Int):Option LI:=if 0<=ix then(L2.bF xs ix).bind λx=>rD xs ix (f x y) else none
theorem zQx(i:Nat)(hs:sl[i]?=some (.ow n xs))(hh:sl.all (λs=>!cP s)=true)(hi:Ex B sl .hp ti mi)(hv:Ex B sl .hp te m) :
  Sn B sl (E_ (c7 i) ti te (Gq K) (QT f) vd) (λys=>sl.set i (.ow n ys)) (mi.bind λk=>m.bind λa=>Cw f xs k a):=λys ha G D σ H s k=>by
 obtain⟨ix,a,e1,e2,ha'⟩:=rZ ha
 unfold Cw at ha'
 split at ha'
 case isFalse=>cases ha'
 rename_i h0
 obtain⟨x,ex,ha'⟩:=Option.bind_eq_some_iff.mp ha'
 obtain⟨F,O,g,z⟩:=s
 obtain⟨p,vs,h1,h2,h3,_⟩:=z.chg hs hh
 refine⟨_,h1,?_⟩
 refine hi ix e1 F O H σ _ z λv F' H' gr r=>?_
 cases r
 obtain⟨p',vs',h1',h2',h3',h4'⟩:=(z.grow gr).chg hs hh
 have e:=h1.symm.trans h1'
 cases e
 obtain⟨xv,exv,rx⟩:=h3'.bF ex
 have rx:xv=.int x:=Sc.is.mp rx
 subst rx
 refine⟨p,vs',ix,_,rfl,rfl,h0,bw.of h2',exv,?_⟩
 refine hv a e2 F' O H' σ _ (z.grow gr) λw F2 H2 rE rw=>?_
 cases rw
 obtain⟨p2,vs2,y1,y2,y3,y4⟩:=((z.grow gr).grow rE).chg hs hh
 have e:=h1.symm.trans y1
 cases e
 refine⟨x,a,rfl,rfl,?_⟩
 unfold rD at ha'
 cases ej:rB xs.length ix with
 |none=>rw[ej] at ha';cases ha'
 |some jj =>
  rw[ej] at ha'
  cases ha'
  obtain⟨O',z'⟩:=y4 (vs2.set jj (.int (f x a))) (xs.set jj (f x a)) (y3.set (Sc.is.mpr rfl) jj)
  exact⟨p,vs2,ix,jj,rfl,rfl,y2,by rw[y3.len,ej],k _ _ ⟨F2,O',(g.trans gr.ff).trans rE.ff,z'⟩⟩
end
section
variable{K:PySem.W.Frag}{B:Bs}{sl:SL K}{F H H2:Hp}{O:Own}{σ:St}{te:TE}
end
section
variable{K:PySem.W.Frag}{B:Bs}{sl sl2:SL K}{G F H:Hp}{O:Own}{σ:St}{te:TE}
theorem Cy{α β:Type}[Rp K α][Rp K β]{m:Option (α×β)}{L:α×β->SL K}(h:Ex B sl (dX n) te m)(hg:Tg B sl n g L):Sn B sl (lg te g) L m:=λa ha G D σ H s k=>by
 obtain⟨F,O,g0,z⟩:=s
 exact h a ha F O H σ _ z λv F' H' gr r=>hg v a F' O H' σ _ (z.grow gr) r λσ' z'=>k _ _ ⟨F',O,g0.trans gr.ff,z'⟩
inductive V0{α:Type}[Rp K α](kvs:List (Key×α)):SL K->SL K->Prop
 |here {a:SL K}:V0 kvs (.od kvs::a) (.fz false (Dc.mk kvs)::a)
 |skip {s:Slot K} {a b:SL K}:V0 kvs a b->V0 kvs (s::a) (s::b)
end
section
variable{K:PySem.W.Frag}{B:Bs}{sl:SL K}{md:Md}{t t2:TE}{α β:Type}[Rp K α][Rp K β]
end
def sH{α:Type}(xs:List α)(lo hi:Option Int):List α:=(xs.drop (HT.oG xs.length 0 lo)).take (HT.oG xs.length xs.length hi-HT.oG xs.length 0 lo)
section
variable{P:Program}{w:World}{K:PySem.W.Frag}{mg:Str->Option Value}{base:Heap}{B:Bs}{sl:SL K}{md:Md}{α β:Type}[Rp K α][Rp K β]{tA:Addr}{tO:HO}{te t1 t2:TE}
theorem A2.cut(h:A2 R vs xs)(lo hi:Option Int):A2 R (rY vs lo hi) (sH xs lo hi):=by
 unfold rY sH
 rw[h.len]
 exact(h.dr _).tk _
theorem V1(K:PySem.W.Frag){X:Cx}(h:X.K=K:=by rfl):T9 X (HS K):=by subst h;exact Bp
end
section
variable{X:Cx}{pos pos':Pos}{x:Str}{e:Expr}{te:TE}
theorem xC(i:Nat)(hN:X.N.Nodup)(he:PE X e te)(hi:X.N[i]?=some x:=by rfl)(hx:Loc X.env.scope x:=by first|exact .inl rfl|exact .inr rfl)(hs:swapsWith e (some (.Name x pos')) pos.line X.env=pure false:=by rfl)(hf:X.fn x=true\/X.env.scope.names.lookup x=some .local:=by first|exact .inl rfl|exact .inr rfl|assumption):PS X (.Assign [.Name x pos'] e pos) (lg te (pL i)):=Tt hN hi hx he hs hf
theorem bL(i:Nat)(hN:X.N.Nodup)(hi:X.N[i]?=some x:=by rfl)(hx:Loc X.env.scope x:=by first|exact .inl rfl|exact .inr rfl)(hf:X.fn x=true\/X.env.scope.names.lookup x=some .local:=by first|exact .inl rfl|exact .inr rfl|assumption):PG X (.Name x pos) (pL i):=yA hN hi hx hf
end
theorem esc{K:PySem.W.Frag}{B:Bs}{sl:SL K}{md:Md}{α:Type}[Rp K α][Sc K α]{t:TE}{m:Option α}(h:Ex B sl .hp t m):Ex B sl md t m:=h.sc
theorem fsc{N P:List Str}{s:Scope}(h1:s.kind=.function:=by rfl)(h2:s.isCoroutine=false:=by rfl)(h3:s.isGenerator=false:=by rfl)(h4:N.Nodup:=by decide +kernel)(h5:N.take P.length=P:=by rfl)(h6:∀x∈P,s.names.lookup x=some .local\/s.names.lookup x=some .cell:=by decide +kernel)(h7:∀y∈s.names,y.2≠.free:=by decide +kernel):ao N P s:=⟨h1,h2,h3,h4,h5,h6,h7⟩
section
variable{K:PySem.W.Frag}{x y:Str}{st:Stmt}{f:Addr}{fd:FuncData}{p0 p1 p2 p3 p4:Str}
theorem tY(F:aY K x y st f fd)(h:∀kV dc pm an cd ct u0,bindArgs (fnOf x y (vQ st) (xX st) (zI st) .none kV dc pm an cd ct) ⟨[u0],[]⟩=pure [(p0,u0)]:=by intros;rfl):Binds K fd [p0] []:=F.binds λa b c d e g us hl=>match us,hl with|[u0],_=>h a b c d e g u0
theorem jq(F:aY K x y st f fd)(h:∀kV dc pm an cd ct u0 u1,bindArgs (fnOf x y (vQ st) (xX st) (zI st) .none kV dc pm an cd ct) ⟨[u0,u1],[]⟩=pure [(p0,u0),(p1,u1)]:=by intros;rfl):Binds K fd [p0,p1] []:=F.binds λa b c d e g us hl=>match us,hl with|[u0,u1],_=>h a b c d e g u0 u1
theorem pX(F:aY K x y st f fd)(h:∀kV dc pm an cd ct u0 u1 u2,bindArgs (fnOf x y (vQ st) (xX st) (zI st) .none kV dc pm an cd ct) ⟨[u0,u1,u2],[]⟩=pure [(p0,u0),(p1,u1),(p2,u2)]:=by intros;rfl):Binds K fd [p0,p1,p2] []:=F.binds λa b c d e g us hl=>match us,hl with|[u0,u1,u2],_=>h a b c d e g u0 u1 u2
theorem V2(F:aY K x y st f fd)(h:∀kV dc pm an cd ct u0 u1 u2 u3,bindArgs (fnOf x y (vQ st) (xX st) (zI st) .none kV dc pm an cd ct) ⟨[u0,u1,u2,u3],[]⟩=pure [(p0,u0),(p1,u1),(p2,u2),(p3,u3)]:=by intros;rfl):Binds K fd [p0,p1,p2,p3] []:=F.binds λa b c d e g us hl=>match us,hl with|[u0,u1,u2,u3],_=>h a b c d e g u0 u1 u2 u3
end
theorem aU{K:PySem.W.Frag}{a b:SL K}(h:Le a b:=by repeat(first|exact Le.nil|refine Le.eq ?_|refine Le.un ?_|refine Le.fr ?_)):Le a b:=h
theorem dj{K:PySem.W.Frag}{a b:SL K}(h:qy a b:=by repeat(first|exact qy.nil|refine qy.eq ?_|refine qy.un ?_)):qy a b:=h
abbrev Slot.z{α:Type}[Rp K α](a:α):Slot K:=.fz false a
abbrev Slot.y{α:Type}[Rp K α](a:α):Slot K:=.fz true a
end Ts
namespace pU
open PySem PySem.SetTable
set_option maxRecDepth 100000
def Sd(m:Nat):Nat->Nat->Nat
 |0,i=>i
 |t+1,i=>Sd m t ((i*5+1)%m)
def seen(m:Nat):Nat->Nat->Nat->Nat
 |0,_,acc=>acc
 |t+1,i,acc=>seen m t ((i*5+1)%m) (acc|||1 <<< i)
theorem zJ3(m j:Nat):∀(t i acc:Nat),(seen m t i acc).testBit j=true->acc.testBit j=true\/∃u,u<t/\Sd m u i=j
 |0,i,acc,h=>.inl h
 |t+1,i,acc,h=>by
  rcases zJ3 m j t _ _ h with z|⟨u,hu,e⟩
  ·rw[Nat.testBit_or,abg] at z
   rcases z with z|z
   ·exact .inl z
   ·rw[Nat.testBit_shiftLeft,aag,decide_eq_true_eq] at z
    obtain⟨z1,z2⟩:=z
    have:j-i=0:=by
     cases q:j-i with
     |zero=>rfl
     |succ n =>
      rw[q] at z2
      have:(1:Nat).testBit (n+1)=false:=Nat.testBit_lt_two_pow (aal (by decide) (Nat.pow_le_pow_right (by decide) (abj (aa0 n))))
      rw[this] at z2
      cases z2
    exact .inr ⟨0,ad2 _,by show i=j;omega⟩
  ·exact .inr ⟨u+1,Nat.succ_lt_succ hu,e⟩
def sI(m:Nat):Bool:=(aar m).all λi=>seen m m i 0==2^m-1
theorem Cz(h:sI m=true)(hi:i<m)(hj:j<m):∃u,u<m/\Sd m u i=j:=by
 have q:=all_eq_true.mp h i (mem_range.mpr hi)
 have e:seen m m i 0=2^m-1:=by simpa using q
 have t:(seen m m i 0).testBit j=true:=by rw[e,Nat.testBit_two_pow_sub_one];simpa using hj
 rcases zJ3 m j m i 0 t with z|z
 ·rw[Nat.zero_testBit] at z;cases z
 ·exact z
theorem Pn:sI 8=true:=by decide +kernel
theorem Pq:sI 16=true:=by decide +kernel
theorem Pr:sI 32=true:=by decide +kernel
theorem Pu:sI 64=true:=by decide +kernel
theorem Jx:sI 128=true:=by decide +kernel
theorem Jy:sI 256=true:=by decide +kernel
theorem Px{owner:Array (Option Nat)}{mask i:Nat}(h:owner.getD i (some 0)=none):(aar (runEnd mask i+1-i)).find? (λk=>(owner.getD (i+k) (some 0)).isNone)≠none:=λe=>by
 have q:=List.find?_eq_none.mp e 0 (mem_range.mpr (by unfold runEnd;split<;>omega))
 apply q
 show(owner.getD (i+0) (some 0)).isNone=true
 rw[Nat.add_zero,h];rfl
theorem zHx{owner:Array (Option Nat)}{mask:Nat}:∀(fuel i p j:Nat),layClean.free mask owner fuel i p=some j->owner.getD j (some 0)=none
 |0,_,_,_,h=>by cases h
 |fuel+1,i,p,j,h=>by
  unfold layClean.free at h
  split at h
  ·rename_i k hk
   cases h
   have:=List.find?_some hk
   simpa using this
  ·exact zHx fuel _ _ j h
theorem zHy{owner:Array (Option Nat)}{mask j:Nat}(hj:owner.getD j (some 0)=none):∀(fuel u i:Nat),u<fuel->Sd (mask+1) u i=j->layClean.free mask owner fuel i 0≠none
 |0,u,i,h,_=>absurd h (ad5 _)
 |fuel+1,0,i,_,e=>by
  have e':i=j:=e
  subst e'
  unfold layClean.free
  cases q:(aar (runEnd mask i+1-i)).find? λk=>(owner.getD (i+k) (some 0)).isNone with
  |none=>exact absurd q (Px hj)
  |some k=>exactλz=>by cases z
 |fuel+1,u+1,i,h,e=>by
  unfold layClean.free
  cases q:(aar (runEnd mask i+1-i)).find? λk=>(owner.getD (i+k) (some 0)).isNone with
  |none=>exact zHy hj fuel u _ (Nat.lt_of_succ_lt_succ h) e
  |some k=>exactλz=>by cases z
theorem zKl{owner:Array (Option Nat)}{mask:Nat}(fuel:Nat)(h0:∀i,i<=mask->layClean.free mask owner fuel i 0≠none):∀(d i p:Nat),i<=mask->p<32^d->layClean.free mask owner (fuel+d) i p≠none
 |0,i,p,hi,hp=>by
  have e:p=0:=by rw[Nat.pow_zero] at hp;omega
  subst e
  exact h0 i hi
 |d+1,i,p,hi,hp=>by
  show layClean.free mask owner (fuel+d+1) i p≠none
  unfold layClean.free
  cases q:(aar (runEnd mask i+1-i)).find? λk=>(owner.getD (i+k) (some 0)).isNone with
  |none=>exact zKl fuel h0 d _ _ (adu (aeh _ (ad2 _))) (by rw[Nat.pow_succ] at hp;show p/32<_;omega)
  |some k=>exactλz=>by cases z
theorem CG{owner:Array (Option Nat)}{mask j:Nat}(hc:sI (mask+1)=true)(hs:j<=mask)(hj:owner.getD j (some 0)=none)(h:Int):∃k,layClean.free mask owner (turns mask) (bits h%(mask+1)) (bits h)=some k/\owner.getD k (some 0)=none:=by
 have q:layClean.free mask owner (mask+2+13) (bits h%(mask+1)) (bits h)≠none:=zKl (mask+2) (λi hi=>by
  obtain⟨u,hu,e⟩:=Cz hc (Nat.lt_succ_of_le hi) (Nat.lt_succ_of_le hs)
  exact zHy hj _ u i (by omega) e) 13 _ _ (adu (aeh _ (ad2 _))) (by unfold bits;have:=Int.emod_lt_of_pos h (b:=2^64) (by decide);have:=Int.emod_nonneg h (b:=2^64) (by decide);omega)
 unfold turns
 cases e:layClean.free mask owner (mask+15) (bits h%(mask+1)) (bits h) with
 |none=>exact absurd e q
 |some k=>exact⟨k,rfl,zHx _ _ _ _ e⟩
theorem V3{α:Type}(v:α):∀(l:List (Option α))(j:Nat),l[j]?=some none->((l.set j (some v)).filterMap id).Perm (v::l.filterMap id)
 |[],j,h=>by simp at h
 |x::l,0,h=>by
  have e:x=none:=by simpa using h
  subst e
  exact .refl _
 |none::l,j+1,h=>by
  show((l.set j (some v)).filterMap id).Perm (v::l.filterMap id)
  exact V3 v l j (by simpa using h)
 |some x::l,j+1,h=>by
  show(x::(l.set j (some v)).filterMap id).Perm (v::x::l.filterMap id)
  exact((V3 v l j (by simpa using h)).cons x).trans (.swap _ _ _)
theorem zG5:∀(l:List (Option Nat)),(l.filterMap id).length<l.length->∃j,j<l.length/\l[j]?=some none
 |[],h=>by simp at h
 |none::l,_=>⟨0,by simp,rfl⟩
 |some x::l,h=>by
  obtain⟨j,hj,e⟩:=zG5 l (by simpa using h)
  exact⟨j+1,by simpa using hj,e⟩
theorem getD_none{owner:Array (Option Nat)}:owner.getD j (some 0)=none↔owner.toList[j]?=some none:=by
 rw[Array.getD_eq_getD_getElem?,getElem?_toList]
 cases owner[j]? with
 |none=>simp
 |some x=>simp
theorem zS9{mask:Nat}(hc:sI (mask+1)=true):∀(hs:LI)(owner:Array (Option Nat))(k:Nat),owner.size=mask+1->(owner.toList.filterMap id).Perm (aar k)->k+hs.length<=mask ->
  ∃qG,hs.foldl (λacc h=>do
   let(owner,k) <-acc
   let j <-layClean.free mask owner (turns mask) (bits h%(mask+1)) (bits h)
   pure (owner.setIfInBounds j (some k),k+1)) (some (owner,k))=some (qG,k+hs.length)/\qG.size=mask+1/\(qG.toList.filterMap id).Perm (aar (k+hs.length))
 |[],owner,k,h1,h2,h3=>⟨owner,rfl,h1,h2⟩
 |h::hs,owner,k,h1,h2,h3=>by
  obtain⟨j,hj,ej⟩:=zG5 owner.toList (by rw[h2.length_eq,length_range,length_toList,h1];rw[length_cons] at h3;omega)
  obtain⟨i,ei,fi⟩:=CG hc (owner:=owner) (j:=j) (by rw[length_toList,h1] at hj;omega) (getD_none.mpr ej) h
  have q:=zS9 hc hs (owner.setIfInBounds i (some k)) (k+1) (by rw[Array.size_setIfInBounds];exact h1) ?_ (by rw[length_cons] at h3;omega)
  ·obtain⟨o',e,z1,z2⟩:=q
   have ek:k+(h::hs).length=k+1+hs.length:=by rw[length_cons];omega
   refine⟨o',?_,z1,by rw[ek];exact z2⟩
   rw[ek,List.foldl_cons,<-e]
   refine congrArg (λz=>List.foldl _ z hs) ?_
   show(layClean.free mask owner (turns mask) (bits h%(mask+1)) (bits h)).bind _=_
   rw[ei]
   rfl
  ·rw[Array.toList_setIfInBounds,range_succ]
   exact((V3 k owner.toList i (getD_none.mp fi)).trans (h2.cons k)).trans (List.perm_append_singleton k _).symm
theorem zHg:∀(l:List (Option Nat)),(aar l.length).filterMap (λj=>(l[j]?).getD none)=l.filterMap id
 |[]=>rfl
 |x::l=>by
  rw[length_cons,range_succ_eq_map,filterMap_cons,List.filterMap_map]
  have e:((λj=>((x::l)[j]?).getD none)∘Nat.succ)=λj=>(l[j]?).getD none:=rfl
  rw[e,zHg l]
  cases x<;>rfl
theorem zOy{mask:Nat}(hc:sI (mask+1)=true)(finger moves:Nat)(led plain:Bool)(hs:Array Int)(hn:hs.size<=mask) :
  ∃t order,laid mask finger moves led plain hs=some (t,order)/\order.toList.Perm (aar hs.size)/\t.place.size=hs.size/\t.dummies=#[]/\t.mask=mask/\t.led=led/\t.plain=plain/\Rz t.place:=by
 obtain⟨o',e,z1,z2⟩:=zS9 hc hs.toList (Array.replicate (mask+1) none) 0 (by rw[Array.size_replicate]) (by rw[Array.toList_replicate,List.filterMap_replicate_of_none rfl];exact .refl _) (by rw[ab5,length_toList];exact hn)
 rw[ab5,length_toList] at z2
 have el:layClean mask hs=some o':=by
  unfold layClean
  rw[<-Array.foldl_toList,e]
  rfl
 have eo:((aar (mask+1)).filterMap λj=>(o'.getD j none).map λk=>(j,k)).map (·.2)=o'.toList.filterMap id:=by
  rw[<-zHg o'.toList,length_toList,z1,List.map_filterMap]
  refine congrArg (λf=>filterMap f _) (funext λj=>?_)
  rw[Array.getD_eq_getD_getElem?,getElem?_toList]
  cases(o'[j]?).getD none<;>rfl
 refine⟨_,_,by unfold laid;rw[el];rfl,?_,?_,rfl,rfl,rfl,rfl,ZP (λj=>o'.getD j none) _⟩
 ·show((aar (mask+1)).filterMap λj=>(o'.getD j none).map λk=>(j,k)).map (·.2) |>.Perm _
  rw[eo]
  exact z2
 ·show(((aar (mask+1)).filterMap λj=>(o'.getD j none).map λk=>(j,k)).map (·.1)).length=_
  rw[length_map,<-length_map (f:=(·.2)),eo,z2.length_eq,length_range]
theorem zSj(h:n<=255):∃m,sizeAbove n=m+1/\n<=m/\sI (m+1)=true/\m<=255:=by
 by_cases h1:n<8
 ·exact⟨7,by unfold sizeAbove;unfold sizeAbove.go;rw[if_neg (by omega)],by omega,Pn,by omega⟩
 by_cases h2:n<16
 ·exact⟨15,by unfold sizeAbove;unfold sizeAbove.go;rw[if_pos (by omega)];unfold sizeAbove.go;rw[if_neg (by omega)],by omega,Pq,by omega⟩
 by_cases h3:n<32
 ·exact⟨31,by unfold sizeAbove;unfold sizeAbove.go;rw[if_pos (by omega)];unfold sizeAbove.go;rw[if_pos (by omega)];unfold sizeAbove.go;rw[if_neg (by omega)],by omega,Pr,by omega⟩
 by_cases h4:n<64
 ·exact⟨63,by unfold sizeAbove;unfold sizeAbove.go;rw[if_pos (by omega)];unfold sizeAbove.go;rw[if_pos (by omega)];unfold sizeAbove.go;rw[if_pos (by omega)];unfold sizeAbove.go;rw[if_neg (by omega)],by omega,Pu,by omega⟩
 by_cases h5:n<128
 ·exact⟨127,by unfold sizeAbove;unfold sizeAbove.go;rw[if_pos (by omega)];unfold sizeAbove.go;rw[if_pos (by omega)];unfold sizeAbove.go;rw[if_pos (by omega)];unfold sizeAbove.go;rw[if_pos (by omega)];unfold sizeAbove.go;rw[if_neg (by omega)],by omega,Jx,by omega⟩
 ·exact⟨255,by unfold sizeAbove;unfold sizeAbove.go;rw[if_pos (by omega)];unfold sizeAbove.go;rw[if_pos (by omega)];unfold sizeAbove.go;rw[if_pos (by omega)];unfold sizeAbove.go;rw[if_pos (by omega)];unfold sizeAbove.go;rw[if_pos (by omega)];unfold sizeAbove.go;rw[if_neg (by omega)],by omega,Jy,by omega⟩
open PySem PySem.Spec PyProof.Rows
set_option maxRecDepth 100000
section
variable{prog:Program}{w:World}{κ:Type}[DecidableEq κ]{knd:KeyKind prog w κ}{dec:Value->κ}{led:Bool}{A:Around}{E:Value->Shared->Prop}{s:Shared}
theorem zE9{α:Type}(es:Array α)(order:Array Nat)(h:order.toList.Perm (aar es.size)):(order.filterMap (es[·]?)).toList.Perm es.toList:=by
 rw[Array.toList_filterMap]
 refine(h.filterMap _).trans ?_
 have e:(aar es.size).filterMap (es[·]?)=es.toList:=by
  have:∀l:List α,(aar l.length).filterMap (λj=>l[j]?)=l:=λl=>by
   induction l with
   |nil=>rfl
   |cons x l ih =>
    rw[length_cons,range_succ_eq_map,filterMap_cons,List.filterMap_map]
    show x::filterMap (λj=>l[j]?) _=_
    rw[ih]
  have q:=this es.toList
  rw[length_toList] at q
  rw[<-q]
  refine congrArg (λf=>filterMap f _) (funext λj=>?_)
  rw[getElem?_toList]
 rw[e]
theorem zJ6{Q:Unit->Shared->Prop}(ho:s.heap.get? a=some o)(hd:o.data=.set es ep t)(hf:t.fits es.size=true)(hw:wanted<=255)(hn:es.size<=wanted)(h:∀(es':Array (Int×Value)) (t':SetTable),es'.toList.Perm es.toList->t'.place.size=es.size->t'.dummies=#[]->wanted<=t'.mask->sI (t'.mask+1)=true->t'.led=t.led->Rz t'.place->Q () { s with heap:=s.heap.update a (aei es' t') }):wpAny (model prog w) A (setRelay a wanted) Q E s:=by
 obtain⟨m,e1,e2,e3,e4⟩:=zSj hw
 unfold setRelay
 refine aac (aat ho hd hf ?_)
 dsimp only
 rw[if_neg (by rw[e1];show¬m+1 > 2^24;omega)]
 obtain⟨t',order,q1,q2,q3,q4,q5,q6,q7,q8⟩:=zOy (mask:=m) e3 t.finger (t.movedTo m) t.led t.plain (es.map (·.1)) (by rw[size_map];omega)
 rw[size_map] at q2 q3
 have er:t.relaid (es.map (·.1)) wanted=some (t',order):=by
  unfold SetTable.relaid
  rw[e1]
  exact q1
 rw[er]
 have p:=zE9 es order q2
 have sz:(order.filterMap (es[·]?)).size=es.size:=by rw[<-length_toList,p.length_eq,length_toList]
 refine aac (m:=(if((order.filterMap (es[·]?)).size != es.size)=true then unsupported "internal:set-table-lost-an-element" else pure (order.filterMap (es[·]?),t'))) ?_
 rw[if_neg (by rw[sz];simp)]
 refine aae ?_
 exact aby ho hd (h _ t' p q3 q4 (by rw[q5];exact e2) (by rw[q5];exact e3) q6 q8) (by rw[sz];show es.size<=2^24;omega)
theorem V4{t':SetTable}(h1:t'.place.size=n)(h2:t'.dummies=#[])(h3:wanted<=t'.mask)(h4:n<=wanted):t'.fits n=true:=by
 unfold fits ad0
 rw[h1,h2]
 simp
 omega
theorem zQ8{Q:Unit->Shared->Prop}(g:Good knd dec led s.heap a ks)(hw:wanted<=255)(hn:ks.length<=wanted)(h:∀h',SameBut a s.heap h'->Good knd dec led h' a ks->Q () { s with heap:=h' }):wpAny (model prog w) A (setRelay a wanted) Q E s:=by
 obtain⟨o,es,ep,t,ho,hx,hd,hel,hp,nd,hb,hf,tb⟩:=g
 have ln:es.size=ks.length:=by rw[<-hp.length_eq,length_map,length_toList]
 refine zJ6 ho hd hf hw (by rw[ln];exact hn) λes' t' p q3 q4 q5 q6 q7 q8=>h _ (SameBut.update _ a _) ?_
 have sz:es'.size=es.size:=by rw[<-length_toList,p.length_eq,length_toList]
 exact⟨_,es',_,t',Gi (es':=es') (t':=t') ho hd,hx,rfl,hel.perm p,(p.map _).trans hp,nd,by rw[sz];exact hb,by rw[sz];exact V4 q3 q4 q5 (by rw[ln];exact hn),⟨q7.trans tb.led,λ_=>q8⟩⟩
theorem zJa{Q:Unit->Shared->Prop}(hr:s.heap.get? r=some { cls:=.type "set",dict:=none,data:=.set #[] 0 (.fresh 0 0 (zU w)) })(hne:r≠o)(g:Good knd dec (zU w) s.heap o ks)(hl:ks.length<=127)(h:∀h',SameBut r s.heap h'->Good knd dec (zU w) h' r ks->Q () { s with heap:=h' }):wpAny (model prog w) A (setMerge r o each) Q E s:=by
 obtain⟨ob,es,ep,t,ho,hx,hd,hel,hp,nd,hb,hf,tb⟩:=id g
 have ln:es.size=ks.length:=by rw[<-hp.length_eq,length_map,length_toList]
 unfold setMerge
 rw[if_neg (by simpa using hne)]
 refine aac (aat ho hd hf ?_)
 dsimp only
 by_cases hemp:es.isEmpty=true
 ·rw[if_pos hemp]
  have e0:es.size=0:=by simpa[Array.isEmpty] using hemp
  have k0:ks=[]:=length_eq_zero_iff.mp (by rw[<-ln];exact e0)
  subst k0
  exact aae (h _ (SameBut.refl r s.heap) (Ph hr))
 rw[if_neg hemp]
 refine aac (abv (Q:=λ_ s'=>∃(h1:Heap)(o1:Obj)(ep1:Nat)(t1:SetTable),s'={ s with heap:=h1 }/\SameBut r s.heap h1/\h1.get? r=some o1/\o1.ExactSet/\o1.data=.set #[] ep1 t1/\t1.place.size=0/\t1.dummies=#[]/\t1.led=zU w/\sI (t1.mask+1)=true/\es.size<=t1.mask) ?first ?post (λ_ _ h=>h))
 case post =>
  rintro _ _ ⟨h1,o1,ep1,t1,rfl,sb,g1,x1,d1,pl,du,le,cy,rm⟩
  refine aac (aat (s:={ s with heap:=h1 }) g1 d1 (by show t1.fits 0=true;exact V4 pl du (aa0 _) (aaf 0)) ?_)
  dsimp only
  have hfill:t1.fill=0:=by unfold ad0;rw[pl,du];rfl
  unfold SetTable.road
  rw[hfill]
  rw[if_neg (by simp)]
  by_cases hsl:(t1.mask==t.mask&&t.dummies.isEmpty)=true
  ·rw[if_pos hsl]
   refine aby (s:={ s with heap:=h1 }) g1 d1 (h _ (sb.trans (SameBut.update _ r _)) ⟨_,es,_,_,Gi (es':=es) (t':=_) g1 d1,x1,rfl,hel,hp,nd,hb,hf,⟨?_,λz=>tb.rz (Bool.and_eq_true_iff.mp z).2⟩⟩) (abx hb)
   show(t1.led&&t.led)=_
   rw[le,tb.led,aed]
  ·rw[if_neg hsl]
   obtain⟨t',order,q1,q2,q3,q4,q5,q6,q7,q8⟩:=zOy (mask:=t1.mask) cy t1.finger t1.moves (t1.led&&t.led) (t1.plain&&t.plain) (es.map (·.1)) (by rw[size_map];exact rm)
   rw[size_map] at q2 q3
   dsimp only
   rw[q1]
   have p:=zE9 es order q2
   have sz:(order.filterMap (es[·]?)).size=es.size:=by rw[<-length_toList,p.length_eq,length_toList]
   refine aac (m:=(if((order.filterMap (es[·]?)).size != es.size)=true then unsupported "internal:set-table-lost-an-element" else pure (order.filterMap (es[·]?),t'))) ?_
   rw[if_neg (by rw[sz];simp)]
   refine aae ?_
   refine aby (s:={ s with heap:=h1 }) g1 d1 (h _ (sb.trans (SameBut.update _ r _)) ⟨_,_,_,t',Gi (es':=order.filterMap (es[·]?)) (t':=t') g1 d1,x1,rfl,hel.perm p,(p.map _).trans hp,nd,by rw[sz];exact hb,by rw[sz];exact V4 q3 q4 (by rw[q5];exact rm) (aaf _),⟨?_,λ_=>q8⟩⟩) (abx (by rw[sz];exact hb))
   rw[q6,le,tb.led,aed]
 case first =>
  unfold setRoomFor
  refine aac (aat hr rfl rfl ?_)
  dsimp only
  have e1:(SetTable.fresh 0 0 (zU w)).roomFor es.size=if(es.size*5 ≥ 21) then some (es.size*2) else none:=by
   unfold SetTable.roomFor ad0 SetTable.fresh
   simp
  rw[e1]
  by_cases c:es.size*5 ≥ 21
  ·rw[if_pos c]
   refine zJ6 hr rfl rfl (by omega) (aa0 _) λes' t' p q3 q4 q5 q6 q7 q8=>?_
   have ee:es'=#[]:=by
    have:=p.length_eq
    rw[length_toList] at this
    exact Array.eq_empty_of_size_eq_zero this
   subst ee
   exact⟨_,_,_,t',rfl,SameBut.update _ r _,Gi (es':=#[]) (t':=t') hr rfl,⟨rfl,rfl,rfl⟩,rfl,q3,q4,q7,q6,by omega⟩
  ·rw[if_neg c]
   exact aae ⟨s.heap,_,0,_,rfl,SameBut.refl r s.heap,hr,⟨rfl,rfl,rfl⟩,rfl,rfl,rfl,rfl,Pn,by show es.size<=7;omega⟩
end
set_option maxRecDepth 100000
section
variable{prog:Program}{w:World}{κ:Type}[DecidableEq κ]{knd:KeyKind prog w κ}{dec:Value->κ}{led:Bool}{A:Around}{E:Value->Shared->Prop}{s:Shared}
theorem CJ{Q:Value->Shared->Prop}(g:Good knd dec (zU w) s.heap a ks)(hl:ks.length<=127)(h:∀(h':Heap),Good knd dec (zU w) h' s.heap.objs.size ks->(∀c o,c<s.heap.objs.size->s.heap.get? c=some o->h'.get? c=some o)->(ks=[]->h'=s.heap.push { cls:=.type "set",dict:=none,data:=.set #[] 0 (.fresh 0 0 (zU w)) })->Q (.ref s.heap.objs.size) { s with heap:=h' }) :
  wpAny (model prog w) A (Builtin.Frozenset.copyOf a) Q E s:=by
 have la:a<s.heap.objs.size:=by obtain⟨o,_,_,_,h1,_⟩:=g;exact lt_size h1
 have up:∀c o,s.heap.get? c=some o->(s.heap.push { cls:=.type "set",dict:=none,data:=.set #[] 0 (.fresh 0 0 (zU w)) }).get? c=some o:=λc o e=>get?_push_of_some _ e
 have g1:=g.keep (up a)
 unfold Builtin.Frozenset.copyOf
 refine aac (VH g.type (aac (VJ ?_)))
 refine aac (aae ?_)
 cases ks with
 |nil =>
  obtain⟨o,es,ep,t,ho,hx,hd,hel,hp,nd,hb,hf,tb⟩:=g1
  have e0:es.size=0:=by rw[<-length_toList];have:=hp.length_eq;rw[length_map] at this;exact this
  unfold setMerge
  rw[if_neg (by simpa using(acs la))]
  refine aac (aac (aat (s:={ s with heap:=_ }) ho hd hf ?_))
  dsimp only
  rw[if_pos (by simpa[Array.isEmpty] using e0)]
  refine aae (aae (h _ (Ph (get?_push_size _ rfl)) (λc o _ e=>up c o e) λ_=>rfl))
 |cons k0 ks0 =>
  refine aac (zJa (s:={ s with heap:=_ }) (get?_push_size _ rfl) (acs la) g1 hl λh' sb g'=>?_)
  exact aae (h h' g' (λc o hc e=>by rw[sb.2 c (aaj hc)];exact up c o e) λz=>by cases z)
theorem Py{α:Type}(xs:Array α)(p:Nat):(eraseAt xs p).toList=xs.toList.eraseIdx p:=by
 unfold eraseAt
 rw[Array.toList_append,List.eraseIdx_eq_take_drop_succ,Array.toList_extract,Array.toList_extract]
 simp[List.extract_eq_take_drop]
 exact List.take_of_length_le (by rw[length_drop,length_toList];omega)
theorem zR2{α:Type}(xs:Array α)(p:Nat)(x:α):(insertAt xs p x).size=xs.size+1:=by
 unfold insertAt
 simp
 omega
theorem Pz(hr:Rz xs)(p:Nat):Rz (eraseAt xs p):=by
 intro i k a b hik ha hb
 rw[<-getElem?_toList,Py,List.getElem?_eraseIdx] at ha hb
 have q:∀j,xs.toList[j]?=xs[j]?:=λj=>getElem?_toList
 split at ha<;>split at hb
 ·exact hr i k a b hik (by rw[<-q];exact ha) (by rw[<-q];exact hb)
 ·exact hr i (k+1) a b (by omega) (by rw[<-q];exact ha) (by rw[<-q];exact hb)
 ·omega
 ·exact hr (i+1) (k+1) a b (by omega) (by rw[<-q];exact ha) (by rw[<-q];exact hb)
theorem zMp(hdec:∀k v,knd.is k v=true->dec v=k){Q:Bool->Shared->Prop}(hk:knd.is k x=true)(hs:x.scannable=true)(g:Good knd dec led s.heap a ks)(h:∀(h':Heap) (b:Bool),SameBut a s.heap h'->Good knd dec led h' a (ks.erase k)->Q b { s with heap:=h' }) :
  wpAny (model prog w) A (setDiscardHashed a x (knd.hash k)) Q E s:=by
 obtain⟨o,es,ep,t,ho,hx,hd,hel,hp,nd,hb,hf,tb⟩:=id g
 unfold setDiscardHashed
 refine aac ?_
 unfold setFind setFindIn
 refine aac (aat ho hd hf ?_)
 dsimp only
 rw[byScan_of hs hb hel]
 simp only[↓reduceIte]
 refine aac (adg (aac (wpAny_setScan_of hk ho hd hf hel ?_)))
 have fi:=ZQ hdec hel k
 cases hr:List.findIdx? (λe=>knd.is k e.2) es.toList with
 |none =>
  have hm:k∉ks:=λz=>fi.mp hr (hp.mem_iff.mpr z)
  dsimp only
  refine aae (aae ?_)
  have q:=h s.heap false (SameBut.refl a s.heap)
  rw[List.erase_of_not_mem hm] at q
  exact q g
 |some j =>
  obtain⟨hj,hpj,_⟩:=List.findIdx?_eq_some_iff_getElem.mp hr
  dsimp only
  rw[ab5]
  refine aae (aac (aat ho hd hf ?_))
  dsimp only
  have pl:t.place.size=es.size:=Vt hf
  have hj':j<t.place.size:=by rw[pl,<-length_toList];exact hj
  have sz:(eraseAt es j).size=es.size-1:=by rw[<-length_toList,Py,length_eraseIdx,if_pos hj,length_toList]
  have ed:t.drop j={ t with place:=eraseAt t.place j,dummies:=insertAt t.dummies (below t.dummies t.place[j]) t.place[j] }:=by
   unfold SetTable.drop
   rw[aah hj']
  have jz:j<es.size:=by rw[<-length_toList];exact hj
  have ft:(t.drop j).fits (eraseAt es j).size=true:=by
   rw[ed]
   unfold fits ad0 at hf ⊢
   have e1:(eraseAt t.place j).size=es.size-1:=by rw[<-length_toList,Py,length_eraseIdx,length_toList,if_pos hj',pl]
   dsimp only
   rw[e1,zR2,sz]
   rw[aag,decide_eq_true_eq] at hf
   rw[aag,decide_eq_true_eq]
   refine⟨by simp,?_⟩
   have:=hf.2
   omega
  have tb':Tb led (t.drop j):=by
   rw[ed]
   exact⟨tb.led,λz=>Pz (tb.rz z) j⟩
  have hp':((eraseAt es j).toList.map λe=>dec e.2).Perm (ks.erase k):=by
   rw[Py]
   have p1:=((RX hj).map λe=>dec e.2).trans hp
   rw[map_cons,hdec k _ hpj] at p1
   have p2:=p1.erase k
   rw[List.erase_cons_head] at p2
   exact p2
  refine aac (aby ho hd (aac (wpAny_point (aae (h _ true (SameBut.update _ a _) ⟨_,_,_,_,Gi (es':=eraseAt es j) (t':=t.drop j) ho hd,hx,rfl,λe he=>?_,hp',nd.erase k,by rw[sz];omega,ft,tb'⟩)))) (abx (by rw[sz];omega)))
  rw[Py] at he
  exact hel e (List.mem_of_mem_eraseIdx he)
theorem CK{Q:Unit->Shared->Prop}(g:Good knd dec led s.heap a ks)(hw:ks.length<=63)(h:∀h',SameBut a s.heap h'->Good knd dec led h' a ks->Q () { s with heap:=h' }):wpAny (model prog w) A (setTidy a) Q E s:=by
 obtain⟨o,es,ep,t,ho,hx,hd,hel,hp,nd,hb,hf,tb⟩:=id g
 have ln:es.size=ks.length:=by rw[<-hp.length_eq,length_map,length_toList]
 unfold setTidy
 refine aac (aat ho hd hf ?_)
 dsimp only
 split
 ·have e:grown es.size=ks.length*4:=by unfold grown;rw[if_neg (by omega),ln]
  rw[e]
  exact zQ8 g (by omega) (by omega) h
 ·exact aae (h _ (SameBut.refl a s.heap) g)
theorem zLf(g:Good knd dec (zU w) s.heap a ks)(hs:∀b∈others,∃ks:List κ,Good knd dec (zU w) s.heap b ks)(hn:∀k v,knd.is k v=true->∀b,v≠.ref b){Q:Array (Int×Value)->Shared->Prop}(h:∀(es:Array (Int×Value)),ElemsOf knd es.toList->(es.toList.map λe=>dec e.2).Perm ks->Q es s):wpAny (model prog w) A (setWalkUnseen a others none) Q E s:=by
 obtain⟨o,es,ep,t,h1,h2,h3,hf,hl,tb,hel,hp⟩:=g.size
 unfold setWalkUnseen
 refine aac (aat h1 h3 hf ?_)
 dsimp only
 refine aac (uN ?_)
 split
 ·rename_i c
  refine zMz g (λhb o' es' ep' t' h1' h3'=>?_) λes' oJ hp'=>h es' oJ hp'
  rw[h1] at h1'
  cases h1'
  rw[h3] at h3'
  cases h3'
  rw[hb] at c
  simp only[adh,abg,aag,decide_eq_true_eq] at c
  rcases c with⟨_,c⟩|c
  ·rw[c];rfl
  ·rw[decide_eq_false (by omega),ad8]
 ·refine aac (zJ7 (knd:=knd) (dec:=dec) (led:=zU w) (a::others) (λb hb=>(mem_cons.mp hb).elim (λe=>e▸⟨ks,g⟩) (hs b)) hn ?_)
  simp only[abw,aap,↓reduceIte]
  exact aac (adg (aae (h es hel hp)))
theorem CN(hdec:∀k v,knd.is k v=true->dec v=k)(id:String)(hn:∀k v,knd.is k v=true->∀b,v≠.ref b)(hab:b≠r)(ga:Good knd dec (zU w) s.heap r ka)(gb:Good knd dec (zU w) s.heap b kb)(hl:ka.length<=63)(hs:¬kb.length/8 > ka.length){Q:Unit->Shared->Prop}(h:∀(h':Heap) (kr:List κ),SameBut r s.heap h'->Good knd dec (zU w) h' r kr->(∀k,k∈kr↔k∈ka/\k∉kb)->Q () { s with heap:=h' }) :
  wpAny (model prog w) A (Builtin.Frozenset.differenceUpdate id r (.ref b)) Q E s:=by
 obtain⟨o,es,ep,t,h1,h2,h3,hf,hlb,tb,hel,hp⟩:=gb.size
 have nda:ka.Nodup:=by obtain⟨_,_,_,_,_,_,_,_,_,nd,_⟩:=ga;exact nd
 unfold Builtin.Frozenset.differenceUpdate
 rw[if_neg (λe=>hab (aef (abq e)))]
 refine aac (Ju gb.type ?_)
 simp only[↓reduceIte]
 refine aac (aae ?_)
 refine aac (Ml gb (aac (Ml ga ?_)))
 rw[if_neg hs]
 refine aac (abr h1 h3 hf ?_)
 refine aac (aa9 (aac (zLf gb (λc hc=>(mem_singleton.mp hc)▸⟨ka,ga⟩) hn λes' oJ hp'=>?_)))
 rw[<-forIn_toList]
 refine aac (abv (acw (β:=Unit) _ (λl _ s'=>∃h2 kr,s'={ s with heap:=h2 }/\SameBut r s.heap h2/\Good knd dec (zU w) h2 r kr/\ElemsOf knd l/\kr.length<=63/\∀k,(k∈kr/\k∉l.map λe=>dec e.2)↔(k∈ka/\k∉kb)) (λ_ s'=>∃h2 kr,s'={ s with heap:=h2 }/\SameBut r s.heap h2/\Good knd dec (zU w) h2 r kr/\kr.length<=63/\∀k,k∈kr↔k∈ka/\k∉kb) ?turn ?fin es'.toList () ⟨s.heap,ka,rfl,SameBut.refl r s.heap,ga,oJ,hl,λk=>?_⟩) ?post (λ_ _ h=>h))
 case turn =>
  rintro⟨hs',v⟩ l b' s' ⟨h2',kr,rfl,lC,g2,hl2,hlen,hm⟩
  obtain⟨⟨k,hk,hh⟩,hsc⟩:=hl2 _ mem_cons_self
  dsimp only at hk hh hsc ⊢
  subst hh
  have dv:dec v=k:=hdec k v hk
  have ndr:kr.Nodup:=by obtain⟨_,_,_,_,_,_,_,_,_,nd,_⟩:=g2;exact nd
  refine aac (aa9 (zMp (led:=zU w) (s:={ s with heap:=h2' }) hdec hk hsc g2 λh3' b'' rH g3=>?_))
  refine aac ?_
  unfold aa3
  refine aac (abr (s:={ s with heap:=h3' }) (by show h3'.get? b=_;rw[rH.2 b hab];show h2'.get? b=_;rw[lC.2 b hab];exact h1) h3 hf ?_)
  simp only[bne_self_eq_false,aap,↓reduceIte]
  refine aae (aae ⟨h3',kr.erase k,rfl,lC.trans rH,g3,λe he=>hl2 e (mem_cons_of_mem _ he),?_,λc=>?_⟩)
  ·have:=List.length_erase_le (a:=k) (l:=kr)
   omega
  ·rw[<-hm c,map_cons,mem_cons]
   show _↔(c∈kr/\¬(c=dec v\/_))
   rw[dv,ndr.mem_erase_iff]
   constructor
   ·rintro⟨⟨z1,z2⟩,z3⟩
    exact⟨z2,λq=>q.elim z1 z3⟩
   ·rintro⟨z1,z2⟩
    exact⟨⟨λq=>z2 (.inl q),z1⟩,λq=>z2 (.inr q)⟩
 case fin =>
  rintro b' s' ⟨h2',kr,rfl,lC,g2,_,hlen,hm⟩
  refine⟨h2',kr,rfl,lC,g2,hlen,λk=>?_⟩
  rw[<-hm k]
  simp
 case post =>
  rintro b' s' ⟨h2',kr,rfl,lC,g2,hlen,hm⟩
  refine aae ?_
  exact CK (s:={ s with heap:=h2' }) g2 hlen λh3' rH g3=>h h3' kr (lC.trans rH) g3 hm
 ·rw[hp'.mem_iff]
end
set_option maxRecDepth 100000
theorem zF0:entryFor table "set.__sub__" = some Builtin.«frozenset.__sub__»:=adn (id':="frozenset.__sub__") (by kernel_rfl) rfl (by decide +kernel) (by kernel_rfl)
section
variable{prog:Program}{w:World}{κ:Type}[DecidableEq κ]{knd:KeyKind prog w κ}{dec:Value->κ}{led:Bool}{A:Around}{E:Value->Shared->Prop}{s:Shared}
theorem zPo(hdec:∀k v,knd.is k v=true->dec v=k)(id:String)(hn:∀k v,knd.is k v=true->∀b,v≠.ref b)(VD:x≠r)(R8:y≠r)(gx:Good knd dec (zU w) s.heap x kx)(gy:Good knd dec (zU w) s.heap y ky)(gr:Good knd dec (zU w) s.heap r [])(hep:∀o es e t,s.heap.get? y=some o->o.data=.set es e t->e=ep){Q:Unit->Shared->Prop}(h:∀(h':Heap) (kr:List κ),SameBut r s.heap h'->Good knd dec (zU w) h' r kr->(∀k,k∈kr↔k∈ky/\k∉kx)->Q () { s with heap:=h' }) :
  wpAny (model prog w) A (do
   for (h,x') in <-setWalkUnseen y [x,r] (some r) do
    holding [x'] do
     let there <-pure (<-setFind x x' h).isSome
     if !there then
      let _ <-setAddHashed r x' h
    aa3 id y ep) Q E s:=by
 obtain⟨o,es,ep',t,h1,h2,h3,hf,hl,tb,hel,hp⟩:=gy.size
 have e1:=hep o es ep' t h1 h3
 subst e1
 refine aac (zG3 gy gr (λb hb=>(mem_cons.mp hb).elim (λe=>e▸⟨kx,gx⟩) λe=>(mem_singleton.mp e)▸⟨[],gr⟩) hn λes' h' oJ hp' sb VF=>?_)
 rw[<-forIn_toList]
 have ln:es'.toList.length=ky.length:=by rw[<-hp'.length_eq,length_map]
 refine aac (abv (acw (β:=Unit) _ (λl _ s'=>∃h2 kr,s'={ s with heap:=h2 }/\SameBut r s.heap h2/\Good knd dec (zU w) h2 r kr/\ElemsOf knd l/\kr.length+l.length<=ky.length/\∀k,(k∈kr\/(k∉kx/\k∈l.map λe=>dec e.2))↔(k∈ky/\k∉kx)) (λ_ s'=>∃h2 kr,s'={ s with heap:=h2 }/\SameBut r s.heap h2/\Good knd dec (zU w) h2 r kr/\∀k,k∈kr↔k∈ky/\k∉kx) ?turn ?fin es'.toList () ⟨h',[],rfl,sb,VF,oJ,by rw[ln,length_nil];omega,λk=>?_⟩) ?post (λ_ _ h=>h))
 case turn =>
  rintro⟨hs,v⟩ l b s' ⟨h2,kr,rfl,lC,g2,hl2,hlen,hm⟩
  obtain⟨⟨k,hk,hh⟩,hsc⟩:=hl2 _ mem_cons_self
  dsimp only at hk hh hsc ⊢
  subst hh
  have kx':∀o,s.heap.get? x=some o->h2.get? x=some o:=λo e=>by rw[lC.2 x VD];exact e
  have VG:=gx.keep kx'
  have dv:dec v=k:=hdec k v hk
  rw[length_cons] at hlen
  have cont:∀(h3':Heap)(wg:List κ),SameBut r s.heap h3'->Good knd dec (zU w) h3' r wg->wg.length+l.length<=ky.length->(∀c,(c∈wg\/(c∉kx/\c∈l.map λe=>dec e.2))↔(c∈ky/\c∉kx)) ->
    wpAny (model prog w) A (aa3 id y ep') (λ_ s''=>wpAny (model prog w) A (pure (abz ())) (λq s''=>match q with|.yield _=>∃h2 kr,s''={ s with heap:=h2 }/\SameBut r s.heap h2/\Good knd dec (zU w) h2 r kr/\ElemsOf knd l/\kr.length+l.length<=ky.length/\∀k,(k∈kr\/(k∉kx/\k∈l.map λe=>dec e.2))↔(k∈ky/\k∉kx)|.done _=>∃h2 kr,s''={ s with heap:=h2 }/\SameBut r s.heap h2/\Good knd dec (zU w) h2 r kr/\∀k,k∈kr↔k∈ky/\k∉kx) E s'') E { s with heap:=h3' }:=λh3' wg rH g3 l3 m3=>by
   unfold aa3
   refine aac (abr (s:={ s with heap:=h3' }) (by show h3'.get? y=_;rw[rH.2 y R8];exact h1) h3 hf ?_)
   simp only[bne_self_eq_false,aap,↓reduceIte]
   exact aae (aae ⟨h3',wg,rfl,rH,g3,λe he=>hl2 e (mem_cons_of_mem _ he),l3,m3⟩)
  refine aac (aa9 (aac (wpAny_setFind_of (s:={ s with heap:=h2 }) hk hsc (VG.setOf hdec) λq hq=>aac (aae ?_))))
  cases q with
  |some j =>
   have nk:k∈kx:=by simpa using hq.symm
   simp only[ac1,abw,aap,↓reduceIte]
   refine aae (aac (cont h2 kr lC g2 (by omega) λc=>?_))
   rw[<-hm c,map_cons,mem_cons]
   show _↔(c∈kr\/c∉kx/\(c=dec v\/_))
   rw[dv]
   constructor
   ·rintro(z|⟨z1,z2⟩)
    ·exact .inl z
    ·exact .inr ⟨z1,.inr z2⟩
   ·rintro(z|⟨z1,z2|z2⟩)
    ·exact .inl z
    ·exact absurd nk (z2▸z1)
    ·exact .inr ⟨z1,z2⟩
  |none =>
   have mk:k∉kx:=by simpa using hq.symm
   simp only[Option.isSome_none,Bool.not_false,↓reduceIte]
   refine aac (Vr (led:=zU w) (s:={ s with heap:=h2 }) hdec hk hsc g2 (by have:=gy.len;omega) λh3' b' rH g3=>?_)
   refine aae (aac (cont h3' _ (lC.trans rH) g3 ?_ λc=>?_))
   ·split
    ·omega
    ·rw[length_cons];omega
   ·rw[<-hm c,map_cons,mem_cons]
    show _↔(c∈kr\/c∉kx/\(c=dec v\/_))
    rw[dv]
    have e:c∈(if k∈kr then kr else k::kr)↔c=k\/c∈kr:=by
     split
     ·rename_i z
      exact⟨.inr,λq=>q.elim (λq=>q▸z) λq=>q⟩
     ·exact mem_cons
    rw[e]
    constructor
    ·rintro((z|z)|⟨z1,z2⟩)
     ·exact .inr ⟨z▸mk,.inl z⟩
     ·exact .inl z
     ·exact .inr ⟨z1,.inr z2⟩
    ·rintro(z|⟨z1,z2|z2⟩)
     ·exact .inl (.inr z)
     ·exact .inl (.inl z2)
     ·exact .inr ⟨z1,z2⟩
 case fin =>
  rintro b s' ⟨h2,kr,rfl,lC,g2,_,_,hm⟩
  refine⟨h2,kr,rfl,lC,g2,λk=>?_⟩
  rw[<-hm k]
  simp
 case post =>
  rintro b s' ⟨h2,kr,rfl,lC,g2,hm⟩
  exact aae (h h2 kr lC g2 hm)
 ·rw[hp'.mem_iff]
  constructor
  ·rintro(z|⟨z1,z2⟩)
   ·cases z
   ·exact⟨z2,z1⟩
  ·exactλ⟨z1,z2⟩=>.inr ⟨z2,z1⟩
theorem CP(hdec:∀k v,knd.is k v=true->dec v=k)(id:String)(hn:∀k v,knd.is k v=true->∀b,v≠.ref b)(hab:b≠a)(ga:Good knd dec (zU w) s.heap a ka)(gb:Good knd dec (zU w) s.heap b kb)(hl:ka.length<=63){Q:Value->Shared->Prop}(h:∀(h':Heap) (kr:List κ),Good knd dec (zU w) h' s.heap.objs.size kr->(∀k,k∈kr↔k∈ka/\k∉kb)->(∀c o,c<s.heap.objs.size->s.heap.get? c=some o->h'.get? c=some o)->Q (.ref s.heap.objs.size) { s with heap:=h' }) :
  wpAny (model prog w) A (Builtin.Frozenset.difference id a (.ref b)) Q E s:=by
 have la:a<s.heap.objs.size:=by obtain⟨o,_,_,_,h1,_⟩:=ga;exact lt_size h1
 have lb:b<s.heap.objs.size:=by obtain⟨o,_,_,_,h1,_⟩:=gb;exact lt_size h1
 unfold Builtin.Frozenset.difference
 refine aac (Ju gb.type ?_)
 simp only[abw,aap,Bool.false_and,↓reduceIte]
 refine aac (aae ?_)
 refine aac (Ml gb (aac (Ml ga ?_)))
 split
 ·rename_i c
  refine aac (adg (aac (CJ ga (by omega) λh' g' k' _=>?_)))
  refine aac (aae ?_)
  refine aac (aa9 (CN (s:={ s with heap:=h' }) hdec id hn (aaj lb) g' (gb.keep λo e=>k' b o lb e) hl (by omega) λh2 kr sb g2 m=>aae (h h2 kr g2 m λc o hc e=>?_)))
  rw[sb.2 c (aaj hc)]
  exact k' c o hc e
 ·refine aac (VH ga.type (aac (VJ ?_)))
  refine aac (aae ?_)
  have up:∀c o,s.heap.get? c=some o->(s.heap.push { cls:=.type "set",dict:=none,data:=.set #[] 0 (.fresh 0 0 (zU w)) }).get? c=some o:=λc o e=>get?_push_of_some _ e
  have Gk:=ga.keep (up a)
  have Gm:=gb.keep (up b)
  have Mp:Good knd dec (zU w) (s.heap.push { cls:=.type "set",dict:=none,data:=.set #[] 0 (.fresh 0 0 (zU w)) }) s.heap.objs.size []:=Ph (get?_push_size _ rfl)
  generalize hp:s.heap.push { cls:=.type "set",dict:=none,data:=.set #[] 0 (.fresh 0 0 (zU w)) }=hq at up Gk Gm Mp ⊢
  obtain⟨o,es,ep,t,h1,h2,h3,hf,hl,tb,hel,hpp⟩:=Gk.size
  refine aac (abr (s:={ s with heap:=hq }) h1 h3 hf ?_)
  refine aac (aa9 (zPo (s:={ s with heap:=hq }) hdec id hn (aaj lb) (aaj la) Gm Gk Mp (λo' es' e' t' z1 z2=>?_) λh' kr sb g m=>aae (h h' kr g m λc o hc e=>?_)))
  ·have z1':hq.get? a=some o':=z1
   rw[h1] at z1'
   cases z1'
   rw[h3] at z2
   cases z2
   rfl
  ·rw[sb.2 c (aaj hc)];exact up c o e
theorem Jz(hdec:∀k v,knd.is k v=true->dec v=k)(hn:∀k v,knd.is k v=true->∀b,v≠.ref b)(hab:b≠a)(ga:Good knd dec (zU w) s.heap a ka)(gb:Good knd dec (zU w) s.heap b kb)(hl:ka.length<=63){Q:Value->Shared->Prop}(h:∀(h':Heap) (kr:List κ),Good knd dec (zU w) h' s.heap.objs.size kr->(∀k,k∈kr↔k∈ka/\k∉kb)->(∀c o,c<s.heap.objs.size->s.heap.get? c=some o->h'.get? c=some o)->Q (.ref s.heap.objs.size) { s with heap:=h' }) :
  wpAny (model prog w) A (binaryOp .Sub (.ref a) (.ref b)) Q E s:=by
 refine wpAny_binaryOp_same (op:=.Sub) (T:="set") ga.type gb.type F.fills_set_sub F.slot_set_sub (acf F.slot_set_sub ga.type zF0 ?_ (F.args_set_sub_2 _ _))
 refine aac (m:=ab9 "__sub__" ⟨[.ref a,.ref b],[]⟩) ?_
 unfold ab9 slotArgs
 refine aae ?_
 dsimp only
 refine aac (aac (Ju ga.type ?_))
 refine Ju gb.type ?_
 simp only[abw,aap,↓reduceIte]
 refine aac (aae (aac (CP hdec _ hn hab ga gb hl λh' kr g m k=>aae ⟨.ref s.heap.objs.size,rfl,?_,h h' kr g m k⟩)))
 exactλz=>Value.noConfusion z
end
set_option maxRecDepth 100000
section
variable{prog:Program}{w:World}{κ:Type}[DecidableEq κ]{knd:KeyKind prog w κ}{dec:Value->κ}{led:Bool}{A:Around}{E:Value->Shared->Prop}{s:Shared}
end
end pU
namespace L2
open PySem PySem.Spec PyProof.Rows pU
section
variable{X:Cx}
def Gs(ta tb:Js):Js:=λσ H Q=>ta σ H λks H1=>ks.length<64/\tb σ H1 λjs H2=>∀rs:LI,rs.Nodup->(∀z,z∈rs↔z∈ks/\z∉js)->Q rs H2
theorem CQ(ha:Gj X a ta)(hb:Gj X b tb):Gj X (.BinOp a .Sub b pos) (Gs ta tb):=by
 intro pins s σ H Q I h
 refine wpAny_BinOp (aN (ha pins s σ H _ I h) λu s1 ⟨p,ks,H1,e,I1,g,fo,hl,h1⟩=>?_)
 subst e
 obtain⟨o,es,ep,t,go,gx,gd,_⟩:=id g
 have VL:=I1.pinned (fp:=[p]) (λb hb=>by rw[mem_singleton.mp hb];exact fo) (λb hb=>by
  rw[mem_singleton.mp hb]
  exact⟨o,go,λv z=>by rw[gd] at z;cases z⟩)
 refine aN (hb _ s1 σ H1 _ VL h1) λu2 s2 ⟨p2,js,H2,e2,I2,g2,VN,q2⟩=>?_
 subst e2
 have pm:(p,o)∈X.pn++(pins++Ht [p] s1.heap):=mem_append_right _ (mem_append_right _ (uC (mem_singleton.mpr rfl) go))
 have kp:s2.heap.get? p=some o:=(I2.pin (p,o) pm).1
 have g1:=g.keep (h':=s2.heap) λo' e'=>by rw[go] at e';cases e';exact kp
 have ne:p2≠p:=ab8 (VN.2.2.2.2.2 (p,o) pm)
 have I3:=I2.gA
 refine Jz Vx (λk v hk b z=>?_) ne g1 g2 (adu hl) λh' kr g3 m k=>?_
 ·obtain⟨t,rfl⟩:=acn hk
  cases z
 ·have I4:=I3.kept (h':=h') (t':=s2.toks) λb o e=>k b o (lt_size e) e
  obtain⟨_,_,_,_,_,_,_,_,_,nd,_⟩:=id g3
  exact⟨_,kr,H2,rfl,I4,g3,I3.lq (aaf _) (I3.hok.fresh (aaf _)),q2 kr nd m⟩
end
end L2
namespace Ts
open PySem L2
def PB(ns ms:LI):Option LI:=if ns.length<64/\ms.length<4000 then some (vK (ns.filter λz=>!decide (z∈ms))) else none
section
variable{K:PySem.W.Frag}{B:Bs}{sl:SL K}{md:Md}{t1 t2:TE}
theorem zMm(h1:Ex B sl .hp t1 m1)(h2:Ex B sl .hp t2 m2):Eo B sl md (R7 (Gs (Mf K t1) (Mf K t2))) (m1.bind λa=>m2.bind λb=>PB a b):=λc hc F O H σ Q s k=>by
 obtain⟨ns,ms,ha,hb,hf⟩:=rZ hc
 unfold PB at hf
 split at hf
 case isFalse=>cases hf
 rename_i hl
 cases hf
 refine h1 ns ha F O H σ _ s λv F' H' g r1=>?_
 obtain⟨p,vs,rfl,z1,z2⟩:=r1
 have z3:vs=ns.map V.int:=z2.vals
 subst z3
 refine⟨p,ns,rfl,bw.of z1,aal hl.1 (by decide),λks nd hm=>⟨aan (Mj nd λz hz=>(hm z).mp hz) hl.1,?_⟩⟩
 refine h2 ms hb F' O H' σ _ (s.grow g) λw F2 H2 g2 r2=>?_
 obtain⟨p',vs',rfl,y1,y2⟩:=r2
 have y3:vs'=ms.map V.int:=y2.vals
 subst y3
 refine⟨p',ms,rfl,bw.of y1,hl.2,λjs jd hj rs rd hr=>⟨aan (Mj rd λz hz=>(hm z).mp ((hr z).mp hz).1) hl.1,λl us hn p1 p2=>?_⟩⟩
 have e:us=vK (ns.filter λz=>!decide (z∈ms)):=Mi (uI p2 (p1.nodup_iff.mpr rd)) (Mh _) λz=>by rw[p1.mem_iff,hr,hm,hj,cQ,mem_filter,adp,decide_eq_false_iff_not]
 subst e
 exact k l _ F2 H2 (g.trans g2) hn (IV _)
end
end Ts
namespace L2
open PySem PySem.Spec PyProof.Rows
def V5(K:PySem.W.Frag)(a:Addr)(n:Nat):It :=
 ⟨λi H=>i<n/\∃xs x,bw K H a xs/\xs[n-1-i]?=some x,λi H x H'=>H'=H/\∀xs,bw K H a xs->xs[n-1-i]?=some x,λi _=>i=n⟩
theorem zQm{P:Program}{w:World}{K:PySem.W.Frag}{tg:Expr}(a it:Addr)(n:Nat):Turn P w K tg (V5 K a n) [it] it (λi h=>h.IsRevIter it a ((n:Int)-1-(i:Nat))) where
 mem:=by simp
 obj:=λi h st b hb=>by
  have e:b=it:=by simpa using hb
  subst e
  obtain⟨o,e,c,d⟩:=st
  exact⟨o,e,λv z=>by rw[d] at z;cases z⟩
 keep:=λi h h' st k=>st.at λo e=>k it (by simp) o e
 item:=by
  intro X hP hw hK hc i pins s σ H E I hf st hg
  subst hP hw hK
  obtain⟨hi,xs,x,hq,hx⟩:=hg
  obtain⟨its,rv,p,hz⟩:=I.list hq
  obtain⟨u,hu,ru⟩:=rv.get hx
  obtain⟨f0,f1,f2,f3,f4,f5⟩:=hf it (by simp)
  have e:(n:Int)-1-(i:Nat)=((n-1-i:Nat):Int):=by omega
  rw[e] at st
  refine wpAny_pyNext_rev_item st p.isList (x:=u) (by simpa using hu) λh' st' sb=>?_
  have I1:Inv X pins σ H { s with heap:=h' }:=I.turned (t':=s.toks) (λb o hb e=>(sb.2 b hb).trans e) f0 f1 f3 f4 f5
  have e2:((n-1-i:Nat):Int)-1=(n:Int)-1-((i+1:Nat):Int):=by omega
  rw[e2] at st'
  obtain⟨o,e,c,d⟩:=id st'
  exact⟨u,rfl,Ld (s:={ s with heap:=h' }) e c d (by decide) ⟨x,H,I1,ru,⟨rfl,λys hy=>by rw[I.kZ hy hq];exact hx⟩,st',λb hb=>(hf b hb).1⟩⟩
 done:=by
  intro X hP hw hK hc i pins s σ H E I hf st hg
  subst hP hw hK
  have hi:i=n:=hg
  subst hi
  obtain⟨f0,f1,f2,f3,f4,f5⟩:=hf it (by simp)
  have e:(i:Int)-1-(i:Nat)=-1:=by omega
  rw[e] at st
  exact wpAny_pyNext_rev_end (I.ok.hd hc) st λh' eb=>⟨rfl,I.turned (t':=s.toks) (λb o hb e=>eb b o hb e) f0 f1 f3 f4 f5⟩
 self:=λ_ _ _ _ _ st h=>wpAny_pyIter_revIter st h
def CT(K:PySem.W.Frag)(ta:TA):TI:=λσ H R=>ta σ H λvs H1=>∃a xs,vs=[.ref a]/\bw K H1 a xs/\R (V5 K a xs.length) H1
theorem lD:bootBuiltins "reversed" = some (.type "reversed"):=by decide +kernel
theorem JB(hg:Gl X "reversed")(hm:X.mg "reversed" = none)(ha:PA X [a] ta)(hs:starEach [a] X.env=[(false,eval a X.env)]:=by rfl):PI X tg (.Call (.Name "reversed" p) [a] [] pos) (CT X.K ta):=by
 intro pins s σ H R I h
 refine Call_ (zy I hg hm lD (aa4 (aN (ha pos pins s σ H _ I h) λus s1 ⟨vs,H1,I1,r1,q1⟩=>?_) hs rfl))
 obtain⟨l,xs,e,hq,q⟩:=q1
 subst e
 obtain⟨u,rfl,ru⟩:=r1.one
 cases ru
 obtain⟨its,rv,p,hz⟩:=I1.list hq
 have hl:=rv.length
 refine call_reversed_list p.isList ?_
 have I2:Inv X pins σ H1 { s1 with heap:=s1.heap.push (revObj l ((its.toArray.size:Int)-1)),toks:=s1.toks }:=I1.kept λb o e=>get?_push_of_some _ e
 have R0:(s1.heap.push (revObj l ((its.toArray.size:Int)-1))).IsRevIter s1.heap.objs.size l ((xs.length:Int)-1-((0:Nat):Int)):=by
  refine⟨_,get?_push_size _ rfl,rfl,?_⟩
  show aes #[.ref l,rawInt ((its.toArray.size:Int)-1)]=_
  rw[show((its.toArray.size:Int)-1)=(xs.length:Int)-1-((0:Nat):Int) by rw[size_toArray];omega]
 refine wpAny_pyIter_revIter (s:={ s1 with heap:=s1.heap.push (revObj l ((its.toArray.size:Int)-1)) }) R0 ?_
 refine⟨s1.heap.objs.size,[s1.heap.objs.size],_,_,H1,rfl,I2,zQm l _ xs.length,R0,λb hb=>?_,q⟩
 have e:b=s1.heap.objs.size:=by simpa using hb
 subst e
 exact I1.lq (aaf _) (I1.hok.fresh (aaf _))
theorem zSe{n:Nat}{ix:List Nat}{g:TG}{tc:TT}{te:TE}{σ:St}{Q:VK}{H:Hp}{K:PySem.W.Frag}{a:Addr}{xs:List V}(Pv:Nat->List V->St->Hp->Prop)(h0:Pv 0 [] (iW σ n ix) H)(hl:∀i ys σ H,i<=xs.length->Pv i ys σ H->bw K H a xs/\ys.length<=i)(hz:xs.length<sizeLine)(hs:∀i x ys σ H,xs[xs.length-1-i]?=some x->i<xs.length->Pv i ys σ H->g x σ H λσ4 H4=>tc σ4 H4 λb H5=>if b=true then te σ4 H5 λy H6=>Pv (i+1) (ys++[y]) σ4 H6 else Pv (i+1) ys σ4 H5)(hd:∀ys σ H,Pv xs.length ys σ H->∀p,H p=none->Q (.ref p) (upd H p (.lst ys))):Rm n ix g tc te σ Q (V5 K a xs.length) H:=by
 refine⟨λi m ys σ H=>m=xs.length-i/\i<=xs.length/\Pv i ys σ H,⟨xs.length,by simp,aa0 _,h0⟩,?_⟩
 rintro i m ys σ H ⟨rfl,hi,p⟩
 obtain⟨q,hy⟩:=hl i ys σ H hi p
 by_cases hlt:i<xs.length
 ·refine .inr ⟨⟨hlt,xs,xs[xs.length-1-i]'(by omega),q,aad (by omega)⟩,by omega,Pv (i+1),λys' σ' H' p'=>⟨xs.length-(i+1),by omega,rfl,hlt,p'⟩,λx H' y=>?_⟩
  obtain⟨e,y⟩:=y
  subst e
  exact hs i x ys σ _ (y xs q) hlt p
 ·have e:i=xs.length:=by omega
  subst e
  exact .inl ⟨rfl,by omega,hd ys σ H p⟩
structure pY(K:PySem.W.Frag)(C:Addr)(m:Str)(f:Addr):Prop where
 sp:specialIn K (.ref C) "__getattribute__" = some (some (.builtin "type.__getattribute__"))
 rd:PySem.W.readsIn K C (.type "type")=true
 at_:PySem.W.findCls K (.ref C) (.type "type") m=some (.val (.ref f))
 kp:keepIn K (.ref f)=true
section
variable{X:Cx}{CX:rT}{k:Nat}{f C:Addr}{fd:FuncData}{ps:List Str}{sp:Sp}{kE:List V}{ds:List Value}{E:XK}{x m:Str}{p pos apos:Pos}{e o:Expr}{es:List Expr}{ta:TE}{t:TA}
theorem uS(hg:Gl X x)(hm:X.mg x=some (.ref C))(c:pY X.K C m f)(F:au X.prog X.w X.K X.mg X.base CX k f fd ps sp)(hr:bJ k X.A)(hb:Binds X.K fd ps ds)(hd:Vals kE ds)(hx:Fj CX X E)(ha:PA X (e::es) t)(hdb:(x==("__debug__":Str))=false:=by decide)(hst:starEach (e::es) X.env=(false,eval e X.env)::starEach es X.env:=by rfl)(hpl:(backTo pos (starEach es X.env)).any (·.1)=false:=by rfl)(ht:eval (.Call (.Attribute (.Name x p) m apos) (e::es) [] pos) X.env=(do
   let ov <-eval (.Name x p) X.env
   standAt apos.atName
   let(f,first) <-holding [ov] (getMethod ov m pl)
   callWith pos f first (backTo pos (starEach (e::es) X.env)) (backToKw pos (keywordEach [] X.env))):=by rfl) :
  PE X (.Call (.Attribute (.Name x p) m apos) (e::es) [] pos) (HB sp kE E t):=by
 intro pins s σ H Q I h
 refine ad1 (pl:=pl) (QJ I hg hm ?_ hdb) ht
 refine PySem.W.method_cls I.jC c.sp (PySem.W.cls_value I.jC c.rd c.at_ rfl ?_)
 have I':=I.tok (s.toks+1)
 refine ad3 (first:=[]) (h₀:=X.base) I.ok.mod.K5 c.kp (aN (ha pos pins _ σ H _ I' h) λus s1 ⟨vs,H1,I1,r,q⟩=>⟨I1.jC,?_⟩) hst hpl
 exact Rb F hr hb hd hx I1 r q
end
end L2
namespace Sy
open PySem L2
inductive Tr where
 |all
 |mark (x:Str)
 |one (i:Fin 6) (t:Tr)
 |two (i:Fin 4) (l r:Tr)
def w1(i:Fin 6):Str:=(["not","somenext","eachnext","somealways","eachalways","someever","eachever"]:List Str).getD i.val ac6
def w2(i:Fin 4):Str:=(["both","either","sometill","eachtill"]:List Str).getD i.val ac6
def Tr.depth:Tr->Nat
 |.all=>0
 |.mark _=>0
 |.one _ t=>t.depth+1
 |.two _ l r=>max l.depth r.depth+1
def Kp(p:Addr)(H H':Hp):Prop:=∀b o,b≠p->H b=some o->H' b=some o
theorem Kp.of(s:Same H H'):Kp p H H':=λb o _ e=>s b o e
theorem Kp.trans(a:Kp p H H1)(b:Kp p H1 H2):Kp p H H2:=λc o n e=>b c o n (a c o n e)
theorem Kp.put(p:Addr)(H:Hp)(o:HO):Kp p H (upd H p o):=λb u n e=>by rw[zO n];exact e
theorem aL(h:H p=none)(o:HO):Same H (upd H p o):=λb u q=>by rw[zO (zL q h)];exact q
def tZ(w:V)(q:Addr):List (Str×V):=aF "parts" (.ref q) (aF "word" w [])
def sJ(w v:V)(q:Addr):List (Str×V):=aF "part" v (tZ w q)
def sO(w v u:V)(q:Addr):List (Str×V):=aF "right" u (aF "left" v (tZ w q))
def Mq(x:V)(q:Addr):List (Str×V):=aF "name" x (tZ x q)
theorem bN(f:Str)(v:V):∀fs:List (Str×V),(aF f v fs).length<=fs.length+1
 |[]=>aaf _
 | (g,x)::r=>by
  unfold aF
  split
  ·exact abt _
  ·exact abj (bN f v r)
theorem Sh(w:V)(q:Addr):(tZ w q).length<=2:=by
 have a1:=bN "parts" (V.ref q) (aF "word" w [])
 have a2:=bN "word" w []
 have a3:([]:List (Str×V)).length=0:=rfl
 show(aF "parts" (V.ref q) (aF "word" w [])).length<=2
 omega
structure gD(K:PySem.W.Frag)(C:Addr):Prop where
 cl:Cls K C
 nW:aX K C "word"
 nP:aX K C "parts"
 n1:aX K C "part"
 nL:aX K C "left"
 nR:aX K C "right"
 nN:aX K C "name"
inductive Hd where
 |all
 |mark
 |one (i:Fin 6)
 |two (i:Fin 4)
def spS(K:PySem.W.Frag):Sp:=λvs H Q _=>∃(p C dx:Addr)(x y:V),vs=[.ref p,x,y]/\H p=some (.ins C dx [])/\gD K C/\∀H':Hp,Kp p H H'->H' p=some (.ins C dx (aF "parts" y (aF "word" x [])))->Q .non H'
def qH(K:PySem.W.Frag):Sp:=λvs H Q _=>∃(p C dx:Addr)(x v:V),vs=[.ref p,x,v]/\H p=some (.ins C dx [])/\gD K C/\∀(q:Addr)(H':Hp),Kp p H H'->H q=none->H' q=some (.tup [v])->H' p=some (.ins C dx (sJ x v q))->Q .non H'
def wk(K:PySem.W.Frag):Sp:=λvs H Q _=>∃(p C dx:Addr)(x v u:V),vs=[.ref p,x,v,u]/\H p=some (.ins C dx [])/\gD K C/\∀(q:Addr)(H':Hp),Kp p H H'->H q=none->H' q=some (.tup [v,u])->H' p=some (.ins C dx (sO x v u q))->Q .non H'
def PJ(C:Addr):Sp:=λvs H Q _=>∃(p dx:Addr),vs=[.ref p]/\H p=some (.ins C dx [])/\∀(q:Addr)(H':Hp),Kp p H H'->H q=none->H' q=some (.tup [])->H' p=some (.ins C dx (tZ (.str "all") q))->Q .non H'
def JC(C:Addr):Sp:=λvs H Q _=>∃(p dx:Addr)(x:V),vs=[.ref p,x]/\H p=some (.ins C dx [])/\∀(q:Addr)(H':Hp),Kp p H H'->H q=none->H' q=some (.tup [])->H' p=some (.ins C dx (Mq x q))->Q .non H'
def pZ(C:Addr)(w:Str):Sp:=λvs H Q _=>∃(p dx:Addr)(v:V),vs=[.ref p,v]/\H p=some (.ins C dx [])/\∀(q:Addr)(H':Hp),Kp p H H'->H q=none->H' q=some (.tup [v])->H' p=some (.ins C dx (sJ (.str w) v q))->Q .non H'
def wu(C:Addr)(w:Str):Sp:=λvs H Q _=>∃(p dx:Addr)(v u:V),vs=[.ref p,v,u]/\H p=some (.ins C dx [])/\∀(q:Addr)(H':Hp),Kp p H H'->H q=none->H' q=some (.tup [v,u])->H' p=some (.ins C dx (sO (.str w) v u q))->Q .non H'
inductive dw(cl:Hd->Addr)(H:Hp):Addr->Tr->Prop where
 |all {p q dx:Addr}:H p=some (.ins (cl .all) dx (tZ (.str "all") q))->H q=some (.tup [])->dw cl H p .all
 |mark {p q dx:Addr} {x:Str}:H p=some (.ins (cl .mark) dx (Mq (.str x) q))->H q=some (.tup [])->dw cl H p (.mark x)
 |one {p q dx c:Addr} {i:Fin 6} {t:Tr}:H p=some (.ins (cl (.one i)) dx (sJ (.str (w1 i)) (.ref c) q))->H q=some (.tup [.ref c])->dw cl H c t->dw cl H p (.one i t)
 |two {p q dx c d:Addr} {i:Fin 4} {l r:Tr}:H p=some (.ins (cl (.two i)) dx (sO (.str (w2 i)) (.ref c) (.ref d) q))->H q=some (.tup [.ref c,.ref d])->dw cl H c l->dw cl H d r->dw cl H p (.two i l r)
theorem dw.same(h:dw cl H p t)(s:Same H H'):dw cl H' p t:=by
 induction h with
 |all h1 h2=>exact .all (s _ _ h1) (s _ _ h2)
 |mark h1 h2=>exact .mark (s _ _ h1) (s _ _ h2)
 |one h1 h2 _ ih=>exact .one (s _ _ h1) (s _ _ h2) ih
 |two h1 h2 _ _ ih1 ih2=>exact .two (s _ _ h1) (s _ _ h2) ih1 ih2
def hd:Tr->Hd
 |.all=>.all
 |.mark _=>.mark
 |.one i _=>.one i
 |.two i _ _=>.two i
def hw:Tr->Str
 |.all=>"all"
 |.mark x=>x
 |.one i _=>w1 i
 |.two i _ _=>w2 i
def pts:Tr->List Tr
 |.all=>[]
 |.mark _=>[]
 |.one _ t=>[t]
 |.two _ l r=>[l,r]
theorem kw1:¬(("word":Str) = "parts"):=by decide +kernel
theorem kw2:¬(("word":Str) = "part"):=by decide +kernel
theorem kw3:¬(("word":Str) = "left"):=by decide +kernel
theorem kw4:¬(("word":Str) = "right"):=by decide +kernel
theorem kw5:¬(("word":Str) = "name"):=by decide +kernel
theorem kp2:¬(("parts":Str) = "part"):=by decide +kernel
theorem kp3:¬(("parts":Str) = "left"):=by decide +kernel
theorem kp4:¬(("parts":Str) = "right"):=by decide +kernel
theorem kp5:¬(("parts":Str) = "name"):=by decide +kernel
theorem Sq(w:V)(q:Addr):(tZ w q).lookup ("word":Str)=some w:=by unfold tZ;rw[zJ,if_neg kw1,zJ,if_pos rfl]
theorem Ss(w:V)(q:Addr):(tZ w q).lookup ("parts":Str)=some (.ref q):=by unfold tZ;rw[zJ,if_pos rfl]
theorem Sv(w:V)(q:Addr){m:Str}(h1:¬m = "parts")(h2:¬m = "word"):(tZ w q).lookup m=none:=by
 unfold tZ
 rw[zJ,if_neg h1,zJ,if_neg h2]
 rfl
theorem dw.look(h:dw cl H p t):∃(dx q:Addr)(fs:List (Str×V))(cs:List Addr),H p=some (.ins (cl (hd t)) dx fs)/\fs.lookup ("word":Str)=some (.str (hw t))/\fs.lookup ("parts":Str)=some (.ref q) /\
  (∀m:Str,¬m = "word"->¬m = "parts"->¬m = "part"->¬m = "left"->¬m = "right"->¬m = "name"->fs.lookup m=none)/\H q=some (.tup (cs.map V.ref))/\Paired (dw cl H) cs (pts t):=by
 cases h with
 |all h1 h2=>exact⟨_,_,_,[],h1,Sq _ _,Ss _ _,λm a b _ _ _ _=>Sv _ _ b a,h2,.nil⟩
 |mark h1 h2 =>
  refine⟨_,_,_,[],h1,?_,?_,λm a b _ _ _ f=>?_,h2,.nil⟩
  ·unfold Mq;rw[zJ,if_neg kw5];exact Sq _ _
  ·unfold Mq;rw[zJ,if_neg kp5];exact Ss _ _
  ·unfold Mq;rw[zJ,if_neg f];exact Sv _ _ b a
 |one h1 h2 h3 =>
  refine⟨_,_,_,[_],h1,?_,?_,λm a b c _ _ _=>?_,h2,.cons h3 .nil⟩
  ·unfold sJ;rw[zJ,if_neg kw2];exact Sq _ _
  ·unfold sJ;rw[zJ,if_neg kp2];exact Ss _ _
  ·unfold sJ;rw[zJ,if_neg c];exact Sv _ _ b a
 |two h1 h2 h3 h4 =>
  refine⟨_,_,_,[_,_],h1,?_,?_,λm a b _ c d _=>?_,h2,.cons h3 (.cons h4 .nil)⟩
  ·unfold sO;rw[zJ,if_neg kw4,zJ,if_neg kw3];exact Sq _ _
  ·unfold sO;rw[zJ,if_neg kp4,zJ,if_neg kp3];exact Ss _ _
  ·unfold sO;rw[zJ,if_neg d,zJ,if_neg c];exact Sv _ _ b a
def n1(i:Fin 6):Str:=(["Not","SomeNext","EachNext","SomeAlways","EachAlways","SomeEver","EachEver"]:List Str).getD i.val ac6
def n2(i:Fin 4):Str:=(["Both","Either","SomeTill","EachTill"]:List Str).getD i.val ac6
structure Ini(P:Program)(w:World)(K:PySem.W.Frag)(mg:Str->Option Value)(base:Heap)(k:Nat)(cl fi:Hd->Addr)(di:Hd->FuncData):Prop where
 made:∀h,Mk K (cl h) (fi h)
 iA:au P w K mg base aP k (fi .all) (di .all) ["self"] (PJ (cl .all))
 bA:Binds K (di .all) ["self"] []
 iM:au P w K mg base aP k (fi .mark) (di .mark) ["self","name"] (JC (cl .mark))
 bM:Binds K (di .mark) ["self","name"] []
 i1:∀i,au P w K mg base aP k (fi (.one i)) (di (.one i)) ["self","part"] (pZ (cl (.one i)) (w1 i))
 b1:∀i,Binds K (di (.one i)) ["self","part"] []
 i2:∀i,au P w K mg base aP k (fi (.two i)) (di (.two i)) ["self","left","right"] (wu (cl (.two i)) (w2 i))
 b2:∀i,Binds K (di (.two i)) ["self","left","right"] []
 mA:mg "All" = some (.ref (cl .all))
 mM:mg "Mark" = some (.ref (cl .mark))
 m1:∀i,mg (n1 i)=some (.ref (cl (.one i)))
 m2:∀i,mg (n2 i)=some (.ref (cl (.two i)))
theorem zOt(nx:H x=none)(nd:H dx=none):Same H (upd (upd H dx (.own x)) x (.ins C dx [])):=λb o e=>by
 rw[zO (zL e nx),zO (zL e nd)]
 exact e
theorem zKf(nx:H x=none)(nd:H dx=none)(k:Kp x (upd (upd H dx (.own x)) x (.ins C dx [])) H'):Same H H':=λb o e=>k b o (zL e nx) (zOt nx nd b o e)
end Sy
namespace Ts
open PySem L2 Sy
structure bH(cl:Hd->Addr) where
 t:Tr
def cN:Hd->Tr->Bool
 |.all,.all=>true
 |.mark,.mark _=>true
 |.one i,.one j _=>decide (j=i)
 |.two i,.two j _ _=>decide (j=i)
 |_,_=>false
def bH.parts(x:bH cl):List (bH cl):=(pts x.t).map bH.mk
def bH.name(x:bH cl):Option Str:=match x.t with
 |.mark s=>some s
 |_=>none
structure oK(P:Program)(w:World)(K:PySem.W.Frag)(mg:Str->Option Value)(base:Heap)(k:Nat)(cl fi:Hd->Addr)(di:Hd->FuncData):Prop where
 ini:Ini P w K mg base k cl fi di
 kd:∀h,gD K (cl h)
 nD:∀h h':Hd,∀t:Tr,hd t=h->kitOne K (.ref (cl h)) (.ref (cl h'))=some (cN h' t)
 c1:∀h,findIn K (.ref (cl h)) "__class__" = some (some (.builtin "object.__class__"))
 c2:specialIn K (.builtin "object.__class__") "__get__" = some (some (.builtin "getset_descriptor.__get__"))
 c3:takesIn K (.builtin "object.__class__")=some true
 c4:∀h,mroIn K (cl h) (.type "object")=some true
section
variable{K:PySem.W.Frag}{cl:Hd->Addr}
instance:Rp K (bH cl):=⟨λF v x=>∃p,v=.ref p/\dw cl F p x.t,λs ⟨p,h1,h2⟩=>⟨p,h1,h2.same s⟩⟩
instance:Nn K (bH cl):=⟨λ⟨_,h,_⟩=>by rw[h];intro e;cases e⟩
end
section
variable{K:PySem.W.Frag}{B:Bs}{F H H2:Hp}{O:Own}
theorem Sw(k:Ok B F O H)(s:Same H H2)(hx:H x=none)(e:H2 x=some o):∀md:Md,reg B (ext F H H2) H2 md x=some o
 |.hp=>e
 |.fz=>by
  show ext F H H2 x=some o
  unfold ext
  rw[hx]
  exact e
 |.nw=>by
  show dif (ext F H H2) B.H0 x=some o
  rw[uL (k.h0.free hx)]
  unfold ext
  rw[hx]
  exact e
end
section
variable{P:Program}{w:World}{K:PySem.W.Frag}{mg:Str->Option Value}{base:Heap}{B:Bs}{sl:SL K}{md:Md}{te t1 t2:TE}{cl fi:Hd->Addr}{di:Hd->FuncData}{k:Nat}
theorem zG2(h:upd (upd H dx o1) x o2 q=none):H q=none:=by
 by_cases e1:q=x
 ·subst e1;rw[zM] at h;cases h
 ·rw[zO e1] at h
  by_cases e2:q=dx
  ·subst e2;rw[zM] at h;cases h
  ·rw[zO e2] at h;exact h
theorem CV(h:Ex B sl md te m):Ex B sl md (Ra (cl .mark) (JC (cl .mark)) [] E0 (xG te cj)) (m.bind λa=>some (bH.mk (cl:=cl) (.mark a))):=λc hc F O H σ Q s kk=>by
 cases m with
 |none=>cases hc
 |some a =>
  cases hc
  refine h a rfl F O H σ _ s λv F' H' g r1=>?_
  cases r1
  intro x dx nx nd ne
  refine⟨x,dx,.str a,rfl,zM,λq H2 k1 f0 e1 e2=>⟨rfl,?_⟩⟩
  have s2:=zKf nx nd k1
  have g2:=g.ok.called s2
  exact kk (.ref x) _ H2 (g.trans g2) ⟨x,rfl,.mark (Sw g.ok s2 nx e2 md) (Sw g.ok s2 (zG2 f0) e1 md)⟩
theorem V6(i:Fin 6){m:Option (bH cl)}(h:Ex B sl md te m):Ex B sl md (Ra (cl (.one i)) (pZ (cl (.one i)) (w1 i)) [] E0 (xG te cj)) (m.bind λa=>some (bH.mk (cl:=cl) (.one i a.t))):=λc hc F O H σ Q s kk=>by
 cases m with
 |none=>cases hc
 |some a =>
  cases hc
  refine h a rfl F O H σ _ s λv F' H' g r1=>?_
  obtain⟨p,rfl,sa⟩:=r1
  intro x dx nx nd ne
  refine⟨x,dx,.ref p,rfl,zM,λq H2 k1 f0 e1 e2=>⟨rfl,?_⟩⟩
  have s2:=zKf nx nd k1
  have g2:=g.ok.called s2
  exact kk (.ref x) _ H2 (g.trans g2) ⟨x,rfl,.one (Sw g.ok s2 nx e2 md) (Sw g.ok s2 (zG2 f0) e1 md) (sa.same (xH g2 md))⟩
theorem wJ(I:oK P w K mg base k cl fi di)(hh:Hd){m:Option (bH cl)}(h:Ex B sl .hp te m):Ex B sl md (z_ (Bv K (.ref (cl hh))) (xG te (xG (tC (.ref (cl hh))) cj))) (m.bind λa=>some (cN hh a.t)):=λc hc F O H σ Q s kk=>by
 cases m with
 |none=>cases hc
 |some a =>
  cases hc
  refine h a rfl F O H σ _ s λv F' H' g r1=>?_
  obtain⟨p,rfl,sa⟩:=r1
  obtain⟨dx,q,fs,cs,l1,_⟩:=sa.look
  exact⟨.ref p,.ref (cl hh),_,_,rfl,rfl,.ins l1 (I.kd (hd a.t)).cl (I.c1 _) I.c2 I.c3 (I.c4 _),I.nD (hd a.t) hh a.t rfl,kk _ F' H' g rfl⟩
theorem zMk(I:oK P w K mg base k cl fi di){m:Option (bH cl)}(h:Ex B sl .hp te m):Ex B sl md (oE K te "name") (m.bind λa=>a.name):=λc hc F O H σ Q s kk=>by
 cases m with
 |none=>cases hc
 |some a =>
  obtain⟨t⟩:=a
  cases t with
  |mark x =>
   cases hc
   refine h _ rfl F O H σ _ s λv F' H' g r1=>?_
   obtain⟨p,rfl,sa⟩:=r1
   cases sa with
   |mark e1 e2=>exact⟨p,_,_,_,_,rfl,e1,(I.kd .mark).cl,(I.kd .mark).nN,by unfold Mq;rw[zJ,if_pos rfl],kk _ F' H' g rfl⟩
  |_=>cases hc
theorem Gu:∀{cs:List Addr}{ts:List Tr},Paired (dw cl F) cs ts->A2 (rp K F) (cs.map V.ref) (ts.map (bH.mk (cl:=cl)))
 |_,_,.nil=>trivial
 |_,_,.cons h r=>⟨⟨_,rfl,h⟩,Gu r⟩
theorem zSb{n:Bool}(I:oK P w K mg base k cl fi di){mi:Option (bH cl)}(h:Ex B sl (dX n) te mi):Ei B sl n (Hq K (oE K te "parts")) (mi.bind λa=>some a.parts):=λxs hx F O H σ R a kk=>by
 cases mi with
 |none=>cases hx
 |some y =>
  cases hx
  refine h y rfl F O H σ _ a λv F' H' gr r=>?_
  obtain⟨p,rfl,sa⟩:=r
  obtain⟨dx,q,fs,cs,l1,l2,l3,l4,l5,l6⟩:=sa.look
  have h2:A2 (rp K (reg B F' H' (dX n))) (cs.map V.ref) y.parts:=Gu l6
  have e1:=Bw gr.ok n p _ l1
  refine⟨p,_,dx,fs,.ref q,rfl,e1,(I.kd _).cl,(I.kd _).nP,l3,q,rfl,⟨_,jV.of (Bw gr.ok n q _ l5)⟩,kk _ F' H' gr λi F2 O2 H2 sf k2=>?_⟩
  have hq:jV K H2 q (cs.map V.ref):=jV.of (k2.fh _ _ (sf _ _ (by cases n with|true=>exact aV _ _ l5|false=>exact l5)))
  refine⟨λhl=>⟨_,hq,by rw[h2.len];exact hl⟩,λx hx=>?_⟩
  obtain⟨w,hw,rw⟩:=h2.at2 hx
  refine⟨⟨_,w,hq,hw⟩,λv H3 yd=>?_⟩
  obtain⟨e,y'⟩:=yd
  subst e
  have:=(hw.symm.trans (y' _ hq))
  cases this
  exact⟨F2,.refl k2,Rp.mono (wK n sf) rw⟩
end
theorem JD(K:PySem.W.Frag)(hl:PE X l tl)(h:X.K=K:=by rfl):PI X tg l (Hq K tl):=by subst h;exact Hr hl
section
variable{K:PySem.W.Frag}{B:Bs}{sl:SL K}{md:Md}{te:TE}{α:Type}[Rp K α]
def sS{α:Type}(xs ys:List α):Option (List α):=if xs.length+ys.length<cap then some (xs++ys) else none
theorem zLo{n:Bool}{xs:List α}{m:Option (List α)}(i:Nat)(hs:sl[i]?=some (.ow n xs))(hh:sl.all (λs=>!cP s)=true)(h:Ex B sl (dX n) te m) :
  Sn B sl (K9 (Lk K "list" Ud (c7 i) (xG te cj))) (λys=>sl.set i (.ow n ys)) (m.bind λa=>sS xs a):=λys ha G D σ H s k=>by
 cases m with
 |none=>cases ha
 |some a =>
  have ha':sS xs a=some ys:=ha
  unfold sS at ha'
  split at ha'
  case isFalse=>cases ha'
  rename_i hl
  cases ha'
  obtain⟨F,O,g,z⟩:=s
  obtain⟨p,vs,h1,h2,h3,_⟩:=z.chg hs hh
  refine⟨_,h1,.inl ⟨rfl,_,bw.of h2⟩,?_⟩
  refine h a rfl F O H σ _ z λv F' H' gr r=>?_
  obtain⟨p',vs',h1',h2',h3',h4'⟩:=(z.grow gr).chg hs hh
  have e:=h1.symm.trans h1'
  cases e
  obtain⟨q,us,rfl,z1,z2⟩:=r
  obtain⟨O',z'⟩:=h4' (vs'++us) (xs++a) (h3'.app z2)
  exact⟨p,q,_,_,rfl,rfl,h2',Bw gr.ok n q _ z1,by rw[h3'.len,z2.len];exact ab4 (Ac hl),k _ _ ⟨F',O',g.trans gr.ff,z'⟩⟩
end
end Ts
namespace PK
open PySem PySem.Spec PyProof.Rows
set_option maxRecDepth 100000
section
variable{prog:Program}{w:World}{A:Around}{E:Value->Shared->Prop}{s:Shared}
abbrev V7(h:Heap)(z TI TO T:Addr)(b:Bool):Prop :=
 h.get? z=some { cls:=.type "zip",dict:=none,data:=.fields #[rawInt T,.bool b,.bool false,.ref TI,.ref TO],slots:=#[] }
structure ZSt(h:Heap)(S z TI TO i1 i2 l1 l2 N i:Nat)(xs ys acc:Array Value):Prop where
 sz:h.objs.size=N+i
 zz:(i=0/\IsZip h z TI TO .none/\∃a b,IsPair h TO a b)\/(0<i/\∃b,V7 h z TI TO N b)
 ti:IsPair h TI (.ref i1) (.ref i2)
 h1:h.IsListIter i1 l1 i
 h2:h.IsListIter i2 l2 i
 q1:h.IsList l1 xs
 q2:h.IsList l2 ys
 ls:∃c,h.get? S=some { cls:=.type "list",dict:=none,data:=.seq acc c,slots:=#[] }
 al:acc.toList=(aar i).map λj=>aa5 (N+j)
 tp:∀j x y,j<i->xs[j]?=some x->ys[j]?=some y->IsPair h (N+j) x y
variable{R:Result->Shared->Prop}
end
section
variable{prog:Program}{w:World}{A:Around}{E:Value->Shared->Prop}{s:Shared}
end
end PK
namespace L2
open PySem PySem.Spec PyProof.Rows PK
end L2
namespace Ts
open PySem L2
section
variable{K:PySem.W.Frag}{B:Bs}{sl:SL K}{md:Md}{t1 t2:TE}{α β:Type}[Rp K α][Rp K β]
end
open PySem L2 Sy
inductive rJ where
 |none
 |step (n:Int)
 |shut
 |walk (xs:LI)
 |out
 |loop (xs ys:LI)
 |rank (n:Int) (o:Option Int)
 |here
 |dead
 |plain
def rJ.word:rJ->Str
 |.none=>"none"
 |.step _=>"step"
 |.shut=>"shut"
 |.walk _=>"walk"
 |.out=>"out"
 |.loop _ _=>"loop"
 |.rank _ _=>"rank"
 |.here=>"here"
 |.dead=>"dead"
 |.plain=>"plain"
def rJ.len:rJ->Int
 |.step _=>2
 |.walk _=>2
 |.loop _ _=>3
 |.rank _ _=>3
 |_=>1
def rJ.at1:rJ->Option Int
 |.step n=>some n
 |.rank n _=>some n
 |_=>aeu
section
variable{K:PySem.W.Frag}
def rJ.rest(K:PySem.W.Frag)(F:Hp):rJ->List V->Prop
 |.step n,vs=>vs=[.int n]
 |.walk xs,vs=>∃a,vs=[a]/\rp K F a xs
 |.loop xs ys,vs=>∃a b,vs=[a,b]/\rp K F a xs/\rp K F b ys
 |.rank n o,vs=>∃b,vs=[.int n,b]/\rp K F b o
 |_,vs=>vs=[]
theorem rJ.sV(s:Same F F'):∀{r:rJ}{vs:List V},r.rest K F vs->r.rest K F' vs
 |.step _,_,h=>h
 |.walk _,_,⟨a,h1,h2⟩=>⟨a,h1,Rp.mono s h2⟩
 |.loop _ _,_,⟨a,b,h1,h2,h3⟩=>⟨a,b,h1,Rp.mono s h2,Rp.mono s h3⟩
 |.rank _ _,_,⟨b,h1,h2⟩=>⟨b,h1,Rp.mono s h2⟩
 |.none,_,h=>h
 |.shut,_,h=>h
 |.out,_,h=>h
 |.here,_,h=>h
 |.dead,_,h=>h
 |.plain,_,h=>h
instance:Rp K rJ:=⟨λF v r=>∃p vs,v=.ref p/\F p=some (.tup (.str r.word::vs))/\r.rest K F vs,λs ⟨p,vs,h1,h2,h3⟩=>⟨p,vs,h1,s _ _ h2,rJ.sV s h3⟩⟩
instance:Nn K rJ:=⟨λ⟨_,_,h,_⟩=>by rw[h];intro e;cases e⟩
instance:Ty K rJ:=⟨.type "tuple",λ⟨p,_,e,h,_⟩=>by rw[e];exact .tup h⟩
end
section
variable{K:PySem.W.Frag}{B:Bs}{sl:SL K}{md:Md}{te t1 t2:TE}
end
end Ts
namespace L2
open PySem PySem.Spec PyProof.Rows
section
variable{X:Cx}
end
end L2
namespace Ts
open PySem L2
section
variable{K:PySem.W.Frag}{B:Bs}{sl:SL K}{md:Md}{t t1 t2:TE}
end
section
variable{K:PySem.W.Frag}{B:Bs}{sl:SL K}{F H H' L L':Hp}{O:Own}{σ:St}{α:Type}[Rp K α]
abbrev jr:Slot K->Bool
 |@Slot.nu _ _ _ _=>true
 |_=>false
theorem ak.PL(h:ak B F L H sl σ O)(hn:sl.all (λs=>!cP s&&!jr s)=true):ak B F L' H' sl σ O:=by
 induction h with
 |nil=>exact .nil
 |un _ ih=>exact .un (ih (by rw[all_cons,aag] at hn;exact hn.2))
 |fz r _ ih=>exact .fz (Rp.mono (wK _ (.refl _)) r) (ih (by rw[all_cons,aag] at hn;exact hn.2))
 |hs r _ ih=>rw[all_cons,aag] at hn;exact absurd hn.1 (by simp)
 |nu r _ ih=>rw[all_cons,aag] at hn;exact absurd hn.1 (by simp)
 |ow r _ ih=>exact .ow (r.imp λ_ _=>Rp.mono (wK _ (.refl _))) (ih (by rw[all_cons,aag] at hn;exact hn.2))
 |od r _ ih=>exact .od r (ih (by rw[all_cons,aag] at hn;exact hn.2))
end
open PySem L2 Sy
open PySem.SeqAt (EqAt RcAt RcNeAt)
section
variable{K:PySem.W.Frag}
variable{B:Bs}{sl:SL K}{md:Md}{t1 t2:TE}
end
theorem sW{β:Type}[Rp K β]{m:Option β}(sl2:SL K)(h:SB B sl2 t al m)(e:sl=sl2:=by rfl):SB B sl t al m:=e▸h
def del(H:Hp)(p:Addr):Hp:=λb=>if b=p then none else H b
def JF(K:PySem.W.Frag){A β:Type}[Rp K β](as:A->SL K)(f:LI->A->Option (β×LI)):Sp:=λvs H Q _ =>
 ∃(p:Addr)(ws:LI)(us:List V)(a:A)(b:β)(ws':LI)(Fa:Hp),vs=.ref p::us/\H p=some (.lst (ws.map V.int))/\Fa p=none/\Same Fa H/\f ws a=some (b,ws')/\Ar Fa (as a) us /\
  ∀v H',Same (del H p) H'->H' p=some (.lst (ws'.map V.int))->rp K (dif H' H) v b->Q v H'
section
variable{K:PySem.W.Frag}{B:Bs}{sl:SL K}{md:Md}{β:Type}[Rp K β]
def Ey(B:Bs)(sl:SL K)(md:Md)(t:TE){α S:Type}[Rp K α](L:S->SL K)(m:Option (α×S)):Prop :=
 ∀a s,m=some (a,s)->∀(F:Hp)(O:Own)(H:Hp)(σ:St)(Q:VK),At B sl F O H σ->(∀(v:V)(F':Hp)(O':Own)(H':Hp),Same F F'->At B (L s) F' O' H' σ->rp K (reg B F' H' md) v a->Q v H')->t σ H Q
theorem zKm{A:Type}{as:A->SL K}{f:LI->A->Option (β×LI)}{ma:Option A}(i:Nat)(hs:sl[i]?=some (.ow n ws))(hh:sl.all (λs=>!cP s)=true)(h:Ea B sl .fz ta as ma) :
  Ey B sl md (HB (JF K as f) [] E0 (xG (c7 i) ta)) (λws'=>sl.set i (.ow n ws')) (ma.bind λa=>f ws a):=λb ws' hc F O H σ Q z k=>by
 cases ma with
 |none=>cases hc
 |some a =>
  have hc:f ws a=some (b,ws'):=hc
  obtain⟨p,vs,h1,h2,h3,_⟩:=z.chg hs hh
  refine⟨_,h1,?_⟩
  refine h a rfl F O H σ _ z λus F' H' gr r=>?_
  have z1:=z.grow gr
  obtain⟨p',vs',h1',h2',h3',h4'⟩:=z1.chg hs hh
  cases h1.symm.trans h1'
  obtain⟨O1,O2,p2,vs2,eO,Bu,_⟩:=z1.2.nq hs
  cases h1.symm.trans Bu
  have fp:F' p=none:=by
   have k1:=z1.1
   rw[eO] at k1
   exact k1.one.1
  have ev:vs'=ws.map V.int:=A2.qF h3'
  show JF K as f ((.ref p::us)++[]) H' Q E0
  rw[append_nil]
  refine⟨p,ws,us,a,b,ws',F',rfl,by rw[h2',ev],fp,gr.ok.fh,hc,r,λv H2 s2 e2 r2=>?_⟩
  obtain⟨O',z'⟩:=h4' (ws'.map V.int) ws' (A2.of_map (R:=rp K (reg B F' H' (dX n))) (f:=V.int) (λ_=>rfl) ws')
  have s3:Same (upd H' p (.lst (ws'.map V.int))) H2:=λc o e=>by
   by_cases q:c=p
   ·subst q
    rw[zM] at e
    rw[e2]
    exact e
   ·rw[zO q] at e
    refine s2 c o ?_
    unfold del
    rw[if_neg q]
    exact e
  have g2:=z'.1.called s3
  refine k v _ O' H2 (gr.ff.trans g2.ff) (z'.grow g2) ?_
  have d:Same (dif H2 H') (dif H2 (upd H' p (.lst (ws'.map V.int)))):=λc o e=>by
   unfold dif at e ⊢
   by_cases q:c=p
   ·subst q
    rw[h2'] at e
    cases e
   ·rw[zO q]
    exact e
  have r3:=Rp.mono (Lq (F:=F') z'.1.h0 s3) (Rp.mono d r2)
  exact match md with
  |.nw=>r3
  |.fz=>Rp.mono aV r3
  |.hp=>Rp.mono (aV.trans g2.ok.fh) r3
end
structure RL(p:Addr) where
 ws:LI
section
variable{K:PySem.W.Frag}{B:Bs}{sl:SL K}{F H:Hp}{O:Own}{σ:St}{md:Md}{β:Type}[Rp K β]{p:Addr}{ws:LI}
instance:Rp K (RL p):=⟨λF v x=>v=.ref p/\F p=some (.lst (x.ws.map V.int)),λs ⟨h1,h2⟩=>⟨h1,s _ _ h2⟩⟩
theorem At.iC(z:At B sl F O H σ)(hs:sl[i]?=some (.nu (RL.mk (p:=p) ws)))(hh:(sl.set i .un).all (λs=>!cP s&&!jr s)=true) :
  σ[i]?=some (some (.ref p))/\H p=some (.lst (ws.map V.int))/\B.H0 p=none/\F p=none/\(∀x∈O,x.1≠p)/\∀ws':LI,At B (sl.set i (.nu (RL.mk (p:=p) ws'))) F O (upd H p (.lst (ws'.map V.int))) σ:=by
 obtain⟨v,h1,rfl,h2⟩:=z.2.vq hs
 have b0:B.H0 p=none:=by
  cases q:B.H0 p with
  |none=>rfl
  |some u=>unfold dif at h2;rw[q] at h2;cases h2
 rw[uL b0] at h2
 have h2':=h2
 unfold lo at h2
 split at h2
 case isTrue=>cases h2
 rename_i hlo
 have hlo':=hlo
 rw[abg,not_or] at hlo
 have f0:F p=none:=by
  cases q:F p with
  |none=>rfl
  |some u=>exact absurd (by rw[q];rfl) hlo.1
 have o0:∀x∈O,x.1≠p:=λx hx e=>hlo.2 (any_eq_true.mpr ⟨x,hx,by simpa using e⟩)
 refine⟨h1,h2,b0,f0,o0,λws'=>⟨⟨z.1.fh.put f0 _,z.1.h0.put b0 _,z.1.fa,λx hx=>?_,z.1.nd⟩,?_⟩⟩
 ·obtain⟨a1,a2,a3⟩:=z.1.fo x hx
  exact⟨a1,a2,by rw[zO (o0 x hx)];exact a3⟩
 ·have e:σ.set i (some (.ref p))=σ:=by
   apply ext_getElem?
   intro j
   rw[ab2]
   split
   ·rename_i hij
    subst hij
    split
    ·exact h1.symm
    ·rename_i hlt
     rw[aaz (by omega)] at h1
     cases h1
   ·rfl
  have q:=z.2.put (s':=.un) (x:=some (.ref p)) (λsl σ O h=>.un h) hs rfl
  rw[e] at q
  have q2:=q.PL (L':=lo F O (upd H p (.lst (ws'.map V.int)))) (H':=upd H p (.lst (ws'.map V.int))) hh
  have hlt:i<sl.length:=by
   cases c:decide (i<sl.length) with
   |true=>exact of_decide_eq_true c
   |false=>rw[aaz (by have:=of_decide_eq_false c;omega)] at hs;cases hs
  have q3:=q2.put (s:=.un) (s':=.nu (RL.mk (p:=p) ws')) (x:=some (.ref p)) (i:=i) (λsl σ O h=>.nu (by
   refine⟨rfl,?_⟩
   rw[uL b0]
   unfold lo
   rw[if_neg hlo',zM]) h) (by rw[ab2,if_pos rfl,if_pos hlt]) rfl
  rw[e,set_set] at q3
  exact q3
end
section
variable{K:PySem.W.Frag}{B:Bs}{sl:SL K}{F H:Hp}{O:Own}{σ:St}{md:Md}{α β S:Type}[Rp K α][Rp K β]{p:Addr}{ws:LI}{te:TE}{t u:TS}
def p7(B:Bs)(p:Addr)(sl:SL K)(t:TS){β:Type}[Rp K β](m:Option (β×LI)):Prop :=
 ∀b ws,m=some (b,ws)->∀(G:Hp)(D:Ends)(σ:St)(H:Hp),Sg B G sl σ H->(∀v H',Same B.H0 H'->H' p=some (.lst (ws.map V.int))->(∃F:Hp,F p=none/\Same F H'/\rp K (dif F B.H0) v b)->D.rt v H')->t D σ H
theorem p7.of{m m':Option (β×LI)}(h:p7 B p sl t m)(e:m=m'):p7 B p sl t m':=e▸h
theorem zNv{m:Option β}(i:Nat)(hs:sl[i]?=some (.nu (RL.mk (p:=p) ws)))(hh:(sl.set i .un).all (λs=>!cP s&&!jr s)=true)(h:Ex B sl .nw te m):p7 B p sl (j4 (uq te) u) (m.bind λb=>some (b,ws)):=λb ws' hb G D σ H s k=>by
 cases m with
 |none=>cases hb
 |some c =>
  obtain⟨rfl,rfl⟩:=adx (aai (show some (c,ws)=some (b,ws') from hb))
  obtain⟨F,O,g,a⟩:=s
  refine h c rfl F O H σ _ a λv F' H' gr r=>?_
  obtain⟨_,h2,_,f0,_⟩:=(a.grow gr).iC hs hh
  exact k v H' gr.ok.h0 h2 ⟨F',f0,gr.ok.fh,r⟩
theorem Mr(hs:sl[i]?=some s):(sl.set i s')[i]?=some s':=by
 have hlt:i<sl.length:=by
  cases c:decide (i<sl.length) with
  |true=>exact of_decide_eq_true c
  |false=>rw[aaz (by have:=of_decide_eq_false c;omega)] at hs;cases hs
 rw[ab2,if_pos rfl,if_pos hlt]
theorem zQ2{s:Slot K}{m:Option (β×LI)}(i:Nat)(hs:sl[i]?=some s)(hh:(sl.set i .un).all (λs=>!cP s&&!jr s)=true)(h:Ey B sl .nw te (λws'=>sl.set i (.nu (RL.mk (p:=p) ws'))) m):p7 B p sl (j4 (uq te) u) m:=λb ws' hb G D σ H s k=>by
 obtain⟨F,O,g,a⟩:=s
 refine h b ws' hb F O H σ _ a λv F' O' H' sf a' r=>?_
 obtain⟨_,h2,_,f0,_⟩:=a'.iC (Mr hs) (by rw[set_set];exact hh)
 exact k v H' a'.1.h0 h2 ⟨F',f0,a'.1.fh,r⟩
theorem JG{f:S->Option (β×LI)}(h1:Sn B sl t L m1)(h2:∀s,p7 B p (L s) u (f s)):p7 B p sl (j4 t u) (m1.bind f):=λa w ha G D σ H q k=>by
 cases m1 with
 |none=>cases ha
 |some s=>exact h1 s rfl G _ σ H q λσ' H' q'=>h2 s a w ha G D σ' H' q' k
theorem CW{c:TT}{n:Option Bool}{m1 m2:Option (β×LI)}(hc:Et B sl c n)(h1:p7 B p sl t m1)(h2:p7 B p sl u m2):p7 B p sl (j4 (ur c t K8) u) (n.bind λb=>if b=true then m1 else m2):=λa w ha G D σ H s k=>by
 cases n with
 |none=>cases ha
 |some b =>
  obtain⟨F,O,g,z⟩:=s
  refine hc b rfl F O H σ _ z λF' H' gr=>?_
  cases b with
  |true=>exact jD (h1 a w (by simpa using ha) G _ σ H' (Sg.grow g z gr) k)
  |false=>exact lA (h2 a w (by simpa using ha) G D σ H' (Sg.grow g z gr) k)
theorem CZ(i:Nat)(hs:sl[i]?=some (.nu (RL.mk (p:=p) ws)))(hh:(sl.set i .un).all (λs=>!cP s&&!jr s)=true):Ey B sl md (HY K "list" N_ (c7 i)) (λws'=>sl.set i (.nu (RL.mk (p:=p) ws'))) (ws.getLast?.bind λy=>some (y,ws.dropLast)):=λb ws' hb F O H σ Q z k=>by
 cases e2:ws.getLast? with
 |none=>rw[e2] at hb;cases hb
 |some y =>
  rw[e2] at hb
  obtain⟨rfl,rfl⟩:=adx (aai (show some (y,ws.dropLast)=some (b,ws') from hb))
  obtain⟨h1,h2,b0,f0,o0,ch⟩:=z.iC hs hh
  refine⟨_,h1,.inl ⟨rfl,_,bw.of h2⟩,p,ws.map V.int,V.int y,rfl,rfl,h2,?_,?_⟩
  ·rw[length_map,getElem?_map,<-List.getLast?_eq_getElem?,e2];rfl
  rw[<-List.map_dropLast]
  exact k _ F O _ (.refl _) (ch ws.dropLast) rfl
theorem C_(i:Nat)(hs:sl[i]?=some (.nu (RL.mk (p:=p) ws)))(hh:(sl.set i .un).all (λs=>!cP s&&!jr s)=true):Ex B sl md (z_ (Iv K) (xG (c7 i) cj)) (some (ws.length:Int)):=λd hd F O H σ Q z k=>by
 cases hd
 obtain⟨h1,h2,_⟩:=z.iC hs hh
 refine⟨_,h1,p,_,rfl,.inl (bw.of h2),k _ F H (.refl z.1) ?_⟩
 rw[length_map]
 rfl
theorem zG7{as:SL K}(k:Nat)(hf:as.all isF=true)(r:Ar F as vs):ak B F L' H (as++replicate k .un) (vs.map some++replicate k none) []:=by
 induction r with
 |nil =>
  show ak _ _ _ _ ([]++_) ([]++_) []
  rw[nil_append,nil_append]
  induction k with
  |zero=>exact .nil
  |succ k ih=>exact .un ih
 |@cons n _ _ _ _ _ _ r _ ih =>
  rw[all_cons,aag] at hf
  cases n with
  |false=>exact .fz r (ih hf.2)
  |true=>exact absurd hf.1 (by simp)
end
section
variable{P:Program}{w:World}{K:PySem.W.Frag}{mg:Str->Option Value}{base:Heap}
theorem zPq{A β:Type}[Rp K β]{as:A->SL K}{fM:LI->A->Option (β×LI)}(F:aY K x qual st f fd)(S:ao N ps (zI st))(hf:∀a,(as a).all isF=true)(hl:∀a,(as a).length+1=ps.length)(hb:∀(cdv:Value) (A:Around) (outer:List Env) (s:Shared) (H:Hp) (E:XK),bJ k (A.deeper (acy qual (zI st) s.heap.objs.size f cdv)) ->
   ∃t,pJ (mY aP P w K mg base N qual (zI st) f cdv A outer s H E).Ao (xX st) t/\∀Fa p ws a,p7 ⟨Fa,del H p⟩ p (.nu (RL.mk (p:=p) ws)::(as a++replicate (N.length-ps.length) .un)) t (fM ws a)) :
  au P w K mg base aP (k+1) f fd ps (JF K as fM) :=
 F.ok S (λvs H Q E h=>by
  obtain⟨p,ws,us,a,b,ws',Fa,rfl,_,_,_,_,r,_⟩:=h
  rw[length_cons,r.len,hl]) λcdv A outer s H vs Q E hr h=>by
  obtain⟨t,pt,q⟩:=hb cdv A outer s H E hr
  refine⟨t,pt,?_⟩
  obtain⟨p,ws,us,a,b,ws',Fa,rfl,hp,fp,sf,hfa,r,kk⟩:=h
  have e:L2.start N (.ref p::us)=some (.ref p)::(us.map some++replicate (N.length-ps.length) none):=by
   unfold L2.start
   rw[length_cons,r.len,hl]
   rfl
  have d0:Same (del H p) H:=λc o e=>by
   unfold del at e
   split at e
   ·cases e
   ·exact e
  have dp:del H p p=none:=by
   unfold del
   rw[if_pos rfl]
  rw[e]
  refine q Fa p ws a b ws' hfa Fa _ _ H ⟨Fa,[],.refl _,⟨sf,d0,λb o h=>.inl h,λx hx=>(by cases hx),(by simp)⟩,.nu ⟨rfl,?_⟩ (zG7 _ (hf a) r)⟩ (λv H' s1 e1 z=>?_)
  ·rw[uL dp]
   unfold lo
   rw[fp]
   exact hp
  ·obtain⟨F2,f2,s2,r2⟩:=z
   refine kk v H' s1 e1 (Rp.mono (λc o e=>?_) r2)
   unfold dif at e ⊢
   by_cases c1:c=p
   ·subst c1
    have e:(match del H c c with|none=>F2 c|some _=>none)=some o:=e
    rw[dp,f2] at e
    cases e
   ·have ed:del H p c=H c:=by
     unfold del
     rw[if_neg c1]
    have e:(match del H p c with|none=>F2 c|some _=>none)=some o:=e
    rw[ed] at e
    show(match H c with|none=>H' c|some _=>none)=some o
    cases hc:H c with
    |none=>rw[hc] at e;exact s2 _ _ e
    |some u=>rw[hc] at e;cases e
end
section
variable{K:PySem.W.Frag}{B:Bs}{sl:SL K}{md:Md}{α β S:Type}[Rp K α][Rp K β]{te:TE}
theorem SJ{L:S->SL K}(n:Bool)(j:Nat)(hs:∀s,∃x,(L s)[j]?=some x/\jl x=false)(h:Ey B sl (dX n) te L m):Sn B sl (lg te (pL j)) (λr:α×S=>(L r.2).set j (.fz n r.1)) m:=λa ha G D σ H s k=>by
 obtain⟨F,O,g,z⟩:=s
 obtain⟨x,h1,h2⟩:=hs a.2
 exact h a.1 a.2 ha F O H σ _ z λv F' O' H' sf z' r=>k _ _ (Sg.set (g.trans sf) z' h1 h2 r)
end
section
variable{K:PySem.W.Frag}{B:Bs}{sl:SL K}{md:Md}{α β S:Type}[Rp K α][Rp K β]{te:TE}{p:Addr}{ws:LI}
structure Fr(p:Addr)(F H F' H':Hp):Prop where
 ff:Same F F'
 hh:∀b o,b≠p->H b=some o->H' b=some o
 nw:∀b,F b=none->H b≠none->F' b=none
theorem Fr.of(g:bC B F H O F' H'):Fr p F H F' H':=⟨g.ff,λb o _ e=>g.hh b o e,g.nw⟩
theorem Fr.refl(F H:Hp):Fr p F H F H:=⟨.refl _,λ_ _ _ e=>e,λ_ h _=>h⟩
theorem Fr.trans(a:Fr p F H F1 H1)(b:Fr p F1 H1 F2 H2)(hp:H1 p≠none):Fr p F H F2 H2 :=
 ⟨a.ff.trans b.ff,λc o n e=>b.hh c o n (a.hh c o n e),λc h1 h2=>b.nw c (a.nw c h1 h2) (by
  by_cases n:c=p
  ·rw[n];exact hp
  ·cases q:H c with
   |none=>exact absurd q h2
   |some o=>rw[a.hh c o n q];intro z;cases z)⟩
def sX(B:Bs)(p:Addr)(sl:SL K)(md:Md)(t:TE){α S:Type}[Rp K α](L:S->SL K)(m:Option (α×S)):Prop :=
 ∀a s,m=some (a,s)->∀(F:Hp)(O:Own)(H:Hp)(σ:St)(Q:VK),At B sl F O H σ->(∀(v:V)(F' H':Hp),Fr p F H F' H'->At B (L s) F' O H' σ->rp K (reg B F' H' md) v a->Q v H')->t σ H Q
theorem sX.ey{L:S->SL K}{m:Option (α×S)}(h:sX B p sl md te L m):Ey B sl md te L m:=λa s e F O H σ Q z k=>h a s e F O H σ Q z λv F' H' f z' r=>k v F' O H' f.ff z' r
theorem SM{A:Type}{as:A->SL K}{f:LI->A->Option (β×LI)}{ma:Option A}(i:Nat)(hs:sl[i]?=some (.nu (RL.mk (p:=p) ws)))(hh:(sl.set i .un).all (λs=>!cP s&&!jr s)=true)(h:Ea B sl .fz ta as ma) :
  sX B p sl md (HB (JF K as f) [] E0 (xG (c7 i) ta)) (λws'=>sl.set i (.nu (RL.mk (p:=p) ws'))) (ma.bind λa=>f ws a):=λb ws' hc F O H σ Q z k=>by
 cases ma with
 |none=>cases hc
 |some a =>
  have hc:f ws a=some (b,ws'):=hc
  obtain⟨h1,_⟩:=z.iC hs hh
  refine⟨_,h1,?_⟩
  refine h a rfl F O H σ _ z λus F' H' gr r=>?_
  obtain⟨_,h2,b0,f0,o0,ch⟩:=(z.grow gr).iC hs hh
  show JF K as f ((.ref p::us)++[]) H' Q E0
  rw[append_nil]
  refine⟨p,ws,us,a,b,ws',F',rfl,h2,f0,gr.ok.fh,hc,r,λv H2 s2 e2 r2=>?_⟩
  have z':=ch ws'
  have s3:Same (upd H' p (.lst (ws'.map V.int))) H2:=λc o e=>by
   by_cases q:c=p
   ·subst q
    rw[zM] at e
    rw[e2]
    exact e
   ·rw[zO q] at e
    refine s2 c o ?_
    unfold del
    rw[if_neg q]
    exact e
  have g2:=z'.1.called s3
  have Rn:Fr p F' H' F' (upd H' p (.lst (ws'.map V.int))):=⟨.refl _,λc o n e=>by rw[zO n];exact e,λ_ h _=>h⟩
  have up:upd H' p (.lst (ws'.map V.int)) p≠none:=by rw[zM];intro q;cases q
  refine k v _ H2 ((Fr.of gr).trans (Rn.trans (.of g2) up) (by rw[h2];intro q;cases q)) (z'.grow g2) ?_
  have d:Same (dif H2 H') (dif H2 (upd H' p (.lst (ws'.map V.int)))):=λc o e=>by
   unfold dif at e ⊢
   by_cases q:c=p
   ·subst q
    rw[h2] at e
    cases e
   ·rw[zO q]
    exact e
  have r3:=Rp.mono (Lq (F:=F') z'.1.h0 s3) (Rp.mono d r2)
  exact match md with
  |.nw=>r3
  |.fz=>Rp.mono aV r3
  |.hp=>Rp.mono (aV.trans g2.ok.fh) r3
theorem V8{A:Type}{as:A->SL K}{f:α×A->Option β}{ma:S->Option A}(h0:sX B p sl .hp te L m)(hL:∀s,∃(i:Nat) (ws:LI),(L s)[i]?=some (.nu (RL.mk (p:=p) ws))/\((L s).set i .un).all (λs=>!cP s&&!jr s)=true)(h:∀s,Ea B (L s) .hp ta as (ma s)) :
  sX B p sl md (HB (cL K false (λx:α×A=>.fz false x.1::as x.2) f) [] E0 (xG te ta)) L (m.bind λr=>(ma r.2).bind λa=>(f (r.1,a)).bind λb=>some (b,r.2)):=λc s hc F O H σ Q z k=>by
 cases m with
 |none=>cases hc
 |some r =>
  obtain⟨a,s'⟩:=r
  have hc:((ma s').bind λx=>(f (a,x)).bind λb=>some (b,s'))=some (c,s):=hc
  cases e1:ma s' with
  |none=>rw[e1] at hc;cases hc
  |some x =>
   rw[e1] at hc
   have hc:((f (a,x)).bind λb=>some (b,s'))=some (c,s):=hc
   cases e2:f (a,x) with
   |none=>rw[e2] at hc;cases hc
   |some b =>
    rw[e2] at hc
    obtain⟨rfl,rfl⟩:=adx (aai (show some (b,s')=some (c,s) from hc))
    refine h0 a s' rfl F O H σ _ z λv F1 H1 fr z1 r1=>?_
    obtain⟨i,w1,i1,i2⟩:=hL s'
    obtain⟨_,hp1,_⟩:=z1.iC i1 i2
    refine h s' x e1 F1 O H1 σ _ z1 λvs F2 H2 gr r2=>?_
    show cL K false (λx:α×A=>.fz false x.1::as x.2) f ((v::vs)++[]) H2 Q E0
    rw[append_nil]
    refine⟨(a,x),b,H2,.refl _,e2,.cons (Rp.mono gr.hh r1) r2,λv2 H3 s3 r3=>?_⟩
    have g2:=gr.ok.called s3
    refine k v2 _ H3 (fr.trans (.of (gr.trans g2)) (by rw[hp1];intro q;cases q)) (z1.grow (gr.trans g2)) ?_
    have r4:=Rp.mono (Lq (F:=F2) gr.ok.h0 s3) r3
    exact match md with
    |.nw=>r4
    |.fz=>Rp.mono aV r4
    |.hp=>Rp.mono (aV.trans g2.ok.fh) r4
end
def j8{α β:Type}(f:LI->α->Option (β×LI)):LI->List α->Option (List β×LI)
 |ws,[]=>some ([],ws)
 |ws,x::xs=>(f ws x).bind λr=>(j8 f r.2 xs).bind λq=>some (r.1::q.1,q.2)
def JH{α β:Type}(f:LI->α->Option (β×LI))(ws:LI)(xs:List α):Option (List β×LI):=if xs.length<cap then j8 f ws xs else none
section
variable{K:PySem.W.Frag}{B:Bs}{sl:SL K}{md:Md}{α β S:Type}[Rp K α][Rp K β]{te:TE}{p:Addr}{ws:LI}{n n':Bool}
def PN(B:Bs)(p:Addr)(sl:SL K)(md:Md)(t:TE){α S:Type}[Rp K α](L:S->SL K)(m:Option (List α×S)):Prop :=
 ∀a s,m=some (a,s)->∀(F:Hp)(O:Own)(H:Hp)(σ:St)(Q:VK),At B sl F O H σ->(∀(q:Addr)(vs:List V)(F' H':Hp),Fr p F H F' H'->At B (L s) F' O H' σ->H' q=none->A2 (rp K (reg B F' H' md)) vs a->Q (.ref q) (upd H' q (.lst vs)))->t σ H Q
theorem At.PX{w2:LI}(z:At B sl F O H σ)(hs:sl[i]?=some (.nu (RL.mk (p:=p) ws)))(hh:(sl.set i .un).all (λs=>!cP s&&!jr s)=true)(fr:Fr p F H F2 H2)(k2:Ok B F2 [] H2)(hp:H2 p=some (.lst (w2.map V.int)))(fp:F2 p=none):At B (sl.set i (.nu (RL.mk (p:=p) w2))) F2 O H2 σ:=by
 obtain⟨h1,h2,b0,f0,o0,_⟩:=z.iC hs hh
 refine⟨⟨k2.fh,k2.h0,k2.fa,λx hx=>?_,z.1.nd⟩,?_⟩
 ·obtain⟨a1,a2,a3⟩:=z.1.fo x hx
  exact⟨fr.nw _ a1 (by rw[a3];intro q;cases q),a2,fr.hh _ _ (o0 x hx) a3⟩
 ·have e:σ.set i (some (.ref p))=σ:=by
   apply ext_getElem?
   intro j
   rw[ab2]
   split
   ·rename_i hij
    subst hij
    split
    ·exact h1.symm
    ·rename_i hlt
     rw[aaz (by omega)] at h1
     cases h1
   ·rfl
  have q:=z.2.put (s':=.un) (x:=some (.ref p)) (λsl σ O h=>.un h) hs rfl
  rw[e] at q
  have q2:=(q.PL (L':=lo F2 O H2) (H':=H2) hh).mono fr.ff (.refl _) (.refl _)
  have q3:=q2.put (s:=.un) (s':=.nu (RL.mk (p:=p) w2)) (x:=some (.ref p)) (i:=i) (λsl σ O h=>.nu (by
   refine⟨rfl,?_⟩
   rw[uL b0]
   unfold lo
   rw[if_neg,hp]
   rw[fp,abg,not_or]
   exact⟨by simp,λq=>by
    obtain⟨x,hx,ex⟩:=any_eq_true.mp q
    exact o0 x hx (by simpa using ex)⟩) h) (Mr hs) rfl
  rw[e,set_set] at q3
  exact q3
theorem zKx{fu:LI->SL K}{Lx:LI->α->SL K}{f:LI->α->Option (β×LI)}(j:Nat)(hs:sl[j]?=some (.nu (RL.mk (p:=p) ws)))(hh:(sl.set j .un).all (λs=>!cP s&&!jr s)=true)(h0:∀(F:Hp) (O:Own) (H:Hp) (σ:St),At B sl F O H σ->ak B F (lo F [] H) H (fu ws) (iW σ no ix) [])(hi:Ei B sl n wi mi)(hg:∀ws,Tg B (fu ws) n g (Lx ws))(hc:∀ws x,Et B (Lx ws x) tc (some true))(he:∀ws x,sX B p (Lx ws x) (dX n') te (λws'=>Lx ws' x) (f ws x))(hle:∀ws x,qy (Lx ws x) (fu ws))(hI:∀ws x,∃jI,(Lx ws x)[jI]?=some (.nu (RL.mk (p:=p) ws))/\((Lx ws x).set jI .un).all (λs=>!cP s&&!jr s)=true) :
  PN B p sl (dX n') (Ln no ix wi g tc te) (λws'=>sl.set j (.nu (RL.mk (p:=p) ws'))) (mi.bind λxs=>JH f ws xs):=λzs wE hz F O H σ Q a k=>by
 cases mi with
 |none=>cases hz
 |some xs =>
  have hz:JH f ws xs=some (zs,wE):=hz
  unfold JH at hz
  split at hz
  case isFalse=>cases hz
  rename_i hcap
  have hcl:=Ac hcap
  refine hi xs rfl F O H σ _ a λJ F' H' gr yl=>?_
  have a':=a.grow gr
  have zl:zs.length=xs.length:=by
   have key:∀(xs:List α)(ws:LI)(zs:List β)(wE:LI),j8 f ws xs=some (zs,wE)->zs.length=xs.length:=by
    intro xs
    induction xs with
    |nil=>intro ws zs wE h;cases h;rfl
    |cons x xs ih =>
     intro ws zs wE h
     unfold j8 at h
     cases e1:f ws x with
     |none=>rw[e1] at h;cases h
     |some r =>
      rw[e1] at h
      have h:((j8 f r.2 xs).bind λq=>some (r.1::q.1,q.2))=some (zs,wE):=h
      cases e2:j8 f r.2 xs with
      |none=>rw[e2] at h;cases h
      |some q =>
       rw[e2] at h
       cases(show some (r.1::q.1,q.2)=some (zs,wE) from h)
       rw[length_cons,length_cons,ih r.2 q.1 q.2 e2]
   exact key xs ws zs wE hz
  refine⟨λi m ys σ2 H2=>m=xs.length-i/\i<=xs.length/\∃(F2:Hp)(wi:LI)(bs cs:List β),j8 f wi (xs.drop i)=some (cs,wE)/\bs++cs=zs/\bs.length=i/\Fr p F' H' F2 H2/\At B (sl.set j (.nu (RL.mk (p:=p) wi))) F2 O H2 σ/\ak B F2 (lo F2 [] H2) H2 (fu wi) σ2 []/\A2 (rp K (reg B F2 H2 (dX n'))) ys bs,
   ⟨xs.length,rfl,aa0 _,F',ws,[],zs,hz,rfl,rfl,.refl _ _,?_,h0 F' O H' σ a',trivial⟩,?_⟩
  ·have e:sl.set j (.nu (RL.mk (p:=p) ws))=sl:=by
    apply ext_getElem?
    intro i
    rw[ab2]
    split
    ·rename_i hij
     subst hij
     split
     ·exact hs.symm
     ·rename_i hlt
      rw[aaz (by omega)] at hs
      cases hs
    ·rfl
   rw[e]
   exact a'
  rintro i m ys σ2 H2 ⟨rfl,hil,F2,wi,bs,cs,hw,ez,bl,V9,at2,s2,r2⟩
  have hyl:ys.length=i:=by rw[r2.len,bl]
  obtain⟨y1,y2⟩:=yl i F2 O H2 V9.ff at2.1
  by_cases hlt:i<xs.length
  ·obtain⟨go,y3⟩:=y2 xs[i] (aad hlt)
   rw[List.drop_eq_getElem_cons hlt] at hw
   unfold j8 at hw
   cases e1:f wi xs[i] with
   |none=>rw[e1] at hw;cases hw
   |some r =>
    rw[e1] at hw
    have hw:((j8 f r.2 (xs.drop (i+1))).bind λq=>some (r.1::q.1,q.2))=some (cs,wE):=hw
    cases e2:j8 f r.2 (xs.drop (i+1)) with
    |none=>rw[e2] at hw;cases hw
    |some q =>
     rw[e2] at hw
     obtain⟨y,w2⟩:=r
     obtain⟨cs',wE'⟩:=q
     obtain⟨rfl,rfl⟩:=adx (aai (show some (y::cs',wE')=some (cs,wE) from hw))
     refine .inr ⟨go,by omega,λys' σ' H4=>∃(F4:Hp),Fr p F' H' F4 H4/\At B (sl.set j (.nu (RL.mk (p:=p) w2))) F4 O H4 σ/\ak B F4 (lo F4 [] H4) H4 (fu w2) σ' []/\A2 (rp K (reg B F4 H4 (dX n'))) ys' (bs++[y]),λys' σ' H4 ⟨F4,z1,z2,z3,z4⟩=>⟨xs.length-(i+1),by omega,rfl,hlt,F4,w2,bs++[y],cs',e2,by rw[append_assoc];exact ez,by rw[length_append,bl];rfl,z1,z2,z3,z4⟩,λv H3 yd=>?_⟩
     obtain⟨F3,g3,r3⟩:=y3 v H3 yd
     have P0:=at2.grow g3
     have U8:At B (fu wi) F3 [] H3 σ2:=⟨g3.ok.nil,s2.mono g3.ff (Uu ⟨g3.ff,g3.hh,g3.ok.nil,g3.nw⟩) g3.hh⟩
     refine hg wi v xs[i] F3 [] H3 σ2 _ U8 r3 λσ4 a4=>?_
     refine hc wi xs[i] true rfl F3 [] H3 σ4 _ a4 λF5 H5 g5=>jD ?_
     have g5':=bC.lift g3.ok g5
     have at5:=P0.grow g5'
     refine he wi xs[i] y w2 e1 F5 [] H5 σ4 _ (a4.grow g5) λu F6 H6 V_ a6 r6=>?_
     obtain⟨_,SN,b5,f5,o5,ch5⟩:=at5.iC (Mr hs) (by rw[set_set];exact hh)
     obtain⟨jI,i1,i2⟩:=hI w2 xs[i]
     obtain⟨_,Wa,_,f6,_⟩:=a6.iC i1 i2
     obtain⟨_,hp2,_⟩:=at2.iC (Mr hs) (by rw[set_set];exact hh)
     obtain⟨_,hp3,_⟩:=P0.iC (Mr hs) (by rw[set_set];exact hh)
     have nn:∀{H:Hp}{w:LI},H p=some (.lst (w.map V.int))->H p≠none:=λe=>by rw[e];intro z;cases z
     have at6:=at5.PX (Mr hs) (by rw[set_set];exact hh) V_ a6.1 Wa f6
     rw[set_set] at at6
     exact⟨F6,V9.trans ((Fr.of g3).trans ((Fr.of g5').trans V_ (nn SN)) (nn hp3)) (nn hp2),at6,a6.2.Y8 (hle w2 xs[i]),(r2.imp λ_ _=>Rp.mono (wK _ (g3.ff.trans (g5.ff.trans V_.ff)))).snoc r6⟩
  ·have e:i=xs.length:=by omega
   subst e
   rw[List.drop_length] at hw
   cases(show some (([]:List β),wi)=some (cs,wE) from hw)
   rw[append_nil] at ez
   subst ez
   exact .inl ⟨y1 (aaf _),by omega,λq hq=>k q ys F2 H2 ((Fr.of gr).trans V9 (by
    obtain⟨_,h2,_⟩:=a'.iC hs hh
    rw[h2];intro q;cases q)) at2 hq r2⟩
end
section
variable{K:PySem.W.Frag}{B:Bs}{sl:SL K}{md:Md}{α β S:Type}[Rp K α][Rp K β]{te t1 t2:TE}{p:Addr}
theorem PN.eyn{L:S->SL K}{m:Option (List α×S)}(hL:∀s,∃(i:Nat) (ws:LI),(L s)[i]?=some (.nu (RL.mk (p:=p) ws))/\((L s).set i .un).all (λs=>!cP s&&!jr s)=true)(h:PN B p sl md te L m):sX B p sl md te L m:=λa s e F O H σ Q z k=>h a s e F O H σ Q z λq vs F' H' fr z' hq r=>by
 have g2:=bC.new z'.1 hq (.lst vs)
 obtain⟨i,w1,i1,i2⟩:=hL s
 obtain⟨_,hp1,_⟩:=z'.iC i1 i2
 exact k _ _ _ (fr.trans (.of g2) (by rw[hp1];intro q;cases q)) (z'.grow g2) ⟨q,vs,rfl,Lr z'.1 hq md,r.imp λ_ _=>Rp.mono (xH g2 md)⟩
theorem zR8{n:Bool}{L:S->SL K}{m1:Option α}{m2:Option (β×S)}{i:Nat}{ws:LI}(hs:sl[i]?=some (.nu (RL.mk (p:=p) ws)))(hh:(sl.set i .un).all (λs=>!cP s&&!jr s)=true)(hL:∀s,∃(i:Nat) (ws:LI),(L s)[i]?=some (.nu (RL.mk (p:=p) ws))/\((L s).set i .un).all (λs=>!cP s&&!jr s)=true)(h1:Ex B sl (dX n) t1 m1)(h2:sX B p sl (dX n) t2 L m2):sX B p sl (dX n) (A_ (xG t1 (xG t2 cj))) L (m1.bind λa=>m2.bind λr=>some ((a,r.1),r.2)):=λc s hc F O H σ Q z k=>by
 cases m1 with
 |none=>cases hc
 |some a =>
  cases m2 with
  |none=>cases hc
  |some r =>
   obtain⟨b,s'⟩:=r
   obtain⟨rfl,rfl⟩:=adx (aai (show some ((a,b),s')=some (c,s) from hc))
   refine h1 a rfl F O H σ _ z λv F1 H1 g r1=>?_
   obtain⟨_,hp1,_⟩:=(z.grow g).iC hs hh
   refine h2 b s' rfl F1 O H1 σ _ (z.grow g) λw F2 H2 fr z2 r2=>?_
   obtain⟨i',w1,i1,i2⟩:=hL s'
   obtain⟨_,hp2,_⟩:=z2.iC i1 i2
   refine⟨by show 2<=sizeLine;decide,λq hq=>?_⟩
   have g3:=bC.new z2.1 hq (.tup [v,w])
   exact k _ _ _ ((Fr.of g).trans (fr.trans (.of g3) (by rw[hp2];intro q;cases q)) (by rw[hp1];intro q;cases q)) (z2.grow g3) ⟨q,v,w,rfl,Lr z2.1 hq _,Rp.mono (wK _ (fr.ff.trans g3.ff)) r1,Rp.mono (wK _ g3.ff) r2⟩
theorem zLp{L:S->SL K}(i:Nat)(hs:sl[i]?=some (.ow n xs))(hh:sl.all (λs=>!cP s)=true)(hL:∀s,(L s)[i]?=some (.ow n xs)/\(L s).all (λs=>!cP s)=true)(h:sX B p sl (dX n) te L m) :
  Sn B sl (K9 (Lk K "list" Uc (c7 i) (xG te cj))) (λr:List α×S=>(L r.2).set i (.ow n r.1)) (m.bind λr=>(push xs r.1).bind λys=>some (ys,r.2)):=λys ha G D σ H s k=>by
 cases m with
 |none=>cases ha
 |some r =>
  obtain⟨a,s'⟩:=r
  have ha:((push xs a).bind λys=>some (ys,s'))=some ys:=ha
  cases e1:push xs a with
  |none=>rw[e1] at ha;cases ha
  |some ys' =>
   rw[e1] at ha
   cases(show some (ys',s')=some ys from ha)
   unfold push at e1
   split at e1
   case isFalse=>cases e1
   rename_i hl
   cases e1
   obtain⟨F,O,g,z⟩:=s
   obtain⟨q,vs,h1,h2,h3,_⟩:=z.chg hs hh
   refine⟨_,h1,.inl ⟨rfl,_,bw.of h2⟩,?_⟩
   refine h a s' rfl F O H σ _ z λv F' H' fr z' r=>?_
   obtain⟨q',vs',h1',h2',h3',h4'⟩:=z'.chg (hL s').1 (hL s').2
   cases h1.symm.trans h1'
   obtain⟨O',z2⟩:=h4' (vs'++[v]) (xs++[a]) (h3'.snoc r)
   exact⟨q,vs',v,rfl,rfl,h2',Ac (by rw[h3'.len];exact hl),k _ _ ⟨F',O',g.trans fr.ff,z2⟩⟩
end
section
variable{K:PySem.W.Frag}{B:Bs}{sl:SL K}{F H:Hp}{O:Own}{σ:St}
abbrev P_:Slot K->Slot K
 |@Slot.fz _ n _ i a=>@Slot.fz _ n _ i a
 |@Slot.nu _ _ i a=>@Slot.nu _ _ i a
 |_=>.un
theorem JK:Same (lo F O H) (lo F [] H):=λb o h=>by
 unfold lo at h ⊢
 split at h
 case isTrue=>cases h
 rename_i e
 rw[if_neg]
 ·exact h
 ·intro q
  apply e
  rw[abg] at q ⊢
  rcases q with q|q
  ·exact .inl q
  ·simp at q
theorem ak.Wb(a:At B sl F O H σ)(j:Nat)(hs:sl[j]?=some s):∀{sl':SL K}{σ':St},ak B F (lo F [] H) H sl' σ' []->ak B F (lo F [] H) H (P_ s::sl') ((σ[j]?).getD none::σ') []:=λ{sl' σ'} h=>by
 cases s with
 |un=>exact .un h
 |fz n b=>obtain⟨v,h1,h2⟩:=a.2.pP hs;rw[h1];exact .fz h2 h
 |hs b=>exact .un h
 |nu b=>obtain⟨v,h1,h2⟩:=a.2.vq hs;rw[h1];exact .nu (Rp.mono (wB JK) h2) h
 |ow n xs=>exact .un h
 |od kvs=>exact .un h
def wz(sl:SL K)(n:Nat)(ix:List Nat):SL K:=replicate n .un++ix.map λj=>P_ ((sl[j]?).getD .un)
theorem zQy(a:At B sl F O H σ)(n:Nat):∀(ix:List Nat),(∀j∈ix,j<sl.length)->ak B F (lo F [] H) H (wz sl n ix) (iW σ n ix) []:=λix hix=>by
 unfold wz iW
 induction n with
 |zero =>
  show ak B F _ H ([]++_) ([]++_) []
  rw[nil_append,nil_append]
  induction ix with
  |nil=>exact .nil
  |cons j ix ih =>
   rw[map_cons,map_cons]
   have hl:=hix j mem_cons_self
   have hj:sl[j]?=some sl[j]:=aad hl
   have z:=ak.Wb a j hj (ih λk hk=>hix k (mem_cons_of_mem _ hk))
   rw[show(sl[j]?).getD .un=sl[j] by rw[hj]<;>rfl]
   exact z
 |succ n ih=>exact .un ih
theorem zTh{ix:List Nat}(hix:(ix.all λj=>decide (j<sl.length))=true)(hI:fu=wz sl no ix):∀(F:Hp)(O:Own)(H:Hp)(σ:St),At B sl F O H σ->ak B F (lo F [] H) H fu (iW σ no ix) []:=λF O H σ a=>by
 rw[hI]
 exact zQy a no ix λj hj=>by simpa using(all_eq_true.mp hix) j hj
end
structure Gv(α β γ:Type) where
 a:α
 b:β
 c:γ
section
variable{K:PySem.W.Frag}{B:Bs}{sl:SL K}{md:Md}{n:Bool}{α β γ S:Type}[Rp K α][Rp K β][Rp K γ]{te t1 t2 t3:TE}
instance:Rp K (Gv α β γ):=⟨λF v x=>∃p u w z,v=.ref p/\F p=some (.tup [u,w,z])/\rp K F u x.a/\rp K F w x.b/\rp K F z x.c,λs ⟨p,u,w,z,h1,h2,h3,h4,h5⟩=>⟨p,u,w,z,h1,s _ _ h2,Rp.mono s h3,Rp.mono s h4,Rp.mono s h5⟩⟩
instance:Nn K (Gv α β γ):=⟨λ⟨_,_,_,_,h,_⟩=>by rw[h];intro e;cases e⟩
theorem Dd{m1:Option α}{m2:Option β}{m3:Option γ}(h1:Ex B sl md t1 m1)(h2:Ex B sl md t2 m2)(h3:Ex B sl md t3 m3):Ex B sl md (A_ (xG t1 (xG t2 (xG t3 cj)))) (m1.bind λa=>m2.bind λb=>m3.bind λc=>some (Gv.mk a b c)):=λd hd F O H σ Q s kk=>by
 cases m1 with
 |none=>cases hd
 |some a =>
  cases m2 with
  |none=>cases hd
  |some b =>
   cases m3 with
   |none=>cases hd
   |some c =>
    cases(show some (Gv.mk a b c)=some d from hd)
    refine h1 a rfl F O H σ _ s λv F1 H1 g1 r1=>?_
    refine h2 b rfl F1 O H1 σ _ (s.grow g1) λw F2 H2 g2 r2=>?_
    refine h3 c rfl F2 O H2 σ _ ((s.grow g1).grow g2) λu F3 H3 g3 r3=>?_
    refine⟨by show 3<=sizeLine;decide,λp hp=>?_⟩
    have g4:=bC.new g3.ok hp (.tup [v,w,u])
    exact kk _ _ _ (g1.trans (g2.trans (g3.trans g4))) ⟨p,v,w,u,rfl,Lr g3.ok hp md,Rp.mono (xH (g2.trans (g3.trans g4)) md) r1,Rp.mono (xH (g3.trans g4) md) r2,Rp.mono (xH g4 md) r3⟩
theorem Df(i j l:Nat)(hs:sl[i]?=some s)(ho:jl s=false)(hs':∀x:Slot K,(sl.set i x)[j]?=some s')(ho':jl s'=false)(hs2:∀x y:Slot K,((sl.set i x).set j y)[l]?=some s2)(ho2:jl s2=false) :
  Tg B sl n (Aq K 3 (La (pL i) (La (pL j) (La (pL l) Hg)))) (λx:Gv α β γ=>((sl.set i (.fz n x.a)).set j (.fz n x.b)).set l (.fz n x.c)):=λv x F O H σ Q a r k=>by
 obtain⟨p,w1,w2,w3,rfl,h1,h2,h3,h4⟩:=r
 refine⟨p,[w1,w2,w3],rfl,.inl (.inl (Y6 a.1 h1)),rfl,w1,[w2,w3],rfl,w2,[w3],rfl,w3,[],rfl,rfl,?_⟩
 exact k _ ⟨a.1,((a.2.put (s':=.fz n x.a) (λ_ _ _ z=>.fz h2 z) hs ho).put (s':=.fz n x.b) (λ_ _ _ z=>.fz h3 z) (hs' _) ho').put (λ_ _ _ z=>.fz h4 z) (hs2 _ _) ho2⟩
theorem JL{L2:S->α->SL K}(h:Ey B sl (dX n) te L m)(hg:∀s,Tg B (L s) n g (L2 s)):Sn B sl (lg te g) (λr:α×S=>L2 r.2 r.1) m:=λa ha G D σ H s k=>by
 obtain⟨F,O,g0,z⟩:=s
 exact h a.1 a.2 ha F O H σ _ z λv F' O' H' sf z' r=>hg a.2 v a.1 F' O' H' σ _ z' r λσ' z2=>k _ _ ⟨F',O',g0.trans sf,z2⟩
end
section
variable{K:PySem.W.Frag}{B:Bs}{sl:SL K}{md:Md}{te:TE}
theorem JM{mi:Option LI}(h:Ex B sl .hp te mi):Eo B sl md (Ln 1 [] (CT K (xG te cj)) (pL 0) vm (c7 0)) (mi.bind λus=>if us.length<cap then some us.reverse else none):=λzs hz F O H σ Q a k=>by
 cases mi with
 |none=>cases hz
 |some us =>
  have hz:(if us.length<cap then some us.reverse else none)=some zs:=hz
  split at hz
  case isFalse=>cases hz
  rename_i hcap
  cases hz
  refine h us rfl F O H σ _ a λv F' H' gr r=>?_
  obtain⟨p,vs,rfl,h1,h2⟩:=r
  have h1:H' p=some (.lst vs):=h1
  have ev:vs=us.map V.int:=A2.qF h2
  have hl:vs.length=us.length:=h2.len
  refine⟨p,vs,rfl,bw.of h1,zSe (xs:=vs) (λi ys σ2 H2=>H2=H'/\(∃v,σ2=[v])/\ys=vs.reverse.take i) ⟨rfl,⟨none,rfl⟩,rfl⟩ (λi ys σ2 H2 hi ⟨e1,_,e2⟩=>?_) (by rw[hl];exact Ac hcap) (λi x ys σ2 H2 hx hi ⟨e1,⟨v,e2⟩,e3⟩=>?_) (λys σ2 H2 ⟨e1,_,e3⟩ q hq=>?_)⟩
  ·subst e1
   exact⟨bw.of h1,by rw[e2,length_take];exact Nat.min_le_left _ _⟩
  ·subst e1
   subst e2
   subst e3
   refine(jD ?_:if true=true then _ else c7 0 [some x] H2 (λ_ _=>False))
   refine⟨x,rfl,rfl,⟨some x,rfl⟩,?_⟩
   rw[take_add_one,List.getElem?_reverse hi,hx]
   rfl
  ·subst e1
   subst e3
   refine k q _ F' H2 gr hq ?_
   rw[<-List.length_reverse,take_length,ev]
   exact(A2.of_map (R:=rp K (reg B F' H2 md)) (f:=V.int) (λ_=>rfl) us).rev
end
def JN(us:LI):Option LI:=if us.length<cap then some us.reverse else none
section
variable{K:PySem.W.Frag}{B:Bs}{sl sl2:SL K}{md:Md}{te:TE}{t:TS}{β:Type}[Rp K β]{p:Addr}
theorem zR9{m:Option Og}{mi:Option Int}{ti:TE}(h:Ex B sl .hp te m)(hi:Ex B sl .hp ti mi):Eo B sl md (Yo (HS K) te Yn (Fq ti)) (m.bind λxs=>mi.bind λi=>some (sH xs.ns none (some i))):=λc hc F O H σ Q s k=>by
 obtain⟨xs,i,hx,hi',hc⟩:=rZ hc
 cases hc
 refine h xs hx F O H σ _ s λv F' H' g r=>?_
 refine hi i hi' F' O H' σ _ (s.grow g) λu F2 H2 g2 r2=>?_
 have r2:u=.int i:=r2
 obtain⟨p,rfl,z1⟩:=r
 exact⟨i,r2,p,xs.ns.map V.int,rfl,g2.hh.seq z1,λl hl=>k l _ F2 H2 (g.trans g2) hl ((A2.of_map (R:=rp K (reg B F2 H2 md)) (f:=V.int) (λ_=>rfl) xs.ns).cut _ _)⟩
theorem Dg(h:Ex B sl .hp te mi):Eo B sl md (Ln 1 [] (CT K (xG te cj)) (pL 0) vm (c7 0)) (mi.bind λus=>JN us):=JM h
theorem JQ(K:PySem.W.Frag){X:Cx}(hm:X.mg "reversed" = none)(ha:PA X [a] ta)(h:X.K=K:=by rfl)(hg:Gl X "reversed":=by rfl)(hs:starEach [a] X.env=[(false,eval a X.env)]:=by rfl):PI X tg (.Call (.Name "reversed" q) [a] [] pos) (CT K ta):=by subst h;exact JB hg hm ha hs
theorem Dh{m:Option (β×LI)}(l:Le sl sl2)(h:p7 B p sl2 t m):p7 B p sl t m:=λa w ha G D σ H q k=>h a w ha G D σ H (q.le l) k
theorem JR{m:Option (β×LI)}(sl2:SL K)(h:p7 B p sl2 t m)(e:sl=sl2:=by rfl):p7 B p sl t m:=e▸h
end
def top(i:Nat):Stmt:=PySem.Challenge.pw_treesay_k42_next_sayings.main.body.getD i (.Pass ⟨0,0,0,0⟩)
abbrev fH:Stmt:=top 2
abbrev oM:Stmt:=top 3
abbrev lE:Stmt:=top 4
abbrev lF:Stmt:=top 5
abbrev jE:Stmt:=top 7
abbrev gF:Stmt:=top 9
abbrev i_:Stmt:=top 10
abbrev fJ:Stmt:=top 11
abbrev dY:Stmt:=top 12
abbrev jF:Stmt:=top 14
abbrev dZ:Stmt:=top 15
abbrev oO:Stmt:=top 16
abbrev gG:Stmt:=top 17
abbrev fK:Stmt:=top 18
abbrev lG:Stmt:=top 19
abbrev qI:Stmt:=top 20
abbrev s_alive:Stmt:=top 21
abbrev jt:Stmt:=xA (top 23) 0
abbrev jG:Stmt:=xA (top 24) 0
abbrev jH:Stmt:=xA (top 25) 0
abbrev lH:Stmt:=xA (top 26) 0
abbrev j9:Stmt:=xA (top 27) 0
abbrev lJ:Stmt:=xA (top 28) 0
abbrev j_:Stmt:=xA (top 29) 0
abbrev ju:Stmt:=xA (top 30) 0
abbrev iD:Stmt:=xA (top 31) 0
abbrev iG:Stmt:=xA (top 32) 0
abbrev iH:Stmt:=xA (top 33) 0
abbrev iI:Stmt:=xA (top 34) 0
abbrev gk:Stmt:=xA (top 35) 0
abbrev gn:Stmt:=xA (top 36) 0
abbrev iJ:Stmt:=xA (top 37) 0
abbrev gH:Stmt:=top 39
abbrev bO:Stmt:=top 43
abbrev jJ:Stmt:=top 44
abbrev d_:Stmt:=top 45
abbrev oR:Stmt:=top 46
abbrev oV:Stmt:=top 47
abbrev jc:Stmt:=top 58
abbrev dz:Stmt:=top 59
abbrev eF:Stmt:=top 60
abbrev jK:Stmt:=top 61
abbrev eG:Stmt:=top 62
abbrev fL:Stmt:=top 63
abbrev lK:Stmt:=top 64
abbrev SQ:Stmt:=top 65
abbrev w5:Stmt:=xA (top 66) 0
abbrev dF:Stmt:=xA (top 66) 1
abbrev cF:Stmt:=xA (top 66) 2
abbrev cR:Stmt:=xA (top 66) 3
abbrev cT:Stmt:=xA (top 66) 4
abbrev cG:Stmt:=xA (top 66) 6
abbrev lM:Stmt:=top 68
abbrev lN:Stmt:=top 69
abbrev lO:Stmt:=top 70
abbrev jL:Stmt:=top 71
abbrev oW:Stmt:=top 72
abbrev gJ:Stmt:=top 73
abbrev lQ:Stmt:=top 74
abbrev jM:Stmt:=top 75
abbrev oX:Stmt:=top 76
abbrev nG:Stmt:=top 77
section
variable{P:Program}{w:World}{K:PySem.W.Frag}{mg:Str->Option Value}{base:Heap}
def Wc(K:PySem.W.Frag):Sp:=λvs H Q _=>∃(a:Addr)(bs:List Addr)(xss:List LI),vs=[.ref a]/\bw K H a (bs.map V.ref)/\pQ K H bs xss/\xss.length<=60/\RJ xss.length xss /\
 ∀(r:Addr)(cs:List Addr)(H':Hp),Same H H'->H r=none->H' r=some (.lst (cs.map V.ref))->cs.length=xss.length->pR H' cs (src xss)->(∀c∈cs,H c=none)->Q (.ref r) H'
theorem w6:ao ["steps","sources","stand","targets","target"] ["steps"] (zI SQ):=⟨rfl,rfl,rfl,by decide +kernel,rfl,by decide +kernel,by decide +kernel⟩
theorem Wd:(["stand"]:List Str).Nodup:=by decide +kernel
theorem JT{cs:List Addr}(nd:cs.Nodup){i j:Nat}{c:Addr}(h1:cs[i]?=some c)(h2:cs[j]?=some c):i=j:=by
 obtain⟨k1,e1⟩:=aao.mp h1
 obtain⟨k2,e2⟩:=aao.mp h2
 exact(getElem_inj nd).mp (e1.trans e2.symm)
theorem pR.put{JV:Nat->LI}(r:pR H cs row)(nd:cs.Nodup)(hc:cs[j]?=some c)(e:JV j=xs)(e':∀k,k≠j->JV k=row k):pR (upd H c (.lst (xs.map V.int))) cs JV:=λk d hd=>by
 by_cases hk:k=j
 ·subst hk
  rw[hc] at hd
  cases hd
  rw[zM,e]
 ·rw[zO (λz=>hk (JT nd hd (by rw[z];exact hc))),e' k hk]
  exact r k d hd
theorem Qa(F:aY K "sources_of" "sources_of" SQ f fd)(B:Bl K mg):au P w K mg base aP 1 f fd ["steps"] (Wc K):=by
 refine F.ok w6 (λvs H Q E h=>?_) (λcdv A outer s H vs Q E hr h=>?_)
 ·obtain⟨a,bs,xss,rfl,_⟩:=h
  rfl
 obtain⟨a,bs,xss,rfl,hS,hR,m5,hV,q⟩:=h
 have hbl:(bs.map V.ref).length=xss.length:=by rw[length_map];exact hR.1
 refine⟨_,zB (vP (i:=1) (own:=["stand"]) (ix:=[]) w6.nd rfl rfl rfl rfl rfl (Tz (pv 0)) (λC s H fp=>yA (i:=0) Wd rfl (Or.inl rfl)) (λC s H fp=>xU) (λC s H fp=>wY zE))
  (zB (xB aak rfl (YQ rfl B.enum (zA (pv 0) zE)) (EY rfl (yK (yA (i:=2) w6.nd rfl (Or.inl rfl)) (yK (yA (i:=3) w6.nd rfl (Or.inl rfl)) uW)))
   (xI (xB aak rfl (Tz (pv 3)) (yA (i:=4) w6.nd rfl (Or.inl rfl))
    (xI (zZ (Ft aaq aav aaw xO (xQ Ys (pv 1) (pv 4) (λ_ _=>rfl)) (zA (pv 2) zE)))))))
  (xI (zV (pv 1)))),?_⟩
 refine⟨_,rfl,a,rfl,⟨_,hS⟩,zPu (K:=K) (a:=a) (xs:=bs.map V.ref) (λi ys σ H2=>∃(cs:List Addr)(v:Option V),ys=cs.map V.ref/\σ=[v]/\Same H H2/\News H H2 cs (replicate i [])/\cs.length=i)
  ⟨[],none,rfl,rfl,Same.refl H,News.nil,rfl⟩ (λi ys σ H2 _ ⟨cs,v,e,_,s2,_,hi⟩=>⟨s2.seq hS,by rw[e,length_map,hi];exact aaf _⟩) (Yz (by omega)) ?_ ?_⟩
 ·rintro i y ys σ H2 hi ⟨cs,v,rfl,rfl,s2,hN,Wf⟩
  refine zRt ?_
  refine⟨(by show 0<=sizeLine;decide),λl hl'=>?_⟩
  refine⟨cs++[l],_,by rw[map_append]<;>rfl,rfl,s2.trans (aL hl' _),?_,by rw[length_append,Wf]<;>rfl⟩
  have e:replicate (i+1) ([]:List V)=replicate i []++[[]]:=List.replicate_succ'
  rw[e]
  exact hN.snoc s2 hl'
 rintro ys σ H2 ⟨cs,v,rfl,rfl,s2,hN,Wf⟩ r hr0
 have hcl:cs.length=xss.length:=by rw[Wf,hbl]
 have s3:Same H (upd H2 r (.lst (cs.map V.ref))):=s2.trans (aL hr0 _)
 have hrH:H r=none:=s2.free hr0
 have nrc:r∉cs:=hN.Ov hr0
 have R0:pR (upd H2 r (.lst (cs.map V.ref))) cs (src (xss.take 0)):=λj c hc=>by
  obtain⟨xs,h1,h2⟩:=hN.at_ j c hc
  have e:xs=[]:=by
   rw[getElem?_replicate] at h1
   split at h1
   ·exact(aai h1).symm
   ·cases h1
  subst e
  rw[zO (λz=>nrc (by rw[<-z];exact mem_of_getElem? hc)),h2]
  rfl
 refine⟨_,rfl,a,rfl,⟨_,s3.seq hS⟩,zR7 (K:=K) (a:=a) (xs:=bs.map V.ref) (λi σ H4=>∃u v t,σ=[some (.ref a),some (.ref r),u,v,t]/\Same H H4/\H4 r=some (.lst (cs.map V.ref))/\pR H4 cs (src (xss.take i)))
  ⟨none,none,none,rfl,s3,zM,R0⟩ (λi σ H4 _ ⟨_,_,_,_,s4,_⟩=>s4.seq hS) ?_ ?_⟩
 ·rintro i x t σ H4 hi ht ⟨u,v,t',rfl,s4,Wg,R4⟩
  obtain⟨b,rfl,hb⟩:=IK hi
  obtain⟨xs,hx,hsq⟩:=hR.2 i b hb
  obtain⟨ne,nd,len,vr⟩:=hV.2 xs (mem_of_getElem? hx)
  have il:=yT hx
  have st:Same H4 (upd H4 t (.tup [.int i,.ref b])):=aL ht _
  have s5:=s4.trans st
  refine⟨t,_,rfl,jV.of zM,rfl,_,_,rfl,_,_,rfl,rfl,?_⟩
  refine⟨_,rfl,b,rfl,⟨_,s5.seq hsq⟩,zR6 (K:=K) (a:=b) (xs:=xs.map V.int) (λm σ H6=>∃tt,σ=[some (.ref a),some (.ref r),some (.int i),some (.ref b),tt]/\Same H H6/\H6 r=some (.lst (cs.map V.ref)) /\
   pR H6 cs λj=>src (xss.take i) j++(if(j:Int)∈xs.take m then[(i:Int)] else[])) ⟨t',rfl,s5,st _ _ Wg,λj c hc=>?_⟩ (λm σ H6 _ ⟨_,_,s6,_⟩=>s6.seq hsq) ?_ ?_⟩
  ·rw[st _ _ (R4 j c hc)]
   simp
  ·rintro m y σ H6 hm ⟨tt,rfl,s6,SX,R6⟩
   obtain⟨z,rfl,hz⟩:=int_at hm
   obtain⟨z0,z1⟩:=vr z (mem_of_getElem? hz)
   have zl:z.toNat<cs.length:=by rw[hcl];omega
   have hc:cs[z.toNat]?=some cs[z.toNat]:=aad zl
   have hz':((z.toNat:Nat):Int)=z:=by omega
   have hrow:=R6 z.toNat _ hc
   have hno:¬z∈xs.take m:=Zd nd hz
   simp only[hz',if_neg hno,append_nil] at hrow
   have hix:bF (cs.map V.ref) z=some (.ref cs[z.toNat]):=by
    have:=Bj (B_ hc)
    rw[hz'] at this
    exact this
   refine⟨_,rfl,_,rfl,r,_,z,_,rfl,rfl,bw.of SX,hix,.inl ⟨rfl,_,bw.of hrow⟩,_,rfl,_,_,_,rfl,rfl,hrow,?_,?_⟩
   ·have:=BZ (xss.take i) z.toNat
    rw[length_take] at this
    refine Yz ?_
    rw[length_map]
    omega
   ·have cH:H cs[z.toNat]=none:=hN.new _ (mem_of_getElem? hc)
    have cr:r≠cs[z.toNat]:=λe=>nrc (by rw[e];exact mem_of_getElem? hc)
    refine⟨_,rfl,s6.put cH _,by rw[zO cr];exact SX,?_⟩
    have em:(src (xss.take i) z.toNat).map V.int++[V.int i]=(src (xss.take i) z.toNat++[(i:Int)]).map V.int:=by rw[map_append]<;>rfl
    rw[em]
    refine R6.put hN.nd hc ?_ λk hk=>?_
    ·rw[hz',if_pos ((vY hz).mpr (.inr rfl))]
    ·have hk':((k:Int)∈xs.take (m+1))=((k:Int)∈xs.take m):=by
      rw[vY hz]
      refine propext ⟨λh=>h.elim id λe=>absurd (by omega) hk,.inl⟩
     simp only[hk']
  ·rintro σ H6 ⟨tt,rfl,s6,SX,R6⟩
   refine⟨_,_,_,rfl,s6,SX,λj c hc=>?_⟩
   rw[R6 j c hc,zQq hx j,length_map,take_length]
 ·rintro σ H4 ⟨u,v,t,rfl,s4,Wg,R4⟩
  refine⟨_,rfl,?_⟩
  have e:xss.take (bs.map V.ref).length=xss:=by rw[hbl];exact take_length
  rw[e] at R4
  exact q r cs H4 s4 hrH Wg hcl R4 hN.new
end
structure xg(K:PySem.W.Frag)(x qual:Str)(st:Stmt)(dV:Value)(f:Addr)(fd:FuncData):Prop where
 ex:∃(oc:Value)(od:Option Addr)(kV doc pm:Value)(an:Option Addr)(cdv ct:Value)(osl:Array (Option Value)),
  fd=fnOf x qual (vQ st) (xX st) (zI st) dV kV doc pm an cdv ct/\K.lookup f=some ⟨oc,od,.func fd,osl⟩/\codeIn K cdv qual=true
 kp:keepIn K (.ref f)=true
section
variable{P:Program}{w:World}{K:PySem.W.Frag}{mg:Str->Option Value}{base:Heap}
theorem xg.ok(F:xg K x qual st dV f fd)(S:ao N ps (zI st))(len:∀vs H Q E,sp vs H Q E->vs.length=ps.length)(hbody:∀(cdv:Value) (A:Around) (outer:List Env) (s:Shared) (H:Hp) (vs:List V) (Q:VK) (E:XK),bJ k (A.deeper (acy qual (zI st) s.heap.objs.size f cdv))->sp vs H Q E ->
   ∃t,pJ (mY aP P w K mg base N qual (zI st) f cdv A outer s H E).Ao (xX st) t/\t { nx:=λ_ H'=>Q .non H',rt:=Q } (start N vs) H):au P w K mg base aP (k+1) f fd ps sp:=by
 obtain⟨oc,od,kV,doc,pm,an,cdv,ct,osl,rfl,lk,hcd⟩:=F.ex
 refine Fo lk hcd S len λA outer s H vs Q E hr hsp=>?_
 obtain⟨t,h,q⟩:=hbody cdv A outer s H vs Q E hr hsp
 exact⟨t,h.Ao,q⟩
structure Cl(K:PySem.W.Frag)(mg:Str->Option Value)(C:Addr):Prop where
 cl:Cls K C
 nS:aX K C "steps"
 nM:aX K C "marks"
 nF:aX K C "fair"
 nB:aX K C "sources"
 mgC:mg "Machine" = some (.ref C)
theorem JW:ao ["self","steps","marks","fair","given_marks","given_fair"] ["self","steps","marks","fair"] (zI w5):=⟨rfl,rfl,rfl,by decide +kernel,rfl,by decide +kernel,by decide +kernel⟩
theorem Qc:(["name","stands"]:List Str).Nodup:=by decide +kernel
theorem bN(f:Str)(v:V):∀fs:List (Str×V),(aF f v fs).length<=fs.length+1
 |[]=>aaf _
 | (g,x)::r=>by
  unfold aF
  split
  ·exact abt _
  ·exact abj (bN f v r)
theorem zNy:∀{vs:List V}{xss:List LI},A2 (rp K R) vs xss->∃bs:List Addr,vs=bs.map V.ref/\pQ K R bs xss
 |[],[],_=>⟨[],rfl,rfl,λi b h=>by simp at h⟩
 |v::vs,xs::xss,h=>by
  obtain⟨bs,e,h1,h2⟩:=zNy h.2
  obtain⟨p,ws,rfl,h3,h4⟩:=h.1
  have h5:ws=xs.map V.int:=h4.vals
  refine⟨p::bs,by rw[e,map_cons],by rw[length_cons,length_cons,h1],λi b hb=>?_⟩
  cases i with
  |zero=>simp at hb;subst hb;exact⟨xs,rfl,bw.of (by rw[h3,h5])⟩
  |succ i=>exact h2 i b (by simpa using hb)
 |[],_::_,h=>h.elim
 |_::_,[],h=>h.elim
def Ms(xss:LLI):Option LLI:=if xss.length<=60/\RJ xss.length xss then some (srcs xss) else none
theorem JX(F:aY K "sources_of" "sources_of" SQ f fd)(B:Bl K mg):au P w K mg base aP 1 f fd ["steps"] (cL K false (λa:LLI×Unit=>([.fz false a.1]:SL K)) λa=>Ms a.1):=by
 refine(Qa F B).imp λvs H Q E h=>?_
 obtain⟨⟨xss,⟨⟩⟩,b,Fa,s,hb,r,q⟩:=h
 have hb:Ms xss=some b:=hb
 unfold Ms at hb
 split at hb
 case isFalse=>cases hb
 rename_i hv
 cases hb
 cases r with
 |cons r1 r2 =>
  cases r2
  obtain⟨a,ws,rfl,h1,h2⟩:=r1
  obtain⟨bs,rfl,h3⟩:=zNy (K:=K) h2
  refine⟨a,bs,xss,rfl,bw.of (s _ _ h1),h3.same s,hv.1,hv.2,λrr cs H' s' hr e l R N=>q _ _ s' ?_⟩
  refine⟨rr,_,rfl,by show dif H' H rr=_;rw[uL hr];exact e,?_⟩
  exact Ca (K:=K) l R λc hc o e=>by show dif H' H c=_;rw[uL (N c hc)];exact e
theorem JZ{fS:LLI->Option Unit}{fM:Af->Int->Option Unit}{fF:LLI->Int->Option Unit}{fC fO:LLI->Option LLI}(F:xg K "__init__" "Machine.__init__" w5 dV f fd)(T:Cl K mg C)(B:Bl K mg)(CS:cu P w K mg base k "check_steps" ["steps"] (cL K false (λa:LLI×Unit=>([.fz false a.1]:SL K)) λa=>fS a.1))(CM:cu P w K mg base k "check_marks" ["marks","many"] (cL K false (λa:Af×Int×Unit=>([.fz false a.1,.fz false a.2.1]:SL K)) λa=>fM a.1 a.2.1))(CF:cu P w K mg base k "check_fair" ["fair","many"] (cL K false (λa:LLI×Int×Unit=>([.fz false a.1,.fz false a.2.1]:SL K)) λa=>fF a.1 a.2.1))(CC:cu P w K mg base k "copied" ["lists"] (cL K false (λa:LLI×Unit=>([.fz false a.1]:SL K)) λa=>fC a.1))(CO:cu P w K mg base k "sources_of" ["steps"] (cL K false (λa:LLI×Unit=>([.fz false a.1]:SL K)) λa=>fO a.1)) :
  au P w K mg base aP (k+1) f fd ["self","steps","marks","fair"] (O9 K C (RT C fS fM fF fC fO)):=by
 refine F.ok JW (λvs H Q E h=>?_) (λcdv A outer s H vs Q E hr h=>?_)
 ·obtain⟨p,dx,vS,vM,vF,xss,mo,fo,M,rfl,_⟩:=h
  rfl
 obtain⟨p,dx,vS,vM,vF,xss,mo,fo,M,rfl,hp,rS,rM,rF,hm,q⟩:=h
 unfold RT at hm
 obtain⟨⟨⟩,e1,hm⟩:=uY hm
 obtain⟨⟨⟩,e2,hm⟩:=uY hm
 obtain⟨⟨⟩,e3,hm⟩:=uY hm
 obtain⟨a,e4,hm⟩:=uY hm
 obtain⟨b,e5,hm⟩:=uY hm
 obtain⟨c,e6,hm⟩:=uY hm
 obtain⟨d,e7,hm⟩:=uY hm
 cases hm
 refine⟨_,zB (Tt (i:=4) JW.nd rfl (Or.inl rfl) (XC (Eu (QK (pv 2))) (wY zE) (pv 2)))
  (zB (Tt (i:=5) JW.nd rfl (Or.inl rfl) (XC (Eu (QK (pv 3))) (wY zE) (pv 3)))
  (zB (zZ (yH CS hr (zA (pv 1) zE)))
  (zB (zZ (yH CM hr (zA (pv 4) (zA (zS (su K) rfl B.len aa7 (zA (pv 1) zE)) zE))))
  (zB (zZ (yH CF hr (zA (pv 5) (zA (zS (su K) rfl B.len aa7 (zA (pv 1) zE)) zE))))
  (zB (z6 (pv 0) (yH CC hr (zA (pv 1) zE)) rfl)
  (zB (z6 (pv 0) (wL (own:=["name","stands"]) (ix:=[]) rfl rfl rfl (yD K (pv 4)) (λC s H fp=>Ut (K:=K) (n:=2) rfl rfl (yK (yA (i:=0) Qc rfl (Or.inl rfl)) (yK (yA (i:=1) Qc rfl (Or.inl rfl)) uW))) (λC s H fp=>xU)
   (λC s H fp=>Fi (zA (pv 0) (zA (uD (IW K) rfl B.list FT (zA (pv 1) zE)) zE)))) rfl)
  (zB (z6 (pv 0) (yH CC hr (zA (pv 5) zE)) rfl)
  (xI (z6 (pv 0) (yH CO hr (zA (X5 (pv 0) rfl) zE)) rfl))))))))),?_⟩
 have sg0:Sg (K:=K) ⟨hid H p,H⟩ (hid H p) [.fz false (gC.mk ():gC p),.fz false xss,.fz false mo,.fz false fo,.un,.un] [some (.ref p),some vS,some vM,some vF,none,none] H :=
  ⟨hid H p,[],.refl _,ZK (.fz (show rp K _ _ (gC.mk ():gC p) from rfl) (.fz rS (.fz rM (.fz rF (.un (.un .nil))))))⟩
 refine(Sn.of (yN false 4 rfl rfl (Y4 (b_ (md:=.hp) (RG (zD 2 rfl))) (Eo.ex (vT (α:=Str×LI))) (Vb (yF 2 rfl)))) (show _=some (mo.getD []) by cases mo<;>rfl)) _ rfl (hid H p) _ _ H sg0 λσ1 H1 sg1=>?_
 refine(Sn.of (yN false 5 rfl rfl (Y4 (b_ (md:=.hp) (RG (zD 3 rfl))) (Eo.ex (vT (α:=LI))) (Vb (yF 3 rfl)))) (show _=some (fo.getD []) by cases fo<;>rfl)) _ rfl (hid H p) _ _ H1 sg1 λσ2 H2 sg2=>?_
 refine(Sn.of (Ls (md:=.hp) (zQ (f:=λa:LLI×Unit=>fS a.1) (zH (zD 1 rfl) zP))) (show _=fS xss from rfl)) () e1 (hid H p) _ _ H2 sg2 λσ3 H3 sg3=>?_
 refine(Sn.of (Ls (md:=.hp) (zQ (f:=λa:Af×Int×Unit=>fM a.1 a.2.1) (zH (zD 4 rfl) (zH (Ex.sc (md:=.hp) (tX (zD 1 rfl))) zP)))) (show _=fM (mo.getD []) (xss.length:Int) from rfl)) () e2 (hid H p) _ _ H3 sg3 λσ4 H4 sg4=>?_
 refine(Sn.of (Ls (md:=.hp) (zQ (f:=λa:LLI×Int×Unit=>fF a.1 a.2.1) (zH (zD 5 rfl) (zH (Ex.sc (md:=.hp) (tX (zD 1 rfl))) zP)))) (show _=fF (fo.getD []) (xss.length:Int) from rfl)) () e3 (hid H p) _ _ H4 sg4 λσ5 H5 sg5=>?_
 obtain⟨F5,O5,g5,k5,s5⟩:=sg5
 have s5:ak (K:=K) ⟨hid H p,H⟩ F5 (lo F5 O5 H5) H5 [.fz false (gC.mk ():gC p),.fz false xss,.fz false mo,.fz false fo,.fz false (mo.getD []),.fz false (fo.getD [])] σ5 O5:=s5
 cases s5 with|fz r0 s5 =>
 cases s5 with|fz r1 s5 =>
 cases s5 with|fz r2 s5 =>
 cases s5 with|fz r3 s5 =>
 cases s5 with|fz r4 s5 =>
 cases s5 with|fz r5 s5 =>
 cases s5
 rename_i v0 v1 v2 v3 v4 v5
 have r0:v0=.ref p:=r0
 subst r0
 have hF:Same F5 (hid H5 p):=λb o e=>by
  by_cases z:b=p
  ·subst z
   rcases k5.fa b o e with z|z
   ·have z:hid H b b=some o:=z
    rw[LQ] at z
    cases z
   ·have z:H b=none:=z
    rw[hp] at z
    cases z
  ·rw[Jm z];exact k5.fh b o e
 have r1:rp K (hid H5 p) v1 xss:=Rp.mono hF r1
 have r2:rp K (hid H5 p) v2 mo:=Rp.mono hF r2
 have r3:rp K (hid H5 p) v3 fo:=Rp.mono hF r3
 have r4:rp K (hid H5 p) v4 (mo.getD []):=Rp.mono hF r4
 have r5:rp K (hid H5 p) v5 (fo.getD []):=Rp.mono hF r5
 have Wh:Same H H5:=k5.h0
 have SN:H5 p=some (.ins C dx []):=Wh _ _ hp
 refine⟨_,rfl,(xss,()),a,H5,.refl _,e4,.cons (Rp.mono O_ r1) .nil,λy1 H6 s6 t1=>?_⟩
 have t1:rp K (dif H6 H5) y1 a:=t1
 have Wa:=s6 _ _ SN
 refine⟨_,rfl,p,C,dx,[],rfl,Wa,T.cl,T.nS,(by show 0<1000;decide),?_⟩
 have f1:=Rp.mono (RV (H:=H) (p:=p) (λb o _ e=>Wh b o e) (by rw[SN];intro z;cases z)) t1
 have kp6:∀b o,b≠p->H b=some o->(upd H6 p (.ins C dx (aF "steps" y1 []))) b=some o:=λb o n e=>by rw[zO n];exact s6 _ _ (Wh _ _ e)
 have h6:Same (hid H5 p) (hid (upd H6 p (.ins C dx (aF "steps" y1 []))) p):=by rw[Gh];exact LR s6
 have E2:Ex (K:=K) ⟨hid (upd H6 p (.ins C dx (aF "steps" y1 []))) p,upd H6 p (.ins C dx (aF "steps" y1 []))⟩ [.fz false (gC.mk ():gC p),.fz false xss,.fz false mo,.fz false fo,.fz false (mo.getD []),.fz false (fo.getD [])] .nw _ _ :=
  (yS (n:=false) (fu:=[.un,.un]) (no:=2) (ix:=[]) rfl rfl (yE (yF 4 rfl)) (Fz 0 1 rfl rfl (λ_=>rfl) rfl) (λx=>uK) (λx=>Y5 (zF 0 rfl) (Iw (zD 1 rfl)).ex) (λx=>qy.un (qy.un qy.nil))).ex
 refine E2 b e5 (hid (upd H6 p (.ins C dx (aF "steps" y1 []))) p) [] _ _ _ (ZK (.fz (show rp K _ _ (gC.mk ():gC p) from rfl) (.fz (Rp.mono h6 r1) (.fz (Rp.mono h6 r2) (.fz (Rp.mono h6 r3) (.fz (Rp.mono h6 r4) (.fz (Rp.mono h6 r5) .nil))))))) λy2 F7 H7 g7 t2=>?_
 have s7:=g7.hh
 have t2:rp K (dif H7 (upd H6 p (.ins C dx (aF "steps" y1 [])))) y2 b:=Rp.mono (wB g7.ok.fh) t2
 have hp7:H7 p=some (.ins C dx (aF "steps" y1 [])):=s7 _ _ zM
 refine⟨_,rfl,p,C,dx,_,rfl,hp7,T.cl,T.nM,(by show 1<1000;decide),?_⟩
 have f2:=Rp.mono (RV (H:=H) (p:=p) kp6 (by rw[zM];intro z;cases z)) t2
 have kp7:∀b o,b≠p->H b=some o->(upd H7 p (.ins C dx (aF "marks" y2 (aF "steps" y1 [])))) b=some o:=λb o n e=>by rw[zO n];exact s7 _ _ (kp6 _ _ n e)
 have h7:Same (hid (upd H6 p (.ins C dx (aF "steps" y1 []))) p) (hid (upd H7 p (.ins C dx (aF "marks" y2 (aF "steps" y1 [])))) p):=by rw[Gh (H:=H7)];exact LR s7
 refine⟨_,rfl,(fo.getD [],()),c,_,.refl _,e6,.cons (Rp.mono (h6.trans (h7.trans O_)) r5) .nil,λy3 H8 s8 t3=>?_⟩
 have t3:rp K (dif H8 (upd H7 p (.ins C dx (aF "marks" y2 (aF "steps" y1 []))))) y3 c:=t3
 have hp8:H8 p=some (.ins C dx (aF "marks" y2 (aF "steps" y1 []))):=s8 _ _ zM
 have l2:(aF "marks" y2 (aF "steps" y1 [])).length<1000:=by
  have a1:=bN "marks" y2 (aF "steps" y1 [])
  have a2:=bN "steps" y1 []
  have a3:([]:List (Str×V)).length=0:=rfl
  omega
 refine⟨_,rfl,p,C,dx,_,rfl,hp8,T.cl,T.nF,l2,?_⟩
 have f3:=Rp.mono (RV (H:=H) (p:=p) kp7 (by rw[zM];intro z;cases z)) t3
 have kp8:∀b o,b≠p->H b=some o->(upd H8 p (.ins C dx (aF "fair" y3 (aF "marks" y2 (aF "steps" y1 []))))) b=some o:=λb o n e=>by rw[zO n];exact s8 _ _ (kp7 _ _ n e)
 have h8:Same (hid (upd H7 p (.ins C dx (aF "marks" y2 (aF "steps" y1 [])))) p) (hid (upd H8 p (.ins C dx (aF "fair" y3 (aF "marks" y2 (aF "steps" y1 []))))) p):=by rw[Gh (H:=H8)];exact LR s8
 have lk:(aF "fair" y3 (aF "marks" y2 (aF "steps" y1 []))).lookup ("steps":Str)=some y1:=by
  rw[zJ,if_neg (by decide +kernel),zJ,if_neg (by decide +kernel),zJ,if_pos rfl]
 have d1:Same (dif (hid H6 p) (hid H p)) (hid (upd H8 p (.ins C dx (aF "fair" y3 (aF "marks" y2 (aF "steps" y1 []))))) p):=aV.trans ((by rw[Gh];exact .refl _:Same (hid H6 p) (hid (upd H6 p (.ins C dx (aF "steps" y1 []))) p)).trans (h7.trans h8))
 refine⟨_,rfl,p,C,dx,_,_,rfl,zM,T.cl,T.nS,lk,(a,()),d,_,.refl _,e7,.cons (Rp.mono (d1.trans O_) f1) .nil,λy4 H9 s9 t4=>?_⟩
 have t4:rp K (dif H9 (upd H8 p (.ins C dx (aF "fair" y3 (aF "marks" y2 (aF "steps" y1 [])))))) y4 d:=t4
 have hp9:H9 p=some (.ins C dx (aF "fair" y3 (aF "marks" y2 (aF "steps" y1 [])))):=s9 _ _ zM
 have l3:(aF "fair" y3 (aF "marks" y2 (aF "steps" y1 []))).length<1000:=by
  have a0:=bN "fair" y3 (aF "marks" y2 (aF "steps" y1 []))
  have a1:=bN "marks" y2 (aF "steps" y1 [])
  have a2:=bN "steps" y1 []
  have a3:([]:List (Str×V)).length=0:=rfl
  omega
 refine⟨_,rfl,p,C,dx,_,rfl,hp9,T.cl,T.nB,l3,?_⟩
 have f4:=Rp.mono (RV (H:=H) (p:=p) kp8 (by rw[zM];intro z;cases z)) t4
 have kp9:∀b o,b≠p->H b=some o->(upd H9 p (.ins C dx (aF "sources" y4 (aF "fair" y3 (aF "marks" y2 (aF "steps" y1 [])))))) b=some o:=λb o n e=>by rw[zO n];exact s9 _ _ (kp8 _ _ n e)
 have u9:Same (hid H9 p) (upd H9 p (.ins C dx (aF "sources" y4 (aF "fair" y3 (aF "marks" y2 (aF "steps" y1 [])))))):=(by rw[Gh];exact .refl _:Same (hid H9 p) (hid (upd H9 p (.ins C dx (aF "sources" y4 (aF "fair" y3 (aF "marks" y2 (aF "steps" y1 [])))))) p)).trans O_
 have u8:Same (hid H8 p) (hid H9 p):=(by rw[Gh];exact .refl _:Same (hid H8 p) (hid (upd H8 p (.ins C dx (aF "fair" y3 (aF "marks" y2 (aF "steps" y1 []))))) p)).trans (LR s9)
 have u7:Same (hid H7 p) (hid H8 p):=(by rw[Gh];exact .refl _:Same (hid H7 p) (hid (upd H7 p (.ins C dx (aF "marks" y2 (aF "steps" y1 [])))) p)).trans (LR s8)
 have u6:Same (hid H6 p) (hid H7 p):=(by rw[Gh];exact .refl _:Same (hid H6 p) (hid (upd H6 p (.ins C dx (aF "steps" y1 []))) p)).trans (LR s7)
 refine q _ kp9 ⟨p,dx,aF "sources" y4 (aF "fair" y3 (aF "marks" y2 (aF "steps" y1 []))),y1,y2,y3,y4,rfl,?_,?_,Rp.mono (wB (u6.trans (u7.trans (u8.trans u9)))) f1,?_,Rp.mono (wB (u7.trans (u8.trans u9))) f2,?_,Rp.mono (wB (u8.trans u9)) f3,?_,Rp.mono (wB u9) f4,?_⟩
 ·rw[uL LQ];exact zM
 ·rw[zJ,if_neg (by decide +kernel)];exact lk
 ·rw[zJ,if_neg (by decide +kernel),zJ,if_neg (by decide +kernel),zJ,if_pos rfl]
 ·rw[zJ,if_neg (by decide +kernel),zJ,if_pos rfl]
 ·rw[zJ,if_pos rfl]
 ·intro g hg
  simp only[Vc,mem_cons,List.not_mem_nil,or_false] at hg
  rcases hg with rfl|rfl|rfl|rfl|rfl|rfl<;>(rw[zJ,if_neg (by decide +kernel),zJ,if_neg (by decide +kernel),zJ,if_neg (by decide +kernel),zJ,if_neg (by decide +kernel)];rfl)
end
end Ts
namespace Sy
open PySem L2
abbrev Wi:Stmt:=Ts.jt
abbrev Wj:Stmt:=Ts.jG
abbrev Wk:Stmt:=Ts.jH
abbrev J0:Stmt:=Ts.lH
abbrev xq:Stmt:=Ts.j9
abbrev J2:Stmt:=Ts.lJ
abbrev Wm:Stmt:=Ts.iD
abbrev Wn:Stmt:=Ts.iG
abbrev Wo:Stmt:=Ts.gk
abbrev Wq:Stmt:=Ts.gn
abbrev Wr:Stmt:=Ts.iJ
abbrev xu:Stmt:=Ts.j_
abbrev Ws:Stmt:=Ts.ju
abbrev Wt:Stmt:=Ts.iH
abbrev Wu:Stmt:=Ts.iI
section
variable{P:Program}{w:World}{K:PySem.W.Frag}{mg:Str->Option Value}{base:Heap}
theorem zQ0:ao ["self","word","parts"] ["self","word","parts"] (zI Wi):=⟨rfl,rfl,rfl,by decide +kernel,rfl,by decide +kernel,by decide +kernel⟩
theorem zOm(F:aY K "__init__" "Saying.__init__" Wi f fd):au P w K mg base aP 1 f fd ["self","word","parts"] (spS K):=by
 refine F.ok zQ0 (λvs H Q E h=>?_) (λcdv A outer s H vs Q E hr h=>?_)
 ·obtain⟨p,C,dx,x,y,rfl,_⟩:=h
  rfl
 obtain⟨p,C,dx,x,y,rfl,hp,T,q⟩:=h
 refine⟨_,zB (z6 (pv 0) (pv 1) rfl) (xI (z6 (pv 0) (pv 2) rfl)),?_⟩
 refine⟨_,rfl,_,rfl,p,C,dx,[],rfl,hp,T.cl,T.nW,(by show 0<1000;decide),_,rfl,_,rfl,p,C,dx,_,rfl,zM,T.cl,T.nP,(by show 1<1000;decide),?_⟩
 exact q _ ((Kp.put p H _).trans (Kp.put p _ _)) zM
theorem Di:ao ["self","word","part"] ["self","word","part"] (zI Wj):=⟨rfl,rfl,rfl,by decide +kernel,rfl,by decide +kernel,by decide +kernel⟩
theorem zRp(F:aY K "__init__" "OfOne.__init__" Wj f fd)(mD:mg "Saying" = some (.ref D))(cD:pY K D "__init__" g)(G:au P w K mg base aP 1 g gd ["self","word","parts"] (spS K))(bG:Binds K gd ["self","word","parts"] []) :
  au P w K mg base aP 2 f fd ["self","word","part"] (qH K):=by
 refine F.ok Di (λvs H Q E h=>?_) (λcdv A outer s H vs Q E hr h=>?_)
 ·obtain⟨p,C,dx,x,v,rfl,_⟩:=h
  rfl
 obtain⟨p,C,dx,x,v,rfl,hp,T,q⟩:=h
 refine⟨_,zB (zZ (uS rfl mD cD G hr bG .nil uP (zA (pv 0) (zA (pv 1) (zA (Fi (zA (pv 2) zE)) zE))))) (xI (z6 (pv 0) (pv 2) rfl)),?_⟩
 refine⟨_,rfl,_,rfl,_,rfl,(by show 1<=sizeLine;decide),λt ht=>?_⟩
 have hp1:=aL ht (.tup [v]) _ _ hp
 refine⟨p,C,dx,_,_,rfl,hp1,T,λH' k1 e1=>?_⟩
 have pt:t≠p:=(zL hp ht).symm
 refine⟨_,rfl,_,rfl,p,C,dx,_,rfl,e1,T.cl,T.n1,aan (Sh x t) (by decide),?_⟩
 exact q t _ (((Kp.of (aL ht _)).trans k1).trans (Kp.put p _ _)) ht (by rw[zO pt];exact k1 _ _ pt zM) zM
theorem Dj:ao ["self","word","left","right"] ["self","word","left","right"] (zI Wk):=⟨rfl,rfl,rfl,by decide +kernel,rfl,by decide +kernel,by decide +kernel⟩
theorem zRo(F:aY K "__init__" "OfTwo.__init__" Wk f fd)(mD:mg "Saying" = some (.ref D))(cD:pY K D "__init__" g)(G:au P w K mg base aP 1 g gd ["self","word","parts"] (spS K))(bG:Binds K gd ["self","word","parts"] []) :
  au P w K mg base aP 2 f fd ["self","word","left","right"] (wk K):=by
 refine F.ok Dj (λvs H Q E h=>?_) (λcdv A outer s H vs Q E hr h=>?_)
 ·obtain⟨p,C,dx,x,v,u,rfl,_⟩:=h
  rfl
 obtain⟨p,C,dx,x,v,u,rfl,hp,T,q⟩:=h
 refine⟨_,zB (zZ (uS rfl mD cD G hr bG .nil uP (zA (pv 0) (zA (pv 1) (zA (Fi (zA (pv 2) (zA (pv 3) zE))) zE))))) (zB (z6 (pv 0) (pv 2) rfl) (xI (z6 (pv 0) (pv 3) rfl))),?_⟩
 refine⟨_,rfl,_,rfl,_,rfl,_,rfl,(by show 2<=sizeLine;decide),λt ht=>?_⟩
 have hp1:=aL ht (.tup [v,u]) _ _ hp
 refine⟨p,C,dx,_,_,rfl,hp1,T,λH' k1 e1=>?_⟩
 have pt:t≠p:=(zL hp ht).symm
 refine⟨_,rfl,_,rfl,p,C,dx,_,rfl,e1,T.cl,T.nL,aan (Sh x t) (by decide),?_⟩
 refine⟨_,rfl,_,rfl,p,C,dx,_,rfl,zM,T.cl,T.nR,aan (aas (bN "left" v _) (abj (Sh x t))) (by decide),?_⟩
 exact q t _ ((((Kp.of (aL ht _)).trans k1).trans (Kp.put p _ _)).trans (Kp.put p _ _)) ht (by rw[zO pt,zO pt];exact k1 _ _ pt zM) zM
theorem Qd:ao ["self"] ["self"] (zI J0):=⟨rfl,rfl,rfl,by decide +kernel,rfl,by decide +kernel,by decide +kernel⟩
theorem J3(F:aY K "__init__" "All.__init__" J0 f fd)(T:gD K C)(mD:mg "Saying" = some (.ref D))(cD:pY K D "__init__" g)(G:au P w K mg base aP 1 g gd ["self","word","parts"] (spS K))(bG:Binds K gd ["self","word","parts"] []) :
  au P w K mg base aP 2 f fd ["self"] (PJ C):=by
 refine F.ok Qd (λvs H Q E h=>?_) (λcdv A outer s H vs Q E hr h=>?_)
 ·obtain⟨p,dx,rfl,_⟩:=h
  rfl
 obtain⟨p,dx,rfl,hp,q⟩:=h
 refine⟨_,xI (zZ (uS rfl mD cD G hr bG .nil uP (zA (pv 0) (zA uR (zA (Fi zE) zE))))),?_⟩
 refine⟨_,rfl,(by show 0<=sizeLine;decide),λt ht=>?_⟩
 have hp1:=aL ht (.tup []) _ _ hp
 have pt:t≠p:=(zL hp ht).symm
 exact⟨p,C,dx,_,_,rfl,hp1,T,λH' k1 e1=>q t H' ((Kp.of (aL ht _)).trans k1) ht (k1 _ _ pt zM) e1⟩
theorem J4:ao ["self","name"] ["self","name"] (zI xq):=⟨rfl,rfl,rfl,by decide +kernel,rfl,by decide +kernel,by decide +kernel⟩
theorem Dk(F:aY K "__init__" "Mark.__init__" xq f fd)(T:gD K C)(mD:mg "Saying" = some (.ref D))(cD:pY K D "__init__" g)(G:au P w K mg base aP 1 g gd ["self","word","parts"] (spS K))(bG:Binds K gd ["self","word","parts"] []) :
  au P w K mg base aP 2 f fd ["self","name"] (JC C):=by
 refine F.ok J4 (λvs H Q E h=>?_) (λcdv A outer s H vs Q E hr h=>?_)
 ·obtain⟨p,dx,x,rfl,_⟩:=h
  rfl
 obtain⟨p,dx,x,rfl,hp,q⟩:=h
 refine⟨_,zB (zZ (uS rfl mD cD G hr bG .nil uP (zA (pv 0) (zA (pv 1) (zA (Fi zE) zE))))) (xI (z6 (pv 0) (pv 1) rfl)),?_⟩
 refine⟨_,rfl,_,rfl,(by show 0<=sizeLine;decide),λt ht=>?_⟩
 have hp1:=aL ht (.tup []) _ _ hp
 have pt:t≠p:=(zL hp ht).symm
 refine⟨p,C,dx,_,_,rfl,hp1,T,λH' k1 e1=>?_⟩
 refine⟨_,rfl,_,rfl,p,C,dx,_,rfl,e1,T.cl,T.nN,aan (Sh x t) (by decide),?_⟩
 exact q t _ (((Kp.of (aL ht _)).trans k1).trans (Kp.put p _ _)) ht (by rw[zO pt];exact k1 _ _ pt zM) zM
end
section
variable{P:Program}{w:World}{K:PySem.W.Frag}{mg:Str->Option Value}{base:Heap}
theorem Qe:ao ["self","part"] ["self","part"] (zI J2):=⟨rfl,rfl,rfl,by decide +kernel,rfl,by decide +kernel,by decide +kernel⟩
theorem J5(F:aY K "__init__" "Not.__init__" J2 f fd)(T:gD K C)(mD:mg "OfOne" = some (.ref D))(cD:pY K D "__init__" g)(G:au P w K mg base aP 2 g gd ["self","word","part"] (qH K))(bG:Binds K gd ["self","word","part"] []) :
  au P w K mg base aP 3 f fd ["self","part"] (pZ C "not"):=by
 refine F.ok Qe (λvs H Q E h=>?_) (λcdv A outer s H vs Q E hr h=>?_)
 ·obtain⟨p,dx,c,rfl,_⟩:=h
  rfl
 obtain⟨p,dx,c,rfl,hp,q⟩:=h
 refine⟨_,xI (zZ (uS rfl mD cD G hr bG .nil uP (zA (pv 0) (zA uR (zA (pv 1) zE))))),?_⟩
 exact⟨_,rfl,_,rfl,p,C,dx,_,_,rfl,hp,T,λq0 H' k1 f0 e1 e2=>q q0 H' k1 f0 e1 e2⟩
theorem zLs:ao ["self","part"] ["self","part"] (zI Wm):=⟨rfl,rfl,rfl,by decide +kernel,rfl,by decide +kernel,by decide +kernel⟩
theorem zI4(F:aY K "__init__" "SomeNext.__init__" Wm f fd)(T:gD K C)(mD:mg "OfOne" = some (.ref D))(cD:pY K D "__init__" g)(G:au P w K mg base aP 2 g gd ["self","word","part"] (qH K))(bG:Binds K gd ["self","word","part"] []) :
  au P w K mg base aP 3 f fd ["self","part"] (pZ C "somenext"):=by
 refine F.ok zLs (λvs H Q E h=>?_) (λcdv A outer s H vs Q E hr h=>?_)
 ·obtain⟨p,dx,c,rfl,_⟩:=h
  rfl
 obtain⟨p,dx,c,rfl,hp,q⟩:=h
 refine⟨_,xI (zZ (uS rfl mD cD G hr bG .nil uP (zA (pv 0) (zA uR (zA (pv 1) zE))))),?_⟩
 exact⟨_,rfl,_,rfl,p,C,dx,_,_,rfl,hp,T,λq0 H' k1 f0 e1 e2=>q q0 H' k1 f0 e1 e2⟩
theorem zLv:ao ["self","part"] ["self","part"] (zI Wn):=⟨rfl,rfl,rfl,by decide +kernel,rfl,by decide +kernel,by decide +kernel⟩
theorem zI7(F:aY K "__init__" "EachNext.__init__" Wn f fd)(T:gD K C)(mD:mg "OfOne" = some (.ref D))(cD:pY K D "__init__" g)(G:au P w K mg base aP 2 g gd ["self","word","part"] (qH K))(bG:Binds K gd ["self","word","part"] []) :
  au P w K mg base aP 3 f fd ["self","part"] (pZ C "eachnext"):=by
 refine F.ok zLv (λvs H Q E h=>?_) (λcdv A outer s H vs Q E hr h=>?_)
 ·obtain⟨p,dx,c,rfl,_⟩:=h
  rfl
 obtain⟨p,dx,c,rfl,hp,q⟩:=h
 refine⟨_,xI (zZ (uS rfl mD cD G hr bG .nil uP (zA (pv 0) (zA uR (zA (pv 1) zE))))),?_⟩
 exact⟨_,rfl,_,rfl,p,C,dx,_,_,rfl,hp,T,λq0 H' k1 f0 e1 e2=>q q0 H' k1 f0 e1 e2⟩
theorem zHc:ao ["self","part"] ["self","part"] (zI Wo):=⟨rfl,rfl,rfl,by decide +kernel,rfl,by decide +kernel,by decide +kernel⟩
theorem zGf(F:aY K "__init__" "SomeAlways.__init__" Wo f fd)(T:gD K C)(mD:mg "OfOne" = some (.ref D))(cD:pY K D "__init__" g)(G:au P w K mg base aP 2 g gd ["self","word","part"] (qH K))(bG:Binds K gd ["self","word","part"] []) :
  au P w K mg base aP 3 f fd ["self","part"] (pZ C "somealways"):=by
 refine F.ok zHc (λvs H Q E h=>?_) (λcdv A outer s H vs Q E hr h=>?_)
 ·obtain⟨p,dx,c,rfl,_⟩:=h
  rfl
 obtain⟨p,dx,c,rfl,hp,q⟩:=h
 refine⟨_,xI (zZ (uS rfl mD cD G hr bG .nil uP (zA (pv 0) (zA uR (zA (pv 1) zE))))),?_⟩
 exact⟨_,rfl,_,rfl,p,C,dx,_,_,rfl,hp,T,λq0 H' k1 f0 e1 e2=>q q0 H' k1 f0 e1 e2⟩
theorem zHd:ao ["self","part"] ["self","part"] (zI Wq):=⟨rfl,rfl,rfl,by decide +kernel,rfl,by decide +kernel,by decide +kernel⟩
theorem zGg(F:aY K "__init__" "EachAlways.__init__" Wq f fd)(T:gD K C)(mD:mg "OfOne" = some (.ref D))(cD:pY K D "__init__" g)(G:au P w K mg base aP 2 g gd ["self","word","part"] (qH K))(bG:Binds K gd ["self","word","part"] []) :
  au P w K mg base aP 3 f fd ["self","part"] (pZ C "eachalways"):=by
 refine F.ok zHd (λvs H Q E h=>?_) (λcdv A outer s H vs Q E hr h=>?_)
 ·obtain⟨p,dx,c,rfl,_⟩:=h
  rfl
 obtain⟨p,dx,c,rfl,hp,q⟩:=h
 refine⟨_,xI (zZ (uS rfl mD cD G hr bG .nil uP (zA (pv 0) (zA uR (zA (pv 1) zE))))),?_⟩
 exact⟨_,rfl,_,rfl,p,C,dx,_,_,rfl,hp,T,λq0 H' k1 f0 e1 e2=>q q0 H' k1 f0 e1 e2⟩
theorem zLt:ao ["self","part"] ["self","part"] (zI Wr):=⟨rfl,rfl,rfl,by decide +kernel,rfl,by decide +kernel,by decide +kernel⟩
theorem zI5(F:aY K "__init__" "SomeEver.__init__" Wr f fd)(T:gD K C)(mD:mg "OfOne" = some (.ref D))(cD:pY K D "__init__" g)(G:au P w K mg base aP 2 g gd ["self","word","part"] (qH K))(bG:Binds K gd ["self","word","part"] []) :
  au P w K mg base aP 3 f fd ["self","part"] (pZ C "someever"):=by
 refine F.ok zLt (λvs H Q E h=>?_) (λcdv A outer s H vs Q E hr h=>?_)
 ·obtain⟨p,dx,c,rfl,_⟩:=h
  rfl
 obtain⟨p,dx,c,rfl,hp,q⟩:=h
 refine⟨_,xI (zZ (uS rfl mD cD G hr bG .nil uP (zA (pv 0) (zA uR (zA (pv 1) zE))))),?_⟩
 exact⟨_,rfl,_,rfl,p,C,dx,_,_,rfl,hp,T,λq0 H' k1 f0 e1 e2=>q q0 H' k1 f0 e1 e2⟩
theorem J6:ao ["self","left","right"] ["self","left","right"] (zI xu):=⟨rfl,rfl,rfl,by decide +kernel,rfl,by decide +kernel,by decide +kernel⟩
theorem Dl(F:aY K "__init__" "Both.__init__" xu f fd)(T:gD K C)(mD:mg "OfTwo" = some (.ref D))(cD:pY K D "__init__" g)(G:au P w K mg base aP 2 g gd ["self","word","left","right"] (wk K))(bG:Binds K gd ["self","word","left","right"] []) :
  au P w K mg base aP 3 f fd ["self","left","right"] (wu C "both"):=by
 refine F.ok J6 (λvs H Q E h=>?_) (λcdv A outer s H vs Q E hr h=>?_)
 ·obtain⟨p,dx,c,d,rfl,_⟩:=h
  rfl
 obtain⟨p,dx,c,d,rfl,hp,q⟩:=h
 refine⟨_,xI (zZ (uS rfl mD cD G hr bG .nil uP (zA (pv 0) (zA uR (zA (pv 1) (zA (pv 2) zE)))))),?_⟩
 exact⟨_,rfl,_,rfl,_,rfl,p,C,dx,_,_,_,rfl,hp,T,λq0 H' k1 f0 e1 e2=>q q0 H' k1 f0 e1 e2⟩
theorem zQ1:ao ["self","left","right"] ["self","left","right"] (zI Ws):=⟨rfl,rfl,rfl,by decide +kernel,rfl,by decide +kernel,by decide +kernel⟩
theorem zOn(F:aY K "__init__" "Either.__init__" Ws f fd)(T:gD K C)(mD:mg "OfTwo" = some (.ref D))(cD:pY K D "__init__" g)(G:au P w K mg base aP 2 g gd ["self","word","left","right"] (wk K))(bG:Binds K gd ["self","word","left","right"] []) :
  au P w K mg base aP 3 f fd ["self","left","right"] (wu C "either"):=by
 refine F.ok zQ1 (λvs H Q E h=>?_) (λcdv A outer s H vs Q E hr h=>?_)
 ·obtain⟨p,dx,c,d,rfl,_⟩:=h
  rfl
 obtain⟨p,dx,c,d,rfl,hp,q⟩:=h
 refine⟨_,xI (zZ (uS rfl mD cD G hr bG .nil uP (zA (pv 0) (zA uR (zA (pv 1) (zA (pv 2) zE)))))),?_⟩
 exact⟨_,rfl,_,rfl,_,rfl,p,C,dx,_,_,_,rfl,hp,T,λq0 H' k1 f0 e1 e2=>q q0 H' k1 f0 e1 e2⟩
theorem zLr:ao ["self","left","right"] ["self","left","right"] (zI Wt):=⟨rfl,rfl,rfl,by decide +kernel,rfl,by decide +kernel,by decide +kernel⟩
theorem zI3(F:aY K "__init__" "SomeTill.__init__" Wt f fd)(T:gD K C)(mD:mg "OfTwo" = some (.ref D))(cD:pY K D "__init__" g)(G:au P w K mg base aP 2 g gd ["self","word","left","right"] (wk K))(bG:Binds K gd ["self","word","left","right"] []) :
  au P w K mg base aP 3 f fd ["self","left","right"] (wu C "sometill"):=by
 refine F.ok zLr (λvs H Q E h=>?_) (λcdv A outer s H vs Q E hr h=>?_)
 ·obtain⟨p,dx,c,d,rfl,_⟩:=h
  rfl
 obtain⟨p,dx,c,d,rfl,hp,q⟩:=h
 refine⟨_,xI (zZ (uS rfl mD cD G hr bG .nil uP (zA (pv 0) (zA uR (zA (pv 1) (zA (pv 2) zE)))))),?_⟩
 exact⟨_,rfl,_,rfl,_,rfl,p,C,dx,_,_,_,rfl,hp,T,λq0 H' k1 f0 e1 e2=>q q0 H' k1 f0 e1 e2⟩
theorem zLu:ao ["self","left","right"] ["self","left","right"] (zI Wu):=⟨rfl,rfl,rfl,by decide +kernel,rfl,by decide +kernel,by decide +kernel⟩
theorem zI6(F:aY K "__init__" "EachTill.__init__" Wu f fd)(T:gD K C)(mD:mg "OfTwo" = some (.ref D))(cD:pY K D "__init__" g)(G:au P w K mg base aP 2 g gd ["self","word","left","right"] (wk K))(bG:Binds K gd ["self","word","left","right"] []) :
  au P w K mg base aP 3 f fd ["self","left","right"] (wu C "eachtill"):=by
 refine F.ok zLu (λvs H Q E h=>?_) (λcdv A outer s H vs Q E hr h=>?_)
 ·obtain⟨p,dx,c,d,rfl,_⟩:=h
  rfl
 obtain⟨p,dx,c,d,rfl,hp,q⟩:=h
 refine⟨_,xI (zZ (uS rfl mD cD G hr bG .nil uP (zA (pv 0) (zA uR (zA (pv 1) (zA (pv 2) zE)))))),?_⟩
 exact⟨_,rfl,_,rfl,_,rfl,p,C,dx,_,_,_,rfl,hp,T,λq0 H' k1 f0 e1 e2=>q q0 H' k1 f0 e1 e2⟩
end
end Sy
set_option maxHeartbeats 40000000
namespace Ts
open PySem L2 Sy
section
variable{P:Program}{w:World}{K:PySem.W.Frag}{mg:Str->Option Value}{base:Heap}
def Qf(q0:Int)(q1:Int):Option Bool:=if true=true then if(!false)=true then if decide ((0:Int)<=q0)=true then some (decide (q0<q1)) else some false else some false else some false
theorem jW:ao ["thing","many"] ["thing","many"] (zI jc):=fsc
abbrev zFm(K:PySem.W.Frag):Sp:=cL K false (λa:Int×Int×Unit=>([.z a.1,.z a.2.1]:SL K)) (λa=>Qf a.1 a.2.1)
theorem zI1(F:aY K "is_stand" "is_stand" jc f fd)(B:Bl K mg):au P w K mg base aP (k+1) f fd ["thing","many"] (zFm K):=by
 refine yJ F jW (λ_=>rfl) (λ_=>rfl) λcdv A outer s H E hr=>?_
 have nd:=jW.nd
 refine⟨_,(zB (zV (G8 (zS (wZ K (Lp (n:="int"))) rfl B.nD vA (zA (pv 0) (zA (K6 (v:=.ty "int") rfl B.int Ze rfl) zE))) (G8 (G9 (zS (wZ K (Lp (n:="bool"))) rfl B.nD vA (zA (pv 0) (zA (K6 (v:=.ty "bool") rfl B.bool Zf rfl) zE)))) (K7 (XR uy ux yB (pv 0) (pv 1)))))) zG),?_⟩
 rintro Fa ⟨q0,q1,⟨⟩⟩
 exact SB.of (yI (esc (Ii (Lz B.ii rfl (zF 0 rfl)) (Ii (Ih (Lz B.ib rfl (zF 0 rfl))) (ZG (f:=(λi j=>decide (i<=j))) (g:=(λi j=>decide (i<j))) (zW 0) (zF 0 rfl) (zF 1 rfl)))))) (by unfold Qf;simp only[bnd])
def yZ(q0:LI)(q1:Int)(q2:Str):Option Unit:=(some ()).bind λqJ=>((some q0).bind λxs=>yU (λ(s2:List (Key×Bool)) (x4:Int)=>(((Qf x4 q1).bind λa5=>some (!a5)).bind λb=>if b=true then none else some ()).bind λs6=>(if((iB (Dc.mk s2).kv x4).isSome)=true then none else some ()).bind λs8=>(dput s2 x4 true).bind λfP=>some fP) xs (([]:List (Key×Bool)))).bind λs3=>some ()
theorem fY:ao ["stands","many","where","ahead","stand"] ["stands","many","where"] (zI dz):=fsc
abbrev vG(K:PySem.W.Frag):Sp:=cL K false (λa:LI×Int×Str×Unit=>([.z a.1,.z a.2.1,.z a.2.2.1]:SL K)) (λa=>yZ a.1 a.2.1 a.2.2.1)
theorem zD6(F:aY K "check_stands" "check_stands" dz f fd)(B:Bl K mg)(je:cu P w K mg base k "is_stand" ["thing","many"] (zFm K)):au P w K mg base aP (k+1) f fd ["stands","many","where"] (vG K):=by
 refine RQ F fY (λ_=>rfl) (λ_=>rfl) λcdv A outer s H E hr=>?_
 have nd:=fY.nd
 have hu:=vf hr
 refine⟨_,(zB (xC 3 nd T8) (zB (xB aak rfl (yD K (pv 0)) (bL 4 nd) (zB (xP (Ni (xM (yH je hr (zA (pv 4) (zA (pv 1) zE))))) yX zG) (zB (xP (Eu (Yk hu (pv 4) (pv 3))) yX zG) (zB (T7 hu (pv 3) (pv 4) Al rfl) zG)))) zG)),?_⟩
 rintro Fa ⟨q0,q1,q2,⟨⟩⟩
 exact⟨_,Sn.of (zK (UL (α:=Bool) 3 rfl rfl) (λqJ=>(zK (xS (n:=false) (L:=(λs2:List (Key×Bool)=>([.z q0,.z q1,.z q2,.od (s2:List (Key×Bool)),.un]:SL K))) (([]:List (Key×Bool))) aU (yE (yF 0 rfl)) (λs2=>(zT 4 rfl rfl)) (λs2 x4=>(zK (vL (Oh (b_ (md:=.hp) (zQ (zH (esc (zF 4 rfl)) (zH (esc (zF 1 rfl)) zP))))) xY (zR (λs7:Unit=>([.z q0,.z q1,.z q2,.od (s2:List (Key×Bool)),.z x4]:SL K)) () aU)) (λs6=>(zK (vL (b_ (md:=.hp) (Je (zF 4 rfl) (Vk 3 rfl))) xY (zR (λs9:Unit=>([.z q0,.z q1,.z q2,.od (s2:List (Key×Bool)),.z x4]:SL K)) () aU)) (λs8=>(zK (ZF 3 rfl rfl (esc (Bx true)) (zF 4 rfl)) (λfP=>(zR (λs2:List (Key×Bool)=>([.z q0,.z q1,.z q2,.od (s2:List (Key×Bool)),.un]:SL K)) fP aU))))))))) (λs3=>(zR (λ_:Unit=>([.un,.un,.un,.un,.un]:SL K)) () aU))))) (by unfold yZ;simp only[bnd])⟩
def wU(q0:List LI):Option Unit:=(some (q0.length:Int)).bind λmany1=>((if(decide (many1<(1:Int)))=true then some true else some (decide ((60:Int)<many1))).bind λb=>if b=true then none else some ()).bind λs2=>((some (v7 q0)).bind λxs=>yU (λ(s4:Unit) (x6:Int×LI)=>(((((Jj "steps of stand " x6.1).bind λa8=>some ((a8,()))).bind λb9=>some (many1,b9)).bind λb10=>some (x6.2,b10)).bind λz7=>yZ z7.1 z7.2.1 z7.2.2.1).bind λu11=>(if(decide ((x6.2.length:Int)=(0:Int)))=true then none else some ()).bind λs12=>some ()) xs ()).bind λs5=>some ()
theorem gM:ao ["steps","many","stand","targets"] ["steps"] (zI eF):=fsc
abbrev zGz(K:PySem.W.Frag):Sp:=cL K false (λa:((List LI))×Unit=>([.z a.1]:SL K)) (λa=>wU a.1)
theorem zE0(F:aY K "check_steps" "check_steps" eF f fd)(B:Bl K mg)(m6:mg "MOST_STANDS" = some (.int 60 m7))(aM:cu P w K mg base k "check_stands" ["stands","many","where"] (vG K)):au P w K mg base aP (k+1) f fd ["steps"] (zGz K):=by
 refine RQ F gM (λ_=>rfl) (λ_=>rfl) λcdv A outer s H E hr=>?_
 have nd:=gM.nd
 refine⟨_,(zB (xC 1 nd (zS (su K) rfl B.len aa7 (zA (pv 0) zE))) (zB (xP (PW.pt (pw_or (yV ux (pv 1) yB (wW _)) (pw_or1 (yV Fe (pv 1) (wD (v:=.int 60) rfl m6 ⟨_,rfl⟩) (wW _))))) yX zG) (zB (xB aak rfl (Vd K B.enum (zA (pv 0) zE)) (EY rfl (yK (bL 2 nd) (yK (bL 3 nd) uW))) (zB (zZ (yH aM hr (zA (pv 3) (zA (pv 1) (zA (vp (pv 2) (by decide)) zE))))) (zB (xP (yV (Ad K Int hr) (zS (su K) rfl B.len aa7 (zA (pv 3) zE)) yB (wW _)) yX zG) zG))) zG))),?_⟩
 rintro Fa ⟨q0,⟨⟩⟩
 exact⟨_,Sn.of (zK (yN true 1 rfl rfl (esc (tX (zD 0 rfl)))) (λmany1=>(zK (vL (Oi (yW (md:=.hp) (FJ (zF 1 rfl) (zW 1))) (yW (md:=.hp) (FN (zF 1 rfl) (zW 60)))) xY (zR (λs3:Unit=>([.z q0,.y many1,.un,.un]:SL K)) () aU)) (λs2=>(zK (xS (n:=false) (L:=(λs4:Unit=>([.z q0,.y many1,.un,.un]:SL K))) () aU (U6 (yF 0 rfl)) (λs4=>(Fz 2 3 rfl rfl (λ_=>rfl) rfl)) (λs4 x6=>(zK (Ls (md:=.hp) (zQ (zH (zD 3 rfl) (zH (esc (zF 1 rfl)) (zH (esc (ZJ "steps of stand " (zF 2 rfl))) zP))))) (λu11=>(zK (vL (yW (md:=.hp) (Ae (tX (zD 3 rfl)) (zW 0))) xY (zR (λDm:Unit=>([.z q0,.y many1,.z x6.1,.z x6.2]:SL K)) () aU)) (λs12=>(zR (λs4:Unit=>([.z q0,.y many1,.un,.un]:SL K)) () aU))))))) (λs5=>(zR (λ_:Unit=>([.un,.un,.un,.un]:SL K)) () aU))))))) (by unfold wU;simp only[bnd])⟩
def uG(q0:Str):Option Bool:=(if(!true)=true then some true else some (decide (q0∈(["all","not","both","either","somenext","eachnext","sometill","eachtill","someever","eachever"]:List Str)))).bind λb=>if b=true then some false else((Ck q0).bind λb1=>if decide ((1:Int)<=b1)=true then some (decide (b1<=(8:Int))) else some false).bind λc4=>if c4=true then((some (O6 q0)).bind λxs=>yQ (λ(x2:Str)=>some true) (λ(x2:Str)=>some (Vl x2 ("abcdefghijklmnopqrstuvwxyz":Str))) xs).bind λa3=>some (a3.all id) else some false
theorem lR:ao ["name"] ["name"] (zI jK):=fsc
abbrev zIk(K:PySem.W.Frag):Sp:=cL K false (λa:Str×Unit=>([.z a.1]:SL K)) (λa=>uG a.1)
theorem zL2(F:aY K "is_name" "is_name" jK f fd)(B:Bl K mg)(sY:mg "LETTERS" = some (.str "abcdefghijklmnopqrstuvwxyz" sZ))(lU:mg "LONGEST_NAME" = some (.int 8 lV))(lW:mg "SAYING_WORDS" = some (.ref bQ))(dG:∀H,jV K H bQ ((["all","not","both","either","somenext","eachnext","sometill","eachtill","someever","eachever"]:List Str).map V.str))(J7:mg "all" = none)(J8:mg "str" = none):au P w K mg base aP (k+1) f fd ["name"] (zIk K):=by
 refine yJ F lR (λ_=>rfl) (λ_=>rfl) λcdv A outer s H E hr=>?_
 have nd:=lR.nd
 refine⟨_,(zB (xP (PW.pt (pw_or (Ni (xM (zS (wZ K (Lp (n:="str"))) rfl B.nD vA (zA (pv 0) (zA (K6 (v:=.ty "str") rfl J8 Jl rfl) zE))))) (pw_or1 (yV (FW K) (pv 0) (wD (v:=.ref bQ) rfl lW rfl) (by with_unfolding_all rfl))))) (zB (zV Al) zG) zG) (zB (zV (G8 (XR uy uy yB (zS zPv rfl B.len aa7 (zA (pv 0) zE)) (wD (v:=.int 8) rfl lU ⟨_,rfl⟩)) (K7 (zS (zPx K rfl) rfl J7 I_ (zA (wL (own:=["sign"]) (ix:=[]) rfl rfl rfl (Jf (pv 0)) (λC s H fp=>yA (i:=0) (show(["sign"]:List Str).Nodup from by decide +kernel) rfl (Or.inl rfl)) (λC s H fp=>xU) (λC s H fp=>(Nz zOc (pv 0) (wD (v:=.str "abcdefghijklmnopqrstuvwxyz") rfl sY ⟨_,rfl⟩) (by with_unfolding_all rfl)))) zE))))) zG)),?_⟩
 rintro Fa ⟨q0,⟨⟩⟩
 exact SB.of (Im (Oi (Oh (b_ (md:=.hp) (Lz O7 rfl (zF 0 rfl)))) (yW (md:=.hp) (Ji dG (zF 0 rfl)))) (yI (esc (Bx false))) (yI (esc (Ii (ZG (f:=(λi j=>decide (i<=j))) (g:=(λi j=>decide (i<=j))) (zW 1) (Cm (zF 0 rfl)) (zW 8)) (Zx (yS (n:=true) (fu:=[.un]) (no:=1) (ix:=[]) rfl rfl (Jg (zF 0 rfl)) (zT 0 rfl rfl) (λx2=>uK) (λx2=>(esc (Jh (zF 0 rfl) (Ru "abcdefghijklmnopqrstuvwxyz")))) (λx2=>dj)).ex))))) (by unfold uG;simp only[bnd])
def wV(q0:List (Str×LI))(q1:Int):Option Unit:=(some ()).bind λqJ=>((some q0).bind λxs=>yU (λ(s2:List (Key×Bool)) (x4:Str×LI)=>(((uG x4.1).bind λa5=>some (!a5)).bind λb=>if b=true then none else some ()).bind λs6=>(if((Gg (Dc.mk s2).kv x4.1).isSome)=true then none else some ()).bind λs8=>(O8 s2 x4.1 true).bind λfP=>(((((LK "mark " x4.1).bind λa12=>some ((a12,()))).bind λb13=>some (q1,b13)).bind λWv=>some (x4.2,Wv)).bind λWw=>yZ Ww.1 Ww.2.1 Ww.2.2.1).bind λu15=>some fP) xs (([]:List (Key×Bool)))).bind λs3=>some ()
theorem gO:ao ["marks","many","ahead","name","stands"] ["marks","many"] (zI eG):=fsc
abbrev zG0(K:PySem.W.Frag):Sp:=cL K false (λa:((List (Str×LI)))×Int×Unit=>([.z a.1,.z a.2.1]:SL K)) (λa=>wV a.1 a.2.1)
theorem zE1(F:aY K "check_marks" "check_marks" eG f fd)(B:Bl K mg)(aM:cu P w K mg base k "check_stands" ["stands","many","where"] (vG K))(jN:cu P w K mg base k "is_name" ["name"] (zIk K)):au P w K mg base aP (k+1) f fd ["marks","many"] (zG0 K):=by
 refine RQ F gO (λ_=>rfl) (λ_=>rfl) λcdv A outer s H E hr=>?_
 have nd:=gO.nd
 have hu:=vf hr
 refine⟨_,(zB (xC 2 nd T8) (zB (xB aak rfl (yD K (pv 0)) (EY rfl (yK (bL 3 nd) (yK (bL 4 nd) uW))) (zB (xP (Ni (xM (yH jN hr (zA (pv 3) zE)))) yX zG) (zB (xP (Eu (Yk hu (pv 3) (pv 2))) yX zG) (zB (T7 hu (pv 2) (pv 3) Al rfl) (zB (zZ (yH aM hr (zA (pv 4) (zA (pv 1) (zA (vp (pv 3) (by decide)) zE))))) zG))))) zG)),?_⟩
 rintro Fa ⟨q0,q1,⟨⟩⟩
 exact⟨_,Sn.of (zK (UL (α:=Bool) 2 rfl rfl) (λqJ=>(zK (xS (n:=false) (L:=(λs2:List (Key×Bool)=>([.z q0,.z q1,.od (s2:List (Key×Bool)),.un,.un]:SL K))) (([]:List (Key×Bool))) aU (yE (yF 0 rfl)) (λs2=>(Fz 3 4 rfl rfl (λ_=>rfl) rfl)) (λs2 x4=>(zK (vL (Oh (b_ (md:=.hp) (zQ (zH (esc (zF 3 rfl)) zP)))) xY (zR (λs7:Unit=>([.z q0,.z q1,.od (s2:List (Key×Bool)),.z x4.1,.z x4.2]:SL K)) () aU)) (λs6=>(zK (vL (b_ (md:=.hp) (Cp (zF 3 rfl) (Vk 2 rfl))) xY (zR (λs9:Unit=>([.z q0,.z q1,.od (s2:List (Key×Bool)),.z x4.1,.z x4.2]:SL K)) () aU)) (λs8=>(zK (zQw 2 rfl rfl (esc (Bx true)) (zF 3 rfl)) (λfP=>(zK (Ls (md:=.hp) (zQ (zH (zD 4 rfl) (zH (esc (zF 1 rfl)) (zH (esc (Jk "mark " (zF 3 rfl))) zP))))) (λu15=>(zR (λs2:List (Key×Bool)=>([.z q0,.z q1,.od (s2:List (Key×Bool)),.un,.un]:SL K)) fP aU))))))))))) (λs3=>(zR (λ_:Unit=>([.un,.un,.un,.un,.un]:SL K)) () aU))))) (by unfold wV;simp only[bnd])⟩
def vI(q0:List LI)(q1:Int):Option Unit:=((some (v7 q0)).bind λxs=>yU (λ(s1:Unit) (x3:Int×LI)=>(((((Jj "fair set " x3.1).bind λa5=>some ((a5,()))).bind λb6=>some (q1,b6)).bind λb7=>some (x3.2,b7)).bind λz4=>yZ z4.1 z4.2.1 z4.2.2.1).bind λu8=>some ()) xs ()).bind λs2=>some ()
theorem iR:ao ["fair","many","number","stands"] ["fair","many"] (zI fL):=fsc
abbrev zIl(K:PySem.W.Frag):Sp:=cL K false (λa:((List LI))×Int×Unit=>([.z a.1,.z a.2.1]:SL K)) (λa=>vI a.1 a.2.1)
theorem zGe(F:aY K "check_fair" "check_fair" fL f fd)(B:Bl K mg)(aM:cu P w K mg base k "check_stands" ["stands","many","where"] (vG K)):au P w K mg base aP (k+1) f fd ["fair","many"] (zIl K):=by
 refine RQ F iR (λ_=>rfl) (λ_=>rfl) λcdv A outer s H E hr=>?_
 have nd:=iR.nd
 refine⟨_,(zB (xB aak rfl (Vd K B.enum (zA (pv 0) zE)) (EY rfl (yK (bL 2 nd) (yK (bL 3 nd) uW))) (zB (zZ (yH aM hr (zA (pv 3) (zA (pv 1) (zA (vp (pv 2) (by decide)) zE))))) zG)) zG),?_⟩
 rintro Fa ⟨q0,q1,⟨⟩⟩
 exact⟨_,Sn.of (zK (xS (n:=false) (L:=(λs1:Unit=>([.z q0,.z q1,.un,.un]:SL K))) () aU (U6 (yF 0 rfl)) (λs1=>(Fz 2 3 rfl rfl (λ_=>rfl) rfl)) (λs1 x3=>(zK (Ls (md:=.hp) (zQ (zH (zD 3 rfl) (zH (esc (zF 1 rfl)) (zH (esc (ZJ "fair set " (zF 2 rfl))) zP))))) (λu8=>(zR (λs1:Unit=>([.z q0,.z q1,.un,.un]:SL K)) () aU))))) (λs2=>(zR (λ_:Unit=>([.un,.un,.un,.un]:SL K)) () aU))) (by unfold vI;simp only[bnd])⟩
def Mt(q0:List LI):Option (List LI):=(some q0).bind λxs=>yQ (λ(x1:LI)=>some true) (λ(x1:LI)=>some x1) xs
theorem nH:ao ["lists"] ["lists"] (zI lK):=fsc
abbrev zSm(K:PySem.W.Frag):Sp:=cL K false (λa:((List LI))×Unit=>([.z a.1]:SL K)) (λa=>Mt a.1)
theorem zOl(F:aY K "copied" "copied" lK f fd)(B:Bl K mg):au P w K mg base aP (k+1) f fd ["lists"] (zSm K):=by
 refine yJ F nH (λ_=>rfl) (λ_=>rfl) λcdv A outer s H E hr=>?_
 have nd:=nH.nd
 refine⟨_,(zB (zV (wL (own:=["things"]) (ix:=[]) rfl rfl rfl (yD K (pv 0)) (λC s H fp=>yA (i:=0) (show(["things"]:List Str).Nodup from by decide +kernel) rfl (Or.inl rfl)) (λC s H fp=>xU) (λC s H fp=>(uD (IW K) rfl B.list FT (zA (pv 0) zE))))) zG),?_⟩
 rintro Fa ⟨q0,⟨⟩⟩
 exact SB.of (yI (yS (n:=false) (fu:=[.un]) (no:=1) (ix:=[]) rfl rfl (yE (yF 0 rfl)) (zT 0 rfl rfl) (λx1=>uK) (λx1=>(Iw (zD 0 rfl)).ex) (λx1=>dj)).ex) (by unfold Mt;simp only[bnd])
end
abbrev Mu(C:Addr):=RT C wU wV vI Mt Ms
section
variable{P:Program}{w:World}{K:PySem.W.Frag}{mg:Str->Option Value}{base:Heap}
def yO(q0:aG C):Option Int:=some (q0.steps.length:Int)
theorem fZ:ao ["self"] ["self"] (zI dF):=fsc
abbrev wI(K:PySem.W.Frag)(C:Addr):Sp:=cL K false (λa:(aG C)×Unit=>([.z a.1]:SL K)) (λa=>yO a.1)
theorem zD7(F:aY K "many" "Machine.many" dF f fd)(B:Bl K mg)(T:Cl K mg C):au P w K mg base aP (k+1) f fd ["self"] (wI K C):=by
 refine yJ F fZ (λ_=>rfl) (λ_=>rfl) λcdv A outer s H E hr=>?_
 have nd:=fZ.nd
 refine⟨_,(zB (zV (zS (su K) rfl B.len aa7 (zA (FZ K (pv 0)) zE))) zG),?_⟩
 rintro Fa ⟨q0,⟨⟩⟩
 exact SB.of (yI (esc (tX (Zi T.cl T.nS (zD 0 rfl))))) (by unfold yO;simp only[bnd])
def yP(q0:aG C)(q1:Int):Option LI:=(bF q0.steps q1).bind λa1=>Cj a1
theorem dH:ao ["self","stand"] ["self","stand"] (zI cF):=fsc
abbrev vE(K:PySem.W.Frag)(C:Addr):Sp:=cL K false (λa:(aG C)×Int×Unit=>([.z a.1,.z a.2.1]:SL K)) (λa=>yP a.1 a.2.1)
theorem zBr(F:aY K "next_of" "Machine.next_of" cF f fd)(B:Bl K mg)(T:Cl K mg C)(bY:mg "sorted" = none):au P w K mg base aP (k+1) f fd ["self","stand"] (vE K C):=by
 refine yJ F dH (λ_=>rfl) (λ_=>rfl) λcdv A outer s H E hr=>?_
 have nd:=dH.nd
 refine⟨_,(zB (zV (zS (Vh K) rfl bY Ve (zA (xQ (bK K) (FZ K (pv 0)) (pv 1) (λ_ _=>rfl)) zE))) zG),?_⟩
 rintro Fa ⟨q0,q1,⟨⟩⟩
 exact SB.of (yI (Vj (wA (Zi T.cl T.nS (zD 0 rfl)) (zF 1 rfl))).ex) (by unfold yP;simp only[bnd])
def xN(q0:aG C)(q1:Int):Option LI:=bF q0.sources q1
theorem dO:ao ["self","stand"] ["self","stand"] (zI cR):=fsc
abbrev zAq(K:PySem.W.Frag)(C:Addr):Sp:=cL K false (λa:(aG C)×Int×Unit=>([.z a.1,.z a.2.1]:SL K)) (λa=>xN a.1 a.2.1)
theorem zCl(F:aY K "before" "Machine.before" cR f fd)(B:Bl K mg)(T:Cl K mg C):au P w K mg base aP (k+1) f fd ["self","stand"] (zAq K C):=by
 refine yJ F dO (λ_=>rfl) (λ_=>rfl) λcdv A outer s H E hr=>?_
 have nd:=dO.nd
 refine⟨_,(zB (zV (uD (IW K) rfl B.list FT (zA (xQ (bK K) (FZ K (pv 0)) (pv 1) (λ_ _=>rfl)) zE))) zG),?_⟩
 rintro Fa ⟨q0,q1,⟨⟩⟩
 exact SB.of (yI (Iw (wA (zJj T.cl T.nB (zD 0 rfl)) (zF 1 rfl))).ex) (by unfold xN;simp only[bnd])
def yL(q0:aG C)(q1:Str):Option LI:=((some q0.marks).bind λxs=>vZ (λ(s1:Unit) (x3:Str×LI)=>if(decide (x3.1=q1))=true then(Cj x3.2).bind λb=>some (.rt b) else some (.nx ())) xs ()).bind λo=>o.els λs2=>some ([]:LI)
theorem dR:ao ["self","name","known","stands"] ["self","name"] (zI cT):=fsc
abbrev zAp(K:PySem.W.Frag)(C:Addr):Sp:=cL K false (λa:(aG C)×Str×Unit=>([.z a.1,.z a.2.1]:SL K)) (λa=>yL a.1 a.2.1)
theorem zCk(F:aY K "marked" "Machine.marked" cT f fd)(B:Bl K mg)(T:Cl K mg C)(bY:mg "sorted" = none):au P w K mg base aP (k+1) f fd ["self","name"] (zAp K C):=by
 refine yJ F dR (λ_=>rfl) (λ_=>rfl) λcdv A outer s H E hr=>?_
 have nd:=dR.nd
 refine⟨_,(zB (xB aak rfl (yD K (FZ K (pv 0))) (EY rfl (yK (bL 2 nd) (yK (bL 3 nd) uW))) (zB (xP (yV (Ad K Str hr) (pv 2) (pv 1) (wW _)) (zB (zV (zS (Vh K) rfl bY Ve (zA (pv 3) zE))) zG) zG) zG)) (zB (zV (wY zE)) zG)),?_⟩
 rintro Fa ⟨q0,q1,⟨⟩⟩
 exact SB.of (Uz (U3 (n:=false) (L:=(λs1:Unit=>([.z q0,.z q1,.un,.un]:SL K))) () aU (yE (zPe T.cl T.nM (yF 0 rfl))) (λs1=>(Fz 2 3 rfl rfl (λ_=>rfl) rfl)) (λs1 x3=>(UJ (yW (md:=.hp) (Ae (zF 2 rfl) (zF 1 rfl))) (yI (Vj (zD 3 rfl)).ex) (UG (λs1:Unit=>([.z q0,.z q1,.un,.un]:SL K)) () aU)))) (λs2=>(yI (vT (α:=Int)).ex))) (by unfold yL;simp only[bnd])
def xD(q0:aG C)(q1:Int):Option LI:=(bF q0.fair q1).bind λa1=>Cj a1
theorem dI:ao ["self","number"] ["self","number"] (zI cG):=fsc
abbrev zAh(K:PySem.W.Frag)(C:Addr):Sp:=cL K false (λa:(aG C)×Int×Unit=>([.z a.1,.z a.2.1]:SL K)) (λa=>xD a.1 a.2.1)
theorem zBs(F:aY K "fair_at" "Machine.fair_at" cG f fd)(B:Bl K mg)(T:Cl K mg C)(bY:mg "sorted" = none):au P w K mg base aP (k+1) f fd ["self","number"] (zAh K C):=by
 refine yJ F dI (λ_=>rfl) (λ_=>rfl) λcdv A outer s H E hr=>?_
 have nd:=dI.nd
 refine⟨_,(zB (zV (zS (Vh K) rfl bY Ve (zA (xQ (bK K) (FZ K (pv 0)) (pv 1) (λ_ _=>rfl)) zE))) zG),?_⟩
 rintro Fa ⟨q0,q1,⟨⟩⟩
 exact SB.of (yI (Vj (wA (Zj T.cl T.nF (zD 0 rfl)) (zF 1 rfl))).ex) (by unfold xD;simp only[bnd])
def yY(q0:aG C):Option LI:=(yO q0).bind λa1=>Cv a1
theorem iT:ao ["machine"] ["machine"] (zI fH):=fsc
abbrev vJ(K:PySem.W.Frag)(C:Addr):Sp:=cL K false (λa:(aG C)×Unit=>([.z a.1]:SL K)) (λa=>yY a.1)
theorem zGd(F:aY K "everywhere" "everywhere" fH f fd)(B:Bl K mg)(aJ:fG P w K mg base k C "many" ["self"] (wI K C)):au P w K mg base aP (k+1) f fd ["machine"] (vJ K C):=by
 refine yJ F iT (λ_=>rfl) (λ_=>rfl) λcdv A outer s H E hr=>?_
 have nd:=iT.nd
 refine⟨_,(zB (zV (zJ8 rfl rfl B.list rfl B.range (zA (RM aJ hr (pv 0)) zE))) zG),?_⟩
 rintro Fa ⟨q0,⟨⟩⟩
 exact SB.of (yI (zKw (Cd (by decide +kernel) (zD 0 rfl) zP)).ex) (by unfold yY;simp only[bnd])
def Mv(q0:aG C)(q1:LI):Option (List Bool):=(((yO q0).bind λa2=>xT a2).bind λxs=>yQ (λ(x3:Int)=>some true) (λ(x3:Int)=>some false) xs).bind λdJ=>((some q1).bind λxs=>yU (λ(s4:List Bool) (x6:Int)=>(rD s4 x6 true).bind λyc=>some yc) xs dJ).bind λs5=>some s5
theorem p8:ao ["machine","stands","told","stand"] ["machine","stands"] (zI oM):=fsc
abbrev Wx(K:PySem.W.Frag)(C:Addr):Sp:=cL K false (λa:(aG C)×LI×Unit=>([.z a.1,.z a.2.1]:SL K)) (λa=>Mv a.1 a.2.1)
theorem zRm(F:aY K "flags" "flags" oM f fd)(B:Bl K mg)(aJ:fG P w K mg base k C "many" ["self"] (wI K C)):au P w K mg base aP (k+1) f fd ["machine","stands"] (Wx K C):=by
 refine yJ F p8 (λ_=>rfl) (λ_=>rfl) λcdv A outer s H E hr=>?_
 have nd:=p8.nd
 refine⟨_,(zB (vP (i:=2) (own:=["stand"]) (ix:=[]) nd rfl rfl rfl rfl rfl (yR rfl B.range (zA (RM aJ hr (pv 0)) zE)) (λC s H fp=>yA (i:=0) (show(["stand"]:List Str).Nodup from by decide +kernel) rfl (Or.inl rfl)) (λC s H fp=>xU) (λC s H fp=>Al)) (zB (xB aak rfl (yD K (pv 1)) (bL 3 nd) (zB (Hh Al (Nq (pv 2) (pv 3) Lj)) zG)) (zB (zV (pv 2)) zG))),?_⟩
 rintro Fa ⟨q0,q1,⟨⟩⟩
 exact SB.of (zN (vR true 2 rfl rfl (yS (n:=true) (fu:=[.un]) (no:=1) (ix:=[]) rfl rfl (xK (Cd (by decide +kernel) (zD 0 rfl) zP)) (zT 0 rfl rfl) (λx3=>uK) (λx3=>(esc (Bx false))) (λx3=>dj))) (λdJ=>(zN (xS (n:=false) (L:=(λs4:List Bool=>([.z q0,.z q1,.ow true s4,.un]:SL K))) dJ aU (yE (yF 1 rfl)) (λs4=>(zT 3 rfl rfl)) (λs4 x6=>(zK (Ol 2 rfl rfl (esc (Bx true)) (zF 3 rfl)) (λyc=>(zR (λs4:List Bool=>([.z q0,.z q1,.ow true s4,.un]:SL K)) yc aU))))) (λs5=>(BK 2 rfl rfl))))) (by unfold Mv;simp only[bnd])
def Wy(q0:LI)(q1:LI):Option LI:=PB q0 q1
theorem lX:ao ["one","other"] ["one","other"] (zI jE):=fsc
abbrev zIg(K:PySem.W.Frag):Sp:=cL K false (λa:LI×LI×Unit=>([.z a.1,.z a.2.1]:SL K)) (λa=>Wy a.1 a.2.1)
theorem zLy(F:aY K "without" "without" jE f fd)(B:Bl K mg)(bY:mg "sorted" = none)(oY:mg "set" = none):au P w K mg base aP (k+1) f fd ["one","other"] (zIg K):=by
 refine yJ F lX (λ_=>rfl) (λ_=>rfl) λcdv A outer s H E hr=>?_
 have nd:=lX.nd
 refine⟨_,(zB (zV (Vy rfl bY (CQ (Pj K rfl oY (pv 0)) (Pj K rfl oY (pv 1))))) zG),?_⟩
 rintro Fa ⟨q0,q1,⟨⟩⟩
 exact SB.of (yI (zMm (zD 0 rfl) (zD 1 rfl)).ex) (by unfold Wy;simp only[bnd])
def wQ(q0:aG C)(q1:LI):Option LI:=((yY q0).bind λa2=>some ((a2,(q1,())))).bind λz1=>Wy z1.1 z1.2.1
theorem nJ:ao ["machine","stands"] ["machine","stands"] (zI lE):=fsc
abbrev Wz(K:PySem.W.Frag)(C:Addr):Sp:=cL K false (λa:(aG C)×LI×Unit=>([.z a.1,.z a.2.1]:SL K)) (λa=>wQ a.1 a.2.1)
theorem zOf(F:aY K "others" "others" lE f fd)(B:Bl K mg)(aK:cu P w K mg base k "everywhere" ["machine"] (vJ K C))(jO:cu P w K mg base k "without" ["one","other"] (zIg K)):au P w K mg base aP (k+1) f fd ["machine","stands"] (Wz K C):=by
 refine yJ F nJ (λ_=>rfl) (λ_=>rfl) λcdv A outer s H E hr=>?_
 have nd:=nJ.nd
 refine⟨_,(zB (zV (yH jO hr (zA (yH aK hr (zA (pv 0) zE)) (zA (pv 1) zE)))) zG),?_⟩
 rintro Fa ⟨q0,q1,⟨⟩⟩
 exact SB.of (yI (zQ (zH (zQ (zH (zD 0 rfl) zP)) (zH (zD 1 rfl) zP)))) (by unfold wQ;simp only[bnd])
def vW(q0:LI)(q1:LI):Option LI:=R9 q0 q1
theorem nO:ao ["one","other"] ["one","other"] (zI lF):=fsc
abbrev WD(K:PySem.W.Frag):Sp:=cL K false (λa:LI×LI×Unit=>([.z a.1,.z a.2.1]:SL K)) (λa=>vW a.1 a.2.1)
theorem zOe(F:aY K "shared" "shared" lF f fd)(B:Bl K mg)(bY:mg "sorted" = none)(oY:mg "set" = none):au P w K mg base aP (k+1) f fd ["one","other"] (WD K):=by
 refine yJ F nO (λ_=>rfl) (λ_=>rfl) λcdv A outer s H E hr=>?_
 have nd:=nO.nd
 refine⟨_,(zB (zV (Vy rfl bY (Cr (Pj K rfl oY (pv 0)) (Pj K rfl oY (pv 1))))) zG),?_⟩
 rintro Fa ⟨q0,q1,⟨⟩⟩
 exact SB.of (yI (zMo (zD 0 rfl) (zD 1 rfl)).ex) (by unfold vW;simp only[bnd])
def uH(q0:aG C)(q1:LI)(q2:LI):Option (List (Option Int)):=(Mv q0 q1).bind λbI=>(((yO q0).bind λa3=>xT a3).bind λxs=>yQ (λ(x4:Int)=>some true) (λ(x4:Int)=>some (none:Option Int)) xs).bind λyg=>((some q2).bind λxs=>yU (λ(s5:List (Option Int)) (x7:Int)=>(rD s5 x7 (some (0:Int))).bind λyh=>some yh) xs yg).bind λs6=>(some q2).bind λJ9=>(some (0:Int)).bind λoZ=>(Fx (λeN:(List (Option Int))×LI×Int=>some (decide (eN.2.2<(eN.2.1.length:Int)))) (λeN:(List (Option Int))×LI×Int=>(bF eN.2.1 eN.2.2).bind λfQ=>((xN q0 fQ).bind λxs=>yU (λ(o_:(List (Option Int))×LI) (J_:Int)=>(((bF bI J_).bind λc18=>if c18=true then(bF o_.1 J_).bind λa17=>some a17.isNone else some false).bind λb=>if b=true then(((((bF o_.1 fQ).bind λa22=>a22).bind λa23=>some (a23+(1:Int))).bind λa24=>some (some a24)).bind λa25=>rD o_.1 J_ a25).bind λfU=>(push o_.2 J_).bind λyj=>some (fU,yj) else some (o_.1,o_.2)).bind λqK=>some (qK.1,qK.2)) xs (eN.1,eN.2.1)).bind λKa=>(some (eN.2.2+(1:Int))).bind λpq=>some (Ka.1,Ka.2,pq)) fuel (s6,J9,oZ)).bind λs12=>some s12.1
theorem jw:ao ["machine","through","goal","passable","told","stand","row","place","source"] ["machine","through","goal"] (zI gF):=fsc
abbrev zEv(K:PySem.W.Frag)(C:Addr):Sp:=cL K false (λa:(aG C)×LI×LI×Unit=>([.z a.1,.z a.2.1,.z a.2.2.1]:SL K)) (λa=>uH a.1 a.2.1 a.2.2.1)
theorem zHq(F:aY K "distances" "distances" gF f fd)(B:Bl K mg)(cU:fG P w K mg base k C "before" ["self","stand"] (zAq K C))(aJ:fG P w K mg base k C "many" ["self"] (wI K C))(h_:cu P w K mg base k "flags" ["machine","stands"] (Wx K C)):au P w K mg base aP (k+1) f fd ["machine","through","goal"] (zEv K C):=by
 refine yJ F jw (λ_=>rfl) (λ_=>rfl) λcdv A outer s H E hr=>?_
 have nd:=jw.nd
 refine⟨_,(zB (xC 3 nd (yH h_ hr (zA (pv 0) (zA (pv 1) zE)))) (zB (vP (i:=4) (own:=["stand"]) (ix:=[]) nd rfl rfl rfl rfl rfl (yR rfl B.range (zA (RM aJ hr (pv 0)) zE)) (λC s H fp=>yA (i:=0) (show(["stand"]:List Str).Nodup from by decide +kernel) rfl (Or.inl rfl)) (λC s H fp=>xU) (λC s H fp=>Xx)) (zB (xB aak rfl (yD K (pv 2)) (bL 5 nd) (zB (Hh yB (Nq (pv 4) (pv 5) Lj)) zG)) (zB (xC 6 nd (uD (IW K) rfl B.list FT (zA (pv 2) zE))) (zB (xC 7 nd yB) (zB (zRc aak (yV ux (pv 7) (zS (su K) rfl B.len aa7 (zA (pv 6) zE)) (wW _)) (zB (xC 5 nd (xQ (bK K) (pv 6) (pv 7) (λ_ _=>rfl))) (zB (xB aak rfl (yD K (Ox cU hr (pv 0) (zA (pv 5) zE))) (bL 8 nd) (zB (xP (PW.pt (pw_and (xM (xQ (bK K) (pv 3) (pv 8) (λ_ _=>rfl))) (pw_and1 (Eu (QK (xQ (bK K) (pv 4) (pv 8) (λ_ _=>rfl))))))) (zB (Hh (wO QX (xQ (bK K) (pv 4) (pv 5) (λ_ _=>rfl)) yB) (Nq (pv 4) (pv 8) Lj)) (zB (zZ (sy K aaq aav aaw xO (pv 6) (zA (pv 8) zE))) zG)) zG) zG)) (zB (XD (i:=7) nd rfl (by first|exact .inl rfl|exact .inr rfl) yB Ho) zG)))) (zB (zV (pv 4)) zG))))))),?_⟩
 rintro Fa ⟨q0,q1,q2,⟨⟩⟩
 exact SB.of (zN (yN true 3 rfl rfl (zQ (zH (zD 0 rfl) (zH (zD 1 rfl) zP)))) (λbI=>(zN (vR true 4 rfl rfl (yS (n:=true) (fu:=[.un]) (no:=1) (ix:=[]) rfl rfl (xK (Cd (by decide +kernel) (zD 0 rfl) zP)) (zT 0 rfl rfl) (λx4=>uK) (λx4=>(esc (Y0 (α:=Int)))) (λx4=>dj))) (λyg=>(zN (xS (n:=false) (L:=(λs5:List (Option Int)=>([.z q0,.z q1,.z q2,.y bI,.ow true s5,.un,.un,.un,.un]:SL K))) yg aU (yE (yF 2 rfl)) (λs5=>(zT 5 rfl rfl)) (λs5 x7=>(zK (Ol 4 rfl rfl (esc (Uw (zW 0))) (zF 5 rfl)) (λyh=>(zR (λs5:List (Option Int)=>([.z q0,.z q1,.z q2,.y bI,.ow true s5,.un,.un,.un,.un]:SL K)) yh aU))))) (λs6=>(zN (vR true 6 rfl rfl (Iw (zD 2 rfl))) (λJ9=>(zN (yN true 7 rfl rfl (esc (zW 0))) (λoZ=>(zN (zQv (L:=(λeN:(List (Option Int))×LI×Int=>([.z q0,.z q1,.z q2,.y bI,.ow true eN.1,.un,.ow true eN.2.1,.y eN.2.2,.un]:SL K))) fuel (s6,J9,oZ) aU (λeN=>(yW (md:=.hp) (FJ (zF 7 rfl) (tX (uJ 6 rfl))))) (λeN=>(zK (yN true 5 rfl rfl (esc (esc (wA (uJ 6 rfl) (zF 7 rfl))))) (λfQ=>(zK (xS (n:=true) (L:=(λo_:(List (Option Int))×LI=>([.z q0,.z q1,.z q2,.y bI,.ow true o_.1,.y fQ,.ow true o_.2,.y eN.2.2,.un]:SL K))) (eN.1,eN.2.1) aU (yE (Cd (by decide +kernel) (zD 0 rfl) (zH (esc (zF 5 rfl)) zP))) (λo_=>(zT 8 rfl rfl)) (λo_ J_=>(zK (vL (Rv (b_ (md:=.hp) (esc (wA (zD 3 rfl) (zF 8 rfl)))) (b_ (md:=.hp) (RG (esc (wA (uJ 4 rfl) (zF 8 rfl)))))) (zK (Ol 4 rfl rfl (esc (Uw (RB (Vb (esc (wA (uJ 4 rfl) (zF 5 rfl)))) (zW 1)))) (zF 8 rfl)) (λfU=>(zK (wG 6 rfl rfl (esc (zF 8 rfl))) (λyj=>(zR (λMw:(List (Option Int))×LI=>([.z q0,.z q1,.z q2,.y bI,.ow true Mw.1,.y fQ,.ow true Mw.2,.y eN.2.2,.y J_]:SL K)) (fU,yj) aU))))) (zR (λMw:(List (Option Int))×LI=>([.z q0,.z q1,.z q2,.y bI,.ow true Mw.1,.y fQ,.ow true Mw.2,.y eN.2.2,.y J_]:SL K)) (o_.1,o_.2) aU)) (λqK=>(zR (λo_:(List (Option Int))×LI=>([.z q0,.z q1,.z q2,.y bI,.ow true o_.1,.y fQ,.ow true o_.2,.y eN.2.2,.un]:SL K)) (qK.1,qK.2) aU))))) (λKa=>(zK (Zk (s:=.un) 7 rfl (zW 1)) (λpq=>(zR (λeN:(List (Option Int))×LI×Int=>([.z q0,.z q1,.z q2,.y bI,.ow true eN.1,.un,.ow true eN.2.1,.y eN.2.2,.un]:SL K)) (Ka.1,Ka.2,pq) aU))))))))) (λs12=>(BK 4 rfl rfl))))))))))))) (by unfold uH;simp only[bnd])
def uB(q0:aG C)(q1:LI)(q2:LI):Option LI:=(uH q0 q1 q2).bind λGw=>(some (v7 Gw)).bind λxs=>yQ (λ(x2:Int×(Option Int))=>some x2.2.isSome) (λ(x2:Int×(Option Int))=>some x2.1) xs
theorem jX:ao ["machine","through","goal","away"] ["machine","through","goal"] (zI i_):=fsc
abbrev zFn(K:PySem.W.Frag)(C:Addr):Sp:=cL K false (λa:(aG C)×LI×LI×Unit=>([.z a.1,.z a.2.1,.z a.2.2.1]:SL K)) (λa=>uB a.1 a.2.1 a.2.2.1)
theorem zI2(F:aY K "comes_to" "comes_to" i_ f fd)(B:Bl K mg)(gP:cu P w K mg base k "distances" ["machine","through","goal"] (zEv K C)):au P w K mg base aP (k+1) f fd ["machine","through","goal"] (zFn K C):=by
 refine yJ F jX (λ_=>rfl) (λ_=>rfl) λcdv A outer s H E hr=>?_
 have nd:=jX.nd
 refine⟨_,(zB (xC 3 nd (yH gP hr (zA (pv 0) (zA (pv 1) (zA (pv 2) zE))))) (zB (zV (wL (own:=["stand","steps"]) (ix:=[]) rfl rfl rfl (Vd K B.enum (zA (pv 3) zE)) (λC s H fp=>Ut (K:=K) (n:=2) rfl rfl (yK (yA (i:=0) (show(["stand","steps"]:List Str).Nodup from by decide +kernel) rfl (Or.inl rfl)) (yK (yA (i:=1) (show(["stand","steps"]:List Str).Nodup from by decide +kernel) rfl (Or.inl rfl)) uW))) (λC s H fp=>uV (Eu (Am (pv 1)))) (λC s H fp=>(pv 0)))) zG)),?_⟩
 rintro Fa ⟨q0,q1,q2,⟨⟩⟩
 exact SB.of (zN (yN true 3 rfl rfl (zQ (zH (zD 0 rfl) (zH (zD 1 rfl) (zH (zD 2 rfl) zP))))) (λGw=>(yI (yS (n:=true) (fu:=[.un,.un]) (no:=2) (ix:=[]) rfl rfl (U6 (yF 3 rfl)) (Fz 0 1 rfl rfl (λ_=>rfl) rfl) (λx2=>(b_ (md:=.hp) (BX (zF 1 rfl)))) (λx2=>(esc (zF 0 rfl))) (λx2=>dj)).ex))) (by unfold uB;simp only[bnd])
def vH(q0:aG C)(q1:Int)(q2:List Bool):Option Bool:=((yP q0 q1).bind λxs=>yQ (λ(x1:Int)=>some true) (λ(x1:Int)=>bF q2 x1) xs).bind λa2=>some (a2.any id)
theorem iU:ao ["machine","stand","hit"] ["machine","stand","hit"] (zI fJ):=fsc
abbrev zC6(K:PySem.W.Frag)(C:Addr):Sp:=cL K false (λa:(aG C)×Int×(List Bool)×Unit=>([.z a.1,.z a.2.1,.z a.2.2.1]:SL K)) (λa=>vH a.1 a.2.1 a.2.2.1)
theorem zGb(F:aY K "steps_into" "steps_into" fJ f fd)(B:Bl K mg)(Kc:mg "any" = none)(aQ:fG P w K mg base k C "next_of" ["self","stand"] (vE K C)):au P w K mg base aP (k+1) f fd ["machine","stand","hit"] (zC6 K C):=by
 refine yJ F iU (λ_=>rfl) (λ_=>rfl) λcdv A outer s H E hr=>?_
 have nd:=iU.nd
 refine⟨_,(zB (zV (zS (zPw K rfl) rfl Kc I9 (zA (wL (own:=["after"]) (ix:=[2]) rfl rfl rfl (yD K (Ox aQ hr (pv 0) (zA (pv 1) zE))) (λC s H fp=>yA (i:=0) (show(["after","hit"]:List Str).Nodup from by decide +kernel) rfl (Or.inl rfl)) (λC s H fp=>xU) (λC s H fp=>(xQ (bK K) (pv 1) (pv 0) (λ_ _=>rfl)))) zE))) zG),?_⟩
 rintro Fa ⟨q0,q1,q2,⟨⟩⟩
 exact SB.of (yI (esc (Zx (yS (n:=true) (fu:=[.un,.z q2]) (no:=1) (ix:=[2]) rfl rfl (yE (Cd (by decide +kernel) (zD 0 rfl) (zH (esc (zF 1 rfl)) zP))) (zT 0 rfl rfl) (λx1=>uK) (λx1=>(esc (esc (wA (zD 1 rfl) (zF 0 rfl))))) (λx1=>dj)).ex))) (by unfold vH;simp only[bnd])
def wP(q0:aG C)(q1:LI)(q2:LI):Option LI:=(Mv q0 q2).bind λhit1=>(some q1).bind λxs=>yQ (λ(x2:Int)=>vH q0 x2 hit1) (λ(x2:Int)=>some x2) xs
theorem gQ:ao ["machine","among","goal","hit"] ["machine","among","goal"] (zI dY):=fsc
abbrev zB5(K:PySem.W.Frag)(C:Addr):Sp:=cL K false (λa:(aG C)×LI×LI×Unit=>([.z a.1,.z a.2.1,.z a.2.2.1]:SL K)) (λa=>wP a.1 a.2.1 a.2.2.1)
theorem zEy(F:aY K "stepping_to" "stepping_to" dY f fd)(B:Bl K mg)(h_:cu P w K mg base k "flags" ["machine","stands"] (Wx K C))(fV:cu P w K mg base k "steps_into" ["machine","stand","hit"] (zC6 K C)):au P w K mg base aP (k+1) f fd ["machine","among","goal"] (zB5 K C):=by
 refine yJ F gQ (λ_=>rfl) (λ_=>rfl) λcdv A outer s H E hr=>?_
 have nd:=gQ.nd
 refine⟨_,(zB (xC 3 nd (yH h_ hr (zA (pv 0) (zA (pv 2) zE)))) (zB (zV (wL (own:=["stand"]) (ix:=[0,3]) rfl rfl rfl (yD K (pv 1)) (λC s H fp=>yA (i:=0) (show(["stand","machine","hit"]:List Str).Nodup from by decide +kernel) rfl (Or.inl rfl)) (λC s H fp=>uV (xM (yH fV hr (zA (pv 1) (zA (pv 0) (zA (pv 2) zE)))))) (λC s H fp=>(pv 0)))) zG)),?_⟩
 rintro Fa ⟨q0,q1,q2,⟨⟩⟩
 exact SB.of (zN (yN true 3 rfl rfl (zQ (zH (zD 0 rfl) (zH (zD 2 rfl) zP)))) (λhit1=>(yI (yS (n:=false) (fu:=[.un,.z q0,.y hit1]) (no:=1) (ix:=[0,3]) rfl rfl (yE (yF 1 rfl)) (zT 0 rfl rfl) (λx2=>(b_ (md:=.hp) (zQ (zH (zD 1 rfl) (zH (esc (zF 0 rfl)) (zH (zD 2 rfl) zP)))))) (λx2=>(esc (zF 0 rfl))) (λx2=>dj)).ex))) (by unfold wP;simp only[bnd])
def Mx(q0:LI):Option Int:=(some (0:Int)).bind λdJ=>((some q0).bind λxs=>yU (λ(s2:Int) (x4:Int)=>((sE (1:Int) x4).bind λa6=>some (aci s2 a6)).bind λlY=>some lY) xs dJ).bind λs3=>some s3
theorem lZ:ao ["stands","told","stand"] ["stands"] (zI jF):=fsc
abbrev zIm(K:PySem.W.Frag):Sp:=cL K false (λa:LI×Unit=>([.z a.1]:SL K)) (λa=>Mx a.1)
theorem zL3(F:aY K "bits_of" "bits_of" jF f fd)(B:Bl K mg):au P w K mg base aP (k+1) f fd ["stands"] (zIm K):=by
 refine yJ F lZ (λ_=>rfl) (λ_=>rfl) λcdv A outer s H E hr=>?_
 have nd:=lZ.nd
 refine⟨_,(zB (xC 1 nd yB) (zB (xB aak rfl (yD K (pv 0)) (bL 2 nd) (zB (XD (i:=1) nd rfl (by first|exact .inl rfl|exact .inr rfl) (wO Hw yB (pv 2)) Gp) zG)) (zB (zV (pv 1)) zG))),?_⟩
 rintro Fa ⟨q0,⟨⟩⟩
 exact SB.of (zN (yN true 1 rfl rfl (esc (zW 0))) (λdJ=>(zN (xS (n:=false) (L:=(λs2:Int=>([.z q0,.y s2,.un]:SL K))) dJ aU (yE (yF 0 rfl)) (λs2=>(zT 2 rfl rfl)) (λs2 x4=>(zK (Zk (s:=.un) 1 rfl (Jw (zW 1) (zF 2 rfl))) (λlY=>(zR (λs2:Int=>([.z q0,.y s2,.un]:SL K)) lY aU))))) (λs3=>(yI (esc (zF 1 rfl))))))) (by unfold Mx;simp only[bnd])
def wR(q0:aG C)(q1:LI):Option LI:=(Mx q1).bind λcX=>(((yO q0).bind λa3=>xT a3).bind λxs=>yQ (λ(x4:Int)=>some true) (λ(x4:Int)=>some (0:Int)) xs).bind λdM=>((some q1).bind λxs=>yU (λ(s5:LI) (x7:Int)=>(((((yP q0 x7).bind λa10=>some ((a10,()))).bind λz9=>Mx z9.1).bind λa11=>some (aay a11 cX)).bind λa12=>rD s5 x7 a12).bind λyp=>some yp) xs dM).bind λs6=>((some q1).bind λxs=>yU (λ(Dm:LI) (Kd:Int)=>((some q1).bind λxs=>yU (λ(t_:LI) (x18:Int)=>(((((bF t_ x18).bind λa19=>iZ a19 Kd).bind λa20=>some (aay a20 (1:Int))).bind λa21=>some (a21 != 0)).bind λb=>if b=true then((bF t_ Kd).bind λb25=>Cw (λi j=>aci i j) t_ x18 b25).bind λqL=>some qL else some t_).bind λuc=>some uc) xs Dm).bind λDn=>some Dn) xs s6).bind λo_=>some o_
theorem gR:ao ["machine","within","inside","rows","stand","middle"] ["machine","within"] (zI dZ):=fsc
abbrev zB6(K:PySem.W.Frag)(C:Addr):Sp:=cL K false (λa:(aG C)×LI×Unit=>([.z a.1,.z a.2.1]:SL K)) (λa=>wR a.1 a.2.1)
theorem zEz(F:aY K "onward_bits" "onward_bits" dZ f fd)(B:Bl K mg)(aJ:fG P w K mg base k C "many" ["self"] (wI K C))(aQ:fG P w K mg base k C "next_of" ["self","stand"] (vE K C))(ig:cu P w K mg base k "bits_of" ["stands"] (zIm K)):au P w K mg base aP (k+1) f fd ["machine","within"] (zB6 K C):=by
 refine yJ F gR (λ_=>rfl) (λ_=>rfl) λcdv A outer s H E hr=>?_
 have nd:=gR.nd
 refine⟨_,(zB (xC 2 nd (yH ig hr (zA (pv 1) zE))) (zB (vP (i:=3) (own:=["stand"]) (ix:=[]) nd rfl rfl rfl rfl rfl (yR rfl B.range (zA (RM aJ hr (pv 0)) zE)) (λC s H fp=>yA (i:=0) (show(["stand"]:List Str).Nodup from by decide +kernel) rfl (Or.inl rfl)) (λC s H fp=>xU) (λC s H fp=>yB)) (zB (xB aak rfl (yD K (pv 1)) (bL 4 nd) (zB (Hh (wO Ny (yH ig hr (zA (Ox aQ hr (pv 0) (zA (pv 4) zE)) zE)) (pv 2)) (Nq (pv 3) (pv 4) Lj)) zG)) (zB (xB aak rfl (yD K (pv 1)) (bL 5 nd) (zB (xB aak rfl (yD K (pv 1)) (bL 4 nd) (zB (xP (VP K (wO Ny (wO QZ (xQ (bK K) (pv 3) (pv 4) (λ_ _=>rfl)) (pv 5)) yB)) (zB (Av (pv 3) (pv 4) (zO8 K) (xQ (bK K) (pv 3) (pv 5) (λ_ _=>rfl)) Gp Lj) zG) zG) zG)) zG)) (zB (zV (pv 3)) zG))))),?_⟩
 rintro Fa ⟨q0,q1,⟨⟩⟩
 exact SB.of (zN (yN true 2 rfl rfl (esc (zQ (zH (zD 1 rfl) zP)))) (λcX=>(zN (vR true 3 rfl rfl (yS (n:=true) (fu:=[.un]) (no:=1) (ix:=[]) rfl rfl (xK (Cd (by decide +kernel) (zD 0 rfl) zP)) (zT 0 rfl rfl) (λx4=>uK) (λx4=>(esc (zW 0))) (λx4=>dj))) (λdM=>(zN (xS (n:=false) (L:=(λs5:LI=>([.z q0,.z q1,.y cX,.ow true s5,.un,.un]:SL K))) dM aU (yE (yF 1 rfl)) (λs5=>(zT 4 rfl rfl)) (λs5 x7=>(zK (Ol 3 rfl rfl (esc (Pk (zQ (zH (Cd (by decide +kernel) (zD 0 rfl) (zH (esc (zF 4 rfl)) zP)) zP)) (zF 2 rfl))) (zF 4 rfl)) (λyp=>(zR (λs5:LI=>([.z q0,.z q1,.y cX,.ow true s5,.un,.un]:SL K)) yp aU))))) (λs6=>(zN (xS (n:=false) (L:=(λDm:LI=>([.z q0,.z q1,.y cX,.ow true Dm,.un,.un]:SL K))) s6 aU (yE (yF 1 rfl)) (λDm=>(zT 5 rfl rfl)) (λDm Kd=>(zK (xS (n:=false) (L:=(λt_:LI=>([.z q0,.z q1,.y cX,.ow true t_,.un,.z Kd]:SL K))) Dm aU (yE (yF 1 rfl)) (λt_=>(zT 4 rfl rfl)) (λt_ x18=>(zK (vL (VR (Pk (R_ (esc (wA (uJ 3 rfl) (zF 4 rfl))) (zF 5 rfl)) (zW 1))) (zK (zQx 3 rfl rfl (zF 4 rfl) (esc (wA (uJ 3 rfl) (zF 5 rfl)))) (λqL=>(zR (λDp:LI=>([.z q0,.z q1,.y cX,.ow true Dp,.z x18,.z Kd]:SL K)) qL aU))) (zR (λDp:LI=>([.z q0,.z q1,.y cX,.ow true Dp,.z x18,.z Kd]:SL K)) t_ aU)) (λuc=>(zR (λt_:LI=>([.z q0,.z q1,.y cX,.ow true t_,.un,.z Kd]:SL K)) uc aU))))) (λDn=>(zR (λDm:LI=>([.z q0,.z q1,.y cX,.ow true Dm,.un,.un]:SL K)) Dn aU))))) (λo_=>(BK 3 rfl rfl))))))))) (by unfold wR;simp only[bnd])
def Qg(q0:aG C)(q1:LI):Option (List LI):=(Mg q1).bind λcY=>(wR q0 cY).bind λdM=>(some (([]:List LI))).bind λyq=>(some ()).bind λQh=>((some cY).bind λxs=>yU (λ(s5:(List LI)×(List (Key×Bool))) (x7:Int)=>((if(!(iB (Dc.mk s5.2).kv x7).isSome)=true then(((bF dM x7).bind λa8=>iZ a8 x7).bind λa9=>some (aay a9 (1:Int))).bind λa10=>some (a10 != 0) else some false).bind λb=>if b=true then((some cY).bind λxs=>yQ (λ(kh:Int)=>((((bF dM x7).bind λa15=>iZ a15 kh).bind λa17=>((bF dM kh).bind λa16=>iZ a16 x7).bind λWK=>some (aay a17 WK)).bind λa19=>some (aay a19 (1:Int))).bind λa20=>some (a20 != 0)) (λ(kh:Int)=>some kh) xs).bind λmj=>(push s5.1 mj).bind λfU=>((some mj).bind λxs=>yU (λ(uc:List (Key×Bool)) (x24:Int)=>(dput uc x24 true).bind λqM=>some qM) xs s5.2).bind λDp=>some (fU,Dp) else some (s5.1,s5.2)).bind λeN=>some (eN.1,eN.2)) xs ((yq,([]:List (Key×Bool))))).bind λs6=>some s6.1
theorem qb:ao ["machine","within","stands","rows","told","done","stand","ring","other"] ["machine","within"] (zI oO):=fsc
abbrev zP8(K:PySem.W.Frag)(C:Addr):Sp:=cL K false (λa:(aG C)×LI×Unit=>([.z a.1,.z a.2.1]:SL K)) (λa=>Qg a.1 a.2.1)
theorem zRi(F:aY K "rings" "rings" oO f fd)(B:Bl K mg)(bY:mg "sorted" = none)(oY:mg "set" = none)(eU:cu P w K mg base k "onward_bits" ["machine","within"] (zB6 K C)):au P w K mg base aP (k+1) f fd ["machine","within"] (zP8 K C):=by
 refine yJ F qb (λ_=>rfl) (λ_=>rfl) λcdv A outer s H E hr=>?_
 have nd:=qb.nd
 have hu:=vf hr
 refine⟨_,(zB (xC 2 nd (Vy rfl bY (Pj K rfl oY (pv 1)))) (zB (xC 3 nd (yH eU hr (zA (pv 0) (zA (pv 2) zE)))) (zB (xC 4 nd (wY zE)) (zB (xC 5 nd T8) (zB (xB aak rfl (yD K (pv 2)) (bL 6 nd) (zB (xP (PW.pt (pw_and (Eu (zOa hu (pv 6) (pv 5))) (pw_and1 (VP K (wO Ny (wO QZ (xQ (bK K) (pv 3) (pv 6) (λ_ _=>rfl)) (pv 6)) yB))))) (zB (vP (i:=7) (own:=["other"]) (ix:=[3,6]) nd rfl rfl rfl rfl rfl (yD K (pv 2)) (λC s H fp=>yA (i:=0) (show(["other","rows","stand"]:List Str).Nodup from by decide +kernel) rfl (Or.inl rfl)) (λC s H fp=>uV (VP K (wO Ny (wO Ny (wO QZ (xQ (bK K) (pv 1) (pv 2) (λ_ _=>rfl)) (pv 0)) (wO QZ (xQ (bK K) (pv 1) (pv 0) (λ_ _=>rfl)) (pv 2))) yB))) (λC s H fp=>(pv 0))) (zB (zZ (sy K aaq aav aaw xO (pv 4) (zA (pv 7) zE))) (zB (xB aak rfl (yD K (pv 7)) (bL 8 nd) (zB (T7 hu (pv 5) (pv 8) Al rfl) zG)) zG))) zG) zG)) (zB (zV (pv 4)) zG)))))),?_⟩
 rintro Fa ⟨q0,q1,⟨⟩⟩
 exact SB.of (zN (yN true 2 rfl rfl (zMn (zD 1 rfl)).ex) (λcY=>(zN (yN true 3 rfl rfl (zQ (zH (zD 0 rfl) (zH (zD 2 rfl) zP)))) (λdM=>(zN (vR true 4 rfl rfl (vT (α:=LI))) (λyq=>(zN (UL (α:=Bool) 5 rfl rfl) (λQh=>(zN (xS (n:=true) (L:=(λs5:(List LI)×(List (Key×Bool))=>([.z q0,.z q1,.y cY,.y dM,.ow true s5.1,.od (s5.2:List (Key×Bool)),.un,.un,.un]:SL K))) ((yq,([]:List (Key×Bool)))) aU (yE (yF 2 rfl)) (λs5=>(zT 6 rfl rfl)) (λs5 x7=>(zK (vL (Rv (b_ (md:=.hp) (zPf (zF 6 rfl) (Vk 5 rfl))) (VR (Pk (R_ (esc (wA (zD 3 rfl) (zF 6 rfl))) (zF 6 rfl)) (zW 1)))) (zK (yN true 7 rfl rfl (yS (n:=true) (fu:=[.un,.y dM,.y x7]) (no:=1) (ix:=[3,6]) rfl rfl (yE (yF 2 rfl)) (zT 0 rfl rfl) (λkh=>(VR (Pk (Pk (R_ (esc (wA (zD 1 rfl) (zF 2 rfl))) (zF 0 rfl)) (R_ (esc (wA (zD 1 rfl) (zF 0 rfl))) (zF 2 rfl))) (zW 1)))) (λkh=>(esc (zF 0 rfl))) (λkh=>dj)).ex) (λmj=>(zK (wG 4 rfl rfl (yF 7 rfl)) (λfU=>(zK (xS (n:=true) (L:=(λuc:List (Key×Bool)=>([.z q0,.z q1,.y cY,.y dM,.ow true fU,.od (uc:List (Key×Bool)),.y x7,.y mj,.un]:SL K))) s5.2 aU (yE (yF 7 rfl)) (λuc=>(zT 8 rfl rfl)) (λuc x24=>(zK (ZF 5 rfl rfl (esc (Bx true)) (zF 8 rfl)) (λqM=>(zR (λuc:List (Key×Bool)=>([.z q0,.z q1,.y cY,.y dM,.ow true fU,.od (uc:List (Key×Bool)),.y x7,.y mj,.un]:SL K)) qM aU))))) (λDp=>(zR (λs12:(List LI)×(List (Key×Bool))=>([.z q0,.z q1,.y cY,.y dM,.ow true s12.1,.od (s12.2:List (Key×Bool)),.y x7,.un,.un]:SL K)) (fU,Dp) aU))))))) (zR (λs12:(List LI)×(List (Key×Bool))=>([.z q0,.z q1,.y cY,.y dM,.ow true s12.1,.od (s12.2:List (Key×Bool)),.y x7,.un,.un]:SL K)) (s5.1,s5.2) aU)) (λeN=>(zR (λs5:(List LI)×(List (Key×Bool))=>([.z q0,.z q1,.y cY,.y dM,.ow true s5.1,.od (s5.2:List (Key×Bool)),.un,.un,.un]:SL K)) (eN.1,eN.2) aU))))) (λs6=>(BK 4 rfl rfl))))))))))) (by unfold Qg;simp only[bnd])
def uE(q0:aG C)(q1:LI):Option (Option Int):=((xT (q0.fair.length:Int)).bind λxs=>vZ (λ(s1:Unit) (x3:Int)=>((((((xD q0 x3).bind λa5=>some ((a5,()))).bind λb6=>some (q1,b6)).bind λz4=>vW z4.1 z4.2.1).bind λa7=>some (a7.length:Int)).bind λa8=>some (decide (a8=(0:Int)))).bind λb=>if b=true then(some (some x3)).bind λb=>some (.rt b) else some (.nx ())) xs ()).bind λo=>o.els λs2=>some (none:Option Int)
theorem jx:ao ["machine","ring","number"] ["machine","ring"] (zI gG):=fsc
abbrev zEt(K:PySem.W.Frag)(C:Addr):Sp:=cL K false (λa:(aG C)×LI×Unit=>([.z a.1,.z a.2.1]:SL K)) (λa=>uE a.1 a.2.1)
theorem zHo(F:aY K "missed_by" "missed_by" gG f fd)(B:Bl K mg)(T:Cl K mg C)(cI:fG P w K mg base k C "fair_at" ["self","number"] (zAh K C))(fj:cu P w K mg base k "shared" ["one","other"] (WD K)):au P w K mg base aP (k+1) f fd ["machine","ring"] (zEt K C):=by
 refine yJ F jx (λ_=>rfl) (λ_=>rfl) λcdv A outer s H E hr=>?_
 have nd:=jx.nd
 refine⟨_,(zB (xB aak rfl (yR rfl B.range (zA (zS (su K) rfl B.len aa7 (zA (FZ K (pv 0)) zE)) zE)) (bL 2 nd) (zB (xP (yV (Ad K Int hr) (zS (su K) rfl B.len aa7 (zA (yH fj hr (zA (pv 1) (zA (Ox cI hr (pv 0) (zA (pv 2) zE)) zE))) zE)) yB (wW _)) (zB (zV (pv 2)) zG) zG) zG)) (zB (zV Xx) zG)),?_⟩
 rintro Fa ⟨q0,q1,⟨⟩⟩
 exact SB.of (Uz (U3 (n:=true) (L:=(λs1:Unit=>([.z q0,.z q1,.un]:SL K))) () aU (xK (tX (Zj T.cl T.nF (zD 0 rfl)))) (λs1=>(zT 2 rfl rfl)) (λs1 x3=>(UJ (yW (md:=.hp) (Ae (tX (zQ (zH (zD 1 rfl) (zH (Cd (by decide +kernel) (zD 0 rfl) (zH (esc (zF 2 rfl)) zP)) zP)))) (zW 0))) (yI (esc (Uw (zF 2 rfl)))) (UG (λs1:Unit=>([.z q0,.z q1,.un]:SL K)) () aU)))) (λs2=>(yI (esc (Y0 (α:=Int)))))) (by unfold uE;simp only[bnd])
def wM(q0:aG C)(q1:LI):Option (List LI):=(Qg q0 q1).bind λxs=>yQ (λ(x1:LI)=>(uE q0 x1).bind λa2=>some a2.isNone) (λ(x1:LI)=>some x1) xs
theorem iV:ao ["machine","within"] ["machine","within"] (zI fK):=fsc
abbrev zC7(K:PySem.W.Frag)(C:Addr):Sp:=cL K false (λa:(aG C)×LI×Unit=>([.z a.1,.z a.2.1]:SL K)) (λa=>wM a.1 a.2.1)
theorem zGc(F:aY K "fair_rings" "fair_rings" fK f fd)(B:Bl K mg)(gU:cu P w K mg base k "missed_by" ["machine","ring"] (zEt K C))(pA:cu P w K mg base k "rings" ["machine","within"] (zP8 K C)):au P w K mg base aP (k+1) f fd ["machine","within"] (zC7 K C):=by
 refine yJ F iV (λ_=>rfl) (λ_=>rfl) λcdv A outer s H E hr=>?_
 have nd:=iV.nd
 refine⟨_,(zB (zV (wL (own:=["ring"]) (ix:=[0]) rfl rfl rfl (yD K (yH pA hr (zA (pv 0) (zA (pv 1) zE)))) (λC s H fp=>yA (i:=0) (show(["ring","machine"]:List Str).Nodup from by decide +kernel) rfl (Or.inl rfl)) (λC s H fp=>uV (Eu (QK (yH gU hr (zA (pv 1) (zA (pv 0) zE)))))) (λC s H fp=>(pv 0)))) zG),?_⟩
 rintro Fa ⟨q0,q1,⟨⟩⟩
 exact SB.of (yI (yS (n:=true) (fu:=[.un,.z q0]) (no:=1) (ix:=[0]) rfl rfl (yE (zQ (zH (zD 0 rfl) (zH (zD 1 rfl) zP)))) (zT 0 rfl rfl) (λx1=>(b_ (md:=.hp) (RG (zQ (zH (zD 1 rfl) (zH (zD 0 rfl) zP)))))) (λx1=>(yF 0 rfl)) (λx1=>dj)).ex) (by unfold wM;simp only[bnd])
def Ke(q0:List LI):Option LI:=(some ([]:LI)).bind λdJ=>((some q0).bind λxs=>yU (λ(s2:LI) (x4:LI)=>(wj s2 x4).bind λlY=>some lY) xs dJ).bind λs3=>some s3
theorem nQ:ao ["lists","told","things"] ["lists"] (zI lG):=fsc
abbrev zK8(K:PySem.W.Frag):Sp:=cL K false (λa:((List LI))×Unit=>([.z a.1]:SL K)) (λa=>Ke a.1)
theorem zOk(F:aY K "joined" "joined" lG f fd)(B:Bl K mg):au P w K mg base aP (k+1) f fd ["lists"] (zK8 K):=by
 refine yJ F nQ (λ_=>rfl) (λ_=>rfl) λcdv A outer s H E hr=>?_
 have nd:=nQ.nd
 refine⟨_,(zB (xC 1 nd (wY zE)) (zB (xB aak rfl (yD K (pv 0)) (bL 2 nd) (zB (zZ (sy K aaq PySem.F.slot_list_extend PySem.F.type_list_extend Yv (pv 1) (zA (pv 2) zE))) zG)) (zB (zV (pv 1)) zG))),?_⟩
 rintro Fa ⟨q0,⟨⟩⟩
 exact SB.of (zN (vR true 1 rfl rfl (vT (α:=Int))) (λdJ=>(zN (xS (n:=false) (L:=(λs2:LI=>([.z q0,.ow true s2,.un]:SL K))) dJ aU (yE (yF 0 rfl)) (λs2=>(zT 2 rfl rfl)) (λs2 x4=>(zK (zNp 1 rfl rfl (zD 2 rfl)) (λlY=>(zR (λs2:LI=>([.z q0,.ow true s2,.un]:SL K)) lY aU))))) (λs3=>(BK 1 rfl rfl))))) (by unfold Ke;simp only[bnd])
def Qi(q0:aG C)(q1:LI):Option LI:=((((((wM q0 q1).bind λa2=>some ((a2,()))).bind λz1=>Ke z1.1).bind λa4=>some ((a4,()))).bind λb5=>some (q1,b5)).bind λb6=>some (q0,b6)).bind λz3=>uB z3.1 z3.2.1 z3.2.2.1
theorem rK:ao ["machine","within"] ["machine","within"] (zI qI):=fsc
abbrev zTq(K:PySem.W.Frag)(C:Addr):Sp:=cL K false (λa:(aG C)×LI×Unit=>([.z a.1,.z a.2.1]:SL K)) (λa=>Qi a.1 a.2.1)
theorem Dq(F:aY K "core" "core" qI f fd)(B:Bl K mg)(jf:cu P w K mg base k "comes_to" ["machine","through","goal"] (zFn K C))(fW:cu P w K mg base k "fair_rings" ["machine","within"] (zC7 K C))(mq:cu P w K mg base k "joined" ["lists"] (zK8 K)):au P w K mg base aP (k+1) f fd ["machine","within"] (zTq K C):=by
 refine yJ F rK (λ_=>rfl) (λ_=>rfl) λcdv A outer s H E hr=>?_
 have nd:=rK.nd
 refine⟨_,(zB (zV (yH jf hr (zA (pv 0) (zA (pv 1) (zA (yH mq hr (zA (yH fW hr (zA (pv 0) (zA (pv 1) zE))) zE)) zE))))) zG),?_⟩
 rintro Fa ⟨q0,q1,⟨⟩⟩
 exact SB.of (yI (zQ (zH (zD 0 rfl) (zH (zD 1 rfl) (zH (zQ (zH (zQ (zH (zD 0 rfl) (zH (zD 1 rfl) zP))) zP)) zP))))) (by unfold Qi;simp only[bnd])
def Qj(q0:aG C):Option LI:=(((yY q0).bind λa2=>some ((a2,()))).bind λb3=>some (q0,b3)).bind λz1=>Qi z1.1 z1.2.1
theorem qd:ao ["machine"] ["machine"] (zI s_alive):=fsc
abbrev zQc(K:PySem.W.Frag)(C:Addr):Sp:=cL K false (λa:(aG C)×Unit=>([.z a.1]:SL K)) (λa=>Qj a.1)
theorem zRn(F:aY K "alive" "alive" s_alive f fd)(B:Bl K mg)(qN:cu P w K mg base k "core" ["machine","within"] (zTq K C))(aK:cu P w K mg base k "everywhere" ["machine"] (vJ K C)):au P w K mg base aP (k+1) f fd ["machine"] (zQc K C):=by
 refine yJ F qd (λ_=>rfl) (λ_=>rfl) λcdv A outer s H E hr=>?_
 have nd:=qd.nd
 refine⟨_,(zB (zV (yH qN hr (zA (pv 0) (zA (yH aK hr (zA (pv 0) zE)) zE)))) zG),?_⟩
 rintro Fa ⟨q0,⟨⟩⟩
 exact SB.of (yI (zQ (zH (zD 0 rfl) (zH (zQ (zH (zD 0 rfl) zP)) zP)))) (by unfold Qj;simp only[bnd])
def xV(q0:aG C)(q1:LI)(q2:LI):Option LI:=(((yY q0).bind λa3=>((vW q1 q2).bind λa2=>some ((a2,()))).bind λb4=>some (a3,b4)).bind λb5=>some (q0,b5)).bind λz1=>wP z1.1 z1.2.1 z1.2.2.1
theorem jy:ao ["machine","living","part"] ["machine","living","part"] (zI gH):=fsc
abbrev zEs(K:PySem.W.Frag)(C:Addr):Sp:=cL K false (λa:(aG C)×LI×LI×Unit=>([.z a.1,.z a.2.1,.z a.2.2.1]:SL K)) (λa=>xV a.1 a.2.1 a.2.2.1)
theorem zHn(F:aY K "some_next" "some_next" gH f fd)(B:Bl K mg)(aK:cu P w K mg base k "everywhere" ["machine"] (vJ K C))(fj:cu P w K mg base k "shared" ["one","other"] (WD K))(eV:cu P w K mg base k "stepping_to" ["machine","among","goal"] (zB5 K C)):au P w K mg base aP (k+1) f fd ["machine","living","part"] (zEs K C):=by
 refine yJ F jy (λ_=>rfl) (λ_=>rfl) λcdv A outer s H E hr=>?_
 have nd:=jy.nd
 refine⟨_,(zB (zV (yH eV hr (zA (pv 0) (zA (yH aK hr (zA (pv 0) zE)) (zA (yH fj hr (zA (pv 1) (zA (pv 2) zE))) zE))))) zG),?_⟩
 rintro Fa ⟨q0,q1,q2,⟨⟩⟩
 exact SB.of (yI (zQ (zH (zD 0 rfl) (zH (zQ (zH (zD 0 rfl) zP)) (zH (zQ (zH (zD 1 rfl) (zH (zD 2 rfl) zP))) zP))))) (by unfold xV;simp only[bnd])
def yM(q0:aG C)(q1:LI)(q2:bH cl)(q3:List LI):Option LI:=if(cN (.one 1) q2.t)=true then((((bF q3 (0:Int)).bind λa2=>some ((a2,()))).bind λb3=>some (q1,b3)).bind λb4=>some (q0,b4)).bind λz1=>xV z1.1 z1.2.1 z1.2.2.1 else if(cN (.one 2) q2.t)=true then((((((((((bF q3 (0:Int)).bind λa6=>some ((a6,()))).bind λb7=>some (q0,b7)).bind λz5=>wQ z5.1 z5.2.1).bind λa9=>some ((a9,()))).bind λb10=>some (q1,b10)).bind λb11=>some (q0,b11)).bind λz8=>xV z8.1 z8.2.1 z8.2.2.1).bind λa13=>some ((a13,()))).bind λWv=>some (q0,Wv)).bind λz12=>wQ z12.1 z12.2.1 else(if(cN (.two 2) q2.t)=true then none else some ()).bind λKa=>(if(cN (.two 3) q2.t)=true then none else some ()).bind λDn=>(if(cN (.one 3) q2.t)=true then none else some ()).bind λqK=>(if(cN (.one 4) q2.t)=true then none else some ()).bind λs21=>(if(cN (.one 5) q2.t)=true then none else some ()).bind λDp=>none
theorem cO:ao ["machine","living","saying","sets"] ["machine","living","saying","sets"] (zI bO):=fsc
abbrev vV(K:PySem.W.Frag)(C:Addr)(cl:Hd->Addr):Sp:=cL K false (λa:(aG C)×LI×(bH cl)×((List LI))×Unit=>([.z a.1,.z a.2.1,.z a.2.2.1,.z a.2.2.2.1]:SL K)) (λa=>yM a.1 a.2.1 a.2.2.1 a.2.2.2.1)
theorem zAv(F:aY K "meaning_over_walks" "meaning_over_walks" bO f fd)(B:Bl K mg)(I:oK P w K mg base kS cl fi di)(dN:cu P w K mg base k "others" ["machine","stands"] (Wz K C))(dU:cu P w K mg base k "some_next" ["machine","living","part"] (zEs K C)):au P w K mg base aP (k+1) f fd ["machine","living","saying","sets"] (vV K C cl):=by
 refine yJ F cO (λ_=>rfl) (λ_=>rfl) λcdv A outer s H E hr=>?_
 have nd:=cO.nd
 refine⟨_,(zB (xP (xM (zS (wZ K (vO (a:=cl (.one 1)))) rfl B.nD vA (zA (pv 2) (zA (wD (v:=.ref (cl (.one 1))) rfl (I.ini.m1 1) rfl) zE)))) (zB (zV (yH dU hr (zA (pv 0) (zA (pv 1) (zA (xQ (bK K) (pv 3) yB (λ_ _=>rfl)) zE))))) zG) zG) (zB (xP (xM (zS (wZ K (vO (a:=cl (.one 2)))) rfl B.nD vA (zA (pv 2) (zA (wD (v:=.ref (cl (.one 2))) rfl (I.ini.m1 2) rfl) zE)))) (zB (zV (yH dN hr (zA (pv 0) (zA (yH dU hr (zA (pv 0) (zA (pv 1) (zA (yH dN hr (zA (pv 0) (zA (xQ (bK K) (pv 3) yB (λ_ _=>rfl)) zE))) zE)))) zE)))) zG) zG) (zB (xP (xM (zS (wZ K (vO (a:=cl (.two 2)))) rfl B.nD vA (zA (pv 2) (zA (wD (v:=.ref (cl (.two 2))) rfl (I.ini.m2 2) rfl) zE)))) yX zG) (zB (xP (xM (zS (wZ K (vO (a:=cl (.two 3)))) rfl B.nD vA (zA (pv 2) (zA (wD (v:=.ref (cl (.two 3))) rfl (I.ini.m2 3) rfl) zE)))) yX zG) (zB (xP (xM (zS (wZ K (vO (a:=cl (.one 3)))) rfl B.nD vA (zA (pv 2) (zA (wD (v:=.ref (cl (.one 3))) rfl (I.ini.m1 3) rfl) zE)))) yX zG) (zB (xP (xM (zS (wZ K (vO (a:=cl (.one 4)))) rfl B.nD vA (zA (pv 2) (zA (wD (v:=.ref (cl (.one 4))) rfl (I.ini.m1 4) rfl) zE)))) yX zG) (zB (xP (xM (zS (wZ K (vO (a:=cl (.one 5)))) rfl B.nD vA (zA (pv 2) (zA (wD (v:=.ref (cl (.one 5))) rfl (I.ini.m1 5) rfl) zE)))) yX zG) yX))))))),?_⟩
 rintro Fa ⟨q0,q1,q2,q3,⟨⟩⟩
 exact SB.of (Im (b_ (md:=.hp) (wJ I (.one 1) (zD 2 rfl))) (yI (zQ (zH (zD 0 rfl) (zH (zD 1 rfl) (zH (wA (zD 3 rfl) (zW 0)) zP))))) (Im (b_ (md:=.hp) (wJ I (.one 2) (zD 2 rfl))) (yI (zQ (zH (zD 0 rfl) (zH (zQ (zH (zD 0 rfl) (zH (zD 1 rfl) (zH (zQ (zH (zD 0 rfl) (zH (wA (zD 3 rfl) (zW 0)) zP))) zP)))) zP)))) (zN (vL (b_ (md:=.hp) (wJ I (.two 2) (zD 2 rfl))) xY (zR (λt_:Unit=>([.z q0,.z q1,.z q2,.z q3]:SL K)) () aU)) (λKa=>(zN (vL (b_ (md:=.hp) (wJ I (.two 3) (zD 2 rfl))) xY (zR (λqO:Unit=>([.z q0,.z q1,.z q2,.z q3]:SL K)) () aU)) (λDn=>(zN (vL (b_ (md:=.hp) (wJ I (.one 3) (zD 2 rfl))) xY (zR (λMw:Unit=>([.z q0,.z q1,.z q2,.z q3]:SL K)) () aU)) (λqK=>(zN (vL (b_ (md:=.hp) (wJ I (.one 4) (zD 2 rfl))) xY (zR (λuc:Unit=>([.z q0,.z q1,.z q2,.z q3]:SL K)) () aU)) (λs21=>(zN (vL (b_ (md:=.hp) (wJ I (.one 5) (zD 2 rfl))) xY (zR (λs24:Unit=>([.z q0,.z q1,.z q2,.z q3]:SL K)) () aU)) (λDp=>zQ3)))))))))))) (by unfold yM;simp only[bnd])
def wH(q0:aG C)(q1:LI)(q2:bH cl)(q3:List LI):Option LI:=if(cN .all q2.t)=true then yY q0 else if(cN .mark q2.t)=true then(q2.name.bind λa2=>some ((a2,()))).bind λz1=>yL q0 z1.1 else if(cN (.one 0) q2.t)=true then(((bF q3 (0:Int)).bind λa4=>some ((a4,()))).bind λb5=>some (q0,b5)).bind λz3=>wQ z3.1 z3.2.1 else(if(cN (.two 0) q2.t)=true then none else some ()).bind λs6=>(if(cN (.two 1) q2.t)=true then none else some ()).bind λs8=>yM q0 q1 q2 q3
theorem mz:ao ["machine","living","saying","sets"] ["machine","living","saying","sets"] (zI jJ):=fsc
abbrev zIh(K:PySem.W.Frag)(C:Addr)(cl:Hd->Addr):Sp:=cL K false (λa:(aG C)×LI×(bH cl)×((List LI))×Unit=>([.z a.1,.z a.2.1,.z a.2.2.1,.z a.2.2.2.1]:SL K)) (λa=>wH a.1 a.2.1 a.2.2.1 a.2.2.2.1)
theorem zLz(F:aY K "meaning" "meaning" jJ f fd)(B:Bl K mg)(I:oK P w K mg base kS cl fi di)(cV:fG P w K mg base k C "marked" ["self","name"] (zAp K C))(aK:cu P w K mg base k "everywhere" ["machine"] (vJ K C))(bT:cu P w K mg base k "meaning_over_walks" ["machine","living","saying","sets"] (vV K C cl))(dN:cu P w K mg base k "others" ["machine","stands"] (Wz K C)):au P w K mg base aP (k+1) f fd ["machine","living","saying","sets"] (zIh K C cl):=by
 refine yJ F mz (λ_=>rfl) (λ_=>rfl) λcdv A outer s H E hr=>?_
 have nd:=mz.nd
 refine⟨_,(zB (xP (xM (zS (wZ K (vO (a:=cl .all))) rfl B.nD vA (zA (pv 2) (zA (wD (v:=.ref (cl .all)) rfl I.ini.mA rfl) zE)))) (zB (zV (yH aK hr (zA (pv 0) zE))) zG) zG) (zB (xP (xM (zS (wZ K (vO (a:=cl .mark))) rfl B.nD vA (zA (pv 2) (zA (wD (v:=.ref (cl .mark)) rfl I.ini.mM rfl) zE)))) (zB (zV (Ox cV hr (pv 0) (zA (FZ K (pv 2)) zE))) zG) zG) (zB (xP (xM (zS (wZ K (vO (a:=cl (.one 0)))) rfl B.nD vA (zA (pv 2) (zA (wD (v:=.ref (cl (.one 0))) rfl (I.ini.m1 0) rfl) zE)))) (zB (zV (yH dN hr (zA (pv 0) (zA (xQ (bK K) (pv 3) yB (λ_ _=>rfl)) zE)))) zG) zG) (zB (xP (xM (zS (wZ K (vO (a:=cl (.two 0)))) rfl B.nD vA (zA (pv 2) (zA (wD (v:=.ref (cl (.two 0))) rfl (I.ini.m2 0) rfl) zE)))) yX zG) (zB (xP (xM (zS (wZ K (vO (a:=cl (.two 1)))) rfl B.nD vA (zA (pv 2) (zA (wD (v:=.ref (cl (.two 1))) rfl (I.ini.m2 1) rfl) zE)))) yX zG) (zB (zV (yH bT hr (zA (pv 0) (zA (pv 1) (zA (pv 2) (zA (pv 3) zE)))))) zG)))))),?_⟩
 rintro Fa ⟨q0,q1,q2,q3,⟨⟩⟩
 exact SB.of (Im (b_ (md:=.hp) (wJ I .all (zD 2 rfl))) (yI (zQ (zH (zD 0 rfl) zP))) (Im (b_ (md:=.hp) (wJ I .mark (zD 2 rfl))) (yI (Cd (by decide +kernel) (zD 0 rfl) (zH (esc (esc (zMk I (zD 2 rfl)))) zP))) (Im (b_ (md:=.hp) (wJ I (.one 0) (zD 2 rfl))) (yI (zQ (zH (zD 0 rfl) (zH (wA (zD 3 rfl) (zW 0)) zP)))) (zN (vL (b_ (md:=.hp) (wJ I (.two 0) (zD 2 rfl))) xY (zR (λs7:Unit=>([.z q0,.z q1,.z q2,.z q3]:SL K)) () aU)) (λs6=>(zN (vL (b_ (md:=.hp) (wJ I (.two 1) (zD 2 rfl))) xY (zR (λs9:Unit=>([.z q0,.z q1,.z q2,.z q3]:SL K)) () aU)) (λs8=>(yI (zQ (zH (zD 0 rfl) (zH (zD 1 rfl) (zH (zD 2 rfl) (zH (zD 3 rfl) zP))))))))))))) (by unfold wH;simp only[bnd])
def zY(rec:(aG C)->LI->(bH cl)->Option (List LI))(q0:aG C)(q1:LI)(q2:bH cl):Option (List LI):=(some (([]:List LI))).bind λdJ=>(some (([]:List LI))).bind λyr=>((some q2.parts).bind λxs=>yU (λ(s3:(List LI)×(List LI)) (x5:bH cl)=>((rec q0 q1 x5).bind λa7=>sS s3.1 a7).bind λrN=>((bF rN (-(1:Int))).bind λa9=>push s3.2 a9).bind λyt=>some (rN,yt)) xs (dJ,yr)).bind λs4=>((wH q0 q1 q2 s4.2).bind λa11=>push s4.1 a11).bind λyu=>some yu
def yC:Nat->(aG C)->LI->(bH cl)->Option (List LI)
 |0=>λ_ _ _=>none
 |n+1=>zY (yC n)
theorem gW:ao ["machine","living","saying","told","sets","part"] ["machine","living","saying"] (zI d_):=fsc
abbrev uA(K:PySem.W.Frag)(C:Addr)(cl:Hd->Addr)(rec:(aG C)->LI->(bH cl)->Option (List LI)):Sp:=cL K false (λa:(aG C)×LI×(bH cl)×Unit=>([.z a.1,.z a.2.1,.z a.2.2.1]:SL K)) (λa=>rec a.1 a.2.1 a.2.2.1)
abbrev zB4(K:PySem.W.Frag)(C:Addr)(cl:Hd->Addr):Sp:=uA K C cl (yC 6 )
theorem zEx(F:aY K "table_among" "table_among" d_ f fd)(B:Bl K mg)(I:oK P w K mg base kS cl fi di)(jP:cu P w K mg base k "meaning" ["machine","living","saying","sets"] (zIh K C cl))(cg:cu P w K mg base k "table_among" ["machine","living","saying"] (uA K C cl rec)):au P w K mg base aP (k+1) f fd ["machine","living","saying"] (uA K C cl (zY rec)):=by
 refine yJ F gW (λ_=>rfl) (λ_=>rfl) λcdv A outer s H E hr=>?_
 have nd:=gW.nd
 refine⟨_,(zB (xC 3 nd (wY zE)) (zB (xC 4 nd (wY zE)) (zB (xB aak rfl (JD K (FZ K (pv 2))) (bL 5 nd) (zB (zZ (sy K aaq PySem.F.slot_list_extend PySem.F.type_list_extend Yv (pv 3) (zA (yH cg hr (zA (pv 0) (zA (pv 1) (zA (pv 5) zE)))) zE))) (zB (zZ (sy K aaq aav aaw xO (pv 4) (zA (xQ (bK K) (pv 3) (Fd XM yB) (λ_ _=>rfl)) zE))) zG))) (zB (zZ (sy K aaq aav aaw xO (pv 3) (zA (yH jP hr (zA (pv 0) (zA (pv 1) (zA (pv 2) (zA (pv 4) zE))))) zE))) (zB (zV (pv 3)) zG))))),?_⟩
 rintro Fa ⟨q0,q1,q2,⟨⟩⟩
 exact SB.of (zN (vR true 3 rfl rfl (vT (α:=LI))) (λdJ=>(zN (vR true 4 rfl rfl (vT (α:=LI))) (λyr=>(zN (xS (n:=false) (L:=(λs3:(List LI)×(List LI)=>([.z q0,.z q1,.z q2,.ow true s3.1,.ow true s3.2,.un]:SL K))) (dJ,yr) aU (zSb I (yF 2 rfl)) (λs3=>(zT 5 rfl rfl)) (λs3 x5=>(zK (zLo 3 rfl rfl (zQ (zH (zD 0 rfl) (zH (zD 1 rfl) (zH (zD 5 rfl) zP))))) (λrN=>(zK (wG 4 rfl rfl (Iu 3 rfl (Zy (zW 1)))) (λyt=>(zR (λs3:(List LI)×(List LI)=>([.z q0,.z q1,.z q2,.ow true s3.1,.ow true s3.2,.un]:SL K)) (rN,yt) aU))))))) (λs4=>(zN (wG 3 rfl rfl (zQ (zH (zD 0 rfl) (zH (zD 1 rfl) (zH (zD 2 rfl) (zH (uJ 4 rfl) zP)))))) (λyu=>(BK 3 rfl rfl))))))))) (by unfold zY;simp only[bnd])
def S5(q0:aG C)(q1:bH cl):Option (List LI):=(((Qj q0).bind λa2=>some ((a2,(q1,())))).bind λb3=>some (q0,b3)).bind λz1=>yC 6 z1.1 z1.2.1 z1.2.2.1
theorem qe:ao ["machine","saying"] ["machine","saying"] (zI oR):=fsc
abbrev zP7(K:PySem.W.Frag)(C:Addr)(cl:Hd->Addr):Sp:=cL K false (λa:(aG C)×(bH cl)×Unit=>([.z a.1,.z a.2.1]:SL K)) (λa=>S5 a.1 a.2.1)
theorem zRh(F:aY K "table" "table" oR f fd)(B:Bl K mg)(pB:cu P w K mg base k "alive" ["machine"] (zQc K C))(cg:cu P w K mg base k "table_among" ["machine","living","saying"] (zB4 K C cl)):au P w K mg base aP (k+1) f fd ["machine","saying"] (zP7 K C cl):=by
 refine yJ F qe (λ_=>rfl) (λ_=>rfl) λcdv A outer s H E hr=>?_
 have nd:=qe.nd
 refine⟨_,(zB (zV (yH cg hr (zA (pv 0) (zA (yH pB hr (zA (pv 0) zE)) (zA (pv 1) zE))))) zG),?_⟩
 rintro Fa ⟨q0,q1,⟨⟩⟩
 exact SB.of (yI (zQ (zH (zD 0 rfl) (zH (zQ (zH (zD 0 rfl) zP)) (zH (zD 1 rfl) zP))))) (by unfold S5;simp only[bnd])
def uX(q0:aG C)(q1:bH cl):Option LI:=(S5 q0 q1).bind λa1=>bF a1 (-(1:Int))
theorem qg:ao ["machine","saying"] ["machine","saying"] (zI oV):=fsc
abbrev zQb(K:PySem.W.Frag)(C:Addr)(cl:Hd->Addr):Sp:=cL K false (λa:(aG C)×(bH cl)×Unit=>([.z a.1,.z a.2.1]:SL K)) (λa=>uX a.1 a.2.1)
theorem zRl(F:aY K "holds" "holds" oV f fd)(B:Bl K mg)(pC:cu P w K mg base k "table" ["machine","saying"] (zP7 K C cl)):au P w K mg base aP (k+1) f fd ["machine","saying"] (zQb K C cl):=by
 refine yJ F qg (λ_=>rfl) (λ_=>rfl) λcdv A outer s H E hr=>?_
 have nd:=qg.nd
 refine⟨_,(zB (zV (xQ (bK K) (yH pC hr (zA (pv 0) (zA (pv 1) zE))) (Fd XM yB) (λ_ _=>rfl))) zG),?_⟩
 rintro Fa ⟨q0,q1,⟨⟩⟩
 exact SB.of (yI (wA (zQ (zH (zD 0 rfl) (zH (zD 1 rfl) zP))) (Zy (zW 1)))) (by unfold uX;simp only[bnd])
end
end Ts
set_option maxHeartbeats 40000000
namespace Ts
open PySem L2 Sy
section
variable{P:Program}{w:World}{K:PySem.W.Frag}{mg:Str->Option Value}{base:Heap}
def wT(q0:LI) :Option (Int×LI):=if(decide ((q0.length:Int)=(0:Int)))=true then some ((0:Int),q0) else q0.getLast?.bind λy=>some (y,q0.dropLast)
theorem nU:ao ["_law_rest"] ["_law_rest"] (zI lM):=fsc
abbrev WL(K:PySem.W.Frag):Sp:=JF K (λa:Unit=>([]:SL K)) (λws a=>wT ws )
theorem zOi(F:aY K "_law_cell" "_law_cell" lM f fd)(B:Bl K mg):au P w K mg base aP (k+1) f fd ["_law_rest"] (WL K):=by
 refine zPq F nU (λ_=>rfl) (λ_=>rfl) λcdv A outer s H E hr=>?_
 have nd:=nU.nd
 refine⟨_,(zB (xP (yV (Ad K Int hr) (zS (su K) rfl B.len aa7 (zA (pv 0) zE)) yB (wW _)) (zB (zV yB) zG) zG) (zB (zV (I8 K aaq PySem.F.slot_list_pop PySem.F.type_list_pop Ib (pv 0))) zG)),?_⟩
 rintro Fa p q0 ⟨⟩
 exact p7.of (CW (yW (md:=.hp) (Ae (C_ 0 rfl rfl) (zW 0))) (zNv 0 rfl rfl (esc (zW 0))) (zQ2 0 rfl rfl (CZ 0 rfl rfl))) (by unfold wT;simp only[bnd])
def vX(q0:Int)(q1:Int):Option LI:=(some ([]:LI)).bind λjg=>((xT q1).bind λxs=>yU (λ(s2:LI×Int) (x4:Int)=>(((gj s2.2 (2:Int)).bind λa5=>some (decide (a5=(1:Int)))).bind λb=>if b=true then(push s2.1 x4).bind λqP=>some qP else some s2.1).bind λs6=>(jm s2.2 (2:Int)).bind λjQ=>some (s6,jQ)) xs (jg,q0)).bind λs3=>some s3.1
theorem nY:ao ["_law_cell_here","_law_many","_law_found","_law_stand"] ["_law_cell_here","_law_many"] (zI lN):=fsc
abbrev zK7(K:PySem.W.Frag):Sp:=cL K false (λa:Int×Int×Unit=>([.z a.1,.z a.2.1]:SL K)) (λa=>vX a.1 a.2.1)
theorem zOj(F:aY K "_law_bits" "_law_bits" lN f fd)(B:Bl K mg):au P w K mg base aP (k+1) f fd ["_law_cell_here","_law_many"] (zK7 K):=by
 refine yJ F nY (λ_=>rfl) (λ_=>rfl) λcdv A outer s H E hr=>?_
 have nd:=nY.nd
 refine⟨_,(zB (xC 2 nd (wY zE)) (zB (xB aak rfl (yR rfl B.range (zA (pv 1) zE)) (bL 3 nd) (zB (xP (yV (Ad K Int hr) (wO Aw (pv 0) yB) yB (wW _)) (zB (zZ (sy K aaq aav aaw xO (pv 2) (zA (pv 3) zE))) zG) zG) (zB (xC 0 nd (wO Lg (pv 0) yB)) zG))) (zB (zV (pv 2)) zG))),?_⟩
 rintro Fa ⟨q0,q1,⟨⟩⟩
 exact SB.of (zN (vR true 2 rfl rfl (vT (α:=Int))) (λjg=>(zN (xS (n:=true) (L:=(λs2:LI×Int=>([.z s2.2,.z q1,.ow true s2.1,.un]:SL K))) (jg,q0) aU (xK (zF 1 rfl)) (λs2=>(zT 3 rfl rfl)) (λs2 x4=>(zK (vL (yW (md:=.hp) (Ae (BW (zF 0 rfl) (zW 2)) (zW 1))) (zK (wG 2 rfl rfl (esc (zF 3 rfl))) (λqP=>(zR (λs7:LI=>([.z s2.2,.z q1,.ow true s7,.y x4]:SL K)) qP aU))) (zR (λs7:LI=>([.z s2.2,.z q1,.ow true s7,.y x4]:SL K)) s2.1 aU)) (λs6=>(zK (yN true 0 rfl rfl (esc (Ly (zF 0 rfl) (zW 2)))) (λjQ=>(zR (λs2:LI×Int=>([.z s2.2,.z q1,.ow true s2.1,.un]:SL K)) (s6,jQ) (Le.old aU)))))))) (λs3=>(BK 2 rfl rfl))))) (by unfold vX;simp only[bnd])
def Mz(q0:Int)(q1:Int)(q2:Int):Option LI:=(some ([]:LI)).bind λjg=>(some q0).bind λyw=>((xT q2).bind λxs=>yU (λ(s3:LI×Int) (x5:Int)=>(((gj s3.2 (3:Int)).bind λa6=>some (decide (a6=(1:Int)))).bind λb=>if b=true then(push s3.1 x5).bind λqQ=>some qQ else some s3.1).bind λs7=>(jm s3.2 (3:Int)).bind λqR=>some (s7,qR)) xs (jg,yw)).bind λs4=>(if(decide (s4.1=([]:LI)))=true then((gj (q0+q1) q2).bind λa14=>push s4.1 a14).bind λpD=>some pD else some s4.1).bind λeN=>some eN
theorem nZ:ao ["_law_cell_here","_law_k","_law_many","_law_found","_law_rest","_law_stand"] ["_law_cell_here","_law_k","_law_many"] (zI lO):=fsc
abbrev zK5(K:PySem.W.Frag):Sp:=cL K false (λa:Int×Int×Int×Unit=>([.z a.1,.z a.2.1,.z a.2.2.1]:SL K)) (λa=>Mz a.1 a.2.1 a.2.2.1)
theorem zOg(F:aY K "_law_next" "_law_next" lO f fd)(B:Bl K mg):au P w K mg base aP (k+1) f fd ["_law_cell_here","_law_k","_law_many"] (zK5 K):=by
 refine yJ F nZ (λ_=>rfl) (λ_=>rfl) λcdv A outer s H E hr=>?_
 have nd:=nZ.nd
 refine⟨_,(zB (xC 3 nd (wY zE)) (zB (xC 4 nd (pv 0)) (zB (xB aak rfl (yR rfl B.range (zA (pv 2) zE)) (bL 5 nd) (zB (xP (yV (Ad K Int hr) (wO Aw (pv 4) yB) yB (wW _)) (zB (zZ (sy K aaq aav aaw xO (pv 3) (zA (pv 5) zE))) zG) zG) (zB (xC 4 nd (wO Lg (pv 4) yB)) zG))) (zB (xP (yV (Ad K LI hr) (pv 3) (wY zE) (wW _)) (zB (zZ (sy K aaq aav aaw xO (pv 3) (zA (wO Aw (wO QX (pv 0) (pv 1)) (pv 2)) zE))) zG) zG) (zB (zV (pv 3)) zG))))),?_⟩
 rintro Fa ⟨q0,q1,q2,⟨⟩⟩
 exact SB.of (zN (vR true 3 rfl rfl (vT (α:=Int))) (λjg=>(zN (yN true 4 rfl rfl (esc (zF 0 rfl))) (λyw=>(zN (xS (n:=true) (L:=(λs3:LI×Int=>([.z q0,.z q1,.z q2,.ow true s3.1,.y s3.2,.un]:SL K))) (jg,yw) aU (xK (zF 2 rfl)) (λs3=>(zT 5 rfl rfl)) (λs3 x5=>(zK (vL (yW (md:=.hp) (Ae (BW (zF 4 rfl) (zW 3)) (zW 1))) (zK (wG 3 rfl rfl (esc (zF 5 rfl))) (λqQ=>(zR (λs8:LI=>([.z q0,.z q1,.z q2,.ow true s8,.y s3.2,.y x5]:SL K)) qQ aU))) (zR (λs8:LI=>([.z q0,.z q1,.z q2,.ow true s8,.y s3.2,.y x5]:SL K)) s3.1 aU)) (λs7=>(zK (yN true 4 rfl rfl (esc (Ly (zF 4 rfl) (zW 3)))) (λqR=>(zR (λs3:LI×Int=>([.z q0,.z q1,.z q2,.ow true s3.1,.y s3.2,.un]:SL K)) (s7,qR) aU))))))) (λs4=>(zN (vL (yW (md:=.hp) (Ae (uJ 3 rfl) (vT (α:=Int)).ex)) (zK (wG 3 rfl rfl (esc (BW (RB (zF 0 rfl) (zF 1 rfl)) (zF 2 rfl)))) (λpD=>(zR (λs12:LI=>([.z q0,.z q1,.z q2,.ow true s12,.y s4.2,.un]:SL K)) pD aU))) (zR (λs12:LI=>([.z q0,.z q1,.z q2,.ow true s12,.y s4.2,.un]:SL K)) s4.1 aU)) (λeN=>(BK 3 rfl rfl))))))))) (by unfold Mz;simp only[bnd])
def Qk(q0:LI) :Option ((Gv (List LI) (List (Str×LI)) (List LI))×LI):=(wT q0 ).bind λaH=>(((jm aH.1 (8:Int)).bind λa3=>gj a3 (7:Int)).bind λb4=>some ((1:Int)+b4)).bind λmC=>(((gj aH.1 (8:Int)).bind λa5=>some (decide (a5=(1:Int)))).bind λb=>if b=true then(((jm aH.1 (8:Int)).bind λa9=>gj a9 (5:Int)).bind λb10=>some ((8:Int)+b10)).bind λqj=>some qj else some mC).bind λs6=>((xT s6).bind λxs=>JH (λ(w13:LI) (x12:Int)=>(wT w13 ).bind λr15=>(Mz r15.1 x12 s6).bind λb16=>some (b16,r15.2)) aH.2 xs).bind λbZ=>(some (([]:List (Str×LI)))).bind λkJ=>((some ([("p":Str),("wet":Str),("darkness":Str)])).bind λxs=>yU (λ(qO:(List (Str×LI))×LI) (x20:Str)=>((((wT qO.2 ).bind λr23=>(vX r23.1 s6).bind λWM=>some (WM,r23.2)).bind λr25=>some ((x20,r25.1),r25.2)).bind λr26=>(push qO.1 r26.1).bind λWQ=>some (WQ,r26.2)).bind λdW=>some (dW.1,dW.2)) xs (kJ,bZ.2)).bind λqK=>((((jm aH.1 (60:Int)).bind λa29=>gj a29 (4:Int)).bind λa30=>xT a30).bind λxs=>JH (λ(w32:LI) (x31:Int)=>(wT w32 ).bind λr34=>(vX r34.1 s6).bind λb35=>some (b35,r34.2)) qK.2 xs).bind λjh=>some (Gv.mk bZ.1 qK.1 jh.1,jh.2)
theorem mF:ao ["_law_rest","_law_cell_here","_law_many","_law_steps","_law_marks","_law_name","_law_fair"] ["_law_rest"] (zI jL):=fsc
abbrev zIj(K:PySem.W.Frag):Sp:=JF K (λa:Unit=>([]:SL K)) (λws a=>Qk ws )
theorem zL1(F:aY K "_law_drawn" "_law_drawn" jL f fd)(B:Bl K mg)(jA:cu P w K mg base k "_law_bits" ["_law_cell_here","_law_many"] (zK7 K))(cJ:cu P w K mg base k "_law_cell" ["_law_rest"] (WL K))(mG:cu P w K mg base k "_law_next" ["_law_cell_here","_law_k","_law_many"] (zK5 K)):au P w K mg base aP (k+1) f fd ["_law_rest"] (zIj K):=by
 refine zPq F mF (λ_=>rfl) (λ_=>rfl) λcdv A outer s H E hr=>?_
 have nd:=mF.nd
 refine⟨_,(zB (xC 1 nd (yH cJ hr (zA (pv 0) zE))) (zB (xC 2 nd (wO QX yB (wO Aw (wO Lg (pv 1) yB) yB))) (zB (xP (yV (Ad K Int hr) (wO Aw (pv 1) yB) yB (wW _)) (zB (xC 2 nd (wO QX yB (wO Aw (wO Lg (pv 1) yB) yB))) zG) zG) (zB (vP (i:=3) (own:=["_law_k"]) (ix:=[2,0]) nd rfl rfl rfl rfl rfl (yR rfl B.range (zA (pv 2) zE)) (λC s H fp=>yA (i:=0) (show(["_law_k","_law_many","_law_rest"]:List Str).Nodup from by decide +kernel) rfl (Or.inl rfl)) (λC s H fp=>xU) (λC s H fp=>(yH mG hr (zA (yH cJ hr (zA (pv 2) zE)) (zA (pv 0) (zA (pv 1) zE)))))) (zB (xC 4 nd (wY zE)) (zB (xB aak rfl (yD K (wY (zA uR (zA uR (zA uR zE))))) (bL 5 nd) (zB (zZ (sy K aaq aav aaw xO (pv 4) (zA (Fi (zA (pv 5) (zA (yH jA hr (zA (yH cJ hr (zA (pv 0) zE)) (zA (pv 2) zE))) zE))) zE))) zG)) (zB (vP (i:=6) (own:=["_law_k"]) (ix:=[2,0]) nd rfl rfl rfl rfl rfl (yR rfl B.range (zA (wO Aw (wO Lg (pv 1) yB) yB) zE)) (λC s H fp=>yA (i:=0) (show(["_law_k","_law_many","_law_rest"]:List Str).Nodup from by decide +kernel) rfl (Or.inl rfl)) (λC s H fp=>xU) (λC s H fp=>(yH jA hr (zA (yH cJ hr (zA (pv 2) zE)) (zA (pv 1) zE))))) (zB (zV (Fi (zA (pv 3) (zA (pv 4) (zA (pv 6) zE))))) zG)))))))),?_⟩
 rintro Fa p q0 ⟨⟩
 exact p7.of (JG (SJ true 1 (λ_=>⟨_,rfl,rfl⟩) (sX.ey (SM 0 rfl rfl zP))) (λaH=>(JR [.nu (RL.mk (p:=p) aH.2),.y aH.1,.un,.un,.un,.un,.un] (JG (yN true 2 rfl rfl (esc (RB (zW 1) (BW (Ly (zF 1 rfl) (zW 8)) (zW 7))))) (λmC=>(JR [.nu (RL.mk (p:=p) aH.2),.y aH.1,.y mC,.un,.un,.un,.un] (JG (vL (yW (md:=.hp) (Ae (BW (zF 1 rfl) (zW 8)) (zW 1))) (zK (yN true 2 rfl rfl (esc (RB (zW 8) (BW (Ly (zF 1 rfl) (zW 8)) (zW 5))))) (λqj=>(zR (λs7:Int=>([.nu (RL.mk (p:=p) aH.2),.y aH.1,.y s7,.un,.un,.un,.un]:SL K)) qj aU))) (zR (λs7:Int=>([.nu (RL.mk (p:=p) aH.2),.y aH.1,.y s7,.un,.un,.un,.un]:SL K)) mC aU)) (λs6=>(JR [.nu (RL.mk (p:=p) aH.2),.y aH.1,.y s6,.un,.un,.un,.un] (JG (SJ true 3 (λ_=>⟨_,rfl,rfl⟩) (sX.ey (PN.eyn (λ_=>⟨0,_,rfl,rfl⟩) (zKx (n:=true) (n':=true) (fu:=λw13:LI=>([.un,.y s6,.nu (RL.mk (p:=p) w13)]:SL K)) (no:=1) (ix:=[2,0]) 0 rfl rfl (zTh rfl rfl) (xK (zF 2 rfl)) (λw13=>zT 0 rfl rfl) (λw13 x12=>uK) (λw13 x12=>(V8 (as:=(λa:Int×Int×Unit=>([.z a.1,.z a.2.1]:SL K))) (f:=(λa=>Mz a.1 a.2.1 a.2.2.1)) (SM 2 rfl rfl zP) (λ_=>⟨2,_,rfl,rfl⟩) (λw14=>(zH (esc (zF 0 rfl)) (zH (esc (zF 1 rfl)) zP))))) (λw13 x12=>dj) (λw13 x12=>⟨2,rfl,rfl⟩))))) (λbZ=>(JR [.nu (RL.mk (p:=p) bZ.2),.y aH.1,.y s6,.y bZ.1,.un,.un,.un] (JG (vR true 4 rfl rfl (vT (α:=Str×LI))) (λkJ=>(JR [.nu (RL.mk (p:=p) bZ.2),.y aH.1,.y s6,.y bZ.1,.ow true kJ,.un,.un] (JG (xS (n:=true) (L:=(λqO:(List (Str×LI))×LI=>([.nu (RL.mk (p:=p) qO.2),.y aH.1,.y s6,.y bZ.1,.ow true qO.1,.un,.un]:SL K))) (kJ,bZ.2) aU (yE (Il (Ux (esc (Ru "p")) (Ux (esc (Ru "wet")) (Ux (esc (Ru "darkness")) Ik))) (λa h=>aas ((Vf (Vf (Vf Ce))) a h) (by decide))).ex) (λqO=>(zT 5 rfl rfl)) (λqO x20=>(zK (zLp (n:=true) 4 rfl rfl (λ_=>⟨rfl,rfl⟩) (zR8 (n:=true) (i:=0) rfl rfl (λ_=>⟨0,_,rfl,rfl⟩) (esc (zF 5 rfl)) (V8 (as:=(λa:Int×Unit=>([.z a.1]:SL K))) (f:=(λa=>vX a.1 a.2.1)) (SM 0 rfl rfl zP) (λ_=>⟨0,_,rfl,rfl⟩) (λw22=>(zH (esc (zF 2 rfl)) zP))))) (λdW=>(zR (λqO:(List (Str×LI))×LI=>([.nu (RL.mk (p:=p) qO.2),.y aH.1,.y s6,.y bZ.1,.ow true qO.1,.un,.un]:SL K)) (dW.1,dW.2) aU))))) (λqK=>(JR [.nu (RL.mk (p:=p) qK.2),.y aH.1,.y s6,.y bZ.1,.ow true qK.1,.un,.un] (JG (SJ true 6 (λ_=>⟨_,rfl,rfl⟩) (sX.ey (PN.eyn (λ_=>⟨0,_,rfl,rfl⟩) (zKx (n:=true) (n':=true) (fu:=λw32:LI=>([.un,.y s6,.nu (RL.mk (p:=p) w32)]:SL K)) (no:=1) (ix:=[2,0]) 0 rfl rfl (zTh rfl rfl) (xK (BW (Ly (zF 1 rfl) (zW 60)) (zW 4))) (λw32=>zT 0 rfl rfl) (λw32 x31=>uK) (λw32 x31=>(V8 (as:=(λa:Int×Unit=>([.z a.1]:SL K))) (f:=(λa=>vX a.1 a.2.1)) (SM 2 rfl rfl zP) (λ_=>⟨2,_,rfl,rfl⟩) (λw33=>(zH (esc (zF 1 rfl)) zP)))) (λw32 x31=>dj) (λw32 x31=>⟨2,rfl,rfl⟩))))) (λjh=>(JR [.nu (RL.mk (p:=p) jh.2),.y aH.1,.y s6,.y bZ.1,.ow true qK.1,.un,.y jh.1] (Dh (sl2:=[.nu (RL.mk (p:=p) jh.2),.y aH.1,.y s6,.y bZ.1,.y qK.1,.un,.y jh.1]) aU (zNv 0 rfl rfl (Dd (md:=dX true) (yF 3 rfl) (yF 4 rfl) (yF 6 rfl))))))))))))))))))))))))) (by unfold Qk;simp only[bnd])
def Ql(q0:List LI)(q1:LI)(q2:Int):Option (List Bool):=(xT (q0.length:Int)).bind λxs=>yQ (λ(x1:Int)=>some true) (λ(x1:Int)=>if(decide (q2∈q1))=true then if(decide (x1∈q1))=true then(bF q0 q2).bind λb2=>some (decide (x1∈b2)) else some false else some false) xs
theorem ql:ao ["_law_steps","_law_within","_law_s"] ["_law_steps","_law_within","_law_s"] (zI oW):=fsc
abbrev zQa(K:PySem.W.Frag):Sp:=cL K false (λa:((List LI))×LI×Int×Unit=>([.z a.1,.z a.2.1,.z a.2.2.1]:SL K)) (λa=>Ql a.1 a.2.1 a.2.2.1)
theorem zRk(F:aY K "_law_row" "_law_row" oW f fd)(B:Bl K mg):au P w K mg base aP (k+1) f fd ["_law_steps","_law_within","_law_s"] (zQa K):=by
 refine yJ F ql (λ_=>rfl) (λ_=>rfl) λcdv A outer s H E hr=>?_
 have nd:=ql.nd
 refine⟨_,(zB (zV (wL (own:=["_law_t"]) (ix:=[2,1,0]) rfl rfl rfl (yR rfl B.range (zA (zS (su K) rfl B.len aa7 (zA (pv 0) zE)) zE)) (λC s H fp=>yA (i:=0) (show(["_law_t","_law_s","_law_within","_law_steps"]:List Str).Nodup from by decide +kernel) rfl (Or.inl rfl)) (λC s H fp=>xU) (λC s H fp=>(G8 (Nz (FW K) (pv 1) (pv 2) (by with_unfolding_all rfl)) (G8 (Nz (FW K) (pv 0) (pv 2) (by with_unfolding_all rfl)) (K7 (Nz (FW K) (pv 0) (xQ (bK K) (pv 3) (pv 1) (λ_ _=>rfl)) (by with_unfolding_all rfl)))))))) zG),?_⟩
 rintro Fa ⟨q0,q1,q2,⟨⟩⟩
 exact SB.of (yI (yS (n:=true) (fu:=[.un,.z q2,.z q1,.z q0]) (no:=1) (ix:=[2,1,0]) rfl rfl (xK (tX (zD 0 rfl))) (zT 0 rfl rfl) (λx1=>uK) (λx1=>(esc (Ii (Iz (zF 1 rfl) (zD 2 rfl)) (Ii (Iz (zF 0 rfl) (zD 2 rfl)) (Iz (zF 0 rfl) (wA (zD 3 rfl) (zF 1 rfl))))))) (λx1=>dj)).ex) (by unfold Ql;simp only[bnd])
def uF(q0:List LI)(q1:LI):Option (List (List Bool)):=(some (q0.length:Int)).bind λmany1=>((xT many1).bind λxs=>yQ (λ(x3:Int)=>some true) (λ(x3:Int)=>Ql q0 q1 x3) xs).bind λKf=>((xT many1).bind λxs=>yU (λ(s4:List (List Bool)) (x6:Int)=>((xT many1).bind λxs=>yU (λ(s7:List (List Bool)) (x9:Int)=>(((bF s7 x9).bind λa10=>bF a10 x6).bind λb=>if b=true then(((xT many1).bind λxs=>yQ (λ(kh:Int)=>some true) (λ(kh:Int)=>((bF s7 x9).bind λa15=>bF a15 kh).bind λc17=>if c17=true then some true else(bF s7 x6).bind λa16=>bF a16 kh) xs).bind λa18=>rD s7 x9 a18).bind λyx=>some yx else some s7).bind λeN=>some eN) xs s4).bind λs8=>some s8) xs Kf).bind λs5=>some s5
theorem jB:ao ["_law_steps","_law_within","_law_many","_law_led","_law_mid","_law_s"] ["_law_steps","_law_within"] (zI gJ):=fsc
abbrev zEu(K:PySem.W.Frag):Sp:=cL K false (λa:((List LI))×LI×Unit=>([.z a.1,.z a.2.1]:SL K)) (λa=>uF a.1 a.2.1)
theorem zHp(F:aY K "_law_closure" "_law_closure" gJ f fd)(B:Bl K mg)(pF:cu P w K mg base k "_law_row" ["_law_steps","_law_within","_law_s"] (zQa K)):au P w K mg base aP (k+1) f fd ["_law_steps","_law_within"] (zEu K):=by
 refine yJ F jB (λ_=>rfl) (λ_=>rfl) λcdv A outer s H E hr=>?_
 have nd:=jB.nd
 refine⟨_,(zB (xC 2 nd (zS (su K) rfl B.len aa7 (zA (pv 0) zE))) (zB (xC 3 nd (wL (own:=["_law_s"]) (ix:=[0,1]) rfl rfl rfl (yR rfl B.range (zA (pv 2) zE)) (λC s H fp=>yA (i:=0) (show(["_law_s","_law_steps","_law_within"]:List Str).Nodup from by decide +kernel) rfl (Or.inl rfl)) (λC s H fp=>xU) (λC s H fp=>(yH pF hr (zA (pv 1) (zA (pv 2) (zA (pv 0) zE))))))) (zB (xB aak rfl (yR rfl B.range (zA (pv 2) zE)) (bL 4 nd) (zB (xB aak rfl (yR rfl B.range (zA (pv 2) zE)) (bL 5 nd) (zB (xP (xM (xQ (bK K) (xQ (bK K) (pv 3) (pv 5) (λ_ _=>rfl)) (pv 4) (λ_ _=>rfl))) (zB (Hh (wL (own:=["_law_t"]) (ix:=[3,5,4]) rfl rfl rfl (yR rfl B.range (zA (pv 2) zE)) (λC s H fp=>yA (i:=0) (show(["_law_t","_law_led","_law_s","_law_mid"]:List Str).Nodup from by decide +kernel) rfl (Or.inl rfl)) (λC s H fp=>xU) (λC s H fp=>(Nk (xQ (bK K) (xQ (bK K) (pv 1) (pv 2) (λ_ _=>rfl)) (pv 0) (λ_ _=>rfl)) (K7 (xQ (bK K) (xQ (bK K) (pv 1) (pv 3) (λ_ _=>rfl)) (pv 0) (λ_ _=>rfl)))))) (Nq (pv 3) (pv 5) Lj)) zG) zG) zG)) zG)) (zB (zV (pv 3)) zG)))),?_⟩
 rintro Fa ⟨q0,q1,⟨⟩⟩
 exact SB.of (zN (yN true 2 rfl rfl (esc (tX (zD 0 rfl)))) (λmany1=>(zN (vR true 3 rfl rfl (yS (n:=true) (fu:=[.un,.z q0,.z q1]) (no:=1) (ix:=[0,1]) rfl rfl (xK (zF 2 rfl)) (zT 0 rfl rfl) (λx3=>uK) (λx3=>(zQ (zH (zD 1 rfl) (zH (zD 2 rfl) (zH (esc (zF 0 rfl)) zP))))) (λx3=>dj))) (λKf=>(zN (xS (n:=true) (L:=(λs4:List (List Bool)=>([.z q0,.z q1,.y many1,.ow true s4,.un,.un]:SL K))) Kf aU (xK (zF 2 rfl)) (λs4=>(zT 4 rfl rfl)) (λs4 x6=>(zK (xS (n:=true) (L:=(λs7:List (List Bool)=>([.z q0,.z q1,.y many1,.ow true s7,.y x6,.un]:SL K))) s4 aU (xK (zF 2 rfl)) (λs7=>(zT 5 rfl rfl)) (λs7 x9=>(zK (vL (b_ (md:=.hp) (esc (wA (wA (uJ 3 rfl) (zF 5 rfl)) (zF 4 rfl)))) (zK (Ol 3 rfl rfl (yS (n:=true) (fu:=[.un,.hs (s7:List (List Bool)),.y x9,.y x6]) (no:=1) (ix:=[3,5,4]) rfl rfl (xK (zF 2 rfl)) (zT 0 rfl rfl) (λkh=>uK) (λkh=>(esc (Oj (esc (wA (wA (Rr 1 rfl) (zF 2 rfl)) (zF 0 rfl))) (esc (wA (wA (Rr 1 rfl) (zF 3 rfl)) (zF 0 rfl)))))) (λkh=>dj)).ex (zF 5 rfl)) (λyx=>(zR (λs12:List (List Bool)=>([.z q0,.z q1,.y many1,.ow true s12,.y x6,.y x9]:SL K)) yx aU))) (zR (λs12:List (List Bool)=>([.z q0,.z q1,.y many1,.ow true s12,.y x6,.y x9]:SL K)) s7 aU)) (λeN=>(zR (λs7:List (List Bool)=>([.z q0,.z q1,.y many1,.ow true s7,.y x6,.un]:SL K)) eN aU))))) (λs8=>(zR (λs4:List (List Bool)=>([.z q0,.z q1,.y many1,.ow true s4,.un,.un]:SL K)) s8 aU))))) (λs5=>(BK 3 rfl rfl))))))) (by unfold uF;simp only[bnd])
def wS(q0:List Bool)(q1:LI):Option Bool:=(((some q1).bind λxs=>yQ (λ(x1:Int)=>bF q0 x1) (λ(x1:Int)=>some x1) xs).bind λa2=>some (a2.length:Int)).bind λa3=>some (decide ((0:Int)<a3))
theorem mH:ao ["_law_row_here","_law_some"] ["_law_row_here","_law_some"] (zI jM):=fsc
abbrev zIi(K:PySem.W.Frag):Sp:=cL K false (λa:(List Bool)×LI×Unit=>([.z a.1,.z a.2.1]:SL K)) (λa=>wS a.1 a.2.1)
theorem zL0(F:aY K "_law_leads" "_law_leads" jM f fd)(B:Bl K mg):au P w K mg base aP (k+1) f fd ["_law_row_here","_law_some"] (zIi K):=by
 refine yJ F mH (λ_=>rfl) (λ_=>rfl) λcdv A outer s H E hr=>?_
 have nd:=mH.nd
 refine⟨_,(zB (zV (Nz Fe (zS (su K) rfl B.len aa7 (zA (wL (own:=["_law_t"]) (ix:=[0]) rfl rfl rfl (yD K (pv 1)) (λC s H fp=>yA (i:=0) (show(["_law_t","_law_row_here"]:List Str).Nodup from by decide +kernel) rfl (Or.inl rfl)) (λC s H fp=>uV (xM (xQ (bK K) (pv 1) (pv 0) (λ_ _=>rfl)))) (λC s H fp=>(pv 0))) zE)) yB (wW _))) zG),?_⟩
 rintro Fa ⟨q0,q1,⟨⟩⟩
 exact SB.of (yI (esc (FN (tX (yS (n:=false) (fu:=[.un,.z q0]) (no:=1) (ix:=[0]) rfl rfl (yE (yF 1 rfl)) (zT 0 rfl rfl) (λx1=>(b_ (md:=.hp) (esc (wA (zD 1 rfl) (zF 0 rfl))))) (λx1=>(esc (zF 0 rfl))) (λx1=>dj)).ex) (zW 0)))) (by unfold wS;simp only[bnd])
def MF(q0:List LI)(q1:List LI)(q2:LI):Option LI:=(uF q0 q2).bind λjR=>(some ([]:LI)).bind λgood2=>((some q2).bind λxs=>yU (λ(s3:LI) (x5:Int)=>((bF jR x5).bind λa7=>bF a7 x5).bind λqT=>((some q1).bind λxs=>yU (λ(s8:Bool) (x10:LI)=>((some x10).bind λxs=>yQ (λ(x12:Int)=>(bF jR x12).bind λa13=>bF a13 x5) (λ(x12:Int)=>some x12) xs).bind λza=>(if s8=true then((bF jR x5).bind λa16=>some ((a16,(za,())))).bind λQm=>wS Qm.1 Qm.2.1 else some false).bind λpG=>some pG) xs qT).bind λs9=>(if s9=true then(push s3 x5).bind λqU=>some qU else some s3).bind λDn=>some Dn) xs good2).bind λs4=>(some q2).bind λxs=>yQ (λ(x20:Int)=>if(decide (x20∈s4))=true then some true else((bF jR x20).bind λa22=>some ((a22,(s4,())))).bind λz21=>wS z21.1 z21.2.1) (λ(x20:Int)=>some x20) xs
theorem n8:ao ["_law_steps","_law_fair","_law_within","_law_led","_law_good","_law_t","_law_meets","_law_some","_law_back"] ["_law_steps","_law_fair","_law_within"] (zI lQ):=fsc
abbrev zK6(K:PySem.W.Frag):Sp:=cL K false (λa:((List LI))×((List LI))×LI×Unit=>([.z a.1,.z a.2.1,.z a.2.2.1]:SL K)) (λa=>MF a.1 a.2.1 a.2.2.1)
theorem zOh(F:aY K "_law_core" "_law_core" lQ f fd)(B:Bl K mg)(gY:cu P w K mg base k "_law_closure" ["_law_steps","_law_within"] (zEu K))(iu:cu P w K mg base k "_law_leads" ["_law_row_here","_law_some"] (zIi K)):au P w K mg base aP (k+1) f fd ["_law_steps","_law_fair","_law_within"] (zK6 K):=by
 refine yJ F n8 (λ_=>rfl) (λ_=>rfl) λcdv A outer s H E hr=>?_
 have nd:=n8.nd
 refine⟨_,(zB (xC 3 nd (yH gY hr (zA (pv 0) (zA (pv 2) zE)))) (zB (xC 4 nd (wY zE)) (zB (xB aak rfl (yD K (pv 2)) (bL 5 nd) (zB (xC 6 nd (xQ (bK K) (xQ (bK K) (pv 3) (pv 5) (λ_ _=>rfl)) (pv 5) (λ_ _=>rfl))) (zB (xB aak rfl (yD K (pv 1)) (bL 7 nd) (zB (vP (i:=8) (own:=["_law_f"]) (ix:=[3,5]) nd rfl rfl rfl rfl rfl (yD K (pv 7)) (λC s H fp=>yA (i:=0) (show(["_law_f","_law_led","_law_t"]:List Str).Nodup from by decide +kernel) rfl (Or.inl rfl)) (λC s H fp=>uV (xM (xQ (bK K) (xQ (bK K) (pv 1) (pv 0) (λ_ _=>rfl)) (pv 2) (λ_ _=>rfl)))) (λC s H fp=>(pv 0))) (zB (xC 6 nd (G8 (pv 6) (K7 (yH iu hr (zA (xQ (bK K) (pv 3) (pv 5) (λ_ _=>rfl)) (zA (pv 8) zE)))))) zG))) (zB (xP (xM (pv 6)) (zB (zZ (sy K aaq aav aaw xO (pv 4) (zA (pv 5) zE))) zG) zG) zG)))) (zB (zV (wL (own:=["_law_s"]) (ix:=[4,3]) rfl rfl rfl (yD K (pv 2)) (λC s H fp=>yA (i:=0) (show(["_law_s","_law_good","_law_led"]:List Str).Nodup from by decide +kernel) rfl (Or.inl rfl)) (λC s H fp=>uV (PW.pt (pw_or (yV (FW K) (pv 0) (pv 1) (by with_unfolding_all rfl)) (pw_or1 (xM (yH iu hr (zA (xQ (bK K) (pv 2) (pv 0) (λ_ _=>rfl)) (zA (pv 1) zE)))))))) (λC s H fp=>(pv 0)))) zG)))),?_⟩
 rintro Fa ⟨q0,q1,q2,⟨⟩⟩
 exact SB.of (zN (yN true 3 rfl rfl (zQ (zH (zD 0 rfl) (zH (zD 2 rfl) zP)))) (λjR=>(zN (vR true 4 rfl rfl (vT (α:=Int))) (λgood2=>(zN (xS (n:=false) (L:=(λs3:LI=>([.z q0,.z q1,.z q2,.y jR,.ow true s3,.un,.un,.un,.un]:SL K))) good2 aU (yE (yF 2 rfl)) (λs3=>(zT 5 rfl rfl)) (λs3 x5=>(zK (yN true 6 rfl rfl (esc (esc (wA (wA (zD 3 rfl) (zF 5 rfl)) (zF 5 rfl))))) (λqT=>(zK (xS (n:=false) (L:=(λs8:Bool=>([.z q0,.z q1,.z q2,.y jR,.ow true s3,.z x5,.y s8,.un,.un]:SL K))) qT aU (yE (yF 1 rfl)) (λs8=>(zT 7 rfl rfl)) (λs8 x10=>(zK (yN true 8 rfl rfl (yS (n:=false) (fu:=[.un,.y jR,.z x5]) (no:=1) (ix:=[3,5]) rfl rfl (yE (yF 7 rfl)) (zT 0 rfl rfl) (λx12=>(b_ (md:=.hp) (esc (wA (wA (zD 1 rfl) (zF 0 rfl)) (zF 2 rfl))))) (λx12=>(esc (zF 0 rfl))) (λx12=>dj)).ex) (λza=>(zK (yN true 6 rfl rfl (esc (Ii (zF 6 rfl) (zQ (zH (wA (zD 3 rfl) (zF 5 rfl)) (zH (zD 8 rfl) zP)))))) (λpG=>(zR (λs8:Bool=>([.z q0,.z q1,.z q2,.y jR,.ow true s3,.z x5,.y s8,.un,.un]:SL K)) pG aU))))))) (λs9=>(zK (vL (b_ (md:=.hp) (zF 6 rfl)) (zK (wG 4 rfl rfl (esc (zF 5 rfl))) (λqU=>(zR (λqO:LI=>([.z q0,.z q1,.z q2,.y jR,.ow true qO,.z x5,.y s9,.un,.un]:SL K)) qU aU))) (zR (λqO:LI=>([.z q0,.z q1,.z q2,.y jR,.ow true qO,.z x5,.y s9,.un,.un]:SL K)) s3 aU)) (λDn=>(zR (λs3:LI=>([.z q0,.z q1,.z q2,.y jR,.ow true s3,.un,.un,.un,.un]:SL K)) Dn aU))))))))) (λs4=>(yI (yS (n:=false) (fu:=[.un,.hs (s4:LI),.y jR]) (no:=1) (ix:=[4,3]) rfl rfl (yE (yF 2 rfl)) (zT 0 rfl rfl) (λx20=>(Oi (yW (md:=.hp) (Iz (zF 0 rfl) (Rr 1 rfl))) (b_ (md:=.hp) (zQ (zH (wA (zD 2 rfl) (zF 0 rfl)) (zH (Rr 1 rfl) zP)))))) (λx20=>(esc (zF 0 rfl))) (λx20=>dj)).ex))))))) (by unfold MF;simp only[bnd])
def Gx(q0:LI)(q1:LI):Option Bool:=(if(!true)=true then some true else some (!decide (q0=q1))).bind λb=>if b=true then some false else((some q0).bind λxs=>vZ (λ(s1:Unit) (x3:Int)=>(if(!true)=true then some true else some false).bind λb=>if b=true then(some false).bind λb=>some (.rt b) else some (.nx ())) xs ()).bind λo=>o.els λs2=>some true
theorem qm:ao ["_law_found","_law_due","_law_number"] ["_law_found","_law_due"] (zI oX):=fsc
abbrev zP9(K:PySem.W.Frag):Sp:=cL K false (λa:LI×LI×Unit=>([.z a.1,.z a.2.1]:SL K)) (λa=>Gx a.1 a.2.1)
theorem zRj(F:aY K "_law_set" "_law_set" oX f fd)(B:Bl K mg):au P w K mg base aP (k+1) f fd ["_law_found","_law_due"] (zP9 K):=by
 refine yJ F qm (λ_=>rfl) (λ_=>rfl) λcdv A outer s H E hr=>?_
 have nd:=qm.nd
 refine⟨_,(zB (xP (PW.pt (pw_or (Ni (xM (zS (wZ K (Lp (n:="list"))) rfl B.nD vA (zA (pv 0) (zA (K6 (v:=.ty "list") rfl B.list FT rfl) zE))))) (pw_or1 (yV (Za K LI hr) (pv 0) (pv 1) (wW _))))) (zB (zV Al) zG) zG) (zB (xB aak rfl (yD K (pv 0)) (bL 2 nd) (zB (xP (PW.pt (pw_or (Ni (xM (zS (wZ K (Lp (n:="int"))) rfl B.nD vA (zA (pv 2) (zA (K6 (v:=.ty "int") rfl B.int Ze rfl) zE))))) (pw_or1 (xM (zS (wZ K (Lp (n:="bool"))) rfl B.nD vA (zA (pv 2) (zA (K6 (v:=.ty "bool") rfl B.bool Zf rfl) zE))))))) (zB (zV Al) zG) zG) zG)) (zB (zV Al) zG))),?_⟩
 rintro Fa ⟨q0,q1,⟨⟩⟩
 exact SB.of (Im (Oi (Oh (b_ (md:=.hp) (Lz B.ll rfl (zD 0 rfl)))) (yW (md:=.hp) (Zb (zD 0 rfl) (zD 1 rfl)))) (yI (esc (Bx false))) (Uz (U3 (n:=false) (L:=(λs1:Unit=>([.z q0,.z q1,.un]:SL K))) () aU (yE (yF 0 rfl)) (λs1=>(zT 2 rfl rfl)) (λs1 x3=>(UJ (Oi (Oh (b_ (md:=.hp) (Lz B.ii rfl (zF 2 rfl)))) (b_ (md:=.hp) (Lz B.ib rfl (zF 2 rfl)))) (yI (esc (Bx false))) (UG (λs1:Unit=>([.z q0,.z q1,.un]:SL K)) () aU)))) (λs2=>(yI (esc (Bx true)))))) (by unfold Gx;simp only[bnd])
end
open PySem L2
def MJ(n:Int)(xs:LI):Prop:=xs≠[]/\xs.Nodup/\xs.length<=60/\∀z∈xs,0<=z/\z<n
structure Gr{C:Addr}(m:aG C)(n:Int):Prop where
 len:(m.steps.length:Int)=n
 pos:1<=n
 few:n<=60
 row:∀xs∈m.steps,xs≠[]/\xs.Nodup/\∀z∈xs,0<=z/\z<n
 src:m.sources=srcs m.steps
def nxt(xss:List LI)(s:Int):LI:=xss.getD s.toNat []
theorem Dr:x∈src xss j↔0<=x/\x<(xss.length:Int)/\(j:Int)∈nxt xss x:=by
 unfold src nxt
 rw[mem_map]
 constructor
 ·rintro⟨k,h,rfl⟩
  rw[mem_filter,mem_range] at h
  have h2:=of_decide_eq_true h.2
  exact⟨abe _,by show(k:Int)<_;omega,h2⟩
 ·intro⟨h0,h1,h2⟩
  refine⟨x.toNat,?_,by show((x.toNat:Nat):Int)=x;omega⟩
  rw[mem_filter,mem_range]
  exact⟨by omega,decide_eq_true h2⟩
theorem S6{C:Addr}{m:aG C}(g:Gr m n):yO m=some n:=by
 unfold yO
 rw[g.len]
theorem zQj{C:Addr}{m:aG C}(g:Gr m n)(h0:0<=s)(h1:s<n):W (xN m s) λxs=>∀x,x∈xs↔0<=x/\x<n/\s∈nxt m.steps x:=by
 unfold xN
 rw[j7 h0,g.src]
 have hl:=g.len
 refine⟨_,Zh (by omega),λx=>?_⟩
 rw[Dr,hl,show((s.toNat:Nat):Int)=s by omega]
theorem MN{α:Type}{xs:List α}{a d:α}(h:i<xs.length):(xs.set i a).getD j d=if j=i then a else xs.getD j d:=by
 rw[getD_eq_getElem?_getD,getD_eq_getElem?_getD,ab2]
 by_cases e:i=j
 ·subst e;simp[h]
 ·rw[if_neg e,if_neg (ab8 e)]
theorem zM6{C:Addr}{m:aG C}(g:Gr m n)(hx:∀x∈xs,0<=x/\x<n):W (Mv m xs) λfl=>(fl.length:Int)=n/\∀s:Int,0<=s->s<n->fl.getD s.toNat false=decide (s∈xs):=by
 unfold Mv
 have hp:=g.pos
 have hf:=g.few
 simp only[zC,aj,S6 g,cW]
 refine⟨⟨by omega,by omega⟩,?_⟩
 rw[Gb (λ_=>false)]
 have e:=vN (n:=n) (by omega)
 refine⟨zX (by omega),xE (λi fl=>(fl.length:Int)=n/\∀s:Int,0<=s->s<n->fl.getD s.toNat false=decide (s∈xs.take i)) ⟨by rw[length_map];exact e,λs _ _=>?_⟩ (λi x fl hi hI=>?_) λfl hI=>?_⟩
 ·rw[getD_eq_getElem?_getD,getElem?_map]
  cases(rng n)[s.toNat]?<;>simp
 ·have hxx:=hx x (mem_of_getElem? hi)
  simp only[zC,aj]
  rw[LC hxx.1 (by omega)]
  refine⟨by rw[length_set];exact hI.1,λs s0 s1=>?_⟩
  rw[MN (by omega)]
  have tk:xs.take (i+1)=xs.take i++[x]:=by rw[take_add_one,hi]<;>rfl
  by_cases q:s.toNat=x.toNat
  ·have:s=x:=by omega
   subst this
   rw[if_pos rfl,tk];simp
  ·have:s≠x:=λz=>q (by rw[z])
   rw[if_neg q,hI.2 s s0 s1,tk]
   simp[this]
 ·rw[take_length] at hI
  exact hI
abbrev dg(d:List (Option Int))(s:Int):Option Int:=d.getD s.toNat none
structure qW(xss:List LI)(through goal:LI)(n:Int)(d:List (Option Int)):Prop where
 len:(d.length:Int)=n
 pos:∀s k,0<=s->s<n->dg d s=some k->0<=k/\k<n
 zero:∀s,0<=s->s<n->(dg d s=some 0↔s∈goal)
 via:∀s k,0<=s->s<n->dg d s=some k->s∉goal->s∈through/\∃t∈nxt xss s,0<=t/\t<n/\dg d t=some (k-1)
 near:∀s t k,0<=s->s<n->0<=t->t<n->s∈through->t∈nxt xss s->dg d t=some k->∃j,dg d s=some j/\j<=k+1
structure Bf(xss:List LI)(pass:Int->Prop)(goal:LI)(n:Int)(d:List (Option Int))(row:LI)(place:Nat):Prop where
 len:(d.length:Int)=n
 rng:∀s∈row,0<=s/\s<n
 nd:row.Nodup
 iff:∀s:Int,0<=s->s<n->((dg d s).isSome=true↔s∈row)
 idx:∀(i:Nat)(s:Int),row[i]?=some s->∃k:Int,dg d s=some k/\0<=k/\k<=i
 mono:∀(i j:Nat)(s t k l:Int),i<=j->row[i]?=some s->row[j]?=some t->dg d s=some k->dg d t=some l->k<=l
 top:∀(j:Nat)(s t k l:Int),row[place]?=some s->row[j]?=some t->dg d s=some k->dg d t=some l->l<=k+1
 zero:∀s:Int,0<=s->s<n->(dg d s=some 0↔s∈goal)
 via:∀(s k:Int),s∈row->dg d s=some k->s∉goal->pass s/\∃t∈nxt xss s,0<=t/\t<n/\dg d t=some (k-1)
 done:∀(i:Nat)(s t k:Int),i<place->row[i]?=some t->dg d t=some k->0<=s->s<n->pass s->t∈nxt xss s->∃j,dg d s=some j/\j<=k+1
theorem WR{d:List (Option Int)}(hl:(d.length:Int)=n)(h0:0<=s)(h1:s<n)(t0:0<=t):dg (d.set s.toNat v) t=if t=s then v else dg d t:=by
 show(d.set s.toNat v).getD t.toNat none=_
 rw[MN (by omega)]
 by_cases e:t=s
 ·rw[if_pos e,if_pos (by rw[e])]
 ·rw[if_neg e,if_neg (by omega)]
theorem M4{row:LI}{i:Nat}{s x:Int}(h:(row++[x])[i]?=some s):row[i]?=some s\/(i=row.length/\s=x):=by
 by_cases q:i<row.length
 ·rw[getElem?_append_left q] at h;exact .inl h
 ·rw[getElem?_append_right (by omega)] at h
  have:i-row.length=0:=by
   have:=yT h
   simp at this
   omega
  rw[this] at h
  exact .inr ⟨by omega,(aai h).symm⟩
structure Bm(xss:List LI)(pass:Int->Prop)(goal:LI)(n:Int)(d:List (Option Int))(row:LI)(place:Nat)(t k:Int)(seen:LI):Prop where
 bf:Bf xss pass goal n d row place
 at_:row[place]?=some t
 k_:dg d t=some k
 rO:∀s∈seen,pass s->∃j,dg d s=some j/\j<=k+1
theorem Bm.put(b:Bm xss pass goal n d row place t k seen)(hx0:0<=x)(hx1:x<n)(hp:pass x)(hn:dg d x=none)(ht:t∈nxt xss x) :
  Bm xss pass goal n (d.set x.toNat (some (k+1))) (row++[x]) place t k (seen++[x]):=by
 have B:=b.bf
 have tr:=B.rng t (mem_of_getElem? b.at_)
 have xr:x∉row:=λh=>by have:=(B.iff x hx0 hx1).mpr h;rw[hn] at this;cases this
 have tx:t≠x:=λe=>xr (e▸mem_of_getElem? b.at_)
 obtain⟨k',e1,k0,kp⟩:=B.idx place t b.at_
 rw[b.k_] at e1
 cases e1
 have pl:=yT b.at_
 have old:∀s:Int,0<=s->s≠x->dg (d.set x.toNat (some (k+1))) s=dg d s:=λs s0 q=>by rw[WR B.len hx0 hx1 s0,if_neg q]
 have new:dg (d.set x.toNat (some (k+1))) x=some (k+1):=by rw[WR B.len hx0 hx1 hx0,if_pos rfl]
 have inr:∀{i:Nat}{s:Int},row[i]?=some s->0<=s/\s<n/\s≠x:=λh=>by
  have:=B.rng _ (mem_of_getElem? h)
  exact⟨this.1,this.2,λe=>xr (e▸mem_of_getElem? h)⟩
 refine⟨⟨by rw[length_set];exact B.len,λs hs=>?_,?_,λs s0 s1=>?_,λi s h=>?_,λi j s u a l ij h1 h2 h3 h4=>?_,λj s u a l h1 h2 h3 h4=>?_,λs s0 s1=>?_,λs a hs h1 h2=>?_,λi s u a hi h1 h2 s0 s1 ps hu=>?_⟩,?_,?_,λs hs ps=>?_⟩
 ·rcases mem_append.mp hs with q|q
  ·exact B.rng s q
  ·rw[mem_singleton.mp q];exact⟨hx0,hx1⟩
 ·rw[nodup_append]
  exact⟨B.nd,by simp,λa ha c hc e=>by rw[mem_singleton.mp hc] at e;exact xr (e▸ha)⟩
 ·by_cases e:s=x
  ·subst e;rw[new];simp
  ·rw[old s s0 e,B.iff s s0 s1];simp[e]
 ·rcases M4 h with h|⟨rfl,rfl⟩
  ·obtain⟨a1,a2,a3⟩:=inr h
   rw[old s a1 a3];exact B.idx i s h
  ·exact⟨k+1,new,by omega,by omega⟩
 ·rcases M4 h1 with g1|⟨rfl,rfl⟩
  ·obtain⟨a1,a2,a3⟩:=inr g1
   rw[old s a1 a3] at h3
   rcases M4 h2 with g2|⟨rfl,rfl⟩
   ·obtain⟨b1,b2,b3⟩:=inr g2
    rw[old u b1 b3] at h4
    exact B.mono i j s u a l ij g1 g2 h3 h4
   ·rw[new] at h4
    cases h4
    exact B.top i t s k a b.at_ g1 b.k_ h3
  ·rcases M4 h2 with h2|⟨rfl,rfl⟩
   ·have:=yT h2;omega
   ·rw[h3] at h4;cases h4;exact adt _
 ·have h1':s=t:=by
   rcases M4 h1 with h1|⟨e,_⟩
   ·rw[b.at_] at h1;exact(aai h1).symm
   ·omega
  subst h1'
  rw[old s tr.1 tx,b.k_] at h3
  cases h3
  rcases M4 h2 with h2|⟨rfl,rfl⟩
  ·obtain⟨b1,b2,b3⟩:=inr h2
   rw[old u b1 b3] at h4
   exact B.top j s u k l b.at_ h2 b.k_ h4
  ·rw[new] at h4;cases h4;exact adt _
 ·by_cases e:s=x
  ·subst e
   rw[new]
   constructor
   ·intro q;have q:=aai q;omega
   ·intro q;have:=(B.zero s s0 s1).mpr q;rw[hn] at this;cases this
  ·rw[old s s0 e];exact B.zero s s0 s1
 ·rcases mem_append.mp hs with q|q
  ·have sr:=B.rng s q
   have sx:s≠x:=λe=>xr (e▸q)
   rw[old s sr.1 sx] at h1
   obtain⟨p1,u,u1,u2,u3,u4⟩:=B.via s a q h1 h2
   refine⟨p1,u,u1,u2,u3,?_⟩
   rw[old u u2 λe=>by rw[e,hn] at u4;cases u4]
   exact u4
  ·have:=mem_singleton.mp q
   subst this
   rw[new] at h1
   cases h1
   exact⟨hp,t,ht,tr.1,tr.2,by rw[old t tr.1 tx,b.k_,show k+1-1=k by omega]⟩
 ·have h1':row[i]?=some u:=by rw[getElem?_append_left (by omega)] at h1;exact h1
  obtain⟨b1,b2,b3⟩:=inr h1'
  rw[old u b1 b3] at h2
  obtain⟨j,q1,q2⟩:=B.done i s u a hi h1' h2 s0 s1 ps hu
  by_cases e:s=x
  ·subst e;rw[hn] at q1;cases q1
  ·exact⟨j,by rw[old s s0 e];exact q1,q2⟩
 ·rw[getElem?_append_left pl];exact b.at_
 ·rw[old t tr.1 tx];exact b.k_
 ·rcases mem_append.mp hs with q|q
  ·obtain⟨j,q1,q2⟩:=b.rO s q ps
   by_cases e:s=x
   ·subst e;rw[hn] at q1;cases q1
   ·by_cases s0:0<=s
    ·exact⟨j,by rw[old s s0 e];exact q1,q2⟩
    ·refine⟨j,?_,q2⟩
     show(d.set x.toNat (some (k+1))).getD s.toNat none=some j
     have z:s.toNat=0:=by omega
     rw[MN (by have:=B.len;omega)]
     by_cases w:s.toNat=x.toNat
     ·have xz:x=0:=by omega
      have q1':d.getD s.toNat none=some j:=q1
      have hn':d.getD x.toNat none=none:=hn
      rw[w] at q1'
      rw[q1'] at hn'
      cases hn'
     ·rw[if_neg w];exact q1
  ·rw[mem_singleton.mp q];exact⟨k+1,new,adt _⟩
theorem zIo{C:Addr}{m:aG C}(g:Gr m n){goal:LI}(ht:∀x∈through,0<=x/\x<n)(hg:goal.Nodup/\∀x∈goal,0<=x/\x<n):W (uH m through goal) (qW m.steps through goal n):=by
 unfold uH
 have hp:=g.pos
 have hf:=g.few
 simp only[zC,aj,S6 g,cW]
 refine(zM6 g ht).imp λfl ⟨fl1,fl2⟩=>⟨⟨by omega,by omega⟩,?_⟩
 rw[Gb (λ_=>(none:Option Int))]
 have e:=vN (n:=n) (by omega)
 refine⟨zX (by omega),xE (λi (d:List (Option Int))=>(d.length:Int)=n/\∀s:Int,0<=s->s<n->dg d s=if s∈goal.take i then some 0 else none) ⟨by rw[length_map];exact e,λs _ _=>?_⟩ (λi x d hi hI=>?_) λd hd=>?_⟩
 ·show(List.map (λ_=>(none:Option Int)) (rng n)).getD s.toNat none=_
  rw[getD_eq_getElem?_getD,getElem?_map]
  cases(rng n)[s.toNat]?<;>simp
 ·have hx:=hg.2 x (mem_of_getElem? hi)
  simp only[zC,aj]
  rw[LC hx.1 (by omega)]
  refine⟨by rw[length_set];exact hI.1,λs s0 s1=>?_⟩
  have tk:goal.take (i+1)=goal.take i++[x]:=by rw[take_add_one,hi]<;>rfl
  rw[WR hI.1 hx.1 hx.2 s0,hI.2 s s0 s1,tk]
  by_cases q:s=x<;>simp[q]
 rw[take_length] at hd
 have base:Bf m.steps (· ∈ through) goal n d goal 0:=by
  have z:∀s:Int,0<=s->s<n->∀k,dg d s=some k->k=0/\s∈goal:=λs s0 s1 k h=>by
   rw[hd.2 s s0 s1] at h
   split at h
   ·rename_i q;cases h;exact⟨rfl,q⟩
   ·cases h
  refine⟨hd.1,hg.2,hg.1,λs s0 s1=>?_,λi s h=>?_,λi j s t k l _ h1 h2 h3 h4=>?_,λj s t k l h1 h2 h3 h4=>?_,λs s0 s1=>?_,λs k hs h1 h2=>absurd hs h2,λi s t k hi=>by omega⟩
  ·rw[hd.2 s s0 s1];by_cases q:s∈goal<;>simp[q]
  ·have hs:=mem_of_getElem? h
   have:=hg.2 s hs
   exact⟨0,by rw[hd.2 s this.1 this.2,if_pos hs],adt _,by omega⟩
  ·have a1:=hg.2 s (mem_of_getElem? h1)
   have a2:=hg.2 t (mem_of_getElem? h2)
   have:=(z s a1.1 a1.2 k h3).1
   have:=(z t a2.1 a2.2 l h4).1
   omega
  ·have a1:=hg.2 s (mem_of_getElem? h1)
   have a2:=hg.2 t (mem_of_getElem? h2)
   have:=(z s a1.1 a1.2 k h3).1
   have:=(z t a2.1 a2.2 l h4).1
   omega
  ·rw[hd.2 s s0 s1];by_cases q:s∈goal<;>simp[q]
 have WT:n.toNat<=60:=by omega
 refine Ci (λs=>∃pl:Nat,s.2.2=(pl:Int)/\Bf m.steps (· ∈ through) goal n s.1 s.2.1 pl) (λs=>n.toNat-s.2.2.toNat) ⟨0,rfl,base⟩ (show n.toNat-(0:Int).toNat<fuel from aan (Nat.sub_le _ _) (aan WT (by decide))) λs ⟨pl,hpl,B⟩=>?_
 rw[aj]
 have rl:s.2.1.length<=n.toNat:=xZ B.nd λx hx=>by have:=B.rng x hx;omega
 by_cases lt:s.2.2<(s.2.1.length:Int)
 ·rw[decide_eq_true lt,if_pos rfl]
  simp only[zC,aj]
  rw[j7 (by omega)]
  have pll:pl<s.2.1.length:=by omega
  have e1:s.2.2.toNat=pl:=by omega
  rw[e1]
  refine⟨_,aad pll,?_⟩
  have hat:s.2.1[pl]?=some s.2.1[pl]:=aad pll
  generalize s.2.1[pl]=t at hat
  have tr:=B.rng t (mem_of_getElem? hat)
  obtain⟨k,hk,k0,k1⟩:=B.idx pl t hat
  refine(zQj g tr.1 tr.2).imp λxs hxs=>?_
  refine xE (λi (r:List (Option Int)×LI)=>Bm m.steps (· ∈ through) goal n r.1 r.2 pl t k (xs.take i)) ⟨B,hat,hk,λs hs=>by cases hs⟩ (λi x r hi b=>?_) λr b=>?_
  ·have hx:=(hxs x).mp (mem_of_getElem? hi)
   have tk:xs.take (i+1)=xs.take i++[x]:=by rw[take_add_one,hi]<;>rfl
   rw[tk]
   simp only[zC,aj]
   rw[j7 hx.1]
   have fx:=fl2 x hx.1 hx.2.1
   have fl3:x.toNat<fl.length:=by omega
   refine⟨_,aad fl3,?_⟩
   rw[getD_eq_getElem?_getD,aad fl3] at fx
   have fx:fl[x.toNat]=decide (x∈through):=fx
   rw[fx]
   have dl:x.toNat<r.1.length:=by have:=b.bf.len;omega
   have dx:dg r.1 x=r.1[x.toNat]:=by show r.1.getD x.toNat none=_;rw[getD_eq_getElem?_getD,aad dl];rfl
   by_cases px:x∈through
   ·rw[decide_eq_true px,if_pos rfl,zC,j7 hx.1]
    refine⟨_,aad dl,?_⟩
    rw[<-dx,aj]
    cases hdx:dg r.1 x with
    |none =>
     simp only[Option.isNone_none,if_true,zC,aj]
     have tr':t.toNat<r.1.length:=by have:=b.bf.len;omega
     rw[j7 tr.1]
     refine⟨_,aad tr',?_⟩
     have ek:r.1[t.toNat]=some k:=by
      have:=b.k_
      have z:r.1.getD t.toNat none=some k:=this
      rw[getD_eq_getElem?_getD,aad tr'] at z
      exact z
     rw[ek,aj,LC hx.1 (by have:=b.bf.len;omega),uO]
     have rl2:r.2.length<=n.toNat:=xZ b.bf.nd λx hx=>by have:=b.bf.rng x hx;omega
     exact⟨zX (by omega),b.put hx.1 hx.2.1 px hdx hx.2.2⟩
    |some j =>
     simp only[Option.isNone_some,aap,if_false,aj]
     refine⟨b.bf,b.at_,b.k_,λs hs ps=>?_⟩
     rcases mem_append.mp hs with q|q
     ·exact b.rO s q ps
     ·rw[mem_singleton.mp q]
      have hin:x∈r.2:=(b.bf.iff x hx.1 hx.2.1).mp (by rw[hdx];rfl)
      obtain⟨ii,hii⟩:=mem_iff_getElem?.mp hin
      exact⟨j,hdx,b.bf.top ii t x k j b.at_ hii b.k_ hdx⟩
   ·rw[decide_eq_false px,if_neg (by decide),aj]
    simp only[aap,if_false,aj]
    refine⟨b.bf,b.at_,b.k_,λs hs ps=>?_⟩
    rcases mem_append.mp hs with q|q
    ·exact b.rO s q ps
    ·rw[mem_singleton.mp q] at ps;exact absurd ps px
  ·rw[take_length] at b
   refine⟨⟨pl+1,by show s.2.2+1=_;omega,?_⟩,?_⟩
   ·have B':=b.bf
    refine⟨B'.len,B'.rng,B'.nd,B'.iff,B'.idx,B'.mono,λj u v a l h1 h2 h3 h4=>?_,B'.zero,B'.via,λi u v a hi h1 h2 u0 u1 pu hu=>?_⟩
    ·have q1:=B'.mono pl (pl+1) t u k a (by omega) b.at_ h1 b.k_ h3
     have q2:=B'.top j t v k l b.at_ h2 b.k_ h4
     omega
    ·by_cases q:i=pl
     ·subst q
      rw[b.at_] at h1
      cases h1
      rw[b.k_] at h2
      cases h2
      exact b.rO u ((hxs u).mpr ⟨u0,u1,hu⟩) pu
     ·exact B'.done i u v a (by omega) h1 h2 u0 u1 pu hu
   ·show n.toNat-(s.2.2+1).toNat<n.toNat-pl
    omega
 ·rw[decide_eq_false lt,if_neg (by decide)]
  have all:∀t∈s.2.1,∃i,i<pl/\s.2.1[i]?=some t:=λt h=>by
   obtain⟨i,hi⟩:=mem_iff_getElem?.mp h
   exact⟨i,by have:=yT hi;omega,hi⟩
  refine⟨B.len,λu k u0 u1 h=>?_,B.zero,λu k u0 u1 h hu=>?_,λu t k u0 u1 t0 t1 hu ht hk=>?_⟩
  ·have hin:=(B.iff u u0 u1).mp (by rw[h];rfl)
   obtain⟨i,hi⟩:=mem_iff_getElem?.mp hin
   obtain⟨k',e1,e2,e3⟩:=B.idx i u hi
   rw[h] at e1
   cases e1
   have:=yT hi
   exact⟨e2,by omega⟩
  ·exact B.via u k ((B.iff u u0 u1).mp (by rw[h];rfl)) h hu
  ·obtain⟨i,h1,h2⟩:=all t ((B.iff t t0 t1).mp (by rw[hk];rfl))
   exact B.done i u t k h1 h2 hk u0 u1 hu ht
theorem Kg{xss:List LI}(hl:(xss.length:Int)=n)(h0:0<=s)(h1:s<n):xss[s.toNat]?=some (nxt xss s):=by
 have:s.toNat<xss.length:=by omega
 unfold nxt
 rw[getD_eq_getElem?_getD,aad this]
 rfl
theorem WW:∀{xs ys:LI},xs.Pairwise (· < ·)->ys.Pairwise (· < ·)->(∀s,s∈xs↔s∈ys)->xs=ys
 |[],[],_,_,_=>rfl
 |[],y::ys,_,_,h=>by have:=(h y).mpr mem_cons_self;cases this
 |x::xs,[],_,_,h=>by have:=(h x).mp mem_cons_self;cases this
 |x::xs,y::ys,h1,h2,h=>by
  have a1:=pairwise_cons.mp h1
  have a2:=pairwise_cons.mp h2
  have e:x=y:=by
   rcases mem_cons.mp ((h x).mp mem_cons_self) with q|q
   ·exact q
   ·rcases mem_cons.mp ((h y).mpr mem_cons_self) with r|r
    ·exact r.symm
    ·have:=a1.1 y r;have:=a2.1 x q;omega
  subst e
  rw[WW a1.2 a2.2 λs=>?_]
  constructor
  ·intro q
   rcases mem_cons.mp ((h s).mp (mem_cons_of_mem _ q)) with r|r
   ·have:=a1.1 s q;omega
   ·exact r
  ·intro q
   rcases mem_cons.mp ((h s).mpr (mem_cons_of_mem _ q)) with r|r
   ·have:=a2.1 s q;omega
   ·exact r
theorem zSy(n:Int):(rng n).Pairwise (· < ·):=by
 unfold rng
 rw[List.pairwise_map]
 exact List.pairwise_lt_range.imp λh=>by show(_:Int)<_;simpa using h
def pick(n:Int)(p:Int->Bool):LI:=(rng n).filter p
theorem cZ:s∈pick n p↔0<=s/\s<n/\p s=true:=by
 unfold pick
 rw[mem_filter,aZ,and_assoc]
theorem wN(n:Int)(p:Int->Bool):aW n (pick n p):=⟨(zSy n).filter p,λx hx=>by have:=cZ.mp hx;omega⟩
theorem zN8(h:aW n xs)(e:∀s,0<=s->s<n->(s∈xs↔p s=true)):xs=pick n p :=
 WW h.1 (wN n p).1 λs=>by
  rw[cZ]
  constructor
  ·intro q;have:=h.2 s q;exact⟨this.1,this.2,(e s this.1 this.2).mp q⟩
  ·intro⟨a,b,c⟩;exact(e s a b).mpr c
theorem zSa{d:List (Option Int)}(hl:(d.length:Int)=n):v7 d=(rng n).map λs=>(s,dg d s):=by
 refine ext_getElem? λi=>?_
 have e:n.toNat=d.length:=by omega
 by_cases q:i<d.length
 ·have h1:(rng n)[i]?=some (i:Int):=by unfold rng;rw[getElem?_map,getElem?_range (by omega)];rfl
  rw[getElem?_map,h1]
  unfold v7
  rw[List.getElem?_zip_eq_some (z:=((i:Int),dg d i))|>.mpr ⟨?_,?_⟩]
  ·rfl
  ·rw[getElem?_map,getElem?_range q];rfl
  ·show d[i]?=some (d.getD ((i:Int).toNat) none)
   rw[aa8,getD_eq_getElem?_getD,aad q];rfl
 ·rw[aaz (by rw[Y7];omega),aaz (by rw[length_map];unfold rng;rw[length_map,length_range];omega)]
theorem Ds:W (dput kvs k v) Q↔kvs.length<cap/\Q (pK kvs (aa1 k) v):=by
 unfold dput
 rw[Jd]
 constructor
 ·intro⟨h1,h2⟩
  by_cases h:kvs.length<cap
  ·exact⟨h,aj.mp (h1 h)⟩
  ·exact absurd (h2 h) (by rw[Ga];exact id)
 ·intro⟨h,q⟩
  exact⟨λ_=>aj.mpr q,λz=>absurd h z⟩
theorem zSk:W (O8 kvs k v) Q↔kvs.length<cap/\Q (pK kvs (abn k) v):=by
 unfold O8
 rw[Jd]
 constructor
 ·intro⟨h1,h2⟩
  by_cases h:kvs.length<cap
  ·exact⟨h,aj.mp (h1 h)⟩
  ·exact absurd (h2 h) (by rw[Ga];exact id)
 ·intro⟨h,q⟩
  exact⟨λ_=>aj.mpr q,λz=>absurd h z⟩
def Ag(n:Int)(xs:LI):Prop:=xs.Nodup/\xs.length<=100/\∀z∈xs,0<=z/\z<n
theorem zM5(h:0<=z/\z<n):Qf z n=some true:=by
 unfold Qf
 rw[if_pos rfl,if_pos (show(!false)=true from rfl),decide_eq_true h.1,if_pos rfl,decide_eq_true h.2]
theorem WX(h:Ag n xs)(x:Str):W (yZ xs n x) λ_=>True:=by
 unfold yZ
 rw[zC,aj,zC,zC,aj]
 refine xE (λi s=>s.length<=i/\∀z,(iB s z).isSome=true->z∈xs.take i) ⟨aa0 _,λz hz=>by cases hz⟩ (λi y s hi hI=>?_) λs _=>aj.mpr trivial
 have il:=yT hi
 rw[zM5 (h.2.2 y (mem_of_getElem? hi)),zC,zC,zC,aj,aj,abw,if_neg (by decide),aj,zC]
 have hn:(iB s y).isSome=false:=by
  cases q:(iB s y).isSome with
  |false=>rfl
  |true=>exact absurd (hI.2 y q) (Zd h.1 hi)
 have hn':(iB (Dc.mk s).kv y).isSome=false:=hn
 rw[hn',if_neg (by decide),aj,zC,Ds]
 have l1:=h.2.1
 refine⟨zX (by omega),?_⟩
 rw[aj]
 have l2:=ZD s (aa1 y) true
 refine⟨by omega,λz hz=>?_⟩
 rw[vY hi]
 have e:iB (pK s (aa1 y) true) z=if(aa1 z:Key)=aa1 y then some true else iB s z:=ZC s (aa1 y) (aa1 z) true
 rw[e] at hz
 by_cases q:(aa1 z:Key)=aa1 y
 ·exact .inr (aev q)
 ·rw[if_neg q] at hz
  exact .inl (hI.2 z hz)
theorem Gy(a:Str){i:Nat}(h:i<1000):W (Jj a (i:Int)) λ_=>True:=by
 unfold Jj
 rw[if_pos (zOx (by omega)),aj]
 trivial
theorem zLc{xss:List LI}(hl:(xss.length:Int)=n)(h0:1<=n)(h1:n<=60)(h:∀xs∈xss,xs≠[]/\Ag n xs):W (wU xss) λ_=>True:=by
 unfold wU
 rw[zC,aj,zC,zC,hl,decide_eq_false (by omega),if_neg (by decide),aj,decide_eq_false (by omega),if_neg (by decide),aj,zC,zC,aj]
 refine xE (λ_ _=>True) trivial (λi y s hi _=>?_) λs _=>aj.mpr trivial
 obtain⟨e1,e2⟩:=U5 hi
 have il:=yT e2
 obtain⟨ne,ok⟩:=h y.2 (mem_of_getElem? e2)
 rw[e1]
 simp only[zC]
 refine(Gy "steps of stand " (i:=i) (by omega)).imp λt _=>?_
 rw[aj,aj,aj]
 refine(WX ok t).imp λ_ _=>?_
 rw[decide_eq_false (λz=>ne (length_eq_zero_iff.mp (by omega))),if_neg (by decide),aj,aj]
 trivial
theorem zM8{xss:List LI}(hl:xss.length<=100)(h:∀xs∈xss,Ag n xs):W (vI xss n) λ_=>True:=by
 unfold vI
 rw[zC,zC,aj]
 refine xE (λ_ _=>True) trivial (λi y s hi _=>?_) λs _=>aj.mpr trivial
 obtain⟨e1,e2⟩:=U5 hi
 have il:=yT e2
 rw[e1]
 simp only[zC]
 refine(Gy "fair set " (i:=i) (by omega)).imp λt _=>?_
 rw[aj,aj,aj]
 refine(WX (h y.2 (mem_of_getElem? e2)) t).imp λ_ _=>?_
 rw[aj]
 trivial
def zQd(n:Int)(ms:List (Str×LI)):Prop:=(ms.map (·.1)).Nodup/\ms.length<=100/\∀m∈ms,uG m.1=some true/\m.1.length<=1000/\Ag n m.2
theorem zLd(h:zQd n ms):W (wV ms n) λ_=>True:=by
 unfold wV
 rw[zC,aj,zC,zC,aj]
 refine xE (λi s=>s.length<=i/\∀z,(Gg s z).isSome=true->z∈(ms.map (·.1)).take i) ⟨aa0 _,λz hz=>by cases hz⟩ (λi y s hi hI=>?_) λs _=>aj.mpr trivial
 have il:=yT hi
 have hi':(ms.map (·.1))[i]?=some y.1:=by rw[getElem?_map,hi];rfl
 obtain⟨nm,ln,ok⟩:=h.2.2 y (mem_of_getElem? hi)
 have nin:y.1∉(ms.map (·.1)).take i:=λhz=>by
  obtain⟨j,hj⟩:=mem_iff_getElem?.mp hz
  have hji:j<i:=by
   have:=yT hj
   rw[length_take] at this
   omega
  rw[getElem?_take_of_lt hji] at hj
  have a1:=yT hi'
  have a2:=yT hj
  rw[aad a1] at hi'
  rw[aad a2] at hj
  have e:(ms.map (·.1))[j]=(ms.map (·.1))[i]:=(aai hj).trans (aai hi').symm
  have:=(getElem_inj h.1).mp e
  omega
 rw[nm,zC,zC,zC,aj,aj,abw,if_neg (by decide),aj,zC]
 have hn:(Gg (Dc.mk s).kv y.1).isSome=false:=by
  cases q:(Gg s y.1).isSome with
  |false=>rfl
  |true=>exact absurd (hI.2 y.1 q) nin
 rw[hn,if_neg (by decide),aj,zC,zSk]
 have l1:=h.2.1
 refine⟨zX (by omega),?_⟩
 simp only[zC]
 have fs:W (LK "mark " y.1) λ_=>True:=by
  unfold LK
  rw[if_pos ln,aj]
  trivial
 refine fs.imp λt _=>?_
 rw[aj,aj,aj]
 refine(WX ok t).imp λ_ _=>?_
 rw[aj]
 have l2:=ZD s (abn y.1) true
 refine⟨by omega,λz hz=>?_⟩
 rw[vY hi']
 have e:Gg (pK s (abn y.1) true) z=if(abn z:Key)=abn y.1 then some true else Gg s z:=ZC s (abn y.1) (abn z) true
 rw[e] at hz
 by_cases q:(abn z:Key)=abn y.1
 ·exact .inr (Sum.inr.inj q)
 ·rw[if_neg q] at hz
  exact .inl (hI.2 z hz)
theorem zJz{xss:List LI}(h:xss.length<=100):Mt xss=some xss:=by
 have q:W (Mt xss) (· = xss):=by
  unfold Mt
  rw[zC,aj,Gb (λx=>x),map_id']
  exact⟨zX (by omega),rfl⟩
 obtain⟨a,e,rfl⟩:=q
 exact e
theorem Qn(C:Addr){xss:List LI}{mo:Option Af}{fo:Option LLI}(hl:(xss.length:Int)=n)(h0:1<=n)(h1:n<=60)(h:∀xs∈xss,xs≠[]/\Ag n xs)(hm:zQd n (mo.getD []))(hf:(fo.getD []).length<=100/\∀xs∈fo.getD [],Ag n xs) :
  W (Mu C xss mo fo) λm=>Gr m n/\m.steps=xss/\m.marks=mo.getD []/\m.fair=fo.getD []:=by
 unfold Mu RT
 rw[zC]
 refine(zLc hl h0 h1 h).imp λ_ _=>?_
 rw[zC,hl]
 refine(zLd hm).imp λ_ _=>?_
 rw[zC]
 refine(zM8 hf.1 hf.2).imp λ_ _=>?_
 have m1:=hm.2.1
 rw[zJz (by omega),zC,aj,zC,Gb (λx:Str×LI=>(x.1,x.2))]
 refine⟨zX (by omega),?_⟩
 have e:(mo.getD []).map (λx:Str×LI=>(x.1,x.2))=mo.getD []:=map_id' _
 rw[zJz hf.1,zC,aj,zC]
 have hv:Ms xss=some (srcs xss):=by
  unfold Ms
  rw[if_pos ⟨by omega,rfl,λxs hx=>by obtain⟨a,b,c,d⟩:=h xs hx;exact⟨a,b,c,λz hz=>by have:=d z hz;omega⟩⟩]
 rw[hv,aj,aj,e]
 exact⟨⟨hl,h0,h1,λxs hx=>by obtain⟨a,b,c,d⟩:=h xs hx;exact⟨a,b,d⟩,rfl⟩,rfl,rfl,rfl⟩
theorem S7(h:aW n xs)(m5:n<=60):Ag n xs:=⟨h.nodup,by
 by_cases hn:0<=n
 ·have:=xZ (n:=n.toNat) h.nodup λx hx=>by have:=h.2 x hx;omega
  omega
 ·cases xs with
  |nil=>exact aa0 _
  |cons x xs=>have:=h.2 x mem_cons_self;omega,h.2⟩
theorem Dt(h:MJ n xs):xs≠[]/\Ag n xs:=⟨h.1,h.2.1,by have:=h.2.2.1;omega,h.2.2.2⟩
theorem WY(hx:0<=x)(hy:0<=y):aay x y=((x.toNat&&&y.toNat:Nat):Int):=by
 unfold aay
 rw[decide_eq_true hx,decide_eq_true hy]
theorem zK3(hx:0<=x)(hy:0<=y):aci x y=((x.toNat|||y.toNat:Nat):Int):=by
 have h1:¬0<=acd x:=by unfold acd;omega
 have h2:¬0<=acd y:=by unfold acd;omega
 have nn:∀z:Int,acd (acd z)=z:=λz=>by unfold acd;omega
 unfold aci aay
 rw[decide_eq_false h1,decide_eq_false h2]
 dsimp only
 rw[nn,nn,nn]
def bt(x t:Int):Bool:=x.toNat.testBit t.toNat
theorem Gz(hx:0<=x)(hy:0<=y)(t:Int):bt (aci x y) t=(bt x t||bt y t):=by
 unfold bt
 rw[zK3 hx hy,aa8,Nat.testBit_or]
theorem zTk(hx:0<=x)(hy:0<=y)(t:Int):bt (aay x y) t=(bt x t&&bt y t):=by
 unfold bt
 rw[WY hx hy,aa8,Nat.testBit_and]
theorem GC(hx:0<=x)(hy:0<=y):0<=aci x y:=by rw[zK3 hx hy];exact abe _
theorem zTn(hx:0<=x)(hy:0<=y):0<=aay x y:=by rw[WY hx hy];exact abe _
theorem Du(t:Int):bt 0 t=false:=by unfold bt;simp
theorem Kh(ht:0<=t)(hu:0<=u):bt (1*2^t.toNat) u=decide (u=t):=by
 unfold bt
 rw[Int.one_mul,show((2:Int)^t.toNat).toNat=2^t.toNat by
  rw[show((2:Int)^t.toNat)=((2^t.toNat:Nat):Int) by simp]
  exact aa8 _,Nat.testBit_two_pow]
 rw[aa6,decide_eq_true_iff,decide_eq_true_iff]
 omega
theorem W0{x:Int}(hx:0<=x)(k:Nat):0<=x/2^k:=Int.ediv_nonneg hx (Int.le_of_lt (Int.pow_pos (by decide)))
theorem Dv{x:Int}(hx:0<=x)(k:Nat):(x/2^k).toNat=x.toNat>>>k:=by
 obtain⟨m,rfl⟩:=Int.eq_ofNat_of_zero_le hx
 rw[Nat.shiftRight_eq_div_pow,aa8]
 have:((m:Int)/2^k)=((m/2^k:Nat):Int):=by simp
 rw[this,aa8]
theorem W2{t:Int}(hx:0<=x):bt (x/2^t.toNat) 0=bt x t:=by
 unfold bt
 rw[Dv hx,Int.toNat_zero,Nat.testBit_shiftRight]
 rfl
theorem zTi(hx:0<=x):(aay x 1 != 0)=bt x 0:=by
 rw[WY hx (by decide)]
 unfold bt
 rw[Nat.testBit]
 simp only[Int.toNat_zero,Nat.shiftRight_zero,show(1:Int).toNat=1 from rfl]
 rw[Nat.and_comm]
 rw[aa6]
 simp only[bne_iff_ne,ne_eq]
 omega
theorem zSo(h:∀x∈xs,0<=x/\x<n)(m5:n<=60):W (Mx xs) λb=>0<=b/\∀t:Int,0<=t->bt b t=decide (t∈xs):=by
 unfold Mx
 rw[zC,aj,zC,zC,aj]
 refine xE (λi s=>0<=s/\∀t:Int,0<=t->bt s t=decide (t∈xs.take i)) ⟨by decide,λt _=>by rw[Du];simp⟩ (λi x s hi hI=>?_) λs hI=>?_
 ·obtain⟨h0,hb⟩:=hI
  have xb:=h x (mem_of_getElem? hi)
  have e:sE 1 x=some (1*2^x.toNat):=by unfold sE;rw[if_pos ⟨xb.1,by omega,by decide⟩]
  have tk:xs.take (i+1)=xs.take i++[x]:=by rw[take_add_one,hi]<;>rfl
  have p0:(0:Int)<=1*2^x.toNat:=by rw[Int.one_mul];exact Int.le_of_lt (Int.pow_pos (by decide))
  rw[zC,zC,e,aj,aj,aj]
  refine⟨GC h0 p0,λt ht=>?_⟩
  rw[Gz h0 p0,hb t ht,Kh xb.1 ht,tk,aa6]
  simp
 ·rw[aj]
  rw[take_length] at hI
  exact hI
def rb(rows:LI)(s t:Int):Bool:=bt (rows.getD s.toNat 0) t
theorem Qo{rows:LI}(hl:(rows.length:Int)=n)(h0:0<=s)(h1:s<n):L2.bF rows s=some (rows.getD s.toNat 0):=by
 rw[Jc h0,getD_eq_getElem?_getD,aad (by omega)]
 rfl
def GD(rows:LI):Prop:=∀i:Nat,0<=rows.getD i 0
theorem zK2{rows:LI}{n s t:Int}(hl:(rows.length:Int)=n)(nn:GD rows)(h0:0<=s)(h1:s<n)(t0:0<=t) :
  ((((L2.bF rows s).bind λa=>iZ a t).bind λa=>some (aay a 1)).bind λa=>some (a != 0))=some (rb rows s t):=by
 rw[Qo hl h0 h1]
 show(((iZ _ t).bind _).bind _)=_
 unfold iZ
 rw[if_pos t0]
 show some (aay (rows.getD s.toNat 0/2^t.toNat) 1 != 0)=_
 rw[zTi (W0 (nn _) _),W2 (nn _)]
 rfl
theorem zQl{rows:LI}{n s t:Int}(hl:(rows.length:Int)=n)(nn:GD rows)(h0:0<=s)(h1:s<n)(t0:0<=t)(t1:t<n) :
  (((((L2.bF rows s).bind λa=>iZ a t).bind λa=>((L2.bF rows t).bind λb=>iZ b s).bind λb=>some (aay a b)).bind λa=>some (aay a 1)).bind λa=>some (a != 0))=some (rb rows s t&&rb rows t s):=by
 rw[Qo hl h0 h1,Qo hl t0 t1]
 show((((iZ _ t).bind λa=>(iZ _ s).bind _).bind _).bind _)=_
 unfold iZ
 rw[if_pos t0,if_pos h0]
 show some (aay (aay (rows.getD s.toNat 0/2^t.toNat) (rows.getD t.toNat 0/2^s.toNat)) 1 != 0)=_
 have a1:=W0 (nn s.toNat) t.toNat
 have a2:=W0 (nn t.toNat) s.toNat
 rw[zTi (zTn a1 a2),zTk a1 a2,W2 (nn _),W2 (nn _)]
 rfl
theorem zSz{rows:LI}(hl:(rows.length:Int)=n)(x0:0<=x)(x1:x<n)(s0:0<=s):rb (rows.set x.toNat v) s t=if s=x then bt v t else rb rows s t:=by
 unfold rb
 rw[MN (by omega)]
 by_cases e:s=x
 ·subst e;rw[if_pos rfl,if_pos rfl]
 ·rw[if_neg (by omega),if_neg e]
theorem zS6{rows:LI}(hl:(rows.length:Int)=n)(x0:0<=x)(x1:x<n)(nn:GD rows)(hv:0<=v):GD (rows.set x.toNat v):=λi=>by
 rw[MN (by omega)]
 split
 ·exact hv
 ·exact nn i
inductive gZ(xss:List LI)(U:LI):Int->Int->Prop
 |one {s t:Int}:t∈nxt xss s->t∈U->gZ xss U s t
 |step {s u t:Int}:u∈nxt xss s->u∈U->gZ xss U u t->gZ xss U s t
theorem gZ.trans(h:gZ xss U s t)(k:gZ xss U t u):gZ xss U s u:=by
 induction h with
 |one a b=>exact .step a b k
 |step a b _ ih=>exact .step a b (ih k)
theorem gZ.mem(h:gZ xss U s t):t∈U:=by
 induction h with
 |one _ b=>exact b
 |step _ _ _ ih=>exact ih
theorem gZ.mono{xss:List LI}{U V:LI}{s t:Int}(h:gZ xss U s t)(k:∀x∈U,x∈V):gZ xss V s t:=by
 induction h with
 |one a b=>exact .one a (k _ b)
 |step a b _ ih=>exact .step a (k _ b) ih
structure mJ(xss:List LI)(U rows:LI):Prop where
 nn:GD rows
 edge:∀s∈U,∀t∈U,t∈nxt xss s->rb rows s t=true
 sound:∀s∈U,∀t:Int,0<=t->rb rows s t=true->gZ xss U s t
 trans:∀s∈U,∀u∈U,∀t:Int,0<=t->rb rows s u=true->rb rows u t=true->rb rows s t=true
theorem zKz{α β:Type}{c:α->Option Bool}{f:α->Option β}{p:α->Bool}{g:α->β}:∀{xs:List α},(∀x∈xs,c x=some (p x))->(∀x∈xs,f x=some (g x))->wF c f xs=some ((xs.filter p).map g)
 |[],_,_=>rfl
 |x::xs,hc,hf=>by
  have ih:=zKz (xs:=xs) (λy hy=>hc y (mem_cons_of_mem _ hy)) λy hy=>hf y (mem_cons_of_mem _ hy)
  show((c x).bind λb=>if b=true then(f x).bind λy=>(wF c f xs).bind λys=>some (y::ys) else wF c f xs)=_
  rw[hc x mem_cons_self,bnd,hf x mem_cons_self,ih,filter_cons]
  cases p x with
  |true=>rw[if_pos rfl,if_pos rfl];rfl
  |false=>rw[if_neg (by decide),if_neg (by decide)]
theorem wC{α β:Type}{c:α->Option Bool}{f:α->Option β}{p:α->Bool}{g:α->β}{xs:List α}(hl:xs.length<cap)(hc:∀x∈xs,c x=some (p x))(hf:∀x∈xs,f x=some (g x)):yQ c f xs=some ((xs.filter p).map g):=by
 unfold yQ
 rw[if_pos hl]
 exact zKz hc hf
theorem zSw{C:Addr}{m:aG C}(g:Gr m n)(h0:0<=s)(h1:s<n):nxt m.steps s∈m.steps:=mem_of_getElem? (Kg g.len h0 h1)
theorem zJw{C:Addr}{m:aG C}(g:Gr m n)(h0:0<=s)(h1:s<n):W (yP m s) λxs=>xs.length<=60/\∀x,x∈xs↔x∈nxt m.steps s:=by
 unfold yP
 have f:=g.few
 obtain⟨_,nd,rg⟩:=g.row _ (zSw g h0 h1)
 have l:=xZ (n:=n.toNat) nd λx hx=>by have:=rg x hx;omega
 rw[zC,j7 h0]
 refine⟨_,Kg g.len h0 h1,?_⟩
 unfold Cj
 rw[if_pos (by omega),aj]
 refine⟨by rw[(vD _).length_eq];omega,λx=>(vD _).mem_iff⟩
def dl(xs:LI):List (Key×Bool):=xs.map λx=>((aa1 x:Key),true)
theorem W3:∀(xs:LI)(x:Int),(iB (dl xs) x).isSome=decide (x∈xs)
 |[],x=>by simp[dl,iB,gK]
 |y::xs,x=>by
  have ih:=W3 xs x
  unfold iB gK dl at ih ⊢
  rw[map_cons,find?_cons]
  by_cases e:y=x
  ·subst e;simp
  ·rw[decide_eq_false (show¬((aa1 y:Key),true).1=(aa1 x:Key) fromλz=>e (aev z))]
   rw[ih,aa6,decide_eq_true_eq,decide_eq_true_eq,mem_cons]
   exact⟨.inr,λh=>h.resolve_left λz=>e z.symm⟩
theorem Kl(h:x∉xs):pK (dl xs) (aa1 x) true=dl (xs++[x]):=by
 unfold pK
 have:((dl xs).any λkv=>decide (kv.1=(aa1 x:Key)))=false:=by
  rw[Zz]
  have:=W3 xs x
  rw[decide_eq_false h] at this
  exact this
 rw[if_neg (by rw[this];decide)]
 unfold dl
 rw[map_append]
 rfl
theorem Km(xs:LI):(dl xs).length=xs.length:=length_map ..
theorem Ko:W (dput kvs k v) Q↔kvs.length<cap/\Q (pK kvs (aa1 k) v):=by
 unfold dput
 split
 ·rename_i h;rw[aj];exact⟨λq=>⟨h,q⟩,λq=>q.2⟩
 ·rename_i h;rw[Ga];exact⟨abb,λq=>h q.1⟩
section
variable{S α β:Type}
theorem zP4{step:S->α->Option (Out S β)}{Q:Out S β->Prop}(I:Nat->S->Prop)(h0:I 0 s)(hs:∀i x s,xs[i]?=some x->I i s->W (step s x) λo=>(∃s',o=.nx s'/\I (i+1) s')\/∃b,o=.rt b/\Q (.rt b))(hd:∀s,I xs.length s->Q (.nx s)):W (vZ step xs s) Q:=by
 have key:∀(ys:List α)(i:Nat)(s:S),(∀j x,ys[j]?=some x->xs[i+j]?=some x)->i+ys.length=xs.length->I i s->W (vZ step ys s) Q:=by
  intro ys
  induction ys with
  |nil=>intro i s _ hl h;exact⟨.nx s,rfl,hd s ((show i=xs.length from hl)▸h)⟩
  |cons y ys ih =>
   intro i s hy hl h
   rw[Zn,zC]
   refine(hs i y s (hy 0 y rfl) h).imp ?_
   rintro o (⟨s',rfl,h'⟩|⟨b,rfl,h'⟩)
   ·refine ih (i+1) s' (λj x hx=>?_) (by rw[length_cons] at hl;omega) h'
    have:=hy (j+1) x (by simpa using hx)
    rw[show i+1+j=i+(j+1) by omega]
    exact this
   ·exact⟨.rt b,rfl,h'⟩
 exact key xs 0 s (λj x h=>by rw[ab5];exact h) (ab5 _) h0
end
theorem M5{α:Type}{xs:List α}{x:α}(h:xs[i]?=some x):xs.take (i+1)=xs.take i++[x]:=by rw[take_add_one,h]<;>rfl
theorem uT{xs:LI}{i:Nat}{x s:Int}(h:xs[i]?=some x):s∈xs.take (i+1)↔s∈xs.take i\/s=x:=by rw[M5 h,mem_append,mem_singleton]
theorem Kq{C:Addr}{m:aG C}(g:Gr m n)(h0:0<=s)(h1:s<n):∀x∈nxt m.steps s,0<=x/\x<n:=(g.row _ (zSw g h0 h1)).2.2
theorem zQe{C:Addr}{m:aG C}(g:Gr m n)(hU:∀x∈U,0<=x/\x<n):W (wR m U) λrows=>(rows.length:Int)=n/\mJ m.steps U rows:=by
 unfold wR
 have few:=g.few
 have pos:=g.pos
 rw[zC]
 refine(zSo hU few).imp λinside ⟨i0,ib⟩=>?_
 rw[zC,zC,zC,S6 g,aj,cW]
 refine⟨⟨by omega,by omega⟩,?_⟩
 have rl:=vN (n:=n) (by omega)
 rw[Gb (λ_=>(0:Int))]
 refine⟨zX (by omega),?_⟩
 rw[zC,zC,aj]
 refine xE (λi rows=>(rows.length:Int)=n/\GD rows/\∀s∈U.take i,∀t:Int,0<=t->rb rows s t=decide (t∈nxt m.steps s/\t∈U)) ⟨by rw[length_map];exact rl,λi=>?_,λs hs=>by simp at hs⟩ (λi x rows hi hI=>?_) λrows hI=>?_
 ·rw[getD_eq_getElem?_getD,getElem?_map]
  cases(rng n)[i]?<;>exact adt 0
 ·obtain⟨hl,nn,hb⟩:=hI
  have xb:=hU x (mem_of_getElem? hi)
  rw[zC,zC,zC,zC,zC]
  refine(zJw g xb.1 xb.2).imp λns ⟨_,hns⟩=>?_
  rw[aj]
  refine(zSo (xs:=ns) (λy hy=>Kq g xb.1 xb.2 y ((hns y).mp hy)) few).imp λb ⟨b0,bb⟩=>?_
  rw[aj,LC xb.1 (by omega),aj]
  refine⟨by rw[length_set];exact hl,zS6 hl xb.1 xb.2 nn (zTn b0 i0),λs hs t ht=>?_⟩
  rw[uT hi] at hs
  have s0:0<=s:=hs.elim (λh=>(hU s (List.mem_of_mem_take h)).1) λh=>h▸xb.1
  rw[zSz hl xb.1 xb.2 s0]
  by_cases e:s=x
  ·subst e
   rw[if_pos rfl,zTk b0 i0,bb t ht,ib t ht,aa6]
   simp[hns]
  ·rw[if_neg e]
   exact hb s (hs.resolve_right e) t ht
 ·obtain⟨hl,nn,hb⟩:=hI
  rw[take_length] at hb
  rw[zC,zC,aj]
  refine xE (λi rows=>(rows.length:Int)=n/\GD rows/\(∀s∈U,∀t∈U,t∈nxt m.steps s->rb rows s t=true)/\(∀s∈U,∀t:Int,0<=t->rb rows s t=true->gZ m.steps U s t)/\∀u∈U.take i,∀s∈U,∀t:Int,0<=t->rb rows s u=true->rb rows u t=true->rb rows s t=true)
   ⟨hl,nn,λs hs t ht h=>by rw[hb s hs t (hU t ht).1];exact decide_eq_true ⟨h,ht⟩,λs hs t ht h=>by
    rw[hb s hs t ht] at h
    have:=of_decide_eq_true h
    exact .one this.1 this.2,λu hu=>by simp at hu⟩ (λi u R0 hi hI=>?_) λrows hI=>?_
  ·obtain⟨hl0,nn0,W4,Kr,W5⟩:=hI
   have um:=mem_of_getElem? hi
   have ub:=hU u um
   rw[zC,zC,aj]
   refine xE (λj rows=>(rows.length:Int)=n/\GD rows/\∀s∈U,∀t:Int,0<=t->rb rows s t=(rb R0 s t||(decide (s∈U.take j)&&(rb R0 s u&&rb R0 u t)))) ⟨hl0,nn0,λs _ t _=>by simp⟩ (λj x rows hj hJ=>?_) λrows hJ=>?_
   ·obtain⟨hl1,zc,hb1⟩:=hJ
    have xm:=mem_of_getElem? hj
    have xb:=hU x xm
    have ex:rb rows x u=rb R0 x u:=by
     rw[hb1 x xm u ub.1]
     cases rb R0 x u<;>simp
    have eu:∀t:Int,0<=t->rb rows u t=rb R0 u t:=λt ht=>by
     rw[hb1 u um t ht]
     cases rb R0 u t<;>simp
    rw[zK2 hl1 zc xb.1 xb.2 ub.1,zC,zC,aj,ex]
    by_cases c:rb R0 x u=true
    ·rw[c,if_pos rfl,zC,zC,Qo hl1 ub.1 ub.2,aj]
     unfold Cw
     rw[if_pos xb.1,Qo hl1 xb.1 xb.2]
     show W (rD rows x _) _
     rw[LC xb.1 (by omega),aj,aj]
     refine⟨by rw[length_set];exact hl1,zS6 hl1 xb.1 xb.2 zc (GC (zc _) (zc _)),λs hs t ht=>?_⟩
     rw[zSz hl1 xb.1 xb.2 (hU s hs).1]
     by_cases e:s=x
     ·subst e
      rw[if_pos rfl,Gz (zc _) (zc _)]
      show(rb rows s t||rb rows u t)=_
      rw[hb1 s hs t ht,eu t ht,c,decide_eq_true ((uT hj).mpr (.inr rfl))]
      cases rb R0 s t<;>cases rb R0 u t<;>simp
     ·rw[if_neg e,hb1 s hs t ht]
      have:decide (s∈U.take (j+1))=decide (s∈U.take j):=by
       rw[aa6,decide_eq_true_iff,decide_eq_true_iff,uT hj]
       exact⟨λh=>h.resolve_right e,.inl⟩
      rw[this]
    ·have c:rb R0 x u=false:=by simpa using c
     rw[c,if_neg (by decide),aj,aj]
     refine⟨hl1,zc,λs hs t ht=>?_⟩
     rw[hb1 s hs t ht]
     by_cases e:s=x
     ·subst e
      rw[c]
      simp
     ·have:decide (s∈U.take (j+1))=decide (s∈U.take j):=by
       rw[aa6,decide_eq_true_iff,decide_eq_true_iff,uT hj]
       exact⟨λh=>h.resolve_right e,.inl⟩
      rw[this]
   ·obtain⟨hl1,zc,hb1⟩:=hJ
    rw[take_length] at hb1
    have nw:∀s∈U,∀t:Int,0<=t->(rb rows s t=true↔rb R0 s t=true\/(rb R0 s u=true/\rb R0 u t=true)):=λs hs t ht=>by
     rw[hb1 s hs t ht,decide_eq_true hs]
     simp
    rw[aj]
    refine⟨hl1,zc,λs hs t ht h=>(nw s hs t (hU t ht).1).mpr (.inl (W4 s hs t ht h)),λs hs t ht h=>?_,λv hv s hs t ht h1 h2=>?_⟩
    ·rcases(nw s hs t ht).mp h with h|⟨h,k⟩
     ·exact Kr s hs t ht h
     ·exact(Kr s hs u ub.1 h).trans (Kr u um t ht k)
    ·rw[uT hi] at hv
     refine(nw s hs t ht).mpr ?_
     rcases hv with hv|rfl
     ·have vU:=List.mem_of_mem_take hv
      have v0:=(hU v vU).1
      have T:=W5 v hv
      rcases(nw s hs v v0).mp h1 with a|⟨a,b⟩<;>rcases(nw v vU t ht).mp h2 with c|⟨c,d⟩
      ·exact .inl (T s hs t ht a c)
      ·exact .inr ⟨T s hs u ub.1 a c,d⟩
      ·exact .inr ⟨a,T u um t ht b c⟩
      ·exact .inr ⟨a,d⟩
     ·have a:rb R0 s v=true:=((nw s hs v ub.1).mp h1).elim id And.left
      have b:rb R0 v t=true:=((nw v um t ht).mp h2).elim id And.right
      exact .inr ⟨a,b⟩
  ·obtain⟨hl1,zc,ed,so,tr⟩:=hI
   rw[take_length] at tr
   rw[aj]
   exact⟨hl1,zc,ed,so,λs hs u hu t ht=>tr u hu s hs t ht⟩
def ring(rows U:LI)(s:Int):LI:=U.filter λt=>rb rows s t&&rb rows t s
theorem aO:t∈ring rows U s↔t∈U/\rb rows s t=true/\rb rows t s=true:=by
 unfold ring
 rw[mem_filter,aag]
structure qX(xss:List LI)(U G:LI):Prop where
 sub:∀s∈G,s∈U
 nd:G.Nodup
 go:∀s∈G,∀t∈G,gZ xss G s t
theorem mJ.full(R:mJ xss U rows)(h0:∀x∈U,0<=x)(h:gZ xss U s t):s∈U->rb rows s t=true:=by
 induction h with
 |one a b=>exactλhs=>R.edge _ hs _ b a
 |step a b p ih=>exactλhs=>R.trans _ hs _ b _ (h0 _ p.mem) (R.edge _ hs _ b a) (ih b)
theorem zN1(R:mJ xss U rows)(h0:∀x∈U,0<=x)(nd:U.Nodup)(ho:o∈U):qX xss U (ring rows U o):=by
 have key:∀{s t:Int},gZ xss U s t->s∈ring rows U o->t∈ring rows U o->gZ xss (ring rows U o) s t:=by
  intro s t h
  induction h with
  |one a b=>exactλ_ ht=>.one a ht
  |@step s u t a b p ih =>
   intro hs ht
   obtain⟨sU,s1,s2⟩:=aO.mp hs
   obtain⟨tU,t1,t2⟩:=aO.mp ht
   have u1:rb rows o u=true:=R.trans o ho s sU u (h0 u b) s1 (R.edge s sU u b a)
   have u2:rb rows u o=true:=R.trans u b t tU o (h0 o ho) (R.full h0 p b) t2
   have hu:=aO.mpr ⟨b,u1,u2⟩
   exact .step a hu (ih hu ht)
 refine⟨λs hs=>(aO.mp hs).1,nd.filter _,λs hs t ht=>?_⟩
 obtain⟨sU,s1,s2⟩:=aO.mp hs
 obtain⟨tU,t1,t2⟩:=aO.mp ht
 exact key (R.sound s sU t (h0 t tU) (R.trans s sU o ho t (h0 t tU) s2 t1)) hs ht
structure Dw(rows U:LI)(told:List LI):Prop where
 are:∀G∈told,∃s∈U,rb rows s s=true/\G=ring rows U s
 nd:told.flatten.Nodup
 all:∀s∈U,rb rows s s=true->s∈told.flatten
theorem zM0(h:∀x∈xs,0<=x/\x<n)(hl:xs.length<64):Mg xs=some (vK xs)/\aW n (vK xs):=by
 unfold Mg
 rw[if_pos hl]
 exact⟨rfl,Mh xs,λx hx=>h x (cQ.mp hx)⟩
theorem Dy{C:Addr}{m:aG C}(g:Gr m n)(hx:∀x∈xs,0<=x/\x<n)(hl:xs.length<64):W (Qg m xs) λtold=>∃rows,mJ m.steps (vK xs) rows/\Dw rows (vK xs) told:=by
 obtain⟨e,hR⟩:=zM0 hx hl
 have few:=g.few
 have pos:=g.pos
 unfold Qg
 rw[e,zC,aj,zC]
 generalize vK xs=U at hR ⊢
 have h0:∀x∈U,0<=x:=λx hx=>(hR.2 x hx).1
 have Ul:U.length<=n.toNat:=xZ hR.nodup λx hx=>by have:=hR.2 x hx;omega
 refine(zQe g hR.2).imp λrows ⟨rl,R⟩=>?_
 rw[zC,aj,zC,aj,zC,zC,aj]
 refine xE (λi z=>∃told:List LI,z=(told,dl told.flatten)/\(∀G∈told,∃s∈U,rb rows s s=true/\G=ring rows U s)/\told.flatten.Nodup/\(∀s∈U.take i,rb rows s s=true->s∈told.flatten)/\told.length<=i) ⟨[],rfl,λG hG=>(by cases hG),by simp,λs hs=>(by simp at hs),aaf _⟩ (λi x z hi hI=>?_) λz hI=>?_
 ·obtain⟨told,rfl,are,nd,all,tl⟩:=hI
  have xm:=mem_of_getElem? hi
  have xb:=hR.2 x xm
  have sub:∀t∈told.flatten,t∈U:=λt ht=>by
   obtain⟨G,hG,tG⟩:=mem_flatten.mp ht
   obtain⟨s,_,_,rfl⟩:=are G hG
   exact(aO.mp tG).1
  have il:i<U.length:=(aao.mp hi).1
  rw[zC,zC]
  show W (if(!(iB (dl told.flatten) x).isSome)=true then _ else _) _
  rw[W3]
  by_cases xf:x∈told.flatten
  ·rw[decide_eq_true xf,abw,if_neg (by decide),aj,if_neg (by decide),aj,aj]
   exact⟨told,rfl,are,nd,λs hs h=>((uT hi).mp hs).elim (λq=>all s q h) λq=>q▸xf,by omega⟩
  ·rw[decide_eq_false xf,Bool.not_false,if_pos rfl,zK2 rl R.nn xb.1 xb.2 xb.1,aj]
   by_cases c:rb rows x x=true
   ·have dis:∀t∈ring rows U x,t∉told.flatten:=λt ht tf=>by
     obtain⟨G,hG,tG⟩:=mem_flatten.mp tf
     obtain⟨s,sU,_,rfl⟩:=are G hG
     obtain⟨tU,t1,t2⟩:=aO.mp ht
     obtain⟨_,t3,t4⟩:=aO.mp tG
     exact xf (mem_flatten.mpr ⟨_,hG,aO.mpr ⟨xm,R.trans s sU t tU x xb.1 t3 t2,R.trans x xm t tU s (h0 s sU) t1 t4⟩⟩)
    have rn:(ring rows U x).Nodup:=hR.nodup.filter _
    have nd2:(told.flatten++ring rows U x).Nodup:=by
     rw[nodup_append]
     exact⟨nd,rn,λa ha b hb e=>dis b hb (e▸ha)⟩
    have ln:(told.flatten++ring rows U x).length<=n.toNat:=xZ nd2 λy hy=>by
     have:y∈U:=(mem_append.mp hy).elim (sub y) λq=>(aO.mp q).1
     have:=hR.2 y this
     omega
    rw[c,if_pos rfl,zC,zC,aj,wC (p:=λt=>rb rows x t&&rb rows t x) (g:=λt=>t) (zX (by omega)) (λt ht=>zQl rl R.nn xb.1 xb.2 (hR.2 t ht).1 (hR.2 t ht).2) (λt _=>rfl),aj,map_id']
    show W ((push told (ring rows U x)).bind _) _
    rw[zC,uO]
    refine⟨zX (by omega),?_⟩
    rw[zC,zC,aj]
    refine xE (λk d=>d=dl (told.flatten++(ring rows U x).take k)) (by rw[List.take_zero,append_nil]) (λk y d hk hd=>?_) λd hd=>?_
    ·subst hd
     have hk:(ring rows U x)[k]?=some y:=hk
     have ym:=mem_of_getElem? hk
     have kl:=(aao.mp hk).1
     have yn:y∉told.flatten++(ring rows U x).take k:=λq=>by
      rcases mem_append.mp q with q|q
      ·exact dis y ym q
      ·obtain⟨j,hj,e⟩:=getElem_of_mem q
       rw[List.getElem_take] at e
       rw[length_take] at hj
       have e2:=(aao.mp hk).2
       have:=(List.nodup_iff_pairwise_ne.mp rn)
       have ne:=List.pairwise_iff_getElem.mp this j k (by omega) kl (by omega)
       exact ne (e.trans e2.symm)
     rw[zC,Ko,Kl yn,Km]
     refine⟨zX ?_,?_⟩
     ·rw[length_append] at ln ⊢
      rw[length_take]
      omega
     ·rw[aj,M5 hk,append_assoc]
    ·subst hd
     rw[show(ring rows U x).take (U.filter λt=>rb rows x t&&rb rows t x).length=ring rows U x from take_length,aj,aj]
     refine⟨told++[ring rows U x],by rw[flatten_append,flatten_singleton],λG hG=>?_,by rw[flatten_append,flatten_singleton];exact nd2,λs hs h=>?_,by rw[length_append];exact abj tl⟩
     ·rcases mem_append.mp hG with q|q
      ·exact are G q
      ·exact⟨x,xm,c,mem_singleton.mp q⟩
     ·rw[flatten_append,flatten_singleton,mem_append]
      exact((uT hi).mp hs).elim (λq=>.inl (all s q h)) λq=>.inr (by rw[q];exact aO.mpr ⟨xm,c,c⟩)
   ·have c':rb rows x x=false:=by simpa using c
    rw[c',if_neg (by decide),aj,aj]
    exact⟨told,rfl,are,nd,λs hs h=>((uT hi).mp hs).elim (λq=>all s q h) λq=>absurd (q▸h) c,by omega⟩
 ·obtain⟨told,rfl,are,nd,all,_⟩:=hI
  rw[take_length] at all
  rw[aj]
  exact⟨rows,R,are,nd,all⟩
def ud(n:Int)(fair:List LI):Prop:=fair.length<=100/\∀F∈fair,Ag n F
def xW(fair:List LI)(G:LI):Bool:=fair.all λF=>G.any λx=>decide (x∈F)
theorem rG(h:Ag n xs)(m5:n<=60)(h0:0<=n):xs.length<=60:=by
 have:=xZ (n:=n.toNat) h.1 λx hx=>by have:=h.2.2 x hx;omega
 omega
theorem zQi{C:Addr}{m:aG C}{n:Int}(g:Gr m n)(hf:ud n m.fair){i:Nat}{F:LI}(hi:m.fair[i]?=some F):W (xD m (i:Int)) λxs=>xs.length<=60/\∀x,x∈xs↔x∈F:=by
 unfold xD
 have few:=g.few
 have pos:=g.pos
 have l:=rG (hf.2 F (mem_of_getElem? hi)) few (by omega)
 rw[zC,j7 (by omega)]
 refine⟨F,by rw[aa8];exact hi,?_⟩
 unfold Cj
 rw[if_pos (by omega),aj]
 exact⟨by rw[(vD _).length_eq];exact l,λx=>(vD _).mem_iff⟩
theorem zM2{xs ys:LI}(h:xs.length<64\/ys.length<64)(h1:xs.length<4000)(h2:ys.length<4000):vW xs ys=some (vK (xs.filter λz=>decide (z∈ys))):=by
 unfold vW R9
 rw[if_pos ⟨h,h1,h2⟩]
theorem zJv{xs ys:LI}(h1:xs.length<64)(h2:ys.length<4000):vW xs ys=some (vK (xs.filter λz=>decide (z∈ys))):=zM2 (.inl h1) (by omega) h2
theorem n_:(vK xs).length=0↔xs=[]:=by
 rw[length_eq_zero_iff]
 constructor
 ·intro h
  cases xs with
  |nil=>rfl
  |cons x xs =>
   have:=(cQ (x:=x) (ns:=x::xs)).mpr mem_cons_self
   rw[h] at this
   cases this
 ·intro h;subst h;rfl
theorem zQf{C:Addr}{m:aG C}(g:Gr m n)(hf:ud n m.fair){G:LI}(hG:G.length<64):W (uE m G) λo=>o.isNone=xW m.fair G:=by
 unfold uE
 have hl:=hf.1
 rw[zC,zC,cW]
 refine⟨⟨by omega,by omega⟩,zP4 (λi _=>∀F∈m.fair.take i,(G.any λx=>decide (x∈F))=true) (λF hF=>by simp at hF) (λi x s hi hI=>?_) λs hI=>?_⟩
 ·obtain⟨rfl,hx⟩:=Jb hi
  have il:i<m.fair.length:=by omega
  have hF:m.fair[i]?=some m.fair[i]:=aad il
  rw[zC,zC,zC,zC,zC,zC]
  refine(zQi g hf hF).imp λys ⟨yl,ym⟩=>?_
  rw[aj,aj]
  show W (vW G ys) _
  rw[zJv hG (by omega),aj,aj,aj]
  by_cases e:G.filter (λz=>decide (z∈ys))=[]
  ·rw[decide_eq_true (show((vK (G.filter λz=>decide (z∈ys))).length:Int)=0 by have:=n_.mpr e;omega),if_pos rfl,zC,aj,aj]
   refine .inr ⟨_,rfl,?_⟩
   show W (some (some (i:Int))) _
   rw[aj]
   symm
   show xW m.fair G=false
   have:(G.any λx=>decide (x∈m.fair[i]))=false:=by
    rw[any_eq_false]
    intro x hx q
    have q:=of_decide_eq_true q
    have:x∈G.filter (λz=>decide (z∈ys)):=mem_filter.mpr ⟨hx,decide_eq_true ((ym x).mpr q)⟩
    rw[e] at this
    cases this
   unfold xW
   rw[List.all_eq_false]
   exact⟨_,getElem_mem il,by rw[this];decide⟩
  ·rw[decide_eq_false (λz=>e (n_.mp (by omega))),if_neg (by decide),aj]
   refine .inl ⟨(),rfl,λF hF'=>?_⟩
   rw[M5 hF,mem_append,mem_singleton] at hF'
   rcases hF' with q|q
   ·exact hI F q
   ·subst q
    obtain⟨x,hx⟩:=List.exists_mem_of_ne_nil _ e
    rw[mem_filter] at hx
    exact any_eq_true.mpr ⟨x,hx.1,decide_eq_true ((ym x).mp (of_decide_eq_true hx.2))⟩
 ·have e:(rng (m.fair.length:Int)).length=m.fair.length:=by have:=vN (n:=(m.fair.length:Int)) (by omega);omega
  rw[e,take_length] at hI
  rw[v9,aj]
  symm
  show xW m.fair G=true
  exact all_eq_true.mpr hI
theorem zQ7{U:LI}(h:U.length<=k):(ring rows U s).length<=k:=aas (length_filter_le ..) h
structure qY(xss:List LI)(fair:List LI)(U goal:LI):Prop where
 nd:goal.Nodup
 sub:∀s∈goal,s∈U
 of:∀s∈goal,∃G:LI,qX xss U G/\s∈G/\xW fair G=true/\∀t∈G,t∈goal
 all:∀s∈U,∀G:LI,(∀t,t∈G↔t∈U/\gZ xss U s t/\gZ xss U t s)->gZ xss U s s->xW fair G=true->s∈goal
theorem zHt(h:∀t,t∈G↔t∈G'):xW fair G=xW fair G':=by
 unfold xW
 congr 1
 funext F
 rw[aa6,any_eq_true,any_eq_true]
 exact⟨λ⟨x,a,b⟩=>⟨x,(h x).mp a,b⟩,λ⟨x,a,b⟩=>⟨x,(h x).mpr a,b⟩⟩
theorem Dz{C:Addr}{m:aG C}(g:Gr m n)(hf:ud n m.fair)(hx:∀x∈xs,0<=x/\x<n)(hl:xs.length<64) :
  W (wM m xs) λa=>a.length<=60/\(∀G∈a,qX m.steps (vK xs) G/\xW m.fair G=true)/\W (Ke a) λgoal=>goal=a.flatten/\qY m.steps m.fair (vK xs) goal:=by
 have few:=g.few
 have pos:=g.pos
 have hR:=(zM0 hx hl).2
 have h0:∀x∈vK xs,0<=x:=λx hx=>(hR.2 x hx).1
 have Ul:(vK xs).length<=n.toNat:=xZ hR.nodup λx hx=>by have:=hR.2 x hx;omega
 unfold wM
 rw[zC]
 refine(Dy g hx hl).imp λtold ⟨rows,R,T⟩=>?_
 have tl:told.length<=60/\told.flatten.length<=60:=by
  have f:told.flatten.length<=n.toNat:=xZ T.nd λy hy=>by
   obtain⟨G,hG,yG⟩:=mem_flatten.mp hy
   obtain⟨s,_,_,rfl⟩:=T.are G hG
   have:=hR.2 y (aO.mp yG).1
   omega
  refine⟨?_,by omega⟩
  have ne:∀G∈told,1<=G.length:=λG hG=>by
   obtain⟨s,sU,c,rfl⟩:=T.are G hG
   exact List.length_pos_of_mem (aO.mpr ⟨sU,c,c⟩)
  have:∀l:List LI,(∀G∈l,1<=G.length)->l.length<=l.flatten.length:=λl=>by
   induction l with
   |nil=>intro _;exact aa0 _
   |cons G l ih =>
    intro h
    rw[flatten_cons,length_append,length_cons]
    have a:=ih λG' hG'=>h G' (mem_cons_of_mem _ hG')
    have b:=h G mem_cons_self
    omega
  have:=this told ne
  omega
 have gl:∀G∈told,G.length<64:=λG hG=>by
  obtain⟨s,_,_,rfl⟩:=T.are G hG
  have:=zQ7 (rows:=rows) (s:=s) Ul
  omega
 rw[wC (p:=xW m.fair) (g:=λG=>G) (zX (by omega)) (λG hG=>by
  obtain⟨o,e,q⟩:=zQf g hf (gl G hG)
  rw[e]
  exact congrArg some q) (λ_ _=>rfl),aj,map_id']
 have fl:∀l:List LI,(l.filter (xW m.fair)).flatten.Sublist l.flatten:=λl=>by
  induction l with
  |nil=>exact List.Sublist.refl _
  |cons G l ih =>
   rw[filter_cons]
   split
   ·rw[flatten_cons,flatten_cons];exact(List.Sublist.refl _).append ih
   ·rw[flatten_cons];exact ih.trans (List.sublist_append_right ..)
 have js:W (Ke (told.filter (xW m.fair))) (· = (told.filter (xW m.fair)).flatten):=by
  unfold Ke
  rw[zC,aj,zC,zC,aj]
  refine xE (λi s=>s=((told.filter (xW m.fair)).take i).flatten) (by rw[List.take_zero];rfl) (λi G s hi hI=>?_) λs hI=>?_
  ·subst hI
   unfold wj
   have e:((told.filter (xW m.fair)).take i).flatten++G=((told.filter (xW m.fair)).take (i+1)).flatten:=by rw[M5 hi,flatten_append,flatten_singleton]
   have l:(((told.filter (xW m.fair)).take i).flatten++G).length<=60:=by
    rw[e]
    have a:((told.filter (xW m.fair)).take (i+1)).flatten.Sublist (told.filter (xW m.fair)).flatten:=by
     have e2:(told.filter (xW m.fair)).flatten=((told.filter (xW m.fair)).take (i+1)).flatten++((told.filter (xW m.fair)).drop (i+1)).flatten:=by rw[<-flatten_append,take_append_drop]
     rw[e2]
     exact List.sublist_append_left ..
    have:=(a.trans (fl told)).length_le
    omega
   rw[length_append] at l
   rw[if_pos (zX (by omega)),zC,aj,aj,e]
  ·subst hI
   rw[take_length,aj]
 refine⟨aas (length_filter_le ..) tl.1,λG hG=>?_,js.imp λgoal e=>⟨e,?_⟩⟩
 ·obtain⟨o,oU,_,rfl⟩:=T.are G (mem_filter.mp hG).1
  exact⟨zN1 R h0 hR.nodup oU,(mem_filter.mp hG).2⟩
 subst e
 refine⟨T.nd.sublist (fl told),λs hs=>?_,λs hs=>?_,λs sU G hG p q=>?_⟩
 ·obtain⟨G,hG,sG⟩:=mem_flatten.mp hs
  obtain⟨o,_,_,rfl⟩:=T.are G (mem_filter.mp hG).1
  exact(aO.mp sG).1
 ·obtain⟨G,hG,sG⟩:=mem_flatten.mp hs
  obtain⟨o,oU,_,rfl⟩:=T.are G (mem_filter.mp hG).1
  exact⟨_,zN1 R h0 hR.nodup oU,sG,(mem_filter.mp hG).2,λt ht=>mem_flatten.mpr ⟨_,hG,ht⟩⟩
 ·obtain⟨G',hG',sG⟩:=mem_flatten.mp (T.all s sU (R.full h0 p sU))
  obtain⟨o,oU,oo,rfl⟩:=T.are G' hG'
  obtain⟨_,s1,s2⟩:=aO.mp sG
  refine mem_flatten.mpr ⟨_,mem_filter.mpr ⟨hG',?_⟩,sG⟩
  rw[<-q]
  refine zHt λt=>?_
  rw[hG t,aO]
  constructor
  ·rintro⟨tU,t1,t2⟩
   exact⟨tU,R.sound s sU t (h0 t tU) (R.trans s sU o oU t (h0 t tU) s2 t1),R.sound t tU s (h0 s sU) (R.trans t tU o oU s (h0 s sU) t2 s1)⟩
  ·rintro⟨tU,t1,t2⟩
   exact⟨tU,R.trans o oU s sU t (h0 t tU) s1 (R.full h0 t1 sU),R.trans t tU s sU o (h0 o oU) (R.full h0 t2 tU) s2⟩
theorem Ks{C:Addr}{m:aG C}(g:Gr m n)(hf:ud n m.fair)(hx:∀x∈xs,0<=x/\x<n)(hl:xs.length<64) :
  W ((wM m xs).bind λa=>Ke a) (qY m.steps m.fair (vK xs)):=by
 rw[zC]
 exact(Dz g hf hx hl).imp λa ⟨_,_,h⟩=>h.imp λ_ q=>q.2
theorem DG{C:Addr}{m:aG C}(g:Gr m n){goal:LI}(ht:∀x∈through,0<=x/\x<n)(hg:goal.Nodup/\∀x∈goal,0<=x/\x<n):W (uB m through goal) λR=>∃d,qW m.steps through goal n d/\R=pick n λs=>(dg d s).isSome:=by
 unfold uB
 have few:=g.few
 have pos:=g.pos
 rw[zC]
 refine(zIo g ht hg).imp λd D=>?_
 have rl:=vN (n:=n) (by omega)
 rw[zC,aj,zSa D.len]
 have e:yQ (λx:Int×Option Int=>some x.2.isSome) (λx:Int×Option Int=>some x.1) ((rng n).map λs=>(s,dg d s))=some (pick n λs=>(dg d s).isSome):=by
  rw[wC (p:=λx:Int×Option Int=>x.2.isSome) (g:=λx:Int×Option Int=>x.1) (zX (by rw[length_map];omega)) (λ_ _=>rfl) (λ_ _=>rfl)]
  congr 1
  rw[List.filter_map,List.map_map]
  exact map_id' _
 rw[e,aj]
 exact⟨d,D,rfl⟩
structure W6(xss fair:List LI)(n:Int)(U R:LI):Prop where
 rise:aW n R
 sub:∀s∈R,s∈U
 go:∀s∈R,∃t∈nxt xss s,t∈R
 come:∀s∈R,∀F∈fair,∃x∈F,x=s\/gZ xss R s x
theorem W7(h:aW n U):vK U=U:=Mi (Mh U) h.1 λ_=>cQ
inductive Rc(xss:List LI)(U:LI)(s:Int):Int->Prop
 |here:Rc xss U s s
 |on {t u:Int}:Rc xss U s t->u∈nxt xss t->u∈U->Rc xss U s u
theorem Rc.mem(h:Rc xss U s t)(hs:s∈U):t∈U:=by
 cases h with
 |here=>exact hs
 |on _ _ h=>exact h
theorem Rc.trans(h:Rc xss U s t)(k:Rc xss U t u):Rc xss U s u:=by
 induction k with
 |here=>exact h
 |on _ a b ih=>exact .on ih a b
theorem Rc.Qp(h:Rc xss U s t):t=s\/gZ xss U s t:=by
 induction h with
 |here=>exact .inl rfl
 |@on t u _ a b ih =>
  rcases ih with rfl|ih
  ·exact .inr (.one a b)
  ·exact .inr (ih.trans (.one a b))
theorem gZ.rc(h:gZ xss U s t):Rc xss U s t:=by
 induction h with
 |one a b=>exact .on .here a b
 |step a b _ ih=>exact(Rc.on .here a b).trans ih
theorem cls(P:Int->Prop):∃p:Int->Bool,∀x,p x=true↔P x:=⟨λx=>@decide _ (ac4 (P x)),λx=>by
 constructor
 ·intro h;exact@of_decide_eq_true _ (ac4 _) h
 ·intro h;exact@decide_eq_true _ (ac4 _) h⟩
def Qq(xss fair:List LI)(U:LI)(b:Int):Prop:=gZ xss U b b/\∀F∈fair,∃x∈F,Rc xss U b x/\Rc xss U x b
theorem W8{U:LI}{p:Int->Bool}{i:Nat}{x:Int}(h:U[i]?=some x):(U.take (i+1)).filter p=(U.take i).filter p++(if p x=true then[x] else[]):=by
 rw[M5 h,List.filter_append]
 congr 1
 by_cases c:p x=true<;>simp[c]
theorem DK(D:qW xss U goal n d)(G:qY xss fair U goal)(hU:∀x∈U,0<=x/\x<n)(s:Int):s∈pick n (λs=>(dg d s).isSome)↔s∈U/\∃b∈U,Qq xss fair U b/\Rc xss U s b:=by
 have base:∀b∈U,(b∈goal↔Qq xss fair U b):=λb bU=>by
  constructor
  ·intro h
   obtain⟨R,RO,bR,met,_⟩:=G.of b h
   have up:∀{x y:Int},x∈R->y∈R->gZ xss U x y:=λhx hy=>(RO.go _ hx _ hy).mono RO.sub
   refine⟨up bR bR,λF hF=>?_⟩
   obtain⟨x,xR,xF⟩:=any_eq_true.mp (all_eq_true.mp met F hF)
   exact⟨x,of_decide_eq_true xF,(up bR xR).rc,(up xR bR).rc⟩
  ·rintro⟨p,m⟩
   obtain⟨f,hf⟩:=cls λt=>gZ xss U b t/\gZ xss U t b
   refine G.all b bU (U.filter f) (λt=>by rw[mem_filter,hf t]) p ?_
   refine all_eq_true.mpr λF hF=>?_
   obtain⟨x,xF,r1,r2⟩:=m F hF
   have p1:gZ xss U b x:=r1.Qp.elim (λe=>e▸p) id
   have p2:gZ xss U x b:=r2.Qp.elim (λe=>by rw[<-e];exact e▸p) id
   exact any_eq_true.mpr ⟨x,mem_filter.mpr ⟨p1.mem,(hf x).mpr ⟨p1,p2⟩⟩,decide_eq_true xF⟩
 have key:∀(k:Nat)(s:Int),0<=s->s<n->dg d s=some (k:Int)->s∈U/\∃b∈goal,Rc xss U s b:=by
  intro k
  induction k with
  |zero =>
   intro s s0 s1 e
   have hg:=(D.zero s s0 s1).mp e
   exact⟨G.sub s hg,s,hg,.here⟩
  |succ k ih =>
   intro s s0 s1 e
   have ng:s∉goal:=λhg=>by
    have:=(D.zero s s0 s1).mpr hg
    rw[e] at this
    have:=aai this
    omega
   obtain⟨sU,t,tn,t0,t1,e2⟩:=D.via s _ s0 s1 e ng
   obtain⟨tU,b,bg,r⟩:=ih t t0 t1 (by rw[e2];congr 1;omega)
   exact⟨sU,b,bg,(Rc.on .here tn tU).trans r⟩
 have back:∀{s t:Int},Rc xss U s t->s∈U->(dg d t).isSome=true->(dg d s).isSome=true:=λh=>by
  induction h with
  |here=>exactλ_ q=>q
  |@on t u r a b ih =>
   intro sU q
   have tU:=r.mem sU
   obtain⟨k,e⟩:=abm.mp q
   obtain⟨j,ej,_⟩:=D.near t u k (hU t tU).1 (hU t tU).2 (hU u b).1 (hU u b).2 tU a e
   exact ih sU (by rw[ej];rfl)
 rw[cZ]
 constructor
 ·rintro⟨s0,s1,q⟩
  obtain⟨k,e⟩:=abm.mp q
  have kp:=D.pos s k s0 s1 e
  obtain⟨sU,b,bg,r⟩:=key k.toNat s s0 s1 (by rw[e];congr 1;omega)
  exact⟨sU,b,G.sub b bg,(base b (G.sub b bg)).mp bg,r⟩
 ·rintro⟨sU,b,bU,bB,r⟩
  refine⟨(hU s sU).1,(hU s sU).2,back r sU ?_⟩
  rw[(D.zero b (hU b bU).1 (hU b bU).2).mpr ((base b bU).mpr bB)]
  rfl
theorem DN{C:Addr}{m:aG C}(g:Gr m n)(hf:ud n m.fair)(hU:aW n U):W (Qi m U) λR=>aW n R/\∀s,s∈R↔s∈U/\∃b∈U,Qq m.steps m.fair U b/\Rc m.steps U s b:=by
 unfold Qi
 have few:=g.few
 have Ul:U.length<=n.toNat:=xZ hU.nodup λx hx=>by have:=hU.2 x hx;omega
 have q:=Ks g hf hU.2 (by omega)
 rw[W7 hU,zC] at q
 rw[zC,zC,zC,zC,zC,zC]
 refine q.imp λa qa=>?_
 rw[aj]
 refine qa.imp λgoal G=>?_
 rw[aj,aj,aj]
 show W (uB m U goal) _
 refine(DG g hU.2 ⟨G.nd,λx h=>hU.2 x (G.sub x h)⟩).imp λR ⟨d,D,e⟩=>?_
 subst e
 exact⟨wN n _,DK D G hU.2⟩
theorem S8{C:Addr}{m:aG C}(g:Gr m n):yY m=some (rng n):=by
 unfold yY
 rw[S6 g]
 have:=g.pos
 have:=g.few
 show Cv n=_
 unfold Cv
 rw[if_pos ⟨by omega,by omega⟩]
 rfl
theorem GF(h:n<=60)(h0:0<=n):(rng n).length<=60:=by have:=vN (n:=n) h0;omega
theorem W9{C:Addr}{m:aG C}(g:Gr m n){xs:LI}(hl:xs.length<4000):wQ m xs=some (pick n λz=>!decide (z∈xs)):=by
 unfold wQ
 rw[S8 g]
 have r:=GF g.few (by have:=g.pos;omega)
 show PB (rng n) xs=_
 unfold PB
 rw[if_pos ⟨by omega,hl⟩]
 exact congrArg some (W7 (wN n _))
theorem Ku(h:aW n xs)(m5:n<=60):xs.length<=60:=by
 by_cases h0:0<=n
 ·have:=xZ (n:=n.toNat) h.nodup λx hx=>by have:=h.2 x hx;omega
  omega
 ·cases xs with
  |nil=>exact aa0 _
  |cons a l=>have:=h.2 a mem_cons_self;omega
theorem zM1{ys:LI}(hx:aW n xs)(m5:n<=60)(hy:ys.length<4000):vW xs ys=some (xs.filter λz=>decide (z∈ys)):=by
 rw[zJv (by have:=Ku hx m5;omega) hy]
 exact congrArg some (W7 (n:=n) ⟨hx.1.filter _,λx h=>hx.2 x (mem_filter.mp h).1⟩)
def GJ(xss fair:List LI)(n:Int)(L:LI):Prop:=aW n L/\∀s,s∈L↔s∈rng n/\∃b∈rng n,Qq xss fair (rng n) b/\Rc xss (rng n) s b
theorem zJ5(n:Int):aW n (rng n):=⟨zSy n,λx hx=>aZ.mp hx⟩
theorem DP{C:Addr}{m:aG C}(g:Gr m n)(hf:ud n m.fair):W (Qj m) (GJ m.steps m.fair n):=by
 unfold Qj
 rw[S8 g]
 exact DN g hf (zJ5 n)
def into(xss:List LI)(G:LI)(s:Int):Bool:=(nxt xss s).any λt=>decide (t∈G)
theorem Kv{C:Addr}{m:aG C}(g:Gr m n)(h0:0<=s)(h1:s<n){fl:List Bool}(hl:(fl.length:Int)=n)(hh:∀t:Int,0<=t->t<n->fl.getD t.toNat false=decide (t∈G)):vH m s fl=some (into m.steps G s):=by
 unfold vH
 obtain⟨xs,e,xl,xm⟩:=zJw g h0 h1
 rw[e]
 have bd:∀x∈xs,0<=x/\x<n:=λx hx=>by
  have hx':=(xm x).mp hx
  have hr:nxt m.steps s∈m.steps:=mem_of_getElem? (Kg g.len h0 h1)
  exact(g.row _ hr).2.2 x hx'
 show((yQ _ _ xs).bind _)=_
 rw[wC (p:=λ_=>true) (g:=λx=>decide (x∈G)) (zX (by omega)) (λ_ _=>rfl) (λx hx=>?_)]
 ·show some _=some _
  congr 1
  rw[List.filter_eq_self.mpr (λ_ _=>rfl)]
  unfold into
  rw[aa6,any_eq_true,any_eq_true]
  constructor
  ·rintro⟨b,hb,e⟩
   obtain⟨x,hx,rfl⟩:=mem_map.mp hb
   exact⟨x,(xm x).mp hx,e⟩
  ·rintro⟨x,hx,e⟩
   exact⟨_,mem_map.mpr ⟨x,(xm x).mpr hx,rfl⟩,e⟩
 ·obtain⟨x0,x1⟩:=bd x hx
  have q:W (bF fl x) (· = decide (x∈G)):=by
   rw[j7 x0]
   refine⟨fl.getD x.toNat false,?_,hh x x0 x1⟩
   rw[getD_eq_getElem?_getD,aad (by omega)]
   rfl
  obtain⟨a,ea,e2⟩:=q
  rw[ea,e2]
theorem zLb{C:Addr}{m:aG C}(g:Gr m n)(hG:∀x∈G,0<=x/\x<n):wP m (rng n) G=some (pick n (into m.steps G)):=by
 unfold wP
 obtain⟨fl,e,hl,hh⟩:=zM6 g hG
 rw[e]
 have r:=GF g.few (by have:=g.pos;omega)
 show yQ _ _ (rng n)=_
 rw[wC (p:=into m.steps G) (g:=λx=>x) (zX (by omega)) (λx hx=>?_) (λ_ _=>rfl),map_id']
 ·rfl
 ·obtain⟨x0,x1⟩:=aZ.mp hx
  exact Kv g x0 x1 hl hh
theorem W_{α:Type}{m:Option α}{a:α}(h:m=some a):W m (· = a):=⟨a,h,rfl⟩
theorem Kw{α:Type}{m:Option α}{a:α}(h:W m (· = a)):m=some a:=by obtain⟨b,e,rfl⟩:=h;exact e
theorem zE5{C:Addr}{m:aG C}(g:Gr m n)(hL:aW n L)(hS:aW n S):xV m L S=some (pick n (into m.steps (L.filter λz=>decide (z∈S)))):=by
 apply Kw
 unfold xV
 rw[zC,zC,zC,S8 g,aj,zC,zC,zM1 hL g.few (by have:=Ku hS g.few;omega),aj,aj,aj,aj]
 exact W_ (zLb g λx hx=>hL.2 x (mem_filter.mp hx).1)
theorem mK{α:Type}{pre:List α}{x:α}:L2.bF (pre++[x]) (-(1:Int))=some x:=by
 unfold L2.bF rB
 rw[if_neg (by decide),if_pos (by rw[length_append,length_singleton];omega)]
 show(pre++[x])[((-(1:Int))+((pre++[x]).length:Nat)).toNat]?=some x
 have e:((-(1:Int))+((pre++[x]).length:Nat)).toNat=pre.length:=by rw[length_append,length_singleton];omega
 rw[e,getElem?_append_right (aaf _),Nat.sub_self]
 rfl
theorem zMa(h:aW n xs):RP xs=xs :=
 Mi (uI (Zv xs) ((vD xs).nodup_iff.mpr h.nodup)) h.1 λs=>(vD xs).mem_iff
theorem zJx{C:Addr}{m:aG C}(m5:n<=60)(hs:∀mk∈m.marks,aW n mk.2)(x:Str):W (yL m x) λS=>(∃mk∈m.marks,mk.1=x/\S=mk.2)\/((∀mk∈m.marks,mk.1≠x)/\S=[]):=by
 unfold yL
 rw[zC,zC,aj]
 refine zP4 (λi _=>∀mk∈m.marks.take i,mk.1≠x) (λmk h=>by simp at h) (λi mk _ hi hI=>?_) λ_ hI=>?_
 ·have mm:=mem_of_getElem? hi
  by_cases c:mk.1=x
  ·rw[decide_eq_true c,if_pos rfl,zC]
   have r:=Ku (hs mk mm) m5
   unfold Cj
   rw[if_pos (by omega),aj,aj,zMa (hs mk mm)]
   refine .inr ⟨_,rfl,?_⟩
   show W (some mk.2) _
   rw[aj]
   exact .inl ⟨mk,mm,c,rfl⟩
  ·rw[decide_eq_false c,if_neg (by decide),aj]
   refine .inl ⟨(),rfl,λmk' h=>?_⟩
   rw[take_add_one,hi,mem_append] at h
   rcases h with h|h
   ·exact hI mk' h
   ·have e:mk'=mk:=by simpa using h
    rw[e];exact c
 ·rw[take_length] at hI
  rw[v9,aj]
  exact .inr ⟨hI,rfl⟩
inductive Pl{C:Addr}(m:aG C)(n:Int):Tr->LI->Prop
 |all:Pl m n .all (rng n)
 |mark {mk:Str×LI}:mk∈m.marks->Pl m n (.mark mk.1) mk.2
 |wW {x:Str}:(∀mk∈m.marks,mk.1≠x)->Pl m n (.mark x) []
 |no {t:Tr} {S:LI}:Pl m n t S->Pl m n (.one 0 t) (pick n λz=>!decide (z∈S))
theorem Pl.rise{C:Addr}{m:aG C}(hs:∀mk∈m.marks,aW n mk.2)(h:Pl m n t S):aW n S:=by
 cases h with
 |all=>exact zJ5 n
 |mark h=>exact hs _ h
 |wW _=>exact⟨.nil,λx h=>by cases h⟩
 |no _=>exact wN n _
theorem zNa{ms:List (Str×LI)}(nd:(ms.map (·.1)).Nodup)(ha:a∈ms)(hb:b∈ms)(e:a.1=b.1):a=b:=by
 induction ms with
 |nil=>cases ha
 |cons x l ih =>
  rw[map_cons,nodup_cons] at nd
  rcases mem_cons.mp ha with rfl|ha'
  ·rcases mem_cons.mp hb with rfl|hb'
   ·rfl
   ·exact absurd (mem_map.mpr ⟨b,hb',e.symm⟩) nd.1
  ·rcases mem_cons.mp hb with rfl|hb'
   ·exact absurd (mem_map.mpr ⟨a,ha',e⟩) nd.1
   ·exact ih nd.2 ha' hb'
theorem DQ{C:Addr}{m:aG C}(g:Gr m n)(nd:(m.marks.map (·.1)).Nodup)(hs:∀mk∈m.marks,aW n mk.2)(L:LI)(h:Pl m n t S):∀k,t.depth<k->k<=100->W (yC k m L (bH.mk (cl:=cl) t)) λT=>∃pre,T=pre++[S]/\T.length<=k:=by
 induction h with
 |all =>
  intro k hk h100
  obtain⟨k,rfl⟩:∃j,k=j+1:=⟨k-1,by omega⟩
  show W (zY (yC k) m L _) _
  unfold zY
  rw[zC,aj,zC,aj,zC,zC,aj]
  show W (yU _ [] _) _
  refine xE (λ_ z=>z=([],[])) rfl (λi x z hi=>by simp at hi) λz hz=>?_
  subst hz
  rw[zC,zC]
  show W (yY m) _
  rw[S8 g,aj,uO]
  refine⟨zX (by simp),?_⟩
  rw[aj]
  exact⟨[],rfl,by simp⟩
 |mark hm =>
  intro k hk h100
  obtain⟨k,rfl⟩:∃j,k=j+1:=⟨k-1,by omega⟩
  show W (zY (yC k) m L _) _
  unfold zY
  rw[zC,aj,zC,aj,zC,zC,aj]
  show W (yU _ [] _) _
  refine xE (λ_ z=>z=([],[])) rfl (λi x z hi=>by simp at hi) λz hz=>?_
  subst hz
  rw[zC,zC]
  show W (yL m _) _
  refine(zJx g.few hs _).imp λS hS=>?_
  rw[uO]
  refine⟨zX (by simp),?_⟩
  rw[aj]
  rcases hS with⟨mk,h1,h2,rfl⟩|⟨h1,_⟩
  ·rw[zNa nd h1 hm h2]
   exact⟨[],rfl,by simp⟩
  ·exact absurd rfl (h1 _ hm)
 |wW hm =>
  intro k hk h100
  obtain⟨k,rfl⟩:∃j,k=j+1:=⟨k-1,by omega⟩
  show W (zY (yC k) m L _) _
  unfold zY
  rw[zC,aj,zC,aj,zC,zC,aj]
  show W (yU _ [] _) _
  refine xE (λ_ z=>z=([],[])) rfl (λi x z hi=>by simp at hi) λz hz=>?_
  subst hz
  rw[zC,zC]
  show W (yL m _) _
  refine(zJx g.few hs _).imp λS hS=>?_
  rw[uO]
  refine⟨zX (by simp),?_⟩
  rw[aj]
  rcases hS with⟨mk,h1,h2,rfl⟩|⟨_,rfl⟩
  ·exact absurd h2 (hm mk h1)
  ·exact⟨[],rfl,by simp⟩
 |@no t S hp ih =>
  intro k hk h100
  obtain⟨k,rfl⟩:∃j,k=j+1:=⟨k-1,by omega⟩
  have hk':t.depth<k:=by
   have:(Tr.one 0 t).depth=t.depth+1:=rfl
   omega
  show W (zY (yC k) m L _) _
  unfold zY
  rw[zC,aj,zC,aj,zC,zC,aj]
  show W (yU _ [bH.mk t] _) _
  refine xE (λi z=>(i=0/\z=([],[]))\/(i=1/\z.2=[S]/\z.1.length<=k)) (.inl ⟨rfl,rfl⟩) (λi x z hi hz=>?_) λz hz=>?_
  ·have hi0:i=0/\x=bH.mk t:=by
    cases i with
    |zero=>simp at hi;exact⟨rfl,hi.symm⟩
    |succ i=>simp at hi
   obtain⟨rfl,rfl⟩:=hi0
   rcases hz with⟨_,rfl⟩|⟨z1,_⟩
   ·rw[zC,zC]
    refine(ih k hk' (by omega)).imp λT ⟨pre,e,hl⟩=>?_
    subst e
    unfold sS
    rw[if_pos (zX (by show 0+_<=1000;omega)),aj,zC,zC]
    show W (L2.bF (pre++[S]) (-(1:Int))) _
    rw[mK,aj,uO]
    refine⟨zX (by simp),?_⟩
    rw[aj]
    exact .inr ⟨rfl,rfl,hl⟩
   ·cases z1
  ·obtain⟨told,sets⟩:=z
   rcases hz with⟨z1,_⟩|⟨_,z2,z3⟩
   ·cases z1
   ·have Xa:sets=[S]:=z2
    subst Xa
    have z3':told.length<=k:=z3
    rw[zC,zC]
    show W (((((L2.bF [S] (0:Int)).bind λa4=>some ((a4,()))).bind λb5=>some (m,b5)).bind λz3=>wQ z3.1 z3.2.1)) _
    rw[zC,zC,zC,j7 (by decide)]
    refine⟨S,rfl,?_⟩
    rw[aj,aj]
    show W (wQ m S) _
    rw[W9 g (by have:=Ku (hp.rise hs) g.few;omega),aj,uO]
    refine⟨zX (by show told.length<=1000;omega),?_⟩
    rw[aj]
    exact⟨told,rfl,by show(told++[_]).length<=_;rw[length_append];exact abj z3'⟩
section
variable{C:Addr}{cl:Hd->Addr}{m:aG C}{n:Int}{t:Tr}{S:LI}
theorem DW(h:W (xV m L S) Q):W (wH m L (bH.mk (cl:=cl) (.one 1 t)) [S]) Q:=by
 unfold wH
 rw[if_neg (show¬cN .all (bH.mk (cl:=cl) (.one 1 t)).t=true from aam),if_neg (show¬cN .mark (bH.mk (cl:=cl) (.one 1 t)).t=true from aam),if_neg (show¬cN (.one 0) (bH.mk (cl:=cl) (.one 1 t)).t=true by show¬decide ((1:Fin 6)=0)=true;decide),zC,if_neg (show¬cN (.two 0) (bH.mk (cl:=cl) (.one 1 t)).t=true from aam),aj,zC,if_neg (show¬cN (.two 1) (bH.mk (cl:=cl) (.one 1 t)).t=true from aam),aj]
 unfold yM
 rw[if_pos (show cN (.one 1) (bH.mk (cl:=cl) (.one 1 t)).t=true by show decide ((1:Fin 6)=1)=true;decide),zC,zC,zC,zC,j7 (by decide)]
 refine⟨S,rfl,?_⟩
 rw[aj,aj,aj]
 exact h
theorem DX(h:W (wQ m S) λS'=>W (xV m L S') λX=>W (wQ m X) Q):W (wH m L (bH.mk (cl:=cl) (.one 2 t)) [S]) Q:=by
 unfold wH
 rw[if_neg (show¬cN .all (bH.mk (cl:=cl) (.one 2 t)).t=true from aam),if_neg (show¬cN .mark (bH.mk (cl:=cl) (.one 2 t)).t=true from aam),if_neg (show¬cN (.one 0) (bH.mk (cl:=cl) (.one 2 t)).t=true by show¬decide ((2:Fin 6)=0)=true;decide),zC,if_neg (show¬cN (.two 0) (bH.mk (cl:=cl) (.one 2 t)).t=true from aam),aj,zC,if_neg (show¬cN (.two 1) (bH.mk (cl:=cl) (.one 2 t)).t=true from aam),aj]
 unfold yM
 rw[if_neg (show¬cN (.one 1) (bH.mk (cl:=cl) (.one 2 t)).t=true by show¬decide ((2:Fin 6)=1)=true;decide),if_pos (show cN (.one 2) (bH.mk (cl:=cl) (.one 2 t)).t=true by show decide ((2:Fin 6)=2)=true;decide),zC,zC,zC,zC,zC,zC,zC,zC,zC,zC,j7 (by decide)]
 refine⟨S,rfl,?_⟩
 rw[aj,aj]
 refine W.imp h λS' h1=>?_
 rw[aj,aj,aj]
 refine W.imp h1 λX h2=>?_
 rw[aj,aj]
 exact h2
theorem w_top(g:Gr m n)(nd:(m.marks.map (·.1)).Nodup)(hs:∀mk∈m.marks,aW n mk.2)(i:Fin 6)(hp:Pl m n t S)(hd:t.depth<5)(h:W (wH m L (bH.mk (cl:=cl) (.one i t)) [S]) (· = X)):W (yC 6 m L (bH.mk (cl:=cl) (.one i t))) λT=>∃pre,T=pre++[X]:=by
 show W (zY (yC 5) m L _) _
 unfold zY
 rw[zC,aj,zC,aj,zC,zC,aj]
 show W (yU _ [bH.mk t] _) _
 refine xE (λi z=>(i=0/\z=([],[]))\/(i=1/\z.2=[S]/\z.1.length<=5)) (.inl ⟨rfl,rfl⟩) (λi x z hi hz=>?_) λz hz=>?_
 ·have hi0:i=0/\x=bH.mk t:=by
   cases i with
   |zero=>simp at hi;exact⟨rfl,hi.symm⟩
   |succ i=>simp at hi
  obtain⟨rfl,rfl⟩:=hi0
  rcases hz with⟨_,rfl⟩|⟨z1,_⟩
  ·rw[zC,zC]
   refine(DQ g nd hs L hp 5 hd (by decide)).imp λT ⟨pre,e,hl⟩=>?_
   subst e
   unfold sS
   rw[if_pos (zX (by show 0+_<=1000;omega)),aj,zC,zC]
   show W (L2.bF (pre++[S]) (-(1:Int))) _
   rw[mK,aj,uO]
   refine⟨zX (by simp),?_⟩
   rw[aj]
   exact .inr ⟨rfl,rfl,hl⟩
  ·cases z1
 ·obtain⟨told,sets⟩:=z
  rcases hz with⟨z1,_⟩|⟨_,z2,z3⟩
  ·cases z1
  ·have Xa:sets=[S]:=z2
   subst Xa
   have z3':told.length<=5:=z3
   rw[zC,zC]
   show W (wH m L (bH.mk (cl:=cl) (.one i t)) [S]) _
   refine W.imp h λY hY=>?_
   subst hY
   rw[uO]
   refine⟨zX (by show told.length<=1000;omega),?_⟩
   rw[aj]
   exact⟨told,rfl⟩
theorem zJy(g:Gr m n)(hf:ud n m.fair)(nd:(m.marks.map (·.1)).Nodup)(hs:∀mk∈m.marks,aW n mk.2)(i:Fin 6)(hp:Pl m n t S)(hd:t.depth<5)(h:∀L,GJ m.steps m.fair n L->W (wH m L (bH.mk (cl:=cl) (.one i t)) [S]) (· = X)):uX m (bH.mk (cl:=cl) (.one i t))=some X:=by
 apply Kw
 unfold uX S5
 rw[zC,zC,zC,zC]
 refine(DP g hf).imp λL hL=>?_
 rw[aj,aj]
 show W (yC 6 m L (bH.mk (.one i t))) _
 refine(w_top g nd hs i hp hd (h L hL)).imp λT ⟨pre,e⟩=>?_
 subst e
 rw[mK,aj]
theorem zHu(h:GJ xss fair n L)(h':GJ xss fair n L'):L=L':=WW h.1.1 h'.1.1 λs=>(h.2 s).trans (h'.2 s).symm
theorem zQg(g:Gr m n)(hf:ud n m.fair)(nd:(m.marks.map (·.1)).Nodup)(hs:∀mk∈m.marks,aW n mk.2)(hp:Pl m n t S)(hd:t.depth<5)(hL:GJ m.steps m.fair n L):uX m (bH.mk (cl:=cl) (.one 1 t))=some (pick n (into m.steps (L.filter λz=>decide (z∈S)))) :=
 zJy g hf nd hs 1 hp hd λL' h'=>by
  rw[zHu hL h']
  exact DW (by rw[zE5 g h'.1 (hp.rise hs)];exact aj.mpr rfl)
theorem zQh(g:Gr m n)(hf:ud n m.fair)(nd:(m.marks.map (·.1)).Nodup)(hs:∀mk∈m.marks,aW n mk.2)(hp:Pl m n t S)(hd:t.depth<5)(hL:GJ m.steps m.fair n L):uX m (bH.mk (cl:=cl) (.one 2 t))=some (pick n λz=>!decide (z∈pick n (into m.steps (L.filter λz=>decide (z∈pick n λy=>!decide (y∈S)))))) :=
 zJy g hf nd hs 2 hp hd λL' h'=>by
  rw[zHu hL h']
  have lS:=Ku (hp.rise hs) g.few
  refine DX ?_
  rw[W9 g (by omega),aj,zE5 g h'.1 (wN n _),aj,W9 g (by have:=Ku (wN n (into m.steps (L'.filter λz=>decide (z∈pick n λy=>!decide (y∈S))))) g.few;omega),aj]
end
def qp(led:List (List Bool))(s:Int):List Bool:=led.getD s.toNat []
def lb(led:List (List Bool))(s t:Int):Bool:=(qp led s).getD t.toNat false
structure LW(n:Int)(led:List (List Bool)):Prop where
 len:(led.length:Int)=n
 row:∀r∈led,(r.length:Int)=n
section
variable{n:Int}{led:List (List Bool)}{xss:List LI}
theorem LW.at1(h:LW n led)(s0:0<=s)(s1:s<n):L2.bF led s=some (qp led s):=by
 have:=h.len
 unfold qp
 rw[Jc s0,getD_eq_getElem?_getD,aad (by omega)]
 rfl
theorem LW.rlen(h:LW n led)(s0:0<=s)(s1:s<n):((qp led s).length:Int)=n:=by
 apply h.row
 have e:=h.at1 s0 s1
 rw[Jc s0] at e
 exact mem_of_getElem? e
theorem zSx{r:List Bool}(hl:(r.length:Int)=n)(t0:0<=t)(t1:t<n):L2.bF r t=some (r.getD t.toNat false):=by
 rw[Jc t0,getD_eq_getElem?_getD,aad (by omega)]
 rfl
theorem LW.at2(h:LW n led)(s0:0<=s)(s1:s<n)(t0:0<=t)(t1:t<n):((L2.bF led s).bind λa=>L2.bF a t)=some (lb led s t):=by
 rw[h.at1 s0 s1]
 exact zSx (h.rlen s0 s1) t0 t1
theorem LW.set(h:LW n led){x:Int}{r:List Bool}(hr:(r.length:Int)=n):LW n (led.set x.toNat r) :=
 ⟨by rw[length_set];exact h.len,λq hq=>by
  rcases List.mem_or_eq_of_mem_set hq with a|a
  ·exact h.row q a
  ·rw[a];exact hr⟩
theorem Ky(h:LW n led)(x0:0<=x)(x1:x<n)(s0:0<=s):lb (led.set x.toNat r) s t=if s=x then r.getD t.toNat false else lb led s t:=by
 have:=h.len
 unfold lb qp
 rw[MN (by omega)]
 by_cases e:s=x
 ·subst e;rw[if_pos rfl,if_pos rfl]
 ·rw[if_neg e,if_neg (by omega)]
theorem Xb(h0:0<=n)(m5:n<=60):xT n=some (rng n):=Kw (cW.mpr ⟨⟨by omega,by omega⟩,rfl⟩)
theorem Xc{α:Type}(f:Int->α){d:α}(t0:0<=t)(t1:t<n):((rng n).map f).getD t.toNat d=f t:=by
 have e:(rng n)[t.toNat]?=some t:=by
  unfold rng
  rw[getElem?_map,getElem?_range (by omega)]
  show some ((t.toNat:Nat):Int)=some t
  rw[Int.toNat_of_nonneg t0]
 rw[getD_eq_getElem?_getD,getElem?_map,e]
 rfl
theorem Xd{α:Type}(f:Int->α)(h:0<=n):(((rng n).map f).length:Int)=n:=by rw[length_map];exact vN h
theorem Kz(hl:(xss.length:Int)=n)(m5:n<=60)(s0:0<=s)(s1:s<n):Ql xss (rng n) s=some ((rng n).map λt=>decide (t∈nxt xss s)):=by
 have rl:=GF m5 (by omega)
 unfold Ql
 rw[hl,Xb (by omega) m5]
 show yQ _ _ (rng n)=_
 rw[wC (p:=λ_=>true) (g:=λt=>decide (t∈nxt xss s)) (zX (by omega)) (λ_ _=>rfl) (λt ht=>?_),RN]
 rw[if_pos (decide_eq_true (aZ.mpr ⟨s0,s1⟩)),if_pos (decide_eq_true ht),Jc s0,Kg hl s0 s1]
 rfl
structure Qs(xss:List LI)(n:Int)(led:List (List Bool)):Prop where
 lw:LW n led
 iff:∀s t:Int,0<=s->s<n->0<=t->t<n->(lb led s t=true↔gZ xss (rng n) s t)
theorem zM7(hl:(xss.length:Int)=n)(n1:1<=n)(m5:n<=60):W (uF xss (rng n)) (Qs xss n):=by
 have rl:=GF m5 (by omega)
 have rn:=vN (n:=n) (by omega)
 unfold uF
 rw[hl,zC,aj,zC,Xb (by omega) m5]
 show W (yQ _ _ (rng n)) _
 rw[wC (p:=λ_=>true) (g:=λs=>(rng n).map λt=>decide (t∈nxt xss s)) (zX (by omega)) (λ_ _=>rfl) (λs hs=>Kz hl m5 (aZ.mp hs).1 (aZ.mp hs).2),RN,aj,zC]
 show W (yU _ (rng n) _) _
 have l0:LW n ((rng n).map λs=>(rng n).map λt=>decide (t∈nxt xss s)):=⟨Xd _ (by omega),λr hr=>by
  obtain⟨s,_,rfl⟩:=mem_map.mp hr
  exact Xd _ (by omega)⟩
 have b0:∀s t:Int,0<=s->s<n->0<=t->t<n->lb ((rng n).map λs=>(rng n).map λt=>decide (t∈nxt xss s)) s t=decide (t∈nxt xss s):=λs t s0 s1 t0 t1=>by
  unfold lb qp
  rw[Xc _ s0 s1,Xc _ t0 t1]
 refine xE (λi led=>LW n led/\(∀s t:Int,0<=s->s<n->0<=t->t<n->t∈nxt xss s->lb led s t=true)/\(∀s t:Int,0<=s->s<n->0<=t->t<n->lb led s t=true->gZ xss (rng n) s t)/\∀u s t:Int,0<=u->u<i->0<=s->s<n->0<=t->t<n->lb led s u=true->lb led u t=true->lb led s t=true)
  ⟨l0,λs t s0 s1 t0 t1 h=>by rw[b0 s t s0 s1 t0 t1];exact decide_eq_true h,λs t s0 s1 t0 t1 h=>by rw[b0 s t s0 s1 t0 t1] at h;exact .one (of_decide_eq_true h) (aZ.mpr ⟨t0,t1⟩),λu s t u0 u1=>by omega⟩ (λi u R0 hi hI=>?_) λled hI=>?_
 ·obtain⟨rfl,hu⟩:=Jb hi
  obtain⟨lw0,W4,Kr,W5⟩:=hI
  have u0:(0:Int)<=(i:Int):=abe _
  rw[zC]
  show W (yU _ (rng n) _) _
  refine xE (λj rows=>LW n rows/\∀s t:Int,0<=s->s<n->0<=t->t<n->lb rows s t=(lb R0 s t||(decide (s<j)&&(lb R0 s i&&lb R0 i t)))) ⟨lw0,λs t s0 _ _ _=>by rw[decide_eq_false (by omega)];simp⟩ (λj x rows hj hJ=>?_) λrows hJ=>?_
  ·obtain⟨rfl,hx⟩:=Jb hj
   obtain⟨DY,hb1⟩:=hJ
   have x0:(0:Int)<=(j:Int):=abe _
   have ex:lb rows j i=lb R0 j i:=by
    rw[hb1 j i x0 hx u0 hu]
    cases lb R0 j i<;>simp
   have eu:∀t:Int,0<=t->t<n->lb rows i t=lb R0 i t:=λt t0 t1=>by
    rw[hb1 i t u0 hu t0 t1]
    cases lb R0 i t<;>simp
   rw[zC,zC,DY.at2 x0 hx u0 hu,aj,ex]
   by_cases c:lb R0 j i=true
   ·rw[c,if_pos rfl,zC,zC]
    show W (yQ _ _ (rng n)) _
    rw[wC (p:=λ_=>true) (g:=λt=>lb rows j t||lb rows i t) (zX (by omega)) (λ_ _=>rfl) (λt ht=>?_),RN,aj,LC x0 (by have:=DY.len;omega),aj,aj]
    ·refine⟨DY.set (Xd _ (by omega)),λs t s0 s1 t0 t1=>?_⟩
     rw[Ky DY x0 hx s0]
     by_cases e:s=j
     ·subst e
      rw[if_pos rfl,Xc _ t0 t1,hb1 j t x0 hx t0 t1,eu t t0 t1,c,decide_eq_false (show¬((j:Int)<(j:Int)) by omega),decide_eq_true (show(j:Int)<((j+1:Nat):Int) by omega)]
      cases lb R0 j t<;>cases lb R0 i t<;>simp
     ·rw[if_neg e,hb1 s t s0 s1 t0 t1]
      have:decide (s<((j+1:Nat):Int))=decide (s<(j:Int)):=by rw[decide_eq_decide];omega
      rw[this]
    ·obtain⟨t0,t1⟩:=aZ.mp ht
     rw[DY.at2 x0 hx t0 t1]
     show(if lb rows j t=true then some true else _)=_
     by_cases q:lb rows j t=true
     ·rw[if_pos q,q];rfl
     ·rw[if_neg q,DY.at2 u0 hu t0 t1,(by simpa using q:lb rows j t=false)];rfl
   ·have c:lb R0 j i=false:=by simpa using c
    rw[c,if_neg (by decide),aj,aj]
    refine⟨DY,λs t s0 s1 t0 t1=>?_⟩
    rw[hb1 s t s0 s1 t0 t1]
    by_cases e:s=j
    ·subst e
     rw[c]
     simp
    ·have:decide (s<((j+1:Nat):Int))=decide (s<(j:Int)):=by rw[decide_eq_decide];omega
     rw[this]
  ·obtain⟨DY,hb1⟩:=hJ
   have nw:∀s t:Int,0<=s->s<n->0<=t->t<n->(lb rows s t=true↔lb R0 s t=true\/(lb R0 s i=true/\lb R0 i t=true)):=λs t s0 s1 t0 t1=>by
    rw[hb1 s t s0 s1 t0 t1,decide_eq_true (by omega)]
    simp
   rw[aj]
   refine⟨DY,λs t s0 s1 t0 t1 h=>(nw s t s0 s1 t0 t1).mpr (.inl (W4 s t s0 s1 t0 t1 h)),λs t s0 s1 t0 t1 h=>?_,λv s t v0 v1 s0 s1 t0 t1 h1 h2=>?_⟩
   ·rcases(nw s t s0 s1 t0 t1).mp h with h|⟨h,k⟩
    ·exact Kr s t s0 s1 t0 t1 h
    ·exact(Kr s i s0 s1 u0 hu h).trans (Kr i t u0 hu t0 t1 k)
   ·refine(nw s t s0 s1 t0 t1).mpr ?_
    by_cases e:v=i
    ·subst e
     exact .inr ⟨((nw s i s0 s1 u0 hu).mp h1).elim id And.left,((nw i t u0 hu t0 t1).mp h2).elim id And.right⟩
    ·have vi:v<(i:Int):=by omega
     have vn:v<n:=by omega
     have T:=λs t=>W5 v s t v0 vi
     rcases(nw s v s0 s1 v0 vn).mp h1 with a|⟨a,b⟩<;>rcases(nw v t v0 vn t0 t1).mp h2 with c|⟨c,d⟩
     ·exact .inl (T s t s0 s1 t0 t1 a c)
     ·exact .inr ⟨T s i s0 s1 u0 hu a c,d⟩
     ·exact .inr ⟨a,T i t u0 hu t0 t1 b c⟩
     ·exact .inr ⟨a,d⟩
 ·obtain⟨lw,ed,so,tr⟩:=hI
  rw[aj]
  refine⟨lw,λs t s0 s1 t0 t1=>⟨so s t s0 s1 t0 t1,λh=>?_⟩⟩
  induction h with
  |one a _=>exact ed _ _ s0 s1 t0 t1 a
  |@step s u t a b _ ih =>
   obtain⟨u0,u1⟩:=aZ.mp b
   exact tr u s t u0 (by omega) s0 s1 t0 t1 (ed s u s0 s1 u0 u1 a) (ih u0 u1 t0 t1)
theorem zM3{r:List Bool}(hr:(r.length:Int)=n)(hx:∀x∈xs,0<=x/\x<n)(hl:xs.length<=1000):wS r xs=some (xs.any λt=>r.getD t.toNat false):=by
 unfold wS
 have e:((some xs).bind λxs=>yQ (λ(x1:Int)=>L2.bF r x1) (λ(x1:Int)=>some x1) xs)=some (xs.filter λt=>r.getD t.toNat false):=by
  show yQ _ _ xs=_
  rw[wC (p:=λt=>r.getD t.toNat false) (g:=λx=>x) (zX hl) (λt ht=>zSx hr (hx t ht).1 (hx t ht).2) (λ_ _=>rfl),map_id']
 rw[e]
 show some (decide ((0:Int)<_))=_
 congr 1
 rw[aa6,decide_eq_true_iff,any_eq_true]
 constructor
 ·intro h
  have:0<(xs.filter λt=>r.getD t.toNat false).length:=by omega
  obtain⟨x,hx⟩:=List.length_pos_iff_exists_mem.mp this
  exact⟨x,mem_filter.mp hx⟩
 ·rintro⟨x,h1,h2⟩
  have:=List.length_pos_of_mem ((mem_filter (p:=λt=>r.getD t.toNat false)).mpr ⟨h1,h2⟩)
  omega
def gd(led:List (List Bool))(fair:List LI)(t:Int):Bool:=lb led t t&&fair.all λF=>F.any λf=>lb led f t&&lb led t f
theorem D_(hl:(xss.length:Int)=n)(n1:1<=n)(m5:n<=60)(hf:ud n fair):W (MF xss fair (rng n)) (GJ xss fair n):=by
 have rl:=GF m5 (by omega)
 unfold MF
 rw[zC]
 refine(zM7 hl n1 m5).imp λled hC=>?_
 have lw:=hC.lw
 rw[zC,aj,zC,zC,aj]
 refine xE (λi z=>z=((rng n).take i).filter (gd led fair)) rfl (λi t z hi hz=>?_) λz hz=>?_
 ·obtain⟨rfl,ht⟩:=Jb hi
  have t0:(0:Int)<=(i:Int):=abe _
  subst hz
  rw[zC,lw.at2 t0 ht t0 ht,aj,zC,zC,aj]
  refine xE (λj b=>b=(lb led i i&&(fair.take j).all λF=>F.any λf=>lb led f i&&lb led i f)) (by simp) (λj F b hj hb=>?_) λb hb=>?_
  ·have hF:=hf.2 F (mem_of_getElem? hj)
   have e:((some F).bind λxs=>yQ (λ(x12:Int)=>(L2.bF led x12).bind λa13=>L2.bF a13 (i:Int)) (λ(x12:Int)=>some x12) xs)=some (F.filter λf=>lb led f i):=by
    show yQ _ _ F=_
    rw[wC (p:=λf=>lb led f i) (g:=λx=>x) (zX (by have:=hF.2.1;omega)) (λf h=>lw.at2 (hF.2.2 f h).1 (hF.2.2 f h).2 t0 ht) (λ_ _=>rfl),map_id']
   rw[zC,e,aj,zC]
   have q:(if b=true then(((L2.bF led (i:Int)).bind λa16=>some ((a16,((F.filter λf=>lb led f i),())))).bind λQm=>wS Qm.1 Qm.2.1) else some false)=some (b&&F.any λf=>lb led f i&&lb led i f):=by
    cases b with
    |false=>rfl
    |true =>
     rw[if_pos rfl,lw.at1 t0 ht]
     show wS (qp led i) _=_
     rw[zM3 (lw.rlen t0 ht) (λx h=>hF.2.2 x (mem_filter.mp h).1) (aas (length_filter_le ..) (by have:=hF.2.1;omega))]
     congr 1
     rw[Bool.true_and,aa6,any_eq_true,any_eq_true]
     constructor
     ·rintro⟨x,h1,h2⟩
      obtain⟨h3,h4⟩:=mem_filter.mp h1
      exact⟨x,h3,by rw[h4];exact h2⟩
     ·rintro⟨x,h1,h2⟩
      obtain⟨h3,h4⟩:=(aag _ _).mp h2
      exact⟨x,mem_filter.mpr ⟨h1,h3⟩,h4⟩
   rw[q,aj,aj,hb,M5 hj,List.all_append]
   simp[Bool.and_assoc]
  ·rw[take_length] at hb
   have hg:b=gd led fair i:=hb
   rw[hg,zC,W8 hi]
   by_cases c:gd led fair (i:Int)=true
   ·rw[c,if_pos rfl,if_pos rfl,zC,uO]
    exact⟨zX (aas (length_filter_le ..) (by rw[length_take];omega)),by rw[aj,aj]⟩
   ·rw[if_neg c,if_neg c,aj,aj,append_nil]
 ·rw[take_length] at hz
  subst hz
  rw[zC,aj]
  have gr:∀x∈(rng n).filter (gd led fair),0<=x/\x<n:=λx h=>aZ.mp (mem_filter.mp h).1
  have gl:((rng n).filter (gd led fair)).length<=1000:=aas (length_filter_le ..) (by omega)
  rw[wC (p:=λs=>decide (s∈(rng n).filter (gd led fair))||((rng n).filter (gd led fair)).any λb=>lb led s b) (g:=λx=>x) (zX (by omega)) (λs hs=>?_) (λ_ _=>rfl),map_id',aj]
  ·have base:∀b∈rng n,(gd led fair b=true↔Qq xss fair (rng n) b):=λb hb=>by
    obtain⟨b0,b1⟩:=aZ.mp hb
    unfold gd
    rw[aag,hC.iff b b b0 b1 b0 b1,all_eq_true]
    constructor
    ·rintro⟨p,h⟩
     refine⟨p,λF hF=>?_⟩
     obtain⟨x,x1,x2⟩:=any_eq_true.mp (h F hF)
     obtain⟨x3,x4⟩:=(aag _ _).mp x2
     have xb:=(hf.2 F hF).2.2 x x1
     exact⟨x,x1,((hC.iff b x b0 b1 xb.1 xb.2).mp x4).rc,((hC.iff x b xb.1 xb.2 b0 b1).mp x3).rc⟩
    ·rintro⟨p,h⟩
     refine⟨p,λF hF=>?_⟩
     obtain⟨x,xF,r1,r2⟩:=h F hF
     have xb:=(hf.2 F hF).2.2 x xF
     have p1:gZ xss (rng n) b x:=r1.Qp.elim (λe=>e▸p) id
     have p2:gZ xss (rng n) x b:=r2.Qp.elim (λe=>by rw[<-e];exact e▸p) id
     exact any_eq_true.mpr ⟨x,xF,by rw[(hC.iff x b xb.1 xb.2 b0 b1).mpr p2,(hC.iff b x b0 b1 xb.1 xb.2).mpr p1];rfl⟩
   refine⟨wN n _,λs=>?_⟩
   rw[mem_filter,abg,decide_eq_true_iff,any_eq_true]
   constructor
   ·rintro⟨sr,h|⟨b,h1,h2⟩⟩
    ·exact⟨sr,s,sr,(base s sr).mp (mem_filter.mp h).2,.here⟩
    ·obtain⟨br,bg⟩:=mem_filter.mp h1
     obtain⟨s0,s1⟩:=aZ.mp sr
     obtain⟨b0,b1⟩:=aZ.mp br
     exact⟨sr,b,br,(base b br).mp bg,((hC.iff s b s0 s1 b0 b1).mp h2).rc⟩
   ·rintro⟨sr,b,br,hb,r⟩
    obtain⟨s0,s1⟩:=aZ.mp sr
    obtain⟨b0,b1⟩:=aZ.mp br
    have bm:=mem_filter.mpr ⟨br,(base b br).mpr hb⟩
    refine⟨sr,?_⟩
    rcases r.Qp with e|p
    ·subst e;exact .inl bm
    ·exact .inr ⟨b,bm,(hC.iff s b s0 s1 b0 b1).mpr p⟩
  ·obtain⟨s0,s1⟩:=aZ.mp hs
   by_cases c:s∈(rng n).filter (gd led fair)
   ·rw[if_pos (decide_eq_true c),decide_eq_true c];rfl
   ·rw[if_neg (by rw[decide_eq_false c];decide),decide_eq_false c,lw.at1 s0 s1]
    show wS (qp led s) _=_
    rw[zM3 (lw.rlen s0 s1) gr gl]
    rfl
end
theorem Qt(ws:LI):W (wT ws) λ_=>True:=by
 unfold wT
 rw[Jd]
 refine⟨λ_=>aj.mpr trivial,λh=>?_⟩
 cases ws with
 |nil=>exact absurd rfl h
 |cons x r =>
  rw[List.getLast?_cons]
  exact⟨_,rfl,trivial⟩
theorem zM4(c:Int)(h0:0<=n)(h1:n<=60):W (vX c n) (aW n):=by
 unfold vX
 rw[zC,aj,zC,zC,cW]
 refine⟨⟨by omega,by omega⟩,?_⟩
 have rn:=vN h0
 refine xE (λj z=>aW j z.1/\z.1.length<=j) ⟨OD,aaf _⟩ (λj y z hj hJ=>?_) λz hJ=>?_
 ·obtain⟨rfl,hy⟩:=Jb hj
  simp only[zC,Oz,Ja,aj,Jd,uO]
  exact⟨by decide,λ_=>⟨zX (by omega),⟨by decide,by decide⟩,Zr hJ.1 (by omega) (by omega),by rw[length_append];exact abj hJ.2⟩,λ_=>⟨⟨by decide,by decide⟩,Zt hJ.1 (by omega),by omega⟩⟩
 ·rw[rn] at hJ
  rw[aj]
  exact hJ.1
theorem zIu(h:aW n xs)(m5:n<=60)(ne:xs≠[]):MJ n xs:=⟨ne,h.nodup,Ku h m5,h.2⟩
theorem Eb(c k:Int)(h0:1<=n)(h1:n<=60):W (Mz c k n) (MJ n):=by
 unfold Mz
 rw[zC,aj,zC,aj,zC,zC,cW]
 refine⟨⟨by omega,by omega⟩,?_⟩
 have rn:=vN (n:=n) (by omega)
 refine xE (λj z=>aW j z.1/\z.1.length<=j) ⟨OD,aaf _⟩ (λj y z hj hJ=>?_) λz hJ=>?_
 ·obtain⟨rfl,hy⟩:=Jb hj
  simp only[zC,Oz,Ja,aj,Jd,uO]
  exact⟨by decide,λ_=>⟨zX (by omega),⟨by decide,by decide⟩,Zr hJ.1 (by omega) (by omega),by rw[length_append];exact abj hJ.2⟩,λ_=>⟨⟨by decide,by decide⟩,Zt hJ.1 (by omega),by omega⟩⟩
 ·rw[rn] at hJ
  rw[zC]
  by_cases e:z.1=[]
  ·rw[if_pos (decide_eq_true e),zC,zC,Ja]
   refine⟨by omega,?_⟩
   have z0:=Int.emod_nonneg (c+k) (show n≠0 by omega)
   have z1:=Int.emod_lt_of_pos (c+k) (show 0<n by omega)
   rw[e,uO]
   refine⟨zX (by simp),?_⟩
   rw[aj,aj]
   refine⟨by simp,by simp,by simp,λy hy=>?_⟩
   have:y=(c+k)%n:=by simpa using hy
   rw[this]
   exact⟨z0,z1⟩
  ·rw[if_neg (by rw[decide_eq_false e];decide),aj,aj]
   exact zIu hJ.1 h1 e
section
variable{α β:Type}{f:LI->α->Option (β×LI)}{R:β->Prop}
theorem zTo:∀(xs:List α)(ws:LI),(∀ws,∀x∈xs,W (f ws x) λr=>R r.1)->W (j8 f ws xs) λr=>r.1.length=xs.length/\∀y∈r.1,R y
 |[],ws,_=>aj.mpr ⟨rfl,λy h=>by cases h⟩
 |x::xs,ws,h=>by
  unfold j8
  rw[zC]
  refine(h ws x mem_cons_self).imp λr hr=>?_
  rw[zC]
  refine(zTo xs r.2 λw y hy=>h w y (mem_cons_of_mem _ hy)).imp λq hq=>?_
  rw[aj]
  refine⟨by rw[length_cons,length_cons,hq.1],λy hy=>?_⟩
  rcases mem_cons.mp hy with rfl|hy
  ·exact hr
  ·exact hq.2 y hy
theorem zP6{xs:List α}(hl:xs.length<cap)(h:∀ws,∀x∈xs,W (f ws x) λr=>R r.1):W (JH f ws xs) λr=>r.1.length=xs.length/\∀y∈r.1,R y:=by
 unfold JH
 rw[if_pos hl]
 exact zTo xs ws h
end
structure KC(n:Int)(T:Gv (List LI) (List (Str×LI)) (List LI)):Prop where
 pos:1<=n
 few:n<=60
 len:(T.a.length:Int)=n
 row:∀xs∈T.a,MJ n xs
 marks:∃A B D,T.b=[(("p":Str),A),(("wet":Str),B),(("darkness":Str),D)]/\aW n A/\aW n B/\aW n D
 fair:ud n T.c
theorem Ec(h0:1<=n)(h1:n<=60)(s:List (Str×LI))(ws:LI)(x:Str)(hs:s.length<=100):W (((((wT ws).bind λr23=>(vX r23.1 n).bind λWM=>some (WM,r23.2)).bind λr25=>some ((x,r25.1),r25.2)).bind λr26=>(push s r26.1).bind λWQ=>some (WQ,r26.2)).bind λdW=>some (dW.1,dW.2)) λz=>∃A,z.1=s++[(x,A)]/\aW n A:=by
 rw[zC,zC,zC,zC]
 refine(Qt ws).imp λr _=>?_
 rw[zC]
 refine(zM4 r.1 (by omega) h1).imp λA hA=>?_
 rw[aj,aj,zC,uO]
 refine⟨zX (by omega),?_⟩
 rw[aj,aj]
 exact⟨A,rfl,hA⟩
theorem Ed(ws:LI):W (Qk ws) λv=>∃n,KC n v.1:=by
 unfold Qk
 rw[zC]
 refine(Qt ws).imp λc _=>?_
 have hn:∀Q:Int->Prop,(∀n,1<=n->n<=60->Q n)->W ((((jm c.1 (8:Int)).bind λa3=>gj a3 (7:Int)).bind λb4=>some ((1:Int)+b4))) λmC=>W (((gj c.1 (8:Int)).bind λa5=>some (decide (a5=(1:Int)))).bind λb=>if b=true then(((jm c.1 (8:Int)).bind λa9=>gj a9 (5:Int)).bind λb10=>some ((8:Int)+b10)).bind λqj=>some qj else some mC) Q:=λQ h=>by
  simp only[zC,Ja,Oz,aj,Jd]
  exact⟨⟨by decide,by decide⟩,by decide,by decide,λ_=>⟨⟨by decide,by decide⟩,by decide,h _ (by omega) (by omega)⟩,λ_=>h _ (by omega) (by omega)⟩
 rw[zC]
 refine(hn _ λn n1 qt=>?_).imp λmC h=>by rw[zC];exact h
 have rl:=GF qt (by omega)
 have rn:=vN (n:=n) (by omega)
 rw[zC,zC,cW]
 refine⟨⟨by omega,by omega⟩,?_⟩
 refine(zP6 (R:=MJ n) (zX (by omega)) λw x _=>?_).imp λsteps hst=>?_
 ·rw[zC]
  refine(Qt w).imp λr _=>?_
  rw[zC]
  refine(Eb r.1 x n1 qt).imp λb hb=>?_
  rw[aj]
  exact hb
 rw[zC,aj,zC,zC,aj]
 refine xE (λi z=>z.1.length=i/\∃A B D,aW n A/\aW n B/\aW n D/\z.1=([(("p":Str),A),("wet",B),("darkness",D)]:List (Str×LI)).take i) ⟨rfl,[],[],[],OD,OD,OD,rfl⟩ (λi x z hi hI=>?_) λz hI=>?_
 ·obtain⟨l,A,B,D,a,b,d,e⟩:=hI
  have i3:i<3:=by
   have:=(aao.mp hi).1
   simpa using this
  refine(Ec n1 qt z.1 z.2 x (by omega)).imp λz' ⟨E,e1,e2⟩=>⟨by rw[e1,length_append,l];rfl,?_⟩
  rw[e1,e]
  match i,hi,i3 with
  |0,hi,_ =>
   have hx:x = "p":=by simpa using hi.symm
   subst hx
   exact⟨E,B,D,e2,b,d,rfl⟩
  |1,hi,_ =>
   have hx:x = "wet":=by simpa using hi.symm
   subst hx
   exact⟨A,E,D,a,e2,d,rfl⟩
  |2,hi,_ =>
   have hx:x = "darkness":=by simpa using hi.symm
   subst hx
   exact⟨A,B,E,a,b,e2,rfl⟩
 ·obtain⟨l,A,B,D,a,b,d,e⟩:=hI
  have e:z.1=[(("p":Str),A),("wet",B),("darkness",D)]:=e
  rw[zC,zC,zC,zC,Oz]
  refine⟨⟨by decide,by decide⟩,?_⟩
  rw[Ja]
  refine⟨by decide,?_⟩
  have q4:0<=c.1/60%4/\c.1/60%4<4:=by omega
  have r4:=vN q4.1
  rw[cW]
  refine⟨⟨by omega,by omega⟩,?_⟩
  refine(zP6 (R:=aW n) (zX (by omega)) λw x _=>?_).imp λfair hfa=>?_
  ·rw[zC]
   refine(Qt w).imp λr _=>?_
   rw[zC]
   refine(zM4 r.1 (by omega) qt).imp λF hF=>?_
   rw[aj]
   exact hF
  rw[aj]
  exact⟨n,n1,qt,by show(steps.1.length:Int)=n;rw[hst.1];exact rn,hst.2,⟨A,B,D,e,a,b,d⟩,by show fair.1.length<=100;omega,λF hF=>S7 (hfa.2 F hF) qt⟩
end Ts
set_option maxHeartbeats 40000000
namespace Ts
open PySem L2 Sy
section
variable{P:Program}{w:World}{K:PySem.W.Frag}{mg:Str->Option Value}{base:Heap}
def S9(C:Addr)(cl:Hd->Addr)(q0:Og):Option Bool:=(JN (sH q0.ns none (some (60:Int)))).bind λzf=>(Qk zf ).bind λv2=>(some (v2.1.a.length:Int)).bind λbV=>(wT v2.2 ).bind λaq=>((gj aq.1 (3:Int)).bind λb6=>bF v2.1.b b6).bind λv5=>(some ((bH.mk (.mark v5.1):bH cl))).bind λpart7=>((((jm aq.1 (3:Int)).bind λa8=>gj a8 (2:Int)).bind λa9=>some (decide (a9=(1:Int)))).bind λb=>if b=true then(some ((bH.mk (.one 0 part7.t):bH cl))).bind λpart12=>((xT bV).bind λxs=>yQ (λ(kh:Int)=>some (!decide (kh∈v5.2))) (λ(kh:Int)=>some kh) xs).bind λmL=>some (part12,mL) else some (part7,v5.2)).bind λiK=>(((((Cv bV).bind λa17=>some ((a17,()))).bind λWK=>some (v2.1.c,WK)).bind λb19=>some (v2.1.a,b19)).bind λXe=>MF Xe.1 Xe.2.1 Xe.2.2.1).bind λbW=>((some v2.1.b).bind λxs=>yQ (λ(x21:Str×LI)=>some true) (λ(x21:Str×LI)=>some (x21.1,x21.2)) xs).bind λbx=>(((some v2.1.a).bind λxs=>yQ (λ(x23:LI)=>some true) (λ(x23:LI)=>some x23) xs).bind λa25=>((some v2.1.c).bind λxs=>yQ (λ(x24:LI)=>some true) (λ(x24:LI)=>some x24) xs).bind λa26=>Mu C a25 (some bx) (some a26)).bind λaR=>(some ([]:LI)).bind λqu=>(some ([]:LI)).bind λpH=>((xT bV).bind λxs=>yU (λ(m8:LI×LI) (x31:Int)=>((bF v2.1.a x31).bind λxs=>yQ (λ(x33:Int)=>if(decide (x33∈bW))=true then some (decide (x33∈iK.2)) else some false) (λ(x33:Int)=>some x33) xs).bind λg8=>((bF v2.1.a x31).bind λxs=>yQ (λ(x35:Int)=>if(decide (x35∈bW))=true then some (!decide (x35∈iK.2)) else some false) (λ(x35:Int)=>some x35) xs).bind λjY=>(if(!decide (g8=([]:LI)))=true then(push m8.1 x31).bind λqw=>some qw else some m8.1).bind λKD=>(if(decide (jY=([]:LI)))=true then(push m8.2 x31).bind λmO=>some mO else some m8.2).bind λQu=>some (KD,Qu)) xs (qu,pH)).bind λQv=>(((uX aR ((bH.mk (.one 1 iK.1.t):bH cl))).bind λa43=>some ((a43,(Qv.1,())))).bind λz42=>Gx z42.1 z42.2.1).bind λc46=>if c46=true then((uX aR ((bH.mk (.one 2 iK.1.t):bH cl))).bind λa45=>some ((a45,(Qv.2,())))).bind λz44=>Gx z44.1 z44.2.1 else some false
theorem zj:ao ["_law_script","_law_rest","_law_steps","_law_marks","_law_fair","_law_many","_law_cell_here","_law_name","_law_some","_law_part","_law_live","_law_marked","_law_machine","_law_due","_law_each","_law_stand","_law_good","_law_bad"] ["_law_script"] (zI nG):=fsc
abbrev Qw(K:PySem.W.Frag)(C:Addr)(cl:Hd->Addr):Sp:=cL K false (λa:Og×Unit=>([.z a.1]:SL K)) (λa=>S9 C cl a.1)
theorem KH(F:aY K "law" "law" nG f fd)(B:Bl K mg)(T:Cl K mg C)(I:oK P w K mg base kS cl fi di)(hS:kS+1<=k0+1)(MK:Mk K C fI)(GI:au P w K mg base aP k0 fI S_ ["self","steps","marks","fair"] (O9 K C (Mu C)))(Xf:Binds K S_ ["self","steps","marks","fair"] [])(jT:mg "reversed" = none)(cJ:cu P w K mg base (k0+1) "_law_cell" ["_law_rest"] (WL K))(mQ:cu P w K mg base (k0+1) "_law_core" ["_law_steps","_law_fair","_law_within"] (zK6 K))(jU:cu P w K mg base (k0+1) "_law_drawn" ["_law_rest"] (zIj K))(kO:cu P w K mg base (k0+1) "_law_set" ["_law_found","_law_due"] (zP9 K))(kW:cu P w K mg base (k0+1) "holds" ["machine","saying"] (zQb K C cl)):au P w K mg base aP ((k0+1)+1) f fd ["_law_script"] (Qw K C cl):=by
 refine yJ F zj (λ_=>rfl) (λ_=>rfl) λcdv A outer s H E hr=>?_
 have nd:=zj.nd
 refine⟨_,(zB (vP (i:=1) (own:=["_law_cell_here"]) (ix:=[]) nd rfl rfl rfl rfl rfl (JQ K jT (zA (zRd (V1 K) (pv 0) Bg (Bh yB)) zE)) (λC s H fp=>yA (i:=0) (show(["_law_cell_here"]:List Str).Nodup from by decide +kernel) rfl (Or.inl rfl)) (λC s H fp=>xU) (λC s H fp=>(pv 0))) (zB (Hh (yH jU hr (zA (pv 1) zE)) (EY rfl (yK (bL 2 nd) (yK (bL 3 nd) (yK (bL 4 nd) uW))))) (zB (xC 5 nd (zS (su K) rfl B.len aa7 (zA (pv 2) zE))) (zB (xC 6 nd (yH cJ hr (zA (pv 1) zE))) (zB (Hh (xQ (bK K) (pv 3) (wO Aw (pv 6) yB) (λ_ _=>rfl)) (EY rfl (yK (bL 7 nd) (yK (bL 8 nd) uW)))) (zB (xC 9 nd (NP (I.ini.made .mark) I.ini.iM (hr.mono hS) rfl I.ini.mM I.ini.bM .nil uP (zA (pv 7) zE))) (zB (xP (yV (Ad K Int hr) (wO Aw (wO Lg (pv 6) yB) yB) yB (wW _)) (zB (xC 9 nd (NP (I.ini.made (.one 0)) (I.ini.i1 0) (hr.mono hS) rfl (I.ini.m1 0) (I.ini.b1 0) .nil uP (zA (pv 9) zE))) (zB (xC 8 nd (wL (own:=["_law_stand"]) (ix:=[8]) rfl rfl rfl (yR rfl B.range (zA (pv 5) zE)) (λC s H fp=>yA (i:=0) (show(["_law_stand","_law_some"]:List Str).Nodup from by decide +kernel) rfl (Or.inl rfl)) (λC s H fp=>uV (yV (Zm K) (pv 0) (pv 1) (by with_unfolding_all rfl))) (λC s H fp=>(pv 0)))) zG)) zG) (zB (xC 10 nd (yH mQ hr (zA (pv 2) (zA (pv 4) (zA (zJ8 rfl rfl B.list rfl B.range (zA (pv 5) zE)) zE))))) (zB (vP (i:=11) (own:=["_law_mark","_law_row_here"]) (ix:=[]) nd rfl rfl rfl rfl rfl (yD K (pv 3)) (λC s H fp=>Ut (K:=K) (n:=2) rfl rfl (yK (yA (i:=0) (show(["_law_mark","_law_row_here"]:List Str).Nodup from by decide +kernel) rfl (Or.inl rfl)) (yK (yA (i:=1) (show(["_law_mark","_law_row_here"]:List Str).Nodup from by decide +kernel) rfl (Or.inl rfl)) uW))) (λC s H fp=>xU) (λC s H fp=>(Fi (zA (pv 0) (zA (uD (IW K) rfl B.list FT (zA (pv 1) zE)) zE))))) (zB (xC 12 nd (NP MK GI hr rfl T.mgC Xf .nil uP (zA (wL (own:=["_law_row_here"]) (ix:=[]) rfl rfl rfl (yD K (pv 2)) (λC s H fp=>yA (i:=0) (show(["_law_row_here"]:List Str).Nodup from by decide +kernel) rfl (Or.inl rfl)) (λC s H fp=>xU) (λC s H fp=>(uD (IW K) rfl B.list FT (zA (pv 0) zE)))) (zA (pv 11) (zA (wL (own:=["_law_row_here"]) (ix:=[]) rfl rfl rfl (yD K (pv 4)) (λC s H fp=>yA (i:=0) (show(["_law_row_here"]:List Str).Nodup from by decide +kernel) rfl (Or.inl rfl)) (λC s H fp=>xU) (λC s H fp=>(uD (IW K) rfl B.list FT (zA (pv 0) zE)))) zE))))) (zB (xC 13 nd (wY zE)) (zB (xC 14 nd (wY zE)) (zB (xB aak rfl (yR rfl B.range (zA (pv 5) zE)) (bL 15 nd) (zB (vP (i:=16) (own:=["_law_other"]) (ix:=[10,8]) nd rfl rfl rfl rfl rfl (yD K (xQ (bK K) (pv 2) (pv 15) (λ_ _=>rfl))) (λC s H fp=>yA (i:=0) (show(["_law_other","_law_live","_law_some"]:List Str).Nodup from by decide +kernel) rfl (Or.inl rfl)) (λC s H fp=>uV (PW.pt (pw_and (yV (FW K) (pv 0) (pv 1) (by with_unfolding_all rfl)) (pw_and1 (yV (FW K) (pv 0) (pv 2) (by with_unfolding_all rfl)))))) (λC s H fp=>(pv 0))) (zB (vP (i:=17) (own:=["_law_other"]) (ix:=[10,8]) nd rfl rfl rfl rfl rfl (yD K (xQ (bK K) (pv 2) (pv 15) (λ_ _=>rfl))) (λC s H fp=>yA (i:=0) (show(["_law_other","_law_live","_law_some"]:List Str).Nodup from by decide +kernel) rfl (Or.inl rfl)) (λC s H fp=>uV (PW.pt (pw_and (yV (FW K) (pv 0) (pv 1) (by with_unfolding_all rfl)) (pw_and1 (yV (Zm K) (pv 0) (pv 2) (by with_unfolding_all rfl)))))) (λC s H fp=>(pv 0))) (zB (xP (yV (Za K LI hr) (pv 16) (wY zE) (wW _)) (zB (zZ (sy K aaq aav aaw xO (pv 13) (zA (pv 15) zE))) zG) zG) (zB (xP (yV (Ad K LI hr) (pv 17) (wY zE) (wW _)) (zB (zZ (sy K aaq aav aaw xO (pv 14) (zA (pv 15) zE))) zG) zG) zG))))) (zB (zV (G8 (yH kO hr (zA (yH kW hr (zA (pv 12) (zA (NP (I.ini.made (.one 1)) (I.ini.i1 1) (hr.mono hS) rfl (I.ini.m1 1) (I.ini.b1 1) .nil uP (zA (pv 9) zE)) zE))) (zA (pv 13) zE))) (K7 (yH kO hr (zA (yH kW hr (zA (pv 12) (zA (NP (I.ini.made (.one 2)) (I.ini.i1 2) (hr.mono hS) rfl (I.ini.m1 2) (I.ini.b1 2) .nil uP (zA (pv 9) zE)) zE))) (zA (pv 14) zE)))))) zG)))))))))))))),?_⟩
 rintro Fa ⟨q0,⟨⟩⟩
 exact SB.of (zN (vR true 1 rfl rfl (Dg (zR9 (zD 0 rfl) (zW 60)).ex)) (λzf=>(sW [.z q0,.ow true zf,.un,.un,.un,.un,.un,.un,.un,.un,.un,.un,.un,.un,.un,.un,.un,.un] (zN (JL (n:=true) (zKm 1 rfl rfl zP) (λ_=>Df 2 3 4 rfl rfl (λ_=>rfl) rfl (λ_ _=>rfl) rfl)) (λv2=>(sW [.z q0,.ow true v2.2,.y v2.1.a,.y v2.1.b,.y v2.1.c,.un,.un,.un,.un,.un,.un,.un,.un,.un,.un,.un,.un,.un] (zN (yN true 5 rfl rfl (esc (tX (zD 2 rfl)))) (λbV=>(sW [.z q0,.ow true v2.2,.y v2.1.a,.y v2.1.b,.y v2.1.c,.y bV,.un,.un,.un,.un,.un,.un,.un,.un,.un,.un,.un,.un] (zN (SJ true 6 (λ_=>⟨_,rfl,rfl⟩) (zKm 1 rfl rfl zP)) (λaq=>(sW [.z q0,.ow true aq.2,.y v2.1.a,.y v2.1.b,.y v2.1.c,.y bV,.y aq.1,.un,.un,.un,.un,.un,.un,.un,.un,.un,.un,.un] (zN (Cy (n:=true) (wA (yF 3 rfl) (BW (zF 6 rfl) (zW 3))) (Fz 7 8 rfl rfl (λ_=>rfl) rfl)) (λv5=>(sW [.z q0,.ow true aq.2,.y v2.1.a,.y v2.1.b,.y v2.1.c,.y bV,.y aq.1,.y v5.1,.y v5.2,.un,.un,.un,.un,.un,.un,.un,.un,.un] (zN (yN true 9 rfl rfl (CV (cl:=cl) (esc (zF 7 rfl)))) (λpart7=>(sW [.z q0,.ow true aq.2,.y v2.1.a,.y v2.1.b,.y v2.1.c,.y bV,.y aq.1,.y v5.1,.y v5.2,.y part7,.un,.un,.un,.un,.un,.un,.un,.un] (zN (vL (yW (md:=.hp) (Ae (BW (Ly (zF 6 rfl) (zW 3)) (zW 2)) (zW 1))) (zK (yN true 9 rfl rfl (V6 0 (yF 9 rfl))) (λpart12=>(zK (yN true 8 rfl rfl (yS (n:=true) (fu:=[.un,.y v5.2]) (no:=1) (ix:=[8]) rfl rfl (xK (zF 5 rfl)) (zT 0 rfl rfl) (λkh=>(yW (md:=.hp) (Zc (zF 0 rfl) (zD 1 rfl)))) (λkh=>(esc (zF 0 rfl))) (λkh=>dj)).ex) (λmL=>(zR (λeN:(bH cl)×LI=>([.z q0,.ow true aq.2,.y v2.1.a,.y v2.1.b,.y v2.1.c,.y bV,.y aq.1,.y v5.1,.y eN.2,.y eN.1,.un,.un,.un,.un,.un,.un,.un,.un]:SL K)) (part12,mL) aU))))) (zR (λeN:(bH cl)×LI=>([.z q0,.ow true aq.2,.y v2.1.a,.y v2.1.b,.y v2.1.c,.y bV,.y aq.1,.y v5.1,.y eN.2,.y eN.1,.un,.un,.un,.un,.un,.un,.un,.un]:SL K)) (part7,v5.2) aU)) (λiK=>(sW [.z q0,.ow true aq.2,.y v2.1.a,.y v2.1.b,.y v2.1.c,.y bV,.y aq.1,.y v5.1,.y iK.2,.y iK.1,.un,.un,.un,.un,.un,.un,.un,.un] (zN (yN true 10 rfl rfl (zQ (zH (zD 2 rfl) (zH (zD 4 rfl) (zH (zKw (zF 5 rfl)).ex zP))))) (λbW=>(sW [.z q0,.ow true aq.2,.y v2.1.a,.y v2.1.b,.y v2.1.c,.y bV,.y aq.1,.y v5.1,.y iK.2,.y iK.1,.y bW,.un,.un,.un,.un,.un,.un,.un] (zN (yN true 11 rfl rfl (yS (n:=true) (fu:=[.un,.un]) (no:=2) (ix:=[]) rfl rfl (yE (yF 3 rfl)) (Fz 0 1 rfl rfl (λ_=>rfl) rfl) (λx21=>uK) (λx21=>(Y5 (zF 0 rfl) (Iw (zD 1 rfl)).ex)) (λx21=>dj)).ex) (λbx=>(sW [.z q0,.ow true aq.2,.y v2.1.a,.y v2.1.b,.y v2.1.c,.y bV,.y aq.1,.y v5.1,.y iK.2,.y iK.1,.y bW,.y bx,.un,.un,.un,.un,.un,.un] (zN (yN true 12 rfl rfl (zPj (yS (n:=true) (fu:=[.un]) (no:=1) (ix:=[]) rfl rfl (yE (yF 2 rfl)) (zT 0 rfl rfl) (λx23=>uK) (λx23=>(Iw (zD 0 rfl)).ex) (λx23=>dj)).ex (zD 11 rfl) (yS (n:=true) (fu:=[.un]) (no:=1) (ix:=[]) rfl rfl (yE (yF 4 rfl)) (zT 0 rfl rfl) (λx24=>uK) (λx24=>(Iw (zD 0 rfl)).ex) (λx24=>dj)).ex).ex) (λaR=>(sW [.z q0,.ow true aq.2,.y v2.1.a,.y v2.1.b,.y v2.1.c,.y bV,.y aq.1,.y v5.1,.y iK.2,.y iK.1,.y bW,.y bx,.y aR,.un,.un,.un,.un,.un] (zN (vR true 13 rfl rfl (vT (α:=Int))) (λqu=>(sW [.z q0,.ow true aq.2,.y v2.1.a,.y v2.1.b,.y v2.1.c,.y bV,.y aq.1,.y v5.1,.y iK.2,.y iK.1,.y bW,.y bx,.y aR,.ow true qu,.un,.un,.un,.un] (zN (vR true 14 rfl rfl (vT (α:=Int))) (λpH=>(sW [.z q0,.ow true aq.2,.y v2.1.a,.y v2.1.b,.y v2.1.c,.y bV,.y aq.1,.y v5.1,.y iK.2,.y iK.1,.y bW,.y bx,.y aR,.ow true qu,.ow true pH,.un,.un,.un] (zN (xS (n:=true) (L:=(λm8:LI×LI=>([.z q0,.ow true aq.2,.y v2.1.a,.y v2.1.b,.y v2.1.c,.y bV,.y aq.1,.y v5.1,.y iK.2,.y iK.1,.y bW,.y bx,.y aR,.ow true m8.1,.ow true m8.2,.un,.un,.un]:SL K))) (qu,pH) aU (xK (zF 5 rfl)) (λm8=>(zT 15 rfl rfl)) (λm8 x31=>(zK (yN true 16 rfl rfl (yS (n:=true) (fu:=[.un,.y bW,.y iK.2]) (no:=1) (ix:=[10,8]) rfl rfl (yE (wA (yF 2 rfl) (zF 15 rfl))) (zT 0 rfl rfl) (λx33=>(Rv (yW (md:=.hp) (Iz (zF 0 rfl) (zD 1 rfl))) (yW (md:=.hp) (Iz (zF 0 rfl) (zD 2 rfl))))) (λx33=>(esc (zF 0 rfl))) (λx33=>dj)).ex) (λg8=>(zK (yN true 17 rfl rfl (yS (n:=true) (fu:=[.un,.y bW,.y iK.2]) (no:=1) (ix:=[10,8]) rfl rfl (yE (wA (yF 2 rfl) (zF 15 rfl))) (zT 0 rfl rfl) (λx35=>(Rv (yW (md:=.hp) (Iz (zF 0 rfl) (zD 1 rfl))) (yW (md:=.hp) (Zc (zF 0 rfl) (zD 2 rfl))))) (λx35=>(esc (zF 0 rfl))) (λx35=>dj)).ex) (λjY=>(zK (vL (yW (md:=.hp) (Zb (zD 16 rfl) (vT (α:=Int)).ex)) (zK (wG 13 rfl rfl (esc (zF 15 rfl))) (λqw=>(zR (λXg:LI=>([.z q0,.ow true aq.2,.y v2.1.a,.y v2.1.b,.y v2.1.c,.y bV,.y aq.1,.y v5.1,.y iK.2,.y iK.1,.y bW,.y bx,.y aR,.ow true Xg,.ow true m8.2,.y x31,.y g8,.y jY]:SL K)) qw aU))) (zR (λXg:LI=>([.z q0,.ow true aq.2,.y v2.1.a,.y v2.1.b,.y v2.1.c,.y bV,.y aq.1,.y v5.1,.y iK.2,.y iK.1,.y bW,.y bx,.y aR,.ow true Xg,.ow true m8.2,.y x31,.y g8,.y jY]:SL K)) m8.1 aU)) (λKD=>(zK (vL (yW (md:=.hp) (Ae (zD 17 rfl) (vT (α:=Int)).ex)) (zK (wG 14 rfl rfl (esc (zF 15 rfl))) (λmO=>(zR (λXh:LI=>([.z q0,.ow true aq.2,.y v2.1.a,.y v2.1.b,.y v2.1.c,.y bV,.y aq.1,.y v5.1,.y iK.2,.y iK.1,.y bW,.y bx,.y aR,.ow true KD,.ow true Xh,.y x31,.y g8,.y jY]:SL K)) mO aU))) (zR (λXh:LI=>([.z q0,.ow true aq.2,.y v2.1.a,.y v2.1.b,.y v2.1.c,.y bV,.y aq.1,.y v5.1,.y iK.2,.y iK.1,.y bW,.y bx,.y aR,.ow true KD,.ow true Xh,.y x31,.y g8,.y jY]:SL K)) m8.2 aU)) (λQu=>(zR (λm8:LI×LI=>([.z q0,.ow true aq.2,.y v2.1.a,.y v2.1.b,.y v2.1.c,.y bV,.y aq.1,.y v5.1,.y iK.2,.y iK.1,.y bW,.y bx,.y aR,.ow true m8.1,.ow true m8.2,.un,.un,.un]:SL K)) (KD,Qu) aU))))))))))) (λQv=>(sW [.z q0,.ow true aq.2,.y v2.1.a,.y v2.1.b,.y v2.1.c,.y bV,.y aq.1,.y v5.1,.y iK.2,.y iK.1,.y bW,.y bx,.y aR,.ow true Qv.1,.ow true Qv.2,.un,.un,.un] (yI (esc (Ii (zQ (zH (zQ (zH (zD 12 rfl) (zH (V6 1 (zD 9 rfl)) zP))) (zH (uJ 13 rfl) zP))) (zQ (zH (zQ (zH (zD 12 rfl) (zH (V6 2 (zD 9 rfl)) zP))) (zH (uJ 14 rfl) zP))))))))))))))))))))))))))))))))))))))))))))) (by unfold S9;simp only[bnd])
end
theorem Qx(xs:LI):(sH xs none (some (60:Int))).length<=60:=by
 unfold sH
 rw[length_take,show(60:Int)=((60:Nat):Int) from rfl,HT.Bd]
 omega
theorem zSn(xs:LI):W (Gx xs xs) (· = true):=by
 unfold Gx
 rw[zC,if_neg (show¬((!true)=true) by decide),aj,decide_eq_true rfl,abw,if_neg (show¬(false=true) by decide),zC,zC,aj]
 refine Cg (λ_ _=>True) trivial (λi x _ _ _=>?_) λ_ _=>by rw[v9,aj]
 rw[zC,if_neg (show¬(false=true) by decide),aj,if_neg (show¬(false=true) by decide),aj]
 exact⟨(),rfl,trivial⟩
theorem mR:uG "p" = some true/\uG "wet" = some true/\uG "darkness" = some true:=by decide +kernel
theorem KJ{xss:List LI}{n:Int}{L S:LI}(hl:(xss.length:Int)=n)(n1:1<=n)(qt:n<=60)(hr:∀xs∈xss,MJ n xs){Q:LI×LI->Prop}(h:Q (pick n (λs=>!decide (((nxt xss s).filter λx=>decide (x∈L)&&decide (x∈S))=[])),pick n λs=>decide (((nxt xss s).filter λx=>decide (x∈L)&&!decide (x∈S))=[]))) :
  W ((xT n).bind λxs=>yU (λ(m8:LI×LI) (x31:Int)=>((L2.bF xss x31).bind λxs=>yQ (λ(x33:Int)=>if(decide (x33∈L))=true then some (decide (x33∈S)) else some false) (λ(x33:Int)=>some x33) xs).bind λg8=>((L2.bF xss x31).bind λxs=>yQ (λ(x35:Int)=>if(decide (x35∈L))=true then some (!decide (x35∈S)) else some false) (λ(x35:Int)=>some x35) xs).bind λjY=>(if(!decide (g8=([]:LI)))=true then(push m8.1 x31).bind λqw=>some qw else some m8.1).bind λKD=>(if(decide (jY=([]:LI)))=true then(push m8.2 x31).bind λmO=>some mO else some m8.2).bind λQu=>some (KD,Qu)) xs (([]:LI),([]:LI))) Q:=by
 have rl:=GF qt (by omega)
 rw[zC,cW]
 refine⟨⟨by omega,by omega⟩,?_⟩
 refine xE (λi z=>z=(((rng n).take i).filter (λs=>!decide (((nxt xss s).filter λx=>decide (x∈L)&&decide (x∈S))=[])),((rng n).take i).filter λs=>decide (((nxt xss s).filter λx=>decide (x∈L)&&!decide (x∈S))=[]))) rfl (λi s z hi hz=>?_) λz hz=>?_
 ·obtain⟨rfl,hs⟩:=Jb hi
  have s0:(0:Int)<=(i:Int):=abe _
  have ea:L2.bF xss (i:Int)=some (nxt xss i):=by rw[Jc s0];exact Kg hl s0 hs
  have rr:=hr _ (mem_of_getElem? (Kg hl s0 hs))
  have tk:∀p:Int->Bool,(((rng n).take i).filter p).length<=1000:=λp=>aas (length_filter_le ..) (by rw[length_take];omega)
  have sc:∀a b:Bool,(if a=true then some b else some false)=some (a&&b):=λa b=>by cases a<;>rfl
  subst hz
  rw[zC,ea,zC,aj,wC (p:=λx=>decide (x∈L)&&decide (x∈S)) (g:=λx=>x) (zX (by have:=rr.2.2.1;omega)) (λx _=>sc _ _) (λ_ _=>rfl),map_id',aj]
  rw[zC,zC,aj,wC (p:=λx=>decide (x∈L)&&!decide (x∈S)) (g:=λx=>x) (zX (by have:=rr.2.2.1;omega)) (λx _=>sc _ _) (λ_ _=>rfl),map_id',aj]
  rw[W8 hi,W8 hi,zC]
  have put:∀(b:Bool)(xs:LI){Q:LI->Prop},xs.length<=1000->Q (xs++if b=true then[(i:Int)] else[])->W (if b=true then(push xs (i:Int)).bind λd=>some d else some xs) Q:=λb xs Q hx hq=>by
   cases b with
   |true =>
    rw[if_pos rfl,zC,uO]
    exact⟨zX hx,aj.mpr hq⟩
   |false =>
    rw[if_neg (by decide),aj]
    simpa using hq
  refine put _ _ (tk _) ?_
  rw[zC]
  refine put _ _ (tk _) ?_
  rw[aj]
 ·rw[take_length] at hz
  rw[hz]
  exact h
theorem zRw(C:Addr)(cl:Hd->Addr)(scr:Og):W (S9 C cl scr) (· = true):=by
 unfold S9
 rw[zC]
 have c60:=Qx scr.ns
 unfold JN
 rw[if_pos (zX (by omega)),aj,zC]
 refine(Ed _).imp λv ⟨n,D⟩=>?_
 obtain⟨⟨xss,marks,fair⟩,rest⟩:=v
 obtain⟨n1,qt,hl,hr,⟨A0,A1,A2,em,r0,r1,r2⟩,hf⟩:=D
 dsimp only at hl hr em hf
 subst em
 have fl:=hf.1
 have xl:xss.length<=60:=by omega
 rw[zC,aj,zC]
 show W (wT rest) _
 refine(Qt rest).imp λc _=>?_
 rw[zC,zC,Ja]
 refine⟨by decide,?_⟩
 have q3:0<=c.1%3/\c.1%3<3:=by omega
 have three:∃(N:Str)(S:LI),([(("p":Str),A0),("wet",A1),("darkness",A2)]:List (Str×LI))[(c.1%3).toNat]?=some (N,S)/\(N,S)∈([(("p":Str),A0),("wet",A1),("darkness",A2)]:List (Str×LI))/\aW n S:=by
  rcases(show c.1%3=0\/c.1%3=1\/c.1%3=2 by omega) with q|q|q
  ·rw[q];exact⟨_,_,rfl,by simp,r0⟩
  ·rw[q];exact⟨_,_,rfl,by simp,r1⟩
  ·rw[q];exact⟨_,_,rfl,by simp,r2⟩
 obtain⟨N,S,e1,mem,rS⟩:=three
 rw[j7 q3.1]
 refine⟨(N,S),e1,?_⟩
 have rl:=GF qt (by omega)
 have el:Cv n=some (rng n):=by
  unfold Cv
  rw[if_pos ⟨by omega,by omega⟩]
  rfl
 rw[zC,aj,zC]
 have part:∀Q:bH cl×LI->Prop,(∀t S',(∀m:aG C,m.marks=[(("p":Str),A0),("wet",A1),("darkness",A2)]->Pl m n t S')->t.depth<5->Q (bH.mk t,S'))->W ((((jm c.1 (3:Int)).bind λa8=>gj a8 (2:Int)).bind λa9=>some (decide (a9=(1:Int)))).bind λb=>if b=true then(some ((bH.mk (.one 0 (bH.mk (cl:=cl) (.mark N)).t):bH cl))).bind λpart12=>((xT n).bind λxs=>yQ (λ(kh:Int)=>some (!decide (kh∈S))) (λ(kh:Int)=>some kh) xs).bind λmL=>some (part12,mL) else some ((bH.mk (.mark N):bH cl),S)) Q:=λQ h=>by
  rw[zC,zC,zC,Oz]
  refine⟨⟨by decide,by decide⟩,?_⟩
  rw[Ja]
  refine⟨by decide,?_⟩
  rw[aj,Jd]
  refine⟨λ_=>?_,λ_=>?_⟩
  ·rw[zC,aj,zC,Xb (by omega) qt]
   show W (yQ _ _ (rng n)) _
   rw[Zq (λz=>!decide (z∈S)) (λz=>z),map_id']
   refine⟨zX (by omega),?_⟩
   rw[aj]
   exact h (.one 0 (.mark N)) _ (λm e=>.no (.mark (mk:=(N,S)) (by rw[e];exact mem))) (by show 0+1<5;decide)
  ·rw[aj]
   exact h (.mark N) S (λm e=>.mark (mk:=(N,S)) (by rw[e];exact mem)) (by show 0<5;decide)
 rw[hl]
 refine part _ λt S' hPl hd=>?_
 rw[zC,zC,zC,zC,zC,el,aj,aj,aj,aj]
 show W (MF xss fair (rng n)) _
 refine(D_ hl n1 qt hf).imp λL hL=>?_
 rw[zC,zC,aj]
 show W (yQ (λ(x21:Str×LI)=>some true) (λ(x21:Str×LI)=>some (x21.1,x21.2)) _) _
 rw[Gb (λx:Str×LI=>(x.1,x.2)),map_id']
 refine⟨zX (by simp),?_⟩
 rw[zC,zC,zC,aj]
 show W (yQ (λ(x29:LI)=>some true) (λ(x29:LI)=>some x29) xss) _
 rw[Gb (λx=>x),map_id']
 refine⟨zX (show xss.length<=1000 by omega),?_⟩
 rw[zC,zC,aj]
 show W (yQ (λ(x29:LI)=>some true) (λ(x29:LI)=>some x29) fair) _
 rw[Gb (λx=>x),map_id']
 refine⟨zX (show fair.length<=1000 by omega),?_⟩
 show W (Mu C xss (some [(("p":Str),A0),("wet",A1),("darkness",A2)]) (some fair)) _
 have nd3:(([(("p":Str),A0),("wet",A1),("darkness",A2)]:List (Str×LI)).map (·.1)).Nodup:=by
  show([("p":Str),"wet","darkness"]:List Str).Nodup
  decide +kernel
 refine(Qn C (mo:=some [(("p":Str),A0),("wet",A1),("darkness",A2)]) (fo:=some fair) hl n1 qt (λxs hx=>Dt (hr xs hx)) ⟨nd3,by simp,λmk hm=>?_⟩ hf).imp λm ⟨g,es,em',ef⟩=>?_
 ·have hm':mk=(("p":Str),A0)\/mk=(("wet":Str),A1)\/mk=(("darkness":Str),A2):=by simpa using hm
  rcases hm' with rfl|rfl|rfl
  ·exact⟨mR.1,(show("p":Str).length<=1000 by decide +kernel),S7 r0 qt⟩
  ·exact⟨mR.2.1,(show("wet":Str).length<=1000 by decide +kernel),S7 r1 qt⟩
  ·exact⟨mR.2.2,(show("darkness":Str).length<=1000 by decide +kernel),S7 r2 qt⟩
 have Xi:m.marks=[(("p":Str),A0),("wet",A1),("darkness",A2)]:=em'
 have ef2:m.fair=fair:=ef
 have hf':ud n m.fair:=by rw[ef2];exact hf
 have nd:(m.marks.map (·.1)).Nodup:=by rw[Xi];exact nd3
 have hs:∀mk∈m.marks,aW n mk.2:=λmk h=>by
  rw[Xi] at h
  have h':mk=(("p":Str),A0)\/mk=(("wet":Str),A1)\/mk=(("darkness":Str),A2):=by simpa using h
  rcases h' with rfl|rfl|rfl
  ·exact r0
  ·exact r1
  ·exact r2
 have hP:=hPl m Xi
 have hL':GJ m.steps m.fair n L:=by rw[es,ef2];exact hL
 rw[zC,aj,zC,aj,zC]
 refine KJ hl n1 qt hr ?_
 have nr:∀s:Int,0<=s->s<n->∀x∈nxt xss s,0<=x/\x<n:=λs s0 s1=>(hr _ (mem_of_getElem? (Kg hl s0 s1))).2.2.2
 have eS:pick n (into m.steps (L.filter λz=>decide (z∈S')))=pick n (λs=>!decide (((nxt xss s).filter λx=>decide (x∈L)&&decide (x∈S'))=[])):=by
  refine zN8 (wN n _) λs s0 s1=>?_
  rw[cZ,es]
  unfold into
  rw[any_eq_true,adp,decide_eq_false_iff_not,List.filter_eq_nil_iff]
  constructor
  ·rintro⟨_,_,x,x1,x2⟩ h
   obtain⟨x3,x4⟩:=mem_filter.mp (of_decide_eq_true x2)
   exact h x x1 (by rw[decide_eq_true x3];exact x4)
  ·intro h
   refine⟨s0,s1,Classical.byContradiction λq=>h λx x1 x2=>q ⟨x,x1,?_⟩⟩
   obtain⟨a,b⟩:=(aag _ _).mp x2
   exact decide_eq_true (mem_filter.mpr ⟨of_decide_eq_true a,b⟩)
 have eE:(pick n λz=>!decide (z∈pick n (into m.steps (L.filter λz=>decide (z∈pick n λy=>!decide (y∈S'))))))=pick n λs=>decide (((nxt xss s).filter λx=>decide (x∈L)&&!decide (x∈S'))=[]):=by
  refine zN8 (wN n _) λs s0 s1=>?_
  rw[cZ,es,adp,decide_eq_false_iff_not,cZ,decide_eq_true_iff,List.filter_eq_nil_iff]
  unfold into
  rw[any_eq_true]
  constructor
  ·rintro⟨_,_,h⟩ x x1 x2
   obtain⟨a,b⟩:=(aag _ _).mp x2
   obtain⟨x0,xn⟩:=nr s s0 s1 x x1
   exact h ⟨s0,s1,x,x1,decide_eq_true (mem_filter.mpr ⟨of_decide_eq_true a,decide_eq_true (cZ.mpr ⟨x0,xn,b⟩)⟩)⟩
  ·intro h
   refine⟨s0,s1,?_⟩
   rintro⟨_,_,x,x1,x2⟩
   obtain⟨x3,x4⟩:=mem_filter.mp (of_decide_eq_true x2)
   exact h x x1 (by rw[decide_eq_true x3];exact(cZ.mp (of_decide_eq_true x4)).2.2)
 rw[zC,zC,zC]
 show W (uX m (bH.mk (cl:=cl) (.one 1 t))) _
 rw[zQg g hf' nd hs hP hd hL',aj,aj]
 show W (Gx _ _) _
 rw[eS]
 refine(zSn _).imp λb hb=>?_
 subst hb
 rw[if_pos rfl,zC,zC]
 show W (uX m (bH.mk (cl:=cl) (.one 2 t))) _
 rw[zQh g hf' nd hs hP hd hL',aj,aj]
 show W (Gx _ _) _
 rw[eE]
 exact zSn _
end Ts
namespace Sy
open PySem L2
section
variable{K:PySem.W.Frag}{C D:Addr}
theorem Ef(hc:isClsIn K D=true)(ht:typeIn K (.ref D)=some (.type "type"))(hm:mroIn K C (.ref D)=some true):kitOne K (.ref C) (.ref D)=some true:=by
 unfold kitOne
 split
 ·rfl
 ·unfold kitCls PySem.W.subIn
  dsimp only
  rw[ht,hm,show(PySem.W.clsIn K D).isSome=true from hc]
  rfl
theorem KN(hc:isClsIn K D=true)(ht:typeIn K (.ref D)=some (.type "type"))(hm:mroIn K C (.ref D)=some false)(hs:mroIn K C (.ref C)=some true):kitOne K (.ref C) (.ref D)=some false:=by
 have ne:C≠D:=λe=>by
  subst e
  rw[hm] at hs
  cases hs
 unfold kitOne
 rw[if_neg (λe=>ne (aef (abq e)))]
 unfold kitCls PySem.W.subIn
 dsimp only
 rw[ht,hm,show(PySem.W.clsIn K D).isSome=true from hc]
 rfl
def Tc(K:PySem.W.Frag)(C:Addr):List Addr->Prop
 |[]=>True
 |D::r=>mroIn K C (.ref D)=some false/\Tc K C r
def zm(K:PySem.W.Frag):List Addr->List Addr->Prop
 |_,[]=>True
 |p,C::r=>mroIn K C (.ref C)=some true/\Tc K C p/\Tc K C r/\zm K (C::p) r
theorem zKh(h:Tc K C ds)(m:D∈ds):mroIn K C (.ref D)=some false:=by
 induction ds with
 |nil=>cases m
 |cons E r ih =>
  cases m with
  |head=>exact h.1
  |tail _ m=>exact ih h.2 m
theorem Qy:∀{p:List Addr},zm K p r->∀{i:Nat},r[i]?=some C->mroIn K C (.ref C)=some true/\(D∈p->mroIn K C (.ref D)=some false)/\∀{j:Nat},r[j]?=some D->j≠i->mroIn K C (.ref D)=some false:=by
 induction r with
 |nil=>intro p _ i e;cases e
 |cons E r ih =>
  intro p h i e
  cases i with
  |zero =>
   cases e
   refine⟨h.1,zKh h.2.1,λ{j} f n=>?_⟩
   cases j with
   |zero=>exact absurd rfl n
   |succ j=>exact zKh h.2.2.1 (mem_of_getElem? f)
  |succ i =>
   obtain⟨a,b,c⟩:=ih h.2.2.2 e
   refine⟨a,λm=>b (.tail _ m),λ{j} f n=>?_⟩
   cases j with
   |zero=>cases f;exact b (.head _)
   |succ j=>exact c f λq=>n (congrArg _ q)
end
def hix:Hd->Nat
 |.all=>0
 |.mark=>1
 |.one i=>i.val+2
 |.two i=>i.val+8
theorem Eh(h:Hd)(t:Tr):Ts.cN h t=decide (hix h=hix (hd t)):=by
 cases h<;>cases t
 case one.one i j _=>exact decide_eq_decide.2 ⟨λe=>by subst e;rfl,λe=>Fin.ext (by have e:i.val+2=j.val+2:=e;omega)⟩
 case two.two i j _ _=>exact decide_eq_decide.2 ⟨λe=>by subst e;rfl,λe=>Fin.ext (by have e:i.val+8=j.val+8:=e;omega)⟩
 all_goals first|rfl|(symm;apply decide_eq_false;intro e;simp only[hix,hd] at e;omega)
theorem Ej:∀i:Fin 6,i=0\/i=1\/i=2\/i=3\/i=4\/i=5:=by decide
theorem Ek:∀i:Fin 4,i=0\/i=1\/i=2\/i=3:=by decide
abbrev Xj(K:PySem.W.Frag)(C:Addr):Prop:=findIn K (.ref C) "__class__" = some (some (.builtin "object.__class__"))/\mroIn K C (.type "object")=some true/\isClsIn K C=true/\typeIn K (.ref C)=some (.type "type")
abbrev rP(K:PySem.W.Frag)(C:Addr)(x y:Str)(st:Stmt):Prop:=nsIn K aax x=some (some (.ref C))/\(∃f fd,Mk K C f/\aY K "__init__" y st f fd)/\Cls K C/\(findIn K (.ref C) "word" = some none/\findIn K (.ref C) "parts" = some none/\findIn K (.ref C) "part" = some none/\findIn K (.ref C) "left" = some none/\findIn K (.ref C) "right" = some none/\findIn K (.ref C) "name" = some none)/\Xj K C
abbrev Td(K:PySem.W.Frag)(C:Addr)(x y:Str)(st:Stmt):Prop:=nsIn K aax x=some (some (.ref C))/\∃f fd,pY K C "__init__" f/\aY K "__init__" y st f fd
def HdQ(K:PySem.W.Frag)(C f:Addr):Prop:=Mk K C f/\gD K C/\Xj K C
section
variable{K:PySem.W.Frag}{h:Heap}{mg:Str->Option Value}{C:Addr}{x y:Str}{st:Stmt}
theorem KQ(a:nsIn K aax x=some (some (.ref C)))(c:pY K C "__init__" f)(F:aY K "__init__" y st f fd):Td K C x y st:=⟨a,f,fd,c,F⟩
theorem KR(a:nsIn K aax x=some (some (.ref C)))(m:Mk K C f)(F:aY K "__init__" y st f fd)(c:Cls K C)(n:(findIn K (.ref C) "word" = some none/\findIn K (.ref C) "parts" = some none/\findIn K (.ref C) "part" = some none/\findIn K (.ref C) "left" = some none/\findIn K (.ref C) "right" = some none/\findIn K (.ref C) "name" = some none)/\Xj K C):rP K C x y st:=⟨a,⟨f,fd,m,F⟩,c,n⟩
theorem uf(X:K.In h)(G:h.Ns aax mg)(p:rP K C x y st):mg x=some (.ref C)/\∃f fd,aY K "__init__" y st f fd/\HdQ K C f:=by
 obtain⟨a,⟨f,fd,m,F⟩,c,⟨n1,n2,n3,n4,n5,n6⟩,r⟩:=p
 exact⟨mg_of X G a,f,fd,F,m,⟨c,n1,n2,n3,n4,n5,n6⟩,r⟩
end
set_option maxHeartbeats 8000000 in
theorem KY{l:PySem.W.OpenLaw}{K:PySem.W.Frag}(X:K.In h)(G:h.Ns aax mg)(bA:Td K CA "Saying" "Saying.__init__" Wi)(bB:Td K CB "OfOne" "OfOne.__init__" Wj)(bD:Td K CD "OfTwo" "OfTwo.__init__" Wk)(h0:rP K C0 "All" "All.__init__" J0)(h1:rP K C1 "Mark" "Mark.__init__" xq)(h2:rP K C2 "Not" "Not.__init__" J2)(h3:rP K C3 "SomeNext" "SomeNext.__init__" Wm)(h4:rP K C4 "EachNext" "EachNext.__init__" Wn)(h5:rP K C5 "SomeAlways" "SomeAlways.__init__" Wo)(h6:rP K C6 "EachAlways" "EachAlways.__init__" Wq)(h7:rP K C7 "SomeEver" "SomeEver.__init__" Wr)(h8:rP K C8 "Both" "Both.__init__" xu)(h9:rP K C9 "Either" "Either.__init__" Ws)(h10:rP K C10 "SomeTill" "SomeTill.__init__" Wt)(h11:rP K C11 "EachTill" "EachTill.__init__" Wu)(m:zm K [] [C0,C1,C2,C3,C4,C5,C6,C7,C8,C9,C10,C11])(hn:specialIn K (.builtin "object.__class__") "__get__" = some (some (.builtin "getset_descriptor.__get__")))(ht:takesIn K (.builtin "object.__class__")=some true)
   :∃(cl fi:Hd->Addr)(di:Hd->FuncData),∀base:Heap,Ts.oK l.prog w K mg base 3 cl fi di:=by
 obtain⟨aA,fA,dA,cA,FA⟩:=bA
 have aA:=mg_of X G aA
 obtain⟨aB,fB,dB,cB,FB⟩:=bB
 have aB:=mg_of X G aB
 obtain⟨aD,fD,dD,cD,FD⟩:=bD
 have aD:=mg_of X G aD
 obtain⟨a0,f0,d0,F0,Q0⟩:=uf X G h0
 obtain⟨a1,f1,d1,F1,Q1⟩:=uf X G h1
 obtain⟨a2,f2,d2,F2,Q2⟩:=uf X G h2
 obtain⟨a3,f3,d3,F3,Q3⟩:=uf X G h3
 obtain⟨a4,f4,d4,F4,Q4⟩:=uf X G h4
 obtain⟨a5,f5,d5,F5,Q5⟩:=uf X G h5
 obtain⟨a6,f6,d6,F6,Q6⟩:=uf X G h6
 obtain⟨a7,f7,d7,F7,Q7⟩:=uf X G h7
 obtain⟨a8,f8,d8,F8,Q8⟩:=uf X G h8
 obtain⟨a9,f9,d9,F9,Q9⟩:=uf X G h9
 obtain⟨a10,f10,d10,F10,Q10⟩:=uf X G h10
 obtain⟨a11,f11,d11,F11,Q11⟩:=uf X G h11
 refine⟨λh=>([C0,C1,C2,C3,C4,C5,C6,C7,C8,C9,C10,C11]:List Addr).getD (hix h) 0,λh=>([f0,f1,f2,f3,f4,f5,f6,f7,f8,f9,f10,f11]:List Addr).getD (hix h) 0,λh=>([d0,d1,d2,d3,d4,d5,d6,d7,d8,d9,d10,d11]:List FuncData).getD (hix h) d0,λbase=>?_⟩
 have Z:∀h,HdQ K (([C0,C1,C2,C3,C4,C5,C6,C7,C8,C9,C10,C11]:List Addr).getD (hix h) 0) (([f0,f1,f2,f3,f4,f5,f6,f7,f8,f9,f10,f11]:List Addr).getD (hix h) 0)/\([C0,C1,C2,C3,C4,C5,C6,C7,C8,C9,C10,C11]:List Addr)[hix h]?=some (([C0,C1,C2,C3,C4,C5,C6,C7,C8,C9,C10,C11]:List Addr).getD (hix h) 0):=λh=>by
  rcases h with _|_|i|i
  ·exact⟨Q0,rfl⟩
  ·exact⟨Q1,rfl⟩
  ·rcases Ej i with rfl|rfl|rfl|rfl|rfl|rfl<;>exact⟨by assumption,rfl⟩
  ·rcases Ek i with rfl|rfl|rfl|rfl<;>exact⟨by assumption,rfl⟩
 have oA:=zOm (P:=l.prog) (w:=w) (mg:=mg) (base:=base) FA
 have bA:=Ts.pX (p0:="self") (p1:="word") (p2:="parts") FA
 have oB:=zRp FB aA cA oA bA
 have bB:=Ts.pX (p0:="self") (p1:="word") (p2:="part") FB
 have oD:=zRo FD aA cA oA bA
 have bD:=Ts.V2 (p0:="self") (p1:="word") (p2:="left") (p3:="right") FD
 have o0:=J3 F0 Q0.2.1 aA cA oA bA
 have o1:=Dk F1 Q1.2.1 aA cA oA bA
 have o2:=J5 F2 Q2.2.1 aB cB oB bB
 have o3:=zI4 F3 Q3.2.1 aB cB oB bB
 have o4:=zI7 F4 Q4.2.1 aB cB oB bB
 have o5:=zGf F5 Q5.2.1 aB cB oB bB
 have o6:=zGg F6 Q6.2.1 aB cB oB bB
 have o7:=zI5 F7 Q7.2.1 aB cB oB bB
 have o8:=Dl F8 Q8.2.1 aD cD oD bD
 have o9:=zOn F9 Q9.2.1 aD cD oD bD
 have o10:=zI3 F10 Q10.2.1 aD cD oD bD
 have o11:=zI6 F11 Q11.2.1 aD cD oD bD
 refine⟨⟨λh=>(Z h).1.1,o0.mono (by decide),Ts.tY F0,o1.mono (by decide),Ts.jq F1,λi=>by rcases Ej i with rfl|rfl|rfl|rfl|rfl|rfl<;>assumption,λi=>by rcases Ej i with rfl|rfl|rfl|rfl|rfl|rfl<;>(first|exact Ts.jq F2|exact Ts.jq F3|exact Ts.jq F4|exact Ts.jq F5|exact Ts.jq F6|exact Ts.jq F7),λi=>by rcases Ek i with rfl|rfl|rfl|rfl<;>assumption,λi=>by rcases Ek i with rfl|rfl|rfl|rfl<;>(first|exact Ts.pX F8|exact Ts.pX F9|exact Ts.pX F10|exact Ts.pX F11),a0,a1,λi=>by rcases Ej i with rfl|rfl|rfl|rfl|rfl|rfl<;>assumption,λi=>by rcases Ek i with rfl|rfl|rfl|rfl<;>assumption⟩,λh=>(Z h).1.2.1,λh h' t e=>?_,λh=>(Z h).1.2.2.1,hn,ht,λh=>(Z h).1.2.2.2.1⟩
 subst e
 rw[Eh]
 obtain⟨x,_,y⟩:=Qy (D:=_) m (Z (hd t)).2
 by_cases e:hix h'=hix (hd t)
 ·rw[decide_eq_true e]
  exact Ef (Z h').1.2.2.2.2.1 (Z h').1.2.2.2.2.2 (by rw[e];exact x)
 ·rw[decide_eq_false e]
  exact KN (Z h').1.2.2.2.2.1 (Z h').1.2.2.2.2.2 (y (Z h').2 e) x
end Sy
namespace Ts
open PySem L2 Sy
def zp(K:PySem.W.Frag):Sp:=λvs H Q _=>∃(a:Addr)(ns:LI),vs=[.ref a]/\bw K H a (ns.map V.int)/\ns.length<=63/\∀H',Q (.bl true) H'
section
variable{P:Program}{w:World}{K:PySem.W.Frag}{mg:Str->Option Value}{base h:Heap}{j k:Nat}{f C:Addr}{fd:FuncData}{ps:List Str}{sp:Sp}{x y:Str}{st:Stmt}
theorem Xk(no:∀vs H Q E,¬sp vs H Q E):au P w K mg base aP k f fd ps sp :=
 ⟨λvs H Q E h=>absurd h (no vs H Q E),λA outer s H args us vs Q E _ _ _ _ h=>absurd h (no vs H Q E)⟩
abbrev FP(K:PySem.W.Frag)(x:Str)(st:Stmt):Prop:=∃f fd,nsIn K aax x=some (some (.ref f))/\aY K x x st f fd
abbrev MP(K:PySem.W.Frag)(C:Addr)(x y:Str)(st:Stmt):Prop:=∃f fd,Meth K C x f/\aY K x y st f fd
def GK(K:PySem.W.Frag):List Str->Prop
 |[]=>True
 |x::r=>nsIn K aax x=some none/\GK K r
theorem Qz(a:nsIn K aax x=some (some (.ref f)))(F:aY K x x st f fd):FP K x st:=⟨f,fd,a,F⟩
theorem QB(a:Meth K C x f)(F:aY K x y st f fd):MP K C x y st:=⟨f,fd,a,F⟩
theorem Em{dV oc kV doc pm cdv ct:Value}{od an:Option Addr}{osl:Array (Option Value)}(l:K.lookup f=some ⟨oc,od,.func (fnOf x y (vQ st) (xX st) (zI st) dV kV doc pm an cdv ct),osl⟩)(c:codeIn K cdv y=true)(k:keepIn K (.ref f)=true):xg K x y st dV f (fnOf x y (vQ st) (xX st) (zI st) dV kV doc pm an cdv ct):=⟨⟨oc,od,kV,doc,pm,an,cdv,ct,osl,rfl,l,c⟩,k⟩
theorem KZ(X:K.In h)(G:h.Ns aax mg)(p:FP K x st)(t:∀f fd,aY K x x st f fd->au P w K mg base aP k f fd ps sp/\Binds K fd ps []):cu P w K mg base k x ps sp:=by
 obtain⟨f,fd,a,F⟩:=p
 exact⟨f,fd,(t f fd F).1,(t f fd F).2,F.kp,mg_of X G a⟩
theorem Ep(c:Cls K C)(p:MP K C x y st)(t:∀f fd,aY K x y st f fd->au P w K mg base aP k f fd ps sp/\Binds K fd ps []):fG P w K mg base k C x ps sp:=by
 obtain⟨f,fd,a,F⟩:=p
 exact⟨⟨f,fd,(t f fd F).1,(t f fd F).2,a⟩,c⟩
theorem cu.m(c:cu P w K mg base j x ps sp)(h:j<=k:=by decide):cu P w K mg base k x ps sp:=c.mono h
theorem fG.m(c:fG P w K mg base j C x ps sp)(h:j<=k:=by decide):fG P w K mg base k C x ps sp:=c.mono h
end
set_option maxHeartbeats 8000000 in
theorem all_mk{l:PySem.W.OpenLaw}{K:PySem.W.Frag}(X:K.In h)(G:h.Ns aax mg)(hfa:mg "law" = some (.ref fa))(SY:∃(cl fi:Hd->Addr) (di:Hd->FuncData),∀base:Heap,oK l.prog w K mg base 3 cl fi di)(h1:FP K "sources_of" SQ)(h2:FP K "is_stand" jc)(h3:FP K "check_stands" dz)(h4:FP K "check_steps" eF)(h5:FP K "is_name" jK)(h6:FP K "check_marks" eG)(h7:FP K "check_fair" fL)(h8:FP K "copied" lK)(h9:FP K "everywhere" fH)(h10:FP K "flags" oM)(h11:FP K "without" jE)(h12:FP K "others" lE)(h13:FP K "shared" lF)(h14:FP K "distances" gF)(h15:FP K "comes_to" i_)(h16:FP K "steps_into" fJ)(h17:FP K "stepping_to" dY)(h18:FP K "bits_of" jF)(h19:FP K "onward_bits" dZ)(h20:FP K "rings" oO)(h21:FP K "missed_by" gG)(h22:FP K "fair_rings" fK)(h23:FP K "joined" lG)(h24:FP K "core" qI)(h25:FP K "alive" s_alive)(h26:FP K "some_next" gH)(h27:FP K "meaning_over_walks" bO)(h28:FP K "meaning" jJ)(h29:FP K "table_among" d_)(h30:FP K "table" oR)(h31:FP K "holds" oV)(h32:FP K "_law_cell" lM)(h33:FP K "_law_bits" lN)(h34:FP K "_law_next" lO)(h35:FP K "_law_drawn" jL)(h36:FP K "_law_row" oW)(h37:FP K "_law_closure" gJ)(h38:FP K "_law_leads" jM)(h39:FP K "_law_core" lQ)(h40:FP K "_law_set" oX)(h41:FP K "law" nG)(aC:nsIn K aax "Machine" = some (some (.ref C)))(mk:Mk K C fI)(FI:xg K "__init__" "Machine.__init__" w5 (.ref TD) fI S_)(lT:K.lookup TD=some ⟨ocT,odT,.seq #[.none,.none] nT,slT⟩)(m0:MP K C "many" "Machine.many" dF)(m1:MP K C "next_of" "Machine.next_of" cF)(m2:MP K C "before" "Machine.before" cR)(m3:MP K C "marked" "Machine.marked" cT)(m4:MP K C "fair_at" "Machine.fair_at" cG)(cC:Cls K C)(nC:findIn K (.ref C) "steps" = some none/\findIn K (.ref C) "marks" = some none/\findIn K (.ref C) "fair" = some none/\findIn K (.ref C) "sources" = some none)(mU:nsIn K aax "LETTERS" = some (some (.str "abcdefghijklmnopqrstuvwxyz" sZ)))(eX:nsIn K aax "LONGEST_NAME" = some (some (.int 8 lV)))(fX:nsIn K aax "MOST_STANDS" = some (some (.int 60 m7)))(eY:nsIn K aax "SAYING_WORDS" = some (some (.ref bQ)))(m9:K.lookup bQ=some ⟨.type "tuple",none,.seq #[.str "all" tu,.str "not" tD,.str "both" tE,.str "either" tH,.str "somenext" tK,.str "eachnext" tL,.str "sometill" tM,.str "eachtill" tQ,.str "someever" tR,.str "eachever" tV] zq,ug⟩)(z:GK K ["len","range","isinstance","int","bool","list","enumerate","any","all","sorted","str","set","reversed"]) :
  ∃fd:FuncData,(∀(s:Shared)(v:Value),BindsTo s fd ⟨[v],[]⟩ [("_law_script",v)])/\∀base:Heap,K.In base->base.Ns aax mg->au l.prog w K mg base aP 15 fa fd ["_law_script"] (zp K):=by
 obtain⟨f,fd,a,⟨oc,od,kV,dc,pm,an,cd,ct,sl,rfl,lk,ck⟩,kp⟩:=h41
 have e:=hfa.symm.trans (mg_of X G a)
 cases e
 obtain⟨cl,fi,di,I0⟩:=SY
 obtain⟨Xl,K1,qx,Xm,QC,QD,qZ,Kc,J7,bY,J8,oY,jT,_⟩:=z
 obtain⟨nS,nM,nF,nB⟩:=nC
 have N:∀{x:Str},nsIn K aax x=some none->mg x=none:=λe=>PySem.W.mg_none_of X G e
 have B:Bl K mg:=⟨N Xl,N K1,N qx,N Xm,N QC,N QD,N qZ,Oq,Ou,Ot⟩
 have Xn:=N Kc
 have Xo:=N J7
 have iw:=N bY
 have Xp:=N J8
 have K3:=N oY
 have tW:=N jT
 have mU:=mg_of X G mU
 have eX:=mg_of X G eX
 have fX:=mg_of X G fX
 have eY:=mg_of X G eY
 have T:Cl K mg C:=⟨cC,nS,nM,nF,nB,mg_of X G aC⟩
 have Xf:Binds K S_ ["self","steps","marks","fair"] []:=λs us KX hl=>by
  obtain⟨_,_,_,_,_,_,_,_,_,rfl,_⟩:=FI.ex
  have h2:us.length=4:=by
   rw[length_append] at hl
   have:([]:List Value).length=0:=rfl
   have h4:(["self","steps","marks","fair"]:List Str).length=4:=rfl
   omega
  match us,h2 with
  |[u0,u1,u2,u3],_=>exact BindsTo.of_defaults rfl (KX _ _ lT) rfl rfl rfl
 refine⟨fnOf "law" "law" (vQ nG) (xX nG) (zI nG) .none kV dc pm an cd ct,λs v=>.of_eq rfl,λbase _ _=>?_⟩
 have cal:∀{k:Nat}{x:Str}{st:Stmt}{ps:List Str}{sp:Sp},FP K x st->(∀f fd,aY K x x st f fd->au l.prog w K mg base aP k f fd ps sp/\Binds K fd ps [])->cu l.prog w K mg base k x ps sp:=λh t=>KZ X G h t
 have zu:∀{k:Nat}{x y:Str}{st:Stmt}{ps:List Str}{sp:Sp},MP K C x y st->(∀f fd,aY K x y st f fd->au l.prog w K mg base aP k f fd ps sp/\Binds K fd ps [])->fG l.prog w K mg base k C x ps sp:=λh t=>Ep cC h t
 have I:=I0 base
 have dG:∀H:Hp,jV K H bQ ((["all","not","both","either","somenext","eachnext","sometill","eachtill","someever","eachever"]:List Str).map V.str):=λH=>.inr ⟨_,_,_,m9,rfl,rfl,(by show 10<=sizeLine;decide),by repeat(first|exact Paired.nil|refine Paired.cons ⟨_,rfl⟩ ?_)⟩
 have je:=cal h2 λ_ _ F=>⟨zI1 (k:=0) F B,jq F⟩
 have aM:=cal h3 λ_ _ F=>⟨zD6 (k:=1) F B je.m,pX F⟩
 have m_:=cal h4 λ_ _ F=>⟨zE0 (k:=2) F B fX aM.m,tY F⟩
 have jN:=cal h5 λ_ _ F=>⟨zL2 (k:=0) F B mU eX eY dG Xo Xp,tY F⟩
 have ni:=cal h6 λ_ _ F=>⟨zE1 (k:=2) F B aM.m jN.m,jq F⟩
 have pI:=cal h7 λ_ _ F=>⟨zGe (k:=2) F B aM.m,jq F⟩
 have zx:=cal h8 λ_ _ F=>⟨zOl (k:=0) F B,tY F⟩
 have Xq:=cal h1 λ_ _ F=>⟨JX F B,tY F⟩
 have OI:au l.prog w K mg base aP 4 fI S_ ["self","steps","marks","fair"] (O9 K C (Mu C)):=JZ (k:=3) FI T B m_.m ni.m pI.m zx.m Xq.m
 have aJ:=zu m0 λ_ _ F=>⟨zD7 (k:=0) (C:=C) F B T,tY F⟩
 have aQ:=zu m1 λ_ _ F=>⟨zBr (k:=0) (C:=C) F B T iw,jq F⟩
 have cU:=zu m2 λ_ _ F=>⟨zCl (k:=0) (C:=C) F B T,jq F⟩
 have cV:=zu m3 λ_ _ F=>⟨zCk (k:=0) (C:=C) F B T iw,jq F⟩
 have cI:=zu m4 λ_ _ F=>⟨zBs (k:=0) (C:=C) F B T iw,jq F⟩
 have aK:=cal h9 λ_ _ F=>⟨zGd (k:=1) (C:=C) F B aJ.m,tY F⟩
 have h_:=cal h10 λ_ _ F=>⟨zRm (k:=1) (C:=C) F B aJ.m,jq F⟩
 have jO:=cal h11 λ_ _ F=>⟨zLy (k:=0) F B iw K3,jq F⟩
 have dN:=cal h12 λ_ _ F=>⟨zOf (k:=2) (C:=C) F B aK.m jO.m,jq F⟩
 have fj:=cal h13 λ_ _ F=>⟨zOe (k:=0) F B iw K3,jq F⟩
 have gP:=cal h14 λ_ _ F=>⟨zHq (k:=2) (C:=C) F B cU.m aJ.m h_.m,pX F⟩
 have jf:=cal h15 λ_ _ F=>⟨zI2 (k:=3) (C:=C) F B gP.m,pX F⟩
 have fV:=cal h16 λ_ _ F=>⟨zGb (k:=1) (C:=C) F B Xn aQ.m,pX F⟩
 have eV:=cal h17 λ_ _ F=>⟨zEy (k:=2) (C:=C) F B h_.m fV.m,pX F⟩
 have ig:=cal h18 λ_ _ F=>⟨zL3 (k:=0) F B,tY F⟩
 have eU:=cal h19 λ_ _ F=>⟨zEz (k:=1) (C:=C) F B aJ.m aQ.m ig.m,jq F⟩
 have pA:=cal h20 λ_ _ F=>⟨zRi (k:=2) (C:=C) F B iw K3 eU.m,jq F⟩
 have gU:=cal h21 λ_ _ F=>⟨zHo (k:=1) (C:=C) F B T cI.m fj.m,jq F⟩
 have fW:=cal h22 λ_ _ F=>⟨zGc (k:=3) (C:=C) F B gU.m pA.m,jq F⟩
 have mq:=cal h23 λ_ _ F=>⟨zOk (k:=0) F B,tY F⟩
 have qN:=cal h24 λ_ _ F=>⟨Dq (k:=4) (C:=C) F B jf.m fW.m mq.m,jq F⟩
 have pB:=cal h25 λ_ _ F=>⟨zRn (k:=5) (C:=C) F B qN.m aK.m,tY F⟩
 have dU:=cal h26 λ_ _ F=>⟨zHn (k:=3) (C:=C) F B aK.m fj.m eV.m,pX F⟩
 have bT:=cal h27 λ_ _ F=>⟨zAv (k:=4) (C:=C) (cl:=cl) F B I dN.m dU.m,V2 F⟩
 have jP:=cal h28 λ_ _ F=>⟨zLz (k:=5) (C:=C) (cl:=cl) F B I cV.m aK.m bT.m dN.m,V2 F⟩
 have mV:∀n:Nat,cu l.prog w K mg base (6+n) "table_among" ["machine","living","saying"] (uA K C cl (yC n)):=λn=>by
  induction n with
  |zero=>exact cal h29 λ_ _ F=>⟨Xk (λvs H Q E ⟨_,_,_,_,z,_⟩=>by cases z),pX F⟩
  |succ n ih=>exact cal h29 λ_ _ F=>⟨zEx (k:=6+n) F B I (jP.mono (aas (by decide) (abu 6 n))) ih,pX F⟩
 have cg:cu l.prog w K mg base 12 "table_among" ["machine","living","saying"] (zB4 K C cl):=mV 6
 have pC:=cal h30 λ_ _ F=>⟨zRh (k:=12) (C:=C) (cl:=cl) F B pB.m cg.m,jq F⟩
 have kW:=cal h31 λ_ _ F=>⟨zRl (k:=13) (C:=C) (cl:=cl) F B pC.m,jq F⟩
 have cJ:=cal h32 λ_ _ F=>⟨zOi (k:=0) F B,tY F⟩
 have jA:=cal h33 λ_ _ F=>⟨zOj (k:=0) F B,jq F⟩
 have mG:=cal h34 λ_ _ F=>⟨zOg (k:=0) F B,pX F⟩
 have jU:=cal h35 λ_ _ F=>⟨zL1 (k:=1) F B jA.m cJ.m mG.m,tY F⟩
 have pF:=cal h36 λ_ _ F=>⟨zRk (k:=0) F B,pX F⟩
 have gY:=cal h37 λ_ _ F=>⟨zHp (k:=1) F B pF.m,jq F⟩
 have iu:=cal h38 λ_ _ F=>⟨zL0 (k:=0) F B,jq F⟩
 have mQ:=cal h39 λ_ _ F=>⟨zOh (k:=2) F B gY.m iu.m,pX F⟩
 have kO:=cal h40 λ_ _ F=>⟨zRj (k:=0) F B,jq F⟩
 refine au.imp (KH (k0:=13) (C:=C) (cl:=cl) (lu lk ck kp) B T I (by decide) mk (OI.mono (by decide)) Xf tW cJ.m mQ.m jU.m kO.m kW.m) λvs H Q E h=>?_
 obtain⟨a,ns,rfl,hS,h63,hQ⟩:=h
 obtain⟨b,e1,e2⟩:=zRw C cl ⟨ns⟩
 subst e2
 exact⟨(⟨ns⟩,()),true,H,.refl _,e1,.cons ⟨a,rfl,hS⟩ .nil,λv H' _ r=>by cases r;exact hQ H'⟩
theorem walk{l:PySem.W.OpenLaw}{YP:World->Heap->Prop}{d:DefRec}{K:Params->PySem.W.Frag}(hn:l.most=some 63)(hdf:d.params.defaults=[])(hY:∀(w:World) (h:Heap),YP w h->(K w.params).In h)(F:∀(w:World) (mg:Str->Option Value) (fa:Addr) (h:Heap),(K w.params).In h->h.Ns aax mg->mg d.name=some (.ref fa) ->
   ∃fd:FuncData,(∀(s:Shared) (u:Value),BindsTo s fd ⟨[u],[]⟩ [("_law_script",u)])/\∀base:Heap,(K w.params).In base->base.Ns aax mg->au l.prog w (K w.params) mg base aP 15 fa fd ["_law_script"] (zp (K w.params))) :
  PySem.W.WalkO q loose XP YP l.row.toRowW d [] (λf vs=>PySem.call f vs) :=
 L2.Bt (n:=63) (k:=15) (x:="_law_script") (CX:=λ_=>aP) (sp:=λw=>zp (K w.params)) hn (by decide) hdf ⟨rfl,by decide,by decide⟩ hY F (λ_ _ a ns hl _ hS=>⟨a,ns,rfl,hS,hl,λ_=>rfl⟩) λ_ _ _ _ _ z=>z
end Ts
namespace PySem.W.Fast
def tw4086300962723527312:=0
def tw3334425822497404303:=0
def tw4835591774584951927:=0
def tw16760234417027240087:=0
def tw8984402882622840690:=0
def tw7179325163571410092:=0
def tw648783398066886411:=0
def tw15683705037679851909:=0
def tw9373212293745266928:=0
def tw16965962791634073450:=0
def tw1549399313937568274:=0
def tw11151816741493869151:=0
def tw6831516077815153990:=0
def tw3159671633271049337:=0
def tw4873788228413640620:=0
def tw2232347475215619480:=0
def tw17358100145807016822:=0
def tw6883686338210581298:=0
def tw10697642192362766791:=0
def tw15081546459446548302:=0
def tw12569879238696755795:=0
def tw4096500179734764648:=0
def tw2524215215022223171:=0
def tw11066188091815271572:=0
def tw17800019415850696453:=0
def tw1967514305587875757:=0
def tw4164235633179323080:=0
def tw5212669907868811704:=0
def tw17465779624905991766:=0
def tw10143917038688312962:=0
def tw18347038975451993992:=0
def tw8896401706442630544:=0
def tw5976345615456532986:=0
def tw14647057716321557315:=0
def tw9929085289787465894:=0
def tw595186690047867680:=0
def tw14823391305492404570:=0
def tw17170921989008970798:=0
def tw15396855510551574109:=0
def tw16619714912902776662:=0
def tw16800776678162315959:=0
def tw4828072997130976855:=0
def tw7667553033088093852:=0
def tw11717804804381302604:=0
def tw5810028815098223655:=0
def tw8728881037695338860:=0
def tw3813704595180646722:=0
def tw14461930280587738604:=0
def tw17841321524657146415:=0
def tw17837023694330200472:=0
def tw15180032295591383216:=0
def tw14845313859479769734:=0
def tw12916926808402580171:=0
def tw3941240290335819543:=0
def tw6189661969087355706:=0
def tw7737984911145448919:=0
def tw9245552452272659288:=0
def tw17411202132407385315:=0
def tw15595167535282300290:=0
def tw165330850243927251:=0
def tw13956972433540021940:=0
def tw10120764797582593031:=0
def tw12312520884461250309:=0
def tw12922284511016456353:=0
def tw6530004312697307683:=0
def tw10225204640347702667:=0
def tw12608583031057686229:=0
def tw7451854957005473111:=0
def tw1263074404562650870:=0
def tw14392613158418817147:=0
def tw5748505055204851106:=0
def tw13582267892664672371:=0
def tw7477018105417646626:=0
def tw6192986895299491149:=0
def tw403227194905520602:=0
def tw1439587144948429591:=0
def tw9508066126351513881:=0
def tw7156770151203262661:=0
def tw6590920306521494662:=0
def tw11463630201515725057:=0
def tw5088007029469010203:=0
def tw15502538104464783966:=0
def tw13440215404767272474:=0
def tw15359826779787362350:=0
def tw11155710119518342532:=0
def tw8718724861198406072:=0
def tw18307848644601539493:=0
def tw8069141731155368147:=0
def tw5253502490288787776:=0
def tw11393048940360882469:=0
def tw11727925895735615772:=0
def tw16571515313167534532:=0
def tw7440234551833753221:=0
def tw12695227820183620996:=0
def tw5152983748720389843:=0
def tw872691450427499647:=0
def tw9962650962152315308:=0
def tw9293748355628611257:=0
def tw5068051060692145779:=0
def tw2854713052179286620:=0
def tw8418573606157626152:=0
def tw15380284448979707176:=0
def tw11150286139374213191:=0
def tw4013056100262222631:=0
def tw15615109794036587859:=0
def tw8765570572418479556:=0
def tw9116680371780725129:=0
def tw4752701143470342536:=0
def tw9368845640870446644:=0
def tw11704799655873018188:=0
def tw4330470728425277171:=0
def tw6366564484014370774:=0
def tw229250194141294060:=0
def tw18239340895120985739:=0
def tw11030446674067802352:=0
def tw4098041937607922355:=0
def tw16526644877191470524:=0
def tw8718557113049767603:=0
def tw18200911812084382885:=0
def tw6758044858017723727:=0
def tw1923592727379376911:=0
def tw5709516117236668465:=0
def tw14303074632662607876:=0
def tw11672275655947825396:=0
def tw8360989003504074860:=0
def tw7547291322739116614:=0
def tw3598635864200423290:=0
def tw17798652520676185780:=0
def tw2083296605832719882:=0
def tw1584227215884879536:=0
def tw13629480402997766960:=0
def tw4032800923397518988:=0
def tw7225037517453384223:=0
def tw9983399509173617961:=0
def tw15067747970418216834:=0
def tw16969730036191166610:=0
def tw7490491495066281818:=0
def tw14366165080487968907:=0
def tw1633233319007303197:=0
def tw263185782723865935:=0
def tw14022656800597019869:=0
def tw5232617878228921946:=0
def tw2743383518243127986:=0
def tw13931811248088776988:=0
def tw5442480167166957619:=0
def tw16954739929009539444:=0
def tw8684957488839111946:=0
def tw932997452264845415:=0
def tw11920882303731281713:=0
def tw5237234980262630604:=0
def tw3946277689112856971:=0
def tw447673995047943739:=0
def tw3920550633054666112:=0
def tw6925584199661597248:=0
def tw1804473017493959971:=0
def tw8056542342430135648:=0
def tw1211369984433274506:=0
def tw15073476758785821288:=0
def tw1971984058580012765:=0
def tw6786616974747234070:=0
def tw1284090115254881743:=0
def tw229515615750829128:=0
def tw8746870113187676073:=0
def tw9482630865779428131:=0
def tw6321859369796780490:=0
def tw18141684701144322813:=0
def tw8690905527597881027:=0
def tw5572022009046939447:=0
def tw7512008741175159617:=0
def tw6384592784557512721:=0
def tw3984530694118972166:=0
def tw8891747295086193747:=0
def tw3176127039603204892:=0
def tw5876697048367724744:=0
def tw10999591422791086878:=0
def tw1904326661389698879:=0
def tw17833625754878830112:=0
def tw16268174917188010805:=0
def tw7427075666725941436:=0
def tw4947675176089885066:=0
def tw17069262419480681974:=0
def tw13053196688096731146:=0
def tw5229352687841603426:=0
def tw4927549458522054386:=0
def tw13011469160279240960:=0
def tw7667672666342857610:=0
def tw2819085421842930140:=0
def tw11791339439723124765:=0
def tw6944415368603022848:=0
def tw14246743088919142567:=0
def tw12958424292628940363:=0
def tw14312589348226211792:=0
def tw17679273663574742657:=0
def tw115421903496887810:=0
def tw1369382534709217976:=0
def tw4014449555142285920:=0
def tw1510419632748161174:=0
def tw12309245303370184071:=0
def tw8676557853122752086:=0
def tw10269278373071263877:=0
def tw11048363029509758618:=0
def tw12624073927082676444:=0
def tw5209772874469127722:=0
def tw8651039192851438786:=0
def tw7450370284198096158:=0
def tw11555831621978664152:=0
def tw2585027083719104300:=0
def tw10878492672011256417:=0
def tw7998937766610677461:=0
def tw4800666793883854949:=0
def tw15239071811728610860:=0
def tw5910617108152302438:=0
def tw8652495996021397733:=0
def tw15088511405277222813:=0
def tw3468522947067622969:=0
def tw3500931512137108956:=0
def tw15304712770331705042:=0
def tw1983704656674945436:=0
def tw14252904563157954808:=0
def tw10858964248019105246:=0
def tw16412037431877064637:=0
def tw14567247226068774268:=0
def tw5959118464584578337:=0
def tw13411947670966229378:=0
def tw2277077768748651265:=0
def tw3983852108493410712:=0
def tw7048988330701741226:=0
def tw12262797445184609760:=0
def tw5999225951956308529:=0
def tw482376859863583962:=0
def tw10466055610634064740:=0
def tw16875564173112534837:=0
def tw940518188274326458:=0
def tw4541490231037505973:=0
def tw3646485153356160371:=0
def tw17295656374751292931:=0
def tw15574532595518147862:=0
def tw12459855263738916020:=0
def tw9724151348700833950:=0
def tw1486563377891645773:=0
def tw5161994247285410611:=0
def tw12952078345839170069:=0
def tw2471550822723505183:=0
def tw2957113136862234908:=0
def tw13893027903998189077:=0
def tw8392315462239877589:=0
def tw13732524734351294829:=0
def tw5423221341026281002:=0
def tw8286555955031487300:=0
def tw7367154457864838757:=0
def tw12179040276974156649:=0
def tw11439881403665682362:=0
def tw6990317152401799568:=0
def tw13322338830543917877:=0
def tw11713511806947734504:=0
def tw18033759442095638001:=0
def tw10936492558365785048:=0
def tw8717652433725909387:=0
def tw13148266772642054935:=0
def tw1397440505256090637:=0
def tw15858204507863614059:=0
def tw7542945155492661265:=0
def tw736621538908287901:=0
def tw12964787213994274378:=0
def tw5298619685334039137:=0
def tw5779846499351604667:=0
def tw199521505303777828:=0
def tw5737378071439693002:=0
def tw13027764241897624494:=0
def tw9002800871292795318:=0
def tw16715018598214619768:=0
def tw13959456419021478914:=0
def tw5635161860486561496:=0
def tw17976619768710070914:=0
def tw18416325471866201985:=0
def tw9860279048423818955:=0
def tw10229832889274588975:=0
def tw15531490485474703927:=0
def tw14031454749383721008:=0
def tw14239908565053794356:=0
def tw18023815421826193399:=0
def tw11080009183140352747:=0
def tw5483227412892341483:=0
def tw2807364737540306938:=0
def tw9168380101031433017:=0
def tw11149570256230940945:=0
def tw16793886101381816578:=0
def tw12416877973886071856:=0
def tw15897620122707588566:=0
def tw11606132244917541269:=0
def tw1475759800746253841:=0
def tw10786585832084463321:=0
def tw16322681827979282737:=0
def tw15762423081657969672:=0
def tw9908540257520714494:=0
def tw3106216614468011261:=0
def tw33479693047429605:=0
def tw11294687026514049885:=0
def tw105289571443114737:=0
def tw9713551333809407836:=0
end PySem.W.Fast
open PySem PySem.W PyProof.Rows
set_option maxRecDepth 100000 in
set_option maxHeartbeats 0 in
theorem PySem.Challenge.cw_treesay_k42_next_sayings_holds : PySem.Challenge.rw_treesay_k42_next_sayings.Holds := by
 w_on; o_law; k_head; (case hw=>w_witness2)
 k_fill
 refine Ts.walk (l:=PySem.Challenge.rw_treesay_k42_next_sayings) rfl rfl (fun w h Y=>by first | exact PySem.W.kIn_of Y | exact PySem.W.km_in_of Y) ?F
 case F =>
  intro w mg fa h KX G hmg
  refine' Ts.all_mk KX G hmg (Sy.KY KX G ?_ ?_ ?_ ?_ ?_ ?_ ?_ ?_ ?_ ?_ ?_ ?_ ?_ ?_ ?_ ?_ ?_ ?_) ?_ ?_ ?_ ?_ ?_ ?_ ?_ ?_ ?_ ?_ ?_ ?_ ?_ ?_ ?_ ?_ ?_ ?_ ?_ ?_ ?_ ?_ ?_ ?_ ?_ ?_ ?_ ?_ ?_ ?_ ?_ ?_ ?_ ?_ ?_ ?_ ?_ ?_ ?_ ?_ ?_ ?_ ?_ ?_ ?_ ?_ ?_ ?_ ?_ ?_ ?_ ?_ ?_ ?_ ?_ ?_ ?_ ?_
  all_goals first | refine' Sy.KR ?_ ⟨?_,?_,?_,?_⟩ (L2.lu ?_ ?_ ?_) ⟨?_,?_,?_,?_⟩ ?_ | refine' Sy.KQ ?_ ⟨?_,?_,?_,?_⟩ (L2.lu ?_ ?_ ?_) | refine' Ts.QB ⟨?_,?_,?_⟩ (L2.lu ?_ ?_ ?_) | refine' Ts.Qz ?_ (L2.lu ?_ ?_ ?_) | refine' Ts.Em ?_ ?_ ?_ | refine' ⟨?_,?_,?_,?_⟩ | skip
  all_goals repeat' first | refine' And.intro ?_ ?_ | exact True.intro
  all_goals first | k_is | skip
  all_goals first | k_is | skip
