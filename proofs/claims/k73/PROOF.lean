import PyProof.Rows.All
import Wide.All
import OpenK.AllK
import Wide.FinOn
import Lean
import PyProof.EqAt
import PyProof.EqKinds
import PyProof.TupleCall
import PyProof.NeKinds
import PyProof.EnumStmt
import PyProof.EnumMake
import PyProof.CompFree
import PyProof.Rows.FStr
import PySem.Challenge.RW_treesay_k73_whole_following_carries
open PySem renaming wpAny_bind->aak,wpAny_pure->aal,boot_len->aay,wpAny_setState_of->aa1,wpAny_holding->aa7,mainGlobals->aa9,wpAny_setEpoch_of->abd,wpAny_Call_Name_kw->abf,mem_of_lookup->abk,Spec->abo,wpAny_mono->abu,wpAny_call_entry->abx,fits_of_scanBound->ab0,wpAny_truthy_bool->ab1,wpAny_storeSet_of->ab6,wpAny_forIn_list->ace,wpAny_passesOwn->ach,wpAny_newObj_type->acn,codeAny_builtin->acy,strKind->ac1,entryFor_alias->ac4,wpAny_setField->ac5,codeAny_mono->ac7,wpAny_askSetting->ac8,wpAny_binaryOp_same->adb,wpAny_pyIter_list->adv,builtinLookup_eq_fast->adw,wpAny_isInstance->ady,wpAny_rule->adz,plainId_quiet->ad1,wpAny_execs_nil->ad3,tupleKind_room_in1->ad7,wpAny_BinOp->aea,sub_set_self->aeh,typeLookup_type->aei,wpAny_ite_split->aej,seqIndex_of->aem,wpAny_standAt->aer,call_meets->aev,Within->aey,seqIndex_neg->ae0,wpAny_typeOf->ae1
open List renaming getElem?_eq_getElem->aam,getElem?_eq_some_iff->aau,range->aaz,getElem?_set->abm,getElem?_eq_none->abv
open Bool renaming false_ne_true->aan,false_eq_true->aa3,and_eq_true->abr,eq_iff_iff->ab2,or_eq_true->acg,not_true->aco,not_false->aek,and_self->aen
open Nat renaming le_refl->aao,ne_of_lt->aat,lt_of_le_of_lt->aaw,lt_of_lt_of_le->aax,le_trans->aa0,zero_le->aa5,lt_irrefl->abp,le_succ->abw,le_of_lt->aby,le_of_lt_succ->ab5,lt_succ_self->ab9,succ_le_succ->acd,lt_succ_of_lt->ac2,le_add_right->ac6,not_lt_zero->adh,lt_trans->adq,ne_of_gt->adt,le_of_succ_le->ad8,succ_pos->aef,mod_lt->aes,zero_add->aex
open PySem.F renaming plainAttrs_list->aap,slot_list_append->aaq,type_list_append->aar,slot_list_extend->acp,type_list_extend->acq,slot_list_reverse->ac9,type_list_reverse->ada
open PySem.PassesOwn renaming never->aas
open Array renaming getElem?_eq_getElem->aav,getElem?_eq_none->abq
open Option.some renaming inj->aa2
open Int renaming emod_lt_of_pos->aa4,emod_nonneg->abb,toNat_natCast->ab4,ofNat->ac0,le_refl->ad2
open PySem.Builtin.Frozenset renaming unchanged->aa6,slot1->acs,copyOf->ade
open PySem.Builtin renaming bitAnd->aa8,bitNot->acu,bitOr->acz
open Option renaming isSome_iff_exists->abe,isSome_some->ad6,isSome_map->ad9
open PyProof.Rows renaming callWith_type1->abg,envOfC->ab8,callWith_builtin1->acv,Constant_none->aeo
open PySem.NameKind renaming free->abh,cell->adg
open PySem.Value renaming ref->abj,int->ab3,isInt_shape->acj,none->adk,type->adx,isStrOf->aep
open False renaming elim->abl
open Sum renaming inl->abn,inr->abz
open Classical renaming byContradiction->abt
open ForInStep renaming yield->ab7
open Ne renaming symm->acf
open PySem.Around renaming under_plainId->aci
open True renaming intro->acr
open PySem.Obj renaming mapSeq->acw,mapFields->aeb,putSet->aeu
open PySem.W renaming cellsFrom_some->ac3,kia_one->adu,methodCall_KW->aee,callWith_K->aeg,plainGet_of->ael
open PySem.Builtin.List renaming listTooLong->adf
open PySem.Calls renaming spliced_cons->adi,spliced_nil->adp
open PySem.Builtin.Str renaming occurrences->adl
open PyProof.Rows.F renaming plain_set_update_loop->adn
open PySem.Str renaming empty->ado,ofString->ad4
open PySem.SetTable renaming fill->ad0
open LawfulBEq renaming eq_of_beq->ad5
open PySem.Paired renaming length->aec
open PySem.Value.ref renaming inj->aed
open Iff renaming rfl->aew
open PySem.pickOrder renaming go->aez
open PySem.W (instObj methodObj Frag lookIn plainGet hasDictIn findIn plainGet_of isFn takerIn typeIn emptyDict keepIn specialIn takesIn mroIn kitOne kia_one callWith_K methodCall_KW cellsFrom_some fnOf codeIn isClsIn nsIn mg_of)
open List (mem_filter mem_range filterMap_cons mem_cons_of_mem mem_cons mem_append mem_append_left getElem_inj getElem?_set_self getElem?_set_ne mem_append_right size_toArray any_eq_false length_map append_nil nodup_cons of_mem_zip replicate length_take getElem?_append_right getElem?_replicate getElem?_append_left getElem?_map getElem?_take_of_lt mem_of_getElem? length_append any_cons length_drop length_set all_cons reverse_cons Pairwise mem_cons_self all_eq_true lookup_append getD_eq_getElem?_getD toArray map_cons append_assoc map_append mem_map take_append_drop take_add_one Sublist take_length length_range filter_cons length_singleton range_succ mem_iff_getElem? mem_singleton nodup_append getElem?_range filter_eq_self any_eq_true getElem_mem getElem_of_mem Perm pairwise_cons find?_cons getElem?_toArray pairwise_map pairwise_lt_range length_eq_zero_iff length_eraseIdx ext_getElem? map_map length_nil length_cons set_set rel_of_pairwise_cons perm_ext_iff_of_nodup map_id' mem_of_mem_take mem_flatten flatten_append flatten_singleton length_filter_le flatten_cons Nodup mem_reverse nodup_range)
open PySem.Heap (lt_size SameBut get?_push_of_some get?_push_size size_push get?_update_self get?_update_other)
open Array (getElem?_toList length_toList toArray_toList forIn_toList size_map)
open PySem.SetTable (below insertAt probe grown fits eraseAt)
set_option Elab.async false
set_option linter.all false
set_option maxRecDepth 100000
abbrev LI:=List Int
noncomputable section
local macro_rules | `(tactic| trivial)=>`(tactic| decide +kernel)
namespace L2
open PySem PySem.Spec PyProof.Rows
abbrev Key:=Sum Int Str
def Li:Key->Value->Bool
 |.inl k,v=>Value.isInt k v
 |.inr x,v=>aep x v
def VB(w:World):Key->Int
 |.inl k=>hashInt k
 |.inr x=>hashStr w x
theorem wQ:∀{k:Key}{v:Value},Li k v=true->(∃i t,k=abn i/\v=ab3 i t)\/(∃x t,k=abz x/\v=Value.str x t)
 |.inl i,v,h=>by
  obtain⟨t,e⟩:=acj (k:=i) (v:=v) h
  exact .inl ⟨i,t,rfl,e⟩
 |.inr x,v,h=>by
  obtain⟨t,e⟩:=Value.isStrOf_shape (x:=x) (v:=v) h
  exact .inr ⟨x,t,rfl,e⟩
theorem zUn(i:Int)(t:Tok):Li (.inl i) (.int i t)=true:=by simp[Li,Value.isInt]
theorem zUm(x:Str)(t:Tok):Li (.inr x) (.str x t)=true:=by simp[Li,aep]
theorem Hq(a b:Int):decide ((abn a:Key)=abn b)=(a==b):=by
 grind
theorem Hr(a b:Str):decide ((abz a:Key)=abz b)=decide (a=b):=by
 grind
theorem Hs(a:Int)(b:Str):decide ((abn a:Key)=abz b)=false:=decide_eq_false (λq=>nomatch q)
theorem Ht(a:Str)(b:Int):decide ((abz a:Key)=abn b)=false:=decide_eq_false (λq=>nomatch q)
def uP(prog:Program)(w:World):PySem.KeyKind prog w Key where
 is:=Li
 hash:=VB w
 inj:=λv a b m g=>by
  rcases wQ m with⟨i,t,rfl,rfl⟩|⟨x,t,rfl,rfl⟩
  ·rcases wQ g with⟨j,u,rfl,e⟩|⟨y,u,rfl,e⟩
   ·injection e with d _;rw[d]
   ·exact nomatch e
  ·rcases wQ g with⟨j,u,rfl,e⟩|⟨y,u,rfl,e⟩
   ·exact nomatch e
   ·injection e with d _;rw[d]
 byValue:=λk v h=>by
  rcases wQ h with⟨i,t,rfl,rfl⟩|⟨x,t,rfl,rfl⟩<;>rfl
 pyHash:=λf h=>by
  rcases wQ f with⟨i,t,rfl,rfl⟩|⟨x,t,rfl,rfl⟩
  ·exact wpAny_pyHash_int h
  ·exact wpAny_pyHash_str h
 eqBool:=λl f h=>by
  rcases wQ l with⟨i,t,rfl,rfl⟩|⟨x,t,rfl,rfl⟩
  ·rcases wQ f with⟨j,u,rfl,rfl⟩|⟨y,u,rfl,rfl⟩
   ·rw[Hq] at h;exact wpAny_eqBool_int h
   ·rw[Hs] at h;exact SeqAt.EqAt.int_str i t y u _ _ _ _ h
  ·rcases wQ f with⟨j,u,rfl,rfl⟩|⟨y,u,rfl,rfl⟩
   ·rw[Ht] at h;exact SeqAt.EqAt.str_int x t j u _ _ _ _ h
   ·rw[Hr] at h;exact wpAny_eqBool_str h
 «strs»:=λk x t v h=>by
  rcases wQ h with⟨i,u,rfl,e⟩|⟨y,u,rfl,e⟩
  ·exact nomatch e
  ·injection e with d _
   subst d
   cases v<;>rfl
theorem zNv(prog:Program)(w:World)(i:Int)(t:Tok):(uP prog w).is (.inl i) (.int i t)=true:=zUn i t
theorem zNu(prog:Program)(w:World)(x:Str)(t:Tok):(uP prog w).is (.inr x) (.str x t)=true:=zUm x t
inductive V where
 |non|bl (b:Bool)|int (i:Int)|str (x:Str)|Al (b:Array UInt8)|flt (b:UInt64)|ref (a:Addr)|ty (n:String)
 deriving DecidableEq
def RelV:V->Value->Prop
 |.non,u=>u=adk
 |.bl b,u=>u=Value.bool b
 |.int i,u=>∃t,u=ab3 i t
 |.str x,u=>∃t,u=Value.str x t
 |.Al b,u=>∃t,u=Value.bytes b t
 |.flt b,u=>∃t,u=Value.float b t
 |.ref a,u=>u=abj a
 |.ty n,u=>u=adx n
abbrev Vals:List V->List Value->Prop:=Paired RelV
theorem Vals.length(r:Vals xs us):xs.length=us.length:=aec r
theorem Vals.get:∀{xs:List V}{us:List Value}{i:Nat}{x:V},Vals xs us->xs[i]?=some x->∃u,us[i]?=some u/\RelV x u
 |_,_,_,_,.nil,e=>by simp at e
 |_,_,0,_,.cons r _,e=>by simp at e;subst e;exact⟨_,rfl,r⟩
 |_,_,i+1,x,.cons _ t,e=>by
  obtain⟨u,h1,h2⟩:=Vals.get (i:=i) (x:=x) t (by simpa using e)
  exact⟨u,by simpa using h1,h2⟩
theorem Vals.set(r:RelV x u):∀{xs:List V}{us:List Value}(i:Nat),Vals xs us->Vals (xs.set i x) (us.set i u)
 |_,_,_,.nil=>.nil
 |_,_,0,.cons _ t=>.cons r t
 |_,_,i+1,.cons q t=>.cons q (Vals.set r i t)
theorem Vals.append:∀{xs ys:List V}{us ws:List Value},Vals xs us->Vals ys ws->Vals (xs++ys) (us++ws)
 |_,_,_,_,.nil,s=>s
 |_,_,_,_,.cons r t,s=>.cons r (Vals.append t s)
theorem Vals.take:∀{xs:List V}{us:List Value}(n:Nat),Vals xs us->Vals (xs.take n) (us.take n)
 |_,_,0,_=>.nil
 |_,_,_+1,.nil=>.nil
 |_,_,n+1,.cons r t=>.cons r (Vals.take n t)
theorem Vals.drop:∀{xs:List V}{us:List Value}(n:Nat),Vals xs us->Vals (xs.drop n) (us.drop n)
 |_,_,0,r=>r
 |_,_,_+1,.nil=>.nil
 |_,_,n+1,.cons _ t=>Vals.drop n t
theorem Vals.none_of:∀{xs:List V}{us:List Value}{i:Nat},Vals xs us->xs[i]?=none->us[i]?=none:=λ{xs us i} r e=>by
 have h1:=r.length
 have h2:xs.length<=i:=List.getElem?_eq_none_iff.mp e
 exact List.getElem?_eq_none_iff.mpr (by omega)
noncomputable def gH:Option V->Option Value->Prop
 |some v,some u=>RelV v u
 |none,none=>True
 |_,_=>False
def KV{κ:Type}:List (κ×V)->List (κ×Value)->Prop:=Paired λ(p:κ×V) (q:κ×Value)=>p.1=q.1/\RelV p.2 q.2
def kV:Key->V
 |.inl i=>.int i
 |.inr x=>.str x
inductive HO where
 |lst (xs:List V)
 |tup (xs:List V)
 |dK (kvs:List (Key×V))|dT (kvs:List (List Key×V))
 |set (S:Int->Bool) (n:Nat)
 |ins (C dx:Addr) (fs:List (Str×V))
 |own (x:Addr)
 |xd (fs:List (Str×V))
 |met (f x:Addr)
 |rng (lo hi:Int)
 |mL (o:Obj) (u:HO)
 |Hu (ps:Array Value)
 |ext (φ:Heap->Prop)
abbrev Hp:=Addr->Option HO
def upd(H:Hp)(a:Addr)(o:HO):Hp:=λb=>if b=a then some o else H b
theorem zO:upd H a o a=some o:=by unfold upd;grind
theorem zR(h:b≠a):upd H a o b=H b:=by unfold upd;rw[if_neg h]
theorem Nr{H:Hp}{a b:Addr}{o u:HO}(h:H a=some o)(h':H b=some u)(d:o≠u):a≠b:=by
 grind
theorem zV{H:Hp}{a b:Addr}{o:HO}(h:H a=some o)(h':H b=none):a≠b:=by
 grind
section
variable(P:Program)(w:World)
def bI(H:Hp)(h:Heap)(a:Addr):HO->Prop
 |.lst e=>e.length<=sizeLine/\∃(b:List Value)(n:Nat),Vals e b/\h.get? a=some { cls:=.type "list",data:=.seq b.toArray n }
 |.tup e=>e.length<=sizeLine/\∃b:List Value,Vals e b/\IsTup h a b.toArray
 |.dK d=>d.length<=sizeLine/\(a==sysModules)=false/\∃l,KV d l/\h.DictOf (uP P w) a l
 |.dT d=>d.length<=sizeLine/\(a==sysModules)=false/\∃e:List (List Key×Addr×Value),
   Paired (λ(p:List Key×V) (q:List Key×Addr×Value)=>p.1=q.1/\H q.2.1=some (.tup (p.1.map kV))/\RelV p.2 q.2.2) d e /\
   ∃o k z,h.get? a=some o/\o.ExactDict/\o.data=.dict k z/\k.toList=e.map (entryOfKey (tupleKind (uP P w)))/\(e.map (·.1)).Nodup
 |.set S n=>h.SetOf (intKind P w) a S n
 |.ins C j i=>H j=some (.own a)/\i.length<=1000/\j≠a/\h.get? a=some (instObj C j) /\
   ∃g,h.Ns1 j g/\(∀f,gH (i.lookup f) (g f))/\aey g (i.map (·.1))
 |.own _=>∃o,h.get? a=some o
 |.xd i=>∃g,h.Ns1 a g/\∀f,gH (i.lookup f) (g f)
 |.rng lo s=>∃t u v,h.get? a=some { cls:=.type "range",data:=.fields #[.int lo t,.int s u,.int 1 v] }
 |.mL o u=>h.get? a=some o/\bI H h a u
 |.Hu y=>h.get? a=some { cls:=.none,data:=.fields y }
 |.met f x=>h.get? a=some (methodObj (.ref f) (.ref x))
 |.ext φ=>φ h/\(∃o,h.get? a=some o)/\∀r m:Heap,φ r->(∀o,r.get? a=some o->m.get? a=some o)->φ m
def dR(H:Hp)(h:Heap):Prop:=∀a o,H a=some o->bI P w H h a o
end
section
variable{P:Program}{w:World}{H H':Hp}{h h':Heap}{a:Addr}{o:HO}
theorem bI.lt(x:bI P w H h a o):a<h.objs.size:=by
 cases o with
 |lst d=>obtain⟨_,_,_,_,e⟩:=x;exact lt_size e
 |tup d=>obtain⟨_,_,_,p⟩:=x;exact p.lt
 |dK b=>obtain⟨_,_,_,_,o,_,_,e,_⟩:=x;exact lt_size e
 |dT b=>obtain⟨_,_,_,_,o,_,_,e,_⟩:=x;exact lt_size e
 |set S n=>obtain⟨o,_,_,_,e,_⟩:=x;exact lt_size e
 |ins C dx c=>obtain⟨_,_,_,e,_⟩:=x;exact lt_size e
 |own y=>obtain⟨_,e⟩:=x;exact lt_size e
 |xd c=>obtain⟨_,⟨_,_,_,e,_⟩,_⟩:=x;exact lt_size e
 |rng lo hi=>obtain⟨_,_,_,e⟩:=x;exact lt_size e
 |mL ob u=>obtain⟨e,_⟩:=x;exact lt_size e
 |Hu ps=>exact lt_size (x)
 |met f y=>exact lt_size (x)
 |ext φ=>obtain⟨_,⟨_,e⟩,_⟩:=x;exact lt_size e
theorem Paired.Hv{α β:Type}{F G:α->β->Prop}:∀{l₁:List α}{l₂:List β},Paired F l₁ l₂->(∀a b,F a b->G a b)->Paired G l₁ l₂
 |_,_,.nil,_=>.nil
 |_,_,.cons r t,f=>.cons (f _ _ r) (Paired.Hv t f)
theorem bI.stay(x:bI P w H h a o)(k:∀b u,(b=a\/H b=some (.own a))->h.get? b=some u->h'.get? b=some u)(ho:∀b,H b=some (.own a)->H' b=some (.own a))(ht:∀b xs,H b=some (.tup xs)->H' b=some (.tup xs)):bI P w H' h' a o:=by
 induction o with
 |lst xs=>obtain⟨z,its,n,r,e⟩:=x;exact⟨z,its,n,r,k _ _ (.inl rfl) e⟩
 |tup xs=>obtain⟨z,its,r,ob,e,c⟩:=x;exact⟨z,its,r,ob,k _ _ (.inl rfl) e,c⟩
 |dK kvs=>obtain⟨z,y,vs,r,ob,es,ep,e,c⟩:=x;exact⟨z,y,vs,r,ob,es,ep,k _ _ (.inl rfl) e,c⟩
 |dT kvs =>
  obtain⟨z,y,xs,r,ob,es,ep,e,c⟩:=x
  exact⟨z,y,xs,Paired.Hv r λp q z=>⟨z.1,ht _ _ z.2.1,z.2.2⟩,ob,es,ep,k _ _ (.inl rfl) e,c⟩
 |set S n=>obtain⟨ob,es,ep,t,e,c⟩:=x;exact⟨ob,es,ep,t,k _ _ (.inl rfl) e,c⟩
 |ins C dx fs =>
  obtain⟨d,z,ne,e,mA,⟨od,es,ep,e2,c⟩,r⟩:=x
  exact⟨ho _ d,z,ne,k _ _ (.inl rfl) e,mA,⟨od,es,ep,k _ _ (.inr d) e2,c⟩,r⟩
 |own y=>obtain⟨ob,e⟩:=x;exact⟨ob,k _ _ (.inl rfl) e⟩
 |xd fs=>obtain⟨mA,⟨od,es,ep,e,c⟩,r⟩:=x;exact⟨mA,⟨od,es,ep,k _ _ (.inl rfl) e,c⟩,r⟩
 |rng lo hi=>obtain⟨t,u,v,e⟩:=x;exact⟨t,u,v,k _ _ (.inl rfl) e⟩
 |mL ob u ih=>obtain⟨e,q⟩:=x;exact⟨k _ _ (.inl rfl) e,ih q⟩
 |Hu ps =>
  have e:h.get? a=some { cls:=.none,data:=.fields ps }:=x
  show h'.get? a=some { cls:=.none,data:=.fields ps }
  exact k a _ (.inl rfl) e
 |met f y =>
  have e:h.get? a=some (methodObj (.ref f) (.ref y)):=x
  show h'.get? a=some (methodObj (.ref f) (.ref y))
  exact k a _ (.inl rfl) e
 |ext φ=>obtain⟨p,⟨o,e⟩,st⟩:=x;exact⟨st _ _ p λo q=>k _ _ (.inl rfl) q,⟨o,k _ _ (.inl rfl) e⟩,st⟩
theorem dR.lt(x:dR P w H h)(e:H a=some o):a<h.objs.size:=(x a o e).lt
theorem dR.fresh(x:dR P w H h)(e:h.objs.size<=a):H a=none:=by
 cases q:H a with
 |none=>rfl
 |some u=>exact absurd (aax (x.lt q) e) (abp _)
theorem dR.kept(x:dR P w H h)(k:∀b u,h.get? b=some u->h'.get? b=some u):dR P w H h':=λa o e =>
 (x a o e).stay (λb u _ q=>k b u q) (λ_ q=>q) λ_ _ q=>q
theorem dR.laid(x:dR P w H h)(k:∀b u,h.get? b=some u->h'.get? b=some u)(g:h.objs.size<=a)(new:bI P w (upd H a o) h' a o):dR P w (upd H a o) h':=λb u e=>by
 have f:=x.fresh g
 by_cases d:b=a
 ·subst d;rw[zO] at e;grind
 ·rw[zR d] at e
  exact(x b u e).stay (λc v _ q=>k c v q) (λc q=>by rw[zR (zV q f)];exact q) λc xs q=>by rw[zR (zV q f)];exact q
end
def Rd(H:Hp)(a:Addr)(u:HO):Prop:=H a=some u\/∃o,H a=some (.mL o u)
theorem Rd.ok(r:Rd H a u)(x:dR P w H h):bI P w H h a u:=by
 rcases r with r|⟨o,r⟩
 ·exact x a u r
 ·obtain⟨_,q⟩:=x a _ r
  exact q
noncomputable def Nt:Option HO->Prop
 |some (.lst _)=>True
 |some (.dK _)=>True
 |some (.dT _)=>True
 |some (.set _ _)=>True
 |some (.ins _ _ _)=>True
 |some (.ext _)=>True
 |_=>False
section
variable{P:Program}{w:World}{H:Hp}{h h':Heap}{x e:Addr}{o':HO}
theorem dR.write(m:dR P w H h)(g:Nt (H x))(he:e=x\/H e=some (.own x))(k:∀b u,b≠e->h.get? b=some u->h'.get? b=some u)(i:∃u,h'.get? e=some u)(new:bI P w (upd H x o') h' x o'):dR P w (upd H x o') h':=λb u q=>by
 have a:∀c y,H c=some (.own y)->c≠x:=λc y r z=>by subst z;rw[r] at g;exact g
 have d:∀c f,H c=some (.tup f)->c≠x:=λc f r z=>by subst z;rw[r] at g;exact g
 by_cases j:b=x
 ·subst j;rw[zO] at q;grind
 ·rw[zR j] at q
  by_cases hbe:b=e
  ·have l:H b=some (.own x):=by
    grind
   rw[q] at l;cases l
   obtain⟨v,hv⟩:=i
   exact⟨v,by grind⟩
  ·refine(m b u q).stay (λc v hc r=>k c v ?_ r) (λc r=>by rw[zR (a c b r)];exact r) λc f r=>by rw[zR (d c f r)];exact r
   grind
end
structure Un(fs ex:List Addr)(H H':Hp)(h h':Heap):Prop where
 keep:∀b o,h.get? b=some o->H b=none->b∉fs->b∉ex->h'.get? b=some o
 slot:∀b o,h.get? b=some o->H b=none->b∈fs->b∉ex->∃sl,h'.get? b=some { o with slots:=sl }
 free:∀b o,h.get? b=some o->H b=none->b∉ex->H' b=none
 there:∀b o,h.get? b=some o->b∉ex->∃o',h'.get? b=some o'
 tups:∀b xs,H b=some (.tup xs)->H' b=some (.tup xs)
 jM:∀b o u,H b=some (.mL o u)->H' b=some (.mL o u)
 lq:∀b ps,H b=some (.Hu ps)->∃more,H' b=some (.Hu (ps++more))
section
variable{fs fs' ex ex':List Addr}{H H1 H2:Hp}{h h1 h2 h':Heap}{a x e:Addr}{o:HO}
theorem Un.any(u:Un fs ex H H1 h h1)(q:h.get? b=some ob)(n:H b=none)(d:b∉ex):∃f,h1.get? b=some { ob with slots:=f }:=by
 by_cases c:b∈fs
 ·exact u.slot b ob q n c d
 ·exact⟨ob.slots,u.keep b ob q n c d⟩
theorem Un.kept(k:∀b u,h.get? b=some u->h'.get? b=some u):Un fs ex H H h h' :=
 ⟨λb ob q _ _ _=>k b ob q,λb ob q _ _ _=>⟨ob.slots,k b ob q⟩,λ_ _ _ n _=>n,λb ob q _=>⟨ob,k b ob q⟩,λ_ _ q=>q,λ_ _ _ q=>q,λ_ ps q=>⟨#[],by rw[q];simp⟩⟩
theorem Un.refl:Un fs ex H H h h:=Un.kept λ_ _ q=>q
theorem Un.laid(k:∀b u,h.get? b=some u->h'.get? b=some u)(d:h.objs.size<=a)(c:H a=none):Un fs ex H (upd H a o) h h' where
 keep:=λb u q _ _ _=>k b u q
 slot:=λb u q _ _ _=>⟨u.slots,k b u q⟩
 free:=λb u q n _=>by rw[zR (aat (aax (lt_size q) d))];exact n
 there:=λb u q _=>⟨u,k b u q⟩
 tups:=λb f q=>by rw[zR (zV q c)];exact q
 jM:=λb u f q=>by rw[zR (zV q c)];exact q
 lq:=λb ps q=>⟨#[],by rw[zR (zV q c),q];simp⟩
theorem Un.write(d:Nt (H x))(he:e=x\/H e=some (.own x))(k:∀b u,b≠e->h.get? b=some u->h'.get? b=some u)(heo:∃u,h'.get? e=some u):Un fs ex H (upd H x o) h h':=by
 have g:∀b,H b=none->b≠x:=λb n z=>by subst z;rw[n] at d;exact d
 have f:∀b,H b=none->b≠e:=λb n z=>by
  grind
 have c:∀b u,H b=some u->¬Nt (some u)->b≠x:=λb u q nm z=>by grind
 refine⟨λb u q n _ _=>k b u (f b n) q,λb u q n _ _=>⟨u.slots,k b u (f b n) q⟩,λb u q n _=>by rw[zR (g b n)];exact n,λb u q _=>?_,
  λb i q=>by rw[zR (c b _ q λz=>z)];exact q,λb u i q=>by rw[zR (c b _ q λz=>z)];exact q,λb ps q=>⟨#[],by rw[zR (c b _ q λz=>z),q];simp⟩⟩
 grind
end
def RX(h:Heap)(H:Hp):List Addr:=(aaz h.objs.size).filter λa=>(H a).isSome
def mO(h:Heap)(H:Hp):Heap:=PySem.W.hideAll h (RX h H)
theorem zUu(h:Heap)(H:Hp):(mO h H).objs.size=h.objs.size:=PySem.W.hideAll_size _ _
theorem zX4{h:Heap}(e:h.get? b=some o)(n:H b=none):(mO h H).get? b=some o :=
 PySem.W.hideAll_get _ e λa=>by
  have q:=(mem_filter.mp a).2
  grind
theorem Am(e:(mO h H).get? b=some o):h.get? b=some o/\H b=none:=by
 have c:=PySem.W.of_hideAll (RX h H) e
 refine⟨c,?_⟩
 cases q:H b with
 |none=>rfl
 |some x =>
  have d:b∈RX h H:=mem_filter.mpr ⟨mem_range.mpr (lt_size c),by simp[q]⟩
  have z:(mO h H).get? b=none:=PySem.W.hideAll_none (RX h H) d
  grind
structure Mod(K:Frag)(mg:Str->Option Value)(base:Heap):Prop where
 Lj:K.In base
 glob:base.Ns aa9 mg
 blt:∃mb,base.Ns builtinsNs mb/\∀x:Str,x ≠ "__name__"->mb x=bootBuiltins x
 nolimit:base.NoLimit
structure Cx where
 prog:Program
 w:World
 K:Frag
 mg:Str->Option Value
 base:Heap
 A:Around
 N:List Str
 s₀:Shared
 H₀:Hp
 env:Env
 outer:List Env
 stack:List Env
 ex:List Addr
 fn:Str->Bool
 calm:Bool
 pn:List (Addr×Obj)
 xe:Value->Shared->Prop
def frs(l:List Env):List Addr:=l.filterMap (·.frame)
abbrev Cx.fs(X:Cx):List Addr:=frs X.outer
def Nu(a:Scope)(x:Str):Prop:=a.names.lookup x=some .local\/a.names.lookup x=some .cell\/a.names.lookup x=some .free
def Loc(a:Scope)(x:Str):Prop:=a.names.lookup x=some .local\/a.names.lookup x=some .cell
def Look(env:Env)(h:Heap)(m:Str->Option Value)(x:Str)(u:Value):Prop :=
 (env.kindOf x=some .local/\m x=some u)\/((env.kindOf x=some .cell\/env.kindOf x=some .free)/\∃c,env.cells.lookup x=some c/\h.IsCell c (some u))
structure Cx.Ok(X:Cx):Prop where
 mod:Mod X.K X.mg X.base
 kind:X.env.scope.kind=.function
 glob:X.env.globals=aa9
 blt:X.env.builtins=builtinsNs
 above:X.s₀.heap.objs.size<=X.env.locals
 inj:∀x y c,X.env.cells.lookup x=some c->X.env.cells.lookup y=some c->x=y
 has:∀x,(X.env.kindOf x=some .cell\/X.env.kindOf x=some .free)->∃c,X.env.cells.lookup x=some c
 cab:∀x c,X.fn x=true->X.env.cells.lookup x=some c->X.s₀.heap.objs.size<=c
 hd:X.calm=true->X.A.handled=none
 frames:X.A.frames=some X.stack
 stk:X.stack=X.outer\/(X.stack=X.env::X.outer/\X.env.frame=some X.env.locals)
 RZ:∀b∈X.ex,b≠X.env.locals/\∀x c,X.env.cells.lookup x=some c->c≠b
 bs:∀b o,X.base.get? b=some o->X.s₀.heap.get? b=some o/\X.H₀ b=none
 Ao:X.base.objs.size<=X.s₀.heap.objs.size
 tR:∀b o,X.base.get? b=some o->b∉X.ex
 tU:∀b∈X.ex,b∉X.fs
 jt:X.s₀.heap.FunFrames X.base X.outer
 Hw:∀b∈X.fs,X.H₀ b=none
structure Inv(X:Cx)(pins:List (Addr×Obj))(σ:List (Option V))(H:Hp)(s:Shared):Prop where
 ok:X.Ok
 os:s.os=X.s₀.os
 bare:AllBare s.gens
 base:Un X.fs X.ex X.H₀ H X.s₀.heap s.heap
 loc:∃m,s.heap.Ns X.env.locals m/\∀(i:Nat)(x:Str)(v:V),X.N[i]?=some x->σ[i]?=some (some v)->Nu X.env.scope x->∃u,RelV v u/\Look X.env s.heap m x u
 cell:∀x c,X.env.cells.lookup x=some c->∃v,s.heap.IsCell c v
 free:H X.env.locals=none
 dU:∀x c,X.env.cells.lookup x=some c->H c=none
 pin:∀p∈X.pn++pins,s.heap.get? p.1=some p.2/\H p.1=none/\p.1≠X.env.locals/\p.1∉X.fs/\∀v,p.2.data≠.cell v
 hok:dR X.prog X.w H s.heap
 len:σ.length=X.N.length
section
variable{X:Cx}{pins:List (Addr×Obj)}{σ:List (Option V)}{H H':Hp}{s:Shared}{h':Heap}
theorem Cx.Ok.VD(c:X.Ok)(e:X.base.get? b=some o):b∉X.fs:=λa=>by
 have:=(c.jt.mem a).1
 grind
theorem Inv.bs(I:Inv X pins σ H s):∀b o,X.base.get? b=some o->s.heap.get? b=some o/\H b=none:=λb o e =>
 ⟨I.base.keep b o (I.ok.bs b o e).1 (I.ok.bs b o e).2 (I.ok.VD e) (I.ok.tR b o e),I.base.free b o (I.ok.bs b o e).1 (I.ok.bs b o e).2 (I.ok.tR b o e)⟩
theorem Inv.bk(I:Inv X pins σ H s):∀b o,X.base.get? b=some o->s.heap.get? b=some o:=λb o e=>(I.bs b o e).1
theorem Inv.mod(I:Inv X pins σ H s):Mod X.K X.mg X.base:=I.ok.mod
theorem Inv.gJ(I:Inv X pins σ H s):X.K.In s.heap:=I.ok.mod.Lj.keeps I.bk
theorem Inv.nolimit(I:Inv X pins σ H s):s.heap.NoLimit:=I.ok.mod.nolimit.keeps I.bk
theorem Inv.lt(I:Inv X pins σ H s):X.env.locals<s.heap.objs.size:=let⟨_,a,_⟩:=I.loc;a.lt
theorem Inv.sz(I:Inv X pins σ H s):X.s₀.heap.objs.size<=s.heap.objs.size:=aa0 I.ok.above (aby I.lt)
theorem Inv.Hx(I:Inv X pins σ H s)(h:s.heap.objs.size<=a):a∉X.fs:=λc=>by
 obtain⟨_,o,b,_⟩:=I.ok.jt.mem c
 exact absurd (aax (lt_size b) (aa0 I.sz h)) (abp _)
theorem Inv.VF(I:Inv X pins σ H s):∀x c,X.env.cells.lookup x=some c->c≠X.env.locals:=λx c e z=>by
 obtain⟨v,o,ho,hd⟩:=I.cell x c e
 obtain⟨m,⟨o',es,ep,ho',hd',_⟩,_⟩:=I.loc
 grind
theorem Inv.jt(I:Inv X pins σ H s):s.heap.FunFrames X.base X.outer:=by
 have a:∀(l:List Env),(∀b∈frs l,b∈X.fs)->X.s₀.heap.FunFrames X.base l->s.heap.FunFrames X.base l:=by
  intro l
  induction l with
  |nil=>intro _ _;trivial
  |cons env r ih =>
   intro g j
   obtain⟨n,⟨L,o,f,h,k,m⟩,i⟩:=j
   have d:=g L (by unfold frs;grind)
   obtain⟨sl,e⟩:=I.base.slot L o k (I.ok.Hw L d) d λz=>I.ok.tU L z d
   exact⟨n,⟨L,_,f,h,e,m⟩,ih (λb c=>g b (by unfold frs;rw[filterMap_cons,f];exact mem_cons_of_mem _ c)) i⟩
 exact a X.outer (λ_ c=>c) I.ok.jt
theorem Inv.stack(I:Inv X pins σ H s):s.heap.FunFrames X.base X.stack:=by
 rcases I.ok.stk with e|⟨e,c⟩
 ·rw[e];exact I.jt
 ·rw[e]
  obtain⟨m,b,_⟩:=I.loc
  refine .cons (by rw[I.ok.kind];decide) c b ?_ I.jt
  exact Heap.get?_none_of_le (aa0 I.ok.Ao I.ok.above)
theorem Inv.mQ(I:Inv X pins σ H s):∀b∈frs X.stack,b∈X.env.locals::X.fs:=λb a=>by
 rcases I.ok.stk with e|⟨e,c⟩
 ·grind
 ·rw[e] at a
  unfold frs at a
  rw[filterMap_cons,c] at a
  exact a
theorem Inv.qN(I:Inv X pins σ H s):∀b∈frs X.stack,H b=none:=λb a=>by
 rcases mem_cons.mp (I.mQ b a) with e|a
 ·rw[e];exact I.free
 ·obtain⟨_,o,c,_⟩:=I.ok.jt.mem a
  exact I.base.free b o c (I.ok.Hw b a) λz=>I.ok.tU b z a
theorem Inv.step{g':Array GenState}{t':Nat}{d':Drawn}{ch:List Addr}(I:Inv X pins σ H s)(hch:∀b∈ch,(b∈X.ex\/X.s₀.heap.objs.size<=b)/\b≠X.env.locals/\(∀x c,X.env.cells.lookup x=some c->c≠b)/\∀p∈X.pn++pins,p.1≠b)(keep:∀b o,b≠X.env.locals->b∉X.fs->b∉ch->s.heap.get? b=some o->H b=none->h'.get? b=some o)(slot:∀b o,b≠X.env.locals->b∈X.fs->b∉ch->s.heap.get? b=some o->H b=none->∃sl,h'.get? b=some { o with slots:=sl })(free:∀b o,b∉ch->s.heap.get? b=some o->H b=none->H' b=none)(there:∀b o,b∉ch->s.heap.get? b=some o->∃o',h'.get? b=some o')(tups:∀b xs,H b=some (.tup xs)->H' b=some (.tup xs))(jM:∀b o u,H b=some (.mL o u)->H' b=some (.mL o u))(lq:∀b ps,H b=some (.Hu ps)->∃more,H' b=some (.Hu (ps++more)))(ns:∀m,s.heap.Ns X.env.locals m->h'.Ns X.env.locals m)(hok:dR X.prog X.w H' h')(hg:AllBare g') :
  Inv X pins σ H' { s with heap:=h',gens:=g',drawn:=d',toks:=t' }:=by
 have Zj:∀b o,X.s₀.heap.get? b=some o->b≠X.env.locals:=λb o e=>aat (aax (lt_size e) I.ok.above)
 have R3:∀b o,X.s₀.heap.get? b=some o->b∉X.ex->b∉ch:=λb o e hx hb=>by
  rcases(hch b hb).1 with z|z
  ·exact hx z
  ·exact absurd (aax (lt_size e) z) (abp _)
 have cellK:∀x c,X.env.cells.lookup x=some c->∀v,s.heap.IsCell c v->h'.IsCell c v:=λx c e v ⟨o,ho,hd⟩=>by
  have Nv:c∉ch:=λz=>(hch c z).2.2.1 x c e rfl
  by_cases hc:c∈X.fs
  ·obtain⟨sl,q⟩:=slot c o (I.VF x c e) hc Nv ho (I.dU x c e)
   exact⟨_,q,hd⟩
  ·exact⟨o,keep c o (I.VF x c e) hc Nv ho (I.dU x c e),hd⟩
 refine⟨I.ok,I.os,hg,⟨λb o e n hb hx=>?_,λb o e n hb hx=>?_,λb o e n hx=>?_,λb o e hx=>?_,λb xs e=>tups b xs (I.base.tups b xs e),λb o xs e=>jM b o xs (I.base.jM b o xs e),λb ps e=>?_⟩,?_,λx c e=>?_,?_,λx c e=>?_,λp hp=>?_,hok,I.len⟩
 ·exact keep b o (Zj b o e) hb (R3 b o e hx) (I.base.keep b o e n hb hx) (I.base.free b o e n hx)
 ·obtain⟨sl,e1⟩:=I.base.slot b o e n hb hx
  obtain⟨sl',e2⟩:=slot b _ (Zj b o e) hb (R3 b o e hx) e1 (I.base.free b o e n hx)
  exact⟨sl',e2⟩
 ·obtain⟨o',e1⟩:=I.base.there b o e hx
  exact free b o' (R3 b o e hx) e1 (I.base.free b o e n hx)
 ·obtain⟨o',e1⟩:=I.base.there b o e hx
  exact there b o' (R3 b o e hx) e1
 ·obtain⟨m1,e1⟩:=I.base.lq b ps e
  obtain⟨m2,e2⟩:=lq b _ e1
  exact⟨m1++m2,by rw[e2,Array.append_assoc]⟩
 ·obtain⟨m,hn,hl⟩:=I.loc
  refine⟨m,ns m hn,λi x v e1 e2 e3=>?_⟩
  obtain⟨u,r,l⟩:=hl i x v e1 e2 e3
  refine⟨u,r,?_⟩
  rcases l with l|⟨k,c,e,z⟩
  ·exact .inl l
  ·exact .inr ⟨k,c,e,cellK x c e _ z⟩
 ·obtain⟨v,z⟩:=I.cell x c e
  exact⟨v,cellK x c e v z⟩
 ·obtain⟨m,⟨o,_,_,ho,_⟩,_⟩:=I.loc
  exact free _ o (λz=>(hch _ z).2.1 rfl) ho I.free
 ·obtain⟨v,o,ho,hd⟩:=I.cell x c e
  exact free c o (λz=>(hch c z).2.2.1 x c e rfl) ho (I.dU x c e)
 ·obtain⟨e,n,ne,nf,d⟩:=I.pin p hp
  have Nv:p.1∉ch:=λz=>(hch p.1 z).2.2.2 p hp rfl
  exact⟨keep p.1 p.2 ne nf Nv e n,free p.1 p.2 Nv e n,ne,nf,d⟩
theorem Inv.un(I:Inv X pins σ H s)(u:Un X.fs [] H H' s.heap h')(c:dR X.prog X.w H' h'):Inv X pins σ H' { s with heap:=h',toks:=t' }:=by
 obtain⟨m,⟨o,es,ep,h,r⟩,_⟩:=id I.loc
 obtain⟨sl,i⟩:=u.any h I.free (by simp)
 exact I.step (ch:=[]) (λ_ z=>nomatch z) (λb o _ f _ e n=>u.keep b o e n f (by simp)) (λb o _ f _ e n=>u.slot b o e n f (by simp)) (λb o _ e n=>u.free b o e n (by simp)) (λb o _ e=>u.there b o e (by simp)) u.tups u.jM u.lq (λm' k=>by
  obtain⟨o',g,d,a,j⟩:=k
  rw[h] at a;cases a
  exact⟨_,g,d,i,j⟩) c I.bare
theorem Inv.call(I:Inv X pins σ H s)(u:Un (frs X.stack) ch H H' s.heap h')(i:dR X.prog X.w H' h')(y:AllBare g')(f:∀b∈ch,(b∈X.ex\/X.s₀.heap.objs.size<=b)/\b≠X.env.locals/\(∀x c,X.env.cells.lookup x=some c->c≠b)/\∀p∈X.pn++pins,p.1≠b) :
  Inv X pins σ H' { s with heap:=h',gens:=g',drawn:=d',toks:=t' }:=by
 obtain⟨m,⟨o,es,ep,l,r⟩,_⟩:=id I.loc
 obtain⟨sl,j⟩:=u.any l I.free λz=>(f _ z).2.1 rfl
 exact I.step f (λb o j q d e n=>u.keep b o e n (λz=>(mem_cons.mp (I.mQ b z)).elim j q) d) (λb o _ _ d e n=>u.any e n d) (λb o d e n=>u.free b o e n d) (λb o d e=>u.there b o e d) u.tups u.jM u.lq (λm' t=>by
  obtain⟨o',k,h,g,v⟩:=t
  rw[l] at g;cases g
  exact⟨_,k,h,j,v⟩) i y
theorem Inv.turned(I:Inv X pins σ H s)(k:∀b o,b≠a->s.heap.get? b=some o->h'.get? b=some o)(hn:H a=none)(i:a≠X.env.locals)(h1:a∈X.ex\/X.s₀.heap.objs.size<=a)(h2:∀x c,X.env.cells.lookup x=some c->c≠a)(h3:∀p∈X.pn++pins,p.1≠a):Inv X pins σ H { s with heap:=h',toks:=t' }:=by
 refine I.step (g':=s.gens) (d':=s.drawn) (ch:=[a]) (λb hb=>?_) (λb o _ _ d e _=>k b o (λz=>d (by simp[z])) e) (λb o _ _ d e _=>⟨o.slots,k b o (λz=>d (by simp[z])) e⟩) (λ_ _ _ _ n=>n)
  (λb o d e=>⟨o,k b o (λz=>d (by simp[z])) e⟩) (λ_ _ e=>e) (λ_ _ _ e=>e) (λb ps e=>⟨#[],by grind⟩) (λm f=>?_) (λb u e=>?_) I.bare
 ·grind
 ·obtain⟨o,j,h,g,r⟩:=f
  exact⟨o,j,h,k _ o (acf i) g,r⟩
 ·refine(I.hok b u e).stay (λc v d q=>k c v ?_ q) (λ_ q=>q) λ_ _ q=>q
  grind
theorem Inv.tok(I:Inv X pins σ H s)(t:Nat):Inv X pins σ H { s with toks:=t }:=I.un Un.refl I.hok
theorem Inv.kept(I:Inv X pins σ H s)(k:∀b u,s.heap.get? b=some u->h'.get? b=some u):Inv X pins σ H { s with heap:=h',toks:=t' }:=I.un (Un.kept k) (I.hok.kept k)
theorem Inv.laid(I:Inv X pins σ H s)(k:∀b u,s.heap.get? b=some u->h'.get? b=some u)(c:s.heap.objs.size<=a)(d:bI X.prog X.w (upd H a o) h' a o) :
  Inv X pins σ (upd H a o) { s with heap:=h',toks:=t' }:=I.un (Un.laid k c (I.hok.fresh c)) (I.hok.laid k c d)
theorem Inv.write(I:Inv X pins σ H s)(d:Nt (H x))(f:e=x\/H e=some (.own x))(k:∀b u,b≠e->s.heap.get? b=some u->h'.get? b=some u)(a:∃u,h'.get? e=some u)(c:bI X.prog X.w (upd H x o) h' x o):Inv X pins σ (upd H x o) { s with heap:=h',toks:=t' }:=I.un (Un.write d f k a) (I.hok.write d f k a c)
theorem Inv.gM(I:Inv X pins σ H s)(h:∀p∈Fy,s.heap.get? p.1=some p.2/\H p.1=none/\p.1≠X.env.locals/\p.1∉X.fs/\∀v,p.2.data≠.cell v):Inv X Fy σ H s :=
 ⟨I.ok,I.os,I.bare,I.base,I.loc,I.cell,I.free,I.dU,λp a=>(mem_append.mp a).elim (λz=>I.pin p (mem_append_left _ z)) (h p),I.hok,I.len⟩
theorem Zk{N:List Str}(c:N.Nodup){i j:Nat}{x:Str}(a:N[i]?=some x)(b:N[j]?=some x):i=j:=by
 obtain⟨h1,e⟩:=aau.mp a
 obtain⟨h2,d⟩:=aau.mp b
 exact(getElem_inj c).mp (e.trans d.symm)
theorem Zm{Q:Unit->Shared->Prop}(I:Inv X pins σ H s)(hN:X.N.Nodup)(S:X.N[i]?=some x)(B:Loc X.env.scope x)(r:RelV v u)(h:∀s',Inv X pins (σ.set i (some v)) H s'->(∃a,SameBut a s.heap s'.heap/\(a=X.env.locals\/X.env.cells.lookup x=some a))->Q () s')(hf:X.fn x=true\/X.env.scope.names.lookup x=some .local:=by first|exact .inl rfl|exact .inr rfl|assumption):wpAny M A (storeName X.env x u) Q E s:=by
 obtain⟨m,hn,hl⟩:=id I.loc
 have U:(X.env.scope.kind==.class||(X.env.scope.kind==.module&&X.env.locals != X.env.globals))=false:=by rw[I.ok.kind];rfl
 have W:i<σ.length:=by rw[I.len];exact(aau.mp S).1
 have O:=I.VF
 have l:∀{a:Addr}{h':Heap},(∃o,s.heap.get? a=some o/\H a=none)->SameBut a s.heap h'->dR X.prog X.w H h':=λ{a h'} ha f b ob e=>by
  obtain⟨_,_,C⟩:=ha
  refine(I.hok b ob e).stay (λc w' t q=>(f.2 c ?_).trans q) (λ_ q=>q) λ_ _ q=>q
  rintro rfl
  rcases t with rfl|t
  ·rw[C] at e;cases e
  ·rw[C] at t;cases t
 rcases B with F|F
 ·refine wpAny_storeName_local F hn (λh' hn' f=>?_) U
  obtain⟨oL,_,_,hoL,_⟩:=id hn
  refine h _ ⟨I.ok,I.os,I.bare,⟨λb o e n L B=>?_,λb o e n L B=>?_,I.base.free,λb o e B=>?_,I.base.tups,I.base.jM,I.base.lq⟩,⟨_,hn',λj y v' g D e3=>?_⟩,λy c e=>?_,I.free,I.dU,λp hp=>?_,l ⟨oL,hoL,I.free⟩ f,by simpa using I.len⟩ ⟨_,f,.inl rfl⟩
  ·exact(f.2 b (aat (aax (lt_size e) I.ok.above))).trans (I.base.keep b o e n L B)
  ·obtain⟨sl,g⟩:=I.base.slot b o e n L B
   exact⟨sl,(f.2 b (aat (aax (lt_size e) I.ok.above))).trans g⟩
  ·obtain⟨o',g⟩:=I.base.there b o e B
   exact⟨o',(f.2 b (aat (aax (lt_size e) I.ok.above))).trans g⟩
  ·by_cases G:j=i
   ·subst G
    rw[S] at g;cases g
    rw[getElem?_set_self W] at D
    cases D
    exact⟨u,r,.inl ⟨F,by simp⟩⟩
   ·rw[getElem?_set_ne (acf G)] at D
    obtain⟨u',r',q⟩:=hl j y v' g D e3
    refine⟨u',r',?_⟩
    rcases q with⟨k,e⟩|⟨k,c,e,z⟩
    ·refine .inl ⟨k,?_⟩
     have:y≠x:=λe=>G (Zk hN g (e▸S))
     simp[this,e]
    ·exact .inr ⟨k,c,e,z.sameBut f (O y c e)⟩
  ·obtain⟨w',z⟩:=I.cell y c e
   exact⟨w',z.sameBut f (O y c e)⟩
  ·obtain⟨e,n,ne,nf,d⟩:=I.pin p hp
   exact⟨(f.2 p.1 ne).trans e,n,ne,nf,d⟩
 ·have J:X.fn x=true:=by
   rcases hf with z|z
   ·exact z
   ·rw[z] at F;cases F
  obtain⟨c,t⟩:=I.ok.has x (.inl F)
  obtain⟨w',z⟩:=I.cell x c t
  refine wpAny_storeName_cell I.ok.kind F t z (λh' P f=>?_)
  obtain⟨oc,T,Y⟩:=id z
  refine h { s with heap:=h' } ⟨I.ok,I.os,I.bare,⟨λb o e n L B=>?_,λb o e n L B=>?_,I.base.free,λb o e B=>?_,I.base.tups,I.base.jM,I.base.lq⟩,⟨m,hn.sameBut f (acf (O x c t)),λj y v' g D e3=>?_⟩,λy Z e=>?_,I.free,I.dU,λp hp=>?_,l ⟨oc,T,I.dU x c t⟩ f,by simpa using I.len⟩ ⟨c,f,.inr t⟩
  ·exact(f.2 b (aat (aax (lt_size e) (I.ok.cab x c J t)))).trans (I.base.keep b o e n L B)
  ·obtain⟨sl,g⟩:=I.base.slot b o e n L B
   exact⟨sl,(f.2 b (aat (aax (lt_size e) (I.ok.cab x c J t)))).trans g⟩
  ·obtain⟨o',g⟩:=I.base.there b o e B
   exact⟨o',(f.2 b (aat (aax (lt_size e) (I.ok.cab x c J t)))).trans g⟩
  ·by_cases G:j=i
   ·subst G
    rw[S] at g;cases g
    rw[getElem?_set_self W] at D
    cases D
    exact⟨u,r,.inr ⟨.inl F,c,t,P⟩⟩
   ·rw[getElem?_set_ne (acf G)] at D
    obtain⟨u',r',q⟩:=hl j y v' g D e3
    refine⟨u',r',?_⟩
    rcases q with q|⟨k,Z,e,z'⟩
    ·exact .inl q
    ·refine .inr ⟨k,Z,e,z'.sameBut f ?_⟩
     rintro rfl
     exact G (Zk hN g (I.ok.inj _ _ _ e t▸S))
  ·by_cases R:Z=c
   ·subst R;exact⟨_,P⟩
   ·obtain⟨w2,z2⟩:=I.cell y Z e
    exact⟨w2,z2.sameBut f R⟩
  ·obtain⟨e,n,ne,nf,d⟩:=I.pin p hp
   refine⟨(f.2 p.1 ?_).trans e,n,ne,nf,d⟩
   intro q
   rw[q,T] at e
   have q':oc=p.2:=aa2 e
   exact d w' (by rw[<-q'];exact Y)
theorem VG{Q:Unit->Shared->Prop}(I:Inv X pins σ H s)(a:X.N.Nodup)(c:X.N[i]?=some x)(d:Loc X.env.scope x)(r:RelV v u)(h:∀s',Inv X pins (σ.set i (some v)) H s'->Q () s')(e:X.fn x=true\/X.env.scope.names.lookup x=some .local:=by first|exact .inl rfl|exact .inr rfl|assumption):wpAny M A (storeName X.env x u) Q E s :=
 Zm I a c d r (λs' b _=>h s' b) e
theorem Inv.call'{s':Shared}(I:Inv X pins σ H s)(g:s'.os=s.os)(u:Un (frs X.stack) ch H H' s.heap s'.heap)(f:dR X.prog X.w H' s'.heap)(h:AllBare s'.gens)(d:∀b∈ch,(b∈X.ex\/X.s₀.heap.objs.size<=b)/\b≠X.env.locals/\(∀x c,X.env.cells.lookup x=some c->c≠b)/\∀p∈X.pn++pins,p.1≠b):Inv X pins σ H' s':=by
 obtain⟨h',g',d',t',o'⟩:=s'
 have e:=g
 subst e
 exact I.call u f h d
end
abbrev XK:=Value->Option Addr->Hp->Prop
abbrev St:=List (Option V)
abbrev VK:=V->Hp->Prop
abbrev TE:=St->Hp->VK->Prop
abbrev TT:=St->Hp->(Bool->Hp->Prop)->Prop
abbrev TA:=St->Hp->(List V->Hp->Prop)->Prop
structure Ends where
 nx:St->Hp->Prop
 rt:VK
 bk:St->Hp->Prop:=λ_ _=>False
 ct:St->Hp->Prop:=λ_ _=>False
abbrev TS:=Ends->St->Hp->Prop
def EP(X:Cx)(a:List (Addr×Obj))(σ:St)(Q:VK)(u:Value)(s':Shared):Prop:=∃v b,Inv X a σ b s'/\RelV v u/\Q v b
def TP(X:Cx)(a:List (Addr×Obj))(σ:St)(Q:Bool->Hp->Prop)(b:Bool)(s':Shared):Prop:=∃c,Inv X a σ c s'/\Q b c
def AP(X:Cx)(a:List (Addr×Obj))(σ:St)(Q:List V->Hp->Prop)(us:List Value)(s':Shared):Prop:=∃b c,Inv X a σ c s'/\Vals b us/\Q b c
def SP(X:Cx)(a:List (Addr×Obj))(D:Ends)(f:Flow)(s':Shared):Prop :=
 match f with
 |.next=>∃c b,Inv X a c b s'/\D.nx c b
 |.brk=>∃c b,Inv X a c b s'/\D.bk c b
 |.cont=>∃c b,Inv X a c b s'/\D.ct c b
 |.ret u=>∃v c b,Inv X a c b s'/\RelV v u/\D.rt v b
def PE(X:Cx)(e:Expr)(t:TE):Prop :=
 ∀(a:List (Addr×Obj))(s:Shared)(σ:St)(H:Hp)(Q:VK),Inv X a σ H s->t σ H Q->wpAny (model X.prog X.w) X.A (eval e X.env) (EP X a σ Q) X.xe s
def PT(X:Cx)(e:Expr)(t:TT):Prop :=
 ∀(a:List (Addr×Obj))(s:Shared)(σ:St)(H:Hp)(Q:Bool->Hp->Prop),Inv X a σ H s->t σ H Q->wpAny (model X.prog X.w) X.A (isTrue e X.env (eval e X.env)) (TP X a σ Q) X.xe s
def PW(X:Cx)(e:Expr)(t:TT):Prop :=
 ∀(c:Sem Value)(b:List (Addr×Obj))(s:Shared)(σ:St)(H:Hp)(Q:Bool->Hp->Prop),Inv X b σ H s->t σ H Q->wpAny (model X.prog X.w) X.A (isTrue e X.env c) (TP X b σ Q) X.xe s
theorem PW.pt(h:PW X e t):PT X e t:=h _
def PA(X:Cx)(es:List Expr)(t:TA):Prop :=
 ∀(b:Pos)(a:List (Addr×Obj))(s:Shared)(σ:St)(H:Hp)(Q:List V->Hp->Prop),Inv X a σ H s->t σ H Q->wpAny (model X.prog X.w) X.A (spliced (backTo b (starEach es X.env))) (AP X a σ Q) X.xe s
def PS(X:Cx)(st:Stmt)(t:TS):Prop :=
 ∀(a:List (Addr×Obj))(s:Shared)(σ:St)(H:Hp)(D:Ends),Inv X a σ H s->t D σ H->wpAny (model X.prog X.w) X.A (exec st X.env) (SP X a D) X.xe s
def jH(X:Cx)(st:List Stmt)(t:TS):Prop :=
 ∀(a:List (Addr×Obj))(s:Shared)(σ:St)(H:Hp)(D:Ends),Inv X a σ H s->t D σ H->wpAny (model X.prog X.w) X.A (execs st X.env) (SP X a D) X.xe s
theorem aP{α:Type}{t:Sem α}{Q b:α->Shared->Prop}(h:wpAny M A t Q E s)(c:∀a s,Q a s->b a s):wpAny M A t b E s:=abu h c λ_ _ x=>x
section
variable{X:Cx}
def bL(i:Nat):TE:=λσ H Q=>∃v,σ[i]?=some (some v)/\Q v H
def tC(v:V):TE:=λ_ H Q=>Q v H
theorem Hy(n:X.N[i]?=some x)(q:Nu X.env.scope x)(j:(x==("__debug__":Str))=false:=by decide)(g:(x==("__classdict__":Str))=false:=by decide):PE X (.Name x pos) (bL i):=by
 intro f s σ H Q I h
 obtain⟨v,e,h⟩:=h
 obtain⟨m,p,o⟩:=I.loc
 obtain⟨u,r,l⟩:=o i x v n e q
 have b:EP X f σ Q u s:=⟨v,H,I,r,h⟩
 rcases l with⟨d,t⟩|⟨d,c,k,a⟩
 ·exact wpAny_Name (wpAny_loadName_local I.ok.kind d p t b) j
 ·rcases d with d|d
  ·exact wpAny_Name (wpAny_loadName_cell I.ok.kind d k a b) j
  ·exact wpAny_Name (wpAny_loadName_free I.ok.kind d k a b g) j
theorem zI{i j pos}:PE X (.Constant (.int i) j pos) (tC (.int i)):=λ_ _ _ H _ I h=>wpAny_Constant_int ⟨.int i,H,I.tok _,⟨_,rfl⟩,h⟩
theorem Fz{b j pos}:PE X (.Constant (.bool b) j pos) (tC (.bl b)):=λ_ _ _ H _ I h=>Constant_bool ⟨.bl b,H,I,rfl,h⟩
theorem VH{j pos}:PE X (.Constant .none j pos) (tC .non):=λ_ _ _ H _ I h=>aeo ⟨.non,H,I,rfl,h⟩
theorem wT{x j pos}:PE X (.Constant (.str x) j pos) (tC (.str x)):=λ_ _ _ H _ I h=>Calls.Constant_str ⟨.str x,H,I.tok _,⟨_,rfl⟩,h⟩
def Gl(X:Cx)(x:Str):Prop:=X.env.kindOf x=some .globalImplicit
theorem Nx{Q:Value->Shared->Prop}(I:Inv X pins σ H s)(c:Gl X x)(b:X.mg x=some u)(h:Q u s)(d:(x==("__debug__":Str))=false:=by decide):wpAny (model X.prog X.w) X.A (eval (.Name x pos) X.env) Q E s :=
 Calls.Name_function_global I.ok.kind c (Calls.loadGlobal_global (by rw[I.ok.glob];exact I.mod.glob.keeps I.bk) b h) d
theorem tV{Q:Value->Shared->Prop}(I:Inv X pins σ H s)(f:Gl X x)(b:X.mg x=none)(c:bootBuiltins x=some u)(h:Q u s)(e:x ≠ "__name__":=by decide)(g:(x==("__debug__":Str))=false:=by decide):wpAny (model X.prog X.w) X.A (eval (.Name x pos) X.env) Q E s:=by
 obtain⟨mb,d,i⟩:=I.mod.blt
 exact Calls.Name_function_global I.ok.kind f (Calls.loadGlobal_builtin (by rw[I.ok.glob];exact I.mod.glob.keeps I.bk) b (by rw[I.ok.blt];exact d.keeps I.bk) ((i x e).trans c) h) g
theorem vP(c:Gl X x)(b:X.mg x=some u)(r:RelV v u)(d:(x==("__debug__":Str))=false:=by decide):PE X (.Name x pos) (tC v) :=
 λ_ _ _ H _ I h=>Nx I c b ⟨v,H,I,r,h⟩ d
theorem VJ(c:Gl X x)(a:X.mg x=none)(e:bootBuiltins x=some u)(r:RelV v u)(d:x ≠ "__name__":=by decide)(b:(x==("__debug__":Str))=false:=by decide):PE X (.Name x pos) (tC v) :=
 λ_ _ _ H _ I h=>tV I c a e ⟨v,H,I,r,h⟩ d b
variable{a b:Expr}{ta tb:TE}{pos:Pos}
def PC(X:Cx)(op:CmpOp)(a b:Expr)(t:TE):Prop :=
 ∀(c:List (Addr×Obj))(s:Shared)(σ:St)(H:Hp)(Q:VK),Inv X c σ H s->t σ H Q ->
  wpAny (model X.prog X.w) X.A (eval a X.env) (λv e=>wpAny (model X.prog X.w) X.A (eval b X.env) (λu d=>wpAny (model X.prog X.w) X.A (compareOp op v u) (EP X c σ Q) X.xe d) X.xe e) X.xe s
theorem zXn(b:Expr)(h:op≠.In)(h2:op≠.NotIn):behindInMarks op b=false:=by
 have c:(op==CmpOp.In)=false:=by grind
 have d:(op==CmpOp.NotIn)=false:=by grind
 cases b<;>simp[behindInMarks,c,d]
def Ny(ta:TE):TE:=λσ H Q=>ta σ H λx c=>Q (.bl (decide (x=.non))) c
def FJ(ta:TE):TE:=λσ H Q=>ta σ H λx c=>Q (.bl (!decide (x=.non))) c
theorem RelV.nY(r:RelV x v):(v==adk)=decide (x=.non):=by
 cases x with
 |non=>cases r;rfl
 |bl _=>cases r;rfl
 |int _=>obtain⟨t,rfl⟩:=r;rfl
 |str _=>obtain⟨t,rfl⟩:=r;rfl
 |Al _=>obtain⟨t,rfl⟩:=r;rfl
 |flt _=>obtain⟨t,rfl⟩:=r;rfl
 |ref _=>cases r;rfl
 |ty _=>cases r;rfl
theorem Lk{j c}(k:PE X a ta):PC X .Is a (.Constant .none j c) (Ny ta):=by
 intro d s σ H Q I h
 refine aP (k d s σ H _ I h) ?_
 rintro v s1 ⟨x,g,f,e,i⟩
 exact aeo (is_none_gen ⟨.bl _,g,f,by rw[e.nY];rfl,i⟩)
theorem Zn{j c}(k:PE X a ta):PC X .IsNot a (.Constant .none j c) (FJ ta):=by
 intro d s σ H Q I h
 refine aP (k d s σ H _ I h) ?_
 rintro v s1 ⟨x,g,f,e,i⟩
 exact aeo (isnot_none_gen ⟨.bl _,g,f,by rw[e.nY];rfl,i⟩)
def tB(t:TE):TT:=λσ H Q=>t σ H λx d=>∃c,x=.bl c/\Q c d
theorem tW(h:PC X op a b t)(f:behindInMarks op b=false:=by first|exact zXn _ (by decide) (by decide)|rfl):PT X (.Compare a [op] [b] pos) (tB t):=by
 intro e s σ H Q I j
 refine wpAny_isTrue_Compare1 (aP (h e s σ H _ I j) λv s1 f=>aP f λu s2 g=>aP g ?_) f
 rintro c s3 ⟨x,k,i,m,l⟩
 obtain⟨d,rfl,q⟩:=l
 cases m
 exact ab1 ⟨k,i,q⟩
theorem nZ(h:PE X e t)(m:∀c,isTrue e X.env c=(do let v <-c;standAt e.pos;holding [v] (truthy v)):=by intro _;rfl):PT X e (tB t):=by
 intro f s σ H Q I g
 refine isTrue_plain (aP (h f s σ H _ I g) ?_) (m _)
 rintro v s1 ⟨x,j,i,k,l⟩
 obtain⟨d,rfl,q⟩:=l
 cases k
 exact ab1 ⟨j,i,q⟩
variable{tA R5:TT}{rest:List Expr}
def Nz(t u:TT):TT:=λσ H Q=>t σ H λc d=>if c=true then u σ d Q else Q false d
def Zo(t u:TT):TT:=λσ H Q=>t σ H λc d=>if c=true then Q true d else u σ d Q
def NK(t:TT):TT:=λσ H Q=>t σ H λc d=>Q (!c) d
theorem pw_and1(f:PT X a tA):PW X (.BoolOp .And [a] pos) tA:=by
 intro wh d s σ H Q I h
 refine isTrue_and (aP (f d s σ H Q I h) λc s1 e=>?_)
 cases c with
 |true=>exact isTrue_and_nil e
 |false=>exact e
theorem pw_or1(f:PT X a tA):PW X (.BoolOp .Or [a] pos) tA:=by
 intro wh d s σ H Q I h
 refine isTrue_or (aP (f d s σ H Q I h) λc s1 e=>?_)
 cases c with
 |false=>exact isTrue_or_nil e
 |true=>exact e
theorem pw_and(j:PT X a tA)(l:PW X (.BoolOp .And (b::rest) pos) R5):PW X (.BoolOp .And (a::b::rest) pos) (Nz tA R5):=by
 intro i d s σ H Q I h
 refine isTrue_and (aP (j d s σ H _ I h) ?_)
 rintro c k ⟨e,f,g⟩
 cases c with
 |true=>exact l i d k σ e Q f g
 |false=>exact⟨e,f,g⟩
theorem pw_or(j:PT X a tA)(l:PW X (.BoolOp .Or (b::rest) pos) R5):PW X (.BoolOp .Or (a::b::rest) pos) (Zo tA R5):=by
 intro i d s σ H Q I h
 refine isTrue_or (aP (j d s σ H _ I h) ?_)
 rintro c k ⟨e,f,g⟩
 cases c with
 |true=>exact⟨e,f,g⟩
 |false=>exact l i d k σ e Q f g
theorem VL(f:PT X a tA):PT X (.UnaryOp .Not a pos) (NK tA):=by
 intro d s σ H Q I h
 exact isTrue_not (f d s σ H (λc e=>Q (!c) e) I h)
def FN(ta tb:TE):TE:=λσ H Q=>ta σ H λx d=>∃c,x=.bl c/\if c=true then tb σ d Q else Q (.bl false) d
def FQ(ta:TE):TE:=λσ H Q=>ta σ H λx d=>∃c,x=.bl c/\Q (.bl (!c)) d
theorem Zq{op}(h:PE X a t):PE X (.BoolOp op [a] pos) t:=λc s σ H Q I d=>BoolOp_one (h c s σ H Q I d)
theorem VN(k:PE X a ta)(i:PE X (.BoolOp .And (b::rest) pos) tb):PE X (.BoolOp .And (a::b::rest) pos) (FN ta tb):=by
 intro d s σ H Q I h
 refine BoolOp_and (aP (k d s σ H _ I h) ?_)
 rintro v l ⟨x,f,g,j,e⟩
 obtain⟨c,rfl,e⟩:=e
 cases j
 refine ab1 ?_
 cases c with
 |true=>exact i d l σ f Q g e
 |false=>exact⟨.bl false,f,g,rfl,e⟩
theorem Hz(j:PE X a ta):PE X (.UnaryOp .Not a pos) (FQ ta):=by
 intro d s σ H Q I h
 refine UnaryOp_ (aP (j d s σ H _ I h) ?_)
 rintro v s1 ⟨x,g,i,f,e⟩
 obtain⟨c,rfl,e⟩:=e
 cases f
 exact not_of (ab1 ⟨.bl (!c),g,i,rfl,e⟩)
def Zr(t:TT)(ta tb:TE):TE:=λσ H Q=>t σ H λc d=>if c=true then ta σ d Q else tb σ d Q
theorem Zt(m:PT X c tA)(l:PE X a ta)(k:PE X b tb):PE X (.IfExp c a b pos) (Zr tA ta tb):=by
 intro e s σ H Q I h
 refine wpAny_IfExp (aP (m e s σ H _ I h) ?_)
 rintro d i ⟨j,g,f⟩
 cases d with
 |true=>exact l e i σ j Q g f
 |false=>exact k e i σ j Q g f
end
def aW(K:Frag)(H:Hp)(a:Addr)(xs:List V):Prop :=
 Rd H a (.lst xs) \/
  ∃(o:Obj)(b:Array Value)(n:Nat),K.lookup a=some o/\o.cls=.type "list" /\ o.dict=none/\o.data=.seq b n/\b.size<=sizeLine/\Vals xs b.toList
def gF(K:Frag)(H:Hp)(a:Addr)(xs:List V):Prop :=
 Rd H a (.tup xs) \/
  ∃(o:Obj)(b:Array Value)(n:Nat),K.lookup a=some o/\o.cls=.type "tuple" /\ o.data=.seq b n/\b.size<=sizeLine/\Vals xs b.toList
def VP:Value->Option V
 |.none=>some .non
 |.bool b=>some (.bl b)
 |.int i _=>some (.int i)
 |.str x _=>some (.str x)
 |.bytes b _=>some (.Al b)
 |.float b _=>some (.flt b)
 |.ref a=>some (.ref a)
 |.type n=>some (.ty n)
 |_=>none
theorem RelV.abs(r:RelV x u):VP u=some x:=by
 cases x with
 |non=>cases r;rfl
 |bl _=>cases r;rfl
 |int _=>obtain⟨t,rfl⟩:=r;rfl
 |str _=>obtain⟨t,rfl⟩:=r;rfl
 |Al _=>obtain⟨t,rfl⟩:=r;rfl
 |flt _=>obtain⟨t,rfl⟩:=r;rfl
 |ref _=>cases r;rfl
 |ty _=>cases r;rfl
theorem RelV.inj(r:RelV x u)(q:RelV y u):x=y:=aa2 (r.abs.symm.trans q.abs)
theorem Vals.inj:∀{xs ys:List V}{us:List Value},Vals xs us->Vals ys us->xs=ys
 |_,_,_,.nil,.nil=>rfl
 |_,_,_,.cons r t,.cons a b=>by rw[r.inj a,Vals.inj t b]
section
variable{X:Cx}{pins:List (Addr×Obj)}{σ:St}{H:Hp}{s:Shared}{a:Addr}{xs ys:List V}
theorem aW.of{K:Frag}(h:H a=some (.lst xs)):aW K H a xs:=.inl (.inl h)
theorem gF.of{K:Frag}(h:H a=some (.tup xs)):gF K H a xs:=.inl (.inl h)
theorem Inv.list(I:Inv X pins σ H s)(h:aW X.K H a xs):∃b:List Value,Vals xs b/\PlainL s.heap a b.toArray/\xs.length<=sizeLine:=by
 rcases h with h|⟨o,b,n,d,f,c,hs,hz,r⟩
 ·obtain⟨z,b,n,r,e⟩:=h.ok I.hok
  exact⟨b,r,⟨_,n,e,rfl,rfl,rfl⟩,z⟩
 ·refine⟨b.toList,r,⟨o,n,I.gJ a o d,f,c,by simp_all⟩,?_⟩
  have e:=r.length
  grind
theorem Inv.tuple(I:Inv X pins σ H s)(h:gF X.K H a xs):∃b:List Value,Vals xs b/\IsTup s.heap a b.toArray/\xs.length<=sizeLine:=by
 rcases h with h|⟨o,b,n,d,c,hs,hz,r⟩
 ·obtain⟨z,b,r,p⟩:=h.ok I.hok
  grind
 ·refine⟨b.toList,r,⟨o,I.gJ a o d,c,n,by simp_all⟩,?_⟩
  have e:=r.length
  grind
theorem Inv.n6(I:Inv X pins σ H s)(h:aW X.K H a xs)(h':aW X.K H a ys):xs=ys:=by
 obtain⟨c,r,⟨o,n,e,_,_,d⟩,_⟩:=I.list h
 obtain⟨b,f,⟨o',n',e',_,_,d'⟩,_⟩:=I.list h'
 have:c=b:=by grind
 subst this
 exact r.inj f
theorem Inv.rA(I:Inv X pins σ H s)(h:gF X.K H a xs)(h':gF X.K H a ys):xs=ys:=by
 obtain⟨c,r,⟨o,e,_,n,d⟩,_⟩:=I.tuple h
 obtain⟨b,f,⟨o',e',_,n',d'⟩,_⟩:=I.tuple h'
 have:c=b:=by grind
 subst this
 exact r.inj f
end
abbrev Cx.wish(X:Cx)(E:Value->Shared->Prop):Cx:={ X with xe:=E }
abbrev Cx.tX(X:Cx):Cx:=X.wish λ_ _=>False
theorem Cx.Ok.wish{X:Cx}(a:X.Ok)(E:Value->Shared->Prop):(X.wish E).Ok :=
 ⟨a.mod,a.kind,a.glob,a.blt,a.above,a.inj,a.has,a.cab,a.hd,a.frames,a.stk,a.RZ,a.bs,a.Ao,a.tR,a.tU,a.jt,a.Hw⟩
theorem Cx.Ok.dW{X:Cx}(a:(X.wish E).Ok):X.Ok :=
 ⟨a.mod,a.kind,a.glob,a.blt,a.above,a.inj,a.has,a.cab,a.hd,a.frames,a.stk,a.RZ,a.bs,a.Ao,a.tR,a.tU,a.jt,a.Hw⟩
section
variable{X:Cx}{pins:List (Addr×Obj)}{σ:St}{H:Hp}{s:Shared}{E:Value->Shared->Prop}
theorem Inv.wish(I:Inv X pins σ H s)(E:Value->Shared->Prop):Inv (X.wish E) pins σ H s:=⟨I.ok.wish E,I.os,I.bare,I.base,I.loc,I.cell,I.free,I.dU,I.pin,I.hok,I.len⟩
theorem Inv.dW(I:Inv (X.wish E) pins σ H s):Inv X pins σ H s:=⟨I.ok.dW,I.os,I.bare,I.base,I.loc,I.cell,I.free,I.dU,I.pin,I.hok,I.len⟩
theorem SP.dW(h:SP (X.wish E) pins D f s'):SP X pins D f s':=by
 cases f with
 |next=>obtain⟨a,b,I,q⟩:=h;exact⟨a,b,I.dW,q⟩
 |brk=>obtain⟨a,b,I,q⟩:=h;exact⟨a,b,I.dW,q⟩
 |cont=>obtain⟨a,b,I,q⟩:=h;exact⟨a,b,I.dW,q⟩
 |ret u=>obtain⟨v,a,b,I,r,q⟩:=h;exact⟨v,a,b,I.dW,r,q⟩
theorem jH.tX{st:List Stmt}{t:TS}(h:jH X.tX st t):jH X st t:=λpins s σ H D I a =>
 abu (h pins s σ H D (I.wish _) a) (λ_ _ q=>q.dW) λ_ _ z=>abl z
end
section
variable{X:Cx}{st:Stmt}{rest:List Stmt}{t u:TS}{e:Expr}{te:TE}{pos:Pos}
def NP:TS:=λD σ H=>D.nx σ H
def ju(t u:TS):TS:=λD σ H=>t { D with nx:=u D } σ H
theorem zH:jH X [] NP:=λ_ _ σ H _ I h=>ad3 ⟨σ,H,I,h⟩
theorem zC(d:PS X st t)(h2:jH X rest u):jH X (st::rest) (ju t u):=by
 intro a s σ H D I h
 refine wpAny_execs_cons (aP (d a s σ H { D with nx:=u D } I h) λf i q=>?_)
 cases f with
 |next =>
  obtain⟨g,b,c,q⟩:=q
  exact h2 a i g b D c q
 |ret v=>exact q
 |brk=>exact q
 |cont=>exact q
theorem wN(b:PS X st t):jH X [st] t:=by
 intro a s σ H D I h
 refine wpAny_execs_cons (aP (b a s σ H D I h) λf s1 q=>?_)
 cases f with
 |next=>exact ad3 q
 |ret v=>exact q
 |brk=>exact q
 |cont=>exact q
theorem Inv.quiet(I:Inv X pins σ H s):interactive X.env=false:=by simp[interactive,I.ok.kind]
def tY(te:TE):TS:=λD σ H=>te σ H λ_ a=>D.nx σ a
theorem yC(f:PE X e te)(g:swapsWith e none pos.line X.env=pure false:=by rfl):PS X (.Expr e pos) (tY te):=by
 intro a s σ H D I h
 exact wpAny_Expr_any (aP (f a s σ H _ I h) (by rintro v s1 ⟨x,c,b,r1,d⟩;exact⟨σ,c,b,d⟩)) I.quiet g
def rB(te:TE):TS:=λD σ H=>te σ H D.rt
theorem zT(g:PE X e te):PS X (.Return (some e) pos) (rB te):=by
 intro a s σ H D I h
 exact wpAny_Return_some (aP (g a s σ H _ I h) (by rintro v s1 ⟨x,d,c,b,f⟩;exact⟨x,σ,d,c,b,f⟩))
def Aq(c:TT)(t u:TS):TS:=λD σ H=>c σ H λb a=>if b=true then t D σ a else u D σ a
theorem xE(n:PT X c o)(m:jH X a t)(l:jH X b u):PS X (.If c a b pos) (Aq o t u):=by
 intro f s σ H D I h
 refine wpAny_If (aP (n f s σ H _ I h) ?_)
 rintro d k ⟨g,i,j⟩
 cases d with
 |true=>exact m f k σ g D i j
 |false=>exact l f k σ g D i j
def Zu:TS:=λ_ _ _=>False
theorem Ln:jH X sts Zu:=λ_ _ _ _ _ _ h=>h.elim
end
abbrev TG:=V->St->Hp->(St->Hp->Prop)->Prop
abbrev Lp:=List V->St->Hp->(St->Hp->Prop)->Prop
def PG(X:Cx)(a:Expr)(t:TG):Prop :=
 ∀(b:List (Addr×Obj))(s:Shared)(σ:St)(H:Hp)(v:V)(u:Value)(Q:St->Hp->Prop),Inv X b σ H s->RelV v u->t v σ H Q ->
  wpAny (model X.prog X.w) X.A (assign a X.env u) (λ_ e=>∃d c,Inv X b d c e/\Q d c) X.xe s
def Av(X:Cx)(ts:List Expr)(t:Lp):Prop :=
 ∀(a:List (Addr×Obj))(s:Shared)(σ:St)(H:Hp)(c:List V)(d:List Value)(Q:St->Hp->Prop),Inv X a σ H s->Vals c d->t c σ H Q ->
  wpAny (model X.prog X.w) X.A (assignInOrder ((assignEach ts X.env).map (·.2)) d) (λ_ f=>∃e b,Inv X a e b f/\Q e b) X.xe s
abbrev HB:=V->V->V->Hp->(Hp->Prop)->Prop
def HD(X:Cx)(t:HB):Prop :=
 ∀(a:List (Addr×Obj))(s:Shared)(σ:St)(H:Hp)(o i v:V)(b d u:Value)(Q:Hp->Prop),Inv X a σ H s->RelV o b->RelV i d->RelV v u->t o i v H Q ->
  wpAny (model X.prog X.w) X.A (setItem b d u) (λ_ e=>∃c,Inv X a σ c e/\Q c) X.xe s
abbrev R7:=V->V->Hp->VK->Prop
def NQ(X:Cx)(op:Operator)(t:R7):Prop :=
 ∀(a:List (Addr×Obj))(s:Shared)(σ:St)(H:Hp)(x y:V)(v u:Value)(Q:VK),Inv X a σ H s->RelV x v->RelV y u->t x y H Q ->
  wpAny (model X.prog X.w) X.A (inplaceOp op v u) (EP X a σ Q) X.xe s
section
variable{X:Cx}{pos:Pos}
def mR(i:Nat):TG:=λv σ H Q=>Q (σ.set i (some v)) H
theorem yM(a:X.N.Nodup)(c:X.N[i]?=some x)(d:Loc X.env.scope x)(e:X.fn x=true\/X.env.scope.names.lookup x=some .local:=by first|exact .inl rfl|exact .inr rfl|assumption):PG X (.Name x pos) (mR i):=by
 intro pins s σ H v u Q I r h
 exact wpAny_assign_Name (VG I a c d r (λs' b=>⟨_,H,b,h⟩) e)
def NT:Lp:=λa σ H Q=>a=[]/\Q σ H
def tZ(t:TG)(u:Lp):Lp:=λa σ H Q=>∃v r,a=v::r/\t v σ H λc b=>u r c b Q
theorem wA:Av X [] NT:=by
 intro pins s σ H vs us Q I r h
 obtain⟨e,h⟩:=h
 exact assignInOrder_nil ⟨σ,H,I,h⟩
theorem yA(g:PG X e t)(h2:Av X es u)(l:(assignEach (e::es) X.env).map (·.2)=assign e X.env::(assignEach es X.env).map (·.2):=by rfl):Av X (e::es) (tZ t u):=by
 intro a s σ H vs us Q I r h
 obtain⟨v,vr,d,h⟩:=h
 subst d
 cases r with
 |cons r c =>
  rw[l]
  refine assignInOrder_cons (aP (g a s σ H _ _ _ I r h) ?_)
  rintro _ b ⟨i,j,f,k⟩
  exact h2 a b i j _ _ Q f c k
def HF(K:Frag)(n:Nat)(t:Lp):TG:=λv σ H Q=>∃a c,v=.ref a/\gF K H a c/\c.length=n/\t c σ H Q
theorem pW(x:X.calm=true)(h:Av X es t)(j:(assignEach es X.env).length=n:=by rfl)(f:(assignEach es X.env).findIdx? (·.1)=none:=by rfl):PG X (.Tuple es k pos) (HF X.K n t):=by
 intro c s σ H v u Q I r d
 obtain⟨a,p,i,g,q,d⟩:=d
 subst i
 cases r
 obtain⟨its,y,l,hz⟩:=I.tuple g
 refine assign_Tuple_tuple (I.ok.hd x) l (by simp[j,<-q,y.length]) f λh' w=>?_
 have m:=I.kept (t':=s.toks) λb o e=>w b o (aat (lt_size e)) e
 exact h c _ σ H p _ Q m (by grind) d
def HJ(d a:TE)(t:HB):TG:=λv σ H Q=>d σ H λo b=>a σ b λi e=>t o i v e λc=>Q σ c
theorem NZ(f:PE X o E)(A:PE X i p)(l:HD X t)(ha:∀v,assign (.Subscript o i pos) X.env v=(do
   let b <-holding [v] (eval o X.env)
   let c <-holding [v,b] (eval i X.env)
   standAt pos
   holding [v,b,c] (setItem b c v)
   release [v,b,c] []):=by intro _;rfl):PG X (.Subscript o i pos) (HJ E p t):=by
 intro a s σ H v u Q I r h
 refine aak (aa7 (aP (f a s σ H _ I h) ?_))
 rintro b n ⟨x,g,z,q,j⟩
 refine aak (aa7 (aP (A a n σ g _ z j) ?_))
 rintro c B ⟨y,d,e,D,m⟩
 refine aak (aer (aak (aa7 (aP (l a B σ d x y v b c u _ e q D r m) ?_))))
 rintro _ s3 ⟨k,w,C⟩
 exact wpAny_release ⟨σ,k,w,C⟩
def fH(te:TE)(g:TG):TS:=λD σ H=>te σ H λx a=>g x σ a D.nx
theorem t_(m:PE X e te)(o:PG X b g)(n:swapsWithSole [b] e pos.line X.env=pure false:=by rfl)(c:swappedStores [b] e X.env=pure none:=by rfl)(i:(assignEach [b] X.env).map (·.2)=[assign b X.env]:=by rfl):PS X (.Assign [b] e pos) (fH te g):=by
 intro a s σ H D I h
 refine wpAny_Assign_stores (aP (m a s σ H _ I h) ?_) n c
 rintro v j ⟨x,k,f,d,l⟩
 rw[i]
 exact aP (o a j σ k x v _ f d l) λ_ s2 q=>q
theorem VR(c:X.N.Nodup)(f:X.N[i]?=some x)(j:Loc X.env.scope x)(m:PE X e te)(o:swapsWith e (some (.Name x b)) pos.line X.env=pure false:=by rfl)(n:X.fn x=true\/X.env.scope.names.lookup x=some .local:=by first|exact .inl rfl|exact .inr rfl|assumption) :
  PS X (.Assign [.Name x b] e pos) (fH te (mR i)):=by
 intro a s σ H D I h
 refine wpAny_Assign_Name (aP (m a s σ H _ I h) ?_) o
 rintro v s1 ⟨y,k,d,p,l⟩
 exact VG d c f j p (λs2 g=>⟨_,k,g,l⟩) n
def N5(i:Nat)(te:TE)(a:R7):TS:=λD σ H=>∃x,σ[i]?=some (some x)/\te σ H λy b=>a x y b λz c=>D.nx (σ.set i (some z)) c
theorem V0(Z:X.N.Nodup)(j:X.N[i]?=some x)(f:Loc X.env.scope x)(T:PE X e te)(Q:NQ X op F)(S:X.fn x=true\/X.env.scope.names.lookup x=some .local:=by first|exact .inl rfl|exact .inr rfl|assumption) :
  PS X (.AugAssign (.Name x pos') op e pos) (N5 i te F):=by
 intro a s σ H D I h
 obtain⟨v,P,h⟩:=h
 obtain⟨m,J,R⟩:=I.loc
 have g:Nu X.env.scope x:=by rcases f with k|k;exact .inl k;exact .inr (.inl k)
 obtain⟨u,r,l⟩:=R i x v j P g
 refine wpAny_AugAssign_Name ?_
 have n:wpAny (model X.prog X.w) X.A (eval e X.env) (λw o=>wpAny (model X.prog X.w) X.A (inplaceOp op u w) (λr B=>wpAny (model X.prog X.w) X.A (storeName X.env x r) (λ_=>SP X a D .next) X.xe B) X.xe o) X.xe s:=by
  refine aP (T a s σ H _ I h) ?_
  rintro w G ⟨y,W,O,L,p⟩
  refine aP (Q a G σ W v y u w _ O r L p) ?_
  rintro z s2 ⟨zv,Y,q,U,C⟩
  exact VG q Z j f U (λs3 M=>⟨_,Y,M,C⟩) S
 rcases l with⟨b,E⟩|⟨b,c,t,d⟩
 ·exact wpAny_loadName_local I.ok.kind b J E n
 ·rcases b with b|b
  ·exact wpAny_loadName_cell I.ok.kind b t d n
  ·rcases f with k|k
   ·have:X.env.scope.names.lookup x=some .free:=b
    rw[k] at this;cases this
   ·have:X.env.scope.names.lookup x=some .free:=b
    grind
def uc(j d te:TE)(a:V->V->Hp->VK->Prop)(c:R7)(b:HB):TS:=λD σ H=>j σ H λo g=>d σ g λi k=>a o i k λx h=>te σ h λy f=>c x y f λz m=>b o i z m λl=>D.nx σ l
def N6(X:Cx)(t:V->V->Hp->VK->Prop):Prop :=
 ∀(a:List (Addr×Obj))(s:Shared)(σ:St)(H:Hp)(o i:V)(b c:Value)(Q:VK),Inv X a σ H s->RelV o b->RelV i c->t o i H Q ->
  wpAny (model X.prog X.w) X.A (getItem b c) (EP X a σ Q) X.xe s
theorem Zv(r:PE X o to)(Y:PE X i L)(hg:N6 X g)(he:PE X e te)(q:NQ X op k)(x:HD X f)(A:∀d c b,augStore i d c b=(do holding [b,d,c] (setItem d c b);release [b,d,c] [];pure .next):=by intros;rfl):PS X (.AugAssign (.Subscript o i tpos) op e pos) (uc to L te g k f):=by
 intro a s σ H D I h
 refine wpAny_AugAssign_SubscriptAny (aP (r a s σ H _ I h) ?_) A
 rintro d s1 ⟨p,t,W,n,u⟩
 refine aP (Y a s1 σ t _ W u) ?_
 rintro c Z ⟨l,H2,M,m,B⟩
 refine aP (hg a Z σ H2 p l d c _ M n m B) ?_
 rintro j C ⟨O,w,U,r3,q3⟩
 refine aP (he a C σ w _ U q3) ?_
 rintro v y ⟨E,R,N,S,Q⟩
 refine aP (q a y σ R O E j v _ N r3 S Q) ?_
 rintro b s5 ⟨F,G,z,r5,T⟩
 exact aP (x a s5 σ G p l F d c b _ z n m r5 T) λ_ s6 ⟨P,J,q6⟩=>⟨σ,P,J,q6⟩
def Lq(f:Int->Int->Int):R7:=λx y H Q=>∃i j,x=.int i/\y=.int j/\Q (.int (f i j)) H
theorem Zw:NQ X .Add (Lq λi j=>i+j):=by
 intro pins s σ H x y v u Q I d b h
 obtain⟨i,j,c,a,q⟩:=h
 subst c;subst a
 obtain⟨t,rfl⟩:=d
 obtain⟨t',rfl⟩:=b
 exact iadd_int ⟨.int _,H,I.tok _,⟨_,rfl⟩,q⟩
theorem HN:NQ X .Sub (Lq λi j=>i-j):=by
 intro pins s σ H x y v u Q I d b h
 obtain⟨i,j,c,a,q⟩:=h
 subst c;subst a
 obtain⟨t,rfl⟩:=d
 obtain⟨t',rfl⟩:=b
 exact isub_int ⟨.int _,H,I.tok _,⟨_,rfl⟩,q⟩
end
section
variable{X:Cx}{pos:Pos}
def Zx(c:TT)(g:TS):TS:=λD σ H=>∃W:Nat->St->Hp->Prop,(∃m,W m σ H)/\∀m σ H,W m σ H ->
 c σ H λb d=>if b=true then∃N:St->Hp->Prop,(∀a f,N a f->∃e,e<m/\W e a f)/\g { D with nx:=N,ct:=N,bk:=D.nx } σ d else D.nx σ d
theorem Zy(hp:PassesOwn (model X.prog X.w) X.A X.env X.xe)(hc:PT X c tc)(hb:jH X body tb):PS X (.While c body [] pos) (Zx tc tb):=by
 intro pins s σ H D I h
 obtain⟨W,⟨m0,w0⟩,turn⟩:=h
 refine wpAny_While (codeAny_whileLoop (λn s'=>∃σ' H',Inv X pins σ' H' s'/\W n σ' H') ?_ m0 ⟨σ,H,I,w0⟩)
 rintro n s1 ⟨σ1,H1,I1,w1⟩
 refine ach hp (aP (hc pins s1 σ1 H1 _ I1 (turn n σ1 H1 w1)) λb s2 ⟨H2,I2,q2⟩=>?_)
 cases b with
 |true =>
  obtain⟨N,hN,q2⟩:=q2
  rw[if_pos rfl]
  refine ach hp (aP (hb pins s2 σ1 H2 _ I2 q2) λf s3 q3=>?_)
  cases f with
  |next =>
   obtain⟨σ3,H3,I3,n3⟩:=q3
   obtain⟨m',hm,w3⟩:=hN σ3 H3 n3
   exact⟨m',hm,σ3,H3,I3,w3⟩
  |cont =>
   obtain⟨σ3,H3,I3,n3⟩:=q3
   obtain⟨m',hm,w3⟩:=hN σ3 H3 n3
   exact⟨m',hm,σ3,H3,I3,w3⟩
  |brk=>exact q3
  |ret v=>exact q3
 |false =>
  rw[if_neg aan]
  exact ad3 ⟨σ1,H2,I2,q2⟩
end
structure It where
 go:Nat->Hp->Prop
 Lr:Nat->Hp->V->Hp->Prop
 stop:Nat->Hp->Prop
def iB(X:Cx)(d:List (Addr×Obj))(H:Hp)(b:Addr):Prop :=
 H b=none/\b≠X.env.locals/\b∉X.fs/\(b∈X.ex\/X.s₀.heap.objs.size<=b)/\(∀x c,X.env.cells.lookup x=some c->c≠b)/\∀p∈X.pn++d,p.1≠b
theorem Inv.iC(I:Inv X pins σ H s)(hb:s.heap.objs.size<=b)(hn:H' b=none):iB X pins H' b:=by
 refine⟨hn,adt (aax I.lt hb),I.Hx hb,.inr (aa0 I.sz hb),λx c e z=>?_,λp hp z=>?_⟩
 ·obtain⟨v,q⟩:=I.cell x c e
  exact absurd (aax q.lt (by rw[z];exact hb)) (abp _)
 ·exact absurd (aax (lt_size (I.pin p hp).1) (by rw[z];exact hb)) (abp _)
structure Turn(P:Program)(w:World)(K:Frag)(tg:Expr)(J:It)(fp:List Addr)(it:Addr)(tn:Nat->Heap->Prop):Prop where
 mem:it∈fp
 obj:∀i h,tn i h->∀b∈fp,∃o,h.get? b=some o/\∀v,o.data≠.cell v
 keep:∀i h h',tn i h->(∀b∈fp,∀o,h.get? b=some o->h'.get? b=some o)->tn i h'
 item:∀(X:Cx),X.prog=P->X.w=w->X.K=K->X.calm=true->∀(i:Nat)(pins:List (Addr×Obj))(s:Shared)(σ:St)(H:Hp)(E:Value->Shared->Prop),Inv X pins σ H s->(∀b∈fp,iB X pins H b)->tn i s.heap->J.go i H ->
  wpAny (model P w) X.A (pyNext (.ref it)) (λr s1=>∃u,r=some u /\
   wpAny (model P w) X.A (letOwnedTupleGo tg (.ref it) u) (λ_ s2=>∃x H',Inv X pins σ H' s2/\RelV x u/\J.Lr i H x H'/\tn (i+1) s2.heap/\∀b∈fp,H' b=none) E s1) E s
 done:∀(X:Cx),X.prog=P->X.w=w->X.K=K->X.calm=true->∀(i:Nat)(pins:List (Addr×Obj))(s:Shared)(σ:St)(H:Hp)(E:Value->Shared->Prop),Inv X pins σ H s->(∀b∈fp,iB X pins H b)->tn i s.heap->J.stop i H ->
  wpAny (model P w) X.A (pyNext (.ref it)) (λr s1=>r=none/\Inv X pins σ H s1) E s
 self:∀(A:Around)(i:Nat)(s:Shared)(Q:Value->Shared->Prop)(E:Value->Shared->Prop),tn i s.heap->Q (.ref it) s->wpAny (model P w) A (pyIter (.ref it)) Q E s
abbrev TI:=St->Hp->(It->Hp->Prop)->Prop
def PIE(X:Cx)(a:List (Addr×Obj))(σ:St)(i:Expr)(R:It->Hp->Prop)(c:Value)(h:Shared):Prop :=
 ∃(f:Addr)(e:List Addr)(g:Nat->Heap->Prop)(J:It)(d:Hp),c=.ref f/\Inv X a σ d h/\Turn X.prog X.w X.K i J e f g/\g 0 h.heap/\(∀b∈e,iB X a d b)/\R J d
def PI(X:Cx)(d b:Expr)(c:TI):Prop :=
 ∀(a:List (Addr×Obj))(s:Shared)(σ:St)(H:Hp)(R:It->Hp->Prop),Inv X a σ H s->c σ H R ->
  wpAny (model X.prog X.w) X.A (eval b X.env) (λv e=>wpAny (model X.prog X.w) X.A (pyIter v) (PIE X a σ d R) X.xe e) X.xe s
theorem N7{s:Shared}{Q:Unit->Shared->Prop}(c:s.heap.get? d=some o)(e:o.cls=.type n)(f:o.data=.fields vs)(hn:["enumerate","zip","dict_itemiterator","dict_reverseitemiterator","odict_iterator","itertools.zip_longest","itertools.pairwise"].contains n=false)(a:Q () s):wpAny M A (letOwnedTupleGo b (.ref d) u) Q E s:=by
 unfold letOwnedTupleGo
 cases b<;>first
  |exact aal a
  | (cases u<;>first
    |exact aal a
    | (refine aak (wpAny_load c ?_)
       rw[e,f]
       show wpAny M A (if(["enumerate","zip","dict_itemiterator","dict_reverseitemiterator","odict_iterator","itertools.zip_longest","itertools.pairwise"].contains n&&vs[0]?==some (rawInt _))=true then _ else _) Q E s
       rw[if_neg (by grind)]
       exact aal a))
def Ls(K:Frag)(a:Addr):It :=
 ⟨λi H=>∃b x,aW K H a b/\b[i]?=some x,λi H x c=>c=H/\∀b,aW K H a b->b[i]?=some x,λi H=>∃b,aW K H a b/\b.length<=i⟩
def Zz(K:Frag)(a:Addr):It :=
 ⟨λi H=>∃b x,gF K H a b/\b[i]?=some x,λi H x c=>c=H/\∀b,gF K H a b->b[i]?=some x,λi H=>∃b,gF K H a b/\b.length<=i⟩
def V1(lo:Int)(n:Nat):It:=⟨λi _=>i<n,λi H x a=>a=H/\x=.int (lo+i),λi _=>n<=i⟩
theorem zSf{P:Program}{w:World}{K:Frag}{O:Expr}(a g:Addr):Turn P w K O (Ls K a) [g] g (λi h=>h.IsListIter g a i) where
 mem:=by simp
 obj:=λi h st b j=>by
  have e:b=g:=by simpa using j
  subst e
  obtain⟨o,e,c,d⟩:=st
  grind
 keep:=λi h m st k=>st.at λo e=>k g (by simp) o e
 item:=by
  intro X v D B L i f s σ H E I q st J
  subst v D B
  obtain⟨N,x,n,t⟩:=J
  obtain⟨A,z,p,R⟩:=I.list n
  obtain⟨u,U,Y⟩:=z.get t
  obtain⟨G,F,Q,y,r,C⟩:=q g (by simp)
  refine wpAny_pyNext_list_item st p.isList (x:=u) (by simpa using U) λm l Z=>?_
  have M:Inv X f σ H { s with heap:=m }:=I.turned (t':=s.toks) (λb o j e=>(Z.2 b j).trans e) G F y r C
  obtain⟨o,e,c,d⟩:=id l
  exact⟨u,rfl,N7 (s:={ s with heap:=m }) e c d (by decide) ⟨x,H,M,Y,⟨rfl,λys T=>by rw[I.n6 T n];exact t⟩,l,λb j=>(q b j).1⟩⟩
 done:=by
  intro X v D B L i f s σ H E I q st J
  subst v D B
  obtain⟨N,n,t⟩:=J
  obtain⟨A,z,p,R⟩:=I.list n
  obtain⟨G,F,Q,y,r,C⟩:=q g (by simp)
  have hl:=z.length
  exact wpAny_pyNext_list_end (I.ok.hd L) st p.isList (by simp;lia) λm S=>⟨rfl,I.turned (t':=s.toks) (λb o j e=>S b o j e) G F y r C⟩
 self:=λ_ _ _ _ _ st h=>wpAny_pyIter_listiter st h
theorem zQo{P:Program}{w:World}{K:Frag}{O:Expr}(a l:Addr):Turn P w K O (Zz K a) [l] l (λi h=>h.IsTupleIter l a i) where
 mem:=by simp
 obj:=λi h st b j=>by
  have e:b=l:=by simpa using j
  subst e
  obtain⟨o,e,c,d⟩:=st
  grind
 keep:=λi h n st k=>st.at λo e=>k l (by simp) o e
 item:=by
  intro X G C A L i f s σ H E I r st D
  subst G C A
  obtain⟨N,x,q,J⟩:=D
  obtain⟨g,v,p,Y⟩:=I.tuple q
  obtain⟨u,U,M⟩:=v.get J
  obtain⟨z,F,Q,y,t,B⟩:=r l (by simp)
  refine wpAny_pyNext_tuple_item st (show s.heap.IsTuple a g.toArray from p) (x:=u) (by simpa using U) λn m T=>?_
  have Z:Inv X f σ H { s with heap:=n }:=I.turned (t':=s.toks) (λb o j e=>(T.2 b j).trans e) z F y t B
  obtain⟨o,e,c,d⟩:=id m
  exact⟨u,rfl,N7 (s:={ s with heap:=n }) e c d (by decide) ⟨x,H,Z,M,⟨rfl,λys R=>by rw[I.rA R q];exact J⟩,m,λb j=>(r b j).1⟩⟩
 done:=by
  intro X G C A L i f s σ H E I r st D
  subst G C A
  obtain⟨N,q,J⟩:=D
  obtain⟨g,v,p,Y⟩:=I.tuple q
  obtain⟨z,F,Q,y,t,B⟩:=r l (by simp)
  have hl:=v.length
  exact wpAny_pyNext_tuple_end (I.ok.hd L) st (show s.heap.IsTuple a g.toArray from p) (by simp;lia) λn S=>⟨rfl,I.turned (t':=s.toks) (λb o j e=>S b o j e) z F y t B⟩
 self:=λ_ _ _ _ _ st h=>wpAny_pyIter_tupleiter st h
theorem zQp{P:Program}{w:World}{K:Frag}{G:Expr}(c:Addr)(lo:Int)(n:Nat):Turn P w K G (V1 lo n) [c] c (λi h=>IsRangeIter h c (lo+(i:Nat)*1) ((n:Int)-(i:Nat)) 1) where
 mem:=by simp
 obj:=λi h st b d=>by
  grind
 keep:=λi h g st k=>k c (by simp) _ st
 item:=by
  intro X l q m x i a s σ H E I j st u
  subst l q m
  obtain⟨y,r,L,z,A,p⟩:=j c (by simp)
  have W:=Walks.range (prog:=X.prog) (w:=X.w) (I.ok.hd x) c lo 1 n
  refine W.item i s _ _ u st λv g B F f C=>?_
  obtain⟨t,rfl⟩:=F
  have J:Inv X a σ H { s with heap:=g,toks:=B }:=I.turned (λb o d e=>C b o (by simpa using d) e) y r z A p
  refine⟨_,rfl,N7 (s:={ s with heap:=g,toks:=B }) (n:="range_iterator") f rfl rfl (by decide) ⟨.int (lo+i),H,J,⟨t,?_⟩,⟨rfl,rfl⟩,f,λb d=>(j b d).1⟩⟩
  grind
 done:=by
  intro X l q m x i a s σ H E I j st u
  subst l q m
  obtain⟨y,r,L,z,A,p⟩:=j c (by simp)
  exact wpAny_pyNext_range_end (I.ok.hd x) st (by have:n<=i:=u;lia) λg D=>⟨rfl,I.turned (t':=s.toks) (λb o d e=>D b o d e) y r z A p⟩
 self:=λ_ _ _ _ _ st h=>wpAny_pyIter_rangeiter st h
section
variable{X:Cx}{tg:Expr}
def Lw(K:Frag)(c:TE):TI:=λσ H R=>c σ H λx b=>∃a,x=.ref a/\(∃d,aW K b a d)/\R (Ls K a) b
def Aw(K:Frag)(c:TE):TI:=λσ H R=>c σ H λx b=>∃a,x=.ref a/\(∃d,gF K b a d)/\R (Zz K a) b
theorem V2(j:PE X l k):PI X tg l (Lw X.K k):=by
 intro c s σ H R I h
 refine aP (j c s σ H _ I h) ?_
 rintro v f ⟨x,m,d,i,n⟩
 obtain⟨a,e,⟨xs,g⟩,q⟩:=n
 subst e
 cases i
 obtain⟨its,rv,p,hz⟩:=d.list g
 refine adv p.isList ?_
 refine⟨f.heap.objs.size,[f.heap.objs.size],_,_,m,rfl,d.kept λb o e=>get?_push_of_some _ e,zSf a _,⟨_,get?_push_size _ rfl,rfl,rfl⟩,λb hb=>?_,q⟩
 have e:b=f.heap.objs.size:=by grind
 subst e
 exact d.iC (aao _) (d.hok.fresh (aao _))
theorem HS(j:PE X l k):PI X tg l (Aw X.K k):=by
 intro c s σ H R I h
 refine aP (j c s σ H _ I h) ?_
 rintro v f ⟨x,m,d,i,n⟩
 obtain⟨a,e,⟨xs,g⟩,q⟩:=n
 subst e
 cases i
 obtain⟨its,rv,p,hz⟩:=d.tuple g
 refine wpAny_pyIter_tuple (p) ?_
 refine⟨f.heap.objs.size,[f.heap.objs.size],_,_,m,rfl,d.kept λb o e=>get?_push_of_some _ e,zQo a _,⟨_,get?_push_size _ rfl,rfl,rfl⟩,λb hb=>?_,q⟩
 have e:b=f.heap.objs.size:=by grind
 subst e
 exact d.iC (aao _) (d.hok.fresh (aao _))
theorem zXb{d:List (Addr×Obj)}{σ:St}{H:Hp}{s:Shared}{R:It->Hp->Prop}{E:Value->Shared->Prop}{lo c:Int}{t u v:Tok}{g:Nat}(I:Inv X d σ H s)(k:-(2^62)<=lo)(h2:lo<2^62)(l:-(2^62)<=c)(h:c<2^62)(q:R (V1 lo (c-lo).toNat) H):wpAny (model X.prog X.w) X.A (pyIter (.ref s.heap.objs.size)) (PIE X d σ tg R) E { s with heap:=s.heap.push { cls:=.type "range",data:=.fields #[.int lo t,.int c u,.int 1 v] },toks:=g }:=by
 refine wpAny_pyIter_range (IsRange.new ..) (small_one k h2 l h) ?_
 have f:Inv X d σ H { s with heap:=s.heap.push { cls:=.type "range",data:=.fields #[.int lo t,.int c u,.int 1 v] },toks:=g }:=I.kept λb o e=>get?_push_of_some _ e
 refine⟨(s.heap.push { cls:=.type "range",data:=.fields #[.int lo t,.int c u,.int 1 v] }).objs.size,[(s.heap.push { cls:=.type "range",data:=.fields #[.int lo t,.int c u,.int 1 v] }).objs.size],_,_,H,rfl,
  f.kept (t':=g) λb o e=>get?_push_of_some _ e,zQp _ lo (c-lo).toNat,?_,λb hb=>?_,q⟩
 ·have i:lo+((0:Nat):Int)*1=lo:=by simp
  have j:(((c-lo).toNat:Nat):Int)-((0:Nat):Int)=Builtin.Range.rangeSize lo c 1:=by rw[rangeSize_one];grind
  rw[i,j]
  exact get?_push_size _ rfl
 ·have e:b=(s.heap.push { cls:=.type "range",data:=.fields #[.int lo t,.int c u,.int 1 v] }).objs.size:=by grind
  subst e
  exact f.iC (aao _) (f.hok.fresh (aao _))
def FT(c:TA):TI:=λσ H R=>c σ H λa b=>∃j:Int,a=[.int j] /\ -(2^62)<=j/\j<2^62/\R (V1 0 j.toNat) b
theorem xW(l:Gl X "range")(d:X.mg "range" = none)(m:PA X [a] k)(i:starEach [a] X.env=[(false,eval a X.env)]:=by rfl):PI X tg (.Call (.Name "range" p) [a] [] pos) (FT k):=by
 intro b s σ H R I h
 refine Call_ (tV I l d boot_range (abg (aP (m pos b s σ H _ I h) ?_) i rfl))
 rintro us s1 ⟨vs,H1,f,n,c⟩
 obtain⟨j,e,c,o,q⟩:=c
 subst e
 cases n with
 |cons r g =>
  cases g
  obtain⟨t,rfl⟩:=r
  exact call_range_1 (zXb f (by lia) (by lia) c o (by simp_all))
def ud(e:TI)(g:TG)(k:TS):TS:=λD σ H=>e σ H λJ f=>∃W:Nat->Nat->St->Hp->Prop,(∃m,W 0 m σ f)/\∀i m σ H,W i m σ H ->
 (J.stop i H/\D.nx σ H)\/(J.go i H/\∃N:St->Hp->Prop,(∀d b,N d b->∃c,c<m/\W (i+1) c d b)/\∀x b,J.Lr i H x b->g x σ b λj h=>k { D with nx:=N,ct:=N,bk:=D.nx } j h)
def Ax(fp:List Addr)(h:Heap):List (Addr×Obj):=fp.filterMap λb=>(h.get? b).map λo=>(b,o)
theorem uG{h:Heap}(hb:b∈fp)(e:h.get? b=some o):(b,o)∈Ax fp h:=List.mem_filterMap.mpr ⟨b,hb,by rw[e];rfl⟩
theorem zT6(a:p∈Ax fp h):p.1∈fp/\h.get? p.1=some p.2:=by
 obtain⟨b,hb,e⟩:=List.mem_filterMap.mp a
 cases q:h.get? b with
 |none=>grind
 |some o =>
  grind
theorem Inv.pinned(I:Inv X a σ H s)(d:∀b∈fp,iB X a H b)(ho:∀b∈fp,∃o,s.heap.get? b=some o/\∀v,o.data≠.cell v):Inv X (a++Ax fp s.heap) σ H s :=
 I.gM λp c=>(mem_append.mp c).elim (λz=>I.pin p (mem_append_right _ z)) λz=>by
  obtain⟨f,e⟩:=zT6 z
  obtain⟨f0,f1,f2,_⟩:=d p.1 f
  grind
theorem Inv.cu(I:Inv X (a++pl) σ H s):Inv X a σ H s:=I.gM λp b=>I.pin p (mem_append_right _ (mem_append_left _ b))
theorem xB(Q:PassesOwn (model X.prog X.w) X.A X.env X.xe)(hc:X.calm=true)(hi:PI X tg y wi)(hg:PG X tg g)(c:jH X B tb)(hs:∀x,foldedSetIterable y X.env x=pure x:=by intro _;rfl):PS X (.For tg y B [] pos) (ud wi g tb):=by
 intro a s σ H D I h
 refine wpAny_For (aP (hi a s σ H _ I h) λv s1 h1=>aP h1 λitv s2 h2=>?_) hs
 obtain⟨it,L,tn,J,H2,e,I2,T,U,f2,W,⟨m0,w0⟩,E⟩:=h2
 subst e
 have l:∀{q:Hp},(∀b∈L,q b=none)->∀b∈L,iB X a q b:=λhn b c=>⟨hn b c,(f2 b c).2⟩
 refine codeAny_forLoop_any (λn s'=>∃i G q,Inv X a G q s'/\tn i s'.heap/\(∀b∈L,q b=none)/\W i n G q) ?_ m0 ⟨0,σ,H2,I2,U,λb c=>(f2 b c).1,w0⟩
 rintro n s3 ⟨i,O,R,I3,M,F,w3⟩
 rcases E i n O R w3 with⟨C,qn⟩|⟨go,N,hN,step⟩
 ·refine ach Q (aP (T.done X rfl rfl rfl hc i a s3 O R X.xe I3 (l F) M C) λr s4 ⟨S,I4⟩=>?_)
  subst S
  exact ad3 ⟨O,R,I4,qn⟩
 ·refine ach Q (aP (T.item X rfl rfl rfl hc i a s3 O R X.xe I3 (l F) M go) λr s4 ⟨u,S,h4⟩=>?_)
  subst S
  refine ach Q (aP h4 ?_)
  rintro _ s5 ⟨x,H5,I5,r5,y5,z,Y⟩
  have I5':=I5.pinned (l Y) (T.obj _ _ z)
  refine ach Q (aP (hg _ s5 O H5 x u _ I5' r5 (step x H5 y5)) ?_)
  rintro _ s6 ⟨σ6,H6,I6,q6⟩
  refine ach Q (aP (c _ s6 σ6 H6 _ I6 q6) λf Z t=>?_)
  have again:∀{j:St}{k:Hp},Inv X (a++Ax L s5.heap) j k Z->N j k->∃m,m<n/\∃i G q,Inv X a G q Z/\tn i Z.heap/\(∀b∈L,q b=none)/\W i m G q:=λ{j k} p P=>by
   obtain⟨m',hm,w7⟩:=hN j k P
   refine⟨m',hm,i+1,j,k,p.cu,T.keep _ _ _ z λb c o e=>(p.pin (b,o) (mem_append_right _ (mem_append_right _ (uG c e)))).1,λb c=>?_,w7⟩
   obtain⟨o,e,d⟩:=T.obj _ _ z b c
   exact(p.pin (b,o) (mem_append_right _ (mem_append_right _ (uG c e)))).2.1
  cases f with
  |next=>obtain⟨j,k,p,P⟩:=t;exact again p P
  |cont=>obtain⟨j,k,p,P⟩:=t;exact again p P
  |brk=>obtain⟨j,k,p,t⟩:=t;exact⟨j,k,p.cu,t⟩
  |ret v=>obtain⟨x7,j,k,p,r7,t⟩:=t;exact⟨x7,j,k,p.cu,r7,t⟩
end
theorem zX6{K:Frag}{a:Addr}{xs:List V}{g:TG}{tb:TS}{D:Ends}{σ:St}{H:Hp}(Pv:Nat->St->Hp->Prop)(h0:Pv 0 σ H)(hl:∀i σ H,i<=xs.length->Pv i σ H->aW K H a xs)(hs:∀i x σ H,xs[i]?=some x->Pv i σ H->g x σ H λσ2 H2=>tb { D with nx:=Pv (i+1),ct:=Pv (i+1),bk:=D.nx } σ2 H2)(hd:∀σ H,Pv xs.length σ H->D.nx σ H) :
  ∃W:Nat->Nat->St->Hp->Prop,(∃m,W 0 m σ H)/\∀i m σ H,W i m σ H ->
   ((Ls K a).stop i H/\D.nx σ H)\/((Ls K a).go i H/\∃N:St->Hp->Prop,(∀σ' H',N σ' H'->∃m',m'<m/\W (i+1) m' σ' H')/\∀x H',(Ls K a).Lr i H x H'->g x σ H' λσ2 H2=>tb { D with nx:=N,ct:=N,bk:=D.nx } σ2 H2):=by
 refine⟨λi m σ H=>m=xs.length-i/\i<=xs.length/\Pv i σ H,⟨xs.length,by simp,aa5 _,h0⟩,?_⟩
 rintro i m σ H ⟨rfl,hi,p⟩
 have q:=hl i σ H hi p
 by_cases hlt:i<xs.length
 ·refine .inr ⟨⟨xs,xs[i],q,by simp[hlt]⟩,Pv (i+1),λσ' H' p'=>⟨xs.length-(i+1),by omega,rfl,hlt,p'⟩,λx H' y=>?_⟩
  obtain⟨e,y⟩:=y
  subst e
  exact hs i x σ _ (y xs q) p
 ·have e:i=xs.length:=by omega
  subst e
  exact .inl ⟨⟨xs,q,aao _⟩,hd σ H p⟩
abbrev R2:=V->V->Hp->VK->Prop
def gO(X:Cx)(f:Value->Value->Sem Value)(r:R2):Prop :=
 ∀(b:List (Addr×Obj))(s:Shared)(σ:St)(H:Hp)(x y:V)(v u:Value)(Q:VK),Inv X b σ H s->RelV x v->RelV y u->r x y H Q ->
  wpAny (model X.prog X.w) X.A (f v u) (EP X b σ Q) X.xe s
def V3(X:Cx)(f:Value->Sem Value)(r:V->Hp->VK->Prop):Prop :=
 ∀(b:List (Addr×Obj))(s:Shared)(σ:St)(H:Hp)(x:V)(v:Value)(Q:VK),Inv X b σ H s->RelV x v->r x H Q ->
  wpAny (model X.prog X.w) X.A (f v) (EP X b σ Q) X.xe s
def pP(X:Cx)(f:Value)(r:List V->Hp->VK->Prop):Prop :=
 ∀(b:List (Addr×Obj))(s:Shared)(σ:St)(H:Hp)(c:List V)(d:List Value)(Q:VK),Inv X b σ H s->Vals c d->r c H Q ->
  wpAny (model X.prog X.w) X.A (call f d) (EP X b σ Q) X.xe s
def V4(X:Cx)(r:V->Hp->(Bool->Hp->Prop)->Prop):Prop :=
 ∀(b:List (Addr×Obj))(s:Shared)(σ:St)(H:Hp)(x:V)(v:Value)(Q:Bool->Hp->Prop),Inv X b σ H s->RelV x v->r x H Q ->
  wpAny (model X.prog X.w) X.A (truthy v) (TP X b σ Q) X.xe s
def dH(r:R2)(a d:TE):TE:=λσ H Q=>a σ H λx c=>d σ c λy b=>r x y b Q
def ZC(r:V->Hp->VK->Prop)(a:TE):TE:=λσ H Q=>a σ H λx b=>r x b Q
def rI(C:Int->Int->Prop)(g:Int->Int->V):R2:=λx y H Q=>∃i j,x=.int i/\y=.int j/\C i j/\Q (g i j) H
def pQ(g:Int->Int->V):R2:=λx y H Q=>∃i j,x=.int i/\y=.int j/\Q (g i j) H
def rU(g:Int->V):V->Hp->VK->Prop:=λx H Q=>∃i,x=.int i/\Q (g i) H
section
variable{X:Cx}{a b c:Expr}{ta tb tc:TE}{pos:Pos}
theorem Ay(ha:PE X a ta)(hb:PE X b tb){R:V->V->Hp->Prop}(I:Inv X pins σ H s)(h:ta σ H λx H1=>tb σ H1 λy H2=>R x y H2){f:Value->Value->Sem Value}(hf:∀v u s2 x y H2,Inv X pins σ H2 s2->RelV x v->RelV y u->R x y H2->wpAny (model X.prog X.w) X.A (f v u) Q X.xe s2) :
  wpAny (model X.prog X.w) X.A (eval a X.env) (λv s₁=>wpAny (model X.prog X.w) X.A (eval b X.env) (λu s₂=>wpAny (model X.prog X.w) X.A (f v u) Q X.xe s₂) X.xe s₁) X.xe s:=by
 refine aP (ha pins s σ H _ I h) λv s1 ⟨x,H1,I1,r1,q1⟩=>?_
 refine aP (hb pins s1 σ H1 _ I1 q1) λu s2 ⟨y,H2,I2,r2,q2⟩=>?_
 exact hf v u s2 x y H2 I2 r1 r2 q2
theorem zY(g:gO X (binaryOp op) r)(i:PE X a ta)(m:PE X b tb):PE X (.BinOp a op b pos) (dH r ta tb):=by
 intro d s σ H Q I h
 exact aea (Ay i m I h λv u f x y l k j e q=>g d f σ l x y v u Q k j e q)
theorem uf(i:V3 X (unaryOp op) r)(l:PE X a ta):PE X (.UnaryOp op a pos) (ZC r ta):=by
 intro d s σ H Q I h
 exact UnaryOp_ (aP (l d s σ H _ I h) (by rintro v e ⟨x,j,g,f,k⟩;exact i d e σ j x v Q g f k))
theorem Ly{f:Value->Value->Sem Value}{C:Int->Int->Prop}{g:Int->Int->Int}(rule:∀(i j:Int) (t u:Tok) (s:Shared) (Q:Value->Shared->Prop) (E:Value->Shared->Prop),C i j->Q (.int (g i j) s.toks) { s with toks:=s.toks+1 }->wpAny (model X.prog X.w) X.A (f (.int i t) (.int j u)) Q E s) :
  gO X f (rI C λi j=>.int (g i j)):=by
 intro pins s σ H x y v u Q I l d h
 obtain⟨i,j,rfl,rfl,k,q⟩:=h
 obtain⟨t,rfl⟩:=l
 obtain⟨e,rfl⟩:=d
 exact rule i j t e s _ _ k ⟨.int (g i j),H,I.tok _,⟨_,rfl⟩,q⟩
theorem HW{f:Value->Value->Sem Value}{g:Int->Int->Int}(rule:∀(i j:Int) (t u:Tok) (s:Shared) (Q:Value->Shared->Prop) (E:Value->Shared->Prop),Q (.int (g i j) s.toks) { s with toks:=s.toks+1 }->wpAny (model X.prog X.w) X.A (f (.int i t) (.int j u)) Q E s) :
  gO X f (pQ λi j=>.int (g i j)):=by
 intro pins s σ H x y v u Q I k d h
 obtain⟨i,j,rfl,rfl,q⟩:=h
 obtain⟨t,rfl⟩:=k
 obtain⟨e,rfl⟩:=d
 exact rule i j t e s _ _ ⟨.int (g i j),H,I.tok _,⟨_,rfl⟩,q⟩
theorem HX{f:Value->Value->Sem Value}{g:Int->Int->Bool}(rule:∀(i j:Int) (t u:Tok) (s:Shared) (Q:Value->Shared->Prop) (E:Value->Shared->Prop),Q (.bool (g i j)) s->wpAny (model X.prog X.w) X.A (f (.int i t) (.int j u)) Q E s) :
  gO X f (pQ λi j=>.bl (g i j)):=by
 intro pins s σ H x y v u Q I k d h
 obtain⟨i,j,rfl,rfl,q⟩:=h
 obtain⟨t,rfl⟩:=k
 obtain⟨e,rfl⟩:=d
 exact rule i j t e s _ _ ⟨.bl (g i j),H,I,rfl,q⟩
def N8(i j:Int):Prop:=0<j/\j<1073741824
def Az(i j:Int):Prop:=0<=j/\j<=1000000/\i.natAbs<2^64
def A_(i j:Int):Prop:=(-(2^64)<i/\i<2^64)\/(-(2^64)<j/\j<2^64)
theorem A_.ok(h:A_ i j):IntMulOk i j:=by
 rcases h with⟨d,e⟩|⟨d,e⟩
 ·exact .of_left (intBits_le_64 d e)
 ·exact .of_right (intBits_le_64 d e)
theorem zQn(k:Nat):(0:Int)<=2^k:=by
 grind
theorem uY:gO X (binaryOp .Add) (pQ λi j=>.int (i+j)):=HW λ_ _ _ _ _ _ _ q=>add_int q
theorem ZD:gO X (binaryOp .Sub) (pQ λi j=>.int (i-j)):=HW λ_ _ _ _ _ _ _ q=>sub_int q
theorem V5:gO X (binaryOp .Mult) (rI A_ λi j=>.int (i*j)):=Ly λ_ _ _ _ _ _ _ d q=>mul_int q d.ok
theorem xA:gO X (binaryOp .FloorDiv) (rI N8 λi j=>.int (i/j)):=Ly λi j _ _ _ _ _ d q=>by
 have h1:(0:Int)<j:=d.1
 have h2:=d.2
 exact floordiv_int (by lia) (by grind) (.inl (PyProof.noPylong_small (by lia)))
theorem yY:gO X (binaryOp .Mod) (rI (λ_ j=>0<j) λi j=>.int (i%j)):=Ly λi j _ _ _ _ _ hc q=>by
 exact mod_int' (by lia) (by grind)
theorem HY:gO X (binaryOp .Pow) (rI Az λi j=>.int (i^j.toNat)):=Ly λ_ _ _ _ _ _ _ d q=>pow_int_small d.1 d.2.1 d.2.2 q
theorem H_:gO X (binaryOp .LShift) (rI Az λi j=>.int (i*2^j.toNat)):=Ly λ_ _ _ _ _ _ _ d q=>lshift_int_small d.1 d.2.1 d.2.2 q
theorem R8:gO X (binaryOp .RShift) (rI (λ_ j=>0<=j) λi j=>.int (i/2^j.toNat)):=Ly λi j _ _ _ _ _ hc q =>
 rshift_int hc (by rw[Int.fdiv_eq_ediv_of_nonneg i (zQn _)];exact q)
theorem N_:gO X (binaryOp .BitAnd) (pQ λi j=>.int (aa8 i j)):=HW λ_ _ _ _ _ _ _ q=>and_int q
theorem unI{f:Value->Sem Value}{g:Int->Int}(rule:∀(i:Int) (t:Tok) (s:Shared) (Q:Value->Shared->Prop) (E:Value->Shared->Prop),Q (.int (g i) s.toks) { s with toks:=s.toks+1 }->wpAny (model X.prog X.w) X.A (f (.int i t)) Q E s) :
  V3 X f (rU λi=>.int (g i)):=by
 intro pins s σ H x v Q I d h
 obtain⟨i,rfl,q⟩:=h
 obtain⟨t,rfl⟩:=d
 exact rule i t s _ _ ⟨.int (g i),H,I.tok _,⟨_,rfl⟩,q⟩
theorem V6:V3 X (unaryOp .USub) (rU λi=>.int (-i)):=unI λ_ _ _ _ _ q=>neg_int q
end
section
variable{X:Cx}{a b c:Expr}{ta tb tc:TE}{pos:Pos}
theorem Ia(I:Inv X d σ H s)(q:Q (.bl k) H)(e:k=k'):EP X d σ Q (.bool k') s:=by
 subst e
 exact⟨.bl k,H,I,rfl,q⟩
theorem Lz:gO X (compareOp .Lt) (pQ λi j=>.bl (decide (i<j))):=HX λ_ _ _ _ _ _ _ q=>lt_int q
theorem ug:gO X (compareOp .LtE) (pQ λi j=>.bl (decide (i<=j))):=HX λ_ _ _ _ _ _ _ q=>le_int q
theorem FW:gO X (compareOp .Gt) (pQ λi j=>.bl (decide (j<i))):=HX λ_ _ _ _ _ _ _ q=>gt_int q
theorem zTy:gO X (compareOp .In) (λx y H Q=>∃i j,x=.str i/\y=.str j/\Q (.bl (!(adl j i 0 j.length 1).isEmpty)) H):=by
 intro pins s σ H x y v u Q I e d h
 obtain⟨i,j,rfl,rfl,q⟩:=h
 obtain⟨t,rfl⟩:=e
 obtain⟨t',rfl⟩:=d
 exact in_str (Ia I q rfl)
theorem xD(b:Expr)(h:op≠.In:=by decide)(h2:op≠.NotIn:=by decide):behindInMarks op b=false:=by
 have d:(op==CmpOp.In)=false:=by grind
 have e:(op==CmpOp.NotIn)=false:=by grind
 cases b<;>simp[behindInMarks,d,e]
theorem ZF(g:gO X (compareOp op) r)(i:PE X a ta)(m:PE X b tb)(n:behindInMarks op b=false):PE X (.Compare a [op] [b] pos) (dH r ta tb):=by
 intro d s σ H Q I h
 exact wpAny_Compare1 (Ay i m I h λv u f x y l k j e q=>g d f σ l x y v u Q k j e q) n
def uh(t:TE):TT:=λσ H Q=>t σ H λx d=>∃k,x=.bl k/\Q k d
theorem yH(j:gO X (compareOp op) r)(o:PE X a ta)(q:PE X b tb)(t:behindInMarks op b=false):PT X (.Compare a [op] [b] pos) (uh (dH r ta tb)):=by
 intro d s σ H Q I h
 refine wpAny_isTrue_Compare1 (aP (o d s σ H _ I h) λv E ⟨x,l,B,w,m⟩=>aP (q d E σ l _ B m) λu C ⟨y,F,i,g,p⟩ =>
  aP (j d C σ F x y v u _ i w g p) ?_) t
 rintro c s3 ⟨z,n,A,f,k,e,D⟩
 subst e
 cases f
 exact ab1 ⟨n,A,D⟩
def ZG(r f:R2)(ta tb tc:TE):TE:=λσ H Q=>ta σ H λx g=>tb σ g λy i=>r x y i λz d=>∃k,z=.bl k /\
 (if k=true then tc σ d λe h=>f y e h Q else Q (.bl false) d)
theorem ZJ(T:gO X (compareOp op) r)(i:gO X (compareOp g) S)(A:PE X a ta)(D:PE X b tb)(w:PE X c tc)(E:lastMarks [op,g] [b,c]=false:=by with_unfolding_all rfl):PE X (.Compare a [op,g] [b,c] pos) (ZG r S ta tb tc):=by
 intro f s σ H Q I h
 refine Compare_chain (aP (A f s σ H _ I h) λv q ⟨x,U,O,M,p⟩=>chain_link (aP (D f q σ U _ O p) λu R ⟨y,Y,F,n,B⟩ =>
  aP (T f R σ Y x y v u _ F M n B) ?_)) E
 rintro d C ⟨z,j,m,o,k,e,l⟩
 subst e
 cases o
 refine ab1 ?_
 cases k with
 |false=>exact ite_ff ⟨.bl false,j,m,rfl,l⟩
 |true=>exact ite_tt (chain_last (aP (w f C σ j _ m l) (by rintro P t ⟨W,L,G,N,J⟩;exact i f t σ L y W u P Q G n N J)))
def Ba(K:Frag)(x:V)(H:Hp)(k:Bool):Prop :=
 match x with
 |.non=>k=false
 |.bl b=>k=b
 |.int i=>k=(i != 0)
 |.str y=>y.length<=sizeLine/\k=((y.length:Int) != 0)
 |.Al y=>y.size<=sizeLine/\k=((y.size:Int) != 0)
 |.ref p=>(∃e,aW K H p e/\k=!e.isEmpty)\/(∃e,gF K H p e/\k=!e.isEmpty)\/∃d,H p=some (.dK d)/\k=!d.isEmpty
 |_=>False
theorem zRg{κ:Type}{kvs:List (κ×V)}{vs:List (κ×Value)}(r:KV kvs vs):(!vs.isEmpty)=!kvs.isEmpty:=by
 cases r<;>rfl
theorem ZK(r:Vals xs d):(!d.toArray.isEmpty)=!xs.isEmpty:=by
 cases r<;>simp
theorem Ib:(sizeLine:Nat)<2^63:=by decide
theorem Ie:V4 X (λx H Q=>∃k,Ba X.K x H k/\Q k H):=by
 intro pins s σ H x v Q I rx h
 obtain⟨k,e,q⟩:=h
 have hl:=Ib
 have hs:sizeLine=16777216:=sizeLine_eq
 cases x with
 |non =>
  cases rx
  have e':k=false:=e
  subst e'
  exact truthy_none ⟨H,I,q⟩
 |bl b =>
  cases rx
  have e':k=b:=e
  subst e'
  exact ab1 ⟨H,I,q⟩
 |int i =>
  obtain⟨t,rfl⟩:=rx
  have e':k=(i != 0):=e
  subst e'
  exact PySem.P.truthy_int ⟨H,I,q⟩
 |str y =>
  obtain⟨t,rfl⟩:=rx
  obtain⟨hy,e'⟩:y.length<=sizeLine/\k=((y.length:Int) != 0):=e
  subst e'
  exact PySem.P.truthy_str (by lia) ⟨H,I.tok _,q⟩
 |Al y =>
  obtain⟨t,rfl⟩:=rx
  obtain⟨hy,e'⟩:y.size<=sizeLine/\k=((y.size:Int) != 0):=e
  subst e'
  exact PySem.W.truthy_bytes (by lia) ⟨H,I.tok _,q⟩
 |ref p =>
  cases rx
  have e':(∃xs,aW X.K H p xs/\k=!xs.isEmpty)\/(∃xs,gF X.K H p xs/\k=!xs.isEmpty)\/∃kvs,H p=some (.dK kvs)/\k=!kvs.isEmpty:=e
  rcases e' with⟨xs,hx,e'⟩|⟨xs,hx,e'⟩|⟨kvs,hx,e'⟩
  ·subst e'
   obtain⟨its,r,pl,hz⟩:=I.list hx
   have hlen:=r.length
   exact wpAny_truthy_list pl.isList (by simp only[size_toArray];lia) ⟨H,I.tok _,by rw[ZK r];exact q⟩
  ·subst e'
   obtain⟨its,r,pl,hz⟩:=I.tuple hx
   have hlen:=r.length
   exact truthy_tuple pl (by simp only[size_toArray];lia) ⟨H,I.tok _,by rw[ZK r];exact q⟩
  ·subst e'
   obtain⟨hz,hS,vs,r,m⟩:kvs.length<=sizeLine/\(p==sysModules)=false/\∃vs,KV kvs vs/\s.heap.DictOf (uP X.prog X.w) p vs:=I.hok p _ hx
   have hlen:kvs.length=vs.length:=aec r
   exact wpAny_truthy_dict hS m (by lia) ⟨H,I.tok _,by rw[zRg r];exact q⟩
 |_=>exact(show False from e).elim
theorem zXc(n:PE X a ta)(m:∀d,isTrue a X.env d=(do let v <-d;standAt a.pos;holding [v] (truthy v))) :
  PT X a (λσ H Q=>ta σ H λx H'=>∃k,Ba X.K x H' k/\Q k H'):=by
 intro e s σ H Q I h
 exact isTrue_plain (aP (n e s σ H _ I h) (by rintro v j ⟨x,i,g,f,l⟩;exact Ie e j σ i x v Q g f l)) (m _)
theorem zQ2:gO X (binaryOp .Add) (λx y H Q=>∃i j,x=.str i/\y=.str j/\i.length+j.length<=sizeLine/\Q (.str (i++j)) H):=by
 intro pins s σ H x y v u Q I g d h
 obtain⟨i,j,rfl,rfl,f,q⟩:=h
 obtain⟨t,rfl⟩:=g
 obtain⟨e,rfl⟩:=d
 exact add_str (λe tk=>⟨.str (i++j),H,I.tok _,⟨_,rfl⟩,q⟩) f
def ZL(b:Expr):Prop:=∀o i,subscripted b false o i=operate [o,i] (getItem o i)
theorem zNe(n:PE X a ta)(r:PE X b tb)(l:ZL b) :
  PE X (.Subscript a b pos) (dH (λx y H Q=>∃z i c,x=.str z/\y=.int i/\0<=i/\i<2^63/\i<z.length/\z.cps[i.toNat]?=some c/\Q (.str ⟨#[c]⟩) H) ta tb):=by
 intro pins s σ H Q I h
 refine Subscript_ (Ay n r I h λv u j x y p f o d q=>?_)
 obtain⟨z,i,c,rfl,rfl,k,h63,g,m,q⟩:=q
 obtain⟨t,rfl⟩:=o
 obtain⟨t',rfl⟩:=d
 have e:=PySem.StrLaws.seqIndex_nonneg k g
 exact tail_any (typeIs_str j z t) slot_str_getitem.lookup (getItem_str (c:=c) (by
  grind) (by rw[e];exact m) ⟨.str ⟨#[c]⟩,p,f.tok _,⟨_,rfl⟩,q⟩) (l _ _)
theorem Bb(r:Vals [x] us):∃u,us=[u]/\RelV x u:=by
 cases r with
 |cons r1 r2=>cases r2;exact⟨_,rfl,r1⟩
theorem vals2(r:Vals [x,y] us):∃u w',us=[u,w']/\RelV x u/\RelV y w':=by
 cases r with
 |cons r1 e =>
  cases e with
  |cons r3 d=>cases d;grind
theorem zVo(e:X.calm=true):pP X (.builtin "min") (λxs H Q=>∃i j,xs=[.int i,.int j]/\Q (.int (if j<i then j else i)) H):=by
 intro pins s σ H xs us Q I r h
 obtain⟨i,j,rfl,q⟩:=h
 obtain⟨u,w',rfl,⟨t,rfl⟩,⟨t',rfl⟩⟩:=vals2 r
 refine min_two_ints (I.ok.hd e) λh' tk k=>⟨_,H,I.kept k,?_,q⟩
 by_cases d:j<i
 ·rw[if_pos d,if_pos d];exact⟨_,rfl⟩
 ·rw[if_neg d,if_neg d];exact⟨_,rfl⟩
theorem zVq:pP X (.type "int") (λxs H Q=>(∃i,xs=[.int i]/\Q (.int i) H)\/∃k,xs=[.bl k]/\Q (.int (if k then 1 else 0)) H):=by
 intro pins s σ H xs us Q I r h
 rcases h with⟨i,rfl,q⟩|⟨k,rfl,q⟩
 ·obtain⟨u,rfl,t,rfl⟩:=Bb r
  exact call_int_int ⟨.int i,H,I,⟨_,rfl⟩,q⟩
 ·obtain⟨u,rfl,d⟩:=Bb r
  cases d
  exact call_int_bool ⟨.int (if k then 1 else 0),H,I.tok _,⟨_,rfl⟩,q⟩
def V7(K:Frag)(x:V)(H:Hp)(n:Nat):Prop :=
 match x with
 |.str y=>y.length<=sizeLine/\n=y.length
 |.Al y=>y.size<=sizeLine/\n=y.size
 |.ref p=>(∃d,aW K H p d/\n=d.length)\/∃d,gF K H p d/\n=d.length
 |_=>False
theorem zYj:pP X (.builtin "len") (λxs H Q=>∃x n,xs=[x]/\V7 X.K x H n/\Q (.int n) H):=by
 intro pins s σ H xs us Q I r h
 obtain⟨x,n,rfl,e,q⟩:=h
 obtain⟨u,rfl,rx⟩:=Bb r
 have hl:=Ib
 have hs:sizeLine=16777216:=sizeLine_eq
 cases x with
 |str y =>
  obtain⟨t,rfl⟩:=rx
  obtain⟨hy,e'⟩:y.length<=sizeLine/\n=y.length:=e
  subst e'
  exact len_str (by omega) ⟨.int _,H,I.tok _,⟨_,rfl⟩,q⟩
 |Al y =>
  obtain⟨t,rfl⟩:=rx
  obtain⟨hy,e'⟩:y.size<=sizeLine/\n=y.size:=e
  subst e'
  exact PySem.W.len_bytes (by omega) ⟨.int _,H,I.tok _,⟨_,rfl⟩,q⟩
 |ref p =>
  cases rx
  have e':(∃xs,aW X.K H p xs/\n=xs.length)\/∃xs,gF X.K H p xs/\n=xs.length:=e
  rcases e' with⟨xs,hx,e'⟩|⟨xs,hx,e'⟩
  ·subst e'
   obtain⟨its,r',pl,hz⟩:=I.list hx
   have hlen:=r'.length
   exact Calls.call_len_list pl.isList (by simp only[size_toArray];omega) ⟨.int xs.length,H,I.tok _,⟨_,by simp only[size_toArray];rw[hlen]⟩,q⟩
  ·subst e'
   obtain⟨its,r',pl,hz⟩:=I.tuple hx
   have hlen:=r'.length
   exact len_tuple pl (by simp only[size_toArray];omega) ⟨.int xs.length,H,I.tok _,⟨_,by simp only[size_toArray];rw[hlen]⟩,q⟩
 |_=>exact(show False from e).elim
end
structure pX(h:Heap)(x dx C:Addr)(mA:Str->Option Value):Prop where
 obj:h.get? x=some (instObj C dx)
 ns:h.Ns1 dx mA
 ne:dx≠x
theorem zUg{h:Heap}(n:h.Ns1 l m):∃od,h.get? l=some od/\∀name,lookIn name od=some (m name):=by
 obtain⟨o,k,ep,g,j,f,_,d⟩:=n
 refine⟨o,g,λname=>?_⟩
 have e:=d name
 unfold nsFind findBy at e
 unfold lookIn
 rw[j]
 dsimp only
 split
 ·grind
 ·have a:k.toList.any (·.refKey)=false:=by
   rw[any_eq_false]
   intro y i
   obtain⟨z,t,c⟩:=f y (Array.mem_toList_iff.mp i)
   simp[DictEntry.refKey,c]
  grind
theorem pX.look(I:pX h x c C d):∃od,PySem.W.InstAt h x (instObj C c) C (some od)/\∀name,lookIn name od=some (d name) :=
 let⟨od,b,e⟩:=zUg I.ns
 ⟨od,⟨I.obj,rfl,rfl,b⟩,e⟩
section
variable{prog:Program}{w:World}{A:Around}{E:Value->Shared->Prop}{s:Shared}{K:Frag}{x dx C f:Addr}{mA:Str->Option Value}{name:Str}{v:Value}
theorem get_map{Q:Value->Shared->Prop}(X:K.In s.heap)(I:pX s.heap x dx C mA)(d:plainGet K C name=true)(c:hasDictIn K C=true)(b:findIn K (.ref C) name=some none)(hv:mA name=some v)(a:PySem.W.handedIn v=true)(h:Q v { s with toks:=s.toks+1 }) :
  wpAny (model prog w) A (getAttr (.ref x) name expr) Q E s:=by
 obtain⟨od,J,hl⟩:=I.look
 exact PySem.W.get_value X J (ael d).1 (PySem.W.findObj_own c b rfl (by grind)) a h
theorem zX5{Q:Value×List Value->Shared->Prop}(X:K.In s.heap)(I:pX s.heap x dx C mA)(hg:plainGet K C name=true)(hf:findIn K (.ref C) name=some (some (.ref f)))(ht:isFn K (.ref f)=true)(hv:mA name=none)(h:Q (.ref f,[.ref x]) s) :
  wpAny (model prog w) A (getMethod (.ref x) name pl) Q E s:=by
 obtain⟨od,J,hl⟩:=I.look
 exact PySem.W.method_fn X J (ael hg).1 (ael hg).2 hf (beq_iff_eq.mp ht) (by show(lookIn name od).map (·.isSome)=some false;rw[hl,hv];rfl) h
theorem Bc{Q:Unit->Shared->Prop}(X:K.In s.heap)(I:pX s.heap x dx C mA)(k:findIn K (.ref C) "__setattr__" = some (some (.builtin "object.__setattr__")))(l:PySem.W.plainOver K C=true)(o:takerIn K C name=some none)(n:hasDictIn K C=true)(q:aey mA ns)(hsz:ns.length<=sizeLine)(h:∀h',pX h' x dx C (λy=>if y=name then some v else mA y)->SameBut dx s.heap h'->Q () { s with heap:=h',toks:=s.toks+2 }) :
  wpAny (model prog w) A (setAttr (.ref x) name v) Q E s:=by
 obtain⟨od,J,hl⟩:=I.look
 refine PySem.W.set_plain X J k (PySem.W.osa_open (s:={ s with toks:=s.toks+1 }) (r:=none) X J l o λb=>?_)
 obtain⟨cd,p,i⟩:=PySem.W.any_some n
 have m:=I.obj
 refine aak (aal (aak (aak (wpAny_loadPart m (aak (PySem.W.Looks.here (s:={ s with toks:=s.toks+1 }) (PySem.W.looks_clsIn X p) ?_))))))
 rw[i]
 refine aal (a:=some dx) (aak (aal (aak ?_)))
 refine wpAny_nsSet1 (s:={ s with toks:=s.toks+1 }) I.ns λh' d c=>?_
 obtain⟨oD,esD,epD,e,g,j⟩:=d.count (PySem.Within.cons name v q)
 refine aak (wpAny_lookBehind e (by rw[g];exact pastItsLine_dict (aa0 j (by grind))) ?_)
 exact aal (h _ ⟨(c.2 _ (acf I.ne)).trans I.obj,d,I.ne⟩ c)
theorem zXu(X:K.In s.heap)(d:PySem.W.makesIn K C=true)(e:findIn K (.ref C) "__init__" = some (some (.ref f)))(c:typeIn K (.ref f)=some (.type "function"))(h:codeAny (model prog w) (A.under (.builtin "type.__call__" ⟨.ref C::vs,b⟩)) (.call (.ref f) ⟨.ref (s.heap.objs.size+1)::vs,b⟩) (PySem.W.InitBack (s.heap.objs.size+1) R)
   { s with heap:=(s.heap.push emptyDict).push (instObj C s.heap.objs.size) }) :
  codeAny (model prog w) A (.call (.ref C) ⟨vs,b⟩) R s:=by
 exact PySem.W.make_core (PySem.W.makes_of X d) (PySem.W.looks_findIn X e) (λa=>PySem.W.bind_fn X a c) (.inl rfl) h
end
def aq(f:Str)(v:V):List (Str×V)->List (Str×V)
 |[]=>[(f,v)]
 | (g,x)::r=>if g=f then(g,v)::r else(g,x)::aq f v r
theorem zQ(f g:Str)(v:V):∀fs:List (Str×V),(aq f v fs).lookup g=if g=f then some v else fs.lookup g
 |[]=>by
  show List.lookup g [(f,v)]=_
  grind
 | (k,x)::r=>by
  have ih:=zQ f g v r
  rw[show aq f v ((k,x)::r)=(if k=f then(k,v)::r else(k,x)::aq f v r) from rfl]
  grind
theorem V8(f:Str)(v:V):∀fs:List (Str×V),f∈(aq f v fs).map (·.1)/\∀g,g∈fs.map (·.1)->g∈(aq f v fs).map (·.1)
 |[]=>⟨by simp[aq],λg h=>by simp at h⟩
 | (k,x)::r=>by
  obtain⟨i1,i2⟩:=V8 f v r
  rw[show aq f v ((k,x)::r)=(if k=f then(k,v)::r else(k,x)::aq f v r) from rfl]
  grind
theorem ZM(f:Str)(v:V):∀fs:List (Str×V),(aq f v fs).length<=fs.length+1
 |[]=>by simp[aq]
 | (k,x)::r=>by
  have ih:=ZM f v r
  rw[show aq f v ((k,x)::r)=(if k=f then(k,v)::r else(k,x)::aq f v r) from rfl]
  grind
theorem gH.some_of(r:gH (some v) o):∃u,o=some u/\RelV v u:=by
 cases o with
 |none=>exact(r).elim
 |some u=>exact⟨u,rfl,r⟩
theorem gH.none_of(r:gH none o):o=none:=by
 cases o with
 |none=>rfl
 |some u=>exact(r).elim
theorem zUv(r:RelV v u):PySem.W.handedIn u=true:=by
 cases v with
 |non=>cases(r);rfl
 |bl b=>cases(r);rfl
 |int i=>obtain⟨t,e⟩:=(r);cases e;rfl
 |str x=>obtain⟨t,e⟩:=(r);cases e;rfl
 |Al b=>obtain⟨t,e⟩:=(r);cases e;rfl
 |flt b=>obtain⟨t,e⟩:=(r);cases e;rfl
 |ref a=>cases(r);rfl
 |ty n=>cases(r);rfl
section
variable{P:Program}{w:World}{H H':Hp}{h h':Heap}{a C dx:Addr}{fs fs':List (Str×V)}
theorem R9(c:dR P w H h)(e:H a=some (.ins C dx fs)):∃b,pX h a dx C b/\(∀f,gH (fs.lookup f) (b f))/\aey b (fs.map (·.1))/\fs.length<=1000/\H dx=some (.own a):=by
 obtain⟨d,z,g,i,b,n,r,q⟩:=(c a _ e)
 exact⟨b,⟨i,n,g⟩,r,q,z,d⟩
end
structure Cls(K:Frag)(C:Addr):Prop where
 pg:plainGet K C ado=true
 hd:hasDictIn K C=true
 po:PySem.W.plainOver K C=true
 sa:findIn K (.ref C) "__setattr__" = some (some (.builtin "object.__setattr__"))
theorem Cls.get{K:Frag}{C:Addr}(c:Cls K C)(f:Str):plainGet K C f=true:=c.pg
def bh(K:Frag)(C:Addr)(f:Str):Prop:=findIn K (.ref C) f=some none
theorem bh.taker{K:Frag}{C:Addr}{f:Str}(n:bh K C f):takerIn K C f=some none:=by
 unfold takerIn
 rw[n]
 rfl
structure Meth(K:Frag)(C:Addr)(m:Str)(f:Addr):Prop where
 at_:findIn K (.ref C) m=some (some (.ref f))
 fn:isFn K (.ref f)=true
 kp:keepIn K (.ref f)=true
section
variable{X:Cx}{pins:List (Addr×Obj)}{σ:St}{H:Hp}{s:Shared}{a C dx:Addr}{fs:List (Str×V)}{f:Str}{v:V}{A:Around}{E:Value->Shared->Prop}
theorem zRi{Q:Value->Shared->Prop}(I:Inv X pins σ H s)(e:H a=some (.ins C dx fs))(c:Cls X.K C)(n:bh X.K C f)(l:fs.lookup f=some v)(h:∀u s',Inv X pins σ H s'->RelV v u->Q u s'):wpAny (model X.prog X.w) A (getAttr (.ref a) f b) Q E s:=by
 obtain⟨g,O,r,_,_,_⟩:=R9 I.hok e
 obtain⟨u,i,d⟩:=gH.some_of (v:=v) (o:=g f) (by grind)
 exact get_map I.gJ O (c.get f) c.hd n i (zUv d) (h u _ (I.tok _) d)
theorem ZP{Q:Value×List Value->Shared->Prop}(I:Inv X pins σ H s)(e:H a=some (.ins C dx fs))(c:Cls X.K C)(k:Meth X.K C m g)(l:fs.lookup m=none)(h:Q (.ref g,[.ref a]) s):wpAny (model X.prog X.w) A (getMethod (.ref a) m pl) Q E s:=by
 obtain⟨b,O,r,_,_,_⟩:=R9 I.hok e
 have d:b m=none:=gH.none_of (by grind)
 exact zX5 I.gJ O (c.get m) k.at_ k.fn d h
theorem zQu{Q:Unit->Shared->Prop}(I:Inv X pins σ H s)(e:H a=some (.ins C dx fs))(c:Cls X.K C)(n:bh X.K C f)(hl:fs.length<1000)(p:RelV y u)(h:∀s',Inv X pins σ (upd H a (.ins C dx (aq f y fs))) s'->Q () s'):wpAny (model X.prog X.w) A (setAttr (.ref a) f u) Q E s:=by
 obtain⟨m,O,r,i,_,j⟩:=R9 I.hok e
 have B:(fs.map (·.1)).length<=sizeLine:=by rw[length_map,sizeLine_eq];lia
 refine Bc I.gJ O c.sa c.po n.taker c.hd i B λD d k=>h _ ?_
 have t:∃o,D.get? dx=some o:=let⟨o,_,_,G,_⟩:=d.ns;⟨o,G⟩
 refine I.write (x:=a) (e:=dx) (by rw[e];exact acr) (.inr j) (λb q l z=>(k.2 b l).trans z) t ?_
 refine⟨by rw[zR O.ne];exact j,?_,O.ne,d.obj,_,d.ns,λg=>?_,λg F=>?_⟩
 ·have:=ZM f y fs;lia
 ·show gH ((aq f y fs).lookup g) (if g=f then some u else m g)
  rw[zQ]
  by_cases q:g=f
  ·rw[if_pos q,if_pos q];exact p
  grind
 ·by_cases q:g=f
  ·rw[q];exact(V8 f y fs).1
  ·refine(V8 f y fs).2 g (i g λz=>F ?_)
   grind
theorem Inv.made(I:Inv X pins σ H s):Inv X pins σ (upd (upd H s.heap.objs.size (.own (s.heap.objs.size+1))) (s.heap.objs.size+1) (.ins C s.heap.objs.size []))
  { s with heap:=(s.heap.push emptyDict).push (instObj C s.heap.objs.size) }:=by
 have d:(s.heap.push emptyDict).get? s.heap.objs.size=some emptyDict:=get?_push_size s.heap rfl
 have j:=by
  have:=get?_push_size (s.heap.push emptyDict) (o:=instObj C s.heap.objs.size) rfl
  rwa [size_push] at this
 have k:(s.heap.push emptyDict).Ns s.heap.objs.size (λ_=>none):=⟨emptyDict,#[],_,d,rfl,(λe l=>absurd l (by simp)),λ_=>rfl⟩
 have h:=I.laid (o:=.own (s.heap.objs.size+1)) (t':=s.toks) (λb u q=>get?_push_of_some _ q) (aao _) ⟨_,d⟩
 refine h.laid (λb u q=>get?_push_of_some _ q) (Nat.le_of_eq (size_push _ _)) ?_
 have g:s.heap.objs.size≠s.heap.objs.size+1:=aat (ab9 _)
 refine⟨by rw[zR g,zO],aa5 _,g,j,λ_=>none,(Heap.Ns1.of_empty k).at λo q=>get?_push_of_some _ q,λ_=>acr,λy i=>absurd rfl i⟩
theorem Bd(b:attributeBase e f env (eval e env)=eval e env)(h:wpAny (model prog w) A (eval e env) (λo c=>wpAny (model prog w) A (getAttr o f true) Q E c) E s):wpAny (model prog w) A (eval (.Attribute e f pos) env) Q E s :=
 Attribute_any_ h (by rw[arm_eval_Attribute,b])
end
def mU(K:Frag)(d:TE)(f:Str):TE:=λσ H Q=>d σ H λx c=>∃a C g b v,x=.ref a/\c a=some (.ins C g b)/\Cls K C/\bh K C f/\b.lookup f=some v/\Q v c
def V9(K:Frag)(h g:TE)(f:Str):TS:=λD σ H=>g σ H λy i=>h σ i λx d=>∃a C c b,x=.ref a/\d a=some (.ins C c b)/\Cls K C/\bh K C f/\b.length<1000 /\
 D.nx σ (upd d a (.ins C c (aq f y b)))
section
variable{X:Cx}{o e value:Expr}{f:Str}{pos pos' tpos:Pos}{ta tv:TE}
theorem ZQ(p:PE X e ta)(d:attributeBase e f X.env (eval e X.env)=eval e X.env):PE X (.Attribute e f pos) (mU X.K ta f):=by
 intro b s σ H Q I h
 refine Bd d (aP (p b s σ H _ I h) ?_)
 rintro u s1 ⟨x,m,j,r,a,C,dx,fs,v,t,i,c,n,l,q⟩
 subst t
 obtain rfl:u=abj a:=r
 exact zRi j i c n l λu' s2 g k=>⟨v,m,g,k,q⟩
theorem zq(m:PE X o ta)(i:PE X value tv)(k:swapsWith value (some (.Attribute o f pos')) pos.line X.env=pure false):PS X (.Assign [.Attribute o f pos'] value pos) (V9 X.K ta tv f):=by
 intro b s σ H D I h
 refine plainObj_wpAny_Assign_Attribute (aP (i b s σ H _ I h) λu d ⟨y,j,B,v,q⟩=>aP (m b d σ j _ B q) ?_) k
 rintro t s2 ⟨x,H2,g,p,a,C,dx,fs,w,z,c,n,l,r⟩
 subst w
 obtain rfl:t=abj a:=p
 exact zQu g z c n l v λs3 A=>⟨σ,_,A,r⟩
end
section
variable{X:Cx}{pins:List (Addr×Obj)}{σ:St}{H:Hp}{s:Shared}{A:Around}{E:Value->Shared->Prop}{Q:Value->Shared->Prop}{c:Value}{b:Bool}
inductive gP(K:Frag)(H:Hp):V->Value->Prop where
 |non:gP K H .non (.type "NoneType")
 |bl (x:Bool):gP K H (.bl x) (.type "bool")
 |int (i:Int):gP K H (.int i) (.type "int")
 |str (x:Str):gP K H (.str x) (.type "str")
 |flt (x:UInt64):gP K H (.flt x) (.type "float")
 |lst {a:Addr} {xs:List V} (e:H a=some (.lst xs)):gP K H (.ref a) (.type "list")
 |mL {a:Addr} {o:Obj} {xs:List V} (e:H a=some (.mL o (.lst xs))):gP K H (.ref a) (.type "list")
 |tup {a:Addr} {xs:List V} (e:H a=some (.tup xs)):gP K H (.ref a) (.type "tuple")
 |dK {a:Addr} {kvs:List (Key×V)} (e:H a=some (.dK kvs)):gP K H (.ref a) (.type "dict")
 |dT {a:Addr} {kvs:List (List Key×V)} (e:H a=some (.dT kvs)):gP K H (.ref a) (.type "dict")
 |ins {a C dx:Addr} {fs:List (Str×V)} (e:H a=some (.ins C dx fs)) (cl:Cls K C) (ha:findIn K (.ref C) "__class__" = some (some (.builtin "object.__class__")))
   (hn:specialIn K (.builtin "object.__class__") "__get__" = some (some (.builtin "getset_descriptor.__get__"))) (htk:takesIn K (.builtin "object.__class__")=some true)
   (hm:mroIn K C (.type "object")=some true):gP K H (.ref a) (.ref C)
theorem zUq(I:Inv X pins σ H s)(g:RelV x u)(F:gP X.K H x t)(e:kitOne X.K t c=some b)(h:∀tk,Q (.bool b) { s with toks:=tk }) :
  wpAny (model X.prog X.w) A (call (.builtin "isinstance") [u,c]) Q E s:=by
 cases F with
 |non=>cases(show u=adk from g);exact adu PySem.W.kitx_none I.gJ acr e (λz=>nomatch z) h
 |bl y=>cases(show u=Value.bool y from g);exact adu PySem.W.kitx_bool I.gJ acr e (λz=>nomatch z) h
 |int i=>obtain⟨t,q⟩:=(show∃t,u=ab3 i t from g);cases q;exact adu PySem.W.kitx_int I.gJ acr e (λz=>nomatch z) h
 |str y=>obtain⟨t,q⟩:=(show∃t,u=Value.str y t from g);cases q;exact adu PySem.W.kitx_str I.gJ acr e (λz=>nomatch z) h
 |flt y=>obtain⟨t,q⟩:=(show∃t,u=Value.float y t from g);cases q;exact adu PySem.W.kitx_float I.gJ acr e (λz=>nomatch z) h
 |@lst a l f =>
  cases(show u=abj a from g)
  obtain⟨_,_,n,_,j⟩:=(show bI X.prog X.w H s.heap a (.lst l) from I.hok a _ f)
  exact adu PySem.W.kitx_list I.gJ ⟨_,j,rfl⟩ e (λz=>nomatch z) h
 |@mL a ob l f =>
  cases(show u=abj a from g)
  obtain⟨_,_,_,n,_,j⟩:=(show bI X.prog X.w H s.heap a (.mL ob (.lst l)) from I.hok a _ f)
  exact adu PySem.W.kitx_list I.gJ ⟨_,j,rfl⟩ e (λz=>nomatch z) h
 |@tup a l f =>
  cases(show u=abj a from g)
  obtain⟨_,_,_,p⟩:=(show bI X.prog X.w H s.heap a (.tup l) from I.hok a _ f)
  obtain⟨o,j,m,_⟩:=p
  exact adu PySem.W.kitx_tuple I.gJ ⟨o,j,m⟩ e (λz=>nomatch z) h
 |@dK a k f =>
  cases(show u=abj a from g)
  obtain⟨_,_,vs,_,p⟩:=(show bI X.prog X.w H s.heap a (.dK k) from I.hok a _ f)
  obtain⟨o,B,G,j,m,_⟩:=p
  exact adu PySem.W.kitx_dict I.gJ ⟨o,j,m.1⟩ e (λz=>nomatch z) h
 |@dT a k f =>
  cases(show u=abj a from g)
  obtain⟨_,_,l,_,o,B,G,j,m,_⟩:=(show bI X.prog X.w H s.heap a (.dT k) from I.hok a _ f)
  exact adu PySem.W.kitx_dict I.gJ ⟨o,j,m.1⟩ e (λz=>nomatch z) h
 |@ins a C dx fs f v L hn r D =>
  cases(show u=abj a from g)
  obtain⟨mA,O,_⟩:=R9 I.hok f
  obtain⟨od,J,_⟩:=O.look
  exact adu (PySem.W.kitx_own (v.get _) v.hd L hn r D) I.gJ J e (λz=>nomatch z) h
end
structure bG(k:Nat)(A:Around):Prop where
 hd:A.handled=none
 dp:A.depth+3*k+5<recursionLimit
 un:A.units+16*k+200<cLine
theorem bG.mono(r:bG k A)(h:j<=k):bG j A:=⟨r.hd,by have:=r.dp;lia,by have:=r.un;omega⟩
theorem bG.deeper(r:bG (k+1) A)(env:Env):bG k (A.deeper env) :=
 ⟨r.hd,by have:=r.dp;show A.depth+1+3*k+5<_;lia,by have:=r.un;show A.units+3+16*k+200<_;omega⟩
theorem zRd{A:Around}:(A.under (.builtin "type.__call__" ⟨.ref C::us,kw⟩)).depth=A.depth+1:=by
 first|rfl|grind
theorem zRc{A:Around}:(A.under (.builtin "type.__call__" ⟨.ref C::us,kw⟩)).units=A.units+1:=by
 first|rfl|grind
theorem bG.make(r:bG (k+1) A)(C:Addr)(us:List Value)(a:List (Str×Value)):bG k (A.under (.builtin "type.__call__" ⟨.ref C::us,a⟩)) :=
 ⟨r.hd,by have:=r.dp;rw[zRd];lia,by have:=r.un;rw[zRc];omega⟩
theorem bG.depth(r:bG k A):A.depth<recursionLimit:=by have:=r.dp;lia
theorem bG.units(r:bG k A):A.units+64<cLine:=by have:=r.un;lia
def aY:TA:=λ_ H Q=>Q [] H
def xI(a:TE)(e:TA):TA:=λσ H Q=>a σ H λx c=>e σ c λd b=>Q (x::d) b
section
variable{X:Cx}{e:Expr}{es:List Expr}{te:TE}{t:TA}{pos:Pos}
theorem zF:PA X [] aY:=λ_ _ _ _ H Q I h=>adp ⟨[],H,I,.nil,h⟩
theorem zA(n:PE X e te)(k:PA X es t)(m:starEach (e::es) X.env=(false,eval e X.env)::starEach es X.env:=by rfl):PA X (e::es) (xI te t):=by
 intro pos a s σ H Q I h
 rw[m]
 refine adi (aP (n a s σ H _ I h) ?_)
 rintro u o ⟨x,j,g,f,l⟩
 exact aP (k pos a o σ j _ g l) (by rintro us s2 ⟨i,p,d,c,b⟩;exact⟨x::i,p,d,.cons f c,b⟩)
def Bg(t:TA):TE:=λσ H Q=>t σ H λb c=>b.length<=sizeLine/\∀p,c p=none->Q (.ref p) (upd c p (.tup b))
def um(t:TA):TE:=λσ H Q=>t σ H λa b=>a.length<=sizeLine/\∀p,b p=none->Q (.ref p) (upd b p (.lst a))
theorem xX{f}(h:PA X es t):PE X (.Tuple es f pos) (Bg t):=by
 intro a s σ H Q I l
 refine wpAny_Tuple_spliced (aP (h pos a s σ H _ I l) λk d ⟨g,i,c,r,z,q⟩=>⟨by rw[<-r.length];exact z,?_⟩)
 have j:=c.hok.fresh (aao _)
 refine⟨.ref d.heap.objs.size,upd i d.heap.objs.size (.tup g),c.laid (λb u e=>get?_push_of_some _ e) (aao _) ?_,rfl,q _ j⟩
 exact⟨z,k,r,⟨_,get?_push_size _ rfl,rfl,_,rfl⟩⟩
theorem wU(h:PA X es t):PE X (.List es pos) (um t):=by
 intro a s σ H Q I f
 refine wpAny_List_spliced (aP (h pos a s σ H _ I f) λk c ⟨g,i,d,r,z,q⟩=>⟨by rw[<-r.length];exact z,?_⟩)
 have j:=d.hok.fresh (aao _)
 refine⟨.ref c.heap.objs.size,upd i c.heap.objs.size (.lst g),d.laid (λb u e=>get?_push_of_some _ e) (aao _) ?_,rfl,q _ j⟩
 exact⟨z,k,0,r,get?_push_size _ rfl⟩
end
abbrev Sp:=List V->Hp->VK->XK->Prop
abbrev sZ:=List Env->Hp->Shared->XK->Value->Shared->Prop
structure pY(P:Program)(w:World)(K:Frag)(mg:Str->Option Value)(base:Heap)(A:Around)(outer:List Env)(s:Shared)(H:Hp):Prop where
 frames:A.frames=some outer
 mod:Mod K mg base
 bs:∀b o,base.get? b=some o->s.heap.get? b=some o/\H b=none
 Ao:base.objs.size<=s.heap.objs.size
 jt:s.heap.FunFrames base outer
 Hw:∀b∈frs outer,H b=none
 hok:dR P w H s.heap
 bare:AllBare s.gens
def CE(b:List Env)(P:Program)(w:World)(H:Hp)(s:Shared)(Q:VK)(u:Value)(s':Shared):Prop :=
 ∃v c,s'.os=s.os/\AllBare s'.gens/\Un (frs b) [] H c s.heap s'.heap/\dR P w c s'.heap/\RelV v u/\Q v c
def CR(CX:sZ)(a:List Env)(P:Program)(w:World)(H:Hp)(s:Shared)(Q:VK)(E:XK)(r:Result)(s':Shared):Prop :=
 match r with
 |.ok (.ret u)=>CE a P w H s Q u s'
 |.ok _=>False
 |.error e=>CX a H s E e s'
structure aH(P:Program)(w:World)(K:Frag)(mg:Str->Option Value)(base:Heap)(CX:sZ)(k:Nat)(f:Addr)(fd:FuncData)(ps:List Str)(sp:Sp):Prop where
 len:∀vs H Q E,sp vs H Q E->vs.length=ps.length
 run:∀(A:Around)(outer:List Env)(s:Shared)(H:Hp)(args:Args)(us:List Value)(vs:List V)(Q:VK)(E:XK),bG k A->pY P w K mg base A outer s H->BindsTo s fd args (ps.zip us)->Vals vs us->sp vs H Q E ->
  codeAny (model P w) A (.call (.ref f) args) (CR CX outer P w H s Q E) s
theorem aH.mono{P:Program}{w:World}{K:Frag}{mg:Str->Option Value}{base:Heap}{CX:sZ}{j k:Nat}{f:Addr}{c:FuncData}{ps:List Str}{sp:Sp}(F:aH P w K mg base CX j f c ps sp)(h:j<=k) :
  aH P w K mg base CX k f c ps sp:=⟨F.len,λA a s H b g d Q E e=>F.run A a s H b g d Q E (e.mono h)⟩
theorem aH.imp{P:Program}{w:World}{K:Frag}{mg:Str->Option Value}{base:Heap}{CX:sZ}{k:Nat}{f:Addr}{e:FuncData}{ps:List Str}{sp d:Sp}(F:aH P w K mg base CX k f e ps sp)(h:∀vs H Q E,d vs H Q E->sp vs H Q E):aH P w K mg base CX k f e ps d :=
 ⟨λvs H Q E q=>F.len vs H Q E (h _ _ _ _ q),λA b s H c l vs Q E n i g m j=>F.run A b s H c l vs Q E n i g m (h _ _ _ _ j)⟩
theorem pY.make{P:Program}{w:World}{K:Frag}{mg:Str->Option Value}{base:Heap}{A:Around}{a:List Env}{s:Shared}{H:Hp}(e:pY P w K mg base A a s H)(C:Addr)(us:List Value)(b:List (Str×Value)) :
  pY P w K mg base (A.under (.builtin "type.__call__" ⟨.ref C::us,b⟩)) a s H:=⟨by first|exact e.frames|grind,e.mod,e.bs,e.Ao,e.jt,e.Hw,e.hok,e.bare⟩
section
variable{X:Cx}{pins:List (Addr×Obj)}{σ:St}{H:Hp}{s s':Shared}
theorem Inv.env0(I:Inv X pins σ H s):pY X.prog X.w X.K X.mg X.base X.A X.stack s H :=
 ⟨I.ok.frames,I.ok.mod,I.bs,aa0 I.ok.Ao I.sz,I.stack,I.qN,I.hok,I.bare⟩
theorem Inv.after(I:Inv X pins σ H s)(h:CE X.stack X.prog X.w H s Q u s'):EP X pins σ Q u s':=by
 obtain⟨v,j,os,c,i,e,r,q⟩:=h
 obtain⟨hh,g,d,t,f⟩:=s'
 obtain rfl:f=s.os:=os
 exact⟨v,j,I.call i e c (λb z=>absurd z (by simp)),r,q⟩
end
def Ig(sp:Sp)(a:List V)(E:XK)(t:TA):TE:=λσ H Q=>t σ H λb c=>sp (b++a) c Q E
def Oa(C:Addr)(m:Str)(sp:Sp)(b:List V)(E:XK)(h:TE)(t:TA):TE:=λσ H Q=>h σ H λx d=>∃a g c,x=.ref a/\d a=some (.ins C g c)/\c.lookup m=none /\
 t σ d λf e=>sp (x::(f++b)) e Q E
def Ih(C:Addr)(sp:Sp)(c:List V)(E:XK)(t:TA):TE:=λσ H Q=>t σ H λe d=>∀x b,d x=none->d b=none->b≠x ->
 sp (.ref x::(e++c)) (upd (upd d b (.own x)) x (.ins C b [])) (λv f=>v=.non/\Q (.ref x) f) E
def Binds(K:Frag)(c:FuncData)(ps:List Str)(b:List Value):Prop :=
 ∀(s:Shared)(a:List Value),K.In s.heap->(a++b).length=ps.length->BindsTo s c ⟨a,[]⟩ (ps.zip (a++b))
theorem Binds.all{K:Frag}{b:FuncData}{ps:List Str}(h:∀us:List Value,us.length=ps.length->bindArgs b ⟨us,[]⟩=pure (ps.zip us)):Binds K b ps []:=λs us _ a=>by
 rw[append_nil] at a ⊢
 exact .of_eq (h us a)
def Bh(CX:sZ)(X:Cx)(E:XK):Prop:=∀(b:List (Addr×Obj))(σ:St)(H:Hp)(s:Shared)(e:Value)(c:Shared),Inv X b σ H s->CX X.stack H s E e c->X.xe e c
section
variable{X:Cx}{CX:sZ}{k:Nat}{f C:Addr}{fd:FuncData}{ps:List Str}{sp:Sp}{mV:List V}{ds:List Value}{E:XK}{x m:Str}{p pos apos:Pos}{e o:Expr}{es:List Expr}{ta:TE}{t:TA}
theorem R_(F:aH X.prog X.w X.K X.mg X.base CX k f fd ps sp)(j:bG k X.A)(d:Binds X.K fd ps ds)(n:Vals mV ds)(i:Bh CX X E)(I:Inv X a σ H s)(r:Vals vs us)(h:sp (vs++mV) H Q E):wpAny (model X.prog X.w) X.A (call (.ref f) us) (EP X a σ Q) X.xe s:=by
 have c:=r.append n
 have q:(us++ds).length=ps.length:=by rw[<-c.length];exact F.len _ _ _ _ h
 refine wpAny_call (ac7 (F.run X.A X.stack s H ⟨us,[]⟩ (us++ds) (vs++mV) Q E j I.env0 (d s us I.gJ q) c h) λr l b=>?_)
 cases r with
 |error e=>exact i a σ H s e l I b
 |ok g =>
  cases g with
  |ret u=>exact I.after b
  |next=>exact abl b
  |brk=>exact abl b
  |cont=>exact abl b
theorem Bj(F:aH X.prog X.w X.K X.mg X.base CX k f fd ps sp)(i:bG k X.A)(z:Gl X x)(l:X.mg x=some (.ref f))(v:keepIn X.K (.ref f)=true)(j:Binds X.K fd ps ds)(u:Vals mV ds)(B:Bh CX X E)(n:PA X (e::es) t)(d:(x==("__debug__":Str))=false:=by decide)(y:starEach (e::es) X.env=(false,eval e X.env)::starEach es X.env:=by rfl)(c:(backTo pos (starEach es X.env)).any (·.1)=false:=by rfl) :
  PE X (.Call (.Name x p) (e::es) [] pos) (Ig sp mV E t):=by
 intro b s σ H Q I h
 refine abf (Nx I z l ?_ d)
 refine aeg I.ok.mod.Lj v (aP (n pos b s σ H _ I h) λus s1 ⟨vs,H1,g,r,q⟩=>⟨g.gJ,?_⟩) y c
 exact R_ F i j u B g r q
theorem Bk(he:PE X o ta)(c:Cls X.K C)(j:Meth X.K C m f)(F:aH X.prog X.w X.K X.mg X.base CX k f fd ps sp)(hr:bG k X.A)(G:Binds X.K fd ps ds)(hd:Vals mV ds)(J:Bh CX X E)(ha:PA X (e::es) t)(g:starEach (e::es) X.env=(false,eval e X.env)::starEach es X.env:=by rfl)(i:(backTo pos (starEach es X.env)).any (·.1)=false:=by rfl)(ht:eval (.Call (.Attribute o m apos) (e::es) [] pos) X.env=(do
   let y <-eval o X.env
   standAt apos.atName
   let(f,first) <-holding [y] (getMethod y m pl)
   callWith pos f first (backTo pos (starEach (e::es) X.env)) (backToKw pos (keywordEach [] X.env))):=by rfl) :
  PE X (.Call (.Attribute o m apos) (e::es) [] pos) (Oa C m sp mV E ta t):=by
 intro b s σ H Q I h
 refine aee (aP (he b s σ H _ I h) ?_) ht
 rintro u z ⟨x,L,v,B,a,dx,fs,ex,ea,l,q⟩
 subst ex
 obtain rfl:u=abj a:=B
 refine ZP v ea c j l ?_
 refine aeg I.ok.mod.Lj j.kp (aP (ha pos b z σ L _ v q) λus s2 ⟨vs,H2,n,r,D⟩=>⟨n.gJ,?_⟩) g i
 exact R_ (vs:=.ref a::vs) F hr G hd J n (.cons rfl r) D
theorem zXd(G:PE X o ta)(c:Cls X.K C)(i:Meth X.K C m f)(F:aH X.prog X.w X.K X.mg X.base CX k f fd ps sp)(D:bG k X.A)(r:Binds X.K fd ps ds)(J:Vals mV ds)(v:Bh CX X E)(B:eval (.Call (.Attribute o m apos) [] [] pos) X.env=(do
   let j <-eval o X.env
   standAt apos.atName
   let(f,first) <-holding [j] (getMethod j m pl)
   callWith pos f first (backTo pos (starEach [] X.env)) (backToKw pos (keywordEach [] X.env))):=by rfl) :
  PE X (.Call (.Attribute o m apos) [] [] pos) (Oa C m sp mV E ta aY):=by
 intro d s σ H Q I h
 refine aee (aP (G d s σ H _ I h) ?_) B
 rintro u s1 ⟨x,H1,g,n,a,dx,fs,y,z,l,q⟩
 subst y
 obtain rfl:u=abj a:=n
 refine ZP g z c i l ?_
 exact PySem.W.callWith_K0 g.gJ i.kp (R_ (vs:=[.ref a]) F D r J v g (.cons rfl .nil) q)
structure Mk(K:Frag)(C f:Addr):Prop where
 makes:PySem.W.makesIn K C=true
 init:findIn K (.ref C) "__init__" = some (some (.ref f))
 fn:isFn K (.ref f)=true
 kp:keepIn K (.ref C)=true
theorem ZR(M:Mk X.K C f)(F:aH X.prog X.w X.K X.mg X.base CX k f fd ps sp)(hr:bG (k+1) X.A)(hb:Binds X.K fd ps ds)(hd:Vals mV ds)(hx:Bh CX X E)(I:Inv X pins σ H s)(r:Vals vs us)(h:∀x dx,H x=none->H dx=none->dx≠x->sp (.ref x::(vs++mV)) (upd (upd H dx (.own x)) x (.ins C dx [])) (λv H2=>v=.non/\Q (.ref x) H2) E) :
  wpAny (model X.prog X.w) X.A (call (.ref C) us) (EP X pins σ Q) X.xe s:=by
 have hq:=h (s.heap.objs.size+1) s.heap.objs.size (I.hok.fresh (abw _)) (I.hok.fresh (aao _)) (aat (ab9 _))
 have I2:=Inv.made (C:=C) I
 have r2:Vals (V.ref (s.heap.objs.size+1)::(vs++mV)) (abj (s.heap.objs.size+1)::(us++ds)):=.cons rfl (r.append hd)
 have hl:(abj (s.heap.objs.size+1)::us++ds).length=ps.length:=by
  have e:=r2.length
  rw[F.len _ _ _ _ hq] at e
  exact e.symm
 refine wpAny_call (zXu (f:=f) I.gJ M.makes M.init (beq_iff_eq.mp M.fn) (ac7 (F.run _ X.stack _ _ ⟨abj (s.heap.objs.size+1)::us,[]⟩ (abj (s.heap.objs.size+1)::(us++ds)) _ _ E (hr.make C us [])
  (I2.env0.make C us []) (hb _ (abj (s.heap.objs.size+1)::us) I2.gJ hl) r2 hq) λr s' hq'=>?_))
 cases r with
 |error e=>exact hx pins σ _ _ e s' I2 hq'
 |ok fl =>
  cases fl with
  |ret u =>
   obtain⟨v,H',I3,rv,ev,q3⟩:=I2.after hq'
   subst ev
   exact⟨rv,⟨V.ref (s.heap.objs.size+1),H',I3,rfl,q3⟩⟩
  |next=>exact abl hq'
  |brk=>exact abl hq'
  |cont=>exact abl hq'
theorem zx(M:Mk X.K C f)(F:aH X.prog X.w X.K X.mg X.base CX k f fd ps sp)(n:bG (k+1) X.A)(y:Gl X x)(l:X.mg x=some (.ref C))(j:Binds X.K fd ps ds)(u:Vals mV ds)(g:Bh CX X E)(i:PA X (e::es) t)(c:(x==("__debug__":Str))=false:=by decide)(v:starEach (e::es) X.env=(false,eval e X.env)::starEach es X.env:=by rfl)(b:(backTo pos (starEach es X.env)).any (·.1)=false:=by rfl) :
  PE X (.Call (.Name x p) (e::es) [] pos) (Ih C sp mV E t):=by
 intro a s σ H Q I h
 refine abf (Nx I y l ?_ c)
 refine aeg I.ok.mod.Lj M.kp (aP (i pos a s σ H _ I h) λus s1 ⟨vs,H1,d,r,q⟩=>⟨d.gJ,?_⟩) v b
 exact ZR M F n j u g d r q
theorem zXe(M:Mk X.K C f)(F:aH X.prog X.w X.K X.mg X.base CX k f fd ps sp)(c:bG (k+1) X.A)(d:Gl X x)(j:X.mg x=some (.ref C))(i:Binds X.K fd ps ds)(g:Vals mV ds)(b:Bh CX X E)(a:(x==("__debug__":Str))=false:=by decide):PE X (.Call (.Name x p) [] [] pos) (Ih C sp mV E aY):=by
 intro pins s σ H Q I h
 refine abf (Nx I d j ?_ a)
 exact PySem.W.callWith_K0 I.gJ M.kp (ZR M F c i g b I .nil h)
end
structure aF(N P:List Str)(sc:Scope):Prop where
 kind:sc.kind=.function
 co:sc.isCoroutine=false
 gen:sc.isGenerator=false
 nd:N.Nodup
 pre:N.take P.length=P
 par:∀x∈P,sc.names.lookup x=some .local\/sc.names.lookup x=some .cell
 Ii:∀y∈sc.names,y.2≠.free
theorem ZS{kindOf:Str->Option NameKind}{x:Str}:∀{a:List (Str×Value)}{m:Str->Option Value},(∀v,(x,v)∉a)->bindL kindOf a m x=m x
 |[],_,_=>rfl
 | (n,v)::r,m,h=>by
  unfold bindL
  rw[ZS λw b=>h w (mem_cons_of_mem _ b)]
  split
  ·grind
  ·rfl
theorem ZV{kindOf:Str->Option NameKind}{x:Str}:∀{a:List (Str×Value)}{m:Str->Option Value},(∀v,(x,v)∉a)->bindC kindOf a m x=m x
 |[],_,_=>rfl
 | (n,v)::r,m,h=>by
  unfold bindC
  rw[ZV λw b=>h w (mem_cons_of_mem _ b)]
  split
  ·rfl
  grind
theorem ZW{kindOf:Str->Option NameKind}:∀{P:List Str}{vs:List Value}{i:Nat}{m:Str->Option Value},P.Nodup->P[i]?=some x->vs[i]?=some v->kindOf x=some .local ->
  bindL kindOf (P.zip vs) m x=some v
 |[],_,_,_,_,h,_,_=>by simp at h
 |_::_,[],_,_,_,_,h,_=>by simp at h
 |p::P,w::vs,0,m,nd,h1,h2,hk=>by
  simp at h1 h2;subst h1;subst h2
  show bindL kindOf ((p,w)::P.zip vs) m p=_
  unfold bindL
  rw[ZS λv hv=>(nodup_cons.mp nd).1 (of_mem_zip hv).1,if_pos hk]
  simp
 |p::P,w::vs,i+1,m,nd,h1,h2,hk=>by
  show bindL kindOf ((p,w)::P.zip vs) m x=_
  unfold bindL
  exact ZW (i:=i) (nodup_cons.mp nd).2 (by simpa using h1) (by simpa using h2) hk
theorem ZX{kindOf:Str->Option NameKind}:∀{P:List Str}{vs:List Value}{i:Nat}{m:Str->Option Value},P.Nodup->P[i]?=some x->vs[i]?=some v->kindOf x≠some .local ->
  bindC kindOf (P.zip vs) m x=some v
 |[],_,_,_,_,h,_,_=>by simp at h
 |_::_,[],_,_,_,_,h,_=>by simp at h
 |p::P,w::vs,0,m,c,b,a,d=>by
  simp at b a;subst b;subst a
  show bindC kindOf ((p,w)::P.zip vs) m p=_
  unfold bindC
  rw[ZV λv e=>(nodup_cons.mp c).1 (of_mem_zip e).1,if_neg d]
  simp
 |p::P,w::vs,i+1,m,c,b,a,d=>by
  unfold bindC
  exact ZX (i:=i) (nodup_cons.mp c).2 (by grind) (by grind) d
def start(N:List Str)(vs:List V):St:=vs.map some++replicate (N.length-vs.length) none
def jw(CX:sZ)(P:Program)(w:World)(K:Frag)(mg:Str->Option Value)(base:Heap)(N:List Str)(d:Str)(b:Scope)(f:Addr)(h:Value)(A:Around)(c:List Env)(s:Shared)(H:Hp)(E:XK):Cx where
 prog:=P
 w:=w
 K:=K
 mg:=mg
 base:=base
 A:=A.deeper (envOfC d b s.heap.objs.size f h)
 N:=N
 s₀:=s
 H₀:=H
 env:=envOfC d b s.heap.objs.size f h
 outer:=c
 stack:=envOfC d b s.heap.objs.size f h::c
 ex:=[]
 calm:=true
 fn:=λ_=>true
 pn:=[]
 xe:=λe i=>wpAny (model P w) (A.deeper (envOfC d b s.heap.objs.size f h)) (leaving (envOfC d b s.heap.objs.size f h) e) (λ_ g=>CX c H s E e g) (λj g=>CX c H s E j g) i
theorem Z0{a:Scope}(h:a.names.lookup x=some .cell):∃c,(cellsFrom n a.names []).lookup x=some c:=by
 have q:=ac3 a.names n [] (.inl h)
 exact abe.mp q
theorem zUs{CX:sZ}{P:Program}{w:World}{K:Frag}{mg:Str->Option Value}{base:Heap}{N ps:List Str}{qual:Str}{scope:Scope}{f:Addr}{cd:Value}{A:Around}{outer:List Env}{s s1:Shared}{H:Hp}{E:XK}{us:List Value}{vs:List V}(S:aF N ps scope)(hd:A.handled=none)(e0:pY P w K mg base A outer s H)(hl:vs.length=ps.length)(r:Vals vs us)(x:InCallC s s.heap.objs.size (bindL (envOfC qual scope s.heap.objs.size f cd).kindOf (ps.zip us) λ_=>none) (cellsFrom (s.heap.objs.size+1) scope.names []) (bindC (envOfC qual scope s.heap.objs.size f cd).kindOf (ps.zip us) λ_=>none) s1) :
  Inv (jw CX P w K mg base N qual scope f cd A outer s H E) [] (start N vs) H s1:=by
 have hpl:ps.length<=N.length:=by have:=congrArg List.length S.pre;rw[length_take] at this;omega
 obtain⟨h1,tk,rfl,hk⟩:=x.done
 have V_:∀b:Addr,b∉(jw CX P w K mg base N qual scope f cd A outer s H E).ex:=λb z=>absurd (show b∈([]:List Addr) from z) (by simp)
 refine⟨⟨e0.mod,S.kind,rfl,rfl,aao _,λy z c h1 h2=>?_,λy hy=>?_,λy c _ h=>?_,λ_=>hd,Around.frames_deeper e0.frames,.inr ⟨rfl,rfl⟩,λb z=>absurd z (V_ b),e0.bs,e0.Ao,λb _ _=>V_ b,λb z=>absurd z (V_ b),e0.jt,e0.Hw⟩,
  rfl,e0.bare,Un.kept hk,⟨_,x.toInCall.ns,λi y v h1 h2 h3=>?_⟩,λy c h=>⟨_,x.cell y c h⟩,e0.hok.fresh (aao _),λy c h=>?_,λp hp=>absurd (show p∈([]:List (Addr×Obj)) from hp) (by simp),e0.hok.kept hk,?_⟩
 ·exact name_of_addr x.apart (abk h1) (abk h2)
 ·have hy:scope.names.lookup y=some .cell\/scope.names.lookup y=some .free:=hy
  rcases hy with hy|hy
  ·exact Z0 hy
  ·exact absurd rfl (S.Ii _ (abk hy))
 ·exact aby (x.above y c (abk h))
 ·have hi:i<vs.length:=by
   unfold start at h2
   by_cases hi:i<vs.length
   ·exact hi
   ·rw[getElem?_append_right (by simpa using hi)] at h2
    rw[getElem?_replicate] at h2
    split at h2<;>cases h2
  have ha:vs[i]?=some v:=by
   unfold start at h2
   rw[getElem?_append_left (by simpa using hi),getElem?_map] at h2
   cases e:vs[i]? with
   |none=>rw[e] at h2;cases h2
   |some a=>rw[e] at h2;cases h2;rfl
  obtain⟨u,hu,rv⟩:=r.get ha
  have hp:ps[i]?=some y:=by
   rw[<-S.pre,getElem?_take_of_lt (by omega)];exact h1
  have Z1:ps.Nodup:=by rw[<-S.pre];exact S.nd.sublist (List.take_sublist _ _)
  refine⟨u,rv,?_⟩
  rcases S.par y (mem_of_getElem? hp) with k|k
  ·exact .inl ⟨k,ZW Z1 hp hu k⟩
  ·obtain⟨c,e⟩:=Z0 (n:=s.heap.objs.size+1) k
   refine .inr ⟨.inl k,c,e,?_⟩
   have q:=x.cell y c e
   rw[ZX Z1 hp hu (by show scope.names.lookup y≠_;rw[k];decide)] at q
   exact q
 ·exact e0.hok.fresh (aby (x.above y c (abk h)))
 ·unfold start
  show _=N.length
  rw[length_append,length_map,List.length_replicate]
  omega
theorem FZ{CX:sZ}{P:Program}{w:World}{K:Frag}{mg:Str->Option Value}{base:Heap}{k:Nat}{f:Addr}{name qual:Str}{params:Arguments}{body:List Stmt}{scope:Scope}{dV kV doc pm cdv ct oc:Value}{an od:Option Addr}{osl:Array (Option Value)}{N ps:List Str}{sp:Sp}(lk:K.lookup f=some ⟨oc,od,.func (fnOf name qual params body scope dV kV doc pm an cdv ct),osl⟩)(hcd:codeIn K cdv qual=true)(S:aF N ps scope)(len:∀vs H Q E,sp vs H Q E->vs.length=ps.length)(hbody:∀(A:Around) (outer:List Env) (s:Shared) (H:Hp) (vs:List V) (Q:VK) (E:XK),bG k (A.deeper (envOfC qual scope s.heap.objs.size f cdv))->sp vs H Q E ->
   ∃t,jH (jw CX P w K mg base N qual scope f cdv A outer s H E) body t/\t { nx:=λ_ H'=>Q .non H',rt:=Q } (start N vs) H) :
  aH P w K mg base CX (k+1) f (fnOf name qual params body scope dV kV doc pm an cdv ct) ps sp:=by
 refine⟨len,λA outer s H args us vs Q E hr e0 hb r hsp=>?_⟩
 have hl:=len _ _ _ _ hsp
 have KX:K.In s.heap:=e0.mod.Lj.keeps λb o e=>(e0.bs b o e).1
 have lim:s.heap.NoLimit:=e0.mod.nolimit.keeps λb o e=>(e0.bs b o e).1
 have hkind:∀y∈ps.zip us,scope.names.lookup y.1=some .local\/(scope.names.lookup y.1=some .cell/\((cellsFrom (s.heap.objs.size+1) scope.names []).lookup y.1).isSome=true):=λ⟨n,v⟩ hy=>by
  rcases S.par n (of_mem_zip hy).1 with q|q
  ·exact .inl q
  ·exact .inr ⟨q,ac3 _ _ _ (.inl q)⟩
 refine codeAny_call_function hr.depth (KX _ _ lk) rfl S.co S.gen rfl (PySem.W.codeRec_of KX hcd) (hb _ _ _ _ ?_)
 refine wpAny_newFunctionEnv_cells S.kind hkind λenv he s1 x=>?_
 subst he
 refine⟨lim.keeps x.toInCall.keep,codeAny_func ?_⟩
 obtain⟨t,ht,hq⟩:=hbody A outer s H vs Q E (hr.deeper _) hsp
 have I:Inv (jw CX P w K mg base N qual scope f cdv A outer s H E) [] (start N vs) H s1:=zUs S hr.hd e0 hl r x
 refine abu (ht [] s1 (start N vs) H _ I hq) (λfl s' hs=>?_) λe s' hs=>hs
 have fin:∀{σ':St}{H':Hp}{v:V}{u:Value},Inv (jw CX P w K mg base N qual scope f cdv A outer s H E) [] σ' H' s'->RelV v u->Q v H'->CE outer P w H s Q u s' :=
  λ{σ' H' v u} J rv q=>⟨v,H',J.os,J.bare,J.base,J.hok,rv,q⟩
 cases fl with
 |ret u =>
  obtain⟨v,σ',H',J,rv,q⟩:=hs
  exact fin J rv q
 |next =>
  obtain⟨σ',H',J,q⟩:=hs
  exact fin (v:=V.non) (u:=adk) J rfl q
 |brk =>
  obtain⟨_,_,_,q⟩:=hs
  exact abl q
 |cont =>
  obtain⟨_,_,_,q⟩:=hs
  exact abl q
section
variable{X:Cx}{x:Str}{p pos:Pos}{e:Expr}{es:List Expr}{t:TA}{id T:String}{r:List V->Hp->VK->Prop}
def qO(r:List V->Hp->VK->Prop)(t:TA):TE:=λσ H Q=>t σ H λa b=>r a b Q
theorem zP(k:pP X (.builtin id) r)(z:Gl X x)(n:X.mg x=none)(o:bootBuiltins x=some (.builtin id))(m:PA X (e::es) t)(q:x ≠ "__name__":=by decide)(d:(x==("__debug__":Str))=false:=by decide)(y:starEach (e::es) X.env=(false,eval e X.env)::starEach es X.env:=by rfl)(c:(backTo pos (starEach es X.env)).any (·.1)=false:=by rfl):PE X (.Call (.Name x p) (e::es) [] pos) (qO r t):=by
 intro b s σ H Q I h
 refine abf (tV I z n o ?_ q d)
 exact acv (aP (m pos b s σ H _ I h) (by rintro l g ⟨w,i,v,u,j⟩;exact k b g σ i w l Q v u j)) y c
theorem uL(j:pP X (.type T) r)(y:Gl X x)(m:X.mg x=none)(n:bootBuiltins x=some (.type T))(l:PA X (e::es) t)(o:x ≠ "__name__":=by decide)(d:(x==("__debug__":Str))=false:=by decide)(w:starEach (e::es) X.env=(false,eval e X.env)::starEach es X.env:=by rfl)(c:(backTo pos (starEach es X.env)).any (·.1)=false:=by rfl):PE X (.Call (.Name x p) (e::es) [] pos) (qO r t):=by
 intro b s σ H Q I h
 refine abf (tV I y m n ?_ o d)
 exact abg (aP (l pos b s σ H _ I h) (by rintro k f ⟨v,g,u,q,i⟩;exact j b f σ g v k Q u q i)) w c
end
section
variable{κ:Type}[DecidableEq κ]
noncomputable def dX(kvs:List (κ×V))(k:κ):Option V:=(kvs.find? λa=>decide (a.1=k)).map (·.2)
def putK(kvs:List (κ×V))(k:κ)(v:V):List (κ×V) :=
 if(kvs.any λa=>decide (a.1=k))=true then kvs.map (λa=>if a.1=k then(a.1,v) else a) else kvs++[(k,v)]
theorem Wa{p:κ×V}{r:List (κ×V)}{k:κ}(e:p.1=k):dX (p::r) k=some p.2:=by simp[dX,e]
theorem Wb{p:κ×V}{r:List (κ×V)}{k:κ}(e:¬p.1=k):dX (p::r) k=dX r k:=by simp[dX,e]
theorem Z2(k:κ):∀kvs:List (κ×V),(kvs.any λa=>decide (a.1=k))=(dX kvs k).isSome
 |[]=>rfl
 |p::r=>by
  rw[any_cons]
  by_cases e:p.1=k
  ·simp only[Wa e,decide_eq_true e,Bool.true_or,ad6]
  ·rw[Wb e,decide_eq_false e];exact Z2 k r
theorem Z4(kvs:List (κ×V))(k:κ)(v:V):(putK kvs k v).length<=kvs.length+1:=by
 unfold putK
 grind
theorem gH.cY(r:gH o u):o.isSome=u.isSome:=by
 cases o with
 |none=>cases u with
  |none=>rfl
  |some _=>exact(r).elim
 |some _=>cases u with
  |none=>exact(r).elim
  |some _=>rfl
theorem KV.val(r:KV kvs vs)(k:κ):gH (dX kvs k) (valueAt vs k):=by
 induction r with
 |nil=>exact acr
 |@cons p q ps c h t ih =>
  obtain⟨d,f⟩:=h
  by_cases e:p.1=k
  ·have a:=d.symm.trans e
   have b:valueAt (q::c) k=some q.2:=by simp[valueAt,a]
   rw[Wa e,b];exact f
  ·have a:¬q.1=k:=λz=>e (d.trans z)
   have b:valueAt (q::c) k=valueAt c k:=by simp[valueAt,a]
   rw[Wb e,b];exact ih
theorem KV.any(r:KV kvs vs)(k:κ):(kvs.any λkv=>decide (kv.1=k))=vs.any λkv=>decide (kv.1=k):=by
 unfold KV at r
 induction r with
 |nil=>rfl
 |cons h t ih=>rw[any_cons,any_cons,ih,h.1]
theorem KV.repl(r:KV kvs vs)(k:κ)(ry:RelV y u) :
  KV (kvs.map λa=>if a.1=k then(a.1,y) else a) (vs.map λa=>if a.1=k then(a.1,u) else a):=by
 induction r with
 |nil=>exact .nil
 |@cons p q ps qs h t ih =>
  refine .cons ?_ ih
  grind
theorem KV.put(r:KV kvs vs)(k:κ)(a:RelV y u):KV (putK kvs k y) (stored vs k u):=by
 unfold putK stored
 rw[r.any k]
 by_cases e:(vs.any λb=>decide (b.1=k))=true
 ·rw[if_pos e,if_pos e];exact r.repl k a
 ·rw[if_neg e,if_neg e];exact Paired.snoc r ⟨rfl,a⟩
theorem KV.length(r:KV kvs vs):kvs.length=vs.length:=aec r
end
theorem Sd(r:RelV (kV k) u):(uP P w).is k u=true:=by
 cases k with
 |inl i=>obtain⟨t,e⟩:=(r);subst e;exact zNv P w i t
 |inr x=>obtain⟨t,e⟩:=(r);subst e;exact zNu P w x t
theorem Z5:∀{ks:List Key}{us:List Value},Vals (ks.map kV) us->ItemsAre (uP P w) ks us
 |[],_,r=>by cases r;exact .nil
 |k::ks,_,r=>by
  cases r with
  |cons h t=>exact .cons (Sd h) (Z5 t)
abbrev KT(H:Hp):List (List Key×V)->List (List Key×Addr×Value)->Prop:=Paired λp q=>p.1=q.1/\H q.2.1=some (.tup (p.1.map kV))/\RelV p.2 q.2.2
theorem KT.val(r:KT H kvs xs)(k:List Key):gH (dX kvs k) ((atKey xs k).map (·.2)):=by
 induction r with
 |nil=>exact acr
 |@cons p q ps c h t ih =>
  obtain⟨d,_,f⟩:=h
  by_cases e:p.1=k
  ·have a:=d.symm.trans e
   have b:atKey (q::c) k=some q.2:=by simp[atKey,a]
   rw[Wa e,b];exact f
  ·have a:¬q.1=k:=λz=>e (d.trans z)
   have b:atKey (q::c) k=atKey c k:=by simp[atKey,a]
   rw[Wb e,b];exact ih
theorem KT.repl(r:KT H kvs xs)(k:List Key)(ry:RelV y u) :
  KT H (kvs.map λa=>if a.1=k then(a.1,y) else a) (xs.map (putAt k u)):=by
 induction r with
 |nil=>exact .nil
 |@cons p q ps qs h t ih =>
  refine .cons ?_ ih
  unfold putAt
  grind
theorem KT.put(r:KT H kvs xs)(k:List Key)(d:H b=some (.tup (k.map kV)))(a:RelV y u) :
  KT H (putK kvs k y) (storedH xs k b u):=by
 have e:(kvs.any λc=>decide (c.1=k))=(atKey xs k).isSome:=by
  rw[Z2,(r.val k).cY,ad9]
 unfold putK storedH
 rw[e]
 by_cases q:(atKey xs k).isSome=true
 ·rw[if_pos q,if_pos q];exact r.repl k a
 ·rw[if_neg q,if_neg q];exact Paired.snoc r ⟨rfl,d,a⟩
theorem KT.keeps(r:KT H kvs xs)(a:∀b ys,H b=some (.tup ys)->H' b=some (.tup ys)):KT H' kvs xs :=
 Paired.Hv r λ_ _ z=>⟨z.1,a _ _ z.2.1,z.2.2⟩
section
variable{P:Program}{w:World}{H:Hp}{h:Heap}{a:Addr}
theorem Ga(b:dR P w H h)(e:Rd H a u):bI P w H h a u:=e.ok b
theorem uo(b:dR P w H h)(e:Rd H a (.dK kvs)):kvs.length<=sizeLine/\(a==sysModules)=false/\∃vs,KV kvs vs/\h.DictOf (uP P w) a vs :=
 Ga b e
theorem Od(b:dR P w H h)(e:H a=some (.dK kvs)):kvs.length<=sizeLine/\(a==sysModules)=false/\∃vs,KV kvs vs/\h.DictOf (uP P w) a vs:=uo b (.inl e)
theorem Sh{ks:List Key}(g:dR P w H h)(e:H a=some (.tup (ks.map kV))):(tupleKind (uP P w)).is h ks a:=by
 obtain⟨_,b,r,o,c,f,n,d⟩:=(g a _ e)
 exact⟨o,b.toArray,n,c,f,d,by simpa using Z5 r⟩
theorem uq(ok:dR P w H h)(e:Rd H a (.dT kvs)):kvs.length<=sizeLine/\(a==sysModules)=false /\
  ∃xs,KT H kvs xs/\h.DictOfH (tupleKind (uP P w)) a xs:=by
 obtain⟨z,y,xs,r,o,es,ep,h1,h2,h3,h4,h5⟩:=(show bI P w H h a (.dT kvs) from Ga ok e)
 refine⟨z,y,xs,r,o,es,ep,h1,h2,h3,h4,λx hx=>?_,h5⟩
 have all:∀{l:List (List Key×V)}{m:List (List Key×Addr×Value)},KT H l m->∀x∈m,(tupleKind (uP P w)).is h x.1 x.2.1:=by
  intro l m q
  induction q with
  |nil=>intro x hx;exact nomatch hx
  |@cons p q ps qs hq t ih =>
   intro x hx
   rcases mem_cons.mp hx with e|hx
   ·subst e
    exact Sh ok (by rw[<-hq.1];exact hq.2.1)
   ·exact ih x hx
 exact all r x hx
theorem Oe(b:dR P w H h)(e:H a=some (.dT kvs)):kvs.length<=sizeLine/\(a==sysModules)=false /\
  ∃xs,KT H kvs xs/\h.DictOfH (tupleKind (uP P w)) a xs:=uq b (.inl e)
end
def mW(H:Hp)(a:Addr)(y:V)(r:Option V):Prop :=
 (∃c k,Rd H a (.dK c)/\y=kV k/\r=dX c k)\/∃c k b,Rd H a (.dT c)/\y=.ref b/\H b=some (.tup (k.map kV))/\r=dX c k
def rC(H:Hp)(a:Addr)(y v:V)(H':Hp):Prop :=
 (∃c k,H a=some (.dK c)/\y=kV k/\c.length<sizeLine/\H'=upd H a (.dK (putK c k v))) \/
 ∃c k b,H a=some (.dT c)/\y=.ref b/\H b=some (.tup (k.map kV))/\c.length<sizeLine/\H'=upd H a (.dT (putK c k v))
theorem mW.k{H:Hp}{a:Addr}{kvs:List (Key×V)}{k:Key}(e:H a=some (.dK kvs)):mW H a (kV k) (dX kvs k):=.inl ⟨kvs,k,.inl e,rfl,rfl⟩
theorem rC.k{H:Hp}{a:Addr}{kvs:List (Key×V)}{k:Key}{v:V}(e:H a=some (.dK kvs))(b:kvs.length<sizeLine):rC H a (kV k) v (upd H a (.dK (putK kvs k v))):=.inl ⟨kvs,k,e,rfl,b,rfl⟩
section
variable{X:Cx}{pins:List (Addr×Obj)}{σ:St}{H:Hp}{s:Shared}{a:Addr}{y v:V}{u r:Value}{o:Option V}{A:Around}{E:Value->Shared->Prop}
theorem Inv.big(I:Inv X pins σ H s):sysModules<s.heap.objs.size:=by
 have h:=(I.mod.glob.keeps I.bk).lt
 exact adq (by decide) h
theorem Wc{Q:Value->Shared->Prop}(p:A.units+1<cLine)(I:Inv X pins σ H s)(g:mW H a y o)(n:RelV y u)(h:∀s',Inv X pins σ H s'->Q (.bool o.isSome) s') :
  wpAny (model X.prog X.w) A (compareOp .In u (.ref a)) Q E s:=by
 rcases g with⟨j,k,e,m,l⟩|⟨j,k,b,e,m,t,l⟩
 ·subst m
  obtain⟨z,f,vs,c,i⟩:=uo I.hok e
  refine wpAny_in_of (Sd n) f i.mapOf ?_
  rw[<-(c.val k).cY,<-l]
  exact h _ (I.tok _)
 ·subst m
  cases(n)
  obtain⟨z,f,xs,c,i⟩:=uq I.hok e
  refine wpAny_in_heap (ad7 p) (Sh I.hok t) f i ?_
  have q:=(c.val k).cY
  rw[ad9] at q
  rw[<-q,<-l]
  exact h _ (I.tok _)
theorem Bo{Q:Value->Shared->Prop}(n:A.units+1<cLine)(I:Inv X pins σ H s)(g:mW H a y o)(m:RelV y u)(h:∀s',Inv X pins σ H s'->Q (.bool (!o.isSome)) s') :
  wpAny (model X.prog X.w) A (compareOp .NotIn u (.ref a)) Q E s:=by
 rcases g with⟨i,k,e,j,l⟩|⟨i,k,b,e,j,p,l⟩
 ·subst j
  obtain⟨z,d,vs,c,f⟩:=uo I.hok e
  refine wpAny_notIn_of (Sd m) d f.mapOf ?_
  rw[<-(c.val k).cY,<-l]
  exact h _ (I.tok _)
 ·subst j
  cases(m)
  obtain⟨z,d,xs,c,f⟩:=uq I.hok e
  refine wpAny_notIn_heap (ad7 n) (Sh I.hok p) d f ?_
  have q:=(c.val k).cY
  rw[ad9] at q
  rw[<-q,<-l]
  exact h _ (I.tok _)
theorem Z6(I:Inv X pins σ H s)(g:Nt (H a))(f:SameBut a s.heap h')(e:∃q,h'.get? a=some q)(c:bI X.prog X.w (upd H a ob) h' a ob) :
  Inv X pins σ (upd H a ob) { s with heap:=h',toks:=t' } :=
 I.write g (.inl rfl) (λb q d z=>(f.2 b d).trans z) e c
theorem Ij{h':Heap}{kvs:List (Key×V)}(z:kvs.length<=sizeLine)(c:(a==sysModules)=false)(b:KV kvs vs)(dd:h'.DictOf (uP P w) a vs) :
  bI P w H' h' a (.dK kvs):=⟨z,c,vs,b,dd⟩
theorem zVm{Q:Unit->Shared->Prop}(Z:A.units+1<cLine)(I:Inv X pins σ H s)(g:rC H a y v H')(F:RelV y u)(J:RelV v r)(h:∀s',Inv X pins σ H' s'->Q () s') :
  wpAny (model X.prog X.w) A (setItem (.ref a) u r) Q E s:=by
 rcases g with⟨f,k,e,p,l,n⟩|⟨f,k,b,e,p,M,l,n⟩
 ·subst p n
  obtain⟨z,B,S,i,t⟩:=Od I.hok e
  have C:S.length<=sizeLine:=by rw[<-i.length];exact z
  have D:(putK f k v).length<=sizeLine:=by have:=Z4 f k v;lia
  refine wpAny_setItem_pairs (hsz:=C) (Sd F) t λL j x=>h _ ?_
  have Y:∃q,L.get? a=some q:=let⟨q,_,_,m,_⟩:=j;⟨q,m⟩
  exact Z6 I (by rw[e];exact acr) x Y (Ij D B (i.put k J) j)
 ·subst p n
  cases(show u=abj b from F)
  obtain⟨z,B,R,i,t⟩:=Oe I.hok e
  have C:R.length<=sizeLine:=by rw[<-aec i];exact z
  have D:(putK f k v).length<=sizeLine:=by have:=Z4 f k v;lia
  refine wpAny_setItem_heap (hsz:=C) (ad7 Z) (Sh I.hok M) t λL j x=>h _ ?_
  obtain⟨q,T,W,m,P,U,O,_,N⟩:=j
  refine Z6 I (by rw[e];exact acr) x ⟨q,m⟩ ⟨D,B,_,(i.put k M J).keeps λc ys G=>?_,q,T,W,m,P,U,O,N⟩
  rw[zR (Nr G e (λz=>nomatch z))]
  exact G
end
def Ik(e f:TE):TE:=λσ H Q=>e σ H λy c=>f σ c λx b=>∃a o,x=.ref a/\mW b a y o/\Q (.bl o.isSome) b
def Z7(d e:TE):TE:=λσ H Q=>d σ H λy c=>e σ c λx b=>∃a o,x=.ref a/\mW b a y o/\Q (.bl (!o.isSome)) b
def ur(e f c:TE):TS:=λD σ H=>c σ H λv h=>e σ h λx i=>f σ i λy g=>∃a b,x=.ref a/\rC g a y v b/\D.nx σ b
section
variable{X:Cx}{o i e value:Expr}{pos pos' tpos:Pos}{td ty tv:TE}
theorem Z8(q:X.A.units+1<cLine)(l:PE X i ty)(m:PE X o td):PC X .In i o (Ik ty td):=by
 intro b s σ H Q I h
 refine aP (l b s σ H _ I h) λiv t ⟨y,n,k,c,p⟩=>aP (m b t σ n _ k p) ?_
 rintro u s2 ⟨x,v,f,r,a,z,d,g,w⟩
 subst d
 obtain rfl:u=abj a:=r
 exact Wc q f g c λs3 j=>⟨.bl z.isSome,v,j,rfl,w⟩
theorem zTu(q:X.A.units+1<cLine)(l:PE X i ty)(m:PE X o td):PC X .NotIn i o (Z7 ty td):=by
 intro b s σ H Q I h
 refine aP (l b s σ H _ I h) λiv t ⟨y,n,k,c,p⟩=>aP (m b t σ n _ k p) ?_
 rintro u s2 ⟨x,v,f,r,a,z,d,g,w⟩
 subst d
 obtain rfl:u=abj a:=r
 exact Bo q f g c λs3 j=>⟨.bl (!z.isSome),v,j,rfl,w⟩
theorem Wd(L:X.A.units+1<cLine)(j:PE X o td)(F:PE X i ty)(f:PE X value tv)(m:swapsWith value (some (.Subscript o i pos')) pos.line X.env=pure false) :
  PS X (.Assign [.Subscript o i pos'] value pos) (ur td ty tv):=by
 intro b s σ H D I h
 refine wpAny_Assign_Subscript (aP (f b s σ H _ I h) λr M ⟨v,k,E,w,l⟩=>aP (j b M σ k _ E l) λu G ⟨x,c,d,n,p⟩=>aP (F b G σ c _ d p) ?_) m
 rintro iv s3 ⟨y,H3,C,q,a,B,t,g,J⟩
 subst t
 obtain rfl:u=abj a:=n
 exact zVm L C g q w λs4 z=>⟨σ,B,z,J⟩
end
theorem zYg(h:Heap)(a:sysModules<h.objs.size):bI P w H (h.push { cls:=.type "dict",data:=.dict #[] }) h.objs.size (.dK []) :=
 ⟨aa5 _,beq_eq_false_iff_ne.mpr (acf (aat a)),[],.nil,Heap.DictOf.new h⟩
def Z9:TE:=λ_ H Q=>∀p,H p=none->Q (.ref p) (upd H p (.dK []))
section
variable{X:Cx}{pos:Pos}
theorem Wf:PE X (.Dict [] [] pos) Z9:=λpins s σ H Q I h =>
 wpAny_Dict_empty ⟨.ref s.heap.objs.size,_,I.laid (λ_ _ q=>get?_push_of_some _ q) (aao _) (zYg s.heap I.big),rfl,h _ (I.hok.fresh (aao _))⟩
end
end L2
namespace HT
open PySem PyProof.Rows
section
open PySem.SeqAt
open PySem.AutoSeq1 (wpAny_loadPart')
open PySem.MeetsSeq PySem.MeetsSeq2 PySem.MeetsSeq3
end
section
variable{prog:Program}{w:World}{A:Around}{E:Value->Shared->Prop}{s:Shared}
noncomputable def nJ(n d:Nat):Option Int->Nat
 |none=>d
 |some v=>if v<0 then(v+(n:Int)).toNat else min v.toNat n
end
end HT
namespace L2
open PySem PySem.Spec PyProof.Rows
abbrev TO:=St->Hp->(Option Int->Hp->Prop)->Prop
def PO(X:Cx)(e:Option Expr)(t:TO):Prop :=
 ∀(b:List (Addr×Obj))(s:Shared)(σ:St)(H:Hp)(Q:Option Int->Hp->Prop),Inv X b σ H s->t σ H Q ->
  wpAny (model X.prog X.w) X.A (evalPart e X.env) (λu d=>∃o c,Inv X b σ c d/\IsPart u o/\Q o c) X.xe s
def Sq:TO:=λ_ H Q=>Q none H
def LC(t:TE):TO:=λσ H Q=>t σ H λx a=>∃i,x=.int i/\Q (some i) a
section
variable{X:Cx}{e:Expr}{te:TE}{lo hi:Option Expr}{tl th:TO}{pos p2:Pos}
theorem Wg:PO X none Sq:=by
 intro pins s σ H Q I h
 exact aal ⟨none,H,I,.none,h⟩
theorem Og(h:PE X e te):PO X (some e) (LC te):=by
 intro a s σ H Q I b
 refine aP (h a s σ H _ I b) ?_
 rintro u s1 ⟨x,f,d,c,g⟩
 obtain⟨i,rfl,q⟩:=g
 obtain⟨t,rfl⟩:=c
 exact⟨some i,f,d,.int i t,q⟩
def Ss(X:Cx)(r:V->Option Int->Option Int->Hp->VK->Prop):Prop :=
 ∀(b:List (Addr×Obj))(s:Shared)(σ:St)(H:Hp)(x:V)(v f d:Value)(lo hi:Option Int)(c:Addr)(Q:VK),Inv X b σ H s->RelV x v->s.heap.IsSliceOf c f d .none->IsPart f lo->IsPart d hi->r x lo hi H Q ->
  ∃T id,typeLookup (.type T) "__getitem__" = pure (some (.builtin id))/\s.TypeIs v T/\wpAny (model X.prog X.w) X.A (getItem v (.ref c)) (EP X b σ Q) X.xe s
def Oh(r:V->Option Int->Option Int->Hp->VK->Prop)(te:TE)(tl th:TO):TE:=λσ H Q=>te σ H λx b=>tl σ b λl a=>th σ a λu c=>r x l u c Q
theorem Sv(G:Ss X r)(J:PE X e te)(D:PO X lo tl)(L:PO X hi th):PE X (.Subscript e (.Slice lo hi none p2) pos) (Oh r te tl th):=by
 intro c s σ H Q I h
 refine Subscript_ (aP (J c s σ H _ I h) ?_)
 rintro v k ⟨x,t,A,w,N⟩
 refine wpAny_Slice (aP (D c k σ t _ A N) λf C ⟨l,j,n,B,m⟩=>aP (L c C σ j _ n m) ?_)
 rintro g d ⟨u,i,z,o,F⟩
 refine aal ?_
 have p:Inv X c σ i { d with heap:=d.heap.push { cls:=.type "slice",data:=.fields #[f,g,.none] } }:=z.kept λb ob q=>get?_push_of_some _ q
 obtain⟨T,id,E,y,M⟩:=G c { d with heap:=d.heap.push { cls:=.type "slice",data:=.fields #[f,g,.none] } } σ i x v f g l u d.heap.objs.size Q p w (Heap.IsSliceOf.new ..) B o F
 exact tail_any y E M (by with_unfolding_all rfl)
def uw(xs:List V)(lo hi:Option Int):List V:=(xs.drop (HT.nJ xs.length 0 lo)).take (HT.nJ xs.length xs.length hi-HT.nJ xs.length 0 lo)
theorem zOb(xs:List V)(lo hi:Option Int):(uw xs lo hi).length<=xs.length:=by
 unfold uw
 rw[length_take,length_drop]
 omega
end
noncomputable def n7(n:Nat)(i:Int):Option Nat:=if 0<=i then(if i<n then some i.toNat else none) else if -(n:Int)<=i then some (i+n).toNat else none
def aJ{α:Type}(xs:List α)(i:Int):Option α:=(n7 xs.length i).bind λj=>xs[j]?
theorem Z_(h:n7 n i=some j):seqIndex? i n=some j/\j<n /\ -(n:Int)<=i/\i<n:=by
 unfold n7 at h
 by_cases h0:0<=i
 ·rw[if_pos h0] at h
  by_cases h1:i<n
  ·rw[if_pos h1] at h
   have e:i.toNat=j:=aa2 h
   exact⟨by rw[aem h0 h1,e],by omega,by omega,h1⟩
  ·rw[if_neg h1] at h;cases h
 ·rw[if_neg h0] at h
  by_cases h1:-(n:Int)<=i
  ·rw[if_pos h1] at h
   have e:(i+n).toNat=j:=aa2 h
   exact⟨by rw[ae0 (by omega) h1,e],by omega,h1,by omega⟩
  ·rw[if_neg h1] at h;cases h
theorem Wh{α:Type}{xs:List α}{v:α}(h:aJ xs i=some v):∃j,seqIndex? i xs.length=some j/\xs[j]?=some v/\j<xs.length /\ -(xs.length:Int)<=i/\i<xs.length:=by
 unfold aJ at h
 cases e:n7 xs.length i with
 |none=>rw[e] at h;cases h
 |some j =>
  rw[e] at h
  obtain⟨h1,h2,h3,h4⟩:=Z_ e
  exact⟨j,h1,h,h2,h3,h4⟩
theorem Oi{α:Type}{xs:List α}{j:Nat}{v:α}(h:xs[j]?=some v):aJ xs (j:Int)=some v:=by
 have hj:j<xs.length:=(aau.mp h).1
 have e:n7 xs.length (j:Int)=some j:=by
  unfold n7
  rw[if_pos (by omega),if_pos (by omega)];simp
 unfold aJ;rw[e];exact h
def Bp(b:Expr):Prop:=∀o i,subscripted b false o i=operate [o,i] (getItem o i)
def Oj(X:Cx)(r:R2):Prop :=
 ∀(d b:Expr)(c:List (Addr×Obj))(s:Shared)(σ:St)(H:Hp)(x y:V)(v u:Value)(Q:VK),Inv X c σ H s->RelV x v->RelV y u->r x y H Q ->
  subscripted b false v u=operate [v,u] (getItem v u)->wpAny (model X.prog X.w) X.A (subscriptTail d b v u) (EP X c σ Q) X.xe s
def MtR(X:Cx)(id:String)(r:V->List V->Hp->VK->Prop):Prop :=
 ∀(b:List (Addr×Obj))(s:Shared)(σ:St)(H:Hp)(x:V)(c:List V)(v:Value)(d:List Value)(Q:VK),Inv X b σ H s->RelV x v->Vals c d->r x c H Q ->
  wpAny (model X.prog X.w) X.A (call (.builtin id) (v::d)) (EP X b σ Q) X.xe s
section
variable{X:Cx}{a b:Expr}{ta tb:TE}{pos:Pos}
theorem yV(f:Oj X r)(i:PE X a ta)(m:PE X b tb)(g:Bp b):PE X (.Subscript a b pos) (dH r ta tb):=by
 intro c s σ H Q I h
 exact Subscript_ (Ay i m I h λv u e x y l k j d q=>f a b c e σ l x y v u Q k j d q (g _ _))
def lu(K:Frag):R2:=λx y H Q=>∃p c i v,x=.ref p/\y=.int i/\aW K H p c/\aJ c i=some v/\Q v H
def ux(K:Frag):R2:=λx y H Q=>∃p c i v,x=.ref p/\y=.int i/\gF K H p c/\aJ c i=some v/\Q v H
theorem zUo:Oj X (lu X.K):=by
 intro value slice pins s σ H x y v u Q I rx ry h hs
 obtain⟨p,xs,i,z,rfl,rfl,hq,he,q⟩:=h
 cases rx
 obtain⟨t,rfl⟩:=ry
 obtain⟨its,r,pl,hz⟩:=I.list hq
 obtain⟨j,h1,h2,h3,h4,h5⟩:=Wh he
 obtain⟨w,ew,Wi⟩:=r.get h2
 have hl:=r.length
 have hn:=Ib
 have fin:EP X pins σ Q w s:=⟨z,H,I,Wi,q⟩
 by_cases h0:0<=i
 ·have hj:i.toNat=j:=by
   rw[aem h0 h5] at h1
   exact aa2 h1
  exact item_listR pl.isList h0 (by omega) (by rw[hj];simpa using ew) fin hs
 ·have hj:(i+(its.toArray.size:Int)).toNat=j:=by
   rw[ae0 (by omega) h4] at h1
   rw[size_toArray,<-hl]
   exact aa2 h1
  exact subscriptTail_builtinR (x:=w) pl.isList.typeIs slot_list_getitem.lookup
   (wpAny_getItem_list_neg (Q:=λr s'=>r=w/\EP X pins σ Q r s') pl.isList (by omega) (by rw[size_toArray]<;>omega) (by omega) (by rw[hj];simpa using ew) ⟨rfl,fin⟩) hs
theorem Il:Oj X (ux X.K):=by
 intro value slice c s σ H x y v u Q I o k h m
 obtain⟨p,xs,i,z,rfl,rfl,l,n,q⟩:=h
 cases o
 obtain⟨t,rfl⟩:=k
 obtain⟨its,r,f,hz⟩:=I.tuple l
 obtain⟨j,h1,g,h3,h4,h5⟩:=Wh n
 obtain⟨w,ew,e⟩:=r.get g
 have hl:=r.length
 have hn:=Ib
 have d:EP X c σ Q w s:=⟨z,H,I,e,q⟩
 exact subscriptTail_builtinR f.typeIs slot_tuple_getitem.lookup
  (getItem_tuple (j:=j) f (by lia) (by lia) (by grind) (by grind) ⟨rfl,d⟩) m
theorem zRb(c:List Value)(n j:Nat)(u:Value):acw (·.setIfInBounds j u) { cls:=.type "list",data:=.seq c.toArray n }={ cls:=.type "list",data:=.seq (c.set j u).toArray n }:=by
 simp[acw]
theorem Inv.lst(I:Inv X pins σ H s)(h:H p=some (.lst xs)) :
  ∃(its:List Value)(n:Nat),Vals xs its/\s.heap.get? p=some { cls:=.type "list",data:=.seq its.toArray n }/\xs.length<=sizeLine:=by
 obtain⟨z,its,n,r,e⟩:=I.hok p _ h
 exact⟨its,n,r,e,z⟩
theorem Inv.Im{d its':List Value}(I:Inv X c σ H s)(h:H p=some (.lst xs))(j:s.heap.get? p=some { cls:=.type "list",data:=.seq d.toArray n })(g:f { cls:=.type "list",data:=.seq d.toArray n }={ cls:=.type "list",data:=.seq its'.toArray n' })(r:Vals ys its')(hz:ys.length<=sizeLine)(t:Nat) :
  Inv X c σ (upd H p (.lst ys)) { s with heap:=s.heap.update p f,toks:=t }:=by
 have e:(s.heap.update p f).get? p=some { cls:=.type "list",data:=.seq its'.toArray n' }:=by
  rw[get?_update_self f j (by rw[g]<;>rfl),g]
 refine I.write (by rw[h];trivial) (.inl rfl) (λb u i q=>(get?_update_other _ _ (acf i)).trans q) ⟨_,e⟩ ?_
 exact⟨hz,its',n',r,e⟩
def Ol:V->V->V->Hp->(Hp->Prop)->Prop:=λo i v H Q=>∃p c k j,o=.ref p/\i=.int k/\H p=some (.lst c)/\n7 c.length k=some j/\Q (upd H p (.lst (c.set j v)))
theorem Io:HD X Ol:=by
 intro pins s σ H o i v ov iv u Q I ro ri rv h
 obtain⟨p,xs,k,j,rfl,rfl,hp,hj,q⟩:=h
 cases ro
 obtain⟨t,rfl⟩:=ri
 obtain⟨its,n,r,ho,hz⟩:=I.lst hp
 obtain⟨h1,h2,h3,h4⟩:=Z_ hj
 have hl:=r.length
 have hn:=Ib
 have I':Inv X pins σ (upd H p (.lst (xs.set j v))) { s with heap:=s.heap.update p (acw (·.setIfInBounds j u)) } :=
  I.Im hp ho (zRb its n j u) (r.set rv j) (by rw[length_set];exact hz) s.toks
 by_cases h0:0<=k
 ·have hk:k.toNat=j:=by
   rw[aem h0 h4] at h1
   exact aa2 h1
  exact PySem.W.ki_setAt ho h0 (by omega) (by rw[size_toArray,<-hl];exact h4) (by rw[hk];exact⟨_,I',q⟩)
 ·have hk:(k+(its.toArray.size:Int)).toNat=j:=by
   rw[ae0 (by omega) h3] at h1
   rw[size_toArray,<-hl]
   exact aa2 h1
  exact PySem.W.ki_setBack ho (by omega) (by rw[size_toArray,<-hl];exact h3) (by omega) (by rw[hk];exact⟨_,I',q⟩)
theorem zK2(lo d:Option Int)(n:Nat):(sliceBounds lo d none n).1=((HT.nJ n 0 lo:Nat):Int)/\(sliceBounds lo d none n).2.1=((HT.nJ n n d:Nat):Int)/\(sliceBounds lo d none n).2.2=1:=by
 refine⟨?_,?_,rfl⟩
 ·cases lo with
  |none=>simp[sliceBounds,HT.nJ]
  |some i =>
   simp only[sliceBounds,HT.nJ,Option.getD_none,if_true]
   grind
 ·cases d with
  |none=>simp[sliceBounds,HT.nJ]
  |some i =>
   simp only[sliceBounds,HT.nJ,Option.getD_none,if_true]
   grind
theorem zJm(c:List Value)(lo d:Option Int):slicePick c.toArray lo d none=((c.drop (HT.nJ c.length 0 lo)).take (HT.nJ c.length c.length d-HT.nJ c.length 0 lo)).toArray:=by
 obtain⟨h,g,f⟩:=zK2 lo d c.toArray.size
 unfold slicePick
 rw[h,g,f]
 simp only[sliceRange_one,pick_run]<;>rfl
def uy(K:Frag):V->Option Int->Option Int->Hp->VK->Prop:=λx lo d H Q=>∃a c,x=.ref a/\aW K H a c/\∀p,H p=none->Q (.ref p) (upd H p (.lst (uw c lo d)))
theorem Bq:Ss X (uy X.K):=by
 intro pins s σ H x v vl vu lo e sl Q I l k n i h
 obtain⟨a,d,rfl,j,q⟩:=h
 cases l
 obtain⟨its,r,g,m⟩:=I.list j
 have c:=r.length
 refine⟨"list",_,slot_list_getitem.lookup,g.isList.typeIs,?_⟩
 refine wpAny_getItem_list_slice g.isList k n i .none (by simp) ?_ (by grind)
 rw[zJm,<-c]
 refine⟨.ref s.heap.objs.size,_,I.laid (λb ob q=>get?_push_of_some _ q) (aao _) ?_,rfl,q _ (I.hok.fresh (aao _))⟩
 exact⟨aa0 (zOb d lo e) m,_,0,(r.drop (HT.nJ d.length 0 lo)).take (HT.nJ d.length d.length e-HT.nJ d.length 0 lo),get?_push_size _ rfl⟩
def zy:V->Bool
 |.non=>true
 |.bl _=>true
 |.int _=>true
 |.str _=>true
 |_=>false
def Br:V->V->Bool
 |.non,.non=>true
 |.bl a,.bl b=>a==b
 |.bl a,.int b=>(if a then 1 else 0)==b
 |.int a,.bl b=>a==(if b then 1 else 0)
 |.int a,.int b=>a==b
 |.str a,.str b=>a==b
 |_,_=>false
theorem Ip(ry:RelV y u)(rx:RelV x v)(fy:zy y=true)(fx:zy x=true):SeqAt.EqAt A s u v (Br y x):=by
 cases y with
 |non =>
  cases ry
  cases x with
  |non=>cases rx;exact SeqAt.EqAt.same _
  |bl b=>cases rx;exact SeqAt.EqAt.none_bool b
  |int b=>obtain⟨t,rfl⟩:=rx;exact SeqAt.EqAt.none_int b t
  |str b=>obtain⟨t,rfl⟩:=rx;exact SeqAt.EqAt.none_str b t
  |_=>exact absurd (show false=true from fx) aan
 |bl a =>
  cases ry
  cases x with
  |non=>cases rx;exact SeqAt.EqAt.bool_none a
  |bl b=>cases rx;exact SeqAt.EqAt.bool_bool a b
  |int b=>obtain⟨t,rfl⟩:=rx;exact SeqAt.EqAt.bool_int a b t
  |str b=>obtain⟨t,rfl⟩:=rx;exact SeqAt.EqAt.bool_str a b t
  |_=>exact absurd (show false=true from fx) aan
 |int a =>
  obtain⟨t',rfl⟩:=ry
  cases x with
  |non=>cases rx;exact SeqAt.EqAt.int_none a t'
  |bl b=>cases rx;exact SeqAt.EqAt.int_bool a t' b
  |int b=>obtain⟨t,rfl⟩:=rx;exact SeqAt.EqAt.int_int a t' b t
  |str b=>obtain⟨t,rfl⟩:=rx;exact SeqAt.EqAt.int_str a t' b t
  |_=>exact absurd (show false=true from fx) aan
 |str a =>
  obtain⟨t',rfl⟩:=ry
  cases x with
  |non=>cases rx;exact SeqAt.EqAt.str_none a t'
  |bl b=>cases rx;exact SeqAt.EqAt.str_bool a t' b
  |int b=>obtain⟨t,rfl⟩:=rx;exact SeqAt.EqAt.str_int a t' b t
  |str b=>obtain⟨t,rfl⟩:=rx;exact SeqAt.EqAt.str_str a t' b t
  |_=>exact absurd (show false=true from fx) aan
 |_=>exact absurd (show false=true from fy) aan
def pZ(x:V)(u:Value):Bool:=match u with
 |.none=>Br .non x
 |.bool b=>Br (.bl b) x
 |.int i _=>Br (.int i) x
 |.str z _=>Br (.str z) x
 |_=>false
theorem zZ4(r:RelV y u)(f:zy y=true):pZ x u=Br y x:=by
 cases y with
 |non=>cases r;rfl
 |bl b=>cases r;rfl
 |int i=>obtain⟨t,rfl⟩:=r;rfl
 |str z=>obtain⟨t,rfl⟩:=r;rfl
 |_=>exact absurd (f) aan
theorem Om:∀{xs:List V}{us:List Value},Vals xs us->xs.all zy=true->us.any (pZ x)=xs.any λy=>Br y x
 |_,_,.nil,_=>rfl
 |y::xs,u::us,.cons r t,f=>by
  rw[all_cons,abr] at f
  rw[any_cons,any_cons,zZ4 r f.1,Om t f.2]
theorem Oo(d:RelV x v)(e:zy x=true):∀{xs:List V}{us:List Value},Vals xs us->xs.all zy=true->∀u∈us,SeqAt.EqAt A s u v (pZ x u)
 |_,_,.nil,_=>λu c=>by cases c
 |y::xs,u::us,.cons r t,f=>λg c=>by
  rw[all_cons,abr] at f
  rcases mem_cons.mp c with rfl|c
  ·rw[zZ4 r f.1];exact Ip r d f.1 e
  ·exact Oo d e t f.2 g c
def inV(x:V)(xs:List V):Bool:=xs.any λy=>Br y x
def Ir(K:Frag)(d:Bool):R2:=λx y H Q=>∃p c,y=.ref p/\(aW K H p c\/gF K H p c)/\zy x=true/\c.all zy=true/\Q (.bl (if d then !inV x c else inV x c)) H
theorem zTz:gO X (compareOp .In) (Ir X.K false):=by
 intro pins s σ H x y v u Q I j k h
 obtain⟨p,xs,rfl,e,i,f,q⟩:=h
 cases k
 rcases e with e|e
 ·obtain⟨c,r,g,l⟩:=I.list e
  refine SeqAt.in_listAt (pZ x) g.isList (λw m=>Oo j i r f w (by grind)) ⟨.bl _,H,I,rfl,?_⟩
  rw[show c.toArray.any (pZ x)=c.any (pZ x) by simp,Om r f]
  exact q
 ·obtain⟨c,r,g,l⟩:=I.tuple e
  refine SeqAt.in_tupleAt (pZ x) g (λw m=>Oo j i r f w (by simp_all)) ⟨.bl _,H,I,rfl,?_⟩
  rw[show c.toArray.any (pZ x)=c.any (pZ x) by simp,Om r f]
  exact q
theorem zLj:gO X (compareOp .NotIn) (Ir X.K true):=by
 intro pins s σ H x y v u Q I j k h
 obtain⟨p,xs,rfl,e,i,f,q⟩:=h
 cases k
 rcases e with e|e
 ·obtain⟨c,r,g,l⟩:=I.list e
  refine SeqAt.notIn_listAt (pZ x) g.isList (λw m=>Oo j i r f w (by grind)) ⟨.bl _,H,I,rfl,?_⟩
  rw[show c.toArray.any (pZ x)=c.any (pZ x) by simp,Om r f]
  exact q
 ·obtain⟨c,r,g,l⟩:=I.tuple e
  refine SeqAt.notIn_tupleAt (pZ x) g (λw m=>Oo j i r f w (by grind)) ⟨.bl _,H,I,rfl,?_⟩
  rw[show c.toArray.any (pZ x)=c.any (pZ x) by simp,Om r f]
  exact q
theorem zMl:pP X (.builtin "len") (λxs H Q=>∃p ys,xs=[.ref p]/\(aW X.K H p ys\/gF X.K H p ys)/\Q (.int ys.length) H):=by
 intro pins s σ H xs us Q I r h
 obtain⟨p,ys,rfl,d,q⟩:=h
 obtain⟨u,rfl,j⟩:=Bb r
 cases j
 have hn:=Ib
 rcases d with d|d
 ·obtain⟨g,e,f,i⟩:=I.list d
  have c:=e.length
  exact Calls.call_len_list f.isList (by grind) ⟨.int ys.length,H,I.tok _,⟨s.toks+1,by grind⟩,q⟩
 ·obtain⟨g,e,f,i⟩:=I.tuple d
  have c:=e.length
  exact len_tuple f (by grind) ⟨.int ys.length,H,I.tok _,⟨s.toks+1,by grind⟩,q⟩
theorem zMk:pP X (.type "list") (λxs H Q=>∃p ys,xs=[.ref p]/\(aW X.K H p ys\/gF X.K H p ys)/\∀l,H l=none->Q (.ref l) (upd H l (.lst ys))):=by
 intro v s σ H xs us Q I r h
 obtain⟨p,ys,rfl,t,q⟩:=h
 obtain⟨u,rfl,C⟩:=Bb r
 cases C
 have j:∀(c:List Value),Vals ys c->ys.length<=sizeLine->∀(d:Heap)(f:Nat),(∀b B,s.heap.get? b=some B->d.get? b=some B) ->
   d.get? s.heap.objs.size=some { cls:=.type "list",dict:=none,data:=.seq c.toArray f,slots:=#[] }->EP X v σ Q (.ref s.heap.objs.size) { s with heap:=d }:=λc g k d f m e =>
  ⟨.ref s.heap.objs.size,_,I.laid m (aao _) (show bI X.prog X.w _ d _ (.lst ys) from⟨k,c,f,g,e⟩),rfl,q _ (I.hok.fresh (aao _))⟩
 rcases t with t|t
 ·obtain⟨c,g,y,k⟩:=I.list t
  have i:=g.length
  obtain⟨o,z,x,n,A⟩:=y.isList
  exact call_list_seq p (.inl rfl) z x A (λd f m e=>j c g k d f m e) (by grind)
 ·obtain⟨c,g,y,k⟩:=I.tuple t
  have i:=g.length
  obtain⟨o,z,x,n,A⟩:=y
  exact call_list_seq p (.inr rfl) z x A (λd f m e=>j c g k d f m e) (by grind)
def Wj(K:Frag)(T:String)(x:V)(H:Hp):Prop:=match x with
 |.str _=>T = "str"
 |.int _=>T = "int"
 |.ref p=>(T = "list" /\ ∃d,aW K H p d)\/(T = "tuple" /\ ∃o,K.lookup p=some o/\o.cls=.type "tuple" /\ o.dict=none) \/
   (T = "dict" /\ ((∃c,H p=some (.dK c))\/∃c,H p=some (.dT c)))\/(T = "set" /\ ∃S n,H p=some (.set S n))
 |_=>False
theorem zYy(I:Inv X pins σ H s)(r:RelV x v)(ty:Wj X.K T x H) :
  s.TypeIs v T/\∀a,v=.ref a->∃ob,s.heap.get? a=some ob/\ob.dict=none:=by
 cases x with
 |str z =>
  obtain⟨t,rfl⟩:=r
  cases(show T = "str" from ty)
  exact⟨typeIs_str s z t,λ_ e=>nomatch e⟩
 |int i =>
  obtain⟨t,rfl⟩:=r
  cases(show T = "int" from ty)
  exact⟨typeIs_int s i t,λ_ e=>nomatch e⟩
 |ref p =>
  cases r
  rcases ty with⟨rfl,xs,hq⟩|⟨rfl,o,hk,hc,hd⟩|⟨rfl,hk⟩|⟨rfl,S,n,hk⟩
  ·obtain⟨its,_,pl,_⟩:=I.list hq
   refine⟨pl.isList.typeIs,λa e=>?_⟩
   cases e
   obtain⟨o,n,e,c,hd,_⟩:=pl
   exact⟨o,e,hd⟩
  ·refine⟨⟨o,I.gJ p o hk,hc⟩,λa e=>?_⟩
   cases e
   exact⟨o,I.gJ _ o hk,hd⟩
  ·have z:∃o,s.heap.get? p=some o/\o.ExactDict:=by
    rcases hk with⟨kvs,hk⟩|⟨kvs,hk⟩
    ·obtain⟨_,_,_,_,o,_,_,e,ex,_⟩:=I.hok p _ hk
     exact⟨o,e,ex⟩
    ·obtain⟨_,_,_,_,o,_,_,e,ex,_⟩:=I.hok p _ hk
     exact⟨o,e,ex⟩
   obtain⟨o,e,ex⟩:=z
   refine⟨⟨o,e,ex.1⟩,λa e2=>?_⟩
   cases e2
   exact⟨o,e,ex.2.1⟩
  ·obtain⟨o,_,_,_,e,ex,_⟩:=I.hok p _ hk
   refine⟨⟨o,e,ex.1⟩,λa e2=>?_⟩
   cases e2
   exact⟨o,e,ex.2.1⟩
 |_=>exact abl ty
def Iu(K:Frag)(T:String)(r:V->List V->Hp->VK->Prop)(d:TE):TE:=λσ H Q=>d σ H λx c=>Wj K T x c/\r x [] c Q
def z6(K:Frag)(T:String)(r:V->List V->Hp->VK->Prop)(e:TE)(t:TA):TE:=λσ H Q=>e σ H λx c=>Wj K T x c/\t σ c λd f=>r x d f Q
variable{o e:Expr}{es:List Expr}{to:TE}{t:TA}{name:Str}{apos cpos:Pos}{T id:String}{r:V->List V->Hp->VK->Prop}
theorem Iv(q:PlainAttrs T)(g:Slot T name id)(i:typeOf (.builtin id)=pure (.type "method_descriptor"))(m:MtR X id r)(u:PE X o to)(f:attributeBase o name X.env (eval o X.env)=eval o X.env:=by rfl)(d:(apos.endLine==cpos.line)=true:=by rfl):PE X (.Call (.Attribute o name apos) [] [] cpos) (Iu X.K T r to):=by
 intro c s σ H Q I h
 refine wpAny_Call_method0_late f d (aP (u c s σ H _ I h) ?_)
 rintro v n ⟨x,y,k,j,p,z⟩
 obtain⟨w,l⟩:=zYy k j p
 exact⟨T,id,q,g,i,w,l,Calls.callWith_builtin rfl (PySem.evalArgs_none (m c n σ y x [] v [] Q k j .nil z))⟩
theorem Gb(pa:PlainAttrs T)(slot:Slot T name id)(hty:typeOf (.builtin id)=pure (.type "method_descriptor"))(hm:MtR X id r)(ho:PE X o to)(ha:PA X (e::es) t)(hbase:attributeBase o name X.env (eval o X.env)=eval o X.env:=by rfl)(hfew:((backTo cpos (starEach (e::es) X.env)).all (λx=>!x.1)&&(backToKw cpos (keywordEach [] X.env)).all (λx=>x.1.isSome)
   && decide ((e::es).length+([]:List Keyword).length+(if([]:List Keyword).isEmpty then 0 else 1)<30))=true:=by rfl)(hline:(apos.endLine==cpos.line)=true:=by rfl)(hs:starEach (e::es) X.env=(false,eval e X.env)::starEach es X.env:=by rfl)(hplain:(backTo cpos (starEach es X.env)).any (·.1)=false:=by rfl) :
  PE X (.Call (.Attribute o name apos) (e::es) [] cpos) (z6 X.K T r to t):=by
 intro pins s σ H Q I h
 refine wpAny_Call_method_late hbase hfew hline rfl (aP (ho pins s σ H _ I h) λv s1 ⟨x,H1,I1,r1,ty,q1⟩=>?_)
 obtain⟨h1,h2⟩:=zYy I1 r1 ty
 refine⟨T,id,pa,slot,hty,h1,h2,?_⟩
 have hA:=ha cpos pins s1 σ H1 _ I1 q1
 rw[hs] at hA ⊢
 refine Calls.callWith_builtin (by show(false||(backTo cpos (starEach es X.env)).any (·.1))=false;rw[hplain]<;>rfl) (Calls.evalArgs_plain ?_)
 exact aP hA λus s2 ⟨vs,H2,I2,r2,q2⟩=>hm pins s2 σ H2 x vs v us Q I2 r1 r2 q2
end
def Oq(X:Cx)(id:String)(r:V->List V->Hp->VK->Prop):Prop :=
 ∀(a:List (Addr×Obj))(s:Shared)(σ:St)(H:Hp)(x:V)(b:List V)(v:Value)(c:List Value)(Q:VK),Inv X a σ H s->RelV x v->Vals b c->r x b H Q ->
  wpAny (model X.prog X.w) X.A (call (.builtin id) (v::c)) (EP X a σ Q) X.xe s
theorem Vals.one{x:V}{us:List Value}(h:Vals [x] us):∃u,us=[u]/\RelV x u:=by
 cases h with|cons r h=>cases h;exact⟨_,rfl,r⟩
theorem Vals.two{x y:V}{us:List Value}(h:Vals [x,y] us):∃u v,us=[u,v]/\RelV x u/\RelV y v:=by
 cases h with|cons r h=>cases h with|cons q h=>cases h;exact⟨_,_,rfl,r,q⟩
theorem Vals.zero:∀{us:List Value},Vals [] us->us=[]
 |_,.nil=>rfl
theorem Vals.reverse(h:Vals xs us):Vals xs.reverse us.reverse:=by
 induction h with
 |nil=>exact .nil
 |cons r t ih=>rw[reverse_cons,reverse_cons];exact Vals.append ih (.cons r .nil)
section
variable{X:Cx}{pins:List (Addr×Obj)}{σ:St}{H:Hp}{s:Shared}{l b:Addr}{xs ys zs:List V}
theorem Inv.Iw{a its':List Value}{f:Array Value->Array Value}(I:Inv X pins σ H s)(i:H l=some (.lst xs))(e:s.heap.get? l=some { cls:=.type "list",data:=.seq a.toArray n })(g:f a.toArray=its'.toArray)(d:Vals ys its')(hz:ys.length<=sizeLine) :
  Inv X pins σ (upd H l (.lst ys)) { s with heap:=s.heap.update l (acw f),toks:=t' }:=by
 have q:=PySem.IsL.update e f
 rw[g] at q
 refine I.write (by rw[i];exact trivial) (.inl rfl) (λb' u c h=>(get?_update_other s.heap (acw f) (acf c)).trans h) ⟨_,q⟩ ?_
 exact⟨hz,its',_,d,q⟩
theorem Inv.Wk(I:Inv X pins σ H s)(c:Vals ys a)(hz:ys.length<=sizeLine) :
  Inv X pins σ (upd H s.heap.objs.size (.lst ys)) { s with heap:=s.heap.push { cls:=.type "list",data:=.seq a.toArray },toks:=t' } :=
 I.laid (λ_ _ q=>get?_push_of_some _ q) (aao _) ⟨hz,a,0,c,get?_push_size _ rfl⟩
theorem Inv.fresh(I:Inv X pins σ H s):H s.heap.objs.size=none:=I.hok.fresh (aao _)
theorem Inv.rD(I:Inv X pins σ H s)(c:H l=some (.lst xs)):xs.length<=sizeLine/\∃(a:List Value)(n:Nat),Vals xs a/\xs.length=a.length/\s.heap.get? l=some { cls:=.type "list",data:=.seq a.toArray n }:=by
 obtain⟨z,a,n,r,e⟩:=I.hok l _ c
 exact⟨z,a,n,r,r.length,e⟩
theorem zXm(h:n<=sizeLine):adf n=false:=by
 unfold adf
 grind
end
section
variable{X:Cx}
def Iz:V->List V->Hp->VK->Prop:=λx b H Q=>∃l a y,x=.ref l/\b=[y]/\H l=some (.lst a)/\a.length<sizeLine/\Q .non (upd H l (.lst (a++[y])))
theorem yS:Oq X "list.append" Iz:=by
 intro pins s σ H x vs v us Q I c f h
 obtain⟨l,xs,y,rfl,rfl,b,hz,q⟩:=h
 cases c
 obtain⟨u,rfl,d⟩:=f.one
 obtain⟨z,a,n,r,hl,e⟩:=I.rD b
 refine aev F.slot_list_append ⟨_,e,rfl⟩ F.entry_list_append (F.args_list_append_2 _ _) (PySem.list_append l a.toArray n u (by grind)) ⟨e,?_⟩
 refine⟨.non,_,I.Iw b e (by simp) (r.append (.cons d .nil)) ?_,rfl,q⟩
 grind
def Wm:V->List V->Hp->VK->Prop:=λx d H Q=>∃l b c a,x=.ref l/\d=[.ref b]/\H l=some (.lst c)/\H b=some (.lst a)/\c.length+a.length<=sizeLine/\Q .non (upd H l (.lst (c++a)))
theorem Sw:Oq X "list.extend" Wm:=by
 intro pins s σ H x vs v us Q I t o h
 obtain⟨l,b,xs,zs,rfl,rfl,g,j,hz,q⟩:=h
 cases t
 obtain⟨u,rfl,k⟩:=o.one
 cases k
 obtain⟨z,c,n,r,hl,e⟩:=I.rD g
 obtain⟨z2,a,i,p,hl2,m⟩:=I.rD j
 have f:c.toArray.size+a.toArray.size<=sizeLine:=by grind
 have d:¬(!c.toArray.isEmpty&&adf (c.toArray.size+a.toArray.size))=true:=by
  rw[zXm f]
  grind
 refine aev F.slot_list_extend ⟨_,e,rfl⟩ F.entry_list_extend (F.args_list_extend_2 _ _)
  (AutoSeq1.list_extend_list_list_0 l c.toArray n b a.toArray i d (by grind) (by lia)) ⟨e,m,?_⟩
 refine⟨.non,_,I.Iw g e (by simp) (r.append p) ?_,rfl,q⟩
 grind
def zO2:V->List V->Hp->VK->Prop:=λx b H Q=>∃l a,x=.ref l/\b=[]/\H l=some (.lst a)/\Q .non (upd H l (.lst a.reverse))
theorem Wn:Oq X "list.reverse" zO2:=by
 intro pins s σ H x vs v us Q I d f h
 obtain⟨l,xs,rfl,rfl,c,q⟩:=h
 cases d
 have b:=f.zero
 subst b
 obtain⟨z,a,n,r,hl,e⟩:=I.rD c
 refine aev F.slot_list_reverse ⟨_,e,rfl⟩ F.entry_list_reverse (F.args_list_reverse_1 _) (AutoSeq1.list_reverse_list_0 l a.toArray n (by grind)) ⟨e,?_⟩
 refine⟨.non,_,I.Iw c e (by simp) r.reverse ?_,rfl,q⟩
 grind
def Ot:R2:=λx y H Q=>∃l b c a,x=.ref l/\y=.ref b/\H l=some (.lst c)/\H b=some (.lst a)/\c.length+a.length<=sizeLine/\∀p,H p=none->Q (.ref p) (upd H p (.lst (c++a)))
theorem SJ:gO X (binaryOp .Add) Ot:=by
 intro pins s σ H x y v u Q I m d h
 obtain⟨l,b,xs,zs,rfl,rfl,f,j,hz,q⟩:=h
 cases m
 cases d
 obtain⟨z,c,n,r,hl,e⟩:=I.rD f
 obtain⟨z2,a,n2,k,hl2,i⟩:=I.rD j
 refine PySem.P.add_list e i ?_ (by grind)
 have g:c.toArray++a.toArray=(c++a).toArray:=by simp
 rw[g]
 exact⟨.ref _,_,I.Wk (r.append k) (by grind),rfl,q _ I.fresh⟩
end
end L2
namespace Att
open PySem PySem.W PySem.Calls PyProof.Rows
theorem zHd:∀(ns:LI)(vs:List Value),WellAll P h vs (ns.map WData.int)->IntsAre vs ns:=by
 intro ns
 induction ns with
 |nil =>
  intro vs w
  cases w
  exact .nil
 |cons n ns ih =>
  intro vs w
  cases w with
  |cons a b =>
   cases a
   exact .cons _ _ (ih _ b)
theorem zS0{l:OpenLaw}(hn:l.most=some n)(c:l.row.toRowW.claim.pre b=true)(j:WellAll P h g b) :
  ∃a vs ns,g=[abj a]/\b=[WData.list (ns.map WData.int)]/\h.get? a=some { cls:=.type "list",data:=.seq vs.toArray }/\IntsAre vs ns/\ns.length<=n:=by
 have i:=(pre_splitW c).1
 have m:l.pre.holds [] { args:=b }=true:=(pre_splitW c).2
 obtain⟨d,r,rfl,p,t⟩:=hasAllW_cons i
 obtain rfl:=hasAllW_nil t
 obtain⟨xs,rfl,s⟩:=hasW_list p
 obtain⟨ns,rfl⟩:=items_int s
 have f:ns.length<=n:=by
  unfold OpenLaw.pre at m
  have k:(WTm.not (.lt (.lit (.int (n:Int))) (.len (.arg 0)))).holds [] { args:=[.list (ns.map .int)] }=true:=by
   have k:=(holds_andW m).1
   grind
  have h5:=condW_of k (w_not (w_lt w_lit (w_len_list (w_arg rfl))))
  grind
 cases j with
 |cons q u =>
  cases u
  cases q with
  |list o e=>exact⟨_,_,ns,rfl,rfl,o,zHd ns _ e,f⟩
theorem zTm(l:OpenLaw)(a:List WData):l.row.toRowW.claim.post a (.bool true) a=true :=
 postW_of
  (show WShape.has [] (.bool true) .bool=true by first|rfl|decide|grind)
  (w_eq_bool (w_res rfl) w_lit) rfl
theorem n8{l:OpenLaw}{B:World->Heap->Prop}{d:DefRec}(P:l.most=some n)(v:d.params.defaults=[])(call:∀(w:World) (x b:Shared) (mg t:Str->Option Value) (h:Addr) (o:Obj) (z m c:Value) (a:Addr) (vs:List Value) (ns:LI),
   Ground q e [] L w x mg t b.heap->B w b.heap ->
   b.heap.get? h=some o->o.data=.func (docDef d.name d.params d.body d.scope z m c)->b.heap.CodeRec m d.name->mg d.name=some (.ref h) ->
   b.heap.get? a=some { cls:=.type "list",data:=.seq vs.toArray }->IntsAre vs ns->ns.length<=n->b.gens=#[] ->
   codeAny (model l.prog w) callerA (.call (.ref h) ⟨[.ref a],[]⟩) (λr s'=>r=.ok (.ret (.bool true))/\OldK b.heap s'.heap/\s'.os=b.os/\AllBare s'.gens) b) :
  WalkO q e L B l.row.toRowW d [] (λf vs=>PySem.call f vs):=by
 intro w x b mg t G Y h o z m c N E C I u A p H args vals as j hlay hrd y hlo
 obtain rfl:N=.none:=Dflts.none A v
 obtain rfl:E=.none:=Dflts.noKw A
 obtain⟨a,vs,ns,rfl,rfl,k,g,i⟩:=zS0 P j y
 refine enter_call (ac7 (call w x b mg t h o z m c a vs ns G Y C (fd_plain I) u p k g i H) λr s' O=>?_)
 obtain⟨rfl,J,F,D⟩:=O
 exact⟨.inl ⟨.bool true,.bool true,[],rfl,λ_=>rfl,.bool true,zTm l _,λ_=>⟨Pairwise.nil,λ_ M=>(nomatch M)⟩⟩,J,F,D⟩
end Att
namespace L2
open PySem PySem.Spec PyProof.Rows
theorem zKv:∀{vs:List Value}{ns:LI},IntsAre vs ns->Vals (ns.map V.int) vs
 |_,_,.nil=>.nil
 |_,_,.cons n t h=>.cons ⟨t,rfl⟩ (zKv h)
def Only(H:Hp):Prop:=∀b,H b=none\/∃o a,H b=some (.mL o (.lst a))
theorem zXy{K:Frag}{c:Shared}{vs:List Value}(X:K.In c.heap)(D:c.heap.Ns aa9 mg)(g:c.heap.Ns builtinsNs Y)(L:∀x:Str,x ≠ "__name__"->Y x=bootBuiltins x)(t:c.heap.NoLimit)(hg:c.gens=#[])(J:c.heap.get? a=some { cls:=.type "list",data:=.seq vs.toArray })(Z:IntsAre vs ns)(hl:ns.length<=sizeLine)(hr:bG k callerA)(F:∀base:Heap,K.In base->base.Ns aa9 mg->aH P w K mg base CX k T fd [x] sp)(l:∀(s:Shared) (u:Value),BindsTo s fd ⟨[u],[]⟩ [(x,u)])(N:∀H:Hp,Only H->aW K H a (ns.map V.int)->sp [.ref a] H (λv _=>v=.bl true) λ_ _ _=>False)(M:∀H e s',CX [] H c (λ_ _ _=>False) e s'->False) :
  codeAny (model P w) callerA (.call (.ref T) ⟨[.ref a],[]⟩) (λr s'=>r=.ok (.ret (.bool true))/\OldK c.heap s'.heap/\s'.os=c.os/\AllBare s'.gens) c:=by
 have U:=zKv Z
 have B:=Z.length
 have j:∀H:Hp,Only H->aW K H a (ns.map V.int)->dR P w H c.heap->(∀b,H b≠none->b=a)->(H a≠none->K.lookup a=none) ->
   codeAny (model P w) callerA (.call (.ref T) ⟨[.ref a],[]⟩) (λr s'=>r=.ok (.ret (.bool true))/\OldK c.heap s'.heap/\s'.os=c.os/\AllBare s'.gens) c:=by
  intro H hO hS C S hK
  have f:∀{b:Addr}{o:Obj},c.heap.get? b=some o->H b=none->(mO c.heap H).get? b=some o:=λe n=>zX4 e n
  have Q:∀{b:Addr}{o:Obj}{y:Array DictEntry}{A:Nat},c.heap.get? b=some o->o.data=.dict y A->H b=none:=λ{b o y A} e d=>by
   cases q:H b with
   |none=>rfl
   |some u =>
    have R:b=a:=S b (by rw[q];simp)
    subst R
    rw[J] at e;cases e
    have d':Data.seq vs.toArray _=Data.dict y A:=d
    cases d'
  have i:∀{b:Addr}{m:Str->Option Value},c.heap.Ns b m->(mO c.heap H).Ns b m:=λ{b m} ⟨o,y,A,e,d,r⟩=>⟨o,y,A,f e (Q e d),d,r⟩
  have p:K.In (mO c.heap H):=λb o e=>f (X b o e) (by
   cases q:H b with
   |none=>rfl
   |some u =>
    have R:b=a:=S b (by rw[q];simp)
    subst R
    rw[hK (by rw[q];simp)] at e;cases e)
  have hM:Mod K mg (mO c.heap H):=⟨p,i D,⟨Y,i g,L⟩,let⟨mc,h1,h2⟩:=t;⟨mc,i h1,h2⟩⟩
  have e0:pY P w K mg (mO c.heap H) callerA [] c H:=⟨rfl,hM,λb o e=>Am e,Nat.le_of_eq (zUu _ _),trivial,λb g=>absurd (show b∈([]:List Addr) from g) (by simp),C,.of_eq hg⟩
  refine ac7 ((F _ p (i D)).run callerA [] c H ⟨[.ref a],[]⟩ [.ref a] [.ref a] _ _ hr e0 (l c (.ref a)) (.cons rfl .nil) (N H hO hS)) λr s' h=>?_
  cases r with
  |error e=>exact(M H e s' h).elim
  |ok fl =>
   cases fl with
   |next=>exact abl h
   |brk=>exact abl h
   |cont=>exact abl h
   |ret u =>
    obtain⟨v,H',os,G,un,E,r',q⟩:=h
    have q':v=.bl true:=q
    subst q'
    obtain rfl:u=Value.bool true:=r'
    refine⟨rfl,OldK.of_keep λb o e=>?_,os,G⟩
    cases q:H b with
    |none=>exact un.keep b o e q (by intro z;exact absurd (show b∈([]:List Addr) from z) (by simp)) (by simp)
    |some u =>
     rcases hO b with z|⟨ob,xs,z⟩
     ·rw[q] at z;cases z
     ·have z2:=un.jM b ob _ z
      obtain⟨e1,_⟩:=C b _ z
      obtain⟨e2,_⟩:=E b _ z2
      rw[e] at e1;cases e1
      exact e2
 cases O:K.lookup a with
 |some o =>
  have e:=X a o O
  rw[J] at e
  cases e
  refine j (λ_=>none) (λ_=>.inl rfl) (.inr ⟨_,vs.toArray,_,O,rfl,rfl,rfl,by rw[size_toArray,B];exact hl,by simpa using U⟩) (λb u z=>by have I:(none:Option HO)=some u:=z;cases I) (λb z=>absurd rfl z) λz=>absurd rfl z
 |none =>
  refine j (λb=>if b=a then some (.mL { cls:=.type "list",data:=.seq vs.toArray } (.lst (ns.map V.int))) else none) (λb=>?_) (.inl (.inr ⟨{ cls:=.type "list",data:=.seq vs.toArray },if_pos rfl⟩)) (λb u z=>?_) (λb z=>?_) λ_=>O
  ·by_cases g:b=a
   ·exact .inr ⟨_,_,if_pos g⟩
   ·exact .inl (if_neg g)
  ·by_cases g:b=a
   ·have I:=(if_pos g).symm.trans z
    cases I
    subst g
    exact⟨J,by rw[length_map];exact hl,vs,_,U,J⟩
   ·have I:=(if_neg g).symm.trans z
    cases I
  ·by_cases g:b=a
   ·exact g
   ·exact absurd (if_neg g) z
theorem Bt{l:PySem.W.OpenLaw}{D:World->Heap->Prop}{d:DefRec}{K:Params->Frag}{CX:World->sZ}{sp:World->Sp}(hn:l.most=some n)(z:n<=sizeLine)(r:d.params.defaults=[])(hr:bG k callerA)(hY:∀(w:World) (h:Heap),D w h->(K w.params).In h)(F:∀(w:World) (mg:Str->Option Value) (p:Addr) (h:Heap),(K w.params).In h->h.Ns aa9 mg->mg d.name=some (.ref p) ->
   ∃y:FuncData,(∀(s:Shared) (u:Value),BindsTo s y ⟨[u],[]⟩ [(x,u)]) /\
    ∀base:Heap,(K w.params).In base->base.Ns aa9 mg->aH l.prog w (K w.params) mg base (CX w) k p y [x] (sp w))(t:∀(w:World) (H:Hp) (a:Addr) (ns:LI),ns.length<=n->Only H->aW (K w.params) H a (ns.map V.int)->sp w [.ref a] H (λv _=>v=.bl true) λ_ _ _=>False)(B:∀(w:World) (H:Hp) (s:Shared) (e:Value) (s':Shared),CX w [] H s (λ_ _ _=>False) e s'->False) :
  PySem.W.WalkO q loose XP D l.row.toRowW d [] (λf vs=>PySem.call f vs):=by
 refine Att.n8 hn r λw s₀ s₁ mg mb p o pm cd doc a vs ns G Y ho hd hcd A m j i hg=>?_
 have C:=hY w _ Y
 obtain⟨y,hb,hF⟩:=F w mg p _ C G.T.g A
 exact zXy C G.T.g G.T.b G.T.builtins G.T.nolimit hg m j (aa0 i z) hr hF hb (λH hO E=>t w H a ns i hO E) λH e s'=>B w H s₁ e s'
def xR(s:Stmt)(j:Nat):Stmt:=match s with
 |.ClassDef _ _ _ b _ _ _ _ _ _ _=>b.getD j (.Pass ⟨0,0,0,0⟩)
 |_=>.Pass ⟨0,0,0,0⟩
def tu(s:Stmt):Arguments:=match s with
 |.FunctionDef _ a _ _ _ _ _ _ _ _=>a
 |_=>{ posonlyargs:=[],args:=[],vararg:=none,kwonlyargs:=[],kw_defaults:=[],kwarg:=none,defaults:=[] }
def wR(s:Stmt):List Stmt:=match s with
 |.FunctionDef _ _ b _ _ _ _ _ _ _=>b
 |_=>[]
def zS(s:Stmt):Scope:=match s with
 |.FunctionDef _ _ _ _ _ _ a _ _ _=>a
 |_=>{ kind:=.function,names:=[],isGenerator:=false,isCoroutine:=false }
abbrev bN:sZ:=λ_ _ _ _ _ _=>False
abbrev E0:XK:=λ_ _ _=>False
theorem uU:Bh bN X E0:=λ_ _ _ _ _ _ _ h=>h.elim
structure cF(K:Frag)(x qual:Str)(st:Stmt)(f:Addr)(fd:FuncData):Prop where
 ex:∃(oc:Value)(od:Option Addr)(kV doc pm:Value)(an:Option Addr)(cdv ct:Value)(osl:Array (Option Value)),
  fd=fnOf x qual (tu st) (wR st) (zS st) .none kV doc pm an cdv ct/\K.lookup f=some ⟨oc,od,.func fd,osl⟩/\codeIn K cdv qual=true
 kp:keepIn K (.ref f)=true
section
variable{P:Program}{w:World}{K:Frag}{mg:Str->Option Value}{base:Heap}
theorem cF.ok{x c:Str}{st:Stmt}{f:Addr}{l:FuncData}{N ps:List Str}{k:Nat}{sp:Sp}(F:cF K x c st f l)(S:aF N ps (zS st))(i:∀vs H Q E,sp vs H Q E->vs.length=ps.length)(e:∀(d:Value) (A:Around) (b:List Env) (s:Shared) (H:Hp) (vs:List V) (Q:VK) (E:XK),bG k (A.deeper (envOfC c (zS st) s.heap.objs.size f d))->sp vs H Q E ->
   ∃t,jH (jw bN P w K mg base N c (zS st) f d A b s H E).tX (wR st) t/\t { nx:=λ_ H'=>Q .non H',rt:=Q } (start N vs) H):aH P w K mg base bN (k+1) f l ps sp:=by
 obtain⟨oc,od,kV,doc,pm,an,d,ct,osl,rfl,n,j⟩:=F.ex
 refine FZ n j S i λA b s H vs Q E m g=>?_
 obtain⟨t,h,q⟩:=e d A b s H vs Q E m g
 exact⟨t,h.tX,q⟩
theorem cF.binds{x b:Str}{st:Stmt}{f:Addr}{j:FuncData}{ps:List Str}(F:cF K x b st f j)(h:∀(kV d g:Value) (i:Option Addr) (c e:Value) (us:List Value),us.length=ps.length->bindArgs (fnOf x b (tu st) (wR st) (zS st) .none kV d g i c e) ⟨us,[]⟩=pure (ps.zip us)):Binds K j ps []:=by
 obtain⟨oc,od,kV,d,g,i,c,e,osl,rfl,lk,hcd⟩:=F.ex
 exact .all (h kV d g i c e)
theorem jN{x a:Str}{st:Stmt}{f:Addr}{j:Value}{od i:Option Addr}{e:Array (Option Value)}{kV d g b h:Value}(l:K.lookup f=some ⟨j,od,.func (fnOf x a (tu st) (wR st) (zS st) .none kV d g i b h),e⟩)(c:codeIn K b a=true)(k:keepIn K (.ref f)=true):cF K x a st f (fnOf x a (tu st) (wR st) (zS st) .none kV d g i b h):=⟨⟨j,od,kV,d,g,i,b,h,e,rfl,l,c⟩,k⟩
end
theorem uz(a:bG k A):A.units+1<cLine:=aaw (Nat.add_le_add_left (by decide:1<=64) _) a.units
theorem zKz(h:n<=1000):n<sizeLine:=aaw h (by decide)
section
variable{X:Cx}
theorem pv(i:Nat)(b:X.N[i]?=some x:=by rfl)(d:Nu X.env.scope x:=by first|exact Or.inl rfl|exact Or.inr (Or.inl rfl)|exact Or.inr (Or.inr rfl))(c:(x==("__debug__":Str))=false:=by decide)(a:(x==("__classdict__":Str))=false:=by decide):PE X (.Name x pos) (bL i):=Hy b d c a
end
theorem mX{A B:Prop}(h:B):if false=true then A else B:=by
 grind
theorem mY{A B:Prop}(h:A):if true=true then A else B:=by
 grind
def Same(H H':Hp):Prop:=∀b o,H b=some o->H' b=some o
theorem Same.refl(H:Hp):Same H H:=λ_ _ h=>h
theorem Same.trans(a:Same H d)(b:Same d e):Same H e:=λc o h=>b c o (a c o h)
theorem Same.free(e:Same H H')(h:H' l=Option.none):H l=Option.none:=by
 cases q:H l with
 |none=>rfl
 |some o =>
  rw[e l o q] at h
  cases h
theorem Same.seq{K:Frag}{H H':Hp}{a:Addr}{xs:List V}(e:Same H H')(h:aW K H a xs):aW K H' a xs:=by
 rcases h with(h|⟨o,h⟩)|h
 ·exact .inl (.inl (e _ _ h))
 ·exact .inl (.inr ⟨o,e _ _ h⟩)
 ·exact .inr h
open PySem
section
variable{prog:Program}{w:World}{A:Around}{R:Result->Shared->Prop}{s:Shared}
theorem LK{α:Type}{t:Sem α}{Q b:α->Shared->Prop}(h:wpAny M A t Q (λ_ _=>False) s)(c:∀a s,Q a s->b a s):wpAny M A t b (notedBy M A env E) s :=
 abu h c λ_ _ z=>z.elim
theorem zMj(I:Nat->Shared->Prop)(d:∀n s,I n s->wpAny (model prog w) A (pyNext k) (λr j=>match r with
   |none=>R (.ok .next) j
   |some v=>wpAny (model prog w) A (letOwnedTupleGo a k v) (λ_ o=>wpAny (model prog w) A (assign a env v) (λ_ t =>
     wpAny (model prog w) A (forIn f true λc r=>if r=true then do let i <-isTrue c env (eval c env);pure (ab7 i) else pure (ab7 r)) (λi l =>
      if i=true then wpAny (model prog w) A (eval g env) (λx u =>
       wpAny (model prog w) A (call (.builtin "list.append") [acc,x]) (λ_ y=>∃m,m<n/\I m y) (λ_ _=>False) u) (λ_ _=>False) l
      else∃m,m<n/\I m l) (λ_ _=>False) t) (λ_ _=>False) o) (λ_ _=>False) j) (λ_ _=>False) s)(n:Nat)(h:I n s):codeAny (model prog w) A (.compLoop (.ListComp g [⟨a,e,f,0⟩] b pos) 0 k acc env) R s:=by
 refine codeAny_loop rfl I (λn s B=>?_) n h
 show wpAny _ A ((compTurn (.ListComp g [⟨a,e,f,0⟩] b pos) 0 k acc env).onRaise (λx=>do noteFrame x env;theTreesLotGoes x)) _ _ s
 refine wpAny_noted ?_
 rw[compTurn_list]
 refine aak (aer (aak (LK (d n s B) λr j q=>?_)))
 cases r with
 |none=>exact aal q
 |some v =>
  refine aak (LK q λ_ o D=>?_)
  refine aak (LK D λ_ t z=>aak (LK z λi l p=>?_))
  cases i with
  |false=>exact aal ⟨rfl,p⟩
  |true =>
   exact aak (aak (LK p λx u E=>aak (LK E λ_ y C=>aal (aal ⟨rfl,C⟩))))
end
def lX(env:Env):List (Str×NameKind)->List (Str×Addr)->List (Str×Addr)
 |[],a=>a
 | (n,k)::r,a=>if k==.free then lX env r ((n,(env.cells.lookup n).getD 0)::a) else lX env r a
theorem zEu{scope:Scope}{env:Env}(h:∀y∈scope.names,y.2=.free->∃c,env.cells.lookup y.1=some c):closureFor scope env=pure (lX env scope.names []):=by
 unfold closureFor
 generalize scope.names=l at h
 have go:∀(l:List (Str×NameKind))(acc:List (Str×Addr)),(∀y∈l,y.2=.free->∃c,env.cells.lookup y.1=some c) ->
    (forIn l acc (λ(x:Str×NameKind) (r:List (Str×Addr))=>match x with
    | (name,kind)=>if(kind==abh)=true then(do let __do_lift <-cellOf env name;pure (ab7 ((name,__do_lift)::r))) else pure (ab7 r)):Sem (List (Str×Addr)))=pure (lX env l acc):=by
  intro l
  induction l with
  |nil=>intro acc _;rfl
  |cons x r ih =>
   intro acc hl
   obtain⟨n,k⟩:=x
   rw[List.forIn_cons]
   unfold lX
   by_cases hk:(k==abh)=true
   ·obtain⟨c,hc⟩:=hl (n,k) mem_cons_self (ad5 hk)
    simp only[hk,if_true]
    have hc':env.cells.lookup n=some c:=hc
    unfold cellOf
    rw[hc']
    exact ih _ λy hy=>hl y (mem_cons_of_mem _ hy)
   ·simp only[hk,if_false]
    exact ih _ λy hy=>hl y (mem_cons_of_mem _ hy)
 have e:=go l [] h
 simp only[bind_pure]
 exact e
theorem Wo{env:Env}:∀(l:List (Str×NameKind))(acc:List (Str×Addr)),(∀x c,acc.lookup x=some c->(env.cells.lookup x).getD 0=c)->∀x c,(lX env l acc).lookup x=some c->(env.cells.lookup x).getD 0=c
 |[],_,h,x,c,e=>h x c e
 | (n,k)::r,acc,h,x,c,e=>by
  unfold lX at e
  by_cases a:(k==abh)=true
  ·rw[if_pos a] at e
   refine Wo r _ (λy d q=>?_) x c e
   grind
  ·rw[if_neg a] at e
   exact Wo r acc h x c e
theorem Wq:∀(l:List (Str×NameKind))(acc:List (Str×Addr))(x:Str)(c:Addr),(lX env l acc).lookup x=some c->(acc.lookup x).isSome=true\/(x,abh)∈l
 |[],_,x,c,e=>.inl (by unfold lX at e;grind)
 | (n,k)::r,acc,x,c,e=>by
  unfold lX at e
  by_cases a:(k==abh)=true
  ·rw[if_pos a] at e
   rcases Wq r _ x c e with h|h
   ·grind
   grind
  ·rw[if_neg a] at e
   rcases Wq r _ x c e with h|h
   ·grind
   grind
theorem SM:∀(l:List (Str×NameKind))(acc:List (Str×Addr))(x:Str),((acc.lookup x).isSome=true\/(x,abh)∈l)->((lX env l acc).lookup x).isSome=true
 |[],_,x,h=>by
  rcases h with h|h
  ·exact h
  grind
 | (n,k)::r,acc,x,h=>by
  unfold lX
  by_cases a:(k==abh)=true
  ·rw[if_pos a]
   refine SM r _ x ?_
   grind
  ·rw[if_neg a]
   refine SM r _ x ?_
   grind
theorem zFy{env:Env}:∀{a:List (Str×NameKind)}{x:Str},a.lookup x=some .free ->
  (a.map λ(n,k)=>if(k==abh&&env.scope.kind==.function&&env.kindOf n==some .cell) then(n,adg) else(n,k)).lookup x=some .cell \/
  (a.map λ(n,k)=>if(k==abh&&env.scope.kind==.function&&env.kindOf n==some .cell) then(n,adg) else(n,k)).lookup x=some .free
 |[],_,h=>by simp at h
 | (n,k)::r,x,h=>by
  have ih:=@zFy env r x
  grind
theorem Wr{env:Env}:∀{a:List (Str×NameKind)}{x:Str}{k:NameKind},(k=.cell\/k=.free) ->
  (a.map λ(n,k)=>if(k==abh&&env.scope.kind==.function&&env.kindOf n==some .cell) then(n,adg) else(n,k)).lookup x=some k->(x,abh)∈a\/(x,adg)∈a
 |[],_,_,_,h=>by simp at h
 | (n,k')::r,x,k,b,h=>by
  have ih:=@Wr env r x k b
  grind
theorem wS:∀(l:List (Str×NameKind))(n:Nat)(acc:List (Str×Addr)),cellsFrom n l acc=cellsFrom n l []++acc
 |[],_,_=>rfl
 | (x,k)::r,n,acc=>by
  unfold cellsFrom
  split
  ·rw[wS r (n+1) ((x,n)::acc),wS r (n+1) [(x,n)]];simp
  ·exact wS r n acc
theorem Ws:∀(l:List (Str×NameKind))(n:Nat)(x:Str)(c:Addr),(x,c)∈cellsFrom n l []->(x,adg)∈l
 |[],_,_,_,h=>by cases h
 | (y,k)::r,n,x,c,h=>by
  unfold cellsFrom at h
  split at h
  ·rw[wS] at h
   rcases mem_append.mp h with h|h
   ·exact mem_cons_of_mem _ (Ws r _ x c h)
   grind
  ·exact mem_cons_of_mem _ (Ws r _ x c h)
theorem zF7{s:Shared}{a:Scope}{Q:Env->Shared->Prop}(j:∀h',h'.Ns s.heap.objs.size (λ_=>none)->(∀b o,s.heap.get? b=some o->h'.get? b=some o)->CellsOk h' (s.heap.objs.size+1) (cellsFrom (s.heap.objs.size+1) a.names []) ->
   Q (newEnv a s.heap.objs.size c (cellsFrom (s.heap.objs.size+1) a.names d) g none .none (some f) builtinsNs) { s with heap:=h' }) :
  wpAny M A (newFunctionEnv a c d [] g none .none (some f)) Q E s:=by
 refine aak (wpAny_alloc ?_)
 refine aak (wpAny_layCells _ (λname kind cells=>by grind) _ _ _ _ ?_)
 have h:=cellsFrom_ok a.names (s.heap.push { cls:=.type "dict",data:=.dict #[] }) (s.heap.objs.size+1) [] ⟨λ_ _ i=>(nomatch i),Pairwise.nil⟩ (by simp_all)
 rw[size_push] at h
 rw[size_push ..]
 refine aak ?_
 rw[List.forIn_nil]
 exact aal (aal (j _ ((Heap.Ns.new s.heap (.type "dict")).keeps (pushCells_keeps _ _)) (λb o e=>pushCells_keeps _ _ b o (get?_push_of_some _ e)) h))
theorem dR.track(x:dR P w H h)(f:H a=none)(new:bI P w (upd H a o) h a o):dR P w (upd H a o) h:=λb u e=>by
 by_cases d:b=a
 ·subst d;rw[zO] at e;grind
 ·rw[zR d] at e
  exact(x b u e).stay (λc v _ q=>q) (λc q=>by rw[zR (zV q f)];exact q) λc xs q=>by rw[zR (zV q f)];exact q
theorem Un.track(u:Un fs i H H' h h')(h0:h.get? a=none)(e:H a=none):Un fs i H (upd H' a o) h h' where
 keep:=u.keep
 slot:=u.slot
 free:=λb c q n f=>by
  rw[zR (λz=>by grind)];exact u.free b c q n f
 there:=u.there
 tups:=λb d q=>by rw[zR (zV q e)];exact u.tups b d q
 jM:=λb c d q=>by rw[zR (zV q e)];exact u.jM b c d q
 lq:=λb g q=>by rw[zR (zV q e)];exact u.lq b g q
def nIn(N:List Str)(own:List Str)(ix:List Nat):List Str:=own++ix.map λj=>N.getD j ado
def jO(σ:St)(n:Nat)(ix:List Nat):St:=replicate n none++ix.map λj=>(σ[j]?).getD none
def b_(X:Cx)(a:Scope)(own:List Str)(ix:List Nat)(C:Addr)(s:Shared)(H:Hp)(fp:List Addr):Cx :=
 { X with N:=nIn X.N own ix,s₀:=s,H₀:=H,env:=compEnvC a (cellsFrom (C+1) a.names (lX X.env a.names [])) C X.env,outer:=X.stack,stack:=X.stack,ex:=fp,fn:=λx=>a.names.lookup x==some .cell,pn:=[] }
def SN(b:Scope)(c:List Str)(a:Scope)(ix:List Nat):Bool :=
 a.kind==.function &&
 (a.names.all λy=>(y.2 != .cell||a.names.lookup y.1==some .cell)&&(y.2 != .local||a.names.lookup y.1==some .local)&&(y.2 != .free||(b.names.lookup y.1==some .cell||b.names.lookup y.1==some .free))) &&
 ix.all λj=>match c[j]? with
  |some x=>a.names.lookup x==some .free
  |none=>false
structure gw(osc:Scope)(oN:List Str)(scope:Scope)(ix:List Nat):Prop where
 kind:scope.kind=.function
 clk:∀y∈scope.names,y.2=.cell->scope.names.lookup y.1=some .cell
 nm:∀y∈scope.names,y.2=.local->scope.names.lookup y.1=some .local
 fr:∀y∈scope.names,y.2=.free->osc.names.lookup y.1=some .cell\/osc.names.lookup y.1=some .free
 ix:∀j∈ix,∃x,oN[j]?=some x/\scope.names.lookup x=some .free
theorem zMh(h:SN b d a ix=true):gw b d a ix:=by
 unfold SN at h
 rw[abr,abr,all_eq_true] at h
 obtain⟨⟨f,h2⟩,h3⟩:=h
 refine⟨ad5 f,λy c e=>?_,λy c e=>?_,λy c e=>?_,λj hj=>?_⟩
 ·grind
 ·grind
 ·grind
 grind
section
variable{X:Cx}{pins:List (Addr×Obj)}{σ:St}{H:Hp}{s:Shared}{scope:Scope}{own:List Str}{ix:List Nat}
theorem Wt(I:Inv X pins σ H s)(a:gw X.env.scope X.N scope ix):∀y∈scope.names,y.2=.free->∃c,X.env.cells.lookup y.1=some c:=λy b e=>by
 rcases a.fr y b e with q|q
 ·exact I.ok.has y.1 (.inl q)
 ·exact I.ok.has y.1 (.inr q)
theorem zP1(I:Inv X pins σ H s)(a:gw X.env.scope X.N scope ix)(e:(lX X.env scope.names []).lookup x=some c):X.env.cells.lookup x=some c:=by
 have h1:=Wo scope.names [] (λx c q=>by simp at q) x c e
 rcases Wq scope.names [] x c e with q|q
 ·simp at q
 ·obtain⟨c',hc⟩:=Wt I a (x,.free) q rfl
  grind
theorem zYi(I:Inv X pins σ H s)(d:gw X.env.scope X.N scope ix)(b:(x,abh)∈scope.names)(e:X.env.cells.lookup x=some c):(lX X.env scope.names []).lookup x=some c:=by
 have a:=SM (env:=X.env) scope.names [] x (.inr b)
 obtain⟨c',f⟩:=abe.mp a
 have:=zP1 I d f
 grind
theorem IV(I:Inv X pins σ H s)(a:gw X.env.scope X.N scope ix)(e:(cellsFrom (C+1) scope.names (lX X.env scope.names [])).lookup x=some c):(x,c)∈cellsFrom (C+1) scope.names []\/X.env.cells.lookup x=some c:=by
 rw[wS,lookup_append] at e
 cases h:(cellsFrom (C+1) scope.names []).lookup x with
 |some d=>rw[h] at e;cases e;exact .inl (abk h)
 |none=>rw[h] at e;exact .inr (zP1 I a e)
theorem u5(h:(jO σ n ix)[i]?=some (some v)):∃j,ix[i-n]?=some j/\σ[j]?=some (some v)/\n<=i:=by
 unfold jO at h
 grind
theorem Inv.comp{h₁:Heap}(I:Inv X pins σ H s)(f:gw X.env.scope X.N scope ix)(fo:∀b∈fp,iB X pins H b)(Ou:∀b∈fp,b<s.heap.objs.size)(E:s.heap.objs.size<=C)(hns:h₁.Ns C m₀)(hk:∀b o,s.heap.get? b=some o->h₁.get? b=some o)(F:CellsOk h₁ (C+1) (cellsFrom (C+1) scope.names [])):Inv (b_ X scope own ix C s H fp) [] (jO σ own.length ix) H { s with heap:=h₁,toks:=t' }:=by
 have lt:∀{b:Addr},b<s.heap.objs.size->b≠C:=λ{b} n=>aat (aax n E)
 have A:∀{x:Str}{c:Addr},X.env.cells.lookup x=some c->c<C+1:=λ{x c} e=>by
  obtain⟨v,q⟩:=I.cell x c e
  exact ac2 (aax q.lt E)
 have g:∀{x:Str}{c:Addr},X.env.cells.lookup x=some c->∀v,s.heap.IsCell c v->h₁.IsCell c v:=λ{x c} _ v ⟨o,ho,hd⟩=>⟨o,hk _ _ ho,hd⟩
 refine⟨⟨I.ok.mod,f.kind,I.ok.glob,I.ok.blt,E,λx y c h1 h2=>?_,λx hx=>?_,λx c h e=>by
  have h':scope.names.lookup x=some .cell:=ad5 h
  have e':(cellsFrom (C+1) scope.names (lX X.env scope.names [])).lookup x=some c:=e
  rw[wS,lookup_append] at e'
  obtain⟨d,hd⟩:=abe.mp (ac3 scope.names (C+1) [] (.inl h'))
  rw[hd] at e'
  cases e'
  exact aa0 E (ad8 (F.empty _ _ (abk hd)).2),I.ok.hd,I.ok.frames,.inl rfl,λb n=>?_,I.bs,aa0 I.ok.Ao I.sz,λb o e n=>?_,λb n z=>?_,I.stack,I.qN⟩,
  rfl,I.bare,Un.kept hk,⟨m₀,hns,λi x v h1 h2 h3=>?_⟩,λx c h=>?_,I.hok.fresh E,λx c h=>?_,λp hp=>?_,I.hok.kept hk,?_⟩
 ·rcases IV I f h1 with q1|q1
  ·rcases IV I f h2 with G|G
   ·exact name_of_addr F.apart q1 G
   ·exact absurd (aax (A G) (F.empty _ _ q1).2) (abp _)
  ·rcases IV I f h2 with G|G
   ·exact absurd (aax (A q1) (F.empty _ _ G).2) (abp _)
   ·exact I.ok.inj x y c q1 G
 ·have k:(x,abh)∈scope.names\/(x,adg)∈scope.names:=by
   rcases hx with hx|hx
   ·exact Wr (env:=X.env) (.inl rfl) hx
   ·exact Wr (env:=X.env) (.inr rfl) hx
  refine abe.mp ?_
  show((cellsFrom (C+1) scope.names (lX X.env scope.names [])).lookup x).isSome=true
  rcases k with k|k
  ·exact ac3 _ _ _ (.inr (SM (env:=X.env) scope.names [] x (.inr k)))
  ·exact ac3 _ _ _ (.inl (f.clk _ k rfl))
 ·obtain⟨f0,f1,f2,f3,f4,f5⟩:=fo b n
  refine⟨lt (Ou b n),λx c h=>?_⟩
  rcases IV I f h with q|q
  ·exactλz=>absurd (aax (Ou b n) (aa0 E (ad8 (z▸(F.empty _ _ q).2)))) (abp _)
  ·exact f4 x c q
 ·obtain⟨f0,f1,f2,f3,f4,f5⟩:=fo b n
  rcases f3 with z|z
  ·exact I.ok.tR b o e z
  ·exact absurd (aax (lt_size e) (aa0 I.ok.Ao z)) (abp _)
 ·obtain⟨f0,f1,f2,f3,f4,f5⟩:=fo b n
  rcases mem_cons.mp (I.mQ b z) with z|z
  ·exact f1 z
  ·exact f2 z
 ·obtain⟨j,hj,hv,hn⟩:=u5 h2
  obtain⟨y,hy,hf⟩:=f.ix j (mem_of_getElem? hj)
  have e:y=x:=by
   have D:(nIn X.N own ix)[i]?=some x:=h1
   unfold nIn at D
   rw[getElem?_append_right hn,getElem?_map,hj] at D
   have t:X.N.getD j ado=x:=aa2 D
   rw[getD_eq_getElem?_getD,hy] at t
   exact t
  subst e
  have k:(y,abh)∈scope.names:=abk hf
  have vis:Nu X.env.scope y:=by
   rcases f.fr _ k rfl with q|q
   ·exact .inr (.inl q)
   ·exact .inr (.inr q)
  obtain⟨m,_,hl⟩:=I.loc
  obtain⟨u,r,l⟩:=hl j y v hy hv vis
  refine⟨u,r,?_⟩
  rcases l with⟨hk',_⟩|⟨_,c,hc,J⟩
  ·have w:X.env.scope.names.lookup y=some .local:=hk'
   rcases f.fr _ k rfl with q|q
   ·have B:X.env.scope.names.lookup y=some .cell:=q
    rw[w] at B;cases B
   ·have B:X.env.scope.names.lookup y=some .free:=q
    rw[w] at B;cases B
  ·refine .inr ⟨zFy (env:=X.env) hf,c,?_,g hc _ J⟩
   show(cellsFrom (C+1) scope.names (lX X.env scope.names [])).lookup y=some c
   rw[wS,lookup_append,zYi I f k hc]
   cases e:(cellsFrom (C+1) scope.names []).lookup y with
   |none=>rfl
   |some d =>
    have q:=f.clk _ (Ws _ _ _ _ (abk e)) rfl
    have B:scope.names.lookup y=some .cell:=q
    rw[hf] at B;cases B
 ·rcases IV I f h with q|q
  ·exact⟨_,(F.empty _ _ q).1⟩
  ·obtain⟨v,z⟩:=I.cell x c q
   exact⟨v,g q v z⟩
 ·rcases IV I f h with q|q
  ·exact I.hok.fresh (aa0 E (ad8 (F.empty _ _ q).2))
  ·exact I.dU x c q
 ·exact absurd (show p∈([]:List (Addr×Obj)) from hp) (by simp)
 ·show(jO σ own.length ix).length=(nIn X.N own ix).length
  unfold jO nIn
  simp
end
def mZ(X:Cx)(b:List Expr)(t:TT):Prop :=
 ∀(a:List (Addr×Obj))(s:Shared)(σ:St)(H:Hp)(Q:Bool->Hp->Prop),Inv X a σ H s->t σ H Q ->
  wpAny (model X.prog X.w) X.A (forIn b true λc r=>if r=true then do let d <-isTrue c X.env (eval c X.env);pure (ab7 d) else pure (ab7 r)) (TP X a σ Q) X.xe s
def Bu:TT:=λ_ H Q=>Q true H
theorem vE:mZ X [] Bu:=λ_ _ _ H _ I h=>wpAny_tests_nil ⟨H,I,h⟩
theorem Bv(h:PT X c t):mZ X [c] t:=λa s σ H Q I q=>wpAny_tests_one (h a s σ H Q I q)
def u_(n:Nat)(ix:List Nat)(g:TG)(s:TT)(te:TE)(σ:St)(Q:VK)(J:It)(q:Hp):Prop :=
 ∃W:Nat->Nat->List V->St->Hp->Prop,(∃m,W 0 m [] (jO σ n ix) q)/\∀i m c k a,W i m c k a ->
  (J.stop i a/\c.length<=sizeLine/\∀p,a p=none->Q (.ref p) (upd a p (.lst c))) \/
  (J.go i a/\c.length<sizeLine/\∃N:List V->St->Hp->Prop,(∀d h o,N d h o->∃j,j<m/\W (i+1) j d h o) /\
   ∀x l,J.Lr i a x l->g x k l λe t=>s e t λb f=>if b=true then te e f λy r=>N (c++[y]) e r else N c e f)
def SQ(n:Nat)(ix:List Nat)(a:TI)(g:TG)(b:TT)(te:TE):TE:=λσ H Q=>a σ H (u_ n ix g b te σ Q)
def Wu(X:Cx)(a:List (Addr×Obj))(σ:St)(Q:VK)(acc:Value)(C:Addr)(s':Shared):Prop :=
 ∃p b,acc=.ref p/\Inv X a σ b s'/\(∃m,s'.heap.Ns C m)/\iB X a b C/\Q (.ref p) b
theorem Wv{X:Cx}{α:Type}{t:Sem α}{Q b:α->Shared->Prop}(hx:X.xe=λ_ _=>False)(h:wpAny M A t Q X.xe s)(c:∀a s,Q a s->b a s):wpAny M A t b E s :=
 abu h c λe s' z=>by grind
section
variable{X:Cx}{elt tg iter:Expr}{ifs:List Expr}{scope:Scope}{pos:Pos}{own:List Str}{ix:List Nat}{wi:TI}{g:TG}{tc:TT}{te:TE}
theorem zI2{RR:Value->Addr->Result->Shared->Prop}(hx:X.xe=λ_ _=>False)(hc:X.calm=true)(sc:gw X.env.scope X.N scope ix)(I:Inv X Z σ H s)(T:Turn X.prog X.w X.K tg J fp it tn)(st:tn 0 s.heap)(fo:∀b∈fp,iB X Z H b)(hg:∀C s H fp,PG (b_ X scope own ix C s H fp) tg g)(hif:∀C s H fp,mZ (b_ X scope own ix C s H fp) ifs tc)(he:∀C s H fp,PE (b_ X scope own ix C s H fp) elt te)(rd:u_ own.length ix g tc te σ Q J H)(hRR:∀acc C s',Wu X Z σ Q acc C s'->RR acc C (.ok .next) s') :
  wpAny (model X.prog X.w) X.A (newList []) (λacc s₃=>wpAny (model X.prog X.w) X.A (newFunctionEnv scope X.env.globals (lX X.env scope.names []) [] X.env.qual none .none (some X.env)) (λY s₄ =>
   codeAny (model X.prog X.w) X.A (.compStart (.ListComp elt [⟨tg,iter,ifs,0⟩] scope pos) 0 (.ref it) acc { Y with scope:=relabel scope X.env }) (RR acc Y.locals) s₄) E s₃) E s:=by
 refine acn (zF7 (λh₁ B m co=>?_))
 dsimp only at B m co ⊢
 generalize l:s.heap.objs.size=D at B m co ⊢
 generalize hH2:s.heap.push { cls:=.type "list",dict:=none,data:=.seq ([]:List Value).toArray }=G at B m co ⊢
 generalize hC':G.objs.size=C at B m co ⊢
 have hC:C=D+1:=by rw[<-hC',<-hH2,size_push,l]
 have hDC:D≠C:=by rw[hC];exact aat (ab9 _)
 have hle:s.heap.objs.size<=C:=by rw[hC,l];exact abw _
 have old:∀b o,s.heap.get? b=some o->h₁.get? b=some o:=λb o e=>by
  exact m b o (hH2▸get?_push_of_some _ e)
 have oD:h₁.get? D=some { cls:=.type "list",data:=.seq ([]:List Value).toArray 0 }:=by
  refine m D _ ?_
  rw[<-hH2,<-l]
  exact get?_push_size _ rfl
 have Ou:∀b∈fp,b<s.heap.objs.size:=λb j=>by
  obtain⟨o,e,_⟩:=T.obj 0 _ st b j
  exact lt_size e
 have nDf:∀b∈fp,b≠D:=λb j=>by rw[<-l];exact aat (Ou b j)
 have sD:s.heap.get? D=none:=by
  cases e:s.heap.get? D with
  |none=>rfl
  |some o=>exact absurd (lt_size e) (by rw[l];exact abp _)
 have hDn:H D=none:=I.hok.fresh (by rw[l];exact aao _)
 have I0:Inv (b_ X scope own ix C s H fp) [] (jO σ own.length ix) H { s with heap:=h₁ }:=I.comp sc fo Ou hle B old co
 have st0:tn 0 h₁:=T.keep 0 _ _ st λb _ o e=>old b o e
 have hx':(b_ X scope own ix C s H fp).xe=λ_ _=>False:=hx
 have U:D≠(b_ X scope own ix C s H fp).env.locals:=hDC
 have Dex:D∈(b_ X scope own ix C s H fp).ex\/(b_ X scope own ix C s H fp).s₀.heap.objs.size<=D:=.inr (by show s.heap.objs.size<=D;rw[l];exact aao _)
 have Dfs:D∉(b_ X scope own ix C s H fp).fs:=I0.Hx (a:=D) |> λk=>λz=>by
  have z':D∈frs X.stack:=z
  rcases mem_cons.mp (I.mQ D z') with q|q
  ·exact absurd (q▸I.lt) (by rw[l];exact abp _)
  ·exact I.Hx (by rw[l];exact aao _) q
 have Ov:∀x c,(b_ X scope own ix C s H fp).env.cells.lookup x=some c->c≠D:=λx c e z=>by
  rcases IV I sc e with q|q
  ·have w1:=(co.empty _ _ q).2
   rw[z,hC] at w1
   lia
  ·obtain⟨v,q⟩:=I.cell x c q
   exact absurd (aax q.lt (by rw[z,l];exact aao _)) (abp _)
 have Ww:∀{P:Hp}{pl:List (Addr×Obj)},(∀b∈fp,P b=none)->(∀p∈pl,p.1=D)->∀b∈fp,iB (b_ X scope own ix C s H fp) pl P b:=λ{P pl} hn L b j=>by
  obtain⟨f0,f1,f2,f3,f4,f5⟩:=fo b j
  refine⟨hn b j,(I0.ok.RZ b j).1,I0.ok.tU b j,.inl j,(I0.ok.RZ b j).2,λp hp' z=>?_⟩
  rcases mem_append.mp hp' with q|q
  ·exact absurd (show p∈([]:List (Addr×Obj)) from q) (by simp)
  ·exact nDf b j (by rw[<-z];exact L p q)
 obtain⟨W,⟨m0,w0⟩,step⟩:=rd
 have R:codeAny (model X.prog X.w) X.A (.compLoop (.ListComp elt [⟨tg,iter,ifs,0⟩] scope pos) 0 (.ref it) (.ref D) (b_ X scope own ix C s H fp).env) (RR (.ref D) C) { s with heap:=h₁ }:=by
  refine zMj (λn s'=>∃i M σ' P f k,Inv (b_ X scope own ix C s H fp) [] σ' P s'/\tn i s'.heap/\(∀b∈fp,P b=none)/\P D=none/\s'.heap.get? D=some { cls:=.type "list",data:=.seq (toArray f) k }/\Vals M f/\W i n M σ' P) ?_ m0
   ⟨0,[],_,H,[],0,I0,st0,λb j=>(fo b j).1,hDn,oD,.nil,w0⟩
  rintro n s1 ⟨i,M,σ1,H1,f,k,I1,tn1,fr1,D1,o1,O,w1⟩
  have J1:Inv (b_ X scope own ix C s H fp) [(D,{ cls:=.type "list",data:=.seq (toArray f) k })] σ1 H1 s1:=I1.gM λp L=>by
   have e:p=(D,{ cls:=.type "list",data:=.seq (toArray f) k }):=by simpa using L
   subst e
   exact⟨o1,D1,U,Dfs,λv z=>by cases z⟩
  have t:∀p∈[((D,{ cls:=.type "list",data:=.seq (toArray f) k }):Addr×Obj)],p.1=D:=λp L=>by
   have e:p=(D,{ cls:=.type "list",data:=.seq (toArray f) k }):=by simpa using L
   rw[e]
  rcases step i n M σ1 H1 w1 with⟨stop,hz,qn⟩|⟨go,hz,N,hN,stp⟩
  ·refine aP (T.done (b_ X scope own ix C s H fp) rfl rfl rfl hc i _ s1 σ1 H1 _ J1 (Ww fr1 t) tn1 stop) λr s2 ⟨hr,I2⟩=>?_
   subst hr
   obtain⟨e2,_⟩:=I2.pin (D,{ cls:=.type "list",data:=.seq (toArray f) k }) (mem_append_right _ (by simp))
   obtain⟨m2,Wx,_⟩:=I2.loc
   refine hRR _ _ _ ⟨D,upd H1 D (.lst M),rfl,?_,⟨m2,Wx⟩,?_,qn D D1⟩
   ·refine I.call' (ch:=fp) I2.os (Un.track I2.base sD hDn) (I2.hok.track D1 ⟨hz,f,k,O,e2⟩) I2.bare λb j=>?_
    obtain⟨f0,f1,f2,f3,f4,f5⟩:=fo b j
    exact⟨f3,f1,f4,f5⟩
   ·refine I.iC hle ?_
    rw[zR hDC.symm]
    exact I2.free
  ·refine aP (T.item (b_ X scope own ix C s H fp) rfl rfl rfl hc i _ s1 σ1 H1 _ J1 (Ww fr1 t) tn1 go) λr s2 ⟨u,hr,h2⟩=>?_
   subst hr
   refine aP h2 ?_
   rintro _ s3 ⟨x,H3,I3,rx,y3,Wy,fr3⟩
   have I3':=I3.pinned (Ww fr3 t) (T.obj _ _ Wy)
   refine Wv hx' (hg C s H fp _ s3 σ1 H3 x u _ I3' rx (stp x H3 y3)) ?_
   rintro _ s4 ⟨σ4,H4,I4,q4⟩
   refine Wv hx' (hif C s H fp _ s4 σ4 H4 _ I4 q4) ?_
   rintro b s5 ⟨H5,I5,q5⟩
   have S:∀{σ7:St}{H7:Hp}{s7:Shared},Inv (b_ X scope own ix C s H fp) ([(D,{ cls:=.type "list",data:=.seq (toArray f) k })]++Ax fp s3.heap) σ7 H7 s7 ->
     tn (i+1) s7.heap/\(∀b∈fp,H7 b=none)/\H7 D=none/\s7.heap.get? D=some { cls:=.type "list",data:=.seq (toArray f) k }:=λ{σ7 H7 s7} I7=>by
    have Ow:=I7.pin (D,{ cls:=.type "list",data:=.seq (toArray f) k }) (mem_append_right _ (mem_append_left _ (by simp)))
    refine⟨T.keep _ _ _ Wy λb j o e=>(I7.pin (b,o) (mem_append_right _ (mem_append_right _ (uG j e)))).1,λb j=>?_,Ow.2.1,Ow.1⟩
    obtain⟨o,e,d⟩:=T.obj _ _ Wy b j
    exact(I7.pin (b,o) (mem_append_right _ (mem_append_right _ (uG j e)))).2.1
   cases b with
   |false =>
    obtain⟨m',hm,w'⟩:=hN _ _ _ (show N M σ4 H5 from q5)
    obtain⟨b1,b2,b3,b4⟩:=S I5
    exact⟨m',hm,i+1,M,σ4,H5,f,k,I5.gM (λp L=>absurd L (by simp)),b1,b2,b3,b4,O,w'⟩
   |true =>
    rw[if_pos rfl]
    refine Wv hx' (he C s H fp _ s5 σ4 H5 _ I5 q5) ?_
    rintro v s6 ⟨y,H6,I6,ry,q6⟩
    obtain⟨m',hm,w'⟩:=hN _ _ _ q6
    obtain⟨b1,b2,b3,b4⟩:=S I6
    have zl:f.length=M.length:=O.length.symm
    refine aev F.slot_list_append ⟨_,b4,rfl⟩ F.entry_list_append (F.args_list_append_2 _ _) (PySem.list_append D f.toArray k v (by rw[size_toArray];lia)) ⟨b4,?_⟩
    have q:=PySem.IsL.update b4 (λxs=>xs.push v)
    have keep:∀b o,b≠D->s6.heap.get? b=some o->(s6.heap.update D (acw λxs=>xs.push v)).get? b=some o:=λb o j e=>(get?_update_other s6.heap _ (acf j)).trans e
    refine⟨m',hm,i+1,M++[y],σ4,H6,f++[v],(if(f.toArray.push v).size==f.toArray.size then k else k+1),?_,T.keep _ _ _ b1 (λb j o e=>keep b o (nDf b j) e),b2,b3,?_,O.append (.cons ry .nil),w'⟩
    ·exact(I6.gM (Fy:=[]) λp L=>absurd L (by simp)).turned (t':=s6.toks) keep b3 U Dex Ov λp L=>absurd (show p∈([]:List (Addr×Obj)) from L) (by simp)
    ·rw[show(f++[v]).toArray=f.toArray.push v by simp]
     exact q
 exact codeAny_compStart_list R (T.self X.A 0 _ _ _ st0 R)
theorem wX(R:X.xe=λ_ _=>False)(w:X.calm=true)(L:SN X.env.scope X.N scope ix=true)(F:PI X tg iter wi)(P:∀C s H fp,PG (b_ X scope own ix C s H fp) tg g)(i:∀C s H fp,mZ (b_ X scope own ix C s H fp) ifs tc)(O:∀C s H fp,PE (b_ X scope own ix C s H fp) elt te)(u:∀x,foldedSetIterable iter X.env x=pure x:=by intro _;rfl):PE X (.ListComp elt [⟨tg,iter,ifs,0⟩] scope pos) (SQ own.length ix wi g tc te):=by
 intro a s σ H Q I h
 have c:=zMh L
 refine wpAny_comprehension_free rfl u (zEu (Wt I c)) c.kind c.nm (aP (F a s σ H _ I h) λv s1 E=>aP E λitv s2 l=>?_)
 obtain⟨it,fp,tn,J,H2,e,B,T,f,k,M⟩:=l
 subst e
 refine zI2 R w c B T f k P i O M ?_
 rintro acc C s' ⟨p,y,rfl,r,⟨m,j⟩,t,q⟩
 obtain⟨D,G,k,n,S,z⟩:=t
 exact⟨m,j,λh' d=>⟨.ref p,y,r.turned (λb o A e=>(d.2 b A).trans e) D G n S z,rfl,q⟩⟩
theorem Gd{f:Pos}(hN:X.N.Nodup)(z:X.N[i]?=some x)(j:X.env.scope.names.lookup x=some .local)(Z:X.xe=λ_ _=>False)(hc:X.calm=true)(Y:SN X.env.scope X.N scope ix=true)(hi:PI X tg iter wi)(P:∀C s H fp,PG (b_ X scope own ix C s H fp) tg g)(t:∀C s H fp,mZ (b_ X scope own ix C s H fp) ifs tc)(he:∀C s H fp,PE (b_ X scope own ix C s H fp) elt te)(u:swapsWith (.ListComp elt [⟨tg,iter,ifs,0⟩] scope pos) (some (.Name x c)) f.line X.env=pure true:=by rfl)(hs:∀x,foldedSetIterable iter X.env x=pure x:=by intro _;rfl):PS X (.Assign [.Name x c] (.ListComp elt [⟨tg,iter,ifs,0⟩] scope pos) f) (fH (SQ own.length ix wi g tc te) (mR i)):=by
 intro d s σ H D I h
 have n:=zMh Y
 rw[exec_Assign_Name_used _ _ _ _ u]
 refine aak (aer (aak ?_))
 refine aak (abu (wpAny_comprehension_free (use:=some (assign (.Name x c) X.env)) (Q:=λ_ k=>SP X d D .next k) rfl hs (zEu (Wt I n)) n.kind n.nm
  (aP (hi d s σ H _ I h) λv s1 h1=>aP h1 λitv s2 W=>?_)) (λ_ k hq=>aal (aal hq)) λ_ _ e=>e)
 obtain⟨it,fp,tn,J,H2,e,O,T,E,M,rd⟩:=W
 subst e
 refine zI2 (RR:=λl C=>compPost (model X.prog X.w) X.A X.xe (some (assign (.Name x c) X.env)) (λ_ k=>SP X d D .next k) l C) Z hc n O T E M P t he rd ?_
 rintro l C k ⟨p,H',rfl,R,⟨m,y⟩,fC,q⟩
 obtain⟨f0,U,M,f3,S,f5⟩:=fC
 show wpAny _ X.A (assign (.Name x c) X.env (.ref p)) _ _ _
 refine wpAny_assign_Name (Zm (v:=.ref p) R hN z (.inl j) rfl (?_) (.inr j))
 rintro L r ⟨a,B,ha⟩
 have G:C≠a:=by
  grind
 exact⟨m,y.sameBut B G,λh' F=>⟨_,H',r.turned (t':=L.toks) (λb o hb e=>(F.2 b hb).trans e) f0 U f3 S f5,q⟩⟩
end
section
variable{n:Nat}{ix:List Nat}{g:TG}{tc:TT}{te:TE}{σ:St}{Q:VK}{H:Hp}
theorem zMg{K:Frag}{a:Addr}{xs:List V}(Pv:Nat->List V->St->Hp->Prop)(h0:Pv 0 [] (jO σ n ix) H)(hl:∀i ys σ H,i<=xs.length->Pv i ys σ H->aW K H a xs/\ys.length<=i)(hz:xs.length<sizeLine)(hs:∀i x ys σ H,xs[i]?=some x->Pv i ys σ H->g x σ H λσ4 H4=>tc σ4 H4 λb H5=>if b=true then te σ4 H5 λy H6=>Pv (i+1) (ys++[y]) σ4 H6 else Pv (i+1) ys σ4 H5)(hd:∀ys σ H,Pv xs.length ys σ H->∀p,H p=none->Q (.ref p) (upd H p (.lst ys))):u_ n ix g tc te σ Q (Ls K a) H:=by
 refine⟨λi m ys σ H=>m=xs.length-i/\i<=xs.length/\Pv i ys σ H,⟨xs.length,by simp,aa5 _,h0⟩,?_⟩
 rintro i m ys σ H ⟨rfl,hi,p⟩
 obtain⟨q,hy⟩:=hl i ys σ H hi p
 by_cases hlt:i<xs.length
 ·refine .inr ⟨⟨xs,xs[i],q,by simp[hlt]⟩,by omega,Pv (i+1),λys' σ' H' p'=>⟨xs.length-(i+1),by omega,rfl,hlt,p'⟩,λx H' y=>?_⟩
  obtain⟨e,y⟩:=y
  subst e
  exact hs i x ys σ _ (y xs q) p
 ·have e:i=xs.length:=by omega
  subst e
  exact .inl ⟨⟨xs,q,aao _⟩,by omega,hd ys σ H p⟩
end
def Ite(K:Frag)(a:Addr):It :=
 ⟨λi H=>∃b x,aW K H a b/\b[i]?=some x,λi H v c=>∃t x,v=.ref t/\H t=none/\c=upd H t (.tup [.int i,x])/\∀b,aW K H a b->b[i]?=some x,λi H=>∃b,aW K H a b/\b.length<=i⟩
theorem zSg{P:Program}{w:World}{K:Frag}{M:List Expr}{k:Nat}{tp:Pos}(a e f:Addr)(G:e≠f) :
  Turn P w K (.Tuple M k tp) (Ite K a) [e,f] e (λi h=>(∃g,IsEnum h e f ((i:Nat):Int) g)/\h.IsListIter f a i) where
 mem:=by simp
 obj:=λi h st b r=>by
  obtain⟨⟨g,t⟩,o,ho,c,d⟩:=st
  have m:b=e\/b=f:=by simpa using r
  rcases m with rfl|rfl
  ·exact⟨_,t,λv z=>by
    have z':Data.fields _=Data.cell v:=z
    cases z'⟩
  ·exact⟨o,ho,λv z=>by rw[d] at z;cases z⟩
 keep:=λi h h' st k=>⟨let⟨g,t⟩:=st.1;⟨g,k e (by simp) _ t⟩,st.2.at λo q=>k f (by simp) o q⟩
 item:=by
  intro X Z Y hK hc i N s σ H E I S st hg
  subst Z Y hK
  obtain⟨xs,x,T,j⟩:=hg
  obtain⟨its,rv,p,hz⟩:=I.list T
  obtain⟨u,hu,ru⟩:=rv.get j
  obtain⟨⟨g,t⟩,y⟩:=st
  obtain⟨f0,f1,f2,f3,f4,f5⟩:=S e (by simp)
  obtain⟨Q,g1,g2,g3,g4,g5⟩:=S f (by simp)
  refine wpAny_pyNext_enum_item t y p.isList (x:=u) (by simpa using hu) G λh₁ heo F ht₁ hz₁ hk₁=>?_
  refine⟨_,rfl,wpAny_letOwnedTupleGo_enum (s:={ s with heap:=h₁,toks:=s.toks+1 }) heo λA he₂ l=>?_⟩
  replace l:SameBut e h₁ A:=l
  have J:e<s.heap.objs.size:=lt_size t
  have D:H s.heap.objs.size=none:=I.hok.fresh (aao _)
  have ht₂:A.get? s.heap.objs.size=some { cls:=.type "tuple",data:=.seq #[.int i s.toks,u] }:=(l.2 _ (adt J)).trans ht₁
  have O:∀b o,b≠e->b≠f->s.heap.get? b=some o->A.get? b=some o:=λb o h1 h2 q=>(l.2 b h1).trans (hk₁ b o h1 h2 q)
  have lt:∀b o,s.heap.get? b=some o->b≠s.heap.objs.size:=λb o q=>aat (lt_size q)
  have B:∀b o,s.heap.get? b=some o->b∉[e,f]->∃R,A.get? b=some R:=λb o q j=>⟨o,O b o (λz=>j (by simp[z])) (λz=>j (by simp[z])) q⟩
  have U:Un (frs X.stack) [e,f] H (upd H s.heap.objs.size (.tup [.int i,x])) s.heap A :=
   ⟨λb o q _ _ j=>O b o (λz=>j (by simp[z])) (λz=>j (by simp[z])) q,λb o q _ _ j=>⟨o.slots,O b o (λz=>j (by simp[z])) (λz=>j (by simp[z])) q⟩,
    λb o q n _=>by rw[zR (lt b o q)];exact n,B,λb ys q=>by rw[zR (zV q D)];exact q,λb o ys q=>by rw[zR (zV q D)];exact q,λb ps q=>⟨#[],by rw[zR (zV q D),q];simp⟩⟩
  have ok:dR X.prog X.w (upd H s.heap.objs.size (.tup [.int i,x])) A:=λb o q=>by
   by_cases r:b=s.heap.objs.size
   ·subst r
    rw[zO] at q
    cases q
    exact⟨by show 2<=sizeLine;decide,[.int i s.toks,u],.cons ⟨_,rfl⟩ (.cons ru .nil),⟨_,ht₂,rfl,_,rfl⟩⟩
   ·rw[zR r] at q
    refine(I.hok b o q).stay (λc v C z=>?_) (λc z=>by rw[zR (zV z D)];exact z) λc ys z=>by rw[zR (zV z D)];exact z
    have hcs:∃R,H c=some R:=by
     rcases C with rfl|C
     ·exact⟨o,q⟩
     ·exact⟨_,C⟩
    obtain⟨R,L⟩:=hcs
    exact O c v (zV L f0) (zV L Q) z
  have I2:=I.call (h':=A) (g':=s.gens) (t':=s.toks+1) (d':=s.drawn) (ch:=[e,f]) U ok I.bare λb r=>by
   have m:b=e\/b=f:=by simpa using r
   rcases m with rfl|rfl
   ·exact⟨f3,f1,f4,f5⟩
   ·exact⟨g3,g1,g4,g5⟩
  refine⟨.ref s.heap.objs.size,_,I2,rfl,⟨s.heap.objs.size,x,rfl,D,rfl,λys hy=>by rw[I.n6 hy T];exact j⟩,⟨⟨_,by rw[show((i+1:Nat):Int)=(i:Int)+1 by push_cast;rfl];exact he₂⟩,F.extBut l.extBut G.symm⟩,λb r=>?_⟩
  have m:b=e\/b=f:=by simpa using r
  obtain⟨o2,ho2,_⟩:=y
  rcases m with rfl|rfl
  ·rw[zR (aat J)];exact f0
  ·rw[zR (aat (lt_size ho2))];exact Q
 done:=by
  intro X Z Y hK hc i N s σ H E I S st hg
  subst Z Y hK
  obtain⟨xs,T,j⟩:=hg
  obtain⟨its,rv,p,hz⟩:=I.list T
  obtain⟨⟨g,t⟩,y⟩:=st
  obtain⟨Q,g1,g2,g3,g4,g5⟩:=S f (by simp)
  have hl:=rv.length
  exact wpAny_pyNext_enum_end (I.ok.hd hc) t y p.isList (by simp;lia) λh' eb=>⟨rfl,I.turned (t':=s.toks) (λb o r e=>eb b o r e) Q g1 g3 g4 g5⟩
 self:=λ_ _ _ _ _ st h=>let⟨⟨_,t⟩,_⟩:=st;wpAny_pyIter_enum t h
def vd(K:Frag)(d:TA):TI:=λσ H R=>d σ H λc b=>∃a,c=[.ref a]/\(∃e,aW K b a e)/\R (Ite K a) b
theorem jx:bootBuiltins "enumerate" = some (.type "enumerate"):=by trivial
theorem zTo(hg:Gl X "enumerate")(hm:X.mg "enumerate" = none)(ha:PA X [a] ta)(hs:starEach [a] X.env=[(false,eval a X.env)]:=by rfl) :
  PI X (.Tuple elts k tp) (.Call (.Name "enumerate" p) [a] [] pos) (vd X.K ta):=by
 intro pins s σ H R I h
 refine Call_ (tV I hg hm jx (abg (aP (ha pos pins s σ H _ I h) λus s1 ⟨vs,H1,I1,r1,q1⟩=>?_) hs rfl))
 obtain⟨l,e,⟨xs,hq⟩,q⟩:=q1
 subst e
 cases r1 with
 |cons r rr =>
  cases rr
  cases r
  obtain⟨its,rv,p,hz⟩:=I1.list hq
  refine call_enumerate_list p.isList λh' hE hI hsz hk=>wpAny_pyIter_enum hE ?_
  have I2:Inv X pins σ H1 { s1 with heap:=h',toks:=s1.toks }:=I1.kept hk
  refine⟨s1.heap.objs.size+1,[s1.heap.objs.size+1,s1.heap.objs.size],_,_,H1,rfl,I2,zSg l _ _ (Nat.succ_ne_self _),⟨⟨.none,hE⟩,hI⟩,λb hb=>?_,q⟩
  have hb':b=s1.heap.objs.size+1\/b=s1.heap.objs.size:=by simpa using hb
  rcases hb' with rfl|rfl
  ·exact I1.iC (abw _) (I1.hok.fresh (abw _))
  ·exact I1.iC (aao _) (I1.hok.fresh (aao _))
theorem zX7{K:Frag}{a:Addr}{xs:List V}{g:TG}{j:TS}{D:Ends}{σ:St}{H:Hp}(b:Nat->St->Hp->Prop)(h0:b 0 σ H)(n:∀i σ H,i<=xs.length->b i σ H->aW K H a xs)(hs:∀i x t σ H,xs[i]?=some x->H t=none->b i σ H->g (.ref t) σ (upd H t (.tup [.int i,x])) λd c=>j { D with nx:=b (i+1),ct:=b (i+1),bk:=D.nx } d c)(k:∀σ H,b xs.length σ H->D.nx σ H) :
  ∃W:Nat->Nat->St->Hp->Prop,(∃m,W 0 m σ H)/\∀i m σ H,W i m σ H ->
   ((Ite K a).stop i H/\D.nx σ H)\/((Ite K a).go i H/\∃N:St->Hp->Prop,(∀h H',N h H'->∃m',m'<m/\W (i+1) m' h H')/\∀x H',(Ite K a).Lr i H x H'->g x σ H' λd c=>j { D with nx:=N,ct:=N,bk:=D.nx } d c):=by
 refine⟨λi m σ H=>m=xs.length-i/\i<=xs.length/\b i σ H,⟨xs.length,by simp,aa5 _,h0⟩,?_⟩
 rintro i m σ H ⟨rfl,l,p⟩
 have q:=n i σ H l p
 by_cases f:i<xs.length
 ·refine .inr ⟨⟨xs,xs[i],q,by grind⟩,b (i+1),λh H' o=>⟨xs.length-(i+1),by lia,rfl,f,o⟩,λx H' y=>?_⟩
  obtain⟨t,x',rfl,ht,rfl,y⟩:=y
  grind
 ·have e:i=xs.length:=by lia
  subst e
  exact .inl ⟨⟨xs,q,aao _⟩,k σ H p⟩
def Wz(a:Str)(te:TE):TE:=λσ H Q=>te σ H λx b=>(∃i,x=.int i/\i.natAbs.log2<1920/\Q (.str (a++ad4 (toString i))) b)\/∃z,x=.str z/\z.length<=1000/\Q (.str (a++z)) b
theorem zGq(x y:Str):(x++y).length=x.length+y.length:=by rw[<-strLen_append]
theorem vf{a:Str}(y:PE X e te)(w:a.length<=1000):PE X (.JoinedStr [.Constant (.str a) j p1,.FormattedValue e (-1) none p2] pos) (Wz a te):=by
 intro d s σ H Q I h
 refine JoinedStr_many (joinParts_cons (Calls.Constant_str ?_))
 have m:(ado++a)=a:=by
  cases a with
  |mk c=>show Str.mk _=_;simp[ado]
 refine⟨by rw[m];exact aa0 w (by decide),?_⟩
 rw[m]
 have v:=I.tok (s.toks+1)
 refine joinParts_cons (FormattedValue_plain (aP (y d _ σ H _ v h) ?_))
 rintro u n ⟨x,g,k,l,p⟩
 rcases p with⟨i,rfl,f,q⟩|⟨z,rfl,o,q⟩
 ·obtain⟨t,rfl⟩:=l
  refine formatField_int_small f ?_
  have b:(a++ad4 (toString i)).length<=sizeLine:=by
   have:=int_text_len_1921 f
   rw[zGq]
   exact aa0 (show a.length+(ad4 (toString i)).length<=4000 by lia) (by decide)
  refine⟨b,joinParts_nil ?_ b⟩
  exact⟨.str (a++ad4 (toString i)),g,(k.tok (n.toks+1+1)).tok _,⟨_,rfl⟩,q⟩
 ·obtain⟨t,rfl⟩:=l
  have b:(a++z).length<=sizeLine:=by
   rw[zGq]
   exact aa0 (show a.length+z.length<=4000 by lia) (by decide)
  refine formatField_str (λt' r=>?_) (aa0 o (by decide))
  refine⟨b,joinParts_nil ?_ b⟩
  exact⟨.str (a++z),g,(k.tok r).tok _,⟨_,rfl⟩,q⟩
def Bw(K:Frag)(c:Value):List V->Hp->VK->Prop:=λd H Q=>∃x y t b,d=[x,y]/\RelV y c/\gP K H x t/\kitOne K t c=some b/\Q (.bl b) H
theorem zYk(i:∀y u,RelV y c->RelV y u->u=c):pP X (.builtin "isinstance") (Bw X.K c):=by
 intro pins s σ H xs us Q I r h
 obtain⟨x,y,t,b,rfl,a,d,e,q⟩:=h
 obtain⟨u,v,rfl,g,f⟩:=r.two
 obtain rfl:=i y v a f
 exact zUq I g d e λj=>⟨.bl b,H,I.tok j,rfl,q⟩
theorem WD:∀y u,RelV y (.type n)->RelV y u->u=.type n:=λy u h1 h2=>by
 cases y<;>first
  | (cases h1;done)
  | (obtain⟨_,e⟩:=h1;cases e;done)
  | (cases h1;cases h2;rfl)
theorem tD:∀y u,RelV y (.ref a)->RelV y u->u=.ref a:=λy u h1 h2=>by
 cases y<;>first
  | (cases h1;done)
  | (obtain⟨_,e⟩:=h1;cases e;done)
  | (cases h1;cases h2;rfl)
theorem zXq{σ:St}{A B:St->Hp->Prop}(h:A (σ.set i (some x)) H):mR i x σ H (λa d=>Bu a d λb c=>if b=true then A a c else B a c):=by
 show if true=true then A (σ.set i (some x)) H else B (σ.set i (some x)) H
 grind
theorem IW{X:Cx}{K:Frag}(h:X.K=K){es:List Expr}{k:Nat}{t:Lp}{n:Nat}{pos:Pos}(d:X.calm=true)(c:Av X es t)(b:(assignEach es X.env).length=n:=by rfl)(a:(assignEach es X.env).findIdx? (·.1)=none:=by rfl):PG X (.Tuple es k pos) (HF K n t):=by
 subst h
 exact pW d c b a
end L2
namespace Ts
open PySem L2
theorem au(h:H p=none)(o:HO):Same H (upd H p o):=λb u q=>by rw[zR (zV q h)];exact q
theorem _root_.L2.Same.put(s:Same H H')(h:H p=none)(o:HO):Same H (upd H' p o):=λb u q=>by rw[zR (zV q h)];exact s b u q
def A2{α β:Type}(R:α->β->Prop):List α->List β->Prop
 |[],[]=>True
 |x::b,y::a=>R x y/\A2 R b a
 |_,_=>False
section
variable{α β:Type}{R R':α->β->Prop}
theorem A2.len:∀{xs:List α}{ys:List β},A2 R xs ys->xs.length=ys.length
 |[],[],_=>rfl
 |_::_,_::_,h=>congrArg (· + 1) (A2.len h.2)
 |[],_::_,h=>h.elim
 |_::_,[],h=>h.elim
theorem A2.imp(f:∀x y,R x y->R' x y):∀{xs:List α}{ys:List β},A2 R xs ys->A2 R' xs ys
 |[],[],_=>trivial
 |_::_,_::_,h=>⟨f _ _ h.1,A2.imp f h.2⟩
 |[],_::_,h=>h.elim
 |_::_,[],h=>h.elim
theorem A2.app:∀{xs:List α}{ys:List β}{b:List α}{a:List β},A2 R xs ys->A2 R b a->A2 R (xs++b) (ys++a)
 |[],[],_,_,_,h=>h
 |_::_,_::_,_,_,h,c=>⟨h.1,A2.app h.2 c⟩
 |[],_::_,_,_,h,_=>h.elim
 |_::_,[],_,_,h,_=>h.elim
theorem A2.snoc(h:A2 R xs ys)(r:R x y):A2 R (xs++[x]) (ys++[y]):=h.app ⟨r,trivial⟩
theorem A2.at1:∀{xs:List α}{ys:List β}{i:Nat}{x:α},A2 R xs ys->xs[i]?=some x->∃y,ys[i]?=some y/\R x y
 |[],_,_,_,_,e=>by simp at e
 |_::_,_::_,0,_,h,e=>by simp at e;subst e;exact⟨_,rfl,h.1⟩
 |_::_,_::_,i+1,_,h,e=>by
  obtain⟨y,h1,h2⟩:=A2.at1 (i:=i) h.2 (by simpa using e)
  exact⟨y,by simpa using h1,h2⟩
 |_::_,[],_,_,h,_=>h.elim
theorem A2.at2:∀{xs:List α}{ys:List β}{i:Nat}{y:β},A2 R xs ys->ys[i]?=some y->∃x,xs[i]?=some x/\R x y
 |_,[],_,_,_,e=>by simp at e
 |_::_,_::_,0,_,h,e=>by simp at e;subst e;exact⟨_,rfl,h.1⟩
 |_::_,_::_,i+1,_,h,e=>by
  obtain⟨y,h1,h2⟩:=A2.at2 (i:=i) h.2 (by simpa using e)
  exact⟨y,by simpa using h1,h2⟩
 |[],_::_,_,_,h,_=>h.elim
theorem A2.set(r:R x y):∀{xs:List α}{ys:List β}(i:Nat),A2 R xs ys->A2 R (xs.set i x) (ys.set i y)
 |[],[],_,_=>trivial
 |_::_,_::_,0,h=>⟨r,h.2⟩
 |_::_,_::_,i+1,h=>⟨h.1,A2.set r i h.2⟩
 |[],_::_,_,h=>h.elim
 |_::_,[],_,h=>h.elim
theorem A2.rev:∀{xs:List α}{ys:List β},A2 R xs ys->A2 R xs.reverse ys.reverse
 |[],[],_=>trivial
 |_::_,_::_,h=>by
  rw[reverse_cons,reverse_cons]
  exact(A2.rev h.2).snoc h.1
 |[],_::_,h=>h.elim
 |_::_,[],h=>h.elim
theorem A2.tk:∀{xs:List α}{ys:List β}(i:Nat),A2 R xs ys->A2 R (xs.take i) (ys.take i)
 |[],[],_,_=>by simp[A2]
 |_::_,_::_,0,h=>trivial
 |_::_,_::_,i+1,h=>⟨h.1,A2.tk i h.2⟩
 |[],_::_,_,h=>h.elim
 |_::_,[],_,h=>h.elim
theorem A2.dr:∀{xs:List α}{ys:List β}(i:Nat),A2 R xs ys->A2 R (xs.drop i) (ys.drop i)
 |[],[],_,_=>by simp[A2]
 |_::_,_::_,0,h=>h
 |_::_,_::_,i+1,h=>A2.dr i h.2
 |[],_::_,_,h=>h.elim
 |_::_,[],_,h=>h.elim
theorem A2.of_map{f:β->α}(h:∀y,R (f y) y):∀ys:List β,A2 R (ys.map f) ys
 |[]=>trivial
 |y::ys=>⟨h y,A2.of_map h ys⟩
end
theorem A2.jP{α β:Type}{f:β->α}:∀{xs:List α}{ys:List β},A2 (λx y=>x=f y) xs ys->xs=ys.map f
 |[],[],_=>rfl
 |_::_,_::_,h=>by rw[map_cons,h.1,A2.jP h.2]
 |[],_::_,h=>h.elim
 |_::_,[],h=>h.elim
class Rp (K:Frag) (α:Type) where
 rp:Hp->V->α->Prop
 mono:∀{F F':Hp}{v:V}{a:α},Same F F'->rp F v a->rp F' v a
abbrev rp(K:Frag){α:Type}[Rp K α]:Hp->V->α->Prop:=Rp.rp (K:=K)
class Nn (K:Frag) (α:Type) [Rp K α]:Prop where
 nn:∀{F:Hp}{v:V}{a:α},rp K F v a->v≠.non
class Sc (K:Frag) (α:Type) [Rp K α] where
 val:α->V
 is:∀{F:Hp}{v:V}{a:α},rp K F v a↔v=val a
 inj:∀{a b:α},val a=val b->a=b
section
variable{K:Frag}
instance:Rp K Int:=⟨λ_ v n=>v=.int n,λ_ h=>h⟩
instance:Rp K Bool:=⟨λ_ v n=>v=.bl n,λ_ h=>h⟩
instance:Rp K Str:=⟨λ_ v n=>v=.str n,λ_ h=>h⟩
instance:Rp K Unit:=⟨λ_ v _=>v=.non,λ_ h=>h⟩
instance{α:Type}[Rp K α]:Rp K (Option α):=⟨λF v a=>match a with
 |none=>v=.non
 |some x=>v≠.non/\rp K F v x,λ{F F' v a} s h=>match a,h with
 |none,h=>h
 |some x,h=>⟨h.1,Rp.mono s h.2⟩⟩
instance{α:Type}[Rp K α]:Rp K (List α):=⟨λF v xs=>∃p vs,v=.ref p/\F p=some (.lst vs)/\A2 (rp K F) vs xs,λs ⟨p,vs,h1,h2,h3⟩=>⟨p,vs,h1,s _ _ h2,h3.imp λ_ _=>Rp.mono s⟩⟩
instance{α β:Type}[Rp K α][Rp K β]:Rp K (α×β):=⟨λF v x=>∃p a b,v=.ref p/\F p=some (.tup [a,b])/\rp K F a x.1/\rp K F b x.2,λs ⟨p,a,b,h1,h2,h3,h4⟩=>⟨p,a,b,h1,s _ _ h2,Rp.mono s h3,Rp.mono s h4⟩⟩
structure iD where
 ns:LI
instance:Rp K iD:=⟨λF v x=>∃p,v=.ref p/\aW K F p (x.ns.map V.int),λs ⟨p,h1,h2⟩=>⟨p,h1,s.seq h2⟩⟩
instance:Nn K Int:=⟨λh=>by cases h;intro e;cases e⟩
instance{α:Type}[Rp K α]:Nn K (List α):=⟨λ⟨_,_,h,_⟩=>by rw[h];intro e;cases e⟩
instance{α β:Type}[Rp K α][Rp K β]:Nn K (α×β):=⟨λ⟨_,_,_,h,_⟩=>by rw[h];intro e;cases e⟩
instance:Sc K Int:=⟨V.int,aew,λh=>by cases h;rfl⟩
instance:Sc K Bool:=⟨V.bl,aew,λh=>by cases h;rfl⟩
instance:Sc K Str:=⟨V.str,aew,λh=>by cases h;rfl⟩
instance{α:Type}[Rp K α][Sc K α][Nn K α]:Sc K (Option α):=⟨λa=>match a with
 |none=>.non
 |some x=>Sc.val K x,λ{F v a}=>match a with
 |none=>aew
 |some x=>⟨λh=>Sc.is.mp h.2,λh=>⟨Nn.nn (K:=K) (F:=F) (a:=x) (Sc.is.mpr h),Sc.is.mpr h⟩⟩,λ{a b} h=>match a,b,h with
 |none,none,_=>rfl
 |some x,some y,h=>by rw[Sc.inj (K:=K) (a:=x) (b:=y) h]
 |none,some y,h=>absurd h.symm (Nn.nn (K:=K) (F:=λ_=>none) (a:=y) (Sc.is.mpr rfl))
 |some x,none,h=>absurd h (Nn.nn (K:=K) (F:=λ_=>none) (a:=x) (Sc.is.mpr rfl))⟩
theorem SX{α:Type}[Rp K α][Sc K α]{a:α}(h:rp K F v a):rp K F' v a:=Sc.is.mpr (Sc.is.mp h)
inductive Md|nw|fz|hp
def dif(H a:Hp):Hp:=λb=>match a b with
 |none=>H b
 |some _=>none
def ext(c a H:Hp):Hp:=λb=>match a b with
 |none=>H b
 |some _=>c b
structure Bs where
 Fa:Hp
 H0:Hp
abbrev Own:=List (Addr×HO)
class Ob (K:Frag) (α:Type) where
 β:Type
 vg:Rp K β
 ro:Hp->V->α->Own->Prop
 mono:∀{F F':Hp}{v:V}{a:α}{O:Own},Same F F'->ro F v a O->ro F' v a O
 val:α->β
 mL:∀{F:Hp}{v:V}{a:α}{O:Own},ro F v a O->(∀x∈O,F x.1=some x.2)->Rp.rp (K:=K) F v (val a)
def reg(B:Bs)(F H:Hp):Md->Hp
 |.nw=>dif F B.H0
 |.fz=>F
 |.hp=>H
theorem aQ:Same (dif H H0) H:=λb o h=>by
 unfold dif at h
 grind
theorem xK(h:a b=none):dif H a b=H b:=by
 unfold dif
 rw[h]
theorem wG(s:Same H H'):Same (dif H a) (dif H' a):=λb o h=>by
 unfold dif at h ⊢
 cases e:a b with
 |none=>rw[e] at h;exact s b o h
 |some u=>grind
structure Ok(B:Bs)(F:Hp)(O:Own)(H:Hp):Prop where
 fh:Same F H
 h0:Same B.H0 H
 fa:∀b o,F b=some o->B.Fa b=some o\/B.H0 b=none
 fo:∀x∈O,F x.1=none/\B.H0 x.1=none/\H x.1=some x.2
 nd:(O.map (·.1)).Nodup
structure bJ(B:Bs)(F H:Hp)(O:Own)(F' H':Hp):Prop where
 ff:Same F F'
 hh:Same H H'
 ok:Ok B F' O H'
 nw:∀b,F b=none->H b≠none->F' b=none
section
variable{B:Bs}{F H F' H' F2 H2:Hp}{O:Own}
theorem bJ.refl(k:Ok B F O H):bJ B F H O F H:=⟨.refl _,.refl _,k,λ_ h _=>h⟩
theorem bJ.trans(a:bJ B F H O F' H')(b:bJ B F' H' O F2 H2):bJ B F H O F2 H2 :=
 ⟨a.ff.trans b.ff,a.hh.trans b.hh,b.ok,λq d c=>b.nw q (a.nw q d c) λe=>c (a.hh.free e)⟩
theorem bJ.new(k:Ok B F O H)(h:H p=none)(o:HO):bJ B F H O (upd F p o) (upd H p o):=by
 have j:=k.fh.free h
 refine⟨au j o,au h o,⟨λb u e=>?_,k.h0.put (k.h0.free h) o,λb u e=>?_,λx f=>?_,k.nd⟩,λb d i=>?_⟩
 ·by_cases q:b=p
  ·subst q;rw[zO] at e ⊢;exact e
  ·rw[zR q] at e ⊢;exact k.fh b u e
 ·by_cases q:b=p
  ·subst q;exact .inr (k.h0.free h)
  ·rw[zR q] at e;exact k.fa b u e
 ·obtain⟨c,g,a⟩:=k.fo x f
  have q:=zV a h
  exact⟨by rw[zR q];exact c,g,by rw[zR q];exact a⟩
 ·rw[zR λe=>i (by grind)];exact d
theorem xQ(g:bJ B F H O F' H')(md:Md):Same (reg B F H md) (reg B F' H' md):=match md with
 |.nw=>wG g.ff
 |.fz=>g.ff
 |.hp=>g.hh
end
inductive Slot(K:Frag):Type 1
 |un
 |fz (n:Bool) {α:Type} [Rp K α] (a:α)
 |hs {α:Type} [Rp K α] (a:α)
 |nu {α:Type} [Rp K α] (a:α)
 |ow (n:Bool) {α:Type} [Rp K α] (xs:List α)
 |od {α:Type} [Rp K α] (kvs:List (Key×α))
 |ob (n:Bool) {α:Type} [Ob K α] (a:α)
abbrev SL(K:Frag):=List (Slot K)
abbrev cQ:Bool->Md
 |true=>.nw
 |false=>.fz
def lo(F:Hp)(O:Own)(H:Hp):Hp:=λb=>if(F b).isSome||(O.any λx=>x.1==b) then none else H b
inductive ak(B:Bs)(F L H:Hp):SL K->St->Own->Prop
 |nil:ak B F L H [] [] []
 |un {sl:SL K} {σ:St} {O:Own} {x:Option V}:ak B F L H sl σ O->ak B F L H (.un::sl) (x::σ) O
 |fz {n:Bool} {α:Type} [Rp K α] {a:α} {sl:SL K} {σ:St} {O:Own} {v:V}:rp K (reg B F H (cQ n)) v a->ak B F L H sl σ O->ak B F L H (.fz n a::sl) (some v::σ) O
 |hs {α:Type} [Rp K α] {a:α} {sl:SL K} {σ:St} {O:Own} {v:V}:rp K H v a->ak B F L H sl σ O->ak B F L H (.hs a::sl) (some v::σ) O
 |nu {α:Type} [Rp K α] {a:α} {sl:SL K} {σ:St} {O:Own} {v:V}:rp K (dif L B.H0) v a->ak B F L H sl σ O->ak B F L H (.nu a::sl) (some v::σ) O
 |ow {n:Bool} {α:Type} [Rp K α] {xs:List α} {sl:SL K} {σ:St} {O:Own} {p:Addr} {vs:List V}:A2 (rp K (reg B F H (cQ n))) vs xs->ak B F L H sl σ O->ak B F L H (.ow n xs::sl) (some (.ref p)::σ) ((p,.lst vs)::O)
 |od {α:Type} [Rp K α] {kvs:List (Key×α)} {sl:SL K} {σ:St} {O:Own} {p:Addr} {ks:List (Key×V)}:A2 (λ(x:Key×V) (y:Key×α)=>x.1=y.1/\rp K F x.2 y.2) ks kvs->ak B F L H sl σ O->ak B F L H (.od kvs::sl) (some (.ref p)::σ) ((p,.dK ks)::O)
 |ob {n:Bool} {α:Type} [Ob K α] {a:α} {sl:SL K} {σ:St} {O Oc:Own} {v:V}:Ob.ro K (reg B F H (cQ n)) v a Oc->ak B F L H sl σ O->ak B F L H (.ob n a::sl) (some v::σ) (Oc++O)
def At(B:Bs)(a:SL K)(F:Hp)(O:Own)(H:Hp)(σ:St):Prop:=Ok B F O H/\ak B F (lo F O H) H a σ O
abbrev dz:Slot K->Bool
 |@Slot.ow _ _ _ _ _=>true
 |@Slot.od _ _ _ _=>true
 |@Slot.ob _ _ _ _ _=>true
 |_=>false
abbrev cG:Slot K->Bool
 |@Slot.hs _ _ _ _=>true
 |_=>false
section
variable{B:Bs}{F H F' H' L L':Hp}{O O':Own}{sl:SL K}{σ:St}
theorem wH(n:Bool)(a:Same F F'):Same (reg B F H (cQ n)) (reg B F' H' (cQ n)):=match n with
 |true=>wG a
 |false=>a
theorem ak.mono(a:Same F F')(c:Same L L')(b:Same H H')(h:ak B F L H sl σ O):ak B F' L' H' sl σ O:=by
 induction h with
 |nil=>exact .nil
 |un _ ih=>exact .un ih
 |fz r _ ih=>exact .fz (Rp.mono (wH _ a) r) ih
 |hs r _ ih=>exact .hs (Rp.mono b r) ih
 |nu r _ ih=>exact .nu (Rp.mono (wG c) r) ih
 |ow r _ ih=>exact .ow (r.imp λ_ _=>Rp.mono (wH _ a)) ih
 |od r _ ih=>exact .od (r.imp λ_ _ z=>⟨z.1,Rp.mono a z.2⟩) ih
 |ob r _ ih=>exact .ob (Ob.mono (wH _ a) r) ih
theorem ak.mut(a:Same L L')(h:ak B F L H sl σ O)(hn:sl.all (λs=>!cG s)=true):ak B F L' H' sl σ O:=by
 induction h with
 |nil=>exact .nil
 |un _ ih=>exact .un (ih (by grind))
 |fz r _ ih=>exact .fz (Rp.mono (wH _ (.refl _)) r) (ih (by grind))
 |hs r _ ih=>grind
 |nu r _ ih=>exact .nu (Rp.mono (wG a) r) (ih (by grind))
 |ow r _ ih=>exact .ow (r.imp λ_ _=>Rp.mono (wH _ (.refl _))) (ih (by grind))
 |od r _ ih=>exact .od r (ih (by grind))
 |ob r _ ih=>exact .ob (Ob.mono (wH _ (.refl _)) r) (ih (by grind))
theorem zUi(g:bJ B F H O F' H'):Same (lo F O H) (lo F' O H'):=λb o h=>by
 unfold lo at h ⊢
 cases e:(F b).isSome||(O.any λx=>x.1==b) with
 |true=>grind
 |false =>
  rw[e] at h
  have a:H b=some o:=h
  rw[Bool.or_eq_false_iff] at e
  have c:F' b=none:=g.nw b (by cases q:F b with|none=>rfl|some u=>grind) (by grind)
  rw[c,e.2]
  exact g.hh b o a
theorem At.grow(h:At B sl F O H σ)(g:bJ B F H O F' H'):At B sl F' O H' σ:=⟨g.ok,h.2.mono g.ff (zUi g) g.hh⟩
theorem ak.len(h:ak B F L H sl σ O):σ.length=sl.length:=by
 induction h with
 |nil=>rfl
 |un _ ih=>grind
 |fz _ _ ih=>grind
 |hs _ _ ih=>grind
 |nu _ _ ih=>grind
 |ow _ _ ih=>grind
 |od _ _ ih=>grind
 |ob _ _ ih=>grind
theorem ak.n_{α:Type}[Rp K α]{a:α}(h:ak B F L H sl σ O):∀{i:Nat},sl[i]?=some (.fz n a)->∃v,σ[i]?=some (some v)/\rp K (reg B F H (cQ n)) v a:=by
 induction h with
 |nil=>intro i e;simp at e
 |fz r _ ih =>
  intro i e
  cases i with
  |zero=>cases e;exact⟨_,rfl,r⟩
  |succ i=>exact ih e
 |_ =>
  rename_i ih
  intro i e
  cases i with
  |zero=>cases e
  |succ i=>exact ih e
theorem ak.Ox{α:Type}[Rp K α]{a:α}(h:ak B F L H sl σ O):∀{i:Nat},sl[i]?=some (.hs a)->∃v,σ[i]?=some (some v)/\rp K H v a:=by
 induction h with
 |nil=>intro i e;simp at e
 |hs r _ ih =>
  intro i e
  cases i with
  |zero=>cases e;exact⟨_,rfl,r⟩
  |succ i=>exact ih e
 |_ =>
  rename_i ih
  intro i e
  cases i with
  |zero=>cases e
  |succ i=>exact ih e
theorem ak.jQ{α:Type}[Rp K α]{a:α}(h:ak B F L H sl σ O):∀{i:Nat},sl[i]?=some (.nu a)->∃v,σ[i]?=some (some v)/\rp K (dif L B.H0) v a:=by
 induction h with
 |nil=>intro i e;simp at e
 |nu r _ ih =>
  intro i e
  cases i with
  |zero=>cases e;exact⟨_,rfl,r⟩
  |succ i=>exact ih e
 |_ =>
  rename_i ih
  intro i e
  cases i with
  |zero=>cases e
  |succ i=>exact ih e
theorem ak.put(h:ak B F L H sl σ O)(a:∀(sl:SL K) (σ:St) (O:Own),ak B F L H sl σ O->ak B F L H (s'::sl) (x::σ) O):∀{i:Nat},sl[i]?=some s->dz s=false->ak B F L H (sl.set i s') (σ.set i x) O:=by
 induction h with
 |nil=>intro i e;simp at e
 |un g ih =>
  intro i e o
  cases i with
  |zero=>exact a _ _ _ g
  |succ i=>exact .un (ih e o)
 |fz r g ih =>
  intro i e o
  cases i with
  |zero=>exact a _ _ _ g
  |succ i=>exact .fz r (ih e o)
 |hs r g ih =>
  intro i e o
  cases i with
  |zero=>exact a _ _ _ g
  |succ i=>exact .hs r (ih e o)
 |nu r g ih =>
  intro i e o
  cases i with
  |zero=>exact a _ _ _ g
  |succ i=>exact .nu r (ih e o)
 |ow r g ih =>
  intro i e o
  cases i with
  |zero=>grind
  |succ i=>exact .ow r (ih e o)
 |od r g ih =>
  intro i e o
  cases i with
  |zero=>cases e;cases o
  |succ i=>exact .od r (ih e o)
 |ob r g ih =>
  intro i e o
  cases i with
  |zero=>cases e;cases o
  |succ i=>exact .ob r (ih e o)
theorem ak.own(h:ak B F L H sl σ O)(b:∀(sl:SL K) (σ:St) (O:Own),ak B F L H sl σ O->ak B F L H (s'::sl) (x::σ) (c::O)) :
  ∀{i:Nat},sl[i]?=some s->dz s=false->∃O1 O2,O=O1++O2/\ak B F L H (sl.set i s') (σ.set i x) (O1++c::O2):=by
 induction h with
 |nil=>intro i e;simp at e
 |un g ih =>
  intro i e o
  cases i with
  |zero=>exact⟨[],_,rfl,b _ _ _ g⟩
  |succ i=>obtain⟨O1,O2,q,z⟩:=ih e o;exact⟨O1,O2,q,.un z⟩
 |fz r g ih =>
  intro i e o
  cases i with
  |zero=>exact⟨[],_,rfl,b _ _ _ g⟩
  |succ i=>obtain⟨O1,O2,q,z⟩:=ih e o;exact⟨O1,O2,q,.fz r z⟩
 |hs r g ih =>
  intro i e o
  cases i with
  |zero=>exact⟨[],_,rfl,b _ _ _ g⟩
  |succ i=>obtain⟨O1,O2,q,z⟩:=ih e o;exact⟨O1,O2,q,.hs r z⟩
 |nu r g ih =>
  intro i e o
  cases i with
  |zero=>exact⟨[],_,rfl,b _ _ _ g⟩
  |succ i=>obtain⟨O1,O2,q,z⟩:=ih e o;exact⟨O1,O2,q,.nu r z⟩
 |ow r g ih =>
  intro i e o
  cases i with
  |zero=>cases e;cases o
  |succ i=>obtain⟨O1,O2,q,z⟩:=ih e o;exact⟨_::O1,O2,by rw[q]<;>rfl,.ow r z⟩
 |od r g ih =>
  intro i e o
  cases i with
  |zero=>cases e;cases o
  |succ i=>obtain⟨O1,O2,q,z⟩:=ih e o;exact⟨_::O1,O2,by rw[q]<;>rfl,.od r z⟩
 |@ob _ _ _ _ _ _ _ d _ r g ih =>
  intro i e o
  cases i with
  |zero=>cases e;cases o
  |succ i =>
   obtain⟨O1,O2,q,z⟩:=ih e o
   refine⟨d++O1,O2,by rw[q,append_assoc],?_⟩
   rw[append_assoc]
   exact .ob r z
abbrev OwR{α:Type}[Rp K α](B:Bs)(F L H:Hp)(n:Bool)(xs:List α)(sl:SL K)(σ:St)(O:Own)(i:Nat):Prop:=∃O1 O2 p vs,O=O1++(p,.lst vs)::O2/\σ[i]?=some (some (.ref p))/\A2 (rp K (reg B F H (cQ n))) vs xs/\(∀(s':Slot K)(x:Option V)(c:Addr×HO),(∀(sl:SL K)(σ:St)(O:Own),ak B F L H sl σ O->ak B F L H (s'::sl) (x::σ) (c::O))->ak B F L H (sl.set i s') (σ.set i x) (O1++c::O2))/\(∀(s':Slot K)(x:Option V),(∀(sl:SL K)(σ:St)(O:Own),ak B F L H sl σ O->ak B F L H (s'::sl) (x::σ) O)->ak B F L H (sl.set i s') (σ.set i x) (O1++O2))
theorem ak.lY{α:Type}[Rp K α]{xs:List α}(h:ak B F L H sl σ O):∀{i:Nat},sl[i]?=some (.ow n xs)->OwR B F L H n xs sl σ O i:=by
 induction h with
 |nil=>intro i e;simp at e
 |un g ih =>
  intro i e
  cases i with
  |zero=>cases e
  |succ i=>obtain⟨O1,O2,p,vs,q,f,b,j,d⟩:=ih e;exact⟨O1,O2,p,vs,q,f,b,λs' x c z=>.un (j s' x c z),λs' x z=>.un (d s' x z)⟩
 |fz r g ih =>
  intro i e
  cases i with
  |zero=>cases e
  |succ i=>obtain⟨O1,O2,p,vs,q,f,b,j,d⟩:=ih e;exact⟨O1,O2,p,vs,q,f,b,λs' x c z=>.fz r (j s' x c z),λs' x z=>.fz r (d s' x z)⟩
 |hs r g ih =>
  intro i e
  cases i with
  |zero=>cases e
  |succ i=>obtain⟨O1,O2,p,vs,q,f,b,j,d⟩:=ih e;exact⟨O1,O2,p,vs,q,f,b,λs' x c z=>.hs r (j s' x c z),λs' x z=>.hs r (d s' x z)⟩
 |nu r g ih =>
  intro i e
  cases i with
  |zero=>cases e
  |succ i=>obtain⟨O1,O2,p,vs,q,f,b,j,d⟩:=ih e;exact⟨O1,O2,p,vs,q,f,b,λs' x c z=>.nu r (j s' x c z),λs' x z=>.nu r (d s' x z)⟩
 |ow r g ih =>
  intro i e
  cases i with
  |zero=>cases e;exact⟨[],_,_,_,rfl,rfl,r,λs' x c z=>z _ _ _ g,λs' x z=>z _ _ _ g⟩
  |succ i=>obtain⟨O1,O2,p,vs,q,f,b,j,d⟩:=ih e;exact⟨_::O1,O2,p,vs,by rw[q]<;>rfl,f,b,λs' x c z=>.ow r (j s' x c z),λs' x z=>.ow r (d s' x z)⟩
 |od r g ih =>
  intro i e
  cases i with
  |zero=>cases e
  |succ i=>obtain⟨O1,O2,p,vs,q,f,b,j,d⟩:=ih e;exact⟨_::O1,O2,p,vs,by rw[q]<;>rfl,f,b,λs' x c z=>.od r (j s' x c z),λs' x z=>.od r (d s' x z)⟩
 |@ob _ _ _ _ _ _ _ k _ r g ih =>
  intro i e
  cases i with
  |zero=>cases e
  |succ i =>
   obtain⟨O1,O2,p,vs,q,f,b,j,d⟩:=ih e
   refine⟨k++O1,O2,p,vs,by rw[q,append_assoc],f,b,λs' x c z=>?_,λs' x z=>?_⟩
   ·rw[append_assoc];exact .ob r (j s' x c z)
   ·rw[append_assoc];exact .ob r (d s' x z)
abbrev OdR{α:Type}[Rp K α](B:Bs)(F L H:Hp)(kvs:List (Key×α))(sl:SL K)(σ:St)(O:Own)(i:Nat):Prop:=∃O1 O2 p ks,O=O1++(p,.dK ks)::O2/\σ[i]?=some (some (.ref p))/\A2 (λ(x:Key×V) (y:Key×α)=>x.1=y.1/\rp K F x.2 y.2) ks kvs/\(∀(s':Slot K)(x:Option V)(c:Addr×HO),(∀(sl:SL K)(σ:St)(O:Own),ak B F L H sl σ O->ak B F L H (s'::sl) (x::σ) (c::O))->ak B F L H (sl.set i s') (σ.set i x) (O1++c::O2))/\(∀(s':Slot K)(x:Option V),(∀(sl:SL K)(σ:St)(O:Own),ak B F L H sl σ O->ak B F L H (s'::sl) (x::σ) O)->ak B F L H (sl.set i s') (σ.set i x) (O1++O2))
theorem ak.Ge{α:Type}[Rp K α]{kvs:List (Key×α)}(h:ak B F L H sl σ O):∀{i:Nat},sl[i]?=some (.od kvs)->OdR B F L H kvs sl σ O i:=by
 induction h with
 |nil=>intro i e;simp at e
 |un g ih =>
  intro i e
  cases i with
  |zero=>cases e
  |succ i=>obtain⟨O1,O2,p,f,q,d,a,j,b⟩:=ih e;exact⟨O1,O2,p,f,q,d,a,λs' x c z=>.un (j s' x c z),λs' x z=>.un (b s' x z)⟩
 |fz r g ih =>
  intro i e
  cases i with
  |zero=>cases e
  |succ i=>obtain⟨O1,O2,p,f,q,d,a,j,b⟩:=ih e;exact⟨O1,O2,p,f,q,d,a,λs' x c z=>.fz r (j s' x c z),λs' x z=>.fz r (b s' x z)⟩
 |hs r g ih =>
  intro i e
  cases i with
  |zero=>cases e
  |succ i=>obtain⟨O1,O2,p,f,q,d,a,j,b⟩:=ih e;exact⟨O1,O2,p,f,q,d,a,λs' x c z=>.hs r (j s' x c z),λs' x z=>.hs r (b s' x z)⟩
 |nu r g ih =>
  intro i e
  cases i with
  |zero=>cases e
  |succ i=>obtain⟨O1,O2,p,f,q,d,a,j,b⟩:=ih e;exact⟨O1,O2,p,f,q,d,a,λs' x c z=>.nu r (j s' x c z),λs' x z=>.nu r (b s' x z)⟩
 |od r g ih =>
  intro i e
  cases i with
  |zero=>cases e;exact⟨[],_,_,_,rfl,rfl,r,λs' x c z=>z _ _ _ g,λs' x z=>z _ _ _ g⟩
  |succ i=>obtain⟨O1,O2,p,f,q,d,a,j,b⟩:=ih e;exact⟨_::O1,O2,p,f,by rw[q]<;>rfl,d,a,λs' x c z=>.od r (j s' x c z),λs' x z=>.od r (b s' x z)⟩
 |ow r g ih =>
  intro i e
  cases i with
  |zero=>cases e
  |succ i=>obtain⟨O1,O2,p,f,q,d,a,j,b⟩:=ih e;exact⟨_::O1,O2,p,f,by rw[q]<;>rfl,d,a,λs' x c z=>.ow r (j s' x c z),λs' x z=>.ow r (b s' x z)⟩
 |@ob _ _ _ _ _ _ _ k _ r g ih =>
  intro i e
  cases i with
  |zero=>cases e
  |succ i =>
   obtain⟨O1,O2,p,f,q,d,a,j,b⟩:=ih e
   refine⟨k++O1,O2,p,f,by rw[q,append_assoc],d,a,λs' x c z=>?_,λs' x z=>?_⟩
   ·rw[append_assoc];exact .ob r (j s' x c z)
   ·rw[append_assoc];exact .ob r (b s' x z)
theorem ak.oh{α:Type}[Ob K α]{a:α}(h:ak B F L H sl σ O):∀{i:Nat},sl[i]?=some (.ob n a) ->
  ∃O1 Oc O2 v,O=O1++(Oc++O2)/\σ[i]?=some (some v)/\Ob.ro K (reg B F H (cQ n)) v a Oc /\
   (∀(s':Slot K)(x:Option V)(c:Own),(∀(sl:SL K)(σ:St)(O:Own),ak B F L H sl σ O->ak B F L H (s'::sl) (x::σ) (c++O))->ak B F L H (sl.set i s') (σ.set i x) (O1++(c++O2))):=by
 induction h with
 |nil=>intro i e;simp at e
 |un g ih =>
  intro i e
  cases i with
  |zero=>cases e
  |succ i=>obtain⟨O1,Oc,O2,v,q,d,f,b⟩:=ih e;exact⟨O1,Oc,O2,v,q,d,f,λs' x c z=>.un (b s' x c z)⟩
 |fz r g ih =>
  intro i e
  cases i with
  |zero=>cases e
  |succ i=>obtain⟨O1,Oc,O2,v,q,d,f,b⟩:=ih e;exact⟨O1,Oc,O2,v,q,d,f,λs' x c z=>.fz r (b s' x c z)⟩
 |hs r g ih =>
  intro i e
  cases i with
  |zero=>cases e
  |succ i=>obtain⟨O1,Oc,O2,v,q,d,f,b⟩:=ih e;exact⟨O1,Oc,O2,v,q,d,f,λs' x c z=>.hs r (b s' x c z)⟩
 |nu r g ih =>
  intro i e
  cases i with
  |zero=>cases e
  |succ i=>obtain⟨O1,Oc,O2,v,q,d,f,b⟩:=ih e;exact⟨O1,Oc,O2,v,q,d,f,λs' x c z=>.nu r (b s' x c z)⟩
 |ow r g ih =>
  intro i e
  cases i with
  |zero=>cases e
  |succ i=>obtain⟨O1,Oc,O2,v,q,d,f,b⟩:=ih e;exact⟨_::O1,Oc,O2,v,by rw[q]<;>rfl,d,f,λs' x c z=>.ow r (b s' x c z)⟩
 |od r g ih =>
  intro i e
  cases i with
  |zero=>cases e
  |succ i=>obtain⟨O1,Oc,O2,v,q,d,f,b⟩:=ih e;exact⟨_::O1,Oc,O2,v,by rw[q]<;>rfl,d,f,λs' x c z=>.od r (b s' x c z)⟩
 |@ob _ _ _ _ _ _ _ Oc _ r g ih =>
  intro i e
  cases i with
  |zero=>cases e;exact⟨[],Oc,_,_,rfl,rfl,r,λs' x c z=>z _ _ _ g⟩
  |succ i =>
   obtain⟨O1,j,O2,v,q,d,f,b⟩:=ih e
   refine⟨Oc++O1,j,O2,v,by rw[q,append_assoc],d,f,λs' x c z=>?_⟩
   rw[append_assoc];exact .ob r (b s' x c z)
end
end
section
variable{K:Frag}{B:Bs}{F H F' H' L L':Hp}{O O' O1 O2:Own}{sl:SL K}{σ:St}{p:Addr}{o o':HO}
theorem I8{α:Type}{a b:List α}{x:α}:(a++x::b).Nodup↔(a++b).Nodup/\x∉a++b:=by
 grind
theorem Ok.add(k:Ok B F (O1++O2) H)(h:H p=none):Ok B F (O1++(p,o)::O2) (upd H p o):=by
 refine⟨λb u e=>?_,k.h0.put (k.h0.free h) o,k.fa,λx hx=>?_,?_⟩
 ·rw[zR (zV (k.fh b u e) h)];exact k.fh b u e
 ·have hx':x=(p,o)\/x∈O1++O2:=by
   grind
  rcases hx' with rfl|hx'
  ·exact⟨k.fh.free h,k.h0.free h,zO⟩
  ·obtain⟨a1,a2,a3⟩:=k.fo x hx'
   exact⟨a1,a2,by rw[zR (zV a3 h)];exact a3⟩
 ·rw[map_append,map_cons,I8,<-map_append]
  refine⟨k.nd,λz=>?_⟩
  obtain⟨x,hx,e⟩:=mem_map.mp z
  obtain⟨_,_,a3⟩:=k.fo x hx
  grind
theorem Ok.one(k:Ok B F (O1++(p,o)::O2) H):F p=none/\B.H0 p=none/\H p=some o:=k.fo (p,o) (mem_append.mpr (.inr mem_cons_self))
theorem Ok.WK(k:Ok B F (O1++(p,o)::O2) H):∀x∈O1++O2,x.1≠p:=λx hx e=>by
 have q:=k.nd
 grind
theorem Ok.drop(k:Ok B F (O1++(p,o)::O2) H):Ok B F (O1++O2) H:=by
 refine⟨k.fh,k.h0,k.fa,λx hx=>k.fo x ?_,?_⟩
 ·grind
 ·have q:=k.nd
  grind
theorem Ok.chg(k:Ok B F (O1++(p,o)::O2) H)(o':HO):Ok B F (O1++(p,o')::O2) (upd H p o'):=by
 obtain⟨a1,a2,a3⟩:=k.one
 refine⟨k.fh.put a1 o',k.h0.put a2 o',k.fa,λx hx=>?_,?_⟩
 ·have hx':x=(p,o')\/x∈O1++O2:=by
   grind
  rcases hx' with rfl|hx'
  ·exact⟨a1,a2,zO⟩
  ·obtain⟨b1,b2,b3⟩:=k.drop.fo x hx'
   exact⟨b1,b2,by rw[zR (k.WK x hx')];exact b3⟩
 ·have q:=k.nd
  grind
theorem Ok.freeze(k:Ok B F (O1++(p,o)::O2) H):Ok B (upd F p o) (O1++O2) H:=by
 obtain⟨a1,a2,a3⟩:=k.one
 refine⟨λb u e=>?_,k.h0,λb u e=>?_,λx hx=>?_,k.drop.nd⟩
 ·by_cases q:b=p
  ·subst q;rw[zO] at e;grind
  ·rw[zR q] at e;exact k.fh b u e
 ·by_cases q:b=p
  ·grind
  ·rw[zR q] at e;exact k.fa b u e
 ·obtain⟨b1,b2,b3⟩:=k.drop.fo x hx
  exact⟨by rw[zR (k.WK x hx)];exact b1,b2,b3⟩
theorem WL(h:H p=none):Same (lo F (O1++O2) H) (lo F (O1++(p,o)::O2) (upd H p o)):=λb u e=>by
 unfold lo at e ⊢
 by_cases q:b=p
 ·grind
 ·rw[zR q]
  grind
theorem zZu:Same (lo F (O1++(p,o)::O2) H) (lo F (O1++(p,o')::O2) (upd H p o')):=λb u e=>by
 unfold lo at e ⊢
 by_cases q:b=p
 ·grind
 ·rw[zR q]
  grind
theorem jJ:Same (lo F (O1++(p,o)::O2) H) (lo F (O1++O2) H):=λb u e=>by
 unfold lo at e ⊢
 grind
theorem iG:Same (lo F (O1++(p,o)::O2) H) (lo (upd F p o) (O1++O2) H):=λb u e=>by
 unfold lo at e ⊢
 split at e
 ·cases e
 ·rename_i h
  rw[List.any_append,any_cons] at h
  simp at h
  have q:b≠p:=λz=>h.2.2.1 z.symm
  rw[zR q,if_neg]
  ·exact e
  ·rw[List.any_append]
   simp
   exact⟨h.1,h.2.1,h.2.2.2⟩
theorem Ok.called(k:Ok B F O H)(s:Same H H'):bJ B F H O (ext F H H') H':=by
 have e1:∀b o,ext F H H' b=some o->F b=some o\/H b=none:=λb o h=>by
  unfold ext at h
  grind
 refine⟨λb o h=>?_,s,⟨λb o h=>?_,k.h0.trans s,λb o h=>?_,λx hx=>?_,k.nd⟩,λb h1 h2=>?_⟩
 ·unfold ext
  rw[k.fh b o h]
  exact h
 ·unfold ext at h
  cases q:H b with
  |none=>grind
  |some u=>rw[q] at h;rw[<-k.fh b o h];exact(s b u q).trans q.symm
 ·rcases e1 b o h with z|z
  ·exact k.fa b o z
  ·exact .inr (k.h0.free z)
 ·obtain⟨a1,a2,a3⟩:=k.fo x hx
  refine⟨?_,a2,s _ _ a3⟩
  unfold ext
  grind
 ·unfold ext
  grind
theorem S5(h0:Same B.H0 H)(s:Same H H'):Same (dif H' H) (dif (ext F H H') B.H0):=λb o h=>by
 unfold dif at h
 cases q:H b with
 |none =>
  rw[xK (h0.free q)]
  unfold ext
  grind
 |some u=>grind
variable{md md1 md2:Md}{α β γ:Type}[Rp K α][Rp K β][Rp K γ]{t t1 t2:TE}{m:Option α}{m1:Option β}{m2:Option γ}
def Ex(B:Bs)(sl:SL K)(md:Md)(t:TE){α:Type}[Rp K α](m:Option α):Prop :=
 ∀a,m=some a->∀(F:Hp)(O:Own)(H:Hp)(σ:St)(Q:VK),At B sl F O H σ->(∀(v:V)(F' H':Hp),bJ B F H O F' H'->rp K (reg B F' H' md) v a->Q v H')->t σ H Q
def Et(B:Bs)(sl:SL K)(t:TT)(m:Option Bool):Prop :=
 ∀a,m=some a->∀(F:Hp)(O:Own)(H:Hp)(σ:St)(Q:Bool->Hp->Prop),At B sl F O H σ->(∀(F' H':Hp),bJ B F H O F' H'->Q a H')->t σ H Q
inductive Ar(R:Hp):SL K->List V->Prop
 |nil:Ar R [] []
 |cons {n:Bool} {α:Type} [Rp K α] {a:α} {v:V} {sl:SL K} {vs:List V}:rp K R v a->Ar R sl vs->Ar R (.fz n a::sl) (v::vs)
def Ea(B:Bs)(sl:SL K)(md:Md)(t:TA){A:Type}(as:A->SL K)(m:Option A):Prop :=
 ∀a,m=some a->∀(F:Hp)(O:Own)(H:Hp)(σ:St)(Q:List V->Hp->Prop),At B sl F O H σ->(∀(vs:List V)(F' H':Hp),bJ B F H O F' H'->Ar (reg B F' H' md) (as a) vs->Q vs H')->t σ H Q
theorem Ex.sc[Sc K α](h:Ex B sl md t m):Ex B sl md1 t m:=λa ha F O H σ Q s k=>h a ha F O H σ Q s λv F' H' g r=>k v F' H' g (SX r)
theorem Oz[Nn K α](h:Ex B sl md t m):Ex B sl md t (m.bind λa=>some (some a)):=λa ha F O H σ Q s k=>by
 cases m with
 |none=>cases ha
 |some a' =>
  cases(ha)
  exact h a' rfl F O H σ Q s λv F' H' g r=>k v F' H' g ⟨Nn.nn r,r⟩
theorem yJ{n:Bool}{a:α}(i:Nat)(hs:sl[i]?=some (.fz n a)):Ex B sl (cQ n) (bL i) (some a):=λa' ha F O H σ Q s k=>by
 cases ha
 obtain⟨v,h1,h2⟩:=s.2.n_ hs
 exact⟨v,h1,k v F H (.refl s.1) h2⟩
theorem zG[Sc K α]{n:Bool}{a:α}(i:Nat)(hs:sl[i]?=some (.fz n a)):Ex B sl md (bL i) (some a):=(yJ i hs).sc
theorem S6:Same (lo F O H) H:=λb o h=>by
 unfold lo at h
 grind
theorem rE(k:Ok B F O H)(n:Bool):Same (reg B F H (cQ n)) H:=match n with
 |true=>aQ.trans k.fh
 |false=>k.fh
theorem zE{n:Bool}{a:α}(i:Nat)(hs:sl[i]?=some (.fz n a)):Ex B sl .hp (bL i) (some a):=λa' ha F O H σ Q s k=>by
 cases ha
 obtain⟨v,h1,h2⟩:=s.2.n_ hs
 exact⟨v,h1,k v F H (.refl s.1) (Rp.mono (rE s.1 n) h2)⟩
theorem xN{n:Bool}{xs:List α}(i:Nat)(hs:sl[i]?=some (.ow n xs)):Ex B sl .hp (bL i) (some xs):=λa' ha F O H σ Q s k=>by
 cases ha
 obtain⟨O1,O2,p,vs,rfl,h1,h2,_⟩:=s.2.lY hs
 exact⟨_,h1,k _ F H (.refl s.1) ⟨p,vs,rfl,s.1.one.2.2,h2.imp λ_ _=>Rp.mono (rE s.1 n)⟩⟩
theorem I9[Sc K α](a:α):Ex B sl md (tC (Sc.val K a)) (some a):=λa' ha F O H σ Q s k=>by cases ha;exact k _ F H (.refl s.1) (Sc.is.mpr rfl)
theorem zJ(i:Int):Ex B sl md (tC (.int i)) (some i):=I9 i
theorem Gf(i:Bool):Ex B sl md (tC (.bl i)) (some i):=I9 i
theorem p7(i:Str):Ex B sl md (tC (.str i)) (some i):=I9 i
theorem WM:Ex B sl md (tC .non) (some (none:Option α)):=λa' ha F O H σ Q s k=>by cases ha;exact k _ F H (.refl s.1) rfl
theorem jK{f:β->γ->Option α}(h:(m1.bind λa=>m2.bind λb=>f a b)=some c):∃a b,m1=some a/\m2=some b/\f a b=some c:=by
 cases m1 with
 |none=>cases h
 |some a =>
  cases m2 with
  |none=>cases h
  |some b=>grind
theorem tE{f:β->γ->Option α}[Sc K α](hr:∀(a:β) (b:γ) (c:α) (v w:V) (H:Hp) (Q:VK),f a b=some c->rp K H v a->rp K H w b->Q (Sc.val K c) H->r v w H Q)(h1:Ex B sl .hp t1 m1)(h2:Ex B sl .hp t2 m2):Ex B sl md (dH r t1 t2) (m1.bind λa=>m2.bind λb=>f a b):=λc hc F O H σ Q s k=>by
 obtain⟨a,b,ha,hb,hf⟩:=jK hc
 refine h1 a ha F O H σ _ s λv F' H' g r1=>?_
 refine h2 b hb F' O H' σ _ (s.grow g) λw F2 H2 g2 r2=>?_
 exact hr a b c v w H2 Q hf (Rp.mono g2.hh r1) r2 (k _ F2 H2 (g.trans g2) (Sc.is.mpr rfl))
theorem Bx(h:Ex B sl md t m'):Et B sl (uh t) m':=λc hc F O H σ Q s k=>h c hc F O H σ _ s λv F' H' g r=>⟨c,r,k F' H' g⟩
theorem I_(h:Ex B sl md t m'):Et B sl (tB t) m':=λc hc F O H σ Q s k=>h c hc F O H σ _ s λv F' H' g r=>⟨c,r,k F' H' g⟩
theorem WQ{t:TT}{n:Option Bool}(h:Et B sl t n):Et B sl (NK t) (n.bind λc=>some !c):=λc hc F O H σ Q s k=>by
 cases n with
 |none=>cases hc
 |some c' =>
  cases(hc)
  exact h c' rfl F O H σ _ s λF' H' g=>k F' H' g
theorem Ja(h:Ex B sl .hp t n):Ex B sl md (FQ t) (n.bind λc=>some !c):=λc hc F O H σ Q s k=>by
 cases n with
 |none=>cases hc
 |some c' =>
  cases(hc)
  refine h c' rfl F O H σ _ s λv F' H' g r=>?_
  cases r
  exact⟨c',rfl,k _ F' H' g rfl⟩
theorem OD{t u:TT}{n n':Option Bool}(h:Et B sl t n)(h':Et B sl u n'):Et B sl (Nz t u) (n.bind λc=>if c=true then n' else some false):=λc hc F O H σ Q s k=>by
 cases n with
 |none=>cases hc
 |some c' =>
  refine h c' rfl F O H σ _ s λF' H' g=>?_
  cases c' with
  |true=>exact mY (h' c (by simpa using hc) F' O H' σ _ (s.grow g) λF2 H2 g2=>k F2 H2 (g.trans g2))
  |false=>cases(show some false=some c from by simpa using hc);exact mX (k F' H' g)
theorem OJ{t u:TT}{n n':Option Bool}(h:Et B sl t n)(h':Et B sl u n'):Et B sl (Zo t u) (n.bind λc=>if c=true then some true else n'):=λc hc F O H σ Q s k=>by
 cases n with
 |none=>cases hc
 |some c' =>
  refine h c' rfl F O H σ _ s λF' H' g=>?_
  cases c' with
  |true=>cases(show some true=some c from by simpa using hc);exact mY (k F' H' g)
  |false=>exact mX (h' c (by simpa using hc) F' O H' σ _ (s.grow g) λF2 H2 g2=>k F2 H2 (g.trans g2))
theorem WR(h:Ex B sl .hp t1 n)(h':Ex B sl .hp t2 n'):Ex B sl md (FN t1 t2) (n.bind λc=>if c=true then n' else some false):=λc hc F O H σ Q s k=>by
 cases n with
 |none=>cases hc
 |some c' =>
  refine h c' rfl F O H σ _ s λv F' H' g r=>?_
  cases r
  refine⟨c',rfl,?_⟩
  cases c' with
  |true=>exact mY (h' c (by simpa using hc) F' O H' σ _ (s.grow g) λv F2 H2 g2 r2=>k v F2 H2 (g.trans g2) (SX r2))
  |false=>cases(show some false=some c from by simpa using hc);exact mX (k _ F' H' g rfl)
theorem zZ2{t:TT}{n:Option Bool}{m m':Option α}(h:Et B sl t n)(h1:Ex B sl md t1 m)(h2:Ex B sl md t2 m'):Ex B sl md (Zr t t1 t2) (n.bind λc=>if c=true then m else m'):=λc hc F O H σ Q s k=>by
 cases n with
 |none=>cases hc
 |some c' =>
  refine h c' rfl F O H σ _ s λF' H' g=>?_
  cases c' with
  |true=>exact mY (h1 c (by simpa using hc) F' O H' σ _ (s.grow g) λv F2 H2 g2 r2=>k v F2 H2 (g.trans g2) r2)
  |false=>exact mX (h2 c (by simpa using hc) F' O H' σ _ (s.grow g) λv F2 H2 g2 r2=>k v F2 H2 (g.trans g2) r2)
theorem zL:Ea B sl md aY (λ_:Unit=>[]) (some ()):=λa ha F O H σ Q s k=>k [] F H (.refl s.1) .nil
theorem zD{A:Type}{as:A->SL K}{ma:Option A}(h1:Ex B sl md t m)(h2:Ea B sl md tr as ma):Ea B sl md (xI t tr) (λx:α×A=>.fz false x.1::as x.2) (m.bind λa=>ma.bind λb=>some (a,b)):=λc hc F O H σ Q s k=>by
 cases m with
 |none=>cases hc
 |some a =>
  cases ma with
  |none=>cases hc
  |some b =>
   cases(show some (a,b)=some c from hc)
   refine h1 a rfl F O H σ _ s λv F' H' g r1=>?_
   refine h2 b rfl F' O H' σ _ (s.grow g) λvs F2 H2 g2 r2=>?_
   exact k (v::vs) F2 H2 (g.trans g2) (.cons (Rp.mono (xQ g2 md) r1) r2)
theorem WT(k:Ok B F O H)(h:H p=none)(md:Md):reg B (upd F p o) (upd H p o) md p=some o:=match md with
 |.nw=>by show dif (upd F p o) B.H0 p=_;rw[xK (k.h0.free h)];exact zO
 |.fz=>zO
 |.hp=>zO
noncomputable def cap:Nat:=100000
theorem rG(h:n<cap):n<sizeLine:=adq h (by decide)
theorem zZ9(h:n<=cap):n<=sizeLine:=aa0 h (by decide)
def El(B:Bs)(sl:SL K)(md:Md)(t:TA){α:Type}[Rp K α](m:Option (List α)):Prop :=
 ∀a,m=some a->∀(F:Hp)(O:Own)(H:Hp)(σ:St)(Q:List V->Hp->Prop),At B sl F O H σ->(∀(vs:List V)(F' H':Hp),bJ B F H O F' H'->A2 (rp K (reg B F' H' md)) vs a->Q vs H')->t σ H Q
theorem S7:El B sl md aY (some ([]:List α)):=λa ha F O H σ Q s k=>by cases ha;exact k [] F H (.refl s.1) trivial
theorem uR(h1:Ex B sl md t m)(h2:El B sl md tr ma):El B sl md (xI t tr) (m.bind λa=>ma.bind λb=>some (a::b)):=λc hc F O H σ Q s k=>by
 cases m with
 |none=>cases hc
 |some a =>
  cases ma with
  |none=>cases hc
  |some b =>
   cases(show some (a::b)=some c from hc)
   refine h1 a rfl F O H σ _ s λv F' H' g r1=>?_
   refine h2 b rfl F' O H' σ _ (s.grow g) λvs F2 H2 g2 r2=>?_
   exact k (v::vs) F2 H2 (g.trans g2) ⟨Rp.mono (xQ g2 md) r1,r2⟩
def Eo(B:Bs)(sl:SL K)(md:Md)(t:TE){α:Type}[Rp K α](m:Option (List α)):Prop :=
 ∀a,m=some a->∀(F:Hp)(O:Own)(H:Hp)(σ:St)(Q:VK),At B sl F O H σ->(∀(p:Addr)(vs:List V)(F' H':Hp),bJ B F H O F' H'->H' p=none->A2 (rp K (reg B F' H' md)) vs a->Q (.ref p) (upd H' p (.lst vs)))->t σ H Q
theorem Eo.ex{m:Option (List α)}(h:Eo B sl md t m):Ex B sl md t m:=λa ha F O H σ Q s k=>h a ha F O H σ Q s λp vs F' H' g hp r=>by
 have g2:=bJ.new g.ok hp (.lst vs)
 exact k _ _ _ (g.trans g2) ⟨p,vs,rfl,WT g.ok hp md,r.imp λ_ _=>Rp.mono (xQ g2 md)⟩
theorem nO:Eo B sl md (um aY) (some ([]:List α)):=λa ha F O H σ Q s k=>by
 cases ha
 exact⟨aa5 _,λp hp=>k p [] F H (.refl s.1) hp trivial⟩
theorem S8{t:TA}{ma:Option (List α)}(h:El B sl md t ma)(hl:∀a,ma=some a->a.length<=cap):Eo B sl md (um t) ma:=λa ha F O H σ Q s k =>
 h a ha F O H σ _ s λvs F' H' g r=>⟨by rw[r.len];exact zZ9 (hl a ha),λp hp=>k p vs F' H' g hp r⟩
theorem xO(h1:Ex B sl md t1 m1)(h2:Ex B sl md t2 m2):Ex B sl md (Bg (xI t1 (xI t2 aY))) (m1.bind λa=>m2.bind λb=>some (a,b)):=λc hc F O H σ Q s kk=>by
 obtain⟨a,b,ha,hb,hf⟩:=jK hc
 cases hf
 refine h1 a ha F O H σ _ s λv F' H' g r1=>?_
 refine h2 b hb F' O H' σ _ (s.grow g) λw F2 H2 g2 r2=>?_
 refine⟨by show 2<=sizeLine;decide,λp hp=>?_⟩
 have g3:=bJ.new g2.ok hp (.tup [v,w])
 exact kk _ _ _ (g.trans (g2.trans g3)) ⟨p,v,w,rfl,WT g2.ok hp md,Rp.mono (xQ (g2.trans g3) md) r1,Rp.mono (xQ g3 md) r2⟩
def lB(K:Frag)(al:Bool){A β:Type}[Rp K β](as:A->SL K)(f:A->Option β):Sp:=λvs H Q _ =>
 ∃a b Fa,Same Fa H/\f a=some b/\Ar Fa (as a) vs/\∀v H',Same H H'->rp K (if al=true then ext Fa H H' else dif H' H) v b->Q v H'
theorem zK{A:Type}{as:A->SL K}{f:A->Option β}{ma:Option A}(h:Ea B sl .hp ta as ma):Ex B sl md (Ig (lB K false as f) [] E0 ta) (ma.bind f):=λc hc F O H σ Q s kk=>by
 cases ma with
 |none=>cases hc
 |some a =>
  refine h a rfl F O H σ _ s λvs F' H' g r=>?_
  rw[append_nil]
  refine⟨a,c,H',.refl _,hc,r,λv H2 s2 r2=>?_⟩
  have g2:=g.ok.called s2
  refine kk v _ H2 (g.trans g2) ?_
  have r3:=Rp.mono (S5 (F:=F') g.ok.h0 s2) r2
  exact match md with
  |.nw=>r3
  |.fz=>Rp.mono aQ r3
  |.hp=>Rp.mono (aQ.trans g2.ok.fh) r3
end
def push{α:Type}(xs:List α)(a:α):Option (List α):=if xs.length<cap then some (xs++[a]) else none
def m6{α:Type}(xs:List α)(i:Int)(a:α):Option (List α):=(n7 xs.length i).bind λj=>some (xs.set j a)
noncomputable def aX(n:Int):Option LI:=if -(2^62)<=n/\n<2^62 then some ((aaz n.toNat).map ac0) else none
def yX{S α:Type}(step:S->α->Option S):List α->S->Option S
 |[],s=>some s
 |x::b,s=>(step s x).bind λa=>yX step b a
inductive Out(S β:Type)|nx (s:S)|rt (b:β)
def jR{S α β:Type}(step:S->α->Option (Out S β)):List α->S->Option (Out S β)
 |[],s=>some (.nx s)
 |x::a,s=>(step s x).bind λo=>match o with
  |.nx c=>jR step a c
  |.rt b=>some (.rt b)
def BJ{S:Type}(c:S->Option Bool)(a:S->Option S):Nat->S->Option S
 |0,_=>none
 |k+1,s=>(c s).bind λb=>if b=true then(a s).bind λd=>BJ c a k d else some s
def vJ{α β:Type}(c:α->Option Bool)(f:α->Option β):List α->Option (List β)
 |[]=>some []
 |x::a=>(c x).bind λb=>if b=true then(f x).bind λy=>(vJ c f a).bind λd=>some (y::d) else vJ c f a
noncomputable def Out.els{S β:Type}(o:Out S β)(f:S->Option β):Option β:=match o with
 |.nx s=>f s
 |.rt b=>some b
noncomputable def Out.aP{S a β:Type}(o:Out S β)(f:S->Option (Out a β)):Option (Out a β):=match o with
 |.nx s=>f s
 |.rt b=>some (.rt b)
theorem WW{S α:Type}(step:S->α->Option S):∀(xs ys:List α)(s:S),yX step (xs++ys) s=(yX step xs s).bind λs'=>yX step ys s'
 |[],ys,s=>rfl
 |x::xs,ys,s=>by
  show(step s x).bind _=((step s x).bind _).bind _
  cases step s x with
  |none=>rfl
  |some s'=>exact WW step xs ys s'
theorem zI0{S α:Type}{step:S->α->Option S}{xs:List α}{s g:S}(h:yX step xs s=some g){x:α}(j:xs[i]?=some x):∃a b,yX step (xs.take i) s=some a/\step a x=some b/\yX step (xs.take (i+1)) s=some b:=by
 have e:xs=xs.take (i+1)++xs.drop (i+1):=(take_append_drop _ _).symm
 have k:xs.take (i+1)=xs.take i++[x]:=by rw[take_add_one,j]<;>rfl
 rw[e,WW] at h
 cases q:yX step (xs.take (i+1)) s with
 |none=>rw[q] at h;cases h
 |some b =>
  have d:=q
  rw[k,WW] at d
  cases z:yX step (xs.take i) s with
  |none=>rw[z] at d;cases d
  |some a =>
   rw[z] at d
   have f:(step a x).bind (λl=>some l)=some b:=d
   refine⟨a,b,rfl,?_,rfl⟩
   cases w:step a x with
   |none=>rw[w] at f;cases f
   |some c=>rw[w] at f;exact f
section
variable{K:Frag}{B:Bs}{F H F' H' G:Hp}{O:Own}{sl sl2:SL K}{σ:St}{md:Md}{α β γ:Type}[Rp K α][Rp K β][Rp K γ]{t u v:TS}{te:TE}{m:Option α}{S S':Type}{al:Bool}
def Sg(B:Bs)(G:Hp)(sl:SL K)(σ:St)(H:Hp):Prop:=∃F O,Same G F/\At B sl F O H σ
def Rt(K:Frag){β:Type}[Rp K β](B:Bs)(al:Bool)(b:β)(v:V)(H':Hp):Prop:=Same B.H0 H'/\rp K (if al=true then ext B.Fa B.H0 H' else dif H' B.H0) v b
def Sn(B:Bs)(sl:SL K)(t:TS){S:Type}(L:S->SL K)(m:Option S):Prop :=
 ∀a,m=some a->∀(G:Hp)(D:Ends)(σ:St)(H:Hp),Sg B G sl σ H->(∀b H',Sg B G (L a) b H'->D.nx b H')->t D σ H
def SB(B:Bs)(sl:SL K)(t:TS)(al:Bool){β:Type}[Rp K β](m:Option β):Prop :=
 ∀b,m=some b->∀(G:Hp)(D:Ends)(σ:St)(H:Hp),Sg B G sl σ H->(∀v H',Rt K B al b v H'->D.rt v H')->t D σ H
def XE(B:Bs)(G:Hp)(al:Bool)(L:S->SL K)(D:Ends)(o:Out S β):Prop:=match o with
 |.nx s=>∀a H',Sg B G (L s) a H'->D.nx a H'
 |.rt b=>∀v H',Rt K B al b v H'->D.rt v H'
def Sx(B:Bs)(sl:SL K)(t:TS)(al:Bool){S β:Type}[Rp K β](L:S->SL K)(m:Option (Out S β)):Prop :=
 ∀o,m=some o->∀(G:Hp)(D:Ends)(σ:St)(H:Hp),Sg B G sl σ H->XE B G al L D o->t D σ H
theorem SB.of(h:SB B sl t al m)(q:m=m'):SB B sl t al m':=q▸h
theorem Sn.of(h:Sn B sl t L m)(q:m=m'):Sn B sl t L m':=q▸h
inductive Le:SL K->SL K->Prop
 |nil:Le [] []
 |eq {s:Slot K} {a b:SL K}:Le a b->Le (s::a) (s::b)
 |un {s:Slot K} {a b:SL K}:Le a b->Le (s::a) (.un::b)
 |fr {n:Bool} {α:Type} [Rp K α] {xs:List α} {a b:SL K}:Le a b->Le (.ow n xs::a) (.fz n xs::b)
 |old {α:Type} [Rp K α] {x:α} {a b:SL K}:Le a b->Le (.fz true x::a) (.fz false x::b)
 |fo {n:Bool} {α:Type} [Ob K α] {x:α} {a b:SL K}:Le a b->Le (.ob n x::a) (@Slot.fz K n (Ob.β K α) (Ob.vg) (Ob.val x)::b)
theorem Ok.sub(k:Ok B F O H)(s:Sublist a O):Ok B F a H:=⟨k.fh,k.h0,k.fa,λx b=>k.fo x (s.subset b),(s.map _).nodup k.nd⟩
theorem zZt(s:Sublist a O):Same (lo F O H) (lo F a H):=λb u e=>by
 unfold lo at e ⊢
 grind
theorem Ok.qP:∀(Oc:Own){F:Hp}{O:Own},Ok B F (P++(Oc++O)) H->∃F2,Same F F2/\Ok B F2 (P++O) H/\Same (lo F (P++(Oc++O)) H) (lo F2 (P++O) H)/\∀x∈Oc,F2 x.1=some x.2/\B.H0 x.1=none
 |[],F,O,k=>⟨F,.refl _,k,.refl _,λx hx=>(by cases hx)⟩
 | (p,o)::Oc,F,O,k=>by
  obtain⟨a1,a2,a3⟩:=k.one
  have sf:Same F (upd F p o):=au a1 _
  obtain⟨F2,s2,k2,l2,m2⟩:=Ok.qP Oc (k.freeze)
  refine⟨F2,sf.trans s2,k2,iG.trans l2,λx hx=>?_⟩
  rcases mem_cons.mp hx with e|hx
  ·subst e;exact⟨s2 _ _ zO,a2⟩
  ·exact m2 x hx
abbrev LeR(B:Bs)(P:Own)(H F:Hp)(sl2:SL K)(σ:St)(O:Own):Prop:=∃F' f,Same F F'/\Ok B F' (P++f) H/\Same (lo F (P++O) H) (lo F' (P++f) H)/\ak B F' (lo F' (P++f) H) H sl2 σ f
theorem ak.le(h:Le sl sl2):∀{F:Hp}{σ:St}{O:Own},Ok B F (P++O) H->ak B F (lo F (P++O) H) H sl σ O->LeR B P H F sl2 σ O:=by
 induction h generalizing P with
 |nil=>intro F σ O k h;cases h;exact⟨F,[],.refl _,k,.refl _,.nil⟩
 |eq _ ih =>
  intro F σ O k h
  cases h with
  |un h=>obtain⟨F',f,a,b,c,d⟩:=ih k h;exact⟨F',f,a,b,c,.un d⟩
  |fz r h=>obtain⟨F',f,a,b,c,d⟩:=ih k h;exact⟨F',f,a,b,c,.fz (Rp.mono (wH _ a) r) d⟩
  |hs r h=>obtain⟨F',f,a,b,c,d⟩:=ih k h;exact⟨F',f,a,b,c,.hs r d⟩
  |nu r h=>obtain⟨F',f,a,b,c,d⟩:=ih k h;exact⟨F',f,a,b,c,.nu (Rp.mono (wG c) r) d⟩
  |@ow _ _ _ _ _ _ O p g r h =>
   have e:P++(p,HO.lst g)::O=(P++[(p,HO.lst g)])++O:=by simp
   rw[e] at k h
   obtain⟨F',f,a,b,c,d⟩:=ih k h
   have q:(P++[(p,HO.lst g)])++f=P++(p,HO.lst g)::f:=by simp
   rw[q] at b c d
   rw[<-e] at c
   exact⟨F',_::f,a,b,c,.ow (r.imp λ_ _=>Rp.mono (wH _ a)) d⟩
  |@od _ _ _ _ _ O p g r h =>
   have e:P++(p,HO.dK g)::O=(P++[(p,HO.dK g)])++O:=by simp
   rw[e] at k h
   obtain⟨F',f,a,b,c,d⟩:=ih k h
   have q:(P++[(p,HO.dK g)])++f=P++(p,HO.dK g)::f:=by simp
   rw[q] at b c d
   rw[<-e] at c
   exact⟨F',_::f,a,b,c,.od (r.imp λ_ _ z=>⟨z.1,Rp.mono a z.2⟩) d⟩
  |@ob _ _ _ _ _ _ O i v r h =>
   rw[<-append_assoc] at k h
   obtain⟨F',f,a,b,c,d⟩:=ih k h
   rw[append_assoc] at b c d
   rw[append_assoc] at c
   exact⟨F',i++f,a,b,c,.ob (Ob.mono (wH _ a) r) d⟩
 |un _ ih =>
  intro F σ O k h
  cases h with
  |un h=>obtain⟨F',f,a,b,c,d⟩:=ih k h;exact⟨F',f,a,b,c,.un d⟩
  |fz r h=>obtain⟨F',f,a,b,c,d⟩:=ih k h;exact⟨F',f,a,b,c,.un d⟩
  |hs r h=>obtain⟨F',f,a,b,c,d⟩:=ih k h;exact⟨F',f,a,b,c,.un d⟩
  |nu r h=>obtain⟨F',f,a,b,c,d⟩:=ih k h;exact⟨F',f,a,b,c,.un d⟩
  |ow r h=>obtain⟨F',f,a,b,c,d⟩:=ih k.drop (h.mono (.refl _) jJ (.refl _));exact⟨F',f,a,b,jJ.trans c,.un d⟩
  |od r h=>obtain⟨F',f,a,b,c,d⟩:=ih k.drop (h.mono (.refl _) jJ (.refl _));exact⟨F',f,a,b,jJ.trans c,.un d⟩
  |@ob _ _ _ _ _ _ O i v r h =>
   have l:Sublist (P++O) (P++(i++O)):=Sublist.append (Sublist.refl P) (List.sublist_append_right i O)
   obtain⟨F',f,a,b,c,d⟩:=ih (k.sub l) (h.mono (.refl _) (zZt l) (.refl _))
   exact⟨F',f,a,b,(zZt l).trans c,.un d⟩
 |@fr n _ _ _ _ _ _ ih =>
  intro F σ O k h
  cases h with
  |@ow _ _ _ _ _ _ O p g r h =>
   obtain⟨I,A,a3⟩:=k.one
   have j:Same F (upd F p (.lst g)):=au I _
   obtain⟨F',f,a,b,c,d⟩:=ih k.freeze (h.mono j iG (.refl _))
   refine⟨F',f,j.trans a,b,iG.trans c,.fz ⟨p,g,rfl,?_,r.imp λ_ _=>Rp.mono (wH _ (j.trans a))⟩ d⟩
   cases n with
   |true=>exact(xK A).trans (a _ _ zO)
   |false=>exact a _ _ zO
 |old _ ih =>
  intro F σ O k h
  cases h with
  |fz r h=>obtain⟨F',f,a,b,c,d⟩:=ih k h;exact⟨F',f,a,b,c,.fz (Rp.mono (aQ.trans a) r) d⟩
 |@fo n _ _ _ _ _ _ ih =>
  intro F σ O k h
  cases h with
  |@ob _ _ _ _ _ _ O i v r h =>
   obtain⟨F2,o,y,s,C⟩:=Ok.qP i k
   obtain⟨F',f,a,b,c,d⟩:=ih y (h.mono o s (.refl _))
   refine⟨F',f,o.trans a,b,s.trans c,@ak.fz _ _ _ _ _ _ _ Ob.vg _ _ _ _ _ (Ob.mL (Ob.mono (wH _ (o.trans a)) r) λx D=>?_) d⟩
   obtain⟨w,E⟩:=C x D
   cases n with
   |true=>exact(xK E).trans (a _ _ w)
   |false=>exact a _ _ w
theorem Sg.le(h:Sg B G sl σ H)(l:Le sl sl2):Sg B G sl2 σ H:=by
 obtain⟨F,O,g,k,s⟩:=h
 obtain⟨F',c,a,b,_,d⟩:=ak.le (P:=[]) l k s
 exact⟨F',c,g.trans a,b,d⟩
theorem Sg.grow(g:Same G F)(h:At B sl F a H σ)(b:bJ B F H a F' H'):Sg B G sl σ H':=⟨F',a,g.trans b.ff,h.grow b⟩
theorem zW(L:S->SL K)(s:S)(h:Le sl (L s)):Sn B sl NP L (some s):=λa b G D σ H q k=>by cases b;exact k σ H (q.le h)
theorem zN{f:S->Option S'}(d:Sn B sl t L b)(h2:∀s,Sn B (L s) u L' (f s)):Sn B sl (ju t u) L' (b.bind f):=λa c G D σ H q k=>by
 cases b with
 |none=>cases c
 |some s=>exact d s rfl G _ σ H q λe H' g=>h2 s a c G D e H' g k
theorem zM{f:S->Option β}(d:Sn B sl t L b)(h2:∀s,SB B (L s) u al (f s)):SB B sl (ju t u) al (b.bind f):=λa c G D σ H q k=>by
 cases b with
 |none=>cases c
 |some s=>exact d s rfl G _ σ H q λe H' g=>h2 s a c G D e H' g k
theorem WX{f:S->Option β}(d:Sx B sl t al L e)(h2:∀s,SB B (L s) u al (f s)):SB B sl (ju t u) al (e.bind λo=>o.els f):=λa c G D σ H q k=>by
 cases e with
 |none=>cases c
 |some o =>
  cases o with
  |nx s=>exact d _ rfl G _ σ H q λh H' g=>h2 s a c G D h H' g k
  |rt b=>cases c;exact d _ rfl G { D with nx:=u D } σ H q k
theorem WY(L:S->SL K)(s:S)(h:Le sl (L s)):Sx B sl NP al L (some (.nx s):Option (Out S β)):=λa b G D σ H q k=>by cases b;exact k σ H (q.le h)
theorem Gg(k:Ok B F' O H')(n:Bool){v:V}{b:β}(r:rp K (reg B F' H' (cQ n)) v b)(a:n=!al):Rt K B al b v H':=by
 refine⟨k.h0,?_⟩
 cases al with
 |false=>subst a;exact Rp.mono (wG k.fh) r
 |true =>
  subst a
  refine Rp.mono (λb o h=>?_) r
  show ext B.Fa B.H0 H' b=some o
  unfold ext
  cases q:B.H0 b with
  |none=>exact k.fh b o h
  |some u =>
   rcases k.fa b o h with z|z
   ·exact z
   grind
theorem yB(h:Ex B sl (cQ !al) te m):SB B sl (ju (rB te) u) al m:=λb c G D σ H s k=>by
 obtain⟨F,O,g,a⟩:=s
 exact h b c F O H σ _ a λv F' H' d r=>k v H' (Gg d.ok (!al) r rfl)
theorem BK(h:F p=none):Same (dif F a) (dif (upd F p o) a):=wG (au h o)
theorem vh{n:Bool}{xs:List α}(i:Nat)(j:sl[i]?=some (.ow n xs))(o:n=!al):SB B sl (ju (rB (bL i)) u) al (some xs):=λb d G D σ H s k=>by
 cases d
 obtain⟨F,O,g,a⟩:=s
 obtain⟨O1,O2,p,f,rfl,e,l,_⟩:=a.2.lY j
 obtain⟨c,h,a3⟩:=a.1.one
 refine⟨_,e,k _ H (Gg a.1.freeze n ⟨p,f,rfl,?_,l.imp λ_ _=>Rp.mono ?_⟩ o)⟩
 ·cases n with
  |true=>exact(xK h).trans zO
  |false=>exact zO
 ·cases n with
  |true=>exact BK c
  |false=>exact au c _
theorem jy(hc:Et B sl c n)(h1:Sn B sl t L m1)(h2:Sn B sl u L m2):Sn B sl (Aq c t u) L (n.bind λb=>if b=true then m1 else m2):=λa ha G D σ H s k=>by
 cases n with
 |none=>cases ha
 |some b =>
  obtain⟨F,O,g,z⟩:=s
  refine hc b rfl F O H σ _ z λF' H' gr=>?_
  cases b with
  |true=>exact mY (h1 a (by simpa using ha) G D σ H' (Sg.grow g z gr) k)
  |false=>exact mX (h2 a (by simpa using ha) G D σ H' (Sg.grow g z gr) k)
theorem vD{c:TT}{n:Option Bool}{f e:Option β}(j:Et B sl c n)(i:SB B sl t al f)(h2:SB B sl u al e):SB B sl (ju (Aq c t NP) u) al (n.bind λb=>if b=true then f else e):=λa h G D σ H s k=>by
 cases n with
 |none=>cases h
 |some b =>
  obtain⟨F,O,g,z⟩:=s
  refine j b rfl F O H σ _ z λF' H' d=>?_
  cases b with
  |true=>exact mY (i a (by grind) G _ σ H' (Sg.grow g z d) k)
  |false=>exact mX (h2 a (by grind) G D σ H' (Sg.grow g z d) k)
theorem W0{c:TT}{n:Option Bool}{m1:Option β}{L:S->SL K}{m2:Option (Out S β)}(hc:Et B sl c n)(h1:SB B sl t al m1)(h2:Sx B sl u al L m2) :
  Sx B sl (ju (Aq c t NP) u) al L (n.bind λb=>if b=true then m1.bind λb=>some (.rt b) else m2):=λa ha G D σ H s k=>by
 cases n with
 |none=>cases ha
 |some b =>
  obtain⟨F,O,g,z⟩:=s
  refine hc b rfl F O H σ _ z λF' H' gr=>?_
  cases b with
  |true =>
   have e:=(show(m1.bind λb=>some (Out.rt b))=some a by simpa using ha)
   cases m1 with
   |none=>cases e
   |some b=>cases e;exact mY (h1 b rfl G _ σ H' (Sg.grow g z gr) k)
  |false=>exact mX (h2 a (by simpa using ha) G D σ H' (Sg.grow g z gr) k)
theorem Sg.set{s:Slot K}{i:Nat}{n:Bool}{a:α}{v:V}{O:Own}(g:Same G F)(h:At B sl F O H σ)(b:sl[i]?=some s)(c:dz s=false)(r:rp K (reg B F H (cQ n)) v a):Sg B G (sl.set i (.fz n a)) (σ.set i (some v)) H :=
 ⟨F,O,g,h.1,h.2.put (λ_ _ _ z=>.fz r z) b c⟩
theorem yF(n:Bool)(i:Nat)(d:sl[i]?=some s)(e:dz s=false)(h:Ex B sl (cQ n) te m):Sn B sl (fH te (mR i)) (λa=>sl.set i (.fz n a)) m:=λa c G D σ H s k=>by
 obtain⟨F,O,g,z⟩:=s
 exact h a c F O H σ _ z λv F' H' b r=>k _ _ (Sg.set (g.trans b.ff) (z.grow b) d e r)
theorem LQ(h:Ex B sl md te m):Sn B sl (tY te) (λ_=>sl) m:=λa b G D σ H s k=>by
 obtain⟨F,O,g,z⟩:=s
 exact h a b F O H σ _ z λv F' H' c r=>k _ _ (Sg.grow g z c)
theorem At.own{s:Slot K}{i:Nat}{n:Bool}{xs:List α}{vs:List V}{p:Addr}(h:At B sl F O H σ)(e:sl[i]?=some s)(d:dz s=false)(a:H p=none)(r:A2 (rp K (reg B F H (cQ n))) vs xs) :
  ∃b,At B (sl.set i (.ow n xs)) F b (upd H p (.lst vs)) (σ.set i (some (.ref p))):=by
 obtain⟨k,f⟩:=h
 obtain⟨O1,O2,rfl,z⟩:=f.own (c:=(p,.lst vs)) (λ_ _ _ z=>.ow r z) e d
 exact⟨_,k.add a,z.mono (.refl _) (WL a) (au a _)⟩
theorem uX{s:Slot K}{m:Option (List α)}(n:Bool)(i:Nat)(d:sl[i]?=some s)(e:dz s=false)(h:Eo B sl (cQ n) te m):Sn B sl (fH te (mR i)) (λa=>sl.set i (.ow n a)) m:=λa f G D σ H s k=>by
 obtain⟨F,O,g,z⟩:=s
 refine h a f F O H σ _ z λp vs F' H' b l r=>k _ _ ?_
 obtain⟨c,j⟩:=(z.grow b).own d e l r
 exact⟨F',c,g.trans b.ff,j⟩
theorem W2(i:Nat)(f:sl[i]?=some s)(e:dz s=false):Sn B sl (fH Z9 (mR i)) (λ_=>sl.set i (.od ([]:List (Key×α)))) (some ()):=λa ha G D σ H s k=>by
 obtain⟨F,O,g,j,d⟩:=s
 intro p b
 refine k _ _ ?_
 obtain⟨O1,O2,rfl,h⟩:=d.own (s':=.od ([]:List (Key×α))) (c:=(p,.dK [])) (λ_ _ _ z=>.od trivial z) f e
 exact⟨F,_,g,j.add b,h.mono (.refl _) (WL b) (au b _)⟩
theorem Gh{α:Type}:∀{l:List α}{i:Nat}{x:α},l[i]?=some x->l.set i x=l
 |[],_,_,h=>by simp at h
 |_::_,0,_,h=>by simp at h;subst h;rfl
 |_::l,i+1,_,h=>congrArg _ (Gh (l:=l) (i:=i) (by simpa using h))
theorem O4{P:Slot K->Bool}(hs:P s=true):∀{l:SL K}{i:Nat},l.all P=true->(l.set i s).all P=true
 |[],_,h=>h
 |_::_,0,h=>by grind
 |_::l,i+1,h=>by grind
theorem At.chg{i:Nat}{n:Bool}{xs:List α}(h:At B sl F O H σ)(f:sl[i]?=some (.ow n xs))(d:sl.all (λs=>!cG s)=true):∃p vs,σ[i]?=some (some (.ref p))/\H p=some (.lst vs)/\A2 (rp K (reg B F H (cQ n))) vs xs /\
  ∀(ws:List V)(ys:List α),A2 (rp K (reg B F H (cQ n))) ws ys->∃b,At B (sl.set i (.ow n ys)) F b (upd H p (.lst ws)) σ:=by
 obtain⟨k,c⟩:=h
 obtain⟨O1,O2,p,vs,rfl,a,g,e,_⟩:=c.lY f
 refine⟨p,vs,a,k.one.2.2,g,λws ys r=>⟨_,k.chg (.lst ws),?_⟩⟩
 have z:=e (.ow n ys) (some (.ref p)) (p,.lst ws) λ_ _ _ z=>.ow r z
 rw[Gh a] at z
 exact z.mut zZu (O4 rfl d)
theorem At.BL(h:At B sl F O H σ)(g:sl[i]?=some (.od kvs))(d:sl.all (λs=>!cG s)=true):∃p ks,σ[i]?=some (some (.ref p))/\H p=some (.dK ks)/\A2 (λ(x:Key×V) (y:Key×α)=>x.1=y.1/\rp K F x.2 y.2) ks kvs /\
  ∀(ws:List (Key×V))(ys:List (Key×α)),A2 (λ(x:Key×V) (y:Key×α)=>x.1=y.1/\rp K F x.2 y.2) ws ys->∃b,At B (sl.set i (.od ys)) F b (upd H p (.dK ws)) σ:=by
 obtain⟨k,c⟩:=h
 obtain⟨O1,O2,p,e,rfl,a,j,f,_⟩:=c.Ge g
 refine⟨p,e,a,k.one.2.2,j,λws ys r=>⟨_,k.chg (.dK ws),?_⟩⟩
 have z:=f (.od ys) (some (.ref p)) (p,.dK ws) λ_ _ _ z=>.od r z
 rw[Gh a] at z
 exact z.mut zZu (O4 rfl d)
theorem xH(i:Nat)(o:sl[i]?=some (.ow n xs))(x:sl.all (λs=>!cG s)=true)(h:Ex B sl (cQ n) te m) :
  Sn B sl (tY (z6 K "list" Iz (bL i) (xI te aY))) (λys=>sl.set i (.ow n ys)) (m.bind λa=>push xs a):=λys y G D σ H s k=>by
 cases m with
 |none=>cases y
 |some a =>
  have b:=y
  unfold push at b
  split at b
  case isFalse=>cases b
  rename_i C
  cases b
  obtain⟨F,O,g,z⟩:=s
  obtain⟨p,vs,q,I,h3,_⟩:=z.chg o x
  refine⟨_,q,.inl ⟨rfl,_,aW.of I⟩,?_⟩
  refine h a rfl F O H σ _ z λv F' H' w r=>?_
  obtain⟨p',c,j,f,d,l⟩:=(z.grow w).chg o x
  have e:=q.symm.trans j
  cases e
  obtain⟨A,E⟩:=l (c++[v]) (xs++[a]) (d.snoc r)
  exact⟨p,c,v,rfl,rfl,f,rG (by rw[d.len];exact C),k _ _ ⟨F',A,g.trans w.ff,E⟩⟩
theorem S9(i:Nat)(hs:sl[i]?=some (.ow n xs))(hh:sl.all (λs=>!cG s)=true)(hv:Ex B sl (cQ n) te m)(hi:Ex B sl .hp ti mi) :
  Sn B sl (fH te (HJ (bL i) ti Ol)) (λys=>sl.set i (.ow n ys)) (m.bind λa=>mi.bind λk=>m6 xs k a):=λys ha G D σ H s k=>by
 cases m with
 |none=>cases ha
 |some a =>
  cases mi with
  |none=>cases ha
  |some ix =>
   have ha':m6 xs ix a=some ys:=ha
   obtain⟨F,O,g,z⟩:=s
   refine hv a rfl F O H σ _ z λv F' H' gr r=>?_
   obtain⟨p,vs,h1,h2,h3,_⟩:=(z.grow gr).chg hs hh
   refine⟨_,h1,?_⟩
   refine hi ix rfl F' O H' σ _ (z.grow gr) λw F2 H2 LR rw=>?_
   cases rw
   obtain⟨p',vs',h1',h2',h3',h4'⟩:=((z.grow gr).grow LR).chg hs hh
   have e:=h1.symm.trans h1'
   cases e
   unfold m6 at ha'
   cases ej:n7 xs.length ix with
   |none=>rw[ej] at ha';cases ha'
   |some jj =>
    rw[ej] at ha'
    cases ha'
    obtain⟨O',z'⟩:=h4' (vs'.set jj v) (xs.set jj a) (h3'.set (Rp.mono (xQ LR (cQ n)) r) jj)
    exact⟨p,vs',ix,jj,rfl,rfl,h2',by rw[h3'.len,ej],k _ _ ⟨F2,O',(g.trans gr.ff).trans LR.ff,z'⟩⟩
end
section
variable{K:Frag}{B:Bs}{F H F' H' G:Hp}{O:Own}{sl sl2:SL K}{σ:St}{md:Md}{α β γ:Type}[Rp K α][Rp K β][Rp K γ]{tb u v:TS}{te:TE}{m:Option α}{S S':Type}{al n:Bool}
theorem S_{S α β:Type}(step:S->α->Option (Out S β)):∀(xs ys:List α)(s:S),jR step (xs++ys) s=(jR step xs s).bind λo=>o.aP λs'=>jR step ys s'
 |[],ys,s=>rfl
 |x::xs,ys,s=>by
  show(step s x).bind _=((step s x).bind _).bind _
  cases step s x with
  |none=>rfl
  |some o =>
   cases o with
   |nx s'=>exact S_ step xs ys s'
   |rt b=>rfl
theorem zRj{S α β:Type}{step:S->α->Option (Out S β)}{xs:List α}{s a:S}{x:α}(h:jR step (xs.take i) s=some (.nx a))(c:xs[i]?=some x):jR step (xs.take (i+1)) s=step a x:=by
 have b:xs.take (i+1)=xs.take i++[x]:=by rw[take_add_one,c]<;>rfl
 rw[b,S_,h]
 show(step a x).bind _=step a x
 cases step a x with
 |none=>rfl
 |some o=>cases o<;>rfl
theorem zUx{S α β:Type}{step:S->α->Option (Out S β)}{xs:List α}{s:S}{o:Out S β}{b:β}(h:jR step xs s=some o)(a:jR step (xs.take i) s=some (.rt b)):o=.rt b:=by
 rw[<-take_append_drop i xs,S_,a] at h
 cases h
 rfl
theorem zRk{S α β:Type}{step:S->α->Option (Out S β)}{xs:List α}{s:S}{o:Out S β}(i:Nat)(h:jR step xs s=some o):∃a,jR step (xs.take i) s=some a:=by
 rw[<-take_append_drop i xs,S_] at h
 cases q:jR step (xs.take i) s with
 |none=>grind
 |some a=>grind
def Yl(K:Frag)(B:Bs)(F':Hp)(n:Bool)(J:It){α:Type}[Rp K α](xs:List α):Prop:=∀(i:Nat)(c:Hp)(f:Own)(b:Hp),Same F' c->Ok B c f b ->
 (xs.length<=i->J.stop i b)/\∀x,xs[i]?=some x->J.go i b/\∀v d,J.Lr i b v d->∃e,bJ B c b f e d/\rp K (reg B e d (cQ n)) v x
def Ei(B:Bs)(sl:SL K)(n:Bool)(b:TI){α:Type}[Rp K α](mi:Option (List α)):Prop :=
 ∀a,mi=some a->∀(F:Hp)(O:Own)(H:Hp)(σ:St)(R:It->Hp->Prop),At B sl F O H σ->(∀(J:It)(F' H':Hp),bJ B F H O F' H'->Yl K B F' n J a->R J H')->b σ H R
def Tg(B:Bs)(sl:SL K)(n:Bool)(g:TG){α:Type}[Rp K α](L:α->SL K):Prop :=
 ∀(v:V)(x:α)(F:Hp)(O:Own)(H:Hp)(σ:St)(Q:St->Hp->Prop),At B sl F O H σ->rp K (reg B F H (cQ n)) v x->(∀b,At B (L x) F O H b->Q b H)->g v σ H Q
theorem yG(i:Nat)(b:sl[i]?=some s)(c:dz s=false):Tg B sl n (mR i) (λx:α=>sl.set i (.fz n x)):=λv x F O H σ Q a r k=>k _ ⟨a.1,a.2.put (λ_ _ _ z=>.fz r z) b c⟩
theorem BP(k:Ok B F O H)(h:reg B F H (cQ n) p=some o):H p=some o:=rE k n p o h
theorem uC(i j:Nat)(l:sl[i]?=some s)(g:dz s=false)(d:∀x:Slot K,(sl.set i x)[j]?=some s')(c:dz s'=false) :
  Tg B sl n (HF K 2 (tZ (mR i) (tZ (mR j) NT))) (λx:α×β=>(sl.set i (.fz n x.1)).set j (.fz n x.2)):=λv x F O H σ Q a r k=>by
 obtain⟨p,e,b,rfl,f,o,h⟩:=r
 refine⟨p,[e,b],rfl,.inl (.inl (BP a.1 f)),rfl,e,[b],rfl,b,[],rfl,rfl,?_⟩
 exact k _ ⟨a.1,(a.2.put (λ_ _ _ z=>.fz o z) l g).put (λ_ _ _ z=>.fz h z) (d _) c⟩
theorem xT{L:S->SL K}{A:S->α->SL K}{step:S->α->Option S}(f:S)(h0:Le sl (L f))(R:Ei B (L f) n I mi)(hg:∀s,Tg B (L s) n g (A s))(hb:∀s x,Sn B (A s x) tb L (step s x)) :
  Sn B sl (ud I g tb) L (mi.bind λxs=>yX step xs f):=λU b G D σ H q k=>by
 cases mi with
 |none=>cases b
 |some xs =>
  have b:yX step xs f=some U:=b
  obtain⟨F,O,Y,a⟩:=q.le h0
  refine R xs rfl F O H σ _ a λJ F' H' y Z=>?_
  refine⟨λi m σ H=>m=xs.length-i/\i<=xs.length/\∃s,yX step (xs.take i) f=some s/\Sg B F' (L s) σ H,⟨xs.length,rfl,aa5 _,f,rfl,F',O,.refl _,a.grow y⟩,?_⟩
  rintro i m σ H ⟨rfl,hil,s,o,E,h,j,l⟩
  obtain⟨y1,y2⟩:=Z i E h H j l.1
  by_cases d:i<xs.length
  ·obtain⟨M,Q⟩:=y2 xs[i] (aam d)
   obtain⟨s',c,t,X,N⟩:=zI0 b (aam d)
   rw[o] at t
   cases t
   refine .inr ⟨M,Sg B F' (L c),λw H' z=>⟨xs.length-(i+1),by lia,rfl,d,c,N,z⟩,λv p P=>?_⟩
   obtain⟨r,C,r3⟩:=Q v p P
   exact hg s v xs[i] r h p σ _ (l.grow C) r3 λw T=>hb s xs[i] c X F' _ w p ⟨r,h,j.trans C.ff,T⟩ λσ2 H2 z=>z
  ·have e:i=xs.length:=by lia
   subst e
   rw[take_length,b] at o
   cases o
   exact .inl ⟨y1 (aao _),k σ H ⟨E,h,(Y.trans y.ff).trans j,l⟩⟩
theorem W3{L:S->SL K}{Lx:S->α->SL K}{step:S->α->Option (Out S β)}(s0:S)(h0:Le sl (L s0))(hi:Ei B (L s0) n wi mi)(hg:∀s,Tg B (L s) n g (Lx s))(hb:∀s x,Sx B (Lx s x) tb al L (step s x)) :
  Sx B sl (ud wi g tb) al L (mi.bind λxs=>jR step xs s0):=λo ho G D σ H q k=>by
 cases mi with
 |none=>cases ho
 |some xs =>
  have ho:jR step xs s0=some o:=ho
  obtain⟨F,O,g0,a⟩:=q.le h0
  refine hi xs rfl F O H σ _ a λJ F' H' gr yl=>?_
  refine⟨λi m σ H=>m=xs.length-i/\i<=xs.length/\∃s,jR step (xs.take i) s0=some (.nx s)/\Sg B F' (L s) σ H,⟨xs.length,rfl,aa5 _,s0,rfl,F',O,.refl _,a.grow gr⟩,?_⟩
  rintro i m σ H ⟨rfl,hil,s,hs,F2,O2,sf,a2⟩
  obtain⟨y1,y2⟩:=yl i F2 O2 H sf a2.1
  by_cases hlt:i<xs.length
  ·obtain⟨go,y3⟩:=y2 xs[i] (aam hlt)
   have e2:=zRj hs (aam hlt)
   obtain⟨o',e3⟩:=zRk (i+1) ho
   refine .inr ⟨go,λσ H=>∃s',o'=.nx s'/\Sg B F' (L s') σ H,λσ' H' ⟨s',e,z⟩=>⟨xs.length-(i+1),by omega,rfl,hlt,s',by rw[e3,e],z⟩,λv H3 yd=>?_⟩
   obtain⟨F3,g3,r3⟩:=y3 v H3 yd
   refine hg s v xs[i] F3 O2 H3 σ _ (a2.grow g3) r3 λσ' a'=>hb s xs[i] o' (by rw[<-e2,e3]) F' _ σ' H3 ⟨F3,O2,sf.trans g3.ff,a'⟩ ?_
   cases o' with
   |nx s'=>exactλσ2 H2 z=>⟨s',rfl,z⟩
   |rt b =>
    have:=zUx ho e3
    subst this
    exact k
  ·have e:i=xs.length:=by omega
   subst e
   rw[take_length,ho] at hs
   cases hs
   exact .inl ⟨y1 (aao _),k σ H ⟨F2,O2,(g0.trans gr.ff).trans sf,a2⟩⟩
theorem zOr{L:S->SL K}{cM:S->Option Bool}{bM:S->Option S}(fuel:Nat)(s0:S)(h0:Le sl (L s0))(hc:∀s,Et B (L s) c (cM s))(hb:∀s,Sn B (L s) tb L (bM s)):Sn B sl (Zx c tb) L (BJ cM bM fuel s0):=λs1 hs1 G D σ H q k=>by
 refine⟨λm σ H=>∃s,BJ cM bM m s=some s1/\Sg B G (L s) σ H,⟨fuel,s0,hs1,q.le h0⟩,?_⟩
 rintro m σ H ⟨s,hs,F,O,g,a⟩
 cases m with
 |zero=>cases hs
 |succ m =>
  have hs:((cM s).bind λb=>if b=true then(bM s).bind λs'=>BJ cM bM m s' else some s)=some s1:=hs
  cases e:cM s with
  |none=>rw[e] at hs;cases hs
  |some b =>
   rw[e] at hs
   refine hc s b e F O H σ _ a λF' H' gr=>?_
   cases b with
   |true =>
    have hs:((bM s).bind λs'=>BJ cM bM m s')=some s1:=by simpa using hs
    cases e2:bM s with
    |none=>rw[e2] at hs;cases hs
    |some s' =>
     rw[e2] at hs
     exact mY ⟨Sg B G (L s'),λσ' H' z=>⟨m,ab9 _,s',hs,z⟩,hb s s' e2 G _ σ H' (Sg.grow g a gr) λ_ _ z=>z⟩
   |false =>
    have hs:some s=some s1:=by simpa using hs
    cases hs
    exact mX (k σ H' (Sg.grow g a gr))
theorem yT{mi:Option (List α)}(h:Ex B sl (cQ n) te mi):Ei B sl n (Lw K te) mi:=λt d F O H σ R a k=>by
 refine h t d F O H σ _ a λv F' H' j r=>?_
 obtain⟨p,b,rfl,c,q⟩:=r
 refine⟨p,rfl,⟨b,aW.of (rE j.ok n p _ c)⟩,k _ F' H' j λi s O2 C l g=>?_⟩
 have f:aW K C p b:=aW.of (g.fh _ _ (l _ _ (by cases n with|true=>exact aQ _ _ c|false=>exact c)))
 refine⟨λz=>⟨b,f,by rw[q.len];exact z⟩,λx d=>?_⟩
 obtain⟨w,o,D⟩:=q.at2 d
 refine⟨⟨b,w,f,o⟩,λv H3 A=>?_⟩
 obtain⟨e,y⟩:=A
 subst e
 have:=(o.symm.trans (y b f))
 cases this
 exact⟨s,.refl g,Rp.mono (wH n l) D⟩
theorem W4{k i:Nat}{x:Int}(h:((aaz k).map ac0)[i]?=some x):i<k/\x=i:=by
 grind
theorem vC(h:Ex B sl .hp te mi):Ei B sl n (FT (xI te aY)) (mi.bind aX):=λxs hx F O H σ R a k=>by
 cases mi with
 |none=>cases hx
 |some j =>
  have hx:aX j=some xs:=hx
  unfold aX at hx
  split at hx
  case isFalse=>cases hx
  rename_i hb
  cases hx
  refine h j rfl F O H σ _ a λv F' H' gr r=>?_
  cases r
  refine⟨j,rfl,hb.1,hb.2,k _ F' H' gr λi F2 O2 H2 sf k2=>⟨λhl=>?_,λx hx=>?_⟩⟩
  ·rw[length_map,length_range] at hl;exact hl
  ·obtain⟨h1,rfl⟩:=W4 hx
   refine⟨h1,λv H3 yd=>?_⟩
   obtain⟨rfl,rfl⟩:=yd
   exact⟨F2,.refl k2,by show V.int (0+(i:Int))=V.int i;rw[Int.zero_add]⟩
def jA{α:Type}(xs:List α):List (Int×α):=((aaz xs.length).map ac0).zip xs
theorem O7{α:Type}{xs:List α}{i:Nat}{x:Int×α}(h:(jA xs)[i]?=some x):x.1=i/\xs[i]?=some x.2:=by
 unfold jA at h
 rw[List.getElem?_zip_eq_some] at h
 exact⟨(W4 h.1).2,h.2⟩
theorem Tc{α:Type}(xs:List α):(jA xs).length=xs.length:=by unfold jA;simp
theorem Jb{mi:Option (List α)}(h:Ex B sl (cQ n) te mi):Ei B sl n (vd K (xI te aY)) (mi.bind λxs=>some (jA xs)):=λxs c F O H σ R a k=>by
 cases mi with
 |none=>cases c
 |some z =>
  cases(c)
  refine h z rfl F O H σ _ a λv F' H' l r=>?_
  obtain⟨p,b,rfl,f,s⟩:=r
  refine⟨p,rfl,⟨b,aW.of (rE l.ok n p _ f)⟩,k _ F' H' l λi F2 O2 I g d=>?_⟩
  have e:aW K I p b:=aW.of (d.fh _ _ (g _ _ (by cases n with|true=>exact aQ _ _ f|false=>exact f)))
  refine⟨λD=>⟨b,e,by rw[s.len,<-Tc];exact D⟩,λx c=>?_⟩
  obtain⟨C,E⟩:=O7 c
  obtain⟨w,q,A⟩:=s.at2 E
  refine⟨⟨b,w,e,q⟩,λv H3 J=>?_⟩
  obtain⟨t,x',rfl,o,rfl,y⟩:=J
  have:=(q.symm.trans (y b e))
  cases this
  have j:=bJ.new d o (.tup [.int i,w])
  refine⟨_,j,t,.int i,w,rfl,?_,?_,Rp.mono (wH n (g.trans j.ff)) A⟩
  ·exact WT d o (cQ n)
  ·rw[C];rfl
def xG{α β:Type}(c:α->Option Bool)(f:α->Option β)(xs:List α):Option (List β):=if xs.length<cap then vJ c f xs else none
theorem Td{α β:Type}(c:α->Option Bool)(f:α->Option β):∀(xs ys:List α),vJ c f (xs++ys)=(vJ c f xs).bind λa=>(vJ c f ys).bind λb=>some (a++b)
 |[],ys=>by
  rw[List.nil_append]
  show vJ c f ys=(vJ c f ys).bind λb=>some ([]++b)
  cases vJ c f ys<;>rfl
 |x::xs,ys=>by
  show(c x).bind _=((c x).bind _).bind _
  cases c x with
  |none=>rfl
  |some b =>
   cases b with
   |true =>
    show(f x).bind _=((f x).bind _).bind _
    cases f x with
    |none=>rfl
    |some y =>
     show(vJ c f (xs++ys)).bind _=((vJ c f xs).bind _).bind _
     rw[Td c f xs ys]
     cases vJ c f xs with
     |none=>rfl
     |some a =>
      show((vJ c f ys).bind _).bind _=(vJ c f ys).bind _
      cases vJ c f ys<;>rfl
   |false=>exact Td c f xs ys
theorem W5{α β:Type}(c:α->Option Bool)(f:α->Option β):∀{xs:List α}{ys:List β},vJ c f xs=some ys->ys.length<=xs.length
 |[],ys,h=>by cases h;exact aao _
 |x::xs,ys,h=>by
  have h:((c x).bind λb=>if b=true then(f x).bind λy=>(vJ c f xs).bind λys=>some (y::ys) else vJ c f xs)=some ys:=h
  cases e:c x with
  |none=>rw[e] at h;cases h
  |some b =>
   rw[e] at h
   cases b with
   |true =>
    have h:((f x).bind λy=>(vJ c f xs).bind λys=>some (y::ys))=some ys:=by simpa using h
    cases e2:f x with
    |none=>rw[e2] at h;cases h
    |some y =>
     rw[e2] at h
     cases e3:vJ c f xs with
     |none=>rw[e3] at h;cases h
     |some zs =>
      rw[e3] at h
      cases h
      exact acd (W5 c f e3)
   |false =>
    have h:vJ c f xs=some ys:=by simpa using h
    exact Nat.le_succ_of_le (W5 c f h)
theorem zRs{α β:Type}{c:α->Option Bool}{f:α->Option β}{xs:List α}{zs:List β}(i:Nat)(h:vJ c f xs=some zs):∃ys,vJ c f (xs.take i)=some ys:=by
 rw[<-take_append_drop i xs,Td] at h
 cases q:vJ c f (xs.take i) with
 |none=>grind
 |some o'=>grind
theorem zRt{α β:Type}{c:α->Option Bool}{f:α->Option β}{xs:List α}{zs ys:List β}{x:α}(h:vJ c f (xs.take (i+1))=some zs)(d:vJ c f (xs.take i)=some ys)(g:xs[i]?=some x) :
  (c x=some false/\zs=ys)\/∃y,c x=some true/\f x=some y/\zs=ys++[y]:=by
 have a:xs.take (i+1)=xs.take i++[x]:=by rw[take_add_one,g]<;>rfl
 rw[a,Td,d] at h
 have h:(((c x).bind λb=>if b=true then(f x).bind λy=>some [y] else some []).bind λb=>some (ys++b))=some zs:=h
 cases e:c x with
 |none=>rw[e] at h;cases h
 |some b =>
  rw[e] at h
  cases b with
  |true =>
   have h:(((f x).bind λy=>some [y]).bind λb=>some (ys++b))=some zs:=by simpa using h
   cases a:f x with
   |none=>rw[a] at h;cases h
   |some y=>rw[a] at h;cases h;exact .inr ⟨y,rfl,rfl,rfl⟩
  |false =>
   have h:some (ys++[])=some zs:=by simpa using h
   rw[append_nil] at h
   cases h
   exact .inl ⟨rfl,rfl⟩
abbrev O8:Slot K->Slot K
 |.un=>.un
 |@Slot.fz _ n _ i a=>@Slot.fz _ n _ i a
 |@Slot.hs _ _ i a=>@Slot.hs _ _ i a
 |@Slot.nu _ _ i a=>@Slot.hs _ _ i a
 |@Slot.ow _ _ _ i b=>@Slot.hs _ _ _ b
 |@Slot.od _ _ _ _=>.un
 |@Slot.ob _ _ _ _ _=>.un
theorem bJ.lift(k:Ok B F O H)(g:bJ B F H [] F' H'):bJ B F H O F' H' :=
 ⟨g.ff,g.hh,⟨g.ok.fh,g.ok.h0,g.ok.fa,λx b=>by
  obtain⟨a,c,d⟩:=k.fo x b
  exact⟨g.nw _ a (by grind),c,g.hh _ _ d⟩,k.nd⟩,g.nw⟩
theorem Ok.nil(k:Ok B F O H):Ok B F [] H:=⟨k.fh,k.h0,k.fa,λx a=>(by cases a),(by simp)⟩
theorem ak.one(a:At B sl F O H σ)(L:Hp)(j:Nat)(f:sl[j]?=some s):∀{e:SL K}{g:St},ak B F L H e g []->ak B F L H (O8 s::e) ((σ[j]?).getD none::g) []:=λ{e g} h=>by
 cases s with
 |un=>exact .un h
 |fz n b=>obtain⟨v,c,d⟩:=a.2.n_ f;rw[c];exact .fz d h
 |hs b=>obtain⟨v,c,d⟩:=a.2.Ox f;rw[c];exact .hs d h
 |nu b=>obtain⟨v,c,d⟩:=a.2.jQ f;rw[c];exact .hs (Rp.mono (aQ.trans S6) d) h
 |ow n xs =>
  obtain⟨k,i⟩:=a
  obtain⟨O1,O2,p,l,rfl,c,d,_⟩:=i.lY f
  rw[c]
  exact .hs ⟨p,l,rfl,k.one.2.2,d.imp λ_ _=>Rp.mono (rE k n)⟩ h
 |od kvs=>exact .un h
 |ob n a=>exact .un h
def Jc(sl:SL K)(n:Nat)(ix:List Nat):SL K:=replicate n .un++ix.map λj=>O8 ((sl[j]?).getD .un)
theorem BR(a:At B sl F O H σ)(L:Hp)(n:Nat):∀(ix:List Nat),(∀j∈ix,j<sl.length)->ak B F L H (Jc sl n ix) (jO σ n ix) []:=λix b=>by
 unfold Jc jO
 induction n with
 |zero =>
  induction ix with
  |nil=>exact .nil
  |cons j ix ih =>
   have c:=b j mem_cons_self
   have d:=aam c
   have z:=ak.one a L j d (ih λk e=>b k (mem_cons_of_mem _ e))
   grind
 |succ n ih=>exact .un ih
inductive pR:SL K->SL K->Prop
 |nil:pR [] []
 |eq {s:Slot K} {a b:SL K}:pR a b->pR (s::a) (s::b)
 |un {s:Slot K} {a b:SL K}:pR a b->pR (s::a) (.un::b)
theorem ak.le1(l:pR sl sl2):∀{σ:St}{O:Own},ak B F L H sl σ O->O=[]->ak B F L H sl2 σ []:=by
 induction l with
 |nil=>grind
 |eq _ ih =>
  intro σ O h e
  cases h with
  |un h=>exact .un (ih h e)
  |fz r h=>exact .fz r (ih h e)
  |hs r h=>exact .hs r (ih h e)
  |nu r h=>exact .nu r (ih h e)
  |ow r h=>cases e
  |od r h=>cases e
  |ob r h =>
   obtain⟨a,b⟩:=List.append_eq_nil_iff.mp e
   subst a
   exact .ob r (ih h b)
 |un _ ih =>
  intro σ O h e
  cases h with
  |un h=>exact .un (ih h e)
  |fz r h=>exact .un (ih h e)
  |hs r h=>exact .un (ih h e)
  |nu r h=>exact .un (ih h e)
  |ow r h=>cases e
  |od r h=>cases e
  |ob r h=>exact .un (ih h (List.append_eq_nil_iff.mp e).2)
theorem ak.le0(l:pR sl sl2)(h:ak B F L H sl σ []):ak B F L H sl2 σ []:=h.le1 l rfl
theorem xJ{c:α->Option Bool}{f:α->Option β}{ix:List Nat}(Z:(ix.all λj=>decide (j<sl.length))=true)(hI:gG=Jc sl no ix)(hi:Ei B sl n wi mi)(hg:Tg B gG n g Lx)(hc:∀x,Et B (Lx x) tc (c x))(he:∀x,Ex B (Lx x) md te (f x))(hle:∀x,pR (Lx x) gG) :
  Eo B sl md (SQ no ix wi g tc te) (mi.bind λxs=>xG c f xs):=λzs r F O H σ Q a k=>by
 cases mi with
 |none=>cases r
 |some xs =>
  have r:xG c f xs=some zs:=r
  unfold xG at r
  split at r
  case isFalse=>cases r
  rename_i N
  have hcl:=rG N
  refine hi xs rfl F O H σ _ a λJ F' H' gr yl=>?_
  have a':=a.grow gr
  refine⟨λi m D A d=>m=xs.length-i/\i<=xs.length/\∃(h:Hp)(ws:List β),vJ c f (xs.take i)=some ws/\bJ B F' H' O h d/\ak B h (lo h [] d) d gG A []/\A2 (rp K (reg B h d md)) D ws,
   ⟨xs.length,rfl,aa5 _,F',[],rfl,.refl a'.1,?_,trivial⟩,?_⟩
  ·rw[hI]
   exact BR a' _ no ix λj hj=>by simpa using(all_eq_true.mp Z) j hj
  rintro i m D A d ⟨rfl,hil,h,ws,P,X,s2,U⟩
  have hyl:D.length<=xs.length:=by
   rw[U.len]
   exact aa0 (W5 c f P) (by rw[length_take];lia)
  obtain⟨y1,y2⟩:=yl i h O d X.ff X.ok
  by_cases t:i<xs.length
  ·obtain⟨go,y3⟩:=y2 xs[i] (aam t)
   obtain⟨E,M⟩:=zRs (i+1) r
   refine .inr ⟨go,by lia,λD A d=>∃(h:Hp),bJ B F' H' O h d/\ak B h (lo h [] d) d gG A []/\A2 (rp K (reg B h d md)) D E,(by rintro ys' σ' H' ⟨z,I,L,z3⟩;exact⟨xs.length-(i+1),by lia,rfl,t,z,E,M,I,L,z3⟩),λv C yd=>?_⟩
   obtain⟨z,b,r3⟩:=y3 v C yd
   have vm:=X.trans b
   have at3:At B gG z [] C A:=⟨b.ok.nil,s2.mono b.ff (zUi ⟨b.ff,b.hh,b.ok.nil,b.nw⟩) b.hh⟩
   refine hg v xs[i] z [] C A _ at3 r3 λT R=>?_
   have s:∀{o q:Hp},bJ B z C [] o q->bJ B F' H' O o q/\ak B o (lo o [] q) q gG T []:=λ{o q} l=>⟨vm.trans (bJ.lift b.ok l),(R.grow l).2.le0 (hle xs[i])⟩
   rcases zRt M P (aam t) with⟨Y,rfl⟩|⟨y,Y,e2,rfl⟩
   ·refine hc xs[i] false Y z [] C T _ R λo q l=>mX ?_
    obtain⟨I,L⟩:=s l
    exact⟨o,I,L,U.imp λ_ _=>Rp.mono (xQ (b.trans (bJ.lift b.ok l)) md)⟩
   ·refine hc xs[i] true Y z [] C T _ R λo q l=>mY ?_
    refine he xs[i] y e2 o [] q T _ (R.grow l) λw F6 H6 g6 r6=>?_
    obtain⟨I,L⟩:=s (l.trans g6)
    exact⟨F6,I,L,(U.imp λ_ _=>Rp.mono (xQ (b.trans (bJ.lift b.ok (l.trans g6))) md)).snoc r6⟩
  ·have e:i=xs.length:=by lia
   subst e
   rw[take_length,r] at P
   cases P
   exact .inl ⟨y1 (aao _),by lia,λp hp=>k p D h d (gr.trans X) hp U⟩
abbrev isF:Slot K->Bool
 |@Slot.fz _ false _ _ _=>true
 |_=>false
theorem zGs{as:SL K}(k:Nat)(a:as.all isF=true)(r:Ar F as vs):ak ⟨F,H⟩ F L' H (as++replicate k .un) (vs.map some++replicate k none) []:=by
 induction r with
 |nil =>
  show ak _ _ _ _ ([]++_) ([]++_) []
  induction k with
  |zero=>exact .nil
  |succ k ih=>exact .un ih
 |@cons n _ _ _ _ _ _ r _ ih =>
  rw[all_cons,abr] at a
  cases n with
  |false=>exact .fz r (ih a.2)
  |true=>grind
theorem Ar.len(r:Ar F as vs):vs.length=as.length:=by
 induction r with
 |nil=>rfl
 |cons _ _ ih=>grind
theorem zWn{A:Type}{as:A->SL K}{f:A->Option β}{N:List Str}(p:∀a,(as a).all isF=true)(k:∀a,(as a).length=i)(j:∀c a,SB ⟨c,H⟩ (as a++replicate (N.length-i) .un) t al (f a))(h:lB K al as f vs H Q E):t { nx:=λ_ H'=>Q .non H',rt:=Q } (L2.start N vs) H:=by
 obtain⟨a,b,c,s,d,r,q⟩:=h
 have e:L2.start N vs=vs.map some++replicate (N.length-i) none:=by
  unfold L2.start
  rw[r.len,k]
 rw[e]
 refine j c a b d c _ _ H ⟨c,[],.refl _,⟨s,.refl _,λb o h=>.inl h,λx l=>(by cases l),(by simp)⟩,zGs _ (p a) r⟩ (λv H' z=>q v H' z.1 z.2)
theorem zY5{A:Type}{as:A->SL K}{f:A->Option β}(c:∀a,(as a).length=d)(h:lB K al as f vs H Q E):vs.length=d:=by
 obtain⟨a,b,Fa,s,hfa,r,q⟩:=h
 rw[r.len,c]
end
open PySem.SeqAt (EqAt RcAt RcNeAt)
class Eqv (K:Frag) (α:Type) [Rp K α] [DecidableEq α] where
 dep:Nat
 det:∀{H:Hp}{v:V}{a b:α},rp K H v a->rp K H v b->a=b
 eqA:∀{X:Cx}{pins:List (Addr×Obj)}{σ:St}{H:Hp}{s:Shared},Inv X pins σ H s->∀{A:Around},A.units+dep<cLine->∀{v w:V}{u u':Value}{a b:α},rp K H v a->rp K H w b->RelV v u->RelV w u'->EqAt A s u u' (decide (a=b))
 W6:∀{X:Cx}{pins:List (Addr×Obj)}{σ:St}{H:Hp}{s:Shared},Inv X pins σ H s->∀{A:Around},A.units+dep<cLine->∀{v w:V}{u u':Value}{a b:α},rp K H v a->rp K H w b->RelV v u->RelV w u'->RcAt A s u u' (decide (a=b))
 neA:∀{X:Cx}{pins:List (Addr×Obj)}{σ:St}{H:Hp}{s:Shared},Inv X pins σ H s->∀{A:Around},A.units+dep<cLine->∀{v w:V}{u u':Value}{a b:α},rp K H v a->rp K H w b->RelV v u->RelV w u'->RcNeAt A s u u' (!decide (a=b))
section
variable{K:Frag}
theorem ou{α:Type}[BEq α][LawfulBEq α][DecidableEq α](a b:α):(a==b)=decide (a=b):=by
 grind
instance:Eqv K Int where
 dep:=0
 det h1 h2:=by cases h1;cases h2;rfl
 eqA _ _ _ _ _ _ _ _ _ h1 h2 r1 r2:=by cases h1;cases h2;obtain⟨t,rfl⟩:=r1;obtain⟨t',rfl⟩:=r2;rw[<-ou];exact EqAt.int_int _ _ _ _
 W6 _ _ _ _ _ _ _ _ _ h1 h2 r1 r2:=by cases h1;cases h2;obtain⟨t,rfl⟩:=r1;obtain⟨t',rfl⟩:=r2;rw[<-ou];exact RcAt.int_int _ _ _ _
 neA _ _ _ _ _ _ _ _ _ h1 h2 r1 r2:=by cases h1;cases h2;obtain⟨t,rfl⟩:=r1;obtain⟨t',rfl⟩:=r2;rw[<-ou];exact RcNeAt.int_int _ _ _ _
instance:Eqv K Str where
 dep:=0
 det h1 h2:=by cases h1;cases h2;rfl
 eqA _ _ _ _ _ _ _ _ _ h1 h2 r1 r2:=by cases h1;cases h2;obtain⟨t,rfl⟩:=r1;obtain⟨t',rfl⟩:=r2;rw[<-ou];exact EqAt.str_str _ _ _ _
 W6 _ _ _ _ _ _ _ _ _ h1 h2 r1 r2:=by cases h1;cases h2;obtain⟨t,rfl⟩:=r1;obtain⟨t',rfl⟩:=r2;rw[<-ou];exact RcAt.str_str _ _ _ _
 neA _ _ _ _ _ _ _ _ _ h1 h2 r1 r2:=by cases h1;cases h2;obtain⟨t,rfl⟩:=r1;obtain⟨t',rfl⟩:=r2;rw[<-ou];exact RcNeAt.str_str _ _ _ _
def O9(K:Frag)(α:Type)[Rp K α][DecidableEq α](neg:Bool):R2:=λx y H Q=>∃a b:α,rp K H x a/\rp K H y b/\Q (.bl (if neg=true then !decide (a=b) else decide (a=b))) H
theorem wJ(K:Frag)(α:Type)[Rp K α][DecidableEq α][Eqv K α]{X:Cx}(hr:bG k X.A)(hd:Eqv.dep K α<=64:=by exact Nat.le_of_ble_eq_true rfl):gO X (compareOp .Eq) (O9 K α false):=by
 intro pins s σ H x y v u Q I rx ry h
 obtain⟨a,b,h1,h2,q⟩:=h
 exact Eqv.W6 I (by have:=hr.units;lia) h1 h2 rx ry _ _ _ _ ⟨.bl (decide (a=b)),H,I,rfl,q⟩
variable{B:Bs}{sl:SL K}{md md1:Md}{α β:Type}[Rp K α][Rp K β]{t1 t2 t:TE}
theorem wK[DecidableEq α]{m1 m2:Option α}(h1:Ex B sl .hp t1 m1)(h2:Ex B sl .hp t2 m2):Ex B sl md (dH (O9 K α false) t1 t2) (m1.bind λa=>m2.bind λb=>some (decide (a=b))) :=
 tE (λa b c v w H Q e r1 r2 q=>by cases e;exact⟨a,b,r1,r2,q⟩) h1 h2
section
variable{m1 m2:Option Int}
theorem O_{g:Int->Int->V}{f:Int->Int->α}[Sc K α](hg:∀i j,g i j=Sc.val K (f i j))(h1:Ex B sl .hp t1 m1)(h2:Ex B sl .hp t2 m2):Ex B sl md (dH (pQ g) t1 t2) (m1.bind λa=>m2.bind λb=>some (f a b)) :=
 tE (λa b c v w H Q e r1 r2 q=>by cases r1;cases r2;exact⟨a,b,rfl,rfl,by grind⟩) h1 h2
theorem uZ(h1:Ex B sl .hp t1 m1)(h2:Ex B sl .hp t2 m2):Ex B sl md (dH (pQ λi j=>.int (i+j)) t1 t2) (m1.bind λa=>m2.bind λb=>some (a+b)):=O_ (λ_ _=>rfl) h1 h2
theorem zZz(h1:Ex B sl .hp t1 m1)(h2:Ex B sl .hp t2 m2):Ex B sl md (dH (pQ λi j=>.int (i-j)) t1 t2) (m1.bind λa=>m2.bind λb=>some (a-b)):=O_ (λ_ _=>rfl) h1 h2
theorem Pa(h1:Ex B sl .hp t1 m1)(h2:Ex B sl .hp t2 m2):Ex B sl md (dH (pQ λi j=>.bl (decide (i<j))) t1 t2) (m1.bind λa=>m2.bind λb=>some (decide (a<b))):=O_ (λ_ _=>rfl) h1 h2
theorem Gi(h1:Ex B sl .hp t1 m1)(h2:Ex B sl .hp t2 m2):Ex B sl md (dH (pQ λi j=>.bl (decide (j<i))) t1 t2) (m1.bind λa=>m2.bind λb=>some (decide (b<a))):=O_ (λ_ _=>rfl) h1 h2
noncomputable def mulM(a b:Int):Option Int:=if(-(2^64)<a/\a<2^64)\/(-(2^64)<b/\b<2^64) then some (a*b) else none
noncomputable def aO(a b:Int):Option Int:=if 0<b then some (a%b) else none
noncomputable def aZ(a b:Int):Option Int:=if 0<b/\b<1073741824 then some (a/b) else none
noncomputable def vo(a b:Int):Option Int:=if 0<=b/\b<=1000000/\a.natAbs<2^64 then some (a^b.toNat) else none
theorem W7(h1:Ex B sl .hp t1 m1)(h2:Ex B sl .hp t2 m2):Ex B sl md (dH (rI A_ λi j=>.int (i*j)) t1 t2) (m1.bind λa=>m2.bind λb=>mulM a b) :=
 tE (λa b c v w H Q e r1 r2 q=>by
  unfold mulM at e
  split at e
  case isFalse=>cases e
  rename_i hc
  cases e;cases r1;cases r2
  exact⟨a,b,rfl,rfl,hc,q⟩) h1 h2
theorem yZ(h1:Ex B sl .hp t1 m1)(h2:Ex B sl .hp t2 m2):Ex B sl md (dH (rI (λ_ j=>0<j) λi j=>.int (i%j)) t1 t2) (m1.bind λa=>m2.bind λb=>aO a b) :=
 tE (λa b c v w H Q e r1 r2 q=>by
  unfold aO at e
  split at e
  case isFalse=>cases e
  rename_i hc
  cases e;cases r1;cases r2
  exact⟨a,b,rfl,rfl,hc,q⟩) h1 h2
theorem wE(h1:Ex B sl .hp t1 m1)(h2:Ex B sl .hp t2 m2):Ex B sl md (dH (rI N8 λi j=>.int (i/j)) t1 t2) (m1.bind λa=>m2.bind λb=>aZ a b) :=
 tE (λa b c v w H Q e r1 r2 q=>by
  unfold aZ at e
  split at e
  case isFalse=>cases e
  rename_i hc
  cases e;cases r1;cases r2
  exact⟨a,b,rfl,rfl,hc,q⟩) h1 h2
theorem Jd(h1:Ex B sl .hp t1 m1)(h2:Ex B sl .hp t2 m2):Ex B sl md (dH (rI Az λi j=>.int (i^j.toNat)) t1 t2) (m1.bind λa=>m2.bind λb=>vo a b) :=
 tE (λa b c v w H Q e r1 r2 q=>by
  unfold vo at e
  split at e
  case isFalse=>cases e
  rename_i hc
  cases e;cases r1;cases r2
  exact⟨a,b,rfl,rfl,hc,q⟩) h1 h2
end
theorem A2.aJ(h:A2 R vs xs)(e:L2.aJ xs i=some a):∃v,L2.aJ vs i=some v/\R v a:=by
 unfold L2.aJ at e ⊢
 rw[h.len]
 cases q:n7 xs.length i with
 |none=>grind
 |some j=>rw[q] at e;exact h.at2 e
theorem xF{m1:Option (List α)}{m2:Option Int}(h1:Ex B sl md t1 m1)(h2:Ex B sl .hp t2 m2):Ex B sl md (dH (lu K) t1 t2) (m1.bind λxs=>m2.bind λi=>L2.aJ xs i):=λc hc F O H σ Q s k=>by
 obtain⟨xs,i,e1,e2,e3⟩:=jK hc
 refine h1 xs e1 F O H σ _ s λv F' H' g r1=>?_
 refine h2 i e2 F' O H' σ _ (s.grow g) λw F2 H2 g2 r2=>?_
 cases r2
 obtain⟨p,vs,rfl,z1,z2⟩:=r1
 obtain⟨u,y1,y2⟩:=z2.aJ e3
 have hle:=(match md with
  |.nw=>aQ.trans g.ok.fh
  |.fz=>g.ok.fh
  |.hp=>.refl _:Same (reg B F' H' md) H').trans g2.hh
 exact⟨p,vs,i,u,rfl,rfl,aW.of (hle _ _ z1),y1,k u F2 H2 (g.trans g2) (Rp.mono (xQ g2 md) y2)⟩
theorem Je{n:Bool}{xs:List α}{m2:Option Int}(i:Nat)(hs:sl[i]?=some (.ow n xs))(h2:Ex B sl .hp t2 m2):Ex B sl (cQ n) (dH (lu K) (bL i) t2) (m2.bind λi=>L2.aJ xs i):=λc hc F O H σ Q s k=>by
 cases m2 with
 |none=>cases hc
 |some j =>
  obtain⟨O1,O2,p,vs,rfl,y1,y2,_⟩:=s.2.lY hs
  refine⟨_,y1,?_⟩
  refine h2 j rfl F _ H σ _ s λw F2 H2 g2 r2=>?_
  cases r2
  obtain⟨u,z1,z2⟩:=y2.aJ hc
  exact⟨p,vs,j,u,rfl,rfl,aW.of (g2.hh _ _ s.1.one.2.2),z1,k u F2 H2 g2 (Rp.mono (xQ g2 (cQ n)) z2)⟩
theorem W8{m:Option (α×β)}(h1:Ex B sl md t1 m)(h2:Ex B sl .hp t2 (some (0:Int))):Ex B sl md (dH (ux K) t1 t2) (m.bind λx=>some x.1):=λc hc F O H σ Q s k=>by
 cases m with
 |none=>cases hc
 |some x =>
  cases(hc)
  refine h1 x rfl F O H σ _ s λv F' H' g r1=>?_
  refine h2 0 rfl F' O H' σ _ (s.grow g) λw F2 H2 g2 r2=>?_
  cases r2
  obtain⟨p,v1,v2,rfl,z1,z2,z3⟩:=r1
  have hle:=(match md with
   |.nw=>aQ.trans g.ok.fh
   |.fz=>g.ok.fh
   |.hp=>.refl _:Same (reg B F' H' md) H').trans g2.hh
  exact⟨p,[v1,v2],0,v1,rfl,rfl,.inl (.inl (hle _ _ z1)),rfl,k v1 F2 H2 (g.trans g2) (Rp.mono (xQ g2 md) z2)⟩
theorem zZ0{m:Option (α×β)}(h1:Ex B sl md t1 m)(h2:Ex B sl .hp t2 (some (1:Int))):Ex B sl md (dH (ux K) t1 t2) (m.bind λx=>some x.2):=λc hc F O H σ Q s k=>by
 cases m with
 |none=>cases hc
 |some x =>
  cases(hc)
  refine h1 x rfl F O H σ _ s λv F' H' g r1=>?_
  refine h2 1 rfl F' O H' σ _ (s.grow g) λw F2 H2 g2 r2=>?_
  cases r2
  obtain⟨p,v1,v2,rfl,z1,z2,z3⟩:=r1
  have hle:=(match md with
   |.nw=>aQ.trans g.ok.fh
   |.fz=>g.ok.fh
   |.hp=>.refl _:Same (reg B F' H' md) H').trans g2.hh
  exact⟨p,[v1,v2],1,v2,rfl,rfl,.inl (.inl (hle _ _ z1)),rfl,k v2 F2 H2 (g.trans g2) (Rp.mono (xQ g2 md) z3)⟩
abbrev Jf(K:Frag):List V->Hp->VK->Prop:=λxs H Q=>∃p ys,xs=[.ref p]/\(aW K H p ys\/gF K H p ys)/\Q (.int ys.length) H
theorem xP{m:Option (List α)}(h:Ex B sl .hp t m):Ex B sl md (qO (Jf K) (xI t aY)) (m.bind λxs=>some (xs.length:Int)):=λc hc F O H σ Q s k=>by
 cases m with
 |none=>cases hc
 |some xs =>
  cases(hc)
  refine h xs rfl F O H σ _ s λv F' H' g r1=>?_
  obtain⟨p,vs,rfl,z1,z2⟩:=r1
  exact⟨p,vs,rfl,.inl (aW.of z1),k _ F' H' g (by show V.int vs.length=V.int xs.length;rw[z2.len])⟩
abbrev vp(K:Frag):List V->Hp->VK->Prop:=λxs H Q=>∃p ys,xs=[V.ref p]/\(aW K H p ys\/gF K H p ys)/\∀l,H l=none->Q (.ref l) (upd H l (.lst ys))
theorem A2.sc{F F':Hp}[Sc K α]{vs:List V}{xs:List α}(h:A2 (rp K F) vs xs):A2 (rp K F') vs xs:=h.imp λ_ _=>SX
theorem Jg[Sc K α]{m:Option (List α)}(h:Ex B sl .hp t m):Eo B sl md (qO (vp K) (xI t aY)) m:=λc hc F O H σ Q s k=>by
 refine h c hc F O H σ _ s λv F' H' g r1=>?_
 obtain⟨p,vs,rfl,z1,z2⟩:=r1
 exact⟨p,vs,rfl,.inl (aW.of z1),λl hl=>k l vs F' H' g hl z2.sc⟩
class Fl (K:Frag) (α:Type) [Rp K α] [Sc K α] [DecidableEq α]:Prop where
 flat:∀a:α,zy (Sc.val K a)=true
 eq:∀a b:α,Br (Sc.val K a) (Sc.val K b)=decide (a=b)
instance:Fl K Int:=⟨λ_=>rfl,λa b=>by show(a==b)=_;exact ou a b⟩
instance:Fl K Str:=⟨λ_=>rfl,λa b=>by show(a==b)=_;exact ou a b⟩
theorem A2.vals[Sc K α]:∀{vs:List V}{xs:List α},A2 (rp K F) vs xs->vs=xs.map (Sc.val K)
 |[],[],_=>rfl
 |_::_,_::_,h=>by rw[map_cons,Sc.is.mp h.1,A2.vals h.2]
 |[],_::_,h=>h.elim
 |_::_,[],h=>h.elim
theorem Te[Sc K α][DecidableEq α][Fl K α](a:α):∀xs:List α,inV (Sc.val K a) (xs.map (Sc.val K))=decide (a∈xs)
 |[]=>by simp[inV]
 |x::xs=>by
  have ih:=Te a xs
  unfold inV at ih ⊢
  rw[map_cons,any_cons,Fl.eq]
  grind
theorem W9[Sc K α][DecidableEq α][Fl K α](xs:List α):(xs.map (Sc.val K)).all zy=true:=by
 rw[List.all_map,all_eq_true]
 intro x _
 exact Fl.flat x
theorem Tf[Sc K α][DecidableEq α][Fl K α]{m1:Option α}{m2:Option (List α)}(h1:Ex B sl .hp t1 m1)(h2:Ex B sl .hp t2 m2):Ex B sl md (dH (Ir K false) t1 t2) (m1.bind λa=>m2.bind λxs=>some (decide (a∈xs))) :=
 tE (λa b c v w H Q e r1 r2 q=>by
  cases e
  obtain⟨p,vs,rfl,z1,z2⟩:=r2
  have ev:=Sc.is.mp r1
  have es:=z2.vals
  subst ev es
  refine⟨p,_,rfl,.inl (aW.of z1),Fl.flat a,W9 b,?_⟩
  have:=Te (K:=K) a b
  rw[this]
  exact q) h1 h2
theorem Pb[Sc K α][DecidableEq α][Fl K α]{m1:Option α}{m2:Option (List α)}(h1:Ex B sl .hp t1 m1)(h2:Ex B sl .hp t2 m2):Ex B sl md (dH (Ir K true) t1 t2) (m1.bind λa=>m2.bind λxs=>some (!decide (a∈xs))) :=
 tE (λa b c v w H Q e r1 r2 q=>by
  cases e
  obtain⟨p,vs,rfl,z1,z2⟩:=r2
  have ev:=Sc.is.mp r1
  have es:=z2.vals
  subst ev es
  refine⟨p,_,rfl,.inl (aW.of z1),Fl.flat a,W9 b,?_⟩
  have:=Te (K:=K) a b
  rw[this]
  exact q) h1 h2
theorem L_{m:Option (Option α)}(h:Ex B sl .hp t m):Ex B sl md (Ny t) (m.bind λa=>some a.isNone):=λc hc F O H σ Q s k=>by
 cases m with
 |none=>cases hc
 |some a =>
  cases(hc)
  refine h a rfl F O H σ _ s λv F' H' g r1=>?_
  cases a with
  |none=>cases r1;exact k _ F' H' g rfl
  |some x=>rw[decide_eq_false r1.1];exact k _ F' H' g rfl
theorem zU0{m:Option (Option α)}(h:Ex B sl .hp t m):Ex B sl md (FJ t) (m.bind λa=>some a.isSome):=λc hc F O H σ Q s k=>by
 cases m with
 |none=>cases hc
 |some a =>
  cases(hc)
  refine h a rfl F O H σ _ s λv F' H' g r1=>?_
  cases a with
  |none=>cases r1;exact k _ F' H' g rfl
  |some x=>rw[decide_eq_false r1.1];exact k _ F' H' g rfl
theorem Ti{m:Option (Option α)}(h:Ex B sl md t m):Ex B sl md t (m.bind λa=>a):=λc hc F O H σ Q s k=>by
 cases m with
 |none=>cases hc
 |some a =>
  cases a with
  |none=>cases hc
  |some x =>
   have e:=aa2 hc
   subst e
   exact h (some x) rfl F O H σ _ s λv F' H' g r1=>k v F' H' g r1.2
theorem BW{m:Option iD}(h:Ex B sl .hp t m):Ex B sl md (qO (Jf K) (xI t aY)) (m.bind λxs=>some (xs.ns.length:Int)):=λc hc F O H σ Q s k=>by
 cases m with
 |none=>cases hc
 |some xs =>
  cases(hc)
  refine h xs rfl F O H σ _ s λv F' H' g r1=>?_
  obtain⟨p,rfl,z1⟩:=r1
  exact⟨p,_,rfl,.inl z1,k _ F' H' g (by show V.int (xs.ns.map V.int).length=V.int xs.ns.length;grind)⟩
theorem BX(h:L2.aJ ns i=some z):L2.aJ (ns.map V.int) i=some (.int z):=by
 unfold L2.aJ at h ⊢
 cases q:n7 ns.length i with
 |none=>grind
 |some j =>
  grind
theorem Jh{m1:Option iD}{m2:Option Int}(h1:Ex B sl .hp t1 m1)(h2:Ex B sl .hp t2 m2):Ex B sl md (dH (lu K) t1 t2) (m1.bind λxs=>m2.bind λi=>L2.aJ xs.ns i) :=
 tE (λa b c v w H Q e r1 r2 q=>by
  subst r2
  obtain⟨p,rfl,z1⟩:=r1
  exact⟨p,a.ns.map V.int,b,.int c,rfl,rfl,z1,BX e,q⟩) h1 h2
theorem BZ{m1 m2:Option Int}(h1:Ex B sl .hp t1 m1)(h2:Ex B sl .hp t2 m2):Ex B sl md (qO (λxs H Q=>∃i j,xs=[.int i,.int j]/\Q (.int (if j<i then j else i)) H) (xI t1 (xI t2 aY))) (m1.bind λa=>m2.bind λb=>some (min a b)):=λc hc F O H σ Q s k=>by
 obtain⟨a,b,e1,e2,e3⟩:=jK hc
 cases e3
 refine h1 a e1 F O H σ _ s λv F' H' g r1=>?_
 refine h2 b e2 F' O H' σ _ (s.grow g) λw F2 H2 g2 r2=>?_
 cases r1;cases r2
 exact⟨a,b,rfl,by rw[show(if b<a then b else a)=min a b by split<;>lia];exact k _ F2 H2 (g.trans g2) rfl⟩
class Ty (K:Frag) (α:Type) [Rp K α] where
 ty:Value
 is:∀{H:Hp}{v:V}{a:α},rp K H v a->gP K H v ty
instance:Ty K Int:=⟨.type "int",λh=>by cases h;exact .int _⟩
instance:Ty K Str:=⟨.type "str",λh=>by cases h;exact .str _⟩
theorem W_[Ty K α]{c:Value}{y:V}{b:Bool}{m:Option α}(hb:kitOne K (Ty.ty K α) c=some b)(hy:RelV y c)(h:Ex B sl .hp t m):Ex B sl md (qO (Bw K c) (xI t (xI (tC y) aY))) (m.bind λ_=>some b):=λd hd F O H σ Q s k=>by
 cases m with
 |none=>cases hd
 |some a =>
  cases(show some b=some d from hd)
  refine h a rfl F O H σ _ s λv F' H' g r1=>?_
  exact⟨v,y,_,b,rfl,hy,Ty.is r1,hb,k _ F' H' g rfl⟩
end
def src(xss:List LI)(j:Nat):LI:=((aaz xss.length).filter λk=>decide ((j:Int)∈xss.getD k [])).map ac0
theorem fW{α:Type}{p q:α->Bool}:∀{l:List α},(∀x∈l,p x=q x)->l.filter p=l.filter q
 |[],_=>rfl
 |a::l,h=>by
  rw[filter_cons,filter_cons,h a mem_cons_self,fW λx b=>h x (mem_cons_of_mem _ b)]
theorem zWm(xss:List LI)(xs:LI)(j:Nat):src (xss++[xs]) j=src xss j++(if(j:Int)∈xs then[(xss.length:Int)] else[]):=by
 unfold src
 rw[length_append,length_singleton,range_succ,List.filter_append,map_append]
 congr 1
 ·congr 1
  refine fW λk hk=>?_
  grind
 grind
theorem zWl{xss:List LI}{i:Nat}{xs:LI}(h:xss[i]?=some xs)(j:Nat):src (xss.take (i+1)) j=src (xss.take i) j++(if(j:Int)∈xs then[(i:Int)] else[]):=by
 have a:=(aau.mp h).1
 rw[take_add_one,h]
 have e:(some xs:Option LI).toList=[xs]:=rfl
 rw[e,zWm,length_take,Nat.min_eq_left (aby a)]
theorem B_(xss:List LI)(j:Nat):(src xss j).length<=xss.length:=by
 unfold src
 grind
theorem int_at{ns:LI}{i:Nat}{y:V}(h:(ns.map V.int)[i]?=some y):∃z,y=.int z/\ns[i]?=some z:=by
 rw[getElem?_map] at h
 cases e:ns[i]? with
 |none=>rw[e] at h;cases h
 |some z=>rw[e] at h;exact⟨z,(aa2 h).symm,rfl⟩
theorem Ji{bs:List Addr}{i:Nat}{y:V}(h:(bs.map V.ref)[i]?=some y):∃b,y=.ref b/\bs[i]?=some b:=by
 rw[getElem?_map] at h
 cases e:bs[i]? with
 |none=>rw[e] at h;cases h
 |some z=>rw[e] at h;exact⟨z,(aa2 h).symm,rfl⟩
theorem zTa{bs:List Addr}{i:Nat}{b:Addr}(h:bs[i]?=some b):(bs.map V.ref)[i]?=some (.ref b):=by rw[getElem?_map,h]<;>rfl
theorem yN{α:Type}{xs:List α}{x:α}(h:xs[i]?=some x):i<xs.length:=(aau.mp h).1
theorem zUh{i:Nat}(h:i<1920):((i:Int)).natAbs.log2<1920:=by
 exact aaw (Nat.log2_le_self i) h
theorem Tj{ns:LI}(nd:ns.Nodup)(h:ns[i]?=some z):¬z∈ns.take i:=λhz=>by
 obtain⟨j,hj⟩:=mem_iff_getElem?.mp hz
 have hji:j<i:=by
  have:=yN hj
  rw[length_take] at this
  omega
 rw[getElem?_take_of_lt hji] at hj
 have hi:=yN h
 have hjl:=yN hj
 rw[aam hi] at h
 rw[aam hjl] at hj
 have e:ns[j]=ns[i]:=(aa2 hj).trans (aa2 h).symm
 have:=(getElem_inj nd).mp e
 omega
theorem Tn{α:Type}{ns:List α}{z x:α}(h:ns[i]?=some z):x∈ns.take (i+1)↔x∈ns.take i\/x=z:=by
 rw[take_add_one,h]
 simp
def oE(K:Frag)(H:Hp)(bs:List Addr)(xss:List LI):Prop:=bs.length=xss.length/\∀(i:Nat)(b:Addr),bs[i]?=some b->∃c:LI,xss[i]?=some c/\aW K H b (c.map V.int)
theorem oE.same(r:oE K H bs xss)(s:Same H H'):oE K H' bs xss:=⟨r.1,λi b h=>let⟨d,a,c⟩:=r.2 i b h;⟨d,a,s.seq c⟩⟩
def Tp(n:Nat)(xss:List LI):Prop:=xss.length=n/\∀a∈xss,a≠[]/\a.Nodup/\a.length<=100/\∀z∈a,0<=z/\z<(n:Int)
def oF(H:Hp)(b:List Addr)(a:Nat->LI):Prop:=∀(j:Nat)(c:Addr),b[j]?=some c->H c=some (.lst ((a j).map V.int))
structure Bl(K:Frag)(mg:Str->Option Value):Prop where
 len:mg "len" = none
 range:mg "range" = none
 oG:mg "isinstance" = none
 int:mg "int" = none
 bool:mg "bool" = none
 list:mg "list" = none
 enum:mg "enumerate" = none
 ii:kitOne K (.type "int") (.type "int")=some true
 ib:kitOne K (.type "int") (.type "bool")=some false
 ll:kitOne K (.type "list") (.type "list")=some true
theorem Pg:kitOne K (.type "int") (.type "int")=some true:=rfl
theorem Ph:kitOne K (.type "list") (.type "list")=some true:=rfl
theorem Pj:kitOne K (.type "int") (.type "bool")=some false:=by
 first|rfl|grind
theorem p8:bootBuiltins "isinstance" = some (.builtin "isinstance"):=by trivial
theorem yAc:bootBuiltins "int" = some (.type "int"):=by trivial
theorem Cd:bootBuiltins "bool" = some (.type "bool"):=by trivial
theorem Gj:bootBuiltins "list" = some (.type "list"):=by trivial
structure News(H H':Hp)(cs:List Addr)(xss:List (List V)):Prop where
 len:cs.length=xss.length
 at_:∀(i:Nat)(c:Addr),cs[i]?=some c->∃xs,xss[i]?=some xs/\H' c=some (.lst xs)
 new:∀c∈cs,H c=none
 nd:cs.Nodup
theorem News.nil:News H H' [] []:=⟨rfl,λi c h=>(by simp at h),λc h=>(by cases h),List.nodup_nil⟩
theorem News.snoc(n:News H H1 cs xss)(s:Same H H1)(h:H1 l=none):News H (upd H1 l (.lst xs)) (cs++[l]) (xss++[xs]):=by
 have hl:∀c∈cs,c≠l:=λc hc e=>by
  obtain⟨i,hi⟩:=mem_iff_getElem?.mp hc
  obtain⟨ys,_,q⟩:=n.at_ i c hi
  rw[e,h] at q
  cases q
 refine⟨by rw[length_append,length_append,n.len]<;>rfl,λi c hc=>?_,λc hc=>?_,?_⟩
 ·by_cases hi:i<cs.length
  ·rw[getElem?_append_left hi] at hc
   obtain⟨ys,h1,h2⟩:=n.at_ i c hc
   refine⟨ys,?_,?_⟩
   ·rw[getElem?_append_left (by rw[<-n.len];exact hi)];exact h1
   ·rw[zR (hl c (mem_of_getElem? hc))];exact h2
  ·rw[getElem?_append_right (by omega)] at hc
   have hi2:i-cs.length=0:=by
    have:=yN hc
    simp at this
    omega
   rw[hi2] at hc
   have e:l=c:=aa2 hc
   subst e
   refine⟨xs,?_,zO⟩
   rw[getElem?_append_right (by rw[<-n.len];omega),<-n.len,hi2]<;>rfl
 ·rcases mem_append.mp hc with hc|hc
  ·exact n.new c hc
  ·rw[mem_singleton.mp hc];exact s.free h
 ·rw[nodup_append]
  refine⟨n.nd,by simp,λa ha b hb e=>?_⟩
  rw[mem_singleton.mp hb] at e
  exact hl a ha e
theorem News.Pk(n:News H H' c xss)(h:H' r=none):r∉c:=λb=>by
 obtain⟨i,a⟩:=mem_iff_getElem?.mp b
 obtain⟨ys,_,q⟩:=n.at_ i r a
 grind
structure ao(C:Addr) where
 steps:List LI
 marks:List (Str×LI)
 fair:List LI
 sources:List LI
def Xa:List Str:=["many","next_of","before","marked","fair_at","names_at"]
def srcs(xss:List LI):List LI:=(aaz xss.length).map (src xss)
def hid(H:Hp)(p:Addr):Hp:=λb=>if b=p then none else H b
section
variable{K:Frag}{C:Addr}
instance:Rp K (ao C):=⟨λF v m=>∃p dx fs vS vM vF vB,v=.ref p/\F p=some (.ins C dx fs)/\fs.lookup ("steps":Str)=some vS/\rp K F vS m.steps/\fs.lookup ("marks":Str)=some vM/\rp K F vM m.marks/\fs.lookup ("fair":Str)=some vF/\rp K F vF m.fair /\
 fs.lookup ("sources":Str)=some vB/\rp K F vB m.sources/\∀g∈Xa,fs.lookup g=none,
 λs h=>by
  obtain⟨p,dx,fs,vS,vM,vF,vB,h1,h2,h3,h4,h5,h6,h7,h8,h9,h10,h11⟩:=h
  exact⟨p,dx,fs,vS,vM,vF,vB,h1,s _ _ h2,h3,Rp.mono s h4,h5,Rp.mono s h6,h7,Rp.mono s h8,h9,Rp.mono s h10,h11⟩⟩
theorem uS(ns:LI):A2 (rp K F) (ns.map V.int) ns:=A2.of_map (f:=V.int) (λ_=>rfl) ns
theorem zVv:∀{cs:List Addr}{xss:List LI},cs.length=xss.length->(∀(i:Nat)(c:Addr),cs[i]?=some c->∃xs,xss[i]?=some xs/\F c=some (.lst (xs.map V.int)))->A2 (rp K F) (cs.map V.ref) xss
 |[],[],_,_=>trivial
 |c::cs,xs::xss,hl,h=>by
  obtain⟨ys,e1,e2⟩:=h 0 c rfl
  cases e1
  exact⟨⟨c,_,rfl,e2,uS _⟩,zVv (by simpa using hl) λi c' hc=>h (i+1) c' hc⟩
 |[],_::_,hl,_=>by simp at hl
 |_::_,[],hl,_=>by simp at hl
theorem zSp{xss:List LI}(h:i<xss.length):(srcs xss)[i]?=some (src xss i):=by
 unfold srcs
 rw[getElem?_map,getElem?_range h]
 rfl
theorem Ce{a:List Addr}{xss:List LI}(d:a.length=xss.length)(n:oF H' a (src xss))(h:∀c∈a,∀o,H' c=some o->D c=some o):A2 (rp K D) (a.map V.ref) (srcs xss):=by
 refine zVv (by rw[d];unfold srcs;simp) λi c b=>?_
 have hi:=yN b
 exact⟨_,zSp (by lia),h c (mem_of_getElem? b) _ (n i c b)⟩
end
section
variable{K:Frag}{B:Bs}{F H F' H' G:Hp}{O:Own}{sl:SL K}{σ:St}{md:Md}{α β:Type}[Rp K α][Rp K β]{te ta:TE}{C:Addr}
theorem Tq{d:ao C->α}(cl:Cls K C)(i:bh K C f)(j:∀(R:Hp) (v:V) (x:ao C),rp K R v x->∃p b fs w,v=.ref p/\R p=some (.ins C b fs)/\fs.lookup f=some w/\rp K R w (d x))(h:Ex B sl md ta m) :
  Ex B sl md (mU K ta f) (m.bind λx=>some (d x)):=λc e F O H σ Q s k=>by
 cases m with
 |none=>cases e
 |some x =>
  cases(e)
  refine h x rfl F O H σ _ s λv F' H' g r=>?_
  obtain⟨p,b,fs,w,rfl,l,o,n⟩:=j _ v x r
  have a:Same (reg B F' H' md) H':=match md with
   |.nw=>aQ.trans g.ok.fh
   |.fz=>g.ok.fh
   |.hp=>.refl _
  exact⟨p,C,b,fs,w,rfl,a _ _ l,cl,i,o,k w F' H' g n⟩
theorem zL9{m:Option (ao C)}(cl:Cls K C)(g:bh K C "steps")(h:Ex B sl md ta m):Ex B sl md (mU K ta "steps") (m.bind λx=>some x.steps) :=
 Tq cl g (by rintro R v x ⟨p,b,c,a,vM,vF,vB,e,i,f,d,_⟩;exact⟨p,b,c,a,e,i,f,d⟩) h
theorem zMa{m:Option (ao C)}(cl:Cls K C)(f:bh K C "marks")(h:Ex B sl md ta m):Ex B sl md (mU K ta "marks") (m.bind λx=>some x.marks) :=
 Tq cl f (by rintro R v x ⟨p,b,c,vS,i,vF,vB,e,g,_,_,a,d,_⟩;exact⟨p,b,c,i,e,g,a,d⟩) h
theorem zPq{m:Option (ao C)}(cl:Cls K C)(g:bh K C "fair")(h:Ex B sl md ta m):Ex B sl md (mU K ta "fair") (m.bind λx=>some x.fair) :=
 Tq cl g (by rintro R v x ⟨p,b,c,vS,vM,d,vB,f,i,_,_,_,_,a,e,_⟩;exact⟨p,b,c,d,f,i,a,e⟩) h
theorem zN7{m:Option (ao C)}(cl:Cls K C)(g:bh K C "sources")(h:Ex B sl md ta m):Ex B sl md (mU K ta "sources") (m.bind λx=>some x.sources) :=
 Tq cl g (by rintro R v x ⟨p,i,c,vS,vM,vF,e,f,b,_,_,_,_,_,_,d,a,_⟩;exact⟨p,i,c,e,f,b,d,a⟩) h
theorem uQ{A:Type}{as:A->SL K}{f:ao C×A->Option β}{e:Option A}(z:g∈Xa)(h0:Ex B sl .hp ta k)(h:Ea B sl .hp t as e) :
  Ex B sl md (Oa C g (lB K false (λx:ao C×A=>.fz false x.1::as x.2) f) [] E0 ta t) (k.bind λx=>e.bind λa=>f (x,a)):=λc i F O H σ Q s u=>by
 cases k with
 |none=>cases i
 |some x =>
  cases e with
  |none=>cases i
  |some a =>
   refine h0 x rfl F O H σ _ s λv w J l q=>?_
   obtain⟨p,y,E,vS,vM,vF,vB,rfl,I,h3,h4,h5,h6,h7,h8,h9,h10,d⟩:=id q
   refine⟨p,y,E,rfl,I,d g z,?_⟩
   refine h a rfl w O J σ _ (s.grow l) λvs F' H' b r=>?_
   rw[append_nil]
   refine⟨(x,a),c,H',.refl _,i,.cons (Rp.mono b.hh q) r,λv D n L=>?_⟩
   have o:=b.ok.called n
   refine u v _ D (l.trans (b.trans o)) ?_
   have j:=Rp.mono (S5 (F:=F') b.ok.h0 n) L
   exact match md with
   |.nw=>j
   |.fz=>Rp.mono aQ j
   |.hp=>Rp.mono (aQ.trans o.ok.fh) j
def En(B:Bs)(sl:SL K)(t:TE){α:Type}[Rp K α](m:Option α):Prop :=
 ∀a,m=some a->∀(F:Hp)(O:Own)(H:Hp)(σ:St)(Q:VK),At B sl F O H σ->(∀(v:V)(F' c b:Hp),bJ B F H O F' c->Same c b->rp K (dif b c) v a->Q v b)->t σ H Q
theorem Ma{A:Type}{as:A->SL K}{f:A->Option β}{ta:TA}{b:Option A}(h:Ea B sl .hp ta as b):En B sl (Ig (lB K false as f) [] E0 ta) (b.bind f):=λc d F O H σ Q s e=>by
 cases b with
 |none=>cases d
 |some a =>
  refine h a rfl F O H σ _ s λvs F' H' g r=>?_
  rw[append_nil]
  exact⟨a,c,H',.refl _,d,r,λv j k i=>e v F' H' j g k i⟩
theorem En.ex{m:Option α}(h:En B sl te m):Ex B sl md te m:=λc f F O H σ Q s e=>h c f F O H σ Q s λv F' H1 i g b j=>by
 have d:=g.ok.called b
 refine e v _ i (g.trans d) ?_
 have a:=Rp.mono (S5 (F:=F') g.ok.h0 b) j
 exact match md with
 |.nw=>a
 |.fz=>Rp.mono aQ a
 |.hp=>Rp.mono (aQ.trans d.ok.fh) a
theorem Jj(h1:F b=none)(h2:∀x∈O,x.1≠b):lo F O H b=H b:=by
 unfold lo
 grind
theorem Pn{s:Slot K}{m:Option α}(i:Nat)(w:sl[i]?=some s)(t:dz s=false)(h:En B sl te m):Sn B sl (fH te (mR i)) (λa=>sl.set i (.nu a)) m:=λa J G D σ H s k=>by
 obtain⟨F,O,g,z⟩:=s
 refine h a J F O H σ _ z λv F' n p c f r=>k _ _ ?_
 have I:=z.grow c
 have A:Ok B F' O p:=⟨c.ok.fh.trans f,c.ok.h0.trans f,c.ok.fa,λx d=>⟨(c.ok.fo x d).1,(c.ok.fo x d).2.1,f _ _ (c.ok.fo x d).2.2⟩,c.ok.nd⟩
 have l:Same (lo F' O n) (lo F' O p):=λb o e=>by
  unfold lo at e ⊢
  split at e
  ·cases e
  ·rename_i E
   rw[if_neg E]
   exact f _ _ e
 refine⟨F',O,g.trans c.ff,A,(I.2.mono (.refl _) l f).put (λ_ _ _ y=>.nu (Rp.mono (λb o e=>?_) r) y) w t⟩
 have j:n b=none:=by
  cases q:n b with
  |none=>rfl
  |some u=>unfold dif at e;rw[q] at e;cases e
 rw[xK (c.ok.h0.free j),Jj (c.ok.fh.free j) λx d q=>by rw[<-q,(c.ok.fo x d).2.2] at j;cases j]
 exact aQ _ _ e
class IsL (K:Frag) (α:Type) [Rp K α]:Prop where
 il:∀{F:Hp}{v:V}{a:α},rp K F v a->∃p vs,v=.ref p/\F p=some (.lst vs)
abbrev z8:Slot K->Bool
 |@Slot.hs _ _ _ _=>true
 |@Slot.nu _ _ _ _=>true
 |_=>false
theorem Mf(h:dif (lo F O H) B.H0 b=some o):F b=none/\B.H0 b=none/\(∀x∈O,x.1≠b)/\H b=some o:=by
 have a:B.H0 b=none:=by
  cases q:B.H0 b with
  |none=>rfl
  |some u=>unfold dif at h;grind
 rw[xK a] at h
 unfold lo at h
 split at h
 ·cases h
 ·rename_i c
  simp at c
  grind
theorem Ok.Pq(k:Ok B F O H)(b:F p=none)(h2:B.H0 p=none)(c:∀x∈O,x.1≠p):Ok B F O (upd H p o) :=
 ⟨k.fh.put b o,k.h0.put h2 o,k.fa,λx a=>⟨(k.fo x a).1,(k.fo x a).2.1,by rw[zR (c x a)];exact(k.fo x a).2.2⟩,k.nd⟩
theorem ak.calm(h:ak B F L H sl σ O)(hn:sl.all (λs=>!z8 s)=true):ak B F L' H' sl σ O:=by
 induction h with
 |nil=>exact .nil
 |un _ ih=>exact .un (ih (by grind))
 |fz r _ ih=>exact .fz (Rp.mono (wH _ (.refl _)) r) (ih (by grind))
 |hs r _ ih=>grind
 |nu r _ ih=>grind
 |ow r _ ih=>exact .ow (r.imp λ_ _=>Rp.mono (wH _ (.refl _))) (ih (by grind))
 |od r _ ih=>exact .od r (ih (by grind))
 |ob r _ ih=>exact .ob (Ob.mono (wH _ (.refl _)) r) (ih (by grind))
theorem zY7(h:ak B F L H sl σ O)(b:sl[i]?=some s)(a:dz s=false):ak B F L H (sl.set i .un) σ O:=by
 have c:i<σ.length:=by rw[h.len];grind
 have z:=h.put (x:=σ[i]) (λ_ _ _ y=>.un y) b a
 rw[Gh (aam c)] at z
 exact z
instance(n:Nat)(xss:List LI):Decidable (Tp n xss):=by unfold Tp;infer_instance
theorem Xb{s:Slot K}(i:Nat)(b:sl[i]?=some (.fz n x))(h:Ex B sl .hp te m):Sn B sl (N5 i te (Lq f)) (λa=>sl.set i (.fz true a)) (m.bind λy=>some (f x y)):=λa d G D σ H s k=>by
 cases m with
 |none=>cases d
 |some y =>
  cases(d)
  obtain⟨F,O,g,z⟩:=s
  obtain⟨v,j,e⟩:=z.2.n_ b
  subst e
  refine⟨_,j,h y rfl F O H σ _ z λw F' H' c r=>?_⟩
  cases r
  exact⟨x,y,rfl,rfl,k _ _ (Sg.set (g.trans c.ff) (z.grow c) b rfl rfl)⟩
end
section
variable{K:Frag}{X:Cx}
theorem Pr(K:Frag)(h:X.K=K:=by rfl):gO X (compareOp .In) (Ir K false):=by subst h;exact zTz
theorem Pu(K:Frag)(h:X.K=K:=by rfl):gO X (compareOp .NotIn) (Ir K true):=by subst h;exact zLj
theorem aM(K:Frag)(h:X.K=K:=by rfl):Oj X (lu K):=by subst h;exact zUo
theorem rH(K:Frag)(h:X.K=K:=by rfl):Oj X (ux K):=by subst h;exact Il
theorem xL(K:Frag)(h:X.K=K:=by rfl):pP X (.builtin "len") (Jf K):=by subst h;exact zMl
theorem Gk(K:Frag)(h:X.K=K:=by rfl):pP X (.type "list") (vp K):=by subst h;exact zMk
theorem qb(K:Frag)(a:∀y u,RelV y c->RelV y u->u=c)(h:X.K=K:=by rfl):pP X (.builtin "isinstance") (Bw K c):=by subst h;exact zYk a
theorem Cg(K:Frag)(b:PE X e c)(h:X.K=K:=by rfl)(a:attributeBase e f X.env (eval e X.env)=eval e X.env:=by rfl):PE X (.Attribute e f pos) (mU K c f):=by subst h;exact ZQ b a
theorem yR(K:Frag)(b:PE X l a)(h:X.K=K:=by rfl):PI X tg l (Lw K a):=by subst h;exact V2 b
theorem Jk(K:Frag)(b:X.mg "enumerate" = none)(f:PA X [a] c)(h:X.K=K:=by rfl)(e:Gl X "enumerate":=by rfl)(d:starEach [a] X.env=[(false,eval a X.env)]:=by rfl) :
  PI X (.Tuple elts k tp) (.Call (.Name "enumerate" p) [a] [] pos) (vd K c):=by subst h;exact zTo e b f d
theorem jB(K:Frag){o e:Expr}{es:List Expr}{k:TE}{t:TA}{name:Str}{c a:Pos}{T id:String}{r:V->List V->Hp->VK->Prop}(n:PlainAttrs T)(g:PySem.Slot T name id)(j:typeOf (.builtin id)=pure (.type "method_descriptor"))(m:Oq X id r)(l:PE X o k)(q:PA X (e::es) t)(h:X.K=K:=by rfl)(f:attributeBase o name X.env (eval o X.env)=eval o X.env:=by rfl)(i:((backTo a (starEach (e::es) X.env)).all (λx=>!x.1)&&(backToKw a (keywordEach [] X.env)).all (λx=>x.1.isSome)
   && decide ((e::es).length+([]:List Keyword).length+(if([]:List Keyword).isEmpty then 0 else 1)<30))=true:=by rfl)(d:(c.endLine==a.line)=true:=by rfl)(p:starEach (e::es) X.env=(false,eval e X.env)::starEach es X.env:=by rfl)(b:(backTo a (starEach es X.env)).any (·.1)=false:=by rfl) :
  PE X (.Call (.Attribute o name c) (e::es) [] a) (z6 K T r k t):=by subst h;exact Gb n g j m l q f i d p b
theorem Xc(K:Frag){o:Expr}{g:TE}{name:Str}{b a:Pos}{T id:String}{r:V->List V->Hp->VK->Prop}(i:PlainAttrs T)(e:PySem.Slot T name id)(f:typeOf (.builtin id)=pure (.type "method_descriptor"))(k:Oq X id r)(j:PE X o g)(h:X.K=K:=by rfl)(d:attributeBase o name X.env (eval o X.env)=eval o X.env:=by rfl)(c:(b.endLine==a.line)=true:=by rfl):PE X (.Call (.Attribute o name b) [] [] a) (Iu K T r g):=by subst h;exact Iv i e f k j d c
theorem Jl:bootBuiltins "min" = some (.builtin "min"):=by trivial
theorem Jm:bootBuiltins "any" = some (.builtin "any"):=by trivial
theorem Jo:bootBuiltins "all" = some (.builtin "all"):=by trivial
theorem Tt:bootBuiltins "sorted" = some (.builtin "sorted"):=by trivial
theorem qd:Et B sl Bu (some true):=λa b F O H σ Q s k=>by cases b;exact k F H (.refl s.1)
theorem Xd{B:Bs}{b sl2:SL K}{t:TS}{al:Bool}{β:Type}[Rp K β]{m:Option β}(l:Le b sl2)(h:SB B sl2 t al m):SB B b t al m:=λa c G D σ H q k=>h a c G D σ H (q.le l) k
theorem Tv{α:Type}:∀c:List α,some []=some c->c.length<=0:=λc h=>by grind
theorem qQ{α:Type}{m:Option α}{ma:Option (List α)}(h:∀b,ma=some b->b.length<=n):∀c,(m.bind λa=>ma.bind λb=>some (a::b))=some c->c.length<=n+1:=λc e=>by
 cases m with
 |none=>cases e
 |some a =>
  cases ma with
  |none=>cases e
  |some b=>cases e;exact acd (h b rfl)
theorem bnd{α β:Type}(a:α)(f:α->Option β):(some a).bind f=f a:=(λ(x:Option α) (e:x=some a)=>by grind:∀x,x=some a->x.bind f=f a) _ rfl
def fuel:Nat:=100000
structure jL(P:Program)(w:World)(K:Frag)(mg:Str->Option Value)(base:Heap)(k:Nat)(x:Str)(ps:List Str)(sp:Sp):Prop where
 ex:∃f fd,aH P w K mg base bN k f fd ps sp/\Binds K fd ps []/\keepIn K (.ref f)=true/\mg x=some (.ref f)
structure jT(P:Program)(w:World)(K:Frag)(mg:Str->Option Value)(base:Heap)(k:Nat)(C:Addr)(m:Str)(ps:List Str)(sp:Sp):Prop where
 ex:∃f fd,aH P w K mg base bN k f fd ps sp/\Binds K fd ps []/\Meth K C m f
 cl:Cls K C
theorem jL.mono(c:jL P w K mg base j x ps sp)(h:j<=k):jL P w K mg base k x ps sp:=by
 obtain⟨f,d,a,b⟩:=c.ex
 exact⟨f,d,a.mono h,b⟩
theorem jT.mono(c:jT P w K mg base j C x ps sp)(h:j<=k):jT P w K mg base k C x ps sp:=by
 obtain⟨f,d,a,b⟩:=c.ex
 exact⟨⟨f,d,a.mono h,b⟩,c.cl⟩
theorem zU(c:jL X.prog X.w X.K X.mg X.base k x ps sp)(i:bG k X.A)(m:PA X (e::es) t)(l:Gl X x:=by rfl)(a:(x==("__debug__":Str))=false:=by decide)(j:starEach (e::es) X.env=(false,eval e X.env)::starEach es X.env:=by rfl)(b:(backTo pos (starEach es X.env)).any (·.1)=false:=by rfl):PE X (.Call (.Name x p) (e::es) [] pos) (Ig sp [] E0 t):=by
 obtain⟨f,fd,g,n,h,d⟩:=c.ex
 exact Bj g i l d h n .nil uU m a j b
theorem z9(c:jT X.prog X.w X.K X.mg X.base k C m ps sp)(j:bG k X.A)(l:PE X o n)(p:PA X (e::es) t)(b:starEach (e::es) X.env=(false,eval e X.env)::starEach es X.env:=by rfl)(d:(backTo pos (starEach es X.env)).any (·.1)=false:=by rfl)(h:eval (.Call (.Attribute o m a) (e::es) [] pos) X.env=(do
   let g <-eval o X.env
   standAt a.atName
   let(f,first) <-holding [g] (getMethod g m pl)
   callWith pos f first (backTo pos (starEach (e::es) X.env)) (backToKw pos (keywordEach [] X.env))):=by rfl):PE X (.Call (.Attribute o m a) (e::es) [] pos) (Oa C m sp [] E0 n t):=by
 obtain⟨f,fd,r,q,i⟩:=c.ex
 exact Bk l c.cl i r j q .nil uU p b d h
theorem Tw(c:jT X.prog X.w X.K X.mg X.base k C m ps sp)(h:bG k X.A)(i:PE X o j)(d:eval (.Call (.Attribute o m a) [] [] pos) X.env=(do
   let b <-eval o X.env
   standAt a.atName
   let(f,first) <-holding [b] (getMethod b m pl)
   callWith pos f first (backTo pos (starEach [] X.env)) (backToKw pos (keywordEach [] X.env))):=by rfl):PE X (.Call (.Attribute o m a) [] [] pos) (Oa C m sp [] E0 j aY):=by
 obtain⟨f,fd,e,l,g⟩:=c.ex
 exact zXd i c.cl g e h l .nil uU d
end
section
variable{P:Program}{w:World}{K:Frag}{mg:Str->Option Value}{base:Heap}
theorem Tz{A β:Type}[Rp K β]{as:A->SL K}{e:A->Option β}(F:cF K x d st f i)(S:aF N ps (zS st))(o:∀a,(as a).all isF=true)(g:∀a,(as a).length=ps.length)(l:∀(c:Value) (A:Around) (b:List Env) (s:Shared) (H:Hp) (E:XK),bG k (A.deeper (ab8 d (zS st) s.heap.objs.size f c)) ->
   ∃t,jH (jw bN P w K mg base N d (zS st) f c A b s H E).tX (wR st) t/\∀j a,SB ⟨j,H⟩ (as a++replicate (N.length-ps.length) .un) t al (e a)) :
  aH P w K mg base bN (k+1) f i ps (lB K al as e) :=
 F.ok S (λm H Q E h=>zY5 g h) λc A b s H m Q E n h=>by
  obtain⟨t,p,q⟩:=l c A b s H E n
  exact⟨t,p,zWn o g q h⟩
end
def W{α:Type}(m:Option α)(P:α->Prop):Prop:=∃a,m=some a/\P a
section
variable{α β S:Type}
theorem aj:W (some a) P↔P a:=⟨λ⟨_,e,h⟩=>by grind,λh=>⟨a,rfl,h⟩⟩
theorem vq:W (none:Option α) P↔False:=⟨λ⟨_,e,_⟩=>(by cases e),abl⟩
theorem zB{m:Option α}:W (m.bind f) Q↔W m λa=>W (f a) Q:=by
 cases m with
 |none=>exact⟨λ⟨_,e,_⟩=>(by cases e),λ⟨_,e,_⟩=>(by cases e)⟩
 |some a=>exact⟨λh=>⟨a,rfl,h⟩,by rintro⟨_,e,h⟩;grind⟩
theorem v9:W ((Out.nx s:Out S β).els f) Q↔W (f s) Q:=aew
theorem W.imp{Q:α->Prop}(h:W m P)(f:∀a,P a->Q a):W m Q:=let⟨a,e,p⟩:=h;⟨a,e,f a p⟩
theorem wY:W (aO a b) Q↔0<b/\Q (a%b):=by
 unfold aO
 split
 ·rw[aj];grind
 ·rw[vq];grind
theorem uW:W (aZ a b) Q↔(0<b/\b<1073741824)/\Q (a/b):=by
 unfold aZ
 split
 ·rename_i h;rw[aj];exact⟨λq=>⟨h,q⟩,λq=>q.2⟩
 ·rename_i h;rw[vq];exact⟨abl,λq=>h q.1⟩
theorem Gm:W (mulM a b) Q↔((-(2^64)<a/\a<2^64)\/(-(2^64)<b/\b<2^64))/\Q (a*b):=by
 unfold mulM
 split
 ·rename_i h;rw[aj];exact⟨λq=>⟨h,q⟩,λq=>q.2⟩
 ·rename_i h;rw[vq];exact⟨abl,λq=>h q.1⟩
theorem Px:W (vo a b) Q↔(0<=b/\b<=1000000/\a.natAbs<2^64)/\Q (a^b.toNat):=by
 unfold vo
 split
 ·rw[aj];grind
 ·rw[vq];grind
theorem pU:W (push xs a) Q↔xs.length<cap/\Q (xs++[a]):=by
 unfold push
 split
 ·rename_i h;rw[aj];exact⟨λq=>⟨h,q⟩,λq=>q.2⟩
 ·rename_i h;rw[vq];exact⟨abl,λq=>h q.1⟩
def rng(n:Int):LI:=(aaz n.toNat).map ac0
theorem uT:W (aX n) Q↔(-(2^62)<=n/\n<2^62)/\Q (rng n):=by
 unfold aX rng
 split
 ·rename_i h;rw[aj];exact⟨λq=>⟨h,q⟩,λq=>q.2⟩
 ·rename_i h;rw[vq];exact⟨abl,λq=>h q.1⟩
theorem Mg(h:0<=n):((rng n).length:Int)=n:=by
 unfold rng
 grind
theorem Gn{n:Int}{i:Nat}{x:Int}(h:(rng n)[i]?=some x):x=i/\(i:Int)<n:=by
 obtain⟨a,b⟩:=W4 h
 exact⟨b,by omega⟩
theorem cg:x∈rng n↔0<=x/\x<n:=by
 unfold rng
 rw[mem_map]
 constructor
 ·grind
 ·intro⟨h1,h2⟩
  exact⟨x.toNat,mem_range.mpr (by lia),by grind⟩
theorem nQ(h:0<=i):L2.aJ xs i=xs[i.toNat]?:=by
 unfold L2.aJ n7
 rw[if_pos h]
 by_cases q:i<xs.length
 ·rw[if_pos q];rfl
 ·rw[if_neg q,abv (by omega)];rfl
theorem bW(h0:0<=i):W (L2.aJ xs i) Q↔∃a,xs[i.toNat]?=some a/\Q a:=by
 rw[nQ h0]
 exact aew
theorem Xe{xs:List α}{i:Int}{a:α}(h0:0<=i)(h1:i<xs.length):m6 xs i a=some (xs.set i.toNat a):=by
 unfold m6 n7
 rw[if_pos h0,if_pos h1]
 rfl
theorem Py{xs:List α}{i:Int}{a:α}{Q:List α->Prop}(h0:0<=i)(b:i<xs.length):W (m6 xs i a) Q↔Q (xs.set i.toNat a):=by
 rw[Xe h0 b,aj]
theorem xZ{step:S->α->Option S}{Q:S->Prop}(I:Nat->S->Prop)(h0:I 0 s)(f:∀i x s,xs[i]?=some x->I i s->W (step s x) (I (i+1)))(g:∀s,I xs.length s->Q s):W (yX step xs s) Q:=by
 have key:∀(a:List α)(i:Nat)(s:S),(∀j x,a[j]?=some x->xs[i+j]?=some x)->i+a.length=xs.length->I i s->W (yX step a s) Q:=by
  intro a
  induction a with
  |nil=>intro i s _ c h;exact⟨s,rfl,g s ((c)▸h)⟩
  |cons y a ih =>
   intro i s d c h
   show W ((step s y).bind λb=>yX step a b) Q
   rw[zB]
   refine(f i y s (d 0 y rfl) h).imp λb e=>ih (i+1) b (λj x hx=>?_) (by grind) e
   have:=d (j+1) x (by grind)
   grind
 grind
theorem zIz{step:S->α->Option (Out S β)}:jR step (x::xs) s=(step s x).bind λo=>o.aP λs'=>jR step xs s':=by
 congr 1
theorem Ci{step:S->α->Option (Out S β)}{Q:Out S β->Prop}(I:Nat->S->Prop)(h0:I 0 s)(e:∀i x s,xs[i]?=some x->I i s->W (step s x) λo=>∃s',o=.nx s'/\I (i+1) s')(f:∀s,I xs.length s->Q (.nx s)):W (jR step xs s) Q:=by
 have key:∀(a:List α)(i:Nat)(s:S),(∀j x,a[j]?=some x->xs[i+j]?=some x)->i+a.length=xs.length->I i s->W (jR step a s) Q:=by
  intro a
  induction a with
  |nil=>intro i s _ c h;exact⟨.nx s,rfl,f s ((c)▸h)⟩
  |cons y a ih =>
   intro i s b c h
   rw[zIz,zB]
   refine(e i y s (b 0 y rfl) h).imp ?_
   rintro o ⟨s',rfl,d⟩
   refine ih (i+1) s' (λj x hx=>?_) (by grind) d
   have:=b (j+1) x (by grind)
   grind
 grind
theorem zVw{c:S->Option Bool}{a:S->Option S}(I:S->Prop)(μ:S->Nat)(h0:I s)(hk:μ s<k)(d:∀s,I s->W (c s) λb=>if b=true then W (a s) λs'=>I s'/\μ s'<μ s else Q s):W (BJ c a k s) Q:=by
 induction k generalizing s with
 |zero=>lia
 |succ k ih =>
  show W ((c s).bind λb=>if b=true then(a s).bind λs'=>BJ c a k s' else some s) Q
  rw[zB]
  refine(d s h0).imp λb h=>?_
  cases b with
  |true =>
   simp only[if_true]
   rw[zB]
   exact h.imp λs' ⟨e,h2⟩=>ih e (by lia)
  |false=>simpa[aj] using h
theorem zMi(c:α->Bool)(f:α->β):∀xs:List α,vJ (λx=>some (c x)) (λx=>some (f x)) xs=some ((xs.filter c).map f)
 |[]=>rfl
 |x::xs=>by
  have ih:=zMi c f xs
  show(some (c x)).bind _=_
  grind
theorem Xf(c:α->Bool)(f:α->β):W (xG (λx=>some (c x)) (λx=>some (f x)) xs) Q↔xs.length<cap/\Q ((xs.filter c).map f):=by
 unfold xG
 split
 ·rename_i h;rw[zMi,aj];exact⟨λq=>⟨h,q⟩,λq=>q.2⟩
 ·rename_i h;rw[vq];exact⟨abl,λq=>h q.1⟩
theorem zUy(xs:List α):xs.filter (λ_=>true)=xs:=filter_eq_self.mpr λ_ _=>rfl
theorem Cj(f:α->β):W (xG (λ_=>some true) (λx=>some (f x)) xs) Q↔xs.length<cap/\Q (xs.map f):=by
 rw[Xf (λ_=>true) f,zUy]
theorem uV[Decidable c]:W (if c then a else b) Q↔(c->W a Q)/\(¬c->W b Q):=by
 grind
theorem yK(h:n<=1000):n<cap:=aaw h (by decide)
def aG(n:Int)(xs:LI):Prop:=xs.Pairwise (· < ·)/\∀x∈xs,0<=x/\x<n
theorem aG.nodup(h:aG n xs):xs.Nodup:=h.1.imp λq=>Int.ne_of_lt q
theorem zW8:aG n []:=⟨.nil,λx h=>by cases h⟩
theorem zS6(h:aG k xs)(h0:0<=k)(hk:k<n):aG n (xs++[k]):=by
 refine⟨List.pairwise_append.mpr ⟨h.1,by simp,λx a y b=>?_⟩,λx a=>?_⟩
 ·rw[mem_singleton.mp b];exact(h.2 x a).2
 ·rcases mem_append.mp a with q|q
  ·have:=h.2 x q;lia
  grind
theorem Ck(h:aG n xs)(l:n<=m):aG m xs:=⟨h.1,λx a=>by have:=h.2 x a;omega⟩
theorem wF:∀{n:Nat}{xs:LI},xs.Nodup->(∀x∈xs,0<=x/\x<(n:Int))->xs.length<=n
 |0,xs,_,h=>by
  cases xs with
  |nil=>grind
  |cons x xs=>have:=h x mem_cons_self;lia
 |n+1,xs,a,h=>by
  by_cases q:(n:Int)∈xs
  ·have l:=List.length_erase_of_mem q
   have ih:=wF (n:=n) (xs:=xs.erase (n:Int)) (a.erase _) λx b=>by
    grind
   lia
  ·have ih:=wF (n:=n) a λx b=>by
    grind
   lia
end
end Ts
namespace L2
open PySem PySem.Spec PyProof.Rows
theorem Xg:∀{ns:LI}{a:List Value},Vals (ns.map V.int) a->IntsAre a ns
 |[],[],_=>.nil
 |n::ns,_::a,h=>by
  cases h with
  |cons r t =>
   obtain⟨k,rfl⟩:=r
   exact .cons n k (Xg t)
theorem TF:∀{ns:LI}{a:List Value},IntsAre a ns->Vals (ns.map V.int) a
 |_,_,.nil=>.nil
 |_,_,.cons n t h=>.cons ⟨t,rfl⟩ (TF h)
section
variable{X:Cx}
def Gp(K:Frag):List V->Hp->VK->Prop:=λc H Q=>∃(p:Addr)(b:LI),c=[.ref p]/\aW K H p (b.map V.int)/\b.length<64/\∀(l:Addr)(a:LI),H l=none->a.Perm b->a.Pairwise (· <= ·)->Q (.ref l) (upd H l (.lst (a.map V.int)))
theorem Xh(K:Frag)(m:X.K=K:=by rfl):pP X (.builtin "sorted") (Gp K):=by
 subst m
 intro pins s σ H xs us Q I r h
 obtain⟨p,ns,rfl,k,h64,q⟩:=h
 obtain⟨u,rfl,n⟩:=Bb r
 cases n
 obtain⟨d,g,j,hz⟩:=I.list k
 have i:=g.length
 rw[length_map] at i
 refine sorted_ints j.isList (Xg g) (by lia) λa c t f o=>?_
 obtain⟨e,he⟩:=sortedAll_at s.heap d a
 have l:=I.hok.fresh (abw _)
 refine⟨.ref (s.heap.objs.size+1),_,I.laid (λb ob w=>sortedAll_old w) (abw _) ?_,rfl,q _ c l f o⟩
 refine⟨?_,a.toList,e,TF t,?_⟩
 ·rw[length_map,f.length_eq]
  grind
 ·simp_all
theorem zGn{bs:List Bool}(r:Vals (bs.map V.bl) its):TruthOf prog w A (λi v=>its.toArray[i]?=some v) (λi=>bs.getD i false):=by
 intro i v s Q E hv hq
 have hv:its[i]?=some v:=by simpa using hv
 have hi:i<bs.length:=by
  have:=(aau.mp hv).1
  rw[<-r.length,length_map] at this
  exact this
 obtain⟨u,h1,h2⟩:=r.get (i:=i) (x:=.bl bs[i]) (by rw[getElem?_map,aam hi]<;>rfl)
 rw[hv] at h1
 cases h1
 cases h2
 have hq:Q (bs.getD i false) s:=hq
 rw[getD_eq_getElem?_getD,aam hi] at hq
 exact ab1 hq
theorem zTc{bs:List Bool}:((aaz bs.length).any λi=>bs.getD i false)=bs.any id:=by
 rw[ab2,any_eq_true,any_eq_true]
 constructor
 ·rintro⟨i,b,c⟩
  have a:=mem_range.mp b
  rw[getD_eq_getElem?_getD,aam a] at c
  exact⟨_,getElem_mem a,c⟩
 ·rintro⟨x,b,c⟩
  obtain⟨i,a,e⟩:=getElem_of_mem b
  refine⟨i,mem_range.mpr a,?_⟩
  grind
theorem zTd{bs:List Bool}:((aaz bs.length).all λi=>bs.getD i false)=bs.all id:=by
 rw[ab2,all_eq_true,all_eq_true]
 constructor
 ·intro h x b
  obtain⟨i,a,e⟩:=getElem_of_mem b
  have z:=h i (mem_range.mpr a)
  grind
 ·intro h i a
  have a:=mem_range.mp a
  rw[getD_eq_getElem?_getD,aam a]
  exact h _ (getElem_mem a)
def Xi(K:Frag)(f:List Bool->Bool):List V->Hp->VK->Prop:=λb H Q=>∃(p:Addr)(a:List Bool),b=[.ref p]/\aW K H p (a.map V.bl)/\Q (.bl (f a)) H
theorem oH{s:Shared}{h':Heap}(a:∀b o,b∉[s.heap.objs.size]->(s.heap.push { cls:=.type "list_iterator",data:=.fields #[.ref l,.int 0 0] }).get? b=some o->h'.get? b=some o) :
  ∀b o,s.heap.get? b=some o->h'.get? b=some o:=λb o e=>a b o (λm=>abp _ (mem_singleton.mp m▸lt_size e)) (get?_push_of_some _ e)
theorem zVr(K:Frag)(l:X.calm=true)(m:X.K=K:=by rfl):pP X (.builtin "any") (Xi K λbs=>bs.any id):=by
 subst m
 intro pins s σ H xs us Q I r h
 obtain⟨p,bs,rfl,i,q⟩:=h
 obtain⟨u,rfl,f⟩:=Bb r
 cases f
 obtain⟨a,d,k,hz⟩:=I.list i
 have c:=k.isList
 have b:p<s.heap.objs.size:=by obtain⟨_,e,_⟩:=c;exact lt_size e
 refine call_any_walk (adv c ?_)
 refine⟨_,_,_,_,_,_,_,rfl,Walks.list (A:=X.A.in1) (I.ok.hd l) s.heap.objs.size p (aat b) a.toArray,⟨⟨_,get?_push_size _ rfl,rfl,rfl⟩,c.push _⟩,zGn d,λh' tk g=>?_⟩
 have j:a.toArray.size=bs.length:=by
  rw[size_toArray,<-d.length,length_map]
 rw[j,zTc]
 exact⟨.bl (bs.any id),H,I.kept (oH g),rfl,q⟩
theorem zVs(K:Frag)(l:X.calm=true)(m:X.K=K:=by rfl):pP X (.builtin "all") (Xi K λbs=>bs.all id):=by
 subst m
 intro pins s σ H xs us Q I r h
 obtain⟨p,bs,rfl,i,q⟩:=h
 obtain⟨u,rfl,f⟩:=Bb r
 cases f
 obtain⟨a,d,k,hz⟩:=I.list i
 have c:=k.isList
 have b:p<s.heap.objs.size:=by obtain⟨_,e,_⟩:=c;exact lt_size e
 refine call_all_walk (adv c ?_)
 refine⟨_,_,_,_,_,_,_,rfl,Walks.list (A:=X.A.in1) (I.ok.hd l) s.heap.objs.size p (aat b) a.toArray,⟨⟨_,get?_push_size _ rfl,rfl,rfl⟩,c.push _⟩,zGn d,λh' tk g=>?_⟩
 have j:a.toArray.size=bs.length:=by
  rw[size_toArray,<-d.length,length_map]
 rw[j,zTd]
 exact⟨.bl (bs.all id),H,I.kept (oH g),rfl,q⟩
end
end L2
namespace Ts
open PySem L2
def Jp(ns:LI):LI:=ns.mergeSort (λa b=>decide (a<=b))
noncomputable def dY(ns:LI):Option LI:=if ns.length<64 then some (Jp ns) else none
theorem uH(ns:LI):(Jp ns).Perm ns:=List.mergeSort_perm _ _
theorem zF0(ns:LI):(Jp ns).Pairwise (· <= ·):=by
 have:=List.pairwise_mergeSort (le:=λa b=>decide (a<=b)) (λa b c h1 h2=>by grind) (λa b=>by grind) ns
 exact this.imp λh=>by grind
theorem zGr:∀{xs ys:LI},xs.Perm ys->xs.Pairwise (· <= ·)->ys.Pairwise (· <= ·)->xs=ys
 |[],ys,p,_,_=>(Perm.nil_eq p)
 |x::xs,[],p,_,_=>by simp_all
 |x::xs,y::ys,p,h1,h2=>by
  have a1:=pairwise_cons.mp h1
  have a2:=pairwise_cons.mp h2
  have e:x=y:=by
   have q1:=p.subset mem_cons_self
   have q2:=p.symm.subset mem_cons_self
   grind
  subst e
  rw[zGr (Perm.cons_inv p) a1.2 a2.2]
section
variable{K:Frag}{B:Bs}{sl:SL K}{md:Md}{t t1 t2:TE}{n:Bool}
theorem Xj(h:Ex B sl .hp t m):Eo B sl md (qO (Gp K) (xI t aY)) (m.bind dY):=λc hc F O H σ Q s k=>by
 cases m with
 |none=>cases hc
 |some ns =>
  have hc:dY ns=some c:=hc
  unfold dY at hc
  split at hc
  case isFalse=>cases hc
  rename_i hl
  cases hc
  refine h ns rfl F O H σ _ s λv F' H' g r1=>?_
  obtain⟨p,vs,rfl,z1,z2⟩:=r1
  have z3:=z2.vals
  subst z3
  refine⟨p,ns,rfl,aW.of z1,hl,λl ns' hn p1 p2=>?_⟩
  rw[zGr (p1.trans (uH ns).symm) p2 (zF0 ns)]
  exact k l _ F' H' g hn (uS _)
theorem zPs(h:Ex B sl .hp t m):Ex B sl md (qO (Xi K f) (xI t aY)) (m.bind λbs=>some (f bs)):=λc hc F O H σ Q s k=>by
 cases m with
 |none=>cases hc
 |some bs =>
  cases(hc)
  refine h bs rfl F O H σ _ s λv F' H' g r1=>?_
  obtain⟨p,vs,rfl,z1,z2⟩:=r1
  have z3:=z2.vals
  subst z3
  exact⟨p,bs,rfl,aW.of z1,k _ F' H' g rfl⟩
theorem Xk(h:Ex B sl .hp t m):Ex B sl md (ZC (rU λi=>.int (-i)) t) (m.bind λa=>some (-a)):=λc hc F O H σ Q s k=>by
 cases m with
 |none=>cases hc
 |some a =>
  cases(show some (-a)=some c from hc)
  refine h a rfl F O H σ _ s λv F' H' g r1=>?_
  cases r1
  exact⟨a,rfl,k _ F' H' g rfl⟩
end
section
variable{β:Type}
noncomputable def gK(kvs:List (Key×β))(k:Key):Option β:=(kvs.find? λa=>decide (a.1=k)).map (·.2)
def pK(kvs:List (Key×β))(k:Key)(v:β):List (Key×β):=if(kvs.any λa=>decide (a.1=k))=true then kvs.map (λa=>if a.1=k then(a.1,v) else a) else kvs++[(k,v)]
abbrev jC(kvs:List (Key×β))(k:Int):Option β:=gK kvs (abn k)
def dput(kvs:List (Key×β))(k:Int)(v:β):Option (List (Key×β)):=if kvs.length<cap then some (pK kvs (abn k) v) else none
theorem TJ:∀{kvs:List (Key×β)}{k:Key},(kvs.any λa=>decide (a.1=k))=(gK kvs k).isSome
 |[],_=>rfl
 |x::kvs,k=>by
  unfold gK
  grind
theorem zZy:∀(kvs:List (Key×β))(k j:Key)(v:β),gK (pK kvs k v) j=if j=k then some v else gK kvs j:=λkvs k j v=>by
 unfold pK
 cases a:(kvs.any λb=>decide (b.1=k)) with
 |true =>
  rw[if_pos rfl]
  induction kvs with
  |nil=>cases a
  |cons x kvs ih =>
   unfold gK at ih ⊢
   rw[map_cons,find?_cons,find?_cons]
   by_cases e:x.1=k
   ·rw[if_pos e]
    by_cases f:j=k
    ·subst f
     rw[decide_eq_true (show(x.1,v).1=j from e),if_pos rfl];rfl
    ·rw[decide_eq_false (show¬(x.1,v).1=j fromλz=>f (z.symm.trans e)),if_neg f]
     show Option.map (λx=>x.2) (List.find? (λb=>decide (b.1=j)) (List.map (λb=>if b.1=k then(b.1,v) else b) kvs))=Option.map (λx=>x.2) (List.find? (λb=>decide (b.1=j)) kvs)
     clear ih a
     induction kvs with
     |nil=>rfl
     |cons y kvs ih =>
      rw[map_cons,find?_cons,find?_cons]
      by_cases g:y.1=k
      ·rw[if_pos g,decide_eq_false (show¬(y.1,v).1=j fromλz=>f (z.symm.trans g))];exact ih
      ·rw[if_neg g]
       by_cases h:y.1=j
       ·rw[decide_eq_true h]
       ·rw[decide_eq_false h];exact ih
   ·rw[if_neg e]
    have a':(kvs.any λb=>decide (b.1=k))=true:=by rw[any_cons,decide_eq_false e,Bool.false_or] at a;exact a
    by_cases f:x.1=j
    ·rw[decide_eq_true f,if_neg λz=>e (f.trans z)]
    ·rw[decide_eq_false f];exact ih a'
 |false =>
  rw[if_neg (by decide)]
  unfold gK
  rw[List.find?_append]
  have hn:kvs.find? (λb=>decide (b.1=k))=none:=by
   rw[List.find?_eq_none]
   intro x hx
   have:=any_eq_false.mp a x hx
   exact this
  by_cases f:j=k
  ·subst f;rw[hn,if_pos rfl];simp
  ·rw[if_neg f]
   cases kvs.find? (λb=>decide (b.1=j)) with
   |none=>simp[acf f]
   |some y=>rfl
theorem zZl(kvs:List (Key×β))(k:Key)(v:β):(pK kvs k v).length<=kvs.length+1:=by
 unfold pK
 grind
end
section
variable{K:Frag}{α:Type}[Rp K α]
abbrev DR(K:Frag){α:Type}[Rp K α](F:Hp):Key×V->Key×α->Prop:=λx y=>x.1=y.1/\rp K F x.2 y.2
theorem A2.any:∀{ks:List (Key×V)}{kvs:List (Key×α)},A2 (DR K F) ks kvs->(ks.any λa=>decide (a.1=k))=(kvs.any λa=>decide (a.1=k))
 |[],[],_=>rfl
 |_::_,_::_,h=>by rw[any_cons,any_cons,h.1.1,A2.any h.2]
 |[],_::_,h=>h.elim
 |_::_,[],h=>h.elim
theorem A2.val:∀{ks:List (Key×V)}{kvs:List (Key×α)},A2 (DR K F) ks kvs->(gK kvs k=none/\dX ks k=none)\/∃a v,gK kvs k=some a/\dX ks k=some v/\rp K F v a
 |[],[],_=>.inl ⟨rfl,rfl⟩
 |x::ks,y::kvs,h=>by
  unfold gK dX
  rw[find?_cons,find?_cons,h.1.1]
  by_cases e:y.1=k
  ·rw[decide_eq_true e];exact .inr ⟨y.2,x.2,rfl,rfl,h.1.2⟩
  ·rw[decide_eq_false e];exact A2.val h.2
 |[],_::_,h=>h.elim
 |_::_,[],h=>h.elim
theorem A2.Pz(r:rp K F v a):∀{ks:List (Key×V)}{kvs:List (Key×α)},A2 (DR K F) ks kvs->A2 (DR K F) (ks.map λb=>if b.1=k then(b.1,v) else b) (kvs.map λb=>if b.1=k then(b.1,a) else b)
 |[],[],_=>trivial
 |x::ks,y::kvs,h=>by
  rw[map_cons,map_cons]
  refine⟨?_,A2.Pz r h.2⟩
  by_cases e:x.1=k
  ·rw[if_pos e,if_pos (h.1.1▸e)];exact⟨h.1.1,r⟩
  ·rw[if_neg e,if_neg (h.1.1▸e)];exact h.1
 |[],_::_,h=>h.elim
 |_::_,[],h=>h.elim
theorem A2.put{F:Hp}{k:Key}{v:V}{a:α}(r:rp K F v a){ks:List (Key×V)}{kvs:List (Key×α)}(h:A2 (DR K F) ks kvs):A2 (DR K F) (putK ks k v) (pK kvs k a):=by
 unfold putK pK
 rw[h.any]
 split
 ·exact h.Pz r
 ·exact h.snoc ⟨rfl,r⟩
structure Dc(α:Type) where
 kv:List (Key×α)
instance:Rp K (Dc α):=⟨λF v d=>∃p ks,v=.ref p/\F p=some (.dK ks)/\A2 (DR K F) ks d.kv,λs ⟨p,ks,h1,h2,h3⟩=>⟨p,ks,h1,s _ _ h2,h3.imp λ_ _ z=>⟨z.1,Rp.mono s z.2⟩⟩⟩
variable{B:Bs}{sl:SL K}{md:Md}{t t2:TE}{F H G:Hp}{O:Own}{σ:St}{u:TS}{al:Bool}
theorem Xl{kvs:List (Key×α)}(i:Nat)(e:sl[i]?=some (.od kvs)):Ex B sl .hp (bL i) (some (Dc.mk kvs)):=λa' f F O H σ Q s k=>by
 cases f
 obtain⟨a,b⟩:=s
 obtain⟨O1,O2,p,c,rfl,d,g,_⟩:=b.Ge e
 exact⟨_,d,k _ F H (.refl a) ⟨p,c,rfl,a.one.2.2,g.imp λ_ _ z=>⟨z.1,Rp.mono a.fh z.2⟩⟩⟩
theorem Jq{m:Option Int}{b:Option (Dc α)}(h:Ex B sl .hp t m)(h2:Ex B sl .hp t2 b):Ex B sl md (Ik t t2) (m.bind λk=>b.bind λd=>some (jC d.kv k).isSome):=λc o F O H σ Q s f=>by
 obtain⟨k,d,i,l,n⟩:=jK o
 cases n
 refine h k i F O H σ _ s λv C q g y=>?_
 refine h2 d l C O q σ _ (s.grow g) λw J E z D=>?_
 cases y
 obtain⟨p,A,rfl,x,I⟩:=D
 refine⟨p,_,rfl,mW.k (k:=abn k) x,?_⟩
 have e:(dX A (abn k:Key)).isSome=(jC d.kv k).isSome:=by
  rcases I.val (k:=abn k) with⟨j,r⟩|⟨a,v,j,r,_⟩
  ·grind
  grind
 rw[e]
 exact f _ J E (g.trans z) rfl
theorem zU6{m:Option Int}{b:Option (Dc α)}(h:Ex B sl .hp t m)(h2:Ex B sl .hp t2 b):Ex B sl md (Z7 t t2) (m.bind λk=>b.bind λd=>some !(jC d.kv k).isSome):=λc o F O H σ Q s f=>by
 obtain⟨k,d,i,l,n⟩:=jK o
 cases n
 refine h k i F O H σ _ s λv C q g y=>?_
 refine h2 d l C O q σ _ (s.grow g) λw J E z D=>?_
 cases y
 obtain⟨p,A,rfl,x,I⟩:=D
 refine⟨p,_,rfl,mW.k (k:=abn k) x,?_⟩
 have e:(dX A (abn k:Key)).isSome=(jC d.kv k).isSome:=by
  rcases I.val (k:=abn k) with⟨j,r⟩|⟨a,v,j,r,_⟩
  ·grind
  grind
 rw[e]
 exact f _ J E (g.trans z) rfl
theorem zSu{kvs:List (Key×α)}{m:Option α}{mi:Option Int}{te x:TE}(i:Nat)(C:sl[i]?=some (.od kvs))(A:sl.all (λs=>!cG s)=true)(J:Ex B sl .fz te m)(N:Ex B sl .hp x mi) :
  Sn B sl (ur (bL i) x te) (λys=>sl.set i (.od ys)) (m.bind λa=>mi.bind λk=>dput kvs k a):=λys E G D σ H s k=>by
 obtain⟨a,h,S,U,f⟩:=jK E
 unfold dput at f
 split at f
 case isFalse=>cases f
 rename_i Q
 cases f
 obtain⟨F,O,g,z⟩:=s
 refine J a S F O H σ _ z λv P M j r=>?_
 obtain⟨p,ks,y,h2,h3,_⟩:=(z.grow j).BL C A
 refine⟨_,y,?_⟩
 refine N h U P O M σ _ (z.grow j) λw T H2 b L=>?_
 cases L
 obtain⟨p',n,l,q,c,o⟩:=((z.grow j).grow b).BL C A
 have e:=y.symm.trans l
 cases e
 obtain⟨I,R⟩:=o (putK n (abn h) v) (pK kvs (abn h) a) (c.put (Rp.mono b.ff r))
 exact⟨p,_,rfl,rC.k (k:=abn h) q (rG (by rw[c.len];exact Q)),k _ _ ⟨T,I,(g.trans j.ff).trans b.ff,R⟩⟩
end
section
variable{K:Frag}{B:Bs}{sl:SL K}{md:Md}{t:TE}{u:TS}{al:Bool}{α:Type}[Rp K α]
abbrev PB:List V->Hp->VK->Prop:=λa H Q=>(∃i,a=[.int i]/\Q (.int i) H)\/∃k,a=[.bl k]/\Q (.int (if k then 1 else 0)) H
theorem Cp(h:Ex B sl .hp t m):Ex B sl md (qO PB (xI t aY)) (m.bind λb=>some (if b=true then(1:Int) else 0)):=λc a F O H σ Q s k=>by
 cases m with
 |none=>cases a
 |some b =>
  cases(a)
  refine h b rfl F O H σ _ s λv e d g f=>?_
  cases f
  exact .inr ⟨b,rfl,k _ e d g rfl⟩
end
section
variable{K:Frag}{B:Bs}{sl:SL K}{md:Md}{t:TE}{α:Type}[Rp K α]
variable{S:Type}{n:Bool}{tb:TS}
def TQ(B:Bs)(sl sl2:SL K)(n:Bool)(e:TI){α:Type}[Rp K α](mi:Option (List α)):Prop :=
 ∀d,mi=some d->∀(F:Hp)(O:Own)(H:Hp)(σ:St)(R:It->Hp->Prop),At B sl F O H σ->(∀(J:It)(b:Hp)(f:Own)(c:Hp),Same F b->At B sl2 b f c σ->Yl K B b n J d->R J c)->e σ H R
theorem Cq{L:S->SL K}{E:S->α->SL K}{step:S->α->Option S}(f:S)(h0:Le sl TV)(U:TQ B TV (L f) n M mi)(hg:∀s,Tg B (L s) n g (E s))(hb:∀s x,Sn B (E s x) tb L (step s x)) :
  Sn B sl (ud M g tb) L (mi.bind λxs=>yX step xs f):=λZ b G D σ H q k=>by
 cases mi with
 |none=>cases b
 |some xs =>
  have b:yX step xs f=some Z:=b
  obtain⟨F,O,X,a⟩:=q.le h0
  refine U xs rfl F O H σ _ a λJ j N H' gr u yl=>?_
  refine⟨λi m σ H=>m=xs.length-i/\i<=xs.length/\∃s,yX step (xs.take i) f=some s/\Sg B j (L s) σ H,⟨xs.length,rfl,aa5 _,f,rfl,j,N,.refl _,u⟩,?_⟩
  rintro i m σ H ⟨rfl,hil,s,p,I,h,l,o⟩
  obtain⟨y1,y2⟩:=yl i I h H l o.1
  by_cases d:i<xs.length
  ·obtain⟨P,T⟩:=y2 xs[i] (aam d)
   obtain⟨s',c,w,Y,Q⟩:=zI0 b (aam d)
   rw[p] at w
   cases w
   refine .inr ⟨P,Sg B j (L c),λy H' z=>⟨xs.length-(i+1),by omega,rfl,d,c,Q,z⟩,λv r R=>?_⟩
   obtain⟨C,A,r3⟩:=T v r R
   exact hg s v xs[i] C h r σ _ (o.grow A) r3 λy u=>hb s xs[i] c Y j _ y r ⟨C,h,l.trans A.ff,u⟩ λσ2 H2 z=>z
  ·have e:i=xs.length:=by omega
   subst e
   rw[take_length,b] at p
   cases p
   exact .inl ⟨y1 (aao _),k σ H ⟨I,h,(X.trans gr).trans l,o⟩⟩
end
end Ts
namespace L2
open PySem PySem.Spec PyProof.Rows
def Its(x:Str):It:=⟨λi _=>i<x.cps.size,λi H v a=>a=H/\∃c,x.cps[i]?=some c/\v=.str ⟨#[c]⟩,λi _=>x.cps.size<=i⟩
theorem zQq{P:Program}{w:World}{K:Frag}{N:Expr}(d:Addr)(x:Str)(t:Tok):Turn P w K N (Its x) [d] d (λi h=>h.IsStrIter d "str_ascii_iterator" x t i) where
 mem:=mem_singleton.mpr rfl
 obj:=λi h st b f=>by
  have e:b=d:=mem_singleton.mp f
  subst e
  obtain⟨o,m,g,M⟩:=st
  grind
 keep:=λi h l st k=>by
  obtain⟨o,m,r⟩:=st
  exact⟨o,k d (mem_singleton.mpr rfl) _ m,r⟩
 item:=by
  intro X B q y g i a s σ H E I p st G
  subst B q y
  obtain⟨A,D,O,C,J,F⟩:=p d (mem_singleton.mpr rfl)
  refine(Walks.strAscii (prog:=X.prog) (w:=X.w) (I.ok.hd g) d x t).item i s _ _ G st λv l L R j U=>?_
  obtain⟨c,u,S,rfl⟩:=R
  have T:Inv X a σ H { s with heap:=l,toks:=L }:=I.turned (λb o f e=>U b o (λz=>f (mem_singleton.mp z)) e) A D C J F
  obtain⟨o,m,g,M⟩:=id j
  exact⟨_,rfl,N7 (s:={ s with heap:=l,toks:=L }) (n:="str_ascii_iterator") m g M (by decide) ⟨.str ⟨#[c]⟩,H,T,⟨u,rfl⟩,⟨rfl,c,S,rfl⟩,j,λb f=>(p b f).1⟩⟩
 done:=by
  intro X B q y g i a s σ H E I p st G
  subst B q y
  obtain⟨A,D,O,C,J,F⟩:=p d (mem_singleton.mpr rfl)
  exact wpAny_pyNext_ascii_end (I.ok.hd g) st (abq G) λl Q=>⟨rfl,I.turned (t':=s.toks) (λb o f e=>Q b o f e) A D C J F⟩
 self:=λ_ _ _ _ _ st h=>wpAny_pyIter_striter_ascii st h
theorem zSe{P:Program}{w:World}{K:Frag}{N:Expr}(d:Addr)(x:Str)(t:Tok):Turn P w K N (Its x) [d] d (λi h=>h.IsStrIter d "str_iterator" x t i) where
 mem:=mem_singleton.mpr rfl
 obj:=λi h st b f=>by
  have e:b=d:=mem_singleton.mp f
  subst e
  obtain⟨o,m,g,M⟩:=st
  grind
 keep:=λi h l st k=>by
  obtain⟨o,m,r⟩:=st
  exact⟨o,k d (mem_singleton.mpr rfl) _ m,r⟩
 item:=by
  intro X B q y g i a s σ H E I p st G
  subst B q y
  obtain⟨A,D,O,C,J,F⟩:=p d (mem_singleton.mpr rfl)
  refine(Walks.strWide (prog:=X.prog) (w:=X.w) (I.ok.hd g) d x t).item i s _ _ G st λv l L R j U=>?_
  obtain⟨c,u,S,rfl⟩:=R
  have T:Inv X a σ H { s with heap:=l,toks:=L }:=I.turned (λb o f e=>U b o (λz=>f (mem_singleton.mp z)) e) A D C J F
  obtain⟨o,m,g,M⟩:=id j
  exact⟨_,rfl,N7 (s:={ s with heap:=l,toks:=L }) (n:="str_iterator") m g M (by decide) ⟨.str ⟨#[c]⟩,H,T,⟨u,rfl⟩,⟨rfl,c,S,rfl⟩,j,λb f=>(p b f).1⟩⟩
 done:=by
  intro X B q y g i a s σ H E I p st G
  subst B q y
  obtain⟨A,D,O,C,J,F⟩:=p d (mem_singleton.mpr rfl)
  exact wpAny_pyNext_wide_end (I.ok.hd g) st (abq G) λl Q=>⟨rfl,I.turned (t':=s.toks) (λb o f e=>Q b o f e) A D C J F⟩
 self:=λ_ _ _ _ _ st h=>wpAny_pyIter_striter_wide st h
section
variable{X:Cx}{tg:Expr}
def PJ(a:TE):TI:=λσ H R=>a σ H λx b=>∃y,x=.str y/\R (Its y) b
theorem Jr(n:PE X l p):PI X tg l (PJ p):=by
 intro a s σ H R I h
 refine aP (n a s σ H _ I h) ?_
 rintro v c ⟨x,f,d,k,m⟩
 obtain⟨y,e,q⟩:=m
 subst e
 obtain⟨t,rfl⟩:=k
 have g:∀b∈[c.heap.objs.size],iB X a f b:=λb j=>by
  have e:b=c.heap.objs.size:=mem_singleton.mp j
  subst e
  exact d.iC (aao _) (d.hok.fresh (aao _))
 cases i:y.cps.all (· < 128)
 ·exact wpAny_pyIter_wide i ⟨c.heap.objs.size,[c.heap.objs.size],_,_,f,rfl,d.kept (t':=c.toks) λb o e=>get?_push_of_some _ e,zSe _ y t,⟨_,get?_push_size _ rfl,rfl,rfl⟩,g,q⟩
 ·exact wpAny_pyIter_ascii i ⟨c.heap.objs.size,[c.heap.objs.size],_,_,f,rfl,d.kept (t':=c.toks) λb o e=>get?_push_of_some _ e,zQq _ y t,⟨_,get?_push_size _ rfl,rfl,rfl⟩,g,q⟩
end
end L2
namespace Ts
open PySem L2
section
variable{K:Frag}{B:Bs}{sl:SL K}{md:Md}{t ta tb tc:TE}{n:Bool}
def Gq(x:Str):List Str:=x.cps.toList.map λc=>(⟨#[c]⟩:Str)
theorem Js(h:Ex B sl .hp t mi):Ei B sl n (PJ t) (mi.bind λx=>some (Gq x)):=λxs f F O H σ R a k=>by
 cases mi with
 |none=>cases f
 |some x =>
  cases(f)
  refine h x rfl F O H σ _ a λv j q p r=>?_
  cases r
  refine⟨x,rfl,k _ j q p λi s O2 H2 sf m=>⟨λl=>?_,λy b=>?_⟩⟩
  ·show x.cps.size<=i
   unfold Gq at l
   grind
  ·unfold Gq at b
   rw[getElem?_map,getElem?_toList] at b
   cases e:x.cps[i]? with
   |none=>grind
   |some c =>
    rw[e] at b
    cases b
    have o:i<x.cps.size:=(Array.getElem?_eq_some_iff.mp e).1
    refine⟨o,λv H3 g=>?_⟩
    obtain⟨rfl,c',d,rfl⟩:=g
    rw[e] at d
    cases d
    exact⟨s,.refl m,rfl⟩
theorem zPr{f g:Int->Int->Bool}(E:Ex B sl .hp ta y)(h2:Ex B sl .hp tb I)(J:Ex B sl .hp tc p) :
  Ex B sl md (ZG (pQ λi j=>.bl (f i j)) (pQ λi j=>.bl (g i j)) ta tb tc) (y.bind λa=>I.bind λb=>if f a b=true then p.bind λc=>some (g b c) else some false):=λd z F O H σ Q s k=>by
 obtain⟨a,b,P,M,e⟩:=jK z
 refine E a P F O H σ _ s λv G A h C=>?_
 refine h2 b M G O A σ _ (s.grow h) λw o m l D=>?_
 cases C
 cases D
 refine⟨a,b,rfl,rfl,_,rfl,?_⟩
 by_cases q:f a b=true
 ·rw[if_pos q] at e ⊢
  cases p with
  |none=>cases e
  |some c =>
   cases(e)
   refine J c rfl o O m σ _ ((s.grow h).grow l) λu L N x r=>?_
   cases r
   exact⟨b,c,rfl,rfl,k _ L N ((h.trans l).trans x) rfl⟩
 ·rw[if_neg q] at e ⊢
  cases e
  exact k _ o m (h.trans l) rfl
def Gs:List V->Hp->VK->Prop:=λa H Q=>∃x:Str,a=[.str x]/\x.length<cap/\Q (.int x.length) H
theorem zVp:pP X (.builtin "len") Gs:=by
 intro a s σ H xs c Q I r h
 obtain⟨x,rfl,b,q⟩:=h
 exact zYj a s σ H _ c Q I r ⟨_,_,rfl,⟨aby (rG b),rfl⟩,q⟩
def wg(x:Str):Option Int:=if x.length<cap then some (x.length:Int) else none
theorem Cr(h:Ex B sl .hp t m):Ex B sl md (qO Gs (xI t aY)) (m.bind wg):=λc a F O H σ Q s k=>by
 cases m with
 |none=>cases a
 |some x =>
  have a:wg x=some c:=a
  unfold wg at a
  split at a
  case isFalse=>cases a
  rename_i e
  cases a
  refine h x rfl F O H σ _ s λv d b g f=>?_
  cases f
  exact⟨x,rfl,e,k _ d b g rfl⟩
def TX(i j:Str):Bool:=!(adl j i 0 j.length 1).isEmpty
abbrev Xm:R2:=λx y H Q=>∃i j,x=.str i/\y=.str j/\Q (.bl (!(adl j i 0 j.length 1).isEmpty)) H
theorem Jt(h:Ex B sl .hp ta d)(h2:Ex B sl .hp tb i):Ex B sl md (dH Xm ta tb) (d.bind λa=>i.bind λb=>some (TX a b)) :=
 tE (λa b c v w H Q e g f q=>by
  cases e
  cases g
  cases f
  exact⟨a,b,rfl,rfl,q⟩) h h2
theorem Ju{ws:List Str}(f:∀H,gF K H p (ws.map V.str))(h:Ex B sl .hp t m):Ex B sl md (dH (Ir K false) t (tC (.ref p))) (m.bind λx=>some (decide (x∈ws))):=λc b F O H σ Q s k=>by
 cases m with
 |none=>cases b
 |some x =>
  cases(b)
  refine h x rfl F O H σ _ s λv i d g e=>?_
  cases e
  refine⟨p,_,rfl,.inr (f d),Fl.flat (K:=K) x,W9 (K:=K) ws,?_⟩
  have:=Te (K:=K) x ws
  rw[show inV (V.str x) (ws.map V.str)=decide (x∈ws) from this]
  exact k _ i d g rfl
end
section
variable{P:Program}{w:World}{K:Frag}{mg:Str->Option Value}{base:Heap}{B:Bs}{sl:SL K}{al:Bool}{S β:Type}[Rp K β]
theorem Mh:Sn B sl Zu L none:=λa b=>by cases b
theorem Cu{A:Type}{as:A->SL K}{u:A->Option Unit}(F:cF K x i st f fd)(S:aF N ps (zS st))(hf:∀a,(as a).all isF=true)(n:∀a,(as a).length=ps.length)(hb:∀(d:Value) (A:Around) (c:List Env) (s:Shared) (H:Hp) (E:XK),bG k (A.deeper (ab8 i (zS st) s.heap.objs.size f d)) ->
   ∃t,jH (jw bN P w K mg base N i (zS st) f d A c s H E).tX (wR st) t/\∀j a,∃L:Unit->SL K,Sn ⟨j,H⟩ (as a++replicate (N.length-ps.length) .un) t L (u a)) :
  aH P w K mg base bN (k+1) f fd ps (lB K al as u) :=
 F.ok S (λm H Q E h=>zY5 n h) λd A c s H m Q E C h=>by
  obtain⟨t,p,q⟩:=hb d A c s H E C
  refine⟨t,p,?_⟩
  obtain⟨a,b,j,s,l,r,v⟩:=h
  have e:L2.start N m=m.map some++replicate (N.length-ps.length) none:=by
   unfold L2.start
   rw[r.len,n]
  rw[e]
  obtain⟨L,q⟩:=q j a
  exact q b l j _ _ H ⟨j,[],.refl _,⟨s,.refl _,λb o h=>.inl h,λx z=>(by cases z),(by simp)⟩,zGs _ (hf a) r⟩ (by rintro σ' G ⟨F',O',g,D⟩;exact v .non G D.1.h0 rfl)
noncomputable def Jv(a:Str)(i:Int):Option Str:=if i.natAbs.log2<1920 then some (a++ad4 (toString i)) else none
noncomputable def Mi(a z:Str):Option Str:=if z.length<=1000 then some (a++z) else none
theorem zZ3(a:Str)(h:Ex B sl .hp t m):Ex B sl md (Wz a t) (m.bind (Jv a)):=λc b F O H σ Q s k=>by
 cases m with
 |none=>cases b
 |some i =>
  have b:Jv a i=some c:=b
  unfold Jv at b
  split at b
  case isFalse=>cases b
  rename_i f
  cases b
  refine h i rfl F O H σ _ s λv e d g j=>?_
  cases j
  exact .inl ⟨i,rfl,f,k _ e d g rfl⟩
theorem Jw(a:Str)(h:Ex B sl .hp t m):Ex B sl md (Wz a t) (m.bind (Mi a)):=λc b F O H σ Q s k=>by
 cases m with
 |none=>cases b
 |some i =>
  have b:Mi a i=some c:=b
  unfold Mi at b
  split at b
  case isFalse=>cases b
  rename_i f
  cases b
  refine h i rfl F O H σ _ s λv e d g j=>?_
  cases j
  exact .inr ⟨i,rfl,f,k _ e d g rfl⟩
theorem PK:kitOne K (.type "str") (.type "str")=some true:=rfl
theorem Jx:bootBuiltins "str" = some (.type "str"):=by trivial
end
section
variable{β:Type}
abbrev Gu(kvs:List (Key×β))(k:Str):Option β:=gK kvs (abz k)
def PL(kvs:List (Key×β))(k:Str)(v:β):Option (List (Key×β)):=if kvs.length<cap then some (pK kvs (abz k) v) else none
end
section
variable{K:Frag}{α:Type}[Rp K α]
variable{B:Bs}{sl:SL K}{md:Md}{t t2:TE}{F H G:Hp}{O:Own}{σ:St}{u:TS}{al:Bool}
theorem Cv{m:Option Str}{b:Option (Dc α)}(h:Ex B sl .hp t m)(h2:Ex B sl .hp t2 b):Ex B sl md (Ik t t2) (m.bind λk=>b.bind λd=>some (Gu d.kv k).isSome):=λc o F O H σ Q s f=>by
 obtain⟨k,d,i,l,n⟩:=jK o
 cases n
 refine h k i F O H σ _ s λv C q g y=>?_
 refine h2 d l C O q σ _ (s.grow g) λw J E z D=>?_
 cases y
 obtain⟨p,A,rfl,x,I⟩:=D
 refine⟨p,_,rfl,mW.k (k:=abz k) x,?_⟩
 have e:(dX A (abz k:Key)).isSome=(Gu d.kv k).isSome:=by
  rcases I.val (k:=abz k) with⟨j,r⟩|⟨a,v,j,r,_⟩
  ·grind
  grind
 rw[e]
 exact f _ J E (g.trans z) rfl
theorem zWv{kvs:List (Key×α)}{m:Option α}{mi:Option Str}{te q:TE}(i:Nat)(A:sl[i]?=some (.od kvs))(y:sl.all (λs=>!cG s)=true)(I:Ex B sl .fz te m)(M:Ex B sl .hp q mi) :
  Sn B sl (ur (bL i) q te) (λys=>sl.set i (.od ys)) (m.bind λa=>mi.bind λk=>PL kvs k a):=λys C G D σ H s k=>by
 obtain⟨a,f,R,T,d⟩:=jK C
 unfold PL at d
 split at d
 case isFalse=>cases d
 rename_i P
 cases d
 obtain⟨F,O,g,z⟩:=s
 refine I a R F O H σ _ z λv N L h r=>?_
 obtain⟨p,ks,x,h2,h3,_⟩:=(z.grow h).BL A y
 refine⟨_,x,?_⟩
 refine M f T N O L σ _ (z.grow h) λw S H2 b J=>?_
 cases J
 obtain⟨p',l,j,o,c,n⟩:=((z.grow h).grow b).BL A y
 have e:=x.symm.trans j
 cases e
 obtain⟨E,Q⟩:=n (putK l (abz f) v) (pK kvs (abz f) a) (c.put (Rp.mono b.ff r))
 exact⟨p,_,rfl,rC.k (k:=abz f) o (rG (by rw[c.len];exact P)),k _ _ ⟨S,E,(g.trans h.ff).trans b.ff,Q⟩⟩
end
abbrev LLI:=List LI
abbrev z_:=List (Str×LI)
structure dZ(p:Addr) where
 u:Unit
def TY(C:Addr)(h:LLI->Option Unit)(f:z_->Int->Option Unit)(i:LLI->Int->Option Unit)(e g:LLI->Option LLI)(xss:LLI)(mo:Option z_)(fo:Option LLI):Option (ao C) :=
 (h xss).bind λ_=>(f (mo.getD []) (xss.length:Int)).bind λ_=>(i (fo.getD []) (xss.length:Int)).bind λ_=>(e xss).bind λa=>(xG (λ_=>some true) (λx:Str×LI=>some (x.1,x.2)) (mo.getD [])).bind λb =>
  (e (fo.getD [])).bind λc=>(g a).bind λd=>some ⟨a,b,c,d⟩
theorem Aa{α β:Type}{m:Option α}{f:α->Option β}{b:β}(h:m.bind f=some b):∃a,m=some a/\f a=some b:=by
 cases m with
 |none=>cases h
 |some a=>exact⟨a,rfl,h⟩
section
variable{K:Frag}{C:Addr}{B:Bs}{sl:SL K}{F H:Hp}{O:Own}{σ:St}
instance:Rp K (dZ p):=⟨λ_ v _=>v=.ref p,λ_ h=>h⟩
noncomputable def oJ(K:Frag)(C:Addr)(mk:LLI->Option z_->Option LLI->Option (ao C)):Sp:=λj H Q _=>∃(p i:Addr)(g d f:V)(a:LLI)(h:Option z_)(e:Option LLI)(M:ao C),j=[.ref p,g,d,f]/\H p=some (.ins C i []) /\
 rp K (hid H p) g a/\rp K (hid H p) d h/\rp K (hid H p) f e/\mk a h e=some M/\∀c:Hp,(∀b o,b≠p->H b=some o->c b=some o)->rp K (dif c (hid H p)) (.ref p) M->Q .non c
variable{mk:LLI->Option z_->Option LLI->Option (ao C)}
theorem zWo{a:Hp}{x d:Addr}(m:a x=none)(j:a d=none){l h i:V}{xss:LLI}{mo:Option z_}{fo:Option LLI}{c:ao C}(z:rp K a l xss)(r:rp K a h mo)(y:rp K a i fo)(p:mk xss mo fo=some c){Q:VK}{E:XK}(k:∀f:Hp,Same a f->rp K (dif f a) (.ref x) c->Q (.ref x) f):oJ K C mk [.ref x,l,h,i] (upd (upd a d (.own x)) x (.ins C d [])) (λv f=>v=.non/\Q (.ref x) f) E:=by
 have n:Same a (upd (upd a d (.own x)) x (.ins C d [])):=λb o e=>by rw[zR (zV e m),zR (zV e j)];exact e
 have g:Same a (hid (upd (upd a d (.own x)) x (.ins C d [])) x):=λb o e=>by
  unfold hid
  rw[if_neg (zV e m)]
  exact n b o e
 refine⟨x,d,l,h,i,xss,mo,fo,c,rfl,zO,Rp.mono g z,Rp.mono g r,Rp.mono g y,p,λf t w=>⟨rfl,?_⟩⟩
 refine k f (λb o e=>t b o (zV e m) (n b o e)) (Rp.mono (λb o e=>?_) w)
 have s:a b=none:=by
  cases q:a b with
  |none=>rfl
  |some u =>
   have:=g b u q
   unfold dif at e
   grind
 rw[xK s]
 exact aQ _ _ e
theorem zVf(D:Ex B sl .hp u t)(h2:Ex B sl .hp E p)(I:Ex B sl .hp v o) :
  En B sl (Ih C (oJ K C mk) [] E0 (xI u (xI E (xI v aY)))) (t.bind λa=>p.bind λb=>o.bind λc=>mk a (some b) (some c)):=λc e F O H σ Q s r=>by
 obtain⟨a,rfl,e⟩:=Aa e
 obtain⟨b,rfl,e⟩:=Aa (m:=p) e
 obtain⟨d,rfl,e⟩:=Aa (m:=o) e
 refine D a rfl F O H σ _ s λv1 A S l z=>?_
 refine h2 b rfl A O S σ _ (s.grow l) λN R M f n=>?_
 refine I d rfl R O M σ _ ((s.grow l).grow f) λw J h i q=>?_
 intro x dx L j nex
 have g:=n
 have k:=q
 exact zWo L j (Rp.mono (f.hh.trans i.hh) z) (show rp K h N (some b) from⟨Nn.nn g,Rp.mono i.hh n⟩) (show rp K h w (some d) from⟨Nn.nn k,q⟩) e λy P G=>r _ J h y (l.trans (f.trans i)) P G
theorem Jy(h:b≠p):hid H p b=H b:=by unfold hid;grind
theorem Mj:hid H p p=none:=by unfold hid;grind
theorem PN:Same (hid H p) H:=λb o e=>by
 by_cases q:b=p
 ·subst q;rw[Mj] at e;cases e
 ·rw[Jy q] at e;exact e
theorem Ml(s:Same H H'):Same (hid H p) (hid H' p):=λb o e=>by
 by_cases q:b=p
 ·subst q;rw[Mj] at e;cases e
 ·rw[Jy q] at e ⊢;exact s b o e
theorem Gv:hid (upd H p o) p=hid H p:=by
 funext b
 by_cases q:b=p
 ·subst q;rw[Mj,Mj]
 ·rw[Jy q,Jy q,zR q]
theorem T4(kp:∀b o,b≠p->H b=some o->a b=some o)(d:a p≠none):Same (dif H' a) (dif (hid H' p) (hid H p)):=λb o e=>by
 have g:a b=none:=by
  cases q:a b with
  |none=>rfl
  |some u=>unfold dif at e;grind
 have c:b≠p:=λq=>d (by grind)
 rw[xK g] at e
 have f:hid H p b=none:=by
  rw[Jy c]
  cases q:H b with
  |none=>rfl
  |some u=>grind
 rw[xK f,Jy c]
 exact e
theorem yAe(e:ak (K:=K) ⟨hid c p,c⟩ (hid c p) (lo (hid c p) [] c) c sl σ []):At (K:=K) ⟨hid c p,c⟩ sl (hid c p) [] c σ :=
 ⟨⟨PN,.refl _,λb o h=>.inl h,λx d=>(by cases d),by simp⟩,e⟩
end
end Ts
namespace jU
open PySem
def Rz(xs:Array Nat):Prop:=∀i k a b:Nat,i<k->xs[i]?=some a->xs[k]?=some b->a<b
theorem Xn(hr:Rz xs):∀(fuel lo hi:Nat),hi-lo<=fuel->lo<=hi->hi<=xs.size->(∀i a,i<lo->xs[i]?=some a->a<j)->(∀i a,hi<=i->xs[i]?=some a->j<=a) ->
  (below.go xs j fuel lo hi)<=xs.size/\(∀i a,i<below.go xs j fuel lo hi->xs[i]?=some a->a<j)/\(∀i a,below.go xs j fuel lo hi<=i->xs[i]?=some a->j<=a)
 |0,lo,hi,hf,hl,hz,h1,h2=>by
  have e:lo=hi:=by omega
  subst e
  unfold below.go
  exact⟨hz,h1,h2⟩
 |fuel+1,lo,hi,hf,hl,hz,h1,h2=>by
  unfold below.go
  by_cases hlt:lo<hi
  ·rw[if_pos hlt]
   have hm:(lo+hi)/2<hi:=by omega
   have hm0:lo<=(lo+hi)/2:=by omega
   have hms:(lo+hi)/2<xs.size:=by omega
   have e:xs.getD ((lo+hi)/2) j=xs[(lo+hi)/2]:=by simp[Array.getD,hms]
   dsimp only
   rw[e]
   by_cases hc:xs[(lo+hi)/2]<j
   ·rw[if_pos hc]
    refine Xn hr fuel _ hi (by omega) (by omega) hz (λi a hi' ha=>?_) h2
    by_cases hi2:i=(lo+hi)/2
    ·subst hi2
     rw[aav hms] at ha
     cases ha
     exact hc
    ·exact adq (hr i ((lo+hi)/2) a _ (by omega) ha (aav hms)) hc
   ·rw[if_neg hc]
    refine Xn hr fuel lo _ (by omega) (by omega) (by omega) h1 (λi a hi' ha=>?_)
    by_cases hi2:i=(lo+hi)/2
    ·subst hi2
     rw[aav hms] at ha
     cases ha
     omega
    ·have:=hr ((lo+hi)/2) i _ a (by omega) (aav hms) ha
     omega
  ·rw[if_neg hlt]
   have e:lo=hi:=by omega
   subst e
   exact⟨hz,h1,h2⟩
theorem Xo(b:Rz xs)(j:Nat):below xs j<=xs.size/\(∀i a,i<below xs j->xs[i]?=some a->a<j)/\(∀i a,below xs j<=i->xs[i]?=some a->j<=a) :=
 Xn b xs.size 0 xs.size (by lia) (aa5 _) (aao _) (λi a h=>absurd h (adh _)) (λi a h1 h2=>by
  grind)
theorem Jz{α:Type}(xs:Array α)(p:Nat)(x:α)(hp:p<=xs.size)(i:Nat):(insertAt xs p x)[i]?=if i<p then xs[i]? else if i=p then some x else xs[i-1]?:=by
 have e:insertAt xs p x=(xs.toList.take p++x::xs.toList.drop p).toArray:=by
  unfold insertAt
  apply Array.ext'
  simp
  rw[List.take_of_length_le (by rw[length_drop,length_toList];exact aao _)]
 rw[e,getElem?_toArray]
 have hl:p<=xs.toList.length:=by simpa using hp
 by_cases h1:i<p
 ·rw[if_pos h1,getElem?_append_left (by rw[length_take];omega),getElem?_take_of_lt h1,getElem?_toList]
 ·rw[if_neg h1,getElem?_append_right (by rw[length_take];omega),length_take,Nat.min_eq_left hl]
  by_cases h2:i=p
  ·subst h2;simp
  ·rw[if_neg h2]
   obtain⟨k,rfl⟩:∃k,i=p+1+k:=⟨i-(p+1),by omega⟩
   rw[show p+1+k-p=k+1 by omega,List.getElem?_cons_succ,List.getElem?_drop,getElem?_toList]
   congr 1
   omega
theorem JB(hr:Rz xs)(hn:xs[below xs j]?≠some j):Rz (insertAt xs (below xs j) j):=by
 obtain⟨b1,b2,b3⟩:=Xo hr j
 intro i k a b hik ha hb
 rw[Jz _ _ _ b1] at ha hb
 generalize below xs j=p at *
 have up:∀m c,p<=m->xs[m]?=some c->j<c:=λm c hm hc=>by
  have h1:=b3 m c hm hc
  by_cases e:m=p
  ·subst e
   have:c≠j:=λz=>hn (by rw[hc,z])
   omega
  ·have hp:p<xs.size:=by
    have:m<xs.size:=by
     by_cases z:m<xs.size
     ·exact z
     ·rw[abq (by omega)] at hc;cases hc
    omega
   have h2:=hr p m _ c (by omega) (aav hp) hc
   have h3:=b3 p _ (aao _) (aav hp)
   omega
 by_cases i1:i<p
 ·rw[if_pos i1] at ha
  have ja:=b2 i a i1 ha
  by_cases k1:k<p
  ·rw[if_pos k1] at hb;exact hr i k a b hik ha hb
  ·rw[if_neg k1] at hb
   by_cases k2:k=p
   ·rw[if_pos k2] at hb;cases hb;exact ja
   ·rw[if_neg k2] at hb
    exact adq ja (up (k-1) b (by omega) hb)
 ·rw[if_neg i1] at ha
  have k1:¬k<p:=by omega
  have k2:¬k=p:=by omega
  rw[if_neg k1,if_neg k2] at hb
  by_cases i2:i=p
  ·rw[if_pos i2] at ha;cases ha;exact up (k-1) b (by omega) hb
  ·rw[if_neg i2] at ha
   exact hr (i-1) (k-1) a b (by omega) ha hb
def Free(t:SetTable)(j:Nat):Prop:=t.place[below t.place j]?≠some j
theorem zK1{t:SetTable}(h:∀i,t.slot j≠.live i):Free t j:=λe=>by
 refine h (below t.place j) ?_
 unfold SetTable.slot
 simp[e]
theorem Xp:∀(a:Nat)(p:SetTable.Probe)(j:Nat)(d:Option Nat),(∀d,p.dummy=some d->Free t d)->probe.go t f h a p=some (.empty j d)->Free t j/\∀e,d=some e->Free t e
 |0,p,j,d,g,e=>by unfold probe.go at e;cases e
 |a+1,p,j,d,g,e=>by
  have b:∀q:SetTable.Probe,(t.advance q).dummy=q.dummy:=λq=>by
   unfold SetTable.advance
   grind
  unfold probe.go at e
  cases c:t.slot p.j with
  |empty =>
   rw[c] at e
   cases e
   exact⟨zK1 (λi z=>by grind),g⟩
  |dummy =>
   rw[c] at e
   refine Xp a _ j d (λl k=>?_) e
   rw[b] at k
   cases k
   exact zK1 λi z=>by grind
  |live i =>
   rw[c] at e
   dsimp only at e
   split at e
   ·cases e
   ·exact Xp a _ j d (λl k=>g l (by grind)) e
theorem zKf{t:SetTable}(e:t.freeSlot h=some (j,b)):Free t j:=by
 unfold SetTable.freeSlot at e
 split at e
 ·rename_i c d a
  cases e
  have q:=Xp _ _ c d (λd f=>by cases f) a
  cases d with
  |none=>exact q.1
  |some d=>grind
 grind
structure Tb(led:Bool)(t:SetTable):Prop where
 led:t.led=led
 rz:t.plain=true->Rz t.place
theorem T5(h:Tb led t)(n:Nat):Tb led (t.standIn n):=⟨h.led,λz=>by cases z⟩
theorem PX(h:Tb led t)(n:Nat):Tb led (t.orStandIn n):=by
 unfold SetTable.orStandIn
 split
 ·exact h
 ·exact T5 h n
theorem JC(a:Tb led t)(es:Array (Int×Value))(h:Int)(x:Value):Tb led (layNew t es h x).2.1:=by
 unfold layNew
 cases e:t.freeSlot h with
 |none=>exact T5 a _
 |some q =>
  obtain⟨j,b⟩:=q
  dsimp only
  refine PX (t:=(t.put j).1) ⟨a.led,λz=>?_⟩ _
  exact JB (a.rz z) (zKf e)
theorem zK9(f:Nat->Option Nat)(n:Nat):Rz (((aaz n).filterMap λj=>(f j).map (j,·)).map (·.1)).toArray:=by
 have p:(((aaz n).filterMap λj=>(f j).map (j,·)).map (·.1)).Pairwise (· < ·):=by
  rw[pairwise_map]
  refine Pairwise.filterMap _ ?_ (pairwise_lt_range (n:=n))
  intro a b g x c y d
  cases o:f a with
  |none=>rw[o] at c;cases c
  |some u =>
   cases h:f b with
   |none=>rw[h] at d;cases d
   |some v =>
    rw[o] at c
    rw[h] at d
    cases c
    cases d
    exact g
 intro i k a b e m l
 rw[getElem?_toArray] at m l
 obtain⟨q,t⟩:=aau.mp m
 obtain⟨r,s⟩:=aau.mp l
 rw[<-t,<-s]
 exact List.pairwise_iff_getElem.mp p i k q r e
theorem zWi(a:Tb led t)(es:Array (Int×Value))(n:Nat):Tb led (relayAll t es n).2.1:=by
 unfold relayAll
 cases e:t.relaid (es.map (·.1)) n with
 |none=>exact T5 a _
 |some q =>
  obtain⟨t',order⟩:=q
  dsimp only
  split
  ·unfold SetTable.relaid SetTable.laid at e
   cases b:SetTable.layClean (SetTable.sizeAbove n-1) (es.map (·.1)) with
   |none=>rw[b] at e;cases e
   |some owner =>
    rw[b] at e
    cases e
    exact⟨a.led,λ_=>zK9 _ _⟩
  ·exact T5 a _
theorem zWj(led:Bool):Tb led (.fresh 0 0 led):=⟨rfl,λ_=>λi k a b _ h _=>by
 have:(#[]:Array Nat)[i]?=some a:=h
 simp at this⟩
section
variable{prog:Program}{w:World}{κ:Type}[DecidableEq κ](knd:KeyKind prog w κ)(dec:Value->κ)
def Good(led:Bool)(h:Heap)(a:Addr)(ks:List κ):Prop :=
 ∃o b c t,h.get? a=some o/\o.ExactSet/\o.data=.set b c t/\ElemsOf knd b.toList/\(b.toList.map λe=>dec e.2).Perm ks/\ks.Nodup/\b.size<scanBound/\t.fits b.size=true/\Tb led t
variable{knd}{dec}{led:Bool}{A:Around}{E:Value->Shared->Prop}{s:Shared}
theorem Good.len(g:Good knd dec led h a ks):ks.length<scanBound:=by
 obtain⟨o,es,ep,t,_,_,_,_,p,_,b,_⟩:=g
 rw[<-p.length_eq,length_map]
 exact b
theorem Good.keep{h':Heap}(g:Good knd dec led h a ks)(k:∀o,h.get? a=some o->h'.get? a=some o):Good knd dec led h' a ks:=by
 obtain⟨o,d,c,t,e,b⟩:=g
 exact⟨o,d,c,t,k _ e,b⟩
theorem zL6(hdec:∀k v,knd.is k v=true->dec v=k)(b:ElemsOf knd es)(k:κ):es.findIdx? (λe=>knd.is k e.2)=none↔k∉es.map λe=>dec e.2:=by
 constructor
 ·intro h c
  obtain⟨e,d,rfl⟩:=mem_map.mp c
  obtain⟨⟨k',hk,_⟩,_⟩:=b e d
  grind
 grind
theorem Gw{h:Heap}(c:h.get? a=some o)(b:o.data=.set es ep t):(h.update a (aeu es' t')).get? a=some { o with data:=.set es' (ep+1) t' }:=by
 have q:=get?_update_self (aeu es' t') c (by rw[putSet_of es' t' b];rfl)
 rw[putSet_of es' t' b] at q
 exact q
theorem Xq{Q:Unit->Shared->Prop}(h:Q () a):wpAny (model prog w) A (match b with|true=>rule "set.scan.the-table-gave-way" | false=>pure ()) Q E a:=by
 cases b
 ·exact aal h
 ·exact adz h
theorem zP6{g:Bool->Sem Unit}(hg:∀(b:Bool) (s₁:Shared) (Q':Unit->Shared->Prop),Q' () s₁->wpAny (model prog w) A (g b) Q' E s₁){es1:Array (Int×Value)}{t2:SetTable}{R:Option Bool->Shared->Prop}(ho:s.heap.get? a=some o)(hx:o.ExactSet)(hd:o.data=.set es ep t)(hel:ElemsOf knd es1.toList)(hp:(es1.toList.map λe=>dec e.2).Perm ks)(nd:ks.Nodup)(hb:es1.size<scanBound)(hf:t2.fits es1.size=true)(tb:Tb led t2)(h:∀h',SameBut a s.heap h'->Good knd dec led h' a ks->R (some true) { s with heap:=h' }) :
  wpAny (model prog w) A (storeSet a es1 t2 >>= λ_=>if(!dum&&t2.tooFull)=true then(g (relayAll t2 es1 (grown es1.size)).2.2 >>= λ_=>storeSet a (relayAll t2 es1 (grown es1.size)).1 (relayAll t2 es1 (grown es1.size)).2.1 >>= λ_=>pure (some true)) else pure (some true)) R E s:=by
 refine aak (ab6 ho hd ?_ (ab0 hb))
 have o1:=Gw (es':=es1) (t':=t2) ho hd
 have sb:=SameBut.update s.heap a (aeu es1 t2)
 split
 ·have rp:=relayAll_perm t2 es1 (grown es1.size)
  have rf:=relayAll_fits t2 es1 (grown es1.size)
  have rt:=zWi tb es1 (grown es1.size)
  generalize relayAll t2 es1 (grown es1.size)=L at rp rf rt ⊢
  obtain⟨es2,t3,gv⟩:=L
  dsimp only at rp rf rt ⊢
  have sz:es2.size=es1.size:=by rw[<-length_toList,rp.length_eq,length_toList]
  refine aak (hg _ _ _ (aak (ab6 o1 rfl (aal (h _ (sb.trans (SameBut.update _ a _)) ⟨_,es2,_,t3,Gw (es':=es2) (t':=t3) o1 rfl,hx,rfl,hel.perm rp,(rp.map _).trans hp,nd,by rw[sz];exact hb,rf,rt⟩)) (ab0 (by rw[sz];exact hb)))))
 ·exact aal (h _ sb ⟨_,es1,_,t2,o1,hx,rfl,hel,hp,nd,hb,hf,tb⟩)
theorem JD(h:Tb led t):Tb led { t with plain:=false }:=⟨h.led,λz=>by cases z⟩
theorem P0(f:∀k v,knd.is k v=true->dec v=k){Q:Bool->Shared->Prop}(N:knd.is k x=true)(K:x.scannable=true)(g:Good knd dec led s.heap a ks)(i:ks.length+1<scanBound)(h:∀(h':Heap) (b:Bool),SameBut a s.heap h'->Good knd dec led h' a (if k∈ks then ks else k::ks)->Q b { s with heap:=h' }) :
  wpAny (model prog w) A (setAddHashed a x (knd.hash k)) Q E s:=by
 obtain⟨o,d,Z,t,r,O,F,c,G,X,V,S,U⟩:=g
 have n:d.size=ks.length:=by rw[<-G.length_eq,length_map,length_toList]
 unfold setAddHashed setAddHashedIn
 refine aa7 (aak (aa1 r F S ?_))
 dsimp only
 rw[byScan_of K V c]
 simp only[↓reduceIte]
 unfold setAddByScan
 refine aak (aak (adz (aak (wpAny_setScan_of N r F S c ?_))))
 have T:=zL6 f c k
 cases P:List.findIdx? (λe=>knd.is k e.2) d.toList with
 |some j =>
  have M:k∈ks:=by
   refine G.mem_iff.mp (abt λz=>?_)
   rw[T.mpr z] at P
   cases P
  dsimp only
  refine aal (aal ?_)
  have q:=h s.heap false (SameBut.refl a s.heap)
  rw[if_pos M] at q
  exact q ⟨o,d,Z,t,r,O,F,c,G,X,V,S,U⟩
 |none =>
  have M:k∉ks:=λz=>T.mp P (G.mem_iff.mpr z)
  dsimp only
  have m:=layNew_perm t d (knd.hash k) x
  have H:=layNew_fits t d (knd.hash k) x
  have C:=JC U d (knd.hash k) x
  generalize layNew t d (knd.hash k) x=L at m H C ⊢
  obtain⟨B,t1,D,gave⟩:=L
  dsimp only at m H C ⊢
  rw[Array.toList_push] at m
  have W:B.size=d.size+1:=by rw[<-length_toList,m.length_eq,length_append,length_toList];rfl
  have y:(B.toList.map λe=>dec e.2).Perm (k::ks):=by
   refine(m.map _).trans ?_
   rw[map_append]
   show(_++[dec x]).Perm _
   rw[f k x N]
   exact Perm.trans (l₂:=k::d.toList.map λ(e:Int×Value)=>dec e.2) List.perm_append_comm (G.cons k)
  have I:∀h',SameBut a s.heap h'->Good knd dec led h' a (k::ks)->Q true { s with heap:=h' }:=λh' J p=>by
   have q:=h h' true J
   rw[if_neg M] at q
   exact q p
  have u:(k::ks).Nodup:=nodup_cons.mpr ⟨M,X⟩
  refine aak (Xq ?_)
  split
  ·refine aak ?_
   rw[hashByValue_scannable 8 K]
   refine aal ?_
   refine zP6 (led:=led) (dum:=D) (λb Y Q' R=>Xq R) r O F ((c.push N K).perm m) y u (by rw[W,n];exact i) ?_ ?_ λh' J p=>?_
   ·split
    ·exact H
    ·exact SetTable.fits_plain_off H
   ·split
    ·exact C
    ·exact JD C
   ·exact aal (I h' J p)
  ·refine aak (aal ?_)
   simp only[↓reduceIte]
   refine zP6 (led:=led) (dum:=D) (λb Y Q' R=>Xq R) r O F ((c.push N K).perm m) y u (by rw[W,n];exact i) H C λh' J p=>?_
   exact aal (I h' J p)
end
open PySem PySem.Spec PyProof.Rows
section
variable{κ:Type}[DecidableEq κ]
def met(a:Nat->κ):Nat->List κ
 |0=>[]
 |i+1=>if a i∈met a i then met a i else a i::met a i
theorem zUd(a:Nat->κ):∀i,(met a i).length<=i
 |0=>aao _
 |i+1=>by
  have ih:=zUd a i
  unfold met
  grind
theorem Xr(a:Nat->κ)(k:κ):∀i,k∈met a i↔∃j,j<i/\a j=k
 |0=>by simp[met]
 |i+1=>by
  have ih:=Xr a k i
  show k∈(if a i∈met a i then met a i else a i::met a i)↔_
  grind
variable{prog:Program}{w:World}{knd:KeyKind prog w κ}{dec:Value->κ}{led:Bool}{A:Around}{R:Result->Shared->Prop}{I:Addr}{fp wr:List Addr}{G:Array GenState->Array GenState->Prop}{n:Nat}{P:Nat->Value->Prop}{St:Nat->Shared->Prop}
theorem Cw(p:∀k v,knd.is k v=true->dec v=k)(W:WalksS prog w A.in1 I fp wr G n P St)(S:Addr)(u:S∉fp)(a:Nat->κ)(r:∀i v,P i v->knd.is (a i) v=true/\v.scannable=true)(f:n+1<scanBound) :
  ∀(k i:Nat)(s:Shared),n-i=k->i<=n->St i s->Good knd dec led s.heap S (met a i)->(∀s',Moved (S::wr) G s s'->Good knd dec led s'.heap S (met a n)->R (.ok (.ret .none)) s')->codeAny (model prog w) A (.builtin "set.update.loop" ⟨[.ref S,.ref I],[]⟩) R s:=by
 have c:S∉wr:=λh=>u (W.sub _ h)
 have j:∀b∈wr,b∈S::wr:=λb f=>mem_cons_of_mem _ f
 intro k
 induction k with
 |zero =>
  intro i s H E st g d
  have e:i=n:=by lia
  subst e
  refine acy F.entry_set_update_loop ?_
  rw[aci adn _]
  refine aak (m:=pyNext (.ref I)) (W.done s _ _ st λs' l=>?_)
  exact aal (d s' (l.mono j) (g.keep λo h=>l.heap S o c h))
 |succ k ih =>
  intro i s H E st g d
  have C:i<n:=by lia
  refine acy F.entry_set_update_loop ?_
  rw[aci adn _]
  refine aak (m:=pyNext (.ref I)) (W.item i s _ _ C st λv s' J z l=>?_)
  obtain⟨q,x⟩:=r i v J
  refine aak (m:=holding [v] (setAdd S v)) (aa7 ?_)
  unfold setAdd
  refine aa7 (aak (knd.pyHash (k:=a i) q ?_))
  refine P0 (led:=led) (s:={ s' with toks:=s'.toks+1 }) p q x (g.keep λo h=>l.heap S o c h) (by have:=zUd a i;lia) λh' b D L=>?_
  refine aal ⟨ad1 adn _,ih (i+1) _ (by lia) C (W.frame _ s' _ _ z (abw _) λb f o e=>?_) L λy t B=>?_⟩
  ·rw[D.2 b (λh:b=S=>u (by rw[<-h];exact f))];exact e
  ·refine d y (Moved.trans W.gtrans ((l.mono j).then_heap (abw _) λb o f e=>?_) t) B
   rw[D.2 b (λh:b=S=>f (h▸mem_cons_self))];exact e
end
section
variable{prog:Program}{w:World}{A:Around}{E:Value->Shared->Prop}{s:Shared}
def zX(w:World):Bool:=!w.params.followText "set-order"
theorem zXp(a:Value){Q₁:Value->Shared->Prop}(h:Q₁ (.ref s.heap.objs.size) { s with heap:=s.heap.push { cls:=.type "set",dict:=none,data:=.set #[] 0 (.fresh 0 0 (zX w)) } }) :
  codeAny (model prog w) A (.call (.builtin "set.__new__") ⟨[.type "set",a],[]⟩) (wants Q₁ E) s:=by
 refine codeAny_of_tree (aak (m:=checkBuiltinCall "set.__new__" ⟨[.type "set",a],[]⟩) (wpAny_of_eq (F.newCall_set_1 a) (aal ⟨ad1 F.plain_set_new _,acy F.entry_set_new ?_⟩)))
 rw[aci F.plain_set_new _]
 unfold Builtin.«set.__new__» Builtin.Frozenset.newClass
 have sub:=aeh
 obtain⟨hp,g,d,tk,os⟩:=s
 dsimp only
 wp_walk
 refine ac8 (aal ?_)
 dsimp only
 simp only[newObj]
 exact aak (wpAny_alloc (aal (aal h)))
theorem Mp{κ:Type}[DecidableEq κ]{knd:KeyKind prog w κ}{dec:Value->κ}{h:Heap}(e:h.get? a=some { cls:=.type "set",dict:=none,data:=.set #[] 0 (.fresh 0 0 led) }):Good knd dec led h a [] :=
 ⟨_,#[],0,.fresh 0 0 led,e,⟨rfl,rfl,rfl⟩,rfl,λx hx=>by simp at hx,by simp,List.nodup_nil,by show 0<4096;decide,by cases led<;>rfl,zWj led⟩
set_option maxHeartbeats 4000000 in
theorem zP3{κ:Type}[DecidableEq κ]{knd:KeyKind prog w κ}{dec:Value->κ}(hdec:∀k v,knd.is k v=true->dec v=k){Q:Value->Shared->Prop}(val:Nat->κ)(hh:A.handled=none)(hl:s.heap.IsList l items)(hi:∀(i:Nat) (v:Value),items[i]?=some v->knd.is (val i) v=true/\v.scannable=true)(hb:items.size+1<scanBound)(h:∀(h':Heap) (tk:Nat),Good knd dec (zX w) h' s.heap.objs.size (met val items.size)->(∀b o,b<s.heap.objs.size->s.heap.get? b=some o->h'.get? b=some o)->Q (.ref s.heap.objs.size) { s with heap:=h',toks:=tk }) :
  wpAny (model prog w) A (call (.type "set") [.ref l]) Q E s:=by
 obtain⟨c,tl,hmro⟩:=F.called_set.mro
 have hmade:=F.called_set.made
 have hsub:=F.called_set.sub
 refine wpAny_call (codeAny_of_tree (aal ⟨Code.quiet_builtin _ (by trivial),acy F.entry_type_call ?_⟩))
 rw[Around.under_plain (weight_type_call_type "set" [.ref l] []) rfl]
 have h1:=F.called_set.notType
 have h2:=F.called_set.canCreate
 have hct:=F.typeCall_set_1 (.ref l)
 repeat(any_goals (first|assumption|wp_step))
 refine ac7 (zXp (.ref l) (E:=E) (Q₁:=λobj s₁=>obj=.ref s.heap.objs.size/\s₁={ s with heap:=s.heap.push { cls:=.type "set",dict:=none,data:=.set #[] 0 (.fresh 0 0 (zX w)) } }) ⟨rfl,rfl⟩) λr s₁ hr=>?_
 cases r with
 |error e=>exact hr
 |ok fl =>
  cases fl with
  |ret obj =>
   obtain⟨rfl,rfl⟩:=hr
   have hS:(s.heap.push { cls:=.type "set",dict:=none,data:=.set #[] 0 (.fresh 0 0 (zX w)) }).get? s.heap.objs.size=some { cls:=.type "set",dict:=none,data:=.set #[] 0 (.fresh 0 0 (zX w)) }:=get?_push_size _ rfl
   have hT:Shared.TypeIs { s with heap:=s.heap.push { cls:=.type "set",dict:=none,data:=.set #[] 0 (.fresh 0 0 (zX w)) } } (.ref s.heap.objs.size) "set":=⟨_,hS,rfl⟩
   have hli:=F.called_set.init.lookup
   have hbi:=F.called_set.init.bind (.ref s.heap.objs.size)
   repeat(any_goals (first|assumption|wp_step))
   refine ac7 (codeAny_call_builtin (R:=wants (λr s₂=>r=.none/\∃h' tk,s₂={ s with heap:=h',toks:=tk }/\Good knd dec (zX w) h' s.heap.objs.size (met val items.size)/\(∀b o,b<s.heap.objs.size->s.heap.get? b=some o->h'.get? b=some o)) E)
    F.called_set.init.plain F.entry_set_init (check_set_init_1 hT ?_)) λr₂ s₂ hr₂=>?_
   ·obtain⟨ol,hol,hcl,nl,hdl⟩:=hl
    obtain⟨ocls,odict,odata,oslots⟩:=ol
    simp only at hcl hdl
    subst hcl
    subst hdl
    have hol':(s.heap.push { cls:=.type "set",dict:=none,data:=.set #[] 0 (.fresh 0 0 (zX w)) }).get? l=some { cls:=.type "list",dict:=odict,data:=.seq items nl,slots:=oslots }:=get?_push_of_some _ hol
    have hsls:=F.sub_list_set
    have hslf:=F.sub_list_frozenset
    have hne:(adx "list" == adx "dict")=false:=by decide
    have hl1:(s.heap.push { cls:=.type "set",dict:=none,data:=.set #[] 0 (.fresh 0 0 (zX w)) }).IsList l items:=⟨_,hol',rfl,nl,rfl⟩
    unfold Builtin.«set.__init__» noKeywords Builtin.Frozenset.updateFrom
    generalize hPI:pyIter=PI
    wp_walk
    subst hPI
    refine adv hl1 (aak (wpAny_runValue ?_))
    have hlS:l<s.heap.objs.size:=lt_size hol
    have sz:(s.heap.push { cls:=.type "set",dict:=none,data:=.set #[] 0 (.fresh 0 0 (zX w)) }).objs.size=s.heap.objs.size+1:=size_push ..
    have hneI:l≠(s.heap.push { cls:=.type "set",dict:=none,data:=.set #[] 0 (.fresh 0 0 (zX w)) }).objs.size:=by rw[sz];exact aat (ac2 hlS)
    refine Cw (led:=zX w) hdec ((Walks.list (by simp[hh]) _ l hneI items).toS) s.heap.objs.size (by
     rw[sz]
     intro z
     rcases mem_cons.mp z with z|z
     ·exact absurd z (aat (ab9 _))
     ·exact absurd (mem_singleton.mp z) (adt hlS)) val hi hb (items.size-0) 0 _ (by omega) (aa5 _) ⟨⟨_,get?_push_size _ rfl,rfl,rfl⟩,hl1.push _⟩ (Mp (get?_push_of_some _ hS)) λs' hm g'=>?_
    obtain⟨h',g1,d1,tk',os1⟩:=s'
    have eg:g1=s.gens:=hm.gens
    have ed:d1=s.drawn:=hm.drawn
    have eo:os1=s.os:=hm.os
    subst eg ed eo
    refine aal ?_
    refine aal ⟨rfl,h',tk',rfl,g',λb o hb e=>hm.heap b o (λz=>?_) (get?_push_of_some _ (get?_push_of_some _ e))⟩
    rcases mem_cons.mp z with z|z
    ·exact absurd z (aat hb)
    ·have z:=mem_singleton.mp z
     rw[sz] at z
     exact absurd z (aat (ac2 hb))
   ·cases r₂ with
    |error e=>exact hr₂
    |ok fl₂ =>
     cases fl₂ with
     |ret r =>
      obtain⟨rfl,h',tk,rfl,hS',hk'⟩:=hr₂
      repeat(any_goals (first|assumption|wp_step))
      exact h _ _ hS' hk'
     |_=>exact hr₂.elim
  |_=>exact hr.elim
end
theorem zOs:Manifest.owners.lookup (String.ofList ['r','o','t','a','r','e','t','i','_','t','e','s'].reverse)=some Manifest.sig_set_iterator:=by kernel_rfl
theorem gQ:Slot "set_iterator" "__next__" "set_iterator.__next__":=.of (owner:="set_iterator") (n:="__next__") (by rw[aei,adw];kernel_rfl) (by trivial) (by trivial) (by trivial) (by first|exact .inl (by trivial)|grind) (by rw[isSubtype_type];kernel_rfl)
theorem zJn:entryFor table "set_iterator.__next__" = some Builtin.«set_iterator.__next__»:=entryFor_of_tree (by kernel_rfl)
theorem zK4(a:Value):argsOk "set_iterator.__next__" ⟨[a],[]⟩:=by unfold argsOk;rw[signature?_of (n:=['_','_','t','x','e','n','_','_']) (by kernel_rfl) zOs];kernel_rfl
theorem zSy:Slot "set_iterator" "__iter__" "set_iterator.__iter__":=.of (owner:="set_iterator") (n:="__iter__") (by rw[aei,adw];kernel_rfl) (by trivial) (by trivial) (by trivial) (by first|exact .inl (by trivial)|exact .inr (by trivial)) (by rw[isSubtype_type];kernel_rfl)
theorem zJo:entryFor table "set_iterator.__iter__" = some Builtin.«dict_keyiterator.__iter__»:=ac4 (id':="dict_keyiterator.__iter__") (by kernel_rfl) rfl (by trivial) (by kernel_rfl)
theorem zK5(a:Value):argsOk "set_iterator.__iter__" ⟨[a],[]⟩:=by unfold argsOk;rw[signature?_of (n:=['_','_','r','e','t','i','_','_']) (by kernel_rfl) zOs];kernel_rfl
theorem zIc:entryFor table "set.__iter__" = some Builtin.«frozenset.__iter__»:=ac4 (id':="frozenset.__iter__") (by kernel_rfl) rfl (by trivial) (by kernel_rfl)
theorem m7:typeLookup (.type "set") "__len__" = pure (some (.builtin "set.__len__")):=by rw[aei,adw];kernel_rfl
section
variable{prog:Program}{w:World}{A:Around}{E:Value->Shared->Prop}{s:Shared}
theorem T6{α:Type}:∀{l:List α}{i:Nat}(h:i<l.length),(l[i]::l.eraseIdx i).Perm l
 |x::l,0,h=>.refl _
 |x::l,i+1,h=>by
  have a:i<l.length:=by grind
  have ih:=T6 a
  exact(Perm.swap _ _ _).trans (ih.cons x)
theorem zRy{Q:Nat->Shared->Prop}(a:0<n)(h:∀i d,i<n->Q i { s with drawn:=d }):wpAny (model prog w) A (choose src n) Q E s :=
 λ_ _ _=>⟨adt a,h _ _ (aes _ a)⟩
theorem zVg{α:Type}:∀(n:Nat)(xs:List α)(s:Shared)(Q:List α->Shared->Prop),xs.length=n->(∀ys d,ys.Perm xs->Q ys { s with drawn:=d })->wpAny (model prog w) A (drawOrder n xs) Q E s
 |0,xs,s,Q,hl,h=>by
  have e:xs=[]:=length_eq_zero_iff.mp hl
  subst e
  unfold drawOrder
  exact aal (h [] s.drawn (.refl _))
 |n+1,[],s,Q,hl,h=>by simp at hl
 |n+1,x::xs,s,Q,hl,h=>by
  unfold drawOrder
  refine aak (zRy (by rw[hl];omega) λi d hi=>?_)
  have e:(x::xs)[i]?=some (x::xs)[i]:=aam hi
  rw[e]
  refine aak (zVg n _ _ _ (by rw[length_eraseIdx,if_pos hi,hl];rfl) λys d' p=>?_)
  exact aal (h _ d' ((p.cons _).trans (T6 hi)))
theorem zTn{α:Type}(next:Nat->Nat):∀(fuel k:Nat)(left:List α)(out:Array α),left.length=fuel->(aez next fuel k left out).toList.Perm (out.toList++left)
 |0,k,left,out,hl=>by
  have e:left=[]:=length_eq_zero_iff.mp hl
  subst e
  unfold aez
  rw[append_nil]
 |fuel+1,k,left,out,hl=>by
  have hi:next k%left.length<left.length:=aes _ (by omega)
  unfold aez
  rw[aam hi]
  dsimp only
  refine(zTn next fuel (k+1) _ _ (by rw[length_eraseIdx,if_pos hi,hl];rfl)).trans ?_
  rw[Array.toList_push,append_assoc]
  exact Perm.append_left _ (T6 hi)
theorem Mq{α:Type}(next:Nat->Nat)(xs:Array α):(pickOrder next xs).toList.Perm xs.toList:=by
 have q:=zTn next xs.size 0 xs.toList #[] (by simp)
 exact q
variable{a it T:Addr}{o:Obj}{es:Array (Int×Value)}{ep:Nat}{t:SetTable}
theorem JF{Q:Bool->Shared->Prop}(h:Q (w.params.followText "set-order") s):wpAny (model prog w) A setsByText Q E s:=by
 exact aak (ac8 (aal h))
theorem zYf{Q:Bool->Shared->Prop}(c:s.heap.get? a=some o)(b:o.data=.set es ep t)(d:t.fits es.size=true)(h:Q (!w.params.followText "set-order" && (!t.plain&&decide (es.size > 1))) s):wpAny (model prog w) A (setDrawn a) Q E s:=by
 refine aak (aa1 c b d ?_)
 exact aak (JF (aal h))
theorem T7{Q:Array (Int×Value)->Shared->Prop}(c:s.heap.get? a=some o)(b:o.data=.set es ep t)(d:t.fits es.size=true)(h:Q es s):wpAny (model prog w) A (setEntries a) Q E s:=by
 exact aak (aa1 c b d (aal h))
theorem zLz{Q:Option (Value×Nat)->Shared->Prop}(d:s.heap.get? a=some o)(g:o.data=.set es ep t)(f:t.fits es.size=true)(c:w.params.followText "set-order" = true)(h:Q (((pickOrder (w.params.setOrder a ep) es)[i]?).map λe=>(e.2,b)) s):wpAny (model prog w) A (setNext a b i ep) Q E s:=by
 refine aak (aa1 d g f ?_)
 refine aak (JF ?_)
 rw[c]
 simp only[↓reduceIte,bne_self_eq_false]
 refine aak ?_
 refine aak (aa1 d g f ?_)
 refine aak (JF ?_)
 rw[c]
 refine aak (ac8 (aal ?_))
 exact aal h
theorem zIs{Q:Option (Value×Nat)->Shared->Prop}(ho:s.heap.get? a=some o)(hd:o.data=.set es ep t)(hf:t.fits es.size=true)(hb:w.params.followText "set-order" = false)(hl:t.led=true)(hn:(!t.plain&&decide (es.size > 1))=false)(h:Q (match es[below t.place slot]?,t.place[below t.place slot]? with|some (_,x),some j=>some (x,j+1)|_,_=>none) s):wpAny (model prog w) A (setNext a slot i ep) Q E s:=by
 unfold setNext
 refine aak (aa1 ho hd hf ?_)
 refine aak (JF ?_)
 rw[hb]
 simp only[↓reduceIte,aa3]
 show wpAny _ _ (if(!t.plain&&decide (es.size > 1))=true then _ else _) _ _ _
 rw[if_neg (by rw[hn];exact aan)]
 refine aak ?_
 show wpAny _ _ (if(!t.led&&!es.isEmpty)=true then _ else pure ()) _ _ _
 rw[if_neg (by rw[hl];exact aan)]
 exact aal (aal h)
theorem zQ8{Q:Value->Shared->Prop}(c:s.heap.get? a=some o)(b:o.data=.set es ep t)(e:t.fits es.size=true)(d:es[place]?=some x)(h:Q x.2 s):wpAny (model prog w) A (setNextDrawn a place ep) Q E s:=by
 refine aak (aa1 c b e ?_)
 simp only[bne_self_eq_false,d]
 exact aal h
def lC(first:Value)(i:Nat)(a:Addr)(n ep:Nat):Obj:={ cls:=.type "set_iterator",data:=.fields #[first,.int i 0,.ref a,.int n 0,.int ep 0] }
theorem zX0{Q:Value->Shared->Prop}(b:s.heap.get? a=some o)(n:o.ExactSet)(c:o.data=.set es ep t)(e:t.fits es.size=true)(m:(!w.params.followText "set-order" && (!t.plain&&decide (es.size > 1)))=false->Q (.ref s.heap.objs.size) { s with heap:=s.heap.push (lC (.int 0 0) 0 a es.size ep) })(h2:(!w.params.followText "set-order" && (!t.plain&&decide (es.size > 1)))=true->es.size<=sizeLine/\∀(d:Drawn) (ps:List Nat),ps.Perm (aaz es.size)->Q (.ref (s.heap.objs.size+1)) { s with drawn:=d,heap:=(s.heap.push { cls:=.type "tuple",data:=.seq (ps.map λ(i:Nat)=>ab3 i 0).toArray }).push (lC (.ref s.heap.objs.size) 0 a es.size ep) }) :
  wpAny (model prog w) A (pyIter (.ref a)) Q E s:=by
 have h:s.TypeIs (.ref a) "set":=⟨o,b,n.1⟩
 refine wpAny_pyIter_slot h F.slot_set_iter (abx F.slot_set_iter h zIc ?_ (F.args_set_iter_1 _))
 unfold Builtin.«frozenset.__iter__»
 refine aak (aal ?_)
 refine aak ?_
 unfold Builtin.Frozenset.sizeOf
 refine aak (T7 b c e (aal ?_))
 refine aak (zYf b c e ?_)
 cases j:(!w.params.followText "set-order" && (!t.plain&&decide (es.size > 1))) with
 |false =>
  simp only[aa3,↓reduceIte]
  refine aak (aal ?_)
  refine aak (abd b c e ?_)
  exact aak (acn (aal ⟨_,rfl,"set_iterator",_,⟨_,get?_push_size _ rfl,rfl⟩,gQ.lookup,m j⟩))
 |true =>
  obtain⟨k,h2⟩:=h2 j
  simp only[↓reduceIte]
  refine aak (zVg _ _ _ _ (by simp) λps d g=>?_)
  refine aak (wpAny_newTuple ?_ (by rw[length_map,g.length_eq,length_range];exact k))
  have f:=get?_push_of_some ({ cls:=.type "tuple",data:=.seq (ps.map λ(i:Nat)=>rawInt i).toArray }:Obj) b
  refine aak (abd (s:={ s with drawn:=d,heap:=_ }) f c e ?_)
  refine aak (acn (aal ⟨_,rfl,"set_iterator",_,⟨_,get?_push_size _ rfl,rfl⟩,gQ.lookup,?_⟩))
  have q:=h2 d ps g
  have l:(s.heap.push ({ cls:=.type "tuple",data:=.seq (ps.map λ(i:Nat)=>ab3 i 0).toArray }:Obj)).objs.size=s.heap.objs.size+1:=size_push ..
  rw[<-l] at q
  exact q
end
section
variable{prog:Program}{w:World}{A:Around}{E:Value->Shared->Prop}{s:Shared}{a it T:Addr}{o:Obj}{es:Array (Int×Value)}{ep:Nat}{t:SetTable}{i:Nat}{first:Value}
theorem T8{Q:Option Value->Shared->Prop}(g:s.heap.get? it=some (lC first i a es.size ep))(l:s.heap.get? a=some o)(m:o.data=.set es ep t)(k:t.fits es.size=true)(h:wpAny (model prog w) A.in1 (if let .int d _:=first then do
    match <-setNext a d.toNat (i:Int).toNat (ep:Int).toNat with
    |some (x,next) =>
     setField (.ref it) 0 (rawInt next)
     setField (.ref it) 1 (rawInt ((i:Int)+1))
     ret x
    |none=>setField (.ref it) 2 .none;raiseNew (<-newExc (.type "StopIteration") [])
   else do
    let some c <-seqItems? first|unsupported "internal:set_iterator"
    match c[(i:Int).toNat]? with
    |some (.int place _) =>
     let x <-setNextDrawn a place.toNat (ep:Int).toNat
     setField (.ref it) 1 (rawInt ((i:Int)+1))
     ret x
    |some _=>unsupported "internal:set_iterator"
    |none=>setField (.ref it) 0 (rawInt 0);setField (.ref it) 2 .none;raiseNew (<-newExc (.type "StopIteration") []))
   (λf s'=>∃v,f=.done (.ret v)/\Q (some v) s')
   (λe s'=>s'.TypeIs e "StopIteration" /\ Q none s') s):wpAny (model prog w) A (pyNext (.ref it)) Q E s:=by
 have j:s.TypeIs (.ref it) "set_iterator":=⟨_,g,rfl⟩
 unfold pyNext
 refine aak (wpAny_attempt (wpAny_callSpecial?_slot j gQ (abx gQ j zJn ?_ (zK4 _))))
 refine aak (aal ?_)
 refine aak (wpAny_fieldsOf g rfl ?_)
 dsimp only
 refine aak (T7 l m k ?_)
 rw[if_neg (by simp)]
 exact abu h (λf s' ⟨v,e,q⟩=>⟨v,e,aal q⟩) λe s' ⟨n,q⟩=>aak (ady (T:="StopIteration") (b:=true) n isSubtype_stop (aal q))
theorem zSo{α:Type}{Q:α->Shared->Prop}{c:Value->Shared->Prop}(d:A.handled=none)(h:∀(e:Value) (h':Heap),(∀b u,s.heap.get? b=some u->h'.get? b=some u)->({ s with heap:=h' }:Shared).TypeIs e "StopIteration"->c e { s with heap:=h' }) :
  wpAny (model prog w) A (newExc (.type "StopIteration") [] >>= λe=>(raiseNew e:Sem α)) Q c s:=by
 refine aak ?_
 simp only[newExc,newTuple]
 refine aak (acn (aak (m:=firstArgMember _ _) (wpAny_of_eq (a:=adk) (by first|rfl|grind) (acn ?_ (by size_fits)))) (by size_fits))
 simp only[raiseNew]
 refine aak (wpAny_handled ?_)
 rw[d]
 refine aak (aal (wpAny_throw ?_))
 refine h _ _ (λb u e=>get?_push_of_some _ (get?_push_of_some _ e)) ?_
 exact⟨_,get?_push_size _ rfl,rfl⟩
theorem T9{f:Obj->Obj}(c:s.heap.get? it=some u)(b:(f u).isFreed=false):(s.heap.update it f).get? it=some (f u):=get?_update_self f c b
theorem Mr(c:b≠it)(e:s.heap.get? b=some u):(s.heap.update it f).get? b=some u:=(get?_update_other _ _ (acf c)).trans e
theorem zIu{Q:Option Value->Shared->Prop}{c next:Nat}{n:Tok}{x:Value}(d:s.heap.get? it=some (lC (.int c n) i a es.size ep))(p:s.heap.get? a=some o)(l:o.data=.set es ep t)(r:t.fits es.size=true)(q:∀(R:Option (Value×Nat)->Shared->Prop) (k:Value->Shared->Prop),R (some (x,next)) s->wpAny (model prog w) A.in1 (setNext a c i ep) R k s)(h:∀h',h'.get? it=some (lC (.int next 0) (i+1) a es.size ep)->(∀b u,b≠it->s.heap.get? b=some u->h'.get? b=some u)->Q (some x) { s with heap:=h' }):wpAny (model prog w) A (pyNext (.ref it)) Q E s:=by
 refine T8 d p l r ?_
 dsimp only
 refine aak (q _ _ ?_)
 dsimp only
 refine aak (ac5 d rfl (by simp) ?_)
 have j:=T9 (f:=aeb (·.setIfInBounds 0 (rawInt next))) d rfl
 refine aak (ac5 j rfl (by simp) ?_)
 have m:=T9 (s:={ s with heap:=_ }) (f:=aeb (·.setIfInBounds 1 (rawInt ((i:Int)+1)))) j rfl
 exact aal ⟨x,rfl,h _ m λb u g e=>Mr g (Mr g e)⟩
theorem zMd{Q:Option Value->Shared->Prop}{c:Nat}{n:Tok}(p:A.handled=none)(d:s.heap.get? it=some (lC (.int c n) i a es.size ep))(r:s.heap.get? a=some o)(l:o.data=.set es ep t)(f:t.fits es.size=true)(j:∀(R:Option (Value×Nat)->Shared->Prop) (g:Value->Shared->Prop),R none s->wpAny (model prog w) A.in1 (setNext a c i ep) R g s)(h:∀h',(∀b u,b≠it->s.heap.get? b=some u->h'.get? b=some u)->Q none { s with heap:=h' }):wpAny (model prog w) A (pyNext (.ref it)) Q E s:=by
 refine T8 d r l f ?_
 refine aak (j _ _ ?_)
 refine aak (ac5 d rfl (by simp) ?_)
 exact zSo (by simp[p]) λe h' k q=>⟨q,h h' λb u m e=>k b u (Mr m e)⟩
theorem zRf{Q:Option Value->Shared->Prop}{ps:List Nat}(c:s.heap.get? it=some (lC (.ref T) i a es.size ep))(g:s.heap.get? a=some o)(j:o.data=.set es ep t)(d:t.fits es.size=true)(n:s.heap.get? T=some { cls:=.type "tuple",data:=.seq (ps.map λ(i:Nat)=>ab3 i 0).toArray })(hp:ps[i]?=some place)(l:es[place]?=some x)(h:∀h',h'.get? it=some (lC (.ref T) (i+1) a es.size ep)->(∀b u,b≠it->s.heap.get? b=some u->h'.get? b=some u)->Q (some x.2) { s with heap:=h' }):wpAny (model prog w) A (pyNext (.ref it)) Q E s:=by
 refine T8 c g j d ?_
 dsimp only
 refine aak (wpAny_seqItems n rfl ?_)
 have e:((ps.map λ(i:Nat)=>ab3 i 0).toArray)[(i:Int).toNat]?=some (.int (place:Nat) 0):=by
  simp_all
 dsimp only
 rw[e]
 dsimp only
 refine aak (zQ8 g j d (x:=x) (by rw[ab4];exact l) ?_)
 refine aak (ac5 c rfl (by simp) ?_)
 have m:=T9 (f:=aeb (·.setIfInBounds 1 (rawInt ((i:Int)+1)))) c rfl
 exact aal ⟨x.2,rfl,h _ m λb u k e=>Mr k e⟩
theorem zVe{Q:Option Value->Shared->Prop}{ps:List Nat}(hh:A.handled=none)(hi:s.heap.get? it=some (lC (.ref T) i a es.size ep))(ho:s.heap.get? a=some o)(hd:o.data=.set es ep t)(hf:t.fits es.size=true)(hT:s.heap.get? T=some { cls:=.type "tuple",data:=.seq (ps.map λ(i:Nat)=>ab3 i 0).toArray })(hp:ps[i]?=none)(h:∀h',(∀b u,b≠it->s.heap.get? b=some u->h'.get? b=some u)->Q none { s with heap:=h' }):wpAny (model prog w) A (pyNext (.ref it)) Q E s:=by
 refine T8 hi ho hd hf ?_
 dsimp only
 refine aak (wpAny_seqItems hT rfl ?_)
 have e:((ps.map λ(i:Nat)=>ab3 i 0).toArray)[(i:Int).toNat]?=none:=by
  rw[ab4,getElem?_toArray,getElem?_map,hp]
  rfl
 dsimp only
 rw[e]
 dsimp only
 refine aak (ac5 hi rfl (by simp) ?_)
 have h1:=T9 (f:=aeb (·.setIfInBounds 0 (rawInt 0))) hi rfl
 refine aak (ac5 (s:={ s with heap:=_ }) h1 rfl (by simp) ?_)
 exact zSo (s:={ s with heap:=_ }) (by simp[hh]) λe h' k ty=>⟨ty,h h' λb u hb e=>k b u (Mr (s:={ s with heap:=_ }) hb (Mr hb e))⟩
end
section
variable{prog:Program}{w:World}{A:Around}{E:Value->Shared->Prop}{s:Shared}{a it T:Addr}{o:Obj}{es:Array (Int×Value)}{ep:Nat}{t:SetTable}
theorem Xu{Q:Value->Shared->Prop}(c:s.heap.get? it=some (lC first i a n ep))(h:Q (.ref it) s):wpAny (model prog w) A (pyIter (.ref it)) Q E s:=by
 have b:s.TypeIs (.ref it) "set_iterator":=⟨_,c,rfl⟩
 refine wpAny_pyIter_slot b zSy (abx zSy b zJo ?_ (zK5 _))
 exact aal ⟨_,rfl,"set_iterator",_,b,gQ.lookup,h⟩
theorem P_(b:t.fits es.size=true):t.place.size=es.size:=by
 unfold fits at b
 grind
theorem zRw(d:Rz xs):below xs 0=0:=by
 obtain⟨f,b,b3⟩:=Xo d 0
 cases e:below xs 0 with
 |zero=>rfl
 |succ k =>
  rw[e] at f b
  have c:0<xs.size:=by lia
  exact absurd (b 0 _ (aef k) (aav c)) (adh _)
theorem zRx(c:Rz xs)(h:xs[i]?=some j):below xs (j+1)=i+1:=by
 obtain⟨b1,d,b3⟩:=Xo c (j+1)
 generalize below xs (j+1)=p at *
 have h1:i<p:=by
  grind
 by_cases z:p=i+1
 ·exact z
 ·have b:i+1<xs.size:=by lia
  have q1:=d (i+1) _ (by lia) (aav b)
  have q2:=c i (i+1) j _ (by lia) h (aav b)
  lia
theorem zW3{xs:Array Nat}(h:xs.size<=1):Rz xs:=λi k a b hik ha hb=>by
 rw[abq (by omega)] at hb
 cases hb
theorem zQd(hh:A.handled=none)(hne:a≠it)(hd:o.data=.set es ep t)(hf:t.fits es.size=true)(hb:w.params.followText "set-order" = false)(hl:t.led=true)(hn:(!t.plain&&decide (es.size > 1))=false)(hr:Rz t.place) :
  Walks prog w A it [it,a] [it] es.size (λi v=>(es.toList.map (·.2))[i]?=some v) (λi h=>h.get? a=some o/\∃(slot:Nat)(tk:Tok),h.get? it=some (lC (.int slot tk) i a es.size ep)/\below t.place slot=i) where
 sub:=λb hb=>by simp at hb;simp[hb]
 frame:=λi h h' ⟨h1,slot,tk,h2,h3⟩ k=>⟨k a (by simp) _ h1,slot,tk,k it (by simp) _ h2,h3⟩
 item:=λi s Q E hi ⟨h1,slot,tk,h2,h3⟩ hQ=>by
  have hp:i<t.place.size:=by rw[P_ hf];exact hi
  refine zIu (x:=es[i].2) (next:=t.place[i]+1) h2 h1 hd hf (λR E' hR=>zIs h1 hd hf hb hl hn ?_) λh' hi' k=>?_
  ·rw[h3,aav hi,aav hp]
   exact hR
  ·refine hQ _ h' s.toks (by simp[hi]) ⟨k a o hne h1,_,_,hi',zRx hr (aav hp)⟩ λb u hb e=>k b u (λz=>hb (by simp[z])) e
 done:=λs Q E ⟨h1,slot,tk,h2,h3⟩ hQ=>by
  refine zMd hh h2 h1 hd hf (λR E' hR=>zIs h1 hd hf hb hl hn ?_) λh' k=>hQ h' s.toks λb u hb e=>k b u (λz=>hb (by simp[z])) e
  rw[h3,abq (aao _)]
  exact hR
 self:=λi s Q E ⟨h1,slot,tk,h2,h3⟩ hQ=>Xu h2 hQ
theorem zRz(hh:A.handled=none)(hne:a≠it)(hd:o.data=.set es ep t)(hf:t.fits es.size=true)(hb:w.params.followText "set-order" = true) :
  Walks prog w A it [it,a] [it] es.size (λi v=>((pickOrder (w.params.setOrder a ep) es).toList.map (·.2))[i]?=some v) (λi h=>h.get? a=some o/\∃(slot:Nat)(tk:Tok),h.get? it=some (lC (.int slot tk) i a es.size ep)) where
 sub:=λb hb=>by simp at hb;simp[hb]
 frame:=λi h h' ⟨h1,slot,tk,h2⟩ k=>⟨k a (by simp) _ h1,slot,tk,k it (by simp) _ h2⟩
 item:=λi s Q E hi ⟨h1,slot,tk,h2⟩ hQ=>by
  have hz:i<(pickOrder (w.params.setOrder a ep) es).size:=by rw[<-length_toList,(Mq _ es).length_eq,length_toList];exact hi
  refine zIu (x:=(pickOrder (w.params.setOrder a ep) es)[i].2) (next:=slot) h2 h1 hd hf (λR E' hR=>zLz h1 hd hf hb ?_) λh' hi' k=>?_
  ·rw[aav hz]
   exact hR
  ·refine hQ _ h' s.toks (by simp[hz]) ⟨k a o hne h1,_,_,hi'⟩ λb u hb e=>k b u (λz=>hb (by simp[z])) e
 done:=λs Q E ⟨h1,slot,tk,h2⟩ hQ=>by
  have hz:(pickOrder (w.params.setOrder a ep) es).size=es.size:=by rw[<-length_toList,(Mq _ es).length_eq,length_toList]
  refine zMd hh h2 h1 hd hf (λR E' hR=>zLz h1 hd hf hb ?_) λh' k=>hQ h' s.toks λb u hb e=>k b u (λz=>hb (by simp[z])) e
  rw[abq (by rw[hz];exact aao _)]
  exact hR
 self:=λi s Q E ⟨h1,slot,tk,h2⟩ hQ=>Xu h2 hQ
theorem zQe{ps:List Nat}(hh:A.handled=none)(hne:a≠it)(hnT:T≠it)(hd:o.data=.set es ep t)(hf:t.fits es.size=true)(hp:ps.Perm (aaz es.size)) :
  Walks prog w A it [it,a,T] [it] es.size (λi v=>(ps.map λp=>((es[p]?).map (·.2)).getD .none)[i]?=some v)
   (λi h=>h.get? a=some o/\h.get? T=some { cls:=.type "tuple",data:=.seq (ps.map λ(i:Nat)=>ab3 i 0).toArray }/\h.get? it=some (lC (.ref T) i a es.size ep)) where
 sub:=λb hb=>by simp at hb;simp[hb]
 frame:=λi h h' ⟨h1,h2,h3⟩ k=>⟨k a (by simp) _ h1,k T (by simp) _ h2,k it (by simp) _ h3⟩
 item:=λi s Q E hi ⟨h1,h2,h3⟩ hQ=>by
  have hl:ps.length=es.size:=by rw[hp.length_eq,length_range]
  have hi':i<ps.length:=by omega
  have hm:ps[i]<es.size:=mem_range.mp (hp.mem_iff.mp (getElem_mem hi'))
  refine zRf (place:=ps[i]) (x:=es[ps[i]]) h3 h1 hd hf h2 (aam hi') (aav hm) λh' hi' k=>?_
  refine hQ _ h' s.toks ?_ ⟨k a o hne h1,k T _ hnT h2,hi'⟩ λb u hb e=>k b u (λz=>hb (by simp[z])) e
  rw[getElem?_map,aam (by omega),Option.map_some,aav hm]
  rfl
 done:=λs Q E ⟨h1,h2,h3⟩ hQ=>by
  have hl:ps.length=es.size:=by rw[hp.length_eq,length_range]
  exact zVe hh h3 h1 hd hf h2 (abv (by omega)) λh' k=>hQ h' s.toks λb u hb e=>k b u (λz=>hb (by simp[z])) e
 self:=λi s Q E ⟨h1,h2,h3⟩ hQ=>Xu h3 hQ
end
section
variable{prog:Program}{w:World}{A:Around}{E:Value->Shared->Prop}{s:Shared}{a it T:Addr}{o:Obj}{es:Array (Int×Value)}{ep:Nat}{t:SetTable}
theorem zX3{Q:Bool->Shared->Prop}(d:s.TypeIs (.ref a) "set")(h:Q false s):wpAny (model prog w) A (Builtin.List.listLengthHint (.ref a)) Q E s:=by
 refine aak (wpAny_specialOf d F.slot_set_len.lookup ?_)
 generalize c:("set.__len__":String)=id0
 subst c
 refine aak (ady d aeh (aej (λb=>absurd b (by decide)) λ_=>aej (λ_=>aak (ae1 d (aal h))) λb=>absurd (by trivial) b))
theorem zUf{R:Result->Shared->Prop}{P:Nat->Value->Prop}{St:Nat->Heap->Prop}(W:Walks prog w A.in1 it fp [it] n P St)(l:n<=sizeLine)(g:S∉fp)(st:St 0 s.heap)(k:s.heap.get? S=some { cls:=.type "list",data:=.seq #[] p })(m:∀h' q acc h,(∀b u,b≠S->b≠it->s.heap.get? b=some u->h'.get? b=some u)->h'.get? S=some { cls:=.type "list",dict:=none,data:=.seq acc h,slots:=#[] }->ItemsOf P acc n->R (.ok (.ret res)) { s with heap:=h',toks:=q }) :
  codeAny (model prog w) A (.builtin "list.extend.loop" ⟨[.ref S,.ref it,res],[]⟩) R s:=by
 refine codeAny_extend_loopS W.toS l S g res n 0 _ #[] p rfl (aa5 _) st k (ItemsOf.nil _) λi acc h j f d=>?_
 rw[Moved.eq_with j]
 refine m i.heap i.toks acc h (λb u h1 h2 e=>j.heap b u (λz=>?_) e) f d
 grind
theorem Xv{R:Result->Shared->Prop}{P:Nat->Value->Prop}{St:Nat->Heap->Prop}(W:Walks prog w A.in1 it fp [it] n P St)(x:n<=sizeLine)(g:S∉fp)(B:s.TypeIs (.ref a) "set")(st:St 0 s.heap)(m:s.heap.get? S=some { cls:=.type "list",data:=.seq #[] c₀ })(v:∀h' q acc h,(∀b u,b≠S->b≠it->s.heap.get? b=some u->h'.get? b=some u)->h'.get? S=some { cls:=.type "list",dict:=none,data:=.seq acc h,slots:=#[] }->ItemsOf P acc n->R (.ok (.ret res)) { s with heap:=h',toks:=q }) :
  wpAny (model prog w) A.in1 (holding [.ref it] (Builtin.List.listLengthHint (.ref a)) >>= λj=>if(j||b)=true then(rule "list.extend.makes-room" >>= λ_=>Builtin.List.listTouch (.ref S) >>= λ_=>again (.builtin "list.extend.loop" ⟨[.ref S,.ref it,res],[]⟩)) else again (.builtin "list.extend.loop" ⟨[.ref S,.ref it,res],[]⟩))
   (λp s'=>match p with|.done f=>R (.ok f) s'|.again h=>h.quiet=true/\codeAny (model prog w) A h R s') (λe s'=>R (.error e) s') s:=by
 refine aak (aa7 (zX3 B ?_))
 refine aej (λ_=>?_) λ_=>aal ⟨ad1 F.plain_extend_loop _,zUf W x g st m v⟩
 refine aak (adz ?_)
 refine aak ?_
 show wpAny _ _ (updateSeq S (·.push .none) >>= λ_=>updateSeq S (·.pop)) _ _ _
 refine aak (wpAny_updateSeq m rfl ?_)
 have i:=get?_update_self (acw (·.push adk)) m rfl
 refine wpAny_updateSeq (hz:=by seq_fits) i rfl ?_
 have r:=get?_update_self (acw (·.pop)) i rfl
 have d:∀c u,c≠S->s.heap.get? c=some u->((s.heap.update S (acw (·.push adk))).update S (acw (·.pop))).get? c=some u:=λc u l e=>(get?_update_other _ _ (acf l)).trans ((get?_update_other _ _ (acf l)).trans e)
 refine aal ⟨ad1 F.plain_extend_loop _,zUf (s:={ s with heap:=_ }) W x g (W.frame 0 _ _ st λc l u e=>d c u (λz=>g (z▸l)) e) r λh' q acc h k D G=>v h' q acc h (λc u y C e=>k c u y C (d c u y e)) D G⟩
theorem Xw(h:ItemsOf (λi v=>b[i]?=some v) acc n)(d:b.length=n):acc.toList=b:=by
 apply ext_getElem?
 intro i
 rw[getElem?_toList]
 by_cases c:i<acc.size
 ·rw[aav c]
  exact(h.2 i _ (aav c)).symm
 ·rw[abq (by lia),abv (by rw[d,<-h.1];lia)]
theorem zQ0(es:Array (Int×Value)):(aaz es.size).map (λp=>((es[p]?).map (·.2)).getD adk)=es.toList.map (·.2):=by
 apply List.ext_getElem (by simp)
 intro i h1 h2
 have hi:i<es.size:=by simpa using h1
 simp[hi]
theorem zRm{R:Result->Shared->Prop}(X:A.handled=none)(m:s.heap.get? a=some o)(y:o.ExactSet)(J:o.data=.set es ep t)(x:t.fits es.size=true)(W:Tb (zX w) t)(hz:es.size<=sizeLine)(p:S≠a)(r:s.heap.get? S=some { cls:=.type "list",data:=.seq #[] c₀ })(U:∀h' q d acc h,(∀b u,b≠S->s.heap.get? b=some u->h'.get? b=some u)->h'.get? S=some { cls:=.type "list",dict:=none,data:=.seq acc h,slots:=#[] }->acc.toList.Perm (es.toList.map (·.2))->R (.ok (.ret res)) { s with heap:=h',toks:=q,drawn:=d }) :
  wpAny (model prog w) A.in1 (Builtin.List.listExtendWith (.ref S) (.ref a) res)
   (λP s'=>match P with|.done f=>R (.ok f) s'|.again h=>h.quiet=true/\codeAny (model prog w) A h R s') (λe s'=>R (.error e) s') s:=by
 have hT:s.TypeIs (.ref a) "set":=⟨o,m,y.1⟩
 have lta:a<s.heap.objs.size:=lt_size m
 have ltS:S<s.heap.objs.size:=lt_size r
 have Q:A.in1.handled=none:=by simp[X]
 unfold Builtin.List.listExtendWith
 refine aak (ae1 hT ?_)
 have h1:Builtin.List.listSameRef (.ref S) (.ref a)=false:=by simp[Builtin.List.listSameRef,p]
 simp only[h1,show(adx "set" == adx "list")=false by decide,show(adx "set" == adx "tuple")=false by decide,Bool.or_false,aa3,if_false]
 have g:∀{b:Addr}{u:Obj}{n:Nat},s.heap.get? b=some u->s.heap.objs.size<=n->b≠n:=λe H z=>absurd (lt_size e) (by rw[z];exact Nat.not_lt_of_le H)
 refine aak (zX0 m y J x (λN=>?_) λN=>⟨hz,λd C v=>?_⟩)
 ·have G:=get?_push_of_some (lC (.int 0 0) 0 a es.size ep) r
  have l:=get?_push_of_some (lC (.int 0 0) 0 a es.size ep) m
  have M:(s.heap.push (lC (.int 0 0) 0 a es.size ep)).get? s.heap.objs.size=some (lC (.int 0 0) 0 a es.size ep):=get?_push_size _ rfl
  have j:S∉[s.heap.objs.size,a]:=λz=>by
   rcases mem_cons.mp z with z|z
   ·exact g r (aao _) z
   ·exact p (mem_singleton.mp z)
  have F:a≠s.heap.objs.size:=g m (aao _)
  cases L:w.params.followText "set-order" with
  |true =>
   refine Xv (s:={ s with heap:=_ }) (zRz Q F J x L) hz j ⟨o,l,y.1⟩ ⟨l,0,0,M⟩ G λh' q acc h k D B=>?_
   refine U h' q s.drawn acc h (λb u n e=>k b u n (g e (aao _)) (get?_push_of_some _ e)) D ?_
   rw[Xw B (by rw[length_map,(Mq _ es).length_eq,length_toList])]
   exact(Mq _ es).map _
  |false =>
   have Z:t.led=true:=by rw[W.led];unfold zX;rw[L];rfl
   have H:(!t.plain&&decide (es.size > 1))=false:=by rw[L] at N;exact N
   have V:Rz t.place:=by
    cases v:t.plain with
    |true=>exact W.rz v
    |false =>
     rw[v] at H
     refine zW3 ?_
     rw[P_ x]
     have:¬es.size > 1:=of_decide_eq_false (by simpa using H)
     lia
   refine Xv (s:={ s with heap:=_ }) (zQd Q F J x L Z H V) hz j ⟨o,l,y.1⟩ ⟨l,0,0,M,zRw V⟩ G λh' q acc h k D B=>?_
   refine U h' q s.drawn acc h (λb u n e=>k b u n (g e (aao _)) (get?_push_of_some _ e)) D ?_
   rw[Xw B (by rw[length_map,length_toList])]
 ·have I:∀{b:Addr}{u:Obj},s.heap.get? b=some u->((s.heap.push { cls:=.type "tuple",data:=.seq (C.map λ(i:Nat)=>ab3 i 0).toArray }).push (lC (.ref s.heap.objs.size) 0 a es.size ep)).get? b=some u:=λe=>get?_push_of_some _ (get?_push_of_some _ e)
  have sz:(s.heap.push ({ cls:=.type "tuple",data:=.seq (C.map λ(i:Nat)=>ab3 i 0).toArray }:Obj)).objs.size=s.heap.objs.size+1:=size_push ..
  have M:((s.heap.push { cls:=.type "tuple",data:=.seq (C.map λ(i:Nat)=>ab3 i 0).toArray }).push (lC (.ref s.heap.objs.size) 0 a es.size ep)).get? (s.heap.objs.size+1)=some (lC (.ref s.heap.objs.size) 0 a es.size ep):=by
   rw[<-sz];exact get?_push_size _ rfl
  have O:((s.heap.push { cls:=.type "tuple",data:=.seq (C.map λ(i:Nat)=>ab3 i 0).toArray }).push (lC (.ref s.heap.objs.size) 0 a es.size ep)).get? s.heap.objs.size=some { cls:=.type "tuple",data:=.seq (C.map λ(i:Nat)=>ab3 i 0).toArray }:=get?_push_of_some _ (get?_push_size _ rfl)
  have j:S∉[s.heap.objs.size+1,a,s.heap.objs.size]:=λz=>by
   rcases mem_cons.mp z with z|z
   ·exact g r (abw _) z
   ·rcases mem_cons.mp z with z|z
    ·exact p z
    ·exact g r (aao _) (mem_singleton.mp z)
  refine Xv (s:={ s with drawn:=d,heap:=_ }) (zQe Q (g m (abw _)) (aat (ab9 _)) J x v) hz j ⟨o,I m,y.1⟩ ⟨I m,O,M⟩ (I r) λh' q acc h k D B=>?_
  refine U h' q d acc h (λb u n e=>k b u n (g e (abw _)) (I e)) D ?_
  rw[Xw B (by rw[length_map,v.length_eq,length_range])]
  have Y:=zQ0 es
  rw[<-Y]
  exact v.map _
theorem zHl{R:List Value->Shared->Prop}(G:A.handled=none)(r:s.heap.get? a=some o)(D:o.ExactSet)(z:o.data=.set es ep t)(H:t.fits es.size=true)(v:Tb (zX w) t)(hz:es.size<=sizeLine)(h:∀h' c d (acc:List Value),(∀b u,s.heap.get? b=some u->h'.get? b=some u)->acc.Perm (es.toList.map (·.2))->R acc { s with heap:=h',toks:=c,drawn:=d }) :
  wpAny (model prog w) A (collect (.ref a)) R E s:=by
 have B:a<s.heap.objs.size:=lt_size r
 unfold collect
 refine aak (wpAny_runValue (acy entry_proto_collect' ?_))
 rw[aci F.plain_proto_collect _]
 refine aak (m:=newList []) (acn (aal ⟨ad1 F.plain_list_iadd _,acy entry_list_iadd' ?_⟩))
 rw[aci F.plain_list_iadd _]
 have C:(s.heap.push { cls:=.type "list",data:=.seq ([]:List Value).toArray }).get? s.heap.objs.size=some { cls:=.type "list",data:=.seq #[] }:=get?_push_size _ rfl
 have l:=zRm (prog:=prog) (A:=A) (S:=s.heap.objs.size) (res:=.ref s.heap.objs.size) (s:={ s with heap:=s.heap.push { cls:=.type "list",data:=.seq ([]:List Value).toArray } })
  (R:=λ(q:Result) (n:Shared)=>∃(h':Heap)(c:Nat)(d:Drawn)(acc:Array Value)(g:Nat),q=.ok (.ret (.ref s.heap.objs.size))/\n={ s with heap:=h',toks:=c,drawn:=d }/\(∀b u,s.heap.get? b=some u->h'.get? b=some u) /\
   h'.get? s.heap.objs.size=some { cls:=.type "list",dict:=none,data:=.seq acc g,slots:=#[] }/\acc.toList.Perm (es.toList.map (·.2)))
  G (get?_push_of_some _ r) D z H v hz (adt B) C λh' c d acc g k j i=>⟨h',c,d,acc,g,rfl,rfl,λb u e=>k b u (aat (lt_size e)) (get?_push_of_some _ e),j,i⟩
 refine abu l (λp n x=>?_) λe n x=>?_
 ·cases p with
  |done f =>
   obtain⟨h',c,d,acc,g,e,rfl,k,j,i⟩:=x
   cases e
   refine aak (m:=load s.heap.objs.size) (wpAny_load j ?_)
   exact aal (h h' c d acc.toList k i)
  |again c1 =>
   refine⟨x.1,ac7 x.2 λq s2 y=>?_⟩
   obtain⟨h',c,d,acc,g,rfl,rfl,k,j,i⟩:=y
   refine aak (m:=load s.heap.objs.size) (wpAny_load j ?_)
   exact aal (h h' c d acc.toList k i)
 grind
end
end jU
namespace L2
open PySem PySem.Spec PyProof.Rows jU
def oK:Value->Int
 |.int k _=>k
 |_=>0
theorem T_:∀k v,(intKind P w).is k v=true->oK v=k:=λk v h=>by
 obtain⟨t,rfl⟩:=acj h
 rfl
theorem Inv.drew(I:Inv X a σ H s)(d:Drawn):Inv X a σ H { s with drawn:=d }:=⟨I.ok,I.os,I.bare,I.base,I.loc,I.cell,I.free,I.dU,I.pin,I.hok,I.len⟩
abbrev Cy:=St->Hp->(LI->Hp->Prop)->Prop
def StP(X:Cx)(b:List (Addr×Obj))(σ:St)(Q:LI->Hp->Prop)(v:Value)(s':Shared):Prop :=
 ∃(a:Addr)(d:LI)(c:Hp),v=.ref a/\Inv X b σ c s'/\Good (intKind X.prog X.w) oK (zX X.w) s'.heap a d/\iB X b c a/\Q d c
def wj(X:Cx)(e:Expr)(t:Cy):Prop:=∀(a:List (Addr×Obj))(s:Shared)(σ:St)(H:Hp)(Q:LI->Hp->Prop),Inv X a σ H s->t σ H Q->wpAny (model X.prog X.w) X.A (eval e X.env) (StP X a σ Q) X.xe s
section
variable{X:Cx}
theorem yAf:∀{ns:LI}{its:List Value},IntsAre its ns->∀{i:Nat}{v:Value},its[i]?=some v->∃t,v=.int (ns.getD i 0) t
 |_,_,.nil,i,v,h=>by simp at h
 |_,_,.cons n t r,0,v,h=>by simp at h;subst h;exact⟨t,rfl⟩
 |_,_,.cons n t r,i+1,v,h=>by
  obtain⟨t',e⟩:=yAf r (by simpa using h)
  exact⟨t',e⟩
theorem zVu:∀{ns:LI}{a:List Value},IntsAre a ns->a.length=ns.length
 |_,_,.nil=>rfl
 |_,_,.cons n t r=>congrArg (· + 1) (zVu r)
def Gx(K:Frag)(te:TE):Cy:=λσ H Q=>xI te aY σ H λd c=>∃(p:Addr)(b:LI),d=[.ref p]/\aW K c p (b.map V.int)/\b.length<4000/\∀a:LI,a.Nodup->(∀z,z∈a↔z∈b)->Q a c
theorem yAa:bootBuiltins "set" = some (.type "set"):=by trivial
theorem JG(K:Frag)(T:X.calm=true)(E:X.mg "set" = none)(U:PE X e te)(Z:X.K=K:=by rfl)(Y:Gl X "set":=by rfl)(A:starEach [e] X.env=[(false,eval e X.env)]:=by rfl):wj X (.Call (.Name "set" p) [e] [] pos) (Gx K te):=by
 subst Z
 intro c s σ H Q I h
 refine abf (tV I Y E yAa ?_)
 have C:PA X [e] (xI te aY):=zA U zF A
 refine abg (aP (C pos c s σ H _ I h) ?_) A rfl
 rintro us s1 ⟨vs,G,a,M,J⟩
 obtain⟨l,f,O,B,h4,q⟩:=J
 subst O
 cases M with
 |cons r L =>
  cases L
  cases r
  obtain⟨d,F,P,n⟩:=a.list B
  have u:IntsAre d f:=Xg F
  have y:=zVu u
  refine zP3 (knd:=intKind X.prog X.w) (dec:=oK) T_ (λi=>f.getD i 0) (a.ok.hd T) P.isList (λi v x=>?_) (by rw[size_toArray,y];show f.length+1<4096;lia) λR D g k=>?_
  ·obtain⟨t,rfl⟩:=yAf u (by rw[getElem?_toArray] at x;exact x)
   exact⟨intKind_is _ _ _ _,rfl⟩
  ·have S:=a.kept (h':=R) (t':=D) λb o e=>k b o (lt_size e) e
   obtain⟨_,_,_,_,_,_,_,_,_,N,_⟩:=id g
   refine⟨_,_,G,rfl,S,g,a.iC (aao _) (a.hok.fresh (aao _)),q _ N λz=>?_⟩
   rw[Xr,size_toArray,y]
   constructor
   ·grind
   ·intro n
    obtain⟨j,m,e⟩:=getElem_of_mem n
    exact⟨j,m,by rw[getD_eq_getElem?_getD,aam m];exact e⟩
def Qa(ts:Cy):TE:=λσ H Q=>ts σ H λb c=>b.length<64/\∀(l:Addr)(a:LI),c l=none->a.Perm b->a.Pairwise (· <= ·)->Q (.ref l) (upd c l (.lst (a.map V.int)))
theorem zPk:∀{vs:List Value},(∀v∈vs,∃k,(intKind P w).is k v=true)->IntsAre vs (vs.map oK)
 |[],_=>.nil
 |v::vs,h=>by
  obtain⟨k,a⟩:=h v mem_cons_self
  obtain⟨t,rfl⟩:=acj a
  exact .cons k t (zPk λu b=>h u (mem_cons_of_mem _ b))
theorem zWp(hc:X.calm=true)(I:Inv X pins σ H s)(g:Good (intKind X.prog X.w) oK (zX X.w) s.heap a ks)(h64:ks.length<64)(q:∀(l:Addr) (ms:LI),H l=none->ms.Perm ks->ms.Pairwise (· <= ·)->Q (.ref l) (upd H l (.lst (ms.map V.int)))):wpAny (model X.prog X.w) X.A (call (.builtin "sorted") [.ref a]) (EP X pins σ Q) X.xe s:=by
 obtain⟨o,es,ep,t,ho,hx,hd,hel,hp,nd,hb,hf,tb⟩:=g
 have hsz:es.size=ks.length:=by rw[<-hp.length_eq,length_map,length_toList]
 refine PySem.Calls.call_function_entry kind_sorted plain_sorted entry_sorted (args_sorted1 _) ?_
 unfold Builtin.«sorted»
 refine aak (m:=checkCount "sorted" 1 1 _) (aal ?_)
 refine aak (zHl (A:=X.A.in1) (I.ok.hd hc) ho hx hd hf tb (ab0 hb) λh' tk d acc hkeep hacc=>?_)
 have I':Inv X pins σ H { s with heap:=h',toks:=tk,drawn:=d }:=(I.kept (h':=h') (t':=tk) hkeep).drew d
 have hI:IntsAre acc (acc.map oK):=zPk (P:=X.prog) (w:=X.w) λv hv=>by
  obtain⟨e,he,rfl⟩:=mem_map.mp (hacc.mem_iff.mp hv)
  obtain⟨⟨k,hk,_⟩,_⟩:=hel e he
  exact⟨k,hk⟩
 have hpk:(acc.map oK).Perm ks:=by
  refine(hacc.map oK).trans ?_
  rw[map_map]
  exact hp
 have hal:acc.length=ks.length:=by rw[<-hpk.length_eq,length_map]
 have hsl:acc.length<=sizeLine:=by rw[hal];exact aby (adq h64 (by decide))
 refine aak (wpAny_newList ?_ hsl)
 have hoL:(h'.push (seqObj "list" acc.toArray 0)).get? h'.objs.size=some (seqObj "list" acc.toArray 0):=get?_push_size _ rfl
 refine aak (aa7 (abx slot_list_sort ⟨_,hoL,rfl⟩ entry_list_sort (list_sort_tree hoL hI (by omega) λout ns' a1 a2 a3=>⟨_,rfl,?_⟩) (args_list_sort _)))
 refine aal ⟨_,rfl,?_⟩
 obtain⟨e,he⟩:=sortedHeap_at (out:=out) hoL
 refine⟨.ref h'.objs.size,_,I'.laid (t':=tk) (o:=.lst (ns'.map V.int)) (λb ob w=>?_) (aao _) ?_,rfl,q _ ns' (I'.hok.fresh (aao _)) (a2.trans hpk) a3⟩
 ·have hb:h'.get? b=some ob:=w
  have hlt:=lt_size hb
  rw[sortedHeap_old (aat hlt) (by rw[size_push'];exact ac2 hlt),Heap.get?_push_ne _ _ _ (aat hlt)]
  exact hb
 ·refine⟨?_,out.toList,e,TF a1,?_⟩
  ·rw[length_map,a2.length_eq,length_map];exact hsl
  ·rw[toArray_toList];exact he
theorem Ua(n:X.calm=true)(j:X.mg "sorted" = none)(l:wj X e ts)(m:Gl X "sorted":=by rfl)(f:starEach [e] X.env=[(false,eval e X.env)]:=by rfl):PE X (.Call (.Name "sorted" p) [e] [] pos) (Qa ts):=by
 intro c s σ H Q I h
 refine abf (tV I m j (by trivial:bootBuiltins "sorted" = some (.builtin "sorted")) ?_)
 refine acv (Q:=_) ?_ f rfl
 rw[f]
 show wpAny _ _ (spliced ((false,eval e X.env)::backTo pos [])) _ _ s
 refine adi (aP (l c s σ H _ I h) ?_)
 rintro u s1 ⟨a,ks,H1,i,k,g,fo,d,q⟩
 subst i
 refine adp ?_
 exact zWp n k g d q
end
end L2
namespace Ts
open PySem L2
def m8(z:Int):LI->LI
 |[]=>[z]
 |y::a=>if z<y then z::y::a else if z=y then y::a else y::m8 z a
def iH(ns:LI):LI:=ns.foldr m8 []
noncomputable def iI(ns:LI):Option LI:=if ns.length<64 then some (iH ns) else none
theorem jV:∀{ys:LI},x∈m8 z ys↔x=z\/x∈ys
 |[]=>by simp[m8]
 |y::ys=>by
  unfold m8
  split
  ·simp
  ·split
   ·grind
   ·rw[mem_cons,jV]
    grind
theorem zUt:∀{ys:LI},ys.Pairwise (· < ·)->(m8 z ys).Pairwise (· < ·)
 |[],_=>by simp[m8]
 |y::ys,h=>by
  have h1:=pairwise_cons.mp h
  unfold m8
  split
  ·rename_i hz
   refine pairwise_cons.mpr ⟨λx hx=>?_,h⟩
   rcases mem_cons.mp hx with e|e
   ·rw[e];exact hz
   ·exact Int.lt_trans hz (h1.1 x e)
  ·split
   ·exact h
   ·refine pairwise_cons.mpr ⟨λx hx=>?_,zUt h1.2⟩
    rcases jV.mp hx with e|e
    ·rw[e];omega
    ·exact h1.1 x e
theorem bC:∀{ns:LI},x∈iH ns↔x∈ns
 |[]=>by simp[iH]
 |n::ns=>by
  show x∈m8 n (iH ns)↔_
  rw[jV,bC,mem_cons]
theorem Gy:∀ns:LI,(iH ns).Pairwise (· < ·)
 |[]=>.nil
 |n::ns=>zUt (Gy ns)
theorem JH:∀{xs ys:LI},xs.Pairwise (· < ·)->ys.Pairwise (· < ·)->(∀s,s∈xs↔s∈ys)->xs=ys
 |[],[],_,_,_=>rfl
 |[],y::ys,_,_,h=>absurd ((h y).mpr mem_cons_self) (by simp)
 |x::xs,[],_,_,h=>absurd ((h x).mp mem_cons_self) (by simp)
 |x::xs,y::ys,b,c,h=>by
  have a:=pairwise_cons.mp b
  have d:=pairwise_cons.mp c
  have e:x=y:=by
   rcases mem_cons.mp ((h x).mp mem_cons_self) with e|e
   ·exact e
   ·rcases mem_cons.mp ((h y).mpr mem_cons_self) with f|f
    ·grind
    grind
  subst e
  rw[JH a.2 d.2 λs=>?_]
  grind
theorem Ab:∀{ks ns:LI},ks.Nodup->(∀z∈ks,z∈ns)->ks.length<=ns.length
 |[],_,_,_=>aa5 _
 |k::ks,ns,d,h=>by
  obtain⟨a,b,e⟩:=List.append_of_mem (h k mem_cons_self)
  have c:=nodup_cons.mp d
  have q:=Ab (ns:=a++b) c.2 λz hz=>by
   grind
  grind
theorem Ms:∀{a:LI},a.Pairwise (· <= ·)->a.Nodup->a.Pairwise (· < ·)
 |[],_,_=>.nil
 |m::a,h,c=>by
  have d:=pairwise_cons.mp h
  have b:=nodup_cons.mp c
  refine pairwise_cons.mpr ⟨λx hx=>?_,Ms d.2 b.2⟩
  grind
section
variable{K:Frag}{B:Bs}{sl:SL K}{md:Md}{t:TE}
theorem zRp(h:Ex B sl .hp t m):Eo B sl md (Qa (Gx K t)) (m.bind iI):=λc a F O H σ Q s k=>by
 cases m with
 |none=>cases a
 |some b =>
  have a:iI b=some c:=a
  unfold iI at a
  split at a
  case isFalse=>cases a
  rename_i x
  cases a
  refine h b rfl F O H σ _ s λv w A g r=>?_
  obtain⟨p,vs,rfl,o,j⟩:=r
  have y:=j.vals
  subst y
  refine⟨p,b,rfl,aW.of o,by lia,λks i d=>⟨aaw (Ab i λz n=>(d z).mp n) x,λl ms q f u=>?_⟩⟩
  have e:=JH (Ms u (f.nodup_iff.mpr i)) (Gy b) λz=>by rw[f.mem_iff,d,bC]
  subst e
  exact k l _ w A g q (uS _)
end
end Ts
namespace jU
open PySem PySem.Spec PyProof.Rows
theorem zJt:entryFor table "set.__and__" = some Builtin.«frozenset.__and__»:=ac4 (id':="frozenset.__and__") (by kernel_rfl) rfl (by trivial) (by kernel_rfl)
section
variable{prog:Program}{w:World}{κ:Type}[DecidableEq κ]{knd:KeyKind prog w κ}{dec:Value->κ}{led:Bool}{A:Around}{E:Value->Shared->Prop}{s:Shared}
theorem Good.setOf(hdec:∀k v,knd.is k v=true->dec v=k)(g:Good knd dec led h a ks):h.SetOf knd a (λk=>decide (k∈ks)) ks.length:=by
 obtain⟨o,n,d,t,m,l,f,b,c,nd,p,j,tb⟩:=g
 refine⟨o,n,d,t,m,l,f,b,λk=>?_,p,j,by rw[<-c.length_eq,length_map,length_toList]⟩
 rw[decide_eq_true_iff,<-c.mem_iff,mem_map]
 constructor
 ·rintro⟨e,i,rfl⟩
  obtain⟨⟨k',hk,_⟩,_⟩:=b e i
  grind
 grind
theorem Good.size(g:Good knd dec led h a ks):∃o es ep t,h.get? a=some o/\o.ExactSet/\o.data=.set es ep t/\t.fits es.size=true/\es.size=ks.length/\Tb led t/\ElemsOf knd es.toList/\(es.toList.map λe=>dec e.2).Perm ks:=by
 obtain⟨o,es,ep,t,k,j,f,b,c,nd,hb,i,d⟩:=g
 exact⟨o,es,ep,t,k,j,f,i,by rw[<-c.length_eq,length_map,length_toList],d,b,c⟩
theorem Good.type{s:Shared}(g:Good knd dec led s.heap a ks):s.TypeIs (.ref a) "set":=by
 obtain⟨o,_,_,_,b,c,_⟩:=g
 exact⟨o,b,c.1⟩
theorem rJ{Q:Bool->Shared->Prop}(b:s.TypeIs (.ref a) "set")(h:Q true s):wpAny (model prog w) A (Builtin.Frozenset.isAnySet (.ref a)) Q E s:=by
 refine aak (ady b aeh ?_)
 exact aal h
theorem Mt{Q:Nat->Shared->Prop}(g:Good knd dec led s.heap a ks)(h:Q ks.length s):wpAny (model prog w) A (Builtin.Frozenset.sizeOf a) Q E s:=by
 obtain⟨o,es,ep,t,c,h2,d,b,hl,_⟩:=g.size
 refine aak (T7 c d b (aal ?_))
 grind
theorem zO3(sets:List Addr)(hs:∀a∈sets,∃ks:List κ,Good knd dec led s.heap a ks)(hn:∀k v,knd.is k v=true->∀b,v≠.ref b){Q:Bool->Shared->Prop}(h:Q true s):wpAny (model prog w) A (setsQuiet sets) Q E s:=by
 unfold setsQuiet
 refine aak (abu (ace (β:=Option Bool×Unit) _ (λl b s'=>s'=s/\b=(none,())/\∀a∈l,∃ks:List κ,Good knd dec led s.heap a ks) (λb s'=>s'=s/\b=(none,())) ?turn (λb s' hI=>⟨hI.1,hI.2.1⟩) sets _ ⟨rfl,rfl,hs⟩) ?post (λ_ _ h=>h))
 case post =>
  rintro b s' ⟨rfl,rfl⟩
  exact aal h
 case turn =>
  rintro a rest b s' ⟨rfl,rfl,hg⟩
  obtain⟨ks,g⟩:=hg a mem_cons_self
  obtain⟨o,es,ep,t,h1,h2,h3,hf,hl,tb,hel,hp⟩:=g.size
  refine aak (T7 h1 h3 hf ?_)
  rw[<-forIn_toList]
  refine aak (abu (ace (β:=Option Bool×Unit) _ (λl b s''=>s''=s'/\b=(none,())/\∀e∈l,∀c,e.2≠.ref c) (λb s''=>s''=s'/\b=(none,())) ?t2 (λb s' hI=>⟨hI.1,hI.2.1⟩) es.toList _ ⟨rfl,rfl,?p0⟩) ?p2 (λ_ _ h=>h))
  case p0 =>
   intro e he c z
   obtain⟨⟨k,hk,_⟩,_⟩:=hel e he
   exact hn k _ hk c z
  case p2 =>
   rintro b s'' ⟨rfl,rfl⟩
   exact aal ⟨rfl,rfl,λa ha=>hg a (mem_cons_of_mem _ ha)⟩
  case t2 =>
   rintro⟨hh,x⟩ l b s'' ⟨rfl,rfl,hl⟩
   have hx:=hl _ mem_cons_self
   dsimp only at hx ⊢
   split
   ·exact absurd rfl (hx _)
   ·exact aal ⟨rfl,rfl,λe he=>hl e (mem_cons_of_mem _ he)⟩
theorem zR0(g:Good knd dec (zX w) s.heap a ks)(i:w.params.followText "set-order" = false->∀o es ep t,s.heap.get? a=some o->o.data=.set es ep t->(!t.plain&&decide (es.size > 1))=false){Q:Array (Int×Value)->Shared->Prop}(h:∀es:Array (Int×Value),ElemsOf knd es.toList->(es.toList.map λe=>dec e.2).Perm ks->Q es s):wpAny (model prog w) A (setWalk a) Q E s:=by
 obtain⟨o,es,ep,t,c,h2,f,l,hl,j,b,d⟩:=g.size
 unfold setWalk
 refine aak (aa1 c f l ?_)
 dsimp only
 refine aak (JF ?_)
 cases k:w.params.followText "set-order" with
 |true =>
  simp only[↓reduceIte]
  refine aak (ac8 (aal ?_))
  exact h _ (b.perm (Mq _ es)) (((Mq _ es).map _).trans d)
 |false =>
  have q:=i k o es ep t c f
  have aag:t.led=true:=by rw[j.led];unfold zX;grind
  simp only[aa3,↓reduceIte]
  show wpAny _ _ (if(!t.plain&&decide (es.size > 1))=true then _ else _) _ _ _
  rw[if_neg (by grind)]
  refine aak ?_
  show wpAny _ _ (if(!t.led&&decide (es.size > 1))=true then _ else pure ()) _ _ _
  rw[if_neg (by grind)]
  exact aal (aal (h es b d))
theorem Ub(g:Good knd dec (zX w) s.heap a ks)(l:Good knd dec (zX w) s.heap f H)(M:∀b∈d,∃ks:List κ,Good knd dec (zX w) s.heap b ks)(S:∀k v,knd.is k v=true->∀b,v≠.ref b){Q:Array (Int×Value)->Shared->Prop}(h:∀(es:Array (Int×Value)) (h':Heap),ElemsOf knd es.toList->(es.toList.map λe=>dec e.2).Perm ks->SameBut f s.heap h'->Good knd dec (zX w) h' f H->Q es { s with heap:=h' }):wpAny (model prog w) A (setWalkUnseen a d (some f)) Q E s:=by
 obtain⟨o,es,ep,t,J,h2,O,R,hl,G,m,F⟩:=g.size
 unfold setWalkUnseen
 refine aak (aa1 J O R ?_)
 dsimp only
 refine aak (JF ?_)
 split
 ·rename_i c
  refine zR0 g (λx o' p ep' t' h1' h3'=>?_) λp n r=>h p s.heap n r (SameBut.refl f s.heap) l
  grind
 ·refine aak (zO3 (knd:=knd) (dec:=dec) (led:=zX w) (a::d) (λb x=>(mem_cons.mp x).elim (λe=>e▸⟨ks,g⟩) (M b)) S ?_)
  simp only[aco,aa3,↓reduceIte]
  refine aak (adz ?_)
  obtain⟨of,C,epf,P,u,N,q,y,B,i,j,L⟩:=l.size
  refine aak (aa1 u q y ?_)
  dsimp only
  split
  ·have D:=l.len
   refine aak (ab6 u q ?_ (ab0 (by rw[B];exact D)))
   obtain⟨_,_,_,_,e1,_,_,_,_,I,x,_,_⟩:=l
   refine aal (h es _ m F (SameBut.update _ f _) ⟨_,C,_,_,Gw (es':=C) (t':=_) u q,N,rfl,j,L,I,?_,?_,?_⟩)
   ·rw[B];exact D
   ·exact y
   ·refine⟨?_,λz=>?_⟩
    ·show(P.led&&t.led)=_
     rw[i.led,G.led,aen]
    ·exact i.rz (Bool.and_eq_true_iff.mp z).1
  ·exact aal (h es s.heap m F (SameBut.refl f s.heap) l)
theorem zIw(p:∀k v,knd.is k v=true->dec v=k)(id:String)(hn:∀k v,knd.is k v=true->∀b,v≠.ref b)(V:x≠r)(R:y≠r)(gx:Good knd dec (zX w) s.heap x i)(U:Good knd dec (zX w) s.heap y u)(gr:Good knd dec (zX w) s.heap r []){Q:Unit->Shared->Prop}(h:∀(h':Heap) (a:List κ),SameBut r s.heap h'->Good knd dec (zX w) h' r a->(∀k,k∈a↔k∈i/\k∈u)->Q () { s with heap:=h' }) :
  wpAny (model prog w) A (do
   let T <-setEpoch y
   for (h,W) in <-setWalkUnseen y [x,r] (some r) do
    holding [W] do
     if(<-setFind x W h).isSome then
      let _ <-setAddHashed r W h
    aa6 id y T) Q E s:=by
 obtain⟨o,es,ep,t,h1,d,h3,hf,hl,tb,hel,hp⟩:=U.size
 refine aak (abd h1 h3 hf ?_)
 refine aak (Ub U gr (λb hb=>(mem_cons.mp hb).elim (λe=>e▸⟨i,gx⟩) λe=>(mem_singleton.mp e)▸⟨[],gr⟩) hn λM h' L N sb X=>?_)
 rw[<-forIn_toList]
 have ln:M.toList.length=u.length:=by rw[<-N.length_eq,length_map]
 refine aak (abu (ace (β:=Unit) _ (λl _ I=>∃d a,I={ s with heap:=d }/\SameBut r s.heap d/\Good knd dec (zX w) d r a/\ElemsOf knd l/\a.length+l.length<=u.length/\∀k,(k∈a\/(k∈i/\k∈l.map λe=>dec e.2))↔(k∈i/\k∈u)) (λ_ I=>∃d a,I={ s with heap:=d }/\SameBut r s.heap d/\Good knd dec (zX w) d r a/\∀k,k∈a↔k∈i/\k∈u) ?turn ?fin M.toList () ⟨h',[],rfl,sb,X,L,by rw[ln,length_nil];lia,λk=>?_⟩) ?post (λ_ _ h=>h))
 case turn =>
  rintro⟨hs,v⟩ l b I ⟨d,a,rfl,g,H,O,P,J⟩
  obtain⟨⟨k,S,hh⟩,G⟩:=O _ mem_cons_self
  dsimp only at S hh G ⊢
  subst hh
  have kx:∀o,s.heap.get? x=some o->d.get? x=some o:=λo e=>by rw[g.2 x V];exact e
  have ky':∀o,s.heap.get? y=some o->d.get? y=some o:=λo e=>by rw[g.2 y R];exact e
  have Y:=gx.keep kx
  have dv:dec v=k:=p k v S
  rw[length_cons] at P
  have F:∀(f:Heap)(n:List κ),SameBut r s.heap f->Good knd dec (zX w) f r n->n.length+l.length<=u.length->(∀c,(c∈n\/(c∈i/\c∈l.map λe=>dec e.2))↔(c∈i/\c∈u)) ->
    wpAny (model prog w) A (aa6 id y ep) (λ_ C=>wpAny (model prog w) A (pure (ab7 ())) (λq C=>match q with|.yield _=>∃d a,C={ s with heap:=d }/\SameBut r s.heap d/\Good knd dec (zX w) d r a/\ElemsOf knd l/\a.length+l.length<=u.length/\∀k,(k∈a\/(k∈i/\k∈l.map λe=>dec e.2))↔(k∈i/\k∈u)|.done _=>∃d a,C={ s with heap:=d }/\SameBut r s.heap d/\Good knd dec (zX w) d r a/\∀k,k∈a↔k∈i/\k∈u) E C) E { s with heap:=f }:=λf n B Z l3 m3=>by
   unfold aa6
   refine aak (abd (s:={ s with heap:=f }) (by show f.get? y=_;rw[B.2 y R];exact h1) h3 hf ?_)
   simp only[bne_self_eq_false,aa3,↓reduceIte]
   exact aal (aal ⟨f,n,rfl,B,Z,λe he=>O e (mem_cons_of_mem _ he),l3,m3⟩)
  refine aak (aa7 (aak (wpAny_setFind_of (s:={ s with heap:=d }) S G (Y.setOf p) λq hq=>?_)))
  cases q with
  |none =>
   have nk:k∉i:=by simpa using hq.symm
   simp only[Option.isSome_none,aa3,↓reduceIte]
   refine aal (aak (F d a g H (by lia) λc=>?_))
   rw[<-J c,map_cons,mem_cons]
   show _↔(c∈a\/c∈i/\(c=dec v\/_))
   rw[dv]
   constructor
   ·rintro(z|⟨D,m⟩)
    ·exact .inl z
    ·exact .inr ⟨D,.inr m⟩
   ·rintro(z|⟨D,m|m⟩)
    ·exact .inl z
    ·exact absurd (m▸D) nk
    ·exact .inr ⟨D,m⟩
  |some j =>
   have mk:k∈i:=by simpa using hq.symm
   simp only[ad6,↓reduceIte]
   refine aak (P0 (led:=zX w) (s:={ s with heap:=d }) p S G H (by have:=U.len;lia) λf b' B Z=>?_)
   refine aal (aak (F f _ (g.trans B) Z ?_ λc=>?_))
   ·split
    ·lia
    ·rw[length_cons];lia
   ·rw[<-J c,map_cons,mem_cons]
    show _↔(c∈a\/c∈i/\(c=dec v\/_))
    rw[dv]
    have e:c∈(if k∈a then a else k::a)↔c=k\/c∈a:=by
     split
     ·rename_i z
      exact⟨.inr,λq=>q.elim (λq=>q▸z) λq=>q⟩
     ·exact mem_cons
    rw[e]
    constructor
    ·rintro((z|z)|⟨D,m⟩)
     ·exact .inr ⟨z▸mk,.inl z⟩
     ·exact .inl z
     ·exact .inr ⟨D,.inr m⟩
    ·rintro(z|⟨D,m|m⟩)
     ·exact .inl (.inr z)
     ·exact .inl (.inl m)
     ·exact .inr ⟨D,m⟩
 case fin =>
  rintro b I ⟨d,a,rfl,g,H,_,_,J⟩
  refine⟨d,a,rfl,g,H,λk=>?_⟩
  rw[<-J k]
  simp
 case post =>
  rintro b I ⟨d,a,rfl,g,H,J⟩
  exact aal (h d a g H J)
 ·rw[N.mem_iff]
  simp
theorem Uc(b:s.TypeIs (.ref a) "set"){Q:Value->Shared->Prop}(h:Q (.type "set") s):wpAny (model prog w) A (Builtin.Frozenset.baseOf a) Q E s:=by
 refine aak (ady b aeh ?_)
 exact aal h
theorem Ud{Q:Value->Shared->Prop}(h:Q (.ref s.heap.objs.size) { s with heap:=s.heap.push { cls:=.type "set",dict:=none,data:=.set #[] 0 (.fresh 0 0 (zX w)) } }):wpAny (model prog w) A (newSet (.type "set")) Q E s:=by
 refine aak (aak (ac8 (aal ?_)))
 exact aak (wpAny_alloc (aal h))
theorem zX1(j:∀k v,knd.is k v=true->dec v=k)(id:String)(F:∀k v,knd.is k v=true->∀b,v≠.ref b)(t:b≠a)(u:Good knd dec (zX w) s.heap a B)(y:Good knd dec (zX w) s.heap b C){Q:Value->Shared->Prop}(h:∀(h':Heap) (d:List κ),Good knd dec (zX w) h' s.heap.objs.size d->(∀k,k∈d↔k∈B/\k∈C)->(∀c o,c<s.heap.objs.size->s.heap.get? c=some o->h'.get? c=some o)->Q (.ref s.heap.objs.size) { s with heap:=h' }) :
  wpAny (model prog w) A (Builtin.Frozenset.intersection id a (.ref b)) Q E s:=by
 have z:a<s.heap.objs.size:=by obtain⟨o,_,_,_,x,_⟩:=u;exact lt_size x
 have D:b<s.heap.objs.size:=by obtain⟨o,_,_,_,x,_⟩:=y;exact lt_size x
 unfold Builtin.Frozenset.intersection
 rw[if_neg (λe=>t (aed (ad5 e)))]
 refine aak (Uc u.type (aak (Ud ?_)))
 refine aak (aal ?_)
 have r:∀c o,s.heap.get? c=some o->(s.heap.push { cls:=.type "set",dict:=none,data:=.set #[] 0 (.fresh 0 0 (zX w)) }).get? c=some o:=λc o e=>get?_push_of_some _ e
 have i:=u.keep (r a)
 have f:=y.keep (r b)
 have n:Good knd dec (zX w) (s.heap.push { cls:=.type "set",dict:=none,data:=.set #[] 0 (.fresh 0 0 (zX w)) }) s.heap.objs.size []:=Mp (get?_push_size _ rfl)
 generalize hp:s.heap.push { cls:=.type "set",dict:=none,data:=.set #[] 0 (.fresh 0 0 (zX w)) }=l at r i f n ⊢
 have p:∀(h':Heap)(d:List κ),SameBut s.heap.objs.size l h'->Good knd dec (zX w) h' s.heap.objs.size d->(∀k,k∈d↔k∈B/\k∈C)->Q (.ref s.heap.objs.size) { s with heap:=h' }:=λh' d q g m =>
  h h' d g m λc o G e=>by rw[q.2 c (aat G)];exact r c o e
 refine aak (aa7 (aak (rJ (s:={ s with heap:=l }) (Good.type (s:={ s with heap:=l }) f) ?_)))
 simp only[↓reduceIte]
 refine aak (aal ?_)
 refine aak (Mt (s:={ s with heap:=l }) f (aak (Mt (s:={ s with heap:=l }) i ?_)))
 split
 ·exact zIw (s:={ s with heap:=l }) j id F (aat D) (aat z) f i n λh' d q g m=>aal (p h' d q g λk=>by rw[m k,and_comm])
 ·exact zIw (s:={ s with heap:=l }) j id F (aat z) (aat D) i f n λh' d q g m=>aal (p h' d q g m)
theorem JK(d:∀k v,knd.is k v=true->dec v=k)(n:∀k v,knd.is k v=true->∀b,v≠.ref b)(j:b≠a)(f:Good knd dec (zX w) s.heap a l)(i:Good knd dec (zX w) s.heap b p){Q:Value->Shared->Prop}(h:∀(h':Heap) (e:List κ),Good knd dec (zX w) h' s.heap.objs.size e->(∀k,k∈e↔k∈l/\k∈p)->(∀c o,c<s.heap.objs.size->s.heap.get? c=some o->h'.get? c=some o)->Q (.ref s.heap.objs.size) { s with heap:=h' }) :
  wpAny (model prog w) A (binaryOp .BitAnd (.ref a) (.ref b)) Q E s:=by
 refine adb (T:="set") f.type i.type F.fills_set_and F.slot_set_and (abx F.slot_set_and f.type zJt ?_ (F.args_set_and_2 _ _))
 refine aak ?_
 refine aal ?_
 dsimp only
 refine aak (aak (rJ f.type ?_))
 refine rJ i.type ?_
 refine aak (aal (aak (zX1 d _ n j f i λh' e g m k=>aal ⟨.ref s.heap.objs.size,rfl,?_,h h' e g m k⟩)))
 grind
end
end jU
namespace L2
open PySem PySem.Spec PyProof.Rows jU
section
variable{X:Cx}
def Gz(c d:Cy):Cy:=λσ H Q=>c σ H λg f=>d σ f λb e=>∀a:LI,a.Nodup->(∀z,z∈a↔z∈g/\z∈b)->Q a e
theorem Cz(F:wj X a D)(l:wj X b C):wj X (.BinOp a .BitAnd b pos) (Gz D C):=by
 intro c s σ H Q I h
 refine aea (aP (F c s σ H _ I h) ?_)
 rintro u w ⟨p,ks,B,e,J,g,fo,N⟩
 subst e
 obtain⟨o,es,ep,t,x,gx,gd,_⟩:=id g
 have f:=J.pinned (fp:=[p]) (λb l=>by grind) (λb l=>by
  grind)
 refine aP (l _ w σ B _ f N) ?_
 rintro u2 d ⟨P,js,U,Y,q,L,j,R⟩
 subst Y
 have n:(p,o)∈X.pn++(c++Ax [p] w.heap):=mem_append_right _ (mem_append_right _ (uG (mem_singleton.mpr rfl) x))
 have S:d.heap.get? p=some o:=(q.pin (p,o) n).1
 have W:=g.keep (h':=d.heap) λo' A=>by rw[x] at A;cases A;exact S
 have T:P≠p:=acf (j.2.2.2.2.2 (p,o) n)
 have i:=q.cu
 refine JK T_ (λk v O b z=>?_) T W L λM y r m k=>?_
 ·obtain⟨t,rfl⟩:=acj O
  cases z
 ·have E:=i.kept (h':=M) (t':=d.toks) λb o e=>k b o (lt_size e) e
  obtain⟨_,_,_,_,_,_,_,_,_,G,_⟩:=id r
  exact⟨_,y,U,rfl,E,r,i.iC (aao _) (i.hok.fresh (aao _)),R y G m⟩
end
end L2
namespace Ts
open PySem L2
noncomputable def qR(ns a:LI):Option LI:=if(ns.length<64\/a.length<64)/\ns.length<4000/\a.length<4000 then some (iH (ns.filter λz=>decide (z∈a))) else none
section
variable{K:Frag}{B:Bs}{sl:SL K}{md:Md}{t1 t2:TE}
theorem zRq(J:Ex B sl .hp t1 N)(h2:Ex B sl .hp t2 M):Eo B sl md (Qa (Gz (Gx K t1) (Gx K t2))) (N.bind λa=>M.bind λb=>qR a b):=λc A F O H σ Q s k=>by
 obtain⟨n,i,P,S,d⟩:=jK A
 unfold qR at d
 split at d
 case isFalse=>cases d
 rename_i f
 cases d
 refine J n P F O H σ _ s λv L R g E=>?_
 obtain⟨p,vs,rfl,C,z2⟩:=E
 have U:=z2.vals
 subst U
 refine⟨p,n,rfl,aW.of C,f.2.1,λks nd r=>?_⟩
 refine h2 i S L O R σ _ (s.grow g) λw t Z I x=>?_
 obtain⟨T,vs',rfl,X,Y⟩:=x
 have G:=Y.vals
 subst G
 refine⟨T,i,rfl,aW.of X,f.2.2,λjs jd q rs h m=>⟨f.1.elim (aaw (Ab h λz j=>(r z).mp ((m z).mp j).1)) (aaw (Ab h λz j=>(q z).mp ((m z).mp j).2)),λl y D o u=>?_⟩⟩
 have e:y=iH (n.filter λz=>decide (z∈i)):=JH (Ms u (o.nodup_iff.mpr h)) (Gy _) λz=>by rw[o.mem_iff,m,r,q,bC,mem_filter,decide_eq_true_iff]
 subst e
 exact k l _ t Z (g.trans I) D (uS _)
end
end Ts
namespace L2
open PySem PySem.Spec PyProof.Rows
section
variable{X:Cx}
theorem GC:NQ X .BitOr (Lq λi j=>acz i j):=by
 intro pins s σ H x y v u Q I d b h
 obtain⟨i,j,c,a,q⟩:=h
 subst c;subst a
 obtain⟨t,rfl⟩:=d
 obtain⟨t',rfl⟩:=b
 exact ior_int ⟨.int _,H,I.tok _,⟨_,rfl⟩,q⟩
def wk(K:Frag):V->V->Hp->VK->Prop:=λx y H Q=>∃p b i v,x=.ref p/\y=.int i/\0<=i/\aW K H p b/\aJ b i=some v/\Q v H
theorem zL3(K:Frag)(h:X.K=K:=by rfl):N6 X (wk K):=by
 subst h
 intro pins s σ H o i ov iv Q I rx ry h
 obtain⟨p,xs,i,z,rfl,rfl,h0,hq,he,q⟩:=h
 cases rx
 obtain⟨t,rfl⟩:=ry
 obtain⟨its,r,pl,hz⟩:=I.list hq
 obtain⟨j,h1,h2,h3,h4,h5⟩:=Wh he
 obtain⟨w,ew,Wi⟩:=r.get h2
 have hl:=r.length
 have hn:=Ib
 have hj:i.toNat=j:=by
  rw[aem h0 h5] at h1
  exact aa2 h1
 exact wpAny_getItem_list pl.isList h0 (by omega) (by rw[hj];simpa using ew) ⟨z,H,I,Wi,q⟩
theorem Xx(K:Frag)(f:PE X a e)(c:X.K=K:=by rfl)(d:∀b,isTrue a X.env b=(do let v <-b;standAt a.pos;holding [v] (truthy v)):=by intro _;rfl) :
  PT X a (λσ H Q=>e σ H λx H'=>∃k,Ba K x H' k/\Q k H'):=by
 subst c
 exact zXc f d
def tLR(c:TA):TE:=λσ H Q=>c σ H λb a=>∃j:Int,b=[.int j] /\ -(2^62)<=j/\j<1000000/\∀l,a l=none->Q (.ref l) (upd a l (.lst (((aaz j.toNat).map ac0).map V.int)))
theorem CG{acc:List Value}:∀{ns:LI},acc.length=ns.length->(∀(i:Nat)(v:Value),acc[i]?=some v->∃t:Tok,v=ab3 (ns.getD i 0) t)->IntsAre acc ns:=by
 induction acc with
 |nil =>
  intro ns h _
  cases ns with
  |nil=>exact .nil
  |cons n ns=>simp at h
 |cons v acc ih =>
  intro ns h g
  cases ns with
  |nil=>simp at h
  |cons n ns =>
   obtain⟨t,e⟩:=g 0 v rfl
   subst e
   exact .cons n t (ih (by simpa using h) λi v hv=>g (i+1) v hv)
theorem zO5(hc:X.calm=true)(hg:Gl X "list")(hm:X.mg "list" = none)(y:Gl X "range")(A:X.mg "range" = none)(ha:PA X [a] ta)(hs:starEach [a] X.env=[(false,eval a X.env)]:=by rfl)(m:starEach [Expr.Call (.Name "range" p2) [a] [] c] X.env=[(false,eval (Expr.Call (.Name "range" p2) [a] [] c) X.env)]:=by rfl):PE X (.Call (.Name "list" p) [.Call (.Name "range" p2) [a] [] c] [] pos) (tLR ta):=by
 intro k s σ H Q I h
 refine abf (tV I hg hm (by trivial:bootBuiltins "list" = some (.type "list")) ?_)
 refine abg ?_ m rfl
 rw[m]
 show wpAny _ _ (spliced ((false,eval (Expr.Call (.Name "range" p2) [a] [] c) X.env)::backTo pos [])) _ _ s
 refine adi (abf (tV I y A boot_range (abg (aP (ha c k s σ H _ I h) ?_) hs rfl)))
 rintro us u ⟨vs,H1,I1,r1,z⟩
 obtain⟨j,e,z,q2,q⟩:=z
 subst e
 cases r1 with
 |cons r rr =>
  cases rr
  obtain⟨t,rfl⟩:=r
  refine call_range_1 (adp ?_)
  have x:Inv X k σ H1 { u with heap:=u.heap.push { cls:=.type "range",data:=.fields #[.int 0 u.toks,.int j t,.int 1 (u.toks+1)] },toks:=u.toks+1+1 }:=I1.kept λb o e=>get?_push_of_some _ e
  refine call_list_range (n:=j.toNat) (x.ok.hd hc) (IsRange.new ..) (small_one (by lia) (by lia) z (by lia)) (by rw[rangeSize_one];split<;>lia) (by lia) λh' tk g c' hk hS f=>?_
  have hI:IntsAre g.toList ((aaz j.toNat).map ac0):=CG (by rw[length_toList,f.1,length_map,length_range]) λi v B=>by
   rw[getElem?_toList] at B
   obtain⟨C,rfl⟩:=f.2 i v B
   have hi:i<j.toNat:=by
    have:=(Array.getElem?_eq_some_iff.mp B).1
    rw[f.1] at this
    exact this
   refine⟨C,?_⟩
   have e:((aaz j.toNat).map ac0).getD i 0=(i:Int):=by
    rw[getD_eq_getElem?_getD,getElem?_map,getElem?_range hi]
    rfl
   rw[e]
   simp
  refine⟨.ref _,_,x.laid (h':=h') (t':=tk) (o:=.lst (((aaz j.toNat).map ac0).map V.int)) (λb ob w=>hk b ob w) (aao _) ?_,rfl,q _ (x.hok.fresh (aao _))⟩
  refine⟨?_,g.toList,c',TF hI,?_⟩
  ·rw[length_map,length_map,length_range]
   exact aa0 (show j.toNat<=1000000 by lia) (by decide)
  ·rw[toArray_toList];exact hS
end
end L2
namespace Ts
open PySem L2
noncomputable def wu(a b:Int):Option Int:=if 0<=b/\b<=1000000/\a.natAbs<2^64 then some (a*2^b.toNat) else none
noncomputable def gR(a b:Int):Option Int:=if 0<=b then some (a/2^b.toNat) else none
section
variable{K:Frag}{B:Bs}{sl:SL K}{md:Md}{t t1 t2 te:TE}{m1 m2:Option Int}
theorem Qc(c:Ex B sl .hp t1 m1)(h2:Ex B sl .hp t2 m2):Ex B sl md (dH (pQ λi j=>.int (aa8 i j)) t1 t2) (m1.bind λa=>m2.bind λb=>some (aa8 a b)):=O_ (λ_ _=>rfl) c h2
theorem JL(h:Ex B sl .hp t1 m1)(h2:Ex B sl .hp t2 m2):Ex B sl md (dH (rI Az λi j=>.int (i*2^j.toNat)) t1 t2) (m1.bind λa=>m2.bind λb=>wu a b) :=
 tE (λa b c v w H Q e g f q=>by
  unfold wu at e
  split at e
  case isFalse=>cases e
  rename_i d
  cases e;cases g;cases f
  exact⟨a,b,rfl,rfl,d,q⟩) h h2
theorem Ue(h:Ex B sl .hp t1 m1)(h2:Ex B sl .hp t2 m2):Ex B sl md (dH (rI (λ_ j=>0<=j) λi j=>.int (i/2^j.toNat)) t1 t2) (m1.bind λa=>m2.bind λb=>gR a b) :=
 tE (λa b c v w H Q e g f q=>by
  unfold gR at e
  split at e
  case isFalse=>cases e
  rename_i d
  cases e;cases g;cases f
  exact⟨a,b,rfl,rfl,d,q⟩) h h2
theorem Xy{m:Option Int}(h:Ex B sl .hp t m):Et B sl (λσ H Q=>t σ H λx H'=>∃k,Ba K x H' k/\Q k H') (m.bind λi=>some (i != 0)):=λc b F O H σ Q s k=>by
 cases m with
 |none=>cases b
 |some i =>
  cases(b)
  refine h i rfl F O H σ _ s λv d H' g r=>?_
  cases r
  exact⟨_,rfl,k d H' g⟩
noncomputable def Ac(n:Int):Option LI:=if -(2^62)<=n/\n<1000000 then some ((aaz n.toNat).map ac0) else none
theorem zPu(h:Ex B sl .hp t m):Eo B sl md (tLR (xI t aY)) (m.bind Ac):=λc a F O H σ Q s k=>by
 cases m with
 |none=>cases a
 |some n =>
  have a:Ac n=some c:=a
  unfold Ac at a
  split at a
  case isFalse=>cases a
  rename_i b
  cases a
  refine h n rfl F O H σ _ s λv e d g i=>?_
  cases i
  exact⟨n,rfl,b.1,b.2,λl f=>k l _ e d g f (uS _)⟩
def wz(xs ys:LI):Option LI:=if xs.length+ys.length<cap then some (xs++ys) else none
theorem zSt(i:Nat)(w:sl[i]?=some (.ow n xs))(u:sl.all (λs=>!cG s)=true)(h:Ex B sl .hp te m) :
  Sn B sl (tY (z6 K "list" Wm (bL i) (xI te aY))) (λys=>sl.set i (.ow n ys)) (m.bind λa=>wz xs a):=λys o G D σ H s k=>by
 cases m with
 |none=>cases o
 |some a =>
  have b:wz xs a=some ys:=o
  unfold wz at b
  split at b
  case isFalse=>cases b
  rename_i E
  cases b
  obtain⟨F,O,g,z⟩:=s
  obtain⟨p,vs,l,M,h3,_⟩:=z.chg w u
  refine⟨_,l,.inl ⟨rfl,_,aW.of M⟩,?_⟩
  refine h a rfl F O H σ _ z λv C H' x r=>?_
  obtain⟨p',vs',j,c,f,d⟩:=(z.grow x).chg w u
  have e:=l.symm.trans j
  cases e
  obtain⟨q,us,rfl,I,N⟩:=r
  have J:=N.vals
  subst J
  have A:=f.vals
  subst A
  obtain⟨y,L⟩:=d (xs.map V.int++a.map V.int) (xs++a) (by rw[<-map_append];exact uS _)
  exact⟨p,q,_,_,rfl,rfl,c,I,by rw[length_map,length_map];exact aby (rG E),k _ _ ⟨C,y,g.trans x.ff,L⟩⟩
def lD(f:Int->Int->Int)(xs:LI)(ix:Int)(y:Int):Option LI:=if 0<=ix then(L2.aJ xs ix).bind λx=>m6 xs ix (f x y) else none
theorem zWw(i:Nat)(I:sl[i]?=some (.ow n xs))(o:sl.all (λs=>!cG s)=true)(Y:Ex B sl .hp ti mi)(N:Ex B sl .hp te m) :
  Sn B sl (uc (bL i) ti te (wk K) (Lq f) Ol) (λys=>sl.set i (.ow n ys)) (mi.bind λk=>m.bind λa=>lD f xs k a):=λys X G D σ H s k=>by
 obtain⟨l,a,P,S,b⟩:=jK X
 unfold lD at b
 split at b
 case isFalse=>cases b
 rename_i h0
 obtain⟨x,Z,b⟩:=Option.bind_eq_some_iff.mp b
 obtain⟨F,O,g,z⟩:=s
 obtain⟨p,vs,A,h2,h3,_⟩:=z.chg I o
 refine⟨_,A,?_⟩
 refine Y l P F O H σ _ z λv U H' h r=>?_
 cases r
 obtain⟨p',u,E,J,C,h4'⟩:=(z.grow h).chg I o
 have e:=A.symm.trans E
 cases e
 obtain⟨Q,y,q⟩:=C.aJ Z
 have q:Q=.int x:=Sc.is.mp q
 subst q
 refine⟨p,u,l,_,rfl,rfl,h0,aW.of J,y,?_⟩
 refine N a S U O H' σ _ (z.grow h) λw F2 H2 d T=>?_
 cases T
 obtain⟨p2,c,y1,y2,L,R⟩:=((z.grow h).grow d).chg I o
 have e:=A.symm.trans y1
 cases e
 refine⟨x,a,rfl,rfl,?_⟩
 unfold m6 at b
 cases M:n7 xs.length l with
 |none=>simp_all
 |some j =>
  rw[M] at b
  cases b
  obtain⟨O',z'⟩:=R (c.set j (.int (f x a))) (xs.set j (f x a)) (L.set (Sc.is.mpr rfl) j)
  exact⟨p,c,l,j,rfl,rfl,y2,by rw[L.len,M],k _ _ ⟨F2,O',(g.trans h.ff).trans d.ff,z'⟩⟩
end
section
variable{K:Frag}{B:Bs}{sl sl2:SL K}{G F H:Hp}{O:Own}{σ:St}{te:TE}
theorem Mu{α β:Type}[Rp K α][Rp K β]{m:Option (α×β)}{L:α×β->SL K}(h:Ex B sl (cQ n) te m)(f:Tg B sl n g L):Sn B sl (fH te g) L m:=λa i G D σ H s k=>by
 obtain⟨F,O,e,z⟩:=s
 exact h a i F O H σ _ z λv c d b r=>f v a c O d σ _ (z.grow b) r λσ' j=>k _ _ ⟨c,O,e.trans b.ff,j⟩
end
def lE{α:Type}(xs:List α)(lo b:Option Int):List α:=(xs.drop (HT.nJ xs.length 0 lo)).take (HT.nJ xs.length xs.length b-HT.nJ xs.length 0 lo)
def m9{α:Type}(xs ys:List α):Option (List α):=if xs.length+ys.length<=cap then some (xs++ys) else none
section
variable{P:Program}{w:World}{K:Frag}{mg:Str->Option Value}{base:Heap}{B:Bs}{sl:SL K}{md:Md}{α β:Type}[Rp K α][Rp K β]{tA:Addr}{tO:HO}{te t1 t2:TE}
theorem A2.cut(h:A2 R vs xs)(lo a:Option Int):A2 R (uw vs lo a) (lE xs lo a):=by
 unfold uw lE
 rw[h.len]
 exact(h.dr _).tk _
theorem Ug[Sc K α]{h j:Option (List α)}(z:Ex B sl .hp t1 h)(h2:Ex B sl .hp t2 j):Eo B sl md (dH Ot t1 t2) (h.bind λa=>j.bind λb=>m9 a b):=λc d F O H σ Q s k=>by
 obtain⟨D,M,I,C,d⟩:=jK d
 unfold m9 at d
 split at d
 case isFalse=>cases d
 rename_i E
 cases d
 refine z D I F O H σ _ s λv A o g r=>?_
 refine h2 M C A O o σ _ (s.grow g) λu n L f y=>?_
 obtain⟨p,G,rfl,t,m⟩:=r
 obtain⟨q,x,rfl,J,i⟩:=y
 refine⟨p,q,G,x,rfl,rfl,f.hh _ _ t,J,?_,λl e=>k l _ n L (g.trans f) e (m.sc.app i.sc)⟩
 rw[m.len,i.len]
 exact zZ9 E
theorem JM(K:Frag){X:Cx}(h:X.K=K:=by rfl):Ss X (uy K):=by subst h;exact Bq
end
section
variable{X:Cx}{pos pos':Pos}{x:Str}{e:Expr}{te:TE}
theorem yI(i:Nat)(a:X.N.Nodup)(d:PE X e te)(b:X.N[i]?=some x:=by rfl)(c:Loc X.env.scope x:=by first|exact .inl rfl|exact .inr rfl)(g:swapsWith e (some (.Name x pos')) pos.line X.env=pure false:=by rfl)(f:X.fn x=true\/X.env.scope.names.lookup x=some .local:=by first|exact .inl rfl|exact .inr rfl|assumption):PS X (.Assign [.Name x pos'] e pos) (fH te (mR i)):=VR a b c d g f
theorem aV(i:Nat)(a:X.N.Nodup)(d:X.N[i]?=some x:=by rfl)(b:Loc X.env.scope x:=by first|exact .inl rfl|exact .inr rfl)(c:X.fn x=true\/X.env.scope.names.lookup x=some .local:=by first|exact .inl rfl|exact .inr rfl|assumption):PG X (.Name x pos) (mR i):=yM a d b c
end
theorem esc{K:Frag}{B:Bs}{a:SL K}{md:Md}{α:Type}[Rp K α][Sc K α]{t:TE}{m:Option α}(h:Ex B a .hp t m):Ex B a md t m:=h.sc
theorem fsc{N P:List Str}{s:Scope}(g:s.kind=.function:=by rfl)(h2:s.isCoroutine=false:=by rfl)(d:s.isGenerator=false:=by rfl)(e:N.Nodup:=by trivial)(b:N.take P.length=P:=by rfl)(c:∀x∈P,s.names.lookup x=some .local\/s.names.lookup x=some .cell:=by trivial)(f:∀y∈s.names,y.2≠.free:=by trivial):aF N P s:=⟨g,h2,d,e,b,c,f⟩
section
variable{K:Frag}{x y:Str}{st:Stmt}{f:Addr}{fd:FuncData}{p0 p1 p2 p3 p4:Str}
theorem rK(F:cF K x y st f fd)(h:∀kV p o n j l i,bindArgs (fnOf x y (tu st) (wR st) (zS st) .none kV p o n j l) ⟨[i],[]⟩=pure [(p0,i)]:=by intros;rfl):Binds K fd [p0] []:=F.binds λa b c d e g m k=>by
 rcases m with _|⟨i,_|_⟩<;>cases k
 exact h a b c d e g i
theorem dF(F:cF K x y st f fd)(h:∀kV m p o k l i j,bindArgs (fnOf x y (tu st) (wR st) (zS st) .none kV m p o k l) ⟨[i,j],[]⟩=pure [(p0,i),(p1,j)]:=by intros;rfl):Binds K fd [p0,p1] []:=F.binds λa b c d e g n q=>by
 rcases n with _|⟨i,_|⟨j,_|_⟩⟩<;>cases q
 exact h a b c d e g i j
theorem oM(F:cF K x y st f fd)(h:∀kV n q p l r k i j,bindArgs (fnOf x y (tu st) (wR st) (zS st) .none kV n q p l r) ⟨[k,i,j],[]⟩=pure [(p0,k),(p1,i),(p2,j)]:=by intros;rfl):Binds K fd [p0,p1,p2] []:=F.binds λa b c d e g o m=>by
 rcases o with _|⟨k,_|⟨i,_|⟨j,_|_⟩⟩⟩<;>cases m
 exact h a b c d e g k i j
theorem CJ(F:cF K x y st f fd)(h:∀kV o r q m s l i j k,bindArgs (fnOf x y (tu st) (wR st) (zS st) .none kV o r q m s) ⟨[l,i,j,k],[]⟩=pure [(p0,l),(p1,i),(p2,j),(p3,k)]:=by intros;rfl):Binds K fd [p0,p1,p2,p3] []:=F.binds λa b c d e g p n=>by
 rcases p with _|⟨l,_|⟨i,_|⟨j,_|⟨k,_|_⟩⟩⟩⟩<;>cases n
 exact h a b c d e g l i j k
end
theorem aK{K:Frag}{a b:SL K}(h:Le a b:=by repeat(first|exact Le.nil|refine Le.eq ?_|refine Le.un ?_|refine Le.fr ?_)):Le a b:=h
theorem cI{K:Frag}{a b:SL K}(h:pR a b:=by repeat(first|exact pR.nil|refine pR.eq ?_|refine pR.un ?_)):pR a b:=h
abbrev Slot.z{α:Type}[Rp K α](a:α):Slot K:=.fz false a
abbrev Slot.y{α:Type}[Rp K α](a:α):Slot K:=.fz true a
end Ts
namespace jU
open PySem PySem.SetTable
def Uh(m:Nat):Nat->Nat->Nat
 |0,i=>i
 |t+1,i=>Uh m t ((i*5+1)%m)
def seen(m:Nat):Nat->Nat->Nat->Nat
 |0,_,a=>a
 |t+1,i,a=>seen m t ((i*5+1)%m) (a|||1 <<< i)
theorem zOu(m j:Nat):∀(t i acc:Nat),(seen m t i acc).testBit j=true->acc.testBit j=true\/∃u,u<t/\Uh m u i=j
 |0,i,acc,h=>.inl h
 |t+1,i,acc,h=>by
  rcases zOu m j t _ _ h with z|⟨u,b,e⟩
  ·rw[Nat.testBit_or,acg] at z
   rcases z with z|z
   ·exact .inl z
   ·rw[Nat.testBit_shiftLeft,abr,decide_eq_true_eq] at z
    obtain⟨z1,a⟩:=z
    have:j-i=0:=by
     cases q:j-i with
     |zero=>rfl
     |succ n =>
      rw[q] at a
      have:(1:Nat).testBit (n+1)=false:=Nat.testBit_lt_two_pow (aax (by decide) (Nat.pow_le_pow_right (by decide) (acd (aa5 n))))
      rw[this] at a
      cases a
    exact .inr ⟨0,aef _,by show i=j;omega⟩
  ·exact .inr ⟨u+1,Nat.succ_lt_succ b,e⟩
def rN(m:Nat):Bool:=(aaz m).all λi=>seen m m i 0==2^m-1
theorem CK(h:rN m=true)(a:i<m)(hj:j<m):∃u,u<m/\Uh m u i=j:=by
 have q:=all_eq_true.mp h i (mem_range.mpr a)
 have t:(seen m m i 0).testBit j=true:=by grind
 rcases zOu m j m i 0 t with z|z
 ·grind
 ·exact z
theorem Qd:rN 8=true:=by trivial
theorem Qe:rN 16=true:=by trivial
theorem Qf:rN 32=true:=by trivial
theorem Qg:rN 64=true:=by trivial
theorem JN:rN 128=true:=by trivial
theorem JQ:rN 256=true:=by trivial
theorem Qh{owner:Array (Option Nat)}{mask i:Nat}(h:owner.getD i (some 0)=none):(aaz (runEnd mask i+1-i)).find? (λk=>(owner.getD (i+k) (some 0)).isNone)≠none:=λe=>by
 have q:=List.find?_eq_none.mp e 0 (mem_range.mpr (by unfold runEnd;grind))
 grind
theorem zL4{owner:Array (Option Nat)}{mask:Nat}:∀(a i p j:Nat),layClean.free mask owner a i p=some j->owner.getD j (some 0)=none
 |0,_,_,_,h=>by cases h
 |a+1,i,p,j,h=>by
  unfold layClean.free at h
  split at h
  ·simp_all
  ·exact zL4 a _ _ j h
theorem zL5{owner:Array (Option Nat)}{mask j:Nat}(b:owner.getD j (some 0)=none):∀(a u i:Nat),u<a->Uh (mask+1) u i=j->layClean.free mask owner a i 0≠none
 |0,u,i,h,_=>absurd h (adh _)
 |a+1,0,i,_,e=>by
  have c:=e
  subst c
  unfold layClean.free
  cases q:(aaz (runEnd mask i+1-i)).find? λk=>(owner.getD (i+k) (some 0)).isNone with
  |none=>exact absurd q (Qh b)
  |some k=>grind
 |a+1,u+1,i,h,e=>by
  unfold layClean.free
  cases q:(aaz (runEnd mask i+1-i)).find? λk=>(owner.getD (i+k) (some 0)).isNone with
  |none=>exact zL5 b a u _ (Nat.lt_of_succ_lt_succ h) e
  |some k=>grind
theorem zPm{owner:Array (Option Nat)}{mask:Nat}(a:Nat)(h0:∀i,i<=mask->layClean.free mask owner a i 0≠none):∀(d i p:Nat),i<=mask->p<32^d->layClean.free mask owner (a+d) i p≠none
 |0,i,p,c,b=>by
  grind
 |d+1,i,p,c,b=>by
  unfold layClean.free
  cases q:(aaz (runEnd mask i+1-i)).find? λk=>(owner.getD (i+k) (some 0)).isNone with
  |none=>exact zPm a h0 d _ _ (ab5 (aes _ (aef _))) (by grind)
  |some k=>grind
theorem CN{owner:Array (Option Nat)}{mask j:Nat}(a:rN (mask+1)=true)(d:j<=mask)(b:owner.getD j (some 0)=none)(h:Int):∃k,layClean.free mask owner (turns mask) (bits h%(mask+1)) (bits h)=some k/\owner.getD k (some 0)=none:=by
 have q:layClean.free mask owner (mask+2+13) (bits h%(mask+1)) (bits h)≠none:=zPm (mask+2) (λi c=>by
  obtain⟨u,hu,e⟩:=CK a (Nat.lt_succ_of_le c) (Nat.lt_succ_of_le d)
  exact zL5 b _ u i (by lia) e) 13 _ _ (ab5 (aes _ (aef _))) (by unfold bits;grind)
 unfold turns
 cases e:layClean.free mask owner (mask+15) (bits h%(mask+1)) (bits h) with
 |none=>grind
 |some k=>exact⟨k,rfl,zL4 _ _ _ _ e⟩
theorem Xz{α:Type}(v:α):∀(l:List (Option α))(j:Nat),l[j]?=some none->((l.set j (some v)).filterMap id).Perm (v::l.filterMap id)
 |[],j,h=>by simp at h
 |x::l,0,h=>by
  have e:x=none:=by simpa using h
  subst e
  exact .refl _
 |none::l,j+1,h=>by
  show((l.set j (some v)).filterMap id).Perm (v::l.filterMap id)
  exact Xz v l j (by simpa using h)
 |some x::l,j+1,h=>by
  show(x::(l.set j (some v)).filterMap id).Perm (v::x::l.filterMap id)
  exact((Xz v l j (by simpa using h)).cons x).trans (.swap _ _ _)
theorem zKy:∀(l:List (Option Nat)),(l.filterMap id).length<l.length->∃j,j<l.length/\l[j]?=some none
 |[],h=>by simp at h
 |none::l,_=>⟨0,by simp,rfl⟩
 |some x::l,h=>by
  obtain⟨j,hj,e⟩:=zKy l (by simpa using h)
  exact⟨j+1,by simpa using hj,e⟩
theorem getD_none{owner:Array (Option Nat)}:owner.getD j (some 0)=none↔owner.toList[j]?=some none:=by
 rw[Array.getD_eq_getD_getElem?,getElem?_toList]
 cases owner[j]? with
 |none=>simp
 |some x=>simp
theorem zZv{mask:Nat}(hc:rN (mask+1)=true):∀(hs:LI)(owner:Array (Option Nat))(k:Nat),owner.size=mask+1->(owner.toList.filterMap id).Perm (aaz k)->k+hs.length<=mask ->
  ∃qe,hs.foldl (λacc h=>do
   let(owner,k) <-acc
   let j <-layClean.free mask owner (turns mask) (bits h%(mask+1)) (bits h)
   pure (owner.setIfInBounds j (some k),k+1)) (some (owner,k))=some (qe,k+hs.length)/\qe.size=mask+1/\(qe.toList.filterMap id).Perm (aaz (k+hs.length))
 |[],owner,k,h1,h2,h3=>⟨owner,rfl,h1,h2⟩
 |h::hs,owner,k,h1,h2,h3=>by
  obtain⟨j,hj,ej⟩:=zKy owner.toList (by rw[h2.length_eq,length_range,length_toList,h1];rw[length_cons] at h3;omega)
  obtain⟨i,ei,fi⟩:=CN hc (owner:=owner) (j:=j) (by rw[length_toList,h1] at hj;omega) (getD_none.mpr ej) h
  have q:=zZv hc hs (owner.setIfInBounds i (some k)) (k+1) (by rw[Array.size_setIfInBounds];exact h1) ?_ (by rw[length_cons] at h3;omega)
  ·obtain⟨o',e,z1,z2⟩:=q
   have ek:k+(h::hs).length=k+1+hs.length:=by rw[length_cons];omega
   refine⟨o',?_,z1,by rw[ek];exact z2⟩
   rw[ek,List.foldl_cons,<-e]
   refine congrArg (λz=>List.foldl _ z hs) ?_
   show(layClean.free mask owner (turns mask) (bits h%(mask+1)) (bits h)).bind _=_
   rw[ei]
   rfl
  ·rw[Array.toList_setIfInBounds,range_succ]
   exact((Xz k owner.toList i (getD_none.mp fi)).trans (h2.cons k)).trans (List.perm_append_singleton k _).symm
theorem zLg:∀(l:List (Option Nat)),(aaz l.length).filterMap (λj=>(l[j]?).getD none)=l.filterMap id
 |[]=>rfl
 |x::l=>by
  rw[length_cons,List.range_succ_eq_map,filterMap_cons,List.filterMap_map]
  have e:((λj=>((x::l)[j]?).getD none)∘Nat.succ)=λj=>(l[j]?).getD none:=rfl
  rw[e,zLg l]
  cases x<;>rfl
theorem zUl{mask:Nat}(i:rN (mask+1)=true)(finger moves:Nat)(led plain:Bool)(c:Array Int)(l:c.size<=mask) :
  ∃t a,laid mask finger moves led plain c=some (t,a)/\a.toList.Perm (aaz c.size)/\t.place.size=c.size/\t.dummies=#[]/\t.mask=mask/\t.led=led/\t.plain=plain/\Rz t.place:=by
 obtain⟨b,e,m,d⟩:=zZv i c.toList (Array.replicate (mask+1) none) 0 (by rw[Array.size_replicate]) (by rw[Array.toList_replicate,List.filterMap_replicate_of_none rfl];exact .refl _) (by rw[aex,length_toList];exact l)
 rw[aex,length_toList] at d
 have h:layClean mask c=some b:=by
  unfold layClean
  rw[<-Array.foldl_toList,e]
  rfl
 have g:((aaz (mask+1)).filterMap λj=>(b.getD j none).map λk=>(j,k)).map (·.2)=b.toList.filterMap id:=by
  rw[<-zLg b.toList,length_toList,m,List.map_filterMap]
  refine congrArg (λf=>List.filterMap f _) (funext λj=>?_)
  rw[Array.getD_eq_getD_getElem?,getElem?_toList]
  cases(b[j]?).getD none<;>rfl
 refine⟨_,_,by unfold laid;rw[h];rfl,?_,?_,rfl,rfl,rfl,rfl,zK9 (λj=>b.getD j none) _⟩
 ·show((aaz (mask+1)).filterMap λj=>(b.getD j none).map λk=>(j,k)).map (·.2) |>.Perm _
  rw[g]
  exact d
 ·show(((aaz (mask+1)).filterMap λj=>(b.getD j none).map λk=>(j,k)).map (·.1)).length=_
  rw[length_map,<-length_map (f:=(·.2)),g,d.length_eq,length_range]
theorem zYo(h:n<=255):∃m,sizeAbove n=m+1/\n<=m/\rN (m+1)=true/\m<=255:=by
 by_cases h1:n<8
 ·exact⟨7,by unfold sizeAbove;unfold sizeAbove.go;rw[if_neg (by lia)],by lia,Qd,by omega⟩
 by_cases h2:n<16
 ·exact⟨15,by unfold sizeAbove;unfold sizeAbove.go;rw[if_pos (by lia)];unfold sizeAbove.go;rw[if_neg (by lia)],by lia,Qe,by omega⟩
 by_cases h3:n<32
 ·exact⟨31,by unfold sizeAbove;unfold sizeAbove.go;rw[if_pos (by lia)];unfold sizeAbove.go;rw[if_pos (by lia)];unfold sizeAbove.go;rw[if_neg (by lia)],by lia,Qf,by omega⟩
 by_cases h4:n<64
 ·exact⟨63,by unfold sizeAbove;unfold sizeAbove.go;rw[if_pos (by lia)];unfold sizeAbove.go;rw[if_pos (by lia)];unfold sizeAbove.go;rw[if_pos (by lia)];unfold sizeAbove.go;rw[if_neg (by lia)],by lia,Qg,by omega⟩
 by_cases h5:n<128
 ·exact⟨127,by unfold sizeAbove;unfold sizeAbove.go;rw[if_pos (by lia)];unfold sizeAbove.go;rw[if_pos (by lia)];unfold sizeAbove.go;rw[if_pos (by lia)];unfold sizeAbove.go;rw[if_pos (by lia)];unfold sizeAbove.go;rw[if_neg (by lia)],by lia,JN,by omega⟩
 ·exact⟨255,by unfold sizeAbove;unfold sizeAbove.go;rw[if_pos (by lia)];unfold sizeAbove.go;rw[if_pos (by lia)];unfold sizeAbove.go;rw[if_pos (by lia)];unfold sizeAbove.go;rw[if_pos (by lia)];unfold sizeAbove.go;rw[if_pos (by lia)];unfold sizeAbove.go;rw[if_neg (by lia)],by lia,JQ,by omega⟩
open PySem PySem.Spec PyProof.Rows
section
variable{prog:Program}{w:World}{κ:Type}[DecidableEq κ]{knd:KeyKind prog w κ}{dec:Value->κ}{led:Bool}{A:Around}{E:Value->Shared->Prop}{s:Shared}
theorem zIr{α:Type}(es:Array α)(a:Array Nat)(h:a.toList.Perm (aaz es.size)):(a.filterMap (es[·]?)).toList.Perm es.toList:=by
 rw[Array.toList_filterMap]
 refine(h.filterMap _).trans ?_
 have e:(aaz es.size).filterMap (es[·]?)=es.toList:=by
  have:∀l:List α,(aaz l.length).filterMap (λj=>l[j]?)=l:=λl=>by
   induction l with
   |nil=>rfl
   |cons x l ih =>
    rw[length_cons,List.range_succ_eq_map,filterMap_cons,List.filterMap_map]
    show x::List.filterMap (λj=>l[j]?) _=_
    rw[ih]
  have q:=this es.toList
  grind
 rw[e]
theorem zO1{Q:Unit->Shared->Prop}(e:s.heap.get? a=some o)(d:o.data=.set es ep t)(y:t.fits es.size=true)(x:b<=255)(hn:es.size<=b)(h:∀(es':Array (Int×Value)) (t':SetTable),es'.toList.Perm es.toList->t'.place.size=es.size->t'.dummies=#[]->b<=t'.mask->rN (t'.mask+1)=true->t'.led=t.led->Rz t'.place->Q () { s with heap:=s.heap.update a (aeu es' t') }):wpAny (model prog w) A (setRelay a b) Q E s:=by
 obtain⟨m,i,e2,f,e4⟩:=zYo x
 unfold setRelay
 refine aak (aa1 e d y ?_)
 dsimp only
 rw[if_neg (by rw[i];show¬m+1 > 2^24;lia)]
 obtain⟨t',c,r,g,k,u,v,l,q7,q⟩:=zUl (mask:=m) f t.finger (t.movedTo m) t.led t.plain (es.map (·.1)) (by grind)
 rw[size_map] at g k
 have n:t.relaid (es.map (·.1)) b=some (t',c):=by
  unfold SetTable.relaid
  rw[i]
  exact r
 rw[n]
 have p:=zIr es c g
 have j:(c.filterMap (es[·]?)).size=es.size:=by rw[<-length_toList,p.length_eq,length_toList]
 refine aak (m:=(if((c.filterMap (es[·]?)).size != es.size)=true then unsupported "internal:set-table-lost-an-element" else pure (c.filterMap (es[·]?),t'))) ?_
 rw[if_neg (by rw[j];simp)]
 refine aal ?_
 exact ab6 e d (h _ t' p k u (by grind) (by rw[v];exact f) l q) (by rw[j];show es.size<=2^24;lia)
theorem XC{t':SetTable}(h1:t'.place.size=n)(h2:t'.dummies=#[])(h3:a<=t'.mask)(h4:n<=a):t'.fits n=true:=by
 unfold fits ad0
 grind
theorem zO0{Q:Unit->Shared->Prop}(g:Good knd dec led s.heap a ks)(hw:wanted<=255)(hn:ks.length<=wanted)(h:∀h',SameBut a s.heap h'->Good knd dec led h' a ks->Q () { s with heap:=h' }):wpAny (model prog w) A (setRelay a wanted) Q E s:=by
 obtain⟨o,es,ep,t,ho,hx,hd,hel,hp,nd,hb,hf,tb⟩:=g
 have ln:es.size=ks.length:=by rw[<-hp.length_eq,length_map,length_toList]
 refine zO1 ho hd hf hw (by rw[ln];exact hn) λes' t' p q3 q4 q5 q6 q7 q8=>h _ (SameBut.update _ a _) ?_
 have sz:es'.size=es.size:=by rw[<-length_toList,p.length_eq,length_toList]
 exact⟨_,es',_,t',Gw (es':=es') (t':=t') ho hd,hx,rfl,hel.perm p,(p.map _).trans hp,nd,by rw[sz];exact hb,by rw[sz];exact XC q3 q4 q5 (by rw[ln];exact hn),⟨q7.trans tb.led,λ_=>q8⟩⟩
theorem CP{Q:Unit->Shared->Prop}(g:Good knd dec led s.heap a ks)(hw:(ks.length+b)*2<=255)(h:∀h',SameBut a s.heap h'->Good knd dec led h' a ks->Q () { s with heap:=h' }):wpAny (model prog w) A (setRoomFor a b) Q E s:=by
 obtain⟨o,i,ep,t,d,hx,f,hel,e,nd,hb,c,tb⟩:=id g
 have ln:i.size=ks.length:=by rw[<-e.length_eq,length_map,length_toList]
 unfold setRoomFor
 refine aak (aa1 d f c ?_)
 dsimp only
 unfold SetTable.roomFor
 have pl:=P_ c
 split
 ·rename_i z
  split at z
  ·cases z
   exact zO0 g (by grind) (by grind) h
  grind
 ·exact aal (h _ (SameBut.refl a s.heap) g)
theorem zG7{Q:Unit->Shared->Prop}(l:s.heap.get? r=some { cls:=.type "set",dict:=none,data:=.set #[] 0 (.fresh 0 0 (zX w)) })(G:r≠o)(g:Good knd dec (zX w) s.heap o ks)(hl:ks.length<=127)(h:∀h',SameBut r s.heap h'->Good knd dec (zX w) h' r ks->Q () { s with heap:=h' }):wpAny (model prog w) A (setMerge r o each) Q E s:=by
 obtain⟨ob,b,ep,t,ho,hx,Z,u,F,V,C,X,D⟩:=id g
 have ln:b.size=ks.length:=by rw[<-F.length_eq,length_map,length_toList]
 unfold setMerge
 rw[if_neg (by simpa using G)]
 refine aak (aa1 ho Z X ?_)
 dsimp only
 by_cases e:b.isEmpty=true
 ·rw[if_pos e]
  have e0:b.size=0:=by simpa[Array.isEmpty] using e
  have k0:ks=[]:=length_eq_zero_iff.mp (by rw[<-ln];exact e0)
  subst k0
  exact aal (h _ (SameBut.refl r s.heap) (Mp l))
 rw[if_neg e]
 refine aak (abu (Q:=λ_ s'=>∃(i:Heap)(x:Obj)(k:Nat)(d:SetTable),s'={ s with heap:=i }/\SameBut r s.heap i/\i.get? r=some x/\x.ExactSet/\x.data=.set #[] k d/\d.place.size=0/\d.dummies=#[]/\d.led=zX w/\rN (d.mask+1)=true/\b.size<=d.mask) ?first ?post (λ_ _ h=>h))
 case post =>
  rintro _ _ ⟨i,x,k,d,rfl,O,q,T,n,L,N,P,Y,M⟩
  refine aak (aa1 (s:={ s with heap:=i }) q n (by show d.fits 0=true;exact XC L N (aa5 _) (aao 0)) ?_)
  dsimp only
  have f:d.fill=0:=by unfold ad0;rw[L,N];rfl
  unfold SetTable.road
  rw[f]
  rw[if_neg (by simp)]
  by_cases v:(d.mask==t.mask&&t.dummies.isEmpty)=true
  ·rw[if_pos v]
   refine ab6 (s:={ s with heap:=i }) q n (h _ (O.trans (SameBut.update _ r _)) ⟨_,b,_,_,Gw (es':=b) (t':=_) q n,T,rfl,u,F,V,C,X,⟨?_,λz=>D.rz (Bool.and_eq_true_iff.mp z).2⟩⟩) (ab0 C)
   show(d.led&&t.led)=_
   rw[P,D.led,aen]
  ·rw[if_neg v]
   obtain⟨j,a,q1,S,y,H,W,J,R,U⟩:=zUl (mask:=d.mask) Y d.finger d.moves (d.led&&t.led) (d.plain&&t.plain) (b.map (·.1)) (by rw[size_map];exact M)
   rw[size_map] at S y
   dsimp only
   rw[q1]
   have p:=zIr b a S
   have B:(a.filterMap (b[·]?)).size=b.size:=by rw[<-length_toList,p.length_eq,length_toList]
   refine aak (m:=(if((a.filterMap (b[·]?)).size != b.size)=true then unsupported "internal:set-table-lost-an-element" else pure (a.filterMap (b[·]?),j))) ?_
   rw[if_neg (by rw[B];simp)]
   refine aal ?_
   refine ab6 (s:={ s with heap:=i }) q n (h _ (O.trans (SameBut.update _ r _)) ⟨_,_,_,j,Gw (es':=a.filterMap (b[·]?)) (t':=j) q n,T,rfl,u.perm p,(p.map _).trans F,V,by rw[B];exact C,by rw[B];exact XC y H (by rw[W];exact M) (aao _),⟨?_,λ_=>U⟩⟩) (ab0 (by rw[B];exact C))
   rw[J,P,D.led,aen]
 case first =>
  unfold setRoomFor
  refine aak (aa1 l rfl rfl ?_)
  dsimp only
  have e1:(SetTable.fresh 0 0 (zX w)).roomFor b.size=if(b.size*5 ≥ 21) then some (b.size*2) else none:=by
   unfold SetTable.roomFor ad0 SetTable.fresh
   simp
  rw[e1]
  by_cases c:b.size*5 ≥ 21
  ·rw[if_pos c]
   refine zO1 l rfl rfl (by lia) (aa5 _) λI j p y H W J R U=>?_
   have ee:I=#[]:=by
    have:=p.length_eq
    rw[length_toList] at this
    exact Array.eq_empty_of_size_eq_zero this
   subst ee
   exact⟨_,_,_,j,rfl,SameBut.update _ r _,Gw (es':=#[]) (t':=j) l rfl,⟨rfl,rfl,rfl⟩,rfl,y,H,R,J,by omega⟩
  ·rw[if_neg c]
   exact aal ⟨s.heap,_,0,_,rfl,SameBut.refl r s.heap,l,⟨rfl,rfl,rfl⟩,rfl,rfl,rfl,rfl,Qd,by show b.size<=7;omega⟩
end
section
variable{prog:Program}{w:World}{κ:Type}[DecidableEq κ]{knd:KeyKind prog w κ}{dec:Value->κ}{led:Bool}{A:Around}{E:Value->Shared->Prop}{s:Shared}
theorem zVn{Q:Value->Shared->Prop}(g:Good knd dec (zX w) s.heap a ks)(n:ks.length<=127)(h:∀(h':Heap),Good knd dec (zX w) h' s.heap.objs.size ks->(∀c o,c<s.heap.objs.size->s.heap.get? c=some o->h'.get? c=some o)->(ks=[]->h'=s.heap.push { cls:=.type "set",dict:=none,data:=.set #[] 0 (.fresh 0 0 (zX w)) })->Q (.ref s.heap.objs.size) { s with heap:=h' }) :
  wpAny (model prog w) A (ade a) Q E s:=by
 have l:a<s.heap.objs.size:=by obtain⟨o,_,_,_,m,_⟩:=g;exact lt_size m
 have b:∀c o,s.heap.get? c=some o->(s.heap.push { cls:=.type "set",dict:=none,data:=.set #[] 0 (.fresh 0 0 (zX w)) }).get? c=some o:=λc o e=>get?_push_of_some _ e
 have d:=g.keep (b a)
 unfold ade
 refine aak (Uc g.type (aak (Ud ?_)))
 refine aak (aal ?_)
 cases ks with
 |nil =>
  obtain⟨o,k,ep,t,r,hx,j,hel,f,nd,hb,p,tb⟩:=d
  have e0:k.size=0:=by rw[<-length_toList];have:=f.length_eq;grind
  unfold setMerge
  rw[if_neg (by grind)]
  refine aak (aak (aa1 (s:={ s with heap:=_ }) r j p ?_))
  dsimp only
  rw[if_pos (by grind)]
  refine aal (aal (h _ (Mp (get?_push_size _ rfl)) (λc o _ e=>b c o e) λ_=>rfl))
 |cons k0 ks0 =>
  refine aak (zG7 (s:={ s with heap:=_ }) (get?_push_size _ rfl) (adt l) d n λh' u q=>?_)
  exact aal (h h' q (λc o i e=>by rw[u.2 c (aat i)];exact b c o e) λz=>by cases z)
theorem Qi{α:Type}(xs:Array α)(p:Nat):(eraseAt xs p).toList=xs.toList.eraseIdx p:=by
 unfold eraseAt
 rw[List.eraseIdx_eq_take_drop_succ]
 simp[List.extract_eq_take_drop]
 exact List.take_of_length_le (by grind)
theorem zX2{α:Type}(xs:Array α)(p:Nat)(x:α):(insertAt xs p x).size=xs.size+1:=by
 unfold insertAt
 grind
theorem Qj(hr:Rz xs)(p:Nat):Rz (eraseAt xs p):=by
 intro i k a b hik ha hb
 rw[<-getElem?_toList,Qi,List.getElem?_eraseIdx] at ha hb
 have q:∀j,xs.toList[j]?=xs[j]?:=λj=>getElem?_toList
 split at ha<;>split at hb
 ·exact hr i k a b hik (by rw[<-q];exact ha) (by rw[<-q];exact hb)
 ·exact hr i (k+1) a b (by omega) (by rw[<-q];exact ha) (by rw[<-q];exact hb)
 ·omega
 ·exact hr (i+1) (k+1) a b (by omega) (by rw[<-q];exact ha) (by rw[<-q];exact hb)
theorem zMe(c:∀k v,knd.is k v=true->dec v=k){Q:Bool->Shared->Prop}(P:knd.is k x=true)(R:x.scannable=true)(g:Good knd dec led s.heap a ks)(h:∀(h':Heap) (b:Bool),SameBut a s.heap h'->Good knd dec led h' a (ks.erase k)->(b=true↔k∈ks)->Q b { s with heap:=h' }) :
  wpAny (model prog w) A (setDiscardHashed a x (knd.hash k)) Q E s:=by
 obtain⟨o,d,ep,t,l,T,m,f,u,V,N,r,L⟩:=id g
 unfold setDiscardHashed
 refine aak ?_
 unfold setFind setFindIn
 refine aak (aa1 l m r ?_)
 dsimp only
 rw[byScan_of R N f]
 simp only[↓reduceIte]
 refine aak (adz (aak (wpAny_setScan_of P l m r f ?_)))
 have S:=zL6 c f k
 cases F:List.findIdx? (λe=>knd.is k e.2) d.toList with
 |none =>
  have I:k∉ks:=λz=>S.mp F (u.mem_iff.mpr z)
  dsimp only
  refine aal (aal ?_)
  have q:=h s.heap false (SameBut.refl a s.heap)
  rw[List.erase_of_not_mem I] at q
  exact q g ⟨λz=>(by cases z),λz=>absurd z I⟩
 |some j =>
  obtain⟨n,p,_⟩:=List.findIdx?_eq_some_iff_getElem.mp F
  dsimp only
  rw[aex]
  refine aal (aak (aa1 l m r ?_))
  dsimp only
  have G:t.place.size=d.size:=P_ r
  have i:j<t.place.size:=by rw[G,<-length_toList];exact n
  have B:(eraseAt d j).size=d.size-1:=by rw[<-length_toList,Qi,length_eraseIdx,if_pos n,length_toList]
  have M:t.drop j={ t with place:=eraseAt t.place j,dummies:=insertAt t.dummies (below t.dummies t.place[j]) t.place[j] }:=by
   unfold SetTable.drop
   rw[aav i]
  have jz:j<d.size:=by rw[<-length_toList];exact n
  have O:(t.drop j).fits (eraseAt d j).size=true:=by
   rw[M]
   unfold fits ad0 at r ⊢
   have U:(eraseAt t.place j).size=d.size-1:=by rw[<-length_toList,Qi,length_eraseIdx,length_toList,if_pos i,G]
   dsimp only
   rw[U,zX2,B]
   grind
  have y:Tb led (t.drop j):=by
   rw[M]
   exact⟨L.led,λz=>Qj (L.rz z) j⟩
  have C:((eraseAt d j).toList.map λe=>dec e.2).Perm (ks.erase k):=by
   rw[Qi]
   have H:=((T6 n).map λe=>dec e.2).trans u
   rw[map_cons,c k _ p] at H
   have D:=H.erase k
   rw[List.erase_cons_head] at D
   exact D
  have W:k∈ks:=u.mem_iff.mp (mem_map.mpr ⟨d.toList[j],getElem_mem n,c k _ p⟩)
  refine aak (ab6 l m (aak (wpAny_point (aal (h _ true (SameBut.update _ a _) ⟨_,_,_,_,Gw (es':=eraseAt d j) (t':=t.drop j) l m,T,rfl,λe J=>?_,C,V.erase k,by rw[B];lia,O,y⟩ ⟨λ_=>W,λ_=>rfl⟩)))) (ab0 (by rw[B];lia)))
  rw[Qi] at J
  exact f e (List.mem_of_mem_eraseIdx J)
theorem CQ{Q:Unit->Shared->Prop}(g:Good knd dec led s.heap a ks)(hw:ks.length<=63)(h:∀h',SameBut a s.heap h'->Good knd dec led h' a ks->Q () { s with heap:=h' }):wpAny (model prog w) A (setTidy a) Q E s:=by
 obtain⟨o,b,ep,t,i,hx,f,hel,c,nd,hb,d,tb⟩:=id g
 have ln:b.size=ks.length:=by rw[<-c.length_eq,length_map,length_toList]
 refine aak (aa1 i f d ?_)
 dsimp only
 split
 ·have e:grown b.size=ks.length*4:=by unfold grown;grind
  exact zO0 g (by lia) (by lia) h
 ·exact aal (h _ (SameBut.refl a s.heap) g)
theorem zQm(g:Good knd dec (zX w) s.heap a ks)(r:∀b∈d,∃ks:List κ,Good knd dec (zX w) s.heap b ks)(p:∀k v,knd.is k v=true->∀b,v≠.ref b){Q:Array (Int×Value)->Shared->Prop}(h:∀(es:Array (Int×Value)),ElemsOf knd es.toList->(es.toList.map λe=>dec e.2).Perm ks->Q es s):wpAny (model prog w) A (setWalkUnseen a d none) Q E s:=by
 obtain⟨o,es,ep,t,q,h2,u,x,hl,tb,l,n⟩:=g.size
 refine aak (aa1 q u x ?_)
 dsimp only
 refine aak (JF ?_)
 split
 ·rename_i c
  refine zR0 g (λm o' i ep' t' h1' h3'=>?_) λi f j=>h i f j
  grind
 ·refine aak (zO3 (knd:=knd) (dec:=dec) (led:=zX w) (a::d) (λb m=>(mem_cons.mp m).elim (λe=>e▸⟨ks,g⟩) (r b)) p ?_)
  exact aak (adz (aal (h es l n)))
theorem CT(p:∀k v,knd.is k v=true->dec v=k)(id:String)(hn:∀k v,knd.is k v=true->∀b,v≠.ref b)(x:b≠r)(I:Good knd dec (zX w) s.heap r u)(J:Good knd dec (zX w) s.heap b G)(hl:u.length<=63)(Y:¬G.length/8 > u.length){Q:Unit->Shared->Prop}(h:∀(h':Heap) (d:List κ),SameBut r s.heap h'->Good knd dec (zX w) h' r d->(∀k,k∈d↔k∈u/\k∉G)->Q () { s with heap:=h' }) :
  wpAny (model prog w) A (Builtin.Frozenset.differenceUpdate id r (.ref b)) Q E s:=by
 obtain⟨o,es,ep,t,X,n,T,V,hlb,tb,hel,hp⟩:=J.size
 have nda:u.Nodup:=by obtain⟨_,_,_,_,_,_,_,_,_,L,_⟩:=I;exact L
 unfold Builtin.Frozenset.differenceUpdate
 rw[if_neg (λe=>x (aed (ad5 e)))]
 refine aak (rJ J.type ?_)
 simp only[↓reduceIte]
 refine aak (aal ?_)
 refine aak (Mt J (aak (Mt I ?_)))
 rw[if_neg Y]
 refine aak (abd X T V ?_)
 refine aak (aa7 (aak (zQm J (λc Z=>(mem_singleton.mp Z)▸⟨u,I⟩) hn λR F O=>?_)))
 rw[<-forIn_toList]
 refine aak (abu (ace (β:=Unit) _ (λl _ z=>∃n d,z={ s with heap:=n }/\SameBut r s.heap n/\Good knd dec (zX w) n r d/\ElemsOf knd l/\d.length<=63/\∀k,(k∈d/\k∉l.map λe=>dec e.2)↔(k∈u/\k∉G)) (λ_ z=>∃n d,z={ s with heap:=n }/\SameBut r s.heap n/\Good knd dec (zX w) n r d/\d.length<=63/\∀k,k∈d↔k∈u/\k∉G) ?turn ?fin R.toList () ⟨s.heap,u,rfl,SameBut.refl r s.heap,I,F,hl,λk=>?_⟩) ?post (λ_ _ h=>h))
 case turn =>
  rintro⟨hs',v⟩ l W z ⟨g,d,rfl,i,y,B,f,C⟩
  obtain⟨⟨k,P,U⟩,D⟩:=B _ mem_cons_self
  dsimp only at P U D ⊢
  subst U
  have dv:dec v=k:=p k v P
  have S:d.Nodup:=by obtain⟨_,_,_,_,_,_,_,_,_,L,_⟩:=y;exact L
  refine aak (aa7 (zMe (led:=zX w) (s:={ s with heap:=g }) p P D y λj b'' m M _=>?_))
  refine aak ?_
  unfold aa6
  refine aak (abd (s:={ s with heap:=j }) (by show j.get? b=_;rw[m.2 b x];show g.get? b=_;rw[i.2 b x];exact X) T V ?_)
  simp only[bne_self_eq_false,aa3,↓reduceIte]
  refine aal (aal ⟨j,d.erase k,rfl,i.trans m,M,λe he=>B e (mem_cons_of_mem _ he),?_,λc=>?_⟩)
  ·have:=List.length_erase_le (a:=k) (l:=d)
   lia
  ·rw[<-C c,map_cons,mem_cons]
   show _↔(c∈d/\¬(c=dec v\/_))
   rw[dv,S.mem_erase_iff]
   constructor
   ·rintro⟨⟨N,H⟩,z3⟩
    exact⟨H,λq=>q.elim N z3⟩
   ·rintro⟨N,H⟩
    exact⟨⟨λq=>H (.inl q),N⟩,λq=>H (.inr q)⟩
 case fin =>
  rintro W z ⟨g,d,rfl,i,y,_,f,C⟩
  refine⟨g,d,rfl,i,y,f,λk=>?_⟩
  rw[<-C k]
  simp
 case post =>
  rintro W z ⟨g,d,rfl,i,y,f,C⟩
  refine aal ?_
  exact CQ (s:={ s with heap:=g }) y f λj m M=>h j d (i.trans m) M C
 ·rw[O.mem_iff]
end
theorem zJr:entryFor table "set.__sub__" = some Builtin.«frozenset.__sub__»:=ac4 (id':="frozenset.__sub__") (by kernel_rfl) rfl (by trivial) (by kernel_rfl)
theorem zK6:entryFor table "set.__or__" = some Builtin.«frozenset.__or__»:=ac4 (id':="frozenset.__or__") (by kernel_rfl) rfl (by trivial) (by kernel_rfl)
section
variable{prog:Program}{w:World}{κ:Type}[DecidableEq κ]{knd:KeyKind prog w κ}{dec:Value->κ}{led:Bool}{A:Around}{E:Value->Shared->Prop}{s:Shared}
theorem zVi(u:∀k v,knd.is k v=true->dec v=k)(id:String)(hn:∀k v,knd.is k v=true->∀b,v≠.ref b)(hxr:x≠r)(W:y≠r)(gx:Good knd dec (zX w) s.heap x m)(X:Good knd dec (zX w) s.heap y B)(gr:Good knd dec (zX w) s.heap r [])(Z:∀o es e t,s.heap.get? y=some o->o.data=.set es e t->e=ep){Q:Unit->Shared->Prop}(h:∀(h':Heap) (a:List κ),SameBut r s.heap h'->Good knd dec (zX w) h' r a->(∀k,k∈a↔k∈B/\k∉m)->Q () { s with heap:=h' }) :
  wpAny (model prog w) A (do
   for (h,V) in <-setWalkUnseen y [x,r] (some r) do
    holding [V] do
     let G <-pure (<-setFind x V h).isSome
     if !G then
      let _ <-setAddHashed r V h
    aa6 id y ep) Q E s:=by
 obtain⟨o,es,M,t,h1,d,h3,hf,hl,tb,hel,hp⟩:=X.size
 have e1:=Z o es M t h1 h3
 subst e1
 refine aak (Ub X gr (λb hb=>(mem_cons.mp hb).elim (λe=>e▸⟨m,gx⟩) λe=>(mem_singleton.mp e)▸⟨[],gr⟩) hn λR h' N O sb XD=>?_)
 rw[<-forIn_toList]
 have ln:R.toList.length=B.length:=by rw[<-O.length_eq,length_map]
 refine aak (abu (ace (β:=Unit) _ (λl _ J=>∃d a,J={ s with heap:=d }/\SameBut r s.heap d/\Good knd dec (zX w) d r a/\ElemsOf knd l/\a.length+l.length<=B.length/\∀k,(k∈a\/(k∉m/\k∈l.map λe=>dec e.2))↔(k∈B/\k∉m)) (λ_ J=>∃d a,J={ s with heap:=d }/\SameBut r s.heap d/\Good knd dec (zX w) d r a/\∀k,k∈a↔k∈B/\k∉m) ?turn ?fin R.toList () ⟨h',[],rfl,sb,XD,N,by rw[ln,length_nil];lia,λk=>?_⟩) ?post (λ_ _ h=>h))
 case turn =>
  rintro⟨hs,v⟩ l b J ⟨d,a,rfl,i,L,S,P,I⟩
  obtain⟨⟨k,T,hh⟩,H⟩:=S _ mem_cons_self
  dsimp only at T hh H ⊢
  subst hh
  have kx':∀o,s.heap.get? x=some o->d.get? x=some o:=λo e=>by rw[i.2 x hxr];exact e
  have U:=gx.keep kx'
  have dv:dec v=k:=u k v T
  rw[length_cons] at P
  have F:∀(f:Heap)(p:List κ),SameBut r s.heap f->Good knd dec (zX w) f r p->p.length+l.length<=B.length->(∀c,(c∈p\/(c∉m/\c∈l.map λe=>dec e.2))↔(c∈B/\c∉m)) ->
    wpAny (model prog w) A (aa6 id y M) (λ_ D=>wpAny (model prog w) A (pure (ab7 ())) (λq D=>match q with|.yield _=>∃d a,D={ s with heap:=d }/\SameBut r s.heap d/\Good knd dec (zX w) d r a/\ElemsOf knd l/\a.length+l.length<=B.length/\∀k,(k∈a\/(k∉m/\k∈l.map λe=>dec e.2))↔(k∈B/\k∉m)|.done _=>∃d a,D={ s with heap:=d }/\SameBut r s.heap d/\Good knd dec (zX w) d r a/\∀k,k∈a↔k∈B/\k∉m) E D) E { s with heap:=f }:=λf p C Y l3 m3=>by
   unfold aa6
   refine aak (abd (s:={ s with heap:=f }) (by show f.get? y=_;rw[C.2 y W];exact h1) h3 hf ?_)
   simp only[bne_self_eq_false,aa3,↓reduceIte]
   exact aal (aal ⟨f,p,rfl,C,Y,λe he=>S e (mem_cons_of_mem _ he),l3,m3⟩)
  refine aak (aa7 (aak (wpAny_setFind_of (s:={ s with heap:=d }) T H (U.setOf u) λq hq=>aak (aal ?_))))
  cases q with
  |some j =>
   have nk:k∈m:=by simpa using hq.symm
   simp only[ad6,aco,aa3,↓reduceIte]
   refine aal (aak (F d a i L (by lia) λc=>?_))
   rw[<-I c,map_cons,mem_cons]
   show _↔(c∈a\/c∉m/\(c=dec v\/_))
   rw[dv]
   constructor
   ·rintro(z|⟨n,g⟩)
    ·exact .inl z
    ·exact .inr ⟨n,.inr g⟩
   ·rintro(z|⟨n,g|g⟩)
    ·exact .inl z
    ·exact absurd nk (g▸n)
    ·exact .inr ⟨n,g⟩
  |none =>
   have mk:k∉m:=by simpa using hq.symm
   simp only[Option.isSome_none,aek,↓reduceIte]
   refine aak (P0 (led:=zX w) (s:={ s with heap:=d }) u T H L (by have:=X.len;lia) λf b' C Y=>?_)
   refine aal (aak (F f _ (i.trans C) Y ?_ λc=>?_))
   ·split
    ·lia
    ·rw[length_cons];lia
   ·rw[<-I c,map_cons,mem_cons]
    show _↔(c∈a\/c∉m/\(c=dec v\/_))
    rw[dv]
    have e:c∈(if k∈a then a else k::a)↔c=k\/c∈a:=by
     split
     ·rename_i z
      exact⟨.inr,λq=>q.elim (λq=>q▸z) λq=>q⟩
     ·exact mem_cons
    rw[e]
    constructor
    ·rintro((z|z)|⟨n,g⟩)
     ·exact .inr ⟨z▸mk,.inl z⟩
     ·exact .inl z
     ·exact .inr ⟨n,.inr g⟩
    ·rintro(z|⟨n,g|g⟩)
     ·exact .inl (.inr z)
     ·exact .inl (.inl g)
     ·exact .inr ⟨n,g⟩
 case fin =>
  rintro b J ⟨d,a,rfl,i,L,_,_,I⟩
  refine⟨d,a,rfl,i,L,λk=>?_⟩
  rw[<-I k]
  simp
 case post =>
  rintro b J ⟨d,a,rfl,i,L,I⟩
  exact aal (h d a i L I)
 ·rw[O.mem_iff]
  constructor
  ·rintro(z|⟨n,g⟩)
   ·cases z
   ·exact⟨g,n⟩
  ·exactλ⟨n,g⟩=>.inr ⟨g,n⟩
theorem CV(d:∀k v,knd.is k v=true->dec v=k)(id:String)(D:∀k v,knd.is k v=true->∀b,v≠.ref b)(hab:b≠a)(q:Good knd dec (zX w) s.heap a H)(n:Good knd dec (zX w) s.heap b P)(F:H.length<=63){Q:Value->Shared->Prop}(h:∀(h':Heap) (j:List κ),Good knd dec (zX w) h' s.heap.objs.size j->(∀k,k∈j↔k∈H/\k∉P)->(∀c o,c<s.heap.objs.size->s.heap.get? c=some o->h'.get? c=some o)->Q (.ref s.heap.objs.size) { s with heap:=h' }) :
  wpAny (model prog w) A (Builtin.Frozenset.difference id a (.ref b)) Q E s:=by
 have R:a<s.heap.objs.size:=by obtain⟨o,_,_,_,i,_⟩:=q;exact lt_size i
 have z:b<s.heap.objs.size:=by obtain⟨o,_,_,_,i,_⟩:=n;exact lt_size i
 unfold Builtin.Frozenset.difference
 refine aak (rJ n.type ?_)
 simp only[aco,aa3,Bool.false_and,↓reduceIte]
 refine aak (aal ?_)
 refine aak (Mt n (aak (Mt q ?_)))
 split
 ·rename_i c
  refine aak (adz (aak (zVn q (by lia) λh' N J _=>?_)))
  refine aak (aal ?_)
  refine aak (aa7 (CT (s:={ s with heap:=h' }) d id D (aat z) N (n.keep λo e=>J b o z e) F (by lia) λG j B O m=>aal (h G j O m λc o u e=>?_)))
  rw[B.2 c (aat u)]
  exact J c o u e
 ·refine aak (Uc q.type (aak (Ud ?_)))
  refine aak (aal ?_)
  have x:∀c o,s.heap.get? c=some o->(s.heap.push { cls:=.type "set",dict:=none,data:=.set #[] 0 (.fresh 0 0 (zX w)) }).get? c=some o:=λc o e=>get?_push_of_some _ e
  have f:=q.keep (x a)
  have l:=n.keep (x b)
  have r:Good knd dec (zX w) (s.heap.push { cls:=.type "set",dict:=none,data:=.set #[] 0 (.fresh 0 0 (zX w)) }) s.heap.objs.size []:=Mp (get?_push_size _ rfl)
  generalize hp:s.heap.push { cls:=.type "set",dict:=none,data:=.set #[] 0 (.fresh 0 0 (zX w)) }=y at x f l r ⊢
  obtain⟨o,es,ep,t,i,G,C,S,F,tb,hel,hpp⟩:=f.size
  refine aak (abd (s:={ s with heap:=y }) i C S ?_)
  refine aak (aa7 (zVi (s:={ s with heap:=y }) d id D (aat z) (aat R) l f r (λM es' e' t' L I=>?_) λh' j B g m=>aal (h h' j g m λc o u e=>?_)))
  ·have p:y.get? a=some M:=L
   rw[i] at p
   cases p
   rw[C] at I
   cases I
   rfl
  ·rw[B.2 c (aat u)];exact x c o e
theorem JR(d:∀k v,knd.is k v=true->dec v=k)(q:∀k v,knd.is k v=true->∀b,v≠.ref b)(j:b≠a)(f:Good knd dec (zX w) s.heap a l)(i:Good knd dec (zX w) s.heap b n)(p:l.length<=63){Q:Value->Shared->Prop}(h:∀(h':Heap) (e:List κ),Good knd dec (zX w) h' s.heap.objs.size e->(∀k,k∈e↔k∈l/\k∉n)->(∀c o,c<s.heap.objs.size->s.heap.get? c=some o->h'.get? c=some o)->Q (.ref s.heap.objs.size) { s with heap:=h' }) :
  wpAny (model prog w) A (binaryOp .Sub (.ref a) (.ref b)) Q E s:=by
 refine adb (op:=.Sub) f.type i.type F.fills_set_sub F.slot_set_sub (abx F.slot_set_sub f.type zJr ?_ (F.args_set_sub_2 _ _))
 refine aak ?_
 refine aal ?_
 dsimp only
 refine aak (aak (rJ f.type ?_))
 refine rJ i.type ?_
 refine aak (aal (aak (CV d _ q j f i p λh' e g m k=>aal ⟨.ref s.heap.objs.size,rfl,?_,h h' e g m k⟩)))
 grind
end
section
variable{prog:Program}{w:World}{κ:Type}[DecidableEq κ]{knd:KeyKind prog w κ}{dec:Value->κ}{led:Bool}{A:Around}{E:Value->Shared->Prop}{s:Shared}
theorem zXs(u:∀k v,knd.is k v=true->dec v=k)(id:String)(hn:∀k v,knd.is k v=true->∀b,v≠.ref b)(n:o≠r)(g:Good knd dec (zX w) s.heap r j)(go:Good knd dec (zX w) s.heap o B)(hk:j≠[])(hl:(j.length+B.length)*2<=255)(Y:∀ob es e t,s.heap.get? o=some ob->ob.data=.set es e t->e=ep){Q:Unit->Shared->Prop}(h:∀(h':Heap) (ks:List κ),SameBut r s.heap h'->Good knd dec (zX w) h' r ks->(∀k,k∈ks↔k∈j\/k∈B)->Q () { s with heap:=h' }) :
  wpAny (model prog w) A (setMerge r o (aa6 id o ep)) Q E s:=by
 obtain⟨ob,es,V,t,X,p,U,hf,M,tb,hel,hp⟩:=go.size
 have e1:=Y ob es V t X U
 subst e1
 unfold setMerge
 rw[if_neg (by simpa using(acf n))]
 refine aak (aa1 X U hf ?_)
 dsimp only
 by_cases i:es.isEmpty=true
 ·rw[if_pos i]
  have e0:es.size=0:=by simpa[Array.isEmpty] using i
  have k0:B=[]:=length_eq_zero_iff.mp (by rw[<-M];exact e0)
  subst k0
  exact aal (h _ j (SameBut.refl r s.heap) g λk=>by simp)
 rw[if_neg i]
 refine aak (CP g (by rw[M];exact hl) λW T Z=>?_)
 obtain⟨o5,es5,ep5,t5,i1,i2,i3,D,il5,tb5,aah,ip5⟩:=Z.size
 have go4:=go.keep (h':=W) λob' e=>by rw[T.2 o n];exact e
 refine aak (aa1 (s:={ s with heap:=W }) i1 i3 D ?_)
 dsimp only
 have y:t5.fill≠0:=by
  unfold ad0
  rw[P_ D,il5]
  cases j with
  |nil=>exact absurd rfl hk
  |cons a l=>rw[length_cons];lia
 unfold SetTable.road
 rw[if_pos (by simpa using y)]
 dsimp only
 refine aak (Ub (s:={ s with heap:=W }) go4 Z (λb hb=>(mem_singleton.mp hb)▸⟨j,Z⟩) hn λR h' N P sb XD=>?_)
 rw[<-forIn_toList]
 have ln:R.toList.length=B.length:=by rw[<-P.length_eq,length_map]
 refine aak (abu (ace (β:=Unit) _ (λl _ C=>∃p ks,C={ s with heap:=p }/\SameBut r s.heap p/\Good knd dec (zX w) p r ks/\ElemsOf knd l/\ks.length+l.length<=128/\∀k,(k∈ks\/k∈l.map λe=>dec e.2)↔(k∈j\/k∈B)) (λ_ C=>∃p ks,C={ s with heap:=p }/\SameBut r s.heap p/\Good knd dec (zX w) p r ks/\∀k,k∈ks↔k∈j\/k∈B) ?turn ?fin R.toList () ⟨h',j,rfl,T.trans sb,XD,N,by rw[ln];lia,λk=>?_⟩) ?post (λ_ _ h=>h))
 case turn =>
  rintro⟨hs,v⟩ l b C ⟨f,ks,rfl,d,F,O,H,J⟩
  obtain⟨⟨k,x,hh⟩,L⟩:=O _ mem_cons_self
  dsimp only at x hh L ⊢
  subst hh
  have dv:dec v=k:=u k v x
  rw[length_cons] at H
  have big:(129:Nat)<scanBound:=by decide
  have I:ks.length+1<scanBound:=by lia
  refine aak (aa7 (P0 (led:=zX w) (s:={ s with heap:=f }) u x L F I λm b' S g3=>?_))
  have G:m.get? o=some ob:=by rw[S.2 o n];show f.get? o=_;rw[d.2 o n];exact X
  refine aak ?_
  unfold aa6
  refine aak (abd (s:={ s with heap:=m }) G U hf ?_)
  simp only[bne_self_eq_false,aa3,↓reduceIte]
  refine aal (aak (aa1 (s:={ s with heap:=m }) G U hf ?_))
  simp only[bne_self_eq_false,aa3,↓reduceIte]
  refine aal ⟨m,_,rfl,d.trans S,g3,λe he=>O e (mem_cons_of_mem _ he),?_,λc=>?_⟩
  ·split
   ·lia
   ·rw[length_cons];lia
  ·rw[<-J c,map_cons,mem_cons]
   show _↔(c∈ks\/(c=dec v\/_))
   rw[dv]
   have e:c∈(if k∈ks then ks else k::ks)↔c=k\/c∈ks:=by
    split
    ·rename_i z
     exact⟨.inr,λq=>q.elim (λq=>q▸z) λq=>q⟩
    ·exact mem_cons
   rw[e]
   constructor
   ·rintro((z|z)|z)
    ·exact .inr (.inl z)
    ·exact .inl z
    ·exact .inr (.inr z)
   ·rintro(z|z|z)
    ·exact .inl (.inr z)
    ·exact .inl (.inl z)
    ·exact .inr z
 case fin =>
  rintro b C ⟨f,ks,rfl,d,F,_,_,J⟩
  refine⟨f,ks,rfl,d,F,λk=>?_⟩
  rw[<-J k]
  simp
 case post =>
  rintro b C ⟨f,ks,rfl,d,F,J⟩
  exact aal (h f ks d F J)
 ·rw[P.mem_iff]
theorem zYx(c:∀k v,knd.is k v=true->dec v=k)(id:String)(m:∀k v,knd.is k v=true->∀b,v≠.ref b)(d:o≠r)(g:Good knd dec (zX w) s.heap r f)(e:Good knd dec (zX w) s.heap o i)(h0:f=[]->s.heap.get? r=some { cls:=.type "set",dict:=none,data:=.set #[] 0 (.fresh 0 0 (zX w)) })(p:(f.length+i.length)*2<=255){Q:Unit->Shared->Prop}(h:∀(h':Heap) (ks:List κ),SameBut r s.heap h'->Good knd dec (zX w) h' r ks->(∀k,k∈ks↔k∈f\/k∈i)->Q () { s with heap:=h' }) :
  wpAny (model prog w) A (Builtin.Frozenset.updateFrom id r (.ref o)) Q E s:=by
 obtain⟨ob,es,ep',t,n,h2,q,x,hlo,tb,hel,hp⟩:=e.size
 refine aak (rJ e.type ?_)
 simp only[↓reduceIte]
 refine aak (aal ?_)
 refine aak (abd n q x ?_)
 cases f with
 |nil=>exact zG7 (h0 rfl) (acf d) e (by grind) λh' u j=>h h' i u j λk=>by simp
 |cons a l =>
  refine zXs c id m d g e (λz=>by cases z) p (λob' es' e' t' z1 z2=>?_) h
  grind
theorem Qk(d:∀k v,knd.is k v=true->dec v=k)(u:∀k v,knd.is k v=true->∀b,v≠.ref b)(hab:b≠a)(g:Good knd dec (zX w) s.heap a n)(f:Good knd dec (zX w) s.heap b q)(hl:n.length<=63)(hl':q.length<=63){Q:Value->Shared->Prop}(h:∀(h':Heap) (p:List κ),Good knd dec (zX w) h' s.heap.objs.size p->(∀k,k∈p↔k∈n\/k∈q)->(∀c o,c<s.heap.objs.size->s.heap.get? c=some o->h'.get? c=some o)->Q (.ref s.heap.objs.size) { s with heap:=h' }) :
  wpAny (model prog w) A (binaryOp .BitOr (.ref a) (.ref b)) Q E s:=by
 have l:b<s.heap.objs.size:=by obtain⟨o,_,_,_,B,_⟩:=f;exact lt_size B
 refine adb (op:=.BitOr) (T:="set") g.type f.type F.fills_set_or F.slot_set_or (abx F.slot_set_or g.type zK6 ?_ (F.args_set_or_2 _ _))
 refine aak (m:=acs "__or__" ⟨[.ref a,.ref b],[]⟩) ?_
 unfold acs slotArgs
 refine aal ?_
 dsimp only
 refine aak (aak (rJ g.type ?_))
 refine rJ f.type ?_
 simp only[aco,aa3,↓reduceIte]
 refine aak (aal (aak ?_))
 refine aak (m:=ade a) (zVn g (by lia) λh' G j D=>?_)
 have C:(abj b != .ref a)=true:=by
  grind
 rw[if_pos C]
 refine aak (aal ?_)
 refine aak (aa7 (zYx (s:={ s with heap:=h' }) d _ u (aat l) G (f.keep λo e=>j b o l e) (λz=>?_) (by lia) λr y t x m=>aal (aal ⟨.ref s.heap.objs.size,rfl,?_,h r y x m λc o i e=>?_⟩)))
 ·show h'.get? _=_
  rw[D z]
  exact get?_push_size _ rfl
 ·exactλz=>Value.noConfusion z
 ·rw[t.2 c (aat i)]
  exact j c o i e
end
end jU
namespace L2
open PySem PySem.Spec PyProof.Rows jU
section
variable{X:Cx}
def GD(g d:Cy):Cy:=λσ H Q=>g σ H λb f=>b.length<64/\d σ f λc e=>∀a:LI,a.Nodup->(∀z,z∈a↔z∈b/\z∉c)->Q a e
theorem CW(F:wj X a D)(l:wj X b C):wj X (.BinOp a .Sub b pos) (GD D C):=by
 intro c s σ H Q I h
 refine aea (aP (F c s σ H _ I h) ?_)
 rintro u w ⟨p,ks,B,e,J,g,fo,R,N⟩
 subst e
 obtain⟨o,es,ep,t,x,gx,gd,_⟩:=id g
 have f:=J.pinned (fp:=[p]) (λb l=>by grind) (λb l=>by
  grind)
 refine aP (l _ w σ B _ f N) ?_
 rintro u2 d ⟨P,js,W,Z,q,L,j,S⟩
 subst Z
 have n:(p,o)∈X.pn++(c++Ax [p] w.heap):=mem_append_right _ (mem_append_right _ (uG (mem_singleton.mpr rfl) x))
 have T:d.heap.get? p=some o:=(q.pin (p,o) n).1
 have Y:=g.keep (h':=d.heap) λo' A=>by rw[x] at A;cases A;exact T
 have U:P≠p:=acf (j.2.2.2.2.2 (p,o) n)
 have i:=q.cu
 refine JR T_ (λk v O b z=>?_) U Y L (ab5 R) λM y r m k=>?_
 ·obtain⟨t,rfl⟩:=acj O
  cases z
 ·have E:=i.kept (h':=M) (t':=d.toks) λb o e=>k b o (lt_size e) e
  obtain⟨_,_,_,_,_,_,_,_,_,G,_⟩:=id r
  exact⟨_,y,W,rfl,E,r,i.iC (aao _) (i.hok.fresh (aao _)),S y G m⟩
def Ql(f g:Cy):Cy:=λσ H Q=>f σ H λc d=>c.length<64/\g σ d λb e=>b.length<64/\∀a:LI,a.Nodup->(∀z,z∈a↔z∈c\/z∈b)->Q a e
theorem JT(D:wj X a ta)(f:wj X b T):wj X (.BinOp a .BitOr b pos) (Ql ta T):=by
 intro c s σ H Q I h
 refine aea (aP (D c s σ H _ I h) ?_)
 rintro u r ⟨p,ks,W,e,J,g,fo,R,N⟩
 subst e
 obtain⟨o,es,ep,t,y,gx,gd,_⟩:=id g
 have i:=J.pinned (fp:=[p]) (λb f=>by grind) (λb f=>by
  grind)
 refine aP (f _ r σ W _ i N) ?_
 rintro u2 d ⟨P,js,Y,C,x,L,j,l,F⟩
 subst C
 have q:(p,o)∈X.pn++(c++Ax [p] r.heap):=mem_append_right _ (mem_append_right _ (uG (mem_singleton.mpr rfl) y))
 have S:d.heap.get? p=some o:=(x.pin (p,o) q).1
 have Z:=g.keep (h':=d.heap) λo' B=>by rw[y] at B;cases B;exact S
 have U:P≠p:=acf (j.2.2.2.2.2 (p,o) q)
 have n:=x.cu
 refine Qk T_ (λk v O b z=>?_) U Z L (ab5 R) (ab5 l) λM A w m k=>?_
 ·obtain⟨t,rfl⟩:=acj O
  cases z
 ·have E:=n.kept (h':=M) (t':=d.toks) λb o e=>k b o (lt_size e) e
  obtain⟨_,_,_,_,_,_,_,_,_,G,_⟩:=id w
  exact⟨_,A,Y,rfl,E,w,n.iC (aao _) (n.hok.fresh (aao _)),F A G m⟩
end
end L2
namespace Ts
open PySem L2
noncomputable def lZ(ns a:LI):Option LI:=if ns.length<64/\a.length<4000 then some (iH (ns.filter λz=>!decide (z∈a))) else none
noncomputable def CZ(ns a:LI):Option LI:=if ns.length<64/\a.length<64/\(iH (ns++a)).length<64 then some (iH (ns++a)) else none
section
variable{K:Frag}{B:Bs}{sl:SL K}{md:Md}{t1 t2:TE}
theorem zRo(L:Ex B sl .hp t1 R)(h2:Ex B sl .hp t2 N):Eo B sl md (Qa (GD (Gx K t1) (Gx K t2))) (R.bind λa=>N.bind λb=>lZ a b):=λc P F O H σ Q s k=>by
 obtain⟨m,h,S,Z,d⟩:=jK P
 unfold lZ at d
 split at d
 case isFalse=>cases d
 rename_i f
 cases d
 refine L m S F O H σ _ s λv M T g E=>?_
 obtain⟨p,vs,rfl,C,z2⟩:=E
 have X:=z2.vals
 subst X
 refine⟨p,m,rfl,aW.of C,aax f.1 (by decide),λks I j=>⟨aaw (Ab I λz i=>(j z).mp i) f.1,?_⟩⟩
 refine h2 h Z M O T σ _ (s.grow g) λw r H2 J x=>?_
 obtain⟨U,vs',rfl,Y,t⟩:=x
 have G:=t.vals
 subst G
 refine⟨U,h,rfl,aW.of Y,f.2,λjs jd A rs o n=>⟨aaw (Ab o λz i=>(j z).mp ((n z).mp i).1) f.1,λl y D q u=>?_⟩⟩
 have e:y=iH (m.filter λz=>!decide (z∈h)):=JH (Ms u (q.nodup_iff.mpr o)) (Gy _) λz=>by rw[q.mem_iff,n,j,A,bC,mem_filter,Bool.not_eq_true',decide_eq_false_iff_not]
 subst e
 exact k l _ r H2 (g.trans J) D (uS _)
theorem zVb(L:Ex B sl .hp t1 P)(h2:Ex B sl .hp t2 N):Eo B sl md (Qa (Ql (Gx K t1) (Gx K t2))) (P.bind λa=>N.bind λb=>CZ a b):=λc A F O H σ Q s k=>by
 obtain⟨r,o,R,T,h⟩:=jK A
 unfold CZ at h
 split at h
 case isFalse=>cases h
 rename_i f
 cases h
 refine L r R F O H σ _ s λv M S g E=>?_
 obtain⟨p,vs,rfl,C,z2⟩:=E
 have X:=z2.vals
 subst X
 refine⟨p,r,rfl,aW.of C,aax f.1 (by decide),λks I i=>⟨aaw (Ab I λz d=>(i z).mp d) f.1,?_⟩⟩
 refine h2 o T M O S σ _ (s.grow g) λw t H2 J y=>?_
 obtain⟨U,vs',rfl,Y,Z⟩:=y
 have G:=Z.vals
 subst G
 refine⟨U,o,rfl,aW.of Y,aax f.2.1 (by decide),λjs x j=>⟨aaw (Ab x λz d=>(j z).mp d) f.2.1,λrs q m=>⟨aaw (Ab q λz d=>bC.mpr (mem_append.mpr (((m z).mp d).imp (i z).mp (j z).mp))) f.2.2,λl us D n u=>?_⟩⟩⟩
 have e:=JH (Ms u (n.nodup_iff.mpr q)) (Gy _) λz=>by rw[n.mem_iff,m,i,j,bC,mem_append]
 subst e
 exact k l _ t H2 (g.trans J) D (uS _)
end
end Ts
namespace L2
open PySem PySem.Spec PyProof.Rows
structure oO(K:Frag)(C:Addr)(m:Str)(f:Addr):Prop where
 sp:specialIn K (.ref C) "__getattribute__" = some (some (.builtin "type.__getattribute__"))
 rd:PySem.W.readsIn K C (.type "type")=true
 at_:PySem.W.findCls K (.ref C) (.type "type") m=some (.val (.ref f))
 kp:keepIn K (.ref f)=true
section
variable{X:Cx}{CX:sZ}{k:Nat}{f C:Addr}{fd:FuncData}{ps:List Str}{sp:Sp}{mV:List V}{ds:List Value}{E:XK}{x m:Str}{p pos apos:Pos}{e o:Expr}{es:List Expr}{ta:TE}{t:TA}
theorem qT(D:Gl X x)(v:X.mg x=some (.ref C))(c:oO X.K C m f)(F:aH X.prog X.w X.K X.mg X.base CX k f fd ps sp)(hr:bG k X.A)(B:Binds X.K fd ps ds)(hd:Vals mV ds)(y:Bh CX X E)(n:PA X (e::es) t)(d:(x==("__debug__":Str))=false:=by decide)(i:starEach (e::es) X.env=(false,eval e X.env)::starEach es X.env:=by rfl)(g:(backTo pos (starEach es X.env)).any (·.1)=false:=by rfl)(z:eval (.Call (.Attribute (.Name x p) m apos) (e::es) [] pos) X.env=(do
   let j <-eval (.Name x p) X.env
   standAt apos.atName
   let(f,first) <-holding [j] (getMethod j m pl)
   callWith pos f first (backTo pos (starEach (e::es) X.env)) (backToKw pos (keywordEach [] X.env))):=by rfl) :
  PE X (.Call (.Attribute (.Name x p) m apos) (e::es) [] pos) (Ig sp mV E t):=by
 intro b s σ H Q I h
 refine aee (Nx I D v ?_ d) z
 refine PySem.W.method_cls I.gJ c.sp (PySem.W.cls_value I.gJ c.rd c.at_ rfl ?_)
 have u:=I.tok (s.toks+1)
 refine aeg I.ok.mod.Lj c.kp (aP (n pos b _ σ H _ u h) λus s1 ⟨vs,H1,l,r,q⟩=>⟨l.gJ,?_⟩) i g
 exact R_ F hr B hd y l r q
end
end L2
namespace Sy
open PySem L2
inductive Tr where
 |all
 |mark (x:Str)
 |one (i:Fin 6) (t:Tr)
 |two (i:Fin 4) (l r:Tr)
def w1(i:Fin 6):Str:=(["not","somenext","eachnext","somealways","eachalways","someever","eachever"]:List Str).getD i.val ado
def w2(i:Fin 4):Str:=(["both","either","sometill","eachtill"]:List Str).getD i.val ado
def Tr.depth:Tr->Nat
 |.all=>0
 |.mark _=>0
 |.one _ t=>t.depth+1
 |.two _ l r=>max l.depth r.depth+1
def Kp(p:Addr)(H H':Hp):Prop:=∀b o,b≠p->H b=some o->H' b=some o
theorem Kp.of(s:Same H H'):Kp p H H':=λb o _ e=>s b o e
theorem Kp.trans(a:Kp p H d)(b:Kp p d f):Kp p H f:=λc o n e=>b c o n (a c o n e)
theorem Kp.put(p:Addr)(H:Hp)(o:HO):Kp p H (upd H p o):=λb u n e=>by rw[zR n];exact e
theorem au(h:H p=none)(o:HO):Same H (upd H p o):=λb u q=>by rw[zR (zV q h)];exact q
def tG(w:V)(q:Addr):List (Str×V):=aq "parts" (.ref q) (aq "word" w [])
def rO(w v:V)(q:Addr):List (Str×V):=aq "part" v (tG w q)
def rP(w v u:V)(q:Addr):List (Str×V):=aq "right" u (aq "left" v (tG w q))
def Mv(x:V)(q:Addr):List (Str×V):=aq "name" x (tG x q)
theorem bK(f:Str)(v:V):∀fs:List (Str×V),(aq f v fs).length<=fs.length+1
 |[]=>aao _
 | (g,x)::r=>by
  unfold aq
  split
  ·exact abw _
  ·exact acd (bK f v r)
theorem Ui(w:V)(q:Addr):(tG w q).length<=2:=by
 have a1:=bK "parts" (V.ref q) (aq "word" w [])
 have a2:=bK "word" w []
 have a3:([]:List (Str×V)).length=0:=rfl
 show(aq "parts" (V.ref q) (aq "word" w [])).length<=2
 lia
structure d_(K:Frag)(C:Addr):Prop where
 cl:Cls K C
 nW:bh K C "word"
 nP:bh K C "parts"
 n1:bh K C "part"
 nL:bh K C "left"
 nR:bh K C "right"
 nN:bh K C "name"
inductive Hd where
 |all
 |mark
 |one (i:Fin 6)
 |two (i:Fin 4)
def spS(K:Frag):Sp:=λc H Q _=>∃(p C b:Addr)(x y:V),c=[.ref p,x,y]/\H p=some (.ins C b [])/\d_ K C/\∀a:Hp,Kp p H a->a p=some (.ins C b (aq "parts" y (aq "word" x [])))->Q .non a
def qg(K:Frag):Sp:=λc H Q _=>∃(p C b:Addr)(x v:V),c=[.ref p,x,v]/\H p=some (.ins C b [])/\d_ K C/\∀(q:Addr)(a:Hp),Kp p H a->H q=none->a q=some (.tup [v])->a p=some (.ins C b (rO x v q))->Q .non a
def w6(K:Frag):Sp:=λc H Q _=>∃(p C b:Addr)(x v u:V),c=[.ref p,x,v,u]/\H p=some (.ins C b [])/\d_ K C/\∀(q:Addr)(a:Hp),Kp p H a->H q=none->a q=some (.tup [v,u])->a p=some (.ins C b (rP x v u q))->Q .non a
def JV(C:Addr):Sp:=λc H Q _=>∃(p b:Addr),c=[.ref p]/\H p=some (.ins C b [])/\∀(q:Addr)(a:Hp),Kp p H a->H q=none->a q=some (.tup [])->a p=some (.ins C b (tG (.str "all") q))->Q .non a
def JW(C:Addr):Sp:=λc H Q _=>∃(p b:Addr)(x:V),c=[.ref p,x]/\H p=some (.ins C b [])/\∀(q:Addr)(a:Hp),Kp p H a->H q=none->a q=some (.tup [])->a p=some (.ins C b (Mv x q))->Q .non a
def oR(C:Addr)(w:Str):Sp:=λc H Q _=>∃(p b:Addr)(v:V),c=[.ref p,v]/\H p=some (.ins C b [])/\∀(q:Addr)(a:Hp),Kp p H a->H q=none->a q=some (.tup [v])->a p=some (.ins C b (rO (.str w) v q))->Q .non a
def rQ(C:Addr)(w:Str):Sp:=λc H Q _=>∃(p b:Addr)(v u:V),c=[.ref p,v,u]/\H p=some (.ins C b [])/\∀(q:Addr)(a:Hp),Kp p H a->H q=none->a q=some (.tup [v,u])->a p=some (.ins C b (rP (.str w) v u q))->Q .non a
inductive cJ(cl:Hd->Addr)(H:Hp):Addr->Tr->Prop where
 |all {p q dx:Addr}:H p=some (.ins (cl .all) dx (tG (.str "all") q))->H q=some (.tup [])->cJ cl H p .all
 |mark {p q dx:Addr} {x:Str}:H p=some (.ins (cl .mark) dx (Mv (.str x) q))->H q=some (.tup [])->cJ cl H p (.mark x)
 |one {p q dx c:Addr} {i:Fin 6} {t:Tr}:H p=some (.ins (cl (.one i)) dx (rO (.str (w1 i)) (.ref c) q))->H q=some (.tup [.ref c])->cJ cl H c t->cJ cl H p (.one i t)
 |two {p q dx c d:Addr} {i:Fin 4} {l r:Tr}:H p=some (.ins (cl (.two i)) dx (rP (.str (w2 i)) (.ref c) (.ref d) q))->H q=some (.tup [.ref c,.ref d])->cJ cl H c l->cJ cl H d r->cJ cl H p (.two i l r)
theorem cJ.same(h:cJ cl H p t)(s:Same H H'):cJ cl H' p t:=by
 induction h with
 |all a b=>exact .all (s _ _ a) (s _ _ b)
 |mark a b=>exact .mark (s _ _ a) (s _ _ b)
 |one a b _ ih=>exact .one (s _ _ a) (s _ _ b) ih
 |two a b _ _ d c=>exact .two (s _ _ a) (s _ _ b) d c
def hd:Tr->Hd
 |.all=>.all
 |.mark _=>.mark
 |.one i _=>.one i
 |.two i _ _=>.two i
def hw:Tr->Str
 |.all=>"all"
 |.mark x=>x
 |.one i _=>w1 i
 |.two i _ _=>w2 i
def qj:Tr->List Tr
 |.all=>[]
 |.mark _=>[]
 |.one _ t=>[t]
 |.two _ l r=>[l,r]
theorem kw1:¬(("word":Str) = "parts"):=by trivial
theorem kw2:¬(("word":Str) = "part"):=by trivial
theorem kw3:¬(("word":Str) = "left"):=by trivial
theorem kw4:¬(("word":Str) = "right"):=by trivial
theorem kw5:¬(("word":Str) = "name"):=by trivial
theorem kp2:¬(("parts":Str) = "part"):=by trivial
theorem kp3:¬(("parts":Str) = "left"):=by trivial
theorem kp4:¬(("parts":Str) = "right"):=by trivial
theorem kp5:¬(("parts":Str) = "name"):=by trivial
theorem Uj(w:V)(q:Addr):(tG w q).lookup ("word":Str)=some w:=by unfold tG;rw[zQ,if_neg kw1,zQ,if_pos rfl]
theorem Uk(w:V)(q:Addr):(tG w q).lookup ("parts":Str)=some (.ref q):=by unfold tG;rw[zQ,if_pos rfl]
theorem Um(w:V)(q:Addr){m:Str}(a:¬m = "parts")(h2:¬m = "word"):(tG w q).lookup m=none:=by
 unfold tG
 rw[zQ,if_neg a,zQ,if_neg h2]
 rfl
theorem cJ.look(h:cJ cl H p t):∃(l q:Addr)(fs:List (Str×V))(j:List Addr),H p=some (.ins (cl (hd t)) l fs)/\fs.lookup ("word":Str)=some (.str (hw t))/\fs.lookup ("parts":Str)=some (.ref q) /\
  (∀m:Str,¬m = "word"->¬m = "parts"->¬m = "part"->¬m = "left"->¬m = "right"->¬m = "name"->fs.lookup m=none)/\H q=some (.tup (j.map V.ref))/\Paired (cJ cl H) j (qj t):=by
 cases h with
 |all e g=>exact⟨_,_,_,[],e,Uj _ _,Uk _ _,λm a b _ _ _ _=>Um _ _ b a,g,.nil⟩
 |mark e g =>
  refine⟨_,_,_,[],e,?_,?_,λm a b _ _ _ f=>?_,g,.nil⟩
  ·unfold Mv;rw[zQ,if_neg kw5];exact Uj _ _
  ·unfold Mv;rw[zQ,if_neg kp5];exact Uk _ _
  ·unfold Mv;rw[zQ,if_neg f];exact Um _ _ b a
 |one e g i =>
  refine⟨_,_,_,[_],e,?_,?_,λm a b c _ _ _=>?_,g,.cons i .nil⟩
  ·unfold rO;rw[zQ,if_neg kw2];exact Uj _ _
  ·unfold rO;rw[zQ,if_neg kp2];exact Uk _ _
  ·unfold rO;rw[zQ,if_neg c];exact Um _ _ b a
 |two e g i k =>
  refine⟨_,_,_,[_,_],e,?_,?_,λm a b _ c d _=>?_,g,.cons i (.cons k .nil)⟩
  ·unfold rP;rw[zQ,if_neg kw4,zQ,if_neg kw3];exact Uj _ _
  ·unfold rP;rw[zQ,if_neg kp4,zQ,if_neg kp3];exact Uk _ _
  ·unfold rP;rw[zQ,if_neg d,zQ,if_neg c];exact Um _ _ b a
theorem zTg(h:u∈qj t):u.depth<t.depth:=by
 cases t with
 |all=>cases h
 |mark x=>cases h
 |one i t=>simp[qj] at h;subst h;exact ab9 _
 |two i l r =>
  simp[qj] at h
  rcases h with rfl|rfl
  ·show _<max _ _+1;lia
  ·show _<max _ _+1;lia
def n1(i:Fin 6):Str:=(["Not","SomeNext","EachNext","SomeAlways","EachAlways","SomeEver","EachEver"]:List Str).getD i.val ado
def n2(i:Fin 4):Str:=(["Both","Either","SomeTill","EachTill"]:List Str).getD i.val ado
structure Ini(P:Program)(w:World)(K:Frag)(mg:Str->Option Value)(base:Heap)(k:Nat)(cl fi:Hd->Addr)(di:Hd->FuncData):Prop where
 made:∀h,Mk K (cl h) (fi h)
 iA:aH P w K mg base bN k (fi .all) (di .all) ["self"] (JV (cl .all))
 bA:Binds K (di .all) ["self"] []
 iM:aH P w K mg base bN k (fi .mark) (di .mark) ["self","name"] (JW (cl .mark))
 bM:Binds K (di .mark) ["self","name"] []
 i1:∀i,aH P w K mg base bN k (fi (.one i)) (di (.one i)) ["self","part"] (oR (cl (.one i)) (w1 i))
 b1:∀i,Binds K (di (.one i)) ["self","part"] []
 i2:∀i,aH P w K mg base bN k (fi (.two i)) (di (.two i)) ["self","left","right"] (rQ (cl (.two i)) (w2 i))
 b2:∀i,Binds K (di (.two i)) ["self","left","right"] []
 mA:mg "All" = some (.ref (cl .all))
 mM:mg "Mark" = some (.ref (cl .mark))
 m1:∀i,mg (n1 i)=some (.ref (cl (.one i)))
 m2:∀i,mg (n2 i)=some (.ref (cl (.two i)))
theorem zUe(d:H x=none)(c:H a=none):Same H (upd (upd H a (.own x)) x (.ins C a [])):=λb o e=>by
 rw[zR (zV e d),zR (zV e c)]
 exact e
theorem Uo(a:H x=none)(d:H c=none)(k:Kp x (upd (upd H c (.own x)) x (.ins C c [])) H'):Same H H':=λb o e=>k b o (zV e a) (zUe a d b o e)
end Sy
namespace Ts
open PySem L2 Sy
structure bQ(cl:Hd->Addr) where
 t:Tr
def gA:Hd->Tr->Bool
 |.all,.all=>true
 |.mark,.mark _=>true
 |.one i,.one j _=>decide (j=i)
 |.two i,.two j _ _=>decide (j=i)
 |_,_=>false
def bQ.parts(x:bQ cl):List (bQ cl):=(qj x.t).map bQ.mk
noncomputable def bQ.name(x:bQ cl):Option Str:=match x.t with
 |.mark s=>some s
 |_=>none
structure lF(P:Program)(w:World)(K:Frag)(mg:Str->Option Value)(base:Heap)(k:Nat)(cl fi:Hd->Addr)(di:Hd->FuncData):Prop where
 ini:Ini P w K mg base k cl fi di
 kd:∀h,d_ K (cl h)
 oG:∀h h':Hd,∀t:Tr,hd t=h->kitOne K (.ref (cl h)) (.ref (cl h'))=some (gA h' t)
 c1:∀h,findIn K (.ref (cl h)) "__class__" = some (some (.builtin "object.__class__"))
 c2:specialIn K (.builtin "object.__class__") "__get__" = some (some (.builtin "getset_descriptor.__get__"))
 c3:takesIn K (.builtin "object.__class__")=some true
 c4:∀h,mroIn K (cl h) (.type "object")=some true
section
variable{K:Frag}{cl:Hd->Addr}
instance:Rp K (bQ cl):=⟨λF v x=>∃p,v=.ref p/\cJ cl F p x.t,λs ⟨p,h1,h2⟩=>⟨p,h1,h2.same s⟩⟩
end
section
variable{K:Frag}{B:Bs}{F H H2:Hp}{O:Own}
theorem GF(k:Ok B F O H)(s:Same H H2)(a:H x=none)(e:H2 x=some o):∀md:Md,reg B (ext F H H2) H2 md x=some o
 |.hp=>e
 |.fz=>by
  show ext F H H2 x=some o
  unfold ext
  grind
 |.nw=>by
  show dif (ext F H H2) B.H0 x=some o
  rw[xK (k.h0.free a)]
  unfold ext
  grind
end
section
variable{P:Program}{w:World}{K:Frag}{mg:Str->Option Value}{base:Heap}{B:Bs}{sl:SL K}{md:Md}{te t1 t2:TE}{cl fi:Hd->Addr}{di:Hd->FuncData}{k:Nat}
theorem Uq(h:upd (upd H c o1) x o2 q=none):H q=none:=by
 by_cases a:q=x
 ·subst a;rw[zO] at h;cases h
 ·rw[zR a] at h
  by_cases b:q=c
  ·subst b;rw[zO] at h;cases h
  ·rw[zR b] at h;exact h
theorem C_:Ex B sl md (Ih (cl .all) (JV (cl .all)) [] E0 aY) (some (bQ.mk (cl:=cl) .all)):=λc j F O H σ Q s d=>by
 cases j
 intro x h b f ne
 refine⟨x,h,rfl,zO,λq n m e l i=>⟨rfl,?_⟩⟩
 have a:=Uo b f m
 have g:=s.1.called a
 exact d (.ref x) _ n g ⟨x,rfl,.all (GF s.1 a b i md) (GF s.1 a (Uq e) l md)⟩
theorem zUz(h:Ex B sl md te m):Ex B sl md (Ih (cl .mark) (JW (cl .mark)) [] E0 (xI te aY)) (m.bind λa=>some (bQ.mk (cl:=cl) (.mark a))):=λc d F O H σ Q s f=>by
 cases m with
 |none=>cases d
 |some a =>
  cases d
  refine h a rfl F O H σ _ s λv F' H' g i=>?_
  cases i
  intro x n e j ne
  refine⟨x,n,.str a,rfl,zO,λq u t r p o=>⟨rfl,?_⟩⟩
  have b:=Uo e j t
  have l:=g.ok.called b
  exact f (.ref x) _ u (g.trans l) ⟨x,rfl,.mark (GF g.ok b e o md) (GF g.ok b (Uq r) p md)⟩
theorem Ur(i:Fin 6){m:Option (bQ cl)}(h:Ex B sl md te m):Ex B sl md (Ih (cl (.one i)) (oR (cl (.one i)) (w1 i)) [] E0 (xI te aY)) (m.bind λa=>some (bQ.mk (cl:=cl) (.one i a.t))):=λc d F O H σ Q s j=>by
 cases m with
 |none=>cases d
 |some a =>
  cases d
  refine h a rfl F O H σ _ s λv F' H' g r=>?_
  obtain⟨p,rfl,n⟩:=r
  intro x l f u ne
  refine⟨x,l,.ref p,rfl,zO,λq C A o z y=>⟨rfl,?_⟩⟩
  have b:=Uo f u A
  have e:=g.ok.called b
  exact j (.ref x) _ C (g.trans e) ⟨x,rfl,.one (GF g.ok b f y md) (GF g.ok b (Uq o) z md) (n.same (xQ e md))⟩
theorem XF(i:Fin 4){h l:Option (bQ cl)}(J:Ex B sl md t1 h)(h2:Ex B sl md t2 l):Ex B sl md (Ih (cl (.two i)) (rQ (cl (.two i)) (w2 i)) [] E0 (xI t1 (xI t2 aY))) (h.bind λa=>l.bind λb=>some (bQ.mk (cl:=cl) (.two i a.t b.t))):=λc n F O H σ Q s m=>by
 obtain⟨a,b,r,z,R⟩:=jK n
 cases R
 refine J a r F O H σ _ s λv L y g E=>?_
 refine h2 b z L O y σ _ (s.grow g) λw F2 H2' d S=>?_
 obtain⟨p,rfl,D⟩:=E
 obtain⟨I,rfl,M⟩:=S
 intro x A j G ne
 refine⟨x,A,.ref p,.ref I,rfl,zO,λq T u C o N=>⟨rfl,?_⟩⟩
 have e:=Uo j G u
 have f:=d.ok.called e
 exact m (.ref x) _ T (g.trans (d.trans f)) ⟨x,rfl,.two (GF d.ok e j N md) (GF d.ok e (Uq C) o md) (D.same (xQ (d.trans f) md)) (M.same (xQ f md))⟩
theorem vV(I:lF P w K mg base k cl fi di)(b:Hd){m:Option (bQ cl)}(h:Ex B sl .hp te m):Ex B sl md (qO (Bw K (.ref (cl b))) (xI te (xI (tC (.ref (cl b))) aY))) (m.bind λa=>some (gA b a.t)):=λc d F O H σ Q s e=>by
 cases m with
 |none=>cases d
 |some a =>
  cases d
  refine h a rfl F O H σ _ s λv l f g j=>?_
  obtain⟨p,rfl,i⟩:=j
  obtain⟨dx,q,fs,cs,n,_⟩:=i.look
  exact⟨.ref p,.ref (cl b),_,_,rfl,rfl,.ins n (I.kd (hd a.t)).cl (I.c1 _) I.c2 I.c3 (I.c4 _),I.oG (hd a.t) b a.t rfl,e _ l f g rfl⟩
theorem zRn(I:lF P w K mg base k cl fi di){m:Option (bQ cl)}(h:Ex B sl .hp te m):Ex B sl md (mU K te "name") (m.bind λa=>a.name):=λc b F O H σ Q s d=>by
 cases m with
 |none=>cases b
 |some a =>
  obtain⟨t⟩:=a
  cases t with
  |mark x =>
   cases b
   refine h _ rfl F O H σ _ s λv i l g f=>?_
   obtain⟨p,rfl,e⟩:=f
   cases e with
   |mark j e2=>exact⟨p,_,_,_,_,rfl,j,(I.kd .mark).cl,(I.kd .mark).nN,by unfold Mv;rw[zQ,if_pos rfl],d _ i l g rfl⟩
  |_=>cases b
theorem GJ:∀{a:List Addr}{ts:List Tr},Paired (cJ cl F) a ts->A2 (rp K F) (a.map V.ref) (ts.map (bQ.mk (cl:=cl)))
 |_,_,.nil=>trivial
 |_,_,.cons h r=>⟨⟨_,rfl,h⟩,GJ r⟩
theorem zYe{n:Bool}(I:lF P w K mg base k cl fi di){mi:Option (bQ cl)}(h:Ex B sl (cQ n) te mi):Ei B sl n (Aw K (mU K te "parts")) (mi.bind λa=>some a.parts):=λxs b F O H σ R a t=>by
 cases mi with
 |none=>cases b
 |some y =>
  cases b
  refine h y rfl F O H σ _ a λv l j c r=>?_
  obtain⟨p,rfl,A⟩:=r
  obtain⟨L,q,N,o,S,l2,E,l4,f,D⟩:=A.look
  have s:A2 (rp K (reg B l j (cQ n))) (o.map V.ref) y.parts:=GJ D
  have u:=rE c.ok n p _ S
  refine⟨p,_,L,N,.ref q,rfl,u,(I.kd _).cl,(I.kd _).nP,E,q,rfl,⟨_,gF.of (rE c.ok n q _ f)⟩,t _ l j c λi Q O2 M m g=>?_⟩
  have d:gF K M q (o.map V.ref):=gF.of (g.fh _ _ (m _ _ (by cases n with|true=>exact aQ _ _ f|false=>exact f)))
  refine⟨λG=>⟨_,d,by rw[s.len];exact G⟩,λx b=>?_⟩
  obtain⟨w,hw,C⟩:=s.at2 b
  refine⟨⟨_,w,d,hw⟩,λv H3 z=>?_⟩
  obtain⟨e,J⟩:=z
  subst e
  have:=(hw.symm.trans (J _ d))
  cases this
  exact⟨Q,.refl g,Rp.mono (wH n m) C⟩
end
theorem zZx(K:Frag)(b:PE X l a)(h:X.K=K:=by rfl):PI X tg l (Aw K a):=by subst h;exact HS b
section
variable{K:Frag}{B:Bs}{sl:SL K}{md:Md}{te:TE}{α:Type}[Rp K α]
def lG{α:Type}(xs ys:List α):Option (List α):=if xs.length+ys.length<cap then some (xs++ys) else none
theorem XH{n:Bool}{xs:List α}{m:Option (List α)}(i:Nat)(t:sl[i]?=some (.ow n xs))(w:sl.all (λs=>!cG s)=true)(h:Ex B sl (cQ n) te m) :
  Sn B sl (tY (z6 K "list" Wm (bL i) (xI te aY))) (λys=>sl.set i (.ow n ys)) (m.bind λa=>lG xs a):=λys u G D σ H s k=>by
 cases m with
 |none=>cases u
 |some a =>
  have b:lG xs a=some ys:=u
  unfold lG at b
  split at b
  case isFalse=>cases b
  rename_i E
  cases b
  obtain⟨F,O,g,z⟩:=s
  obtain⟨p,vs,x,L,h3,_⟩:=z.chg t w
  refine⟨_,x,.inl ⟨rfl,_,aW.of L⟩,?_⟩
  refine h a rfl F O H σ _ z λv M H' l r=>?_
  obtain⟨p',j,o,d,c,f⟩:=(z.grow l).chg t w
  have e:=x.symm.trans o
  cases e
  obtain⟨q,A,rfl,I,y⟩:=r
  obtain⟨C,J⟩:=f (j++A) (xs++a) (c.app y)
  exact⟨p,q,_,_,rfl,rfl,d,rE l.ok n q _ I,by rw[c.len,y.len];exact aby (rG E),k _ _ ⟨M,C,g.trans l.ff,J⟩⟩
end
end Ts
namespace L2
open PySem PySem.Spec PyProof.Rows
section
variable{X:Cx}
def Qm:V->Option Int->Option Int->Hp->VK->Prop:=λx lo a H Q=>∃z j,x=.str z/\lo=none/\a=some j/\z.length<=sizeLine/\Q (.str (Txt.slice z none (some j))) H
theorem JX:Ss X Qm:=by
 intro pins s σ H x v vl vu lo hi sl Q I f e d a h
 obtain⟨z,j,rfl,rfl,rfl,c,q⟩:=h
 obtain⟨t,rfl⟩:=f
 cases d
 cases a with
 |int _ g =>
  refine⟨"str",_,PySem.F.slot_str_getitem.lookup,typeIs_str _ _ _,?_⟩
  exact wpAny_getItem_str_slice (l:=none) (u:=some (j,g)) (st:=none) e rfl (post_val_or_str ⟨aa0 (Txt.slice_le z _ _) c,λb k=>⟨.str _,H,I.tok k,⟨b,rfl⟩,q⟩⟩)
def GK:R2:=λx y H Q=>∃i j,x=.str i/\y=.str j/\i.length+j.length<=sizeLine/\Q (.str (i++j)) H
theorem XJ:gO X (binaryOp .Add) GK:=zQ2
def GP:R2:=λx y H Q=>∃z i c,x=.str z/\y=.int i/\0<=i/\i<2^63/\i<z.length/\z.cps[i.toNat]?=some c/\Q (.str ⟨#[c]⟩) H
theorem zZi(g:PE X a d)(c:PE X b e)(f:ZL b):PE X (.Subscript a b pos) (dH GP d e):=zNe g c f
end
end L2
namespace Ts
open PySem L2
section
variable{K:Frag}{B:Bs}{sl:SL K}{md:Md}{t t1 t2:TE}
noncomputable def jW(a b:Str):Option Str:=if a.length+b.length<=1000 then some (a++b) else none
theorem XM(j:Ex B sl .hp t1 p)(h2:Ex B sl .hp t2 m):Ex B sl md (dH GK t1 t2) (p.bind λa=>m.bind λb=>jW a b):=λc o F O H σ Q s k=>by
 obtain⟨a,b,q,e,d⟩:=jK o
 unfold jW at d
 split at d
 case isFalse=>cases d
 rename_i l
 cases d
 refine j a q F O H σ _ s λv i u g f=>?_
 refine h2 b e i O u σ _ (s.grow g) λw x r h n=>?_
 cases f
 cases n
 exact⟨a,b,rfl,rfl,aa0 l (by decide),k _ x r (g.trans h) rfl⟩
noncomputable def Dd(z:Str)(i:Int):Option Str:=if 0<=i/\i<2^63/\i<z.length then(z.cps[i.toNat]?).map λc=>⟨#[c]⟩ else none
theorem zZ1(l:Ex B sl .hp t1 q)(h2:Ex B sl .hp t2 n):Ex B sl md (dH GP t1 t2) (q.bind λa=>n.bind λb=>Dd a b):=λc p F O H σ Q s k=>by
 obtain⟨a,b,r,h,d⟩:=jK p
 unfold Dd at d
 split at d
 case isFalse=>cases d
 rename_i f
 cases e:a.cps[b.toNat]? with
 |none=>grind
 |some z =>
  rw[e] at d
  cases d
  refine l a r F O H σ _ s λv j x g m=>?_
  refine h2 b h j O x σ _ (s.grow g) λw y u i o=>?_
  cases m
  cases o
  exact⟨a,b,z,rfl,rfl,f.1,f.2.1,f.2.2,e,k _ y u (g.trans i) rfl⟩
noncomputable def Dg(z:Str)(j:Int):Option Str:=if z.length<=1000 then some (Txt.slice z none (some j)) else none
theorem Dh(j:Ex B sl .hp t1 p)(h2:Ex B sl .hp t2 m):Ex B sl md (Oh Qm t1 Sq (LC t2)) (p.bind λa=>m.bind λb=>Dg a b):=λc o F O H σ Q s k=>by
 obtain⟨a,b,q,e,d⟩:=jK o
 unfold Dg at d
 split at d
 case isFalse=>cases d
 rename_i l
 cases d
 refine j a q F O H σ _ s λv i u g f=>?_
 refine h2 b e i O u σ _ (s.grow g) λw x r h n=>?_
 cases f
 cases n
 exact⟨b,rfl,a,b,rfl,rfl,rfl,aa0 l (by decide),k _ x r (g.trans h) rfl⟩
end
section
variable{K:Frag}{B:Bs}{sl:SL K}{F H H' L L':Hp}{O:Own}{σ:St}{α:Type}[Rp K α]
abbrev Di:Slot K->Bool
 |@Slot.nu _ _ _ _=>true
 |_=>false
theorem ak.XQ(h:ak B F L H sl σ O)(a:sl.all (λs=>!cG s&&!Di s)=true):ak B F L' H' sl σ O:=by
 induction h with
 |nil=>exact .nil
 |un _ ih=>exact .un (ih (by grind))
 |fz r _ ih=>exact .fz (Rp.mono (wH _ (.refl _)) r) (ih (by grind))
 |hs r _ ih=>grind
 |nu r _ ih=>grind
 |ow r _ ih=>exact .ow (r.imp λ_ _=>Rp.mono (wH _ (.refl _))) (ih (by grind))
 |od r _ ih=>exact .od r (ih (by rw[all_cons,abr] at a;exact a.2))
 |ob r _ ih=>exact .ob (Ob.mono (wH _ (.refl _)) r) (ih (by rw[all_cons,abr] at a;exact a.2))
end
theorem JZ{β:Type}[Rp K β]{m:Option β}(sl2:SL K)(h:SB B sl2 t al m)(e:a=sl2:=by rfl):SB B a t al m:=e▸h
def del(H:Hp)(p:Addr):Hp:=λb=>if b=p then none else H b
structure RL(p:Addr) where
 ws:LI
section
variable{K:Frag}{B:Bs}{sl:SL K}{F H:Hp}{O:Own}{σ:St}{md:Md}{β:Type}[Rp K β]{p:Addr}{ws:LI}
instance:Rp K (RL p):=⟨λF v x=>v=.ref p/\F p=some (.lst (x.ws.map V.int)),λs ⟨h1,h2⟩=>⟨h1,s _ _ h2⟩⟩
theorem At.Dj(z:At B sl F O H σ)(k:sl[i]?=some (.nu (RL.mk (p:=p) ws)))(E:(sl.set i .un).all (λs=>!cG s&&!Di s)=true) :
  σ[i]?=some (some (.ref p))/\H p=some (.lst (ws.map V.int))/\B.H0 p=none/\F p=none/\(∀x∈O,x.1≠p)/\∀a:LI,At B (sl.set i (.nu (RL.mk (p:=p) a))) F O (upd H p (.lst (a.map V.int))) σ:=by
 obtain⟨v,m,rfl,d⟩:=z.2.jQ k
 have n:B.H0 p=none:=by
  cases q:B.H0 p with
  |none=>rfl
  |some u=>unfold dif at d;rw[q] at d;cases d
 rw[xK n] at d
 have h2':=d
 unfold lo at d
 split at d
 case isTrue=>cases d
 rename_i b
 have f:=b
 rw[acg,not_or] at b
 have w:F p=none:=by
  cases q:F p with
  |none=>rfl
  |some u=>exact absurd (by rw[q];rfl) b.1
 have t:∀x∈O,x.1≠p:=λx l e=>b.2 (any_eq_true.mpr ⟨x,l,by simpa using e⟩)
 refine⟨m,d,n,w,t,λa=>⟨⟨z.1.fh.put w _,z.1.h0.put n _,z.1.fa,λx l=>?_,z.1.nd⟩,?_⟩⟩
 ·obtain⟨y,D,C⟩:=z.1.fo x l
  exact⟨y,D,by rw[zR (t x l)];exact C⟩
 ·have e:σ.set i (some (.ref p))=σ:=by
   apply ext_getElem?
   intro j
   rw[abm]
   split
   ·rename_i o
    subst o
    split
    ·exact m.symm
    ·rename_i g
     rw[abv (by omega)] at m
     cases m
   ·rfl
  have q:=z.2.put (s':=.un) (x:=some (.ref p)) (λsl σ O h=>.un h) k rfl
  rw[e] at q
  have A:=q.XQ (L':=lo F O (upd H p (.lst (a.map V.int)))) (H':=upd H p (.lst (a.map V.int))) E
  have g:i<sl.length:=by
   cases c:decide (i<sl.length) with
   |true=>exact of_decide_eq_true c
   |false=>rw[abv (by have:=of_decide_eq_false c;omega)] at k;cases k
  have r:=A.put (s:=.un) (s':=.nu (RL.mk (p:=p) a)) (x:=some (.ref p)) (i:=i) (λsl σ O h=>.nu (by
   refine⟨rfl,?_⟩
   rw[xK n]
   unfold lo
   rw[if_neg f,zO]) h) (by rw[abm,if_pos rfl,if_pos g]) rfl
  rw[e,set_set] at r
  exact r
end
section
variable{K:Frag}{B:Bs}{sl:SL K}{F H:Hp}{O:Own}{σ:St}{md:Md}{α β S:Type}[Rp K α][Rp K β]{p:Addr}{ws:LI}{te:TE}{t u:TS}
def tH(B:Bs)(p:Addr)(sl:SL K)(t:TS){β:Type}[Rp K β](m:Option (β×LI)):Prop :=
 ∀b ws,m=some (b,ws)->∀(G:Hp)(D:Ends)(σ:St)(H:Hp),Sg B G sl σ H->(∀v a,Same B.H0 a->a p=some (.lst (ws.map V.int))->(∃F:Hp,F p=none/\Same F a/\rp K (dif F B.H0) v b)->D.rt v a)->t D σ H
theorem tH.of{m m':Option (β×LI)}(h:tH B p sl t m)(e:m=m'):tH B p sl t m':=e▸h
theorem Dk{m:Option β}(i:Nat)(l:sl[i]?=some (.nu (RL.mk (p:=p) ws)))(f:(sl.set i .un).all (λs=>!cG s&&!Di s)=true)(h:Ex B sl .nw te m):tH B p sl (ju (rB te) u) (m.bind λb=>some (b,ws)):=λb ws' e G D σ H s k=>by
 cases m with
 |none=>cases e
 |some c =>
  obtain⟨rfl,rfl⟩:=Prod.mk.inj (aa2 (e))
  obtain⟨F,O,g,a⟩:=s
  refine h c rfl F O H σ _ a λv j q d r=>?_
  obtain⟨_,o,_,n,_⟩:=(a.grow d).Dj l f
  exact k v q d.ok.h0 o ⟨j,n,d.ok.fh,r⟩
theorem zSw(hs:sl[i]?=some s):(sl.set i s')[i]?=some s':=by
 grind
theorem zOv{f:S->Option (β×LI)}(g:Sn B sl t L c)(h2:∀s,tH B p (L s) u (f s)):tH B p sl (ju t u) (c.bind f):=λa w b G D σ H q k=>by
 cases c with
 |none=>cases b
 |some s=>exact g s rfl G _ σ H q λe d h=>h2 s a w b G D e d h k
theorem zK0{as:SL K}(k:Nat)(a:as.all isF=true)(r:Ar F as vs):ak B F L' H (as++replicate k .un) (vs.map some++replicate k none) []:=by
 induction r with
 |nil =>
  show ak _ _ _ _ ([]++_) ([]++_) []
  induction k with
  |zero=>exact .nil
  |succ k ih=>exact .un ih
 |@cons n _ _ _ _ _ _ r _ ih =>
  rw[all_cons,abr] at a
  cases n with
  |false=>exact .fz r (ih a.2)
  |true=>grind
end
structure Tri(α β γ:Type) where
 a:α
 b:β
 c:γ
section
variable{K:Frag}{B:Bs}{sl sl2:SL K}{md:Md}{te:TE}{t:TS}{β:Type}[Rp K β]{p:Addr}
theorem zYb{m:Option iD}{mi:Option Int}{d:TE}(h:Ex B sl .hp te m)(w:Ex B sl .hp d mi):Eo B sl md (Oh (uy K) te Sq (LC d)) (m.bind λxs=>mi.bind λi=>some (lE xs.ns none (some i))):=λc b F O H σ Q s k=>by
 obtain⟨xs,i,n,a,b⟩:=jK b
 cases b
 refine h xs n F O H σ _ s λv x z g r=>?_
 refine w i a x O z σ _ (s.grow g) λu j A e q=>?_
 obtain⟨p,rfl,o⟩:=r
 exact⟨i,q,p,xs.ns.map V.int,rfl,e.hh.seq o,λl y=>k l _ j A (g.trans e) y ((A2.of_map (f:=V.int) (λ_=>rfl) xs.ns).cut _ _)⟩
theorem Dl{m:Option (β×LI)}(l:Le sl sl2)(h:tH B p sl2 t m):tH B p sl t m:=λa w b G D σ H q k=>h a w b G D σ H (q.le l) k
theorem zY8{m:Option (β×LI)}(sl2:SL K)(h:tH B p sl2 t m)(e:sl=sl2:=by rfl):tH B p sl t m:=e▸h
end
open PySem.SeqAt (EqAt RcAt RcNeAt)
section
variable{K:Frag}{B:Bs}{sl:SL K}{md:Md}{te t1 t2:TE}{α β γ δ:Type}[Rp K α][Rp K β][Rp K γ][Rp K δ]
theorem XR{n:Bool}{xs:List α}(i:Nat)(j:sl[i]?=some (.ow n xs))(f:sl.all (λs=>!cG s)=true):Sn B sl (tY (Iu K "list" zO2 (bL i))) (λys=>sl.set i (.ow n ys)) (some xs.reverse):=λa l G D σ H s k=>by
 cases l
 obtain⟨F,O,g,z⟩:=s
 obtain⟨p,b,e,c,h,o⟩:=z.chg j f
 obtain⟨d,m⟩:=o b.reverse xs.reverse h.rev
 exact⟨_,e,.inl ⟨rfl,b,aW.of c⟩,p,b,rfl,rfl,c,k _ _ ⟨F,d,g,m⟩⟩
end
section
variable{K:Frag}{B:Bs}{sl:SL K}{md:Md}{te:TE}{β S:Type}[Rp K β]{p:Addr}{ws:LI}{g:TG}{tb:TS}
theorem Dm(i:Nat)(c:sl[i]?=some (.nu (RL.mk (p:=p) ws))):Ex B sl .hp (bL i) (some ws):=λa' d F O H σ Q s k=>by
 cases d
 obtain⟨v,b,rfl,a⟩:=s.2.jQ c
 exact⟨_,b,k _ F H (.refl s.1) ⟨p,_,rfl,aQ.trans S6 _ _ a,uS ws⟩⟩
end
end Ts
namespace PySem
open Sem (wp)
structure IK(prog:Program)(w:World)(α:Type)[DecidableEq α] where
 is:Heap->α->Value->Prop
 hash:α->Int
 draws:α->Nat
 inj:∀{h:Heap}{v:Value}{x y:α},is h x v->is h y v->x=y
 keeps:∀{h h':Heap}{k:α}{v:Value}{d:Addr}{o:Obj}{es ep},is h k v->h.get? d=some o->o.data=.dict es ep->SameBut d h h'->is h' k v
 pyHash:∀{A:Around}{E:Value->Shared->Prop}{s:Shared}{k:α}{v:Value}{Q:Int->Shared->Prop},A.units<cLine->is s.heap k v->Q (hash k) { s with toks:=s.toks+draws k }->wpAny (model prog w) A (PySem.pyHash v) Q E s
 eqBool:∀{A:Around}{E:Value->Shared->Prop}{s:Shared}{x y:α}{u v:Value}{Q:Bool->Shared->Prop},A.units<cLine->is s.heap x u->is s.heap y v->Q (decide (x=y)) s->wpAny (model prog w) A (PySem.eqBool u v) Q E s
 quiet:∀{A:Around}{E:Value->Shared->Prop}{s:Shared}{k:α}{v:Value}{Q:Bool->Shared->Prop},is s.heap k v->Q true s->wpAny (model prog w) A (eqIsQuiet 7 v) Q E s
end PySem
namespace L2
open PySem PySem.Spec PyProof.Rows
structure AK(α:Type)[DecidableEq α] where
 at_:Hp->α->V->Prop
 ik:∀(P:Program)(w:World),IK P w α
 ok:∀{P:Program}{w:World}{H:Hp}{h:Heap}{x:α}{v:V}{u:Value},dR P w H h->at_ H x v->RelV v u->(ik P w).is h x u
 mono:∀{H H':Hp}{x:α}{v:V},at_ H x v->(∀b xs,H b=some (.tup xs)->H' b=some (.tup xs))->at_ H' x v
section
variable{α β:Type}[DecidableEq α][DecidableEq β]
abbrev NKV(α β:Type):=List ((α×β)×Addr×Int)
variable{X:Cx}{pins:List (Addr×Obj)}{σ:St}{H:Hp}{s:Shared}{a1:AK α}{a2:AK β}{d:Addr}{kvs:NKV α β}
end
end L2
namespace Ts
open PySem PySem.Spec L2 PyProof.Rows
def fJ(a b:Str):Bool:=!ltCps b.cps.toList a.cps.toList
theorem Us:fJ a b=true↔¬b.cps.toList<a.cps.toList:=by
 unfold fJ
 rw[ltCps_eq]
 simp
theorem zSx(h1:fJ a b=true)(h2:fJ b c=true):fJ a c=true:=by
 rw[Us] at *
 grind
theorem zWx(a b:Str):(fJ a b||fJ b a)=true:=by
 rw[acg,Us,Us]
 grind
theorem iJ(h1:fJ a b=true)(h2:fJ b a=true):a=b:=by
 rw[Us] at *
 cases a
 cases b
 grind
def aR(l:List Str):List Str:=l.mergeSort fJ
noncomputable def jX(l:List Str):Option (List Str):=if l.length<64 then some (aR l) else none
theorem aL(l:List Str):(aR l).Perm l:=List.mergeSort_perm l fJ
theorem gU(l:List Str):(aR l).Pairwise λa b=>fJ a b=true:=List.pairwise_mergeSort (le:=fJ) (λ_ _ _ h1 h2=>zSx h1 h2) zWx l
theorem fG{α:Type}{r:α->α->Prop}(anti:∀a b,r a b->r b a->a=b):∀{xs ys:List α},xs.Perm ys->xs.Pairwise r->ys.Pairwise r->xs=ys
 |[],ys,h,_,_=>by simp_all
 |x::xs,[],h,_,_=>by simp_all
 |x::xs,y::ys,h,h1,h2=>by
  have hx:=h.subset mem_cons_self
  have hy:=h.symm.subset mem_cons_self
  have e:x=y:=by
   rcases mem_cons.mp hx with q|q
   ·exact q
   rcases mem_cons.mp hy with z|z
   ·grind
   exact anti _ _ (rel_of_pairwise_cons h1 z) (rel_of_pairwise_cons h2 q)
  subst e
  rw[fG anti (List.perm_cons x |>.mp h) (pairwise_cons.mp h1).2 (pairwise_cons.mp h2).2]
theorem jY:∀{l:List Str},sortedS l=true->l.Pairwise λa b=>fJ a b=true
 |[],_=>.nil
 |x::r,h=>by
  have go:∀(p:Str)(l:List Str),risingS p l=true->(p::l).Pairwise λa b=>fJ a b=true:=by
   intro p l
   induction l generalizing p with
   |nil=>grind
   |cons y t ih =>
    intro q
    have q:(!ltCps y.cps.toList p.cps.toList&&risingS y t)=true:=q
    rw[abr] at q
    have i:=ih y q.2
    refine pairwise_cons.mpr ⟨λz hz=>?_,i⟩
    rcases mem_cons.mp hz with e|hz
    ·rw[e];exact q.1
    ·exact zSx q.1 (rel_of_pairwise_cons i hz)
  exact go x r h
theorem qU{ss:List Str}(r:Vals (ss.map V.str) its):StrsAre its ss:=by
 induction ss generalizing its with
 |nil=>cases r;exact .nil
 |cons x t ih =>
  cases r with
  |cons r1 r =>
   obtain⟨k,rfl⟩:=r1
   exact .cons x k (ih r)
theorem gV(h:StrsAre vs ss):Vals (ss.map V.str) vs:=by
 induction h with
 |nil=>exact .nil
 |cons x t _ ih=>exact .cons ⟨t,rfl⟩ ih
section
variable{X:Cx}{K:Frag}{B:Bs}{sl:SL K}{md:Md}{t:TE}
def zZg(K:Frag):List V->Hp->VK->Prop:=λxs H Q=>∃(p:Addr)(ss:List Str),xs=[.ref p]/\aW K H p (ss.map V.str)/\ss.length<64/\∀l:Addr,H l=none->Q (.ref l) (upd H l (.lst ((aR ss).map V.str)))
theorem zRv(K:Frag)(hK:X.K=K:=by rfl):pP X (.builtin "sorted") (zZg K):=by
 subst hK
 intro pins s σ H xs us Q I r h
 obtain⟨p,ss,rfl,hq,h64,q⟩:=h
 obtain⟨u,rfl,rx⟩:=Bb r
 cases rx
 obtain⟨its,r',pl,hz⟩:=I.list hq
 have hl:=r'.length
 rw[length_map] at hl
 refine sorted_strs pl.isList (qU r') (by lia) λout ss' a1 a2 a3=>?_
 obtain⟨e,he⟩:=sortedAll_at s.heap its out
 have fr:=I.hok.fresh (abw _)
 have eu:=fG (λ_ _=>iJ) (a2.trans (aL ss).symm) (jY a3) (gU ss)
 rw[eu] at a1
 refine⟨.ref (s.heap.objs.size+1),_,I.laid (o:=.lst ((aR ss).map V.str)) (λb ob w=>sortedAll_old w) (abw _) ⟨?_,out.toList,e,gV a1,?_⟩,rfl,q _ fr⟩
 ·rw[length_map,(aL ss).length_eq]
  grind
 ·simp_all
theorem zYa(h:Ex B sl .hp t m):Eo B sl md (qO (zZg K) (xI t aY)) (m.bind jX):=λc hc F O H σ Q s k=>by
 cases m with
 |none=>cases hc
 |some ss =>
  have hc:jX ss=some c:=hc
  unfold jX at hc
  split at hc
  case isFalse=>cases hc
  rename_i hl
  cases hc
  refine h ss rfl F O H σ _ s λv F' H' g r1=>?_
  obtain⟨p,vs,rfl,z1,z2⟩:=r1
  have z3:=A2.jP z2
  subst z3
  exact⟨p,ss,rfl,aW.of z1,hl,λl hn=>k l _ F' H' g hn (A2.of_map (f:=V.str) (λ_=>rfl) _)⟩
end
end Ts
namespace Ts
open PySem L2
section
variable{κ:Type}[DecidableEq κ]
def dd:List κ->List κ->List κ
 |acc,[]=>acc
 |acc,k::r=>dd (if k∈acc then acc else acc++[k]) r
end
structure fX where
 xss:List LI
def fK(F:Hp)(q:Addr)(xs:LI):Prop:=F q=some (.lst (xs.map V.int))
section
variable{K:Frag}{B:Bs}{sl:SL K}{F H G L:Hp}{O:Own}{σ:St}{te t2:TE}{u:TS}{al:Bool}
instance:Rp K fX:=⟨λF v x=>∃(p:Addr)(ps:List Addr),v=.ref p/\F p=some (.lst (ps.map V.ref))/\(p::ps).Nodup/\A2 (fK F) ps x.xss,λs ⟨p,ps,h1,h2,h3,h4⟩=>⟨p,ps,h1,s _ _ h2,h3,h4.imp λ_ _ h=>s _ _ h⟩⟩
theorem GQ:∀{ps:List Addr}{xss:List LI},A2 (fK F) ps xss->A2 (rp K F) (ps.map V.ref) xss
 |[],[],_=>trivial
 |_::_,xs::_,h=>⟨⟨_,xs.map V.int,rfl,h.1,uS xs⟩,GQ h.2⟩
 |[],_::_,h=>h.elim
 |_::_,[],h=>h.elim
theorem Qn{v:V}{x:fX}(h:rp K F v x):rp K F v x.xss:=by
 obtain⟨p,ps,h1,h2,h3,h4⟩:=h
 exact⟨p,ps.map V.ref,h1,h2,GQ h4⟩
theorem GR:∀{ps:List Addr}{xss:List LI}{j:Nat}{r:LI},A2 (fK F) ps xss->xss[j]?=some r->∃q,ps[j]?=some q/\fK F q r
 |p::ps,xs::xss,0,r,h,e=>by cases e;exact⟨p,rfl,h.1⟩
 |p::ps,xs::xss,j+1,r,h,e=>by simpa using GR h.2 e
 |[],[],_,_,_,e=>by simp at e
 |[],_::_,_,_,h,_=>h.elim
 |_::_,[],_,_,h,_=>h.elim
theorem XS:∀{ps:List Addr}{xss:List LI},(∀q∈ps,∀xs,fK F q xs->fK F' q xs)->A2 (fK F) ps xss->A2 (fK F') ps xss
 |[],[],_,_=>trivial
 |p::ps,_::_,k,h=>⟨k p mem_cons_self _ h.1,XS (λq hq=>k q (mem_cons_of_mem _ hq)) h.2⟩
 |[],_::_,_,h=>h.elim
 |_::_,[],_,h=>h.elim
theorem zZd:∀{ps:List Addr}{xss:List LI}{j:Nat}{q:Addr}{r:LI},ps.Nodup->ps[j]?=some q->(∀b∈ps,b≠q->∀xs,fK F b xs->fK F' b xs)->fK F' q r->A2 (fK F) ps xss->A2 (fK F') ps (xss.set j r)
 |[],[],_,_,_,_,e,_,_,_=>by simp at e
 |p::ps,xs::xss,0,q,r,nd,e,k,n,h=>by
  cases e
  exact⟨n,XS (λb hb xs=>k b (mem_cons_of_mem _ hb) (λe=>(nodup_cons.mp nd).1 (e▸hb)) xs) h.2⟩
 |p::ps,xs::xss,j+1,q,r,nd,e,k,n,h=>by
  exact⟨k p mem_cons_self (λz=>(nodup_cons.mp nd).1 (z▸mem_of_getElem? e)) _ h.1,zZd (nodup_cons.mp nd).2 e (λb hb=>k b (mem_cons_of_mem _ hb)) n h.2⟩
 |[],_::_,_,_,_,_,_,_,_,h=>h.elim
 |_::_,[],_,_,_,_,_,_,_,h=>h.elim
theorem zZe:∀{ps:List Addr}{xss:List LI}{q:Addr},A2 (fK F) ps xss->q∈ps->∃xs,fK F q xs
 |p::ps,xs::xss,q,h,hq=>by
  rcases mem_cons.mp hq with e|hq
  ·rw[e];exact⟨_,h.1⟩
  ·exact zZe h.2 hq
 |[],[],_,_,hq=>by cases hq
 |[],_::_,_,h,_=>h.elim
 |_::_,[],_,h,_=>h.elim
theorem zX8{x:fX}(i:Nat)(hs:sl[i]?=some (.nu x)):Ex B sl .hp (bL i) (some x.xss):=λa' ha F O H σ Q s k=>by
 cases ha
 obtain⟨v,h1,h2⟩:=s.2.jQ hs
 exact⟨v,h1,k v F H (.refl s.1) (Qn (Rp.mono (aQ.trans S6) h2))⟩
theorem Dn:En B sl (um aY) (some (fX.mk [])):=λc hc F O H σ Q s kk=>by
 cases hc
 refine⟨aa5 _,λp hp=>kk _ F H _ (.refl s.1) (au hp _) ⟨p,[],rfl,?_,by simp,trivial⟩⟩
 rw[xK hp,zO];rfl
def Ut(x:fX)(ys:LI):Option fX:=if x.xss.length<cap then some (fX.mk (x.xss++[ys])) else none
theorem Dp(i j:Nat)(hi:sl[i]?=some (.nu x))(hj:sl[j]?=some (.ow n ys))(hij:i≠j)(hn:((sl.set j .un).set i .un).all (λs=>!z8 s)=true) :
  Sn B sl (tY (z6 K "list" Iz (bL i) (xI (bL j) aY))) (λa=>(sl.set j .un).set i (.nu a)) (Ut x ys):=λc hc G D σ H s k=>by
 unfold Ut at hc
 split at hc
 case isFalse=>cases hc
 rename_i hl
 cases hc
 obtain⟨F,O,g,z⟩:=s
 obtain⟨v,y1,p,ps,rfl,y2,y3,y4⟩:=z.2.jQ hi
 obtain⟨a1,a2,a3,a4⟩:=Mf y2
 obtain⟨O1,O2,q,vs,rfl,w1,w2,_,w4⟩:=z.2.lY hj
 have ev:vs=ys.map V.int:=A2.jP (w2.imp λ_ _ h=>h)
 obtain⟨b1,b2,b3⟩:=z.1.one
 have qp:p≠q:=λe=>a3 (q,.lst vs) (by simp) e.symm
 have Mw:∀x∈O1++O2,x∈O1++(q,HO.lst vs)::O2:=λx hx=>by
  rcases mem_append.mp hx with e|e
  ·exact mem_append_left _ e
  ·exact mem_append_right _ (mem_cons_of_mem _ e)
 have yl:ps.length=x.xss.length:=y4.len
 refine⟨_,y1,.inl ⟨rfl,_,aW.of a4⟩,_,w1,p,_,.ref q,rfl,rfl,a4,rG (by rw[length_map,yl];exact hl),k _ _ ⟨F,O1++O2,g,z.1.drop.Pq a1 a2 λx hx=>a3 x (Mw x hx),?_⟩⟩
 have zu:=w4 .un (some (.ref q)) λ_ _ _ y=>.un y
 rw[Gh w1] at zu
 have hi':(sl.set j .un)[i]?=some (.nu x):=by rw[getElem?_set_ne (acf hij)];exact hi
 have z4:ak B F (lo F (O1++O2) (upd H p (.lst (ps.map V.ref++[.ref q])))) (upd H p (.lst (ps.map V.ref++[.ref q]))) ((sl.set j .un).set i .un) σ (O1++O2):=(zY7 zu hi' rfl).calm hn
 have hil:i<(sl.set j .un).length:=(aau.mp hi').1
 have nq:q∉ps:=λhq=>by
  obtain⟨xs,hx⟩:=zZe y4 hq
  exact(Mf hx).2.2.1 (q,.lst vs) (by simp) rfl
 have rl:rp K (dif (lo F (O1++O2) (upd H p (.lst (ps.map V.ref++[.ref q])))) B.H0) (.ref p) (fX.mk (x.xss++[ys])):=by
  refine⟨p,ps++[q],rfl,?_,?_,?_⟩
  ·rw[xK a2,Jj a1 λx hx=>a3 x (Mw x hx),zO,map_append];rfl
  ·have n1:=nodup_cons.mp y3
   refine nodup_cons.mpr ⟨λe=>?_,?_⟩
   ·rcases mem_append.mp e with e|e
    ·exact n1.1 e
    ·exact qp (mem_singleton.mp e)
   ·rw[nodup_append]
    refine⟨n1.2,by simp,λa ha b hb e=>nq ?_⟩
    rw[<-mem_singleton.mp hb,<-e]
    exact ha
  ·refine A2.snoc (XS (λb hb xs hx=>?_) y4) ?_
   ·obtain⟨c1,c2,c3,c4⟩:=Mf hx
    have bp:b≠p:=λe=>(nodup_cons.mp y3).1 (e▸hb)
    show dif _ _ b=_
    rw[xK c2,Jj c1 λx hx=>c3 x (Mw x hx),zR bp,c4]
   ·show dif _ _ q=_
    rw[xK b2,Jj b1 (z.1.WK),zR qp.symm,b3,ev]
 have z5:=z4.put (i:=i) (s:=.un) (s':=.nu (fX.mk (x.xss++[ys]))) (x:=some (.ref p)) (λ_ _ _ y=>.nu rl y) (by rw[getElem?_set_self hil]) rfl
 rw[set_set,Gh y1] at z5
 exact z5
def Qo(x:fX)(j y:Int):Option fX:=if 0<=j then(x.xss[j.toNat]?).bind λr=>if r.length<cap then some (fX.mk (x.xss.set j.toNat (r++[y]))) else none else none
theorem zSs(i:Nat)(hs:sl[i]?=some (.nu x))(hn:(sl.set i .un).all (λs=>!z8 s)=true)(h2:Ex B sl .hp t2 m2)(h:Ex B sl .hp te m) :
  Sn B sl (tY (z6 K "list" Iz (dH (lu K) (bL i) t2) (xI te aY))) (λa=>sl.set i (.nu a)) (m2.bind λj=>m.bind λy=>Qo x j y):=λc hc G D σ H s k=>by
 cases m2 with
 |none=>cases hc
 |some j =>
  cases m with
  |none=>cases hc
  |some y =>
   have hc:Qo x j y=some c:=hc
   unfold Qo at hc
   split at hc
   case isFalse=>cases hc
   rename_i j0
   cases er:x.xss[j.toNat]? with
   |none=>rw[er] at hc;cases hc
   |some r =>
    rw[er] at hc
    have hc:(if r.length<cap then some (fX.mk (x.xss.set j.toNat (r++[y]))) else none)=some c:=hc
    split at hc
    case isFalse=>cases hc
    rename_i hl
    cases hc
    obtain⟨F,O,g,z⟩:=s
    obtain⟨v,y1,p,ps,rfl,y2,y3,y4⟩:=z.2.jQ hs
    obtain⟨a1,a2,a3,a4⟩:=Mf y2
    obtain⟨q,e3,e4⟩:=GR y4 er
    obtain⟨b1,b2,b3,b4⟩:=Mf e4
    refine⟨_,y1,h2 j rfl F O H σ _ z λw F2 H2 g2 r2=>?_⟩
    cases r2
    have hix:aJ (ps.map V.ref) j=some (.ref q):=by
     have:=Oi (zTa e3)
     rw[show((j.toNat:Nat):Int)=j by omega] at this
     exact this
    refine⟨p,_,j,.ref q,rfl,rfl,aW.of (g2.hh _ _ a4),hix,.inl ⟨rfl,_,aW.of (g2.hh _ _ b4)⟩,?_⟩
    refine h y rfl F2 O H2 σ _ (z.grow g2) λw F3 H3 g3 r3=>?_
    cases r3
    have vm:=g2.trans g3
    have q1:=vm.nw q b1 (by rw[b4];intro z;cases z)
    have p1:=vm.nw p a1 (by rw[a4];intro z;cases z)
    have b4':=vm.hh _ _ b4
    refine⟨q,_,.int y,rfl,rfl,b4',rG (by rw[length_map];exact hl),k _ _ ⟨F3,O,g.trans vm.ff,vm.ok.Pq q1 b2 b3,?_⟩⟩
    have z3:=(z.grow vm).2
    have z4:ak B F3 (lo F3 O (upd H3 q (.lst (r.map V.int++[.int y])))) (upd H3 q (.lst (r.map V.int++[.int y]))) (sl.set i .un) σ O:=(zY7 z3 hs rfl).calm hn
    have hi:i<sl.length:=(aau.mp hs).1
    have pq:p≠q:=λe=>(nodup_cons.mp y3).1 (e▸mem_of_getElem? e3)
    have rl:rp K (dif (lo F3 O (upd H3 q (.lst (r.map V.int++[.int y])))) B.H0) (.ref p) (fX.mk (x.xss.set j.toNat (r++[y]))):=by
     refine⟨p,ps,rfl,?_,y3,zZd (nodup_cons.mp y3).2 e3 (λb hb nb xs hx=>?_) ?_ y4⟩
     ·rw[xK a2,Jj p1 a3,zR pq]
      exact vm.hh _ _ a4
     ·obtain⟨c1,c2,c3,c4⟩:=Mf hx
      show dif _ _ b=_
      rw[xK c2,Jj (vm.nw b c1 (by rw[c4];intro z;cases z)) c3,zR nb]
      exact vm.hh _ _ c4
     ·show dif _ _ q=_
      rw[xK b2,Jj q1 b3,zO,map_append];rfl
    have z5:=z4.put (i:=i) (s:=.un) (s':=.nu (fX.mk (x.xss.set j.toNat (r++[y])))) (x:=some (.ref p)) (λ_ _ _ y=>.nu rl y) (by rw[getElem?_set_self hi]) rfl
    rw[set_set,Gh y1] at z5
    exact z5
end
end Ts
namespace jU
open PySem PySem.Spec PyProof.Rows
theorem zJq:entryFor table "set.__xor__" = some Builtin.«frozenset.__xor__»:=ac4 (id':="frozenset.__xor__") (by kernel_rfl) rfl (by trivial) (by kernel_rfl)
section
variable{prog:Program}{w:World}{κ:Type}[DecidableEq κ]{knd:KeyKind prog w κ}{dec:Value->κ}{led:Bool}{A:Around}{E:Value->Shared->Prop}{s:Shared}
theorem Dq(i:∀k v,knd.is k v=true->dec v=k)(id:String)(hn:∀k v,knd.is k v=true->∀b,v≠.ref b)(J:b≠r)(ga:Good knd dec (zX w) s.heap r j)(L:Good knd dec (zX w) s.heap b g)(hl:j.length+g.length<=127){Q:Unit->Shared->Prop}(h:∀(h':Heap) (d:List κ),SameBut r s.heap h'->Good knd dec (zX w) h' r d->(∀k,k∈d↔((k∈j/\k∉g)\/(k∉j/\k∈g)))->Q () { s with heap:=h' }) :
  wpAny (model prog w) A (Builtin.Frozenset.symmetricDifferenceUpdate id r (.ref b)) Q E s:=by
 obtain⟨o,es,ep,t,h1,y,h3,hf,hlb,tb,hel,hp⟩:=L.size
 have ndb:g.Nodup:=by obtain⟨_,_,_,_,_,_,_,_,_,nd,_⟩:=L;exact nd
 unfold Builtin.Frozenset.symmetricDifferenceUpdate
 rw[if_neg (λe=>J (aed (ad5 e)))]
 refine aak (ae1 L.type ?_)
 rw[if_neg (by decide)]
 refine aak (rJ L.type ?_)
 simp only[↓reduceIte]
 refine aak (aal (aak (aal ?_)))
 refine aak (abd h1 h3 hf ?_)
 refine aa7 (aak (Ub L ga (λc hc=>(mem_singleton.mp hc)▸⟨j,ga⟩) hn λC h0 M D Y ga0=>?_))
 rw[<-forIn_toList]
 have W:(C.toList.map λe=>dec e.2).Nodup:=D.nodup_iff.mpr ndb
 have ln':C.toList.length=g.length:=by rw[<-D.length_eq,length_map]
 refine aak (abu (ace (β:=Unit) _ (λl _ H=>∃y d,H={ s with heap:=y }/\SameBut r s.heap y/\Good knd dec (zX w) y r d/\ElemsOf knd l/\(l.map λe=>dec e.2).Nodup/\d.length+l.length<=127/\∀k,((k∈d/\k∉l.map λe=>dec e.2)\/(k∉d/\k∈l.map λe=>dec e.2))↔((k∈j/\k∉g)\/(k∉j/\k∈g))) (λ_ H=>∃y d,H={ s with heap:=y }/\SameBut r s.heap y/\Good knd dec (zX w) y r d/\∀k,k∈d↔((k∈j/\k∉g)\/(k∉j/\k∈g))) ?turn ?fin C.toList () ⟨h0,j,rfl,Y,ga0,M,W,by lia,λk=>?_⟩) ?post (λ_ _ h=>h))
 case turn =>
  rintro⟨hs',v⟩ l b' H ⟨n,d,rfl,f,G,N,p,m,O⟩
  obtain⟨⟨k,U,hh⟩,B⟩:=N _ mem_cons_self
  dsimp only at U hh B ⊢
  subst hh
  have dv:dec v=k:=i k v U
  rw[map_cons,nodup_cons] at p
  dsimp only at p
  rw[dv] at p
  have X3:d.Nodup:=by obtain⟨_,_,_,_,_,_,_,_,_,nd,_⟩:=G;exact nd
  have m:d.length+(l.length+1)<=127:=m
  have Z:∀c,((c∈d/\¬(c=k\/c∈l.map λe=>dec e.2))\/(c∉d/\(c=k\/c∈l.map λe=>dec e.2)))↔((c∈j/\c∉g)\/(c∉j/\c∈g)):=λc=>by
   have:=O c
   rw[map_cons,mem_cons] at this
   dsimp only at this
   rw[dv] at this
   exact this
  refine aak (abu (Q:=λ_ R=>∃u S,R={ s with heap:=u }/\SameBut r s.heap u/\Good knd dec (zX w) u r S/\S.length+l.length<=127/\∀c,c∈S↔((c∈d/\c≠k)\/(c=k/\k∉d))) ?flip ?tail (λ_ _ h=>h))
  case flip =>
   refine aa7 (aak (zMe (led:=zX w) (s:={ s with heap:=n }) i U B G λI bb T g3 hb=>?_))
   cases bb with
   |true =>
    have F:=hb.mp rfl
    simp only[aco,aa3,↓reduceIte]
    refine aal ⟨I,d.erase k,rfl,f.trans T,g3,?_,λc=>?_⟩
    ·have:=List.length_erase_le (a:=k) (l:=d)
     lia
    ·rw[X3.mem_erase_iff]
     constructor
     ·rintro⟨X,P⟩
      exact .inl ⟨P,X⟩
     ·rintro(⟨X,P⟩|⟨_,P⟩)
      ·exact⟨P,X⟩
      ·exact absurd F P
   |false =>
    have F:k∉d:=λz=>by have:=hb.mpr z;cases this
    rw[List.erase_of_not_mem F] at g3
    simp only[aek,↓reduceIte]
    refine aak (P0 (led:=zX w) (s:={ s with heap:=I }) i U B g3 (aaw (show d.length+1<=127 by lia) (by decide)) λu b4 x V=>aal ⟨u,k::d,rfl,(f.trans T).trans x,?_,?_,λc=>?_⟩)
    ·rw[if_neg F] at V
     exact V
    ·rw[length_cons];lia
    ·rw[mem_cons]
     constructor
     ·rintro(z|z)
      ·exact .inr ⟨z,F⟩
      ·exact .inl ⟨z,λq=>F (q▸z)⟩
     ·rintro(⟨z,_⟩|⟨z,_⟩)
      ·exact .inr z
      ·exact .inl z
  case tail =>
   rintro _ R ⟨u,S,rfl,x,V,ln4,m4⟩
   refine aak ?_
   unfold aa6
   refine aak (abd (s:={ s with heap:=u }) (by show u.get? b=_;rw[x.2 b J];exact h1) h3 hf ?_)
   simp only[bne_self_eq_false,aa3,↓reduceIte]
   refine aal (aal ⟨u,S,rfl,x,V,λe he=>N e (mem_cons_of_mem _ he),p.2,ln4,λc=>?_⟩)
   rw[<-Z c,m4]
   by_cases ck:c=k
   ·subst ck
    have nl:=p.1
    constructor
    ·rintro(⟨z|⟨_,z⟩,_⟩|⟨_,z⟩)
     ·exact absurd rfl z.2
     ·exact .inr ⟨z,.inl rfl⟩
     ·exact absurd z nl
    ·rintro(⟨_,z⟩|⟨z,_⟩)
     ·exact absurd (.inl rfl) z
     ·exact .inl ⟨.inr ⟨rfl,z⟩,nl⟩
   ·simp only[ck,false_or,ne_eq,not_false_eq_true,and_true,false_and,or_false]
 case fin =>
  rintro b' H ⟨n,d,rfl,f,G,_,_,m,O⟩
  refine⟨n,d,rfl,f,G,λk=>?_⟩
  rw[<-O k]
  simp
 case post =>
  rintro b' H ⟨n,d,rfl,f,G,O⟩
  exact aal (h n d f G O)
 ·rw[D.mem_iff]
theorem J0(d:∀k v,knd.is k v=true->dec v=k)(G:∀k v,knd.is k v=true->∀b,v≠.ref b)(f:Good knd dec (zX w) s.heap a B)(i:Good knd dec (zX w) s.heap b l)(hl:B.length<=63)(hl':l.length<=63){Q:Value->Shared->Prop}(h:∀(h':Heap) (p:List κ),Good knd dec (zX w) h' s.heap.objs.size p->(∀k,k∈p↔((k∈B/\k∉l)\/(k∉B/\k∈l)))->(∀c o,c<s.heap.objs.size->s.heap.get? c=some o->h'.get? c=some o)->Q (.ref s.heap.objs.size) { s with heap:=h' }) :
  wpAny (model prog w) A (binaryOp .BitXor (.ref a) (.ref b)) Q E s:=by
 have I:a<s.heap.objs.size:=by obtain⟨o,_,_,_,x,_⟩:=f;exact lt_size x
 have P:b<s.heap.objs.size:=by obtain⟨o,_,_,_,x,_⟩:=i;exact lt_size x
 refine adb (op:=.BitXor) (T:="set") f.type i.type F.fills_set_xor F.slot_set_xor (abx F.slot_set_xor f.type zJq ?_ (F.args_set_xor_2 _ _))
 refine aak (m:=acs "__xor__" ⟨[.ref a,.ref b],[]⟩) ?_
 unfold acs slotArgs
 refine aal ?_
 dsimp only
 refine aak (aak (rJ f.type ?_))
 refine rJ i.type ?_
 simp only[aco,aa3,↓reduceIte]
 refine aak (aal (aak ?_))
 refine aak (m:=Builtin.Frozenset.baseOf a) (Uc f.type ?_)
 have q:∀c o,s.heap.get? c=some o->(s.heap.push { cls:=.type "set",dict:=none,data:=.set #[] 0 (.fresh 0 0 (zX w)) }).get? c=some o:=λc o e=>get?_push_of_some _ e
 have j:Good knd dec (zX w) (s.heap.push { cls:=.type "set",dict:=none,data:=.set #[] 0 (.fresh 0 0 (zX w)) }) s.heap.objs.size []:=Mp (get?_push_size _ rfl)
 have g:=f.keep (q a)
 have n:=i.keep (q b)
 have J:(s.heap.push { cls:=.type "set",dict:=none,data:=.set #[] 0 (.fresh 0 0 (zX w)) }).get? s.heap.objs.size=some { cls:=.type "set",dict:=none,data:=.set #[] 0 (.fresh 0 0 (zX w)) }:=get?_push_size _ rfl
 generalize M:s.heap.push { cls:=.type "set",dict:=none,data:=.set #[] 0 (.fresh 0 0 (zX w)) }=R at q g n j J
 refine aak ?_
 unfold Builtin.Frozenset.newFrom
 refine aak (Ud ?_)
 rw[M]
 refine aak (aal (aak (aa7 (zYx (s:={ s with heap:=R }) d _ G (aat P) j n (λ_=>J) (by simp only[length_nil];lia) λN C L D m=>?_))))
 refine aal (aak (aal ?_))
 have t:C.Nodup:=by obtain⟨_,_,_,_,_,_,_,_,_,u,_⟩:=D;exact u
 have r:l.Nodup:=by obtain⟨_,_,_,_,_,_,_,_,_,u,_⟩:=i;exact u
 have lk:C.length=l.length:=((perm_ext_iff_of_nodup t r).mpr λk=>by rw[m k];simp).length_eq
 refine aak (aa7 (Dq (s:={ s with heap:=N }) d _ G (aat I) D (g.keep λo e=>by rw[L.2 a (aat I)];exact e) (by lia) λO p y S m3=>aal (aal ⟨.ref s.heap.objs.size,rfl,λz=>Value.noConfusion z,h O p S (λk=>?_) λc o H e=>?_⟩)))
 ·grind
 ·rw[y.2 c (aat H),L.2 c (aat H)]
  exact q c o e
end
end jU
namespace L2
open PySem PySem.Spec PyProof.Rows jU
section
variable{X:Cx}
def oU:Value->Str
 |.str k _=>k
 |_=>""
theorem X4(h:(ac1 P w).is k v=true):∃t,v=.str k t:=by
 cases v<;>simp[ac1,aep] at h
 subst h
 grind
theorem zVk:∀k v,(ac1 P w).is k v=true->oU v=k:=λk v h=>by
 obtain⟨t,rfl⟩:=X4 h
 rfl
abbrev Qp:=St->Hp->(List Str->Hp->Prop)->Prop
def SsP(X:Cx)(pins:List (Addr×Obj))(σ:St)(Q:List Str->Hp->Prop)(v:Value)(s':Shared):Prop :=
 ∃(a:Addr)(ks:List Str)(H':Hp),v=.ref a/\Inv X pins σ H' s'/\Good (ac1 X.prog X.w) oU (zX X.w) s'.heap a ks/\iB X pins H' a/\Q ks H'
def Qq(X:Cx)(e:Expr)(t:Qp):Prop:=∀(pins:List (Addr×Obj))(s:Shared)(σ:St)(H:Hp)(Q:List Str->Hp->Prop),Inv X pins σ H s->t σ H Q->wpAny (model X.prog X.w) X.A (eval e X.env) (SsP X pins σ Q) X.xe s
theorem zS2:∀{ns:List Str}{its:List Value},StrsAre its ns->∀{i:Nat}{v:Value},its[i]?=some v->∃t,v=.str (ns.getD i "") t
 |_,_,.nil,i,v,h=>by simp at h
 |_,_,.cons n t r,0,v,h=>by grind
 |_,_,.cons n t r,i+1,v,h=>by
  obtain⟨t',e⟩:=zS2 r (by simpa using h)
  exact⟨t',e⟩
theorem zOw:∀{ns:List Str}{its:List Value},StrsAre its ns->its.length=ns.length
 |_,_,.nil=>rfl
 |_,_,.cons n t r=>congrArg (· + 1) (zOw r)
def xg(K:Frag)(te:TE):Qp:=λσ H Q=>xI te aY σ H λvs H1=>∃(p:Addr)(ns:List Str),vs=[.ref p]/\aW K H1 p (ns.map V.str)/\ns.length<4000/\∀ks:List Str,ks.Nodup->(∀z,z∈ks↔z∈ns)->Q ks H1
theorem zTi(K:Frag)(hc:X.calm=true)(hm:X.mg "set" = none)(he:PE X e te)(hK:X.K=K:=by rfl)(hg:Gl X "set":=by rfl)(hs:starEach [e] X.env=[(false,eval e X.env)]:=by rfl):Qq X (.Call (.Name "set" p) [e] [] pos) (xg K te):=by
 subst hK
 intro pins s σ H Q I h
 refine abf (tV I hg hm yAa ?_)
 have ha:PA X [e] (xI te aY):=zA he zF hs
 refine abg (aP (ha pos pins s σ H _ I h) ?_) hs rfl
 rintro us s1 ⟨vs,H1,I1,r1,q1⟩
 obtain⟨l,ns,e1,hq,h4,q⟩:=q1
 subst e1
 cases r1 with
 |cons r rr =>
  cases rr
  cases r
  obtain⟨its,rv,pl,hz⟩:=I1.list hq
  have hi:StrsAre its ns:=Ts.qU rv
  have hl:=zOw hi
  refine zP3 (knd:=ac1 X.prog X.w) (dec:=oU) zVk (λi=>ns.getD i "") (I1.ok.hd hc) pl.isList (λi v hv=>?_) (by rw[size_toArray,hl];show ns.length+1<4096;omega) λh' tk g k=>?_
  ·obtain⟨t,rfl⟩:=zS2 hi (by rw[getElem?_toArray] at hv;exact hv)
   exact⟨PySem.strKind_is _ _ _ _,rfl⟩
  ·have I2:=I1.kept (h':=h') (t':=tk) λb o e=>k b o (lt_size e) e
   obtain⟨_,_,_,_,_,_,_,_,_,nd,_⟩:=id g
   refine⟨_,_,H1,rfl,I2,g,I1.iC (aao _) (I1.hok.fresh (aao _)),q _ nd λz=>?_⟩
   rw[Xr,size_toArray,hl]
   constructor
   ·grind
   ·intro hz
    obtain⟨j,hj,e⟩:=getElem_of_mem hz
    exact⟨j,hj,by rw[getD_eq_getElem?_getD,aam hj];exact e⟩
def GX(ta tb:Qp):Qp:=λσ H Q=>ta σ H λks H1=>ks.length<64/\tb σ H1 λjs H2=>js.length<64/\∀rs:List Str,rs.Nodup->(∀z,z∈rs↔((z∈ks/\z∉js)\/(z∉ks/\z∈js)))->Q rs H2
theorem Dr(ha:Qq X a ta)(hb:Qq X b tb):Qq X (.BinOp a .BitXor b pos) (GX ta tb):=by
 intro pins s σ H Q I h
 refine aea (aP (ha pins s σ H _ I h) ?_)
 rintro u s1 ⟨p,ks,H1,e,I1,g,fo,hl,h1⟩
 subst e
 obtain⟨o,es,ep,t,go,gx,gd,_⟩:=id g
 have I1':=I1.pinned (fp:=[p]) (λb hb=>by grind) (λb hb=>by
  grind)
 refine aP (hb _ s1 σ H1 _ I1' h1) ?_
 rintro u2 s2 ⟨p2,js,H2,e2,I2,g2,fo2,hl2,q2⟩
 subst e2
 have pm:(p,o)∈X.pn++(pins++Ax [p] s1.heap):=mem_append_right _ (mem_append_right _ (uG (mem_singleton.mpr rfl) go))
 have kp:s2.heap.get? p=some o:=(I2.pin (p,o) pm).1
 have g1:=g.keep (h':=s2.heap) λo' e'=>by rw[go] at e';cases e';exact kp
 have I3:=I2.cu
 refine J0 zVk (λk v hk b z=>?_) g1 g2 (ab5 hl) (ab5 hl2) λh' kr g3 m k=>?_
 ·obtain⟨t,rfl⟩:=X4 hk
  cases z
 ·have I4:=I3.kept (h':=h') (t':=s2.toks) λb o e=>k b o (lt_size e) e
  obtain⟨_,_,_,_,_,_,_,_,_,nd,_⟩:=id g3
  exact⟨_,kr,H2,rfl,I4,g3,I3.iC (aao _) (I3.hok.fresh (aao _)),q2 kr nd m⟩
def zY0(ts:Qp):TE:=λσ H Q=>ts σ H λks H1=>ks.length<64/\∀l:Addr,H1 l=none->Q (.ref l) (upd H1 l (.lst ((Ts.aR ks).map V.str)))
theorem zOq:∀{vs:List Value},(∀v∈vs,∃k,(ac1 P w).is k v=true)->StrsAre vs (vs.map oU)
 |[],_=>.nil
 |v::vs,h=>by
  obtain⟨k,hk⟩:=h v mem_cons_self
  obtain⟨t,rfl⟩:=X4 hk
  exact .cons k t (zOq λu hu=>h u (mem_cons_of_mem _ hu))
theorem zQt{xs:List Str}(p:xs.Perm ks)(h:sortedS xs=true):xs=Ts.aR ks:=Ts.fG (λ_ _=>Ts.iJ) (p.trans (Ts.aL ks).symm) (Ts.jY h) (Ts.gU ks)
theorem zSq(hc:X.calm=true)(I:Inv X pins σ H s)(g:Good (ac1 X.prog X.w) oU (zX X.w) s.heap a ks)(h64:ks.length<64)(q:∀l:Addr,H l=none->Q (.ref l) (upd H l (.lst ((Ts.aR ks).map V.str)))):wpAny (model X.prog X.w) X.A (call (.builtin "sorted") [.ref a]) (EP X pins σ Q) X.xe s:=by
 obtain⟨o,es,ep,t,ho,hx,hd,hel,hp,nd,hb,hf,tb⟩:=g
 have hsz:es.size=ks.length:=by rw[<-hp.length_eq,length_map,length_toList]
 refine PySem.Calls.call_function_entry kind_sorted plain_sorted entry_sorted (args_sorted1 _) ?_
 unfold Builtin.«sorted»
 refine aak (m:=checkCount "sorted" 1 1 _) (aal ?_)
 refine aak (zHl (A:=X.A.in1) (I.ok.hd hc) ho hx hd hf tb (ab0 hb) λh' tk d acc hkeep hacc=>?_)
 have I':Inv X pins σ H { s with heap:=h',toks:=tk,drawn:=d }:=(I.kept (h':=h') (t':=tk) hkeep).drew d
 have hI:StrsAre acc (acc.map oU):=zOq (P:=X.prog) (w:=X.w) λv hv=>by
  obtain⟨e,he,rfl⟩:=mem_map.mp (hacc.mem_iff.mp hv)
  obtain⟨⟨k,hk,_⟩,_⟩:=hel e he
  exact⟨k,hk⟩
 have hpk:(acc.map oU).Perm ks:=by
  refine(hacc.map oU).trans ?_
  rw[map_map]
  exact hp
 have hal:acc.length=ks.length:=by rw[<-hpk.length_eq,length_map]
 have hsl:acc.length<=sizeLine:=by rw[hal];exact aby (adq h64 (by decide))
 refine aak (wpAny_newList ?_ hsl)
 have hoL:(h'.push (seqObj "list" acc.toArray 0)).get? h'.objs.size=some (seqObj "list" acc.toArray 0):=get?_push_size _ rfl
 refine aak (aa7 (abx slot_list_sort ⟨_,hoL,rfl⟩ entry_list_sort (list_sort_treeK strKind_oneLt hoL hI.keysOf (λv₁ v₂ rest e=>keyKind_strs (by rw[<-e];exact hI)) (by omega) λst' sp sh=>⟨_,rfl,?_⟩) (args_list_sort _)))
 obtain⟨ss',a1,a2,a3⟩:=sorted_out_str hI sp sh
 refine aal ⟨_,rfl,?_⟩
 obtain⟨e,he⟩:=sortedHeap_at (out:=(arrOf st').map (·.2)) hoL
 have eu:=zQt (a2.trans hpk) a3
 rw[eu] at a1
 refine⟨.ref h'.objs.size,_,I'.laid (t':=tk) (o:=.lst ((Ts.aR ks).map V.str)) (λb ob w=>?_) (aao _) ?_,rfl,q _ (I'.hok.fresh (aao _))⟩
 ·have hb:h'.get? b=some ob:=w
  have hlt:=lt_size hb
  rw[sortedHeap_old (aat hlt) (by rw[size_push'];exact ac2 hlt),Heap.get?_push_ne _ _ _ (aat hlt)]
  exact hb
 ·refine⟨?_,((arrOf st').map (·.2)).toList,e,Ts.gV a1,?_⟩
  ·rw[length_map,(Ts.aL ks).length_eq];omega
  ·rw[toArray_toList];exact he
theorem zTp(hc:X.calm=true)(hm:X.mg "sorted" = none)(he:Qq X e ts)(hg:Gl X "sorted":=by rfl)(hs:starEach [e] X.env=[(false,eval e X.env)]:=by rfl):PE X (.Call (.Name "sorted" p) [e] [] pos) (zY0 ts):=by
 intro pins s σ H Q I h
 refine abf (tV I hg hm (by trivial:bootBuiltins "sorted" = some (.builtin "sorted")) ?_)
 refine acv (Q:=_) ?_ hs rfl
 rw[hs]
 show wpAny _ _ (spliced ((false,eval e X.env)::backTo pos [])) _ _ s
 refine adi (aP (he pins s σ H _ I h) ?_)
 rintro u s1 ⟨a,ks,H1,e1,I1,g,fo,h64,q⟩
 subst e1
 refine adp ?_
 exact zSq hc I1 g h64 q
end
end L2
namespace Ts
open PySem L2
def lH(ns ms:List Str):List Str:=aR (ns.filter (λz=>!decide (z∈ms))++ms.filter λz=>!decide (z∈ns))
noncomputable def oV(ns ms:List Str):Option (List Str):=if ns.length+ms.length<64/\ns.Nodup/\ms.Nodup then some (lH ns ms) else none
theorem X5{α:Type}[DecidableEq α]{ns ms:List α}{z:α}:z∈ns.filter (λz=>!decide (z∈ms))++ms.filter (λz=>!decide (z∈ns))↔((z∈ns/\z∉ms)\/(z∉ns/\z∈ms)):=by
 grind
theorem Uu{α:Type}[DecidableEq α](ns ms:List α):(ns.filter (λz=>!decide (z∈ms))++ms.filter (λz=>!decide (z∈ns))).length<=ns.length+ms.length:=by
 grind
section
variable{K:Frag}{B:Bs}{sl:SL K}{md:Md}{t u:TE}
theorem zN9(h:Ex B sl .hp t m)(h':Ex B sl .hp u m'):Eo B sl md (zY0 (GX (xg K t) (xg K u))) (m.bind λa=>m'.bind λb=>oV a b):=λc hc F O H σ Q s k=>by
 cases m with
 |none=>cases hc
 |some ns =>
  cases m' with
  |none=>cases hc
  |some ms =>
   have hc:oV ns ms=some c:=hc
   unfold oV at hc
   split at hc
   case isFalse=>cases hc
   rename_i hl
   obtain⟨hl,n1,n2⟩:=hl
   cases hc
   refine h ns rfl F O H σ _ s λv F1 H1 g1 r1=>?_
   obtain⟨p,vs,rfl,z1,z2⟩:=r1
   have z3:vs=ns.map V.str:=A2.jP z2
   subst z3
   refine⟨p,ns,rfl,aW.of z1,by omega,λks nd hm=>⟨?_,?_⟩⟩
   ·rw[((perm_ext_iff_of_nodup nd n1).mpr hm).length_eq];omega
   refine h' ms rfl F1 O H1 σ _ (s.grow g1) λv F2 H2 g2 r2=>?_
   obtain⟨p',vs',rfl,y1,y2⟩:=r2
   have y3:vs'=ms.map V.str:=A2.jP y2
   subst y3
   have ndx:(ns.filter (λz=>!decide (z∈ms))++ms.filter λz=>!decide (z∈ns)).Nodup:=by
    grind
   refine⟨p',ms,rfl,aW.of y1,by omega,λjs nd' hm'=>⟨?_,λrs X3 hr=>?_⟩⟩
   ·rw[((perm_ext_iff_of_nodup nd' n2).mpr hm').length_eq];omega
   ·have pr:rs.Perm (ns.filter (λz=>!decide (z∈ms))++ms.filter λz=>!decide (z∈ns)):=(perm_ext_iff_of_nodup X3 ndx).mpr λz=>by rw[hr,hm,hm',X5]
    refine⟨by rw[pr.length_eq];grind,λl hn=>?_⟩
    have e:aR rs=lH ns ms:=fG (r:=λa b=>fJ a b=true) (λ_ _=>iJ) (((aL rs).trans pr).trans (aL _).symm) (gU rs) (gU _)
    rw[e]
    exact k l _ F2 H2 (g1.trans g2) hn (A2.of_map (f:=V.str) (λ_=>rfl) _)
end
section
variable{K:Frag}{B:Bs}{sl:SL K}{md:Md}{t:TE}
instance:Rp K Key:=⟨λ_ v k=>v=kV k,λ_ h=>h⟩
theorem Qs(h:Ex B sl md t m):Ex B sl md t (m.bind λa=>some (abn a:Key)):=λc hc F O H σ Q s k=>by
 cases m with
 |none=>cases hc
 |some a=>cases hc;exact h a rfl F O H σ Q s k
theorem Qt(h:Ex B sl md t m):Ex B sl md t (m.bind λa=>some (abz a:Key)):=λc hc F O H σ Q s k=>by
 cases m with
 |none=>cases hc
 |some a=>cases hc;exact h a rfl F O H σ Q s k
end
structure aN(α:Type) where
 xss:List (List α)
abbrev Rr:=List (Addr×List V)
def lJ(p:Addr)(a:Rr):Own:=(p,.lst (a.map λr=>V.ref r.1))::a.map λr=>(r.1,HO.lst r.2)
def iK(K:Frag){α:Type}[Rp K α](R:Hp)(b:Rr)(xss:List (List α)):Prop:=A2 (λ(r:Addr×List V) (a:List α)=>A2 (rp K R) r.2 a) b xss
section
variable{K:Frag}{α:Type}[Rp K α]
theorem Uv:∀{a:Rr}{xss:List (List α)},iK K R a xss->(∀r∈a,R r.1=some (.lst r.2))->A2 (rp K R) (a.map λr=>V.ref r.1) xss
 |[],[],_,_=>trivial
 |r::a,row::xss,h,m=>⟨⟨r.1,r.2,rfl,m r mem_cons_self,h.1⟩,Uv h.2 λq b=>m q (mem_cons_of_mem _ b)⟩
 |[],_::_,h,_=>h.elim
 |_::_,[],h,_=>h.elim
theorem iK.mono{R b:Hp}(s:Same R b){a:Rr}{xss:List (List α)}(h:iK K R a xss):iK K b a xss:=A2.imp (λ_ _ z=>z.imp λ_ _=>Rp.mono s) h
theorem Ad(h:r∈a):(r.1,HO.lst r.2)∈lJ p a:=mem_cons_of_mem _ (mem_map.mpr ⟨r,h,rfl⟩)
instance:Ob K (aN α) where
 β:=List (List α)
 vg:=inferInstance
 ro R v x Oc:=∃p rs,v=.ref p/\Oc=lJ p rs/\iK K R rs x.xss
 mono s:=λ⟨p,rs,h1,h2,h3⟩=>⟨p,rs,h1,h2,h3.mono s⟩
 val x:=x.xss
 mL:=λ⟨p,rs,h1,h2,h3⟩ m=>by
  subst h2
  exact⟨p,_,h1,m _ mem_cons_self,Uv h3 λr hr=>m (r.1,.lst r.2) (Ad hr)⟩
instance:Rp K (aN α):=⟨λF v x=>∃(p:Addr)(rs:Rr),v=.ref p/\(∀y∈lJ p rs,F y.1=some y.2)/\(List.map (λy:Addr×HO=>y.1) (lJ p rs)).Nodup/\iK K F rs x.xss,λs ⟨p,rs,h1,h2,h3,h4⟩=>⟨p,rs,h1,λy hy=>s _ _ (h2 y hy),h3,h4.mono s⟩⟩
theorem J2{F:Hp}{v:V}{x:aN α}(h:rp K F v x):rp K F v x.xss:=by
 obtain⟨p,rs,b,a,h3,c⟩:=h
 exact⟨p,_,b,a _ mem_cons_self,Uv c λr d=>a (r.1,.lst r.2) (Ad d)⟩
theorem GZ(p:Addr)(a:Rr):(lJ p a).map (·.1)=p::a.map (·.1):=by
 unfold lJ
 rw[map_cons,map_map]
 rfl
end
section
variable{K:Frag}{B:Bs}{sl sl2:SL K}{F H G:Hp}{O:Own}{σ:St}{md:Md}{te t2 t3:TE}{t u:TS}{al:Bool}
theorem At.setC{β:Type}[Ob K β]{a:β}(z:At B sl F O H σ)(hs:sl[i]?=some (.ob n a))(hh:sl.all (λs=>!cG s)=true) :
  ∃Oc v,σ[i]?=some (some v)/\Ob.ro K (reg B F H (cQ n)) v a Oc/\(∀x∈Oc,H x.1=some x.2/\F x.1=none/\B.H0 x.1=none)/\(Oc.map (·.1)).Nodup/\(∀x∈Oc,x∈O) /\
   ∀(N:β)(j:Own)(H':Hp),Ob.ro K (reg B F H (cQ n)) v N j->(j.map (·.1)).Nodup->(∀b u,H b=some u->(∀x∈Oc,x.1≠b)->H' b=some u)->(∀x∈j,H' x.1=some x.2/\((∃y∈Oc,y.1=x.1)\/H x.1=none))->∃O',At B (sl.set i (.ob n N)) F O' H' σ:=by
 obtain⟨k,z0⟩:=z
 obtain⟨C,Oc,A,v,rfl,h1,h2,h3⟩:=z0.oh hs
 have f:∀x∈Oc,x∈C++(Oc++A):=λx c=>mem_append_right _ (mem_append_left _ c)
 have nd:=k.nd
 rw[map_append,map_append,nodup_append] at nd
 obtain⟨R,L,I⟩:=nd
 rw[nodup_append] at L
 obtain⟨S,T,U⟩:=L
 refine⟨Oc,v,h1,h2,λx c=>⟨(k.fo x (f x c)).2.2,(k.fo x (f x c)).1,(k.fo x (f x c)).2.1⟩,S,f,λN j H' r nd' h g=>⟨C++(j++A),?_,?_⟩⟩
 ·have E:∀x∈j,F x.1=none/\B.H0 x.1=none:=λx c=>by
   rcases(g x c).2 with⟨y,d,e⟩|e
   ·rw[<-e];exact⟨(k.fo y (f y d)).1,(k.fo y (f y d)).2.1⟩
   ·exact⟨k.fh.free e,k.h0.free e⟩
  have p:∀x∈C,∀y∈Oc,y.1≠x.1:=λx c y d e=>I x.1 (mem_map.mpr ⟨x,c,rfl⟩) y.1 (mem_append_left _ (mem_map.mpr ⟨y,d,rfl⟩)) e.symm
  have m:∀x∈A,∀y∈Oc,y.1≠x.1:=λx c y d e=>U y.1 (mem_map.mpr ⟨y,d,rfl⟩) x.1 (mem_map.mpr ⟨x,c,rfl⟩) e
  have J:∀x∈C,x∈C++(Oc++A):=λx c=>mem_append_left _ c
  have M:∀x∈A,x∈C++(Oc++A):=λx c=>mem_append_right _ (mem_append_right _ c)
  refine⟨λb o e=>?_,λb o e=>?_,k.fa,λx c=>?_,?_⟩
  ·exact h b o (k.fh b o e) λx c q=>by rw[<-q,(k.fo x (f x c)).1] at e;cases e
  ·exact h b o (k.h0 b o e) λx c q=>by rw[<-q,(k.fo x (f x c)).2.1] at e;cases e
  ·rcases mem_append.mp c with c|c
   ·obtain⟨Y,Z,X⟩:=k.fo x (J x c)
    exact⟨Y,Z,h _ _ X (p x c)⟩
   ·rcases mem_append.mp c with c|c
    ·exact⟨(E x c).1,(E x c).2,(g x c).1⟩
    ·obtain⟨Y,Z,X⟩:=k.fo x (M x c)
     exact⟨Y,Z,h _ _ X (m x c)⟩
  ·have fresh:∀x∈j,∀y,y∈C\/y∈A->y.1≠x.1:=λx c y d e=>by
    rcases(g x c).2 with⟨w,hw,q⟩|q
    ·rcases d with d|d
     ·exact p y d w hw (q.trans e.symm)
     ·exact m y d w hw (q.trans e.symm)
    ·have:H y.1=some y.2:=d.elim (λd=>(k.fo y (J y d)).2.2) λd=>(k.fo y (M y d)).2.2
     rw[e,q] at this
     cases this
   rw[map_append,map_append,nodup_append,nodup_append]
   refine⟨R,⟨nd',T,λa Q b l e=>?_⟩,λa Q b l e=>?_⟩
   ·obtain⟨x,c,rfl⟩:=mem_map.mp Q
    obtain⟨y,d,rfl⟩:=mem_map.mp l
    exact fresh x c y (.inr d) e.symm
   ·obtain⟨y,d,rfl⟩:=mem_map.mp Q
    rcases mem_append.mp l with l|l
    ·obtain⟨x,c,rfl⟩:=mem_map.mp l
     exact fresh x c y (.inl d) e
    ·exact I _ Q _ (mem_append_right _ l) e
 ·have zz:=h3 (.ob n N) (some v) j λ_ _ _ y=>.ob r y
  rw[Gh h1] at zz
  refine zz.mut (λb w e=>?_) (O4 rfl hh)
  unfold lo at e ⊢
  split at e
  ·cases e
  ·rename_i l
   simp only[acg,any_eq_true,not_or,not_exists,not_and,beq_iff_eq] at l
   have D:∀x∈Oc,x.1≠b:=λx c=>l.2 x (f x c)
   rw[if_neg]
   ·exact h b w e D
   ·simp only[acg,any_eq_true,not_or,not_exists,not_and,beq_iff_eq]
    refine⟨l.1,λx c q=>?_⟩
    rcases mem_append.mp c with c|c
    ·exact l.2 x (mem_append_left _ c) q
    ·rcases mem_append.mp c with c|c
     ·rcases(g x c).2 with⟨y,d,P⟩|P
      ·exact D y d (P.trans q)
      ·rw[q,e] at P;cases P
     ·exact l.2 x (mem_append_right _ (mem_append_right _ c)) q
section
variable{α:Type}[Rp K α]
theorem Uw{n:Bool}{x:aN α}(i:Nat)(hs:sl[i]?=some (.ob n x)):Ex B sl .hp (bL i) (some x.xss):=λa' ha F O H σ Q s k=>by
 cases ha
 obtain⟨O1,Oc,O2,v,e,h1,⟨p,rs,rfl,rfl,h2⟩,_⟩:=s.2.oh hs
 have Mw:∀x∈lJ p rs,H x.1=some x.2:=λx hx=>(s.1.fo x (by rw[e];exact mem_append_right _ (mem_append_left _ hx))).2.2
 exact⟨_,h1,k _ F H (.refl s.1) ⟨p,_,rfl,Mw _ mem_cons_self,Uv (h2.mono (rE s.1 n)) λr hr=>Mw (r.1,.lst r.2) (Ad hr)⟩⟩
theorem zWt(i:Nat)(e:sl[i]?=some s)(l:dz s=false):Sn B sl (fH (um aY) (mR i)) (λx:aN α=>sl.set i (.ob true x)) (some (aN.mk [])):=λa f G D σ H s k=>by
 cases f
 obtain⟨F,O,g,h,d⟩:=s
 refine⟨aa5 _,λp b=>k _ _ ?_⟩
 obtain⟨O1,O2,rfl,j⟩:=d.own (s':=.ob true (aN.mk ([]:List (List α)))) (λ_ _ _ z=>ak.ob (Oc:=lJ p []) (show∃(q:Addr)(c:Rr),V.ref p=.ref q/\lJ p []=lJ q c/\iK K _ c ([]:List (List α)) from⟨p,[],rfl,rfl,trivial⟩) z) e l
 exact⟨F,_,g,h.add b,j.mono (.refl _) (WL b) (au b _)⟩
def Qu(x:aN α)(ys:List α):Option (aN α):=if x.xss.length<cap then some (aN.mk (x.xss++[ys])) else none
theorem Ds{R:Hp}{a:Rr}{xss:List (List α)}{q:Addr}{vs:List V}{ys:List α}(h:iK K R a xss)(r:A2 (rp K R) vs ys):iK K R (a++[(q,vs)]) (xss++[ys]):=A2.snoc h r
theorem zWu{n:Bool}{x:aN α}{m:Option (List α)}(i:Nat)(U:sl[i]?=some (.ob n x))(T:sl.all (λs=>!cG s)=true)(h:Eo B sl (cQ n) te m) :
  Sn B sl (tY (z6 K "list" Iz (bL i) (xI te aY))) (λa=>sl.set i (.ob n a)) (m.bind λys=>Qu x ys):=λc j G D σ H s k=>by
 cases m with
 |none=>cases j
 |some ys =>
  have j:Qu x ys=some c:=j
  unfold Qu at j
  split at j
  case isFalse=>cases j
  rename_i hl
  cases j
  obtain⟨F,O,g,z⟩:=s
  obtain⟨Oc,v,h1,⟨p,rs,rfl,rfl,h2⟩,c1,_⟩:=z.setC U T
  refine⟨_,h1,.inl ⟨rfl,_,aW.of (c1 _ mem_cons_self).1⟩,h ys rfl F O H σ _ z λq J F' H' Z o r=>?_⟩
  have z1:=z.grow Z
  obtain⟨Oc2,v2,R,⟨p2,f,rfl,rfl,E⟩,P,I,_,up⟩:=z1.setC U T
  cases h1.symm.trans R
  have Q:=(P _ mem_cons_self).1
  have X:p≠q:=λe=>by rw[<-e] at o;rw[o] at Q;cases Q
  have S:f.length=x.xss.length:=E.len
  refine⟨p,_,.ref q,rfl,rfl,by rw[zR X];exact Q,rG (by rw[length_map,S];exact hl),?_⟩
  have L:((lJ p (f++[(q,J)])).map (·.1)).Nodup:=by
   rw[GZ] at I ⊢
   rw[map_append,<-List.cons_append,nodup_append]
   refine⟨I,by simp,λa Y b hb e=>?_⟩
   rw[<-GZ] at Y
   obtain⟨y,A,rfl⟩:=mem_map.mp Y
   have:=(P y A).1
   rw[e,mem_singleton.mp hb,o] at this
   cases this
  have l:∀y∈lJ p (f++[(q,J)]),upd (upd H' q (.lst J)) p (.lst (f.map (λr=>V.ref r.1)++[.ref q])) y.1=some y.2/\((∃w∈lJ p f,w.1=y.1)\/H' y.1=none):=λy A=>by
   rcases mem_cons.mp A with e|A
   ·subst e
    exact⟨by rw[zO,map_append];rfl,.inl ⟨_,mem_cons_self,rfl⟩⟩
   ·obtain⟨C,d,rfl⟩:=mem_map.mp A
    rcases mem_append.mp d with d|d
    ·have j:=P _ (Ad (p:=p) d)
     refine⟨?_,.inl ⟨_,Ad d,rfl⟩⟩
     have n1:C.1≠p:=λe=>by
      rw[GZ,nodup_cons] at I
      exact I.1 (e▸mem_map.mpr ⟨C,d,rfl⟩)
     have n2:C.1≠q:=λe=>by have:=j.1;rw[show C.1=q from e,o] at this;cases this
     show upd _ _ _ C.1=_
     rw[zR n1,zR n2]
     exact j.1
    ·obtain rfl:=mem_singleton.mp d
     exact⟨by show upd _ _ _ q=_;rw[zR X.symm,zO],.inr o⟩
  obtain⟨O',z'⟩:=up (aN.mk (x.xss++[ys])) (lJ p (f++[(q,J)])) _ ⟨p,_,rfl,rfl,Ds E r⟩ L (λb u e N=>by
   rw[zR λM=>N _ mem_cons_self M.symm,zR λM=>by rw[M,o] at e;cases e]
   exact e) l
  exact k _ _ ⟨F',O',g.trans Z.ff,z'⟩
theorem Dt{x:aN α}(i:Nat)(h:sl[i]?=some (.ob true x)):SB B sl (ju (rB (bL i)) u) false (some x):=λb m G D σ H s k=>by
 cases m
 obtain⟨F,O,g,a⟩:=s
 obtain⟨O1,Oc,O2,v,e,n,⟨p,d,rfl,rfl,o⟩,_⟩:=a.2.oh h
 have c:∀x∈lJ p d,x∈O:=λx hx=>by grind
 refine⟨_,n,k _ H ⟨a.1.h0,p,d,rfl,λy f=>?_,?_,o.mono (wG a.1.fh)⟩⟩
 ·obtain⟨_,j,l⟩:=a.1.fo y (c y f)
  show dif H B.H0 y.1=_
  rw[xK j];exact l
 ·have nd:=a.1.nd
  grind
end
end
section
variable{K:Frag}{B:Bs}{sl sl2:SL K}{F H G:Hp}{O:Own}{σ:St}{md:Md}{te t2 t3:TE}{t u:TS}{al:Bool}{α:Type}[Rp K α]
theorem A2.X6{γ δ:Type}{R:γ->δ->Prop}{x:γ}{y:δ}(r:R x y){xs:List γ}{ys:List δ}(j:Nat)(h:A2 R xs ys):A2 R (xs.set j x) (ys.set j y):=A2.set r j h
theorem At.m_{n:Bool}{x:aN α}{i j:Nat}{f:List α}(z:At B sl F O H σ)(Y:sl[i]?=some (.ob n x))(hh:sl.all (λs=>!cG s)=true)(hj:x.xss[j]?=some f) :
  ∃p q ps vs,σ[i]?=some (some (.ref p))/\H p=some (.lst ps)/\ps[j]?=some (.ref q)/\ps.length=x.xss.length/\H q=some (.lst vs)/\A2 (rp K (reg B F H (cQ n))) vs f/\F q=none/\B.H0 q=none/\p≠q /\
   ∀a c,A2 (rp K (reg B F H (cQ n))) a c->∃O',At B (sl.set i (.ob n (aN.mk (x.xss.set j c)))) F O' (upd H q (.lst a)) σ:=by
 obtain⟨Oc,v,T,⟨p,d,rfl,rfl,A⟩,m,M,_,up⟩:=z.setC Y hh
 obtain⟨⟨q,vs⟩,l,w⟩:=A2.at2 A hj
 have o:(q,vs)∈d:=mem_of_getElem? l
 have X:j<d.length:=(aau.mp l).1
 obtain⟨Z,S,P⟩:=m _ (Ad (p:=p) o)
 have g:=M
 rw[GZ,nodup_cons] at g
 have N:p≠q:=λe=>g.1 (e▸mem_map.mpr ⟨_,o,rfl⟩)
 refine⟨p,q,d.map λr=>V.ref r.1,vs,T,(m _ mem_cons_self).1,by rw[getElem?_map,l];rfl,by rw[length_map];exact A.len,Z,w,S,P,N,λa c r=>?_⟩
 have I:(d.set j (q,a)).map (·.1)=d.map (·.1):=by
  rw[List.map_set]
  refine ext_getElem? λk=>?_
  rw[abm]
  split
  ·rename_i e
   subst e
   split
   ·rw[getElem?_map,l];rfl
   ·rename_i z;exact absurd (by rw[length_map];exact X) z
  ·rfl
 have mr:(d.set j (q,a)).map (λr=>V.ref r.1)=d.map λr=>V.ref r.1:=by
  have:=congrArg (List.map V.ref) I
  rw[map_map,map_map] at this
  exact this
 refine up (aN.mk (x.xss.set j c)) (lJ p (d.set j (q,a))) (upd H q (.lst a)) ⟨p,_,rfl,rfl,A2.X6 (R:=λ(r:Addr×List V) (f:List α)=>A2 (rp K (reg B F H (cQ n))) r.2 f) r j A⟩ (by rw[GZ,I,<-GZ];exact M) (λb u e D=>?_) λy E=>?_
 ·rw[zR λw=>D _ (Ad o) w.symm]
  exact e
 ·rcases mem_cons.mp E with e|E
  ·subst e
   refine⟨?_,.inl ⟨_,mem_cons_self,rfl⟩⟩
   show upd H q _ p=some (.lst ((d.set j (q,a)).map λr=>V.ref r.1))
   rw[zR N,mr]
   exact(m _ mem_cons_self).1
  ·obtain⟨L,C,rfl⟩:=mem_map.mp E
   obtain⟨k,h⟩:=mem_iff_getElem?.mp C
   rw[abm] at h
   split at h
   ·rename_i e
    subst e
    cases h
    exact⟨zO,.inl ⟨_,Ad o,rfl⟩⟩
   ·rename_i ne
    have J:=mem_of_getElem? h
    refine⟨?_,.inl ⟨_,Ad J,rfl⟩⟩
    have n2:L.1≠q:=λe=>by
     have a1:(d.map (·.1))[j]?=some q:=by rw[getElem?_map,l];rfl
     have U:(d.map (·.1))[k]?=some q:=by rw[getElem?_map,h];exact congrArg some e
     obtain⟨l1,g1⟩:=aau.mp a1
     obtain⟨l2,Q⟩:=aau.mp U
     exact ne ((getElem_inj g.2).mp (g1.trans Q.symm))
    show upd H q _ L.1=_
    rw[zR n2]
    exact(m _ (Ad (p:=p) J)).1
def Ae(x:aN α)(i j:Int)(a:α):Option (aN α):=if 0<=i then(x.xss[i.toNat]?).bind λr=>(m6 r j a).bind λb=>some (aN.mk (x.xss.set i.toNat b)) else none
theorem zWr{n:Bool}{x:aN α}{m:Option α}{E r:Option Int}(i:Nat)(L:sl[i]?=some (.ob n x))(N:sl.all (λs=>!cG s)=true)(h:Ex B sl (cQ n) te m)(h2:Ex B sl .hp t2 E)(h3:Ex B sl .hp t3 r) :
  Sn B sl (fH te (HJ (dH (lu K) (bL i) t2) t3 Ol)) (λa=>sl.set i (.ob n a)) (m.bind λa=>E.bind λk=>r.bind λl=>Ae x k l a):=λc b G D σ H s kk=>by
 cases m with
 |none=>cases b
 |some a =>
  cases E with
  |none=>cases b
  |some k =>
   cases r with
   |none=>cases b
   |some l =>
    have b:Ae x k l a=some c:=b
    unfold Ae at b
    split at b
    case isFalse=>cases b
    rename_i k0
    cases e:x.xss[k.toNat]? with
    |none=>rw[e] at b;cases b
    |some d =>
     rw[e] at b
     have b:((m6 d l a).bind λr'=>some (aN.mk (x.xss.set k.toNat r')))=some c:=b
     unfold m6 at b
     cases P:n7 d.length l with
     |none=>rw[P] at b;cases b
     |some o =>
      rw[P] at b
      cases b
      obtain⟨F,O,g,z⟩:=s
      refine h a rfl F O H σ _ z λv Y Z T r1=>?_
      have A:=z.grow T
      obtain⟨p,_,_,_,Q,_⟩:=A.m_ L N e
      refine⟨_,Q,h2 k rfl Y O Z σ _ A λu2 F2 H2 C r2=>?_⟩
      cases r2
      have q:=A.grow C
      obtain⟨p2,y,I,vs,J,U,S,w4,w5,_⟩:=q.m_ L N e
      cases Q.symm.trans J
      have w:aJ I k=some (.ref y):=by
       have:=Oi S
       rw[show((k.toNat:Nat):Int)=k by omega] at this
       exact this
      refine⟨p,I,k,.ref y,rfl,rfl,aW.of U,w,h3 l rfl F2 O H2 σ _ q λu3 F3 H3 j r3=>?_⟩
      cases r3
      have z3:=q.grow j
      obtain⟨p3,q3,M,f,y1,X,y3,y4,y5,R,_,_,_,up⟩:=z3.m_ L N e
      cases Q.symm.trans y1
      have e1:I=M:=by have:=(j.hh _ _ U).symm.trans X;cases this;rfl
      subst e1
      cases S.symm.trans y3
      obtain⟨O',z'⟩:=up (f.set o v) (d.set o a) (R.set (Rp.mono (xQ (C.trans j) (cQ n)) r1) o)
      exact⟨y,f,l,o,rfl,rfl,y5,by rw[R.len,P],kk _ _ ⟨F3,O',(g.trans T.ff).trans (C.trans j).ff,z'⟩⟩
def Qv(x:aN α)(k:Int)(a:α):Option (aN α):=if 0<=k then(x.xss[k.toNat]?).bind λr=>if r.length<cap then some (aN.mk (x.xss.set k.toNat (r++[a]))) else none else none
theorem zWs{n:Bool}{x:aN α}{m:Option α}{r:Option Int}(i:Nat)(o:sl[i]?=some (.ob n x))(E:sl.all (λs=>!cG s)=true)(h2:Ex B sl .hp t2 r)(h:Ex B sl (cQ n) te m) :
  Sn B sl (tY (z6 K "list" Iz (dH (lu K) (bL i) t2) (xI te aY))) (λa=>sl.set i (.ob n a)) (r.bind λk=>m.bind λa=>Qv x k a):=λc b G D σ H s P=>by
 cases r with
 |none=>cases b
 |some k =>
  cases m with
  |none=>cases b
  |some a =>
   have b:Qv x k a=some c:=b
   unfold Qv at b
   split at b
   case isFalse=>cases b
   rename_i k0
   cases e:x.xss[k.toNat]? with
   |none=>rw[e] at b;cases b
   |some d =>
    rw[e] at b
    have b:(if d.length<cap then some (aN.mk (x.xss.set k.toNat (d++[a]))) else none)=some c:=b
    split at b
    case isFalse=>cases b
    rename_i hl
    cases b
    obtain⟨F,O,g,z⟩:=s
    obtain⟨p,_,_,_,I,_⟩:=z.m_ o E e
    refine⟨_,I,h2 k rfl F O H σ _ z λu2 F2 H2 M R=>?_⟩
    cases R
    have j:=z.grow M
    obtain⟨p2,l,w,vs,y,N,L,w4,X,_⟩:=j.m_ o E e
    cases I.symm.trans y
    have q:aJ w k=some (.ref l):=by
     have:=Oi L
     rw[show((k.toNat:Nat):Int)=k by omega] at this
     exact this
    refine⟨p,w,k,.ref l,rfl,rfl,aW.of N,q,.inl ⟨rfl,_,aW.of X⟩,h a rfl F2 O H2 σ _ j λv F3 H3 A r3=>?_⟩
    have T:=j.grow A
    obtain⟨p3,q3,C,f,Y,Q,Z,y4,U,J,_,_,_,up⟩:=T.m_ o E e
    cases I.symm.trans Y
    have S:w=C:=by have:=(A.hh _ _ N).symm.trans Q;cases this;rfl
    subst S
    cases L.symm.trans Z
    obtain⟨O',z'⟩:=up (f++[v]) (d++[a]) (J.snoc r3)
    exact⟨l,f,v,rfl,rfl,U,rG (by rw[J.len];exact hl),P _ _ ⟨F3,O',g.trans (M.trans A).ff,z'⟩⟩
end
def Qw(K:Frag){A β:Type}[Rp K β](as:A->SL K)(f:LI->A->Option (β×LI)):Sp:=λvs H Q _ =>
 ∃(p:Addr)(ws:LI)(u:V)(us:List V)(a:A)(b:β)(ws':LI)(Fa:Hp),vs=u::.ref p::us/\H p=some (.lst (ws.map V.int))/\Fa p=none/\Same Fa H/\f ws a=some (b,ws')/\Ar Fa (as a) (u::us) /\
  ∀v H',Same (del H p) H'->H' p=some (.lst (ws'.map V.int))->rp K (dif H' H) v b->Q v H'
section
variable{K:Frag}{B:Bs}{sl sl2:SL K}{F H G:Hp}{O:Own}{σ:St}{md:Md}{te ti t2 t3:TE}{t u tb:TS}{al:Bool}{p:Addr}{ws:LI}{S:Type}
theorem Du(i:Nat)(hs:sl[i]?=some (.nu (RL.mk (p:=p) ws)))(hh:(sl.set i .un).all (λs=>!cG s&&!Di s)=true)(hi:Ex B sl .hp ti mi)(hv:Ex B sl .hp te m) :
  Sn B sl (uc (bL i) ti te (wk K) (Lq f) Ol) (λys=>sl.set i (.nu (RL.mk (p:=p) ys))) (mi.bind λk=>m.bind λa=>lD f ws k a):=λys ha G D σ H s k=>by
 obtain⟨ix,a,e1,e2,ha'⟩:=jK ha
 unfold lD at ha'
 split at ha'
 case isFalse=>cases ha'
 rename_i h0
 obtain⟨x,ex,ha'⟩:=Option.bind_eq_some_iff.mp ha'
 obtain⟨F,O,g,z⟩:=s
 obtain⟨h1,h2,_⟩:=z.Dj hs hh
 refine⟨_,h1,?_⟩
 refine hi ix e1 F O H σ _ z λv F' H' gr r=>?_
 cases r
 obtain⟨_,h2',_⟩:=(z.grow gr).Dj hs hh
 obtain⟨xv,exv,rx⟩:=(uS (K:=K) (F:=H') ws).aJ ex
 have rx:xv=.int x:=Sc.is.mp rx
 subst rx
 refine⟨p,_,ix,_,rfl,rfl,h0,aW.of h2',exv,?_⟩
 refine hv a e2 F' O H' σ _ (z.grow gr) λw F2 H2 LR rw=>?_
 cases rw
 obtain⟨_,y2,_,_,_,ch⟩:=((z.grow gr).grow LR).Dj hs hh
 refine⟨x,a,rfl,rfl,?_⟩
 unfold m6 at ha'
 cases ej:n7 ws.length ix with
 |none=>rw[ej] at ha';cases ha'
 |some jj =>
  rw[ej] at ha'
  cases ha'
  refine⟨p,_,ix,jj,rfl,rfl,y2,by grind,k _ _ ⟨F2,O,(g.trans gr.ff).trans LR.ff,?_⟩⟩
  have:=ch (ws.set jj (f x a))
  rw[List.map_set] at this
  exact this
def J3(x:aN Int)(k:Int)(r:LI):aN Int:=aN.mk (x.xss.set k.toNat r)
theorem zRr{A:Type}{as:A->SL K}{f:LI->A->Option (LI×LI)}{α0 A':Type}[Rp K α0]{m0:Option α0}{ma:Option A'}{as':A'->SL K}{jn:α0->A'->A}(j:Nat)(hs:sl[j]?=some (.ob n x))(hh:sl.all (λs=>!cG s)=true)(hj:∀x0 a,as (jn x0 a)=.fz false x0::as' a)(h0:Ex B sl .fz t0 m0)(hk:Ex B sl .hp t2 mk)(h:Ea B sl .fz ta as' ma){x0:α0}{a':A'}(e0:m0=some x0)(ek:mk=some k)(ea:ma=some a')(k0:0<=k)(er:x.xss[k.toNat]?=some row)(ef:f row (jn x0 a')=some (xs,ql)) :
  TQ B sl (sl.set j (.ob n (J3 x k ql))) true (Lw K (Ig (Qw K as f) [] E0 (xI t0 (xI (dH (lu K) (bL j) t2) ta)))) (some xs):=λxs' hx F O H σ R z kk=>by
 cases hx
 refine h0 x0 e0 F O H σ _ z λv0 F1 H1 g1 r1=>?_
 have z1:=z.grow g1
 obtain⟨p,_,_,_,w1,_⟩:=z1.m_ hs hh er
 refine⟨_,w1,hk k ek F1 O H1 σ _ z1 λu2 F2 H2 g2 r2=>?_⟩
 cases r2
 have z2:=z1.grow g2
 obtain⟨p2,q,ps,vs,w1',w2,w3,w4,w5,_⟩:=z2.m_ hs hh er
 cases w1.symm.trans w1'
 have hix:aJ ps k=some (.ref q):=by
  have:=Oi w3
  rw[show((k.toNat:Nat):Int)=k by omega] at this
  exact this
 refine⟨p,ps,k,.ref q,rfl,rfl,aW.of w2,hix,h a' ea F2 O H2 σ _ z2 λus F3 H3 g3 r3=>?_⟩
 have z3:=z2.grow g3
 obtain⟨p3,q3,ps3,vs3,y1,y2,y3,y4,y5,y6,fq,bq,pq,up⟩:=z3.m_ hs hh er
 cases w1.symm.trans y1
 have e1:ps=ps3:=by have:=(g3.hh _ _ w2).symm.trans y2;cases this;rfl
 subst e1
 cases w3.symm.trans y3
 have ev:vs3=row.map V.int:=y6.vals
 show Qw K as f ((v0::.ref q::us)++[]) H3 _ E0
 rw[append_nil]
 refine⟨q,row,v0,us,jn x0 a',xs,ql,F3,rfl,by rw[y5,ev],fq,g3.ok.fh,ef,by rw[hj];exact .cons (Rp.mono (xQ (g2.trans g3) .fz) r1) r3,λv H4 s4 e4 r4=>?_⟩
 obtain⟨O',z'⟩:=up (ql.map V.int) ql (uS ql)
 have s5:Same (upd H3 q (.lst (ql.map V.int))) H4:=λc o e=>by
  by_cases d:c=q
  ·subst d
   rw[zO] at e
   rw[e4]
   exact e
  ·rw[zR d] at e
   refine s4 c o ?_
   unfold del
   rw[if_neg d]
   exact e
 have g4:=z'.1.called s5
 have z5:=z'.grow g4
 have d4:Same (dif H4 H3) (dif H4 (upd H3 q (.lst (ql.map V.int)))):=λc o e=>by
  unfold dif at e ⊢
  by_cases d:c=q
  ·subst d
   rw[y5] at e
   cases e
  ·rw[zR d]
   exact e
 have r5:=Rp.mono (S5 (F:=F3) z'.1.h0 s5) (Rp.mono d4 r4)
 obtain⟨l,ts,rfl,t1,t2'⟩:=r5
 refine⟨l,rfl,⟨ts,aW.of (aQ.trans z5.1.fh _ _ t1)⟩,kk _ _ O' H4 ((g1.ff.trans (g2.trans g3).ff).trans g4.ff) z5 λi F6 O6 H6 sf k6=>?_⟩
 have hq:aW K H6 l ts:=aW.of (k6.fh _ _ (sf _ _ (aQ _ _ t1)))
 refine⟨λhl=>⟨ts,hq,by rw[t2'.len];exact hl⟩,λx hx=>?_⟩
 obtain⟨w,hw,rw⟩:=t2'.at2 hx
 refine⟨⟨ts,w,hq,hw⟩,λv H7 yd=>?_⟩
 obtain⟨e,y⟩:=yd
 subst e
 have:=(hw.symm.trans (y ts hq))
 cases this
 exact⟨F6,.refl k6,SX rw⟩
theorem Dv{α S0:Type}[Rp K α]{m:Option (List α×S0)}{L:S->SL K}{Lx:S->α->SL K}{step:S->α->Option S}(s0:S0->S)(h0:Le sl TV)(hi:∀xs r,m=some (xs,r)->TQ B TV (L (s0 r)) n wi (some xs))(hg:∀s,Tg B (L s) n g (Lx s))(hb:∀s x,Sn B (Lx s x) tb L (step s x)) :
  Sn B sl (ud wi g tb) L (m.bind λr=>yX step r.1 (s0 r.2)):=λs1 hs1 G D σ H q k=>by
 cases m with
 |none=>cases hs1
 |some r =>
  obtain⟨xs,r⟩:=r
  exact Cq (s0 r) h0 (hi xs r rfl) hg hb s1 hs1 G D σ H q k
end
section
variable{P:Program}{w:World}{K:Frag}{mg:Str->Option Value}{base:Heap}
theorem Dw{A β α0:Type}[Rp K β][Rp K α0]{as:A->SL K}{as':A->SL K}{a0:A->α0}{fM:LI->A->Option (β×LI)}(F:cF K x qual st f fd)(S:aF N ps (zS st))(ha:∀a,as a=.fz false (a0 a)::as' a)(hf:∀a,(as' a).all isF=true)(hl:∀a,(as' a).length+2=ps.length)(hb:∀(cdv:Value) (A:Around) (outer:List Env) (s:Shared) (H:Hp) (E:XK),bG k (A.deeper (ab8 qual (zS st) s.heap.objs.size f cdv)) ->
   ∃t,jH (jw bN P w K mg base N qual (zS st) f cdv A outer s H E).tX (wR st) t/\∀Fa p ws a,tH ⟨Fa,del H p⟩ p (.fz false (a0 a)::.nu (RL.mk (p:=p) ws)::(as' a++replicate (N.length-ps.length) .un)) t (fM ws a)) :
  aH P w K mg base bN (k+1) f fd ps (Qw K as fM) :=
 F.ok S (λvs H Q E h=>by
  obtain⟨p,ws,u,us,a,b,ws',Fa,rfl,_,_,_,_,r,_⟩:=h
  rw[ha] at r
  cases r with
  |cons r0 r=>rw[length_cons,length_cons,r.len,hl]) λcdv A outer s H vs Q E hr h=>by
  obtain⟨t,pt,q⟩:=hb cdv A outer s H E hr
  refine⟨t,pt,?_⟩
  obtain⟨p,ws,u,us,a,b,ws',Fa,rfl,hp,fp,sf,hfa,r,kk⟩:=h
  rw[ha] at r
  cases r with
  |cons r0 r =>
   have e:L2.start N (u::.ref p::us)=some u::some (.ref p)::(us.map some++replicate (N.length-ps.length) none):=by
    unfold L2.start
    rw[length_cons,length_cons,r.len,hl]
    rfl
   have d0:Same (del H p) H:=λc o e=>by
    unfold del at e
    split at e
    ·cases e
    ·exact e
   have dp:del H p p=none:=by
    unfold del
    rw[if_pos rfl]
   rw[e]
   refine q Fa p ws a b ws' hfa Fa _ _ H ⟨Fa,[],.refl _,⟨sf,d0,λb o h=>.inl h,λx hx=>(by cases hx),(by simp)⟩,.fz r0 (.nu ⟨rfl,?_⟩ (zK0 _ (hf a) r))⟩ (λv H' s1 e1 z=>?_)
   ·rw[xK dp]
    unfold lo
    rw[fp]
    exact hp
   ·obtain⟨F2,f2,s2,r2⟩:=z
    refine kk v H' s1 e1 (Rp.mono (λc o e=>?_) r2)
    unfold dif at e ⊢
    by_cases c1:c=p
    ·subst c1
     have e:(match del H c c with|none=>F2 c|some _=>none)=some o:=e
     rw[dp,f2] at e
     cases e
    ·have ed:del H p c=H c:=by
      unfold del
      rw[if_neg c1]
     have e:(match del H p c with|none=>F2 c|some _=>none)=some o:=e
     rw[ed] at e
     show(match H c with|none=>H' c|some _=>none)=some o
     cases hc:H c with
     |none=>rw[hc] at e;exact s2 _ _ e
     |some u=>rw[hc] at e;cases e
end
structure Ob0 where
 u:Unit
instance:Ob K Ob0 where
 β:=Unit
 vg:=inferInstance
 ro _ v _ O:=v=.non/\O=[]
 mono _ h:=h
 val _:=()
 mL h _:=h.1
class qm (K:Frag) (α:Type) [Rp K α]:Prop where
 keep:∀{F F':Hp}{v:V}{a:α},(∀b t,F b=some (.tup t)->F' b=some (.tup t))->rp K F v a->rp K F' v a
section
variable{K:Frag}
instance:qm K Int:=⟨λ_ h=>h⟩
instance:qm K Str:=⟨λ_ h=>h⟩
instance:qm K Key:=⟨λ_ h=>h⟩
instance{α:Type}[Rp K α][qm K α]:qm K (Option α):=⟨λ{_ _ _ a} k h=>match a,h with
 |none,h=>h
 |some _,h=>⟨h.1,qm.keep k h.2⟩⟩
instance{α β:Type}[Rp K α][Rp K β][qm K α][qm K β]:qm K (α×β):=⟨λk ⟨p,a,b,h1,h2,h3,h4⟩=>⟨p,a,b,h1,k _ _ h2,qm.keep k h3,qm.keep k h4⟩⟩
variable{B:Bs}{sl sl2:SL K}{F F' H H1 H2 G:Hp}{O:Own}{σ:St}{md:Md}{te t1 t2 t3:TE}{t u:TS}{al:Bool}
theorem At.Dy(X:Addr->Bool)(z:At B sl F O H1 σ)(d:Same H1 H2)(l:sl.all (λs=>!z8 s)=true):∃a,Same F a/\At B sl a O H2 σ/\(∀b o,dif H2 H1 b=some o->X b=false->a b=some o)/\∀b o,dif H2 H1 b=some o->X b=true->a b=none/\B.H0 b=none/\∀x∈O,x.1≠b:=by
 have g:∀b o,dif H2 H1 b=some o->H1 b=none/\H2 b=some o:=λb o e=>by
  unfold dif at e
  grind
 let a:Hp:=λb=>match F b with
  |some o=>some o
  |none=>if X b=true then none else dif H2 H1 b
 have f:∀b o,F b=some o->a b=some o:=λb o e=>by show(match F b with|some o=>some o|none=>_)=_;rw[e]
 have c:∀b,F b=none->a b=if X b=true then none else dif H2 H1 b:=λb e=>by show(match F b with|some o=>some o|none=>_)=_;rw[e]
 refine⟨a,f,⟨⟨λb o e=>?_,z.1.h0.trans d,λb o e=>?_,λx m=>?_,z.1.nd⟩,(z.2.mono f (.refl _) d).calm l⟩,λb o e x=>?_,λb o e x=>?_⟩
 ·cases q:F b with
  |some u=>rw[f b u q] at e;cases e;exact d _ _ (z.1.fh _ _ q)
  |none =>
   grind
 ·cases q:F b with
  |some u=>rw[f b u q] at e;cases e;exact z.1.fa _ _ q
  |none =>
   rw[c b q] at e
   split at e
   ·cases e
   ·exact .inr (z.1.h0.free (g b o e).1)
 ·obtain⟨n,k,i⟩:=z.1.fo x m
  refine⟨?_,k,d _ _ i⟩
  rw[c _ n]
  split
  ·rfl
  ·unfold dif
   rw[i]
 ·rw[c b (z.1.fh.free (g b o e).1),if_neg (by rw[x];decide)]
  exact e
 ·have h:=(g b o e).1
  refine⟨by rw[c b (z.1.fh.free h),if_pos x],z.1.h0.free h,λy j q=>?_⟩
  have:=(z.1.fo y j).2.2
  rw[q,h] at this
  cases this
theorem At.Qx{β:Type}[Ob K β]{a:β}{Oc:Own}(z:At B sl F O H σ)(A:sl.all (λs=>!z8 s)=true)(o:sl[i]?=some s)(w:dz s=false)(C:(Oc.map (·.1)).Nodup)(c:∀x∈Oc,F x.1=none/\B.H0 x.1=none/\H x.1=some x.2/\∀y∈O,y.1≠x.1)(r:Ob.ro K (reg B F H (cQ n)) v a Oc):∃I,At B (sl.set i (.ob n a)) F I H (σ.set i (some v)):=by
 obtain⟨k,D⟩:=z
 have q:=D.put (s':=.ob true (Ob0.mk ())) (x:=some .non) (λ_ _ _ y=>ak.ob (Oc:=[]) (show V.non=.non/\([]:Own)=[] from⟨rfl,rfl⟩) y) o w
 obtain⟨l,Oc0,m,v0,e,_,⟨_,rfl⟩,E⟩:=q.oh (zSw o)
 have e:O=l++m:=e
 subst e
 have p:=E (.ob n a) (some v) Oc λ_ _ _ y=>.ob r y
 rw[set_set,set_set] at p
 refine⟨l++(Oc++m),⟨k.fh,k.h0,k.fa,λx d=>?_,?_⟩,p.calm (O4 rfl A)⟩
 ·rcases mem_append.mp d with d|d
  ·exact k.fo x (mem_append_left _ d)
  ·rcases mem_append.mp d with d|d
   ·exact⟨(c x d).1,(c x d).2.1,(c x d).2.2.1⟩
   ·exact k.fo x (mem_append_right _ d)
 ·have g:=k.nd
  rw[map_append,nodup_append] at g
  rw[map_append,map_append,nodup_append,nodup_append]
  refine⟨g.1,⟨C,g.2.1,λa h b f e=>?_⟩,λa h b f e=>?_⟩
  ·obtain⟨x,d,rfl⟩:=mem_map.mp h
   obtain⟨y,j,rfl⟩:=mem_map.mp f
   exact(c x d).2.2.2 y (mem_append_right _ j) e.symm
  ·obtain⟨y,j,rfl⟩:=mem_map.mp h
   rcases mem_append.mp f with f|f
   ·obtain⟨x,d,rfl⟩:=mem_map.mp f
    exact(c x d).2.2.2 y (mem_append_left _ j) e
   ·exact g.2.2 _ h _ f e
section
variable{α:Type}[Rp K α]
theorem X7[qm K α]{s:Slot K}{m:Option (aN α)}(i:Nat)(hs:sl[i]?=some s)(ho:dz s=false)(I:sl.all (λs=>!z8 s)=true)(h:En B sl te m):Sn B sl (fH te (mR i)) (λa=>sl.set i (.ob true a)) m:=λa ha G D σ H s k=>by
 obtain⟨F,O,g,z⟩:=s
 refine h a ha F O H σ _ z λv F' H1 H2 o X r=>k _ _ ?_
 obtain⟨p,d,rfl,c,U,T⟩:=r
 obtain⟨E,R,z2,L,Y⟩:=(z.grow o).Dy (λb=>decide (b∈(lJ p d).map (·.1))) X I
 have C:∀b t,dif H2 H1 b=some (.tup t)->b∉(lJ p d).map (·.1):=λb t e N=>by
  obtain⟨y,l,rfl⟩:=mem_map.mp N
  rw[c y l] at e
  rcases mem_cons.mp l with q|l
  ·rw[q] at e;cases e
  ·obtain⟨w,_,q⟩:=mem_map.mp l
   rw[<-q] at e;cases e
 have S:iK K (dif E B.H0) d a.xss:=A2.imp (λ_ _ z=>z.imp λ_ _=>qm.keep λb t e=>by
  have P:B.H0 b=none:=o.ok.h0.free (by
   unfold dif at e
   cases q:H1 b with
   |none=>rfl
   |some u=>rw[q] at e;cases e)
  rw[xK P]
  exact L b _ e (decide_eq_false (C b t e))) T
 obtain⟨Q,z'⟩:=z2.Qx (n:=true) (a:=a) (v:=.ref p) (Oc:=lJ p d) I hs ho U (λx A=>by
  obtain⟨a1,Z,M⟩:=Y x.1 x.2 (c x A) (decide_eq_true (mem_map.mpr ⟨x,A,rfl⟩))
  exact⟨a1,Z,aQ _ _ (c x A),M⟩) (show∃(J:Addr)(j:Rr),V.ref p=.ref J/\lJ p d=lJ J j/\iK K (dif E B.H0) j a.xss from⟨p,d,rfl,rfl,S⟩)
 exact⟨E,Q,g.trans (o.ff.trans R),z'⟩
end
theorem J4{v:V}{x:fX}(h:rp K F v x):rp K F v (aN.mk x.xss:aN Int):=by
 obtain⟨p,b,m,h2,n,l⟩:=h
 have f:∀{b:List Addr}{xss:List LI},A2 (fK F) b xss->∃a:Rr,a.map (·.1)=b/\(∀r∈a,F r.1=some (.lst r.2))/\iK K F a xss:=by
  intro b
  induction b with
  |nil=>intro xss z;cases xss with
   |nil=>exact⟨[],rfl,λr c=>(by cases c),trivial⟩
   |cons _ _=>exact z.elim
  |cons q b ih=>intro xss z;cases xss with
   |nil=>exact z.elim
   |cons i xss =>
    obtain⟨a,d,j,g⟩:=ih z.2
    refine⟨(q,i.map V.int)::a,by rw[map_cons,d],λr c=>?_,uS i,g⟩
    rcases mem_cons.mp c with e|c
    ·rw[e];exact z.1
    ·exact j r c
 obtain⟨a,d,j,g⟩:=f l
 have er:a.map (λr=>V.ref r.1)=b.map V.ref:=by rw[<-d,map_map];rfl
 refine⟨p,a,m,λy k=>?_,?_,g⟩
 ·rcases mem_cons.mp k with e|k
  ·grind
  grind
 ·rw[GZ,d];exact n
theorem zW1{x:fX}(i:Nat)(e:sl[i]?=some (.nu x)):SB B sl (ju (rB (bL i)) u) false (some (aN.mk x.xss:aN Int)):=λb c G D σ H s k=>by
 cases c
 obtain⟨F,O,g,a⟩:=s
 obtain⟨v,d,f⟩:=a.2.jQ e
 exact⟨v,d,k v H ⟨a.1.h0,J4 (Rp.mono (wG S6) f)⟩⟩
theorem J5{α:Type}[Rp K α]{m:Option (aN α)}(h:Ex B sl md te m):Ex B sl md te (m.bind λx=>some x.xss):=λc b F O H σ Q s k=>by
 cases m with
 |none=>cases b
 |some x=>cases b;exact h x rfl F O H σ Q s λv F' d g r=>k v F' d g (J2 r)
noncomputable def xq(n:Nat)(c:LI):Option (aN Int):=if n<=900 then some (aN.mk (replicate n c)) else none
theorem zY9{c:LI}:∀(ps:List Addr),iK K R (ps.map λq=>(q,c.map V.int)) (replicate ps.length c)
 |[]=>trivial
 |_::ps=>⟨uS c,zY9 ps⟩
theorem J6{n:Bool}{c:LI}{m:Option LI}(j:Nat)(hs:sl[j]?=some (.fz n c))(h:Ex B sl .hp te m):En B sl (SQ 1 [j] (Lw K te) (mR 0) Bu (qO (vp K) (xI (bL 1) aY))) (m.bind λxs=>xq xs.length c):=λd D F O H σ Q s T=>by
 cases m with
 |none=>cases D
 |some xs =>
  have D:xq xs.length c=some d:=D
  unfold xq at D
  split at D
  case isFalse=>cases D
  rename_i hl
  cases D
  refine h xs rfl F O H σ _ s λv X H1 g r=>?_
  obtain⟨p,L,rfl,E,U⟩:=r
  have E:H1 p=some (.lst L):=E
  have vl:=U.len
  obtain⟨w,y1,y2⟩:=(s.grow g).2.n_ hs
  obtain⟨R,vc,rfl,y3,y4⟩:=Rp.mono (rE g.ok n) y2
  have Z:vc=c.map V.int:=y4.vals
  subst Z
  refine⟨p,rfl,⟨L,aW.of E⟩,zMg (K:=K) (a:=p) (xs:=L) (λi I J H2=>(∃S,J=[S,some (.ref R)])/\∃(f:List Addr),I=f.map V.ref/\f.length=i/\f.Nodup/\Same H1 H2/\∀q∈f,H1 q=none/\H2 q=some (.lst (c.map V.int))) ⟨⟨none,by unfold jO;rw[map_cons,y1];rfl⟩,[],rfl,rfl,.nil,.refl _,λq C=>(by cases C)⟩
   (by rintro i I J H2 hi ⟨_,f,Y,N,_,A,_⟩;exact⟨A.seq (aW.of E),by rw[Y,length_map,N];exact aao _⟩) (aaw (show L.length<=900 by omega) (by decide)) ?_ ?_⟩
  ·rintro i x I J H2 hi ⟨⟨S,rfl⟩,f,rfl,rfl,P,A,C⟩
   refine⟨_,rfl,R,c.map V.int,rfl,.inl (aW.of (A _ _ y3)),λl o=>⟨⟨_,rfl⟩,f++[l],by rw[map_append];rfl,by rw[length_append];rfl,?_,A.trans (au o _),λq k=>?_⟩⟩
   ·rw[nodup_append]
    refine⟨P,by simp,λa ha b hb e=>?_⟩
    rw[mem_singleton.mp hb] at e
    rw[<-e,(C a ha).2] at o
    cases o
   ·rcases mem_append.mp k with z|z
    ·exact⟨(C q z).1,au o _ _ _ (C q z).2⟩
    ·rw[mem_singleton.mp z]
     exact⟨A.free o,zO⟩
  ·rintro I J H2 ⟨_,f,rfl,N,P,A,C⟩ l o
   have ln:f.length=xs.length:=by rw[N,vl]
   refine T _ X H1 _ g (A.trans (au o _)) ⟨l,f.map λq=>(q,c.map V.int),rfl,λy M=>?_,?_,by rw[<-ln];exact zY9 f⟩
   ·rcases mem_cons.mp M with e|M
    ·rw[e]
     show dif _ _ l=_
     rw[xK (A.free o),zO,map_map];rfl
    ·obtain⟨r,hr,rfl⟩:=mem_map.mp M
     obtain⟨q,k,rfl⟩:=mem_map.mp hr
     show dif _ _ q=_
     rw[xK (C q k).1]
     exact au o _ _ _ (C q k).2
   ·rw[GZ,map_map]
    grind
abbrev Ux:=Str×LI
theorem zZq:∀{vs:List V}{ys:List Ux},F p=some (.lst vs)->A2 (rp K F) vs ys->∀{f:Hp},(∀b o,F b=some o->b≠p->f b=some o)->A2 (rp K f) vs ys:=λ{vs ys} m h {f} k=>by
 have j:∀v∈vs,∀n:Int,v≠.int n:=λv d n e=>by
  obtain⟨i,x⟩:=mem_iff_getElem?.mp d
  obtain⟨y,_,q,_,_,r,_⟩:=A2.at1 h x
  grind
 have c:∀v∈vs,∀y:Ux,rp K F v y->rp K f v y:=by
  rintro v d y ⟨q,a,b,r,A,D,l,E,L,g,s⟩
  refine⟨q,a,b,r,k _ _ A λz=>?_,D,l,E,L,k _ _ g λz=>?_,s⟩
  ·grind
  ·rw[z,m] at g
   cases g
   have J:=s.vals
   rw[J] at d j
   obtain⟨n,I,rfl⟩:=mem_map.mp d
   exact j _ (mem_map.mpr ⟨n,I,rfl⟩) n rfl
 clear m j
 induction vs generalizing ys with
 |nil=>cases ys with
  |nil=>trivial
  |cons _ _=>exact h.elim
 |cons v vs ih=>cases ys with
  |nil=>exact h.elim
  |cons y ys=>exact⟨c v mem_cons_self y h.1,ih h.2 λw C=>c w (mem_cons_of_mem _ C)⟩
theorem zO8{α:Type}[Rp K α]{a:List α}(f:At B sl F O H σ)(r:sl.all (λs=>!z8 s)=true)(C:sl[i]?=some s)(A:dz s=false)(fp:F p=none)(v:B.H0 p=none)(op:∀x∈O,x.1≠p)(m:H p=some (.lst vs))(o:A2 (rp K (dif F B.H0)) vs a)(g:Same G F):∃n,Same G F/\At B (sl.set i (.ow true a)) F n H (σ.set i (some (.ref p))):=by
 obtain⟨O1,O2,rfl,w⟩:=f.2.own (s':=.ow true a) (x:=some (.ref p)) (c:=(p,.lst vs)) (λ_ _ _ z=>.ow o z) C A
 refine⟨_,g,⟨f.1.fh,f.1.h0,f.1.fa,λx d=>?_,?_⟩,w.calm (O4 rfl r)⟩
 ·rcases mem_append.mp d with d|d
  ·exact f.1.fo x (mem_append_left _ d)
  ·rcases mem_cons.mp d with e|d
   ·rw[e];exact⟨fp,v,m⟩
   ·exact f.1.fo x (mem_append_right _ d)
 ·have h:=f.1.nd
  rw[map_append,nodup_append] at h
  rw[map_append,map_cons,nodup_append,nodup_cons]
  refine⟨h.1,⟨λd=>?_,h.2.1⟩,λa l b j e=>?_⟩
  ·obtain⟨y,k,e⟩:=mem_map.mp d
   exact op y (mem_append_right _ k) e
  ·rcases mem_cons.mp j with q|j
   ·obtain⟨y,k,rfl⟩:=mem_map.mp l
    exact op y (mem_append_left _ k) (e.trans q)
   ·exact h.2.2 _ l _ j e
theorem zWq{s:Slot K}{m:Option (List Ux)}(i:Nat)(q:sl[i]?=some s)(I:dz s=false)(l:sl.all (λs=>!z8 s)=true)(h:En B sl te m):Sn B sl (fH te (mR i)) (λa=>sl.set i (.ow true a)) m:=λa y G D σ H s k=>by
 obtain⟨F,O,g,z⟩:=s
 refine h a y F O H σ _ z λv F' H1 H2 d J r=>k _ _ ?_
 obtain⟨p,M,rfl,c,n⟩:=r
 obtain⟨j,C,Q,o1,L⟩:=(z.grow d).Dy (λb=>decide (b=p)) J l
 obtain⟨w,P,N⟩:=L p _ c (decide_eq_true rfl)
 have E:A2 (rp K (dif j B.H0)) M a:=zZq c n λb o e nb=>by
  have A:B.H0 b=none:=d.ok.h0.free (by
   unfold dif at e
   grind)
  rw[xK A]
  grind
 exact⟨j,zO8 Q l q I w P N (aQ _ _ c) E (g.trans (d.ff.trans C))⟩
theorem Dz{α:Type}[Rp K α][qm K α]{m:Option (List α)}(i:Nat)(o:sl[i]?=some s)(R:dz s=false)(j:sl.all (λs=>!z8 s)=true)(h:En B sl te m):Sn B sl (fH te (mR i)) (λa=>sl.set i (.ow true a)) m:=λa y G D σ H s k=>by
 obtain⟨F,O,g,z⟩:=s
 refine h a y F O H σ _ z λv F' H1 H2 d J r=>k _ _ ?_
 obtain⟨p,M,rfl,c,w⟩:=r
 obtain⟨l,C,Q,n,L⟩:=(z.grow d).Dy (λb=>decide (b=p)) J j
 obtain⟨I,P,N⟩:=L p _ c (decide_eq_true rfl)
 have E:A2 (rp K (dif l B.H0)) M a:=w.imp λ_ _=>qm.keep λb t e=>by
  have A:B.H0 b=none:=d.ok.h0.free (by
   unfold dif at e
   grind)
  rw[xK A]
  exact n b _ e (decide_eq_false λq=>by grind)
 exact⟨l,zO8 Q j o R I P N (aQ _ _ c) E (g.trans (d.ff.trans C))⟩
structure iV(α β:Type) where
 a:α
 b:List β
instance{α β:Type}[Rp K α][Rp K β]:Ob K (iV α β) where
 β:=α×List β
 vg:=inferInstance
 ro R v x Oc:=∃t p vs w,v=.ref t/\R t=some (.tup [w,.ref p])/\Oc=[(p,.lst vs)]/\rp K R w x.a/\A2 (rp K R) vs x.b
 mono s:=λ⟨t,p,vs,w,h1,h2,h3,h4,h5⟩=>⟨t,p,vs,w,h1,s _ _ h2,h3,Rp.mono s h4,h5.imp λ_ _=>Rp.mono s⟩
 val x:=(x.a,x.b)
 mL:=λ⟨t,p,vs,w,h1,h2,h3,h4,h5⟩ m=>⟨t,w,.ref p,h1,h2,h4,p,vs,rfl,m (p,.lst vs) (by rw[h3];exact mem_cons_self),h5⟩
section
variable{α:Type}[Rp K α]
theorem DG{β:Type}[Rp K β]{x:iV α β}(i:Nat)(j:sl[i]?=some (.ob n x)):Ex B sl .hp (bL i) (some (x.a,x.b)):=λa' l F O H σ Q s k=>by
 cases l
 obtain⟨O1,Oc,O2,v,e,h,⟨t,p,d,w,rfl,m,rfl,g,o⟩,_⟩:=s.2.oh j
 have f:H p=some (.lst d):=(s.1.fo (p,.lst d) (by grind)).2.2
 have c:=rE s.1 n
 exact⟨_,h,k _ F H (.refl s.1) ⟨t,w,.ref p,rfl,c _ _ m,Rp.mono c g,p,d,rfl,f,o.imp λ_ _=>Rp.mono c⟩⟩
theorem J7{s:Slot K}{S:Option α}{Q:Option (List Ux)}(i:Nat)(hs:sl[i]?=some s)(ho:dz s=false)(R:sl.all (λs=>!z8 s)=true)(h1:Ex B sl .nw t1 S)(h2:En B sl t2 Q):Sn B sl (fH (Bg (xI t1 (xI t2 aY))) (mR i)) (λx=>sl.set i (.ob true x)) (S.bind λa=>Q.bind λb=>some (iV.mk a b)):=λx E G D σ H s k=>by
 obtain⟨a,b,ha,hb,hf⟩:=jK E
 cases hf
 obtain⟨F,O,g,z⟩:=s
 refine h1 a ha F O H σ _ z λw F1 A q r1=>?_
 refine h2 b hb F1 O A σ _ (z.grow q) λv F' H1 H2 m s2 r=>?_
 obtain⟨p,j,rfl,c,r4⟩:=r
 obtain⟨d,N,y,o1,o2⟩:=((z.grow q).grow m).Dy (λb=>decide (b=p)) s2 R
 obtain⟨fp,Y,op⟩:=o2 p _ c (decide_eq_true rfl)
 have rr:A2 (rp K (dif d B.H0)) j b:=zZq c r4 λb o e Z=>by
  have b0:B.H0 b=none:=m.ok.h0.free (by
   unfold dif at e
   grind)
  rw[xK b0]
  exact o1 b o e (decide_eq_false Z)
 refine⟨by show 2<=sizeLine;decide,λt I=>k _ _ ?_⟩
 have J:=bJ.new y.1 I (.tup [w,.ref p])
 have X:=y.grow J
 have C:H2 p=some (.lst j):=aQ _ _ c
 have M:p≠t:=λe=>by rw[e,I] at C;cases C
 have h:Same (dif d B.H0) (dif (upd d t (.tup [w,.ref p])) B.H0):=wG J.ff
 obtain⟨U,z'⟩:=X.Qx (n:=true) (a:=iV.mk a b) (v:=.ref t) (Oc:=[(p,.lst j)]) R hs ho (by simp) (λx E=>by
  obtain rfl:=mem_singleton.mp E
  exact⟨by rw[zR M];exact fp,Y,by rw[zR M];exact C,op⟩) (show∃(L T:Addr)(l:List V)(P:V),V.ref t=.ref L/\dif (upd d t (.tup [w,.ref p])) B.H0 L=some (.tup [P,.ref T])/\[(p,HO.lst j)]=[(T,HO.lst l)]/\rp K (dif (upd d t (.tup [w,.ref p])) B.H0) P a/\A2 (rp K (dif (upd d t (.tup [w,.ref p])) B.H0)) l b from⟨t,p,j,w,rfl,by rw[xK (y.1.h0.free I),zO],rfl,Rp.mono ((wG (m.ff.trans N)).trans h) r1,rr.imp λ_ _=>Rp.mono h⟩)
 exact⟨_,U,g.trans (q.ff.trans (m.ff.trans (N.trans J.ff))),z'⟩
theorem zSr{β:Type}[Rp K β]{x:iV α β}{m:Option β}(i:Nat)(N:sl[i]?=some (.ob n x))(J:sl.all (λs=>!cG s)=true)(h:Ex B sl (cQ n) te m) :
  Sn B sl (tY (z6 K "list" Iz (dH (ux K) (bL i) (tC (.int 1))) (xI te aY))) (λa=>sl.set i (.ob n a)) (m.bind λy=>if x.b.length<cap then some (iV.mk x.a (x.b++[y])) else none):=λc f G D σ H s R=>by
 cases m with
 |none=>cases f
 |some y =>
  have f:(if x.b.length<cap then some (iV.mk x.a (x.b++[y])) else none)=some c:=f
  split at f
  case isFalse=>cases f
  rename_i T
  cases f
  obtain⟨F,O,g,z⟩:=s
  obtain⟨Oc,v,P,⟨t,p,vs,w,rfl,Q,rfl,h4,h5⟩,Z,_⟩:=z.setC N J
  have X:H t=some (.tup [w,.ref p]):=rE z.1 n _ _ Q
  have hp:=(Z _ mem_cons_self).1
  refine⟨_,P,t,[w,.ref p],1,.ref p,rfl,rfl,.inl (.inl X),rfl,.inl ⟨rfl,_,aW.of hp⟩,h y rfl F O H σ _ z λu F' M A r=>?_⟩
  obtain⟨Oc2,v2,l,⟨t2,p2,d,w2,rfl,E,rfl,C,j⟩,Y,nd,_,U⟩:=(z.grow A).setC N J
  cases P.symm.trans l
  have L:reg B F' M (cQ n) t=some (.tup [w,.ref p]):=xQ A (cQ n) _ _ Q
  cases L.symm.trans E
  have I:=(Y _ mem_cons_self).1
  obtain⟨S,z'⟩:=U (iV.mk x.a (x.b++[y])) [(p,.lst (d++[u]))] (upd M p (.lst (d++[u]))) ⟨t,p,_,w,rfl,L,rfl,C,j.snoc r⟩ (by simp) (λb o e k=>by rw[zR λq=>k _ mem_cons_self q.symm];exact e) λq hq=>by
   obtain rfl:=mem_singleton.mp hq
   exact⟨zO,.inl ⟨_,mem_cons_self,rfl⟩⟩
  exact⟨p,d,u,rfl,rfl,I,rG (by rw[j.len];exact T),R _ _ ⟨F',S,g.trans A.ff,z'⟩⟩
end
noncomputable def eF(x:aN Int)(k:Int)(f:LI->Option (LI×LI)):Option (LI×LI):=if 0<=k then(x.xss[k.toNat]?).bind f else none
theorem DK{A:Type}{as:A->SL K}{f:LI->A->Option (LI×LI)}{α0 A':Type}[Rp K α0]{as':A'->SL K}{jn:α0->A'->A}{x0:α0}{a':A'}(j:Nat)(hs:sl[j]?=some (.ob n x))(hh:sl.all (λs=>!cG s)=true)(hj:∀x0 a,as (jn x0 a)=.fz false x0::as' a)(h0:Ex B sl .fz t0 (some x0))(hk:Ex B sl .hp t2 (some k))(h:Ea B sl .fz ta as' (some a'))(e:eF x k (λrow=>f row (jn x0 a'))=some (xs,r)) :
  TQ B sl (sl.set j (.ob n (J3 x k r))) true (Lw K (Ig (Qw K as f) [] E0 (xI t0 (xI (dH (lu K) (bL j) t2) ta)))) (some xs):=by
 unfold eF at e
 split at e
 case isFalse=>cases e
 rename_i k0
 cases er:x.xss[k.toNat]? with
 |none=>rw[er] at e;cases e
 |some row =>
  rw[er] at e
  exact zRr j hs hh hj h0 hk h rfl rfl rfl k0 er e
theorem J8(h:Ex B sl md te m):Ex B sl md te (m.bind λx=>some (iD.mk x)):=λc b F O H σ Q s k=>by
 cases m with
 |none=>cases b
 |some x =>
  cases b
  refine h x rfl F O H σ Q s λv F' d g r=>k v F' d g ?_
  obtain⟨p,vs,rfl,f,i⟩:=r
  have e:=i.vals
  subst e
  exact⟨p,rfl,aW.of f⟩
end
section
variable{K:Frag}{B:Bs}{sl:SL K}{md:Md}{te ti tj:TE}
theorem zVd{m:Option iD}{mi mj:Option Int}(h:Ex B sl .hp te m)(hi:Ex B sl .hp ti mi)(hj:Ex B sl .hp tj mj):Eo B sl md (Oh (uy K) te (LC ti) (LC tj)) (m.bind λxs=>mi.bind λi=>mj.bind λj=>some (lE xs.ns (some i) (some j))):=λc hc F O H σ Q s k=>by
 obtain⟨xs,i,hx,hi',hc⟩:=jK hc
 cases ej:mj with
 |none=>grind
 |some j =>
  rw[ej] at hc
  cases hc
  refine h xs hx F O H σ _ s λv F' H' g r=>?_
  refine hi i hi' F' O H' σ _ (s.grow g) λu F2 H2 g2 r2=>?_
  refine⟨i,r2,?_⟩
  refine hj j ej F2 O H2 σ _ ((s.grow g).grow g2) λu3 F3 H3 g3 r3=>?_
  obtain⟨p,rfl,z1⟩:=r
  exact⟨j,r3,p,xs.ns.map V.int,rfl,(g2.trans g3).hh.seq z1,λl hl=>k l _ F3 H3 (g.trans (g2.trans g3)) hl ((A2.of_map (f:=V.int) (λ_=>rfl) xs.ns).cut _ _)⟩
theorem zVc{m:Option iD}{mi:Option Int}(h:Ex B sl .hp te m)(hi:Ex B sl .hp ti mi):Eo B sl md (Oh (uy K) te (LC ti) Sq) (m.bind λxs=>mi.bind λi=>some (lE xs.ns (some i) none)):=λc hc F O H σ Q s k=>by
 obtain⟨xs,i,hx,hi',hc⟩:=jK hc
 cases hc
 refine h xs hx F O H σ _ s λv F' H' g r=>?_
 refine hi i hi' F' O H' σ _ (s.grow g) λu F2 H2 g2 r2=>?_
 obtain⟨p,rfl,z1⟩:=r
 exact⟨i,r2,p,xs.ns.map V.int,rfl,g2.hh.seq z1,λl hl=>k l _ F2 H2 (g.trans g2) hl ((A2.of_map (f:=V.int) (λ_=>rfl) xs.ns).cut _ _)⟩
end
def xu:LI->TA
 |[]=>aY
 |w::a=>xI (tC (.int w)) (xu a)
theorem zUk:∀(ws:LI)(σ:St)(H:Hp)(Q:List V->Hp->Prop),Q (ws.map V.int) H->xu ws σ H Q
 |[],_,_,_,h=>h
 |_::ws,σ,H,_,h=>zUk ws σ H _ h
section
variable{K:Frag}{B:Bs}{sl:SL K}
theorem DN(ws:LI)(b:ws.length<=1000):Ei B sl true (Aw K (Bg (xu ws))) (some ws):=λxs c F O H σ R a o=>by
 cases c
 refine zUk ws σ H _ ⟨by rw[length_map];exact aby (rG (yK b)),λp h=>?_⟩
 have g:=bJ.new a.1 h (.tup (ws.map V.int))
 refine⟨p,rfl,⟨_,gF.of zO⟩,o _ _ _ g λi n O2 m j f=>?_⟩
 have d:gF K m p (ws.map V.int):=gF.of (f.fh _ _ (j _ _ zO))
 refine⟨λl=>⟨_,d,by rw[length_map];exact l⟩,λx c=>?_⟩
 have b:(ws.map V.int)[i]?=some (.int x):=by rw[getElem?_map,c];rfl
 refine⟨⟨_,_,d,b⟩,λv H3 k=>?_⟩
 obtain⟨e,y⟩:=k
 subst e
 have:=b.symm.trans (y _ d)
 cases this
 exact⟨n,.refl f,rfl⟩
end
noncomputable def top(i:Nat):Stmt:=PySem.Challenge.pw_treesay_k73_whole_following_carries.main.body.getD i (.Pass ⟨0,0,0,0⟩)
abbrev gW:Stmt:=top 2
abbrev qW:Stmt:=top 3
abbrev oW:Stmt:=top 4
abbrev oX:Stmt:=top 5
abbrev jZ:Stmt:=top 6
abbrev mq:Stmt:=top 7
abbrev j4:Stmt:=top 8
abbrev dI:Stmt:=top 10
abbrev cZ:Stmt:=top 11
abbrev eG:Stmt:=top 12
abbrev dJ:Stmt:=top 13
abbrev bH:Stmt:=top 14
abbrev j5:Stmt:=top 15
abbrev j6:Stmt:=top 16
abbrev j7:Stmt:=top 27
abbrev eH:Stmt:=top 28
abbrev fY:Stmt:=top 29
abbrev mz:Stmt:=top 30
abbrev fZ:Stmt:=top 31
abbrev gY:Stmt:=top 32
abbrev oY:Stmt:=top 33
abbrev Uy:Stmt:=top 34
abbrev Uz:Stmt:=xR (top 35) 0
abbrev eN:Stmt:=xR (top 35) 1
abbrev cR:Stmt:=xR (top 35) 2
abbrev c7:Stmt:=xR (top 35) 3
abbrev dh:Stmt:=xR (top 35) 4
abbrev cL:Stmt:=xR (top 35) 5
abbrev cT:Stmt:=xR (top 35) 6
abbrev iW:Stmt:=top 37
abbrev j8:Stmt:=top 38
abbrev gZ:Stmt:=top 39
abbrev gb:Stmt:=top 40
abbrev mC:Stmt:=top 42
abbrev gj:Stmt:=top 43
abbrev qX:Stmt:=top 44
abbrev iY:Stmt:=top 45
abbrev g8:Stmt:=top 46
abbrev oZ:Stmt:=top 47
abbrev yc:Stmt:=top 48
abbrev s_alive:Stmt:=top 49
abbrev g_:Stmt:=xR (top 51) 0
abbrev iQ:Stmt:=xR (top 52) 0
abbrev iR:Stmt:=xR (top 53) 0
abbrev j9:Stmt:=xR (top 54) 0
abbrev jD:Stmt:=xR (top 55) 0
abbrev j_:Stmt:=xR (top 56) 0
abbrev jE:Stmt:=xR (top 57) 0
abbrev h_:Stmt:=xR (top 58) 0
abbrev fL:Stmt:=xR (top 59) 0
abbrev fP:Stmt:=xR (top 60) 0
abbrev fQ:Stmt:=xR (top 61) 0
abbrev fU:Stmt:=xR (top 62) 0
abbrev dM:Stmt:=xR (top 63) 0
abbrev dN:Stmt:=xR (top 64) 0
abbrev fV:Stmt:=xR (top 65) 0
abbrev iZ:Stmt:=top 67
abbrev i_:Stmt:=top 68
abbrev kh:Stmt:=top 69
abbrev jc:Stmt:=top 70
abbrev bY:Stmt:=top 71
abbrev mD:Stmt:=top 72
abbrev cU:Stmt:=top 73
abbrev qY:Stmt:=top 74
abbrev qZ:Stmt:=top 75
abbrev je:Stmt:=top 77
abbrev mF:Stmt:=top 78
abbrev jf:Stmt:=top 79
abbrev jg:Stmt:=top 80
abbrev ig:Stmt:=top 81
abbrev jh:Stmt:=top 82
abbrev ji:Stmt:=top 83
abbrev gk:Stmt:=top 84
abbrev kj:Stmt:=top 85
abbrev jk:Stmt:=top 86
abbrev jm:Stmt:=top 87
abbrev cV:Stmt:=top 88
abbrev mG:Stmt:=top 89
section
variable{P:Program}{w:World}{K:Frag}{mg:Str->Option Value}{base:Heap}
def X8(K:Frag):Sp:=λg H Q _=>∃(a:Addr)(f:List Addr)(b:List LI),g=[.ref a]/\aW K H a (f.map V.ref)/\oE K H f b/\b.length<=60/\Tp b.length b /\
 ∀(r:Addr)(e:List Addr)(d:Hp),Same H d->H r=none->d r=some (.lst (e.map V.ref))->e.length=b.length->oF d e (src b)->(∀c∈e,H c=none)->Q (.ref r) d
theorem yh:aF ["steps","sources","stand","targets","target"] ["steps"] (zS Uy):=⟨rfl,rfl,rfl,by trivial,rfl,by trivial,by trivial⟩
theorem X_:(["stand"]:List Str).Nodup:=by grind
theorem J9{a:List Addr}(e:a.Nodup){i j:Nat}{c:Addr}(b:a[i]?=some c)(h2:a[j]?=some c):i=j:=by
 obtain⟨k1,d⟩:=aau.mp b
 obtain⟨k2,f⟩:=aau.mp h2
 exact(getElem_inj e).mp (d.trans f.symm)
theorem oF.put{a:Nat->LI}(r:oF H h f)(l:h.Nodup)(i:h[j]?=some c)(e:a j=xs)(m:∀k,k≠j->a k=f k):oF (upd H c (.lst (xs.map V.int))) h a:=λk d b=>by
 by_cases g:k=j
 ·subst g
  rw[i] at b
  cases b
  rw[zO,e]
 ·rw[zR (λz=>g (J9 l b (by grind))),m k g]
  exact r k d b
theorem Qy(F:cF K "sources_of" "sources_of" Uy f fd)(B:Bl K mg):aH P w K mg base bN 1 f fd ["steps"] (X8 K):=by
 refine F.ok yh (λvs H Q E h=>?_) (λcdv A outer s H vs Q E hr h=>?_)
 ·obtain⟨a,bs,g,rfl,_⟩:=h
  rfl
 obtain⟨a,bs,g,rfl,hS,hR,Mx,hV,q⟩:=h
 have Y:(bs.map V.ref).length=g.length:=by rw[length_map];exact hR.1
 refine⟨_,zC (Gd (i:=1) (own:=["stand"]) (ix:=[]) yh.nd rfl rfl rfl rfl rfl (V2 (pv 0)) (λC s H fp=>yM (i:=0) X_ rfl (Or.inl rfl)) (λC s H fp=>vE) (λC s H fp=>wU zF))
  (zC (xB aas rfl (zTo rfl B.enum (zA (pv 0) zF)) (pW rfl (yA (yM (i:=2) yh.nd rfl (Or.inl rfl)) (yA (yM (i:=3) yh.nd rfl (Or.inl rfl)) wA)))
   (wN (xB aas rfl (V2 (pv 3)) (yM (i:=4) yh.nd rfl (Or.inl rfl))
    (wN (yC (Gb aap aaq aar yS (yV zUo (pv 1) (pv 4) (λ_ _=>rfl)) (zA (pv 2) zF)))))))
  (wN (zT (pv 1)))),?_⟩
 refine⟨_,rfl,a,rfl,⟨_,hS⟩,zMg (K:=K) (a:=a) (xs:=bs.map V.ref) (λi ys σ M=>∃(d:List Addr)(v:Option V),ys=d.map V.ref/\σ=[v]/\Same H M/\News H M d (replicate i [])/\d.length=i)
  ⟨[],none,rfl,rfl,Same.refl H,News.nil,rfl⟩ (by rintro i ys σ M _ ⟨d,v,e,_,I,_,hi⟩;exact⟨I.seq hS,by rw[e,length_map,hi];exact aao _⟩) (zKz (by lia)) ?_ ?_⟩
 ·rintro i y ys σ M hi ⟨d,v,rfl,rfl,I,N,J⟩
  refine zXq ?_
  refine⟨(by show 0<=sizeLine;decide),λl hl'=>?_⟩
  refine⟨d++[l],_,by rw[map_append]<;>rfl,rfl,I.trans (au hl' _),?_,by rw[length_append,J]<;>rfl⟩
  have e:replicate (i+1) ([]:List V)=replicate i []++[[]]:=List.replicate_succ'
  rw[e]
  exact N.snoc I hl'
 rintro ys σ M ⟨d,v,rfl,rfl,I,N,J⟩ r R
 have T:d.length=g.length:=by rw[J,Y]
 have s3:Same H (upd M r (.lst (d.map V.ref))):=I.trans (au R _)
 have hrH:H r=none:=I.free R
 have nrc:r∉d:=N.Pk R
 have R0:oF (upd M r (.lst (d.map V.ref))) d (src (g.take 0)):=λj c n=>by
  obtain⟨G,h1,h2⟩:=N.at_ j c n
  have e:G=[]:=by
   rw[getElem?_replicate] at h1
   split at h1
   ·exact(aa2 h1).symm
   ·cases h1
  subst e
  rw[zR (λz=>nrc (by rw[<-z];exact mem_of_getElem? n)),h2]
  rfl
 refine⟨_,rfl,a,rfl,⟨_,s3.seq hS⟩,zX7 (K:=K) (a:=a) (xs:=bs.map V.ref) (λi σ D=>∃u v t,σ=[some (.ref a),some (.ref r),u,v,t]/\Same H D/\D r=some (.lst (d.map V.ref))/\oF D d (src (g.take i)))
  ⟨none,none,none,rfl,s3,zO,R0⟩ (by rintro i σ D _ ⟨_,_,_,_,Z,_⟩;exact Z.seq hS) ?_ ?_⟩
 ·rintro i x t σ D hi ht ⟨u,v,t',rfl,Z,O,R4⟩
  obtain⟨b,rfl,hb⟩:=Ji hi
  obtain⟨G,hx,U⟩:=hR.2 i b hb
  obtain⟨ne,nd,len,vr⟩:=hV.2 G (mem_of_getElem? hx)
  have il:=yN hx
  have st:Same D (upd D t (.tup [.int i,.ref b])):=au ht _
  have s5:=Z.trans st
  refine⟨t,_,rfl,gF.of zO,rfl,_,_,rfl,_,_,rfl,rfl,?_⟩
  refine⟨_,rfl,b,rfl,⟨_,s5.seq U⟩,zX6 (K:=K) (a:=b) (xs:=G.map V.int) (λm σ S=>∃tt,σ=[some (.ref a),some (.ref r),some (.int i),some (.ref b),tt]/\Same H S/\S r=some (.lst (d.map V.ref)) /\
   oF S d λj=>src (g.take i) j++(if(j:Int)∈G.take m then[(i:Int)] else[])) ⟨t',rfl,s5,st _ _ O,λj c n=>?_⟩ (by rintro m σ S _ ⟨_,_,X,_⟩;exact X.seq U) ?_ ?_⟩
  ·rw[st _ _ (R4 j c n)]
   simp
  ·rintro m y σ S hm ⟨tt,rfl,X,p,R6⟩
   obtain⟨z,rfl,hz⟩:=int_at hm
   obtain⟨z0,z1⟩:=vr z (mem_of_getElem? hz)
   have zl:z.toNat<d.length:=by rw[T];lia
   have n:d[z.toNat]?=some d[z.toNat]:=aam zl
   have L:((z.toNat:Nat):Int)=z:=by lia
   have o:=R6 z.toNat _ n
   have hno:¬z∈G.take m:=Tj nd hz
   simp only[L,if_neg hno,append_nil] at o
   have hix:aJ (d.map V.ref) z=some (.ref d[z.toNat]):=by
    have:=Oi (zTa n)
    rw[L] at this
    exact this
   refine⟨_,rfl,_,rfl,r,_,z,_,rfl,rfl,aW.of p,hix,.inl ⟨rfl,_,aW.of o⟩,_,rfl,_,_,_,rfl,rfl,o,?_,?_⟩
   ·have:=B_ (g.take i) z.toNat
    rw[length_take] at this
    refine zKz ?_
    rw[length_map]
    lia
   ·have cH:H d[z.toNat]=none:=N.new _ (mem_of_getElem? n)
    have cr:r≠d[z.toNat]:=λe=>nrc (by rw[e];exact mem_of_getElem? n)
    refine⟨_,rfl,X.put cH _,by rw[zR cr];exact p,?_⟩
    have em:(src (g.take i) z.toNat).map V.int++[V.int i]=(src (g.take i) z.toNat++[(i:Int)]).map V.int:=by rw[map_append]<;>rfl
    rw[em]
    refine R6.put N.nd n ?_ λk hk=>?_
    ·rw[L,if_pos ((Tn hz).mpr (.inr rfl))]
    ·have hk':((k:Int)∈G.take (m+1))=((k:Int)∈G.take m):=by
      rw[Tn hz]
      refine propext ⟨λh=>h.elim id λe=>absurd (by lia) hk,.inl⟩
     simp only[hk']
  ·rintro σ S ⟨tt,rfl,X,p,R6⟩
   refine⟨_,_,_,rfl,X,p,λj c n=>?_⟩
   rw[R6 j c n,zWl hx j,length_map,take_length]
 ·rintro σ D ⟨u,v,t,rfl,Z,O,R4⟩
  refine⟨_,rfl,?_⟩
  have e:g.take (bs.map V.ref).length=g:=by rw[Y];exact take_length
  rw[e] at R4
  exact q r d D Z hrH O T R4 N.new
end
structure rR(K:Frag)(x qual:Str)(st:Stmt)(dV:Value)(f:Addr)(fd:FuncData):Prop where
 ex:∃(oc:Value)(od:Option Addr)(kV doc pm:Value)(an:Option Addr)(cdv ct:Value)(osl:Array (Option Value)),
  fd=fnOf x qual (tu st) (wR st) (zS st) dV kV doc pm an cdv ct/\K.lookup f=some ⟨oc,od,.func fd,osl⟩/\codeIn K cdv qual=true
 kp:keepIn K (.ref f)=true
section
variable{P:Program}{w:World}{K:Frag}{mg:Str->Option Value}{base:Heap}
theorem rR.ok(F:rR K x c st dV f j)(S:aF N ps (zS st))(g:∀vs H Q E,sp vs H Q E->vs.length=ps.length)(d:∀(b:Value) (A:Around) (a:List Env) (s:Shared) (H:Hp) (vs:List V) (Q:VK) (E:XK),bG k (A.deeper (ab8 c (zS st) s.heap.objs.size f b))->sp vs H Q E ->
   ∃t,jH (jw bN P w K mg base N c (zS st) f b A a s H E).tX (wR st) t/\t { nx:=λ_ H'=>Q .non H',rt:=Q } (start N vs) H):aH P w K mg base bN (k+1) f j ps sp:=by
 obtain⟨oc,od,kV,doc,pm,an,b,ct,osl,rfl,m,i⟩:=F.ex
 refine FZ m i S g λA a s H vs Q E l e=>?_
 obtain⟨t,h,q⟩:=d b A a s H vs Q E l e
 exact⟨t,h.tX,q⟩
structure Cl(K:Frag)(mg:Str->Option Value)(C:Addr):Prop where
 cl:Cls K C
 nS:bh K C "steps"
 nM:bh K C "marks"
 nF:bh K C "fair"
 nB:bh K C "sources"
 mgC:mg "Machine" = some (.ref C)
theorem J_:aF ["self","steps","marks","fair","given_marks","given_fair"] ["self","steps","marks","fair"] (zS Uz):=⟨rfl,rfl,rfl,by trivial,rfl,by trivial,by trivial⟩
theorem Qz:(["name","stands"]:List Str).Nodup:=by trivial
theorem bK(f:Str)(v:V):∀fs:List (Str×V),(aq f v fs).length<=fs.length+1
 |[]=>aao _
 | (g,x)::r=>by
  unfold aq
  split
  ·grind
  ·exact acd (bK f v r)
theorem zS5:∀{vs:List V}{xss:List LI},A2 (rp K R) vs xss->∃bs:List Addr,vs=bs.map V.ref/\oE K R bs xss
 |[],[],_=>⟨[],rfl,rfl,λi b h=>by simp at h⟩
 |v::vs,a::xss,h=>by
  obtain⟨bs,e,h1,h2⟩:=zS5 h.2
  obtain⟨p,c,rfl,h3,d⟩:=h.1
  have h5:c=a.map V.int:=d.vals
  refine⟨p::bs,by grind,by grind,λi b hb=>?_⟩
  cases i with
  |zero=>exact⟨a,rfl,aW.of (by grind)⟩
  |succ i=>simp_all
 |[],_::_,h=>h.elim
 |_::_,[],h=>h.elim
noncomputable def Mz(xss:LLI):Option LLI:=if xss.length<=60/\Tp xss.length xss then some (srcs xss) else none
theorem Ka(F:cF K "sources_of" "sources_of" Uy f m)(B:Bl K mg):aH P w K mg base bN 1 f m ["steps"] (lB K false (λa:LLI×Unit=>([.fz false a.1]:SL K)) λa=>Mz a.1):=by
 refine(Qy F B).imp λvs H Q E h=>?_
 obtain⟨⟨g,⟨⟩⟩,b,Fa,s,d,r,q⟩:=h
 have d:Mz g=some b:=d
 unfold Mz at d
 split at d
 case isFalse=>cases d
 rename_i j
 cases d
 cases r with
 |cons u t =>
  cases t
  obtain⟨a,ws,rfl,v,A⟩:=u
  obtain⟨z,rfl,x⟩:=zS5 A
  refine⟨a,z,g,rfl,aW.of (s _ _ v),x.same s,j.1,j.2,λk cs i y p e l R N=>q _ _ y ?_⟩
  refine⟨k,_,rfl,by show dif i H k=_;rw[xK p];exact e,?_⟩
  exact Ce l R λc n o e=>by show dif i H c=_;rw[xK (N c n)];exact e
theorem Kc{fS:LLI->Option Unit}{fM:z_->Int->Option Unit}{fF:LLI->Int->Option Unit}{fC fO:LLI->Option LLI}(F:rR K "__init__" "Machine.__init__" Uz dV f fd)(T:Cl K mg C)(B:Bl K mg)(CS:jL P w K mg base k "check_steps" ["steps"] (lB K false (λa:LLI×Unit=>([.fz false a.1]:SL K)) λa=>fS a.1))(CM:jL P w K mg base k "check_marks" ["marks","many"] (lB K false (λa:z_×Int×Unit=>([.fz false a.1,.fz false a.2.1]:SL K)) λa=>fM a.1 a.2.1))(CF:jL P w K mg base k "check_fair" ["fair","many"] (lB K false (λa:LLI×Int×Unit=>([.fz false a.1,.fz false a.2.1]:SL K)) λa=>fF a.1 a.2.1))(CC:jL P w K mg base k "copied" ["lists"] (lB K false (λa:LLI×Unit=>([.fz false a.1]:SL K)) λa=>fC a.1))(CO:jL P w K mg base k "sources_of" ["steps"] (lB K false (λa:LLI×Unit=>([.fz false a.1]:SL K)) λa=>fO a.1)) :
  aH P w K mg base bN (k+1) f fd ["self","steps","marks","fair"] (oJ K C (TY C fS fM fF fC fO)):=by
 refine F.ok J_ (λvs H Q E h=>?_) (λcdv A outer s H vs Q E hr h=>?_)
 ·obtain⟨p,dx,vS,vM,vF,xss,mo,fo,M,rfl,_⟩:=h
  rfl
 obtain⟨p,dx,vS,vM,vF,xss,mo,fo,M,rfl,hp,rS,rM,rF,hm,q⟩:=h
 unfold TY at hm
 obtain⟨⟨⟩,e1,hm⟩:=Aa hm
 obtain⟨⟨⟩,e2,hm⟩:=Aa hm
 obtain⟨⟨⟩,e3,hm⟩:=Aa hm
 obtain⟨a,e4,hm⟩:=Aa hm
 obtain⟨b,e5,hm⟩:=Aa hm
 obtain⟨c,e6,hm⟩:=Aa hm
 obtain⟨d,e7,hm⟩:=Aa hm
 cases hm
 refine⟨_,zC (VR (i:=4) J_.nd rfl (Or.inl rfl) (Zt (tW (Lk (pv 2))) (wU zF) (pv 2)))
  (zC (VR (i:=5) J_.nd rfl (Or.inl rfl) (Zt (tW (Lk (pv 3))) (wU zF) (pv 3)))
  (zC (yC (zU CS hr (zA (pv 1) zF)))
  (zC (yC (zU CM hr (zA (pv 4) (zA (zP (xL K) rfl B.len aay (zA (pv 1) zF)) zF))))
  (zC (yC (zU CF hr (zA (pv 5) (zA (zP (xL K) rfl B.len aay (zA (pv 1) zF)) zF))))
  (zC (zq (pv 0) (zU CC hr (zA (pv 1) zF)) rfl)
  (zC (zq (pv 0) (wX (own:=["name","stands"]) (ix:=[]) rfl rfl rfl (yR K (pv 4)) (λC s H fp=>IW (K:=K) (n:=2) rfl rfl (yA (yM (i:=0) Qz rfl (Or.inl rfl)) (yA (yM (i:=1) Qz rfl (Or.inl rfl)) wA))) (λC s H fp=>vE)
   (λC s H fp=>xX (zA (pv 0) (zA (uL (Gk K) rfl B.list Gj (zA (pv 1) zF)) zF)))) rfl)
  (zC (zq (pv 0) (zU CC hr (zA (pv 5) zF)) rfl)
  (wN (zq (pv 0) (zU CO hr (zA (ZQ (pv 0) rfl) zF)) rfl))))))))),?_⟩
 have sg0:Sg (K:=K) ⟨hid H p,H⟩ (hid H p) [.fz false (dZ.mk ():dZ p),.fz false xss,.fz false mo,.fz false fo,.un,.un] [some (.ref p),some vS,some vM,some vF,none,none] H :=
  ⟨hid H p,[],.refl _,yAe (.fz (show rp K _ _ (dZ.mk ():dZ p) from rfl) (.fz rS (.fz rM (.fz rF (.un (.un .nil))))))⟩
 refine(Sn.of (yF false 4 rfl rfl (zZ2 (I_ (md:=.hp) (L_ (zE 2 rfl))) (Eo.ex (nO (α:=Str×LI))) (Ti (yJ 2 rfl)))) (show _=some (mo.getD []) by cases mo<;>rfl)) _ rfl (hid H p) _ _ H sg0 λσ1 H1 sg1=>?_
 refine(Sn.of (yF false 5 rfl rfl (zZ2 (I_ (md:=.hp) (L_ (zE 3 rfl))) (Eo.ex (nO (α:=LI))) (Ti (yJ 3 rfl)))) (show _=some (fo.getD []) by cases fo<;>rfl)) _ rfl (hid H p) _ _ H1 sg1 λσ2 H2 sg2=>?_
 refine(Sn.of (LQ (md:=.hp) (zK (f:=λa:LLI×Unit=>fS a.1) (zD (zE 1 rfl) zL))) (show _=fS xss from rfl)) () e1 (hid H p) _ _ H2 sg2 λσ3 H3 sg3=>?_
 refine(Sn.of (LQ (md:=.hp) (zK (f:=λa:z_×Int×Unit=>fM a.1 a.2.1) (zD (zE 4 rfl) (zD (Ex.sc (md:=.hp) (xP (zE 1 rfl))) zL)))) (show _=fM (mo.getD []) (xss.length:Int) from rfl)) () e2 (hid H p) _ _ H3 sg3 λσ4 H4 sg4=>?_
 refine(Sn.of (LQ (md:=.hp) (zK (f:=λa:LLI×Int×Unit=>fF a.1 a.2.1) (zD (zE 5 rfl) (zD (Ex.sc (md:=.hp) (xP (zE 1 rfl))) zL)))) (show _=fF (fo.getD []) (xss.length:Int) from rfl)) () e3 (hid H p) _ _ H4 sg4 λσ5 H5 sg5=>?_
 obtain⟨F5,O5,g5,k5,s5⟩:=sg5
 have s5:ak (K:=K) ⟨hid H p,H⟩ F5 (lo F5 O5 H5) H5 [.fz false (dZ.mk ():dZ p),.fz false xss,.fz false mo,.fz false fo,.fz false (mo.getD []),.fz false (fo.getD [])] σ5 O5:=s5
 cases s5 with|fz r0 s5 =>
 cases s5 with|fz r1 s5 =>
 cases s5 with|fz r2 s5 =>
 cases s5 with|fz r3 s5 =>
 cases s5 with|fz r4 s5 =>
 cases s5 with|fz r5 s5 =>
 cases s5
 rename_i v0 v1 v2 v3 v4 v5
 have r0:v0=.ref p:=r0
 subst r0
 have hF:Same F5 (hid H5 p):=λb o e=>by
  by_cases z:b=p
  ·subst z
   rcases k5.fa b o e with z|z
   ·have z:hid H b b=some o:=z
    rw[Mj] at z
    cases z
   ·have z:H b=none:=z
    rw[hp] at z
    cases z
  ·rw[Jy z];exact k5.fh b o e
 have r1:rp K (hid H5 p) v1 xss:=Rp.mono hF r1
 have r2:rp K (hid H5 p) v2 mo:=Rp.mono hF r2
 have r3:rp K (hid H5 p) v3 fo:=Rp.mono hF r3
 have r4:rp K (hid H5 p) v4 (mo.getD []):=Rp.mono hF r4
 have r5:rp K (hid H5 p) v5 (fo.getD []):=Rp.mono hF r5
 have Yb:Same H H5:=k5.h0
 have hp5:H5 p=some (.ins C dx []):=Yb _ _ hp
 refine⟨_,rfl,(xss,()),a,H5,.refl _,e4,.cons (Rp.mono PN r1) .nil,λy1 H6 s6 t1=>?_⟩
 have t1:rp K (dif H6 H5) y1 a:=t1
 have hp6:=s6 _ _ hp5
 refine⟨_,rfl,p,C,dx,[],rfl,hp6,T.cl,T.nS,(by show 0<1000;decide),?_⟩
 have f1:=Rp.mono (T4 (H:=H) (p:=p) (λb o _ e=>Yb b o e) (by rw[hp5];intro z;cases z)) t1
 have kp6:∀b o,b≠p->H b=some o->(upd H6 p (.ins C dx (aq "steps" y1 []))) b=some o:=λb o n e=>by rw[zR n];exact s6 _ _ (Yb _ _ e)
 have h6:Same (hid H5 p) (hid (upd H6 p (.ins C dx (aq "steps" y1 []))) p):=by rw[Gv];exact Ml s6
 have E2:Ex (K:=K) ⟨hid (upd H6 p (.ins C dx (aq "steps" y1 []))) p,upd H6 p (.ins C dx (aq "steps" y1 []))⟩ [.fz false (dZ.mk ():dZ p),.fz false xss,.fz false mo,.fz false fo,.fz false (mo.getD []),.fz false (fo.getD [])] .nw _ _ :=
  (xJ (n:=false) (gG:=[.un,.un]) (no:=2) (ix:=[]) rfl rfl (yT (yJ 4 rfl)) (uC 0 1 rfl rfl (λ_=>rfl) rfl) (λx=>qd) (λx=>xO (zG 0 rfl) (Jg (zE 1 rfl)).ex) (λx=>pR.un (pR.un pR.nil))).ex
 refine E2 b e5 (hid (upd H6 p (.ins C dx (aq "steps" y1 []))) p) [] _ _ _ (yAe (.fz (show rp K _ _ (dZ.mk ():dZ p) from rfl) (.fz (Rp.mono h6 r1) (.fz (Rp.mono h6 r2) (.fz (Rp.mono h6 r3) (.fz (Rp.mono h6 r4) (.fz (Rp.mono h6 r5) .nil))))))) λy2 F7 H7 g7 t2=>?_
 have s7:=g7.hh
 have t2:rp K (dif H7 (upd H6 p (.ins C dx (aq "steps" y1 [])))) y2 b:=Rp.mono (wG g7.ok.fh) t2
 have hp7:H7 p=some (.ins C dx (aq "steps" y1 [])):=s7 _ _ zO
 refine⟨_,rfl,p,C,dx,_,rfl,hp7,T.cl,T.nM,(by show 1<1000;decide),?_⟩
 have f2:=Rp.mono (T4 (H:=H) (p:=p) kp6 (by rw[zO];intro z;cases z)) t2
 have kp7:∀b o,b≠p->H b=some o->(upd H7 p (.ins C dx (aq "marks" y2 (aq "steps" y1 [])))) b=some o:=λb o n e=>by rw[zR n];exact s7 _ _ (kp6 _ _ n e)
 have h7:Same (hid (upd H6 p (.ins C dx (aq "steps" y1 []))) p) (hid (upd H7 p (.ins C dx (aq "marks" y2 (aq "steps" y1 [])))) p):=by rw[Gv (H:=H7)];exact Ml s7
 refine⟨_,rfl,(fo.getD [],()),c,_,.refl _,e6,.cons (Rp.mono (h6.trans (h7.trans PN)) r5) .nil,λy3 H8 s8 t3=>?_⟩
 have t3:rp K (dif H8 (upd H7 p (.ins C dx (aq "marks" y2 (aq "steps" y1 []))))) y3 c:=t3
 have hp8:H8 p=some (.ins C dx (aq "marks" y2 (aq "steps" y1 []))):=s8 _ _ zO
 have l2:(aq "marks" y2 (aq "steps" y1 [])).length<1000:=by
  have a1:=bK "marks" y2 (aq "steps" y1 [])
  have a2:=bK "steps" y1 []
  have a3:([]:List (Str×V)).length=0:=rfl
  lia
 refine⟨_,rfl,p,C,dx,_,rfl,hp8,T.cl,T.nF,l2,?_⟩
 have f3:=Rp.mono (T4 (H:=H) (p:=p) kp7 (by rw[zO];intro z;cases z)) t3
 have kp8:∀b o,b≠p->H b=some o->(upd H8 p (.ins C dx (aq "fair" y3 (aq "marks" y2 (aq "steps" y1 []))))) b=some o:=λb o n e=>by rw[zR n];exact s8 _ _ (kp7 _ _ n e)
 have h8:Same (hid (upd H7 p (.ins C dx (aq "marks" y2 (aq "steps" y1 [])))) p) (hid (upd H8 p (.ins C dx (aq "fair" y3 (aq "marks" y2 (aq "steps" y1 []))))) p):=by rw[Gv (H:=H8)];exact Ml s8
 have lk:(aq "fair" y3 (aq "marks" y2 (aq "steps" y1 []))).lookup ("steps":Str)=some y1:=by
  rw[zQ,if_neg (by trivial),zQ,if_neg (by trivial),zQ,if_pos rfl]
 have d1:Same (dif (hid H6 p) (hid H p)) (hid (upd H8 p (.ins C dx (aq "fair" y3 (aq "marks" y2 (aq "steps" y1 []))))) p):=aQ.trans ((by rw[Gv];exact .refl _:Same (hid H6 p) (hid (upd H6 p (.ins C dx (aq "steps" y1 []))) p)).trans (h7.trans h8))
 refine⟨_,rfl,p,C,dx,_,_,rfl,zO,T.cl,T.nS,lk,(a,()),d,_,.refl _,e7,.cons (Rp.mono (d1.trans PN) f1) .nil,λy4 H9 s9 t4=>?_⟩
 have t4:rp K (dif H9 (upd H8 p (.ins C dx (aq "fair" y3 (aq "marks" y2 (aq "steps" y1 [])))))) y4 d:=t4
 have hp9:H9 p=some (.ins C dx (aq "fair" y3 (aq "marks" y2 (aq "steps" y1 [])))):=s9 _ _ zO
 have l3:(aq "fair" y3 (aq "marks" y2 (aq "steps" y1 []))).length<1000:=by
  have a0:=bK "fair" y3 (aq "marks" y2 (aq "steps" y1 []))
  have a1:=bK "marks" y2 (aq "steps" y1 [])
  have a2:=bK "steps" y1 []
  have a3:([]:List (Str×V)).length=0:=rfl
  lia
 refine⟨_,rfl,p,C,dx,_,rfl,hp9,T.cl,T.nB,l3,?_⟩
 have f4:=Rp.mono (T4 (H:=H) (p:=p) kp8 (by rw[zO];intro z;cases z)) t4
 have kp9:∀b o,b≠p->H b=some o->(upd H9 p (.ins C dx (aq "sources" y4 (aq "fair" y3 (aq "marks" y2 (aq "steps" y1 [])))))) b=some o:=λb o n e=>by rw[zR n];exact s9 _ _ (kp8 _ _ n e)
 have u9:Same (hid H9 p) (upd H9 p (.ins C dx (aq "sources" y4 (aq "fair" y3 (aq "marks" y2 (aq "steps" y1 [])))))):=(by rw[Gv];exact .refl _:Same (hid H9 p) (hid (upd H9 p (.ins C dx (aq "sources" y4 (aq "fair" y3 (aq "marks" y2 (aq "steps" y1 [])))))) p)).trans PN
 have u8:Same (hid H8 p) (hid H9 p):=(by rw[Gv];exact .refl _:Same (hid H8 p) (hid (upd H8 p (.ins C dx (aq "fair" y3 (aq "marks" y2 (aq "steps" y1 []))))) p)).trans (Ml s9)
 have u7:Same (hid H7 p) (hid H8 p):=(by rw[Gv];exact .refl _:Same (hid H7 p) (hid (upd H7 p (.ins C dx (aq "marks" y2 (aq "steps" y1 [])))) p)).trans (Ml s8)
 have u6:Same (hid H6 p) (hid H7 p):=(by rw[Gv];exact .refl _:Same (hid H6 p) (hid (upd H6 p (.ins C dx (aq "steps" y1 []))) p)).trans (Ml s7)
 refine q _ kp9 ⟨p,dx,aq "sources" y4 (aq "fair" y3 (aq "marks" y2 (aq "steps" y1 []))),y1,y2,y3,y4,rfl,?_,?_,Rp.mono (wG (u6.trans (u7.trans (u8.trans u9)))) f1,?_,Rp.mono (wG (u7.trans (u8.trans u9))) f2,?_,Rp.mono (wG (u8.trans u9)) f3,?_,Rp.mono (wG u9) f4,?_⟩
 ·rw[xK Mj];exact zO
 ·rw[zQ,if_neg (by trivial)];exact lk
 ·rw[zQ,if_neg (by trivial),zQ,if_neg (by trivial),zQ,if_pos rfl]
 ·rw[zQ,if_neg (by trivial),zQ,if_pos rfl]
 ·rw[zQ,if_pos rfl]
 ·intro g hg
  simp only[Xa,mem_cons,List.not_mem_nil,or_false] at hg
  rcases hg with rfl|rfl|rfl|rfl|rfl|rfl<;>(rw[zQ,if_neg (by trivial),zQ,if_neg (by trivial),zQ,if_neg (by trivial),zQ,if_neg (by trivial)];rfl)
end
abbrev gB:=Option (Int×(Str×Key))
structure Df where
 n:Str
 q:Str
 s:Stmt
 p:List Str
section
variable(P:Program)(w:World)(K:Frag)(mg:Str->Option Value)(jq:Heap)(k:Nat)
abbrev Ca(d:Df)(o:Sp):Prop:=jL P w K mg jq k d.n d.p o
abbrev Cm(C:Addr)(d:Df)(o:Sp):Prop:=jT P w K mg jq k C d.n d.p o
abbrev Go(d:Df)(o:Sp):Prop:=∀{f fd},cF K d.n d.q d.s f fd->aH P w K mg jq bN (k+1) f fd d.p o
end
section
variable{P:Program}{w:World}{K:Frag}{mg:Str->Option Value}{jq:Heap}{k:Nat}{d:Df}{al:Bool}{A β:Type}[Rp K β]{as:A->SL K}
theorem zZ{fM:A->Option β}(N:List Str)(hb:∀{f:Addr} {cdv:Value} {A:Around} {outer:List Env} {s:Shared} {H:Hp} {E:XK},N.Nodup->bG k (A.deeper (ab8 d.q (zS d.s) s.heap.objs.size f cdv)) ->
   ∃t,jH (jw bN P w K mg jq N d.q (zS d.s) f cdv A outer s H E).tX (wR d.s) t/\∀Fa a,SB ⟨Fa,H⟩ (as a++replicate (N.length-d.p.length) .un) t al (fM a))(S:aF N d.p (zS d.s):=by exact fsc)(hf:∀a,(as a).all isF=true:=by exactλ_=>rfl)(hl:∀a,(as a).length=d.p.length:=by exactλ_=>rfl):Go P w K mg jq k d (lB K al as fM):=λF=>Tz F S hf hl λ_ _ _ _ _ _ hr=>hb S.nd hr
theorem UG{fM:A->Option Unit}(N:List Str)(hb:∀{f:Addr} {cdv:Value} {A:Around} {outer:List Env} {s:Shared} {H:Hp} {E:XK},N.Nodup->bG k (A.deeper (ab8 d.q (zS d.s) s.heap.objs.size f cdv)) ->
   ∃t,jH (jw bN P w K mg jq N d.q (zS d.s) f cdv A outer s H E).tX (wR d.s) t/\∀Fa a,∃L:Unit->SL K,Sn ⟨Fa,H⟩ (as a++replicate (N.length-d.p.length) .un) t L (fM a))(S:aF N d.p (zS d.s):=by exact fsc)(hf:∀a,(as a).all isF=true:=by exactλ_=>rfl)(hl:∀a,(as a).length=d.p.length:=by exactλ_=>rfl):Go P w K mg jq k d (lB K al as fM):=λF=>Cu F S hf hl λ_ _ _ _ _ _ hr=>hb S.nd hr
end
section
variable(K:Frag){A B C D R:Type}[Rp K A][Rp K B][Rp K C][Rp K D][Rp K R]
abbrev tK(p:A->Option R):Sp:=lB K false (λa:A×Unit=>([.z a.1]:SL K)) (λa=>p a.1)
abbrev gq(p:A->B->Option R):Sp:=lB K false (λa:A×B×Unit=>([.z a.1,.z a.2.1]:SL K)) (λa=>p a.1 a.2.1)
abbrev G3(p:A->B->C->Option R):Sp:=lB K false (λa:A×B×C×Unit=>([.z a.1,.z a.2.1,.z a.2.2.1]:SL K)) (λa=>p a.1 a.2.1 a.2.2.1)
abbrev MF(p:A->B->C->D->Option R):Sp:=lB K false (λa:A×B×C×D×Unit=>([.z a.1,.z a.2.1,.z a.2.2.1,.z a.2.2.2.1]:SL K)) (λa=>p a.1 a.2.1 a.2.2.1 a.2.2.2.1)
end
section
variable{K:Frag}{B:Bs}{sl:SL K}{t:TE}{m:Option Bool}
theorem bw(h:Ex B sl .hp t m):Et B sl (uh t) m:=Bx (md:=.hp) h
theorem bZ(h:Ex B sl .hp t m):Et B sl (tB t) m:=I_ (md:=.hp) h
end
end Ts
set_option maxHeartbeats 40000000
namespace Ts
open PySem L2 Sy
section
variable{P:Program}{w:World}{K:Frag}{mg:Str->Option Value}{jq:Heap}
seal L2.PE L2.PT L2.PW L2.PA L2.PS L2.jH L2.PC L2.PG L2.Av L2.PI L2.mZ L2.PO
def UJ(a:Int)(b:Int):Option Bool:=if true=true then if(!false)=true then if decide (0<=a)=true then some (decide (a<b)) else some false else some false else some false
abbrev zJc:Df:=⟨"is_stand","is_stand",j7,["thing","many"]⟩
abbrev zI6(K:Frag):Sp:=gq K UJ
theorem zNl(B:Bl K mg):Go P w K mg jq k zJc (zI6 K):=by
 refine zZ ["thing","many"] λnd hr=>?_
 refine⟨_,(zC (zT (VN (zP (qb K (WD (n:="int"))) rfl B.oG p8 (zA (pv 0) (zA (VJ (v:=.ty "int") rfl B.int yAc rfl) zF))) (VN (Hz (zP (qb K (WD (n:="bool"))) rfl B.oG p8 (zA (pv 0) (zA (VJ (v:=.ty "bool") rfl B.bool Cd rfl) zF)))) (Zq (ZJ ug Lz zI (pv 0) (pv 1)))))) zH),?_⟩
 rintro Fa ⟨q0,q1,_⟩
 exact SB.of (yB (esc (WR (W_ B.ii rfl (zG 0 rfl)) (WR (Ja (W_ B.ib rfl (zG 0 rfl))) (zPr (f:=(λi j=>decide (i<=j))) (g:=(λi j=>decide (i<j))) (zJ 0) (zG 0 rfl) (zG 1 rfl)))))) rfl
def wW(g:LI)(h:Int)(q2:Str):Option Unit:=(some ()).bind λqt=>((some g).bind λe=>yX (λd c=>(((UJ c h).bind λf=>some (!f)).bind λb=>if b=true then none else some ()).bind λs6=>(if((jC (Dc.mk d).kv c).isSome)=true then none else some ()).bind λs8=>(dput d c true).bind λa=>some a) e (([]:List (Key×Bool)))).bind λs3=>some ()
abbrev UL:Df:=⟨"check_stands","check_stands",eH,["stands","many","where"]⟩
abbrev UW(K:Frag):Sp:=G3 K wW
theorem zG4(B:Bl K mg)(a:Ca P w K mg jq k zJc (zI6 K)):Go P w K mg jq k UL (UW K):=by
 refine UG ["stands","many","where","ahead","stand"] λj h=>?_
 have l:=uz h
 refine⟨_,(zC (yI 3 j Wf) (zC (xB aas rfl (yR K (pv 0)) (aV 4 j) (zC (xE (VL (nZ (zU a h (zA (pv 4) (zA (pv 1) zF))))) Ln zH) (zC (xE (tW (Z8 l (pv 4) (pv 3))) Ln zH) (zC (Wd l (pv 3) (pv 4) Fz rfl) zH)))) zH)),?_⟩
 rintro Fa ⟨e,g,d,_⟩
 exact⟨_,Sn.of (zN (W2 (α:=Bool) 3 rfl rfl) (λqt=>(zN (xT (n:=false) (L:=(λc:List (Key×Bool)=>([.z e,.z g,.z d,.od (c:List (Key×Bool)),.un]:SL K))) (([]:List (Key×Bool))) aK (yT (yJ 0 rfl)) (λc=>(yG 4 rfl rfl)) (λc i=>(zN (jy (WQ (bZ (zK (zD (esc (zG 4 rfl)) (zD (esc (zG 1 rfl)) zL))))) Mh (zW (λs7:Unit=>([.z e,.z g,.z d,.od (c:List (Key×Bool)),.z i]:SL K)) () aK)) (λs6=>(zN (jy (bZ (Jq (zG 4 rfl) (Xl 3 rfl))) Mh (zW (λs9:Unit=>([.z e,.z g,.z d,.od (c:List (Key×Bool)),.z i]:SL K)) () aK)) (λs8=>(zN (zSu 3 rfl rfl (esc (Gf true)) (zG 4 rfl)) (λb=>(zW (λc:List (Key×Bool)=>([.z e,.z g,.z d,.od (c:List (Key×Bool)),.un]:SL K)) b aK))))))))) (λs3=>(zW (λ_:Unit=>([.un,.un,.un,.un,.un]:SL K)) () aK))))) rfl⟩
def U0(f:List LI):Option Unit:=(some (f.length:Int)).bind λa=>((if(decide (a<1))=true then some true else some (decide (60<a))).bind λb=>if b=true then none else some ()).bind λs2=>((some (jA f)).bind λg=>yX (λs4 c=>(((((Jv "steps of stand " c.1).bind λh=>some ((h,()))).bind λi=>some (a,i)).bind λe=>some (c.2,e)).bind λd=>wW d.1 d.2.1 d.2.2.1).bind λu11=>(if(decide ((c.2.length:Int)=0))=true then none else some ()).bind λs12=>some ()) g ()).bind λs5=>some ()
abbrev zKs:Df:=⟨"check_steps","check_steps",fY,["steps"]⟩
abbrev zKq(K:Frag):Sp:=tK K U0
theorem zIj(B:Bl K mg)(b:mg "MOST_STANDS" = some (.int 60 lK))(a:Ca P w K mg jq k UL (UW K)):Go P w K mg jq k zKs (zKq K):=by
 refine UG ["steps","many","stand","targets"] λe i=>?_
 refine⟨_,(zC (yI 1 e (zP (xL K) rfl B.len aay (zA (pv 0) zF))) (zC (xE (PW.pt (pw_or (yH Lz (pv 1) zI (xD _)) (pw_or1 (yH FW (pv 1) (vP (v:=.int 60) rfl b ⟨_,rfl⟩) (xD _))))) Ln zH) (zC (xB aas rfl (Jk K B.enum (zA (pv 0) zF)) (pW rfl (yA (aV 2 e) (yA (aV 3 e) wA))) (zC (yC (zU a i (zA (pv 3) (zA (pv 1) (zA (vf (pv 2) (by decide)) zF))))) (zC (xE (yH (wJ K Int i) (zP (xL K) rfl B.len aay (zA (pv 3) zF)) zI (xD _)) Ln zH) zH))) zH))),?_⟩
 rintro Fa ⟨d,_⟩
 exact⟨_,Sn.of (zN (yF true 1 rfl rfl (esc (xP (zE 0 rfl)))) (λc=>(zN (jy (OJ (bw (Pa (zG 1 rfl) (zJ 1))) (bw (Gi (zG 1 rfl) (zJ 60)))) Mh (zW (λs3:Unit=>([.z d,.y c,.un,.un]:SL K)) () aK)) (λs2=>(zN (xT (n:=false) (L:=(λg:Unit=>([.z d,.y c,.un,.un]:SL K))) () aK (Jb (yJ 0 rfl)) (λg=>(uC 2 3 rfl rfl (λ_=>rfl) rfl)) (λg h=>(zN (LQ (md:=.hp) (zK (zD (zE 3 rfl) (zD (esc (zG 1 rfl)) (zD (esc (zZ3 "steps of stand " (zG 2 rfl))) zL))))) (λu11=>(zN (jy (bw (wK (xP (zE 3 rfl)) (zJ 0))) Mh (zW (λs13:Unit=>([.z d,.y c,.z h.1,.z h.2]:SL K)) () aK)) (λs12=>(zW (λg:Unit=>([.z d,.y c,.un,.un]:SL K)) () aK))))))) (λs5=>(zW (λ_:Unit=>([.un,.un,.un,.un]:SL K)) () aK))))))) rfl⟩
def MJ(a:Str):Option Bool:=(if(!true)=true then some true else some (decide (a∈(["all","not","both","either","somenext","eachnext","sometill","eachtill","someever","eachever"]:List Str)))).bind λb=>if b=true then some false else((wg a).bind λc=>if decide (1<=c)=true then some (decide (c<=8)) else some false).bind λe=>if e=true then((some (Gq a)).bind λg=>xG (λd=>some true) (λd=>some (TX d ("abcdefghijklmnopqrstuvwxyz":Str))) g).bind λf=>some (f.all id) else some false
abbrev zMx:Df:=⟨"is_name","is_name",mz,["name"]⟩
abbrev zMt(K:Frag):Sp:=tK K MJ
theorem zQ6(B:Bl K mg)(e:mg "LETTERS" = some (.str "abcdefghijklmnopqrstuvwxyz" rT))(c:mg "LONGEST_NAME" = some (.int 8 kE))(b:mg "SAYING_WORDS" = some (.ref a))(d:∀H,gF K H a ((["all","not","both","either","somenext","eachnext","sometill","eachtill","someever","eachever"]:List Str).map V.str))(h:mg "all" = none)(l:mg "str" = none):Go P w K mg jq k zMx (zMt K):=by
 refine zZ ["name"] λnd hr=>?_
 refine⟨_,(zC (xE (PW.pt (pw_or (VL (nZ (zP (qb K (WD (n:="str"))) rfl B.oG p8 (zA (pv 0) (zA (VJ (v:=.ty "str") rfl l Jx rfl) zF))))) (pw_or1 (yH (Pr K) (pv 0) (vP (v:=.ref a) rfl b rfl) (by with_unfolding_all rfl))))) (zC (zT Fz) zH) zH) (zC (zT (VN (ZJ ug ug zI (zP zVp rfl B.len aay (zA (pv 0) zF)) (vP (v:=.int 8) rfl c ⟨_,rfl⟩)) (Zq (zP (zVs K rfl) rfl h Jo (zA (wX (own:=["sign"]) (ix:=[]) rfl rfl rfl (Jr (pv 0)) (λC s H m=>yM (i:=0) (show(["sign"]:List Str).Nodup from by trivial) rfl (Or.inl rfl)) (λC s H m=>vE) (λC s H m=>(ZF zTy (pv 0) (vP (v:=.str "abcdefghijklmnopqrstuvwxyz") rfl e ⟨_,rfl⟩) (by with_unfolding_all rfl)))) zF))))) zH)),?_⟩
 rintro Fa ⟨q0,_⟩
 exact SB.of (vD (OJ (WQ (bZ (W_ PK rfl (zG 0 rfl)))) (bw (Ju d (zG 0 rfl)))) (yB (esc (Gf false))) (yB (esc (WR (zPr (f:=(λi j=>decide (i<=j))) (g:=(λi j=>decide (i<=j))) (zJ 1) (Cr (zG 0 rfl)) (zJ 8)) (zPs (xJ (n:=true) (gG:=[.un]) (no:=1) (ix:=[]) rfl rfl (Js (zG 0 rfl)) (yG 0 rfl rfl) (λo=>qd) (λo=>(esc (Jt (zG 0 rfl) (p7 "abcdefghijklmnopqrstuvwxyz")))) (λo=>cI)).ex))))) rfl
def U3(i:List (Str×LI))(j:Int):Option Unit:=(some ()).bind λqt=>((some i).bind λk=>yX (λh d=>(((MJ d.1).bind λl=>some (!l)).bind λb=>if b=true then none else some ()).bind λs6=>(if((Gu (Dc.mk h).kv d.1).isSome)=true then none else some ()).bind λs8=>(PL h d.1 true).bind λa=>(((((Mi "mark " d.1).bind λf=>some ((f,()))).bind λe=>some (j,e)).bind λg=>some (d.2,g)).bind λc=>wW c.1 c.2.1 c.2.2.1).bind λu15=>some a) k (([]:List (Key×Bool)))).bind λs3=>some ()
abbrev zKt:Df:=⟨"check_marks","check_marks",fZ,["marks","many"]⟩
abbrev zKr(K:Frag):Sp:=gq K U3
theorem zIk(B:Bl K mg)(a:Ca P w K mg jq k UL (UW K))(b:Ca P w K mg jq k zMx (zMt K)):Go P w K mg jq k zKt (zKr K):=by
 refine UG ["marks","many","ahead","name","stands"] λj i=>?_
 have l:=uz i
 refine⟨_,(zC (yI 2 j Wf) (zC (xB aas rfl (yR K (pv 0)) (pW rfl (yA (aV 3 j) (yA (aV 4 j) wA))) (zC (xE (VL (nZ (zU b i (zA (pv 3) zF)))) Ln zH) (zC (xE (tW (Z8 l (pv 3) (pv 2))) Ln zH) (zC (Wd l (pv 2) (pv 3) Fz rfl) (zC (yC (zU a i (zA (pv 4) (zA (pv 1) (zA (vf (pv 3) (by decide)) zF))))) zH))))) zH)),?_⟩
 rintro Fa ⟨e,g,_⟩
 exact⟨_,Sn.of (zN (W2 (α:=Bool) 2 rfl rfl) (λqt=>(zN (xT (n:=false) (L:=(λd:List (Key×Bool)=>([.z e,.z g,.od (d:List (Key×Bool)),.un,.un]:SL K))) (([]:List (Key×Bool))) aK (yT (yJ 0 rfl)) (λd=>(uC 3 4 rfl rfl (λ_=>rfl) rfl)) (λd h=>(zN (jy (WQ (bZ (zK (zD (esc (zG 3 rfl)) zL)))) Mh (zW (λs7:Unit=>([.z e,.z g,.od (d:List (Key×Bool)),.z h.1,.z h.2]:SL K)) () aK)) (λs6=>(zN (jy (bZ (Cv (zG 3 rfl) (Xl 2 rfl))) Mh (zW (λs9:Unit=>([.z e,.z g,.od (d:List (Key×Bool)),.z h.1,.z h.2]:SL K)) () aK)) (λs8=>(zN (zWv 2 rfl rfl (esc (Gf true)) (zG 3 rfl)) (λc=>(zN (LQ (md:=.hp) (zK (zD (zE 4 rfl) (zD (esc (zG 1 rfl)) (zD (esc (Jw "mark " (zG 3 rfl))) zL))))) (λu15=>(zW (λd:List (Key×Bool)=>([.z e,.z g,.od (d:List (Key×Bool)),.un,.un]:SL K)) c aK))))))))))) (λs3=>(zW (λ_:Unit=>([.un,.un,.un,.un,.un]:SL K)) () aK))))) rfl⟩
def U4(e:List LI)(d:Int):Option Unit:=((some (jA e)).bind λh=>yX (λs1 b=>(((((Jv "fair set " b.1).bind λg=>some ((g,()))).bind λc=>some (d,c)).bind λf=>some (b.2,f)).bind λa=>wW a.1 a.2.1 a.2.2.1).bind λu8=>some ()) h ()).bind λs2=>some ()
abbrev zMy:Df:=⟨"check_fair","check_fair",gY,["fair","many"]⟩
abbrev zMu(K:Frag):Sp:=gq K U4
theorem zJ7(B:Bl K mg)(a:Ca P w K mg jq k UL (UW K)):Go P w K mg jq k zMy (zMu K):=by
 refine UG ["fair","many","number","stands"] λd g=>?_
 refine⟨_,(zC (xB aas rfl (Jk K B.enum (zA (pv 0) zF)) (pW rfl (yA (aV 2 d) (yA (aV 3 d) wA))) (zC (yC (zU a g (zA (pv 3) (zA (pv 1) (zA (vf (pv 2) (by decide)) zF))))) zH)) zH),?_⟩
 rintro Fa ⟨e,c,_⟩
 exact⟨_,Sn.of (zN (xT (n:=false) (L:=(λb:Unit=>([.z e,.z c,.un,.un]:SL K))) () aK (Jb (yJ 0 rfl)) (λb=>(uC 2 3 rfl rfl (λ_=>rfl) rfl)) (λb x3=>(zN (LQ (md:=.hp) (zK (zD (zE 3 rfl) (zD (esc (zG 1 rfl)) (zD (esc (zZ3 "fair set " (zG 2 rfl))) zL))))) (λu8=>(zW (λb:Unit=>([.z e,.z c,.un,.un]:SL K)) () aK))))) (λs2=>(zW (λ_:Unit=>([.un,.un,.un,.un]:SL K)) () aK))) rfl⟩
def QB(b:List LI):Option (List LI):=(some b).bind λc=>xG (λa=>some true) (λa=>some a) c
abbrev zYs:Df:=⟨"copied","copied",oY,["lists"]⟩
abbrev zYr(K:Frag):Sp:=tK K QB
theorem zT3(B:Bl K mg):Go P w K mg jq k zYs (zYr K):=by
 refine zZ ["lists"] λnd hr=>?_
 refine⟨_,(zC (zT (wX (own:=["things"]) (ix:=[]) rfl rfl rfl (yR K (pv 0)) (λC s H b=>yM (i:=0) (show(["things"]:List Str).Nodup from by trivial) rfl (Or.inl rfl)) (λC s H b=>vE) (λC s H b=>(uL (Gk K) rfl B.list Gj (zA (pv 0) zF))))) zH),?_⟩
 rintro Fa ⟨q0,_⟩
 exact SB.of (yB (xJ (n:=false) (gG:=[.un]) (no:=1) (ix:=[]) rfl rfl (yT (yJ 0 rfl)) (yG 0 rfl rfl) (λa=>qd) (λa=>(Jg (zE 0 rfl)).ex) (λa=>cI)).ex) rfl
end
abbrev QC(C:Addr):=TY C U0 U3 U4 QB Mz
section
variable{P:Program}{w:World}{K:Frag}{mg:Str->Option Value}{jq:Heap}
seal L2.PE L2.PT L2.PW L2.PA L2.PS L2.jH L2.PC L2.PG L2.Av L2.PI L2.mZ L2.PO
def wD(a:ao C):Option Int:=some (a.steps.length:Int)
abbrev vT:Df:=⟨"many","Machine.many",eN,["self"]⟩
abbrev vR(K:Frag)(C:Addr):Sp:=tK K (@wD C)
theorem zG5(B:Bl K mg)(T:Cl K mg C):Go P w K mg jq k vT (vR K C):=by
 refine zZ ["self"] λnd hr=>?_
 refine⟨_,(zC (zT (zP (xL K) rfl B.len aay (zA (Cg K (pv 0)) zF))) zH),?_⟩
 rintro Fa ⟨q0,_⟩
 exact SB.of (yB (esc (xP (zL9 T.cl T.nS (zE 0 rfl))))) rfl
def yQ(b:ao C)(c:Int):Option LI:=(aJ b.steps c).bind λa=>dY a
abbrev vO:Df:=⟨"next_of","Machine.next_of",cR,["self","stand"]⟩
abbrev vN(K:Frag)(C:Addr):Sp:=gq K (@yQ C)
theorem zEi(B:Bl K mg)(T:Cl K mg C)(a:mg "sorted" = none):Go P w K mg jq k vO (vN K C):=by
 refine zZ ["self","stand"] λnd hr=>?_
 refine⟨_,(zC (zT (zP (Xh K) rfl a Tt (zA (yV (aM K) (Cg K (pv 0)) (pv 1) (λ_ _=>rfl)) zF))) zH),?_⟩
 rintro Fa ⟨q0,q1,_⟩
 exact SB.of (yB (Xj (xF (zL9 T.cl T.nS (zE 0 rfl)) (zG 1 rfl))).ex) rfl
def yL(b:ao C)(a:Int):Option LI:=aJ b.sources a
abbrev vX:Df:=⟨"before","Machine.before",c7,["self","stand"]⟩
abbrev vW(K:Frag)(C:Addr):Sp:=gq K (@yL C)
theorem zFn(B:Bl K mg)(T:Cl K mg C):Go P w K mg jq k vX (vW K C):=by
 refine zZ ["self","stand"] λnd hr=>?_
 refine⟨_,(zC (zT (uL (Gk K) rfl B.list Gj (zA (yV (aM K) (Cg K (pv 0)) (pv 1) (λ_ _=>rfl)) zF))) zH),?_⟩
 rintro Fa ⟨q0,q1,_⟩
 exact SB.of (yB (Jg (xF (zN7 T.cl T.nB (zE 0 rfl)) (zG 1 rfl))).ex) rfl
def xC(b:ao C)(c:Int):Option (List Str):=((some b.marks).bind λe=>xG (λa=>some (decide (c∈a.2))) (λa=>some a.1) e).bind λd=>jX d
abbrev zBu:Df:=⟨"names_at","Machine.names_at",cL,["self","stand"]⟩
abbrev zBt(K:Frag)(C:Addr):Sp:=gq K (@xC C)
theorem zD6(B:Bl K mg)(T:Cl K mg C)(a:mg "sorted" = none):Go P w K mg jq k zBu (zBt K C):=by
 refine zZ ["self","stand"] λnd hr=>?_
 refine⟨_,(zC (zT (zP (zRv K) rfl a Tt (zA (wX (own:=["name","stands"]) (ix:=[1]) rfl rfl rfl (yR K (Cg K (pv 0))) (λC s H c=>IW (K:=K) (n:=2) rfl rfl (yA (yM (i:=0) (show(["name","stands","stand"]:List Str).Nodup from by trivial) rfl (Or.inl rfl)) (yA (yM (i:=1) (show(["name","stands","stand"]:List Str).Nodup from by trivial) rfl (Or.inl rfl)) wA))) (λC s H c=>Bv (yH (Pr K) (pv 2) (pv 1) (by with_unfolding_all rfl))) (λC s H c=>(pv 0))) zF))) zH),?_⟩
 rintro Fa ⟨q0,d,_⟩
 exact SB.of (yB (zYa (xJ (n:=false) (gG:=[.un,.un,.z d]) (no:=2) (ix:=[1]) rfl rfl (yT (zMa T.cl T.nM (yJ 0 rfl))) (uC 0 1 rfl rfl (λ_=>rfl) rfl) (λb=>(bw (Tf (zG 2 rfl) (zE 1 rfl)))) (λb=>(esc (zG 0 rfl))) (λb=>cI)).ex).ex) rfl
def yO(b:ao C):Option LI:=(wD b).bind λa=>Ac a
abbrev wM:Df:=⟨"everywhere","everywhere",gW,["machine"]⟩
abbrev wL(K:Frag)(C:Addr):Sp:=tK K (@yO C)
theorem zJ6(B:Bl K mg)(a:Cm P w K mg jq k C vT (vR K C)):Go P w K mg jq k wM (wL K C):=by
 refine zZ ["machine"] λnd c=>?_
 refine⟨_,(zC (zT (zO5 rfl rfl B.list rfl B.range (zA (Tw a c (pv 0)) zF))) zH),?_⟩
 rintro Fa ⟨q0,_⟩
 exact SB.of (yB (zPu (uQ (by trivial) (zE 0 rfl) zL)).ex) rfl
def Yc(b:List Str)(a:List Str):Option (List Str):=oV b a
abbrev zI9:Df:=⟨"unshared","unshared",j4,["one","other"]⟩
abbrev zI3(K:Frag):Sp:=gq K Yc
theorem zNh(B:Bl K mg)(a:mg "sorted" = none)(b:mg "set" = none):Go P w K mg jq k zI9 (zI3 K):=by
 refine zZ ["one","other"] λnd hr=>?_
 refine⟨_,(zC (zT (zTp rfl a (Dr (zTi K rfl b (pv 0)) (zTi K rfl b (pv 1))))) zH),?_⟩
 rintro Fa ⟨q0,q1,_⟩
 exact SB.of (yB (zN9 (zE 0 rfl) (zE 1 rfl)).ex) rfl
def xM(g:List Str)(d:List Str):Option gB:=(Yc g d).bind λa=>if(decide ((a.length:Int)=0))=true then some ((none:gB)) else((((aJ a 0).bind λf=>some (abz f:Key)).bind λe=>some ((("mark":Str),e))).bind λc=>some ((0,c))).bind λb=>some (some b)
abbrev zDa:Df:=⟨"sight_failing","sight_failing",dI,["names","known"]⟩
abbrev zC8(K:Frag):Sp:=gq K xM
theorem zF8(B:Bl K mg)(a:Ca P w K mg jq k zI9 (zI3 K)):Go P w K mg jq k zDa (zC8 K):=by
 refine zZ ["names","known","apart"] λd b=>?_
 refine⟨_,(zC (yI 2 d (zU a b (zA (pv 0) (zA (pv 1) zF)))) (zC (xE (yH (wJ K Int b) (zP (xL K) rfl B.len aay (zA (pv 2) zF)) zI (xD _)) (zC (zT VH) zH) zH) (zC (zT (xX (zA zI (zA (xX (zA wT (zA (yV (aM K) (pv 2) zI (λ_ _=>rfl)) zF))) zF)))) zH))),?_⟩
 rintro Fa ⟨q0,q1,_⟩
 exact SB.of (zM (yF true 2 rfl rfl (zK (zD (zE 0 rfl) (zD (zE 1 rfl) zL)))) (λapart1=>(vD (bw (wK (xP (zE 2 rfl)) (zJ 0))) (yB (WM (α:=Int×(Str×Key)))) (yB (Oz (xO (zJ 0) (xO (p7 "mark") (Qt (esc (xF (zE 2 rfl) (zJ 0))))))))))) rfl
def wV(i:ao C)(j:ao C):Option (aN gB):=((yO j).bind λe=>xG (λh=>some true) (λh=>xC j h) e).bind λa=>(some ((aN.mk []:aN gB))).bind λd=>((yO i).bind λe=>yX (λm l=>(xC i l).bind λb=>(((some a).bind λe=>xG (λg=>some true) (λg=>xM b g) e).bind λf=>Qu m f).bind λc=>some c) e d).bind λk=>some k
abbrev zCp:Df:=⟨"sight_failings","sight_failings",cZ,["machine","other"]⟩
abbrev zCn(K:Frag)(C:Addr):Sp:=gq K (@wV C)
theorem zFl(B:Bl K mg)(a:Cm P w K mg jq k C zBu (zBt K C))(b:Ca P w K mg jq k wM (wL K C))(c:Ca P w K mg jq k zDa (zC8 K)):Go P w K mg jq k zCp (zCn K C):=by
 refine zZ ["machine","other","known","told","stand","names"] λo j=>?_
 refine⟨_,(zC (Gd (i:=2) (own:=["follower"]) (ix:=[1]) o rfl rfl rfl rfl rfl (yR K (zU b j (zA (pv 1) zF))) (λC s H m=>yM (i:=0) (show(["follower","other"]:List Str).Nodup from by trivial) rfl (Or.inl rfl)) (λC s H m=>vE) (λC s H m=>(z9 a j (pv 1) (zA (pv 0) zF)))) (zC (yI 3 o (wU zF)) (zC (xB aas rfl (yR K (zU b j (zA (pv 0) zF))) (aV 4 o) (zC (yI 5 o (z9 a j (pv 0) (zA (pv 4) zF))) (zC (yC (jB K aap aaq aar yS (pv 3) (zA (wX (own:=["each"]) (ix:=[5]) rfl rfl rfl (yR K (pv 2)) (λC s H m=>yM (i:=0) (show(["each","names"]:List Str).Nodup from by trivial) rfl (Or.inl rfl)) (λC s H m=>vE) (λC s H m=>(zU c j (zA (pv 1) (zA (pv 0) zF))))) zF))) zH))) (zC (zT (pv 3)) zH)))),?_⟩
 rintro Fa ⟨t,p,_⟩
 exact SB.of (zM (yF true 2 rfl rfl (xJ (n:=true) (gG:=[.un,.z p]) (no:=1) (ix:=[1]) rfl rfl (yT (zK (zD (zE 1 rfl) zL))) (yG 0 rfl rfl) (λq=>qd) (λq=>(uQ (by trivial) (zE 1 rfl) (zD (esc (zG 0 rfl)) zL))) (λq=>cI)).ex) (λd=>(zM (zWt 3 rfl rfl) (λg=>(zM (xT (n:=true) (L:=(λl:aN gB=>([.z t,.z p,.y d,.ob true (l:aN gB),.un,.un]:SL K))) g aK (yT (zK (zD (zE 0 rfl) zL))) (λl=>(yG 4 rfl rfl)) (λl x6=>(zN (yF true 5 rfl rfl (uQ (by trivial) (zE 0 rfl) (zD (esc (zG 4 rfl)) zL))) (λe=>(zN (zWu 3 rfl rfl (xJ (n:=true) (gG:=[.un,.y e]) (no:=1) (ix:=[5]) rfl rfl (yT (yJ 2 rfl)) (yG 0 rfl rfl) (λr=>qd) (λr=>(zK (zD (zE 1 rfl) (zD (zE 0 rfl) zL)))) (λr=>cI))) (λh=>(zW (λl:aN gB=>([.z t,.z p,.y d,.ob true (l:aN gB),.un,.un]:SL K)) h aK))))))) (λs5=>(Dt 3 rfl))))))) (by simp only[wV,bnd])
def U5(f:List (List gB)):Option (List (Int×Int)):=(some (([]:List (Int×Int)))).bind λb=>((some (jA f)).bind λd=>yX (λi e=>(((some (jA e.2)).bind λd=>xG (λc=>some c.2.isSome) (λc=>some (e.1,c.1)) d).bind λg=>lG i g).bind λa=>some a) d b).bind λh=>some h
abbrev zDy:Df:=⟨"failed_pairs","failed_pairs",eG,["told"]⟩
abbrev zDx(K:Frag):Sp:=tK K U5
theorem zG3(B:Bl K mg):Go P w K mg jq k zDy (zDx K):=by
 refine zZ ["told","pairs","stand","row"] λd hr=>?_
 refine⟨_,(zC (yI 1 d (wU zF)) (zC (xB aas rfl (Jk K B.enum (zA (pv 0) zF)) (pW rfl (yA (aV 2 d) (yA (aV 3 d) wA))) (zC (yC (jB K aap acp acq Sw (pv 1) (zA (wX (own:=["follower","failing"]) (ix:=[2]) rfl rfl rfl (Jk K B.enum (zA (pv 3) zF)) (λC s H g=>IW (K:=K) (n:=2) rfl rfl (yA (yM (i:=0) (show(["follower","failing","stand"]:List Str).Nodup from by trivial) rfl (Or.inl rfl)) (yA (yM (i:=1) (show(["follower","failing","stand"]:List Str).Nodup from by trivial) rfl (Or.inl rfl)) wA))) (λC s H g=>Bv (tW (Zn (pv 1)))) (λC s H g=>(xX (zA (pv 2) (zA (pv 0) zF))))) zF))) zH)) (zC (zT (pv 1)) zH))),?_⟩
 rintro Fa ⟨h,_⟩
 exact SB.of (zM (uX true 1 rfl rfl (nO (α:=Int×Int))) (λa=>(zM (xT (n:=false) (L:=(λc:List (Int×Int)=>([.z h,.ow true c,.un,.un]:SL K))) a aK (Jb (yJ 0 rfl)) (λc=>(uC 2 3 rfl rfl (λ_=>rfl) rfl)) (λc l=>(zN (XH 1 rfl rfl (xJ (n:=false) (gG:=[.un,.un,.z l.1]) (no:=2) (ix:=[2]) rfl rfl (Jb (yJ 3 rfl)) (uC 0 1 rfl rfl (λ_=>rfl) rfl) (λe=>(bZ (zU0 (zE 1 rfl)))) (λe=>(xO (zG 2 rfl) (zG 0 rfl))) (λe=>cI)).ex) (λb=>(zW (λc:List (Int×Int)=>([.z h,.ow true c,.un,.un]:SL K)) b aK))))) (λs3=>(vh 1 rfl rfl))))) rfl
def vH(g:ao C)(b:ao C):Option (aN Int):=((yO b).bind λf=>xG (λc=>some true) (λc=>(yQ b c).bind λd=>some (d.length:Int)) f).bind λa=>(yO g).bind λe=>xq e.length a
abbrev zDb:Df:=⟨"answer_counts","answer_counts",dJ,["machine","other"]⟩
abbrev zC9(K:Frag)(C:Addr):Sp:=gq K (@vH C)
theorem zF9(B:Bl K mg)(b:Cm P w K mg jq k C vO (vN K C))(a:Ca P w K mg jq k wM (wL K C)):Go P w K mg jq k zDb (zC9 K C):=by
 refine zZ ["machine","other","counts"] λj d=>?_
 refine⟨_,(zC (yI 2 j (wX (own:=["follower"]) (ix:=[1]) rfl rfl rfl (yR K (zU a d (zA (pv 1) zF))) (λC s H c=>yM (i:=0) (show(["follower","other"]:List Str).Nodup from by trivial) rfl (Or.inl rfl)) (λC s H c=>vE) (λC s H c=>(zP (xL K) rfl B.len aay (zA (z9 b d (pv 1) (zA (pv 0) zF)) zF))))) (zC (zT (wX (own:=["stand"]) (ix:=[2]) rfl rfl rfl (yR K (zU a d (zA (pv 0) zF))) (λC s H c=>yM (i:=0) (show(["stand","counts"]:List Str).Nodup from by trivial) rfl (Or.inl rfl)) (λC s H c=>vE) (λC s H c=>(uL (Gk K) rfl B.list Gj (zA (pv 1) zF))))) zH)),?_⟩
 rintro Fa ⟨q0,h,_⟩
 exact SB.of (zM (yF true 2 rfl rfl (xJ (n:=true) (gG:=[.un,.z h]) (no:=1) (ix:=[1]) rfl rfl (yT (zK (zD (zE 1 rfl) zL))) (yG 0 rfl rfl) (λe=>qd) (λe=>(esc (xP (uQ (by trivial) (zE 1 rfl) (zD (esc (zG 0 rfl)) zL))))) (λe=>cI)).ex) (λU6=>(yB (En.ex (J6 2 rfl (zK (zD (zE 0 rfl) zL))))))) (by simp only[vH,bnd])
def yW(m:LI)(k:ao C)(o:Int):Option (LI×LI):=(some ([]:LI)).bind λc=>((yL k o).bind λh=>yX (λe f=>(lD (λi j=>i-j) e.1 f 1).bind λa=>(((aJ a f).bind λl=>some (decide (l=0))).bind λb=>if b=true then(push e.2 f).bind λd=>some d else some e.2).bind λn=>some (a,n)) h (m,c)).bind λg=>some (g.2,g.1)
theorem bR:aF ["other","counts","answer","told","follower"] ["other","counts","answer"] (zS bH):=fsc
abbrev zAm(K:Frag)(C:Addr):Sp:=Qw K (λa:(ao C)×Int×Unit=>([.z a.1,.z a.2.1]:SL K)) (λb a=>yW b a.1 a.2.1)
theorem zCr(F:cF K "left_without_answer" "left_without_answer" bH f r)(B:Bl K mg)(a:Cm P w K mg jq k C vX (vW K C)):aH P w K mg jq bN (k+1) f r ["other","counts","answer"] (zAm K C):=by
 refine Dw F bR (λ_=>rfl) (λ_=>rfl) (λ_=>rfl) λcdv A outer s H E o=>?_
 have q:=bR.nd
 refine⟨_,(zC (yI 3 q (wU zF)) (zC (xB aas rfl (yR K (z9 a o (pv 0) (zA (pv 2) zF))) (aV 4 q) (zC (Zv (pv 1) (pv 4) (zL3 K) zI HN Io) (zC (xE (yH (wJ K Int o) (yV (aM K) (pv 1) (pv 4) (λ_ _=>rfl)) zI (xD _)) (zC (yC (jB K aap aaq aar yS (pv 3) (zA (pv 4) zF))) zH) zH) zH))) (zC (zT (pv 3)) zH))),?_⟩
 rintro Fa p l ⟨g,h,⟨⟩⟩
 exact tH.of (zOv (uX true 3 rfl rfl (nO (α:=Int))) (λc=>(zY8 [.z g,.nu (RL.mk (p:=p) l),.z h,.ow true c,.un] (zOv (xT (n:=true) (L:=(λd:LI×LI=>([.z g,.nu (RL.mk (p:=p) d.1),.z h,.ow true d.2,.un]:SL K))) (l,c) aK (yT (uQ (by trivial) (zE 0 rfl) (zD (esc (zG 2 rfl)) zL))) (λd=>(yG 4 rfl rfl)) (λd m=>(zN (Du 1 rfl rfl (zG 4 rfl) (zJ 1)) (λb=>(zN (jy (bw (wK (esc (xF (Dm 1 rfl) (zG 4 rfl))) (zJ 0))) (zN (xH 3 rfl rfl (esc (zG 4 rfl))) (λe=>(zW (λj:LI=>([.z g,.nu (RL.mk (p:=p) b),.z h,.ow true j,.y m]:SL K)) e aK))) (zW (λj:LI=>([.z g,.nu (RL.mk (p:=p) b),.z h,.ow true j,.y m]:SL K)) d.2 aK)) (λt=>(zW (λd:LI×LI=>([.z g,.nu (RL.mk (p:=p) d.1),.z h,.ow true d.2,.un]:SL K)) (b,t) aK))))))) (λi=>(zY8 [.z g,.nu (RL.mk (p:=p) i.1),.z h,.ow true i.2,.un] (Dl (sl2:=[.z g,.nu (RL.mk (p:=p) i.1),.z h,.y i.2,.un]) aK (Dk 1 rfl rfl (yJ (n:=true) 3 rfl))))))))) rfl
def MK(z:ao C)(D:ao C):Option (List (List gB)):=(wV z D).bind λe=>(vH z D).bind λg=>(U5 e.xss).bind λt=>(some 0).bind λj=>(BJ (λd:(aN gB)×(List (Int×Int))×(aN Int)×Int=>some (decide (d.2.2.2<(d.2.1.length:Int)))) (λd:(aN gB)×(List (Int×Int))×(aN Int)×Int=>((aJ d.2.1 d.2.2.2).bind λI=>some I.1).bind λa=>((aJ d.2.1 d.2.2.2).bind λA=>some A.2).bind λc=>(((((aJ d.1.xss a).bind λx=>aJ x c).bind λu=>u).bind λF=>some F.1).bind λv=>some (v+1)).bind λf=>((eF d.2.2.1 a λB=>yW B D c).bind λr=>yX (λn o=>((yL z a).bind λG=>yX (λh p=>((((aJ h.1.xss p).bind λE=>aJ E o).bind λy=>some y.isNone).bind λb=>if b=true then(Ae h.1 p o (some ((f,(("step":Str),(abn a:Key)))))).bind λk=>(push h.2 (p,o)).bind λl=>some (k,l) else some (h.1,h.2)).bind λq=>some (q.1,q.2)) G (n.1,n.2.1)).bind λs=>some (s.1,s.2,n.2.2)) r.1 ((d.1,d.2.1,(J3 d.2.2.1 a r.2)))).bind λm=>(some (d.2.2.2+1)).bind λi=>some (m.1,m.2.1,m.2.2,i)) fuel (e,t,g,j)).bind λH=>some H.1.xss
abbrev zJe:Df:=⟨"failings","failings",j5,["machine","other"]⟩
abbrev zI8(K:Frag)(C:Addr):Sp:=gq K (@MK C)
theorem zNn(B:Bl K mg)(j:Cm P w K mg jq k C vX (vW K C))(l:Ca P w K mg jq k zDb (zC9 K C))(m:Ca P w K mg jq k zDy (zDx K))(e:jL P w K mg jq k "left_without_answer" ["other","counts","answer"] (zAm K C))(h:Ca P w K mg jq k zCp (zCn K C)):Go P w K mg jq k zJe (zI8 K C):=by
 refine zZ ["machine","other","told","counts","row","place","stand","answer","later","follower","source"] λD R=>?_
 refine⟨_,(zC (yI 2 D (zU h R (zA (pv 0) (zA (pv 1) zF)))) (zC (yI 3 D (zU l R (zA (pv 0) (zA (pv 1) zF)))) (zC (yI 4 D (zU m R (zA (pv 2) zF))) (zC (yI 5 D zI) (zC (Zy aas (yH Lz (pv 5) (zP (xL K) rfl B.len aay (zA (pv 4) zF)) (xD _)) (zC (yI 6 D (yV (rH K) (yV (aM K) (pv 4) (pv 5) (λ_ _=>rfl)) zI (λ_ _=>rfl))) (zC (yI 7 D (yV (rH K) (yV (aM K) (pv 4) (pv 5) (λ_ _=>rfl)) zI (λ_ _=>rfl))) (zC (yI 8 D (zY uY (yV (rH K) (yV (aM K) (yV (aM K) (pv 2) (pv 6) (λ_ _=>rfl)) (pv 7) (λ_ _=>rfl)) zI (λ_ _=>rfl)) zI)) (zC (xB aas rfl (yR K (zU e R (zA (pv 1) (zA (yV (aM K) (pv 3) (pv 6) (λ_ _=>rfl)) (zA (pv 7) zF))))) (aV 9 D) (zC (xB aas rfl (yR K (z9 j R (pv 0) (zA (pv 6) zF))) (aV 10 D) (zC (xE (tW (Lk (yV (aM K) (yV (aM K) (pv 2) (pv 10) (λ_ _=>rfl)) (pv 9) (λ_ _=>rfl)))) (zC (t_ (xX (zA (pv 8) (zA (xX (zA wT (zA (pv 6) zF))) zF))) (NZ (yV (aM K) (pv 2) (pv 10) (λ_ _=>rfl)) (pv 9) Io)) (zC (yC (jB K aap aaq aar yS (pv 4) (zA (xX (zA (pv 10) (zA (pv 9) zF))) zF))) zH)) zH) zH)) zH)) (zC (V0 (i:=5) D rfl (by first|exact .inl rfl|exact .inr rfl) zI Zw) zH)))))) (zC (zT (pv 2)) zH)))))),?_⟩
 rintro Fa ⟨v,r,_⟩
 exact SB.of (zM (X7 2 rfl rfl rfl (Ma (zD (zE 0 rfl) (zD (zE 1 rfl) zL)))) (λN=>(zM (X7 3 rfl rfl rfl (Ma (zD (zE 0 rfl) (zD (zE 1 rfl) zL)))) (λq=>(zM (Dz 4 rfl rfl rfl (Ma (zD (Uw 2 rfl) zL))) (λX=>(zM (yF true 5 rfl rfl (esc (zJ 0))) (λG=>(zM (zOr (L:=(λo:(aN gB)×(List (Int×Int))×(aN Int)×Int=>([.z v,.z r,.ob true (o.1:aN gB),.ob true (o.2.2.1:aN Int),.ow true o.2.1,.y o.2.2.2,.un,.un,.un,.un,.un]:SL K))) fuel (N,X,q,G) aK (λo=>(bw (Pa (zG 5 rfl) (xP (xN 4 rfl))))) (λo=>(zN (yF true 6 rfl rfl (esc (esc (W8 (xF (xN 4 rfl) (zG 5 rfl)) (zJ 0))))) (λc=>(zN (yF true 7 rfl rfl (esc (esc (zZ0 (xF (xN 4 rfl) (zG 5 rfl)) (zJ 1))))) (λb=>(zN (yF true 8 rfl rfl (esc (uZ (esc (W8 (Ti (xF (xF (Uw 2 rfl) (zG 6 rfl)) (zG 7 rfl))) (zJ 0))) (zJ 1)))) (λd=>(zN (Dv (n:=true) (TV:=[.z v,.z r,.ob true (o.1:aN gB),.ob true (o.2.2.1:aN Int),.ow true o.2.1,.y o.2.2.2,.y c,.y b,.y d,.un,.un]) (L:=(λg:(aN gB)×(List (Int×Int))×(aN Int)=>([.z v,.z r,.ob true (g.1:aN gB),.ob true (g.2.2:aN Int),.ow true g.2.1,.y o.2.2.2,.y c,.y b,.y d,.un,.un]:SL K))) (λQ:LI=>(o.1,o.2.1,(J3 o.2.2.1 c Q))) aK (λaai Q Z=>DK (as:=(λa:(ao C)×Int×Unit=>([.z a.1,.z a.2.1]:SL K))) (as':=λa:Int×Unit=>([.z a.1]:SL K)) (f:=(λws a=>yW ws a.1 a.2.1)) (jn:=λx a=>(x,a)) (x:=o.2.2.1) (k:=c) (x0:=r) (a':=(b,())) 3 rfl rfl (λ_ _=>rfl) (yJ (n:=false) 1 rfl) (zG 6 rfl) (zD (esc (zG 7 rfl)) zL) Z) (λg=>(yG 9 rfl rfl)) (λg I=>(zN (xT (n:=true) (L:=(λp:(aN gB)×(List (Int×Int))=>([.z v,.z r,.ob true (p.1:aN gB),.ob true (g.2.2:aN Int),.ow true p.2,.y o.2.2.2,.y c,.y b,.y d,.y I,.un]:SL K))) (g.1,g.2.1) aK (yT (uQ (by trivial) (zE 0 rfl) (zD (esc (zG 6 rfl)) zL))) (λp=>(yG 10 rfl rfl)) (λp U=>(zN (jy (bZ (L_ (xF (xF (Uw 2 rfl) (zG 10 rfl)) (zG 9 rfl)))) (zN (zWr 2 rfl rfl (Oz (xO (zG 8 rfl) (xO (p7 "step") (Qs (zG 6 rfl))))) (zG 10 rfl) (zG 9 rfl)) (λJ=>(zN (xH 4 rfl rfl (xO (zG 10 rfl) (zG 9 rfl))) (λM=>(zW (λu:(aN gB)×(List (Int×Int))=>([.z v,.z r,.ob true (u.1:aN gB),.ob true (g.2.2:aN Int),.ow true u.2,.y o.2.2.2,.y c,.y b,.y d,.y I,.y U]:SL K)) (J,M) aK))))) (zW (λu:(aN gB)×(List (Int×Int))=>([.z v,.z r,.ob true (u.1:aN gB),.ob true (g.2.2:aN Int),.ow true u.2,.y o.2.2.2,.y c,.y b,.y d,.y I,.y U]:SL K)) (p.1,p.2) aK)) (λT=>(zW (λp:(aN gB)×(List (Int×Int))=>([.z v,.z r,.ob true (p.1:aN gB),.ob true (g.2.2:aN Int),.ow true p.2,.y o.2.2.2,.y c,.y b,.y d,.y I,.un]:SL K)) (T.1,T.2) aK))))) (λS=>(zW (λg:(aN gB)×(List (Int×Int))×(aN Int)=>([.z v,.z r,.ob true (g.1:aN gB),.ob true (g.2.2:aN Int),.ow true g.2.1,.y o.2.2.2,.y c,.y b,.y d,.un,.un]:SL K)) (S.1,S.2,g.2.2) aK))))) (λO=>(zN (Xb (s:=.un) 5 rfl (zJ 1)) (λt=>(zW (λo:(aN gB)×(List (Int×Int))×(aN Int)×Int=>([.z v,.z r,.ob true (o.1:aN gB),.ob true (o.2.2.1:aN Int),.ow true o.2.1,.y o.2.2.2,.un,.un,.un,.un,.un]:SL K)) (O.1,O.2.1,O.2.2,t) aK))))))))))))) (λY=>(Xd (sl2:=[.z v,.z r,.y (Y.1.xss:List (List gB)),.ob true (Y.2.2.1:aN Int),.ow true Y.2.1,.y Y.2.2.2,.un,.un,.un,.un,.un]) (Le.eq (Le.eq (Le.fo aK))) (yB (yJ 2 rfl))))))))))))) (by simp only[MK,bnd])
def MN(g:ao C)(i:ao C):Option (List (Int×Int)):=(some (([]:List (Int×Int)))).bind λb=>(((MK g i).bind λh=>some (jA h)).bind λc=>yX (λf e=>(((some (jA e.2)).bind λc=>xG (λd=>some d.2.isNone) (λd=>some (e.1,d.1)) c).bind λk=>lG f k).bind λa=>some a) c b).bind λj=>some j
abbrev zJd:Df:=⟨"followed","followed",j6,["machine","other"]⟩
abbrev zI7(K:Frag)(C:Addr):Sp:=gq K (@MN C)
theorem zNm(B:Bl K mg)(a:Ca P w K mg jq k zJe (zI8 K C)):Go P w K mg jq k zJd (zI7 K C):=by
 refine zZ ["machine","other","told","stand","row"] λe o=>?_
 refine⟨_,(zC (yI 2 e (wU zF)) (zC (xB aas rfl (Jk K B.enum (zA (zU a o (zA (pv 0) (zA (pv 1) zF))) zF)) (pW rfl (yA (aV 3 e) (yA (aV 4 e) wA))) (zC (yC (jB K aap acp acq Sw (pv 2) (zA (wX (own:=["follower","failing"]) (ix:=[3]) rfl rfl rfl (Jk K B.enum (zA (pv 4) zF)) (λC s H h=>IW (K:=K) (n:=2) rfl rfl (yA (yM (i:=0) (show(["follower","failing","stand"]:List Str).Nodup from by trivial) rfl (Or.inl rfl)) (yA (yM (i:=1) (show(["follower","failing","stand"]:List Str).Nodup from by trivial) rfl (Or.inl rfl)) wA))) (λC s H h=>Bv (tW (Lk (pv 1)))) (λC s H h=>(xX (zA (pv 2) (zA (pv 0) zF))))) zF))) zH)) (zC (zT (pv 2)) zH))),?_⟩
 rintro Fa ⟨j,l,_⟩
 exact SB.of (zM (uX true 2 rfl rfl (nO (α:=Int×Int))) (λb=>(zM (xT (n:=true) (L:=(λd:List (Int×Int)=>([.z j,.z l,.ow true d,.un,.un]:SL K))) b aK (Jb (zK (zD (zE 0 rfl) (zD (zE 1 rfl) zL)))) (λd=>(uC 3 4 rfl rfl (λ_=>rfl) rfl)) (λd m=>(zN (XH 2 rfl rfl (xJ (n:=true) (gG:=[.un,.un,.y m.1]) (no:=2) (ix:=[3]) rfl rfl (Jb (yJ 4 rfl)) (uC 0 1 rfl rfl (λ_=>rfl) rfl) (λg=>(bZ (L_ (zE 1 rfl)))) (λg=>(xO (zG 2 rfl) (zG 0 rfl))) (λg=>cI)).ex) (λc=>(zW (λd:List (Int×Int)=>([.z j,.z l,.ow true d,.un,.un]:SL K)) c aK))))) (λs3=>(vh 2 rfl rfl))))) (by simp only[MN,bnd])
def yP(e:ao C)(d:Str):Option LI:=((some e.marks).bind λc=>jR (λs1 a=>if(decide (a.1=d))=true then(dY a.2).bind λb=>some (.rt b) else some (.nx ())) c ()).bind λo=>o.els λs2=>some ([]:LI)
abbrev zCq:Df:=⟨"marked","Machine.marked",dh,["self","name"]⟩
abbrev zCo(K:Frag)(C:Addr):Sp:=gq K (@yP C)
theorem zFm(B:Bl K mg)(T:Cl K mg C)(a:mg "sorted" = none):Go P w K mg jq k zCq (zCo K C):=by
 refine zZ ["self","name","known","stands"] λd g=>?_
 refine⟨_,(zC (xB aas rfl (yR K (Cg K (pv 0))) (pW rfl (yA (aV 2 d) (yA (aV 3 d) wA))) (zC (xE (yH (wJ K Str g) (pv 2) (pv 1) (xD _)) (zC (zT (zP (Xh K) rfl a Tt (zA (pv 3) zF))) zH) zH) zH)) (zC (zT (wU zF)) zH)),?_⟩
 rintro Fa ⟨e,c,_⟩
 exact SB.of (WX (W3 (n:=false) (L:=(λb:Unit=>([.z e,.z c,.un,.un]:SL K))) () aK (yT (zMa T.cl T.nM (yJ 0 rfl))) (λb=>(uC 2 3 rfl rfl (λ_=>rfl) rfl)) (λb x3=>(W0 (bw (wK (zG 2 rfl) (zG 1 rfl))) (yB (Xj (zE 3 rfl)).ex) (WY (λb:Unit=>([.z e,.z c,.un,.un]:SL K)) () aK)))) (λs2=>(yB (nO (α:=Int)).ex))) rfl
def vL(b:ao C)(c:Int):Option LI:=(aJ b.fair c).bind λa=>dY a
abbrev zCc:Df:=⟨"fair_at","Machine.fair_at",cT,["self","number"]⟩
abbrev zCa(K:Frag)(C:Addr):Sp:=gq K (@vL C)
theorem zEj(B:Bl K mg)(T:Cl K mg C)(a:mg "sorted" = none):Go P w K mg jq k zCc (zCa K C):=by
 refine zZ ["self","number"] λnd hr=>?_
 refine⟨_,(zC (zT (zP (Xh K) rfl a Tt (zA (yV (aM K) (Cg K (pv 0)) (pv 1) (λ_ _=>rfl)) zF))) zH),?_⟩
 rintro Fa ⟨q0,q1,_⟩
 exact SB.of (yB (Xj (xF (zPq T.cl T.nF (zE 0 rfl)) (zG 1 rfl))).ex) rfl
def QD(j:ao C)(i:LI):Option (List Bool):=(((wD j).bind λe=>aX e).bind λc=>xG (λg=>some true) (λg=>some false) c).bind λa=>((some i).bind λc=>yX (λh f=>(m6 h f true).bind λb=>some b) c a).bind λd=>some d
abbrev Yd:Df:=⟨"flags","flags",qW,["machine","stands"]⟩
abbrev Ye(K:Frag)(C:Addr):Sp:=gq K (@QD C)
theorem zXi(B:Bl K mg)(a:Cm P w K mg jq k C vT (vR K C)):Go P w K mg jq k Yd (Ye K C):=by
 refine zZ ["machine","stands","told","stand"] λg o=>?_
 refine⟨_,(zC (Gd (i:=2) (own:=["stand"]) (ix:=[]) g rfl rfl rfl rfl rfl (xW rfl B.range (zA (Tw a o (pv 0)) zF)) (λC s H e=>yM (i:=0) (show(["stand"]:List Str).Nodup from by trivial) rfl (Or.inl rfl)) (λC s H e=>vE) (λC s H e=>Fz)) (zC (xB aas rfl (yR K (pv 1)) (aV 3 g) (zC (t_ Fz (NZ (pv 2) (pv 3) Io)) zH)) (zC (zT (pv 2)) zH))),?_⟩
 rintro Fa ⟨h,l,_⟩
 exact SB.of (zM (uX true 2 rfl rfl (xJ (n:=true) (gG:=[.un]) (no:=1) (ix:=[]) rfl rfl (vC (uQ (by trivial) (zE 0 rfl) zL)) (yG 0 rfl rfl) (λj=>qd) (λj=>(esc (Gf false))) (λj=>cI))) (λb=>(zM (xT (n:=false) (L:=(λd:List Bool=>([.z h,.z l,.ow true d,.un]:SL K))) b aK (yT (yJ 1 rfl)) (λd=>(yG 3 rfl rfl)) (λd x6=>(zN (S9 2 rfl rfl (esc (Gf true)) (zG 3 rfl)) (λc=>(zW (λd:List Bool=>([.z h,.z l,.ow true d,.un]:SL K)) c aK))))) (λs5=>(vh 2 rfl rfl))))) rfl
def M4(b:LI)(a:LI):Option LI:=lZ b a
abbrev Yg:Df:=⟨"without","without",mq,["one","other"]⟩
abbrev Yh(K:Frag):Sp:=gq K M4
theorem zQ3(B:Bl K mg)(a:mg "sorted" = none)(b:mg "set" = none):Go P w K mg jq k Yg (Yh K):=by
 refine zZ ["one","other"] λnd hr=>?_
 refine⟨_,(zC (zT (Ua rfl a (CW (JG K rfl b (pv 0)) (JG K rfl b (pv 1))))) zH),?_⟩
 rintro Fa ⟨q0,q1,_⟩
 exact SB.of (yB (zRo (zE 0 rfl) (zE 1 rfl)).ex) rfl
def xY(b:ao C)(c:LI):Option LI:=((yO b).bind λd=>some ((d,(c,())))).bind λa=>M4 a.1 a.2.1
abbrev QF:Df:=⟨"others","others",oW,["machine","stands"]⟩
abbrev QG(K:Frag)(C:Addr):Sp:=gq K (@xY C)
theorem zT1(B:Bl K mg)(a:Ca P w K mg jq k wM (wL K C))(b:Ca P w K mg jq k Yg (Yh K)):Go P w K mg jq k QF (QG K C):=by
 refine zZ ["machine","stands"] λnd c=>?_
 refine⟨_,(zC (zT (zU b c (zA (zU a c (zA (pv 0) zF)) (zA (pv 1) zF)))) zH),?_⟩
 rintro Fa ⟨q0,q1,_⟩
 exact SB.of (yB (zK (zD (zK (zD (zE 0 rfl) zL)) (zD (zE 1 rfl) zL)))) (by simp only[xY,bnd])
def M5(b:LI)(a:LI):Option LI:=CZ b a
abbrev Yi:Df:=⟨"together","together",jZ,["one","other"]⟩
abbrev Yj(K:Frag):Sp:=gq K M5
theorem zNi(B:Bl K mg)(a:mg "sorted" = none)(b:mg "set" = none):Go P w K mg jq k Yi (Yj K):=by
 refine zZ ["one","other"] λnd hr=>?_
 refine⟨_,(zC (zT (Ua rfl a (JT (JG K rfl b (pv 0)) (JG K rfl b (pv 1))))) zH),?_⟩
 rintro Fa ⟨q0,q1,_⟩
 exact SB.of (yB (zVb (zE 0 rfl) (zE 1 rfl)).ex) rfl
def vA(b:LI)(a:LI):Option LI:=qR b a
abbrev M6:Df:=⟨"shared","shared",oX,["one","other"]⟩
abbrev M7(K:Frag):Sp:=gq K vA
theorem zT0(B:Bl K mg)(a:mg "sorted" = none)(b:mg "set" = none):Go P w K mg jq k M6 (M7 K):=by
 refine zZ ["one","other"] λnd hr=>?_
 refine⟨_,(zC (zT (Ua rfl a (Cz (JG K rfl b (pv 0)) (JG K rfl b (pv 1))))) zH),?_⟩
 rintro Fa ⟨q0,q1,_⟩
 exact SB.of (yB (zRq (zE 0 rfl) (zE 1 rfl)).ex) rfl
def QH(u:ao C)(B:LI)(z:LI):Option (List (Option Int)):=(QD u B).bind λd=>(((wD u).bind λE=>aX E).bind λp=>xG (λF=>some true) (λF=>some (none:Option Int)) p).bind λl=>((some z).bind λp=>yX (λA G=>(m6 A G (some 0)).bind λj=>some j) p l).bind λD=>(some z).bind λn=>(some 0).bind λf=>(BJ (λa:(List (Option Int))×LI×Int=>some (decide (a.2.2<(a.2.1.length:Int)))) (λa:(List (Option Int))×LI×Int=>(aJ a.2.1 a.2.2).bind λc=>((yL u c).bind λp=>yX (λe i=>(((aJ d i).bind λt=>if t=true then(aJ e.1 i).bind λx=>some x.isNone else some false).bind λb=>if b=true then(((((aJ e.1 c).bind λv=>v).bind λy=>some (y+1)).bind λr=>some (some r)).bind λs=>m6 e.1 i s).bind λh=>(push e.2 i).bind λk=>some (h,k) else some (e.1,e.2)).bind λo=>some (o.1,o.2)) p (a.1,a.2.1)).bind λm=>(some (a.2.2+1)).bind λg=>some (m.1,m.2,g)) fuel (D,n,f)).bind λq=>some q.1
abbrev zIb:Df:=⟨"distances","distances",iW,["machine","through","goal"]⟩
abbrev zH1(K:Frag)(C:Addr):Sp:=G3 K (@QH C)
theorem zLx(B:Bl K mg)(d:Cm P w K mg jq k C vX (vW K C))(e:Cm P w K mg jq k C vT (vR K C))(h:Ca P w K mg jq k Yd (Ye K C)):Go P w K mg jq k zIb (zH1 K C):=by
 refine zZ ["machine","through","goal","passable","told","stand","row","place","source"] λt N=>?_
 refine⟨_,(zC (yI 3 t (zU h N (zA (pv 0) (zA (pv 1) zF)))) (zC (Gd (i:=4) (own:=["stand"]) (ix:=[]) t rfl rfl rfl rfl rfl (xW rfl B.range (zA (Tw e N (pv 0)) zF)) (λC s H O=>yM (i:=0) (show(["stand"]:List Str).Nodup from by trivial) rfl (Or.inl rfl)) (λC s H O=>vE) (λC s H O=>VH)) (zC (xB aas rfl (yR K (pv 2)) (aV 5 t) (zC (t_ zI (NZ (pv 4) (pv 5) Io)) zH)) (zC (yI 6 t (uL (Gk K) rfl B.list Gj (zA (pv 2) zF))) (zC (yI 7 t zI) (zC (Zy aas (yH Lz (pv 7) (zP (xL K) rfl B.len aay (zA (pv 6) zF)) (xD _)) (zC (yI 5 t (yV (aM K) (pv 6) (pv 7) (λ_ _=>rfl))) (zC (xB aas rfl (yR K (z9 d N (pv 0) (zA (pv 5) zF))) (aV 8 t) (zC (xE (PW.pt (pw_and (nZ (yV (aM K) (pv 3) (pv 8) (λ_ _=>rfl))) (pw_and1 (tW (Lk (yV (aM K) (pv 4) (pv 8) (λ_ _=>rfl))))))) (zC (t_ (zY uY (yV (aM K) (pv 4) (pv 5) (λ_ _=>rfl)) zI) (NZ (pv 4) (pv 8) Io)) (zC (yC (jB K aap aaq aar yS (pv 6) (zA (pv 8) zF))) zH)) zH) zH)) (zC (V0 (i:=7) t rfl (by first|exact .inl rfl|exact .inr rfl) zI Zw) zH)))) (zC (zT (pv 4)) zH))))))),?_⟩
 rintro Fa ⟨q,r,p,_⟩
 exact SB.of (zM (yF true 3 rfl rfl (zK (zD (zE 0 rfl) (zD (zE 1 rfl) zL)))) (λa=>(zM (uX true 4 rfl rfl (xJ (n:=true) (gG:=[.un]) (no:=1) (ix:=[]) rfl rfl (vC (uQ (by trivial) (zE 0 rfl) zL)) (yG 0 rfl rfl) (λQ=>qd) (λQ=>(esc (WM (α:=Int)))) (λQ=>cI))) (λu=>(zM (xT (n:=false) (L:=(λJ:List (Option Int)=>([.z q,.z r,.z p,.y a,.ow true J,.un,.un,.un,.un]:SL K))) u aK (yT (yJ 2 rfl)) (λJ=>(yG 5 rfl rfl)) (λJ x7=>(zN (S9 4 rfl rfl (esc (Oz (zJ 0))) (zG 5 rfl)) (λx=>(zW (λJ:List (Option Int)=>([.z q,.z r,.z p,.y a,.ow true J,.un,.un,.un,.un]:SL K)) x aK))))) (λR=>(zM (uX true 6 rfl rfl (Jg (zE 2 rfl))) (λD=>(zM (yF true 7 rfl rfl (esc (zJ 0))) (λl=>(zM (zOr (L:=(λb:(List (Option Int))×LI×Int=>([.z q,.z r,.z p,.y a,.ow true b.1,.un,.ow true b.2.1,.y b.2.2,.un]:SL K))) fuel (R,D,l) aK (λb=>(bw (Pa (zG 7 rfl) (xP (xN 6 rfl))))) (λb=>(zN (yF true 5 rfl rfl (esc (esc (xF (xN 6 rfl) (zG 7 rfl))))) (λc=>(zN (xT (n:=true) (L:=(λg:(List (Option Int))×LI=>([.z q,.z r,.z p,.y a,.ow true g.1,.y c,.ow true g.2,.y b.2.2,.un]:SL K))) (b.1,b.2.1) aK (yT (uQ (by trivial) (zE 0 rfl) (zD (esc (zG 5 rfl)) zL))) (λg=>(yG 8 rfl rfl)) (λg M=>(zN (jy (OD (bZ (esc (xF (zE 3 rfl) (zG 8 rfl)))) (bZ (L_ (esc (xF (xN 4 rfl) (zG 8 rfl)))))) (zN (S9 4 rfl rfl (esc (Oz (uZ (Ti (esc (xF (xN 4 rfl) (zG 5 rfl)))) (zJ 1)))) (zG 8 rfl)) (λo=>(zN (xH 6 rfl rfl (esc (zG 8 rfl))) (λv=>(zW (λj:(List (Option Int))×LI=>([.z q,.z r,.z p,.y a,.ow true j.1,.y c,.ow true j.2,.y b.2.2,.y M]:SL K)) (o,v) aK))))) (zW (λj:(List (Option Int))×LI=>([.z q,.z r,.z p,.y a,.ow true j.1,.y c,.ow true j.2,.y b.2.2,.y M]:SL K)) (g.1,g.2) aK)) (λG=>(zW (λg:(List (Option Int))×LI=>([.z q,.z r,.z p,.y a,.ow true g.1,.y c,.ow true g.2,.y b.2.2,.un]:SL K)) (G.1,G.2) aK))))) (λI=>(zN (Xb (s:=.un) 7 rfl (zJ 1)) (λm=>(zW (λb:(List (Option Int))×LI×Int=>([.z q,.z r,.z p,.y a,.ow true b.1,.un,.ow true b.2.1,.y b.2.2,.un]:SL K)) (I.1,I.2,m) aK))))))))) (λs12=>(vh 4 rfl rfl))))))))))))) (by simp only[QH,bnd])
def xS(c:ao C)(e:LI)(f:LI):Option LI:=(QH c e f).bind λa=>(some (jA a)).bind λd=>xG (λb=>some b.2.isSome) (λb=>some b.1) d
abbrev U7:Df:=⟨"comes_to","comes_to",j8,["machine","through","goal"]⟩
abbrev U8(K:Frag)(C:Addr):Sp:=G3 K (@xS C)
theorem zNo(B:Bl K mg)(a:Ca P w K mg jq k zIb (zH1 K C)):Go P w K mg jq k U7 (U8 K C):=by
 refine zZ ["machine","through","goal","away"] λg e=>?_
 refine⟨_,(zC (yI 3 g (zU a e (zA (pv 0) (zA (pv 1) (zA (pv 2) zF))))) (zC (zT (wX (own:=["stand","steps"]) (ix:=[]) rfl rfl rfl (Jk K B.enum (zA (pv 3) zF)) (λC s H c=>IW (K:=K) (n:=2) rfl rfl (yA (yM (i:=0) (show(["stand","steps"]:List Str).Nodup from by trivial) rfl (Or.inl rfl)) (yA (yM (i:=1) (show(["stand","steps"]:List Str).Nodup from by trivial) rfl (Or.inl rfl)) wA))) (λC s H c=>Bv (tW (Zn (pv 1)))) (λC s H c=>(pv 0)))) zH)),?_⟩
 rintro Fa ⟨q0,q1,q2,_⟩
 exact SB.of (zM (yF true 3 rfl rfl (zK (zD (zE 0 rfl) (zD (zE 1 rfl) (zD (zE 2 rfl) zL))))) (λaac=>(yB (xJ (n:=true) (gG:=[.un,.un]) (no:=2) (ix:=[]) rfl rfl (Jb (yJ 3 rfl)) (uC 0 1 rfl rfl (λ_=>rfl) rfl) (λb=>(bZ (zU0 (zG 1 rfl)))) (λb=>(esc (zG 0 rfl))) (λb=>cI)).ex))) (by simp only[xS,bnd])
def U9(b:ao C)(c:Int)(f:List Bool):Option Bool:=((yQ b c).bind λe=>xG (λa=>some true) (λa=>aJ f a) e).bind λd=>some (d.any id)
abbrev zF4:Df:=⟨"steps_into","steps_into",gZ,["machine","stand","hit"]⟩
abbrev zF1(K:Frag)(C:Addr):Sp:=G3 K (@U9 C)
theorem zJ3(B:Bl K mg)(b:mg "any" = none)(a:Cm P w K mg jq k C vO (vN K C)):Go P w K mg jq k zF4 (zF1 K C):=by
 refine zZ ["machine","stand","hit"] λnd e=>?_
 refine⟨_,(zC (zT (zP (zVr K rfl) rfl b Jm (zA (wX (own:=["after"]) (ix:=[2]) rfl rfl rfl (yR K (z9 a e (pv 0) (zA (pv 1) zF))) (λC s H c=>yM (i:=0) (show(["after","hit"]:List Str).Nodup from by trivial) rfl (Or.inl rfl)) (λC s H c=>vE) (λC s H c=>(yV (aM K) (pv 1) (pv 0) (λ_ _=>rfl)))) zF))) zH),?_⟩
 rintro Fa ⟨q0,q1,g,_⟩
 exact SB.of (yB (esc (zPs (xJ (n:=true) (gG:=[.un,.z g]) (no:=1) (ix:=[2]) rfl rfl (yT (uQ (by trivial) (zE 0 rfl) (zD (esc (zG 1 rfl)) zL))) (yG 0 rfl rfl) (λd=>qd) (λd=>(esc (esc (xF (zE 1 rfl) (zG 0 rfl))))) (λd=>cI)).ex))) rfl
def uM(c:ao C)(f:LI)(e:LI):Option LI:=(QD c e).bind λa=>(some f).bind λd=>xG (λb=>U9 c b a) (λb=>some b) d
abbrev zE5:Df:=⟨"stepping_to","stepping_to",gb,["machine","among","goal"]⟩
abbrev zEz(K:Frag)(C:Addr):Sp:=G3 K (@uM C)
theorem zIf(B:Bl K mg)(b:Ca P w K mg jq k Yd (Ye K C))(a:Ca P w K mg jq k zF4 (zF1 K C)):Go P w K mg jq k zE5 (zEz K C):=by
 refine zZ ["machine","among","goal","hit"] λj g=>?_
 refine⟨_,(zC (yI 3 j (zU b g (zA (pv 0) (zA (pv 2) zF)))) (zC (zT (wX (own:=["stand"]) (ix:=[0,3]) rfl rfl rfl (yR K (pv 1)) (λC s H d=>yM (i:=0) (show(["stand","machine","hit"]:List Str).Nodup from by trivial) rfl (Or.inl rfl)) (λC s H d=>Bv (nZ (zU a g (zA (pv 1) (zA (pv 0) (zA (pv 2) zF)))))) (λC s H d=>(pv 0)))) zH)),?_⟩
 rintro Fa ⟨h,q1,q2,_⟩
 exact SB.of (zM (yF true 3 rfl rfl (zK (zD (zE 0 rfl) (zD (zE 2 rfl) zL)))) (λc=>(yB (xJ (n:=false) (gG:=[.un,.z h,.y c]) (no:=1) (ix:=[0,3]) rfl rfl (yT (yJ 1 rfl)) (yG 0 rfl rfl) (λe=>(bZ (zK (zD (zE 1 rfl) (zD (esc (zG 0 rfl)) (zD (zE 2 rfl) zL)))))) (λe=>(esc (zG 0 rfl))) (λe=>cI)).ex))) (by simp only[uM,bnd])
def QJ(e:LI):Option Int:=(some 0).bind λb=>((some e).bind λf=>yX (λc d=>((wu 1 d).bind λh=>some (acz c h)).bind λa=>some a) f b).bind λg=>some g
abbrev zMz:Df:=⟨"bits_of","bits_of",mC,["stands"]⟩
abbrev zMv(K:Frag):Sp:=tK K QJ
theorem zQ7(B:Bl K mg):Go P w K mg jq k zMz (zMv K):=by
 refine zZ ["stands","told","stand"] λd hr=>?_
 refine⟨_,(zC (yI 1 d zI) (zC (xB aas rfl (yR K (pv 0)) (aV 2 d) (zC (V0 (i:=1) d rfl (by first|exact .inl rfl|exact .inr rfl) (zY H_ zI (pv 2)) GC) zH)) (zC (zT (pv 1)) zH))),?_⟩
 rintro Fa ⟨e,_⟩
 exact SB.of (zM (yF true 1 rfl rfl (esc (zJ 0))) (λa=>(zM (xT (n:=false) (L:=(λc:Int=>([.z e,.y c,.un]:SL K))) a aK (yT (yJ 0 rfl)) (λc=>(yG 2 rfl rfl)) (λc x4=>(zN (Xb (s:=.un) 1 rfl (JL (zJ 1) (zG 2 rfl))) (λb=>(zW (λc:Int=>([.z e,.y c,.un]:SL K)) b aK))))) (λs3=>(yB (esc (zG 1 rfl))))))) rfl
def U_(y:ao C)(l:LI):Option LI:=(QJ l).bind λa=>(((wD y).bind λD=>aX D).bind λf=>xG (λF=>some true) (λF=>some 0) f).bind λg=>((some l).bind λf=>yX (λE z=>(((((yQ y z).bind λq=>some ((q,()))).bind λB=>QJ B.1).bind λm=>some (aa8 m a)).bind λs=>m6 E z s).bind λe=>some e) f g).bind λA=>((some l).bind λf=>yX (λn h=>((some l).bind λf=>yX (λd k=>(((((aJ d k).bind λp=>gR p h).bind λr=>some (aa8 r 1)).bind λu=>some (u != 0)).bind λb=>if b=true then((aJ d h).bind λx=>lD (λi j=>acz i j) d k x).bind λc=>some c else some d).bind λo=>some o) f n).bind λv=>some v) f A).bind λt=>some t
abbrev zE7:Df:=⟨"onward_bits","onward_bits",gj,["machine","within"]⟩
abbrev zE1(K:Frag)(C:Addr):Sp:=gq K (@U_ C)
theorem zIg(B:Bl K mg)(c:Cm P w K mg jq k C vT (vR K C))(b:Cm P w K mg jq k C vO (vN K C))(d:Ca P w K mg jq k zMz (zMv K)):Go P w K mg jq k zE7 (zE1 K C):=by
 refine zZ ["machine","within","inside","rows","stand","middle"] λt v=>?_
 refine⟨_,(zC (yI 2 t (zU d v (zA (pv 1) zF))) (zC (Gd (i:=3) (own:=["stand"]) (ix:=[]) t rfl rfl rfl rfl rfl (xW rfl B.range (zA (Tw c v (pv 0)) zF)) (λC s H I=>yM (i:=0) (show(["stand"]:List Str).Nodup from by trivial) rfl (Or.inl rfl)) (λC s H I=>vE) (λC s H I=>zI)) (zC (xB aas rfl (yR K (pv 1)) (aV 4 t) (zC (t_ (zY N_ (zU d v (zA (z9 b v (pv 0) (zA (pv 4) zF)) zF)) (pv 2)) (NZ (pv 3) (pv 4) Io)) zH)) (zC (xB aas rfl (yR K (pv 1)) (aV 5 t) (zC (xB aas rfl (yR K (pv 1)) (aV 4 t) (zC (xE (Xx K (zY N_ (zY R8 (yV (aM K) (pv 3) (pv 4) (λ_ _=>rfl)) (pv 5)) zI)) (zC (Zv (pv 3) (pv 4) (zL3 K) (yV (aM K) (pv 3) (pv 5) (λ_ _=>rfl)) GC Io) zH) zH) zH)) zH)) (zC (zT (pv 3)) zH))))),?_⟩
 rintro Fa ⟨m,l,_⟩
 exact SB.of (zM (yF true 2 rfl rfl (esc (zK (zD (zE 1 rfl) zL)))) (λa=>(zM (uX true 3 rfl rfl (xJ (n:=true) (gG:=[.un]) (no:=1) (ix:=[]) rfl rfl (vC (uQ (by trivial) (zE 0 rfl) zL)) (yG 0 rfl rfl) (λG=>qd) (λG=>(esc (zJ 0))) (λG=>cI))) (λo=>(zM (xT (n:=false) (L:=(λu:LI=>([.z m,.z l,.y a,.ow true u,.un,.un]:SL K))) o aK (yT (yJ 1 rfl)) (λu=>(yG 4 rfl rfl)) (λu x7=>(zN (S9 3 rfl rfl (esc (Qc (zK (zD (uQ (by trivial) (zE 0 rfl) (zD (esc (zG 4 rfl)) zL)) zL)) (zG 2 rfl))) (zG 4 rfl)) (λp=>(zW (λu:LI=>([.z m,.z l,.y a,.ow true u,.un,.un]:SL K)) p aK))))) (λJ=>(zM (xT (n:=false) (L:=(λg:LI=>([.z m,.z l,.y a,.ow true g,.un,.un]:SL K))) J aK (yT (yJ 1 rfl)) (λg=>(yG 5 rfl rfl)) (λg h=>(zN (xT (n:=false) (L:=(λe:LI=>([.z m,.z l,.y a,.ow true e,.un,.z h]:SL K))) g aK (yT (yJ 1 rfl)) (λe=>(yG 4 rfl rfl)) (λe r=>(zN (jy (Xy (Qc (Ue (esc (xF (xN 3 rfl) (zG 4 rfl))) (zG 5 rfl)) (zJ 1))) (zN (zWw 3 rfl rfl (zG 4 rfl) (esc (xF (xN 3 rfl) (zG 5 rfl)))) (λj=>(zW (λq:LI=>([.z m,.z l,.y a,.ow true q,.z r,.z h]:SL K)) j aK))) (zW (λq:LI=>([.z m,.z l,.y a,.ow true q,.z r,.z h]:SL K)) e aK)) (λx=>(zW (λe:LI=>([.z m,.z l,.y a,.ow true e,.un,.z h]:SL K)) x aK))))) (λD=>(zW (λg:LI=>([.z m,.z l,.y a,.ow true g,.un,.un]:SL K)) D aK))))) (λs14=>(vh 3 rfl rfl))))))))) rfl
def Va(A:ao C)(B:LI):Option (List LI):=(iI B).bind λa=>(U_ A a).bind λc=>(some (([]:List LI))).bind λh=>(some ()).bind λQK=>((some a).bind λk=>yX (λi l=>((if(!(jC (Dc.mk i.2).kv l).isSome)=true then(((aJ c l).bind λy=>gR y l).bind λz=>some (aa8 z 1)).bind λo=>some (o != 0) else some false).bind λb=>if b=true then((some a).bind λk=>xG (λe=>((((aJ c l).bind λr=>gR r e).bind λv=>((aJ c e).bind λm=>gR m l).bind λn=>some (aa8 v n)).bind λq=>some (aa8 q 1)).bind λu=>some (u != 0)) (λe=>some e) k).bind λd=>(push i.1 d).bind λf=>((some d).bind λk=>yX (λp s=>(dput p s true).bind λg=>some g) k i.2).bind λt=>some (f,t) else some (i.1,i.2)).bind λj=>some (j.1,j.2)) k ((h,([]:List (Key×Bool))))).bind λx=>some x.1
abbrev zV6:Df:=⟨"rings","rings",qX,["machine","within"]⟩
abbrev zV2(K:Frag)(C:Addr):Sp:=gq K (@Va C)
theorem zXg(B:Bl K mg)(j:mg "sorted" = none)(u:mg "set" = none)(c:Ca P w K mg jq k zE7 (zE1 K C)):Go P w K mg jq k zV6 (zV2 K C):=by
 refine zZ ["machine","within","stands","rows","told","done","stand","ring","other"] λo J=>?_
 have G:=uz J
 refine⟨_,(zC (yI 2 o (Ua rfl j (JG K rfl u (pv 1)))) (zC (yI 3 o (zU c J (zA (pv 0) (zA (pv 2) zF)))) (zC (yI 4 o (wU zF)) (zC (yI 5 o Wf) (zC (xB aas rfl (yR K (pv 2)) (aV 6 o) (zC (xE (PW.pt (pw_and (tW (zTu G (pv 6) (pv 5))) (pw_and1 (Xx K (zY N_ (zY R8 (yV (aM K) (pv 3) (pv 6) (λ_ _=>rfl)) (pv 6)) zI))))) (zC (Gd (i:=7) (own:=["other"]) (ix:=[3,6]) o rfl rfl rfl rfl rfl (yR K (pv 2)) (λC s H I=>yM (i:=0) (show(["other","rows","stand"]:List Str).Nodup from by trivial) rfl (Or.inl rfl)) (λC s H I=>Bv (Xx K (zY N_ (zY N_ (zY R8 (yV (aM K) (pv 1) (pv 2) (λ_ _=>rfl)) (pv 0)) (zY R8 (yV (aM K) (pv 1) (pv 0) (λ_ _=>rfl)) (pv 2))) zI))) (λC s H I=>(pv 0))) (zC (yC (jB K aap aaq aar yS (pv 4) (zA (pv 7) zF))) (zC (xB aas rfl (yR K (pv 7)) (aV 8 o) (zC (Wd G (pv 5) (pv 8) Fz rfl) zH)) zH))) zH) zH)) (zC (zT (pv 4)) zH)))))),?_⟩
 rintro Fa ⟨q,r,_⟩
 exact SB.of (zM (yF true 2 rfl rfl (zRp (zE 1 rfl)).ex) (λa=>(zM (yF true 3 rfl rfl (zK (zD (zE 0 rfl) (zD (zE 2 rfl) zL)))) (λb=>(zM (uX true 4 rfl rfl (nO (α:=LI))) (λp=>(zM (W2 (α:=Bool) 5 rfl rfl) (λQK=>(zM (xT (n:=true) (L:=(λl:(List LI)×(List (Key×Bool))=>([.z q,.z r,.y a,.y b,.ow true l.1,.od (l.2:List (Key×Bool)),.un,.un,.un]:SL K))) ((p,([]:List (Key×Bool)))) aK (yT (yJ 2 rfl)) (λl=>(yG 6 rfl rfl)) (λl x=>(zN (jy (OD (bZ (zU6 (zG 6 rfl) (Xl 5 rfl))) (Xy (Qc (Ue (esc (xF (zE 3 rfl) (zG 6 rfl))) (zG 6 rfl)) (zJ 1)))) (zN (yF true 7 rfl rfl (xJ (n:=true) (gG:=[.un,.y b,.y x]) (no:=1) (ix:=[3,6]) rfl rfl (yT (yJ 2 rfl)) (yG 0 rfl rfl) (λt=>(Xy (Qc (Qc (Ue (esc (xF (zE 1 rfl) (zG 2 rfl))) (zG 0 rfl)) (Ue (esc (xF (zE 1 rfl) (zG 0 rfl))) (zG 2 rfl))) (zJ 1)))) (λt=>(esc (zG 0 rfl))) (λt=>cI)).ex) (λe=>(zN (xH 4 rfl rfl (yJ 7 rfl)) (λd=>(zN (xT (n:=true) (L:=(λh:List (Key×Bool)=>([.z q,.z r,.y a,.y b,.ow true d,.od (h:List (Key×Bool)),.y x,.y e,.un]:SL K))) l.2 aK (yT (yJ 7 rfl)) (λh=>(yG 8 rfl rfl)) (λh x24=>(zN (zSu 5 rfl rfl (esc (Gf true)) (zG 8 rfl)) (λm=>(zW (λh:List (Key×Bool)=>([.z q,.z r,.y a,.y b,.ow true d,.od (h:List (Key×Bool)),.y x,.y e,.un]:SL K)) m aK))))) (λD=>(zW (λg:(List LI)×(List (Key×Bool))=>([.z q,.z r,.y a,.y b,.ow true g.1,.od (g.2:List (Key×Bool)),.y x,.un,.un]:SL K)) (d,D) aK))))))) (zW (λg:(List LI)×(List (Key×Bool))=>([.z q,.z r,.y a,.y b,.ow true g.1,.od (g.2:List (Key×Bool)),.y x,.un,.un]:SL K)) (l.1,l.2) aK)) (λv=>(zW (λl:(List LI)×(List (Key×Bool))=>([.z q,.z r,.y a,.y b,.ow true l.1,.od (l.2:List (Key×Bool)),.un,.un,.un]:SL K)) (v.1,v.2) aK))))) (λs6=>(vh 4 rfl rfl))))))))))) rfl
def QL(c:ao C)(f:LI):Option (Option Int):=((aX (c.fair.length:Int)).bind λe=>jR (λs1 d=>((((((vL c d).bind λj=>some ((j,()))).bind λg=>some (f,g)).bind λa=>vA a.1 a.2.1).bind λi=>some (i.length:Int)).bind λh=>some (decide (h=0))).bind λb=>if b=true then(some (some d)).bind λb=>some (.rt b) else some (.nx ())) e ()).bind λo=>o.els λs2=>some (none:Option Int)
abbrev zH5:Df:=⟨"missed_by","missed_by",iY,["machine","ring"]⟩
abbrev zHv(K:Frag)(C:Addr):Sp:=gq K (@QL C)
theorem zLo(B:Bl K mg)(T:Cl K mg C)(a:Cm P w K mg jq k C zCc (zCa K C))(b:Ca P w K mg jq k M6 (M7 K)):Go P w K mg jq k zH5 (zHv K C):=by
 refine zZ ["machine","ring","number"] λi c=>?_
 refine⟨_,(zC (xB aas rfl (xW rfl B.range (zA (zP (xL K) rfl B.len aay (zA (Cg K (pv 0)) zF)) zF)) (aV 2 i) (zC (xE (yH (wJ K Int c) (zP (xL K) rfl B.len aay (zA (zU b c (zA (pv 1) (zA (z9 a c (pv 0) (zA (pv 2) zF)) zF))) zF)) zI (xD _)) (zC (zT (pv 2)) zH) zH) zH)) (zC (zT VH) zH)),?_⟩
 rintro Fa ⟨e,g,_⟩
 exact SB.of (WX (W3 (n:=true) (L:=(λd:Unit=>([.z e,.z g,.un]:SL K))) () aK (vC (xP (zPq T.cl T.nF (zE 0 rfl)))) (λd=>(yG 2 rfl rfl)) (λd x3=>(W0 (bw (wK (xP (zK (zD (zE 1 rfl) (zD (uQ (by trivial) (zE 0 rfl) (zD (esc (zG 2 rfl)) zL)) zL)))) (zJ 0))) (yB (esc (Oz (zG 2 rfl)))) (WY (λd:Unit=>([.z e,.z g,.un]:SL K)) () aK)))) (λs2=>(yB (esc (WM (α:=Int)))))) (by simp only[QL,bnd])
def uF(b:ao C)(c:LI):Option (List LI):=(Va b c).bind λe=>xG (λa=>(QL b a).bind λd=>some d.isNone) (λa=>some a) e
abbrev zF6:Df:=⟨"fair_rings","fair_rings",g8,["machine","within"]⟩
abbrev zF3(K:Frag)(C:Addr):Sp:=gq K (@uF C)
theorem zJ5(B:Bl K mg)(a:Ca P w K mg jq k zH5 (zHv K C))(b:Ca P w K mg jq k zV6 (zV2 K C)):Go P w K mg jq k zF6 (zF3 K C):=by
 refine zZ ["machine","within"] λnd c=>?_
 refine⟨_,(zC (zT (wX (own:=["ring"]) (ix:=[0]) rfl rfl rfl (yR K (zU b c (zA (pv 0) (zA (pv 1) zF)))) (λC s H d=>yM (i:=0) (show(["ring","machine"]:List Str).Nodup from by trivial) rfl (Or.inl rfl)) (λC s H d=>Bv (tW (Lk (zU a c (zA (pv 1) (zA (pv 0) zF)))))) (λC s H d=>(pv 0)))) zH),?_⟩
 rintro Fa ⟨g,q1,_⟩
 exact SB.of (yB (xJ (n:=true) (gG:=[.un,.z g]) (no:=1) (ix:=[0]) rfl rfl (yT (zK (zD (zE 0 rfl) (zD (zE 1 rfl) zL)))) (yG 0 rfl rfl) (λe=>(bZ (L_ (zK (zD (zE 1 rfl) (zD (zE 0 rfl) zL)))))) (λe=>(yJ 0 rfl)) (λe=>cI)).ex) (by simp only[uF,bnd])
def M8(c:List LI):Option LI:=(some ([]:LI)).bind λa=>((some c).bind λe=>yX (λg d=>(wz g d).bind λb=>some b) e a).bind λf=>some f
abbrev zQa:Df:=⟨"joined","joined",oZ,["lists"]⟩
abbrev zP7(K:Frag):Sp:=tK K M8
theorem zT2(B:Bl K mg):Go P w K mg jq k zQa (zP7 K):=by
 refine zZ ["lists","told","things"] λe hr=>?_
 refine⟨_,(zC (yI 1 e (wU zF)) (zC (xB aas rfl (yR K (pv 0)) (aV 2 e) (zC (yC (jB K aap acp acq Sw (pv 1) (zA (pv 2) zF))) zH)) (zC (zT (pv 1)) zH))),?_⟩
 rintro Fa ⟨d,_⟩
 exact SB.of (zM (uX true 1 rfl rfl (nO (α:=Int))) (λa=>(zM (xT (n:=false) (L:=(λc:LI=>([.z d,.ow true c,.un]:SL K))) a aK (yT (yJ 0 rfl)) (λc=>(yG 2 rfl rfl)) (λc x4=>(zN (zSt 1 rfl rfl (zE 2 rfl)) (λb=>(zW (λc:LI=>([.z d,.ow true c,.un]:SL K)) b aK))))) (λs3=>(vh 1 rfl rfl))))) rfl
def Af(b:ao C)(c:LI):Option LI:=((((((uF b c).bind λd=>some ((d,()))).bind λf=>M8 f.1).bind λe=>some ((e,()))).bind λg=>some (c,g)).bind λh=>some (b,h)).bind λa=>xS a.1 a.2.1 a.2.2.1
abbrev Vb:Df:=⟨"core","core",yc,["machine","within"]⟩
abbrev Vc(K:Frag)(C:Addr):Sp:=gq K (@Af C)
theorem DP(B:Bl K mg)(b:Ca P w K mg jq k U7 (U8 K C))(a:Ca P w K mg jq k zF6 (zF3 K C))(c:Ca P w K mg jq k zQa (zP7 K)):Go P w K mg jq k Vb (Vc K C):=by
 refine zZ ["machine","within"] λnd d=>?_
 refine⟨_,(zC (zT (zU b d (zA (pv 0) (zA (pv 1) (zA (zU c d (zA (zU a d (zA (pv 0) (zA (pv 1) zF))) zF)) zF))))) zH),?_⟩
 rintro Fa ⟨q0,q1,_⟩
 exact SB.of (yB (zK (zD (zE 0 rfl) (zD (zE 1 rfl) (zD (zK (zD (zK (zD (zE 0 rfl) (zD (zE 1 rfl) zL))) zL)) zL))))) rfl
def M9(b:ao C):Option LI:=(((yO b).bind λd=>some ((d,()))).bind λc=>some (b,c)).bind λa=>Af a.1 a.2.1
abbrev zV8:Df:=⟨"alive","alive",s_alive,["machine"]⟩
abbrev zV4(K:Frag)(C:Addr):Sp:=tK K (@M9 C)
theorem zXj(B:Bl K mg)(b:Ca P w K mg jq k Vb (Vc K C))(a:Ca P w K mg jq k wM (wL K C)):Go P w K mg jq k zV8 (zV4 K C):=by
 refine zZ ["machine"] λnd c=>?_
 refine⟨_,(zC (zT (zU b c (zA (pv 0) (zA (zU a c (zA (pv 0) zF)) zF)))) zH),?_⟩
 rintro Fa ⟨q0,_⟩
 exact SB.of (yB (zK (zD (zE 0 rfl) (zD (zK (zD (zE 0 rfl) zL)) zL)))) (by simp only[M9,bnd])
def vG(b:ao C)(d:LI)(h:LI):Option LI:=(((yO b).bind λc=>((vA d h).bind λe=>some ((e,()))).bind λf=>some (c,f)).bind λg=>some (b,g)).bind λa=>uM a.1 a.2.1 a.2.2.1
abbrev zH4:Df:=⟨"some_next","some_next",iZ,["machine","living","part"]⟩
abbrev zHu(K:Frag)(C:Addr):Sp:=G3 K (@vG C)
theorem zLn(B:Bl K mg)(b:Ca P w K mg jq k wM (wL K C))(c:Ca P w K mg jq k M6 (M7 K))(a:Ca P w K mg jq k zE5 (zEz K C)):Go P w K mg jq k zH4 (zHu K C):=by
 refine zZ ["machine","living","part"] λnd d=>?_
 refine⟨_,(zC (zT (zU a d (zA (pv 0) (zA (zU b d (zA (pv 0) zF)) (zA (zU c d (zA (pv 1) (zA (pv 2) zF))) zF))))) zH),?_⟩
 rintro Fa ⟨q0,q1,q2,_⟩
 exact SB.of (yB (zK (zD (zE 0 rfl) (zD (zK (zD (zE 0 rfl) zL)) (zD (zK (zD (zE 1 rfl) (zD (zE 2 rfl) zL))) zL))))) (by simp only[vG,bnd])
def wP(h:ao C)(d:LI)(b:LI)(f:LI):Option LI:=((((vA d f).bind λg=>some ((g,()))).bind λe=>some (b,e)).bind λc=>some (h,c)).bind λa=>xS a.1 a.2.1 a.2.2.1
abbrev zH3:Df:=⟨"some_till","some_till",i_,["machine","living","left","right"]⟩
abbrev zHt(K:Frag)(C:Addr):Sp:=MF K (@wP C)
theorem zLm(B:Bl K mg)(a:Ca P w K mg jq k U7 (U8 K C))(b:Ca P w K mg jq k M6 (M7 K)):Go P w K mg jq k zH3 (zHt K C):=by
 refine zZ ["machine","living","left","right"] λnd c=>?_
 refine⟨_,(zC (zT (zU a c (zA (pv 0) (zA (pv 2) (zA (zU b c (zA (pv 1) (zA (pv 3) zF))) zF))))) zH),?_⟩
 rintro Fa ⟨q0,q1,q2,q3,_⟩
 exact SB.of (yB (zK (zD (zE 0 rfl) (zD (zE 2 rfl) (zD (zK (zD (zE 1 rfl) (zD (zE 3 rfl) zL))) zL))))) rfl
def QM(e:ao C)(h:LI)(c:LI)(f:LI):Option LI:=(((((xY e f).bind λg=>some ((g,()))).bind λd=>some (h,d)).bind λa=>vA a.1 a.2.1).bind λi=>some ((i,(c,())))).bind λb=>M4 b.1 b.2.1
abbrev zJa:Df:=⟨"spoilers","spoilers",kh,["machine","living","left","right"]⟩
abbrev zI4(K:Frag)(C:Addr):Sp:=MF K (@QM C)
theorem zNj(B:Bl K mg)(c:Ca P w K mg jq k QF (QG K C))(b:Ca P w K mg jq k M6 (M7 K))(a:Ca P w K mg jq k Yg (Yh K)):Go P w K mg jq k zJa (zI4 K C):=by
 refine zZ ["machine","living","left","right"] λnd d=>?_
 refine⟨_,(zC (zT (zU a d (zA (zU b d (zA (pv 1) (zA (zU c d (zA (pv 0) (zA (pv 3) zF))) zF))) (zA (pv 2) zF)))) zH),?_⟩
 rintro Fa ⟨q0,q1,q2,q3,_⟩
 exact SB.of (yB (zK (zD (zK (zD (zE 1 rfl) (zD (zK (zD (zE 0 rfl) (zD (zE 3 rfl) zL))) zL))) (zD (zE 2 rfl) zL)))) (by simp only[QM,bnd])
def vZ(d:ao C)(j:LI)(k:LI)(h:LI):Option LI:=(xY d h).bind λa=>(((((QM d j k h).bind λn=>some ((n,()))).bind λo=>some (a,o)).bind λm=>some (d,m)).bind λg=>xS g.1 g.2.1 g.2.2.1).bind λb=>((((((Af d a).bind λp=>some ((p,()))).bind λl=>some (b,l)).bind λi=>M5 i.1 i.2.1).bind λf=>some ((f,()))).bind λe=>some (d,e)).bind λc=>xY c.1 c.2.1
abbrev zIa:Df:=⟨"each_till","each_till",jc,["machine","living","left","right"]⟩
abbrev zH0(K:Frag)(C:Addr):Sp:=MF K (@vZ C)
theorem zLw(B:Bl K mg)(d:Ca P w K mg jq k U7 (U8 K C))(e:Ca P w K mg jq k Vb (Vc K C))(a:Ca P w K mg jq k QF (QG K C))(c:Ca P w K mg jq k zJa (zI4 K C))(b:Ca P w K mg jq k Yi (Yj K)):Go P w K mg jq k zIa (zH0 K C):=by
 refine zZ ["machine","living","left","right","waiting","broken"] λh g=>?_
 refine⟨_,(zC (yI 4 h (zU a g (zA (pv 0) (zA (pv 3) zF)))) (zC (yI 5 h (zU d g (zA (pv 0) (zA (pv 4) (zA (zU c g (zA (pv 0) (zA (pv 1) (zA (pv 2) (zA (pv 3) zF))))) zF))))) (zC (zT (zU a g (zA (pv 0) (zA (zU b g (zA (pv 5) (zA (zU e g (zA (pv 0) (zA (pv 4) zF))) zF))) zF)))) zH))),?_⟩
 rintro Fa ⟨q0,q1,q2,q3,_⟩
 exact SB.of (zM (yF true 4 rfl rfl (zK (zD (zE 0 rfl) (zD (zE 3 rfl) zL)))) (λQS=>(zM (yF true 5 rfl rfl (zK (zD (zE 0 rfl) (zD (zE 4 rfl) (zD (zK (zD (zE 0 rfl) (zD (zE 1 rfl) (zD (zE 2 rfl) (zD (zE 3 rfl) zL))))) zL))))) (λVd=>(yB (zK (zD (zE 0 rfl) (zD (zK (zD (zE 5 rfl) (zD (zK (zD (zE 0 rfl) (zD (zE 4 rfl) zL))) zL))) zL)))))))) (by simp only[vZ,bnd])
def yE(a:ao C)(h:LI)(i:bQ cl)(b:List LI):Option LI:=if(gA (.one 1) i.t)=true then((((aJ b 0).bind λa2=>some ((a2,()))).bind λb3=>some (h,b3)).bind λb4=>some (a,b4)).bind λo=>vG o.1 o.2.1 o.2.2.1 else if(gA (.one 2) i.t)=true then((((((((((aJ b 0).bind λa6=>some ((a6,()))).bind λb7=>some (a,b7)).bind λz5=>xY z5.1 z5.2.1).bind λa9=>some ((a9,()))).bind λZ=>some (h,Z)).bind λb11=>some (a,b11)).bind λO=>vG O.1 O.2.1 O.2.2.1).bind λn=>some ((n,()))).bind λI=>some (a,I)).bind λm=>xY m.1 m.2.1 else if(gA (.two 2) i.t)=true then((((aJ b 0).bind λY=>((aJ b 1).bind λq=>some ((q,()))).bind λv=>some (Y,v)).bind λx=>some (h,x)).bind λD=>some (a,D)).bind λd=>wP d.1 d.2.1 d.2.2.1 d.2.2.2.1 else if(gA (.two 3) i.t)=true then((((aJ b 0).bind λa23=>((aJ b 1).bind λH=>some ((H,()))).bind λU=>some (a23,U)).bind λA=>some (h,A)).bind λS=>some (a,S)).bind λc=>vZ c.1 c.2.1 c.2.2.1 c.2.2.2.1 else if(gA (.one 3) i.t)=true then(((aJ b 0).bind λs=>some ((s,()))).bind λT=>some (a,T)).bind λj=>Af j.1 j.2.1 else if(gA (.one 4) i.t)=true then(((((((yO a).bind λp=>(((((aJ b 0).bind λz=>some ((z,()))).bind λN=>some (a,N)).bind λl=>xY l.1 l.2.1).bind λQ=>some ((Q,()))).bind λb36=>some (p,b36)).bind λF=>some (h,F)).bind λM=>some (a,M)).bind λf=>wP f.1 f.2.1 f.2.2.1 f.2.2.2.1).bind λX=>some ((X,()))).bind λE=>some (a,E)).bind λk=>xY k.1 k.2.1 else if(gA (.one 5) i.t)=true then((((yO a).bind λG=>((aJ b 0).bind λu=>some ((u,()))).bind λL=>some (G,L)).bind λR=>some (h,R)).bind λJ=>some (a,J)).bind λe=>wP e.1 e.2.1 e.2.2.1 e.2.2.2.1 else((((yO a).bind λB=>((aJ b 0).bind λa49=>some ((a49,()))).bind λb51=>some (B,b51)).bind λy=>some (h,y)).bind λr=>some (a,r)).bind λg=>vZ g.1 g.2.1 g.2.2.1 g.2.2.2.1
abbrev zAu:Df:=⟨"meaning_over_walks","meaning_over_walks",bY,["machine","living","saying","sets"]⟩
abbrev zAt(K:Frag)(C:Addr)(cl:Hd->Addr):Sp:=MF K (@yE C cl)
theorem zCz(B:Bl K mg)(I:lF P w K mg jq kS cl fi di)(i:Ca P w K mg jq k Vb (Vc K C))(g:Ca P w K mg jq k zIa (zH0 K C))(b:Ca P w K mg jq k wM (wL K C))(d:Ca P w K mg jq k QF (QG K C))(e:Ca P w K mg jq k zH4 (zHu K C))(c:Ca P w K mg jq k zH3 (zHt K C)):Go P w K mg jq k zAu (zAt K C cl):=by
 refine zZ ["machine","living","saying","sets"] λnd h=>?_
 refine⟨_,(zC (xE (nZ (zP (qb K (tD (a:=cl (.one 1)))) rfl B.oG p8 (zA (pv 2) (zA (vP (v:=.ref (cl (.one 1))) rfl (I.ini.m1 1) rfl) zF)))) (zC (zT (zU e h (zA (pv 0) (zA (pv 1) (zA (yV (aM K) (pv 3) zI (λ_ _=>rfl)) zF))))) zH) zH) (zC (xE (nZ (zP (qb K (tD (a:=cl (.one 2)))) rfl B.oG p8 (zA (pv 2) (zA (vP (v:=.ref (cl (.one 2))) rfl (I.ini.m1 2) rfl) zF)))) (zC (zT (zU d h (zA (pv 0) (zA (zU e h (zA (pv 0) (zA (pv 1) (zA (zU d h (zA (pv 0) (zA (yV (aM K) (pv 3) zI (λ_ _=>rfl)) zF))) zF)))) zF)))) zH) zH) (zC (xE (nZ (zP (qb K (tD (a:=cl (.two 2)))) rfl B.oG p8 (zA (pv 2) (zA (vP (v:=.ref (cl (.two 2))) rfl (I.ini.m2 2) rfl) zF)))) (zC (zT (zU c h (zA (pv 0) (zA (pv 1) (zA (yV (aM K) (pv 3) zI (λ_ _=>rfl)) (zA (yV (aM K) (pv 3) zI (λ_ _=>rfl)) zF)))))) zH) zH) (zC (xE (nZ (zP (qb K (tD (a:=cl (.two 3)))) rfl B.oG p8 (zA (pv 2) (zA (vP (v:=.ref (cl (.two 3))) rfl (I.ini.m2 3) rfl) zF)))) (zC (zT (zU g h (zA (pv 0) (zA (pv 1) (zA (yV (aM K) (pv 3) zI (λ_ _=>rfl)) (zA (yV (aM K) (pv 3) zI (λ_ _=>rfl)) zF)))))) zH) zH) (zC (xE (nZ (zP (qb K (tD (a:=cl (.one 3)))) rfl B.oG p8 (zA (pv 2) (zA (vP (v:=.ref (cl (.one 3))) rfl (I.ini.m1 3) rfl) zF)))) (zC (zT (zU i h (zA (pv 0) (zA (yV (aM K) (pv 3) zI (λ_ _=>rfl)) zF)))) zH) zH) (zC (xE (nZ (zP (qb K (tD (a:=cl (.one 4)))) rfl B.oG p8 (zA (pv 2) (zA (vP (v:=.ref (cl (.one 4))) rfl (I.ini.m1 4) rfl) zF)))) (zC (zT (zU d h (zA (pv 0) (zA (zU c h (zA (pv 0) (zA (pv 1) (zA (zU b h (zA (pv 0) zF)) (zA (zU d h (zA (pv 0) (zA (yV (aM K) (pv 3) zI (λ_ _=>rfl)) zF))) zF))))) zF)))) zH) zH) (zC (xE (nZ (zP (qb K (tD (a:=cl (.one 5)))) rfl B.oG p8 (zA (pv 2) (zA (vP (v:=.ref (cl (.one 5))) rfl (I.ini.m1 5) rfl) zF)))) (zC (zT (zU c h (zA (pv 0) (zA (pv 1) (zA (zU b h (zA (pv 0) zF)) (zA (yV (aM K) (pv 3) zI (λ_ _=>rfl)) zF)))))) zH) zH) (zC (zT (zU g h (zA (pv 0) (zA (pv 1) (zA (zU b h (zA (pv 0) zF)) (zA (yV (aM K) (pv 3) zI (λ_ _=>rfl)) zF)))))) zH)))))))),?_⟩
 rintro Fa ⟨q0,q1,q2,q3,_⟩
 exact SB.of (vD (bZ (vV I (.one 1) (zE 2 rfl))) (yB (zK (zD (zE 0 rfl) (zD (zE 1 rfl) (zD (xF (zE 3 rfl) (zJ 0)) zL))))) (vD (bZ (vV I (.one 2) (zE 2 rfl))) (yB (zK (zD (zE 0 rfl) (zD (zK (zD (zE 0 rfl) (zD (zE 1 rfl) (zD (zK (zD (zE 0 rfl) (zD (xF (zE 3 rfl) (zJ 0)) zL))) zL)))) zL)))) (vD (bZ (vV I (.two 2) (zE 2 rfl))) (yB (zK (zD (zE 0 rfl) (zD (zE 1 rfl) (zD (xF (zE 3 rfl) (zJ 0)) (zD (xF (zE 3 rfl) (zJ 1)) zL)))))) (vD (bZ (vV I (.two 3) (zE 2 rfl))) (yB (zK (zD (zE 0 rfl) (zD (zE 1 rfl) (zD (xF (zE 3 rfl) (zJ 0)) (zD (xF (zE 3 rfl) (zJ 1)) zL)))))) (vD (bZ (vV I (.one 3) (zE 2 rfl))) (yB (zK (zD (zE 0 rfl) (zD (xF (zE 3 rfl) (zJ 0)) zL)))) (vD (bZ (vV I (.one 4) (zE 2 rfl))) (yB (zK (zD (zE 0 rfl) (zD (zK (zD (zE 0 rfl) (zD (zE 1 rfl) (zD (zK (zD (zE 0 rfl) zL)) (zD (zK (zD (zE 0 rfl) (zD (xF (zE 3 rfl) (zJ 0)) zL))) zL))))) zL)))) (vD (bZ (vV I (.one 5) (zE 2 rfl))) (yB (zK (zD (zE 0 rfl) (zD (zE 1 rfl) (zD (zK (zD (zE 0 rfl) zL)) (zD (xF (zE 3 rfl) (zJ 0)) zL)))))) (yB (zK (zD (zE 0 rfl) (zD (zE 1 rfl) (zD (zK (zD (zE 0 rfl) zL)) (zD (xF (zE 3 rfl) (zJ 0)) zL))))))))))))) (by simp only[yE,bnd])
def uN(d:ao C)(n:LI)(a:bQ cl)(b:List LI):Option LI:=if(gA .all a.t)=true then yO d else if(gA .mark a.t)=true then(a.name.bind λj=>some ((j,()))).bind λm=>yP d m.1 else if(gA (.one 0) a.t)=true then(((aJ b 0).bind λq=>some ((q,()))).bind λo=>some (d,o)).bind λi=>xY i.1 i.2.1 else if(gA (.two 0) a.t)=true then((aJ b 0).bind λk=>((aJ b 1).bind λl=>some ((l,()))).bind λp=>some (k,p)).bind λh=>vA h.1 h.2.1 else if(gA (.two 1) a.t)=true then((aJ b 0).bind λg=>((aJ b 1).bind λe=>some ((e,()))).bind λf=>some (g,f)).bind λc=>M5 c.1 c.2.1 else yE d n a b
abbrev zMw:Df:=⟨"meaning","meaning",mD,["machine","living","saying","sets"]⟩
abbrev zMs(K:Frag)(C:Addr)(cl:Hd->Addr):Sp:=MF K (@uN C cl)
theorem zQ4(B:Bl K mg)(I:lF P w K mg jq kS cl fi di)(c:Cm P w K mg jq k C zCq (zCo K C))(d:Ca P w K mg jq k wM (wL K C))(b:Ca P w K mg jq k zAu (zAt K C cl))(h:Ca P w K mg jq k QF (QG K C))(g:Ca P w K mg jq k M6 (M7 K))(e:Ca P w K mg jq k Yi (Yj K)):Go P w K mg jq k zMw (zMs K C cl):=by
 refine zZ ["machine","living","saying","sets"] λnd i=>?_
 refine⟨_,(zC (xE (nZ (zP (qb K (tD (a:=cl .all))) rfl B.oG p8 (zA (pv 2) (zA (vP (v:=.ref (cl .all)) rfl I.ini.mA rfl) zF)))) (zC (zT (zU d i (zA (pv 0) zF))) zH) zH) (zC (xE (nZ (zP (qb K (tD (a:=cl .mark))) rfl B.oG p8 (zA (pv 2) (zA (vP (v:=.ref (cl .mark)) rfl I.ini.mM rfl) zF)))) (zC (zT (z9 c i (pv 0) (zA (Cg K (pv 2)) zF))) zH) zH) (zC (xE (nZ (zP (qb K (tD (a:=cl (.one 0)))) rfl B.oG p8 (zA (pv 2) (zA (vP (v:=.ref (cl (.one 0))) rfl (I.ini.m1 0) rfl) zF)))) (zC (zT (zU h i (zA (pv 0) (zA (yV (aM K) (pv 3) zI (λ_ _=>rfl)) zF)))) zH) zH) (zC (xE (nZ (zP (qb K (tD (a:=cl (.two 0)))) rfl B.oG p8 (zA (pv 2) (zA (vP (v:=.ref (cl (.two 0))) rfl (I.ini.m2 0) rfl) zF)))) (zC (zT (zU g i (zA (yV (aM K) (pv 3) zI (λ_ _=>rfl)) (zA (yV (aM K) (pv 3) zI (λ_ _=>rfl)) zF)))) zH) zH) (zC (xE (nZ (zP (qb K (tD (a:=cl (.two 1)))) rfl B.oG p8 (zA (pv 2) (zA (vP (v:=.ref (cl (.two 1))) rfl (I.ini.m2 1) rfl) zF)))) (zC (zT (zU e i (zA (yV (aM K) (pv 3) zI (λ_ _=>rfl)) (zA (yV (aM K) (pv 3) zI (λ_ _=>rfl)) zF)))) zH) zH) (zC (zT (zU b i (zA (pv 0) (zA (pv 1) (zA (pv 2) (zA (pv 3) zF)))))) zH)))))),?_⟩
 rintro Fa ⟨q0,q1,q2,q3,_⟩
 exact SB.of (vD (bZ (vV I .all (zE 2 rfl))) (yB (zK (zD (zE 0 rfl) zL))) (vD (bZ (vV I .mark (zE 2 rfl))) (yB (uQ (by trivial) (zE 0 rfl) (zD (esc (esc (zRn I (zE 2 rfl)))) zL))) (vD (bZ (vV I (.one 0) (zE 2 rfl))) (yB (zK (zD (zE 0 rfl) (zD (xF (zE 3 rfl) (zJ 0)) zL)))) (vD (bZ (vV I (.two 0) (zE 2 rfl))) (yB (zK (zD (xF (zE 3 rfl) (zJ 0)) (zD (xF (zE 3 rfl) (zJ 1)) zL)))) (vD (bZ (vV I (.two 1) (zE 2 rfl))) (yB (zK (zD (xF (zE 3 rfl) (zJ 0)) (zD (xF (zE 3 rfl) (zJ 1)) zL)))) (yB (zK (zD (zE 0 rfl) (zD (zE 1 rfl) (zD (zE 2 rfl) (zD (zE 3 rfl) zL))))))))))) (by simp only[uN,bnd])
def uJ(rec:(ao C)->LI->(bQ cl)->Option (List LI))(i:ao C)(g:LI)(j:bQ cl):Option (List LI):=(some (([]:List LI))).bind λe=>(some (([]:List LI))).bind λc=>((some j.parts).bind λo=>yX (λk n=>((rec i g n).bind λm=>lG k.1 m).bind λa=>((aJ a (-1)).bind λl=>push k.2 l).bind λd=>some (a,d)) o (e,c)).bind λh=>((uN i g j h.2).bind λf=>push h.1 f).bind λb=>some b
def wO:Nat->(ao C)->LI->(bQ cl)->Option (List LI)
 |0=>λ_ _ _=>none
 |n+1=>uJ (wO n)
theorem eO:aF ["machine","living","saying","told","sets","part"] ["machine","living","saying"] (zS cU):=fsc
abbrev Ve(K:Frag)(C:Addr)(cl:Hd->Addr)(rec:(ao C)->LI->(bQ cl)->Option (List LI)):Sp:=lB K false (λa:(ao C)×LI×(bQ cl)×Unit=>([.z a.1,.z a.2.1,.z a.2.2.1]:SL K)) (λa=>rec a.1 a.2.1 a.2.2.1)
abbrev zEy(K:Frag)(C:Addr)(cl:Hd->Addr):Sp:=Ve K C cl (wO 9 )
theorem zIe(F:cF K "table_among" "table_among" cU f p)(B:Bl K mg)(I:lF P w K mg jq kS cl fi di)(b:Ca P w K mg jq k zMw (zMs K C cl))(a:jL P w K mg jq k "table_among" ["machine","living","saying"] (Ve K C cl rec)):aH P w K mg jq bN (k+1) f p ["machine","living","saying"] (Ve K C cl (uJ rec)):=by
 refine Tz F eO (λ_=>rfl) (λ_=>rfl) λcdv A outer s H E m=>?_
 have i:=eO.nd
 refine⟨_,(zC (yI 3 i (wU zF)) (zC (yI 4 i (wU zF)) (zC (xB aas rfl (zZx K (Cg K (pv 2))) (aV 5 i) (zC (yC (jB K aap acp acq Sw (pv 3) (zA (zU a m (zA (pv 0) (zA (pv 1) (zA (pv 5) zF)))) zF))) (zC (yC (jB K aap aaq aar yS (pv 4) (zA (yV (aM K) (pv 3) (uf V6 zI) (λ_ _=>rfl)) zF))) zH))) (zC (yC (jB K aap aaq aar yS (pv 3) (zA (zU b m (zA (pv 0) (zA (pv 1) (zA (pv 2) (zA (pv 4) zF))))) zF))) (zC (zT (pv 3)) zH))))),?_⟩
 rintro Fa ⟨j,o,l,_⟩
 exact SB.of (zM (uX true 3 rfl rfl (nO (α:=LI))) (λc=>(zM (uX true 4 rfl rfl (nO (α:=LI))) (λe=>(zM (xT (n:=false) (L:=(λg:(List LI)×(List LI)=>([.z j,.z o,.z l,.ow true g.1,.ow true g.2,.un]:SL K))) (c,e) aK (zYe I (yJ 2 rfl)) (λg=>(yG 5 rfl rfl)) (λg x5=>(zN (XH 3 rfl rfl (zK (zD (zE 0 rfl) (zD (zE 1 rfl) (zD (zE 5 rfl) zL))))) (λd=>(zN (xH 4 rfl rfl (Je 3 rfl (Xk (zJ 1)))) (λh=>(zW (λg:(List LI)×(List LI)=>([.z j,.z o,.z l,.ow true g.1,.ow true g.2,.un]:SL K)) (d,h) aK))))))) (λs4=>(zM (xH 3 rfl rfl (zK (zD (zE 0 rfl) (zD (zE 1 rfl) (zD (zE 2 rfl) (zD (xN 4 rfl) zL)))))) (λYk=>(vh 3 rfl rfl))))))))) (by unfold uJ;simp only[bnd])
def Vf(b:ao C)(c:bQ cl):Option (List LI):=(((M9 b).bind λe=>some ((e,(c,())))).bind λd=>some (b,d)).bind λa=>wO 9 a.1 a.2.1 a.2.2.1
abbrev zV5:Df:=⟨"table","table",qY,["machine","saying"]⟩
abbrev zV1(K:Frag)(C:Addr)(cl:Hd->Addr):Sp:=gq K (@Vf C cl)
theorem zXf(B:Bl K mg)(b:Ca P w K mg jq k zV8 (zV4 K C))(a:jL P w K mg jq k "table_among" ["machine","living","saying"] (zEy K C cl)):Go P w K mg jq k zV5 (zV1 K C cl):=by
 refine zZ ["machine","saying"] λnd c=>?_
 refine⟨_,(zC (zT (zU a c (zA (pv 0) (zA (zU b c (zA (pv 0) zF)) (zA (pv 1) zF))))) zH),?_⟩
 rintro Fa ⟨q0,q1,_⟩
 exact SB.of (yB (zK (zD (zE 0 rfl) (zD (zK (zD (zE 0 rfl) zL)) (zD (zE 1 rfl) zL))))) (by simp only[Vf,bnd])
def G4(b:ao C)(c:bQ cl):Option LI:=(Vf b c).bind λa=>aJ a (-1)
abbrev zV7:Df:=⟨"holds","holds",qZ,["machine","saying"]⟩
abbrev zV3(K:Frag)(C:Addr)(cl:Hd->Addr):Sp:=gq K (@G4 C cl)
theorem zXh(B:Bl K mg)(a:Ca P w K mg jq k zV5 (zV1 K C cl)):Go P w K mg jq k zV7 (zV3 K C cl):=by
 refine zZ ["machine","saying"] λnd c=>?_
 refine⟨_,(zC (zT (yV (aM K) (zU a c (zA (pv 0) (zA (pv 1) zF))) (uf V6 zI) (λ_ _=>rfl))) zH),?_⟩
 rintro Fa ⟨q0,q1,_⟩
 exact SB.of (yB (xF (zK (zD (zE 0 rfl) (zD (zE 1 rfl) zL))) (Xk (zJ 1)))) (by simp only[G4,bnd])
end
end Ts
set_option maxHeartbeats 40000000
namespace Ts
open PySem L2 Sy
section
variable{P:Program}{w:World}{K:Frag}{mg:Str->Option Value}{jq:Heap}
seal L2.PE L2.PT L2.PW L2.PA L2.PS L2.jH L2.PC L2.PG L2.Av L2.PI L2.mZ L2.PO
def yD(b:iD)(a:Int):Option Int:=if(decide (a<(b.ns.length:Int)))=true then aJ b.ns a else some 0
abbrev uB:Df:=⟨"_law_cell_at","_law_cell_at",je,["_law_script","_law_k"]⟩
abbrev uA(K:Frag):Sp:=gq K yD
theorem zLv(B:Bl K mg):Go P w K mg jq k uB (uA K):=by
 refine zZ ["_law_script","_law_k"] λnd hr=>?_
 refine⟨_,(zC (xE (yH Lz (pv 1) (zP (xL K) rfl B.len aay (zA (pv 0) zF)) (xD _)) (zC (zT (yV (aM K) (pv 0) (pv 1) (λ_ _=>rfl))) zH) zH) (zC (zT zI) zH)),?_⟩
 rintro Fa ⟨q0,q1,_⟩
 exact SB.of (vD (bw (Pa (zG 1 rfl) (BW (zE 0 rfl)))) (yB (esc (Jh (zE 0 rfl) (zG 1 rfl)))) (yB (esc (zJ 0)))) rfl
def wI(b:Int)(d:Int):Option Int:=((((vo 10 40).bind λe=>aO b e).bind λf=>mulM f 6364136223846793013).bind λa=>(mulM (d+1) 1442695040888963407).bind λc=>some (a+c)).bind λg=>aZ g 97
abbrev M_:Df:=⟨"_law_mixed","_law_mixed",mF,["_law_cell","_law_k"]⟩
abbrev Nb(K:Frag):Sp:=gq K wI
theorem zQ5(B:Bl K mg):Go P w K mg jq k M_ (Nb K):=by
 refine zZ ["_law_cell","_law_k"] λnd hr=>?_
 refine⟨_,(zC (zT (zY xA (zY uY (zY V5 (zY yY (pv 0) (zY HY zI zI)) zI) (zY V5 (zY uY (pv 1) zI) zI)) zI)) zH),?_⟩
 rintro Fa ⟨q0,q1,_⟩
 exact SB.of (yB (esc (wE (uZ (W7 (yZ (zG 0 rfl) (Jd (zJ 10) (zJ 40))) (zJ 6364136223846793013)) (W7 (uZ (zG 1 rfl) (zJ 1)) (zJ 1442695040888963407))) (zJ 97)))) rfl
def wC(o:Int)(x:Int):Option Str:=(some ("abcdefghijklmnopqrstuvwxyz":Str)).bind λd=>(some ("":Str)).bind λh=>(aZ o 16).bind λi=>((((aZ o 2).bind λz=>aO z 8).bind λy=>aX y).bind λv=>yX (λk x6=>(((aO k.2 26).bind λs=>Dd d s).bind λt=>jW k.1 t).bind λg=>(aZ k.2 26).bind λf=>some (g,f)) v (h,i)).bind λl=>((aO (l.2+x) 26).bind λr=>Dd d r).bind λb=>(((jW b l.1).bind λn=>((jW l.1 b).bind λj=>some (j::([]))).bind λu=>some (n::u)).bind λp=>(aO o 2).bind λq=>aJ p q).bind λa=>(some ([("all":Str),("not":Str),("both":Str),("either":Str),("somenext":Str),("eachnext":Str),("sometill":Str),("eachtill":Str),("someever":Str),("eachever":Str)])).bind λc=>(if(decide (a∈c))=true then(Dg a (-1)).bind λe=>some e else some a).bind λm=>some m
abbrev Vg:Df:=⟨"_law_name_by","_law_name_by",jf,["_law_cell","_law_k"]⟩
abbrev Vh(K:Frag):Sp:=gq K wC
theorem zLr(B:Bl K mg):Go P w K mg jq k Vg (Vh K):=by
 refine zZ ["_law_cell","_law_k","_law_some","_law_tail","_law_rest","_law_turn","_law_sign","_law_made","_law_words"] λe hr=>?_
 refine⟨_,(zC (yI 2 e wT) (zC (yI 3 e wT) (zC (yI 4 e (zY xA (pv 0) zI)) (zC (xB aas rfl (xW rfl B.range (zA (zY yY (zY xA (pv 0) zI) zI) zF)) (aV 5 e) (zC (yI 3 e (zY XJ (pv 3) (zZi (pv 2) (zY yY (pv 4) zI) (λ_ _=>rfl)))) (zC (yI 4 e (zY xA (pv 4) zI)) zH))) (zC (yI 6 e (zZi (pv 2) (zY yY (zY uY (pv 4) (pv 1)) zI) (λ_ _=>rfl))) (zC (yI 7 e (yV (aM K) (wU (zA (zY XJ (pv 6) (pv 3)) (zA (zY XJ (pv 3) (pv 6)) zF))) (zY yY (pv 0) zI) (λ_ _=>rfl))) (zC (yI 8 e (wU (zA wT (zA wT (zA wT (zA wT (zA wT (zA wT (zA wT (zA wT (zA wT (zA wT zF)))))))))))) (zC (xE (yH (Pr K) (pv 7) (pv 8) (by with_unfolding_all rfl)) (zC (yI 7 e (Sv JX (pv 7) Wg (Og (uf V6 zI)))) zH) zH) (zC (zT (pv 7)) zH))))))))),?_⟩
 rintro Fa ⟨t,u,_⟩
 exact SB.of (zM (yF true 2 rfl rfl (esc (p7 "abcdefghijklmnopqrstuvwxyz"))) (λb=>(zM (yF true 3 rfl rfl (esc (p7 ""))) (λq=>(zM (yF true 4 rfl rfl (esc (wE (zG 0 rfl) (zJ 16)))) (λp=>(zM (xT (n:=true) (L:=(λm:Str×Int=>([.z t,.z u,.y b,.y m.1,.y m.2,.un,.un,.un,.un]:SL K))) (q,p) aK (vC (yZ (wE (zG 0 rfl) (zJ 2)) (zJ 8))) (λm=>(yG 5 rfl rfl)) (λm x6=>(zN (yF true 3 rfl rfl (esc (XM (zG 3 rfl) (esc (zZ1 (zG 2 rfl) (yZ (zG 4 rfl) (zJ 26))))))) (λl=>(zN (yF true 4 rfl rfl (esc (wE (zG 4 rfl) (zJ 26)))) (λi=>(zW (λm:Str×Int=>([.z t,.z u,.y b,.y m.1,.y m.2,.un,.un,.un,.un]:SL K)) (l,i) aK))))))) (λr=>(zM (yF true 6 rfl rfl (esc (esc (zZ1 (zG 2 rfl) (yZ (uZ (zG 4 rfl) (zG 1 rfl)) (zJ 26)))))) (λd=>(zM (yF true 7 rfl rfl (esc (esc (xF (S8 (uR (esc (XM (zG 6 rfl) (zG 3 rfl))) (uR (esc (XM (zG 3 rfl) (zG 6 rfl))) S7)) (λa h=>aa0 ((qQ (qQ Tv)) a h) (by decide))).ex (yZ (zG 0 rfl) (zJ 2)))))) (λj=>(zM (yF true 8 rfl rfl (S8 (uR (esc (p7 "all")) (uR (esc (p7 "not")) (uR (esc (p7 "both")) (uR (esc (p7 "either")) (uR (esc (p7 "somenext")) (uR (esc (p7 "eachnext")) (uR (esc (p7 "sometill")) (uR (esc (p7 "eachtill")) (uR (esc (p7 "someever")) (uR (esc (p7 "eachever")) S7)))))))))) (λa h=>aa0 ((qQ (qQ (qQ (qQ (qQ (qQ (qQ (qQ (qQ (qQ Tv)))))))))) a h) (by decide))).ex) (λc=>(zM (jy (bw (Tf (zG 7 rfl) (zE 8 rfl))) (zN (yF true 7 rfl rfl (esc (esc (Dh (zG 7 rfl) (Xk (zJ 1)))))) (λg=>(zW (λo:Str=>([.z t,.z u,.y b,.y r.1,.y r.2,.un,.y d,.y o,.y c]:SL K)) g aK))) (zW (λo:Str=>([.z t,.z u,.y b,.y r.1,.y r.2,.un,.y d,.y o,.y c]:SL K)) j aK)) (λs22=>(yB (esc (zG 7 rfl))))))))))))))))))) rfl
def wB(m:Int)(l:Int):Option LI:=(some ([]:LI)).bind λc=>((aX l).bind λk=>yX (λf o=>(((aO f.2 3).bind λn=>some (decide (n=0))).bind λb=>if b=true then(push f.1 o).bind λd=>some d else some f.1).bind λj=>(aZ f.2 3).bind λe=>some (j,e)) k (c,m)).bind λi=>(((aO i.2 2).bind λg=>some (decide (g=1))).bind λb=>if b=true then(some i.1.reverse).bind λa=>some a else some i.1).bind λh=>some h
abbrev Vi:Df:=⟨"_law_some_of","_law_some_of",jg,["_law_rest","_law_many"]⟩
abbrev Vj(K:Frag):Sp:=gq K wB
theorem zLp(B:Bl K mg):Go P w K mg jq k Vi (Vj K):=by
 refine zZ ["_law_rest","_law_many","_law_found","_law_k"] λi m=>?_
 refine⟨_,(zC (yI 2 i (wU zF)) (zC (xB aas rfl (xW rfl B.range (zA (pv 1) zF)) (aV 3 i) (zC (xE (yH (wJ K Int m) (zY yY (pv 0) zI) zI (xD _)) (zC (yC (jB K aap aaq aar yS (pv 2) (zA (pv 3) zF))) zH) zH) (zC (yI 0 i (zY xA (pv 0) zI)) zH))) (zC (xE (yH (wJ K Int m) (zY yY (pv 0) zI) zI (xD _)) (zC (yC (Xc K aap ac9 ada Wn (pv 2))) zH) zH) (zC (zT (pv 2)) zH)))),?_⟩
 rintro Fa ⟨p,h,_⟩
 exact SB.of (zM (uX true 2 rfl rfl (nO (α:=Int))) (λd=>(zM (xT (n:=true) (L:=(λb:LI×Int=>([.z b.2,.z h,.ow true b.1,.un]:SL K))) (d,p) aK (vC (zG 1 rfl)) (λb=>(yG 3 rfl rfl)) (λb o=>(zN (jy (bw (wK (yZ (zG 0 rfl) (zJ 3)) (zJ 0))) (zN (xH 2 rfl rfl (esc (zG 3 rfl))) (λc=>(zW (λl:LI=>([.z b.2,.z h,.ow true l,.y o]:SL K)) c aK))) (zW (λl:LI=>([.z b.2,.z h,.ow true l,.y o]:SL K)) b.1 aK)) (λr=>(zN (yF true 0 rfl rfl (esc (wE (zG 0 rfl) (zJ 3)))) (λg=>(zW (λb:LI×Int=>([.z b.2,.z h,.ow true b.1,.un]:SL K)) (r,g) (Le.old aK)))))))) (λj=>(zM (jy (bw (wK (yZ (zG 0 rfl) (zJ 2)) (zJ 1))) (zN (XR 2 rfl rfl) (λa=>(zW (λe:LI=>([.z j.2,.z h,.ow true e,.un]:SL K)) a aK))) (zW (λe:LI=>([.z j.2,.z h,.ow true e,.un]:SL K)) j.1 aK)) (λs11=>(vh 2 rfl rfl))))))) rfl
def uE(q0:iD)(n:LI)(D:Int):Option (aN Int):=(yD q0 2).bind λoH=>(some (([]:List LI))).bind λm=>((aX D).bind λq=>yX (λs3 x5=>(((aX (n.length:Int)).bind λq=>xG (λx7=>(aJ n x7).bind λa8=>some (decide (a8=x5))) (λx7=>some x7) q).bind λa9=>push s3 a9).bind λk=>some k) q m).bind λx=>(some (fX.mk [])).bind λi=>((aX (n.length:Int)).bind λq=>yX (λs11 s=>(((((aJ n s).bind λb15=>some (50+b15)).bind λa17=>some ((a17,()))).bind λG=>some (oH,G)).bind λv=>wI v.1 v.2.1).bind λg=>(wB g D).bind λd=>(if(decide ((d.length:Int)=0))=true then((aO g D).bind λO=>some (O::([]))).bind λh=>some h else some d).bind λs20=>(some ([]:LI)).bind λo=>((some s20).bind λq=>yX (λs25 j=>(((yD q0 (6+s)).bind λY=>some ((Y,(100+j,())))).bind λu=>wI u.1 u.2.1).bind λf=>(((aJ x j).bind λZ=>(((aJ x j).bind λz=>some (z.length:Int)).bind λQ=>aO f Q).bind λb35=>aJ Z b35).bind λE=>push s25 E).bind λe=>((aJ x j).bind λS=>((aZ f 64).bind λR=>((aJ x j).bind λH=>some (H.length:Int)).bind λYm=>aO R Ym).bind λI=>aJ S I).bind λc=>(if(!decide (c∈e))=true then(push e c).bind λp=>some p else some e).bind λU=>some U) q o).bind λA=>(Ut s11 A).bind λl=>some l) q i).bind λr=>(((yD q0 3).bind λT=>some ((T,(7,())))).bind λt=>wI t.1 t.2.1).bind λa=>((((aO a 3).bind λy=>some (decide (y=0))).bind λM=>if M=true then((aZ a 3).bind λJ=>aO J (n.length:Int)).bind λa55=>((((aZ a 3).bind λa51=>aZ a51 64).bind λa52=>aO a52 (n.length:Int)).bind λC=>aJ r.xss C).bind λX=>some (!decide (a55∈X)) else some false).bind λb=>if b=true then((((aZ a 3).bind λa61=>aZ a61 64).bind λB=>aO B (n.length:Int)).bind λa64=>((aZ a 3).bind λL=>aO L (n.length:Int)).bind λN=>Qo r a64 N).bind λF=>some F else some r).bind λQT=>some (aN.mk QT.xss)
abbrev zF5:Df:=⟨"_law_steps_by","_law_steps_by",ig,["_law_script","_law_maps","_law_bases"]⟩
abbrev zF2(K:Frag):Sp:=G3 K uE
theorem zJ4(B:Bl K mg)(b:Ca P w K mg jq k uB (uA K))(d:Ca P w K mg jq k M_ (Nb K))(j:Ca P w K mg jq k Vi (Vj K)):Go P w K mg jq k zF5 (zF2 K):=by
 refine zZ ["_law_script","_law_maps","_law_bases","_law_kept","_law_places","_law_base","_law_steps","_law_stand","_law_rest","_law_goals","_law_row","_law_goal","_law_more","_law_second"] λp N=>?_
 refine⟨_,(zC (yI 3 p (zU b N (zA (pv 0) (zA zI zF)))) (zC (yI 4 p (wU zF)) (zC (xB aas rfl (xW rfl B.range (zA (pv 2) zF)) (aV 5 p) (zC (yC (jB K aap aaq aar yS (pv 4) (zA (wX (own:=["_law_stand"]) (ix:=[1,5]) rfl rfl rfl (xW rfl B.range (zA (zP (xL K) rfl B.len aay (zA (pv 1) zF)) zF)) (λC s H fp=>yM (i:=0) (show(["_law_stand","_law_maps","_law_base"]:List Str).Nodup from by trivial) rfl (Or.inl rfl)) (λC s H fp=>Bv (yH (wJ K Int N) (yV (aM K) (pv 1) (pv 0) (λ_ _=>rfl)) (pv 2) (xD _))) (λC s H fp=>(pv 0))) zF))) zH)) (zC (yI 6 p (wU zF)) (zC (xB aas rfl (xW rfl B.range (zA (zP (xL K) rfl B.len aay (zA (pv 1) zF)) zF)) (aV 7 p) (zC (yI 8 p (zU d N (zA (pv 3) (zA (zY uY zI (yV (aM K) (pv 1) (pv 7) (λ_ _=>rfl))) zF)))) (zC (yI 9 p (zU j N (zA (pv 8) (zA (pv 2) zF)))) (zC (xE (yH (wJ K Int N) (zP (xL K) rfl B.len aay (zA (pv 9) zF)) zI (xD _)) (zC (yI 9 p (wU (zA (zY yY (pv 8) (pv 2)) zF))) zH) zH) (zC (yI 10 p (wU zF)) (zC (xB aas rfl (yR K (pv 9)) (aV 11 p) (zC (yI 12 p (zU d N (zA (zU b N (zA (pv 0) (zA (zY uY zI (pv 7)) zF))) (zA (zY uY zI (pv 11)) zF)))) (zC (yC (jB K aap aaq aar yS (pv 10) (zA (yV (aM K) (yV (aM K) (pv 4) (pv 11) (λ_ _=>rfl)) (zY yY (pv 12) (zP (xL K) rfl B.len aay (zA (yV (aM K) (pv 4) (pv 11) (λ_ _=>rfl)) zF))) (λ_ _=>rfl)) zF))) (zC (yI 13 p (yV (aM K) (yV (aM K) (pv 4) (pv 11) (λ_ _=>rfl)) (zY yY (zY xA (pv 12) zI) (zP (xL K) rfl B.len aay (zA (yV (aM K) (pv 4) (pv 11) (λ_ _=>rfl)) zF))) (λ_ _=>rfl))) (zC (xE (yH (Pu K) (pv 13) (pv 10) (by with_unfolding_all rfl)) (zC (yC (jB K aap aaq aar yS (pv 10) (zA (pv 13) zF))) zH) zH) zH))))) (zC (yC (jB K aap aaq aar yS (pv 6) (zA (pv 10) zF))) zH))))))) (zC (yI 8 p (zU d N (zA (zU b N (zA (pv 0) (zA zI zF))) (zA zI zF)))) (zC (xE (PW.pt (pw_and (yH (wJ K Int N) (zY yY (pv 8) zI) zI (xD _)) (pw_and1 (yH (Pu K) (zY yY (zY xA (pv 8) zI) (zP (xL K) rfl B.len aay (zA (pv 1) zF))) (yV (aM K) (pv 6) (zY yY (zY xA (zY xA (pv 8) zI) zI) (zP (xL K) rfl B.len aay (zA (pv 1) zF))) (λ_ _=>rfl)) (by with_unfolding_all rfl))))) (zC (yC (jB K aap aaq aar yS (yV (aM K) (pv 6) (zY yY (zY xA (zY xA (pv 8) zI) zI) (zP (xL K) rfl B.len aay (zA (pv 1) zF))) (λ_ _=>rfl)) (zA (zY yY (zY xA (pv 8) zI) (zP (xL K) rfl B.len aay (zA (pv 1) zF))) zF))) zH) zH) (zC (zT (pv 6)) zH)))))))),?_⟩
 rintro Fa ⟨t,q,r,_⟩
 exact SB.of (zM (yF true 3 rfl rfl (esc (zK (zD (zE 0 rfl) (zD (esc (zJ 2)) zL))))) (λoH=>(zM (uX true 4 rfl rfl (nO (α:=LI))) (λv=>(zM (xT (n:=true) (L:=(λZ:List LI=>([.z t,.z q,.z r,.y oH,.ow true Z,.un,.un,.un,.un,.un,.un,.un,.un,.un]:SL K))) v aK (vC (zG 2 rfl)) (λZ=>(yG 5 rfl rfl)) (λZ x5=>(zN (xH 4 rfl rfl (xJ (n:=true) (gG:=[.un,.z q,.y x5]) (no:=1) (ix:=[1,5]) rfl rfl (vC (xP (zE 1 rfl))) (yG 0 rfl rfl) (λx7=>(bw (wK (esc (xF (zE 1 rfl) (zG 0 rfl))) (zG 2 rfl)))) (λx7=>(esc (zG 0 rfl))) (λx7=>cI)).ex) (λx=>(zW (λZ:List LI=>([.z t,.z q,.z r,.y oH,.ow true Z,.un,.un,.un,.un,.un,.un,.un,.un,.un]:SL K)) x aK))))) (λM=>(zM (Pn 6 rfl rfl Dn) (λG=>(zM (xT (n:=true) (L:=(λe:fX=>([.z t,.z q,.z r,.y oH,.ow true M,.un,.nu (e:fX),.un,.un,.un,.un,.un,.un,.un]:SL K))) G aK (vC (xP (zE 1 rfl))) (λe=>(yG 7 rfl rfl)) (λe o=>(zN (yF true 8 rfl rfl (esc (zK (zD (esc (zG 3 rfl)) (zD (esc (uZ (zJ 50) (esc (xF (zE 1 rfl) (zG 7 rfl))))) zL))))) (λc=>(zN (yF true 9 rfl rfl (zK (zD (esc (zG 8 rfl)) (zD (esc (zG 2 rfl)) zL)))) (λI=>(zN (jy (bw (wK (xP (zE 9 rfl)) (zJ 0))) (zN (yF true 9 rfl rfl (S8 (uR (esc (yZ (zG 8 rfl) (zG 2 rfl))) S7) (λa h=>aa0 ((qQ Tv) a h) (by decide))).ex) (λu=>(zW (λR:LI=>([.z t,.z q,.z r,.y oH,.ow true M,.un,.nu (e:fX),.y o,.y c,.y R,.un,.un,.un,.un]:SL K)) u aK))) (zW (λR:LI=>([.z t,.z q,.z r,.y oH,.ow true M,.un,.nu (e:fX),.y o,.y c,.y R,.un,.un,.un,.un]:SL K)) I aK)) (λO=>(zN (uX true 10 rfl rfl (nO (α:=Int))) (λT=>(zN (xT (n:=true) (L:=(λJ:LI=>([.z t,.z q,.z r,.y oH,.ow true M,.un,.nu (e:fX),.y o,.y c,.y O,.ow true J,.un,.un,.un]:SL K))) T aK (yT (yJ 9 rfl)) (λJ=>(yG 11 rfl rfl)) (λJ Y=>(zN (yF true 12 rfl rfl (esc (zK (zD (esc (zK (zD (zE 0 rfl) (zD (esc (uZ (zJ 6) (zG 7 rfl))) zL)))) (zD (esc (uZ (zJ 100) (zG 11 rfl))) zL))))) (λm=>(zN (xH 10 rfl rfl (esc (esc (xF (xF (xN 4 rfl) (zG 11 rfl)) (yZ (zG 12 rfl) (xP (xF (xN 4 rfl) (zG 11 rfl)))))))) (λQ=>(zN (yF true 13 rfl rfl (esc (esc (xF (xF (xN 4 rfl) (zG 11 rfl)) (yZ (wE (zG 12 rfl) (zJ 64)) (xP (xF (xN 4 rfl) (zG 11 rfl)))))))) (λg=>(zN (jy (bw (Pb (zG 13 rfl) (xN 10 rfl))) (zN (xH 10 rfl rfl (esc (zG 13 rfl))) (λS=>(zW (λU:LI=>([.z t,.z q,.z r,.y oH,.ow true M,.un,.nu (e:fX),.y o,.y c,.y O,.ow true U,.y Y,.y m,.y g]:SL K)) S aK))) (zW (λU:LI=>([.z t,.z q,.z r,.y oH,.ow true M,.un,.nu (e:fX),.y o,.y c,.y O,.ow true U,.y Y,.y m,.y g]:SL K)) Q aK)) (λs43=>(zW (λJ:LI=>([.z t,.z q,.z r,.y oH,.ow true M,.un,.nu (e:fX),.y o,.y c,.y O,.ow true J,.un,.un,.un]:SL K)) s43 aK))))))))))) (λs26=>(zN (Dp 6 10 rfl rfl (by decide) rfl) (λD=>(zW (λe:fX=>([.z t,.z q,.z r,.y oH,.ow true M,.un,.nu (e:fX),.un,.un,.un,.un,.un,.un,.un]:SL K)) D aK))))))))))))))) (λs12=>(zM (yF true 8 rfl rfl (esc (zK (zD (esc (zK (zD (zE 0 rfl) (zD (esc (zJ 3)) zL)))) (zD (esc (zJ 7)) zL))))) (λl=>(zM (jy (OD (bw (wK (yZ (zG 8 rfl) (zJ 3)) (zJ 0))) (bw (Pb (yZ (wE (zG 8 rfl) (zJ 3)) (xP (zE 1 rfl))) (xF (zX8 6 rfl) (yZ (wE (wE (zG 8 rfl) (zJ 3)) (zJ 64)) (xP (zE 1 rfl))))))) (zN (zSs 6 rfl rfl (yZ (wE (wE (zG 8 rfl) (zJ 3)) (zJ 64)) (xP (zE 1 rfl))) (yZ (wE (zG 8 rfl) (zJ 3)) (xP (zE 1 rfl)))) (λQV=>(zW (λX:fX=>([.z t,.z q,.z r,.y oH,.ow true M,.un,.nu (X:fX),.un,.y l,.un,.un,.un,.un,.un]:SL K)) QV aK))) (zW (λX:fX=>([.z t,.z q,.z r,.y oH,.ow true M,.un,.nu (X:fX),.un,.y l,.un,.un,.un,.un,.un]:SL K)) s12 aK)) (λQT=>(zW1 6 rfl))))))))))))))) (by simp only[uE,bnd])
def QW(h:Int)(p:Int)(i:LI)(u:Int):Option LI:=((((wI h (200+p)).bind λx=>aZ x (1+p)).bind λA=>some ((A,(u,())))).bind λs=>wB s.1 s.2.1).bind λg=>((aX (i.length:Int)).bind λz=>xG (λl=>(aJ i l).bind λv=>some (decide (v∈g))) (λl=>some l) z).bind λc=>((((aZ h 7).bind λt=>aO t 2).bind λy=>some (decide (y=1))).bind λb=>if b=true then(some c.reverse).bind λd=>some d else some c).bind λf=>(((((aZ h 14).bind λj=>aO j 5).bind λo=>(aO p 9).bind λr=>some (decide (o=r))).bind λk=>if k=true then some (decide (1<(i.length:Int))) else some false).bind λb=>if b=true then((aZ h 70).bind λm=>aO m (i.length:Int)).bind λa=>(if(!decide (a∈f))=true then(push f a).bind λe=>some e else some f).bind λn=>some n else some f).bind λq=>some q
abbrev zH6:Df:=⟨"_law_sets_by","_law_sets_by",jh,["_law_cell","_law_k","_law_maps","_law_bases"]⟩
abbrev zHw(K:Frag):Sp:=MF K QW
theorem zLq(B:Bl K mg)(d:Ca P w K mg jq k M_ (Nb K))(b:Ca P w K mg jq k Vi (Vj K)):Go P w K mg jq k zH6 (zHw K):=by
 refine zZ ["_law_cell","_law_k","_law_maps","_law_bases","_law_goals","_law_found","_law_stand"] λx u=>?_
 refine⟨_,(zC (yI 4 x (zU b u (zA (zY xA (zU d u (zA (pv 0) (zA (zY uY zI (pv 1)) zF))) (zY uY zI (pv 1))) (zA (pv 3) zF)))) (zC (Gd (i:=5) (own:=["_law_stand"]) (ix:=[2,4]) x rfl rfl rfl rfl rfl (xW rfl B.range (zA (zP (xL K) rfl B.len aay (zA (pv 2) zF)) zF)) (λC s H D=>yM (i:=0) (show(["_law_stand","_law_maps","_law_goals"]:List Str).Nodup from by trivial) rfl (Or.inl rfl)) (λC s H D=>Bv (yH (Pr K) (yV (aM K) (pv 1) (pv 0) (λ_ _=>rfl)) (pv 2) (by with_unfolding_all rfl))) (λC s H D=>(pv 0))) (zC (xE (yH (wJ K Int u) (zY yY (zY xA (pv 0) zI) zI) zI (xD _)) (zC (yC (Xc K aap ac9 ada Wn (pv 5))) zH) zH) (zC (xE (PW.pt (pw_and (yH (wJ K Int u) (zY yY (zY xA (pv 0) zI) zI) (zY yY (pv 1) zI) (xD _)) (pw_and1 (yH FW (zP (xL K) rfl B.len aay (zA (pv 2) zF)) zI (xD _))))) (zC (yI 6 x (zY yY (zY xA (pv 0) zI) (zP (xL K) rfl B.len aay (zA (pv 2) zF)))) (zC (xE (yH (Pu K) (pv 6) (pv 5) (by with_unfolding_all rfl)) (zC (yC (jB K aap aaq aar yS (pv 5) (zA (pv 6) zF))) zH) zH) zH)) zH) (zC (zT (pv 5)) zH))))),?_⟩
 rintro Fa ⟨q,p,j,r,_⟩
 exact SB.of (zM (yF true 4 rfl rfl (zK (zD (esc (wE (zK (zD (esc (zG 0 rfl)) (zD (esc (uZ (zJ 200) (zG 1 rfl))) zL))) (uZ (zJ 1) (zG 1 rfl)))) (zD (esc (zG 3 rfl)) zL)))) (λa=>(zM (uX true 5 rfl rfl (xJ (n:=true) (gG:=[.un,.z j,.y a]) (no:=1) (ix:=[2,4]) rfl rfl (vC (xP (zE 2 rfl))) (yG 0 rfl rfl) (λG=>(bw (Tf (esc (xF (zE 1 rfl) (zG 0 rfl))) (zE 2 rfl)))) (λG=>(esc (zG 0 rfl))) (λG=>cI))) (λh=>(zM (jy (bw (wK (yZ (wE (zG 0 rfl) (zJ 7)) (zJ 2)) (zJ 1))) (zN (XR 5 rfl rfl) (λg=>(zW (λm:LI=>([.z q,.z p,.z j,.z r,.y a,.ow true m,.un]:SL K)) g aK))) (zW (λm:LI=>([.z q,.z p,.z j,.z r,.y a,.ow true m,.un]:SL K)) h aK)) (λt=>(zM (jy (OD (bw (wK (yZ (wE (zG 0 rfl) (zJ 14)) (zJ 5)) (yZ (zG 1 rfl) (zJ 9)))) (bw (Gi (xP (zE 2 rfl)) (zJ 1)))) (zN (yF true 6 rfl rfl (esc (yZ (wE (zG 0 rfl) (zJ 70)) (xP (zE 2 rfl))))) (λc=>(zN (jy (bw (Pb (zG 6 rfl) (xN 5 rfl))) (zN (xH 5 rfl rfl (esc (zG 6 rfl))) (λe=>(zW (λo:LI=>([.z q,.z p,.z j,.z r,.y a,.ow true o,.y c]:SL K)) e aK))) (zW (λo:LI=>([.z q,.z p,.z j,.z r,.y a,.ow true o,.y c]:SL K)) t aK)) (λv=>(zW (λl:LI=>([.z q,.z p,.z j,.z r,.y a,.ow true l,.un]:SL K)) v aK))))) (zW (λl:LI=>([.z q,.z p,.z j,.z r,.y a,.ow true l,.un]:SL K)) t aK)) (λs17=>(vh 5 rfl rfl))))))))) (by simp only[QW,bnd])
def Vk(h:iD):Option (LI×Int):=(((yD h 0).bind λy=>aO y 8).bind λD=>some (1+D)).bind λg=>(((((yD h 0).bind λA=>aZ A 8).bind λB=>aO B 8).bind λC=>some (decide (C=5))).bind λb=>if b=true then((((yD h 0).bind λn=>aZ n 64).bind λs=>aO s 20).bind λv=>some (1+v)).bind λe=>some e else some g).bind λx=>(((yD h 1).bind λm=>aO m x).bind λk=>some (1+k)).bind λa=>(some ([]:LI)).bind λc=>((aX x).bind λz=>yX (λj f=>(((((((yD h 1).bind λr=>some ((r,(f,())))).bind λi=>wI i.1 i.2.1).bind λo=>aO o a).bind λl=>(mulM a (if(decide (f<a))=true then 1 else 0)).bind λp=>some (l+p)).bind λt=>some (min f t)).bind λu=>push j u).bind λd=>some d) z c).bind λq=>some (q,a)
abbrev zH7:Df:=⟨"_law_maps_by","_law_maps_by",ji,["_law_script"]⟩
abbrev zHx(K:Frag):Sp:=tK K Vk
theorem zLs(B:Bl K mg)(o:mg "min" = none)(a:Ca P w K mg jq k uB (uA K))(c:Ca P w K mg jq k M_ (Nb K)):Go P w K mg jq k zH7 (zHx K):=by
 refine zZ ["_law_script","_law_many","_law_bases","_law_maps","_law_stand"] λl j=>?_
 refine⟨_,(zC (yI 1 l (zY uY zI (zY yY (zU a j (zA (pv 0) (zA zI zF))) zI))) (zC (xE (yH (wJ K Int j) (zY yY (zY xA (zU a j (zA (pv 0) (zA zI zF))) zI) zI) zI (xD _)) (zC (yI 1 l (zY uY zI (zY yY (zY xA (zU a j (zA (pv 0) (zA zI zF))) zI) zI))) zH) zH) (zC (yI 2 l (zY uY zI (zY yY (zU a j (zA (pv 0) (zA zI zF))) (pv 1)))) (zC (yI 3 l (wU zF)) (zC (xB aas rfl (xW rfl B.range (zA (pv 1) zF)) (aV 4 l) (zC (yC (jB K aap aaq aar yS (pv 3) (zA (zP (zVo rfl) rfl o Jl (zA (pv 4) (zA (zY uY (zY yY (zU c j (zA (zU a j (zA (pv 0) (zA zI zF))) (zA (pv 4) zF))) (pv 2)) (zY V5 (pv 2) (uL zVq rfl B.int yAc (zA (ZF Lz (pv 4) (pv 2) (xD _)) zF)))) zF))) zF))) zH)) (zC (zT (xX (zA (pv 3) (zA (pv 2) zF)))) zH)))))),?_⟩
 rintro Fa ⟨m,_⟩
 exact SB.of (zM (yF true 1 rfl rfl (esc (uZ (zJ 1) (yZ (zK (zD (zE 0 rfl) (zD (esc (zJ 0)) zL))) (zJ 8))))) (λh=>(zM (jy (bw (wK (yZ (wE (zK (zD (zE 0 rfl) (zD (esc (zJ 0)) zL))) (zJ 8)) (zJ 8)) (zJ 5))) (zN (yF true 1 rfl rfl (esc (uZ (zJ 1) (yZ (wE (zK (zD (zE 0 rfl) (zD (esc (zJ 0)) zL))) (zJ 64)) (zJ 20))))) (λi=>(zW (λp:Int=>([.z m,.y p,.un,.un,.un]:SL K)) i aK))) (zW (λp:Int=>([.z m,.y p,.un,.un,.un]:SL K)) h aK)) (λq=>(zM (yF true 2 rfl rfl (esc (uZ (zJ 1) (yZ (zK (zD (zE 0 rfl) (zD (esc (zJ 1)) zL))) (zG 1 rfl))))) (λb=>(zM (uX true 3 rfl rfl (nO (α:=Int))) (λe=>(zM (xT (n:=true) (L:=(λd:LI=>([.z m,.y q,.y b,.ow true d,.un]:SL K))) e aK (vC (zG 1 rfl)) (λd=>(yG 4 rfl rfl)) (λd x19=>(zN (xH 3 rfl rfl (esc (BZ (zG 4 rfl) (uZ (yZ (zK (zD (esc (zK (zD (zE 0 rfl) (zD (esc (zJ 1)) zL)))) (zD (esc (zG 4 rfl)) zL))) (zG 2 rfl)) (W7 (zG 2 rfl) (Cp (Pa (zG 4 rfl) (zG 2 rfl)))))))) (λg=>(zW (λd:LI=>([.z m,.y q,.y b,.ow true d,.un]:SL K)) g aK))))) (λr=>(Xd (sl2:=[.z m,.y q,.y b,.y r,.un]) aK (yB (xO (yJ 3 rfl) (zG 2 rfl)))))))))))))) rfl
def uO(d:iD)(r:LI)(p:Int):Option (List (Str×LI)):=(some (([]:List (Str×LI)))).bind λb=>((((yD d 4).bind λo=>aO o 4).bind λn=>aX n).bind λm=>yX (λl j=>(((((yD d 5).bind λk=>some ((k,(j,())))).bind λi=>wC i.1 i.2.1).bind λf=>(((yD d 4).bind λg=>some ((g,(j,(r,(p,())))))).bind λa=>QW a.1 a.2.1 a.2.2.1 a.2.2.2.1).bind λh=>some (f,h)).bind λe=>push l e).bind λc=>some c) m b).bind λq=>some q
abbrev zE8:Df:=⟨"_law_marked_by","_law_marked_by",gk,["_law_script","_law_maps","_law_bases"]⟩
abbrev zE3(K:Frag):Sp:=G3 K uO
theorem zIi(B:Bl K mg)(a:Ca P w K mg jq k uB (uA K))(b:Ca P w K mg jq k Vg (Vh K))(c:Ca P w K mg jq k zH6 (zHw K)):Go P w K mg jq k zE8 (zE3 K):=by
 refine zZ ["_law_script","_law_maps","_law_bases","_law_marks","_law_k"] λm h=>?_
 refine⟨_,(zC (yI 3 m (wU zF)) (zC (xB aas rfl (xW rfl B.range (zA (zY yY (zU a h (zA (pv 0) (zA zI zF))) zI) zF)) (aV 4 m) (zC (yC (jB K aap aaq aar yS (pv 3) (zA (xX (zA (zU b h (zA (zU a h (zA (pv 0) (zA zI zF))) (zA (pv 4) zF))) (zA (zU c h (zA (zU a h (zA (pv 0) (zA zI zF))) (zA (pv 4) (zA (pv 1) (zA (pv 2) zF))))) zF))) zF))) zH)) (zC (zT (pv 3)) zH))),?_⟩
 rintro Fa ⟨i,l,j,_⟩
 exact SB.of (zM (uX true 3 rfl rfl (nO (α:=Str×LI))) (λd=>(zM (xT (n:=true) (L:=(λg:List (Str×LI)=>([.z i,.z l,.z j,.ow true g,.un]:SL K))) d aK (vC (yZ (zK (zD (zE 0 rfl) (zD (esc (zJ 4)) zL))) (zJ 4))) (λg=>(yG 4 rfl rfl)) (λg x4=>(zN (xH 3 rfl rfl (xO (zK (zD (esc (zK (zD (zE 0 rfl) (zD (esc (zJ 5)) zL)))) (zD (esc (zG 4 rfl)) zL))) (zK (zD (esc (zK (zD (zE 0 rfl) (zD (esc (zJ 4)) zL)))) (zD (esc (zG 4 rfl)) (zD (zE 1 rfl) (zD (esc (zG 2 rfl)) zL))))))) (λe=>(zW (λg:List (Str×LI)=>([.z i,.z l,.z j,.ow true g,.un]:SL K)) e aK))))) (λs3=>(vh 3 rfl rfl))))) rfl
def Nf(m:iD):Option (((List LI)×(List (Str×LI)))×((List LI)×(List (Str×LI)))):=(Vk m).bind λq=>(((uE m q.1 q.2).bind λa3=>some a3.xss).bind λa4=>(uO m q.1 q.2).bind λb5=>some (iV.mk a4 b5)).bind λc=>(((yD m 26).bind λa8=>some ((a8,(11,())))).bind λz7=>wI z7.1 z7.2.1).bind λd=>(Ac q.2).bind λr=>(((aO d 4).bind λA=>aX A).bind λxs=>yX (λT I=>(((aZ d (4+I)).bind λF=>aO F q.2).bind λa16=>push T a16).bind λp=>some p) xs r).bind λi=>(((((yD m 27).bind λD=>some (D::([]))).bind λE=>m9 (lE m.ns none (some 3)) E).bind λZ=>m9 Z (lE m.ns (some 4) (some 6))).bind λS=>m9 S (lE m.ns (some 28) none)).bind λo=>(uE (iD.mk o) i q.2).bind λj=>((((aZ d 100).bind λQ=>aO Q 4).bind λa27=>aX a27).bind λxs=>yX (λs R=>(((yD m 27).bind λC=>some ((C,(30+R,())))).bind λx=>wI x.1 x.2.1).bind λe=>(((aO e (i.length:Int)).bind λa33=>(((aZ e 64).bind λH=>aO H (i.length:Int)).bind λY=>aJ s.xss Y).bind λM=>some (!decide (a33∈M))).bind λb=>if b=true then(((aZ e 64).bind λO=>aO O (i.length:Int)).bind λN=>(aO e (i.length:Int)).bind λYm=>Qv s N Ym).bind λYn=>some Yn else some s).bind λX=>some X) xs j).bind λs24=>(uO m i q.2).bind λh=>(((yD m 5).bind λL=>some ((L,(4,())))).bind λt=>wC t.1 t.2.1).bind λg=>((aZ d 1000).bind λa46=>aO a46 6).bind λf=>(if(decide (f=0))=true then(push h ((g,([]:LI)))).bind λk=>(some k.reverse).bind λn=>some n else some h).bind λy=>((if(decide (f=1))=true then some true else some (decide (f=2))).bind λb=>if b=true then(((((aZ d 6000).bind λa55=>some ((a55,((i.length:Int),())))).bind λz=>wB z.1 z.2.1).bind λU=>some (g,U)).bind λa57=>push y a57).bind λl=>some l else some y).bind λG=>((if(decide (f=2))=true then some true else some (decide (f=3))).bind λb=>if b=true then(((((aZ d 7000).bind λB=>some ((B,((((c.a,c.b).1).length:Int),())))).bind λu=>wB u.1 u.2.1).bind λYo=>some (g,Yo)).bind λa64=>if c.b.length<cap then some (iV.mk c.a (c.b++[a64])) else none).bind λJ=>some J else some c).bind λv=>some (((v.a,v.b),(s24.xss,G)))
abbrev zJb:Df:=⟨"_law_two_by","_law_two_by",kj,["_law_script"]⟩
abbrev zI5(K:Frag):Sp:=tK K Nf
theorem zNk(B:Bl K mg)(g:Ca P w K mg jq k uB (uA K))(u:Ca P w K mg jq k zH7 (zHx K))(j:Ca P w K mg jq k zE8 (zE3 K))(p:Ca P w K mg jq k M_ (Nb K))(r:Ca P w K mg jq k Vg (Vh K))(o:Ca P w K mg jq k Vi (Vj K))(l:Ca P w K mg jq k zF5 (zF2 K)):Go P w K mg jq k zJb (zI5 K):=by
 refine zZ ["_law_script","_law_maps","_law_bases","_law_first","_law_rest","_law_stand","_law_less","_law_steps","_law_k","_law_more","_law_marks","_law_name","_law_way"] λI t=>?_
 refine⟨_,(zC (t_ (zU u t (zA (pv 0) zF)) (pW rfl (yA (aV 1 I) (yA (aV 2 I) wA)))) (zC (yI 3 I (xX (zA (zU l t (zA (pv 0) (zA (pv 1) (zA (pv 2) zF)))) (zA (zU j t (zA (pv 0) (zA (pv 1) (zA (pv 2) zF)))) zF)))) (zC (yI 4 I (zU p t (zA (zU g t (zA (pv 0) (zA zI zF))) (zA zI zF)))) (zC (yI 1 I (zO5 rfl rfl B.list rfl B.range (zA (pv 2) zF))) (zC (xB aas rfl (xW rfl B.range (zA (zY yY (pv 4) zI) zF)) (aV 5 I) (zC (yC (jB K aap aaq aar yS (pv 1) (zA (zY yY (zY xA (pv 4) (zY uY zI (pv 5))) (pv 2)) zF))) zH)) (zC (yI 6 I (zY SJ (zY SJ (zY SJ (Sv (JM K) (pv 0) Wg (Og zI)) (wU (zA (zU g t (zA (pv 0) (zA zI zF))) zF))) (Sv (JM K) (pv 0) (Og zI) (Og zI))) (Sv (JM K) (pv 0) (Og zI) Wg))) (zC (yI 7 I (zU l t (zA (pv 6) (zA (pv 1) (zA (pv 2) zF))))) (zC (xB aas rfl (xW rfl B.range (zA (zY yY (zY xA (pv 4) zI) zI) zF)) (aV 8 I) (zC (yI 9 I (zU p t (zA (zU g t (zA (pv 0) (zA zI zF))) (zA (zY uY zI (pv 8)) zF)))) (zC (xE (yH (Pu K) (zY yY (pv 9) (zP (xL K) rfl B.len aay (zA (pv 1) zF))) (yV (aM K) (pv 7) (zY yY (zY xA (pv 9) zI) (zP (xL K) rfl B.len aay (zA (pv 1) zF))) (λ_ _=>rfl)) (by with_unfolding_all rfl)) (zC (yC (jB K aap aaq aar yS (yV (aM K) (pv 7) (zY yY (zY xA (pv 9) zI) (zP (xL K) rfl B.len aay (zA (pv 1) zF))) (λ_ _=>rfl)) (zA (zY yY (pv 9) (zP (xL K) rfl B.len aay (zA (pv 1) zF))) zF))) zH) zH) zH))) (zC (yI 10 I (zU j t (zA (pv 0) (zA (pv 1) (zA (pv 2) zF))))) (zC (yI 11 I (zU r t (zA (zU g t (zA (pv 0) (zA zI zF))) (zA zI zF)))) (zC (yI 12 I (zY yY (zY xA (pv 4) zI) zI)) (zC (xE (yH (wJ K Int t) (pv 12) zI (xD _)) (zC (yC (jB K aap aaq aar yS (pv 10) (zA (xX (zA (pv 11) (zA (wU zF) zF))) zF))) (zC (yC (Xc K aap ac9 ada Wn (pv 10))) zH)) zH) (zC (xE (PW.pt (pw_or (yH (wJ K Int t) (pv 12) zI (xD _)) (pw_or1 (yH (wJ K Int t) (pv 12) zI (xD _))))) (zC (yC (jB K aap aaq aar yS (pv 10) (zA (xX (zA (pv 11) (zA (zU o t (zA (zY xA (pv 4) zI) (zA (zP (xL K) rfl B.len aay (zA (pv 1) zF)) zF))) zF))) zF))) zH) zH) (zC (xE (PW.pt (pw_or (yH (wJ K Int t) (pv 12) zI (xD _)) (pw_or1 (yH (wJ K Int t) (pv 12) zI (xD _))))) (zC (yC (jB K aap aaq aar yS (yV (rH K) (pv 3) zI (λ_ _=>rfl)) (zA (xX (zA (pv 11) (zA (zU o t (zA (zY xA (pv 4) zI) (zA (zP (xL K) rfl B.len aay (zA (yV (rH K) (pv 3) zI (λ_ _=>rfl)) zF)) zF))) zF))) zF))) zH) zH) (zC (zT (xX (zA (pv 3) (zA (xX (zA (pv 7) (zA (pv 10) zF))) zF)))) zH))))))))))))))),?_⟩
 rintro Fa ⟨G,_⟩
 exact SB.of (zM (Mu (n:=true) (zK (zD (zE 0 rfl) zL)) (uC 1 2 rfl rfl (λ_=>rfl) rfl)) (λC=>(zM (J7 3 rfl rfl rfl (J5 (zK (zD (zE 0 rfl) (zD (zE 1 rfl) (zD (esc (zG 2 rfl)) zL))))) (Ma (zD (zE 0 rfl) (zD (zE 1 rfl) (zD (esc (zG 2 rfl)) zL))))) (λd=>(zM (yF true 4 rfl rfl (esc (zK (zD (esc (zK (zD (zE 0 rfl) (zD (esc (zJ 26)) zL)))) (zD (esc (zJ 11)) zL))))) (λe=>(zM (uX true 1 rfl rfl (zPu (zG 2 rfl))) (λX=>(zM (xT (n:=true) (L:=(λO:LI=>([.z G,.ow true O,.y C.2,.ob true (d:iV (List LI) (Str×LI)),.y e,.un,.un,.un,.un,.un,.un,.un,.un]:SL K))) X aK (vC (yZ (zG 4 rfl) (zJ 4))) (λO=>(yG 5 rfl rfl)) (λO x12=>(zN (xH 1 rfl rfl (esc (yZ (wE (zG 4 rfl) (uZ (zJ 4) (zG 5 rfl))) (zG 2 rfl)))) (λR=>(zW (λO:LI=>([.z G,.ow true O,.y C.2,.ob true (d:iV (List LI) (Str×LI)),.y e,.un,.un,.un,.un,.un,.un,.un,.un]:SL K)) R aK))))) (λq=>(zM (yF true 6 rfl rfl (Ug (Ug (Ug (zYb (zE 0 rfl) (zJ 3)).ex (S8 (uR (esc (zK (zD (zE 0 rfl) (zD (esc (zJ 27)) zL)))) S7) (λa h=>aa0 ((qQ Tv) a h) (by decide))).ex).ex (zVd (zE 0 rfl) (zJ 4) (zJ 6)).ex).ex (zVc (zE 0 rfl) (zJ 28)).ex).ex) (λc=>(zM (X7 7 rfl rfl rfl (Ma (zD (J8 (zE 6 rfl)) (zD (xN 1 rfl) (zD (esc (zG 2 rfl)) zL))))) (λQ=>(zM (xT (n:=true) (L:=(λD:aN Int=>([.z G,.ow true q,.y C.2,.ob true (d:iV (List LI) (Str×LI)),.y e,.un,.y c,.ob true (D:aN Int),.un,.un,.un,.un,.un]:SL K))) Q aK (vC (yZ (wE (zG 4 rfl) (zJ 100)) (zJ 4))) (λD=>(yG 8 rfl rfl)) (λD x25=>(zN (yF true 9 rfl rfl (esc (zK (zD (esc (zK (zD (zE 0 rfl) (zD (esc (zJ 27)) zL)))) (zD (esc (uZ (zJ 30) (zG 8 rfl))) zL))))) (λx=>(zN (jy (bw (Pb (yZ (zG 9 rfl) (xP (xN 1 rfl))) (xF (Uw 7 rfl) (yZ (wE (zG 9 rfl) (zJ 64)) (xP (xN 1 rfl)))))) (zN (zWs 7 rfl rfl (yZ (wE (zG 9 rfl) (zJ 64)) (xP (xN 1 rfl))) (esc (yZ (zG 9 rfl) (xP (xN 1 rfl))))) (λYn=>(zW (λS:aN Int=>([.z G,.ow true q,.y C.2,.ob true (d:iV (List LI) (Str×LI)),.y e,.un,.y c,.ob true (S:aN Int),.y x25,.y x,.un,.un,.un]:SL K)) Yn aK))) (zW (λS:aN Int=>([.z G,.ow true q,.y C.2,.ob true (d:iV (List LI) (Str×LI)),.y e,.un,.y c,.ob true (S:aN Int),.y x25,.y x,.un,.un,.un]:SL K)) D aK)) (λs35=>(zW (λD:aN Int=>([.z G,.ow true q,.y C.2,.ob true (d:iV (List LI) (Str×LI)),.y e,.un,.y c,.ob true (D:aN Int),.un,.un,.un,.un,.un]:SL K)) s35 aK))))))) (λv=>(zM (zWq 10 rfl rfl rfl (Ma (zD (zE 0 rfl) (zD (xN 1 rfl) (zD (esc (zG 2 rfl)) zL))))) (λM=>(zM (yF true 11 rfl rfl (esc (zK (zD (esc (zK (zD (zE 0 rfl) (zD (esc (zJ 5)) zL)))) (zD (esc (zJ 4)) zL))))) (λi=>(zM (yF true 12 rfl rfl (esc (yZ (wE (zG 4 rfl) (zJ 1000)) (zJ 6)))) (λm=>(zM (jy (bw (wK (zG 12 rfl) (zJ 0))) (zN (xH 10 rfl rfl (xO (zG 11 rfl) (nO (α:=Int)).ex)) (λVl=>(zN (XR 10 rfl rfl) (λJ=>(zW (λY:List (Str×LI)=>([.z G,.ow true q,.y C.2,.ob true (d:iV (List LI) (Str×LI)),.y e,.un,.y c,.ob true (v:aN Int),.un,.un,.ow true Y,.y i,.y m]:SL K)) J aK))))) (zW (λY:List (Str×LI)=>([.z G,.ow true q,.y C.2,.ob true (d:iV (List LI) (Str×LI)),.y e,.un,.y c,.ob true (v:aN Int),.un,.un,.ow true Y,.y i,.y m]:SL K)) M aK)) (λs47=>(zM (jy (OJ (bw (wK (zG 12 rfl) (zJ 1))) (bw (wK (zG 12 rfl) (zJ 2)))) (zN (xH 10 rfl rfl (xO (zG 11 rfl) (zK (zD (esc (wE (zG 4 rfl) (zJ 6000))) (zD (esc (xP (xN 1 rfl))) zL))))) (λN=>(zW (λU:List (Str×LI)=>([.z G,.ow true q,.y C.2,.ob true (d:iV (List LI) (Str×LI)),.y e,.un,.y c,.ob true (v:aN Int),.un,.un,.ow true U,.y i,.y m]:SL K)) N aK))) (zW (λU:List (Str×LI)=>([.z G,.ow true q,.y C.2,.ob true (d:iV (List LI) (Str×LI)),.y e,.un,.y c,.ob true (v:aN Int),.un,.un,.ow true U,.y i,.y m]:SL K)) s47 aK)) (λT=>(zM (jy (OJ (bw (wK (zG 12 rfl) (zJ 2))) (bw (wK (zG 12 rfl) (zJ 3)))) (zN (zSr 3 rfl rfl (xO (zG 11 rfl) (zK (zD (esc (wE (zG 4 rfl) (zJ 7000))) (zD (esc (xP (W8 (DG 3 rfl) (zJ 0)))) zL))))) (λQV=>(zW (λZ:iV (List LI) (Str×LI)=>([.z G,.ow true q,.y C.2,.ob true (Z:iV (List LI) (Str×LI)),.y e,.un,.y c,.ob true (v:aN Int),.un,.un,.ow true T,.y i,.y m]:SL K)) QV aK))) (zW (λZ:iV (List LI) (Str×LI)=>([.z G,.ow true q,.y C.2,.ob true (Z:iV (List LI) (Str×LI)),.y e,.un,.y c,.ob true (v:aN Int),.un,.un,.ow true T,.y i,.y m]:SL K)) d aK)) (λQT=>(Xd (sl2:=[.z G,.ow true q,.y C.2,.y ((QT.a,QT.b):(List LI)×(List (Str×LI))),.y e,.un,.y c,.y (v.xss:List LI),.un,.un,.y T,.y i,.y m]) (Le.eq (Le.eq (Le.eq (Le.fo (Le.eq (Le.un (Le.eq (Le.fo aK)))))))) (yB (xO (yJ 3 rfl) (xO (yJ 7 rfl) (yJ 10 rfl))))))))))))))))))))))))))))))))) (by simp only[Nf,bnd])
def QX(C:Addr)(i:(List LI)×(List (Str×LI)))(j:List LI):Option (ao C):=(some i).bind λd=>((some d.2).bind λb=>xG (λc=>some true) (λc=>some (c.1,c.2)) b).bind λa=>((some d.1).bind λb=>xG (λe=>some true) (λe=>some e) b).bind λg=>((some j).bind λb=>xG (λf=>some true) (λf=>some f) b).bind λh=>QC C g (some a) (some h)
abbrev zH8:Df:=⟨"_law_machine","_law_machine",jk,["_law_parts","_law_fair"]⟩
abbrev zHy(K:Frag)(C:Addr):Sp:=gq K (QX C)
theorem zLt(B:Bl K mg)(T:Cl K mg C)(k:Mk K C m)(l:aH P w K mg jq bN k0 m d ["self","steps","marks","fair"] (oJ K C (QC C)))(c:Binds K d ["self","steps","marks","fair"] []):Go P w K mg jq ((k0+1)) zH8 (zHy K C):=by
 refine zZ ["_law_parts","_law_fair","_law_steps","_law_marks","_law_some"] λb j=>?_
 refine⟨_,(zC (t_ (pv 0) (pW rfl (yA (aV 2 b) (yA (aV 3 b) wA)))) (zC (Gd (i:=4) (own:=["_law_name","_law_stands"]) (ix:=[]) b rfl rfl rfl rfl rfl (yR K (pv 3)) (λC s H a=>IW (K:=K) (n:=2) rfl rfl (yA (yM (i:=0) (show(["_law_name","_law_stands"]:List Str).Nodup from by trivial) rfl (Or.inl rfl)) (yA (yM (i:=1) (show(["_law_name","_law_stands"]:List Str).Nodup from by trivial) rfl (Or.inl rfl)) wA))) (λC s H a=>vE) (λC s H a=>(xX (zA (pv 0) (zA (uL (Gk K) rfl B.list Gj (zA (pv 1) zF)) zF))))) (zC (zT (zx k l j rfl T.mgC c .nil uU (zA (wX (own:=["_law_stands"]) (ix:=[]) rfl rfl rfl (yR K (pv 2)) (λC s H a=>yM (i:=0) (show(["_law_stands"]:List Str).Nodup from by trivial) rfl (Or.inl rfl)) (λC s H a=>vE) (λC s H a=>(uL (Gk K) rfl B.list Gj (zA (pv 0) zF)))) (zA (pv 4) (zA (wX (own:=["_law_stands"]) (ix:=[]) rfl rfl rfl (yR K (pv 1)) (λC s H a=>yM (i:=0) (show(["_law_stands"]:List Str).Nodup from by trivial) rfl (Or.inl rfl)) (λC s H a=>vE) (λC s H a=>(uL (Gk K) rfl B.list Gj (zA (pv 0) zF)))) zF))))) zH))),?_⟩
 rintro Fa ⟨q0,q1,_⟩
 exact SB.of (zM (Mu (n:=false) (yJ 0 rfl) (uC 2 3 rfl rfl (λ_=>rfl) rfl)) (λv1=>(zM (yF true 4 rfl rfl (xJ (n:=false) (gG:=[.un,.un]) (no:=2) (ix:=[]) rfl rfl (yT (yJ 3 rfl)) (uC 0 1 rfl rfl (λ_=>rfl) rfl) (λe=>qd) (λe=>(xO (zG 0 rfl) (Jg (zE 1 rfl)).ex)) (λe=>cI)).ex) (λaad=>(yB (zVf (xJ (n:=false) (gG:=[.un]) (no:=1) (ix:=[]) rfl rfl (yT (yJ 2 rfl)) (yG 0 rfl rfl) (λh=>qd) (λh=>(Jg (zE 0 rfl)).ex) (λh=>cI)).ex (zE 4 rfl) (xJ (n:=false) (gG:=[.un]) (no:=1) (ix:=[]) rfl rfl (yT (yJ 1 rfl)) (yG 0 rfl rfl) (λg=>qd) (λg=>(Jg (zE 0 rfl)).ex) (λg=>cI)).ex).ex))))) rfl
def QZ(cl:Hd->Addr)(a:Int)(c:List Str):Option (bQ cl):=((aO a 6).bind λl=>some (decide (l=0))).bind λb=>if b=true then some (bQ.mk .all:bQ cl) else((aO a 2).bind λi=>some (decide (i=0))).bind λb=>if b=true then(((aZ a 6).bind λd=>aO d (c.length:Int)).bind λh=>aJ c h).bind λk=>some ((bQ.mk (.mark k):bQ cl)) else((((aZ a 6).bind λg=>aO g (c.length:Int)).bind λe=>aJ c e).bind λj=>some ((bQ.mk (.mark j):bQ cl))).bind λf=>some ((bQ.mk (.one 0 f.t):bQ cl))
abbrev zH9:Df:=⟨"_law_leaf_by","_law_leaf_by",jm,["_law_rest","_law_names"]⟩
abbrev zHz(K:Frag)(cl:Hd->Addr):Sp:=gq K (QZ cl)
theorem zLu(B:Bl K mg)(I:lF P w K mg jq c cl fi di)(b:c+1<=k):Go P w K mg jq k zH9 (zHz K cl):=by
 refine zZ ["_law_rest","_law_names"] λnd a=>?_
 refine⟨_,(zC (xE (yH (wJ K Int a) (zY yY (pv 0) zI) zI (xD _)) (zC (zT (zXe (I.ini.made .all) I.ini.iA (a.mono b) rfl I.ini.mA I.ini.bA .nil uU)) zH) zH) (zC (xE (yH (wJ K Int a) (zY yY (pv 0) zI) zI (xD _)) (zC (zT (zx (I.ini.made .mark) I.ini.iM (a.mono b) rfl I.ini.mM I.ini.bM .nil uU (zA (yV (aM K) (pv 1) (zY yY (zY xA (pv 0) zI) (zP (xL K) rfl B.len aay (zA (pv 1) zF))) (λ_ _=>rfl)) zF))) zH) zH) (zC (zT (zx (I.ini.made (.one 0)) (I.ini.i1 0) (a.mono b) rfl (I.ini.m1 0) (I.ini.b1 0) .nil uU (zA (zx (I.ini.made .mark) I.ini.iM (a.mono b) rfl I.ini.mM I.ini.bM .nil uU (zA (yV (aM K) (pv 1) (zY yY (zY xA (pv 0) zI) (zP (xL K) rfl B.len aay (zA (pv 1) zF))) (λ_ _=>rfl)) zF)) zF))) zH))),?_⟩
 rintro Fa ⟨q0,q1,_⟩
 exact SB.of (vD (bw (wK (yZ (zG 0 rfl) (zJ 6)) (zJ 0))) (yB (C_ (cl:=cl))) (vD (bw (wK (yZ (zG 0 rfl) (zJ 2)) (zJ 0))) (yB (zUz (cl:=cl) (esc (esc (xF (zE 1 rfl) (yZ (wE (zG 0 rfl) (zJ 6)) (xP (zE 1 rfl)))))))) (yB (Ur 0 (zUz (cl:=cl) (esc (esc (xF (zE 1 rfl) (yZ (wE (zG 0 rfl) (zJ 6)) (xP (zE 1 rfl))))))))))) rfl
def uK(cl:Hd->Addr)(rec:iD->Int->(List Str)->Int->Option ((bQ cl)×Int))(h:iD)(g:Int)(i:List Str)(j:Int):Option ((bQ cl)×Int):=(((yD h g).bind λl=>some ((l,(g,())))).bind λk=>wI k.1 k.2.1).bind λc=>(aO c 7).bind λa=>(aZ c 7).bind λe=>(if(decide (j=0))=true then some true else some (decide (a=0))).bind λb=>if b=true then(QZ cl e i).bind λm=>some ((m,g+1)) else(rec h (g+1) i (j-1)).bind λd=>if(decide (a=1))=true then some (((bQ.mk (.one 1 d.1.t):bQ cl),d.2)) else if(decide (a=2))=true then some (((bQ.mk (.one 3 d.1.t):bQ cl),d.2)) else if(decide (a=3))=true then some (((bQ.mk (.one 5 d.1.t):bQ cl),d.2)) else(rec h d.2 i (j-1)).bind λf=>if(decide (a=4))=true then some (((bQ.mk (.two 0 d.1.t f.1.t):bQ cl),f.2)) else if(decide (a=5))=true then some (((bQ.mk (.two 1 d.1.t f.1.t):bQ cl),f.2)) else some (((bQ.mk (.two 2 d.1.t f.1.t):bQ cl),f.2))
def vK(cl:Hd->Addr):Nat->iD->Int->(List Str)->Int->Option ((bQ cl)×Int)
 |0=>λ_ _ _ _=>none
 |n+1=>uK cl (vK cl n)
theorem eU:aF ["_law_script","_law_at","_law_names","_law_depth","_law_rest","_law_way","_law_left","_law_right"] ["_law_script","_law_at","_law_names","_law_depth"] (zS cV):=fsc
abbrev Vm(K:Frag)(cl:Hd->Addr)(rec:iD->Int->(List Str)->Int->Option ((bQ cl)×Int)):Sp:=lB K false (λa:iD×Int×(List Str)×Int×Unit=>([.z a.1,.z a.2.1,.z a.2.2.1,.z a.2.2.2.1]:SL K)) (λa=>rec a.1 a.2.1 a.2.2.1 a.2.2.2.1)
abbrev zE2(K:Frag)(cl:Hd->Addr):Sp:=Vm K cl (vK cl 5 )
theorem zIh(F:cF K "_law_saying_by" "_law_saying_by" cV f j)(B:Bl K mg)(I:lF P w K mg jq i cl fi di)(h:i+1<=k)(b:Ca P w K mg jq k uB (uA K))(c:Ca P w K mg jq k zH9 (zHz K cl))(e:Ca P w K mg jq k M_ (Nb K))(a:jL P w K mg jq k "_law_saying_by" ["_law_script","_law_at","_law_names","_law_depth"] (Vm K cl rec)):aH P w K mg jq bN (k+1) f j ["_law_script","_law_at","_law_names","_law_depth"] (Vm K cl (uK cl rec)):=by
 refine Tz F eU (λ_=>rfl) (λ_=>rfl) λcdv A outer s H E d=>?_
 have g:=eU.nd
 refine⟨_,(zC (yI 4 g (zU e d (zA (zU b d (zA (pv 0) (zA (pv 1) zF))) (zA (pv 1) zF)))) (zC (yI 5 g (zY yY (pv 4) zI)) (zC (yI 4 g (zY xA (pv 4) zI)) (zC (xE (PW.pt (pw_or (yH (wJ K Int d) (pv 3) zI (xD _)) (pw_or1 (yH (wJ K Int d) (pv 5) zI (xD _))))) (zC (zT (xX (zA (zU c d (zA (pv 4) (zA (pv 2) zF))) (zA (zY uY (pv 1) zI) zF)))) zH) zH) (zC (t_ (zU a d (zA (pv 0) (zA (zY uY (pv 1) zI) (zA (pv 2) (zA (zY ZD (pv 3) zI) zF))))) (pW rfl (yA (aV 6 g) (yA (aV 1 g) wA)))) (zC (xE (yH (wJ K Int d) (pv 5) zI (xD _)) (zC (zT (xX (zA (zx (I.ini.made (.one 1)) (I.ini.i1 1) (d.mono h) rfl (I.ini.m1 1) (I.ini.b1 1) .nil uU (zA (pv 6) zF)) (zA (pv 1) zF)))) zH) zH) (zC (xE (yH (wJ K Int d) (pv 5) zI (xD _)) (zC (zT (xX (zA (zx (I.ini.made (.one 3)) (I.ini.i1 3) (d.mono h) rfl (I.ini.m1 3) (I.ini.b1 3) .nil uU (zA (pv 6) zF)) (zA (pv 1) zF)))) zH) zH) (zC (xE (yH (wJ K Int d) (pv 5) zI (xD _)) (zC (zT (xX (zA (zx (I.ini.made (.one 5)) (I.ini.i1 5) (d.mono h) rfl (I.ini.m1 5) (I.ini.b1 5) .nil uU (zA (pv 6) zF)) (zA (pv 1) zF)))) zH) zH) (zC (t_ (zU a d (zA (pv 0) (zA (pv 1) (zA (pv 2) (zA (zY ZD (pv 3) zI) zF))))) (pW rfl (yA (aV 7 g) (yA (aV 1 g) wA)))) (zC (xE (yH (wJ K Int d) (pv 5) zI (xD _)) (zC (zT (xX (zA (zx (I.ini.made (.two 0)) (I.ini.i2 0) (d.mono h) rfl (I.ini.m2 0) (I.ini.b2 0) .nil uU (zA (pv 6) (zA (pv 7) zF))) (zA (pv 1) zF)))) zH) zH) (zC (xE (yH (wJ K Int d) (pv 5) zI (xD _)) (zC (zT (xX (zA (zx (I.ini.made (.two 1)) (I.ini.i2 1) (d.mono h) rfl (I.ini.m2 1) (I.ini.b2 1) .nil uU (zA (pv 6) (zA (pv 7) zF))) (zA (pv 1) zF)))) zH) zH) (zC (zT (xX (zA (zx (I.ini.made (.two 2)) (I.ini.i2 2) (d.mono h) rfl (I.ini.m2 2) (I.ini.b2 2) .nil uU (zA (pv 6) (zA (pv 7) zF))) (zA (pv 1) zF)))) zH)))))))))))),?_⟩
 rintro Fa ⟨q0,q1,q2,q3,_⟩
 exact SB.of (zM (yF true 4 rfl rfl (esc (zK (zD (esc (zK (zD (zE 0 rfl) (zD (esc (zG 1 rfl)) zL)))) (zD (esc (zG 1 rfl)) zL))))) (λaae=>(zM (yF true 5 rfl rfl (esc (yZ (zG 4 rfl) (zJ 7)))) (λaaj=>(zM (yF true 4 rfl rfl (esc (wE (zG 4 rfl) (zJ 7)))) (λaaf=>(vD (OJ (bw (wK (zG 3 rfl) (zJ 0))) (bw (wK (zG 5 rfl) (zJ 0)))) (yB (xO (zK (zD (esc (zG 4 rfl)) (zD (zE 2 rfl) zL))) (uZ (zG 1 rfl) (zJ 1)))) (zM (Mu (n:=true) (zK (zD (zE 0 rfl) (zD (esc (uZ (zG 1 rfl) (zJ 1))) (zD (zE 2 rfl) (zD (esc (zZz (zG 3 rfl) (zJ 1))) zL))))) (uC 6 1 rfl rfl (λ_=>rfl) rfl)) (λv7=>(vD (bw (wK (zG 5 rfl) (zJ 1))) (yB (xO (Ur 1 (yJ 6 rfl)) (zG 1 rfl))) (vD (bw (wK (zG 5 rfl) (zJ 2))) (yB (xO (Ur 3 (yJ 6 rfl)) (zG 1 rfl))) (vD (bw (wK (zG 5 rfl) (zJ 3))) (yB (xO (Ur 5 (yJ 6 rfl)) (zG 1 rfl))) (zM (Mu (n:=true) (zK (zD (zE 0 rfl) (zD (esc (zG 1 rfl)) (zD (zE 2 rfl) (zD (esc (zZz (zG 3 rfl) (zJ 1))) zL))))) (uC 7 1 rfl rfl (λ_=>rfl) rfl)) (λv8=>(vD (bw (wK (zG 5 rfl) (zJ 4))) (yB (xO (XF 0 (yJ 6 rfl) (yJ 7 rfl)) (zG 1 rfl))) (vD (bw (wK (zG 5 rfl) (zJ 5))) (yB (xO (XF 1 (yJ 6 rfl) (yJ 7 rfl)) (zG 1 rfl))) (yB (xO (XF 2 (yJ 6 rfl) (yJ 7 rfl)) (zG 1 rfl))))))))))))))))))) (by unfold uK;simp only[bnd])
end
open PySem L2
structure Gr{C:Addr}(m:ao C)(n:Int):Prop where
 len:(m.steps.length:Int)=n
 pos:1<=n
 few:n<=60
 row:∀xs∈m.steps,xs≠[]/\xs.Nodup/\∀z∈xs,0<=z/\z<n
 src:m.sources=srcs m.steps
def nxt(xss:List LI)(s:Int):LI:=xss.getD s.toNat []
theorem Yp:x∈src xss j↔0<=x/\x<(xss.length:Int)/\(j:Int)∈nxt xss x:=by
 unfold src nxt
 rw[mem_map]
 constructor
 ·rintro⟨k,h,rfl⟩
  rw[mem_filter,mem_range] at h
  exact⟨Int.natCast_nonneg _,by show(k:Int)<_;lia,of_decide_eq_true h.2⟩
 ·intro⟨h0,h1,h2⟩
  refine⟨x.toNat,?_,by show((x.toNat:Nat):Int)=x;lia⟩
  rw[mem_filter,mem_range]
  exact⟨by lia,decide_eq_true h2⟩
theorem Vn{C:Addr}{m:ao C}(g:Gr m n):wD m=some n:=by
 unfold wD
 rw[g.len]
theorem zWf{C:Addr}{m:ao C}(g:Gr m n)(h0:0<=s)(h1:s<n):W (yL m s) λxs=>∀x,x∈xs↔0<=x/\x<n/\s∈nxt m.steps x:=by
 unfold yL
 rw[bW h0,g.src]
 have a:=g.len
 refine⟨_,zSp (by lia),λx=>?_⟩
 rw[Yp,a,show((s.toNat:Nat):Int)=s by lia]
theorem Q_{α:Type}{xs:List α}{a d:α}(h:i<xs.length):(xs.set i a).getD j d=if j=i then a else xs.getD j d:=by
 grind
theorem zR8{C:Addr}{m:ao C}(g:Gr m n)(k:∀x∈xs,0<=x/\x<n):W (QD m xs) λa=>(a.length:Int)=n/\∀s:Int,0<=s->s<n->a.getD s.toNat false=decide (s∈xs):=by
 unfold QD
 have hp:=g.pos
 have hf:=g.few
 simp only[zB,aj,Vn g,uT]
 refine⟨⟨by lia,by omega⟩,?_⟩
 rw[Cj (λ_=>false)]
 have e:=Mg (n:=n) (by lia)
 refine⟨yK (by lia),xZ (λi a=>(a.length:Int)=n/\∀s:Int,0<=s->s<n->a.getD s.toNat false=decide (s∈xs.take i)) ⟨by rw[length_map];exact e,λs _ _=>?_⟩ (λi x a f b=>?_) λa b=>?_⟩
 ·rw[getD_eq_getElem?_getD,getElem?_map]
  cases(rng n)[s.toNat]?<;>simp
 ·have c:=k x (mem_of_getElem? f)
  simp only[zB,aj]
  rw[Py c.1 (by lia)]
  refine⟨by rw[length_set];exact b.1,λs j h=>?_⟩
  rw[Q_ (by lia)]
  have d:xs.take (i+1)=xs.take i++[x]:=by rw[take_add_one,f]<;>rfl
  by_cases q:s.toNat=x.toNat
  ·have:s=x:=by lia
   subst this
   rw[if_pos rfl,d];simp
  ·have:s≠x:=λz=>q (by rw[z])
   rw[if_neg q,b.2 s j h,d]
   simp[this]
 ·rw[take_length] at b
  exact b
abbrev dg(d:List (Option Int))(s:Int):Option Int:=d.getD s.toNat none
structure qu(xss:List LI)(through goal:LI)(n:Int)(d:List (Option Int)):Prop where
 len:(d.length:Int)=n
 pos:∀s k,0<=s->s<n->dg d s=some k->0<=k/\k<n
 zero:∀s,0<=s->s<n->(dg d s=some 0↔s∈goal)
 via:∀s k,0<=s->s<n->dg d s=some k->s∉goal->s∈through/\∃t∈nxt xss s,0<=t/\t<n/\dg d t=some (k-1)
 near:∀s t k,0<=s->s<n->0<=t->t<n->s∈through->t∈nxt xss s->dg d t=some k->∃j,dg d s=some j/\j<=k+1
structure Bf(xss:List LI)(pass:Int->Prop)(goal:LI)(n:Int)(d:List (Option Int))(row:LI)(place:Nat):Prop where
 len:(d.length:Int)=n
 rng:∀s∈row,0<=s/\s<n
 nd:row.Nodup
 iff:∀s:Int,0<=s->s<n->((dg d s).isSome=true↔s∈row)
 idx:∀(i:Nat)(s:Int),row[i]?=some s->∃k:Int,dg d s=some k/\0<=k/\k<=i
 mono:∀(i j:Nat)(s t k l:Int),i<=j->row[i]?=some s->row[j]?=some t->dg d s=some k->dg d t=some l->k<=l
 top:∀(j:Nat)(s t k l:Int),row[place]?=some s->row[j]?=some t->dg d s=some k->dg d t=some l->l<=k+1
 zero:∀s:Int,0<=s->s<n->(dg d s=some 0↔s∈goal)
 via:∀(s k:Int),s∈row->dg d s=some k->s∉goal->pass s/\∃t∈nxt xss s,0<=t/\t<n/\dg d t=some (k-1)
 done:∀(i:Nat)(s t k:Int),i<place->row[i]?=some t->dg d t=some k->0<=s->s<n->pass s->t∈nxt xss s->∃j,dg d s=some j/\j<=k+1
theorem Yq{d:List (Option Int)}(hl:(d.length:Int)=n)(h0:0<=s)(h1:s<n)(t0:0<=t):dg (d.set s.toNat v) t=if t=s then v else dg d t:=by
 show(d.set s.toNat v).getD t.toNat none=_
 rw[Q_ (by lia)]
 by_cases e:t=s
 ·rw[if_pos e,if_pos (by rw[e])]
 ·rw[if_neg e,if_neg (by lia)]
theorem Ng{a:LI}{i:Nat}{s x:Int}(h:(a++[x])[i]?=some s):a[i]?=some s\/(i=a.length/\s=x):=by
 grind
structure Bm(xss:List LI)(pass:Int->Prop)(goal:LI)(n:Int)(d:List (Option Int))(row:LI)(place:Nat)(t k:Int)(seen:LI):Prop where
 bf:Bf xss pass goal n d row place
 at_:row[place]?=some t
 k_:dg d t=some k
 q9:∀s∈seen,pass s->∃j,dg d s=some j/\j<=k+1
theorem Bm.put(b:Bm xss F goal n d A place t k P)(r:0<=x)(C:x<n)(hp:F x)(I:dg d x=none)(ht:t∈nxt xss x) :
  Bm xss F goal n (d.set x.toNat (some (k+1))) (A++[x]) place t k (P++[x]):=by
 have B:=b.bf
 have L:=B.rng t (mem_of_getElem? b.at_)
 have R:x∉A:=λh=>by have:=(B.iff x r C).mpr h;rw[I] at this;cases this
 have X:t≠x:=λe=>R (e▸mem_of_getElem? b.at_)
 obtain⟨k',e1,k0,kp⟩:=B.idx place t b.at_
 rw[b.k_] at e1
 cases e1
 have pl:=yN b.at_
 have f:∀s:Int,0<=s->s≠x->dg (d.set x.toNat (some (k+1))) s=dg d s:=λs p q=>by rw[Yq B.len r C p,if_neg q]
 have g:dg (d.set x.toNat (some (k+1))) x=some (k+1):=by rw[Yq B.len r C r,if_pos rfl]
 have y:∀{i:Nat}{s:Int},A[i]?=some s->0<=s/\s<n/\s≠x:=λh=>by
  have:=B.rng _ (mem_of_getElem? h)
  exact⟨this.1,this.2,λe=>R (e▸mem_of_getElem? h)⟩
 refine⟨⟨by rw[length_set];exact B.len,λs J=>?_,?_,λs p H=>?_,λi s h=>?_,λi j s u a l ij o m G v=>?_,λj s u a l o m G v=>?_,λs p H=>?_,λs a J o m=>?_,λi s u a hi o m p H U hu=>?_⟩,?_,?_,λs J U=>?_⟩
 ·rcases mem_append.mp J with q|q
  ·exact B.rng s q
  ·rw[mem_singleton.mp q];exact⟨r,C⟩
 ·rw[nodup_append]
  exact⟨B.nd,by simp,λa ha c hc e=>by rw[mem_singleton.mp hc] at e;exact R (e▸ha)⟩
 ·by_cases e:s=x
  ·subst e;rw[g];simp
  ·rw[f s p e,B.iff s p H];simp[e]
 ·rcases Ng h with h|⟨rfl,rfl⟩
  ·obtain⟨Z,a2,S⟩:=y h
   rw[f s Z S];exact B.idx i s h
  ·exact⟨k+1,g,by lia,by omega⟩
 ·rcases Ng o with T|⟨rfl,rfl⟩
  ·obtain⟨Z,a2,S⟩:=y T
   rw[f s Z S] at G
   rcases Ng m with g2|⟨rfl,rfl⟩
   ·obtain⟨K,b2,O⟩:=y g2
    rw[f u K O] at v
    exact B.mono i j s u a l ij T g2 G v
   ·rw[g] at v
    cases v
    exact B.top i t s k a b.at_ T b.k_ G
  ·rcases Ng m with m|⟨rfl,rfl⟩
   ·have:=yN m;lia
   ·rw[G] at v;cases v;exact ad2 _
 ·have D:s=t:=by
   rcases Ng o with o|⟨e,_⟩
   ·rw[b.at_] at o;exact(aa2 o).symm
   ·lia
  subst D
  rw[f s L.1 X,b.k_] at G
  cases G
  rcases Ng m with m|⟨rfl,rfl⟩
  ·obtain⟨K,b2,O⟩:=y m
   rw[f u K O] at v
   exact B.top j s u k l b.at_ m b.k_ v
  ·rw[g] at v;cases v;exact ad2 _
 ·by_cases e:s=x
  ·subst e
   rw[g]
   constructor
   ·intro q;have q:=aa2 q;lia
   ·intro q;have:=(B.zero s p H).mpr q;rw[I] at this;cases this
  ·rw[f s p e];exact B.zero s p H
 ·rcases mem_append.mp J with q|q
  ·have sr:=B.rng s q
   have sx:s≠x:=λe=>R (e▸q)
   rw[f s sr.1 sx] at o
   obtain⟨p1,u,u1,u2,u3,Y⟩:=B.via s a q o m
   refine⟨p1,u,u1,u2,u3,?_⟩
   rw[f u u2 λe=>by rw[e,I] at Y;cases Y]
   exact Y
  ·have:=mem_singleton.mp q
   subst this
   rw[g] at o
   cases o
   exact⟨hp,t,ht,L.1,L.2,by rw[f t L.1 X,b.k_,show k+1-1=k by lia]⟩
 ·have D:A[i]?=some u:=by rw[getElem?_append_left (by lia)] at o;exact o
  obtain⟨K,b2,O⟩:=y D
  rw[f u K O] at m
  obtain⟨j,E,Q⟩:=B.done i s u a hi D m p H U hu
  by_cases e:s=x
  ·subst e;rw[I] at E;cases E
  ·exact⟨j,by rw[f s p e];exact E,Q⟩
 ·rw[getElem?_append_left pl];exact b.at_
 ·rw[f t L.1 X];exact b.k_
 ·rcases mem_append.mp J with q|q
  ·obtain⟨j,E,Q⟩:=b.q9 s q U
   by_cases e:s=x
   ·subst e;rw[I] at E;cases E
   ·by_cases p:0<=s
    ·exact⟨j,by rw[f s p e];exact E,Q⟩
    ·refine⟨j,?_,Q⟩
     show(d.set x.toNat (some (k+1))).getD s.toNat none=some j
     have z:s.toNat=0:=by lia
     rw[Q_ (by have:=B.len;lia)]
     by_cases w:s.toNat=x.toNat
     ·have xz:x=0:=by lia
      have M:d.getD s.toNat none=some j:=E
      have N:d.getD x.toNat none=none:=I
      rw[w] at M
      rw[M] at N
      cases N
     ·rw[if_neg w];exact E
  ·rw[mem_singleton.mp q];exact⟨k+1,g,ad2 _⟩
theorem zM0{C:Addr}{m:ao C}(g:Gr m n){goal:LI}(ht:∀x∈through,0<=x/\x<n)(F:goal.Nodup/\∀x∈goal,0<=x/\x<n):W (QH m through goal) (qu m.steps through goal n):=by
 unfold QH
 have hp:=g.pos
 have hf:=g.few
 simp only[zB,aj,Vn g,uT]
 refine(zR8 g ht).imp λfl ⟨fl1,fl2⟩=>⟨⟨by lia,by omega⟩,?_⟩
 rw[Cj (λ_=>(none:Option Int))]
 have e:=Mg (n:=n) (by lia)
 refine⟨yK (by lia),xZ (λi (d:List (Option Int))=>(d.length:Int)=n/\∀s:Int,0<=s->s<n->dg d s=if s∈goal.take i then some 0 else none) ⟨by rw[length_map];exact e,λs _ _=>?_⟩ (λi x d p hI=>?_) λd L=>?_⟩
 ·show(List.map (λ_=>(none:Option Int)) (rng n)).getD s.toNat none=_
  rw[getD_eq_getElem?_getD,getElem?_map]
  cases(rng n)[s.toNat]?<;>simp
 ·have c:=F.2 x (mem_of_getElem? p)
  simp only[zB,aj]
  rw[Py c.1 (by lia)]
  refine⟨by rw[length_set];exact hI.1,λs I J=>?_⟩
  have tk:goal.take (i+1)=goal.take i++[x]:=by rw[take_add_one,p]<;>rfl
  rw[Yq hI.1 c.1 c.2 I,hI.2 s I J,tk]
  by_cases q:s=x<;>simp[q]
 rw[take_length] at L
 have U:Bf m.steps (· ∈ through) goal n d goal 0:=by
  have z:∀s:Int,0<=s->s<n->∀k,dg d s=some k->k=0/\s∈goal:=λs I J k h=>by
   rw[L.2 s I J] at h
   split at h
   ·rename_i q;cases h;exact⟨rfl,q⟩
   ·cases h
  refine⟨L.1,F.2,F.1,λs I J=>?_,λi s h=>?_,λi j s t k l _ w o X Q=>?_,λj s t k l w o X Q=>?_,λs I J=>?_,λs k A w o=>absurd A o,λi s t k p=>by omega⟩
  ·rw[L.2 s I J];by_cases q:s∈goal<;>simp[q]
  ·have A:=mem_of_getElem? h
   have:=F.2 s A
   exact⟨0,by rw[L.2 s this.1 this.2,if_pos A],ad2 _,by omega⟩
  ·have S:=F.2 s (mem_of_getElem? w)
   have Y:=F.2 t (mem_of_getElem? o)
   have:=(z s S.1 S.2 k X).1
   have:=(z t Y.1 Y.2 l Q).1
   lia
  ·have S:=F.2 s (mem_of_getElem? w)
   have Y:=F.2 t (mem_of_getElem? o)
   have:=(z s S.1 S.2 k X).1
   have:=(z t Y.1 Y.2 l Q).1
   lia
  ·rw[L.2 s I J];by_cases q:s∈goal<;>simp[q]
 have O:n.toNat<=60:=by lia
 refine zVw (λs=>∃f:Nat,s.2.2=(f:Int)/\Bf m.steps (· ∈ through) goal n s.1 s.2.1 f) (λs=>n.toNat-s.2.2.toNat) ⟨0,rfl,U⟩ (show n.toNat-(0:Int).toNat<fuel from aaw (Nat.sub_le _ _) (aaw O (by decide))) ?_
 rintro s ⟨f,hpl,B⟩
 rw[aj]
 have rl:s.2.1.length<=n.toNat:=wF B.nd λx c=>by have:=B.rng x c;lia
 by_cases lt:s.2.2<(s.2.1.length:Int)
 ·rw[decide_eq_true lt,if_pos rfl]
  simp only[zB,aj]
  rw[bW (by lia)]
  have N:f<s.2.1.length:=by lia
  have e1:s.2.2.toNat=f:=by lia
  rw[e1]
  refine⟨_,aam N,?_⟩
  have D:s.2.1[f]?=some s.2.1[f]:=aam N
  generalize s.2.1[f]=t at D
  have tr:=B.rng t (mem_of_getElem? D)
  obtain⟨k,hk,k0,k1⟩:=B.idx f t D
  refine(zWf g tr.1 tr.2).imp λxs P=>?_
  refine xZ (λi (r:List (Option Int)×LI)=>Bm m.steps (· ∈ through) goal n r.1 r.2 f t k (xs.take i)) ⟨B,D,hk,λs A=>by cases A⟩ (λi x r p b=>?_) λr b=>?_
  ·have c:=(P x).mp (mem_of_getElem? p)
   have tk:xs.take (i+1)=xs.take i++[x]:=by rw[take_add_one,p]<;>rfl
   rw[tk]
   simp only[zB,aj]
   rw[bW c.1]
   have fx:=fl2 x c.1 c.2.1
   have T:x.toNat<fl.length:=by lia
   refine⟨_,aam T,?_⟩
   rw[getD_eq_getElem?_getD,aam T] at fx
   have fx:fl[x.toNat]=decide (x∈through):=fx
   rw[fx]
   have dl:x.toNat<r.1.length:=by have:=b.bf.len;lia
   have dx:dg r.1 x=r.1[x.toNat]:=by show r.1.getD x.toNat none=_;rw[getD_eq_getElem?_getD,aam dl];rfl
   by_cases px:x∈through
   ·rw[decide_eq_true px,if_pos rfl,zB,bW c.1]
    refine⟨_,aam dl,?_⟩
    rw[<-dx,aj]
    cases E:dg r.1 x with
    |none =>
     simp only[Option.isNone_none,if_true,zB,aj]
     have R:t.toNat<r.1.length:=by have:=b.bf.len;lia
     rw[bW tr.1]
     refine⟨_,aam R,?_⟩
     have ek:r.1[t.toNat]=some k:=by
      have:=b.k_
      have z:r.1.getD t.toNat none=some k:=this
      rw[getD_eq_getElem?_getD,aam R] at z
      exact z
     rw[ek,aj,Py c.1 (by have:=b.bf.len;lia),pU]
     have rl2:r.2.length<=n.toNat:=wF b.bf.nd λx c=>by have:=b.bf.rng x c;lia
     exact⟨yK (by lia),b.put c.1 c.2.1 px E c.2.2⟩
    |some j =>
     simp only[Option.isNone_some,aa3,if_false,aj]
     refine⟨b.bf,b.at_,b.k_,λs A Z=>?_⟩
     rcases mem_append.mp A with q|q
     ·exact b.q9 s q Z
     ·rw[mem_singleton.mp q]
      have K:x∈r.2:=(b.bf.iff x c.1 c.2.1).mp (by rw[E];rfl)
      obtain⟨ii,hii⟩:=mem_iff_getElem?.mp K
      exact⟨j,E,b.bf.top ii t x k j b.at_ hii b.k_ E⟩
   ·rw[decide_eq_false px,if_neg (by decide),aj]
    simp only[aa3,if_false,aj]
    refine⟨b.bf,b.at_,b.k_,λs A Z=>?_⟩
    rcases mem_append.mp A with q|q
    ·exact b.q9 s q Z
    ·rw[mem_singleton.mp q] at Z;exact absurd Z px
  ·rw[take_length] at b
   refine⟨⟨f+1,by show s.2.2+1=_;lia,?_⟩,?_⟩
   ·have y:=b.bf
    refine⟨y.len,y.rng,y.nd,y.iff,y.idx,y.mono,λj u v a l w o X Q=>?_,y.zero,y.via,λi u v a p w o H G pu M=>?_⟩
    ·have q1:=y.mono f (f+1) t u k a (by lia) b.at_ w b.k_ X
     have q2:=y.top j t v k l b.at_ o b.k_ Q
     lia
    ·by_cases q:i=f
     ·subst q
      rw[b.at_] at w
      cases w
      rw[b.k_] at o
      cases o
      exact b.q9 u ((P u).mpr ⟨H,G,M⟩) pu
     ·exact y.done i u v a (by lia) w o H G pu M
   ·show n.toNat-(s.2.2+1).toNat<n.toNat-f
    lia
 ·rw[decide_eq_false lt,if_neg (by decide)]
  have all:∀t∈s.2.1,∃i,i<f/\s.2.1[i]?=some t:=λt h=>by
   obtain⟨i,p⟩:=mem_iff_getElem?.mp h
   exact⟨i,by have:=yN p;lia,p⟩
  refine⟨B.len,λu k H G h=>?_,B.zero,λu k H G h M=>?_,λu t k H G t0 t1 M ht hk=>?_⟩
  ·have K:=(B.iff u H G).mp (by rw[h];rfl)
   obtain⟨i,p⟩:=mem_iff_getElem?.mp K
   obtain⟨k',e1,e2,e3⟩:=B.idx i u p
   rw[h] at e1
   cases e1
   have:=yN p
   exact⟨e2,by omega⟩
  ·exact B.via u k ((B.iff u H G).mp (by rw[h];rfl)) h M
  ·obtain⟨i,w,o⟩:=all t ((B.iff t t0 t1).mp (by rw[hk];rfl))
   exact B.done i u t k w o hk H G M ht
theorem Yr{xss:List LI}(hl:(xss.length:Int)=n)(h0:0<=s)(h1:s<n):xss[s.toNat]?=some (nxt xss s):=by
 unfold nxt
 grind
theorem zZb(n:Int):(rng n).Pairwise (· < ·):=by
 unfold rng
 rw[pairwise_map]
 exact pairwise_lt_range.imp λh=>by grind
def pick(n:Int)(p:Int->Bool):LI:=(rng n).filter p
theorem cN:s∈pick n p↔0<=s/\s<n/\p s=true:=by
 unfold pick
 rw[mem_filter,cg,and_assoc]
theorem xV(n:Int)(p:Int->Bool):aG n (pick n p):=⟨(zZb n).filter p,λx a=>by have:=cN.mp a;omega⟩
theorem zYd{d:List (Option Int)}(hl:(d.length:Int)=n):jA d=(rng n).map λs=>(s,dg d s):=by
 refine ext_getElem? λi=>?_
 have e:n.toNat=d.length:=by lia
 by_cases q:i<d.length
 ·have a:(rng n)[i]?=some (i:Int):=by unfold rng;rw[getElem?_map,getElem?_range (by lia)];rfl
  rw[getElem?_map,a]
  unfold jA
  rw[List.getElem?_zip_eq_some (z:=((i:Int),dg d i))|>.mpr ⟨?_,?_⟩]
  ·rfl
  ·rw[getElem?_map,getElem?_range q];rfl
  ·show d[i]?=some (d.getD ((i:Int).toNat) none)
   rw[ab4,getD_eq_getElem?_getD,aam q];rfl
 ·rw[abv (by rw[Tc];lia),abv (by rw[length_map];unfold rng;rw[length_map,length_range];lia)]
theorem DQ:W (dput kvs k v) Q↔kvs.length<cap/\Q (pK kvs (abn k) v):=by
 unfold dput
 rw[uV]
 constructor
 ·intro⟨a,b⟩
  by_cases h:kvs.length<cap
  ·exact⟨h,aj.mp (a h)⟩
  ·exact absurd (b h) (by rw[vq];exact id)
 ·intro⟨h,q⟩
  exact⟨λ_=>aj.mpr q,λz=>absurd h z⟩
theorem zYp:W (PL kvs k v) Q↔kvs.length<cap/\Q (pK kvs (abz k) v):=by
 unfold PL
 rw[uV]
 constructor
 ·intro⟨a,b⟩
  by_cases h:kvs.length<cap
  ·exact⟨h,aj.mp (a h)⟩
  ·exact absurd (b h) (by rw[vq];exact id)
 ·intro⟨h,q⟩
  exact⟨λ_=>aj.mpr q,λz=>absurd h z⟩
def yj(n:Int)(xs:LI):Prop:=xs.Nodup/\xs.length<=100/\∀z∈xs,0<=z/\z<n
theorem zR7(h:0<=z/\z<n):UJ z n=some true:=by
 unfold UJ
 grind
theorem Ys(h:yj n xs)(x:Str):W (wW xs n x) λ_=>True:=by
 unfold wW
 rw[zB,aj,zB,zB,aj]
 refine xZ (λi s=>s.length<=i/\∀z,(jC s z).isSome=true->z∈xs.take i) ⟨aa5 _,λz c=>by cases c⟩ (λi y s a f=>?_) λs _=>aj.mpr trivial
 have il:=yN a
 rw[zR7 (h.2.2 y (mem_of_getElem? a)),zB,zB,zB,aj,aj,if_neg (by decide),aj,zB]
 have d:(jC s y).isSome=false:=by
  cases q:(jC s y).isSome with
  |false=>rfl
  |true=>exact absurd (f.2 y q) (Tj h.1 a)
 have b:=d
 rw[b,if_neg (by decide),aj,zB,DQ]
 have l1:=h.2.1
 refine⟨yK (by lia),?_⟩
 rw[aj]
 have l2:=zZl s (abn y) true
 refine⟨by lia,λz c=>?_⟩
 rw[Tn a]
 have e:=zZy s (abn y) (abn z) true
 grind
theorem G5(a:Str){i:Nat}(h:i<1000):W (Jv a (i:Int)) λ_=>True:=by
 unfold Jv
 rw[if_pos (zUh (by lia)),aj]
 trivial
theorem zQk{xss:List LI}(d:(xss.length:Int)=n)(h0:1<=n)(h1:n<=60)(h:∀xs∈xss,xs≠[]/\yj n xs):W (U0 xss) λ_=>True:=by
 unfold U0
 rw[zB,aj,zB,zB,d,decide_eq_false (by lia),if_neg (by decide),aj,decide_eq_false (by lia),if_neg (by decide),aj,zB,zB,aj]
 refine xZ (λ_ _=>True) trivial (λi y s c _=>?_) λs _=>aj.mpr trivial
 obtain⟨f,a⟩:=O7 c
 have il:=yN a
 obtain⟨e,b⟩:=h y.2 (mem_of_getElem? a)
 rw[f]
 simp only[zB]
 refine(G5 "steps of stand " (i:=i) (by lia)).imp λt _=>?_
 rw[aj,aj,aj]
 refine(Ys b t).imp λ_ _=>?_
 rw[decide_eq_false (λz=>e (length_eq_zero_iff.mp (by lia))),if_neg (by decide),aj,aj]
 trivial
theorem zSb{xss:List LI}(hl:xss.length<=100)(h:∀xs∈xss,yj n xs):W (U4 xss n) λ_=>True:=by
 unfold U4
 rw[zB,zB,aj]
 refine xZ (λ_ _=>True) trivial (λi y s c _=>?_) λs _=>aj.mpr trivial
 obtain⟨b,a⟩:=O7 c
 have il:=yN a
 rw[b]
 simp only[zB]
 refine(G5 "fair set " (by lia)).imp λt _=>?_
 rw[aj,aj,aj]
 refine(Ys (h y.2 (mem_of_getElem? a)) t).imp λ_ _=>?_
 rw[aj]
 trivial
def wZ(n:Int)(a:List (Str×LI)):Prop:=(a.map (·.1)).Nodup/\a.length<=100/\∀m∈a,MJ m.1=some true/\m.1.length<=1000/\yj n m.2
theorem zQl(h:wZ n b):W (U3 b n) λ_=>True:=by
 unfold U3
 rw[zB,aj,zB,zB,aj]
 refine xZ (λi s=>s.length<=i/\∀z,(Gu s z).isSome=true->z∈(b.map (·.1)).take i) ⟨aa5 _,λz d=>by cases d⟩ (λi y s g o=>?_) λs _=>aj.mpr trivial
 have il:=yN g
 have a:(b.map (·.1))[i]?=some y.1:=by rw[getElem?_map,g];rfl
 obtain⟨m,r,w⟩:=h.2.2 y (mem_of_getElem? g)
 have k:y.1∉(b.map (·.1)).take i:=λd=>by
  obtain⟨j,c⟩:=mem_iff_getElem?.mp d
  have f:j<i:=by
   have:=yN c
   rw[length_take] at this
   lia
  rw[getElem?_take_of_lt f] at c
  have l:=yN a
  have v:=yN c
  rw[aam l] at a
  rw[aam v] at c
  have e:(b.map (·.1))[j]=(b.map (·.1))[i]:=(aa2 c).trans (aa2 a).symm
  have:=(getElem_inj h.1).mp e
  lia
 rw[m,zB,zB,zB,aj,aj,aco,if_neg (by decide),aj,zB]
 have u:(Gu (Dc.mk s).kv y.1).isSome=false:=by
  cases q:(Gu s y.1).isSome with
  |false=>rfl
  |true=>exact absurd (o.2 y.1 q) k
 rw[u,if_neg (by decide),aj,zB,zYp]
 have l1:=h.2.1
 refine⟨yK (by lia),?_⟩
 simp only[zB]
 have p:W (Mi "mark " y.1) λ_=>True:=by
  unfold Mi
  rw[if_pos r,aj]
  trivial
 refine p.imp λt _=>?_
 rw[aj,aj,aj]
 refine(Ys w t).imp λ_ _=>?_
 rw[aj]
 have l2:=zZl s (abz y.1) true
 refine⟨by lia,λz d=>?_⟩
 rw[Tn a]
 have e:Gu (pK s (abz y.1) true) z=if(abz z:Key)=abz y.1 then some true else Gu s z:=zZy s (abz y.1) (abz z) true
 grind
theorem zOm{xss:List LI}(h:xss.length<=100):QB xss=some xss:=by
 have q:W (QB xss) (· = xss):=by
  unfold QB
  rw[zB,aj,Cj (λx=>x),map_id']
  exact⟨yK (by lia),rfl⟩
 obtain⟨a,e,rfl⟩:=q
 exact e
theorem Ra(C:Addr){xss:List LI}{mo:Option z_}{fo:Option LLI}(i:(xss.length:Int)=n)(h0:1<=n)(k:n<=60)(h:∀xs∈xss,xs≠[]/\yj n xs)(j:wZ n (mo.getD []))(g:(fo.getD []).length<=100/\∀xs∈fo.getD [],yj n xs) :
  W (QC C xss mo fo) λm=>Gr m n/\m.steps=xss/\m.marks=mo.getD []/\m.fair=fo.getD []:=by
 unfold QC TY
 rw[zB]
 refine(zQk i h0 k h).imp λ_ _=>?_
 rw[zB,i]
 refine(zQl j).imp λ_ _=>?_
 rw[zB]
 refine(zSb g.1 g.2).imp λ_ _=>?_
 have m1:=j.2.1
 rw[zOm (by lia),zB,aj,zB,Cj (λx:Str×LI=>(x.1,x.2))]
 refine⟨yK (by lia),?_⟩
 have e:(mo.getD []).map (λx:Str×LI=>(x.1,x.2))=mo.getD []:=map_id' _
 rw[zOm g.1,zB,aj,zB]
 have l:Mz xss=some (srcs xss):=by
  unfold Mz
  rw[if_pos ⟨by lia,rfl,λxs f=>by obtain⟨a,b,c,d⟩:=h xs f;exact⟨a,b,c,λz o=>by have:=d z o;omega⟩⟩]
 rw[l,aj,aj,e]
 exact⟨⟨i,h0,k,λxs f=>by obtain⟨a,b,c,d⟩:=h xs f;exact⟨a,b,d⟩,rfl⟩,rfl,rfl,rfl⟩
theorem Yt(hx:0<=x)(hy:0<=y):aa8 x y=((x.toNat&&&y.toNat:Nat):Int):=by
 unfold aa8
 grind
theorem zP5(hx:0<=x)(hy:0<=y):acz x y=((x.toNat|||y.toNat:Nat):Int):=by
 have h1:¬0<=acu x:=by unfold acu;lia
 have h2:¬0<=acu y:=by unfold acu;lia
 have nn:∀z,acu (acu z)=z:=λz=>by unfold acu;lia
 unfold acz aa8
 grind
def bt(x t:Int):Bool:=x.toNat.testBit t.toNat
theorem G6(a:0<=x)(b:0<=y)(t:Int):bt (acz x y) t=(bt x t||bt y t):=by
 unfold bt
 rw[zP5 a b,ab4,Nat.testBit_or]
theorem yAd(a:0<=x)(b:0<=y)(t:Int):bt (aa8 x y) t=(bt x t&&bt y t):=by
 unfold bt
 rw[Yt a b,ab4,Nat.testBit_and]
theorem G7(a:0<=x)(b:0<=y):0<=acz x y:=by rw[zP5 a b];grind
theorem yAg(a:0<=x)(b:0<=y):0<=aa8 x y:=by rw[Yt a b];grind
theorem DW(t:Int):bt 0 t=false:=by unfold bt;simp
theorem Kd(ht:0<=t)(hu:0<=u):bt (1*2^t.toNat) u=decide (u=t):=by
 unfold bt
 rw[Int.one_mul,show((2:Int)^t.toNat).toNat=2^t.toNat by
  rw[show((2:Int)^t.toNat)=((2^t.toNat:Nat):Int) by simp]
  exact ab4 _,Nat.testBit_two_pow]
 rw[ab2,decide_eq_true_iff,decide_eq_true_iff]
 omega
theorem Yu{x:Int}(a:0<=x)(k:Nat):0<=x/2^k:=Int.ediv_nonneg a (Int.le_of_lt (Int.pow_pos (by decide)))
theorem DX{x:Int}(hx:0<=x)(k:Nat):(x/2^k).toNat=x.toNat>>>k:=by
 rw[Nat.shiftRight_eq_div_pow]
 grind
theorem Yv{t:Int}(hx:0<=x):bt (x/2^t.toNat) 0=bt x t:=by
 unfold bt
 rw[DX hx,Int.toNat_zero,Nat.testBit_shiftRight]
 rfl
theorem yAb(a:0<=x):(aa8 x 1 != 0)=bt x 0:=by
 rw[Yt a (by decide)]
 unfold bt
 grind
theorem zYv(h:∀x∈xs,0<=x/\x<n)(Mx:n<=60):W (QJ xs) λb=>0<=b/\∀t:Int,0<=t->bt b t=decide (t∈xs):=by
 unfold QJ
 rw[zB,aj,zB,zB,aj]
 refine xZ (λi s=>0<=s/\∀t:Int,0<=t->bt s t=decide (t∈xs.take i)) ⟨by decide,λt _=>by rw[DW];simp⟩ (λi x s c a=>?_) λs a=>?_
 ·obtain⟨g,l⟩:=a
  have j:=h x (mem_of_getElem? c)
  have e:wu 1 x=some (1*2^x.toNat):=by unfold wu;rw[if_pos ⟨j.1,by lia,by decide⟩]
  have k:xs.take (i+1)=xs.take i++[x]:=by rw[take_add_one,c]<;>rfl
  have d:(0:Int)<=1*2^x.toNat:=by rw[Int.one_mul];exact Int.le_of_lt (Int.pow_pos (by decide))
  rw[zB,zB,e,aj,aj,aj]
  refine⟨G7 g d,λt f=>?_⟩
  rw[G6 g d,l t f,Kd j.1 f,k,ab2]
  simp
 ·rw[aj]
  rw[take_length] at a
  exact a
def rb(rows:LI)(s t:Int):Bool:=bt (rows.getD s.toNat 0) t
theorem Rb{rows:LI}(hl:(rows.length:Int)=n)(h0:0<=s)(h1:s<n):L2.aJ rows s=some (rows.getD s.toNat 0):=by
 rw[nQ h0,getD_eq_getElem?_getD,aam (by lia)]
 rfl
def G8(rows:LI):Prop:=∀i:Nat,0<=rows.getD i 0
theorem zP4{rows:LI}{n s t:Int}(c:(rows.length:Int)=n)(b:G8 rows)(h0:0<=s)(e:s<n)(d:0<=t) :
  ((((L2.aJ rows s).bind λa=>gR a t).bind λa=>some (aa8 a 1)).bind λa=>some (a != 0))=some (rb rows s t):=by
 rw[Rb c h0 e]
 show(((gR _ t).bind _).bind _)=_
 unfold gR
 rw[if_pos d]
 show some (aa8 (rows.getD s.toNat 0/2^t.toNat) 1 != 0)=_
 rw[yAb (Yu (b _) _),Yv (b _)]
 rfl
theorem zWg{rows:LI}{n s t:Int}(e:(rows.length:Int)=n)(c:G8 rows)(h0:0<=s)(i:s<n)(f:0<=t)(j:t<n) :
  (((((L2.aJ rows s).bind λa=>gR a t).bind λa=>((L2.aJ rows t).bind λb=>gR b s).bind λb=>some (aa8 a b)).bind λa=>some (aa8 a 1)).bind λa=>some (a != 0))=some (rb rows s t&&rb rows t s):=by
 rw[Rb e h0 i,Rb e f j]
 show((((gR _ t).bind λa=>(gR _ s).bind _).bind _).bind _)=_
 unfold gR
 rw[if_pos f,if_pos h0]
 show some (aa8 (aa8 (rows.getD s.toNat 0/2^t.toNat) (rows.getD t.toNat 0/2^s.toNat)) 1 != 0)=_
 have d:=Yu (c s.toNat) t.toNat
 have g:=Yu (c t.toNat) s.toNat
 rw[yAb (yAg d g),yAd d g,Yv (c _),Yv (c _)]
 rfl
theorem zZf{rows:LI}(hl:(rows.length:Int)=n)(x0:0<=x)(x1:x<n)(s0:0<=s):rb (rows.set x.toNat v) s t=if s=x then bt v t else rb rows s t:=by
 unfold rb
 rw[Q_ (by lia)]
 by_cases e:s=x
 ·subst e;rw[if_pos rfl,if_pos rfl]
 ·rw[if_neg (by lia),if_neg e]
theorem zZn{rows:LI}(hl:(rows.length:Int)=n)(x0:0<=x)(x1:x<n)(b:G8 rows)(a:0<=v):G8 (rows.set x.toNat v):=λi=>by
 rw[Q_ (by lia)]
 split
 ·exact a
 ·exact b i
inductive dj(xss:List LI)(U:LI):Int->Int->Prop
 |one {s t:Int}:t∈nxt xss s->t∈U->dj xss U s t
 |step {s u t:Int}:u∈nxt xss s->u∈U->dj xss U u t->dj xss U s t
theorem dj.trans(h:dj xss U s t)(k:dj xss U t u):dj xss U s u:=by
 induction h with
 |one a b=>exact .step a b k
 |step a b _ ih=>exact .step a b (ih k)
theorem dj.mem(h:dj xss U s t):t∈U:=by
 induction h with
 |one _ b=>exact b
 |step _ _ _ ih=>exact ih
theorem dj.mono{xss:List LI}{U V:LI}{s t:Int}(h:dj xss U s t)(k:∀x∈U,x∈V):dj xss V s t:=by
 induction h with
 |one a b=>exact .one a (k _ b)
 |step a b _ ih=>exact .step a (k _ b) ih
structure kI(xss:List LI)(U rows:LI):Prop where
 nn:G8 rows
 edge:∀s∈U,∀t∈U,t∈nxt xss s->rb rows s t=true
 sound:∀s∈U,∀t:Int,0<=t->rb rows s t=true->dj xss U s t
 trans:∀s∈U,∀u∈U,∀t:Int,0<=t->rb rows s u=true->rb rows u t=true->rb rows s t=true
theorem zP0{α β:Type}{c:α->Option Bool}{f:α->Option β}{p:α->Bool}{g:α->β}:∀{xs:List α},(∀x∈xs,c x=some (p x))->(∀x∈xs,f x=some (g x))->vJ c f xs=some ((xs.filter p).map g)
 |[],_,_=>rfl
 |x::xs,h,e=>by
  have ih:=zP0 (λy a=>h y (mem_cons_of_mem _ a)) λy a=>e y (mem_cons_of_mem _ a)
  show((c x).bind λb=>if b=true then(f x).bind λy=>(vJ c f xs).bind λd=>some (y::d) else vJ c f xs)=_
  grind
theorem Rf{α β:Type}{c:α->Option Bool}{f:α->Option β}{p:α->Bool}{g:α->β}{xs:List α}(a:xs.length<cap)(d:∀x∈xs,c x=some (p x))(b:∀x∈xs,f x=some (g x)):xG c f xs=some ((xs.filter p).map g):=by
 unfold xG
 rw[if_pos a]
 exact zP0 d b
theorem zZa{C:Addr}{m:ao C}(g:Gr m n)(h0:0<=s)(a:s<n):nxt m.steps s∈m.steps:=mem_of_getElem? (Yr g.len h0 a)
theorem zOj{C:Addr}{m:ao C}(g:Gr m n)(h0:0<=s)(a:s<n):W (yQ m s) λxs=>xs.length<=60/\∀x,x∈xs↔x∈nxt m.steps s:=by
 unfold yQ
 have f:=g.few
 obtain⟨_,b,rg⟩:=g.row _ (zZa g h0 a)
 have l:=wF (n:=n.toNat) b λx hx=>by grind
 rw[zB,bW h0]
 refine⟨_,Yr g.len h0 a,?_⟩
 unfold dY
 rw[if_pos (by lia),aj]
 refine⟨by rw[(uH _).length_eq];lia,λx=>(uH _).mem_iff⟩
def dl(xs:LI):List (Key×Bool):=xs.map λx=>((abn x:Key),true)
theorem zZ6:∀(xs:LI)(x:Int),(jC (dl xs) x).isSome=decide (x∈xs)
 |[],x=>by simp[dl,gK]
 |y::xs,x=>by
  have ih:=zZ6 xs x
  unfold jC gK dl at ih ⊢
  grind
theorem Ke(h:x∉xs):pK (dl xs) (abn x) true=dl (xs++[x]):=by
 unfold pK
 unfold dl
 grind
theorem Kf(xs:LI):(dl xs).length=xs.length:=length_map ..
theorem Kg:W (dput kvs k v) Q↔kvs.length<cap/\Q (pK kvs (abn k) v):=by
 unfold dput
 split
 ·rw[aj];grind
 ·rw[vq];grind
section
variable{S α β:Type}
theorem zVy{step:S->α->Option (Out S β)}{Q:Out S β->Prop}(I:Nat->S->Prop)(h0:I 0 s)(f:∀i x s,xs[i]?=some x->I i s->W (step s x) λo=>(∃s',o=.nx s'/\I (i+1) s')\/∃b,o=.rt b/\Q (.rt b))(g:∀s,I xs.length s->Q (.nx s)):W (jR step xs s) Q:=by
 have key:∀(a:List α)(i:Nat)(s:S),(∀j x,a[j]?=some x->xs[i+j]?=some x)->i+a.length=xs.length->I i s->W (jR step a s) Q:=by
  intro a
  induction a with
  |nil=>intro i s _ d h;exact⟨.nx s,rfl,g s ((show i=xs.length from d)▸h)⟩
  |cons y a ih =>
   intro i s e d h
   rw[zIz,zB]
   refine(f i y s (e 0 y rfl) h).imp ?_
   rintro o (⟨s',rfl,c⟩|⟨b,rfl,c⟩)
   ·refine ih (i+1) s' (λj x hx=>?_) (by grind) c
    have:=e (j+1) x (by grind)
    grind
   ·exact⟨.rt b,rfl,c⟩
 grind
end
theorem Vo{α:Type}{xs:List α}{x:α}(h:xs[i]?=some x):xs.take (i+1)=xs.take i++[x]:=by rw[take_add_one,h]<;>rfl
theorem G9{xs:LI}{i:Nat}{x s:Int}(h:xs[i]?=some x):s∈xs.take (i+1)↔s∈xs.take i\/s=x:=by rw[Vo h,mem_append,mem_singleton]
theorem Vp{C:Addr}{m:ao C}(g:Gr m n)(h0:0<=s)(a:s<n):∀x∈nxt m.steps s,0<=x/\x<n:=(g.row _ (zZa g h0 a)).2.2
theorem zWb{C:Addr}{m:ao C}(g:Gr m n)(z:∀x∈U,0<=x/\x<n):W (U_ m U) λrows=>(rows.length:Int)=n/\kI m.steps U rows:=by
 unfold U_
 have L:=g.few
 have pos:=g.pos
 rw[zB]
 refine(zYv z L).imp λinside ⟨Z,ib⟩=>?_
 rw[zB,zB,zB,Vn g,aj,uT]
 refine⟨⟨by lia,by omega⟩,?_⟩
 have rl:=Mg (n:=n) (by lia)
 rw[Cj (λ_=>(0:Int))]
 refine⟨yK (by lia),?_⟩
 rw[zB,zB,aj]
 refine xZ (λi rows=>(rows.length:Int)=n/\G8 rows/\∀s∈U.take i,∀t:Int,0<=t->rb rows s t=decide (t∈nxt m.steps s/\t∈U)) ⟨by rw[length_map];exact rl,λi=>?_,λs l=>by simp at l⟩ (λi x rows K E=>?_) λrows E=>?_
 ·rw[getD_eq_getElem?_getD,getElem?_map]
  cases(rng n)[i]?<;>exact ad2 0
 ·obtain⟨I,R,H⟩:=E
  have q:=z x (mem_of_getElem? K)
  rw[zB,zB,zB,zB,zB]
  refine(zOj g q.1 q.2).imp ?_
  rintro ns ⟨_,F⟩
  rw[aj]
  refine(zYv (xs:=ns) (λy hy=>Vp g q.1 q.2 y ((F y).mp hy)) L).imp λb ⟨b0,bb⟩=>?_
  rw[aj,Py q.1 (by lia),aj]
  refine⟨by rw[length_set];exact I,zZn I q.1 q.2 R (yAg b0 Z),λs l t f=>?_⟩
  rw[G9 K] at l
  have s0:0<=s:=l.elim (λh=>(z s (mem_of_mem_take h)).1) λh=>h▸q.1
  rw[zZf I q.1 q.2 s0]
  by_cases e:s=x
  ·subst e
   rw[if_pos rfl,yAd b0 Z,bb t f,ib t f,ab2]
   simp[F]
  ·rw[if_neg e]
   exact H s (l.resolve_right e) t f
 ·obtain⟨I,R,H⟩:=E
  rw[take_length] at H
  rw[zB,zB,aj]
  refine xZ (λi rows=>(rows.length:Int)=n/\G8 rows/\(∀s∈U,∀t∈U,t∈nxt m.steps s->rb rows s t=true)/\(∀s∈U,∀t:Int,0<=t->rb rows s t=true->dj m.steps U s t)/\∀u∈U.take i,∀s∈U,∀t:Int,0<=t->rb rows s u=true->rb rows u t=true->rb rows s t=true)
   ⟨I,R,λs l t f h=>by rw[H s l t (z t f).1];exact decide_eq_true ⟨h,f⟩,λs l t f h=>by
    rw[H s l t f] at h
    have:=of_decide_eq_true h
    exact .one this.1 this.2,λu P=>by simp at P⟩ (λi u w K E=>?_) λrows E=>?_
  ·obtain⟨Q,N,X,B,O⟩:=E
   have J:=mem_of_getElem? K
   have D:=z u J
   rw[zB,zB,aj]
   refine xZ (λj rows=>(rows.length:Int)=n/\G8 rows/\∀s∈U,∀t:Int,0<=t->rb rows s t=(rb w s t||(decide (s∈U.take j)&&(rb w s u&&rb w u t)))) ⟨Q,N,λs _ t _=>by simp⟩ (λj x rows M S=>?_) λrows S=>?_
   ·obtain⟨o,p,r⟩:=S
    have xm:=mem_of_getElem? M
    have q:=z x xm
    have ex:rb rows x u=rb w x u:=by
     rw[r x xm u D.1]
     cases rb w x u<;>simp
    have eu:∀t:Int,0<=t->rb rows u t=rb w u t:=λt f=>by
     rw[r u J t f]
     cases rb w u t<;>simp
    rw[zP4 o p q.1 q.2 D.1,zB,zB,aj,ex]
    by_cases c:rb w x u=true
    ·rw[c,if_pos rfl,zB,zB,Rb o D.1 D.2,aj]
     unfold lD
     rw[if_pos q.1,Rb o q.1 q.2]
     show W (m6 rows x _) _
     rw[Py q.1 (by lia),aj,aj]
     refine⟨by rw[length_set];exact o,zZn o q.1 q.2 p (G7 (p _) (p _)),λs l t f=>?_⟩
     rw[zZf o q.1 q.2 (z s l).1]
     by_cases e:s=x
     ·subst e
      rw[if_pos rfl,G6 (p _) (p _)]
      show(rb rows s t||rb rows u t)=_
      rw[r s l t f,eu t f,c,decide_eq_true ((G9 M).mpr (.inr rfl))]
      cases rb w s t<;>cases rb w u t<;>simp
     ·rw[if_neg e,r s l t f]
      have:decide (s∈U.take (j+1))=decide (s∈U.take j):=by
       rw[ab2,decide_eq_true_iff,decide_eq_true_iff,G9 M]
       exact⟨λh=>h.resolve_right e,.inl⟩
      rw[this]
    ·have c:rb w x u=false:=by simpa using c
     rw[c,if_neg (by decide),aj,aj]
     refine⟨o,p,λs l t f=>?_⟩
     rw[r s l t f]
     by_cases e:s=x
     ·subst e
      rw[c]
      simp
     ·have:decide (s∈U.take (j+1))=decide (s∈U.take j):=by
       rw[ab2,decide_eq_true_iff,decide_eq_true_iff,G9 M]
       exact⟨λh=>h.resolve_right e,.inl⟩
      rw[this]
   ·obtain⟨o,p,r⟩:=S
    rw[take_length] at r
    have A:∀s∈U,∀t:Int,0<=t->(rb rows s t=true↔rb w s t=true\/(rb w s u=true/\rb w u t=true)):=λs l t f=>by
     rw[r s l t f,decide_eq_true l]
     simp
    rw[aj]
    refine⟨o,p,λs l t f h=>(A s l t (z t f).1).mpr (.inl (X s l t f h)),λs l t f h=>?_,λv G s l t f h1 h2=>?_⟩
    ·rcases(A s l t f).mp h with h|⟨h,k⟩
     ·exact B s l t f h
     ·exact(B s l u D.1 h).trans (B u J t f k)
    ·rw[G9 K] at G
     refine(A s l t f).mpr ?_
     rcases G with G|rfl
     ·have vU:=mem_of_mem_take G
      have v0:=(z v vU).1
      have T:=O v G
      rcases(A s l v v0).mp h1 with a|⟨a,b⟩<;>rcases(A v vU t f).mp h2 with c|⟨c,d⟩
      ·exact .inl (T s l t f a c)
      ·exact .inr ⟨T s l u D.1 a c,d⟩
      ·exact .inr ⟨a,T u J t f b c⟩
      ·exact .inr ⟨a,d⟩
     ·have a:rb w s v=true:=((A s l v D.1).mp h1).elim id And.left
      have b:rb w v t=true:=((A v J t f).mp h2).elim id And.right
      exact .inr ⟨a,b⟩
  ·obtain⟨o,p,ed,so,Y⟩:=E
   rw[take_length] at Y
   rw[aj]
   exact⟨o,p,ed,so,λs l u P t f=>Y u P s l t f⟩
def ring(rows U:LI)(s:Int):LI:=U.filter λt=>rb rows s t&&rb rows t s
theorem aU:t∈ring rows U s↔t∈U/\rb rows s t=true/\rb rows t s=true:=by
 unfold ring
 grind
structure qw(xss:List LI)(U G:LI):Prop where
 sub:∀s∈G,s∈U
 nd:G.Nodup
 go:∀s∈G,∀t∈G,dj xss G s t
theorem kI.full(R:kI xss U rows)(h0:∀x∈U,0<=x)(h:dj xss U s t):s∈U->rb rows s t=true:=by
 induction h with
 |one a b=>exactλc=>R.edge _ c _ b a
 |step a b p ih=>exactλc=>R.trans _ c _ b _ (h0 _ p.mem) (R.edge _ c _ b a) (ih b)
theorem zS7(R:kI xss U rows)(h0:∀x∈U,0<=x)(r:U.Nodup)(i:o∈U):qw xss U (ring rows U o):=by
 have g:∀{s t:Int},dj xss U s t->s∈ring rows U o->t∈ring rows U o->dj xss (ring rows U o) s t:=by
  intro s t h
  induction h with
  |one a b=>exactλ_ c=>.one a c
  |@step s u t a b p ih =>
   intro d c
   obtain⟨e,j,m⟩:=aU.mp d
   obtain⟨f,n,k⟩:=aU.mp c
   have v:=R.trans o i s e u (h0 u b) j (R.edge s e u b a)
   have q:=R.trans u b t f o (h0 o i) (R.full h0 p b) k
   have l:=aU.mpr ⟨b,v,q⟩
   exact .step a l (ih l c)
 refine⟨λs d=>(aU.mp d).1,r.filter _,λs d t c=>?_⟩
 obtain⟨e,j,m⟩:=aU.mp d
 obtain⟨f,n,k⟩:=aU.mp c
 exact g (R.sound s e t (h0 t f) (R.trans s e o i t (h0 t f) m n)) d c
structure DY(rows U:LI)(told:List LI):Prop where
 are:∀G∈told,∃s∈U,rb rows s s=true/\G=ring rows U s
 nd:told.flatten.Nodup
 all:∀s∈U,rb rows s s=true->s∈told.flatten
theorem zR1(h:∀x∈xs,0<=x/\x<n)(a:xs.length<64):iI xs=some (iH xs)/\aG n (iH xs):=by
 unfold iI
 rw[if_pos a]
 exact⟨rfl,Gy xs,λx b=>h x (bC.mp b)⟩
theorem D_{C:Addr}{m:ao C}(g:Gr m n)(I:∀x∈xs,0<=x/\x<n)(hl:xs.length<64):W (Va m xs) λf=>∃rows,kI m.steps (iH xs) rows/\DY rows (iH xs) f:=by
 obtain⟨e,r⟩:=zR1 I hl
 have few:=g.few
 have pos:=g.pos
 unfold Va
 rw[e,zB,aj,zB]
 generalize iH xs=U at r ⊢
 have h0:∀x∈U,0<=x:=λx I=>(r.2 x I).1
 have Ul:U.length<=n.toNat:=wF r.nodup λx I=>by have:=r.2 x I;lia
 refine(zWb g r.2).imp λrows ⟨T,R⟩=>?_
 rw[zB,aj,zB,aj,zB,zB,aj]
 refine xZ (λi z=>∃f:List LI,z=(f,dl f.flatten)/\(∀G∈f,∃s∈U,rb rows s s=true/\G=ring rows U s)/\f.flatten.Nodup/\(∀s∈U.take i,rb rows s s=true->s∈f.flatten)/\f.length<=i) ⟨[],rfl,λG u=>(by cases u),by simp,λs v=>(by simp at v),aao _⟩ (λi x z J O=>?_) λz O=>?_
 ·obtain⟨f,rfl,l,E,o,tl⟩:=O
  have F:=mem_of_getElem? J
  have w:=r.2 x F
  have M:∀t∈f.flatten,t∈U:=λt B=>by
   obtain⟨G,u,N⟩:=mem_flatten.mp B
   obtain⟨s,_,_,rfl⟩:=l G u
   exact(aU.mp N).1
  have il:i<U.length:=(aau.mp J).1
  rw[zB,zB]
  show W (if(!(jC (dl f.flatten) x).isSome)=true then _ else _) _
  rw[zZ6]
  by_cases K:x∈f.flatten
  ·rw[decide_eq_true K,aco,if_neg (by decide),aj,if_neg (by decide),aj,aj]
   exact⟨f,rfl,l,E,λs v h=>((G9 J).mp v).elim (λq=>o s q h) λq=>q▸K,by omega⟩
  ·rw[decide_eq_false K,aek,if_pos rfl,zP4 T R.nn w.1 w.2 w.1,aj]
   by_cases c:rb rows x x=true
   ·have D:∀t∈ring rows U x,t∉f.flatten:=λt B Y=>by
     obtain⟨G,u,N⟩:=mem_flatten.mp Y
     obtain⟨s,P,_,rfl⟩:=l G u
     obtain⟨S,t1,t2⟩:=aU.mp B
     obtain⟨_,t3,X⟩:=aU.mp N
     exact K (mem_flatten.mpr ⟨_,u,aU.mpr ⟨F,R.trans s P t S x w.1 t3 t2,R.trans x F t S s (h0 s P) t1 X⟩⟩)
    have Q:(ring rows U x).Nodup:=r.nodup.filter _
    have H:(f.flatten++ring rows U x).Nodup:=by
     rw[nodup_append]
     exact⟨E,Q,λa ha b hb e=>D b hb (e▸ha)⟩
    have ln:(f.flatten++ring rows U x).length<=n.toNat:=wF H λy hy=>by
     have:y∈U:=(mem_append.mp hy).elim (M y) λq=>(aU.mp q).1
     have:=r.2 y this
     lia
    rw[c,if_pos rfl,zB,zB,aj,Rf (p:=λt=>rb rows x t&&rb rows t x) (g:=λt=>t) (yK (by lia)) (λt B=>zWg T R.nn w.1 w.2 (r.2 t B).1 (r.2 t B).2) (λt _=>rfl),aj,map_id']
    show W ((push f (ring rows U x)).bind _) _
    rw[zB,pU]
    refine⟨yK (by lia),?_⟩
    rw[zB,zB,aj]
    refine xZ (λk d=>d=dl (f.flatten++(ring rows U x).take k)) (by rw[List.take_zero,append_nil]) (λk y d A L=>?_) λd L=>?_
    ·subst L
     have A:(ring rows U x)[k]?=some y:=A
     have ym:=mem_of_getElem? A
     have kl:=(aau.mp A).1
     have yn:y∉f.flatten++(ring rows U x).take k:=λq=>by
      rcases mem_append.mp q with q|q
      ·exact D y ym q
      ·obtain⟨j,hj,e⟩:=getElem_of_mem q
       rw[List.getElem_take] at e
       rw[length_take] at hj
       have Z:=(aau.mp A).2
       have:=(List.nodup_iff_pairwise_ne.mp Q)
       have ne:=List.pairwise_iff_getElem.mp this j k (by lia) kl (by lia)
       exact ne (e.trans Z.symm)
     rw[zB,Kg,Ke yn,Kf]
     refine⟨yK ?_,?_⟩
     ·rw[length_append] at ln ⊢
      rw[length_take]
      lia
     ·rw[aj,Vo A,append_assoc]
    ·subst L
     rw[show(ring rows U x).take (U.filter λt=>rb rows x t&&rb rows t x).length=ring rows U x from take_length,aj,aj]
     refine⟨f++[ring rows U x],by rw[flatten_append,flatten_singleton],λG u=>?_,by rw[flatten_append,flatten_singleton];exact H,λs v h=>?_,by rw[length_append];exact acd tl⟩
     ·rcases mem_append.mp u with q|q
      ·exact l G q
      ·exact⟨x,F,c,mem_singleton.mp q⟩
     ·rw[flatten_append,flatten_singleton,mem_append]
      exact((G9 J).mp v).elim (λq=>.inl (o s q h)) λq=>.inr (by rw[q];exact aU.mpr ⟨F,c,c⟩)
   ·have c':rb rows x x=false:=by simpa using c
    rw[c',if_neg (by decide),aj,aj]
    exact⟨f,rfl,l,E,λs v h=>((G9 J).mp v).elim (λq=>o s q h) λq=>absurd (q▸h) c,by omega⟩
 ·obtain⟨f,rfl,l,E,o,_⟩:=O
  rw[take_length] at o
  rw[aj]
  exact⟨rows,R,l,E,o⟩
def nU(n:Int)(a:List LI):Prop:=a.length<=100/\∀F∈a,yj n F
def vI(a:List LI)(G:LI):Bool:=a.all λF=>G.any λx=>decide (x∈F)
theorem m7(h:yj n xs)(Mx:n<=60)(h0:0<=n):xs.length<=60:=by
 have:=wF (n:=n.toNat) h.1 λx a=>by have:=h.2.2 x a;omega
 lia
theorem zWd{C:Addr}{m:ao C}{n:Int}(g:Gr m n)(b:nU n m.fair){i:Nat}{F:LI}(c:m.fair[i]?=some F):W (vL m (i:Int)) λxs=>xs.length<=60/\∀x,x∈xs↔x∈F:=by
 unfold vL
 have a:=g.few
 have pos:=g.pos
 have l:=m7 (b.2 F (mem_of_getElem? c)) a (by lia)
 rw[zB,bW (by lia)]
 refine⟨F,by grind,?_⟩
 unfold dY
 rw[if_pos (by lia),aj]
 exact⟨by rw[(uH _).length_eq];exact l,λx=>(uH _).mem_iff⟩
theorem zR2{xs ys:LI}(h:xs.length<64\/ys.length<64)(h1:xs.length<4000)(h2:ys.length<4000):vA xs ys=some (iH (xs.filter λz=>decide (z∈ys))):=by
 unfold vA qR
 grind
theorem zOi{xs ys:LI}(a:xs.length<64)(h2:ys.length<4000):vA xs ys=some (iH (xs.filter λz=>decide (z∈ys))):=zR2 (.inl a) (by lia) h2
theorem mH:(iH xs).length=0↔xs=[]:=by
 constructor
 ·intro h
  cases xs with
  |nil=>rfl
  |cons x xs =>
   have:=(bC (ns:=x::xs)).mpr mem_cons_self
   grind
 ·intro h;subst h;rfl
theorem zWc{C:Addr}{m:ao C}(g:Gr m n)(h:nU n m.fair){G:LI}(p:G.length<64):W (QL m G) λo=>o.isNone=vI m.fair G:=by
 unfold QL
 have hl:=h.1
 rw[zB,zB,uT]
 refine⟨⟨by lia,by omega⟩,zVy (λi _=>∀F∈m.fair.take i,(G.any λx=>decide (x∈F))=true) (λF c=>by simp at c) (λi x s l f=>?_) λs f=>?_⟩
 ·obtain⟨rfl,a⟩:=Gn l
  have j:i<m.fair.length:=by lia
  have c:m.fair[i]?=some m.fair[i]:=aam j
  rw[zB,zB,zB,zB,zB,zB]
  refine(zWd g h c).imp λd ⟨yl,k⟩=>?_
  rw[aj,aj]
  show W (vA G d) _
  rw[zOi p (by lia),aj,aj,aj]
  by_cases e:G.filter (λz=>decide (z∈d))=[]
  ·rw[decide_eq_true (show((iH (G.filter λz=>decide (z∈d))).length:Int)=0 by have:=mH.mpr e;lia),if_pos rfl,zB,aj,aj]
   refine .inr ⟨_,rfl,?_⟩
   show W (some (some (i:Int))) _
   rw[aj]
   symm
   show vI m.fair G=false
   have:(G.any λx=>decide (x∈m.fair[i]))=false:=by
    rw[any_eq_false]
    intro x a q
    have q:=of_decide_eq_true q
    have:x∈G.filter (λz=>decide (z∈d)):=mem_filter.mpr ⟨a,decide_eq_true ((k x).mpr q)⟩
    rw[e] at this
    cases this
   unfold vI
   rw[List.all_eq_false]
   exact⟨_,getElem_mem j,by rw[this];decide⟩
  ·rw[decide_eq_false (λz=>e (mH.mp (by lia))),if_neg (by decide),aj]
   refine .inl ⟨(),rfl,λF b=>?_⟩
   rw[Vo c,mem_append,mem_singleton] at b
   rcases b with q|q
   ·exact f F q
   ·subst q
    obtain⟨x,a⟩:=List.exists_mem_of_ne_nil _ e
    rw[mem_filter] at a
    exact any_eq_true.mpr ⟨x,a.1,decide_eq_true ((k x).mp (of_decide_eq_true a.2))⟩
 ·have e:(rng (m.fair.length:Int)).length=m.fair.length:=by have:=Mg (n:=(m.fair.length:Int)) (by lia);lia
  rw[e,take_length] at f
  rw[v9,aj]
  symm
  show vI m.fair G=true
  exact all_eq_true.mpr f
theorem zW9{U:LI}(h:U.length<=k):(ring rows U s).length<=k:=aa0 (length_filter_le ..) h
structure qx(xss:List LI)(fair:List LI)(U goal:LI):Prop where
 nd:goal.Nodup
 sub:∀s∈goal,s∈U
 of:∀s∈goal,∃G:LI,qw xss U G/\s∈G/\vI fair G=true/\∀t∈G,t∈goal
 all:∀s∈U,∀G:LI,(∀t,t∈G↔t∈U/\dj xss U s t/\dj xss U t s)->dj xss U s s->vI fair G=true->s∈goal
theorem zL0(h:∀t,t∈G↔t∈G'):vI fair G=vI fair G':=by
 unfold vI
 congr 1
 funext F
 rw[ab2,any_eq_true,any_eq_true]
 exact⟨λ⟨x,a,b⟩=>⟨x,(h x).mp a,b⟩,λ⟨x,a,b⟩=>⟨x,(h x).mpr a,b⟩⟩
theorem Eb{C:Addr}{m:ao C}(g:Gr m n)(hf:nU n m.fair)(A:∀x∈xs,0<=x/\x<n)(M:xs.length<64) :
  W (uF m xs) λa=>a.length<=60/\(∀G∈a,qw m.steps (iH xs) G/\vI m.fair G=true)/\W (M8 a) λgoal=>goal=a.flatten/\qx m.steps m.fair (iH xs) goal:=by
 have few:=g.few
 have pos:=g.pos
 have z:=(zR1 A M).2
 have k:∀x∈iH xs,0<=x:=λx A=>(z.2 x A).1
 have Q:(iH xs).length<=n.toNat:=wF z.nodup λx A=>by have:=z.2 x A;lia
 unfold uF
 rw[zB]
 refine(D_ g A M).imp λd ⟨D,R,T⟩=>?_
 have Z:d.length<=60/\d.flatten.length<=60:=by
  have f:d.flatten.length<=n.toNat:=wF T.nd λy O=>by
   obtain⟨G,j,X⟩:=mem_flatten.mp O
   obtain⟨s,_,_,rfl⟩:=T.are G j
   have:=z.2 y (aU.mp X).1
   lia
  refine⟨?_,by omega⟩
  have ne:∀G∈d,1<=G.length:=λG j=>by
   obtain⟨s,r,c,rfl⟩:=T.are G j
   exact List.length_pos_of_mem (aU.mpr ⟨r,c,c⟩)
  have:∀l:List LI,(∀G∈l,1<=G.length)->l.length<=l.flatten.length:=λl=>by
   induction l with
   |nil=>intro _;exact aa5 _
   |cons G l ih =>
    intro h
    rw[flatten_cons,length_append,length_cons]
    have a:=ih λF v=>h F (mem_cons_of_mem _ v)
    have b:=h G mem_cons_self
    lia
  have:=this d ne
  lia
 have Y:∀G∈d,G.length<64:=λG j=>by
  obtain⟨s,_,_,rfl⟩:=T.are G j
  have:=zW9 (rows:=D) (s:=s) Q
  lia
 rw[Rf (p:=vI m.fair) (g:=λG=>G) (yK (by lia)) (λG j=>by
  obtain⟨o,e,q⟩:=zWc g hf (Y G j)
  rw[e]
  exact congrArg some q) (λ_ _=>rfl),aj,map_id']
 have N:∀l:List LI,(l.filter (vI m.fair)).flatten.Sublist l.flatten:=λl=>by
  induction l with
  |nil=>exact Sublist.refl _
  |cons G l ih =>
   rw[filter_cons]
   split
   ·rw[flatten_cons,flatten_cons];exact(Sublist.refl _).append ih
   ·rw[flatten_cons];exact ih.trans (List.sublist_append_right ..)
 have S:W (M8 (d.filter (vI m.fair))) (· = (d.filter (vI m.fair)).flatten):=by
  unfold M8
  rw[zB,aj,zB,zB,aj]
  refine xZ (λi s=>s=((d.filter (vI m.fair)).take i).flatten) (by rw[List.take_zero];rfl) (λi G s P I=>?_) λs I=>?_
  ·subst I
   unfold wz
   have e:((d.filter (vI m.fair)).take i).flatten++G=((d.filter (vI m.fair)).take (i+1)).flatten:=by rw[Vo P,flatten_append,flatten_singleton]
   have l:(((d.filter (vI m.fair)).take i).flatten++G).length<=60:=by
    rw[e]
    have a:((d.filter (vI m.fair)).take (i+1)).flatten.Sublist (d.filter (vI m.fair)).flatten:=by
     have U:(d.filter (vI m.fair)).flatten=((d.filter (vI m.fair)).take (i+1)).flatten++((d.filter (vI m.fair)).drop (i+1)).flatten:=by rw[<-flatten_append,take_append_drop]
     rw[U]
     exact List.sublist_append_left ..
    have:=(a.trans (N d)).length_le
    lia
   rw[length_append] at l
   rw[if_pos (yK (by lia)),zB,aj,aj,e]
  ·subst I
   rw[take_length,aj]
 refine⟨aa0 (length_filter_le ..) Z.1,λG j=>?_,S.imp λgoal e=>⟨e,?_⟩⟩
 ·obtain⟨o,w,_,rfl⟩:=T.are G (mem_filter.mp j).1
  exact⟨zS7 R k z.nodup w,(mem_filter.mp j).2⟩
 subst e
 refine⟨T.nd.sublist (N d),λs E=>?_,λs E=>?_,λs r G j p q=>?_⟩
 ·obtain⟨G,j,B⟩:=mem_flatten.mp E
  obtain⟨o,_,_,rfl⟩:=T.are G (mem_filter.mp j).1
  exact(aU.mp B).1
 ·obtain⟨G,j,B⟩:=mem_flatten.mp E
  obtain⟨o,w,_,rfl⟩:=T.are G (mem_filter.mp j).1
  exact⟨_,zS7 R k z.nodup w,B,(mem_filter.mp j).2,λt ht=>mem_flatten.mpr ⟨_,j,ht⟩⟩
 ·obtain⟨F,v,B⟩:=mem_flatten.mp (T.all s r (R.full k p r))
  obtain⟨o,w,oo,rfl⟩:=T.are F v
  obtain⟨_,K,L⟩:=aU.mp B
  refine mem_flatten.mpr ⟨_,mem_filter.mpr ⟨v,?_⟩,B⟩
  rw[<-q]
  refine zL0 λt=>?_
  rw[j t,aU]
  constructor
  ·rintro⟨u,J,H⟩
   exact⟨u,R.sound s r t (k t u) (R.trans s r o w t (k t u) L J),R.sound t u s (k s r) (R.trans t u o w s (k s r) H K)⟩
  ·rintro⟨u,J,H⟩
   exact⟨u,R.trans o w s r t (k t u) K (R.full k J r),R.trans t u s r o (k o w) (R.full k H u) L⟩
theorem Kh{C:Addr}{m:ao C}(g:Gr m n)(d:nU n m.fair)(c:∀x∈xs,0<=x/\x<n)(b:xs.length<64) :
  W ((uF m xs).bind λa=>M8 a) (qx m.steps m.fair (iH xs)):=by
 rw[zB]
 exact(Eb g d c b).imp (by rintro a ⟨_,_,h⟩;exact h.imp λ_ q=>q.2)
theorem zSa{C:Addr}{m:ao C}(g:Gr m n){goal:LI}(b:∀x∈through,0<=x/\x<n)(a:goal.Nodup/\∀x∈goal,0<=x/\x<n):W (xS m through goal) λR=>∃d,qu m.steps through goal n d/\R=pick n λs=>(dg d s).isSome:=by
 unfold xS
 have few:=g.few
 have pos:=g.pos
 rw[zB]
 refine(zM0 g b a).imp λd D=>?_
 have rl:=Mg (n:=n) (by lia)
 rw[zB,aj,zYd D.len]
 have e:xG (λx=>some x.2.isSome) (λx=>some x.1) ((rng n).map λs=>(s,dg d s))=some (pick n λs=>(dg d s).isSome):=by
  rw[Rf (yK (by grind)) (λ_ _=>rfl) (λ_ _=>rfl)]
  congr 1
  rw[List.filter_map,map_map]
  exact map_id' _
 rw[e,aj]
 grind
theorem Vq(h:aG n U):iH U=U:=JH (Gy U) h.1 λ_=>bC
inductive Rc(xss:List LI)(U:LI)(s:Int):Int->Prop
 |here:Rc xss U s s
 |on {t u:Int}:Rc xss U s t->u∈nxt xss t->u∈U->Rc xss U s u
theorem Rc.mem(h:Rc xss U s t)(a:s∈U):t∈U:=by
 cases h with
 |here=>exact a
 |on _ _ h=>exact h
theorem Rc.trans(h:Rc xss U s t)(k:Rc xss U t u):Rc xss U s u:=by
 induction k with
 |here=>exact h
 |on _ a b ih=>exact .on ih a b
theorem Rc.pth(h:Rc xss U s t):t=s\/dj xss U s t:=by
 induction h with
 |here=>grind
 |@on t u _ a b ih =>
  rcases ih with rfl|ih
  ·exact .inr (.one a b)
  ·exact .inr (ih.trans (.one a b))
theorem dj.rc(h:dj xss U s t):Rc xss U s t:=by
 induction h with
 |one a b=>exact .on .here a b
 |step a b _ ih=>exact(Rc.on .here a b).trans ih
theorem cls(P:Int->Prop):∃p:Int->Bool,∀x,p x=true↔P x:=⟨λx=>@decide _ (Classical.propDecidable (P x)),λx=>by
 grind⟩
def Vr(xss c:List LI)(U:LI)(b:Int):Prop:=dj xss U b b/\∀F∈c,∃x∈F,Rc xss U b x/\Rc xss U x b
theorem Ec(D:qu xss U goal n d)(G:qx xss l U goal)(i:∀x∈U,0<=x/\x<n)(s:Int):s∈pick n (λs=>(dg d s).isSome)↔s∈U/\∃b∈U,Vr xss l U b/\Rc xss U s b:=by
 have g:∀b∈U,(b∈goal↔Vr xss l U b):=λb z=>by
  constructor
  ·intro h
   obtain⟨R,N,E,H,_⟩:=G.of b h
   have L:∀{x y:Int},x∈R->y∈R->dj xss U x y:=λZ hy=>(N.go _ Z _ hy).mono N.sub
   refine⟨L E E,λF I=>?_⟩
   obtain⟨x,P,J⟩:=any_eq_true.mp (all_eq_true.mp H F I)
   exact⟨x,of_decide_eq_true J,(L E P).rc,(L P E).rc⟩
  ·rintro⟨p,m⟩
   obtain⟨f,M⟩:=cls λt=>dj xss U b t/\dj xss U t b
   refine G.all b z (U.filter f) (λt=>by rw[mem_filter,M t]) p ?_
   refine all_eq_true.mpr λF I=>?_
   obtain⟨x,J,r1,Q⟩:=m F I
   have O:dj xss U b x:=r1.pth.elim (λe=>e▸p) id
   have Y:dj xss U x b:=Q.pth.elim (λe=>by rw[<-e];exact e▸p) id
   exact any_eq_true.mpr ⟨x,mem_filter.mpr ⟨O.mem,(M x).mpr ⟨O,Y⟩⟩,decide_eq_true J⟩
 have K:∀(k:Nat)(s:Int),0<=s->s<n->dg d s=some (k:Int)->s∈U/\∃b∈goal,Rc xss U s b:=by
  intro k
  induction k with
  |zero =>
   intro s v o e
   have C:=(D.zero s v o).mp e
   exact⟨G.sub s C,s,C,.here⟩
  |succ k ih =>
   intro s v o e
   have S:s∉goal:=λC=>by
    have:=(D.zero s v o).mpr C
    rw[e] at this
    have:=aa2 this
    lia
   obtain⟨c,t,tn,t0,T,e2⟩:=D.via s _ v o e S
   obtain⟨A,b,w,r⟩:=ih t t0 T (by rw[e2];congr 1;lia)
   exact⟨c,b,w,(Rc.on .here tn A).trans r⟩
 have B:∀{s t:Int},Rc xss U s t->s∈U->(dg d t).isSome=true->(dg d s).isSome=true:=λh=>by
  induction h with
  |here=>exactλ_ q=>q
  |@on t u r a b ih =>
   intro c q
   have A:=r.mem c
   obtain⟨k,e⟩:=abe.mp q
   obtain⟨j,X,_⟩:=D.near t u k (i t A).1 (i t A).2 (i u b).1 (i u b).2 A a e
   exact ih c (by rw[X];rfl)
 rw[cN]
 constructor
 ·rintro⟨v,o,q⟩
  obtain⟨k,e⟩:=abe.mp q
  have kp:=D.pos s k v o e
  obtain⟨c,b,w,r⟩:=K k.toNat s v o (by rw[e];congr 1;lia)
  exact⟨c,b,G.sub b w,(g b (G.sub b w)).mp w,r⟩
 ·rintro⟨c,b,z,bB,r⟩
  refine⟨(i s c).1,(i s c).2,B r c ?_⟩
  rw[(D.zero b (i b z).1 (i b z).2).mpr ((g b z).mpr bB)]
  rfl
theorem zR9{C:Addr}{m:ao C}(g:Gr m n)(j:nU n m.fair)(c:aG n U):W (Af m U) λR=>aG n R/\∀s,s∈R↔s∈U/\∃b∈U,Vr m.steps m.fair U b/\Rc m.steps U s b:=by
 unfold Af
 have few:=g.few
 have Ul:U.length<=n.toNat:=wF c.nodup λx k=>by have:=c.2 x k;lia
 have q:=Kh g j c.2 (by lia)
 rw[Vq c,zB] at q
 rw[zB,zB,zB,zB,zB,zB]
 refine q.imp λa i=>?_
 rw[aj]
 refine i.imp λf G=>?_
 rw[aj,aj,aj]
 show W (xS m U f) _
 refine(zSa g c.2 ⟨G.nd,λx h=>c.2 x (G.sub x h)⟩).imp λR ⟨d,D,e⟩=>?_
 subst e
 exact⟨xV n _,Ec D G c.2⟩
theorem Ag{C:Addr}{m:ao C}(g:Gr m n):yO m=some (rng n):=by
 unfold yO
 rw[Vn g]
 have:=g.pos
 have:=g.few
 show Ac n=_
 unfold Ac
 rw[if_pos ⟨by lia,by omega⟩]
 rfl
theorem zZc(h:n<=60)(h0:0<=n):(rng n).length<=60:=by have:=Mg h0;lia
theorem zWa{C:Addr}{m:ao C}(g:Gr m n){xs:LI}(a:xs.length<4000):xY m xs=some (pick n λz=>!decide (z∈xs)):=by
 unfold xY
 rw[Ag g]
 have r:=zZc g.few (by have:=g.pos;lia)
 show lZ (rng n) xs=_
 unfold lZ
 rw[if_pos ⟨by lia,a⟩]
 exact congrArg some (Vq (xV n _))
theorem Ed(h:aG n xs)(Mx:n<=60):xs.length<=60:=by
 by_cases h0:0<=n
 ·have:=wF (n:=n.toNat) h.nodup λx b=>by have:=h.2 x b;lia
  lia
 ·cases xs with
  |nil=>grind
  |cons a l=>have:=h.2 a mem_cons_self;lia
theorem zKu{ys:LI}(b:aG n xs)(a:n<=60)(c:ys.length<4000):vA xs ys=some (xs.filter λz=>decide (z∈ys)):=by
 rw[zOi (by have:=Ed b a;lia) c]
 exact congrArg some (Vq ⟨b.1.filter _,λx h=>b.2 x (mem_filter.mp h).1⟩)
theorem zQf{ys:LI}(b:aG n xs)(a:n<=60)(c:ys.length<4000):M4 xs ys=some (xs.filter λz=>!decide (z∈ys)):=by
 unfold M4 lZ
 rw[if_pos ⟨by have:=Ed b a;lia,c⟩]
 exact congrArg some (Vq ⟨b.1.filter _,λx h=>b.2 x (mem_filter.mp h).1⟩)
theorem Ah(n:Int):aG n (rng n):=⟨zZb n,λx a=>cg.mp a⟩
def into(xss:List LI)(G:LI)(s:Int):Bool:=(nxt xss s).any λt=>decide (t∈G)
theorem Kl{C:Addr}{m:ao C}(g:Gr m n)(h0:0<=s)(h:s<n){c:List Bool}(hl:(c.length:Int)=n)(hh:∀t:Int,0<=t->t<n->c.getD t.toNat false=decide (t∈G)):U9 m s c=some (into m.steps G s):=by
 unfold U9
 obtain⟨f,e,xl,i⟩:=zOj g h0 h
 rw[e]
 have k:∀x∈f,0<=x/\x<n:=λx b=>by
  have d:=(i x).mp b
  have j:nxt m.steps s∈m.steps:=mem_of_getElem? (Yr g.len h0 h)
  exact(g.row _ j).2.2 x d
 show((xG _ _ f).bind _)=_
 rw[Rf (p:=λ_=>true) (g:=λx=>decide (x∈G)) (yK (by lia)) (λ_ _=>rfl) (λx b=>?_)]
 ·show some _=some _
  congr 1
  rw[filter_eq_self.mpr (λ_ _=>rfl)]
  unfold into
  rw[ab2,any_eq_true,any_eq_true]
  constructor
  ·grind
  ·rintro⟨x,b,e⟩
   exact⟨_,mem_map.mpr ⟨x,(i x).mpr b,rfl⟩,e⟩
 ·obtain⟨l,x1⟩:=k x b
  have q:W (aJ c x) (· = decide (x∈G)):=by
   rw[bW l]
   grind
  obtain⟨a,o,r⟩:=q
  rw[o,r]
theorem zQg{C:Addr}{m:ao C}(g:Gr m n)(c:∀x∈G,0<=x/\x<n):uM m (rng n) G=some (pick n (into m.steps G)):=by
 unfold uM
 obtain⟨fl,e,d,b⟩:=zR8 g c
 rw[e]
 have r:=zZc g.few (by grind)
 show xG _ _ (rng n)=_
 rw[Rf (yK (by lia)) (λx f=>?_) (λ_ _=>rfl),map_id']
 ·rfl
 ·obtain⟨h,a⟩:=cg.mp f
  exact Kl g h a d b
theorem Yw{α:Type}{m:Option α}{a:α}(h:m=some a):W m (· = a):=⟨a,h,rfl⟩
theorem eV{α:Type}{m:Option α}{a:α}(h:W m (· = a)):m=some a:=by obtain⟨b,e,rfl⟩:=h;exact e
theorem zIo{C:Addr}{m:ao C}(g:Gr m n)(a:aG n L)(b:aG n S):vG m L S=some (pick n (into m.steps (L.filter λz=>decide (z∈S)))):=by
 apply eV
 unfold vG
 rw[zB,zB,zB,Ag g,aj,zB,zB,zKu a g.few (by have:=Ed b g.few;lia),aj,aj,aj,aj]
 exact Yw (zQg g λx c=>a.2 x (mem_filter.mp c).1)
theorem o_{α:Type}{pre:List α}{x:α}:L2.aJ (pre++[x]) (-(1:Int))=some x:=by
 unfold L2.aJ n7
 rw[if_neg (by decide),if_pos (by rw[length_append,length_singleton];lia)]
 show(pre++[x])[((-(1:Int))+((pre++[x]).length:Nat)).toNat]?=some x
 have e:((-(1:Int))+((pre++[x]).length:Nat)).toNat=pre.length:=by rw[length_append,length_singleton];lia
 rw[e,getElem?_append_right (aao _),Nat.sub_self]
 rfl
theorem yU{α:Type}[Decidable c]{a b:Option α}{Q:α->Prop}(h:¬c)(q:W b Q):W (if c then a else b) Q:=by rw[if_neg h];exact q
theorem Ai{α:Type}[Decidable c]{a b:Option α}{Q:α->Prop}(h:c)(q:W a Q):W (if c then a else b) Q:=by rw[if_pos h];exact q
inductive qy(xss:List LI)(U G:LI):Int->Prop
 |here {s:Int}:s∈G->qy xss U G s
 |on {s t:Int}:s∈U->t∈nxt xss s->qy xss U G t->qy xss U G s
theorem zZp{α β:Type}:∀{xs:List (α×β)}{a b:α×β},(xs.map (·.1)).Nodup->a∈xs->b∈xs->a.1=b.1->a=b
 |x::xs,a,b,f,d,c,e=>by
  rw[map_cons,nodup_cons] at f
  cases d with
  |head=>cases c with
   |head=>rfl
   |tail _ c=>exact absurd (e▸mem_map.mpr ⟨_,c,rfl⟩) f.1
  |tail _ d=>cases c with
   |head=>exact absurd (e▸mem_map.mpr ⟨_,d,rfl⟩) f.1
   |tail _ c=>exact zZp f.2 d c e
theorem zQh{C:Addr}{m:ao C}(h0:0<=n)(k:n<=60)(l:wZ n m.marks)(x:Str):W (yP m x) λS=>aG n S/\∀s,s∈S↔∃mk∈m.marks,mk.1=x/\s∈mk.2:=by
 unfold yP
 rw[zB,zB,aj]
 refine zVy (λi _=>∀mk∈m.marks.take i,mk.1≠x) (λmk h=>by simp at h) (λi mk _ o b=>?_) λ_ b=>?_
 ·have g:=mem_of_getElem? o
  by_cases c:mk.1=x
  ·obtain⟨_,_,j⟩:=l.2.2 mk g
   have p:=uH mk.2
   rw[decide_eq_true c,if_pos rfl,zB]
   have r:=m7 j k h0
   unfold dY
   rw[if_pos (by lia),aj,aj]
   refine .inr ⟨_,rfl,?_⟩
   show W (some (Jp mk.2)) _
   rw[aj]
   refine⟨⟨Ms (zF0 _) (p.nodup_iff.mpr j.1),λy t=>j.2.2 y (p.mem_iff.mp t)⟩,λs=>⟨λh=>⟨mk,g,c,p.mem_iff.mp h⟩,λ⟨a,f,d,q⟩=>?_⟩⟩
   rw[zZp l.1 g f (c.trans d.symm)]
   exact(uH a.2).mem_iff.mpr q
  ·rw[decide_eq_false c,if_neg (by decide),aj]
   refine .inl ⟨(),rfl,λa h=>?_⟩
   rw[take_add_one,o,mem_append] at h
   rcases h with h|h
   ·exact b a h
   ·have e:a=mk:=by simpa using h
    rw[e];exact c
 ·rw[take_length] at b
  rw[v9,aj]
  exact⟨zW8,λs=>⟨λh=>(by cases h),λ⟨mk,f,d,_⟩=>absurd d (b mk f)⟩⟩
section
variable{C:Addr}{cl:Hd->Addr}{m:ao C}{n:Int}
theorem vY(a:aG n L)(p:Int->Bool):aG n (L.filter p):=⟨a.1.filter p,λx b=>a.2 x (mem_filter.mp b).1⟩
def nt(n:Int)(S:LI):LI:=pick n λz=>!decide (z∈S)
def tg(n:Int)(A B:LI):LI:=pick n λz=>decide (z∈A)||decide (z∈B)
def sn(m:ao C)(n:Int)(L S:LI):LI:=pick n (into m.steps (L.filter λz=>decide (z∈S)))
def cm(m:ao C)(U G:LI):LI:=(xS m U G).getD []
def co(m:ao C)(U:LI):LI:=(Af m U).getD []
def st(m:ao C)(L A B:LI):LI:=cm m A (L.filter λz=>decide (z∈B))
def Rg(n:Int)(L A B:LI):LI:=(L.filter λz=>decide (z∈nt n B)).filter λz=>!decide (z∈A)
def et(m:ao C)(n:Int)(L A B:LI):LI:=nt n (tg n (cm m (nt n B) (Rg n L A B)) (co m (nt n B)))
theorem Vs(g:Gr m n)(w:aG n U)(u:aG n G):xS m U G=some (cm m U G)/\aG n (cm m U G)/\∀s,s∈cm m U G↔0<=s/\s<n/\qy m.steps U G s:=by
 obtain⟨R,e,d,D,rfl⟩:=zSa g w.2 ⟨u.nodup,u.2⟩
 have o:cm m U G=pick n λs=>(dg d s).isSome:=by
  unfold cm
  rw[e]
  rfl
 refine⟨by rw[e,o],by rw[o];exact xV n _,λs=>?_⟩
 rw[o,cN]
 have l:∀(k:Nat)(s:Int),0<=s->s<n->dg d s=some (k:Int)->qy m.steps U G s:=by
  intro k
  induction k with
  |zero=>exactλs a b e=>.here ((D.zero s a b).mp e)
  |succ k ih =>
   intro s a b e
   by_cases r:s∈G
   ·exact .here r
   ·obtain⟨p,t,i,f,c,x⟩:=D.via s _ a b e r
    exact .on p i (ih t f c (by rw[x];exact congrArg some (by lia)))
 constructor
 ·rintro⟨a,b,q⟩
  obtain⟨k,e⟩:=abe.mp q
  have kp:=D.pos s k a b e
  exact⟨a,b,l k.toNat s a b (by rw[e];exact congrArg some (by lia))⟩
 ·rintro⟨a,b,h⟩
  refine⟨a,b,?_⟩
  induction h with
  |here h=>rw[(D.zero _ a b).mpr h];rfl
  |@on s t p i _ ih =>
   obtain⟨f,c⟩:=Vp g a b t i
   obtain⟨k,e⟩:=abe.mp (ih f c)
   obtain⟨j,v,_⟩:=D.near s t k a b f c p i e
   rw[v];rfl
theorem Nh(g:Gr m n)(c:nU n m.fair)(a:aG n U):Af m U=some (co m U)/\aG n (co m U):=by
 obtain⟨R,e,h,_⟩:=zR9 g c a
 have b:co m U=R:=by
  unfold co
  rw[e]
  rfl
 rw[b]
 exact⟨e,h⟩
theorem G_(g:Gr m n)(a:aG n S):xY m S=some (nt n S):=zWa g (by have:=Ed a g.few;lia)
theorem Ni(S:LI):aG n (nt n S):=xV n _
theorem Hf(g:Gr m n)(c:aG n A)(d:aG n B):M5 A B=some (tg n A B):=by
 have la:=Ed c g.few
 have lb:=Ed d g.few
 have e:iH (A++B)=tg n A B:=JH (Gy _) (xV n _).1 λs=>by
  rw[bC,mem_append]
  unfold tg
  rw[cN,acg,decide_eq_true_iff,decide_eq_true_iff]
  exact⟨λh=>h.elim (λa=>⟨(c.2 s a).1,(c.2 s a).2,.inl a⟩) λb=>⟨(d.2 s b).1,(d.2 s b).2,.inr b⟩,λh=>h.2.2⟩
 have lt:=Ed (xV n λz=>decide (z∈A)||decide (z∈B)) g.few
 unfold M5 CZ
 rw[e,if_pos ⟨by lia,by lia,by unfold tg;omega⟩]
theorem yp(g:Gr m n)(a:aG n A)(b:aG n B):vA A B=some (A.filter λz=>decide (z∈B)):=zKu a g.few (by have:=Ed b g.few;lia)
theorem Nj(g:Gr m n)(a:aG n L)(c:aG n A)(b:aG n B):wP m L A B=some (st m L A B)/\aG n (st m L A B):=by
 have q:=Vs g c (vY a λz=>decide (z∈B))
 refine⟨eV ?_,q.2.1⟩
 unfold wP
 rw[zB,zB,zB,zB,yp g a b,aj,aj,aj,aj]
 show W (xS m A _) _
 rw[q.1]
 exact aj.mpr rfl
theorem Rh(g:Gr m n)(h:nU n m.fair)(a:aG n L)(f:aG n A)(c:aG n B):vZ m L A B=some (et m n L A B):=by
 apply eV
 have e:aG n (Rg n L A B):=vY (vY a _) _
 have d:=Vs g (Ni (n:=n) B) e
 have b:=Nh g h (Ni (n:=n) B)
 have lA:=Ed f g.few
 have i:QM m L A B=some (Rg n L A B):=by
  apply eV
  unfold QM
  rw[zB,zB,zB,zB,zB,G_ g c,aj,aj,aj]
  show W (vA L (nt n B)) _
  rw[yp g a (Ni B),aj,aj]
  show W (M4 _ A) _
  rw[zQf (vY a _) g.few (by lia),aj]
  rfl
 unfold vZ
 rw[zB,G_ g c,aj,zB,zB,zB,zB,zB,i,aj,aj,aj,aj]
 show W (xS m (nt n B) (Rg n L A B)) _
 rw[d.1,aj,zB,zB,zB,zB,zB,zB,b.1,aj,aj,aj]
 dsimp only
 rw[Hf g d.2.1 b.2,aj,aj,aj]
 dsimp only
 rw[G_ g (S:=tg n (cm m (nt n B) (Rg n L A B)) (co m (nt n B))) (xV n _)]
 exact aj.mpr rfl
def one(m:ao C)(n:Int)(L:LI)(i:Fin 6)(S:LI):LI :=
 if i=0 then nt n S else if i=1 then sn m n L S else if i=2 then nt n (sn m n L (nt n S)) else if i=3 then co m S else if i=4 then nt n (st m L (rng n) (nt n S)) else st m L (rng n) S
def two(m:ao C)(n:Int)(L:LI)(i:Fin 4)(A B:LI):LI :=
 if i=0 then A.filter (λz=>decide (z∈B)) else if i=1 then tg n A B else if i=2 then st m L A B else et m n L A B
def vv(m:ao C)(n:Int)(L:LI):Tr->LI
 |.all=>rng n
 |.mark x=>(yP m x).getD []
 |.one i t=>one m n L i (vv m n L t)
 |.two i l r=>two m n L i (vv m n L l) (vv m n L r)
theorem f7:∀i:Fin 6,i=0\/i=1\/i=2\/i=3\/i=4\/i=5:=by decide
theorem f4:∀i:Fin 4,i=0\/i=1\/i=2\/i=3:=by decide
theorem Nk(g:Gr m n)(b:wZ n m.marks)(x:Str):yP m x=some ((yP m x).getD [])/\aG n ((yP m x).getD [])/\∀s,s∈(yP m x).getD []↔∃mk∈m.marks,mk.1=x/\s∈mk.2:=by
 obtain⟨S,e,a,c⟩:=zQh (n:=n) (by have:=g.pos;lia) g.few b x
 rw[e]
 exact⟨rfl,a,c⟩
theorem zW7(g:Gr m n)(b:nU n m.fair)(d:aG n L)(a:aG n S)(i:Fin 6):aG n (one m n L i S):=by
 have c:=Ah n
 rcases f7 i with rfl|rfl|rfl|rfl|rfl|rfl
 ·exact xV n _
 ·exact xV n _
 ·exact xV n _
 ·exact(Nh g b a).2
 ·exact xV n _
 ·exact(Nj g d c a).2
theorem zW6(g:Gr m n)(c:aG n L)(a:aG n A)(b:aG n B)(i:Fin 4):aG n (two m n L i A B):=by
 rcases f4 i with rfl|rfl|rfl|rfl
 ·exact vY a _
 ·exact xV n _
 ·exact(Nj g c a b).2
 ·exact xV n _
theorem Aj(g:Gr m n)(b:nU n m.fair)(c:wZ n m.marks)(a:aG n L):∀t:Tr,aG n (vv m n L t)
 |.all=>Ah n
 |.mark x=>(Nk g c x).2.1
 |.one i t=>zW7 g b a (Aj g b c a t) i
 |.two i l r=>zW6 g a (Aj g b c a l) (Aj g b c a r) i
theorem Km(g:Gr m n)(d:nU n m.fair)(b:aG n L)(a:aG n S)(i:Fin 6)(t:Tr):uN m L (bQ.mk (cl:=cl) (.one i t)) [S]=some (one m n L i S):=by
 have c:=Ah n
 apply eV
 unfold uN
 rcases f7 i with rfl|rfl|rfl|rfl|rfl|rfl
 ·refine(yU aan (yU aan (Ai (by show decide ((0:Fin 6)=0)=true;decide) ?_)))
  rw[zB,zB,zB,bW (by decide)]
  refine⟨S,rfl,?_⟩
  rw[aj,aj]
  show W (xY m S) _
  rw[G_ g a]
  exact aj.mpr rfl
 ·refine(yU aan (yU aan (yU (by show¬decide ((1:Fin 6)=0)=true;decide) (yU aan (yU aan ?_)))))
  unfold yE
  refine(Ai (by show decide ((1:Fin 6)=1)=true;decide) ?_)
  rw[zB,zB,zB,zB,bW (by decide)]
  refine⟨S,rfl,?_⟩
  rw[aj,aj,aj]
  show W (vG m L S) _
  rw[zIo g b a]
  exact aj.mpr rfl
 ·refine(yU aan (yU aan (yU (by show¬decide ((2:Fin 6)=0)=true;decide) (yU aan (yU aan ?_)))))
  unfold yE
  refine(yU (by show¬decide ((2:Fin 6)=1)=true;decide) (Ai (by show decide ((2:Fin 6)=2)=true;decide) ?_))
  rw[zB,zB,zB,zB,zB,zB,zB,zB,zB,zB,bW (by decide)]
  refine⟨S,rfl,?_⟩
  rw[aj,aj]
  show W (xY m S) _
  rw[G_ g a,aj,aj,aj,aj]
  show W (vG m L (nt n S)) _
  rw[zIo g b (Ni S),aj,aj,aj]
  show W (xY m (sn m n L (nt n S))) _
  rw[G_ g (S:=sn m n L (nt n S)) (xV n _)]
  exact aj.mpr rfl
 ·refine(yU aan (yU aan (yU (by show¬decide ((3:Fin 6)=0)=true;decide) (yU aan (yU aan ?_)))))
  unfold yE
  refine(yU (by show¬decide ((3:Fin 6)=1)=true;decide) (yU (by show¬decide ((3:Fin 6)=2)=true;decide) (yU aan (yU aan (Ai (by show decide ((3:Fin 6)=3)=true;decide) ?_)))))
  rw[zB,zB,zB,bW (by decide)]
  refine⟨S,rfl,?_⟩
  rw[aj,aj]
  show W (Af m S) _
  rw[(Nh g d a).1]
  exact aj.mpr rfl
 ·refine(yU aan (yU aan (yU (by show¬decide ((4:Fin 6)=0)=true;decide) (yU aan (yU aan ?_)))))
  unfold yE
  refine(yU (by show¬decide ((4:Fin 6)=1)=true;decide) (yU (by show¬decide ((4:Fin 6)=2)=true;decide) (yU aan (yU aan (yU (by show¬decide ((4:Fin 6)=3)=true;decide) (Ai (by show decide ((4:Fin 6)=4)=true;decide) ?_))))))
  rw[zB,zB,zB,zB,zB,zB,zB,Ag g,aj]
  rw[zB,zB,zB,zB,zB,bW (by decide)]
  refine⟨S,rfl,?_⟩
  rw[aj,aj]
  show W (xY m S) _
  rw[G_ g a,aj,aj,aj,aj,aj]
  show W (wP m L (rng n) (nt n S)) _
  rw[(Nj g b c (Ni S)).1,aj,aj,aj]
  dsimp only
  rw[G_ g (Nj g b c (Ni S)).2]
  exact aj.mpr rfl
 ·refine(yU aan (yU aan (yU (by show¬decide ((5:Fin 6)=0)=true;decide) (yU aan (yU aan ?_)))))
  unfold yE
  refine(yU (by show¬decide ((5:Fin 6)=1)=true;decide) (yU (by show¬decide ((5:Fin 6)=2)=true;decide) (yU aan (yU aan (yU (by show¬decide ((5:Fin 6)=3)=true;decide) (yU (by show¬decide ((5:Fin 6)=4)=true;decide) (Ai (by show decide ((5:Fin 6)=5)=true;decide) ?_)))))))
  rw[zB,zB,zB,zB,Ag g,aj]
  rw[zB,zB,bW (by decide)]
  refine⟨S,rfl,?_⟩
  rw[aj,aj,aj,aj]
  show W (wP m L (rng n) S) _
  rw[(Nj g b c a).1]
  exact aj.mpr rfl
theorem Ko(g:Gr m n)(d:nU n m.fair)(c:aG n L)(a:aG n A)(b:aG n B)(i:Fin 4)(l r:Tr):uN m L (bQ.mk (cl:=cl) (.two i l r)) [A,B]=some (two m n L i A B):=by
 apply eV
 unfold uN
 rcases f4 i with rfl|rfl|rfl|rfl
 ·refine(yU aan (yU aan (yU aan (Ai (by show decide ((0:Fin 4)=0)=true;decide) ?_))))
  rw[zB,zB,bW (by decide)]
  refine⟨A,rfl,?_⟩
  rw[zB,zB,bW (by decide)]
  refine⟨B,rfl,?_⟩
  rw[aj,aj]
  show W (vA A B) _
  rw[yp g a b]
  exact aj.mpr rfl
 ·refine(yU aan (yU aan (yU aan (yU (by show¬decide ((1:Fin 4)=0)=true;decide) (Ai (by show decide ((1:Fin 4)=1)=true;decide) ?_)))))
  rw[zB,zB,bW (by decide)]
  refine⟨A,rfl,?_⟩
  rw[zB,zB,bW (by decide)]
  refine⟨B,rfl,?_⟩
  rw[aj,aj]
  show W (M5 A B) _
  rw[Hf g a b]
  exact aj.mpr rfl
 ·refine(yU aan (yU aan (yU aan (yU (by show¬decide ((2:Fin 4)=0)=true;decide) (yU (by show¬decide ((2:Fin 4)=1)=true;decide) ?_)))))
  unfold yE
  refine(yU aan (yU aan (Ai (by show decide ((2:Fin 4)=2)=true;decide) ?_)))
  rw[zB,zB,zB,zB,bW (by decide)]
  refine⟨A,rfl,?_⟩
  rw[zB,zB,bW (by decide)]
  refine⟨B,rfl,?_⟩
  rw[aj,aj,aj,aj]
  show W (wP m L A B) _
  rw[(Nj g c a b).1]
  exact aj.mpr rfl
 ·refine(yU aan (yU aan (yU aan (yU (by show¬decide ((3:Fin 4)=0)=true;decide) (yU (by show¬decide ((3:Fin 4)=1)=true;decide) ?_)))))
  unfold yE
  refine(yU aan (yU aan (yU (by show¬decide ((3:Fin 4)=2)=true;decide) (Ai (by show decide ((3:Fin 4)=3)=true;decide) ?_))))
  rw[zB,zB,zB,zB,bW (by decide)]
  refine⟨A,rfl,?_⟩
  rw[zB,zB,bW (by decide)]
  refine⟨B,rfl,?_⟩
  rw[aj,aj,aj,aj]
  show W (vZ m L A B) _
  rw[Rh g d c a b]
  exact aj.mpr rfl
theorem Ri(g:Gr m n)(b:nU n m.fair)(c:wZ n m.marks)(a:aG n L)(t:Tr):uN m L (bQ.mk (cl:=cl) t) ((qj t).map (vv m n L))=some (vv m n L t):=by
 cases t with
 |all =>
  show yO m=_
  exact Ag g
 |mark x =>
  show yP m x=_
  exact(Nk g c x).1
 |one i t=>exact Km g b a (Aj g b c a t) i t
 |two i l r=>exact Ko g b a (Aj g b c a l) (Aj g b c a r) i l r
theorem w_tab(g:Gr m n)(o:nU n m.fair)(l:wZ n m.marks)(q:aG n L):∀(k:Nat)(t:Tr),t.depth<k->k<=9->W (wO k m L (bQ.mk (cl:=cl) t)) λT=>∃pre,T=pre++[vv m n L t]/\T.length<2^k
 |0,t,h,_=>absurd h (adh _)
 |k+1,t,h,h9=>by
  show W (uJ (wO k) m L _) _
  unfold uJ
  rw[zB,aj,zB,aj,zB,zB,aj]
  show W (yX _ ((qj t).map bQ.mk) _) _
  have r:2^k<=2^8:=Nat.pow_le_pow_right (by decide) (by lia)
  have p9':2^k<=256:=r
  have p1:1<=2^k:=Nat.one_le_two_pow
  have s:(qj t).length<=2:=by cases t<;>simp[qj]
  refine xZ (λi z=>z.1.length<=i*(2^k-1)/\z.2=((qj t).take i).map (vv m n L)) ⟨aa5 _,rfl⟩ (λi x z p j=>?_) λz j=>?_
  ·obtain⟨d,b⟩:=j
   rw[getElem?_map] at p
   obtain⟨u,f,rfl⟩:=Option.map_eq_some_iff.mp p
   have il:i<2:=by
    have:=(aau.mp f).1
    lia
   have du:=zTg (mem_of_getElem? f)
   have im:i*(2^k-1)<=1*255:=Nat.mul_le_mul (by lia) (by lia)
   rw[zB,zB]
   refine(w_tab g o l q k u (by lia) (by lia)).imp ?_
   rintro T ⟨pre,e,hl⟩
   subst e
   unfold lG
   rw[if_pos (yK (by lia)),aj,zB,zB]
   show W (L2.aJ (z.1++(pre++[vv m n L u])) (-(1:Int))) _
   rw[<-append_assoc,o_,aj,b,pU]
   refine⟨yK (by rw[length_map,length_take];lia),?_⟩
   rw[aj]
   refine⟨?_,?_⟩
   ·show((z.1++pre)++[vv m n L u]).length<=(i+1)*(2^k-1)
    rw[append_assoc,length_append,Nat.succ_mul]
    lia
   ·show((qj t).take i).map (vv m n L)++[vv m n L u]=_
    rw[take_add_one,f,map_append]
    rfl
  ·obtain⟨a,c⟩:=z
   obtain⟨d,b⟩:=j
   rw[length_map] at d b
   rw[take_length] at b
   have b:c=(qj t).map (vv m n L):=b
   have d:a.length<=(qj t).length*(2^k-1):=d
   have zm:(qj t).length*(2^k-1)<=2*(2^k-1):=Nat.mul_le_mul_right _ s
   subst b
   rw[zB,zB]
   show W (uN m L (bQ.mk (cl:=cl) t) ((qj t).map (vv m n L))) _
   rw[Ri g o l q t,aj,pU]
   refine⟨yK (by show a.length<=1000;lia),?_⟩
   rw[aj]
   refine⟨a,rfl,?_⟩
   show(a++[_]).length<2^(k+1)
   rw[length_append,Nat.pow_succ]
   show a.length+1<_
   lia
theorem zYu(g:Gr m n)(b:nU n m.fair)(c:wZ n m.marks)(a:aG n L)(d:M9 m=some L){t:Tr}(hd:t.depth<9):G4 m (bQ.mk (cl:=cl) t)=some (vv m n L t):=by
 apply eV
 unfold G4 Vf
 rw[zB,zB,zB,zB,d,aj,aj,aj]
 show W (wO 9 m L (bQ.mk t)) _
 refine(w_tab g b c a 9 t hd (by decide)).imp ?_
 rintro T ⟨pre,e,_⟩
 subst e
 rw[o_,aj]
end
section
variable{C:Addr}{cl:Hd->Addr}{m:ao C}{n:Int}{L:LI}
theorem zZr:s∈nt n S↔0<=s/\s<n/\s∉S:=by
 unfold nt
 rw[cN]
 simp
theorem Nm(i:Fin 6)(t:Tr):vv m n L (.one i t)=one m n L i (vv m n L t):=by rw[vv]
theorem Vt(i:Fin 4)(l r:Tr):vv m n L (.two i l r)=two m n L i (vv m n L l) (vv m n L r):=by rw[vv]
theorem zYw:vv m n L .all=rng n:=by rw[vv]
theorem on0(S:LI):one m n L 0 S=nt n S:=by unfold one;grind
theorem on1(S:LI):one m n L 1 S=sn m n L S:=by unfold one;grind
theorem on3(S:LI):one m n L 3 S=co m S:=by unfold one;grind
theorem on5(S:LI):one m n L 5 S=st m L (rng n) S:=by unfold one;rw[if_neg (by decide),if_neg (by decide),if_neg (by decide),if_neg (by decide),if_neg (by decide)]
theorem tw0(A B:LI):two m n L 0 A B=A.filter (λz=>decide (z∈B)):=by unfold two;grind
theorem tw1(A B:LI):two m n L 1 A B=tg n A B:=by unfold two;grind
theorem tw2(A B:LI):two m n L 2 A B=st m L A B:=by unfold two;grind
end
theorem zZ8{C:Addr}{m:ao C}(g:Gr m n)(hf:nU n m.fair)(hU:aG n U)(s:Int):s∈co m U↔s∈U/\∃b∈U,Vr m.steps m.fair U b/\Rc m.steps U s b:=by
 obtain⟨R,e,_,h⟩:=zR9 g hf hU
 have ec:co m U=R:=by
  unfold co
  rw[e]
  rfl
 rw[ec]
 exact h s
theorem Hg{C:Addr}{m:ao C}(g:Gr m n)(hf:nU n m.fair):M9 m=some (co m (rng n)):=by
 apply eV
 unfold M9
 rw[zB,zB,zB,Ag g,aj,aj,aj]
 show W (Af m (rng n)) _
 rw[(Nh g hf (Ah n)).1]
 exact aj.mpr rfl
structure tL{C:Addr}(m f:ao C)(n M:Int)(R:Int->Int->Prop):Prop where
 g:Gr m n
 h:Gr f M
 hf:nU n m.fair
 hF:nU M f.fair
 e:f.fair=[]
 hm:wZ n m.marks
 hM:wZ M f.marks
 rg:∀s a,R s a->(0<=s/\s<n)/\0<=a/\a<M
 fwd:∀s a t,R s a->t∈nxt m.steps s->∃b∈nxt f.steps a,R t b
 mks:∀x s a,R s a->((∃p∈m.marks,p.1=x/\s∈p.2)↔∃p∈f.marks,p.1=x/\a∈p.2)
def jo(R:Int->Int->Prop)(A B:LI):Prop:=∀s a,R s a->s∈A->a∈B
inductive Pos:Tr->Prop
 |all:Pos .all
 |mark (x:Str):Pos (.mark x)
 |no (x:Str):Pos (.one 0 (.mark x))
 |next {t:Tr}:Pos t->Pos (.one 1 t)
 |always {t:Tr}:Pos t->Pos (.one 3 t)
 |ever {t:Tr}:Pos t->Pos (.one 5 t)
 |both {l r:Tr}:Pos l->Pos r->Pos (.two 0 l r)
 |either {l r:Tr}:Pos l->Pos r->Pos (.two 1 l r)
 |Rj {l r:Tr}:Pos l->Pos r->Pos (.two 2 l r)
section
variable{C:Addr}{m f:ao C}{n M:Int}{R:Int->Int->Prop}
theorem zWh(a:tL m f n M R)(j:jo R U U')(e:jo R G G')(h:qy m.steps U G s):∀b,R s b->qy f.steps U' G' b:=by
 induction h with
 |here h=>exactλb r=>.here (e _ b r h)
 |on d i _ ih =>
  intro b r
  obtain⟨c,k,g⟩:=a.fwd _ b _ r i
  exact .on (j _ b r d) k (ih c g)
theorem Kq(a:tL m f n M R)(k:jo R U U')(d:jo R G G')(i:aG n U)(e:aG n G)(c:aG M U')(j:aG M G'):jo R (cm m U G) (cm f U' G'):=λs b r h=>by
 rw[(Vs a.g i e).2.2] at h
 rw[(Vs a.h c j).2.2]
 exact⟨(a.rg s b r).2.1,(a.rg s b r).2.2,zWh a k d h.2.2 b r⟩
theorem Ef(a:tL m f n M R)(i:jo R U U')(h:dj m.steps U s t):∀b,R s b->∃c,R t c/\dj f.steps U' b c:=by
 induction h with
 |one l j =>
  intro b r
  obtain⟨c,g,e⟩:=a.fwd _ b _ r l
  exact⟨c,e,.one g (i _ c e j)⟩
 |step k q _ ih =>
  intro b r
  obtain⟨c,g,e⟩:=a.fwd _ b _ r k
  obtain⟨d,o,p⟩:=ih c e
  exact⟨d,o,.step g (i _ c e q) p⟩
theorem Kr(a:tL m f n M R)(o:jo R U U')(r:R s b)(h:Rc m.steps U s t):∃c,R t c/\Rc f.steps U' b c:=by
 induction h with
 |here=>exact⟨b,r,.here⟩
 |on _ l g ih =>
  obtain⟨c,j,k⟩:=ih
  obtain⟨d,i,e⟩:=a.fwd _ c _ j l
  exact⟨d,e,.on k i (o _ d e g)⟩
theorem zZ5(h:dj xss U s t):t∈U:=by
 induction h with
 |one _ h=>exact h
 |step _ _ _ ih=>exact ih
theorem twiceS(g:Nat->Int){U:LI}(h:∀i,g i∈U):∃i j,i<j/\g i=g j:=abt λb=>by
 have d:((aaz (U.length+1)).map g).Nodup:=by
  unfold Nodup
  rw[pairwise_map]
  refine Pairwise.imp (λ{i j} a e=>b ⟨i,j,a,e⟩) pairwise_lt_range
 have:=Ab d λz c=>by
  obtain⟨i,_,rfl⟩:=mem_map.mp c
  exact h i
 grind
theorem zYm(a:tL m f n M R)(u:jo R U U')(B:dj m.steps U b b)(r:R b c):∃d,dj f.steps U' d d/\Rc f.steps U' c d/\d∈U':=by
 have st:∀x:{ c:Int // R b c },∃y:{ c:Int // R b c },dj f.steps U' x.1 y.1:=λx=>by
  obtain⟨d,t,p⟩:=Ef a u B x.1 x.2
  exact⟨⟨d,t⟩,p⟩
 let h:=λx=>Classical.choose (st x)
 have o:∀x,dj f.steps U' x.1 (h x).1:=λx=>Classical.choose_spec (st x)
 let w:Nat->{ c:Int // R b c }:=λi=>Nat.rec (h ⟨c,r⟩) (λ_ x=>h x) i
 have l:∀i,dj f.steps U' (w i).1 (w (i+1)).1:=λi=>o (w i)
 have s:∀i d,dj f.steps U' (w i).1 (w (i+d+1)).1:=λi d=>by
  induction d with
  |zero=>exact l i
  |succ d ih=>exact ih.trans (l (i+d+1))
 have q:dj f.steps U' c (w 0).1:=o ⟨c,r⟩
 have g:∀i,dj f.steps U' c (w i).1:=λi=>by
  induction i with
  |zero=>exact q
  |succ i ih=>exact ih.trans (l i)
 obtain⟨i,j,hij,k⟩:=twiceS (λi=>(w i).1) (U:=U') λi=>zZ5 (g i)
 have k:(w i).1=(w j).1:=k
 have p:=s i (j-i-1)
 rw[show i+(j-i-1)+1=j by omega,<-k] at p
 exact⟨(w i).1,p,(g i).rc,zZ5 (g i)⟩
theorem zZ7(a:tL m f n M R)(i:jo R U U')(p:aG n U)(o:aG M U'):jo R (co m U) (co f U'):=λs b r h=>by
 rw[zZ8 a.g a.hf p] at h
 rw[zZ8 a.h a.hF o]
 obtain⟨l,x,xU,B,k⟩:=h
 obtain⟨c,u,v⟩:=Kr a i r k
 obtain⟨d,D,q,t⟩:=zYm a i B.1 u
 exact⟨i s b r l,d,t,⟨D,λF j=>by rw[a.e] at j;cases j⟩,v.trans q⟩
theorem Yx(h:jo R A a)(k:jo R B c):jo R (A.filter λz=>decide (z∈B)) (a.filter λz=>decide (z∈c)):=λs b r z=>by
 rw[mem_filter,decide_eq_true_iff] at *
 exact⟨h s b r z.1,k s b r z.2⟩
theorem Ks(a:tL m f n M R)(h:jo R A c)(k:jo R B d):jo R (tg n A B) (tg M c d):=λs b r z=>by
 unfold tg at *
 rw[cN,acg,decide_eq_true_iff,decide_eq_true_iff] at *
 exact⟨(a.rg s b r).2.1,(a.rg s b r).2.2,z.2.2.imp (h s b r) (k s b r)⟩
theorem Ku(a:tL m f n M R)(e:jo R L L')(h:jo R A i):jo R (sn m n L A) (sn f M L' i):=λs b r z=>by
 have c:=Yx e h
 unfold sn into at *
 rw[cN,any_eq_true] at *
 obtain⟨_,_,t,k,z⟩:=z
 obtain⟨d,g,j⟩:=a.fwd s b t r k
 exact⟨(a.rg s b r).2.1,(a.rg s b r).2.2,d,g,decide_eq_true (c t d j (of_decide_eq_true z))⟩
theorem Yy(a:tL m f n M R):jo R (rng n) (rng M):=λs b r _=>by
 rw[cg]
 exact(a.rg s b r).2
theorem zY4(a:tL m f n M R)(i:jo R L L')(h:jo R A b)(k:jo R B g)(j:aG n L)(c:aG M L')(d:aG n A)(e:aG M b):jo R (st m L A B) (st f L' b g):=Kq a h (Yx i k) d (vY j _) e (vY c _)
theorem Kw(a:tL m f n M R)(j:jo R L L')(i:aG n L)(e:aG M L')(p:Pos t):jo R (vv m n L t) (vv f M L' t):=by
 induction p with
 |all=>rw[zYw,zYw];exact Yy a
 |mark x =>
  intro s b r h
  rw[vv,(Nk a.g a.hm x).2.2] at h
  rw[vv,(Nk a.h a.hM x).2.2]
  exact(a.mks x s b r).mp h
 |no x =>
  intro s b r h
  rw[Nm,on0,zZr,vv,(Nk a.g a.hm x).2.2] at h
  rw[Nm,on0,zZr,vv,(Nk a.h a.hM x).2.2]
  exact⟨(a.rg s b r).2.1,(a.rg s b r).2.2,λz=>h.2.2 ((a.mks x s b r).mpr z)⟩
 |next _ ih=>rw[Nm,Nm,on1,on1];exact Ku a j ih
 |always _ ih=>exact zZ7 a ih (Aj a.g a.hf a.hm i _) (Aj a.h a.hF a.hM e _)
 |ever _ ih=>rw[Nm,Nm,on5,on5];exact zY4 a j (Yy a) ih i e (Ah _) (Ah _)
 |both _ _ d c=>exact Yx d c
 |either _ _ d c=>rw[Vt,Vt,tw1,tw1];exact Ks a d c
 |Rj _ _ d c=>rw[Vt,Vt,tw2,tw2];exact zY4 a j d c i e (Aj a.g a.hf a.hm i _) (Aj a.h a.hF a.hM e _)
end
theorem Ky:W (dY ns) Q↔ns.length<64/\Q (Jp ns):=by
 unfold dY
 split
 ·rw[aj];grind
 ·rw[vq];grind
def resv:List Str:=["all","not","both","either","somenext","eachnext","sometill","eachtill","someever","eachever"]
theorem Eh:∀i,i<26->(("abcdefghijklmnopqrstuvwxyz":Str).cps)[i]?=some (97+i):=by trivial
theorem Ej:∀i,i<26->TX ⟨#[97+i]⟩ ("abcdefghijklmnopqrstuvwxyz":Str)=true:=by trivial
theorem zYn:("abcdefghijklmnopqrstuvwxyz":Str).length=26:=by trivial
theorem zPj(x:Int):Dd ("abcdefghijklmnopqrstuvwxyz":Str) (x%26)=some ⟨#[97+(x%26).toNat]⟩:=by
 have a:0<=x%26/\x%26<26:=by lia
 unfold Dd
 rw[if_pos ⟨a.1,by lia,by rw[zYn];grind⟩,Eh _ (by lia)]
 rfl
theorem Ek(a b:Str):(a++b).cps=a.cps++b.cps:=by
 first
  |rfl
  |grind
def cO(l:List Nat):Str:=⟨l.toArray⟩
theorem Kz{x:Str}(h:x.cps.toList=l):x=cO l:=by
 unfold cO
 rw[<-h]
theorem Em(a b:List Nat):cO a++cO b=cO (a++b):=Kz (by rw[Ek];unfold cO;simp)
theorem zT9(l:List Nat):(cO l).length=l.length:=by
 show l.toArray.size=_
 grind
theorem zUa(h:cO a=cO b):a=b:=by
 have h:a.toArray=b.toArray:=congrArg Str.cps h
 grind
theorem Yz{α β:Type}{c:α->Option Bool}{f:α->Option β}{g:α->β}:∀{xs:List α},(∀x∈xs,c x=some true)->(∀x∈xs,f x=some (g x))->vJ c f xs=some (xs.map g)
 |[],_,_=>rfl
 |x::xs,b,d=>by
  have ih:=Yz (λy a=>b y (mem_cons_of_mem _ a)) (λy a=>d y (mem_cons_of_mem _ a))
  show(c x).bind _=_
  grind
theorem zUr{l:List Nat}(h1:1<=l.length)(h8:l.length<=8)(g:∀x∈l,∃i,i<26/\x=97+i)(b:cO l∉resv):MJ (cO l)=some true:=by
 have ln:=zT9 l
 unfold resv at b
 apply eV
 unfold MJ
 rw[zB,if_neg (by decide),aj,if_neg (λz=>b (of_decide_eq_true z)),zB,zB]
 unfold wg
 rw[if_pos (yK (by lia)),aj,decide_eq_true (by lia),if_pos rfl,aj,decide_eq_true (by lia),if_pos rfl,zB,zB,aj]
 have d:Gq (cO l)=l.map λc=>(⟨#[c]⟩:Str):=by
  unfold Gq cO
  rfl
 have e:xG (λ(_:Str)=>some true) (λ(j:Str)=>some (TX j ("abcdefghijklmnopqrstuvwxyz":Str))) (Gq (cO l))=some ((Gq (cO l)).map λ_=>true):=by
  unfold xG
  rw[if_pos (by rw[d,length_map];exact yK (by lia))]
  refine Yz (λ_ _=>rfl) λx a=>?_
  rw[d] at a
  obtain⟨y,h,rfl⟩:=mem_map.mp a
  obtain⟨i,f,rfl⟩:=g y h
  rw[Ej i f]
 rw[e,aj,aj,all_eq_true]
 intro x a
 obtain⟨y,_,rfl⟩:=mem_map.mp a
 rfl
theorem YB{a b:List Nat}(h:a.length+b.length<=1000):jW (cO a) (cO b)=some (cO (a++b)):=by
 unfold jW
 rw[if_pos (by exact h),Em]
def ng(ns:LI)(i:Nat):Int:=ns.getD i 0
theorem Rk{ns:LI}(h:i<ns.length):ns[i]?=some (ng ns i):=by
 unfold ng
 grind
theorem YC(h0:0<=n)(h1:n<=60):Ac n=some (rng n):=by
 unfold Ac
 rw[if_pos ⟨by lia,by omega⟩]
 rfl
theorem Np{n:Int}{i:Nat}(h:(i:Int)<n):(rng n)[i]?=some (i:Int):=by
 unfold rng
 grind
theorem uD:(rng n).length=n.toNat:=by unfold rng;grind
theorem zR3{α β:Type}{f:α->Option β}{k:α->β}{xs:List α}(h:∀x∈xs,f x=some (k x))(hl:xs.length<=1000):yX (λ(s:List β) (x:α)=>((f x).bind λa=>push s a).bind λs'=>some s') xs []=some (xs.map k):=by
 refine eV (xZ (λi s=>s=(xs.take i).map k) rfl (λi x s b e=>?_) λs e=>by grind)
 rw[h x (mem_of_getElem? b),zB,zB,aj,pU,aj,e]
 refine⟨yK (by grind),?_⟩
 rw[take_add_one,b,map_append];rfl
section
variable{C:Addr}{m:ao C}{n:Int}
def vQ(m:ao C)(x:Int):List Str:=(m.marks.filter λp=>decide (x∈p.2)).map (·.1)
theorem zR5(a:m.marks.length<64)(x:Int):xC m x=some (aR (vQ m x)):=by
 unfold xC
 refine eV ?_
 rw[zB,zB,aj,Xf]
 refine⟨yK (by lia),?_⟩
 unfold jX
 rw[if_pos (by rw[length_map];exact aaw (length_filter_le _ _) a),aj]
 rfl
theorem Ak(g:Gr m n)(h0:0<=x)(h1:x<n):m.steps[x.toNat]?=some (nxt m.steps x)/\(∀t∈nxt m.steps x,0<=t/\t<n)/\(nxt m.steps x).length<=60:=by
 have gl:=g.len
 have a:x.toNat<m.steps.length:=by lia
 have e:nxt m.steps x=m.steps[x.toNat]:=by unfold nxt;grind
 have r:=g.row _ (getElem_mem a)
 rw[e]
 refine⟨aam a,r.2.2,?_⟩
 have:=wF (n:=n.toNat) r.2.1 λz b=>by have:=r.2.2 z b;lia
 have:=g.few
 lia
theorem w_next(g:Gr m n)(h0:0<=x)(a:x<n):yQ m x=some (Jp (nxt m.steps x)):=by
 obtain⟨e,_,l⟩:=Ak g h0 a
 unfold yQ
 rw[nQ h0,e]
 exact eV (Ky.mpr ⟨by lia,rfl⟩)
theorem zZo(a:(m.marks.map (·.1)).Nodup)(x:Int):(aR (vQ m x)).Nodup:=by
 rw[(aL _).nodup_iff]
 exact((List.filter_sublist).map _).nodup a
theorem zT8(x:Int):(aR (vQ m x)).length<=m.marks.length:=by
 rw[(aL _).length_eq]
 unfold vQ
 grind
end
theorem uI(q:iD)(h:0<=k):W (yD q k) λ_=>True:=by
 unfold yD
 rw[uV]
 refine⟨λa=>?_,λ_=>aj.mpr trivial⟩
 have a:=of_decide_eq_true a
 rw[bW h]
 exact⟨_,aam (show k.toNat<q.ns.length by lia),trivial⟩
theorem Hh(c k:Int):W (wI c k) λ_=>True:=by
 unfold wI
 simp only[zB,Px,wY,Gm,aj,uW]
 exact⟨⟨by decide,by decide,by decide⟩,by decide,.inr ⟨by decide,by decide⟩,.inr ⟨by decide,by decide⟩,⟨by decide,by decide⟩,trivial⟩
def qz(l:List Nat):Prop:=∀x∈l,∃i,i<26/\x=97+i
def rW(e:Bool)(t:List Nat)(r k:Int):List Nat:=if e=true then(97+((r+k)%26).toNat)::t else t++[97+((r+k)%26).toNat]
def mJ(e:Bool)(t:List Nat)(r k:Int):List Nat:=if cO (rW e t r k)∈resv then(rW e t r k).dropLast else rW e t r k
theorem zXa:∀w∈resv,Dg w (-(1:Int))=some (cO w.cps.toList.dropLast):=by trivial
theorem zS8:∀w∈resv,∀v∈resv,w.cps.toList.tail=v.cps.toList.tail\/w.cps.toList.dropLast=v.cps.toList.dropLast->w=v:=by trivial
theorem zOz:∀w∈resv,cO w.cps.toList.dropLast∉resv/\3<=w.cps.toList.length:=by trivial
theorem Rm(l:List Nat):(cO l).cps.toList=l:=by unfold cO;simp
theorem YD(e:Bool)(t:List Nat)(r k:Int):(rW e t r k).length=t.length+1:=by
 unfold rW
 grind
theorem zXt(h:qz t):qz (rW e t r k):=λx a=>by
 have hn:∃i,i<26/\97+((r+k)%26).toNat=97+i:=⟨_,by grind,rfl⟩
 unfold rW at a
 split at a
 ·rcases mem_cons.mp a with e|a
  ·simp_all
  ·exact h x a
 ·rcases mem_append.mp a with a|a
  ·exact h x a
  ·simp_all
theorem zZs{e:Bool}{t:List Nat}{r:Int}{j k:Nat}(hj:j<26)(hk:k<26)(h:rW e t r j=rW e t r k):j=k:=by
 have q:(r+(j:Int))%26=(r+(k:Int))%26:=by
  unfold rW at h
  split at h
  ·grind
  ·have:=List.append_cancel_left h
   grind
 lia
theorem zUb{t:List Nat}(ht:t.length<=7):1<=(mJ e t r k).length/\(mJ e t r k).length<=8:=by
 have l:=YD e t r k
 unfold mJ
 split
 ·rename_i h
  have:=(zOz _ h).2
  rw[Rm] at this
  grind
 ·lia
theorem zXo{t:List Nat}(b:t.length<=7)(c:qz t):MJ (cO (mJ e t r k))=some true:=by
 obtain⟨f,a⟩:=zUb b
 refine zUr f a ?_ ?_
 ·have:=zXt (e:=e) (r:=r) (k:=k) c
  unfold mJ
  split
  ·exactλx d=>this x ((List.dropLast_sublist _).subset d)
  ·exact this
 ·unfold mJ
  split
  ·rename_i h
   have:=(zOz _ h).1
   rw[Rm] at this
   grind
  grind
theorem KC{e:Bool}{t:List Nat}{r:Int}{j k:Nat}(b:j<26)(a:k<26)(h:mJ e t r j=mJ e t r k):j=k:=by
 have l1:=YD e t r j
 have l2:=YD e t r k
 unfold mJ at h
 split at h
 ·rename_i c
  split at h
  ·rename_i d
   refine zZs b a (e:=e) (t:=t) (r:=r) ?_
   have q:=zS8 _ c _ d
   rw[Rm,Rm] at q
   have:=q (by
    grind)
   exact zUa this
  grind
 ·split at h
  ·grind
  ·exact zZs b a h
theorem zYt(c:Int):∃(e:Bool)(t:List Nat)(r:Int),t.length<=7/\qz t/\∀k:Int,0<=k->wC c k=some (cO (mJ e t r k)):=by
 have c8:=aa4 (c/2) (show(0:Int)<8 by decide)
 have c0:=abb (c/2) (show(8:Int)≠0 by decide)
 have u:W (yX (λ(m:Str×Int) (x6:Int)=>(((aO m.2 (26:Int)).bind λj=>Dd ("abcdefghijklmnopqrstuvwxyz":Str) j).bind λh=>jW m.1 h).bind λb=>(aZ m.2 (26:Int)).bind λa=>some (b,a)) (rng (c/2%8)) (("":Str),c/16)) λs=>∃t,s.1=cO t/\t.length<=7/\qz t:=by
  refine xZ (λi s=>∃t,s.1=cO t/\t.length=i/\qz t) ⟨[],by show("":Str)=cO [];rfl,rfl,λx o=>by cases o⟩ (λi x s v n=>?_) λs n=>?_
  ·obtain⟨_,i8⟩:=Gn v
   obtain⟨w,g⟩:=s
   obtain⟨t,rfl,rfl,d⟩:=n
   rw[zB,zB,zB,wY]
   refine⟨by decide,?_⟩
   show W (Dd _ (g%26)) _
   rw[zPj,aj]
   show W (jW (cO t) (cO [97+(g%26).toNat])) _
   rw[YB (by rw[length_singleton];lia),aj,zB,uW]
   refine⟨⟨by decide,by decide⟩,?_⟩
   rw[aj]
   refine⟨_,rfl,by rw[length_append];rfl,λx o=>?_⟩
   rcases mem_append.mp o with z|z
   ·exact d x z
   ·rw[mem_singleton.mp z]
    exact⟨_,by have:=aa4 g (show(0:Int)<26 by decide);have:=abb g (show(26:Int)≠0 by decide);lia,rfl⟩
  ·obtain⟨t,e,l,d⟩:=n
   exact⟨t,e,by rw[l,uD];lia,d⟩
 obtain⟨⟨w,r⟩,p,t,rfl,q,d⟩:=u
 refine⟨decide (c%2=0),t,r,q,d,λk k0=>?_⟩
 apply eV
 unfold wC
 rw[zB,aj,zB,aj,zB,uW]
 refine⟨⟨by decide,by decide⟩,?_⟩
 rw[zB,zB,zB,zB,uW]
 refine⟨⟨by decide,by decide⟩,?_⟩
 rw[wY]
 refine⟨by decide,?_⟩
 rw[uT]
 refine⟨⟨by lia,by omega⟩,?_⟩
 rw[p,aj,zB,zB,wY]
 refine⟨by decide,?_⟩
 show W (Dd _ ((r+k)%26)) _
 rw[zPj,aj]
 show W _ _
 rw[zB,zB,zB]
 show W (jW (cO [97+((r+k)%26).toNat]) (cO t)) _
 rw[YB (by rw[length_singleton];lia),aj,zB,zB]
 show W (jW (cO t) (cO [97+((r+k)%26).toNat])) _
 rw[YB (by rw[length_singleton];lia),aj,aj,aj,zB,wY]
 refine⟨by decide,?_⟩
 have A:aJ [cO ([97+((r+k)%26).toNat]++t),cO (t++[97+((r+k)%26).toNat])] (c%2)=some (cO (rW (decide (c%2=0)) t r k)):=by
  rw[nQ (by lia)]
  unfold rW
  by_cases z:c%2=0
  ·rw[z,if_pos (decide_eq_true rfl)];rfl
  ·rw[show c%2=1 by lia,if_neg (by decide)];rfl
 rw[A,aj,zB,aj,zB]
 unfold mJ
 by_cases z:cO (rW (decide (c%2=0)) t r k)∈resv
 ·have f:=z
  unfold resv at f
  rw[if_pos (decide_eq_true f),zB,zXa _ z,aj,aj,aj,if_pos z,Rm]
 ·have f:=z
  unfold resv at f
  rw[if_neg (λy=>f (of_decide_eq_true y)),aj,aj,if_neg z]
theorem Rn{α β:Type}{c:α->Option Bool}{f:α->Option β}{p:α->Bool}{g:α->β}:∀{xs:List α},(∀x∈xs,c x=some (p x))->(∀x∈xs,f x=some (g x))->vJ c f xs=some ((xs.filter p).map g)
 |[],_,_=>rfl
 |x::xs,b,d=>by
  have ih:=Rn (λy a=>b y (mem_cons_of_mem _ a)) (λy a=>d y (mem_cons_of_mem _ a))
  show(c x).bind _=_
  grind
theorem zW5(n:Int):aG n (rng n):=by
 refine⟨?_,λx a=>cg.mp a⟩
 unfold rng
 rw[pairwise_map]
 exact pairwise_lt_range.imp λh=>Int.ofNat_lt.mpr h
theorem zLe(p:Int->Bool)(h:aG n xs):aG n (xs.filter p):=⟨h.1.filter p,λx a=>h.2 x (mem_filter.mp a).1⟩
theorem zLf{xs:LI}(h:xs.Nodup):xs.reverse.Nodup:=List.pairwise_reverse.mpr (h.imp λq e=>q e.symm)
def Un(n:Int)(xs:LI):Prop:=xs.Nodup/\∀x∈xs,0<=x/\x<n
theorem KD(h:Un n xs)(h0:0<=n):(xs.length:Int)<=n:=by
 have:=wF (n:=n.toNat) h.1 λx a=>by have:=h.2 x a;lia
 lia
theorem YF(h:Un n xs)(h0:0<=n)(h1:n<=60):yj n xs:=⟨h.1,by have:=KD h h0;lia,h.2⟩
theorem Ro(h:Un n xs)(h0:0<=x)(h1:x<n)(d:x∉xs):Un n (xs++[x]):=by
 refine⟨?_,λy c=>?_⟩
 ·rw[nodup_append]
  refine⟨h.1,by simp,λa ha b hb e=>d ?_⟩
  grind
 ·rcases mem_append.mp c with z|z
  ·exact h.2 y z
  grind
theorem Vu(q:Int)(h0:0<=n)(h1:n<=60):W (wB q n) (Un n):=by
 unfold wB
 rw[zB,aj,zB,zB,uT]
 refine⟨⟨by lia,by omega⟩,?_⟩
 refine xZ (λi s=>aG (i:Int) s.1) ⟨.nil,λx b=>by cases b⟩ (λi x s e a=>?_) λs a=>?_
 ·obtain⟨rfl,il⟩:=Gn e
  have d:s.1.length<=1000:=by
   have:=wF (n:=i) a.nodup a.2
   lia
  rw[zB,zB,zB,wY]
  refine⟨by decide,?_⟩
  rw[aj,uV]
  refine⟨λ_=>?_,λ_=>?_⟩
  ·rw[zB,pU]
   refine⟨yK d,?_⟩
   rw[aj,zB,uW]
   refine⟨⟨by decide,by decide⟩,?_⟩
   rw[aj]
   exact zS6 a (by lia) (by lia)
  ·rw[aj,zB,uW]
   refine⟨⟨by decide,by decide⟩,?_⟩
   rw[aj]
   exact Ck a (by lia)
 ·rw[uD] at a
  have c:Un n s.1:=⟨a.nodup,λx b=>by have:=a.2 x b;omega⟩
  rw[zB,zB,zB,wY]
  refine⟨by decide,?_⟩
  rw[aj,uV]
  refine⟨λ_=>?_,λ_=>?_⟩
  ·rw[zB,aj,aj,aj]
   exact⟨zLf c.1,λx b=>c.2 x (mem_reverse.mp b)⟩
  ·rw[aj,aj]
   exact c
structure iu(n:Int)(maps:LI)(bases:Int):Prop where
 len:(maps.length:Int)=n
 pos:1<=n
 few:n<=30
 b1:1<=bases
 bn:bases<=n
 at_:∀i:Nat,(i:Int)<n->0<=ng maps i/\ng maps i<bases
 self:∀i:Nat,(i:Int)<bases->ng maps i=i
theorem Vv(i:Nat):ng (xs++[y]) i=if i<xs.length then ng xs i else if i=xs.length then y else 0:=by
 unfold ng
 grind
theorem KH(q:iD):W (Vk q) λv=>∃n,iu n v.1 v.2/\n<=20:=by
 unfold Vk
 obtain⟨C,J,_⟩:=uI q (k:=0) (by decide)
 obtain⟨g,G,_⟩:=uI q (k:=1) (by decide)
 rw[J,G,zB,zB,zB,aj,wY]
 refine⟨by decide,?_⟩
 rw[aj,zB,zB,zB,zB,zB,aj,uW]
 refine⟨⟨by decide,by decide⟩,?_⟩
 rw[wY]
 refine⟨by decide,?_⟩
 rw[aj]
 have f:W (if decide (C/8%8=5)=true then(((((some C).bind λu=>aZ u 64).bind λp=>aO p 20).bind λt=>some ((1:Int)+t)).bind λb=>some b) else some ((1:Int)+C%8)) λn=>1<=n/\n<=20:=by
  rw[uV]
  refine⟨λ_=>?_,λ_=>?_⟩
  ·rw[zB,zB,zB,zB,aj,uW]
   refine⟨⟨by decide,by decide⟩,?_⟩
   rw[wY]
   refine⟨by decide,?_⟩
   rw[aj,aj]
   lia
  ·rw[aj]
   lia
 refine f.imp λn ⟨K,B⟩=>?_
 rw[zB,zB,zB,aj,wY]
 refine⟨by lia,?_⟩
 rw[aj]
 have b0:=abb g (show n≠0 by lia)
 have b1:=aa4 g (show 0<n by lia)
 generalize hb:(1:Int)+g%n=a
 rw[zB,aj,zB,zB,uT]
 refine⟨⟨by lia,by omega⟩,?_⟩
 refine xZ (λi s=>s.length=i/\(∀j:Nat,j<i->0<=ng s j/\ng s j<a)/\∀j:Nat,j<i->(j:Int)<a->ng s j=j) ⟨rfl,λj h=>by lia,λj h=>by omega⟩ (λi x s o A=>?_) λs A=>?_
 ·obtain⟨rfl,il⟩:=Gn o
  obtain⟨d,m,l⟩:=A
  obtain⟨z,H,_⟩:=Hh g (i:Int)
  rw[zB,zB,zB,zB,zB,zB,zB,aj,aj]
  show W (wI g (i:Int)) _
  rw[H,aj,wY]
  refine⟨by lia,?_⟩
  rw[zB,Gm]
  refine⟨.inl ⟨by lia,by omega⟩,?_⟩
  rw[aj,aj,pU]
  refine⟨yK (by lia),?_⟩
  rw[aj]
  have E:=abb z (show a≠0 by lia)
  have M:=aa4 z (show 0<a by lia)
  generalize z%a=y at E M
  have r:∀w:Int,w=min (i:Int) (y+a*(if decide ((i:Int)<a)=true then(1:Int) else 0))->(0<=w/\w<a)/\((i:Int)<a->w=i):=λw c=>by
   by_cases D:(i:Int)<a
   ·rw[if_pos (decide_eq_true D)] at c
    rw[c]
    exact⟨⟨by lia,by omega⟩,λ_=>by omega⟩
   ·rw[if_neg (λh=>D (of_decide_eq_true h))] at c
    rw[c]
    exact⟨⟨by lia,by omega⟩,λh=>absurd h D⟩
  generalize c:min (i:Int) (y+a*(if decide ((i:Int)<a)=true then(1:Int) else 0))=w
  obtain⟨F,I⟩:=r w c.symm
  refine⟨by rw[length_append,d];rfl,λj L=>?_,λj L N=>?_⟩
  ·rw[Vv,d]
   by_cases e:j<i
   ·rw[if_pos e];exact m j e
   ·rw[if_neg e,if_pos (by lia)];exact F
  ·rw[Vv,d]
   by_cases e:j<i
   ·rw[if_pos e];exact l j e N
   ·rw[if_neg e,if_pos (by lia),I (by lia)];lia
 ·obtain⟨d,m,l⟩:=A
  rw[uD] at d m l
  rw[aj]
  exact⟨n,⟨by show(s.length:Int)=n;lia,K,by lia,by show(1:Int)<=a;lia,by show a<=n;lia,λi o=>m i (by lia),λi o=>l i (by lia) o⟩,B⟩
def ni(c:LI)(n b:Int):LI:=(rng n).filter λx=>decide (ng c x.toNat=b)
section
variable{n:Int}{maps:LI}{bases:Int}
theorem nj:x∈ni maps n b↔(0<=x/\x<n)/\ng maps x.toNat=b:=by
 unfold ni
 rw[mem_filter,cg]
 grind
theorem KJ(h:iu n maps bases)(a:0<=b)(b1:b<bases):0<(ni maps n b).length:=by
 have bn:=h.bn
 have:b∈ni maps n b:=nj.mpr ⟨⟨a,by omega⟩,by rw[h.self b.toNat (by lia)];omega⟩
 grind
theorem Rq(h:iu n maps bases)(b:Int):((aX (maps.length:Int)).bind λxs=>xG (λ(a:Int)=>(aJ maps a).bind λd=>some (decide (d=b))) (λ(a:Int)=>some a) xs)=some (ni maps n b):=by
 have l:=h.len
 have f:=h.few
 apply eV
 rw[zB,uT,l]
 refine⟨⟨by lia,by omega⟩,?_⟩
 unfold xG
 rw[if_pos (yK (by rw[uD];lia)),Rn (λx c=>?_) (λ_ _=>rfl),aj,map_id']
 ·rfl
 ·obtain⟨e,x1⟩:=cg.mp c
  rw[nQ e,Rk (by lia)];rfl
theorem KN(e:aJ P g=some l)(hl:0<l.length)(a:Int){Q:Int->Prop}(k:∀x∈l,Q x):W ((aJ P g).bind λd=>(((aJ P g).bind λb=>some (b.length:Int)).bind λf=>aO a f).bind λc=>aJ d c) Q:=by
 rw[e,zB,aj,zB,zB,zB,aj,aj,wY]
 refine⟨by lia,?_⟩
 have h:=abb a (show(l.length:Int)≠0 by lia)
 have m1:=aa4 a (show(0:Int)<l.length by lia)
 rw[bW h]
 exact⟨_,aam (by lia),k _ (getElem_mem _)⟩
theorem Ru(h:iu n maps bases)(q:iD)(s0:0<=s)(M:Un bases b)(gn:b≠[]):W (yX (λ(O:LI) (l:Int)=>(((yD q ((6:Int)+s)).bind λJ=>some ((J,((100:Int)+l,())))).bind λt=>wI t.1 t.2.1).bind λk=>(((aJ ((rng bases).map (ni maps n)) l).bind λL=>(((aJ ((rng bases).map (ni maps n)) l).bind λF=>some (F.length:Int)).bind λD=>aO k D).bind λE=>aJ L E).bind λN=>push O N).bind λj=>((aJ ((rng bases).map (ni maps n)) l).bind λK=>((aZ k (64:Int)).bind λH=>((aJ ((rng bases).map (ni maps n)) l).bind λG=>some (G.length:Int)).bind λA=>aO H A).bind λC=>aJ K C).bind λe=>(if(!decide (e∈j))=true then(push j e).bind λp=>some p else some j).bind λB=>some B) b []) λd=>d≠[]/\Un n d:=by
 have R:=h.few
 have hp:=h.pos
 have hb:=h.bn
 have gl:=KD M (by have:=h.b1;lia)
 refine xZ (λi d=>Un n d/\(∀x∈d,ng maps x.toNat∈b.take i)/\(0<i->d≠[])) ⟨⟨.nil,λx r=>(by cases r)⟩,λx r=>(by cases r),λz=>absurd z (by lia)⟩ (λi g d u v=>?_) λd v=>⟨v.2.2 (List.length_pos_iff.mpr gn),v.1⟩
 obtain⟨S,X,_⟩:=v
 have il:=yN u
 obtain⟨P,g1⟩:=M.2 g (mem_of_getElem? u)
 have Q:aJ ((rng bases).map (ni maps n)) g=some (ni maps n g):=by
  rw[nQ P,getElem?_map,Np (by lia)]
  show some _=some _
  congr 2
  lia
 have U:b.take (i+1)=b.take i++[g]:=by rw[take_add_one,u];rfl
 have m:g∉b.take i:=Tj M.1 u
 have pl:=KJ h P g1
 have rl:=KD S (by lia)
 rw[zB,zB,zB]
 refine(uI q (by lia)).imp λc _=>?_
 rw[aj]
 refine(Hh c _).imp λf _=>?_
 rw[zB,zB]
 refine KN Q pl f λx r=>?_
 obtain⟨⟨x0,x1⟩,Y⟩:=nj.mp r
 have xr:x∉d:=λz=>m (by rw[<-Y];exact X x z)
 have o:=Ro S x0 x1 xr
 rw[pU]
 refine⟨yK (by lia),?_⟩
 have T:∀z∈d++[x],ng maps z.toNat∈b.take (i+1):=λz I=>by
  rw[U]
  rcases mem_append.mp I with w|w
  ·exact mem_append_left _ (X z w)
  ·rw[mem_singleton.mp w,Y];exact mem_append_right _ mem_cons_self
 have rl2:=KD o (by lia)
 rw[Q,zB,zB,aj,zB,zB,uW]
 refine⟨⟨by decide,by decide⟩,?_⟩
 rw[zB,zB,aj,aj,wY]
 refine⟨by lia,?_⟩
 have m0:=abb (f/64) (show((ni maps n g).length:Int)≠0 by lia)
 have m1:=aa4 (f/64) (show(0:Int)<(ni maps n g).length by lia)
 rw[bW m0]
 refine⟨_,aam (by lia),?_⟩
 have Z:(ni maps n g)[(f/64%((ni maps n g).length:Int)).toNat]'(by lia)∈ni maps n g:=getElem_mem _
 generalize(ni maps n g)[(f/64%((ni maps n g).length:Int)).toNat]'(by lia)=y at Z
 obtain⟨⟨y0,y1⟩,yg⟩:=nj.mp Z
 rw[zB,uV]
 refine⟨λR=>?_,λ_=>?_⟩
 ·have yr:y∉d++[x]:=by simpa using R
  rw[zB,pU]
  refine⟨yK (by lia),?_⟩
  rw[aj,aj]
  refine⟨Ro o y0 y1 yr,λz I=>?_,λ_=>by simp⟩
  rcases mem_append.mp I with w|w
  ·exact T z w
  ·rw[mem_singleton.mp w,yg,U];exact mem_append_right _ mem_cons_self
 ·rw[aj,aj]
  exact⟨o,T,λ_=>by simp⟩
end
abbrev jr:=gB
def tgt(T:List (List jr))(x y:Int):jr:=(T.getD x.toNat []).getD y.toNat none
structure Hi(n n':Int)(T:List (List jr)):Prop where
 len:(T.length:Int)=n
 row:∀(i:Nat)(r:List jr),T[i]?=some r->(r.length:Int)=n'
abbrev bF(n x:Int):Prop:=0<=x/\x<n
section
variable{n n':Int}{T T':List (List jr)}
theorem YG(h:Hi n n' T)(hx:bF n x)(hy:bF n' y):∃r,T[x.toNat]?=some r/\r[y.toNat]?=some (tgt T x y):=by
 have l:=h.len
 have e:=aam (show x.toNat<T.length by lia)
 have rl:=h.row _ _ e
 unfold tgt
 grind
theorem Hj(h:Hi n n' T)(c:bF n x)(b:bF n' y):((aJ T x).bind λa=>aJ a y)=some (tgt T x y):=by
 obtain⟨r,d,e⟩:=YG h c b
 rw[nQ c.1,d]
 show aJ r y=_
 rw[nQ b.1,e]
theorem YH(h:Hi n n' T)(hx:bF n x)(hy:bF n' y)(a:jr):∃T',Ae (aN.mk T) x y a=some (aN.mk T')/\Hi n n' T'/\∀x' y',bF n x'->bF n' y'->tgt T' x' y'=if x'=x/\y'=y then a else tgt T x' y':=by
 obtain⟨r,e1,e2⟩:=YG h hx hy
 have xl:=yN e1
 have yl:=yN e2
 have l:=h.len
 refine⟨T.set x.toNat (r.set y.toNat a),?_,⟨by rw[length_set];exact l,λi q hq=>?_⟩,λx' y' hx' hy'=>?_⟩
 ·unfold Ae
  rw[if_pos hx.1,e1]
  show((m6 r y a).bind _)=_
  rw[Xe hy.1 (by omega)]
  rfl
 ·rw[abm] at hq
  split at hq
  ·rename_i e
   subst e
   try rw[if_pos xl] at hq
   cases hq
   rw[length_set]
   exact h.row _ _ e1
  ·exact h.row i q hq
 ·unfold tgt
  simp only[getD_eq_getElem?_getD]
  rw[abm]
  by_cases ex:x'=x
  ·subst ex
   rw[if_pos rfl,if_pos xl,e1]
   show(r.set y.toNat a)[y'.toNat]?.getD none=if _ then a else r[y'.toNat]?.getD none
   rw[abm]
   by_cases ey:y'=y
   ·subst ey
    rw[if_pos rfl,if_pos yl,if_pos ⟨rfl,rfl⟩];rfl
   ·rw[if_neg (by have:=hy.1;have:=hy'.1;omega),if_neg λz=>ey z.2]
  ·rw[if_neg (by have:=hx.1;have:=hx'.1;omega),if_neg λz=>ex z.1]
def Ext(n n':Int)(T T':List (List jr)):Prop:=∀x y v,bF n x->bF n' y->tgt T x y=some v->tgt T' x y=some v
theorem Ext.refl:Ext n n' T T:=λ_ _ _ _ _ h=>h
theorem Ext.trans(a:Ext n n' T T')(b:Ext n n' T' e):Ext n n' T e:=λx y v d c h=>b x y v d c (a x y v d c h)
def rk(T:List (List jr))(p:Int×Int):Int:=match tgt T p.1 p.2 with
 |some (r,_)=>r
 |none=>0
theorem Hl(h:tgt T p.1 p.2=some (r,w)):rk T p=r:=by unfold rk;rw[h]
theorem zOp{α:Type}:∀{ks ns:List α},ks.Nodup->(∀z∈ks,z∈ns)->ks.length<=ns.length
 |[],_,_,_=>aa5 _
 |k::ks,ns,d,h=>by
  obtain⟨a,b,e⟩:=List.append_of_mem (h k mem_cons_self)
  have c:=nodup_cons.mp d
  have q:=zOp (ns:=a++b) c.2 λz hz=>by
   grind
  grind
theorem yq{Q:List (Int×Int)}(b:Q.Nodup)(h:∀p∈Q,bF n p.1/\bF n' p.2)(Mx:n<=60)(Rv:n'<=60):Q.length<=3600:=by
 have c:((aaz 60).flatMap λ(i:Nat)=>(aaz 60).map λ(j:Nat)=>((i:Int),(j:Int))).length=3600:=by trivial
 rw[<-c]
 refine zOp b λp a=>?_
 obtain⟨h1,h2⟩:=h p a
 refine List.mem_flatMap.mpr ⟨p.1.toNat,mem_range.mpr (by lia),mem_map.mpr ⟨p.2.toNat,mem_range.mpr (by lia),?_⟩⟩
 grind
end
section
variable{C:Addr}{m m':ao C}{n n':Int}{T:List (List jr)}{Q:List (Int×Int)}
def pA(m m':ao C)(T:List (List jr))(x y r:Int)(w:Str×Key):Prop :=
 (r=0/\∃a,w=(("mark":Str),(abz a:Key))/\¬(a∈vQ m x↔a∈vQ m' y)) \/
 ∃s,w=(("step":Str),(abn s:Key))/\s∈nxt m.steps x/\∀t∈nxt m'.steps y,∃b c,tgt T s t=some (b,c)/\b<r
theorem pA.ext(g:Gr m n)(g':Gr m' n')(e:Ext n n' T j)(a:bF n x)(b:bF n' y)(h:pA m m' T x y r w):pA m m' j x y r w:=by
 rcases h with h|⟨s,i,d,k⟩
 ·exact .inl h
 ·refine .inr ⟨s,i,d,λt c=>?_⟩
  obtain⟨o,p,l,f⟩:=k t c
  exact⟨o,p,e s t _ ((Ak g a.1 a.2).2.1 s d) ((Ak g' b.1 b.2).2.1 t c) l,f⟩
structure BQ(m m':ao C)(n n':Int)(T:List (List jr))(Q:List (Int×Int)):Prop where
 Nq:Hi n n' T
 Rw:∀p∈Q,bF n p.1/\bF n' p.2
 nd:Q.Nodup
 mem:∀x y,bF n x->bF n' y->((x,y)∈Q↔tgt T x y≠none)
 rs:∀x y,bF n x->bF n' y->∀r w,tgt T x y=some (r,w)->0<=r/\pA m m' T x y r w
 mono:∀(i j:Nat)(p q:Int×Int),i<=j->Q[i]?=some p->Q[j]?=some q->rk T p<=rk T q
theorem BQ.push(g:Gr m n)(g':Gr m' n')(h:BQ m m' n n' T Q)(D:bF n x)(E:bF n' y)(P:tgt T x y=none)(R:0<=l)(top:∀q∈Q,rk T q<=l)(X:pA m m' T x y l w) :
  ∃c,Ae (aN.mk T) x y (some (l,w))=some (aN.mk c)/\BQ m m' n n' c (Q++[(x,y)])/\Ext n n' T c/\(∀q∈Q++[(x,y)],rk c q<=l)/\tgt c x y≠none:=by
 obtain⟨c,e,M,s⟩:=YH h.Nq D E (some (l,w))
 have G:Ext n n' T c:=λa b v f k I=>by
  rw[s a b f k,if_neg]
  ·exact I
  ·rintro⟨rfl,rfl⟩
   rw[P] at I;cases I
 have d:tgt c x y=some (l,w):=by rw[s x y D E,if_pos ⟨rfl,rfl⟩]
 have u:∀q∈Q,rk c q=rk T q:=λq o=>by
  obtain⟨O,N⟩:=h.Rw q o
  have:=(h.mem q.1 q.2 O N).mp o
  cases K:tgt T q.1 q.2 with
  |none=>exact absurd K this
  |some v=>rw[Hl K,Hl (G _ _ _ O N K)]
 have L:(x,y)∉Q:=λz=>(h.mem x y D E).mp z P
 have t:∀q∈Q++[(x,y)],rk c q<=l:=λq o=>by
  rcases mem_append.mp o with o|o
  ·rw[u q o];exact top q o
  ·rw[mem_singleton.mp o,Hl (p:=(x,y)) d];exact ad2 _
 refine⟨c,e,⟨M,λp B=>?_,?_,λa b f k=>?_,λa b f k r v F=>?_,λi j p q J H A=>?_⟩,G,t,by rw[d];intro z;cases z⟩
 ·rcases mem_append.mp B with B|B
  ·exact h.Rw p B
  ·rw[mem_singleton.mp B];exact⟨D,E⟩
 ·rw[nodup_append]
  refine⟨h.nd,by simp,λa f b k e=>L ?_⟩
  rw[<-mem_singleton.mp k,<-e]
  exact f
 ·rw[mem_append,h.mem a b f k,s a b f k,mem_singleton]
  grind
 ·rw[s a b f k] at F
  split at F
  ·rename_i q
   cases F
   rw[q.1,q.2]
   exact⟨R,X.ext g g' G D E⟩
  ·obtain⟨Y,U⟩:=h.rs a b f k r v F
   exact⟨Y,U.ext g g' G f k⟩
 ·rcases Nat.lt_or_ge j Q.length with z|z
  ·rw[getElem?_append_left z] at A
   rw[getElem?_append_left (by lia)] at H
   rw[u p (mem_of_getElem? H),u q (mem_of_getElem? A)]
   exact h.mono i j p q J H A
  ·have S:j=Q.length:=by
    have:=yN A
    rw[length_append,length_singleton] at this
    lia
   rw[getElem?_append_right z,S,Nat.sub_self] at A
   cases(aa2 (show some (x,y)=some q from A))
   rw[Hl (p:=(x,y)) d]
   exact t p (mem_of_getElem? H)
structure Ep(m m':ao C)(n n':Int)(T:List (List jr))(Q:List (Int×Int))(l:Int)(T2:List (List jr))(Q2:List (Int×Int)):Prop where
 bq:BQ m m' n n' T2 Q2
 ext:Ext n n' T T2
 app:∃E,Q2=Q++E
 top:∀q∈Q2,rk T2 q<=l
theorem Ep.trans(a:Ep m m' n n' T Q l h g)(b:Ep m m' n n' h g l f d):Ep m m' n n' T Q l f d:=by
 obtain⟨E,e⟩:=a.app
 obtain⟨c,e'⟩:=b.app
 exact⟨b.bq,a.ext.trans b.ext,⟨E++c,by grind⟩,b.top⟩
theorem Vw(e:Ext n n' T a)(b:bF n x)(c:bF n' y)(h:tgt T x y≠none):tgt a x y≠none:=by
 cases q:tgt T x y with
 |none=>grind
 |some v=>rw[e x y v b c q];grind
abbrev Fst:=(aN jr)×(List (Int×Int))
theorem Er(g:Gr m n)(g':Gr m' n')(X:BQ m m' n n' T Q){l st f:Int}(top:∀q∈Q,rk T q<=l)(U:0<=l)(D:bF n' f)(K:∀t∈nxt m'.steps f,∃G w',tgt T st t=some (G,w')/\G<l){xs:LI}(N:∀x∈xs,bF n x/\st∈nxt m.steps x) :
  W (yX (λ(a:Fst) (k:Int)=>((((aJ a.1.xss k).bind λh=>aJ h f).bind λJ=>some J.isNone).bind λb=>if b=true then(Ae a.1 k f (some ((l,(("step":Str),(abn st:Key)))))).bind λc=>(push a.2 (k,f)).bind λj=>some (c,j) else some (a.1,a.2)).bind λA=>some (A.1,A.2)) xs (aN.mk T,Q)) λs=>Ep m m' n n' T Q l s.1.xss s.2/\∀x∈xs,tgt s.1.xss x f≠none:=by
 have L:=g.few
 have w:=g'.few
 refine xZ (λi s=>Ep m m' n n' T Q l s.1.xss s.2/\∀x∈xs.take i,tgt s.1.xss x f≠none) ⟨⟨X,.refl,⟨[],by simp⟩,top⟩,λx o=>(by simp at o)⟩ (λi x s M F=>?_) λs F=>by rw[take_length] at F;exact F
 obtain⟨⟨u⟩,Q2⟩:=s
 obtain⟨d,S⟩:=F
 obtain⟨o,p⟩:=N x (mem_of_getElem? M)
 have R:∀{P:Int->Prop},(∀y∈xs.take i,P y)->P x->∀y∈xs.take (i+1),P y:=λ{P} h1 h2 y E=>by
  rw[take_add_one,M] at E
  grind
 rw[zB,zB,zB]
 show W ((aJ u x).bind λh=>aJ h f) _
 rw[Hj d.bq.Nq o D,aj,aj]
 cases e:tgt u x f with
 |some v =>
  rw[Option.isNone_some,if_neg (by decide),aj,aj]
  exact⟨d,R S (by show tgt u x f≠none;rw[e];intro z;cases z)⟩
 |none =>
  have ok:pA m m' u x f l (("step":Str),(abn st:Key)):=.inr ⟨st,rfl,p,λt O=>by
   obtain⟨G,w',z1,z2⟩:=K t O
   exact⟨G,w',d.ext _ _ _ ((Ak g o.1 o.2).2.1 st p) ((Ak g' D.1 D.2).2.1 t O) z1,z2⟩⟩
  obtain⟨T3,Z,I,B,r,H⟩:=d.bq.push g g' o D e U d.top ok
  have Y:=yq d.bq.nd d.bq.Rw L w
  rw[Option.isNone_none,if_pos rfl,zB]
  show W (Ae (aN.mk u) x f _) _
  rw[Z,aj,zB,pU]
  refine⟨aaw Y (by decide),?_⟩
  rw[aj,aj]
  exact⟨d.trans ⟨I,B,⟨_,rfl⟩,r⟩,R (λy E=>Vw B (N y (mem_of_mem_take E)).1 D (S y E)) H⟩
theorem Es(g:Gr m n)(g':Gr m' n')(S:BQ m m' n n' T Q){l st:Int}{c:aN Int}(r:bF n st)(top:∀q∈Q,rk T q<=l)(M:0<=l){zs:LI}(hz:∀f∈zs,bF n' f/\∀t∈nxt m'.steps f,∃B w',tgt T st t=some (B,w')/\B<l) :
  W (yX (λ(e:(aN jr)×(List (Int×Int))×(aN Int)) (k:Int)=>((yL m st).bind λxs=>yX (λ(a:Fst) (p:Int)=>((((aJ a.1.xss p).bind λD=>aJ D k).bind λE=>some E.isNone).bind λb=>if b=true then(Ae a.1 p k (some ((l,(("step":Str),(abn st:Key)))))).bind λd=>(push a.2 (p,k)).bind λj=>some (d,j) else some (a.1,a.2)).bind λv=>some (v.1,v.2)) xs (e.1,e.2.1)).bind λw=>some (w.1,w.2,e.2.2)) zs (aN.mk T,Q,c)) λs=>Ep m m' n n' T Q l s.1.xss s.2.1/\s.2.2=c/\∀f∈zs,∀x,bF n x->st∈nxt m.steps x->tgt s.1.xss x f≠none:=by
 have O:yL m st=some (src m.steps st.toNat):=by
  unfold yL
  rw[g.src,nQ r.1]
  unfold srcs
  rw[getElem?_map,getElem?_range (by have:=g.len;lia)];rfl
 have J:∀x,x∈src m.steps st.toNat↔bF n x/\st∈nxt m.steps x:=λx=>by
  rw[Yp,g.len,show((st.toNat:Nat):Int)=st by lia]
  grind
 refine xZ (λi s=>Ep m m' n n' T Q l s.1.xss s.2.1/\s.2.2=c/\∀f∈zs.take i,∀x,bF n x->st∈nxt m.steps x->tgt s.1.xss x f≠none) ⟨⟨S,.refl,⟨[],by simp⟩,top⟩,rfl,λx h=>(by simp at h)⟩ (λi f s I z=>?_) λs z=>by rw[take_length] at z;exact z
 obtain⟨⟨T2⟩,Q2,c2⟩:=s
 obtain⟨A,rfl,P⟩:=z
 obtain⟨F,G⟩:=hz f (mem_of_getElem? I)
 rw[O,zB,zB,aj]
 refine(Er g g' A.bq A.top M F (λt H=>by
  obtain⟨B,w',L,R⟩:=G t H
  exact⟨B,w',A.ext _ _ _ r ((Ak g' F.1 F.2).2.1 t H) L,R⟩) (λx h=>(J x).mp h)).imp ?_
 rintro s ⟨u,N⟩
 rw[aj]
 refine⟨A.trans u,rfl,λy o x h K=>?_⟩
 rw[take_add_one,I] at o
 rcases mem_append.mp o with o|o
 ·exact Vw u.ext h (hz y (mem_of_mem_take o)).1 (P y o x h K)
 ·have:y=f:=by simpa using o
  rw[this]
  exact N x ((J x).mpr ⟨h,K⟩)
def Eu(m':ao C)(P:List (Int×Int))(x f:Int):Int:=(((nxt m'.steps f).filter λt=>!decide ((x,t)∈P)).length:Int)
def cnt(c:aN Int)(x f:Int):Int:=ng (c.xss.getD x.toNat []) f.toNat
structure rY(m':ao C)(n n':Int)(P:List (Int×Int))(c:aN Int):Prop where
 len:(c.xss.length:Int)=n
 row:∀(i:Nat)(r:LI),c.xss[i]?=some r->(r.length:Int)=n'
 at_:∀x f,bF n x->bF n' f->cnt c x f=Eu m' P x f
theorem w_left(g':Gr m' n')(J:bF n' k){c:LI}(M:(c.length:Int)=n'):W (yW c m' k) λr=>(r.2.length:Int)=n'/\(∀f,bF n' f->ng r.2 f.toNat=ng c f.toNat-if k∈nxt m'.steps f then 1 else 0)/\∀f,f∈r.1↔bF n' f/\k∈nxt m'.steps f/\ng c f.toNat=1:=by
 have I:yL m' k=some (src m'.steps k.toNat):=by
  unfold yL
  rw[g'.src,nQ J.1]
  unfold srcs
  rw[getElem?_map,getElem?_range (by have:=g'.len;lia)];rfl
 have t:∀x,x∈src m'.steps k.toNat↔bF n' x/\k∈nxt m'.steps x:=λx=>by
  rw[Yp,g'.len,show((k.toNat:Nat):Int)=k by lia]
  exact⟨λ⟨a,b,c⟩=>⟨⟨a,b⟩,c⟩,λ⟨⟨a,b⟩,c⟩=>⟨a,b,c⟩⟩
 have F:(src m'.steps k.toNat).Nodup:=by
  unfold src
  exact pairwise_map.mpr ((nodup_range.filter _).imp λq e=>q (Int.ofNat.inj e))
 have few:=g'.few
 generalize H:src m'.steps k.toNat=o at I t F
 have xl:o.length<=60:=by
  have:=wF (n:=n'.toNat) F λx H=>by have:=((t x).mp H).1;lia
  lia
 unfold yW
 rw[zB,aj,I,zB,zB,aj]
 refine xZ (λi s=>(s.1.length:Int)=n'/\(∀f,bF n' f->ng s.1 f.toNat=ng c f.toNat-if f∈o.take i then 1 else 0)/\s.2.length<=i/\∀f,f∈s.2↔f∈o.take i/\ng c f.toNat=1) ⟨M,λf p=>by simp,aa5 _,λf=>by simp⟩ (λi x s A E=>?_) λs E=>?_
 ·obtain⟨g,d⟩:=s
  obtain⟨u,v,B,y⟩:=E
  have u:(g.length:Int)=n':=u
  have h:=((t x).mp (mem_of_getElem? A)).1
  have il:=yN A
  have nt:=Tj F A
  have L:aJ g x=some (ng g x.toNat):=by rw[nQ h.1];exact Rk (by lia)
  have D:ng g x.toNat=ng c x.toNat:=by have:=v x h;rw[if_neg nt] at this;have this:ng g x.toNat=ng c x.toNat-0:=this;lia
  have K:lD (λi j=>i-j) g x 1=some (g.set x.toNat (ng c x.toNat-1)):=by
   unfold lD
   rw[if_pos h.1,L]
   show m6 g x (ng g x.toNat-1)=_
   rw[Xe h.1 (by lia),D]
  have mt:∀f,f∈o.take (i+1)↔f∈o.take i\/f=x:=λf=>by
   rw[take_add_one,A,mem_append]
   simp
  have G:∀f,bF n' f->ng (g.set x.toNat (ng c x.toNat-1)) f.toNat=if f=x then ng c x.toNat-1 else ng g f.toNat:=λf p=>by
   unfold ng
   rw[getD_eq_getElem?_getD,abm]
   by_cases q:f=x
   ·subst q
    rw[if_pos rfl,if_pos rfl,if_pos (by lia)];rfl
   ·rw[if_neg q,if_neg (by lia),<-getD_eq_getElem?_getD]
  show W ((lD (λi j=>i-j) g x 1).bind _) _
  rw[K,zB,aj,zB,zB,zB,nQ h.1,Rk (by rw[length_set];lia),aj,aj,G x h,if_pos rfl]
  have l:∀f,bF n' f->ng (g.set x.toNat (ng c x.toNat-1)) f.toNat=ng c f.toNat-if f∈o.take (i+1) then 1 else 0:=λf p=>by
   rw[G f p]
   by_cases q:f=x
   ·rw[if_pos q,if_pos ((mt f).mpr (.inr q)),q]
   ·rw[if_neg q]
    have:=v f p
    by_cases z:f∈o.take i
    ·rw[if_pos z] at this
     rw[if_pos ((mt f).mpr (.inl z))];exact this
    ·rw[if_neg z] at this
     rw[if_neg λw=>((mt f).mp w).elim z q];exact this
  by_cases z:ng c x.toNat-1=0
  ·rw[if_pos (decide_eq_true z),zB]
   show W (push d x) _
   rw[pU]
   refine⟨yK (by show d.length<=1000;have:d.length<=i:=B;lia),?_⟩
   rw[aj,aj]
   refine⟨by show((g.set _ _).length:Int)=n';rw[length_set];exact u,l,by show(d++[x]).length<=i+1;rw[length_append];have:d.length<=i:=B;simpa using this,λf=>?_⟩
   show f∈d++[x]↔_
   rw[mem_append,y f,mt f,mem_singleton]
   constructor
   ·rintro(⟨a,b⟩|a)
    ·exact⟨.inl a,b⟩
    ·exact⟨.inr a,by rw[a];omega⟩
   ·rintro⟨a|a,b⟩
    ·exact .inl ⟨a,b⟩
    ·exact .inr a
  ·rw[if_neg λw=>z (of_decide_eq_true w),aj,aj]
   refine⟨by show((g.set _ _).length:Int)=n';rw[length_set];exact u,l,by show d.length<=i+1;have:d.length<=i:=B;lia,λf=>?_⟩
   show f∈d↔_
   rw[y f,mt f]
   constructor
   ·rintro⟨a,b⟩;exact⟨.inl a,b⟩
   ·rintro⟨a|a,b⟩
    ·exact⟨a,b⟩
    ·rw[a] at b;lia
 ·obtain⟨g,d⟩:=s
  obtain⟨u,v,_,y⟩:=E
  rw[take_length] at v y
  rw[aj]
  refine⟨u,λf p=>?_,λf=>?_⟩
  ·have:=v f p
   show ng g f.toNat=_
   rw[show ng g f.toNat=_ from this]
   by_cases z:k∈nxt m'.steps f
   ·rw[if_pos z,if_pos ((t f).mpr ⟨p,z⟩)]
   ·rw[if_neg z,if_neg λw=>z ((t f).mp w).2]
  ·show f∈d↔_
   rw[y f,t f]
   exact⟨λ⟨⟨a,b⟩,c⟩=>⟨a,b,c⟩,λ⟨a,b,c⟩=>⟨⟨a,b⟩,c⟩⟩
theorem zPh(g':Gr m' n'){P:List (Int×Int)}{st a x f:Int}(d:bF n' f)(i:(st,a)∉P):Eu m' (P++[(st,a)]) x f=Eu m' P x f-if x=st/\a∈nxt m'.steps f then 1 else 0:=by
 have b:=(g'.row _ (mem_of_getElem? (Ak g' d.1 d.2).1)).2.1
 unfold Eu
 by_cases q:x=st/\a∈nxt m'.steps f
 ·rw[if_pos q]
  obtain⟨rfl,g⟩:=q
  have c:∀l:LI,l.Nodup->a∈l->(l.filter λt=>!decide ((x,t)∈P)).length=(l.filter λt=>!decide ((x,t)∈P++[(x,a)])).length+1:=by
   intro l
   induction l with
   |nil=>intro _ h;cases h
   |cons t l ih =>
    intro b h
    have nd':=nodup_cons.mp b
    by_cases e:t=a
    ·subst e
     rw[List.filter_cons_of_pos (by simpa using i),List.filter_cons_of_neg (by simp),length_cons]
     congr 2
     refine List.filter_congr λu hu=>?_
     grind
    grind
  have:=c _ b g
  lia
 ·rw[if_neg q,Int.sub_zero]
  congr 2
  refine List.filter_congr λt ht=>?_
  grind
theorem zXw:Eu m' P x f=0↔∀t∈nxt m'.steps f,(x,t)∈P:=by
 unfold Eu
 rw[show((((nxt m'.steps f).filter λt=>!decide ((x,t)∈P)).length:Int)=0)↔((nxt m'.steps f).filter λt=>!decide ((x,t)∈P))=[] from⟨λh=>length_eq_zero_iff.mp (by lia),λh=>by grind⟩,List.filter_eq_nil_iff]
 grind
structure Kv(m m':ao C)(n n':Int)(T:List (List jr))(Q:List (Int×Int))(c:aN Int)(k:Nat):Prop where
 bq:BQ m m' n n' T Q
 kl:k<=Q.length
 cs:rY m' n n' (Q.take k) c
 top:∀p,Q[k]?=some p->∀q∈Q,rk T q<=rk T p+1
 clo:∀x f,bF n x->bF n' f->(∀t∈nxt m'.steps f,(x,t)∈Q.take k)->∀s,bF n s->x∈nxt m.steps s->tgt T s f≠none
end
section
variable{C:Addr}{m m':ao C}{n n':Int}{T:List (List jr)}{Q:List (Int×Int)}
def qC(m m':ao C)(x y:Int):jr:=match lH (aR (vQ m x)) (aR (vQ m' y)) with
 |[]=>none
 |a::_=>some (0,(("mark":Str),(abz a:Key)))
theorem zY6(h:qC m m' x y=some (r,w)):r=0/\pA m m' T x y r w:=by
 unfold qC at h
 cases e:lH (aR (vQ m x)) (aR (vQ m' y)) with
 |nil=>grind
 |cons a l =>
  rw[e] at h
  cases h
  refine⟨rfl,.inl ⟨rfl,a,rfl,λq=>?_⟩⟩
  have b:a∈lH (aR (vQ m x)) (aR (vQ m' y)):=by grind
  unfold lH at b
  rw[(aL _).mem_iff,X5,(aL _).mem_iff,(aL _).mem_iff] at b
  grind
theorem Rx(c:(m.marks.map (·.1)).Nodup)(hm:m.marks.length<32)(b:(m'.marks.map (·.1)).Nodup)(hm':m'.marks.length<32)(x y:Int):xM (aR (vQ m x)) (aR (vQ m' y))=some (qC m m' x y):=by
 have lx:=zT8 (m:=m) x
 have ly:=zT8 (m:=m') y
 refine eV ?_
 unfold xM Yc oV
 rw[if_pos ⟨by lia,zZo c x,zZo b y⟩,zB,aj]
 unfold qC
 cases e:lH (aR (vQ m x)) (aR (vQ m' y)) with
 |nil=>rw[if_pos (by decide),aj]
 |cons a l =>
  rw[if_neg (by grind),zB,zB,zB,zB,nQ (by decide)]
  show W (some a) _
  rw[aj,aj,aj,aj,aj]
def iw(m m':ao C)(n n':Int):List (List jr):=(rng n).map λx=>(rng n').map λy=>qC m m' x y
theorem zWy(h0:0<=n)(h0':0<=n'):Hi n n' (iw m m' n n'):=⟨by unfold iw;rw[length_map,uD];lia,λi r a=>by
 unfold iw at a
 rw[getElem?_map] at a
 cases e:(rng n)[i]? with
 |none=>grind
 |some x=>rw[e] at a;cases a;rw[length_map,uD];omega⟩
theorem Vx(hx:bF n x)(hy:bF n' y):tgt (iw m m' n n') x y=qC m m' x y:=by
 unfold tgt iw
 simp only[getD_eq_getElem?_getD]
 rw[getElem?_map,Np (by grind)]
 show(((rng n').map _)[y.toNat]?).getD none=_
 rw[getElem?_map,Np (by grind)]
 grind
theorem zV9(g:Gr m n)(g':Gr m' n')(q:(m.marks.map (·.1)).Nodup)(r:m.marks.length<32)(c:(m'.marks.map (·.1)).Nodup)(e:m'.marks.length<32):wV m m'=some (aN.mk (iw m m' n n')):=by
 have p0:=g.pos;have p1:=g.few;have p0':=g'.pos;have p1':=g'.few
 refine eV ?_
 unfold wV
 rw[Ag g',Ag g,zB,zB,aj]
 have t:xG (λ(j:Int)=>some true) (λ(j:Int)=>xC m' j) (rng n')=some ((rng n').map λy=>aR (vQ m' y)):=by
  unfold xG
  rw[if_pos (yK (by rw[uD];lia)),Rn (p:=λ_=>true) (g:=λy=>aR (vQ m' y)) (λ_ _=>rfl) (λx _=>zR5 (by lia) x),filter_eq_self.mpr λ_ _=>rfl]
 rw[t,aj,zB,aj,zB,zB,aj]
 refine xZ (λi s=>s.xss=((rng n).take i).map λx=>(rng n').map λy=>qC m m' x y) rfl (λi x s h a=>?_) λs a=>?_
 ·have k:xG (λ(b:List Str)=>some true) (λ(b:List Str)=>xM (aR (vQ m x)) b) ((rng n').map λy=>aR (vQ m' y))=some ((rng n').map λy=>qC m m' x y):=by
   unfold xG
   rw[if_pos (yK (by rw[length_map,uD];lia))]
   have d:∀l:LI,vJ (λ(b:List Str)=>some true) (λ(b:List Str)=>xM (aR (vQ m x)) b) (l.map λy=>aR (vQ m' y))=some (l.map λy=>qC m m' x y):=by
    intro l
    induction l with
    |nil=>rfl
    |cons y l ih =>
     show(xM (aR (vQ m x)) (aR (vQ m' y))).bind _=_
     rw[Rx q r c e x y]
     show(vJ _ _ _).bind _=_
     rw[ih]
     rfl
   exact d _
  have o:=yN h
  rw[uD] at o
  rw[zB,zR5 (by lia) x,aj,zB,zB,zB,aj,k,aj]
  unfold Qu
  rw[if_pos (yK (by rw[a,length_map,length_take];lia)),aj,aj]
  show s.xss++_=_
  rw[a,take_add_one,h,map_append];rfl
 ·rw[take_length] at a
  rw[aj]
  obtain⟨f⟩:=s
  show aN.mk f=_
  rw[show f=_ from a];rfl
theorem qD{α:Type}{xs:List α}{i:Nat}{x:α}(h:xs[i]?=some x):(jA xs)[i]?=some ((i:Int),x):=by
 unfold jA
 grind
theorem zYc{α:Type}(xs:List α):((jA xs).map (·.1)).Nodup:=by
 have e:(jA xs).map (·.1)=(aaz xs.length).map ac0:=by
  unfold jA
  rw[List.map_fst_zip (by simp)]
 rw[e]
 exact pairwise_map.mpr (nodup_range.imp λq e=>q (Int.ofNat.inj e))
theorem zR4(g:Gr m n)(g':Gr m' n')(o:Hi n n' T)(h:jr->Bool):W (yX (λ(S:List (Int×Int)) (M:Int×(List jr))=>(((some (jA M.2)).bind λxs=>xG (λ(c:Int×jr)=>some (h c.2)) (λ(c:Int×jr)=>some (M.1,c.1)) xs).bind λa7=>lG S a7).bind λd=>some d) (jA T) []) λQ=>Q.Nodup/\∀x y,(x,y)∈Q↔bF n x/\bF n' y/\h (tgt T x y)=true:=by
 have p1:=g.few;have B:=g'.few;have p0:=g.pos;have p0':=g'.pos
 have Y:=o.len
 refine xZ (λi s=>s.Nodup/\∀x y,(x,y)∈s↔(0<=x/\x<(i:Int))/\bF n' y/\h (tgt T x y)=true) ⟨.nil,λx y=>⟨λz=>(by cases z),λz=>by have:=z.1;omega⟩⟩ (λi x s R f=>?_) λs f=>?_
 ·obtain⟨k,r⟩:=x
  obtain⟨D,t⟩:=O7 R
  have D:k=(i:Int):=D
  have t:T[i]?=some r:=t
  subst D
  have il:=yN t
  have rl:(r.length:Int)=n':=o.row _ _ t
  rw[zB,zB,zB,aj,Xf]
  refine⟨yK (by rw[Tc];show r.length<=1000;lia),?_⟩
  have tg:∀y,bF n' y->r[y.toNat]?=some (tgt T (i:Int) y):=λy w=>by
   obtain⟨r',H,X⟩:=YG o (x:=(i:Int)) (y:=y) ⟨by lia,by omega⟩ w
   rw[show((i:Int)).toNat=i by lia,t] at H
   cases H
   exact X
  have F:∀x y,(x,y)∈((jA r).filter λc=>h c.2).map (λc=>((i:Int),c.1))↔x=(i:Int)/\bF n' y/\h (tgt T x y)=true:=λx y=>by
   rw[mem_map]
   constructor
   ·rintro⟨⟨b,v⟩,G,e⟩
    rw[mem_filter] at G
    obtain⟨j,P⟩:=mem_iff_getElem?.mp G.1
    obtain⟨K,A⟩:=O7 P
    have K:b=(j:Int):=K
    have A:r[j]?=some v:=A
    have jl:=yN A
    cases e
    have I:bF n' b:=⟨by lia,by omega⟩
    have:=tg b I
    rw[show b.toNat=j by lia,A] at this
    refine⟨rfl,I,?_⟩
    rw[<-aa2 this]
    exact G.2
   ·rintro⟨rfl,w,hh⟩
    refine⟨(y,tgt T (i:Int) y),mem_filter.mpr ⟨?_,hh⟩,rfl⟩
    have:=qD (tg y w)
    rw[show((y.toNat:Nat):Int)=y by have:=w.1;lia] at this
    exact mem_of_getElem? this
  have N:(((jA r).filter λc=>h c.2).map (λc=>((i:Int),c.1))).Nodup:=by
   have z:=((zYc r).sublist (Sublist.map (·.1) (List.filter_sublist (p:=λc=>h c.2) (l:=jA r))))
   rw[Nodup,pairwise_map] at z ⊢
   exact z.imp λq e=>q (congrArg Prod.snd e)
  generalize((jA r).filter λc=>h c.2).map (λc=>((i:Int),c.1))=E at F N
  have u:(s++E).Nodup:=by
   rw[nodup_append]
   refine⟨f.1,N,λa U b Z e=>?_⟩
   subst e
   have:=((f.2 a.1 a.2).mp U).1.2
   have:=((F a.1 a.2).mp Z).1
   lia
  have J:∀x y,(x,y)∈s++E↔(0<=x/\x<((i+1:Nat):Int))/\bF n' y/\h (tgt T x y)=true:=λx y=>by
   rw[mem_append,f.2 x y,F x y]
   constructor
   ·rintro(⟨a,b⟩|⟨a,b⟩)
    ·exact⟨by lia,b⟩
    ·exact⟨by lia,b⟩
   ·rintro⟨a,b⟩
    by_cases z:x=(i:Int)
    ·exact .inr ⟨z,b⟩
    ·exact .inl ⟨by lia,b⟩
  have L:=yq (n:=n) (n':=n') u (λp O=>by
   have:=(J p.1 p.2).mp O
   exact⟨⟨this.1.1,by have:=this.1.2;omega⟩,this.2.1⟩) p1 B
  rw[length_append] at L
  show W (lG s E) _
  unfold lG
  rw[if_pos (aaw L (by decide)),aj,aj]
  exact⟨u,J⟩
 ·rw[Tc] at f
  refine⟨f.1,λx y=>?_⟩
  rw[f.2 x y,Y]
theorem zYl(g:Gr m n)(g':Gr m' n'):W (U5 (iw m m' n n')) λQ=>BQ m m' n n' (iw m m' n n') Q/\∀q∈Q,rk (iw m m' n n') q=0:=by
 have d:=zWy (m:=m) (m':=m') (n:=n) (n':=n') (by have:=g.pos;lia) (by have:=g'.pos;lia)
 unfold U5
 rw[zB,aj,zB,zB,aj]
 refine(zR4 g g' d λv=>v.isSome).imp λQ ⟨l,f⟩=>?_
 rw[aj]
 have o:∀q∈Q,rk (iw m m' n n') q=0:=λq k=>by
  obtain⟨a,b,c⟩:=(f q.1 q.2).mp k
  rw[Vx a b] at c
  cases e:qC m m' q.1 q.2 with
  |none=>rw[e] at c;cases c
  |some v =>
   rw[Hl (r:=v.1) (w:=v.2) (by rw[Vx a b,e])]
   exact(zY6 (T:=[]) e).1
 refine⟨⟨d,λp s=>?_,l,λx y a b=>?_,λx y a b r w h=>?_,λi j p q _ hi hj=>?_⟩,o⟩
 ·have:=(f p.1 p.2).mp s
  exact⟨this.1,this.2.1⟩
 ·rw[f x y]
  constructor
  ·rintro⟨_,_,c⟩ z
   rw[z] at c;cases c
  ·intro z
   refine⟨a,b,?_⟩
   cases e:tgt (iw m m' n n') x y with
   |none=>exact absurd e z
   |some v=>rfl
 ·rw[Vx a b] at h
  obtain⟨e,z⟩:=zY6 (T:=iw m m' n n') h
  exact⟨by lia,z⟩
 grind
end
section
variable{C:Addr}{m m':ao C}{n n':Int}{T:List (List jr)}{Q:List (Int×Int)}
theorem zWe(g:Gr m n)(g':Gr m' n'):W (vH m m') λc=>rY m' n n' [] c:=by
 have p1:=g.few;have p1':=g'.few;have p0:=g.pos;have p0':=g'.pos
 unfold vH
 have e:xG (λ(d:Int)=>some true) (λ(d:Int)=>(yQ m' d).bind λj=>some (j.length:Int)) (rng n')=some ((rng n').map λf=>((nxt m'.steps f).length:Int)):=by
  unfold xG
  rw[if_pos (yK (by rw[uD];lia)),Rn (p:=λ_=>true) (g:=λf=>((nxt m'.steps f).length:Int)) (λ_ _=>rfl) (λx a=>?_),filter_eq_self.mpr λ_ _=>rfl]
  have:=cg.mp a
  rw[w_next g' this.1 this.2]
  show some ((Jp (nxt m'.steps x)).length:Int)=_
  rw[(uH _).length_eq]
 rw[Ag g',Ag g,zB,zB,aj,e,aj,zB,aj]
 unfold xq
 rw[if_pos (by rw[uD];lia),aj]
 refine⟨by show((replicate _ _).length:Int)=n;rw[List.length_replicate,uD];lia,λi r h=>?_,λx f a b=>?_⟩
 ·have:=List.eq_of_mem_replicate (mem_of_getElem? h)
  rw[this,length_map,uD];lia
 ·have:=a.1;have:=a.2;have:=b.1;have:=b.2
  unfold cnt
  rw[getD_eq_getElem?_getD,getElem?_replicate,if_pos (by rw[uD];lia)]
  show ng ((rng n').map _) f.toNat=_
  unfold ng
  rw[getD_eq_getElem?_getD,getElem?_map,Np (by lia)]
  show((nxt m'.steps ((f.toNat:Nat):Int)).length:Int)=_
  rw[show((f.toNat:Nat):Int)=f by lia]
  unfold Eu
  rw[filter_eq_self.mpr λt _=>by simp]
theorem Ry(a:rY m' n n' P c)(b:bF n x):∃r,c.xss[x.toNat]?=some r/\(r.length:Int)=n'/\∀f,bF n' f->ng r f.toNat=Eu m' P x f:=by
 have l:=a.len
 have e:=aam (show x.toNat<c.xss.length by grind)
 refine⟨_,e,a.row _ _ e,λf d=>?_⟩
 have:=a.at_ x f b d
 unfold cnt at this
 grind
theorem KQ(g':Gr m' n')(g:rY m' n n' P c)(p:bF n x)(o:(x,t)∉P){a:LI}(l:c.xss[x.toNat]?=some r)(h:∀f,bF n' f->ng r f.toNat=Eu m' P x f)(hl:(a.length:Int)=n')(h':∀f,bF n' f->ng a f.toNat=ng r f.toNat-if t∈nxt m'.steps f then 1 else 0):rY m' n n' (P++[(x,t)]) (J3 c x a):=by
 have xl:=yN l
 have x0:=p.1
 refine⟨by show((c.xss.set _ _).length:Int)=n;rw[length_set];exact g.len,λi q b=>?_,λd f j k=>?_⟩
 ·have b:(c.xss.set x.toNat a)[i]?=some q:=b
  by_cases e:x.toNat=i
  ·grind
  ·rw[abm,if_neg e] at b
   exact g.row i q b
 ·rw[zPh g' k o]
  unfold cnt
  show ng ((c.xss.set x.toNat a).getD d.toNat []) f.toNat=_
  rw[getD_eq_getElem?_getD,abm]
  by_cases q:d=x
  ·grind
  ·rw[if_neg (by grind),if_neg λw=>q w.1,Int.sub_zero,<-getD_eq_getElem?_getD]
   exact g.at_ d f j k
structure KR(m m':ao C)(n n':Int)(T:List (List jr)):Prop where
 Nq:Hi n n' T
 rs:∀x y,bF n x->bF n' y->∀r w,tgt T x y=some (r,w)->0<=r/\pA m m' T x y r w
 clo:∀x f,bF n x->bF n' f->(∀t∈nxt m'.steps f,tgt T x t≠none)->∀s,bF n s->x∈nxt m.steps s->tgt T s f≠none
 qC:∀x y,bF n x->bF n' y->qC m m' x y≠none->tgt T x y≠none
theorem zQj(g:Gr m n)(g':Gr m' n')(nd:(m.marks.map (·.1)).Nodup)(hm:m.marks.length<32)(nd':(m'.marks.map (·.1)).Nodup)(hm':m'.marks.length<32):W (MK m m') (KR m m' n n'):=by
 have Mx:=g.few;have Rv:=g'.few
 unfold MK
 rw[zV9 g g' nd hm nd' hm',zB,aj,zB]
 refine(zWe g g').imp λc0 cs0=>?_
 rw[zB]
 refine(zYl g g').imp ?_
 rintro Q0 ⟨bq0,r0⟩
 rw[zB,aj,zB]
 refine zVw (λs=>∃k:Nat,s.2.2.2=(k:Int)/\Kv m m' n n' s.1.xss s.2.1 s.2.2.1 k/\Ext n n' (iw m m' n n') s.1.xss) (λs=>3600-s.2.2.2.toNat) ⟨0,rfl,⟨bq0,aa5 _,cs0,λp hp q hq=>?_,λx f i o hh s hs A=>?_⟩,.refl⟩ (by show _<fuel;unfold fuel;lia) λs hI=>?_
 ·rw[r0 q hq,r0 p (mem_of_getElem? hp)];decide
 ·obtain⟨t,G⟩:=List.exists_mem_of_ne_nil _ (g'.row _ (mem_of_getElem? (Ak g' o.1 o.2).1)).1
  have:=hh t G
  cases this
 ·obtain⟨⟨T⟩,Q,c,pl⟩:=s
  obtain⟨k,ek,d,J⟩:=hI
  have ek:pl=(k:Int):=ek
  subst ek
  have d:Kv m m' n n' T Q c k:=d
  have J:Ext n n' (iw m m' n n') T:=J
  rw[aj]
  by_cases kl:k<Q.length
  ·rw[if_pos (decide_eq_true (by show(k:Int)<(Q.length:Int);lia))]
   have H:=aam kl
   generalize Q[k]=p at H
   obtain⟨x,t⟩:=p
   have pin:=d.bq.Rw (x,t) (mem_of_getElem? H)
   have i:bF n x:=pin.1
   have G:bF n' t:=pin.2
   have tne:=(d.bq.mem x t i G).mp (mem_of_getElem? H)
   have hv:∃v,tgt T x t=some v:=by
    cases e:tgt T x t with
    |none=>exact absurd e tne
    |some v=>exact⟨v,rfl⟩
   obtain⟨⟨r,w⟩,hv⟩:=hv
   have rkp:rk T (x,t)=r:=Hl (p:=(x,t)) hv
   have r0:=(d.bq.rs x t i G r w hv).1
   have tk:Q.take (k+1)=Q.take k++[(x,t)]:=by rw[take_add_one,H];rfl
   have pn:(x,t)∉Q.take k:=λz=>by
    obtain⟨j,hj⟩:=mem_iff_getElem?.mp z
    have jl:=yN hj
    rw[length_take] at jl
    rw[getElem?_take_of_lt (by lia)] at hj
    have:=(List.getElem?_inj (by lia) d.bq.nd).mp (hj.trans H.symm)
    lia
   have rkl:∀q∈Q.take (k+1),rk T q<=r:=λq hq=>by
    obtain⟨j,hj⟩:=mem_iff_getElem?.mp hq
    have jl:=yN hj
    rw[length_take] at jl
    rw[getElem?_take_of_lt (by lia)] at hj
    rw[<-rkp]
    exact d.bq.mono j k q (x,t) (by lia) hj H
   obtain⟨D,er,rl,rh⟩:=Ry d.cs i
   have a1:aJ Q (k:Int)=some (x,t):=by rw[nQ (by lia)];exact H
   show W (((aJ Q (k:Int)).bind _).bind _) _
   rw[a1,zB,zB,aj,aj,zB,zB,aj,aj,zB,zB,zB,zB]
   show W ((aJ T x).bind λa12=>aJ a12 t) _
   rw[Hj d.bq.Nq i G,aj,hv,aj,aj,aj,zB,zB]
   show W (eF c x λD=>yW D m' t) _
   unfold eF
   rw[if_pos i.1,er,zB,aj]
   refine(w_left g' G rl).imp ?_
   rintro lr ⟨l1,l2,l3⟩
   obtain⟨zs,F⟩:=lr
   have l2:∀f,bF n' f->ng F f.toNat=ng D f.toNat-if t∈nxt m'.steps f then 1 else 0:=l2
   have l3:∀f,f∈zs↔bF n' f/\t∈nxt m'.steps f/\ng D f.toNat=1:=l3
   have cs2:=KQ g' d.cs i pn er rh l1 l2
   rw[<-tk] at cs2
   have lz:∀f,bF n' f->t∈nxt m'.steps f->(ng D f.toNat=1↔∀b∈nxt m'.steps f,(x,b)∈Q.take (k+1)):=λf o hft=>by
    rw[<-zXw,tk,zPh g' o pn,if_pos ⟨rfl,hft⟩,rh f o]
    lia
   show W (yX _ zs (aN.mk T,Q,J3 c x F)) _
   refine(Es g g' d.bq i (l:=r+1) (λq hq=>by have:=d.top (x,t) H q hq;rw[rkp] at this;exact this) (by lia) (zs:=zs) (λf o=>?_)).imp λs2 hs2=>?_
   ·obtain⟨I,hf2,hf3⟩:=(l3 f).mp o
    refine⟨I,λb a=>?_⟩
    have mem:=(lz f I hf2).mp hf3 b a
    have hq:=mem_of_mem_take mem
    have ti:=(Ak g' I.1 I.2).2.1 b a
    have ne:=(d.bq.mem x b i ti).mp hq
    cases e:tgt T x b with
    |none=>exact absurd e ne
    |some v =>
     refine⟨v.1,v.2,rfl,?_⟩
     have:=rkl _ mem
     rw[Hl (p:=(x,b)) (r:=v.1) (w:=v.2) e] at this
     lia
   ·obtain⟨⟨T2⟩,Q2,c2⟩:=s2
    obtain⟨B,ec,hd⟩:=hs2
    have ec:c2=J3 c x F:=ec
    subst ec
    have B:Ep m m' n n' T Q (r+1) T2 Q2:=B
    obtain⟨E,eE⟩:=B.app
    have q2l:=yq B.bq.nd B.bq.Rw Mx Rv
    have tk2:Q2.take (k+1)=Q.take (k+1):=by rw[eE,List.take_append_of_le_length (by lia)]
    have l12:Q.length<=Q2.length:=by rw[eE,length_append];lia
    rw[zB,aj,aj]
    refine⟨⟨k+1,rfl,⟨B.bq,by show k+1<=Q2.length;lia,by show rY m' n n' (Q2.take (k+1)) _;rw[tk2];exact cs2,λp hp q hq=>?_,λx' f hx' o hh s hs A=>?_⟩,J.trans B.ext⟩,?_⟩
    ·have e2:Q2[k]?=some (x,t):=by rw[eE,getElem?_append_left kl];exact H
     have rk2:rk T2 (x,t)=r:=Hl (p:=(x,t)) (B.ext _ _ _ i G hv)
     have z1:=B.top q hq
     have z2:=B.bq.mono k (k+1) (x,t) p (by lia) e2 hp
     rw[rk2] at z2
     show rk T2 q<=rk T2 p+1
     lia
    ·have hh:∀b∈nxt m'.steps f,(x',b)∈Q.take (k+1):=λb a=>by rw[<-tk2];exact hh b a
     by_cases old:∀b∈nxt m'.steps f,(x',b)∈Q.take k
     ·exact Vw B.ext hs o (d.clo x' f hx' o old s hs A)
     ·have:∃b,b∈nxt m'.steps f/\(x',b)∉Q.take k:=abt λw=>old λb a=>abt λw'=>w ⟨b,a,w'⟩
      obtain⟨b,a,nt⟩:=this
      have:=hh b a
      rw[tk,mem_append,mem_singleton] at this
      have e:=this.elim (λz=>absurd z nt) id
      cases e
      exact hd f ((l3 f).mpr ⟨o,a,(lz f o a).mpr hh⟩) s hs A
    ·show 3600-((k:Int)+1).toNat<3600-(k:Int).toNat
     lia
  ·rw[if_neg (by intro z;have:(k:Int)<(Q.length:Int):=of_decide_eq_true z;lia),aj]
   have ekl:k=Q.length:=by have:=d.kl;lia
   subst ekl
   refine⟨d.bq.Nq,d.bq.rs,λx f i o hh s hs A=>d.clo x f i o (λt G=>?_) s hs A,λx y i hy h=>Vw J i hy (by rw[Vx i hy];exact h)⟩
   rw[take_length]
   exact(d.bq.mem x t i ((Ak g' o.1 o.2).2.1 t G)).mpr (hh t G)
theorem zQi(g:Gr m n)(g':Gr m' n')(d:(m.marks.map (·.1)).Nodup)(j:m.marks.length<32)(a:(m'.marks.map (·.1)).Nodup)(b:m'.marks.length<32):∃T Q,MK m m'=some T/\KR m m' n n' T/\MN m m'=some Q/\∀x y,(x,y)∈Q↔bF n x/\bF n' y/\tgt T x y=none:=by
 obtain⟨T,e,c⟩:=zQj g g' d j a b
 have z:W (MN m m') λQ=>∀x y,(x,y)∈Q↔bF n x/\bF n' y/\tgt T x y=none:=by
  unfold MN
  rw[e,zB,aj,zB,zB,zB,aj,aj]
  refine(zR4 g g' c.Nq λv=>v.isNone).imp λQ ⟨_,f⟩=>?_
  rw[aj]
  intro x y
  rw[f x y,Option.isNone_iff_eq_none]
 obtain⟨Q,i,h⟩:=z
 exact⟨T,Q,e,c,i,h⟩
end
section
variable{n:Int}{maps:LI}{bases:Int}
theorem zOl(h:iu n maps bases)(q:iD):W (uE q maps bases) λR=>(R.xss.length:Int)=n/\∀xs∈R.xss,xs≠[]/\Un n xs:=by
 have Q:=h.len
 have hn:=h.few
 have hp:=h.pos
 have H:=h.bn
 have hb1:=h.b1
 unfold uE
 rw[zB]
 refine(uI q (by decide)).imp λkept _=>?_
 rw[zB,aj,zB,zB,uT]
 refine⟨⟨by lia,by omega⟩,?_⟩
 have e:=zR3 (f:=λb:Int=>(aX (maps.length:Int)).bind λxs=>xG (λ(F:Int)=>(aJ maps F).bind λK=>some (decide (K=b))) (λ(F:Int)=>some F) xs) (k:=ni maps n) (xs:=rng bases) (λb _=>Rq h b) (by rw[uD];lia)
 rw[e,aj,zB,aj,zB,zB,Q,uT]
 refine⟨⟨by lia,by omega⟩,?_⟩
 refine xZ (λi s=>s.xss.length=i/\∀xs∈s.xss,xs≠[]/\Un n xs) ⟨rfl,λx d=>(by cases d)⟩ (λi x s P C=>?_) λs C=>?_
 ·obtain⟨rfl,il⟩:=Gn P
  obtain⟨D,j⟩:=C
  rw[zB,zB,zB,zB,zB,nQ (by lia),ab4,Rk (by lia),aj,aj,aj,aj]
  refine(Hh _ _).imp λrest _=>?_
  rw[zB]
  refine(Vu rest (by lia) (by lia)).imp λa U=>?_
  have A:W (if(decide ((a.length:Int)=(0:Int)))=true then((aO rest bases).bind λy=>some (y::([]))).bind λc=>some c else some a) λs=>Un bases s/\s≠[]:=by
   rw[uV]
   refine⟨λ_=>?_,λz=>?_⟩
   ·rw[zB,zB,wY]
    refine⟨by lia,?_⟩
    rw[aj,aj]
    refine⟨⟨by simp,λx d=>?_⟩,by simp⟩
    rw[mem_singleton.mp d]
    exact⟨abb _ (by lia),aa4 _ (by lia)⟩
   ·rw[aj]
    refine⟨U,λe=>z (by rw[e];rfl)⟩
  rw[zB]
  refine A.imp λs20 ⟨u,L⟩=>?_
  rw[zB,aj,zB,zB,aj]
  refine(Ru h q (by lia) u L).imp λl ⟨S,O⟩=>?_
  rw[zB]
  unfold Ut
  rw[if_pos (yK (by lia)),aj,aj]
  refine⟨by show(s.xss++[l]).length=_;rw[length_append,D];rfl,λxs d=>?_⟩
  rcases mem_append.mp (show xs∈s.xss++[l] from d) with z|z
  ·exact j xs z
  ·rw[mem_singleton.mp z];exact⟨S,O⟩
 ·obtain⟨D,j⟩:=C
  rw[uD] at D
  rw[zB,zB,zB]
  refine(uI q (by decide)).imp λc3 _=>?_
  rw[aj]
  refine(Hh _ _).imp λrest _=>?_
  have I:=abb (rest/3/64) (show n≠0 by lia)
  have k1:=aa4 (rest/3/64) (show 0<n by lia)
  have N:=abb (rest/3) (show n≠0 by lia)
  have M:=aa4 (rest/3) (show 0<n by lia)
  have J:(rest/3/64%n).toNat<s.xss.length:=by lia
  have o:=aam J
  have rk:=j _ (getElem_mem J)
  generalize s.xss[(rest/3/64%n).toNat]=r at o rk
  have g:W (((aO rest (3:Int)).bind λt=>some (decide (t=(0:Int)))).bind λm=>if m=true then((aZ rest (3:Int)).bind λv=>aO v n).bind λG=>((((aZ rest (3:Int)).bind λp=>aZ p (64:Int)).bind λw=>aO w n).bind λB=>aJ s.xss B).bind λE=>some (!decide (G∈E)) else some false) λb=>b=true->rest/3%n∉r:=by
   rw[zB,zB,wY]
   refine⟨by decide,?_⟩
   rw[aj,uV]
   refine⟨λ_=>?_,λ_=>aj.mpr λz=>(by cases z)⟩
   rw[zB,zB,uW]
   refine⟨⟨by decide,by decide⟩,?_⟩
   rw[wY]
   refine⟨by lia,?_⟩
   rw[zB,zB,zB,zB,uW]
   refine⟨⟨by decide,by decide⟩,?_⟩
   rw[uW]
   refine⟨⟨by decide,by decide⟩,?_⟩
   rw[wY]
   refine⟨by lia,?_⟩
   rw[nQ I,o,aj,aj]
   intro z
   simpa using z
  rw[zB,zB]
  refine g.imp λb H=>?_
  rw[uV]
  refine⟨λe=>?_,λ_=>by rw[aj,aj];exact⟨by show(s.xss.length:Int)=n;lia,j⟩⟩
  have T:=H e
  rw[zB,zB,zB,zB,uW]
  refine⟨⟨by decide,by decide⟩,?_⟩
  rw[uW]
  refine⟨⟨by decide,by decide⟩,?_⟩
  rw[wY]
  refine⟨by lia,?_⟩
  rw[zB,zB,uW]
  refine⟨⟨by decide,by decide⟩,?_⟩
  rw[wY]
  refine⟨by lia,?_⟩
  unfold Qo
  have rl:=KD rk.2 (by lia)
  rw[if_pos I,o]
  show W (if r.length<cap then _ else _) _
  rw[if_pos (yK (by lia)),aj,aj,aj]
  refine⟨by show((s.xss.set _ _).length:Int)=n;rw[length_set];lia,λxs d=>?_⟩
  rcases List.mem_or_eq_of_mem_set (show xs∈s.xss.set _ _ from d) with z|z
  ·exact j xs z
  ·rw[z]
   exact⟨by simp,Ro rk.2 N M T⟩
theorem Ew(h:iu n maps bases)(c:Int)(k0:0<=k)(k1:k<=100):W (QW c k maps bases) (Un n):=by
 have D:=h.len
 have hn:=h.few
 have hp:=h.pos
 have hb:=h.bn
 have hb1:=h.b1
 unfold QW
 rw[zB,zB,zB,zB]
 refine(Hh _ _).imp λz _=>?_
 rw[uW]
 refine⟨⟨by lia,by omega⟩,?_⟩
 rw[aj]
 refine(Vu _ (by show(0:Int)<=bases;lia) (by show bases<=60;lia)).imp λa hg=>?_
 have J:((aX (maps.length:Int)).bind λF=>xG (λ(q:Int)=>(aJ maps q).bind λG=>some (decide (G∈a))) (λ(q:Int)=>some q) F)=some ((rng n).filter λx=>decide (ng maps x.toNat∈a)):=by
  apply eV
  rw[zB,uT,D]
  refine⟨⟨by lia,by omega⟩,?_⟩
  unfold xG
  rw[if_pos (yK (by rw[uD];lia)),Rn (p:=λx=>decide (ng maps x.toNat∈a)) (g:=λx=>x) (λx v=>?_) (λ_ _=>rfl),aj,map_id']
  obtain⟨H,x1⟩:=cg.mp v
  rw[nQ H,Rk (by lia)];rfl
 have A:aG n ((rng n).filter λx=>decide (ng maps x.toNat∈a)):=zLe _ (zW5 n)
 rw[zB,J,aj]
 generalize((rng n).filter λx=>decide (ng maps x.toNat∈a))=e at A
 have s:Un n e:=⟨A.nodup,A.2⟩
 have r:W ((((aZ c (7:Int)).bind λI=>aO I (2:Int)).bind λE=>some (decide (E=(1:Int)))).bind λb=>if b=true then(some e.reverse).bind λf=>some f else some e) (Un n):=by
  rw[zB,zB,zB,uW]
  refine⟨⟨by decide,by decide⟩,?_⟩
  rw[wY]
  refine⟨by decide,?_⟩
  rw[aj,uV]
  refine⟨λ_=>?_,λ_=>aj.mpr s⟩
  rw[zB,aj,aj]
  exact⟨zLf s.1,λx v=>s.2 x (mem_reverse.mp v)⟩
 rw[zB]
 refine r.imp λj m=>?_
 have sl:=KD m (by lia)
 have l:W (((((aZ c (14:Int)).bind λo=>aO o (5:Int)).bind λB=>(aO k (9:Int)).bind λy=>some (decide (B=y))).bind λt=>if t=true then some (decide ((1:Int)<(maps.length:Int))) else some false).bind λb=>if b=true then((aZ c (70:Int)).bind λu=>aO u (maps.length:Int)).bind λd=>(if(!decide (d∈j))=true then(push j d).bind λi=>some i else some j).bind λw=>some w else some j) (Un n):=by
  rw[zB,zB,zB,zB,uW]
  refine⟨⟨by decide,by decide⟩,?_⟩
  rw[wY]
  refine⟨by decide,?_⟩
  rw[zB,wY]
  refine⟨by decide,?_⟩
  rw[aj]
  refine(show W (if decide (c/14%5=k%9)=true then some (decide ((1:Int)<(maps.length:Int))) else some false) (λ_=>True) by rw[uV];exact⟨λ_=>aj.mpr trivial,λ_=>aj.mpr trivial⟩).imp λb _=>?_
  rw[uV]
  refine⟨λ_=>?_,λ_=>aj.mpr m⟩
  rw[zB,zB,uW]
  refine⟨⟨by decide,by decide⟩,?_⟩
  rw[wY]
  refine⟨by lia,?_⟩
  rw[D,zB,uV]
  refine⟨λz=>?_,λ_=>by rw[aj,aj];exact m⟩
  rw[zB,pU]
  refine⟨yK (by lia),?_⟩
  rw[aj,aj]
  exact Ro m (abb _ (by lia)) (aa4 _ (by lia)) (by simpa using z)
 rw[zB]
 refine l.imp λs17 C=>?_
 rw[aj]
 exact C
end
structure rZ(e:Bool)(t:List Nat)(r n:Int)(ks:List Nat)(ms:List (Str×LI)):Prop where
 nm:ms.map (·.1)=ks.map λk:Nat=>cO (mJ e t r (k:Int))
 st:∀p∈ms,Un n p.2
section
variable{e:Bool}{t:List Nat}{r n:Int}{ks:List Nat}{ms:List (Str×LI)}
theorem rZ.len(h:rZ e t r n ks ms):ms.length=ks.length:=by have:=congrArg List.length h.nm;grind
theorem rZ.snoc(h:rZ e t r n ks ms)(k:Nat)(u:Un n s):rZ e t r n (ks++[k]) (ms++[(cO (mJ e t r (k:Int)),s)]):=⟨by rw[map_append,map_append,h.nm];rfl,λp a=>by
 rcases mem_append.mp a with z|z
 ·exact h.st p z
 grind⟩
theorem rZ.rev(h:rZ e t r n ks ms):rZ e t r n ks.reverse ms.reverse:=⟨by rw[List.map_reverse,List.map_reverse,h.nm],λp a=>h.st p (mem_reverse.mp a)⟩
theorem rZ.ok(h:rZ e t r n ks ms)(h0:0<=n)(j:n<=60)(f:t.length<=7)(l:qz t)(s:ks.Nodup)(d:∀k∈ks,k<26)(hl:ks.length<=6):wZ n ms/\ms.length<32:=by
 have ml:=h.len
 refine⟨⟨?_,by lia,λp c=>?_⟩,by omega⟩
 ·rw[h.nm,Nodup,pairwise_map]
  exact(Pairwise.imp_of_mem (λ{a b} m o q z=>q (KC (d a m) (d b o) (zUa z))) s)
 ·have g:p.1∈ms.map (·.1):=mem_map.mpr ⟨p,c,rfl⟩
  rw[h.nm] at g
  obtain⟨k,_,i⟩:=mem_map.mp g
  rw[<-i]
  have l8:=(zUb (e:=e) (r:=r) (k:=(k:Int)) f).2
  exact⟨zXo f l,by rw[zT9];lia,YF (h.st p c) h0 j⟩
end
theorem zOk(h:iu n b a)(q:iD)(u:yD q 5=some f)(nm:∀k:Int,0<=k->wC f k=some (cO (mJ e t r k))):W (uO q b a) λg=>∃k,k<=3/\rZ e t r n (aaz k) g:=by
 unfold uO
 obtain⟨d,l,_⟩:=uI q (k:=4) (by decide)
 have m0:=abb d (show(4:Int)≠0 by decide)
 have m1:=aa4 d (show(0:Int)<4 by decide)
 rw[l,u,zB,aj,zB,zB,zB,zB,aj,wY]
 refine⟨by decide,?_⟩
 rw[uT]
 refine⟨⟨by lia,by omega⟩,?_⟩
 refine xZ (λi s=>rZ e t r n (aaz i) s) ⟨rfl,λp j=>(by cases j)⟩ (λi x s o c=>?_) λg c=>?_
 ·obtain⟨rfl,il⟩:=Gn o
  have v:=c.len
  rw[length_range] at v
  rw[zB,zB,zB,zB,zB,aj,aj]
  show W (wC f (i:Int)) _
  rw[nm (i:Int) (by lia),aj,zB,zB,zB,aj,aj]
  refine(Ew h d (k:=(i:Int)) (by lia) (by lia)).imp λst m=>?_
  rw[aj,pU]
  refine⟨yK (by lia),?_⟩
  rw[aj,range_succ]
  exact c.snoc i m
 ·rw[uD] at c
  rw[aj]
  exact⟨_,by lia,c⟩
structure pB(n:Int)(T:List LI×List (Str×LI)):Prop where
 len:(T.1.length:Int)=n
 pos:1<=n
 few:n<=60
 row:∀xs∈T.1,xs≠[]/\yj n xs
 marks:wZ n T.2
 Ey:T.2.length<32
theorem w_or{w a b:Int}:(if decide (w=a)=true then some true else some (decide (w=b)))=some (decide (w=a\/w=b)):=by
 grind
theorem YJ{α:Type}{xs ys:List α}{Q:List α->Prop}(h:xs.length+ys.length<=1000)(q:Q (xs++ys)):W (m9 xs ys) Q:=by
 unfold m9
 rw[if_pos (aby (yK h)),aj]
 exact q
theorem Ez{α:Type}(xs:List α)(lo hi:Option Int):(lE xs lo hi).length<=xs.length:=by
 unfold lE
 rw[length_take,length_drop]
 omega
structure KY(n:Int)(maps:LI)(bases:Int):Prop where
 len:(maps.length:Int)=n
 at_:∀i:Nat,(i:Int)<n->0<=ng maps i/\ng maps i<bases
 self:∀i:Nat,(i:Int)<bases->ng maps i=i
theorem RB(q:iD)(h63:q.ns.length<=63):W (Nf q) λv=>(∃n,pB n v.1)/\∃n,pB n v.2:=by
 unfold Nf
 obtain⟨c5,e5,_⟩:=uI q (k:=5) (by decide)
 obtain⟨c26,e26,_⟩:=uI q (k:=26) (by decide)
 obtain⟨c27,e27,_⟩:=uI q (k:=27) (by decide)
 obtain⟨e,t,r,t7,tl,nm⟩:=zYt c5
 rw[zB]
 refine(KH q).imp ?_
 rintro v ⟨n,h,n20⟩
 obtain⟨S,c⟩:=v
 have h:iu n S c:=h
 have hn:=h.few
 have hp:=h.pos
 have hb:=h.bn
 have hb1:=h.b1
 rw[zB,zB,zB]
 refine(zOl h q).imp ?_
 rintro R ⟨sl,sm⟩
 rw[aj,zB]
 refine(zOk h q e5 nm).imp ?_
 rintro ms ⟨k,k3,hm⟩
 rw[aj,e26,e27,e5,zB,zB,zB,aj,aj]
 refine(Hh _ _).imp λrest _=>?_
 show W ((Ac c).bind _) _
 rw[YC (by lia) (by lia),zB,aj,zB,zB,zB,wY]
 refine⟨by decide,?_⟩
 have a0:=abb rest (show(4:Int)≠0 by decide)
 have a1:=aa4 rest (show(0:Int)<4 by decide)
 rw[uT]
 refine⟨⟨by lia,by omega⟩,?_⟩
 refine xZ (λi s=>KY (c+(i:Int)) s c) ⟨by rw[uD];lia,λj I=>?_,λj I=>?_⟩ (λi x s Y p=>?_) λX p=>?_
 ·unfold ng
  rw[getD_eq_getElem?_getD,Np (by lia)]
  show 0<=(j:Int)/\(j:Int)<c
  lia
 ·unfold ng
  rw[getD_eq_getElem?_getD,Np (by lia)];rfl
 ·obtain⟨rfl,il⟩:=Gn Y
  have sl:=p.len
  rw[zB,zB,zB,uW]
  refine⟨⟨by lia,by omega⟩,?_⟩
  rw[wY]
  refine⟨by lia,?_⟩
  have z0:=abb (rest/((4:Int)+i)) (show c≠0 by lia)
  have z1:=aa4 (rest/((4:Int)+i)) (show 0<c by lia)
  rw[pU]
  refine⟨yK (by lia),?_⟩
  rw[aj]
  refine⟨by rw[length_append,length_singleton];lia,λj I=>?_,λj I=>?_⟩
  ·rw[Vv]
   by_cases e:j<s.length
   ·rw[if_pos e];exact p.at_ j (by lia)
   ·rw[if_neg e,if_pos (by lia)];exact⟨z0,z1⟩
  ·rw[Vv,if_pos (by lia)];exact p.self j I
 ·rw[uD] at p
  have L:iu (c+((rest%4).toNat:Int)) X c:=⟨p.len,by lia,by lia,hb1,by lia,p.at_,p.self⟩
  generalize hn2:c+((rest%4).toNat:Int)=f at L
  have p2:=L.pos
  have f2:=L.few
  have l2:=L.len
  rw[zB,zB,zB,zB,zB,aj,aj]
  have N:=λ(lo Y:Option Int)=>Ez q.ns lo Y
  refine YJ (by have:=N none (some 3);rw[length_singleton];lia) ?_
  refine YJ (by rw[length_append,length_singleton];have:=N none (some 3);have:=N (some 4) (some 6);lia) ?_
  refine YJ (by rw[length_append,length_append,length_singleton];have:=N none (some 3);have:=N (some 4) (some 6);have:=N (some 28) none;lia) ?_
  rw[zB]
  refine(zOl L _).imp ?_
  rintro R2 ⟨sl2,sm2⟩
  rw[zB,zB,zB,zB,uW]
  refine⟨⟨by decide,by decide⟩,?_⟩
  rw[wY]
  refine⟨by decide,?_⟩
  have d0:=abb (rest/100) (show(4:Int)≠0 by decide)
  have d1:=aa4 (rest/100) (show(0:Int)<4 by decide)
  rw[uT]
  refine⟨⟨by lia,by omega⟩,?_⟩
  refine xZ (λ_ s=>(s.xss.length:Int)=f/\∀m∈s.xss,m≠[]/\Un f m) ⟨sl2,sm2⟩ (λi x s Y p=>?_) λs24 p=>?_
  ·obtain⟨rfl,il⟩:=Gn Y
   obtain⟨g⟩:=s
   obtain⟨M,F⟩:=p
   have M:(g.length:Int)=f:=M
   have F:∀m∈g,m≠[]/\Un f m:=F
   rw[zB,zB,zB,aj,aj]
   refine(Hh _ _).imp λd _=>?_
   have k0:=abb (d/64) (show f≠0 by lia)
   have k1:=aa4 (d/64) (show 0<f by lia)
   have b0:=abb d (show f≠0 by lia)
   have b1:=aa4 d (show 0<f by lia)
   have kl:(d/64%f).toNat<g.length:=by lia
   have U:=aam kl
   have rk:=F _ (getElem_mem kl)
   generalize g[(d/64%f).toNat]=rw0 at U rk
   have rl:=KD rk.2 (by lia)
   rw[l2,zB,zB,zB,wY]
   refine⟨by lia,?_⟩
   rw[zB,zB,zB,uW]
   refine⟨⟨by decide,by decide⟩,?_⟩
   rw[wY]
   refine⟨by lia,?_⟩
   show W (aJ g _) _
   rw[nQ k0,U,aj,aj,uV]
   refine⟨λz=>?_,λ_=>by rw[aj,aj];exact⟨M,F⟩⟩
   have z:d%f∉rw0:=by simpa using z
   rw[zB,zB,zB,uW]
   refine⟨⟨by decide,by decide⟩,?_⟩
   rw[wY]
   refine⟨by lia,?_⟩
   rw[zB,wY]
   refine⟨by lia,?_⟩
   unfold Qv
   rw[if_pos k0]
   show W ((g[(d/64%f).toNat]?).bind _) _
   rw[U,zB,aj,if_pos (yK (by lia)),aj,aj,aj]
   refine⟨by show((g.set _ _).length:Int)=f;rw[length_set];exact M,λm l=>?_⟩
   rcases List.mem_or_eq_of_mem_set (show m∈g.set _ _ from l) with y|y
   ·exact F m y
   ·rw[y]
    exact⟨by simp,Ro rk.2 b0 b1 z⟩
  ·obtain⟨M,F⟩:=p
   rw[zB]
   refine(zOk L q e5 nm).imp ?_
   rintro Q ⟨k',A,H⟩
   rw[zB,zB,zB,aj,aj]
   show W (wC c5 4) _
   rw[nm 4 (by decide),aj,zB,zB,uW]
   refine⟨⟨by decide,by decide⟩,?_⟩
   rw[wY]
   refine⟨by decide,?_⟩
   generalize rest/1000%6=o
   have m2l:=H.len
   rw[length_range] at m2l
   have ml:=hm.len
   rw[length_range] at ml
   have G:∀{j:Nat},j<=3->(aaz j++[4]).Nodup:=λ{j} I=>by
    rw[nodup_append]
    refine⟨nodup_range,by simp,λa ha b hb e=>?_⟩
    have:=mem_range.mp ha
    have:=mem_singleton.mp hb
    lia
   have K:∀{j:Nat},j<=3->∀x∈aaz j++[4],x<26:=λ{j} I x l=>by
    rcases mem_append.mp l with z|z
    ·have:=mem_range.mp z;lia
    ·have:=mem_singleton.mp z;lia
   have lt3:∀{j:Nat},j<=3->∀x∈aaz j,x<26:=λ{j} I x l=>by have:=mem_range.mp l;lia
   have Z:W (if(decide (o=(0:Int)))=true then(push Q ((cO (mJ e t r 4),([]:LI)))).bind λD=>(some D.reverse).bind λC=>some C else some Q) λE=>∃O,rZ e t r f O E/\O.Nodup/\(∀x∈O,x<26)/\O.length<=4/\(o≠0->O=aaz k'):=by
    rw[uV]
    refine⟨λz=>?_,λz=>?_⟩
    ·rw[zB,pU]
     refine⟨yK (by lia),?_⟩
     rw[zB,aj,aj]
     exact⟨_,(H.snoc 4 ⟨.nil,λx l=>(by cases l)⟩).rev,List.pairwise_reverse.mpr ((G A).imp λq e=>q e.symm),λx l=>K A x (mem_reverse.mp l),by rw[List.length_reverse,length_append,length_range,length_singleton];lia,λw=>absurd (of_decide_eq_true z) w⟩
    ·rw[aj]
     exact⟨_,H,nodup_range,lt3 A,by rw[length_range];lia,λ_=>rfl⟩
   rw[zB]
   refine Z.imp ?_
   rintro E ⟨O,mk,nd,lt,kl,kw⟩
   have key2:W ((if(decide (o=(1:Int)))=true then some true else some (decide (o=(2:Int)))).bind λb=>if b=true then(((((aZ rest (6000:Int)).bind λa55=>some ((a55,((X.length:Int),())))).bind λP=>wB P.1 P.2.1).bind λb56=>some (cO (mJ e t r 4),b56)).bind λa57=>push E a57).bind λB=>some B else some E) λJ=>wZ f J/\J.length<32:=by
    rw[w_or,zB,aj,uV]
    refine⟨λz=>?_,λz=>?_⟩
    ·have z:=of_decide_eq_true z
     have U:=kw (by lia)
     subst U
     have ml:=mk.len
     rw[length_range] at ml
     rw[zB,zB,zB,zB,zB,uW]
     refine⟨⟨by decide,by decide⟩,?_⟩
     rw[aj,l2]
     refine(Vu _ (by show 0<=f;lia) (by show f<=60;lia)).imp λs us=>?_
     rw[aj,pU]
     refine⟨yK (by lia),?_⟩
     rw[aj]
     exact(mk.snoc 4 us).ok (by lia) (by lia) t7 tl (G A) (K A) (by rw[length_append,length_range,length_singleton];lia)
    ·rw[aj]
     exact mk.ok (by lia) (by lia) t7 tl nd lt (by lia)
   rw[zB]
   refine key2.imp λJ ⟨m51,l51⟩=>?_
   have T:W ((if(decide (o=(2:Int)))=true then some true else some (decide (o=(3:Int)))).bind λb=>if b=true then(((((aZ rest (7000:Int)).bind λa62=>some ((a62,((((R.xss,ms).1).length:Int),())))).bind λz61=>wB z61.1 z61.2.1).bind λYo=>some (cO (mJ e t r 4),Yo)).bind λa64=>if ms.length<cap then some (iV.mk R.xss (ms++[a64])) else none).bind λQV=>some QV else some (iV.mk R.xss ms)) λu=>u.a=R.xss/\wZ n u.b/\u.b.length<32:=by
    rw[w_or,zB,aj,uV]
    refine⟨λz=>?_,λz=>?_⟩
    ·rw[zB,zB,zB,zB,zB,uW]
     refine⟨⟨by decide,by decide⟩,?_⟩
     rw[aj]
     show W (wB (rest/7000) (R.xss.length:Int)) _
     rw[sl]
     refine(Vu _ (by lia) (by lia)).imp λs us=>?_
     rw[aj,if_pos (yK (by lia)),aj,aj]
     exact⟨rfl,(hm.snoc 4 us).ok (by lia) (by lia) t7 tl (G k3) (K k3) (by rw[length_append,length_range,length_singleton];lia)⟩
    ·rw[aj]
     exact⟨rfl,hm.ok (by lia) (by lia) t7 tl nodup_range (lt3 k3) (by rw[length_range];lia)⟩
   rw[zB]
   refine T.imp λu ⟨ea,mb,lb⟩=>?_
   obtain⟨sa,sb⟩:=u
   have ea:sa=R.xss:=ea
   subst ea
   rw[aj]
   exact⟨⟨n,sl,hp,by lia,λm l=>⟨(sm m l).1,YF (sm m l).2 (by lia) (by lia)⟩,mb,lb⟩,f,M,p2,by lia,λm l=>⟨(F m l).1,YF (F m l).2 (by lia) (by lia)⟩,m51,l51⟩
end Ts
set_option maxHeartbeats 40000000
namespace Ts
open PySem L2 Sy
section
variable{P:Program}{w:World}{K:Frag}{mg:Str->Option Value}{jq:Heap}
seal L2.PE L2.PT L2.PW L2.PA L2.PS L2.jH L2.PC L2.PG L2.Av L2.PI L2.mZ L2.PO
def RD(C:Addr)(cl:Hd->Addr)(k:iD):Option Bool:=(Nf k).bind λj=>(QX C j.1 (([]:List LI))).bind λc=>(QX C j.2 (([]:List LI))).bind λa=>(((some j.1.2).bind λh=>xG (λp=>some true) (λp=>some p.1) h).bind λq=>((some ([3,4]:LI)).bind λh=>xG (λm=>some true) (λm=>((yD k 5).bind λr=>some ((r,(m,())))).bind λn=>wC n.1 n.2.1) h).bind λl=>m9 q l).bind λe=>(vK cl 5 k 39 e 3).bind λi=>(G4 c i.1).bind λf=>(G4 a i.1).bind λd=>((MN c a).bind λh=>jR (λs14 g=>(if(decide (g.1∈f))=true then some (!decide (g.2∈d)) else some false).bind λb=>if b=true then(some false).bind λb=>some (.rt b) else some (.nx ())) h ()).bind λo=>o.els λs15=>some true
theorem yt:aF ["_law_script","_law_one","_law_other","_law_first","_law_second","_law_names","_law_saying","_law_at","_law_here","_law_there","_law_stand","_law_answer"] ["_law_script"] (zS mG):=fsc
abbrev RG(K:Frag)(C:Addr)(cl:Hd->Addr):Sp:=tK K (RD C cl)
theorem KZ(F:cF K "law" "law" mG f J)(B:Bl K mg)(m:Ca P w K mg jq k uB (uA K))(d:Ca P w K mg jq k zH8 (zHy K C))(l:Ca P w K mg jq k Vg (Vh K))(h:jL P w K mg jq k "_law_saying_by" ["_law_script","_law_at","_law_names","_law_depth"] (zE2 K cl))(q:Ca P w K mg jq k zJb (zI5 K))(p:Ca P w K mg jq k zJd (zI7 K C))(r:Ca P w K mg jq k zV7 (zV3 K C cl)):aH P w K mg jq bN (k+1) f J ["_law_script"] (RG K C cl):=by
 refine Tz F yt (λ_=>rfl) (λ_=>rfl) λcdv A outer s H E v=>?_
 have t:=yt.nd
 refine⟨_,(zC (t_ (zU q v (zA (pv 0) zF)) (pW rfl (yA (aV 1 t) (yA (aV 2 t) wA)))) (zC (yI 3 t (zU d v (zA (pv 1) (zA (wU zF) zF)))) (zC (yI 4 t (zU d v (zA (pv 2) (zA (wU zF) zF)))) (zC (yI 5 t (zY SJ (wX (own:=["_law_name","_law_stands"]) (ix:=[]) rfl rfl rfl (yR K (yV (rH K) (pv 1) zI (λ_ _=>rfl))) (λC s H D=>IW (K:=K) (n:=2) rfl rfl (yA (yM (i:=0) (show(["_law_name","_law_stands"]:List Str).Nodup from by trivial) rfl (Or.inl rfl)) (yA (yM (i:=1) (show(["_law_name","_law_stands"]:List Str).Nodup from by trivial) rfl (Or.inl rfl)) wA))) (λC s H D=>vE) (λC s H D=>(pv 0))) (wX (own:=["_law_k"]) (ix:=[0]) rfl rfl rfl (zZx K (xX (zA zI (zA zI zF)))) (λC s H D=>yM (i:=0) (show(["_law_k","_law_script"]:List Str).Nodup from by trivial) rfl (Or.inl rfl)) (λC s H D=>vE) (λC s H D=>(zU l v (zA (zU m v (zA (pv 1) (zA zI zF))) (zA (pv 0) zF))))))) (zC (t_ (zU h v (zA (pv 0) (zA zI (zA (pv 5) (zA zI zF))))) (pW rfl (yA (aV 6 t) (yA (aV 7 t) wA)))) (zC (yI 8 t (zU r v (zA (pv 3) (zA (pv 6) zF)))) (zC (yI 9 t (zU r v (zA (pv 4) (zA (pv 6) zF)))) (zC (xB aas rfl (yR K (zU p v (zA (pv 3) (zA (pv 4) zF)))) (pW rfl (yA (aV 10 t) (yA (aV 11 t) wA))) (zC (xE (PW.pt (pw_and (yH (Pr K) (pv 10) (pv 8) (by with_unfolding_all rfl)) (pw_and1 (yH (Pu K) (pv 11) (pv 9) (by with_unfolding_all rfl))))) (zC (zT Fz) zH) zH) zH)) (zC (zT Fz) zH))))))))),?_⟩
 rintro Fa ⟨u,_⟩
 exact SB.of (zM (Mu (n:=true) (zK (zD (zE 0 rfl) zL)) (uC 1 2 rfl rfl (λ_=>rfl) rfl)) (λo=>(JZ [.z u,.y o.1,.y o.2,.un,.un,.un,.un,.un,.un,.un,.un,.un] (zM (yF true 3 rfl rfl (zK (zD (zE 1 rfl) (zD (nO (α:=LI)).ex zL)))) (λb=>(JZ [.z u,.y o.1,.y o.2,.y b,.un,.un,.un,.un,.un,.un,.un,.un] (zM (yF true 4 rfl rfl (zK (zD (zE 2 rfl) (zD (nO (α:=LI)).ex zL)))) (λa=>(JZ [.z u,.y o.1,.y o.2,.y b,.y a,.un,.un,.un,.un,.un,.un,.un] (zM (yF true 5 rfl rfl (Ug (xJ (n:=true) (gG:=[.un,.un]) (no:=2) (ix:=[]) rfl rfl (yT (zZ0 (yJ 1 rfl) (zJ 1))) (uC 0 1 rfl rfl (λ_=>rfl) rfl) (λG=>qd) (λG=>(esc (zG 0 rfl))) (λG=>cI)).ex (xJ (n:=true) (gG:=[.un,.z u]) (no:=1) (ix:=[0]) rfl rfl (DN ([3,4]:LI) (by decide)) (yG 0 rfl rfl) (λI=>qd) (λI=>(esc (zK (zD (esc (zK (zD (zE 1 rfl) (zD (esc (zJ 5)) zL)))) (zD (esc (zG 0 rfl)) zL))))) (λI=>cI)).ex).ex) (λc=>(JZ [.z u,.y o.1,.y o.2,.y b,.y a,.y c,.un,.un,.un,.un,.un,.un] (zM (Mu (n:=true) (zK (zD (zE 0 rfl) (zD (esc (zJ 39)) (zD (zE 5 rfl) (zD (esc (zJ 3)) zL))))) (uC 6 7 rfl rfl (λ_=>rfl) rfl)) (λj=>(JZ [.z u,.y o.1,.y o.2,.y b,.y a,.y c,.y j.1,.y j.2,.un,.un,.un,.un] (zM (yF true 8 rfl rfl (zK (zD (zE 3 rfl) (zD (zE 6 rfl) zL)))) (λe=>(JZ [.z u,.y o.1,.y o.2,.y b,.y a,.y c,.y j.1,.y j.2,.y e,.un,.un,.un] (zM (yF true 9 rfl rfl (zK (zD (zE 4 rfl) (zD (zE 6 rfl) zL)))) (λg=>(JZ [.z u,.y o.1,.y o.2,.y b,.y a,.y c,.y j.1,.y j.2,.y e,.y g,.un,.un] (WX (W3 (n:=true) (L:=(λx:Unit=>([.z u,.y o.1,.y o.2,.y b,.y a,.y c,.y j.1,.y j.2,.y e,.y g,.un,.un]:SL K))) () aK (yT (zK (zD (zE 3 rfl) (zD (zE 4 rfl) zL)))) (λx=>(uC 10 11 rfl rfl (λ_=>rfl) rfl)) (λx x16=>(W0 (OD (bw (Tf (zG 10 rfl) (zE 8 rfl))) (bw (Pb (zG 11 rfl) (zE 9 rfl)))) (yB (esc (Gf false))) (WY (λx:Unit=>([.z u,.y o.1,.y o.2,.y b,.y a,.y c,.y j.1,.y j.2,.y e,.y g,.un,.un]:SL K)) () aK)))) (λs15=>(yB (esc (Gf true)))))))))))))))))))))))))) (by simp only[RD,bnd])
end
section
variable{C:Addr}{cl:Hd->Addr}{m m':ao C}{n n':Int}{T T':List LI×List (Str×LI)}{F:List (List jr)}{Q:List (Int×Int)}
theorem zR6(h:pB n T){fs:List LI}(a:fs.length<=100)(fo:∀xs∈fs,yj n xs):W (QX C T fs) λm=>Gr m n/\m.steps=T.1/\m.marks=T.2/\m.fair=fs:=by
 have:=h.len
 have:=h.few
 unfold QX
 rw[zB,aj,zB,zB,aj,Cj (λx:Str×LI=>(x.1,x.2))]
 refine⟨yK (by have:=h.Ey;lia),?_⟩
 rw[map_id' _,zB,zB,aj,Cj (λx=>x)]
 refine⟨yK (by lia),?_⟩
 rw[map_id',zB,zB,aj,Cj (λx=>x)]
 refine⟨yK (by lia),?_⟩
 rw[map_id']
 exact Ra C h.len h.pos h.few h.row h.marks ⟨a,fo⟩
theorem zPg:z∈vQ m x↔∃p∈m.marks,p.1=z/\x∈p.2:=by
 unfold vQ
 constructor
 ·grind
 ·rintro⟨p,hp,e,h⟩
  grind
theorem zQ9(h:qC m m' x y=none)(z:Str):z∈vQ m x↔z∈vQ m' y:=by
 have hn:lH (aR (vQ m x)) (aR (vQ m' y))=[]:=by
  unfold qC at h
  grind
 have a:z∉lH (aR (vQ m x)) (aR (vQ m' y)):=by grind
 unfold lH at a
 rw[(aL _).mem_iff,X5,(aL _).mem_iff,(aL _).mem_iff] at a
 grind
theorem K1(g:Gr m n)(g':Gr m' n')(v:m.fair=[])(f:m'.fair=[])(p:wZ n m.marks)(u:wZ n' m'.marks)(h:KR m m' n n' F)(j:∀x y,(x,y)∈Q↔bF n x/\bF n' y/\tgt F x y=none):tL m m' n n' λx y=>(x,y)∈Q:=by
 refine⟨g,g',by rw[v];exact⟨by decide,λ_ h=>by cases h⟩,by rw[f];exact⟨by decide,λ_ h=>by cases h⟩,f,p,u,λs a r=>?_,λs a t r o=>?_,λx s a r=>?_⟩
 ·grind
 ·obtain⟨d,i,e⟩:=(j s a).mp r
  have l:=Vp g d.1 d.2 t o
  refine abt λA=>h.clo t a l i (λb k w=>A ⟨b,k,?_⟩) s d o e
  exact(j t b).mpr ⟨l,Vp g' i.1 i.2 b k,w⟩
 ·obtain⟨d,i,e⟩:=(j s a).mp r
  have z:=abt λq=>h.qC s a d i q e
  rw[<-zPg,<-zPg]
  exact zQ9 z x
theorem K3(q:Int){a:List Str}(h0:0<a.length):W (QZ cl q a) λv=>v.t.depth<=1/\Pos v.t:=by
 have pick:∀Q:Str->Prop,(∀w,Q w)->W (((aZ q (6:Int)).bind λe=>aO e (a.length:Int)).bind λb=>aJ a b) Q:=λQ d=>by
  rw[zB,zB,uW]
  refine⟨⟨by decide,by decide⟩,?_⟩
  rw[wY]
  refine⟨by lia,?_⟩
  have c:=abb (q/6) (show(a.length:Int)≠0 by lia)
  have z1:=aa4 (q/6) (show 0<(a.length:Int) by lia)
  rw[bW c]
  exact⟨_,aam (by lia),d _⟩
 unfold QZ
 rw[zB,zB,wY]
 refine⟨by decide,?_⟩
 rw[aj,uV]
 refine⟨λ_=>by rw[aj];exact⟨aa5 _,.all⟩,λ_=>?_⟩
 rw[zB,zB,wY]
 refine⟨by decide,?_⟩
 rw[aj,uV]
 refine⟨λ_=>?_,λ_=>?_⟩
 ·rw[zB]
  exact pick _ λw=>by rw[aj];exact⟨aa5 _,.mark w⟩
 ·rw[zB,zB]
  exact pick _ λw=>by rw[aj,aj];exact⟨aao _,.no w⟩
theorem YK(f:iD){b:List Str}(p:0<b.length):∀(k d:Nat)(a:Int),d<k->0<=a->W (vK cl k f a b (d:Int)) λv=>(v.1.t.depth<=d+1/\Pos v.1.t)/\0<=v.2
 |0,_,_,h,_=>absurd h (adh _)
 |k+1,d,a,h,s=>by
  show W (uK cl (vK cl k) f a b (d:Int)) _
  unfold uK
  rw[zB,zB,zB]
  refine(uI f s).imp λc _=>?_
  rw[aj]
  refine(Hh c a).imp λr _=>?_
  rw[zB,wY]
  refine⟨by decide,?_⟩
  rw[zB,uW]
  refine⟨⟨by decide,by decide⟩,?_⟩
  have g:W ((QZ cl (r/7) b).bind λw=>some ((w,a+(1:Int)))) λv=>(v.1.t.depth<=d+1/\Pos v.1.t)/\0<=v.2:=by
   rw[zB]
   refine(K3 (cl:=cl) (r/7) p).imp λv q=>?_
   rw[aj]
   exact⟨⟨by show v.t.depth<=d+1;lia,q.2⟩,by show 0<=a+1;omega⟩
  rw[zB,uV]
  refine⟨λ_=>by rw[aj,if_pos rfl];exact g,λhd=>?_⟩
  have hd:d≠0:=λe=>hd (decide_eq_true (by lia))
  rw[aj,uV]
  refine⟨λ_=>g,λ_=>?_⟩
  rw[show(d:Int)-1=((d-1:Nat):Int) by lia,zB]
  refine(YK f p k (d-1) (a+1) (by lia) (by lia)).imp λv ⟨⟨v1,i⟩,j⟩=>?_
  rw[uV]
  refine⟨λ_=>by rw[aj];exact⟨⟨by show v.1.t.depth+1<=d+1;lia,.next i⟩,j⟩,λ_=>?_⟩
  rw[uV]
  refine⟨λ_=>by rw[aj];exact⟨⟨by show v.1.t.depth+1<=d+1;lia,.always i⟩,j⟩,λ_=>?_⟩
  rw[uV]
  refine⟨λ_=>by rw[aj];exact⟨⟨by show v.1.t.depth+1<=d+1;lia,.ever i⟩,j⟩,λ_=>?_⟩
  rw[zB]
  refine(YK f p k (d-1) v.2 (by lia) j).imp λu ⟨⟨u1,o⟩,l⟩=>?_
  rw[uV]
  refine⟨λ_=>by rw[aj];exact⟨⟨by show max v.1.t.depth u.1.t.depth+1<=d+1;lia,.both i o⟩,l⟩,λ_=>?_⟩
  rw[uV]
  refine⟨λ_=>by rw[aj];exact⟨⟨by show max v.1.t.depth u.1.t.depth+1<=d+1;lia,.either i o⟩,l⟩,λ_=>?_⟩
  rw[aj]
  exact⟨⟨by show max v.1.t.depth u.1.t.depth+1<=d+1;lia,.Rj i o⟩,l⟩
theorem K4(R:Nf b=some (T,T'))(h:pB n T)(h':pB n' T'):W (RD C cl b) (· = true):=by
 unfold RD
 rw[R,zB,aj,zB]
 refine(zR6 (C:=C) h (fs:=[]) (by decide) (λJ c=>(by cases c))).imp λm ⟨g,e1,u,N⟩=>?_
 rw[zB]
 refine(zR6 (C:=C) h' (fs:=[]) (by decide) (λJ c=>(by cases c))).imp λm' ⟨d,e1',f,j⟩=>?_
 have o:wZ n m.marks:=by rw[u];exact h.marks
 have l:wZ n' m'.marks:=by rw[f];exact h'.marks
 have mf:=h.Ey
 obtain⟨F,Q,ef,A,L,S⟩:=zQi g d o.1 (by rw[u];exact h.Ey) l.1 (by rw[f];exact h'.Ey)
 have a:=K1 g d N j o l A S
 obtain⟨H,K,_⟩:=uI b (k:=5) (by decide)
 obtain⟨e,t,r,_,_,M⟩:=zYt H
 have I:xG (λ(_:Int)=>some true) (λ(B:Int)=>((yD b (5:Int)).bind λU=>some ((U,(B,())))).bind λw=>wC w.1 w.2.1) ([3,4]:LI)=some [cO (mJ e t r 3),cO (mJ e t r 4)]:=by
  unfold xG
  rw[if_pos (yK (by decide)),Yz (g:=λk=>cO (mJ e t r k)) (λ_ _=>rfl) (λx c=>by
   rw[K]
   refine M x ?_
   simp only[mem_cons,List.not_mem_nil,or_false] at c
   lia)]
  rfl
 rw[zB,zB,zB,aj,Cj]
 refine⟨yK (by show T.2.length<=1000;lia),?_⟩
 rw[zB,zB,aj,I,aj]
 unfold m9
 rw[if_pos (aby (yK (by rw[length_map];show T.2.length+2<=_;lia))),aj,zB]
 refine(YK (cl:=cl) b (by rw[length_append];show 0<_+2;lia) 5 3 39 (by decide) (by decide)).imp ?_
 rintro v ⟨⟨hd,E⟩,_⟩
 have y:=(Nh g a.hf (Ah n)).2
 have q:=(Nh d a.hF (Ah n')).2
 have P:G4 m v.1=some (vv m n (co m (rng n)) v.1.t):=zYu g a.hf o y (Hg g a.hf) (aaw hd (by decide))
 have D:G4 m' v.1=some (vv m' n' (co m' (rng n')) v.1.t):=zYu d a.hF l q (Hg d a.hF) (aaw hd (by decide))
 have p:=Kw a (zZ7 a (Yy a) (Ah n) (Ah n')) y q E
 rw[zB,P,aj,zB,D,aj,zB,zB,L,aj]
 refine Ci (λ_ _=>True) trivial (λi x s O _=>?_) λs _=>by rw[v9,aj]
 have G:=p x.1 x.2 (mem_of_getElem? O)
 rw[zB,uV]
 refine⟨λz=>?_,λ_=>?_⟩
 ·rw[aj,if_neg (by simp[G (of_decide_eq_true z)]),aj]
  exact⟨_,rfl,trivial⟩
 ·rw[aj,if_neg (by decide),aj]
  exact⟨_,rfl,trivial⟩
end
theorem zXx(C:Addr)(cl:Hd->Addr)(a:iD)(b:a.ns.length<=63):W (RD C cl a) (· = true):=by
 obtain⟨⟨T,T'⟩,e,⟨n,h⟩,n',c⟩:=RB a b
 exact K4 e h c
end Ts
namespace Sy
open PySem L2
abbrev YL:Stmt:=Ts.g_
abbrev YM:Stmt:=Ts.iQ
abbrev YQ:Stmt:=Ts.iR
abbrev K5:Stmt:=Ts.j9
abbrev yu:Stmt:=Ts.jD
abbrev K6:Stmt:=Ts.j_
abbrev YS:Stmt:=Ts.fL
abbrev YT:Stmt:=Ts.fP
abbrev YW:Stmt:=Ts.dM
abbrev YX:Stmt:=Ts.dN
abbrev YZ:Stmt:=Ts.fV
abbrev yw:Stmt:=Ts.jE
abbrev Y0:Stmt:=Ts.h_
abbrev Y4:Stmt:=Ts.fQ
abbrev Y5:Stmt:=Ts.fU
section
variable{P:Program}{w:World}{K:Frag}{mg:Str->Option Value}{jq:Heap}
theorem zWz:aF ["self","word","parts"] ["self","word","parts"] (zS YL):=⟨rfl,rfl,rfl,by trivial,rfl,by trivial,by trivial⟩
theorem zT4(F:cF K "__init__" "Saying.__init__" YL f d):aH P w K mg jq bN 1 f d ["self","word","parts"] (spS K):=by
 refine F.ok zWz (λc H Q E h=>?_) (λcdv A outer s H c Q E hr h=>?_)
 ·obtain⟨p,C,a,x,y,rfl,_⟩:=h
  rfl
 obtain⟨p,C,a,x,y,rfl,b,T,q⟩:=h
 refine⟨_,zC (zq (pv 0) (pv 1) rfl) (wN (zq (pv 0) (pv 2) rfl)),?_⟩
 refine⟨_,rfl,_,rfl,p,C,a,[],rfl,b,T.cl,T.nW,(by grind),_,rfl,_,rfl,p,C,a,_,rfl,zO,T.cl,T.nP,(by show 1<1000;decide),?_⟩
 exact q _ ((Kp.put p H _).trans (Kp.put p _ _)) zO
theorem EY:aF ["self","word","part"] ["self","word","part"] (zS YM):=⟨rfl,rfl,rfl,by trivial,rfl,by trivial,by trivial⟩
theorem zXl(F:cF K "__init__" "OfOne.__init__" YM f u)(l:mg "Saying" = some (.ref D))(r:oO K D "__init__" g)(G:aH P w K mg jq bN 1 g j ["self","word","parts"] (spS K))(m:Binds K j ["self","word","parts"] []) :
  aH P w K mg jq bN 2 f u ["self","word","part"] (qg K):=by
 refine F.ok EY (λo H Q E h=>?_) (λcdv A outer s H o Q E n h=>?_)
 ·obtain⟨p,C,c,x,v,rfl,_⟩:=h
  rfl
 obtain⟨p,C,c,x,v,rfl,d,T,q⟩:=h
 refine⟨_,zC (yC (qT rfl l r G n m .nil uU (zA (pv 0) (zA (pv 1) (zA (xX (zA (pv 2) zF)) zF))))) (wN (zq (pv 0) (pv 2) rfl)),?_⟩
 refine⟨_,rfl,_,rfl,_,rfl,(by show 1<=sizeLine;decide),λt a=>?_⟩
 have b:=au a (.tup [v]) _ _ d
 refine⟨p,C,c,_,_,rfl,b,T,λH' i k=>?_⟩
 have e:t≠p:=(zV d a).symm
 refine⟨_,rfl,_,rfl,p,C,c,_,rfl,k,T.cl,T.n1,aaw (Ui x t) (by decide),?_⟩
 exact q t _ (((Kp.of (au a _)).trans i).trans (Kp.put p _ _)) a (by rw[zR e];exact i _ _ e zO) zO
theorem E_:aF ["self","word","left","right"] ["self","word","left","right"] (zS YQ):=⟨rfl,rfl,rfl,by trivial,rfl,by trivial,by trivial⟩
theorem zXk(F:cF K "__init__" "OfTwo.__init__" YQ f y)(l:mg "Saying" = some (.ref D))(j:oO K D "__init__" g)(G:aH P w K mg jq bN 1 g r ["self","word","parts"] (spS K))(m:Binds K r ["self","word","parts"] []) :
  aH P w K mg jq bN 2 f y ["self","word","left","right"] (w6 K):=by
 refine F.ok E_ (λo H Q E h=>?_) (λcdv A outer s H o Q E n h=>?_)
 ·obtain⟨p,C,b,x,v,u,rfl,_⟩:=h
  rfl
 obtain⟨p,C,b,x,v,u,rfl,e,T,q⟩:=h
 refine⟨_,zC (yC (qT rfl l j G n m .nil uU (zA (pv 0) (zA (pv 1) (zA (xX (zA (pv 2) (zA (pv 3) zF))) zF))))) (zC (zq (pv 0) (pv 2) rfl) (wN (zq (pv 0) (pv 3) rfl))),?_⟩
 refine⟨_,rfl,_,rfl,_,rfl,_,rfl,(by show 2<=sizeLine;decide),λt a=>?_⟩
 have c:=au a (.tup [v,u]) _ _ e
 refine⟨p,C,b,_,_,rfl,c,T,λH' i k=>?_⟩
 have d:t≠p:=(zV e a).symm
 refine⟨_,rfl,_,rfl,p,C,b,_,rfl,k,T.cl,T.nL,aaw (Ui x t) (by decide),?_⟩
 refine⟨_,rfl,_,rfl,p,C,b,_,rfl,zO,T.cl,T.nR,aaw (aa0 (bK "left" v _) (acd (Ui x t))) (by decide),?_⟩
 exact q t _ ((((Kp.of (au a _)).trans i).trans (Kp.put p _ _)).trans (Kp.put p _ _)) a (by rw[zR d,zR d];exact i _ _ d zO) zO
theorem RJ:aF ["self"] ["self"] (zS K5):=⟨rfl,rfl,rfl,by grind,rfl,by trivial,by trivial⟩
theorem K7(F:cF K "__init__" "All.__init__" K5 f v)(T:d_ K C)(o:mg "Saying" = some (.ref D))(k:oO K D "__init__" g)(G:aH P w K mg jq bN 1 g m ["self","word","parts"] (spS K))(n:Binds K m ["self","word","parts"] []) :
  aH P w K mg jq bN 2 f v ["self"] (JV C):=by
 refine F.ok RJ (λr H Q E h=>?_) (λcdv A outer s H r Q E i h=>?_)
 ·obtain⟨p,e,rfl,_⟩:=h
  rfl
 obtain⟨p,e,rfl,c,q⟩:=h
 refine⟨_,wN (yC (qT rfl o k G i n .nil uU (zA (pv 0) (zA wT (zA (xX zF) zF))))),?_⟩
 refine⟨_,rfl,(by grind),λt a=>?_⟩
 have b:=au a (.tup []) _ _ c
 have u:t≠p:=(zV c a).symm
 exact⟨p,C,e,_,_,rfl,b,T,λj d l=>q t j ((Kp.of (au a _)).trans d) a (d _ _ u zO) l⟩
theorem K8:aF ["self","name"] ["self","name"] (zS yu):=⟨rfl,rfl,rfl,by trivial,rfl,by trivial,by trivial⟩
theorem Fb(F:cF K "__init__" "Mark.__init__" yu f u)(T:d_ K C)(l:mg "Saying" = some (.ref D))(r:oO K D "__init__" g)(G:aH P w K mg jq bN 1 g j ["self","word","parts"] (spS K))(m:Binds K j ["self","word","parts"] []) :
  aH P w K mg jq bN 2 f u ["self","name"] (JW C):=by
 refine F.ok K8 (λo H Q E h=>?_) (λcdv A outer s H o Q E n h=>?_)
 ·obtain⟨p,c,x,rfl,_⟩:=h
  rfl
 obtain⟨p,c,x,rfl,d,q⟩:=h
 refine⟨_,zC (yC (qT rfl l r G n m .nil uU (zA (pv 0) (zA (pv 1) (zA (xX zF) zF))))) (wN (zq (pv 0) (pv 1) rfl)),?_⟩
 refine⟨_,rfl,_,rfl,(by grind),λt a=>?_⟩
 have b:=au a (.tup []) _ _ d
 have e:t≠p:=(zV d a).symm
 refine⟨p,C,c,_,_,rfl,b,T,λH' i k=>?_⟩
 refine⟨_,rfl,_,rfl,p,C,c,_,rfl,k,T.cl,T.nN,aaw (Ui x t) (by decide),?_⟩
 exact q t _ (((Kp.of (au a _)).trans i).trans (Kp.put p _ _)) a (by rw[zR e];exact i _ _ e zO) zO
end
section
variable{P:Program}{w:World}{K:Frag}{mg:Str->Option Value}{jq:Heap}
theorem RK:aF ["self","part"] ["self","part"] (zS K6):=⟨rfl,rfl,rfl,by trivial,rfl,by trivial,by trivial⟩
theorem K9(F:cF K "__init__" "Not.__init__" K6 f v)(T:d_ K C)(d:mg "OfOne" = some (.ref D))(n:oO K D "__init__" g)(G:aH P w K mg jq bN 2 g k ["self","word","part"] (qg K))(r:Binds K k ["self","word","part"] []) :
  aH P w K mg jq bN 3 f v ["self","part"] (oR C "not"):=by
 refine F.ok RK (λu H Q E h=>?_) (λcdv A outer s H u Q E i h=>?_)
 ·obtain⟨p,a,c,rfl,_⟩:=h
  rfl
 obtain⟨p,a,c,rfl,b,q⟩:=h
 refine⟨_,wN (yC (qT rfl d n G i r .nil uU (zA (pv 0) (zA wT (zA (pv 1) zF))))),?_⟩
 exact⟨_,rfl,_,rfl,p,C,a,_,_,rfl,b,T,λe m l t o j=>q e m l t o j⟩
theorem zQw:aF ["self","part"] ["self","part"] (zS YS):=⟨rfl,rfl,rfl,by trivial,rfl,by trivial,by trivial⟩
theorem zNq(F:cF K "__init__" "SomeNext.__init__" YS f v)(T:d_ K C)(d:mg "OfOne" = some (.ref D))(n:oO K D "__init__" g)(G:aH P w K mg jq bN 2 g k ["self","word","part"] (qg K))(r:Binds K k ["self","word","part"] []) :
  aH P w K mg jq bN 3 f v ["self","part"] (oR C "somenext"):=by
 refine F.ok zQw (λu H Q E h=>?_) (λcdv A outer s H u Q E i h=>?_)
 ·obtain⟨p,a,c,rfl,_⟩:=h
  rfl
 obtain⟨p,a,c,rfl,b,q⟩:=h
 refine⟨_,wN (yC (qT rfl d n G i r .nil uU (zA (pv 0) (zA wT (zA (pv 1) zF))))),?_⟩
 exact⟨_,rfl,_,rfl,p,C,a,_,_,rfl,b,T,λe m l t o j=>q e m l t o j⟩
theorem zQz:aF ["self","part"] ["self","part"] (zS YT):=⟨rfl,rfl,rfl,by trivial,rfl,by trivial,by trivial⟩
theorem zNt(F:cF K "__init__" "EachNext.__init__" YT f v)(T:d_ K C)(d:mg "OfOne" = some (.ref D))(n:oO K D "__init__" g)(G:aH P w K mg jq bN 2 g k ["self","word","part"] (qg K))(r:Binds K k ["self","word","part"] []) :
  aH P w K mg jq bN 3 f v ["self","part"] (oR C "eachnext"):=by
 refine F.ok zQz (λu H Q E h=>?_) (λcdv A outer s H u Q E i h=>?_)
 ·obtain⟨p,a,c,rfl,_⟩:=h
  rfl
 obtain⟨p,a,c,rfl,b,q⟩:=h
 refine⟨_,wN (yC (qT rfl d n G i r .nil uU (zA (pv 0) (zA wT (zA (pv 1) zF))))),?_⟩
 exact⟨_,rfl,_,rfl,p,C,a,_,_,rfl,b,T,λe m l t o j=>q e m l t o j⟩
theorem zK7:aF ["self","part"] ["self","part"] (zS YW):=⟨rfl,rfl,rfl,by trivial,rfl,by trivial,by trivial⟩
theorem zJ8(F:cF K "__init__" "SomeAlways.__init__" YW f v)(T:d_ K C)(d:mg "OfOne" = some (.ref D))(n:oO K D "__init__" g)(G:aH P w K mg jq bN 2 g k ["self","word","part"] (qg K))(r:Binds K k ["self","word","part"] []) :
  aH P w K mg jq bN 3 f v ["self","part"] (oR C "somealways"):=by
 refine F.ok zK7 (λu H Q E h=>?_) (λcdv A outer s H u Q E i h=>?_)
 ·obtain⟨p,a,c,rfl,_⟩:=h
  rfl
 obtain⟨p,a,c,rfl,b,q⟩:=h
 refine⟨_,wN (yC (qT rfl d n G i r .nil uU (zA (pv 0) (zA wT (zA (pv 1) zF))))),?_⟩
 exact⟨_,rfl,_,rfl,p,C,a,_,_,rfl,b,T,λe m l t o j=>q e m l t o j⟩
theorem zK8:aF ["self","part"] ["self","part"] (zS YX):=⟨rfl,rfl,rfl,by trivial,rfl,by trivial,by trivial⟩
theorem zJ9(F:cF K "__init__" "EachAlways.__init__" YX f v)(T:d_ K C)(d:mg "OfOne" = some (.ref D))(n:oO K D "__init__" g)(G:aH P w K mg jq bN 2 g k ["self","word","part"] (qg K))(r:Binds K k ["self","word","part"] []) :
  aH P w K mg jq bN 3 f v ["self","part"] (oR C "eachalways"):=by
 refine F.ok zK8 (λu H Q E h=>?_) (λcdv A outer s H u Q E i h=>?_)
 ·obtain⟨p,a,c,rfl,_⟩:=h
  rfl
 obtain⟨p,a,c,rfl,b,q⟩:=h
 refine⟨_,wN (yC (qT rfl d n G i r .nil uU (zA (pv 0) (zA wT (zA (pv 1) zF))))),?_⟩
 exact⟨_,rfl,_,rfl,p,C,a,_,_,rfl,b,T,λe m l t o j=>q e m l t o j⟩
theorem zQx:aF ["self","part"] ["self","part"] (zS YZ):=⟨rfl,rfl,rfl,by trivial,rfl,by trivial,by trivial⟩
theorem zNr(F:cF K "__init__" "SomeEver.__init__" YZ f v)(T:d_ K C)(d:mg "OfOne" = some (.ref D))(n:oO K D "__init__" g)(G:aH P w K mg jq bN 2 g k ["self","word","part"] (qg K))(r:Binds K k ["self","word","part"] []) :
  aH P w K mg jq bN 3 f v ["self","part"] (oR C "someever"):=by
 refine F.ok zQx (λu H Q E h=>?_) (λcdv A outer s H u Q E i h=>?_)
 ·obtain⟨p,a,c,rfl,_⟩:=h
  rfl
 obtain⟨p,a,c,rfl,b,q⟩:=h
 refine⟨_,wN (yC (qT rfl d n G i r .nil uU (zA (pv 0) (zA wT (zA (pv 1) zF))))),?_⟩
 exact⟨_,rfl,_,rfl,p,C,a,_,_,rfl,b,T,λe m l t o j=>q e m l t o j⟩
theorem K_:aF ["self","left","right"] ["self","left","right"] (zS yw):=⟨rfl,rfl,rfl,by trivial,rfl,by trivial,by trivial⟩
theorem Fd(F:cF K "__init__" "Both.__init__" yw f x)(T:d_ K C)(e:mg "OfTwo" = some (.ref D))(o:oO K D "__init__" g)(G:aH P w K mg jq bN 2 g l ["self","word","left","right"] (w6 K))(t:Binds K l ["self","word","left","right"] []) :
  aH P w K mg jq bN 3 f x ["self","left","right"] (rQ C "both"):=by
 refine F.ok K_ (λv H Q E h=>?_) (λcdv A outer s H v Q E j h=>?_)
 ·obtain⟨p,a,c,d,rfl,_⟩:=h
  rfl
 obtain⟨p,a,c,d,rfl,b,q⟩:=h
 refine⟨_,wN (yC (qT rfl e o G j t .nil uU (zA (pv 0) (zA wT (zA (pv 1) (zA (pv 2) zF)))))),?_⟩
 exact⟨_,rfl,_,rfl,_,rfl,p,C,a,_,_,_,rfl,b,T,λi n m u r k=>q i n m u r k⟩
theorem zW0:aF ["self","left","right"] ["self","left","right"] (zS Y0):=⟨rfl,rfl,rfl,by trivial,rfl,by trivial,by trivial⟩
theorem zT5(F:cF K "__init__" "Either.__init__" Y0 f x)(T:d_ K C)(e:mg "OfTwo" = some (.ref D))(o:oO K D "__init__" g)(G:aH P w K mg jq bN 2 g l ["self","word","left","right"] (w6 K))(t:Binds K l ["self","word","left","right"] []) :
  aH P w K mg jq bN 3 f x ["self","left","right"] (rQ C "either"):=by
 refine F.ok zW0 (λv H Q E h=>?_) (λcdv A outer s H v Q E j h=>?_)
 ·obtain⟨p,a,c,d,rfl,_⟩:=h
  rfl
 obtain⟨p,a,c,d,rfl,b,q⟩:=h
 refine⟨_,wN (yC (qT rfl e o G j t .nil uU (zA (pv 0) (zA wT (zA (pv 1) (zA (pv 2) zF)))))),?_⟩
 exact⟨_,rfl,_,rfl,_,rfl,p,C,a,_,_,_,rfl,b,T,λi n m u r k=>q i n m u r k⟩
theorem zQv:aF ["self","left","right"] ["self","left","right"] (zS Y4):=⟨rfl,rfl,rfl,by trivial,rfl,by trivial,by trivial⟩
theorem zNp(F:cF K "__init__" "SomeTill.__init__" Y4 f x)(T:d_ K C)(e:mg "OfTwo" = some (.ref D))(o:oO K D "__init__" g)(G:aH P w K mg jq bN 2 g l ["self","word","left","right"] (w6 K))(t:Binds K l ["self","word","left","right"] []) :
  aH P w K mg jq bN 3 f x ["self","left","right"] (rQ C "sometill"):=by
 refine F.ok zQv (λv H Q E h=>?_) (λcdv A outer s H v Q E j h=>?_)
 ·obtain⟨p,a,c,d,rfl,_⟩:=h
  rfl
 obtain⟨p,a,c,d,rfl,b,q⟩:=h
 refine⟨_,wN (yC (qT rfl e o G j t .nil uU (zA (pv 0) (zA wT (zA (pv 1) (zA (pv 2) zF)))))),?_⟩
 exact⟨_,rfl,_,rfl,_,rfl,p,C,a,_,_,_,rfl,b,T,λi n m u r k=>q i n m u r k⟩
theorem zQy:aF ["self","left","right"] ["self","left","right"] (zS Y5):=⟨rfl,rfl,rfl,by trivial,rfl,by trivial,by trivial⟩
theorem zNs(F:cF K "__init__" "EachTill.__init__" Y5 f x)(T:d_ K C)(e:mg "OfTwo" = some (.ref D))(o:oO K D "__init__" g)(G:aH P w K mg jq bN 2 g l ["self","word","left","right"] (w6 K))(t:Binds K l ["self","word","left","right"] []) :
  aH P w K mg jq bN 3 f x ["self","left","right"] (rQ C "eachtill"):=by
 refine F.ok zQy (λv H Q E h=>?_) (λcdv A outer s H v Q E j h=>?_)
 ·obtain⟨p,a,c,d,rfl,_⟩:=h
  rfl
 obtain⟨p,a,c,d,rfl,b,q⟩:=h
 refine⟨_,wN (yC (qT rfl e o G j t .nil uU (zA (pv 0) (zA wT (zA (pv 1) (zA (pv 2) zF)))))),?_⟩
 exact⟨_,rfl,_,rfl,_,rfl,p,C,a,_,_,_,rfl,b,T,λi n m u r k=>q i n m u r k⟩
end
section
variable{K:Frag}{C D:Addr}
theorem Fe(c:isClsIn K D=true)(b:typeIn K (.ref D)=some (.type "type"))(a:mroIn K C (.ref D)=some true):kitOne K (.ref C) (.ref D)=some true:=by
 unfold kitOne
 split
 ·rfl
 ·unfold PySem.W.kitCls PySem.W.subIn
  dsimp only
  rw[b,a,show(PySem.W.clsIn K D).isSome=true from c]
  rfl
theorem La(f:isClsIn K D=true)(d:typeIn K (.ref D)=some (.type "type"))(a:mroIn K C (.ref D)=some false)(b:mroIn K C (.ref C)=some true):kitOne K (.ref C) (.ref D)=some false:=by
 have c:C≠D:=λe=>by
  subst e
  rw[a] at b
  cases b
 unfold kitOne
 rw[if_neg (λe=>c (aed (ad5 e)))]
 unfold PySem.W.kitCls PySem.W.subIn
 dsimp only
 rw[d,a,show(PySem.W.clsIn K D).isSome=true from f]
 rfl
def Vy(K:Frag)(C:Addr):List Addr->Prop
 |[]=>True
 |D::r=>mroIn K C (.ref D)=some false/\Vy K C r
def yx(K:Frag):List Addr->List Addr->Prop
 |_,[]=>True
 |p,C::r=>mroIn K C (.ref C)=some true/\Vy K C p/\Vy K C r/\yx K (C::p) r
theorem zPf(h:Vy K C a)(m:D∈a):mroIn K C (.ref D)=some false:=by
 induction a with
 |nil=>cases m
 |cons E r ih =>
  cases m with
  |head=>exact h.1
  |tail _ m=>exact ih h.2 m
theorem RM:∀{p:List Addr},yx K p r->∀{i:Nat},r[i]?=some C->mroIn K C (.ref C)=some true/\(D∈p->mroIn K C (.ref D)=some false)/\∀{j:Nat},r[j]?=some D->j≠i->mroIn K C (.ref D)=some false:=by
 induction r with
 |nil=>intro p _ i e;cases e
 |cons E r ih =>
  intro p h i e
  cases i with
  |zero =>
   cases e
   refine⟨h.1,zPf h.2.1,λ{j} f n=>?_⟩
   cases j with
   |zero=>exact absurd rfl n
   |succ j=>exact zPf h.2.2.1 (mem_of_getElem? f)
  |succ i =>
   obtain⟨a,b,c⟩:=ih h.2.2.2 e
   refine⟨a,λm=>b (.tail _ m),λ{j} f n=>?_⟩
   cases j with
   |zero=>cases f;exact b (.head _)
   |succ j=>exact c f λq=>n (congrArg _ q)
end
def hix:Hd->Nat
 |.all=>0
 |.mark=>1
 |.one i=>i.val+2
 |.two i=>i.val+8
theorem Fg(h:Hd)(t:Tr):Ts.gA h t=decide (hix h=hix (hd t)):=by
 cases h<;>cases t
 case one.one i j _=>exact decide_eq_decide.2 ⟨λe=>by subst e;rfl,λe=>Fin.ext (by have e:i.val+2=j.val+2:=e;omega)⟩
 case two.two i j _ _=>exact decide_eq_decide.2 ⟨λe=>by subst e;rfl,λe=>Fin.ext (by have e:i.val+8=j.val+8:=e;omega)⟩
 all_goals first|rfl|(symm;apply decide_eq_false;intro e;simp only[hix,hd] at e;omega)
theorem Fi:∀i:Fin 6,i=0\/i=1\/i=2\/i=3\/i=4\/i=5:=by decide
theorem Fj:∀i:Fin 4,i=0\/i=1\/i=2\/i=3:=by decide
abbrev Y6(K:Frag)(C:Addr):Prop:=findIn K (.ref C) "__class__" = some (some (.builtin "object.__class__"))/\mroIn K C (.type "object")=some true/\isClsIn K C=true/\typeIn K (.ref C)=some (.type "type")
abbrev q_(K:Frag)(C:Addr)(x y:Str)(st:Stmt):Prop:=nsIn K aa9 x=some (some (.ref C))/\(∃f b,Mk K C f/\cF K "__init__" y st f b)/\Cls K C/\(findIn K (.ref C) "word" = some none/\findIn K (.ref C) "parts" = some none/\findIn K (.ref C) "part" = some none/\findIn K (.ref C) "left" = some none/\findIn K (.ref C) "right" = some none/\findIn K (.ref C) "name" = some none)/\Y6 K C
abbrev Vz(K:Frag)(C:Addr)(x y:Str)(st:Stmt):Prop:=nsIn K aa9 x=some (some (.ref C))/\∃f b,oO K C "__init__" f/\cF K "__init__" y st f b
def HdQ(K:Frag)(C f:Addr):Prop:=Mk K C f/\d_ K C/\Y6 K C
section
variable{K:Frag}{h:Heap}{mg:Str->Option Value}{C:Addr}{x y:Str}{st:Stmt}
theorem Lb(a:nsIn K aa9 x=some (some (.ref C)))(c:oO K C "__init__" f)(F:cF K "__init__" y st f b):Vz K C x y st:=⟨a,f,b,c,F⟩
theorem Ld(a:nsIn K aa9 x=some (some (.ref C)))(m:Mk K C f)(F:cF K "__init__" y st f b)(c:Cls K C)(n:(findIn K (.ref C) "word" = some none/\findIn K (.ref C) "parts" = some none/\findIn K (.ref C) "part" = some none/\findIn K (.ref C) "left" = some none/\findIn K (.ref C) "right" = some none/\findIn K (.ref C) "name" = some none)/\Y6 K C):q_ K C x y st:=⟨a,⟨f,b,m,F⟩,c,n⟩
theorem tM(X:K.In h)(G:h.Ns aa9 mg)(p:q_ K C x y st):mg x=some (.ref C)/\∃f b,cF K "__init__" y st f b/\HdQ K C f:=by
 obtain⟨a,⟨f,b,m,F⟩,c,⟨n1,n2,d,g,e,i⟩,r⟩:=p
 exact⟨mg_of X G a,f,b,F,m,⟨c,n1,n2,d,g,e,i⟩,r⟩
end
set_option maxHeartbeats 8000000 in
theorem Lf{l:PySem.W.OpenLaw}{K:Frag}(X:K.In h)(G:h.Ns aa9 mg)(bA:Vz K CA "Saying" "Saying.__init__" YL)(bB:Vz K CB "OfOne" "OfOne.__init__" YM)(bD:Vz K CD "OfTwo" "OfTwo.__init__" YQ)(h0:q_ K C0 "All" "All.__init__" K5)(h1:q_ K C1 "Mark" "Mark.__init__" yu)(h2:q_ K C2 "Not" "Not.__init__" K6)(h3:q_ K C3 "SomeNext" "SomeNext.__init__" YS)(h4:q_ K C4 "EachNext" "EachNext.__init__" YT)(h5:q_ K C5 "SomeAlways" "SomeAlways.__init__" YW)(h6:q_ K C6 "EachAlways" "EachAlways.__init__" YX)(h7:q_ K C7 "SomeEver" "SomeEver.__init__" YZ)(h8:q_ K C8 "Both" "Both.__init__" yw)(h9:q_ K C9 "Either" "Either.__init__" Y0)(h10:q_ K C10 "SomeTill" "SomeTill.__init__" Y4)(h11:q_ K C11 "EachTill" "EachTill.__init__" Y5)(m:yx K [] [C0,C1,C2,C3,C4,C5,C6,C7,C8,C9,C10,C11])(hn:specialIn K (.builtin "object.__class__") "__get__" = some (some (.builtin "getset_descriptor.__get__")))(ht:takesIn K (.builtin "object.__class__")=some true)
   :∃(cl fi:Hd->Addr)(di:Hd->FuncData),∀jq:Heap,Ts.lF l.prog w K mg jq 3 cl fi di:=by
 obtain⟨aA,fA,dA,cA,FA⟩:=bA
 have aA:=mg_of X G aA
 obtain⟨aB,fB,dB,cB,FB⟩:=bB
 have aB:=mg_of X G aB
 obtain⟨aD,fD,dD,cD,FD⟩:=bD
 have aD:=mg_of X G aD
 obtain⟨a0,f0,d0,F0,Q0⟩:=tM X G h0
 obtain⟨a1,f1,d1,F1,Q1⟩:=tM X G h1
 obtain⟨a2,f2,d2,F2,Q2⟩:=tM X G h2
 obtain⟨a3,f3,d3,F3,Q3⟩:=tM X G h3
 obtain⟨a4,f4,d4,F4,Q4⟩:=tM X G h4
 obtain⟨a5,f5,d5,F5,Q5⟩:=tM X G h5
 obtain⟨a6,f6,d6,F6,Q6⟩:=tM X G h6
 obtain⟨a7,f7,d7,F7,Q7⟩:=tM X G h7
 obtain⟨a8,f8,d8,F8,Q8⟩:=tM X G h8
 obtain⟨a9,f9,d9,F9,Q9⟩:=tM X G h9
 obtain⟨a10,f10,d10,F10,Q10⟩:=tM X G h10
 obtain⟨a11,f11,d11,F11,Q11⟩:=tM X G h11
 refine⟨λh=>([C0,C1,C2,C3,C4,C5,C6,C7,C8,C9,C10,C11]:List Addr).getD (hix h) 0,λh=>([f0,f1,f2,f3,f4,f5,f6,f7,f8,f9,f10,f11]:List Addr).getD (hix h) 0,λh=>([d0,d1,d2,d3,d4,d5,d6,d7,d8,d9,d10,d11]:List FuncData).getD (hix h) d0,λjq=>?_⟩
 have Z:∀h,HdQ K (([C0,C1,C2,C3,C4,C5,C6,C7,C8,C9,C10,C11]:List Addr).getD (hix h) 0) (([f0,f1,f2,f3,f4,f5,f6,f7,f8,f9,f10,f11]:List Addr).getD (hix h) 0)/\([C0,C1,C2,C3,C4,C5,C6,C7,C8,C9,C10,C11]:List Addr)[hix h]?=some (([C0,C1,C2,C3,C4,C5,C6,C7,C8,C9,C10,C11]:List Addr).getD (hix h) 0):=λh=>by
  rcases h with _|_|i|i
  ·exact⟨Q0,rfl⟩
  ·exact⟨Q1,rfl⟩
  ·rcases Fi i with rfl|rfl|rfl|rfl|rfl|rfl<;>exact⟨by assumption,rfl⟩
  ·rcases Fj i with rfl|rfl|rfl|rfl<;>exact⟨by assumption,rfl⟩
 have oA:=zT4 (P:=l.prog) (w:=w) (mg:=mg) (jq:=jq) FA
 have bA:=Ts.oM (p0:="self") (p1:="word") (p2:="parts") FA
 have oB:=zXl FB aA cA oA bA
 have bB:=Ts.oM (p0:="self") (p1:="word") (p2:="part") FB
 have oD:=zXk FD aA cA oA bA
 have bD:=Ts.CJ (p0:="self") (p1:="word") (p2:="left") (p3:="right") FD
 have o0:=K7 F0 Q0.2.1 aA cA oA bA
 have o1:=Fb F1 Q1.2.1 aA cA oA bA
 have o2:=K9 F2 Q2.2.1 aB cB oB bB
 have o3:=zNq F3 Q3.2.1 aB cB oB bB
 have o4:=zNt F4 Q4.2.1 aB cB oB bB
 have o5:=zJ8 F5 Q5.2.1 aB cB oB bB
 have o6:=zJ9 F6 Q6.2.1 aB cB oB bB
 have o7:=zNr F7 Q7.2.1 aB cB oB bB
 have o8:=Fd F8 Q8.2.1 aD cD oD bD
 have o9:=zT5 F9 Q9.2.1 aD cD oD bD
 have o10:=zNp F10 Q10.2.1 aD cD oD bD
 have o11:=zNs F11 Q11.2.1 aD cD oD bD
 refine⟨⟨λh=>(Z h).1.1,o0.mono (by decide),Ts.rK F0,o1.mono (by decide),Ts.dF F1,λi=>by rcases Fi i with rfl|rfl|rfl|rfl|rfl|rfl<;>assumption,λi=>by rcases Fi i with rfl|rfl|rfl|rfl|rfl|rfl<;>(first|exact Ts.dF F2|exact Ts.dF F3|exact Ts.dF F4|exact Ts.dF F5|exact Ts.dF F6|exact Ts.dF F7),λi=>by rcases Fj i with rfl|rfl|rfl|rfl<;>assumption,λi=>by rcases Fj i with rfl|rfl|rfl|rfl<;>(first|exact Ts.oM F8|exact Ts.oM F9|exact Ts.oM F10|exact Ts.oM F11),a0,a1,λi=>by rcases Fi i with rfl|rfl|rfl|rfl|rfl|rfl<;>assumption,λi=>by rcases Fj i with rfl|rfl|rfl|rfl<;>assumption⟩,λh=>(Z h).1.2.1,λh h' t e=>?_,λh=>(Z h).1.2.2.1,hn,ht,λh=>(Z h).1.2.2.2.1⟩
 subst e
 rw[Fg]
 obtain⟨x,_,y⟩:=RM (D:=_) m (Z (hd t)).2
 by_cases e:hix h'=hix (hd t)
 ·rw[decide_eq_true e]
  exact Fe (Z h').1.2.2.2.2.1 (Z h').1.2.2.2.2.2 (by rw[e];exact x)
 ·rw[decide_eq_false e]
  exact La (Z h').1.2.2.2.2.1 (Z h').1.2.2.2.2.2 (y (Z h').2 e) x
end Sy
namespace Ts
open PySem L2 Sy
def za(K:Frag):Sp:=λc H Q _=>∃(a:Addr)(b:LI),c=[.ref a]/\aW K H a (b.map V.int)/\b.length<=63/\∀d,Q (.bl true) d
section
variable{P:Program}{w:World}{K:Frag}{mg:Str->Option Value}{jq h:Heap}{j k:Nat}{f C:Addr}{fd:FuncData}{ps:List Str}{sp:Sp}{x y:Str}{st:Stmt}
theorem RN(no:∀vs H Q E,¬sp vs H Q E):aH P w K mg jq bN k f fd ps sp :=
 ⟨λvs H Q E h=>absurd h (no vs H Q E),λA outer s H args us vs Q E _ _ _ _ h=>absurd h (no vs H Q E)⟩
abbrev FP(K:Frag)(x:Str)(st:Stmt):Prop:=∃f fd,nsIn K aa9 x=some (some (.ref f))/\cF K x x st f fd
abbrev MP(K:Frag)(C:Addr)(x y:Str)(st:Stmt):Prop:=∃f fd,Meth K C x f/\cF K x y st f fd
def Ho(K:Frag):List Str->Prop
 |[]=>True
 |x::r=>nsIn K aa9 x=some none/\Ho K r
theorem RP(a:nsIn K aa9 x=some (some (.ref f)))(F:cF K x x st f fd):FP K x st:=⟨f,fd,a,F⟩
theorem RQ(a:Meth K C x f)(F:cF K x y st f fd):MP K C x y st:=⟨f,fd,a,F⟩
theorem Fo{g n kV b m a e:Value}{od i:Option Addr}{d:Array (Option Value)}(l:K.lookup f=some ⟨n,od,.func (fnOf x y (tu st) (wR st) (zS st) g kV b m i a e),d⟩)(c:codeIn K a y=true)(k:keepIn K (.ref f)=true):rR K x y st g f (fnOf x y (tu st) (wR st) (zS st) g kV b m i a e):=⟨⟨n,od,kV,b,m,i,a,e,d,rfl,l,c⟩,k⟩
theorem Lg(X:K.In h)(G:h.Ns aa9 mg)(p:FP K x st)(t:∀f fd,cF K x x st f fd->aH P w K mg jq bN k f fd ps sp/\Binds K fd ps []):jL P w K mg jq k x ps sp:=by
 obtain⟨f,fd,a,F⟩:=p
 exact⟨f,fd,(t f fd F).1,(t f fd F).2,F.kp,mg_of X G a⟩
theorem Fp(c:Cls K C)(p:MP K C x y st)(t:∀f fd,cF K x y st f fd->aH P w K mg jq bN k f fd ps sp/\Binds K fd ps []):jT P w K mg jq k C x ps sp:=by
 obtain⟨f,fd,a,F⟩:=p
 exact⟨⟨f,fd,(t f fd F).1,(t f fd F).2,a⟩,c⟩
theorem jL.m(c:jL P w K mg jq j x ps sp)(h:j<=k:=by decide):jL P w K mg jq k x ps sp:=c.mono h
theorem jT.m(c:jT P w K mg jq j C x ps sp)(h:j<=k:=by decide):jT P w K mg jq k C x ps sp:=c.mono h
end
theorem RT{K:Frag}(FI:rR K "__init__" "Machine.__init__" Uz (.ref TD) fI Y7)(lT:K.lookup TD=some ⟨ocT,odT,.seq #[.none,.none] nT,slT⟩):Binds K Y7 ["self","steps","marks","fair"] []:=by
 obtain⟨_,_,_,_,_,_,_,_,_,rfl,_⟩:=FI.ex
 intro s us KX hl
 rw[length_append] at hl
 match us,hl with
 |[u0,u1,u2,u3],_=>exact BindsTo.of_defaults rfl (KX _ _ lT) rfl rfl rfl
set_option maxHeartbeats 8000000 in
theorem all_mk{l:PySem.W.OpenLaw}{K:Frag}(X:K.In h)(G:h.Ns aa9 mg)(hfa:mg "law" = some (.ref fa))(SY:∃(cl fi:Hd->Addr) (di:Hd->FuncData),∀jq:Heap,lF l.prog w K mg jq 3 cl fi di)(h1:FP K "sources_of" Uy)(h2:FP K "is_stand" j7)(h3:FP K "check_stands" eH)(h4:FP K "check_steps" fY)(h5:FP K "is_name" mz)(h6:FP K "check_marks" fZ)(h7:FP K "check_fair" gY)(h8:FP K "copied" oY)(h9:FP K "everywhere" gW)(h10:FP K "unshared" j4)(h11:FP K "sight_failing" dI)(h12:FP K "sight_failings" cZ)(h13:FP K "failed_pairs" eG)(h14:FP K "answer_counts" dJ)(h15:FP K "left_without_answer" bH)(h16:FP K "failings" j5)(h17:FP K "followed" j6)(h18:FP K "flags" qW)(h19:FP K "without" mq)(h20:FP K "others" oW)(h21:FP K "together" jZ)(h22:FP K "shared" oX)(h23:FP K "distances" iW)(h24:FP K "comes_to" j8)(h25:FP K "steps_into" gZ)(h26:FP K "stepping_to" gb)(h27:FP K "bits_of" mC)(h28:FP K "onward_bits" gj)(h29:FP K "rings" qX)(h30:FP K "missed_by" iY)(h31:FP K "fair_rings" g8)(h32:FP K "joined" oZ)(h33:FP K "core" yc)(h34:FP K "alive" s_alive)(h35:FP K "some_next" iZ)(h36:FP K "some_till" i_)(h37:FP K "spoilers" kh)(h38:FP K "each_till" jc)(h39:FP K "meaning_over_walks" bY)(h40:FP K "meaning" mD)(h41:FP K "table_among" cU)(h42:FP K "table" qY)(h43:FP K "holds" qZ)(h44:FP K "_law_cell_at" je)(h45:FP K "_law_mixed" mF)(h46:FP K "_law_name_by" jf)(h47:FP K "_law_some_of" jg)(h48:FP K "_law_steps_by" ig)(h49:FP K "_law_sets_by" jh)(h50:FP K "_law_maps_by" ji)(h51:FP K "_law_marked_by" gk)(h52:FP K "_law_two_by" kj)(h53:FP K "_law_machine" jk)(h54:FP K "_law_leaf_by" jm)(h55:FP K "_law_saying_by" cV)(h56:FP K "law" mG)(aC:nsIn K aa9 "Machine" = some (some (.ref C)))(mk:Mk K C fI)(FI:rR K "__init__" "Machine.__init__" Uz (.ref TD) fI Y7)(lT:K.lookup TD=some ⟨ocT,odT,.seq #[.none,.none] nT,slT⟩)(m0:MP K C "many" "Machine.many" eN)(m1:MP K C "next_of" "Machine.next_of" cR)(m2:MP K C "before" "Machine.before" c7)(m3:MP K C "names_at" "Machine.names_at" cL)(m4:MP K C "marked" "Machine.marked" dh)(m5:MP K C "fair_at" "Machine.fair_at" cT)(cC:Cls K C)(nC:findIn K (.ref C) "steps" = some none/\findIn K (.ref C) "marks" = some none/\findIn K (.ref C) "fair" = some none/\findIn K (.ref C) "sources" = some none)(kJ:nsIn K aa9 "LETTERS" = some (some (.str "abcdefghijklmnopqrstuvwxyz" rT)))(cW:nsIn K aa9 "LONGEST_NAME" = some (some (.int 8 kE)))(dG:nsIn K aa9 "MOST_STANDS" = some (some (.int 60 lK)))(cX:nsIn K aa9 "SAYING_WORDS" = some (some (.ref eX)))(lM:K.lookup eX=some ⟨.type "tuple",none,.seq #[.str "all" su,.str "not" sy,.str "both" sE,.str "either" sG,.str "somenext" sH,.str "eachnext" sI,.str "sometill" sJ,.str "eachtill" sO,.str "someever" sS,.str "eachever" sU] zc,tQ⟩)(z:Ho K ["len","range","isinstance","int","bool","list","enumerate","min","any","all","sorted","str","set"]) :
  ∃fd:FuncData,(∀(s:Shared)(v:Value),BindsTo s fd ⟨[v],[]⟩ [("_law_script",v)])/\∀jq:Heap,K.In jq->jq.Ns aa9 mg->aH l.prog w K mg jq bN 20 fa fd ["_law_script"] (za K):=by
 obtain⟨f,fd,a,⟨oc,od,kV,dc,pm,an,cd,ct,sl,rfl,lk,ck⟩,kp⟩:=h56
 have e:=hfa.symm.trans (mg_of X G a)
 cases e
 obtain⟨cl,fi,di,I0⟩:=SY
 obtain⟨Y8,Lh,pC,Y9,RV,RW,qF,Y_,Za,Zb,Fq,Zc,Zd,_⟩:=z
 obtain⟨nS,nM,nF,nB⟩:=nC
 have N:∀{x:Str},nsIn K aa9 x=some none->mg x=none:=λe=>PySem.W.mg_none_of X G e
 have B:Bl K mg:=⟨N Y8,N Lh,N pC,N Y9,N RV,N RW,N qF,Pg,Pj,Ph⟩
 have Ze:=N Y_
 have Zf:=N Za
 have Zg:=N Zb
 have cj:=N Fq
 have Zh:=N Zc
 have zf:=N Zd
 have kJ:=mg_of X G kJ
 have cW:=mg_of X G cW
 have dG:=mg_of X G dG
 have cX:=mg_of X G cX
 have T:Cl K mg C:=⟨cC,nS,nM,nF,nB,mg_of X G aC⟩
 have bI0:=RT FI lT
 refine⟨fnOf "law" "law" (tu mG) (wR mG) (zS mG) .none kV dc pm an cd ct,λs v=>.of_eq rfl,λjq _ _=>?_⟩
 have cal:∀{k:Nat}{x:Str}{st:Stmt}{ps:List Str}{sp:Sp},FP K x st->(∀f fd,cF K x x st f fd->aH l.prog w K mg jq bN k f fd ps sp/\Binds K fd ps [])->jL l.prog w K mg jq k x ps sp:=λh t=>Lg X G h t
 have sV:∀{k:Nat}{x y:Str}{st:Stmt}{ps:List Str}{sp:Sp},MP K C x y st->(∀f fd,cF K x y st f fd->aH l.prog w K mg jq bN k f fd ps sp/\Binds K fd ps [])->jT l.prog w K mg jq k C x ps sp:=λh t=>Fp cC h t
 have I:=I0 jq
 have kO:∀H:Hp,gF K H eX ((["all","not","both","either","somenext","eachnext","sometill","eachtill","someever","eachever"]:List Str).map V.str):=λH=>.inr ⟨_,_,_,lM,rfl,rfl,(by show 10<=sizeLine;decide),by repeat(first|exact Paired.nil|refine Paired.cons ⟨_,rfl⟩ ?_)⟩
 have qG:=cal h2 λ_ _ F=>⟨zNl (k:=0) B F,dF F⟩
 have cP:=cal h3 λ_ _ F=>⟨zG4 (k:=1) B qG.m F,oM F⟩
 have lN:=cal h4 λ_ _ F=>⟨zIj (k:=2) B dG cP.m F,rK F⟩
 have sW:=cal h5 λ_ _ F=>⟨zQ6 (k:=0) B kJ cW cX kO Zg Zh F,rK F⟩
 have lO:=cal h6 λ_ _ F=>⟨zIk (k:=2) B cP.m sW.m F,dF F⟩
 have nA:=cal h7 λ_ _ F=>⟨zJ7 (k:=2) B cP.m F,dF F⟩
 have zj:=cal h8 λ_ _ F=>⟨zT3 (k:=0) B F,rK F⟩
 have Zi:=cal h1 λ_ _ F=>⟨Ka F B,rK F⟩
 have OI:aH l.prog w K mg jq bN 4 fI Y7 ["self","steps","marks","fair"] (oJ K C (QC C)):=Kc (k:=3) FI T B lN.m lO.m nA.m zj.m Zi.m
 have bT:=sV m0 λ_ _ F=>⟨zG5 (k:=0) B T F,rK F⟩
 have bU:=sV m1 λ_ _ F=>⟨zEi (k:=0) B T cj F,dF F⟩
 have bV:=sV m2 λ_ _ F=>⟨zFn (k:=0) B T F,dF F⟩
 have gC:=sV m3 λ_ _ F=>⟨zD6 (k:=0) B T cj F,dF F⟩
 have bx:=cal h9 λ_ _ F=>⟨zJ6 (k:=1) B bT.m F,rK F⟩
 have qH:=cal h10 λ_ _ F=>⟨zNh (k:=0) B cj zf F,dF F⟩
 have jF:=cal h11 λ_ _ F=>⟨zF8 (k:=1) B qH.m F,dF F⟩
 have iT:=cal h12 λ_ _ F=>⟨zFl (k:=2) B gC.m bx.m jF.m F,dF F⟩
 have kW:=cal h13 λ_ _ F=>⟨zG3 (k:=0) B F,rK F⟩
 have jG:=cal h14 λ_ _ F=>⟨zF9 (k:=2) B bU.m bx.m F,dF F⟩
 have dO:=cal h15 λ_ _ F=>⟨zCr (k:=1) (C:=C) F B bV.m,oM F⟩
 have qI:=cal h16 λ_ _ F=>⟨zNn (k:=3) B bV.m jG.m kW.m dO.m iT.m F,dF F⟩
 have qJ:=cal h17 λ_ _ F=>⟨zNm (k:=4) B qI.m F,dF F⟩
 have iU:=sV m4 λ_ _ F=>⟨zFm (k:=0) B T cj F,dF F⟩
 have iy:=sV m5 λ_ _ F=>⟨zEj (k:=0) B T cj F,dF F⟩
 have rm:=cal h18 λ_ _ F=>⟨zXi (k:=1) B bT.m F,dF F⟩
 have mK:=cal h19 λ_ _ F=>⟨zQ3 (k:=0) B cj zf F,dF F⟩
 have iz:=cal h20 λ_ _ F=>⟨zT1 (k:=2) B bx.m mK.m F,dF F⟩
 have kY:=cal h21 λ_ _ F=>⟨zNi (k:=0) B cj zf F,dF F⟩
 have eY:=cal h22 λ_ _ F=>⟨zT0 (k:=0) B cj zf F,dF F⟩
 have pD:=cal h23 λ_ _ F=>⟨zLx (k:=2) B bV.m bT.m rm.m F,oM F⟩
 have gD:=cal h24 λ_ _ F=>⟨zNo (k:=3) B pD.m F,oM F⟩
 have nD:=cal h25 λ_ _ F=>⟨zJ3 (k:=1) B Zf bU.m F,oM F⟩
 have lQ:=cal h26 λ_ _ F=>⟨zIf (k:=2) B rm.m nD.m F,oM F⟩
 have sX:=cal h27 λ_ _ F=>⟨zQ7 (k:=0) B F,rK F⟩
 have lR:=cal h28 λ_ _ F=>⟨zIg (k:=1) B bT.m bU.m sX.m F,dF F⟩
 have Ft:=cal h29 λ_ _ F=>⟨zXg (k:=2) B cj zf lR.m F,dF F⟩
 have pF:=cal h30 λ_ _ F=>⟨zLo (k:=1) B T iy.m eY.m F,dF F⟩
 have nG:=cal h31 λ_ _ F=>⟨zJ5 (k:=3) B pF.m Ft.m F,dF F⟩
 have zp:=cal h32 λ_ _ F=>⟨zT2 (k:=0) B F,rK F⟩
 have qK:=cal h33 λ_ _ F=>⟨DP (k:=4) B gD.m nG.m zp.m F,dF F⟩
 have Fv:=cal h34 λ_ _ F=>⟨zXj (k:=5) B qK.m bx.m F,rK F⟩
 have pG:=cal h35 λ_ _ F=>⟨zLn (k:=3) B bx.m eY.m lQ.m F,oM F⟩
 have pH:=cal h36 λ_ _ F=>⟨zLm (k:=4) B gD.m eY.m F,CJ F⟩
 have qL:=cal h37 λ_ _ F=>⟨zNj (k:=3) B iz.m eY.m mK.m F,CJ F⟩
 have pI:=cal h38 λ_ _ F=>⟨zLw (k:=5) B gD.m qK.m iz.m qL.m kY.m F,CJ F⟩
 have eZ:=cal h39 λ_ _ F=>⟨zCz (k:=6) B I qK.m pI.m bx.m iz.m pG.m pH.m F,CJ F⟩
 have sY:=cal h40 λ_ _ F=>⟨zQ4 (k:=7) B I iU.m bx.m eZ.m iz.m eY.m kY.m F,CJ F⟩
 have kZ:∀n:Nat,jL l.prog w K mg jq (8+n) "table_among" ["machine","living","saying"] (Ve K C cl (wO n)):=λn=>by
  induction n with
  |zero=>exact cal h41 λ_ _ F=>⟨RN (by rintro _ _ _ _ ⟨_,_,_,_,z,_⟩;cases z),oM F⟩
  |succ n ih=>exact cal h41 λ_ _ F=>⟨zIe (k:=8+n) F B I (sY.mono (aa0 (by decide) (ac6 8 n))) ih,oM F⟩
 have lU:jL l.prog w K mg jq 17 "table_among" ["machine","living","saying"] (zEy K C cl):=kZ 9
 have Fw:=cal h42 λ_ _ F=>⟨zXf (k:=17) B Fv.m lU.m F,dF F⟩
 have Fx:=cal h43 λ_ _ F=>⟨zXh (k:=18) B Fw.m F,dF F⟩
 have bO:=cal h44 λ_ _ F=>⟨zLv (k:=0) B F,dF F⟩
 have dw:=cal h45 λ_ _ F=>⟨zQ5 (k:=0) B F,dF F⟩
 have fj:=cal h46 λ_ _ F=>⟨zLr (k:=0) B F,dF F⟩
 have fu:=cal h47 λ_ _ F=>⟨zLp (k:=0) B F,dF F⟩
 have nH:=cal h48 λ_ _ F=>⟨zJ4 (k:=1) B bO.m dw.m fu.m F,oM F⟩
 have pJ:=cal h49 λ_ _ F=>⟨zLq (k:=1) B dw.m fu.m F,CJ F⟩
 have pL:=cal h50 λ_ _ F=>⟨zLs (k:=1) B Ze bO.m dw.m F,rK F⟩
 have lV:=cal h51 λ_ _ F=>⟨zIi (k:=2) B bO.m fj.m pJ.m F,oM F⟩
 have qM:=cal h52 λ_ _ F=>⟨zNk (k:=3) B bO.m pL.m lV.m dw.m fj.m fu.m nH.m F,rK F⟩
 have pN:=cal h53 λ_ _ F=>⟨zLt (k0:=4) B T mk (OI.mono (by decide)) bI0 F,dF F⟩
 have pO:=cal h54 λ_ _ F=>⟨zLu (k:=4) B I (by decide) F,dF F⟩
 have lg:∀n:Nat,jL l.prog w K mg jq (5+n) "_law_saying_by" ["_law_script","_law_at","_law_names","_law_depth"] (Vm K cl (vK cl n)):=λn=>by
  induction n with
  |zero=>exact cal h55 λ_ _ F=>⟨RN (by rintro _ _ _ _ ⟨_,_,_,_,z,_⟩;cases z),CJ F⟩
  |succ n ih=>exact cal h55 λ_ _ F=>⟨zIh (k:=5+n) F B I (aa0 (by decide) (ac6 5 n)) (bO.mono (aa0 (by decide) (ac6 5 n))) (pO.mono (aa0 (by decide) (ac6 5 n))) (dw.mono (aa0 (by decide) (ac6 5 n))) ih,CJ F⟩
 have lW:jL l.prog w K mg jq 10 "_law_saying_by" ["_law_script","_law_at","_law_names","_law_depth"] (zE2 K cl):=lg 5
 refine aH.imp (KZ (k:=19) (cl:=cl) (jN lk ck kp) B bO.m pN.m fj.m lW.m qM.m qJ.m Fx.m) λvs H Q E h=>?_
 obtain⟨a,ns,rfl,hS,h63,hQ⟩:=h
 obtain⟨b,e1,e2⟩:=zXx C cl ⟨ns⟩ h63
 subst e2
 exact⟨(⟨ns⟩,()),true,H,.refl _,e1,.cons ⟨a,rfl,hS⟩ .nil,λv H' _ r=>by cases r;exact hQ H'⟩
theorem walk{l:PySem.W.OpenLaw}{i:World->Heap->Prop}{d:DefRec}{K:Params->Frag}(p:l.most=some 63)(c:d.params.defaults=[])(m:∀(w:World) (h:Heap),i w h->(K w.params).In h)(F:∀(w:World) (mg:Str->Option Value) (e:Addr) (h:Heap),(K w.params).In h->h.Ns aa9 mg->mg d.name=some (.ref e) ->
   ∃g:FuncData,(∀(s:Shared) (u:Value),BindsTo s g ⟨[u],[]⟩ [("_law_script",u)])/\∀jq:Heap,(K w.params).In jq->jq.Ns aa9 mg->aH l.prog w (K w.params) mg jq bN 20 e g ["_law_script"] (za (K w.params))) :
  PySem.W.WalkO q loose XP i l.row.toRowW d [] (λf vs=>PySem.call f vs) :=
 L2.Bt (n:=63) (k:=20) (x:="_law_script") (CX:=λ_=>bN) (sp:=λw=>za (K w.params)) p (by decide) c ⟨rfl,by decide,by decide⟩ m F (λ_ _ a o j _ r=>⟨a,o,rfl,r,j,λ_=>rfl⟩) λ_ _ _ _ _ z=>z
end Ts
namespace PySem.W.Fast
def tw9909970676686318320:=0
def tw10785410953750777160:=0
def tw4793496640340659549:=0
def tw197763645687847957:=0
def tw3252195234236326259:=0
def tw8420705428053206402:=0
def tw1610477111862564524:=0
def tw10255581200296074266:=0
def tw12405766783486958363:=0
def tw1593881560902587387:=0
def tw18004422122370592066:=0
def tw18277389408733558990:=0
def tw3444105617489050433:=0
def tw8240843149511029104:=0
def tw11091220193613808355:=0
def tw15316131526648093619:=0
def tw2447999080946351934:=0
def tw17847092990702013772:=0
def tw8476632868018021120:=0
def tw15263931379857099220:=0
def tw836959142318493358:=0
def tw8329202410596899936:=0
def tw5752613006830449673:=0
def tw14267889199062457352:=0
def tw5619169530153889829:=0
def tw318633937604970471:=0
def tw15356222716834908967:=0
def tw6509063510197539163:=0
def tw17133624887259731483:=0
def tw5155934607922623148:=0
def tw12251547555403733857:=0
def tw11507535617529315122:=0
def tw8388769960161822107:=0
def tw13839428118655345363:=0
def tw16803976618633584675:=0
def tw1181872709774874790:=0
def tw10900986945847826900:=0
def tw17762909965630966413:=0
def tw1130968156942063491:=0
def tw16025230906272087645:=0
def tw13101865391674665508:=0
def tw16142567376199141634:=0
def tw12891779127314021767:=0
def tw6160097398490029752:=0
def tw11766997651389339691:=0
def tw18280397131529196656:=0
def tw2455571466041038592:=0
def tw4097949715888973635:=0
def tw13267824847133032597:=0
def tw15356138847706742255:=0
def tw6460715608771272681:=0
def tw4791873779108173176:=0
def tw8830651850907306260:=0
def tw3289633485648016956:=0
def tw17346374876194935369:=0
def tw10158060740498421541:=0
def tw8007808164351948983:=0
def tw6803650369532961351:=0
def tw4716986751184420268:=0
def tw6384146386826513082:=0
def tw8834313273060700803:=0
def tw5726315410909998035:=0
def tw11235821291524333681:=0
def tw15453182308583682553:=0
def tw9446369348070978841:=0
def tw9225930394972159896:=0
def tw11454242777677102395:=0
def tw15489706916273299439:=0
def tw5987213027234058791:=0
def tw16536106549157947325:=0
def tw14968712746125725320:=0
def tw950977099423229415:=0
def tw15970331635034320599:=0
def tw5503245089040641950:=0
def tw15601269586049006705:=0
def tw12064890420787198154:=0
def tw3940166847724753606:=0
def tw7558528398457977909:=0
def tw7419854142224075915:=0
def tw11598547014255013835:=0
def tw4915101522053303908:=0
def tw12231388669354312672:=0
def tw7645188471768177318:=0
def tw6137869517087443665:=0
def tw9467253772645492049:=0
def tw11762365474207701416:=0
def tw2583667610295984612:=0
def tw10686594686990991546:=0
def tw12870661471265293314:=0
def tw12313646351722834374:=0
def tw3617928223730811743:=0
def tw2019378363831503417:=0
def tw9420225432384025426:=0
def tw12283463523242980441:=0
def tw15648326537958226402:=0
def tw11670175360892492379:=0
def tw49638816960289504:=0
def tw8984894777510822957:=0
def tw4909570385496000641:=0
def tw2846336361289391235:=0
def tw3440913009336683056:=0
def tw2214424459800350390:=0
def tw7929084674953215209:=0
def tw16368761582643437957:=0
def tw2050293571009974880:=0
def tw6834063265351475948:=0
def tw12823601914837829689:=0
def tw9524224220464470007:=0
def tw14117509894380332686:=0
def tw16808248615923158816:=0
def tw3377884948599285102:=0
def tw2522240384632159470:=0
def tw5492804394158220677:=0
def tw8061795227916777497:=0
def tw12144431229563785928:=0
def tw15995941393275786104:=0
def tw10804290879138152274:=0
def tw10687050547836630144:=0
def tw2705524840930091522:=0
def tw4892828203908255653:=0
def tw3399548680574121562:=0
def tw6678237598493839358:=0
def tw6818441393717918544:=0
def tw17750752159088486574:=0
def tw7991616849321895821:=0
def tw18442665001518935760:=0
def tw5433870979578402412:=0
def tw3592252296077417787:=0
def tw3692681933866367435:=0
def tw15234201054384726813:=0
def tw8358156508932930745:=0
def tw7245701779406928746:=0
def tw10145197814683368641:=0
def tw3779384767068018267:=0
def tw7950567927970999203:=0
def tw1995509946604004224:=0
def tw8503053899067364553:=0
def tw2075694226769462036:=0
def tw14015447043708717772:=0
def tw5203647655736881458:=0
def tw17736457429484474986:=0
def tw9892526485891723187:=0
def tw9811702981089067738:=0
def tw2040436059119902936:=0
def tw14608367922993347192:=0
def tw14426698190514781130:=0
def tw4728144096153993269:=0
def tw13927349578548380767:=0
def tw6344249201304644977:=0
def tw12394278259178095159:=0
def tw7427311715997646834:=0
def tw15194238351417319350:=0
def tw18323378712614227931:=0
def tw13619298849127276194:=0
def tw13346785209806292080:=0
def tw7500386058455862653:=0
def tw15436590417618861835:=0
def tw6147407556402416248:=0
def tw15992793882170383968:=0
def tw11477216542467912901:=0
def tw6669935894331526617:=0
def tw3014960120875317087:=0
def tw11230358527236059929:=0
def tw1594032505846976839:=0
def tw3630711914724833938:=0
def tw10920304440269579683:=0
def tw4315747952818472602:=0
def tw7159521498186065739:=0
def tw5740373933184971445:=0
def tw1904578699912444765:=0
def tw6312661158747335312:=0
def tw14268697379826998867:=0
def tw7043761609170632293:=0
def tw2212374762900348119:=0
def tw11729911945308668160:=0
def tw17356141202136554053:=0
def tw6846824959673729472:=0
def tw7315743994074417218:=0
def tw11549445179553901730:=0
def tw14294796738089410138:=0
def tw5201652999314434422:=0
def tw6685162995419341268:=0
def tw17939907395471578187:=0
def tw18408623735551205472:=0
def tw16511464328734309397:=0
def tw4252912953157389437:=0
def tw8995342324071196077:=0
def tw15931528534299039573:=0
def tw3681693949402061348:=0
def tw3770667767999469496:=0
def tw5197865674803387095:=0
def tw3886933228799540395:=0
def tw13818128914245910604:=0
def tw105946006073057937:=0
def tw9589503182045672367:=0
def tw1270518403117321027:=0
def tw15728464498917618980:=0
def tw16282406074295283640:=0
def tw10670792772871726208:=0
def tw3947467003298389262:=0
def tw12625216776298718798:=0
def tw6621745491182074158:=0
def tw3710368413574607770:=0
def tw13381429583597287969:=0
def tw4804945056323886246:=0
def tw5605501447683277911:=0
def tw15773905356123644588:=0
def tw15378960450881408129:=0
def tw10886924124505898617:=0
def tw9387667471115328586:=0
def tw18248437589468997900:=0
def tw11550370752445215342:=0
def tw15330553834553790016:=0
def tw15941690960177502613:=0
def tw3795161746119859007:=0
def tw16158796366128668626:=0
def tw8991093941124300602:=0
def tw14268195798113621806:=0
def tw2639271321167230838:=0
def tw1218663539263749294:=0
def tw14084455898483804999:=0
def tw901276072369472412:=0
def tw12539551744407564283:=0
def tw33210298390255505:=0
def tw16471057082168222155:=0
def tw1027897589038199181:=0
def tw5956786652688085291:=0
def tw13558350802471782004:=0
def tw11817860017939977550:=0
def tw1575542515738703665:=0
def tw7571142297839500632:=0
def tw6529964770839257078:=0
def tw248894612919068352:=0
def tw14488872196937442060:=0
def tw17276306068325729020:=0
def tw6239153535712716719:=0
def tw6403771302644572068:=0
def tw8090260300196279476:=0
def tw9499186185674758398:=0
def tw3263679495828203141:=0
def tw13063313072571374403:=0
def tw13618394055160320967:=0
def tw4436599229281070115:=0
def tw14897576798828122183:=0
def tw12514897648196031306:=0
def tw16010309462815829891:=0
def tw9422256601156400335:=0
def tw11794639223320101365:=0
def tw605380563426441550:=0
def tw3012973693079384067:=0
def tw10289035243753267095:=0
def tw17421052938213282677:=0
def tw12006102241202831649:=0
def tw6073088792741908438:=0
def tw15752377110399688274:=0
def tw10593870449425588884:=0
def tw7022401995802100504:=0
def tw14790290512767546692:=0
def tw8787624469924983615:=0
def tw17545811246747535326:=0
def tw1289015152929265863:=0
def tw3350121455833386436:=0
def tw8522809777742221605:=0
def tw11579404408684982553:=0
def tw15070517484848016229:=0
def tw4374659607403889377:=0
def tw8644256726468970541:=0
def tw8980586636528385752:=0
def tw15339688953434906814:=0
def tw2161658581595579828:=0
def tw5493531014066223561:=0
def tw9862683279099020411:=0
def tw13265690834114286218:=0
def tw6030535999262357600:=0
def tw1721874306148181150:=0
def tw11036574007722549552:=0
def tw2171962337741899793:=0
def tw14376138656952701966:=0
def tw12265885794266989371:=0
def tw17093496913711191316:=0
def tw13307158603229942836:=0
def tw6339114086677855206:=0
def tw6056816596723232790:=0
def tw3980968003031530998:=0
def tw3353930485725675975:=0
def tw12308885152378533809:=0
def tw10001008929494802595:=0
def tw6501712985835810442:=0
def tw11188164944324604979:=0
def tw11112015078740386428:=0
def tw17021324969483660718:=0
def tw5627058669045972468:=0
def tw10963808070255360565:=0
def tw8699325016098134840:=0
def tw1207100355994039696:=0
def tw11000751863608967920:=0
def tw8811540410511409869:=0
def tw7155711872532916594:=0
def tw6779525998327801302:=0
def tw17754389332669383506:=0
def tw5871389767766426897:=0
def tw18445673073600606518:=0
def tw5228640584617744467:=0
def tw11978191290380582639:=0
def tw3695961725573225336:=0
def tw5471275627011637958:=0
def tw13149353398219591438:=0
def tw15280166550177997290:=0
def tw6338430380026960890:=0
def tw3800208758801299968:=0
def tw16420675302666879267:=0
def tw13936970183792353279:=0
def tw14613375839755122339:=0
def tw16951481555658416164:=0
def tw10237028243442397047:=0
def tw16562853306304360831:=0
def tw6378843188828888072:=0
def tw9067886962107778059:=0
def tw6340741708565272565:=0
def tw14979254498076395566:=0
def tw13515906297269124264:=0
def tw14240773745248160242:=0
def tw2798311076417100901:=0
def tw2977957692245960426:=0
def tw14602208494686572705:=0
def tw8394189502474750688:=0
def tw4667898301414035421:=0
def tw4302712151919879326:=0
def tw9664891127103816919:=0
def tw7261262785283463294:=0
def tw4447828869347019415:=0
def tw7931784842743922477:=0
def tw1254803806551113498:=0
def tw14114533625021076649:=0
def tw15515215288187310358:=0
def tw15057433351822641428:=0
def tw13069917047271301146:=0
def tw14527745484725685238:=0
def tw16401317013794427269:=0
def tw5706820330438029647:=0
def tw5512817477928842878:=0
def tw3221015604403004812:=0
def tw12823969142987646275:=0
def tw3289528764144786411:=0
def tw16988006914200133326:=0
def tw14774983651114458425:=0
def tw13355052135364550097:=0
def tw15760183751187299628:=0
def tw9454331680819475170:=0
def tw16227177130486684815:=0
def tw5640876744809227150:=0
def tw9290995742414890398:=0
def tw18421418531796607052:=0
def tw5326053221139779094:=0
def tw1126092442575386114:=0
def tw11313749939916800734:=0
def tw140060397296062440:=0
def tw1642640904843950708:=0
def tw17544458850094538410:=0
def tw4590013312055636134:=0
def tw11998639255725572602:=0
def tw1998198806841693440:=0
def tw665974336605575196:=0
def tw12984276704109289144:=0
def tw4839615180472821500:=0
def tw13946952283372136310:=0
def tw5084056991075831200:=0
def tw9050787341118804042:=0
def tw712209015184301602:=0
def tw8836851899679287133:=0
def tw4014423797083217277:=0
def tw12814170250835744478:=0
def tw11613964368544024166:=0
def tw14928984783044465074:=0
def tw6579084112839904352:=0
def tw16250322758339128833:=0
def tw14911165474489492105:=0
def tw5498329393469617645:=0
def tw1501903283124705612:=0
def tw18180265237812771600:=0
def tw14649530947796940589:=0
def tw8813846582268338803:=0
def tw13399315859783042508:=0
def tw14370095688008516759:=0
def tw17265893436318696311:=0
def tw8299482077723635353:=0
def tw10055026908032431759:=0
def tw1256665565872619680:=0
def tw14420830875150311700:=0
def tw15009322597957698443:=0
def tw12130673323115589402:=0
def tw5336822305249677886:=0
def tw8472763575579849660:=0
def tw15731449277886583913:=0
def tw15803887991664432066:=0
def tw10561498475259189676:=0
def tw5307242448321950301:=0
def tw16545401651069644531:=0
def tw4315365061713777595:=0
def tw1818614740525861869:=0
def tw6598218278654163378:=0
def tw15242182741803488517:=0
def tw8885771928047398359:=0
def tw5566701950606617596:=0
def tw15762154098175606722:=0
def tw6629219835890136745:=0
def tw10222806737898062841:=0
def tw13736543093387669051:=0
def tw12425187183219418723:=0
def tw5338475464594997026:=0
def tw2940769752033167989:=0
def tw9263340576819480234:=0
def tw5650951365461202152:=0
def tw15273183315760286621:=0
def tw15737548038413622684:=0
def tw16908967012109663177:=0
def tw14485389691576463538:=0
def tw2124595635985871995:=0
def tw6098404642120887847:=0
def tw10366996521283404207:=0
def tw13085190528831283284:=0
def tw1561161912526981066:=0
def tw4255840738398996924:=0
def tw1587320737424422643:=0
def tw14394375786519280469:=0
def tw477586266370804456:=0
def tw12255703320054523108:=0
def tw8327083109139901061:=0
def tw13082696627523037704:=0
def tw6895125787919983107:=0
def tw10935365685696458311:=0
def tw2139500549903678562:=0
def tw8436952936753344902:=0
def tw17847188952537664702:=0
def tw17340508729431871439:=0
def tw1443946563499829222:=0
def tw1256236231895842391:=0
def tw8660446714532348559:=0
def tw867575300207473141:=0
def tw15784515551754752723:=0
def tw9659063023193103101:=0
def tw3614899579194326838:=0
def tw9725078032772893313:=0
def tw1503813133245480440:=0
def tw15994091059470179445:=0
def tw8327211352073583593:=0
def tw6379379521733741557:=0
def tw13336020051060322900:=0
def tw14746216273046102055:=0
def tw707817529780529565:=0
def tw5258454641168283744:=0
def tw7016845738994036241:=0
def tw9601204054557408589:=0
def tw14627384054377940448:=0
def tw3958324724096699502:=0
def tw5927111210259538127:=0
def tw17832245601718579858:=0
def tw1761985218250525419:=0
def tw6044657369787725525:=0
def tw8065912991866841460:=0
def tw13324495306077162930:=0
def tw7645154102773311819:=0
def tw10923292459795289834:=0
def tw3371372731393844098:=0
def tw9762209533111832162:=0
def tw10572504868087645568:=0
def tw15565570656868868611:=0
def tw15900779495669355446:=0
def tw12007151208238777049:=0
def tw2367685040908087296:=0
def tw492673920149361117:=0
def tw13322057686793193226:=0
def tw7015622819037146568:=0
def tw3000712000101367867:=0
def tw8693692451219928142:=0
def tw4467725284229501007:=0
def tw35764788044262768:=0
def tw13680160440229766391:=0
def tw999070648633183033:=0
def tw9800634976243295939:=0
def tw753652856252110410:=0
def tw16714770312426966654:=0
def tw14691093319310694472:=0
def tw256002848499988997:=0
def tw5003524917384521388:=0
def tw17681228940551058046:=0
def tw1540859017170683750:=0
def tw61153905729311978:=0
def tw17077925553122697838:=0
def tw1715236068735356901:=0
def tw6047817233218723568:=0
def tw15119715996679919175:=0
def tw4133528148179924787:=0
def tw18143164922048156224:=0
def tw3067481002981008227:=0
def tw15782104584668969881:=0
def tw12813357999550479831:=0
def tw6059896103324527758:=0
def tw2414986049061303081:=0
def tw11076028937109637428:=0
def tw13896612006322928897:=0
def tw4323366060950111028:=0
def tw10921249149621460041:=0
def tw12818070905463317543:=0
def tw17677350049783311960:=0
def tw4243815771067372053:=0
def tw7691170924572573855:=0
def tw18309078367342897406:=0
def tw2119492376164000830:=0
def tw2484271603940105657:=0
def tw155514478686787347:=0
def tw9084654898553239957:=0
def tw15595849277823898418:=0
def tw12833044518235395078:=0
def tw8177506322736272105:=0
def tw17382671903884997595:=0
def tw8011545492003957543:=0
def tw14040166887121162080:=0
def tw13521032933047599565:=0
def tw4846991752909199944:=0
def tw2309293592422087586:=0
def tw17980405925983879519:=0
def tw11789479261251884924:=0
def tw1794418112807514293:=0
def tw1757440489330041135:=0
def tw8599301005252284011:=0
def tw9619426909785761178:=0
def tw17501910798675921047:=0
def tw11373849375765581766:=0
def tw2401296835412425754:=0
end PySem.W.Fast
open PySem PySem.W PyProof.Rows
set_option maxRecDepth 100000 in
set_option maxHeartbeats 0 in
theorem PySem.Challenge.cw_treesay_k73_whole_following_carries_holds : PySem.Challenge.rw_treesay_k73_whole_following_carries.Holds := by
 w_on; o_law; k_head; (case hw=>w_witness2)
 k_fill
 refine Ts.walk (l:=PySem.Challenge.rw_treesay_k73_whole_following_carries) rfl rfl (fun w h Y=>by first | exact PySem.W.kIn_of Y | exact PySem.W.km_in_of Y) ?F
 case F =>
  intro w mg fa h KX G hmg
  refine' Ts.all_mk KX G hmg (Sy.Lf KX G ?_ ?_ ?_ ?_ ?_ ?_ ?_ ?_ ?_ ?_ ?_ ?_ ?_ ?_ ?_ ?_ ?_ ?_) ?_ ?_ ?_ ?_ ?_ ?_ ?_ ?_ ?_ ?_ ?_ ?_ ?_ ?_ ?_ ?_ ?_ ?_ ?_ ?_ ?_ ?_ ?_ ?_ ?_ ?_ ?_ ?_ ?_ ?_ ?_ ?_ ?_ ?_ ?_ ?_ ?_ ?_ ?_ ?_ ?_ ?_ ?_ ?_ ?_ ?_ ?_ ?_ ?_ ?_ ?_ ?_ ?_ ?_ ?_ ?_ ?_ ?_ ?_ ?_ ?_ ?_ ?_ ?_ ?_ ?_ ?_ ?_ ?_ ?_ ?_ ?_ ?_ ?_
  all_goals first | refine' Sy.Ld ?_ ⟨?_,?_,?_,?_⟩ (L2.jN ?_ ?_ ?_) ⟨?_,?_,?_,?_⟩ ?_ | refine' Sy.Lb ?_ ⟨?_,?_,?_,?_⟩ (L2.jN ?_ ?_ ?_) | refine' Ts.RQ ⟨?_,?_,?_⟩ (L2.jN ?_ ?_ ?_) | refine' Ts.RP ?_ (L2.jN ?_ ?_ ?_) | refine' Ts.Fo ?_ ?_ ?_ | refine' ⟨?_,?_,?_,?_⟩ | skip
  all_goals repeat' first | refine' And.intro ?_ ?_ | exact True.intro
  all_goals first | k_is | skip
  all_goals first | k_is | skip
#print axioms PySem.Challenge.cw_treesay_k73_whole_following_carries_holds
