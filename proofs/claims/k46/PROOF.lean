import PyProof.Rows.All
import Wide.All
import OpenK.AllK
import Wide.FinOn
import Lean
import PyProof.EqAt
import PyProof.EqKinds
import PyProof.TupleCall
import PyProof.NeKinds
import PyProof.EnumStmt
import PyProof.EnumMake
import PyProof.CompFree
import PyProof.Rows.FStr
import PySem.Challenge.RW_treesay_k46_table_of_parts
open PySem renaming wpAny_bind->aag,wpAny_pure->aah,wpAny_setState_of->aau,boot_len->aa2,mainGlobals->aa3,wpAny_holding->aa6,mem_of_lookup->abb,wpAny_setEpoch_of->abf,wpAny_Call_Name_kw->abg,wpAny_mono->abm,wpAny_truthy_bool->abn,Spec->abr,wpAny_call_entry->abu,fits_of_scanBound->aby,wpAny_newObj_type->abz,wpAny_storeSet_of->ab0,wpAny_passesOwn->ab6,wpAny_forIn_list->acf,codeAny_builtin->aci,wpAny_setField->acr,codeAny_mono->acv,wpAny_askSetting->acw,tupleKind_room_in1->ac7,entryFor_alias->adk,wpAny_pyIter_list->adn,builtinLookup_eq_fast->adp,wpAny_isInstance->adv,wpAny_rule->adw,plainId_quiet->adz,wpAny_execs_nil->ad2,wpAny_binaryOp_same->ad3,call_meets->aee,sub_set_self->aef,typeLookup_type->aeg,wpAny_ite_split->aeh,seqIndex_of->aek,wpAny_BinOp->ael,wpAny_standAt->aep,Within->aex,seqIndex_neg->aez,wpAny_typeOf->ae0
open Bool renaming false_ne_true->aai,false_eq_true->aay,and_eq_true->aaz,not_true->abk,eq_iff_iff->abo,or_eq_true->ac4,not_false->aei,and_self->aem
open List renaming getElem?_eq_getElem->aaj,getElem?_eq_some_iff->aal,range->aax,getElem?_eq_none->abe,getElem?_set->acn,map->aev
open Nat renaming le_refl->aak,ne_of_lt->aan,lt_of_le_of_lt->aap,lt_of_lt_of_le->aaq,le_trans->aas,zero_le->aa0,lt_irrefl->aa9,lt_succ_self->abp,succ_le_succ->abq,le_succ->abw,not_lt_zero->ab2,le_of_lt->ab3,le_add_right->ab4,le_of_lt_succ->aco,pow_le_pow_right->acp,ne_of_gt->acu,lt_of_succ_lt_succ->adf,lt_succ_of_lt->adg,lt_trans->ad4,le_of_succ_le->ad7,succ_pos->aec,mod_lt->aer,zero_add->aew
open Option.some renaming inj->aam
open PySem.F renaming plainAttrs_list->aao,slot_list_append->aav,type_list_append->aaw,slot_list_extend->ac2,type_list_extend->ac3,slot_dict_get->ado
open Array renaming getElem?_eq_getElem->aar,getElem?_eq_none->abh
open PySem.PassesOwn renaming never->aat
open PySem.Builtin renaming bitAnd->aa1,bitNot->ace,bitOr->acj
open PySem.Builtin.Frozenset renaming unchanged->aa4,copyOf->acz
open PyProof.Rows renaming callWith_type1->aa5,envOfC->acy,Constant_none->aen
open PySem.Value renaming ref->aa7,int->abt,isInt_shape->ab9,none->ac6,type->adt
open PySem.NameKind renaming free->aa8,cell->ac1
open False renaming elim->abd
open Sum renaming inl->abj,inr->abv
open Option renaming isSome_iff_exists->abl,map_eq_some_iff->adh,isSome_some->ad5,isSome_map->ad8,none->ae3
open Int renaming toNat_natCast->abx,ofNat->acs,emod_lt_of_pos->ac5,emod_nonneg->ad0,le_refl->ad6
open ForInStep renaming yield->ab1
open PySem.Builtin.Slice renaming slicePlaces->ab5
open PySem.Around renaming under_plainId->ab7
open Ne renaming symm->ab8
open True renaming intro->acd
open PySem.Calls renaming spliced_cons->acg,callWith_builtin->adb,spliced_nil->ade
open PySem.Obj renaming mapSeq->ach,mapFields->aea,putSet->aes
open PySem.W renaming cellsFrom_some->acq,kia_one->adl,methodCall_KW->ady,OpenLaw->ad1,callWith_K->aed,plainGet_of->aej
open PySem.Builtin.List renaming listTooLong->ac0
open PySem.Builtin.Str renaming occurrences->ac8
open PyProof.Rows.F renaming plain_set_update_loop->ac9
open PySem.Str renaming empty->ada,ofString->adi
open PySem.SeqAt renaming EqAt->adq
open LawfulBEq renaming eq_of_beq->adu
open PySem.SetTable renaming fill->adx
open Prod.mk renaming inj->ad9
open PySem.Paired renaming length->aeb,snoc->ae4
open PySem.Value.ref renaming inj->aeo
open Iff renaming rfl->aeu
open PySem.pickOrder renaming go->aey
open PySem.Data renaming cell->ae1,fields->ae2
open PySem.W (instObj methodObj Frag lookIn plainGet hasDictIn findIn plainGet_of isFn takerIn typeIn emptyDict keepIn methodCall_KW specialIn takesIn mroIn kitOne kia_one callWith_K cellsFrom_some fnOf codeIn isClsIn nsIn mg_of)
open List (mem_filter mem_range filterMap_cons mem_cons_of_mem mem_cons mem_append mem_append_left getElem_inj getElem?_set_self getElem?_set_ne mem_append_right size_toArray length_map append_nil nodup_cons of_mem_zip replicate length_take getElem?_append_right getElem?_append_left getElem?_map getElem?_take_of_lt mem_of_getElem? length_append any_cons filterMap_map length_drop length_set all_cons reverse_cons Pairwise mem_cons_self all_eq_true lookup_append getD_eq_getElem?_getD toArray map_cons getElem?_cons_zero append_assoc map_append mem_map take_append_drop take_add_one Sublist take_length length_range getElem?_zip_eq_some length_cons range_succ_eq_map filter_cons length_singleton mem_iff_getElem? mem_singleton nodup_append getElem?_range any_eq_true getElem_mem getElem_of_mem Perm pairwise_cons find?_cons getElem?_toArray length_eq_zero_iff length_eraseIdx ext_getElem? map_map set_set map_id' mem_of_mem_take mem_flatten flatten_append flatten_singleton flatten_cons flatMap_append)
open PySem.Heap (lt_size SameBut get?_push_of_some get?_push_size size_push get?_update_self get?_update_other)
open Array (length_toList getElem?_toList forIn_toList size_map)
open PySem.SetTable (below insertAt probe grown fits eraseAt)
set_option Elab.async false
set_option linter.all false
set_option maxRecDepth 100000
abbrev LI:=List Int
noncomputable section
namespace L2
open PySem PySem.Spec PyProof.Rows
abbrev Key:=Sum Int Str
def Mf:Key->Value->Bool
 |.inl k,v=>Value.isInt k v
 |.inr x,v=>Value.isStrOf x v
def VP(w:World):Key->Int
 |.inl k=>hashInt k
 |.inr x=>hashStr w x
theorem xP:∀{k:Key}{v:Value},Mf k v=true->(∃i t,k=abj i/\v=abt i t)\/(∃x t,k=abv x/\v=Value.str x t)
 |.inl i,v,h=>by
  obtain⟨t,e⟩:=ab9 (k:=i) (v:=v) h
  exact .inl ⟨i,t,rfl,e⟩
 |.inr x,v,h=>by
  obtain⟨t,e⟩:=Value.isStrOf_shape (x:=x) (v:=v) h
  exact .inr ⟨x,t,rfl,e⟩
theorem zQq(i:Int)(t:Tok):Mf (.inl i) (.int i t)=true:=by simp[Mf,Value.isInt]
theorem zQp(x:Str)(t:Tok):Mf (.inr x) (.str x t)=true:=by simp[Mf,Value.isStrOf]
theorem Hu(a b:Int):decide ((abj a:Key)=abj b)=(a==b):=by
 grind
theorem Hv(a b:Str):decide ((abv a:Key)=abv b)=decide (a=b):=by
 grind
theorem Hw(a:Int)(b:Str):decide ((abj a:Key)=abv b)=false:=decide_eq_false (λq=>nomatch q)
theorem Hx(a:Str)(b:Int):decide ((abv a:Key)=abj b)=false:=decide_eq_false (λq=>nomatch q)
def wD(prog:Program)(w:World):PySem.KeyKind prog w Key where
 is:=Mf
 hash:=VP w
 inj:=λv a b m g=>by
  rcases xP m with⟨i,t,rfl,rfl⟩|⟨x,t,rfl,rfl⟩
  ·rcases xP g with⟨j,u,rfl,e⟩|⟨y,u,rfl,e⟩
   ·injection e with d _;rw[d]
   ·exact nomatch e
  ·rcases xP g with⟨j,u,rfl,e⟩|⟨y,u,rfl,e⟩
   ·exact nomatch e
   ·injection e with d _;rw[d]
 byValue:=λk v h=>by
  rcases xP h with⟨i,t,rfl,rfl⟩|⟨x,t,rfl,rfl⟩<;>rfl
 pyHash:=λf h=>by
  rcases xP f with⟨i,t,rfl,rfl⟩|⟨x,t,rfl,rfl⟩
  ·exact wpAny_pyHash_int h
  ·exact wpAny_pyHash_str h
 eqBool:=λl f h=>by
  rcases xP l with⟨i,t,rfl,rfl⟩|⟨x,t,rfl,rfl⟩
  ·rcases xP f with⟨j,u,rfl,rfl⟩|⟨y,u,rfl,rfl⟩
   ·rw[Hu] at h;exact wpAny_eqBool_int h
   ·rw[Hw] at h;exact SeqAt.EqAt.int_str i t y u _ _ _ _ h
  ·rcases xP f with⟨j,u,rfl,rfl⟩|⟨y,u,rfl,rfl⟩
   ·rw[Hx] at h;exact SeqAt.EqAt.str_int x t j u _ _ _ _ h
   ·rw[Hv] at h;exact wpAny_eqBool_str h
 «strs»:=λk x t v h=>by
  rcases xP h with⟨i,u,rfl,e⟩|⟨y,u,rfl,e⟩
  ·exact nomatch e
  ·injection e with d _
   subst d
   cases v<;>rfl
theorem zKv(prog:Program)(w:World)(i:Int)(t:Tok):(wD prog w).is (.inl i) (.int i t)=true:=zQq i t
theorem zKu(prog:Program)(w:World)(x:Str)(t:Tok):(wD prog w).is (.inr x) (.str x t)=true:=zQp x t
inductive V where
 |non|bl (b:Bool)|int (i:Int)|str (x:Str)|qt (b:Array UInt8)|flt (b:UInt64)|ref (a:Addr)|ty (n:String)
 deriving DecidableEq
def RelV:V->Value->Prop
 |.non,u=>u=ac6
 |.bl b,u=>u=Value.bool b
 |.int i,u=>∃t,u=abt i t
 |.str x,u=>∃t,u=Value.str x t
 |.qt b,u=>∃t,u=Value.bytes b t
 |.flt b,u=>∃t,u=Value.float b t
 |.ref a,u=>u=aa7 a
 |.ty n,u=>u=adt n
abbrev Vals:List V->List Value->Prop:=Paired RelV
theorem Vals.length(r:Vals xs us):xs.length=us.length:=aeb r
theorem Vals.get:∀{xs:List V}{us:List Value}{i:Nat}{x:V},Vals xs us->xs[i]?=some x->∃u,us[i]?=some u/\RelV x u
 |_,_,_,_,.nil,e=>by simp at e
 |_,_,0,_,.cons r _,e=>by simp at e;subst e;exact⟨_,rfl,r⟩
 |_,_,i+1,x,.cons _ t,e=>by
  obtain⟨u,h1,h2⟩:=Vals.get (i:=i) (x:=x) t (by simpa using e)
  exact⟨u,by simpa using h1,h2⟩
theorem Vals.set(r:RelV x u):∀{xs:List V}{us:List Value}(i:Nat),Vals xs us->Vals (xs.set i x) (us.set i u)
 |_,_,_,.nil=>.nil
 |_,_,0,.cons _ t=>.cons r t
 |_,_,i+1,.cons q t=>.cons q (Vals.set r i t)
theorem Vals.append:∀{xs ys:List V}{us ws:List Value},Vals xs us->Vals ys ws->Vals (xs++ys) (us++ws)
 |_,_,_,_,.nil,s=>s
 |_,_,_,_,.cons r t,s=>.cons r (Vals.append t s)
theorem Vals.take:∀{xs:List V}{us:List Value}(n:Nat),Vals xs us->Vals (xs.take n) (us.take n)
 |_,_,0,_=>.nil
 |_,_,_+1,.nil=>.nil
 |_,_,n+1,.cons r t=>.cons r (Vals.take n t)
theorem Vals.drop:∀{xs:List V}{us:List Value}(n:Nat),Vals xs us->Vals (xs.drop n) (us.drop n)
 |_,_,0,r=>r
 |_,_,_+1,.nil=>.nil
 |_,_,n+1,.cons _ t=>Vals.drop n t
theorem Vals.none_of:∀{xs:List V}{us:List Value}{i:Nat},Vals xs us->xs[i]?=none->us[i]?=none:=λ{xs us i} r e=>by
 have h1:=r.length
 have h2:xs.length<=i:=List.getElem?_eq_none_iff.mp e
 exact List.getElem?_eq_none_iff.mpr (by omega)
noncomputable def gD:Option V->Option Value->Prop
 |some v,some u=>RelV v u
 |none,none=>True
 |_,_=>False
def KV{κ:Type}:List (κ×V)->List (κ×Value)->Prop:=Paired λ(p:κ×V) (q:κ×Value)=>p.1=q.1/\RelV p.2 q.2
def kV:Key->V
 |.inl i=>.int i
 |.inr x=>.str x
inductive HO where
 |lst (xs:List V)
 |tup (xs:List V)
 |dK (kvs:List (Key×V))|dT (kvs:List (List Key×V))
 |set (S:Int->Bool) (n:Nat)
 |ins (C dx:Addr) (fs:List (Str×V))
 |own (x:Addr)
 |xd (fs:List (Str×V))
 |met (f x:Addr)
 |rng (lo hi:Int)
 |mQ (o:Obj) (u:HO)
 |Hy (ps:Array Value)
 |ext (φ:Heap->Prop)
abbrev Hp:=Addr->Option HO
def upd(H:Hp)(a:Addr)(o:HO):Hp:=λb=>if b=a then some o else H b
theorem zJ:upd H a o a=some o:=by unfold upd;grind
theorem zN(h:b≠a):upd H a o b=H b:=by unfold upd;rw[if_neg h]
theorem Od{H:Hp}{a b:Addr}{o u:HO}(h:H a=some o)(h':H b=some u)(d:o≠u):a≠b:=by
 grind
theorem zL{H:Hp}{a b:Addr}{o:HO}(h:H a=some o)(h':H b=none):a≠b:=by
 grind
section
variable(P:Program)(w:World)
def bJ(H:Hp)(h:Heap)(a:Addr):HO->Prop
 |.lst e=>e.length<=sizeLine/\∃(b:List Value)(n:Nat),Vals e b/\h.get? a=some { cls:=.type "list",data:=.seq b.toArray n }
 |.tup e=>e.length<=sizeLine/\∃b:List Value,Vals e b/\IsTup h a b.toArray
 |.dK d=>d.length<=sizeLine/\(a==sysModules)=false/\∃l,KV d l/\h.DictOf (wD P w) a l
 |.dT d=>d.length<=sizeLine/\(a==sysModules)=false/\∃e:List (List Key×Addr×Value),
   Paired (λ(p:List Key×V) (q:List Key×Addr×Value)=>p.1=q.1/\H q.2.1=some (.tup (p.1.map kV))/\RelV p.2 q.2.2) d e /\
   ∃o k z,h.get? a=some o/\o.ExactDict/\o.data=.dict k z/\k.toList=e.map (entryOfKey (tupleKind (wD P w)))/\(e.map (·.1)).Nodup
 |.set S n=>h.SetOf (intKind P w) a S n
 |.ins C j i=>H j=some (.own a)/\i.length<=1000/\j≠a/\h.get? a=some (instObj C j) /\
   ∃g,h.Ns1 j g/\(∀f,gD (i.lookup f) (g f))/\aex g (i.map (·.1))
 |.own _=>∃o,h.get? a=some o
 |.xd i=>∃g,h.Ns1 a g/\∀f,gD (i.lookup f) (g f)
 |.rng lo s=>∃t u v,h.get? a=some { cls:=.type "range",data:=.fields #[.int lo t,.int s u,.int 1 v] }
 |.mQ o u=>h.get? a=some o/\bJ H h a u
 |.Hy y=>h.get? a=some { cls:=.none,data:=.fields y }
 |.met f x=>h.get? a=some (methodObj (.ref f) (.ref x))
 |.ext φ=>φ h/\(∃o,h.get? a=some o)/\∀r m:Heap,φ r->(∀o,r.get? a=some o->m.get? a=some o)->φ m
def eZ(H:Hp)(h:Heap):Prop:=∀a o,H a=some o->bJ P w H h a o
end
section
variable{P:Program}{w:World}{H H':Hp}{h h':Heap}{a:Addr}{o:HO}
theorem bJ.lt(x:bJ P w H h a o):a<h.objs.size:=by
 cases o with
 |lst d=>obtain⟨_,_,_,_,e⟩:=x;exact lt_size e
 |tup d=>obtain⟨_,_,_,p⟩:=x;exact p.lt
 |dK b=>obtain⟨_,_,_,_,o,_,_,e,_⟩:=x;exact lt_size e
 |dT b=>obtain⟨_,_,_,_,o,_,_,e,_⟩:=x;exact lt_size e
 |set S n=>obtain⟨o,_,_,_,e,_⟩:=x;exact lt_size e
 |ins C dx c=>obtain⟨_,_,_,e,_⟩:=x;exact lt_size e
 |own y=>obtain⟨_,e⟩:=x;exact lt_size e
 |xd c=>obtain⟨_,⟨_,_,_,e,_⟩,_⟩:=x;exact lt_size e
 |rng lo hi=>obtain⟨_,_,_,e⟩:=x;exact lt_size e
 |mQ ob u=>obtain⟨e,_⟩:=x;exact lt_size e
 |Hy ps=>exact lt_size (x)
 |met f y=>exact lt_size (x)
 |ext φ=>obtain⟨_,⟨_,e⟩,_⟩:=x;exact lt_size e
theorem Paired.Hz{α β:Type}{F G:α->β->Prop}:∀{l₁:List α}{l₂:List β},Paired F l₁ l₂->(∀a b,F a b->G a b)->Paired G l₁ l₂
 |_,_,.nil,_=>.nil
 |_,_,.cons r t,f=>.cons (f _ _ r) (Paired.Hz t f)
theorem bJ.stay(x:bJ P w H h a o)(k:∀b u,(b=a\/H b=some (.own a))->h.get? b=some u->h'.get? b=some u)(ho:∀b,H b=some (.own a)->H' b=some (.own a))(ht:∀b xs,H b=some (.tup xs)->H' b=some (.tup xs)):bJ P w H' h' a o:=by
 induction o with
 |lst xs=>obtain⟨z,its,n,r,e⟩:=x;exact⟨z,its,n,r,k _ _ (.inl rfl) e⟩
 |tup xs=>obtain⟨z,its,r,ob,e,c⟩:=x;exact⟨z,its,r,ob,k _ _ (.inl rfl) e,c⟩
 |dK kvs=>obtain⟨z,y,vs,r,ob,es,ep,e,c⟩:=x;exact⟨z,y,vs,r,ob,es,ep,k _ _ (.inl rfl) e,c⟩
 |dT kvs =>
  obtain⟨z,y,xs,r,ob,es,ep,e,c⟩:=x
  exact⟨z,y,xs,Paired.Hz r λp q z=>⟨z.1,ht _ _ z.2.1,z.2.2⟩,ob,es,ep,k _ _ (.inl rfl) e,c⟩
 |set S n=>obtain⟨ob,es,ep,t,e,c⟩:=x;exact⟨ob,es,ep,t,k _ _ (.inl rfl) e,c⟩
 |ins C dx fs =>
  obtain⟨d,z,ne,e,mA,⟨od,es,ep,e2,c⟩,r⟩:=x
  exact⟨ho _ d,z,ne,k _ _ (.inl rfl) e,mA,⟨od,es,ep,k _ _ (.inr d) e2,c⟩,r⟩
 |own y=>obtain⟨ob,e⟩:=x;exact⟨ob,k _ _ (.inl rfl) e⟩
 |xd fs=>obtain⟨mA,⟨od,es,ep,e,c⟩,r⟩:=x;exact⟨mA,⟨od,es,ep,k _ _ (.inl rfl) e,c⟩,r⟩
 |rng lo hi=>obtain⟨t,u,v,e⟩:=x;exact⟨t,u,v,k _ _ (.inl rfl) e⟩
 |mQ ob u ih=>obtain⟨e,q⟩:=x;exact⟨k _ _ (.inl rfl) e,ih q⟩
 |Hy ps =>
  have e:h.get? a=some { cls:=.none,data:=.fields ps }:=x
  show h'.get? a=some { cls:=.none,data:=.fields ps }
  exact k a _ (.inl rfl) e
 |met f y =>
  have e:h.get? a=some (methodObj (.ref f) (.ref y)):=x
  show h'.get? a=some (methodObj (.ref f) (.ref y))
  exact k a _ (.inl rfl) e
 |ext φ=>obtain⟨p,⟨o,e⟩,st⟩:=x;exact⟨st _ _ p λo q=>k _ _ (.inl rfl) q,⟨o,k _ _ (.inl rfl) e⟩,st⟩
theorem eZ.lt(x:eZ P w H h)(e:H a=some o):a<h.objs.size:=(x a o e).lt
theorem eZ.fresh(x:eZ P w H h)(e:h.objs.size<=a):H a=none:=by
 cases q:H a with
 |none=>rfl
 |some u=>exact absurd (aaq (x.lt q) e) (aa9 _)
theorem eZ.kept(x:eZ P w H h)(k:∀b u,h.get? b=some u->h'.get? b=some u):eZ P w H h':=λa o e =>
 (x a o e).stay (λb u _ q=>k b u q) (λ_ q=>q) λ_ _ q=>q
theorem eZ.laid(x:eZ P w H h)(k:∀b u,h.get? b=some u->h'.get? b=some u)(g:h.objs.size<=a)(new:bJ P w (upd H a o) h' a o):eZ P w (upd H a o) h':=λb u e=>by
 have f:=x.fresh g
 by_cases d:b=a
 ·subst d;rw[zJ] at e;grind
 ·rw[zN d] at e
  exact(x b u e).stay (λc v _ q=>k c v q) (λc q=>by rw[zN (zL q f)];exact q) λc xs q=>by rw[zN (zL q f)];exact q
end
def Rd(H:Hp)(a:Addr)(u:HO):Prop:=H a=some u\/∃o,H a=some (.mQ o u)
theorem Rd.ok(r:Rd H a u)(x:eZ P w H h):bJ P w H h a u:=by
 rcases r with r|⟨o,r⟩
 ·exact x a u r
 ·obtain⟨_,q⟩:=x a _ r
  exact q
noncomputable def Oe:Option HO->Prop
 |some (.lst _)=>True
 |some (.dK _)=>True
 |some (.dT _)=>True
 |some (.set _ _)=>True
 |some (.ins _ _ _)=>True
 |some (.ext _)=>True
 |_=>False
section
variable{P:Program}{w:World}{H:Hp}{h h':Heap}{x e:Addr}{o':HO}
theorem eZ.write(m:eZ P w H h)(g:Oe (H x))(he:e=x\/H e=some (.own x))(k:∀b u,b≠e->h.get? b=some u->h'.get? b=some u)(i:∃u,h'.get? e=some u)(new:bJ P w (upd H x o') h' x o'):eZ P w (upd H x o') h':=λb u q=>by
 have a:∀c y,H c=some (.own y)->c≠x:=λc y r z=>by subst z;rw[r] at g;exact g
 have d:∀c f,H c=some (.tup f)->c≠x:=λc f r z=>by subst z;rw[r] at g;exact g
 by_cases j:b=x
 ·subst j;rw[zJ] at q;grind
 ·rw[zN j] at q
  by_cases hbe:b=e
  ·have l:H b=some (.own x):=by
    grind
   rw[q] at l;cases l
   obtain⟨v,hv⟩:=i
   exact⟨v,by grind⟩
  ·refine(m b u q).stay (λc v hc r=>k c v ?_ r) (λc r=>by rw[zN (a c b r)];exact r) λc f r=>by rw[zN (d c f r)];exact r
   grind
end
structure Un(fs ex:List Addr)(H H':Hp)(h h':Heap):Prop where
 keep:∀b o,h.get? b=some o->H b=none->b∉fs->b∉ex->h'.get? b=some o
 slot:∀b o,h.get? b=some o->H b=none->b∈fs->b∉ex->∃sl,h'.get? b=some { o with slots:=sl }
 free:∀b o,h.get? b=some o->H b=none->b∉ex->H' b=none
 there:∀b o,h.get? b=some o->b∉ex->∃o',h'.get? b=some o'
 tups:∀b xs,H b=some (.tup xs)->H' b=some (.tup xs)
 j7:∀b o u,H b=some (.mQ o u)->H' b=some (.mQ o u)
 lX:∀b ps,H b=some (.Hy ps)->∃more,H' b=some (.Hy (ps++more))
section
variable{fs fs' ex ex':List Addr}{H H1 H2:Hp}{h h1 h2 h':Heap}{a x e:Addr}{o:HO}
theorem Un.any(u:Un fs ex H H1 h h1)(q:h.get? b=some ob)(n:H b=none)(d:b∉ex):∃f,h1.get? b=some { ob with slots:=f }:=by
 by_cases c:b∈fs
 ·exact u.slot b ob q n c d
 ·exact⟨ob.slots,u.keep b ob q n c d⟩
theorem Un.kept(k:∀b u,h.get? b=some u->h'.get? b=some u):Un fs ex H H h h' :=
 ⟨λb ob q _ _ _=>k b ob q,λb ob q _ _ _=>⟨ob.slots,k b ob q⟩,λ_ _ _ n _=>n,λb ob q _=>⟨ob,k b ob q⟩,λ_ _ q=>q,λ_ _ _ q=>q,λ_ ps q=>⟨#[],by rw[q];simp⟩⟩
theorem Un.refl:Un fs ex H H h h:=Un.kept λ_ _ q=>q
theorem Un.laid(k:∀b u,h.get? b=some u->h'.get? b=some u)(d:h.objs.size<=a)(c:H a=none):Un fs ex H (upd H a o) h h' where
 keep:=λb u q _ _ _=>k b u q
 slot:=λb u q _ _ _=>⟨u.slots,k b u q⟩
 free:=λb u q n _=>by rw[zN (aan (aaq (lt_size q) d))];exact n
 there:=λb u q _=>⟨u,k b u q⟩
 tups:=λb f q=>by rw[zN (zL q c)];exact q
 j7:=λb u f q=>by rw[zN (zL q c)];exact q
 lX:=λb ps q=>⟨#[],by rw[zN (zL q c),q];simp⟩
theorem Un.write(d:Oe (H x))(he:e=x\/H e=some (.own x))(k:∀b u,b≠e->h.get? b=some u->h'.get? b=some u)(heo:∃u,h'.get? e=some u):Un fs ex H (upd H x o) h h':=by
 have g:∀b,H b=none->b≠x:=λb n z=>by subst z;rw[n] at d;exact d
 have f:∀b,H b=none->b≠e:=λb n z=>by
  grind
 have c:∀b u,H b=some u->¬Oe (some u)->b≠x:=λb u q nm z=>by grind
 refine⟨λb u q n _ _=>k b u (f b n) q,λb u q n _ _=>⟨u.slots,k b u (f b n) q⟩,λb u q n _=>by rw[zN (g b n)];exact n,λb u q _=>?_,
  λb i q=>by rw[zN (c b _ q λz=>z)];exact q,λb u i q=>by rw[zN (c b _ q λz=>z)];exact q,λb ps q=>⟨#[],by rw[zN (c b _ q λz=>z),q];simp⟩⟩
 grind
end
def S8(h:Heap)(H:Hp):List Addr:=(aax h.objs.size).filter λa=>(H a).isSome
def nD(h:Heap)(H:Hp):Heap:=PySem.W.hideAll h (S8 h H)
theorem zQy(h:Heap)(H:Hp):(nD h H).objs.size=h.objs.size:=PySem.W.hideAll_size _ _
theorem zUd{h:Heap}(e:h.get? b=some o)(n:H b=none):(nD h H).get? b=some o :=
 PySem.W.hideAll_get _ e λa=>by
  have q:=(mem_filter.mp a).2
  grind
theorem z6(e:(nD h H).get? b=some o):h.get? b=some o/\H b=none:=by
 have c:=PySem.W.of_hideAll (S8 h H) e
 refine⟨c,?_⟩
 cases q:H b with
 |none=>rfl
 |some x =>
  have d:b∈S8 h H:=mem_filter.mpr ⟨mem_range.mpr (lt_size c),by simp[q]⟩
  have z:(nD h H).get? b=none:=PySem.W.hideAll_none (S8 h H) d
  grind
def z7(g h:Heap)(L:Addr):List (Addr×Obj):=(aax h.objs.size).filterMap λa=>if a=L\/(g.get? a).isSome=true then none else(h.get? a).map λo=>(a,o)
def rest(g h:Heap)(L d:Addr):List (Addr×Obj):=(z7 g h L).filter λp=>decide (p.1≠d)
structure Mod(K:Frag)(mg:Str->Option Value)(base:Heap):Prop where
 Mg:K.In base
 glob:base.Ns aa3 mg
 blt:∃mb,base.Ns builtinsNs mb/\∀x:Str,x ≠ "__name__"->mb x=bootBuiltins x
 nolimit:base.NoLimit
structure Cx where
 prog:Program
 w:World
 K:Frag
 mg:Str->Option Value
 base:Heap
 A:Around
 N:List Str
 s₀:Shared
 H₀:Hp
 env:Env
 outer:List Env
 stack:List Env
 ex:List Addr
 fn:Str->Bool
 calm:Bool
 pn:List (Addr×Obj)
 xe:Value->Shared->Prop
def frs(l:List Env):List Addr:=l.filterMap (·.frame)
abbrev Cx.fs(X:Cx):List Addr:=frs X.outer
def Og(a:Scope)(x:Str):Prop:=a.names.lookup x=some .local\/a.names.lookup x=some .cell\/a.names.lookup x=some .free
def Loc(a:Scope)(x:Str):Prop:=a.names.lookup x=some .local\/a.names.lookup x=some .cell
def Look(env:Env)(h:Heap)(m:Str->Option Value)(x:Str)(u:Value):Prop :=
 (env.kindOf x=some .local/\m x=some u)\/((env.kindOf x=some .cell\/env.kindOf x=some .free)/\∃c,env.cells.lookup x=some c/\h.IsCell c (some u))
structure Cx.Ok(X:Cx):Prop where
 mod:Mod X.K X.mg X.base
 kind:X.env.scope.kind=.function
 glob:X.env.globals=aa3
 blt:X.env.builtins=builtinsNs
 above:X.s₀.heap.objs.size<=X.env.locals
 inj:∀x y c,X.env.cells.lookup x=some c->X.env.cells.lookup y=some c->x=y
 has:∀x,(X.env.kindOf x=some .cell\/X.env.kindOf x=some .free)->∃c,X.env.cells.lookup x=some c
 cab:∀x c,X.fn x=true->X.env.cells.lookup x=some c->X.s₀.heap.objs.size<=c
 hd:X.calm=true->X.A.handled=none
 frames:X.A.frames=some X.stack
 stk:X.stack=X.outer\/(X.stack=X.env::X.outer/\X.env.frame=some X.env.locals)
 S9:∀b∈X.ex,b≠X.env.locals/\∀x c,X.env.cells.lookup x=some c->c≠b
 bs:∀b o,X.base.get? b=some o->X.s₀.heap.get? b=some o/\X.H₀ b=none
 z8:X.base.objs.size<=X.s₀.heap.objs.size
 tV:∀b o,X.base.get? b=some o->b∉X.ex
 tW:∀b∈X.ex,b∉X.fs
 jT:X.s₀.heap.FunFrames X.base X.outer
 HB:∀b∈X.fs,X.H₀ b=none
structure Inv(X:Cx)(pins:List (Addr×Obj))(σ:List (Option V))(H:Hp)(s:Shared):Prop where
 ok:X.Ok
 os:s.os=X.s₀.os
 bare:AllBare s.gens
 base:Un X.fs X.ex X.H₀ H X.s₀.heap s.heap
 loc:∃m,s.heap.Ns X.env.locals m/\∀(i:Nat)(x:Str)(v:V),X.N[i]?=some x->σ[i]?=some (some v)->Og X.env.scope x->∃u,RelV v u/\Look X.env s.heap m x u
 cell:∀x c,X.env.cells.lookup x=some c->∃v,s.heap.IsCell c v
 free:H X.env.locals=none
 fH:∀x c,X.env.cells.lookup x=some c->H c=none
 pin:∀p∈X.pn++pins,s.heap.get? p.1=some p.2/\H p.1=none/\p.1≠X.env.locals/\p.1∉X.fs/\∀v,p.2.data≠.cell v
 hok:eZ X.prog X.w H s.heap
 len:σ.length=X.N.length
section
variable{X:Cx}{pins:List (Addr×Obj)}{σ:List (Option V)}{H H':Hp}{s:Shared}{h':Heap}
theorem Cx.Ok.VR(c:X.Ok)(e:X.base.get? b=some o):b∉X.fs:=λa=>by
 have:=(c.jT.mem a).1
 grind
theorem Inv.bs(I:Inv X pins σ H s):∀b o,X.base.get? b=some o->s.heap.get? b=some o/\H b=none:=λb o e =>
 ⟨I.base.keep b o (I.ok.bs b o e).1 (I.ok.bs b o e).2 (I.ok.VR e) (I.ok.tV b o e),I.base.free b o (I.ok.bs b o e).1 (I.ok.bs b o e).2 (I.ok.tV b o e)⟩
theorem Inv.bk(I:Inv X pins σ H s):∀b o,X.base.get? b=some o->s.heap.get? b=some o:=λb o e=>(I.bs b o e).1
theorem Inv.mod(I:Inv X pins σ H s):Mod X.K X.mg X.base:=I.ok.mod
theorem Inv.iJ(I:Inv X pins σ H s):X.K.In s.heap:=I.ok.mod.Mg.keeps I.bk
theorem Inv.nolimit(I:Inv X pins σ H s):s.heap.NoLimit:=I.ok.mod.nolimit.keeps I.bk
theorem Inv.lt(I:Inv X pins σ H s):X.env.locals<s.heap.objs.size:=let⟨_,a,_⟩:=I.loc;a.lt
theorem Inv.sz(I:Inv X pins σ H s):X.s₀.heap.objs.size<=s.heap.objs.size:=aas I.ok.above (ab3 I.lt)
theorem Inv.HD(I:Inv X pins σ H s)(h:s.heap.objs.size<=a):a∉X.fs:=λc=>by
 obtain⟨_,o,b,_⟩:=I.ok.jT.mem c
 exact absurd (aaq (lt_size b) (aas I.sz h)) (aa9 _)
theorem Inv.V0(I:Inv X pins σ H s):∀x c,X.env.cells.lookup x=some c->c≠X.env.locals:=λx c e z=>by
 obtain⟨v,o,ho,hd⟩:=I.cell x c e
 obtain⟨m,⟨o',es,ep,ho',hd',_⟩,_⟩:=I.loc
 grind
theorem Inv.jT(I:Inv X pins σ H s):s.heap.FunFrames X.base X.outer:=by
 have a:∀(l:List Env),(∀b∈frs l,b∈X.fs)->X.s₀.heap.FunFrames X.base l->s.heap.FunFrames X.base l:=by
  intro l
  induction l with
  |nil=>intro _ _;trivial
  |cons env r ih =>
   intro g j
   obtain⟨n,⟨L,o,f,h,k,m⟩,i⟩:=j
   have d:=g L (by unfold frs;grind)
   obtain⟨sl,e⟩:=I.base.slot L o k (I.ok.HB L d) d λz=>I.ok.tW L z d
   exact⟨n,⟨L,_,f,h,e,m⟩,ih (λb c=>g b (by unfold frs;rw[filterMap_cons,f];exact mem_cons_of_mem _ c)) i⟩
 exact a X.outer (λ_ c=>c) I.ok.jT
theorem Inv.stack(I:Inv X pins σ H s):s.heap.FunFrames X.base X.stack:=by
 rcases I.ok.stk with e|⟨e,c⟩
 ·rw[e];exact I.jT
 ·rw[e]
  obtain⟨m,b,_⟩:=I.loc
  refine .cons (by rw[I.ok.kind];decide) c b ?_ I.jT
  exact Heap.get?_none_of_le (aas I.ok.z8 I.ok.above)
theorem Inv.nG(I:Inv X pins σ H s):∀b∈frs X.stack,b∈X.env.locals::X.fs:=λb a=>by
 rcases I.ok.stk with e|⟨e,c⟩
 ·grind
 ·rw[e] at a
  unfold frs at a
  rw[filterMap_cons,c] at a
  exact a
theorem Inv.qT(I:Inv X pins σ H s):∀b∈frs X.stack,H b=none:=λb a=>by
 rcases mem_cons.mp (I.nG b a) with e|a
 ·rw[e];exact I.free
 ·obtain⟨_,o,c,_⟩:=I.ok.jT.mem a
  exact I.base.free b o c (I.ok.HB b a) λz=>I.ok.tW b z a
theorem Inv.step{g':Array GenState}{t':Nat}{d':Drawn}{ch:List Addr}(I:Inv X pins σ H s)(hch:∀b∈ch,(b∈X.ex\/X.s₀.heap.objs.size<=b)/\b≠X.env.locals/\(∀x c,X.env.cells.lookup x=some c->c≠b)/\∀p∈X.pn++pins,p.1≠b)(keep:∀b o,b≠X.env.locals->b∉X.fs->b∉ch->s.heap.get? b=some o->H b=none->h'.get? b=some o)(slot:∀b o,b≠X.env.locals->b∈X.fs->b∉ch->s.heap.get? b=some o->H b=none->∃sl,h'.get? b=some { o with slots:=sl })(free:∀b o,b∉ch->s.heap.get? b=some o->H b=none->H' b=none)(there:∀b o,b∉ch->s.heap.get? b=some o->∃o',h'.get? b=some o')(tups:∀b xs,H b=some (.tup xs)->H' b=some (.tup xs))(j7:∀b o u,H b=some (.mQ o u)->H' b=some (.mQ o u))(lX:∀b ps,H b=some (.Hy ps)->∃more,H' b=some (.Hy (ps++more)))(ns:∀m,s.heap.Ns X.env.locals m->h'.Ns X.env.locals m)(hok:eZ X.prog X.w H' h')(hg:AllBare g') :
  Inv X pins σ H' { s with heap:=h',gens:=g',drawn:=d',toks:=t' }:=by
 have Zj:∀b o,X.s₀.heap.get? b=some o->b≠X.env.locals:=λb o e=>aan (aaq (lt_size e) I.ok.above)
 have S_:∀b o,X.s₀.heap.get? b=some o->b∉X.ex->b∉ch:=λb o e hx hb=>by
  rcases(hch b hb).1 with z|z
  ·exact hx z
  ·exact absurd (aaq (lt_size e) z) (aa9 _)
 have cellK:∀x c,X.env.cells.lookup x=some c->∀v,s.heap.IsCell c v->h'.IsCell c v:=λx c e v ⟨o,ho,hd⟩=>by
  have Oh:c∉ch:=λz=>(hch c z).2.2.1 x c e rfl
  by_cases hc:c∈X.fs
  ·obtain⟨sl,q⟩:=slot c o (I.V0 x c e) hc Oh ho (I.fH x c e)
   exact⟨_,q,hd⟩
  ·exact⟨o,keep c o (I.V0 x c e) hc Oh ho (I.fH x c e),hd⟩
 refine⟨I.ok,I.os,hg,⟨λb o e n hb hx=>?_,λb o e n hb hx=>?_,λb o e n hx=>?_,λb o e hx=>?_,λb xs e=>tups b xs (I.base.tups b xs e),λb o xs e=>j7 b o xs (I.base.j7 b o xs e),λb ps e=>?_⟩,?_,λx c e=>?_,?_,λx c e=>?_,λp hp=>?_,hok,I.len⟩
 ·exact keep b o (Zj b o e) hb (S_ b o e hx) (I.base.keep b o e n hb hx) (I.base.free b o e n hx)
 ·obtain⟨sl,e1⟩:=I.base.slot b o e n hb hx
  obtain⟨sl',e2⟩:=slot b _ (Zj b o e) hb (S_ b o e hx) e1 (I.base.free b o e n hx)
  exact⟨sl',e2⟩
 ·obtain⟨o',e1⟩:=I.base.there b o e hx
  exact free b o' (S_ b o e hx) e1 (I.base.free b o e n hx)
 ·obtain⟨o',e1⟩:=I.base.there b o e hx
  exact there b o' (S_ b o e hx) e1
 ·obtain⟨m1,e1⟩:=I.base.lX b ps e
  obtain⟨m2,e2⟩:=lX b _ e1
  exact⟨m1++m2,by rw[e2,Array.append_assoc]⟩
 ·obtain⟨m,hn,hl⟩:=I.loc
  refine⟨m,ns m hn,λi x v e1 e2 e3=>?_⟩
  obtain⟨u,r,l⟩:=hl i x v e1 e2 e3
  refine⟨u,r,?_⟩
  rcases l with l|⟨k,c,e,z⟩
  ·exact .inl l
  ·exact .inr ⟨k,c,e,cellK x c e _ z⟩
 ·obtain⟨v,z⟩:=I.cell x c e
  exact⟨v,cellK x c e v z⟩
 ·obtain⟨m,⟨o,_,_,ho,_⟩,_⟩:=I.loc
  exact free _ o (λz=>(hch _ z).2.1 rfl) ho I.free
 ·obtain⟨v,o,ho,hd⟩:=I.cell x c e
  exact free c o (λz=>(hch c z).2.2.1 x c e rfl) ho (I.fH x c e)
 ·obtain⟨e,n,ne,nf,d⟩:=I.pin p hp
  have Oh:p.1∉ch:=λz=>(hch p.1 z).2.2.2 p hp rfl
  exact⟨keep p.1 p.2 ne nf Oh e n,free p.1 p.2 Oh e n,ne,nf,d⟩
theorem Inv.un(I:Inv X pins σ H s)(u:Un X.fs [] H H' s.heap h')(c:eZ X.prog X.w H' h'):Inv X pins σ H' { s with heap:=h',toks:=t' }:=by
 obtain⟨m,⟨o,es,ep,h,r⟩,_⟩:=id I.loc
 obtain⟨sl,i⟩:=u.any h I.free (by simp)
 exact I.step (ch:=[]) (λ_ z=>nomatch z) (λb o _ f _ e n=>u.keep b o e n f (by simp)) (λb o _ f _ e n=>u.slot b o e n f (by simp)) (λb o _ e n=>u.free b o e n (by simp)) (λb o _ e=>u.there b o e (by simp)) u.tups u.j7 u.lX (λm' k=>by
  obtain⟨o',g,d,a,j⟩:=k
  rw[h] at a;cases a
  exact⟨_,g,d,i,j⟩) c I.bare
theorem Inv.call(I:Inv X pins σ H s)(u:Un (frs X.stack) ch H H' s.heap h')(i:eZ X.prog X.w H' h')(y:AllBare g')(f:∀b∈ch,(b∈X.ex\/X.s₀.heap.objs.size<=b)/\b≠X.env.locals/\(∀x c,X.env.cells.lookup x=some c->c≠b)/\∀p∈X.pn++pins,p.1≠b) :
  Inv X pins σ H' { s with heap:=h',gens:=g',drawn:=d',toks:=t' }:=by
 obtain⟨m,⟨o,es,ep,l,r⟩,_⟩:=id I.loc
 obtain⟨sl,j⟩:=u.any l I.free λz=>(f _ z).2.1 rfl
 exact I.step f (λb o j q d e n=>u.keep b o e n (λz=>(mem_cons.mp (I.nG b z)).elim j q) d) (λb o _ _ d e n=>u.any e n d) (λb o d e n=>u.free b o e n d) (λb o d e=>u.there b o e d) u.tups u.j7 u.lX (λm' t=>by
  obtain⟨o',k,h,g,v⟩:=t
  rw[l] at g;cases g
  exact⟨_,k,h,j,v⟩) i y
theorem Inv.turned(I:Inv X pins σ H s)(k:∀b o,b≠a->s.heap.get? b=some o->h'.get? b=some o)(hn:H a=none)(i:a≠X.env.locals)(h1:a∈X.ex\/X.s₀.heap.objs.size<=a)(h2:∀x c,X.env.cells.lookup x=some c->c≠a)(h3:∀p∈X.pn++pins,p.1≠a):Inv X pins σ H { s with heap:=h',toks:=t' }:=by
 refine I.step (g':=s.gens) (d':=s.drawn) (ch:=[a]) (λb hb=>?_) (λb o _ _ d e _=>k b o (λz=>d (by simp[z])) e) (λb o _ _ d e _=>⟨o.slots,k b o (λz=>d (by simp[z])) e⟩) (λ_ _ _ _ n=>n)
  (λb o d e=>⟨o,k b o (λz=>d (by simp[z])) e⟩) (λ_ _ e=>e) (λ_ _ _ e=>e) (λb ps e=>⟨#[],by grind⟩) (λm f=>?_) (λb u e=>?_) I.bare
 ·grind
 ·obtain⟨o,j,h,g,r⟩:=f
  exact⟨o,j,h,k _ o (ab8 i) g,r⟩
 ·refine(I.hok b u e).stay (λc v d q=>k c v ?_ q) (λ_ q=>q) λ_ _ q=>q
  grind
theorem Inv.tok(I:Inv X pins σ H s)(t:Nat):Inv X pins σ H { s with toks:=t }:=I.un Un.refl I.hok
theorem Inv.kept(I:Inv X pins σ H s)(k:∀b u,s.heap.get? b=some u->h'.get? b=some u):Inv X pins σ H { s with heap:=h',toks:=t' }:=I.un (Un.kept k) (I.hok.kept k)
theorem Inv.laid(I:Inv X pins σ H s)(k:∀b u,s.heap.get? b=some u->h'.get? b=some u)(c:s.heap.objs.size<=a)(d:bJ X.prog X.w (upd H a o) h' a o) :
  Inv X pins σ (upd H a o) { s with heap:=h',toks:=t' }:=I.un (Un.laid k c (I.hok.fresh c)) (I.hok.laid k c d)
theorem Inv.write(I:Inv X pins σ H s)(d:Oe (H x))(f:e=x\/H e=some (.own x))(k:∀b u,b≠e->s.heap.get? b=some u->h'.get? b=some u)(a:∃u,h'.get? e=some u)(c:bJ X.prog X.w (upd H x o) h' x o):Inv X pins σ (upd H x o) { s with heap:=h',toks:=t' }:=I.un (Un.write d f k a) (I.hok.write d f k a c)
theorem Inv.iK(I:Inv X pins σ H s)(h:∀p∈Fb,s.heap.get? p.1=some p.2/\H p.1=none/\p.1≠X.env.locals/\p.1∉X.fs/\∀v,p.2.data≠.cell v):Inv X Fb σ H s :=
 ⟨I.ok,I.os,I.bare,I.base,I.loc,I.cell,I.free,I.fH,λp a=>(mem_append.mp a).elim (λz=>I.pin p (mem_append_left _ z)) (h p),I.hok,I.len⟩
theorem Zk{N:List Str}(c:N.Nodup){i j:Nat}{x:Str}(a:N[i]?=some x)(b:N[j]?=some x):i=j:=by
 obtain⟨h1,e⟩:=aal.mp a
 obtain⟨h2,d⟩:=aal.mp b
 exact(getElem_inj c).mp (e.trans d.symm)
theorem Zm{Q:Unit->Shared->Prop}(I:Inv X pins σ H s)(hN:X.N.Nodup)(S:X.N[i]?=some x)(B:Loc X.env.scope x)(r:RelV v u)(h:∀s',Inv X pins (σ.set i (some v)) H s'->(∃a,SameBut a s.heap s'.heap/\(a=X.env.locals\/X.env.cells.lookup x=some a))->Q () s')(hf:X.fn x=true\/X.env.scope.names.lookup x=some .local:=by first|exact .inl rfl|exact .inr rfl|assumption):wpAny M A (storeName X.env x u) Q E s:=by
 obtain⟨m,hn,hl⟩:=id I.loc
 have U:(X.env.scope.kind==.class||(X.env.scope.kind==.module&&X.env.locals != X.env.globals))=false:=by rw[I.ok.kind];rfl
 have W:i<σ.length:=by rw[I.len];exact(aal.mp S).1
 have O:=I.V0
 have l:∀{a:Addr}{h':Heap},(∃o,s.heap.get? a=some o/\H a=none)->SameBut a s.heap h'->eZ X.prog X.w H h':=λ{a h'} ha f b ob e=>by
  obtain⟨_,_,C⟩:=ha
  refine(I.hok b ob e).stay (λc w' t q=>(f.2 c ?_).trans q) (λ_ q=>q) λ_ _ q=>q
  rintro rfl
  rcases t with rfl|t
  ·rw[C] at e;cases e
  ·rw[C] at t;cases t
 rcases B with F|F
 ·refine wpAny_storeName_local F hn (λh' hn' f=>?_) U
  obtain⟨oL,_,_,hoL,_⟩:=id hn
  refine h _ ⟨I.ok,I.os,I.bare,⟨λb o e n L B=>?_,λb o e n L B=>?_,I.base.free,λb o e B=>?_,I.base.tups,I.base.j7,I.base.lX⟩,⟨_,hn',λj y v' g D e3=>?_⟩,λy c e=>?_,I.free,I.fH,λp hp=>?_,l ⟨oL,hoL,I.free⟩ f,by simpa using I.len⟩ ⟨_,f,.inl rfl⟩
  ·exact(f.2 b (aan (aaq (lt_size e) I.ok.above))).trans (I.base.keep b o e n L B)
  ·obtain⟨sl,g⟩:=I.base.slot b o e n L B
   exact⟨sl,(f.2 b (aan (aaq (lt_size e) I.ok.above))).trans g⟩
  ·obtain⟨o',g⟩:=I.base.there b o e B
   exact⟨o',(f.2 b (aan (aaq (lt_size e) I.ok.above))).trans g⟩
  ·by_cases G:j=i
   ·subst G
    rw[S] at g;cases g
    rw[getElem?_set_self W] at D
    cases D
    exact⟨u,r,.inl ⟨F,by simp⟩⟩
   ·rw[getElem?_set_ne (ab8 G)] at D
    obtain⟨u',r',q⟩:=hl j y v' g D e3
    refine⟨u',r',?_⟩
    rcases q with⟨k,e⟩|⟨k,c,e,z⟩
    ·refine .inl ⟨k,?_⟩
     have:y≠x:=λe=>G (Zk hN g (e▸S))
     simp[this,e]
    ·exact .inr ⟨k,c,e,z.sameBut f (O y c e)⟩
  ·obtain⟨w',z⟩:=I.cell y c e
   exact⟨w',z.sameBut f (O y c e)⟩
  ·obtain⟨e,n,ne,nf,d⟩:=I.pin p hp
   exact⟨(f.2 p.1 ne).trans e,n,ne,nf,d⟩
 ·have J:X.fn x=true:=by
   rcases hf with z|z
   ·exact z
   ·rw[z] at F;cases F
  obtain⟨c,t⟩:=I.ok.has x (.inl F)
  obtain⟨w',z⟩:=I.cell x c t
  refine wpAny_storeName_cell I.ok.kind F t z (λh' P f=>?_)
  obtain⟨oc,T,Y⟩:=id z
  refine h { s with heap:=h' } ⟨I.ok,I.os,I.bare,⟨λb o e n L B=>?_,λb o e n L B=>?_,I.base.free,λb o e B=>?_,I.base.tups,I.base.j7,I.base.lX⟩,⟨m,hn.sameBut f (ab8 (O x c t)),λj y v' g D e3=>?_⟩,λy Z e=>?_,I.free,I.fH,λp hp=>?_,l ⟨oc,T,I.fH x c t⟩ f,by simpa using I.len⟩ ⟨c,f,.inr t⟩
  ·exact(f.2 b (aan (aaq (lt_size e) (I.ok.cab x c J t)))).trans (I.base.keep b o e n L B)
  ·obtain⟨sl,g⟩:=I.base.slot b o e n L B
   exact⟨sl,(f.2 b (aan (aaq (lt_size e) (I.ok.cab x c J t)))).trans g⟩
  ·obtain⟨o',g⟩:=I.base.there b o e B
   exact⟨o',(f.2 b (aan (aaq (lt_size e) (I.ok.cab x c J t)))).trans g⟩
  ·by_cases G:j=i
   ·subst G
    rw[S] at g;cases g
    rw[getElem?_set_self W] at D
    cases D
    exact⟨u,r,.inr ⟨.inl F,c,t,P⟩⟩
   ·rw[getElem?_set_ne (ab8 G)] at D
    obtain⟨u',r',q⟩:=hl j y v' g D e3
    refine⟨u',r',?_⟩
    rcases q with q|⟨k,Z,e,z'⟩
    ·exact .inl q
    ·refine .inr ⟨k,Z,e,z'.sameBut f ?_⟩
     rintro rfl
     exact G (Zk hN g (I.ok.inj _ _ _ e t▸S))
  ·by_cases R:Z=c
   ·subst R;exact⟨_,P⟩
   ·obtain⟨w2,z2⟩:=I.cell y Z e
    exact⟨w2,z2.sameBut f R⟩
  ·obtain⟨e,n,ne,nf,d⟩:=I.pin p hp
   refine⟨(f.2 p.1 ?_).trans e,n,ne,nf,d⟩
   intro q
   rw[q,T] at e
   have q':oc=p.2:=aam e
   exact d w' (by rw[<-q'];exact Y)
theorem V1{Q:Unit->Shared->Prop}(I:Inv X pins σ H s)(a:X.N.Nodup)(c:X.N[i]?=some x)(d:Loc X.env.scope x)(r:RelV v u)(h:∀s',Inv X pins (σ.set i (some v)) H s'->Q () s')(e:X.fn x=true\/X.env.scope.names.lookup x=some .local:=by first|exact .inl rfl|exact .inr rfl|assumption):wpAny M A (storeName X.env x u) Q E s :=
 Zm I a c d r (λs' b _=>h s' b) e
theorem Inv.call'{s':Shared}(I:Inv X pins σ H s)(g:s'.os=s.os)(u:Un (frs X.stack) ch H H' s.heap s'.heap)(f:eZ X.prog X.w H' s'.heap)(h:AllBare s'.gens)(d:∀b∈ch,(b∈X.ex\/X.s₀.heap.objs.size<=b)/\b≠X.env.locals/\(∀x c,X.env.cells.lookup x=some c->c≠b)/\∀p∈X.pn++pins,p.1≠b):Inv X pins σ H' s':=by
 obtain⟨h',g',d',t',o'⟩:=s'
 have e:=g
 subst e
 exact I.call u f h d
end
abbrev XK:=Value->Option Addr->Hp->Prop
abbrev St:=List (Option V)
abbrev VK:=V->Hp->Prop
abbrev TE:=St->Hp->VK->Prop
abbrev TT:=St->Hp->(Bool->Hp->Prop)->Prop
abbrev TA:=St->Hp->(List V->Hp->Prop)->Prop
structure Ends where
 nx:St->Hp->Prop
 rt:VK
 bk:St->Hp->Prop:=λ_ _=>False
 ct:St->Hp->Prop:=λ_ _=>False
abbrev TS:=Ends->St->Hp->Prop
def EP(X:Cx)(a:List (Addr×Obj))(σ:St)(Q:VK)(u:Value)(s':Shared):Prop:=∃v b,Inv X a σ b s'/\RelV v u/\Q v b
def TP(X:Cx)(a:List (Addr×Obj))(σ:St)(Q:Bool->Hp->Prop)(b:Bool)(s':Shared):Prop:=∃c,Inv X a σ c s'/\Q b c
def AP(X:Cx)(a:List (Addr×Obj))(σ:St)(Q:List V->Hp->Prop)(us:List Value)(s':Shared):Prop:=∃b c,Inv X a σ c s'/\Vals b us/\Q b c
def SP(X:Cx)(a:List (Addr×Obj))(D:Ends)(f:Flow)(s':Shared):Prop :=
 match f with
 |.next=>∃c b,Inv X a c b s'/\D.nx c b
 |.brk=>∃c b,Inv X a c b s'/\D.bk c b
 |.cont=>∃c b,Inv X a c b s'/\D.ct c b
 |.ret u=>∃v c b,Inv X a c b s'/\RelV v u/\D.rt v b
def PE(X:Cx)(e:Expr)(t:TE):Prop :=
 ∀(a:List (Addr×Obj))(s:Shared)(σ:St)(H:Hp)(Q:VK),Inv X a σ H s->t σ H Q->wpAny (model X.prog X.w) X.A (eval e X.env) (EP X a σ Q) X.xe s
def PT(X:Cx)(e:Expr)(t:TT):Prop :=
 ∀(a:List (Addr×Obj))(s:Shared)(σ:St)(H:Hp)(Q:Bool->Hp->Prop),Inv X a σ H s->t σ H Q->wpAny (model X.prog X.w) X.A (isTrue e X.env (eval e X.env)) (TP X a σ Q) X.xe s
def PW(X:Cx)(e:Expr)(t:TT):Prop :=
 ∀(c:Sem Value)(b:List (Addr×Obj))(s:Shared)(σ:St)(H:Hp)(Q:Bool->Hp->Prop),Inv X b σ H s->t σ H Q->wpAny (model X.prog X.w) X.A (isTrue e X.env c) (TP X b σ Q) X.xe s
theorem PW.pt(h:PW X e t):PT X e t:=h _
def PA(X:Cx)(es:List Expr)(t:TA):Prop :=
 ∀(b:Pos)(a:List (Addr×Obj))(s:Shared)(σ:St)(H:Hp)(Q:List V->Hp->Prop),Inv X a σ H s->t σ H Q->wpAny (model X.prog X.w) X.A (spliced (backTo b (starEach es X.env))) (AP X a σ Q) X.xe s
def PS(X:Cx)(st:Stmt)(t:TS):Prop :=
 ∀(a:List (Addr×Obj))(s:Shared)(σ:St)(H:Hp)(D:Ends),Inv X a σ H s->t D σ H->wpAny (model X.prog X.w) X.A (exec st X.env) (SP X a D) X.xe s
def oM(X:Cx)(st:List Stmt)(t:TS):Prop :=
 ∀(a:List (Addr×Obj))(s:Shared)(σ:St)(H:Hp)(D:Ends),Inv X a σ H s->t D σ H->wpAny (model X.prog X.w) X.A (execs st X.env) (SP X a D) X.xe s
theorem aO{α:Type}{t:Sem α}{Q b:α->Shared->Prop}(h:wpAny M A t Q E s)(c:∀a s,Q a s->b a s):wpAny M A t b E s:=abm h c λ_ _ x=>x
section
variable{X:Cx}
theorem bin(ha:PE X a ta)(hb:PE X b tb){R:V->V->Hp->Prop}(I:Inv X pins σ H s)(h:ta σ H λx H1=>tb σ H1 λy H2=>R x y H2){α:Type}{Q:α->Shared->Prop}{f:Value->Value->Sem α}(hf:∀v u s2 x y H2,Inv X pins σ H2 s2->RelV x v->RelV y u->R x y H2->wpAny (model X.prog X.w) X.A (f v u) Q X.xe s2) :
  wpAny (model X.prog X.w) X.A (eval a X.env) (λv s₁=>wpAny (model X.prog X.w) X.A (eval b X.env) (λu s₂=>wpAny (model X.prog X.w) X.A (f v u) Q X.xe s₂) X.xe s₁) X.xe s:=by
 refine aO (ha pins s σ H _ I h) λv s1 ⟨x,H1,I1,r1,q1⟩=>?_
 refine aO (hb pins s1 σ H1 _ I1 q1) λu s2 ⟨y,H2,I2,r2,q2⟩=>?_
 exact hf v u s2 x y H2 I2 r1 r2 q2
def aZ(i:Nat):TE:=λσ H Q=>∃v,σ[i]?=some (some v)/\Q v H
def tC(v:V):TE:=λ_ H Q=>Q v H
theorem HF(n:X.N[i]?=some x)(q:Og X.env.scope x)(j:(x==("__debug__":Str))=false:=by decide)(g:(x==("__classdict__":Str))=false:=by decide):PE X (.Name x pos) (aZ i):=by
 intro f s σ H Q I h
 obtain⟨v,e,h⟩:=h
 obtain⟨m,p,o⟩:=I.loc
 obtain⟨u,r,l⟩:=o i x v n e q
 have b:EP X f σ Q u s:=⟨v,H,I,r,h⟩
 rcases l with⟨d,t⟩|⟨d,c,k,a⟩
 ·exact wpAny_Name (wpAny_loadName_local I.ok.kind d p t b) j
 ·rcases d with d|d
  ·exact wpAny_Name (wpAny_loadName_cell I.ok.kind d k a b) j
  ·exact wpAny_Name (wpAny_loadName_free I.ok.kind d k a b g) j
theorem zK{i j pos}:PE X (.Constant (.int i) j pos) (tC (.int i)):=λ_ _ _ H _ I h=>wpAny_Constant_int ⟨.int i,H,I.tok _,⟨_,rfl⟩,h⟩
theorem Fd{b j pos}:PE X (.Constant (.bool b) j pos) (tC (.bl b)):=λ_ _ _ H _ I h=>Constant_bool ⟨.bl b,H,I,rfl,h⟩
theorem Mh{j pos}:PE X (.Constant .none j pos) (tC .non):=λ_ _ _ H _ I h=>aen ⟨.non,H,I,rfl,h⟩
theorem yE{x j pos}:PE X (.Constant (.str x) j pos) (tC (.str x)):=λ_ _ _ H _ I h=>Calls.Constant_str ⟨.str x,H,I.tok _,⟨_,rfl⟩,h⟩
def Gl(X:Cx)(x:Str):Prop:=X.env.kindOf x=some .globalImplicit
theorem Oi{Q:Value->Shared->Prop}(I:Inv X pins σ H s)(c:Gl X x)(b:X.mg x=some u)(h:Q u s)(d:(x==("__debug__":Str))=false:=by decide):wpAny (model X.prog X.w) X.A (eval (.Name x pos) X.env) Q E s :=
 Calls.Name_function_global I.ok.kind c (Calls.loadGlobal_global (by rw[I.ok.glob];exact I.mod.glob.keeps I.bk) b h) d
theorem tX{Q:Value->Shared->Prop}(I:Inv X pins σ H s)(f:Gl X x)(b:X.mg x=none)(c:bootBuiltins x=some u)(h:Q u s)(e:x ≠ "__name__":=by decide)(g:(x==("__debug__":Str))=false:=by decide):wpAny (model X.prog X.w) X.A (eval (.Name x pos) X.env) Q E s:=by
 obtain⟨mb,d,i⟩:=I.mod.blt
 exact Calls.Name_function_global I.ok.kind f (Calls.loadGlobal_builtin (by rw[I.ok.glob];exact I.mod.glob.keeps I.bk) b (by rw[I.ok.blt];exact d.keeps I.bk) ((i x e).trans c) h) g
theorem wC(c:Gl X x)(b:X.mg x=some u)(r:RelV v u)(d:(x==("__debug__":Str))=false:=by decide):PE X (.Name x pos) (tC v) :=
 λ_ _ _ H _ I h=>Oi I c b ⟨v,H,I,r,h⟩ d
theorem Oj(c:Gl X x)(a:X.mg x=none)(e:bootBuiltins x=some u)(r:RelV v u)(d:x ≠ "__name__":=by decide)(b:(x==("__debug__":Str))=false:=by decide):PE X (.Name x pos) (tC v) :=
 λ_ _ _ H _ I h=>tX I c a e ⟨v,H,I,r,h⟩ d b
variable{a b:Expr}{ta tb:TE}{pos:Pos}
def PC(X:Cx)(op:CmpOp)(a b:Expr)(t:TE):Prop :=
 ∀(c:List (Addr×Obj))(s:Shared)(σ:St)(H:Hp)(Q:VK),Inv X c σ H s->t σ H Q ->
  wpAny (model X.prog X.w) X.A (eval a X.env) (λv e=>wpAny (model X.prog X.w) X.A (eval b X.env) (λu d=>wpAny (model X.prog X.w) X.A (compareOp op v u) (EP X c σ Q) X.xe d) X.xe e) X.xe s
theorem zTx(b:Expr)(h:op≠.In)(h2:op≠.NotIn):behindInMarks op b=false:=by
 have c:(op==CmpOp.In)=false:=by grind
 have d:(op==CmpOp.NotIn)=false:=by grind
 cases b<;>simp[behindInMarks,c,d]
def Ol(ta:TE):TE:=λσ H Q=>ta σ H λx c=>Q (.bl (decide (x=.non))) c
def Fe(ta:TE):TE:=λσ H Q=>ta σ H λx c=>Q (.bl (!decide (x=.non))) c
theorem RelV.oV(r:RelV x v):(v==ac6)=decide (x=.non):=by
 cases x with
 |non=>cases r;rfl
 |bl _=>cases r;rfl
 |int _=>obtain⟨t,rfl⟩:=r;rfl
 |str _=>obtain⟨t,rfl⟩:=r;rfl
 |qt _=>obtain⟨t,rfl⟩:=r;rfl
 |flt _=>obtain⟨t,rfl⟩:=r;rfl
 |ref _=>cases r;rfl
 |ty _=>cases r;rfl
theorem Om{j c}(k:PE X a ta):PC X .Is a (.Constant .none j c) (Ol ta):=by
 intro d s σ H Q I h
 refine aO (k d s σ H _ I h) ?_
 rintro v s1 ⟨x,g,f,e,i⟩
 exact aen (is_none_gen ⟨.bl _,g,f,by rw[e.oV];rfl,i⟩)
theorem z9{j c}(k:PE X a ta):PC X .IsNot a (.Constant .none j c) (Fe ta):=by
 intro d s σ H Q I h
 refine aO (k d s σ H _ I h) ?_
 rintro v s1 ⟨x,g,f,e,i⟩
 exact aen (isnot_none_gen ⟨.bl _,g,f,by rw[e.oV];rfl,i⟩)
def tB(t:TE):TT:=λσ H Q=>t σ H λx d=>∃c,x=.bl c/\Q c d
theorem z_(h:PC X op a b t)(f:behindInMarks op b=false:=by first|exact zTx _ (by decide) (by decide)|rfl):PT X (.Compare a [op] [b] pos) (tB t):=by
 intro e s σ H Q I j
 refine wpAny_isTrue_Compare1 (aO (h e s σ H _ I j) λv s1 f=>aO f λu s2 g=>aO g ?_) f
 rintro c s3 ⟨x,k,i,m,l⟩
 obtain⟨d,rfl,q⟩:=l
 cases m
 exact abn ⟨k,i,q⟩
theorem wQ(h:PE X e t)(m:∀c,isTrue e X.env c=(do let v <-c;standAt e.pos;holding [v] (truthy v)):=by intro _;rfl):PT X e (tB t):=by
 intro f s σ H Q I g
 refine isTrue_plain (aO (h f s σ H _ I g) ?_) (m _)
 rintro v s1 ⟨x,j,i,k,l⟩
 obtain⟨d,rfl,q⟩:=l
 cases k
 exact abn ⟨j,i,q⟩
variable{tA Tc:TT}{rest:List Expr}
def Oo(t u:TT):TT:=λσ H Q=>t σ H λc d=>if c=true then u σ d Q else Q false d
def V2(t u:TT):TT:=λσ H Q=>t σ H λc d=>if c=true then Q true d else u σ d Q
def Oq(t:TT):TT:=λσ H Q=>t σ H λc d=>Q (!c) d
theorem pw_and1(f:PT X a tA):PW X (.BoolOp .And [a] pos) tA:=by
 intro wh d s σ H Q I h
 refine isTrue_and (aO (f d s σ H Q I h) λc s1 e=>?_)
 cases c with
 |true=>exact isTrue_and_nil e
 |false=>exact e
theorem pw_or1(f:PT X a tA):PW X (.BoolOp .Or [a] pos) tA:=by
 intro wh d s σ H Q I h
 refine isTrue_or (aO (f d s σ H Q I h) λc s1 e=>?_)
 cases c with
 |false=>exact isTrue_or_nil e
 |true=>exact e
theorem pw_and(j:PT X a tA)(l:PW X (.BoolOp .And (b::rest) pos) Tc):PW X (.BoolOp .And (a::b::rest) pos) (Oo tA Tc):=by
 intro i d s σ H Q I h
 refine isTrue_and (aO (j d s σ H _ I h) ?_)
 rintro c k ⟨e,f,g⟩
 cases c with
 |true=>exact l i d k σ e Q f g
 |false=>exact⟨e,f,g⟩
theorem pw_or(j:PT X a tA)(l:PW X (.BoolOp .Or (b::rest) pos) Tc):PW X (.BoolOp .Or (a::b::rest) pos) (V2 tA Tc):=by
 intro i d s σ H Q I h
 refine isTrue_or (aO (j d s σ H _ I h) ?_)
 rintro c k ⟨e,f,g⟩
 cases c with
 |true=>exact⟨e,f,g⟩
 |false=>exact l i d k σ e Q f g
theorem Ot(f:PT X a tA):PT X (.UnaryOp .Not a pos) (Oq tA):=by
 intro d s σ H Q I h
 exact isTrue_not (f d s σ H (λc e=>Q (!c) e) I h)
def Fg(ta tb:TE):TE:=λσ H Q=>ta σ H λx d=>∃c,x=.bl c/\if c=true then tb σ d Q else Q (.bl false) d
def Fi(ta:TE):TE:=λσ H Q=>ta σ H λx d=>∃c,x=.bl c/\Q (.bl (!c)) d
theorem Zn{op}(h:PE X a t):PE X (.BoolOp op [a] pos) t:=λc s σ H Q I d=>BoolOp_one (h c s σ H Q I d)
theorem V3(k:PE X a ta)(i:PE X (.BoolOp .And (b::rest) pos) tb):PE X (.BoolOp .And (a::b::rest) pos) (Fg ta tb):=by
 intro d s σ H Q I h
 refine BoolOp_and (aO (k d s σ H _ I h) ?_)
 rintro v l ⟨x,f,g,j,e⟩
 obtain⟨c,rfl,e⟩:=e
 cases j
 refine abn ?_
 cases c with
 |true=>exact i d l σ f Q g e
 |false=>exact⟨.bl false,f,g,rfl,e⟩
theorem HJ(j:PE X a ta):PE X (.UnaryOp .Not a pos) (Fi ta):=by
 intro d s σ H Q I h
 refine UnaryOp_ (aO (j d s σ H _ I h) ?_)
 rintro v s1 ⟨x,g,i,f,e⟩
 obtain⟨c,rfl,e⟩:=e
 cases f
 exact not_of (abn ⟨.bl (!c),g,i,rfl,e⟩)
def Zo(t:TT)(ta tb:TE):TE:=λσ H Q=>t σ H λc d=>if c=true then ta σ d Q else tb σ d Q
theorem Zq(m:PT X c tA)(l:PE X a ta)(k:PE X b tb):PE X (.IfExp c a b pos) (Zo tA ta tb):=by
 intro e s σ H Q I h
 refine wpAny_IfExp (aO (m e s σ H _ I h) ?_)
 rintro d i ⟨j,g,f⟩
 cases d with
 |true=>exact l e i σ j Q g f
 |false=>exact k e i σ j Q g f
end
def aN(K:Frag)(H:Hp)(a:Addr)(xs:List V):Prop :=
 Rd H a (.lst xs) \/
  ∃(o:Obj)(b:Array Value)(n:Nat),K.lookup a=some o/\o.cls=.type "list" /\ o.dict=none/\o.data=.seq b n/\b.size<=sizeLine/\Vals xs b.toList
def bT(K:Frag)(H:Hp)(a:Addr)(xs:List V):Prop :=
 Rd H a (.tup xs) \/
  ∃(o:Obj)(b:Array Value)(n:Nat),K.lookup a=some o/\o.cls=.type "tuple" /\ o.data=.seq b n/\b.size<=sizeLine/\Vals xs b.toList
def V4:Value->Option V
 |.none=>some .non
 |.bool b=>some (.bl b)
 |.int i _=>some (.int i)
 |.str x _=>some (.str x)
 |.bytes b _=>some (.qt b)
 |.float b _=>some (.flt b)
 |.ref a=>some (.ref a)
 |.type n=>some (.ty n)
 |_=>none
theorem RelV.abs(r:RelV x u):V4 u=some x:=by
 cases x with
 |non=>cases r;rfl
 |bl _=>cases r;rfl
 |int _=>obtain⟨t,rfl⟩:=r;rfl
 |str _=>obtain⟨t,rfl⟩:=r;rfl
 |qt _=>obtain⟨t,rfl⟩:=r;rfl
 |flt _=>obtain⟨t,rfl⟩:=r;rfl
 |ref _=>cases r;rfl
 |ty _=>cases r;rfl
theorem RelV.inj(r:RelV x u)(q:RelV y u):x=y:=aam (r.abs.symm.trans q.abs)
theorem Vals.inj:∀{xs ys:List V}{us:List Value},Vals xs us->Vals ys us->xs=ys
 |_,_,_,.nil,.nil=>rfl
 |_,_,_,.cons r t,.cons a b=>by rw[r.inj a,Vals.inj t b]
section
variable{X:Cx}{pins:List (Addr×Obj)}{σ:St}{H:Hp}{s:Shared}{a:Addr}{xs ys:List V}
theorem aN.of{K:Frag}(h:H a=some (.lst xs)):aN K H a xs:=.inl (.inl h)
theorem bT.of{K:Frag}(h:H a=some (.tup xs)):bT K H a xs:=.inl (.inl h)
theorem Inv.list(I:Inv X pins σ H s)(h:aN X.K H a xs):∃b:List Value,Vals xs b/\PlainL s.heap a b.toArray/\xs.length<=sizeLine:=by
 rcases h with h|⟨o,b,n,d,f,c,hs,hz,r⟩
 ·obtain⟨z,b,n,r,e⟩:=h.ok I.hok
  exact⟨b,r,⟨_,n,e,rfl,rfl,rfl⟩,z⟩
 ·refine⟨b.toList,r,⟨o,n,I.iJ a o d,f,c,by simp_all⟩,?_⟩
  have e:=r.length
  grind
theorem Inv.tuple(I:Inv X pins σ H s)(h:bT X.K H a xs):∃b:List Value,Vals xs b/\IsTup s.heap a b.toArray/\xs.length<=sizeLine:=by
 rcases h with h|⟨o,b,n,d,c,hs,hz,r⟩
 ·obtain⟨z,b,r,p⟩:=h.ok I.hok
  grind
 ·refine⟨b.toList,r,⟨o,I.iJ a o d,c,n,by simp_all⟩,?_⟩
  have e:=r.length
  grind
theorem Inv.fJ(I:Inv X pins σ H s)(h:aN X.K H a xs)(h':aN X.K H a ys):xs=ys:=by
 obtain⟨c,r,⟨o,n,e,_,_,d⟩,_⟩:=I.list h
 obtain⟨b,f,⟨o',n',e',_,_,d'⟩,_⟩:=I.list h'
 have:c=b:=by grind
 subst this
 exact r.inj f
theorem Inv.rD(I:Inv X pins σ H s)(h:bT X.K H a xs)(h':bT X.K H a ys):xs=ys:=by
 obtain⟨c,r,⟨o,e,_,n,d⟩,_⟩:=I.tuple h
 obtain⟨b,f,⟨o',e',_,n',d'⟩,_⟩:=I.tuple h'
 have:c=b:=by grind
 subst this
 exact r.inj f
end
abbrev Cx.wish(X:Cx)(E:Value->Shared->Prop):Cx:={ X with xe:=E }
abbrev Cx.Aa(X:Cx):Cx:=X.wish λ_ _=>False
theorem Cx.Ok.wish{X:Cx}(a:X.Ok)(E:Value->Shared->Prop):(X.wish E).Ok :=
 ⟨a.mod,a.kind,a.glob,a.blt,a.above,a.inj,a.has,a.cab,a.hd,a.frames,a.stk,a.S9,a.bs,a.z8,a.tV,a.tW,a.jT,a.HB⟩
theorem Cx.Ok.fK{X:Cx}(a:(X.wish E).Ok):X.Ok :=
 ⟨a.mod,a.kind,a.glob,a.blt,a.above,a.inj,a.has,a.cab,a.hd,a.frames,a.stk,a.S9,a.bs,a.z8,a.tV,a.tW,a.jT,a.HB⟩
section
variable{X:Cx}{pins:List (Addr×Obj)}{σ:St}{H:Hp}{s:Shared}{E:Value->Shared->Prop}
theorem Inv.wish(I:Inv X pins σ H s)(E:Value->Shared->Prop):Inv (X.wish E) pins σ H s:=⟨I.ok.wish E,I.os,I.bare,I.base,I.loc,I.cell,I.free,I.fH,I.pin,I.hok,I.len⟩
theorem Inv.fK(I:Inv (X.wish E) pins σ H s):Inv X pins σ H s:=⟨I.ok.fK,I.os,I.bare,I.base,I.loc,I.cell,I.free,I.fH,I.pin,I.hok,I.len⟩
theorem SP.fK(h:SP (X.wish E) pins D f s'):SP X pins D f s':=by
 cases f with
 |next=>obtain⟨a,b,I,q⟩:=h;exact⟨a,b,I.fK,q⟩
 |brk=>obtain⟨a,b,I,q⟩:=h;exact⟨a,b,I.fK,q⟩
 |cont=>obtain⟨a,b,I,q⟩:=h;exact⟨a,b,I.fK,q⟩
 |ret u=>obtain⟨v,a,b,I,r,q⟩:=h;exact⟨v,a,b,I.fK,r,q⟩
theorem oM.Aa{st:List Stmt}{t:TS}(h:oM X.Aa st t):oM X st t:=λpins s σ H D I a =>
 abm (h pins s σ H D (I.wish _) a) (λ_ _ q=>q.fK) λ_ _ z=>abd z
end
section
variable{X:Cx}{st:Stmt}{rest:List Stmt}{t u:TS}{e:Expr}{te:TE}{pos:Pos}
def HN:TS:=λD σ H=>D.nx σ H
def dY(t u:TS):TS:=λD σ H=>t { D with nx:=u D } σ H
theorem zG:oM X [] HN:=λ_ _ σ H _ I h=>ad2 ⟨σ,H,I,h⟩
theorem zB(d:PS X st t)(h2:oM X rest u):oM X (st::rest) (dY t u):=by
 intro a s σ H D I h
 refine wpAny_execs_cons (aO (d a s σ H { D with nx:=u D } I h) λf i q=>?_)
 cases f with
 |next =>
  obtain⟨g,b,c,q⟩:=q
  exact h2 a i g b D c q
 |ret v=>exact q
 |brk=>exact q
 |cont=>exact q
theorem yA(b:PS X st t):oM X [st] t:=by
 intro a s σ H D I h
 refine wpAny_execs_cons (aO (b a s σ H D I h) λf s1 q=>?_)
 cases f with
 |next=>exact ad2 q
 |ret v=>exact q
 |brk=>exact q
 |cont=>exact q
theorem Inv.quiet(I:Inv X pins σ H s):interactive X.env=false:=by simp[interactive,I.ok.kind]
def tY(te:TE):TS:=λD σ H=>te σ H λ_ a=>D.nx σ a
theorem zY(f:PE X e te)(g:swapsWith e none pos.line X.env=pure false:=by rfl):PS X (.Expr e pos) (tY te):=by
 intro a s σ H D I h
 exact wpAny_Expr_any (aO (f a s σ H _ I h) (by rintro v s1 ⟨x,c,b,r1,d⟩;exact⟨σ,c,b,d⟩)) I.quiet g
def nH(te:TE):TS:=λD σ H=>te σ H D.rt
theorem zQ(g:PE X e te):PS X (.Return (some e) pos) (nH te):=by
 intro a s σ H D I h
 exact wpAny_Return_some (aO (g a s σ H _ I h) (by rintro v s1 ⟨x,d,c,b,f⟩;exact⟨x,σ,d,c,b,f⟩))
def rE(c:TT)(t u:TS):TS:=λD σ H=>c σ H λb a=>if b=true then t D σ a else u D σ a
theorem yT(n:PT X c o)(m:oM X a t)(l:oM X b u):PS X (.If c a b pos) (rE o t u):=by
 intro f s σ H D I h
 refine wpAny_If (aO (n f s σ H _ I h) ?_)
 rintro d k ⟨g,i,j⟩
 cases d with
 |true=>exact m f k σ g D i j
 |false=>exact l f k σ g D i j
def Zr:TS:=λ_ _ _=>False
theorem Mi:oM X sts Zr:=λ_ _ _ _ _ _ h=>h.elim
end
abbrev TG:=V->St->Hp->(St->Hp->Prop)->Prop
abbrev Mj:=List V->St->Hp->(St->Hp->Prop)->Prop
def PG(X:Cx)(a:Expr)(t:TG):Prop :=
 ∀(b:List (Addr×Obj))(s:Shared)(σ:St)(H:Hp)(v:V)(u:Value)(Q:St->Hp->Prop),Inv X b σ H s->RelV v u->t v σ H Q ->
  wpAny (model X.prog X.w) X.A (assign a X.env u) (λ_ e=>∃d c,Inv X b d c e/\Q d c) X.xe s
def Ou(X:Cx)(ts:List Expr)(t:Mj):Prop :=
 ∀(a:List (Addr×Obj))(s:Shared)(σ:St)(H:Hp)(c:List V)(d:List Value)(Q:St->Hp->Prop),Inv X a σ H s->Vals c d->t c σ H Q ->
  wpAny (model X.prog X.w) X.A (assignInOrder ((assignEach ts X.env).map (·.2)) d) (λ_ f=>∃e b,Inv X a e b f/\Q e b) X.xe s
abbrev HS:=V->V->V->Hp->(Hp->Prop)->Prop
def HW(X:Cx)(t:HS):Prop :=
 ∀(a:List (Addr×Obj))(s:Shared)(σ:St)(H:Hp)(o i v:V)(b d u:Value)(Q:Hp->Prop),Inv X a σ H s->RelV o b->RelV i d->RelV v u->t o i v H Q ->
  wpAny (model X.prog X.w) X.A (setItem b d u) (λ_ e=>∃c,Inv X a σ c e/\Q c) X.xe s
abbrev Td:=V->V->Hp->VK->Prop
def Te(X:Cx)(op:Operator)(t:Td):Prop :=
 ∀(a:List (Addr×Obj))(s:Shared)(σ:St)(H:Hp)(x y:V)(v u:Value)(Q:VK),Inv X a σ H s->RelV x v->RelV y u->t x y H Q ->
  wpAny (model X.prog X.w) X.A (inplaceOp op v u) (EP X a σ Q) X.xe s
section
variable{X:Cx}{pos:Pos}
def vR(i:Nat):TG:=λv σ H Q=>Q (σ.set i (some v)) H
theorem yQ(a:X.N.Nodup)(c:X.N[i]?=some x)(d:Loc X.env.scope x)(e:X.fn x=true\/X.env.scope.names.lookup x=some .local:=by first|exact .inl rfl|exact .inr rfl|assumption):PG X (.Name x pos) (vR i):=by
 intro pins s σ H v u Q I r h
 exact wpAny_assign_Name (V1 I a c d r (λs' b=>⟨_,H,b,h⟩) e)
def HX:Mj:=λa σ H Q=>a=[]/\Q σ H
def Ml(t:TG)(u:Mj):Mj:=λa σ H Q=>∃v r,a=v::r/\t v σ H λc b=>u r c b Q
theorem yh:Ou X [] HX:=by
 intro pins s σ H vs us Q I r h
 obtain⟨e,h⟩:=h
 exact assignInOrder_nil ⟨σ,H,I,h⟩
theorem yP(g:PG X e t)(h2:Ou X es u)(l:(assignEach (e::es) X.env).map (·.2)=assign e X.env::(assignEach es X.env).map (·.2):=by rfl):Ou X (e::es) (Ml t u):=by
 intro a s σ H vs us Q I r h
 obtain⟨v,vr,d,h⟩:=h
 subst d
 cases r with
 |cons r c =>
  rw[l]
  refine assignInOrder_cons (aO (g a s σ H _ _ _ I r h) ?_)
  rintro _ b ⟨i,j,f,k⟩
  exact h2 a b i j _ _ Q f c k
def Ab(K:Frag)(n:Nat)(t:Mj):TG:=λv σ H Q=>∃a c,v=.ref a/\bT K H a c/\c.length=n/\t c σ H Q
theorem Fj(x:X.calm=true)(h:Ou X es t)(j:(assignEach es X.env).length=n:=by rfl)(f:(assignEach es X.env).findIdx? (·.1)=none:=by rfl):PG X (.Tuple es k pos) (Ab X.K n t):=by
 intro c s σ H v u Q I r d
 obtain⟨a,p,i,g,q,d⟩:=d
 subst i
 cases r
 obtain⟨its,y,l,hz⟩:=I.tuple g
 refine assign_Tuple_tuple (I.ok.hd x) l (by simp[j,<-q,y.length]) f λh' w=>?_
 have m:=I.kept (t':=s.toks) λb o e=>w b o (aan (lt_size e)) e
 exact h c _ σ H p _ Q m (by grind) d
def Ov(d a:TE)(t:HS):TG:=λv σ H Q=>d σ H λo b=>a σ b λi e=>t o i v e λc=>Q σ c
theorem Ow(f:PE X o E)(A:PE X i p)(l:HW X t)(ha:∀v,assign (.Subscript o i pos) X.env v=(do
   let b <-holding [v] (eval o X.env)
   let c <-holding [v,b] (eval i X.env)
   standAt pos
   holding [v,b,c] (setItem b c v)
   release [v,b,c] []):=by intro _;rfl):PG X (.Subscript o i pos) (Ov E p t):=by
 intro a s σ H v u Q I r h
 refine aag (aa6 (aO (f a s σ H _ I h) ?_))
 rintro b n ⟨x,g,z,q,j⟩
 refine aag (aa6 (aO (A a n σ g _ z j) ?_))
 rintro c B ⟨y,d,e,D,m⟩
 refine aag (aep (aag (aa6 (aO (l a B σ d x y v b c u _ e q D r m) ?_))))
 rintro _ s3 ⟨k,w,C⟩
 exact wpAny_release ⟨σ,k,w,C⟩
def g_(te:TE)(g:TG):TS:=λD σ H=>te σ H λx a=>g x σ a D.nx
theorem Ox(m:PE X e te)(o:PG X b g)(n:swapsWithSole [b] e pos.line X.env=pure false:=by rfl)(c:swappedStores [b] e X.env=pure none:=by rfl)(i:(assignEach [b] X.env).map (·.2)=[assign b X.env]:=by rfl):PS X (.Assign [b] e pos) (g_ te g):=by
 intro a s σ H D I h
 refine wpAny_Assign_stores (aO (m a s σ H _ I h) ?_) n c
 rintro v j ⟨x,k,f,d,l⟩
 rw[i]
 exact aO (o a j σ k x v _ f d l) λ_ s2 q=>q
theorem Fo(c:X.N.Nodup)(f:X.N[i]?=some x)(j:Loc X.env.scope x)(m:PE X e te)(o:swapsWith e (some (.Name x b)) pos.line X.env=pure false:=by rfl)(n:X.fn x=true\/X.env.scope.names.lookup x=some .local:=by first|exact .inl rfl|exact .inr rfl|assumption) :
  PS X (.Assign [.Name x b] e pos) (g_ te (vR i)):=by
 intro a s σ H D I h
 refine wpAny_Assign_Name (aO (m a s σ H _ I h) ?_) o
 rintro v s1 ⟨y,k,d,p,l⟩
 exact V1 d c f j p (λs2 g=>⟨_,k,g,l⟩) n
def Oz(i:Nat)(te:TE)(a:Td):TS:=λD σ H=>∃x,σ[i]?=some (some x)/\te σ H λy b=>a x y b λz c=>D.nx (σ.set i (some z)) c
theorem Zt(Z:X.N.Nodup)(j:X.N[i]?=some x)(f:Loc X.env.scope x)(T:PE X e te)(Q:Te X op F)(S:X.fn x=true\/X.env.scope.names.lookup x=some .local:=by first|exact .inl rfl|exact .inr rfl|assumption) :
  PS X (.AugAssign (.Name x pos') op e pos) (Oz i te F):=by
 intro a s σ H D I h
 obtain⟨v,P,h⟩:=h
 obtain⟨m,J,R⟩:=I.loc
 have g:Og X.env.scope x:=by rcases f with k|k;exact .inl k;exact .inr (.inl k)
 obtain⟨u,r,l⟩:=R i x v j P g
 refine wpAny_AugAssign_Name ?_
 have n:wpAny (model X.prog X.w) X.A (eval e X.env) (λw o=>wpAny (model X.prog X.w) X.A (inplaceOp op u w) (λr B=>wpAny (model X.prog X.w) X.A (storeName X.env x r) (λ_=>SP X a D .next) X.xe B) X.xe o) X.xe s:=by
  refine aO (T a s σ H _ I h) ?_
  rintro w G ⟨y,W,O,L,p⟩
  refine aO (Q a G σ W v y u w _ O r L p) ?_
  rintro z s2 ⟨zv,Y,q,U,C⟩
  exact V1 q Z j f U (λs3 M=>⟨_,Y,M,C⟩) S
 rcases l with⟨b,E⟩|⟨b,c,t,d⟩
 ·exact wpAny_loadName_local I.ok.kind b J E n
 ·rcases b with b|b
  ·exact wpAny_loadName_cell I.ok.kind b t d n
  ·rcases f with k|k
   ·have:X.env.scope.names.lookup x=some .free:=b
    rw[k] at this;cases this
   ·have:X.env.scope.names.lookup x=some .free:=b
    grind
def Fp(j d te:TE)(a:V->V->Hp->VK->Prop)(c:Td)(b:HS):TS:=λD σ H=>j σ H λo g=>d σ g λi k=>a o i k λx h=>te σ h λy f=>c x y f λz m=>b o i z m λl=>D.nx σ l
def OD(X:Cx)(t:V->V->Hp->VK->Prop):Prop :=
 ∀(a:List (Addr×Obj))(s:Shared)(σ:St)(H:Hp)(o i:V)(b c:Value)(Q:VK),Inv X a σ H s->RelV o b->RelV i c->t o i H Q ->
  wpAny (model X.prog X.w) X.A (getItem b c) (EP X a σ Q) X.xe s
theorem Ac(r:PE X o to)(Y:PE X i L)(hg:OD X g)(he:PE X e te)(q:Te X op k)(x:HW X f)(A:∀d c b,augStore i d c b=(do holding [b,d,c] (setItem d c b);release [b,d,c] [];pure .next):=by intros;rfl):PS X (.AugAssign (.Subscript o i tpos) op e pos) (Fp to L te g k f):=by
 intro a s σ H D I h
 refine wpAny_AugAssign_SubscriptAny (aO (r a s σ H _ I h) ?_) A
 rintro d s1 ⟨p,t,W,n,u⟩
 refine aO (Y a s1 σ t _ W u) ?_
 rintro c Z ⟨l,H2,M,m,B⟩
 refine aO (hg a Z σ H2 p l d c _ M n m B) ?_
 rintro j C ⟨O,w,U,r3,q3⟩
 refine aO (he a C σ w _ U q3) ?_
 rintro v y ⟨E,R,N,S,Q⟩
 refine aO (q a y σ R O E j v _ N r3 S Q) ?_
 rintro b s5 ⟨F,G,z,r5,T⟩
 exact aO (x a s5 σ G p l F d c b _ z n m r5 T) λ_ s6 ⟨P,J,q6⟩=>⟨σ,P,J,q6⟩
def Tf(f:Int->Int->Int):Td:=λx y H Q=>∃i j,x=.int i/\y=.int j/\Q (.int (f i j)) H
theorem HY:Te X .Add (Tf λi j=>i+j):=by
 intro pins s σ H x y v u Q I d b h
 obtain⟨i,j,c,a,q⟩:=h
 subst c;subst a
 obtain⟨t,rfl⟩:=d
 obtain⟨t',rfl⟩:=b
 exact iadd_int ⟨.int _,H,I.tok _,⟨_,rfl⟩,q⟩
end
section
variable{X:Cx}{pos:Pos}
def Zu(c:TT)(g:TS):TS:=λD σ H=>∃W:Nat->St->Hp->Prop,(∃m,W m σ H)/\∀m σ H,W m σ H ->
 c σ H λb d=>if b=true then∃N:St->Hp->Prop,(∀a f,N a f->∃e,e<m/\W e a f)/\g { D with nx:=N,ct:=N,bk:=D.nx } σ d else D.nx σ d
theorem zTh(hp:PassesOwn (model X.prog X.w) X.A X.env X.xe)(hc:PT X c tc)(hb:oM X body tb):PS X (.While c body [] pos) (Zu tc tb):=by
 intro pins s σ H D I h
 obtain⟨W,⟨m0,w0⟩,turn⟩:=h
 refine wpAny_While (codeAny_whileLoop (λn s'=>∃σ' H',Inv X pins σ' H' s'/\W n σ' H') ?_ m0 ⟨σ,H,I,w0⟩)
 rintro n s1 ⟨σ1,H1,I1,w1⟩
 refine ab6 hp (aO (hc pins s1 σ1 H1 _ I1 (turn n σ1 H1 w1)) λb s2 ⟨H2,I2,q2⟩=>?_)
 cases b with
 |true =>
  obtain⟨N,hN,q2⟩:=q2
  rw[if_pos rfl]
  refine ab6 hp (aO (hb pins s2 σ1 H2 _ I2 q2) λf s3 q3=>?_)
  cases f with
  |next =>
   obtain⟨σ3,H3,I3,n3⟩:=q3
   obtain⟨m',hm,w3⟩:=hN σ3 H3 n3
   exact⟨m',hm,σ3,H3,I3,w3⟩
  |cont =>
   obtain⟨σ3,H3,I3,n3⟩:=q3
   obtain⟨m',hm,w3⟩:=hN σ3 H3 n3
   exact⟨m',hm,σ3,H3,I3,w3⟩
  |brk=>exact q3
  |ret v=>exact q3
 |false =>
  rw[if_neg aai]
  exact ad2 ⟨σ1,H2,I2,q2⟩
end
structure It where
 go:Nat->Hp->Prop
 Mp:Nat->Hp->V->Hp->Prop
 stop:Nat->Hp->Prop
def ju(X:Cx)(d:List (Addr×Obj))(H:Hp)(b:Addr):Prop :=
 H b=none/\b≠X.env.locals/\b∉X.fs/\(b∈X.ex\/X.s₀.heap.objs.size<=b)/\(∀x c,X.env.cells.lookup x=some c->c≠b)/\∀p∈X.pn++d,p.1≠b
theorem Inv.jw(I:Inv X pins σ H s)(hb:s.heap.objs.size<=b)(hn:H' b=none):ju X pins H' b:=by
 refine⟨hn,acu (aaq I.lt hb),I.HD hb,.inr (aas I.sz hb),λx c e z=>?_,λp hp z=>?_⟩
 ·obtain⟨v,q⟩:=I.cell x c e
  exact absurd (aaq q.lt (by rw[z];exact hb)) (aa9 _)
 ·exact absurd (aaq (lt_size (I.pin p hp).1) (by rw[z];exact hb)) (aa9 _)
structure Turn(P:Program)(w:World)(K:Frag)(tg:Expr)(J:It)(fp:List Addr)(it:Addr)(tn:Nat->Heap->Prop):Prop where
 mem:it∈fp
 obj:∀i h,tn i h->∀b∈fp,∃o,h.get? b=some o/\∀v,o.data≠.cell v
 keep:∀i h h',tn i h->(∀b∈fp,∀o,h.get? b=some o->h'.get? b=some o)->tn i h'
 item:∀(X:Cx),X.prog=P->X.w=w->X.K=K->X.calm=true->∀(i:Nat)(pins:List (Addr×Obj))(s:Shared)(σ:St)(H:Hp)(E:Value->Shared->Prop),Inv X pins σ H s->(∀b∈fp,ju X pins H b)->tn i s.heap->J.go i H ->
  wpAny (model P w) X.A (pyNext (.ref it)) (λr s1=>∃u,r=some u /\
   wpAny (model P w) X.A (letOwnedTupleGo tg (.ref it) u) (λ_ s2=>∃x H',Inv X pins σ H' s2/\RelV x u/\J.Mp i H x H'/\tn (i+1) s2.heap/\∀b∈fp,H' b=none) E s1) E s
 done:∀(X:Cx),X.prog=P->X.w=w->X.K=K->X.calm=true->∀(i:Nat)(pins:List (Addr×Obj))(s:Shared)(σ:St)(H:Hp)(E:Value->Shared->Prop),Inv X pins σ H s->(∀b∈fp,ju X pins H b)->tn i s.heap->J.stop i H ->
  wpAny (model P w) X.A (pyNext (.ref it)) (λr s1=>r=none/\Inv X pins σ H s1) E s
 self:∀(A:Around)(i:Nat)(s:Shared)(Q:Value->Shared->Prop)(E:Value->Shared->Prop),tn i s.heap->Q (.ref it) s->wpAny (model P w) A (pyIter (.ref it)) Q E s
abbrev TI:=St->Hp->(It->Hp->Prop)->Prop
def PIE(X:Cx)(a:List (Addr×Obj))(σ:St)(i:Expr)(R:It->Hp->Prop)(c:Value)(h:Shared):Prop :=
 ∃(f:Addr)(e:List Addr)(g:Nat->Heap->Prop)(J:It)(d:Hp),c=.ref f/\Inv X a σ d h/\Turn X.prog X.w X.K i J e f g/\g 0 h.heap/\(∀b∈e,ju X a d b)/\R J d
def PI(X:Cx)(d b:Expr)(c:TI):Prop :=
 ∀(a:List (Addr×Obj))(s:Shared)(σ:St)(H:Hp)(R:It->Hp->Prop),Inv X a σ H s->c σ H R ->
  wpAny (model X.prog X.w) X.A (eval b X.env) (λv e=>wpAny (model X.prog X.w) X.A (pyIter v) (PIE X a σ d R) X.xe e) X.xe s
theorem Mq{s:Shared}{Q:Unit->Shared->Prop}(c:s.heap.get? d=some o)(e:o.cls=.type n)(f:o.data=.fields vs)(hn:["enumerate","zip","dict_itemiterator","dict_reverseitemiterator","odict_iterator","itertools.zip_longest","itertools.pairwise"].contains n=false)(a:Q () s):wpAny M A (letOwnedTupleGo b (.ref d) u) Q E s:=by
 unfold letOwnedTupleGo
 cases b<;>first
  |exact aah a
  | (cases u<;>first
    |exact aah a
    | (refine aag (wpAny_load c ?_)
       rw[e,f]
       show wpAny M A (if(["enumerate","zip","dict_itemiterator","dict_reverseitemiterator","odict_iterator","itertools.zip_longest","itertools.pairwise"].contains n&&vs[0]?==some (rawInt _))=true then _ else _) Q E s
       rw[if_neg (by grind)]
       exact aah a))
def Mr(K:Frag)(a:Addr):It :=
 ⟨λi H=>∃b x,aN K H a b/\b[i]?=some x,λi H x c=>c=H/\∀b,aN K H a b->b[i]?=some x,λi H=>∃b,aN K H a b/\b.length<=i⟩
def Ti(K:Frag)(a:Addr):It :=
 ⟨λi H=>∃b x,bT K H a b/\b[i]?=some x,λi H x c=>c=H/\∀b,bT K H a b->b[i]?=some x,λi H=>∃b,bT K H a b/\b.length<=i⟩
def V5(lo:Int)(n:Nat):It:=⟨λi _=>i<n,λi H x a=>a=H/\x=.int (lo+i),λi _=>n<=i⟩
theorem zO4{P:Program}{w:World}{K:Frag}{O:Expr}(a g:Addr):Turn P w K O (Mr K a) [g] g (λi h=>h.IsListIter g a i) where
 mem:=by simp
 obj:=λi h st b j=>by
  have e:b=g:=by simpa using j
  subst e
  obtain⟨o,e,c,d⟩:=st
  grind
 keep:=λi h m st k=>st.at λo e=>k g (by simp) o e
 item:=by
  intro X v D B L i f s σ H E I q st J
  subst v D B
  obtain⟨N,x,n,t⟩:=J
  obtain⟨A,z,p,R⟩:=I.list n
  obtain⟨u,U,Y⟩:=z.get t
  obtain⟨G,F,Q,y,r,C⟩:=q g (by simp)
  refine wpAny_pyNext_list_item st p.isList (x:=u) (by simpa using U) λm l Z=>?_
  have M:Inv X f σ H { s with heap:=m }:=I.turned (t':=s.toks) (λb o j e=>(Z.2 b j).trans e) G F y r C
  obtain⟨o,e,c,d⟩:=id l
  exact⟨u,rfl,Mq (s:={ s with heap:=m }) e c d (by decide) ⟨x,H,M,Y,⟨rfl,λys T=>by rw[I.fJ T n];exact t⟩,l,λb j=>(q b j).1⟩⟩
 done:=by
  intro X v D B L i f s σ H E I q st J
  subst v D B
  obtain⟨N,n,t⟩:=J
  obtain⟨A,z,p,R⟩:=I.list n
  obtain⟨G,F,Q,y,r,C⟩:=q g (by simp)
  have hl:=z.length
  exact wpAny_pyNext_list_end (I.ok.hd L) st p.isList (by simp;omega) λm S=>⟨rfl,I.turned (t':=s.toks) (λb o j e=>S b o j e) G F y r C⟩
 self:=λ_ _ _ _ _ st h=>wpAny_pyIter_listiter st h
theorem zNa{P:Program}{w:World}{K:Frag}{O:Expr}(a l:Addr):Turn P w K O (Ti K a) [l] l (λi h=>h.IsTupleIter l a i) where
 mem:=by simp
 obj:=λi h st b j=>by
  have e:b=l:=by simpa using j
  subst e
  obtain⟨o,e,c,d⟩:=st
  grind
 keep:=λi h n st k=>st.at λo e=>k l (by simp) o e
 item:=by
  intro X G C A L i f s σ H E I r st D
  subst G C A
  obtain⟨N,x,q,J⟩:=D
  obtain⟨g,v,p,Y⟩:=I.tuple q
  obtain⟨u,U,M⟩:=v.get J
  obtain⟨z,F,Q,y,t,B⟩:=r l (by simp)
  refine wpAny_pyNext_tuple_item st (show s.heap.IsTuple a g.toArray from p) (x:=u) (by simpa using U) λn m T=>?_
  have Z:Inv X f σ H { s with heap:=n }:=I.turned (t':=s.toks) (λb o j e=>(T.2 b j).trans e) z F y t B
  obtain⟨o,e,c,d⟩:=id m
  exact⟨u,rfl,Mq (s:={ s with heap:=n }) e c d (by decide) ⟨x,H,Z,M,⟨rfl,λys R=>by rw[I.rD R q];exact J⟩,m,λb j=>(r b j).1⟩⟩
 done:=by
  intro X G C A L i f s σ H E I r st D
  subst G C A
  obtain⟨N,q,J⟩:=D
  obtain⟨g,v,p,Y⟩:=I.tuple q
  obtain⟨z,F,Q,y,t,B⟩:=r l (by simp)
  have hl:=v.length
  exact wpAny_pyNext_tuple_end (I.ok.hd L) st (show s.heap.IsTuple a g.toArray from p) (by simp;omega) λn S=>⟨rfl,I.turned (t':=s.toks) (λb o j e=>S b o j e) z F y t B⟩
 self:=λ_ _ _ _ _ st h=>wpAny_pyIter_tupleiter st h
theorem zNb{P:Program}{w:World}{K:Frag}{G:Expr}(c:Addr)(lo:Int)(n:Nat):Turn P w K G (V5 lo n) [c] c (λi h=>IsRangeIter h c (lo+(i:Nat)*1) ((n:Int)-(i:Nat)) 1) where
 mem:=by simp
 obj:=λi h st b d=>by
  grind
 keep:=λi h g st k=>k c (by simp) _ st
 item:=by
  intro X l q m x i a s σ H E I j st u
  subst l q m
  obtain⟨y,r,L,z,A,p⟩:=j c (by simp)
  have W:=Walks.range (prog:=X.prog) (w:=X.w) (I.ok.hd x) c lo 1 n
  refine W.item i s _ _ u st λv g B F f C=>?_
  obtain⟨t,rfl⟩:=F
  have J:Inv X a σ H { s with heap:=g,toks:=B }:=I.turned (λb o d e=>C b o (by simpa using d) e) y r z A p
  refine⟨_,rfl,Mq (s:={ s with heap:=g,toks:=B }) (n:="range_iterator") f rfl rfl (by decide) ⟨.int (lo+i),H,J,⟨t,?_⟩,⟨rfl,rfl⟩,f,λb d=>(j b d).1⟩⟩
  grind
 done:=by
  intro X l q m x i a s σ H E I j st u
  subst l q m
  obtain⟨y,r,L,z,A,p⟩:=j c (by simp)
  exact wpAny_pyNext_range_end (I.ok.hd x) st (by have:n<=i:=u;omega) λg D=>⟨rfl,I.turned (t':=s.toks) (λb o d e=>D b o d e) y r z A p⟩
 self:=λ_ _ _ _ _ st h=>wpAny_pyIter_rangeiter st h
section
variable{X:Cx}{tg:Expr}
def Tj(K:Frag)(c:TE):TI:=λσ H R=>c σ H λx b=>∃a,x=.ref a/\(∃d,aN K b a d)/\R (Mr K a) b
def Ad(K:Frag)(c:TE):TI:=λσ H R=>c σ H λx b=>∃a,x=.ref a/\(∃d,bT K b a d)/\R (Ti K a) b
theorem V6(j:PE X l k):PI X tg l (Tj X.K k):=by
 intro c s σ H R I h
 refine aO (j c s σ H _ I h) ?_
 rintro v f ⟨x,m,d,i,n⟩
 obtain⟨a,e,⟨xs,g⟩,q⟩:=n
 subst e
 cases i
 obtain⟨its,rv,p,hz⟩:=d.list g
 refine adn p.isList ?_
 refine⟨f.heap.objs.size,[f.heap.objs.size],_,_,m,rfl,d.kept λb o e=>get?_push_of_some _ e,zO4 a _,⟨_,get?_push_size _ rfl,rfl,rfl⟩,λb hb=>?_,q⟩
 have e:b=f.heap.objs.size:=by grind
 subst e
 exact d.jw (aak _) (d.hok.fresh (aak _))
theorem Zv(j:PE X l k):PI X tg l (Ad X.K k):=by
 intro c s σ H R I h
 refine aO (j c s σ H _ I h) ?_
 rintro v f ⟨x,m,d,i,n⟩
 obtain⟨a,e,⟨xs,g⟩,q⟩:=n
 subst e
 cases i
 obtain⟨its,rv,p,hz⟩:=d.tuple g
 refine wpAny_pyIter_tuple (p) ?_
 refine⟨f.heap.objs.size,[f.heap.objs.size],_,_,m,rfl,d.kept λb o e=>get?_push_of_some _ e,zNa a _,⟨_,get?_push_size _ rfl,rfl,rfl⟩,λb hb=>?_,q⟩
 have e:b=f.heap.objs.size:=by grind
 subst e
 exact d.jw (aak _) (d.hok.fresh (aak _))
theorem zTf{d:List (Addr×Obj)}{σ:St}{H:Hp}{s:Shared}{R:It->Hp->Prop}{E:Value->Shared->Prop}{lo c:Int}{t u v:Tok}{g:Nat}(I:Inv X d σ H s)(k:-(2^62)<=lo)(h2:lo<2^62)(l:-(2^62)<=c)(h:c<2^62)(q:R (V5 lo (c-lo).toNat) H):wpAny (model X.prog X.w) X.A (pyIter (.ref s.heap.objs.size)) (PIE X d σ tg R) E { s with heap:=s.heap.push { cls:=.type "range",data:=.fields #[.int lo t,.int c u,.int 1 v] },toks:=g }:=by
 refine wpAny_pyIter_range (IsRange.new ..) (small_one k h2 l h) ?_
 have f:Inv X d σ H { s with heap:=s.heap.push { cls:=.type "range",data:=.fields #[.int lo t,.int c u,.int 1 v] },toks:=g }:=I.kept λb o e=>get?_push_of_some _ e
 refine⟨(s.heap.push { cls:=.type "range",data:=.fields #[.int lo t,.int c u,.int 1 v] }).objs.size,[(s.heap.push { cls:=.type "range",data:=.fields #[.int lo t,.int c u,.int 1 v] }).objs.size],_,_,H,rfl,
  f.kept (t':=g) λb o e=>get?_push_of_some _ e,zNb _ lo (c-lo).toNat,?_,λb hb=>?_,q⟩
 ·have i:lo+((0:Nat):Int)*1=lo:=by simp
  have j:(((c-lo).toNat:Nat):Int)-((0:Nat):Int)=Builtin.Range.rangeSize lo c 1:=by rw[rangeSize_one];grind
  rw[i,j]
  exact get?_push_size _ rfl
 ·have e:b=(s.heap.push { cls:=.type "range",data:=.fields #[.int lo t,.int c u,.int 1 v] }).objs.size:=by grind
  subst e
  exact f.jw (aak _) (f.hok.fresh (aak _))
def Fq(c:TA):TI:=λσ H R=>c σ H λa b=>∃j:Int,a=[.int j] /\ -(2^62)<=j/\j<2^62/\R (V5 0 j.toNat) b
theorem wS(l:Gl X "range")(d:X.mg "range" = none)(m:PA X [a] k)(i:starEach [a] X.env=[(false,eval a X.env)]:=by rfl):PI X tg (.Call (.Name "range" p) [a] [] pos) (Fq k):=by
 intro b s σ H R I h
 refine Call_ (tX I l d boot_range (aa5 (aO (m pos b s σ H _ I h) ?_) i rfl))
 rintro us s1 ⟨vs,H1,f,n,c⟩
 obtain⟨j,e,c,o,q⟩:=c
 subst e
 cases n with
 |cons r g =>
  cases g
  obtain⟨t,rfl⟩:=r
  exact call_range_1 (zTf f (by omega) (by omega) c o (by simp_all))
def Ae(e:TI)(g:TG)(k:TS):TS:=λD σ H=>e σ H λJ f=>∃W:Nat->Nat->St->Hp->Prop,(∃m,W 0 m σ f)/\∀i m σ H,W i m σ H ->
 (J.stop i H/\D.nx σ H)\/(J.go i H/\∃N:St->Hp->Prop,(∀d b,N d b->∃c,c<m/\W (i+1) c d b)/\∀x b,J.Mp i H x b->g x σ b λj h=>k { D with nx:=N,ct:=N,bk:=D.nx } j h)
def Ft(fp:List Addr)(h:Heap):List (Addr×Obj):=fp.filterMap λb=>(h.get? b).map λo=>(b,o)
theorem vH{h:Heap}(hb:b∈fp)(e:h.get? b=some o):(b,o)∈Ft fp h:=List.mem_filterMap.mpr ⟨b,hb,by rw[e];rfl⟩
theorem zQf(a:p∈Ft fp h):p.1∈fp/\h.get? p.1=some p.2:=by
 obtain⟨b,hb,e⟩:=List.mem_filterMap.mp a
 cases q:h.get? b with
 |none=>grind
 |some o =>
  grind
theorem Inv.pinned(I:Inv X a σ H s)(d:∀b∈fp,ju X a H b)(ho:∀b∈fp,∃o,s.heap.get? b=some o/\∀v,o.data≠.cell v):Inv X (a++Ft fp s.heap) σ H s :=
 I.iK λp c=>(mem_append.mp c).elim (λz=>I.pin p (mem_append_right _ z)) λz=>by
  obtain⟨f,e⟩:=zQf z
  obtain⟨f0,f1,f2,_⟩:=d p.1 f
  grind
theorem Inv.dW(I:Inv X (a++pl) σ H s):Inv X a σ H s:=I.iK λp b=>I.pin p (mem_append_right _ (mem_append_left _ b))
theorem xI(Q:PassesOwn (model X.prog X.w) X.A X.env X.xe)(hc:X.calm=true)(hi:PI X tg y wi)(hg:PG X tg g)(c:oM X B tb)(hs:∀x,foldedSetIterable y X.env x=pure x:=by intro _;rfl):PS X (.For tg y B [] pos) (Ae wi g tb):=by
 intro a s σ H D I h
 refine wpAny_For (aO (hi a s σ H _ I h) λv s1 h1=>aO h1 λitv s2 h2=>?_) hs
 obtain⟨it,L,tn,J,H2,e,I2,T,U,f2,W,⟨m0,w0⟩,E⟩:=h2
 subst e
 have l:∀{q:Hp},(∀b∈L,q b=none)->∀b∈L,ju X a q b:=λhn b c=>⟨hn b c,(f2 b c).2⟩
 refine codeAny_forLoop_any (λn s'=>∃i G q,Inv X a G q s'/\tn i s'.heap/\(∀b∈L,q b=none)/\W i n G q) ?_ m0 ⟨0,σ,H2,I2,U,λb c=>(f2 b c).1,w0⟩
 rintro n s3 ⟨i,O,R,I3,M,F,w3⟩
 rcases E i n O R w3 with⟨C,qn⟩|⟨go,N,hN,step⟩
 ·refine ab6 Q (aO (T.done X rfl rfl rfl hc i a s3 O R X.xe I3 (l F) M C) λr s4 ⟨S,I4⟩=>?_)
  subst S
  exact ad2 ⟨O,R,I4,qn⟩
 ·refine ab6 Q (aO (T.item X rfl rfl rfl hc i a s3 O R X.xe I3 (l F) M go) λr s4 ⟨u,S,h4⟩=>?_)
  subst S
  refine ab6 Q (aO h4 ?_)
  rintro _ s5 ⟨x,H5,I5,r5,y5,z,Y⟩
  have I5':=I5.pinned (l Y) (T.obj _ _ z)
  refine ab6 Q (aO (hg _ s5 O H5 x u _ I5' r5 (step x H5 y5)) ?_)
  rintro _ s6 ⟨σ6,H6,I6,q6⟩
  refine ab6 Q (aO (c _ s6 σ6 H6 _ I6 q6) λf Z t=>?_)
  have again:∀{j:St}{k:Hp},Inv X (a++Ft L s5.heap) j k Z->N j k->∃m,m<n/\∃i G q,Inv X a G q Z/\tn i Z.heap/\(∀b∈L,q b=none)/\W i m G q:=λ{j k} p P=>by
   obtain⟨m',hm,w7⟩:=hN j k P
   refine⟨m',hm,i+1,j,k,p.dW,T.keep _ _ _ z λb c o e=>(p.pin (b,o) (mem_append_right _ (mem_append_right _ (vH c e)))).1,λb c=>?_,w7⟩
   obtain⟨o,e,d⟩:=T.obj _ _ z b c
   exact(p.pin (b,o) (mem_append_right _ (mem_append_right _ (vH c e)))).2.1
  cases f with
  |next=>obtain⟨j,k,p,P⟩:=t;exact again p P
  |cont=>obtain⟨j,k,p,P⟩:=t;exact again p P
  |brk=>obtain⟨j,k,p,t⟩:=t;exact⟨j,k,p.dW,t⟩
  |ret v=>obtain⟨x7,j,k,p,r7,t⟩:=t;exact⟨x7,j,k,p.dW,r7,t⟩
end
theorem zUg{K:Frag}{a:Addr}{xs:List V}{g:TG}{tb:TS}{D:Ends}{σ:St}{H:Hp}(Pv:Nat->St->Hp->Prop)(h0:Pv 0 σ H)(hl:∀i σ H,i<=xs.length->Pv i σ H->aN K H a xs)(hs:∀i x σ H,xs[i]?=some x->Pv i σ H->g x σ H λσ2 H2=>tb { D with nx:=Pv (i+1),ct:=Pv (i+1),bk:=D.nx } σ2 H2)(hd:∀σ H,Pv xs.length σ H->D.nx σ H) :
  ∃W:Nat->Nat->St->Hp->Prop,(∃m,W 0 m σ H)/\∀i m σ H,W i m σ H ->
   ((Mr K a).stop i H/\D.nx σ H)\/((Mr K a).go i H/\∃N:St->Hp->Prop,(∀σ' H',N σ' H'->∃m',m'<m/\W (i+1) m' σ' H')/\∀x H',(Mr K a).Mp i H x H'->g x σ H' λσ2 H2=>tb { D with nx:=N,ct:=N,bk:=D.nx } σ2 H2):=by
 refine⟨λi m σ H=>m=xs.length-i/\i<=xs.length/\Pv i σ H,⟨xs.length,by simp,aa0 _,h0⟩,?_⟩
 rintro i m σ H ⟨rfl,hi,p⟩
 have q:=hl i σ H hi p
 by_cases hlt:i<xs.length
 ·refine .inr ⟨⟨xs,xs[i],q,by simp[hlt]⟩,Pv (i+1),λσ' H' p'=>⟨xs.length-(i+1),by omega,rfl,hlt,p'⟩,λx H' y=>?_⟩
  obtain⟨e,y⟩:=y
  subst e
  exact hs i x σ _ (y xs q) p
 ·have e:i=xs.length:=by omega
  subst e
  exact .inl ⟨⟨xs,q,aak _⟩,hd σ H p⟩
abbrev R2:=V->V->Hp->VK->Prop
def jU(X:Cx)(f:Value->Value->Sem Value)(r:R2):Prop :=
 ∀(b:List (Addr×Obj))(s:Shared)(σ:St)(H:Hp)(x y:V)(v u:Value)(Q:VK),Inv X b σ H s->RelV x v->RelV y u->r x y H Q ->
  wpAny (model X.prog X.w) X.A (f v u) (EP X b σ Q) X.xe s
def V7(X:Cx)(f:Value->Sem Value)(r:V->Hp->VK->Prop):Prop :=
 ∀(b:List (Addr×Obj))(s:Shared)(σ:St)(H:Hp)(x:V)(v:Value)(Q:VK),Inv X b σ H s->RelV x v->r x H Q ->
  wpAny (model X.prog X.w) X.A (f v) (EP X b σ Q) X.xe s
def qU(X:Cx)(f:Value)(r:List V->Hp->VK->Prop):Prop :=
 ∀(b:List (Addr×Obj))(s:Shared)(σ:St)(H:Hp)(c:List V)(d:List Value)(Q:VK),Inv X b σ H s->Vals c d->r c H Q ->
  wpAny (model X.prog X.w) X.A (call f d) (EP X b σ Q) X.xe s
def V8(X:Cx)(r:V->Hp->(Bool->Hp->Prop)->Prop):Prop :=
 ∀(b:List (Addr×Obj))(s:Shared)(σ:St)(H:Hp)(x:V)(v:Value)(Q:Bool->Hp->Prop),Inv X b σ H s->RelV x v->r x H Q ->
  wpAny (model X.prog X.w) X.A (truthy v) (TP X b σ Q) X.xe s
def gF(r:R2)(a d:TE):TE:=λσ H Q=>a σ H λx c=>d σ c λy b=>r x y b Q
def Zw(r:V->Hp->VK->Prop)(a:TE):TE:=λσ H Q=>a σ H λx b=>r x b Q
def rI(C:Int->Int->Prop)(g:Int->Int->V):R2:=λx y H Q=>∃i j,x=.int i/\y=.int j/\C i j/\Q (g i j) H
def qg(g:Int->Int->V):R2:=λx y H Q=>∃i j,x=.int i/\y=.int j/\Q (g i j) H
def rU(g:Int->V):V->Hp->VK->Prop:=λx H Q=>∃i,x=.int i/\Q (g i) H
section
variable{X:Cx}{a b c:Expr}{ta tb tc:TE}{pos:Pos}
theorem H_(ha:PE X a ta)(hb:PE X b tb){R:V->V->Hp->Prop}(I:Inv X pins σ H s)(h:ta σ H λx H1=>tb σ H1 λy H2=>R x y H2){f:Value->Value->Sem Value}(hf:∀v u s2 x y H2,Inv X pins σ H2 s2->RelV x v->RelV y u->R x y H2->wpAny (model X.prog X.w) X.A (f v u) Q X.xe s2) :
  wpAny (model X.prog X.w) X.A (eval a X.env) (λv s₁=>wpAny (model X.prog X.w) X.A (eval b X.env) (λu s₂=>wpAny (model X.prog X.w) X.A (f v u) Q X.xe s₂) X.xe s₁) X.xe s:=by
 refine aO (ha pins s σ H _ I h) λv s1 ⟨x,H1,I1,r1,q1⟩=>?_
 refine aO (hb pins s1 σ H1 _ I1 q1) λu s2 ⟨y,H2,I2,r2,q2⟩=>?_
 exact hf v u s2 x y H2 I2 r1 r2 q2
theorem xT(g:jU X (binaryOp op) r)(i:PE X a ta)(m:PE X b tb):PE X (.BinOp a op b pos) (gF r ta tb):=by
 intro d s σ H Q I h
 exact ael (H_ i m I h λv u f x y l k j e q=>g d f σ l x y v u Q k j e q)
theorem Tn(i:V7 X (unaryOp op) r)(l:PE X a ta):PE X (.UnaryOp op a pos) (Zw r ta):=by
 intro d s σ H Q I h
 exact UnaryOp_ (aO (l d s σ H _ I h) (by rintro v e ⟨x,j,g,f,k⟩;exact i d e σ j x v Q g f k))
theorem Tp{f:Value->Value->Sem Value}{C:Int->Int->Prop}{g:Int->Int->Int}(rule:∀(i j:Int) (t u:Tok) (s:Shared) (Q:Value->Shared->Prop) (E:Value->Shared->Prop),C i j->Q (.int (g i j) s.toks) { s with toks:=s.toks+1 }->wpAny (model X.prog X.w) X.A (f (.int i t) (.int j u)) Q E s) :
  jU X f (rI C λi j=>.int (g i j)):=by
 intro pins s σ H x y v u Q I l d h
 obtain⟨i,j,rfl,rfl,k,q⟩:=h
 obtain⟨t,rfl⟩:=l
 obtain⟨e,rfl⟩:=d
 exact rule i j t e s _ _ k ⟨.int (g i j),H,I.tok _,⟨_,rfl⟩,q⟩
theorem Ia{f:Value->Value->Sem Value}{g:Int->Int->Int}(rule:∀(i j:Int) (t u:Tok) (s:Shared) (Q:Value->Shared->Prop) (E:Value->Shared->Prop),Q (.int (g i j) s.toks) { s with toks:=s.toks+1 }->wpAny (model X.prog X.w) X.A (f (.int i t) (.int j u)) Q E s) :
  jU X f (qg λi j=>.int (g i j)):=by
 intro pins s σ H x y v u Q I k d h
 obtain⟨i,j,rfl,rfl,q⟩:=h
 obtain⟨t,rfl⟩:=k
 obtain⟨e,rfl⟩:=d
 exact rule i j t e s _ _ ⟨.int (g i j),H,I.tok _,⟨_,rfl⟩,q⟩
theorem Ib{f:Value->Value->Sem Value}{g:Int->Int->Bool}(rule:∀(i j:Int) (t u:Tok) (s:Shared) (Q:Value->Shared->Prop) (E:Value->Shared->Prop),Q (.bool (g i j)) s->wpAny (model X.prog X.w) X.A (f (.int i t) (.int j u)) Q E s) :
  jU X f (qg λi j=>.bl (g i j)):=by
 intro pins s σ H x y v u Q I k d h
 obtain⟨i,j,rfl,rfl,q⟩:=h
 obtain⟨t,rfl⟩:=k
 obtain⟨e,rfl⟩:=d
 exact rule i j t e s _ _ ⟨.bl (g i j),H,I,rfl,q⟩
def Ie(i j:Int):Prop:=0<j/\j<1073741824
def OJ(i j:Int):Prop:=0<=j/\j<=1000000/\i.natAbs<2^64
theorem zM9(k:Nat):(0:Int)<=2^k:=by
 grind
theorem Tq:jU X (binaryOp .Add) (qg λi j=>.int (i+j)):=Ia λ_ _ _ _ _ _ _ q=>add_int q
theorem Tt:jU X (binaryOp .Sub) (qg λi j=>.int (i-j)):=Ia λ_ _ _ _ _ _ _ q=>sub_int q
theorem Fv:jU X (binaryOp .FloorDiv) (rI Ie λi j=>.int (i/j)):=Tp λi j _ _ _ _ _ d q=>by
 have h1:(0:Int)<j:=d.1
 have h2:=d.2
 exact floordiv_int (by omega) (by grind) (.inl (PyProof.noPylong_small (by omega)))
theorem tZ:jU X (binaryOp .Mod) (rI (λ_ j=>0<j) λi j=>.int (i%j)):=Tp λi j _ _ _ _ _ hc q=>by
 exact mod_int' (by omega) (by grind)
theorem Ig:jU X (binaryOp .LShift) (rI OJ λi j=>.int (i*2^j.toNat)):=Tp λ_ _ _ _ _ _ _ d q=>lshift_int_small d.1 d.2.1 d.2.2 q
theorem Tv:jU X (binaryOp .RShift) (rI (λ_ j=>0<=j) λi j=>.int (i/2^j.toNat)):=Tp λi j _ _ _ _ _ hc q =>
 rshift_int hc (by rw[Int.fdiv_eq_ediv_of_nonneg i (zM9 _)];exact q)
theorem O6:jU X (binaryOp .BitAnd) (qg λi j=>.int (aa1 i j)):=Ia λ_ _ _ _ _ _ _ q=>and_int q
theorem unI{f:Value->Sem Value}{g:Int->Int}(rule:∀(i:Int) (t:Tok) (s:Shared) (Q:Value->Shared->Prop) (E:Value->Shared->Prop),Q (.int (g i) s.toks) { s with toks:=s.toks+1 }->wpAny (model X.prog X.w) X.A (f (.int i t)) Q E s) :
  V7 X f (rU λi=>.int (g i)):=by
 intro pins s σ H x v Q I d h
 obtain⟨i,rfl,q⟩:=h
 obtain⟨t,rfl⟩:=d
 exact rule i t s _ _ ⟨.int (g i),H,I.tok _,⟨_,rfl⟩,q⟩
theorem Tw:V7 X (unaryOp .USub) (rU λi=>.int (-i)):=unI λ_ _ _ _ _ q=>neg_int q
end
def V9:V->V->Bool
 |.non,.non=>true|.non,.int _=>true|.int _,.non=>true|.non,.bl _=>true|.bl _,.non=>true|.non,.str _=>true|.str _,.non=>true
 |.int _,.int _=>true|.bl _,.bl _=>true|.str _,.str _=>true|.qt _,.qt _=>true
 |.int _,.str _=>true|.str _,.int _=>true|.bl _,.str _=>true|.str _,.bl _=>true
 |_,_=>false
def V_:R2:=λx y H Q=>V9 x y=true/\Q (.bl (decide (x=y))) H
theorem Af:decide (V.int i=V.int j)=(i==j):=by
 grind
theorem Ih:decide (V.bl i=V.bl j)=(i==j):=by
 grind
theorem Ag:decide (V.str i=V.str j)=(i==j):=by
 grind
theorem Ah:decide (V.qt i=V.qt j)=(i.toList==j.toList):=by
 rw[abo]
 cases i
 cases j
 simp
section
variable{X:Cx}{a b c:Expr}{ta tb tc:TE}{pos:Pos}
theorem vZ(I:Inv X d σ H s)(q:Q (.bl k) H)(e:k=k'):EP X d σ Q (.bool k') s:=by
 subst e
 exact⟨.bl k,H,I,rfl,q⟩
theorem qj:jU X (compareOp .Eq) V_:=by
 intro pins s σ H x y v u Q I rx ry h
 obtain⟨hs,q⟩:=h
 cases x with
 |non =>
  cases rx
  cases y with
  |non=>cases ry;exact PySem.EqNone.eq_none_none (vZ I q (by simp))
  |bl j=>cases ry;exact PySem.EqNone.eq_none_bool (vZ I q (by simp))
  |int j=>obtain⟨t',rfl⟩:=ry;exact PySem.EqNone.eq_none_int (vZ I q (by simp))
  |str j=>obtain⟨t',rfl⟩:=ry;exact PySem.EqNone.eq_none_str (vZ I q (by simp))
  |_=>exact absurd (show false=true from hs) aai
 |bl i =>
  cases rx
  cases y with
  |non=>cases ry;exact PySem.EqNone.eq_bool_none (vZ I q (by simp))
  |bl j=>cases ry;exact eq_bool (vZ I q Ih)
  |str j=>obtain⟨t',rfl⟩:=ry;exact PySem.EqMixed.eq_bool_str (vZ I q (by simp))
  |_=>exact absurd (show false=true from hs) aai
 |int i =>
  obtain⟨t,rfl⟩:=rx
  cases y with
  |non=>cases ry;exact PySem.EqNone.eq_int_none (vZ I q (by simp))
  |int j=>obtain⟨t',rfl⟩:=ry;exact eq_int (vZ I q Af)
  |str j=>obtain⟨t',rfl⟩:=ry;exact PySem.EqMixed.eq_int_str (vZ I q (by simp))
  |_=>exact absurd (show false=true from hs) aai
 |str i =>
  obtain⟨t,rfl⟩:=rx
  cases y with
  |non=>cases ry;exact PySem.EqNone.eq_str_none (vZ I q (by simp))
  |bl j=>cases ry;exact PySem.EqMixed.eq_str_bool (vZ I q (by simp))
  |int j=>obtain⟨t',rfl⟩:=ry;exact PySem.EqMixed.eq_str_int (vZ I q (by simp))
  |str j=>obtain⟨t',rfl⟩:=ry;exact eq_str (vZ I q Ag)
  |_=>exact absurd (show false=true from hs) aai
 |qt i =>
  obtain⟨t,rfl⟩:=rx
  cases y with
  |qt j=>obtain⟨t',rfl⟩:=ry;exact PySem.W.eq_bytes (vZ I q Ah)
  |_=>exact absurd (show false=true from hs) aai
 |_=>cases y<;>exact absurd (show false=true from hs) aai
theorem O7:jU X (compareOp .Lt) (qg λi j=>.bl (decide (i<j))):=Ib λ_ _ _ _ _ _ _ q=>lt_int q
theorem t_:jU X (compareOp .LtE) (qg λi j=>.bl (decide (i<=j))):=Ib λ_ _ _ _ _ _ _ q=>le_int q
theorem Tz:jU X (compareOp .Gt) (qg λi j=>.bl (decide (j<i))):=Ib λ_ _ _ _ _ _ _ q=>gt_int q
theorem zP3:jU X (compareOp .In) (λx y H Q=>∃i j,x=.str i/\y=.str j/\Q (.bl (!(ac8 j i 0 j.length 1).isEmpty)) H):=by
 intro pins s σ H x y v u Q I e d h
 obtain⟨i,j,rfl,rfl,q⟩:=h
 obtain⟨t,rfl⟩:=e
 obtain⟨t',rfl⟩:=d
 exact in_str (vZ I q rfl)
theorem yL(b:Expr)(h:op≠.In:=by decide)(h2:op≠.NotIn:=by decide):behindInMarks op b=false:=by
 have d:(op==CmpOp.In)=false:=by grind
 have e:(op==CmpOp.NotIn)=false:=by grind
 cases b<;>simp[behindInMarks,d,e]
theorem Wa(g:jU X (compareOp op) r)(i:PE X a ta)(m:PE X b tb)(n:behindInMarks op b=false):PE X (.Compare a [op] [b] pos) (gF r ta tb):=by
 intro d s σ H Q I h
 exact wpAny_Compare1 (H_ i m I h λv u f x y l k j e q=>g d f σ l x y v u Q k j e q) n
def TF(t:TE):TT:=λσ H Q=>t σ H λx d=>∃k,x=.bl k/\Q k d
theorem zZ(j:jU X (compareOp op) r)(o:PE X a ta)(q:PE X b tb)(t:behindInMarks op b=false):PT X (.Compare a [op] [b] pos) (TF (gF r ta tb)):=by
 intro d s σ H Q I h
 refine wpAny_isTrue_Compare1 (aO (o d s σ H _ I h) λv E ⟨x,l,B,w,m⟩=>aO (q d E σ l _ B m) λu C ⟨y,F,i,g,p⟩ =>
  aO (j d C σ F x y v u _ i w g p) ?_) t
 rintro c s3 ⟨z,n,A,f,k,e,D⟩
 subst e
 cases f
 exact abn ⟨n,A,D⟩
def Zx(r f:R2)(ta tb tc:TE):TE:=λσ H Q=>ta σ H λx g=>tb σ g λy i=>r x y i λz d=>∃k,z=.bl k /\
 (if k=true then tc σ d λe h=>f y e h Q else Q (.bl false) d)
theorem Zy(T:jU X (compareOp op) r)(i:jU X (compareOp g) S)(A:PE X a ta)(D:PE X b tb)(w:PE X c tc)(E:lastMarks [op,g] [b,c]=false:=by with_unfolding_all rfl):PE X (.Compare a [op,g] [b,c] pos) (Zx r S ta tb tc):=by
 intro f s σ H Q I h
 refine Compare_chain (aO (A f s σ H _ I h) λv q ⟨x,U,O,M,p⟩=>chain_link (aO (D f q σ U _ O p) λu R ⟨y,Y,F,n,B⟩ =>
  aO (T f R σ Y x y v u _ F M n B) ?_)) E
 rintro d C ⟨z,j,m,o,k,e,l⟩
 subst e
 cases o
 refine abn ?_
 cases k with
 |false=>exact ite_ff ⟨.bl false,j,m,rfl,l⟩
 |true=>exact ite_tt (chain_last (aO (w f C σ j _ m l) (by rintro P t ⟨W,L,G,N,J⟩;exact i f t σ L y W u P Q G n N J)))
def Ai(K:Frag)(x:V)(H:Hp)(k:Bool):Prop :=
 match x with
 |.non=>k=false
 |.bl b=>k=b
 |.int i=>k=(i != 0)
 |.str y=>y.length<=sizeLine/\k=((y.length:Int) != 0)
 |.qt y=>y.size<=sizeLine/\k=((y.size:Int) != 0)
 |.ref p=>(∃e,aN K H p e/\k=!e.isEmpty)\/(∃e,bT K H p e/\k=!e.isEmpty)\/∃d,H p=some (.dK d)/\k=!d.isEmpty
 |_=>False
theorem zN4{κ:Type}{kvs:List (κ×V)}{vs:List (κ×Value)}(r:KV kvs vs):(!vs.isEmpty)=!kvs.isEmpty:=by
 cases r<;>rfl
theorem Zz(r:Vals xs d):(!d.toArray.isEmpty)=!xs.isEmpty:=by
 cases r<;>simp
theorem Ii:(sizeLine:Nat)<2^63:=by decide
theorem Ij:V8 X (λx H Q=>∃k,Ai X.K x H k/\Q k H):=by
 intro pins s σ H x v Q I rx h
 obtain⟨k,e,q⟩:=h
 have hl:=Ii
 have hs:sizeLine=16777216:=sizeLine_eq
 cases x with
 |non =>
  cases rx
  have e':k=false:=e
  subst e'
  exact truthy_none ⟨H,I,q⟩
 |bl b =>
  cases rx
  have e':k=b:=e
  subst e'
  exact abn ⟨H,I,q⟩
 |int i =>
  obtain⟨t,rfl⟩:=rx
  have e':k=(i != 0):=e
  subst e'
  exact PySem.P.truthy_int ⟨H,I,q⟩
 |str y =>
  obtain⟨t,rfl⟩:=rx
  obtain⟨hy,e'⟩:y.length<=sizeLine/\k=((y.length:Int) != 0):=e
  subst e'
  exact PySem.P.truthy_str (by omega) ⟨H,I.tok _,q⟩
 |qt y =>
  obtain⟨t,rfl⟩:=rx
  obtain⟨hy,e'⟩:y.size<=sizeLine/\k=((y.size:Int) != 0):=e
  subst e'
  exact PySem.W.truthy_bytes (by omega) ⟨H,I.tok _,q⟩
 |ref p =>
  cases rx
  have e':(∃xs,aN X.K H p xs/\k=!xs.isEmpty)\/(∃xs,bT X.K H p xs/\k=!xs.isEmpty)\/∃kvs,H p=some (.dK kvs)/\k=!kvs.isEmpty:=e
  rcases e' with⟨xs,hx,e'⟩|⟨xs,hx,e'⟩|⟨kvs,hx,e'⟩
  ·subst e'
   obtain⟨its,r,pl,hz⟩:=I.list hx
   have hlen:=r.length
   exact wpAny_truthy_list pl.isList (by simp only[size_toArray];omega) ⟨H,I.tok _,by rw[Zz r];exact q⟩
  ·subst e'
   obtain⟨its,r,pl,hz⟩:=I.tuple hx
   have hlen:=r.length
   exact truthy_tuple pl (by simp only[size_toArray];omega) ⟨H,I.tok _,by rw[Zz r];exact q⟩
  ·subst e'
   obtain⟨hz,hS,vs,r,m⟩:kvs.length<=sizeLine/\(p==sysModules)=false/\∃vs,KV kvs vs/\s.heap.DictOf (wD X.prog X.w) p vs:=I.hok p _ hx
   have hlen:kvs.length=vs.length:=aeb r
   exact wpAny_truthy_dict hS m (by omega) ⟨H,I.tok _,by rw[zN4 r];exact q⟩
 |_=>exact(show False from e).elim
theorem zTg(n:PE X a ta)(m:∀d,isTrue a X.env d=(do let v <-d;standAt a.pos;holding [v] (truthy v))) :
  PT X a (λσ H Q=>ta σ H λx H'=>∃k,Ai X.K x H' k/\Q k H'):=by
 intro e s σ H Q I h
 exact isTrue_plain (aO (n e s σ H _ I h) (by rintro v j ⟨x,i,g,f,l⟩;exact Ij e j σ i x v Q g f l)) (m _)
theorem Fw(r:Vals [x] us):∃u,us=[u]/\RelV x u:=by
 cases r with
 |cons r1 r2=>cases r2;exact⟨_,rfl,r1⟩
theorem ZC:qU X (.type "int") (λxs H Q=>(∃i,xs=[.int i]/\Q (.int i) H)\/∃k,xs=[.bl k]/\Q (.int (if k then 1 else 0)) H):=by
 intro pins s σ H xs us Q I r h
 rcases h with⟨i,rfl,q⟩|⟨k,rfl,q⟩
 ·obtain⟨u,rfl,t,rfl⟩:=Fw r
  exact call_int_int ⟨.int i,H,I,⟨_,rfl⟩,q⟩
 ·obtain⟨u,rfl,d⟩:=Fw r
  cases d
  exact call_int_bool ⟨.int (if k then 1 else 0),H,I.tok _,⟨_,rfl⟩,q⟩
def Wb(K:Frag)(x:V)(H:Hp)(n:Nat):Prop :=
 match x with
 |.str y=>y.length<=sizeLine/\n=y.length
 |.qt y=>y.size<=sizeLine/\n=y.size
 |.ref p=>(∃d,aN K H p d/\n=d.length)\/∃d,bT K H p d/\n=d.length
 |_=>False
theorem zU1:qU X (.builtin "len") (λxs H Q=>∃x n,xs=[x]/\Wb X.K x H n/\Q (.int n) H):=by
 intro pins s σ H xs us Q I r h
 obtain⟨x,n,rfl,e,q⟩:=h
 obtain⟨u,rfl,rx⟩:=Fw r
 have hl:=Ii
 have hs:sizeLine=16777216:=sizeLine_eq
 cases x with
 |str y =>
  obtain⟨t,rfl⟩:=rx
  obtain⟨hy,e'⟩:y.length<=sizeLine/\n=y.length:=e
  subst e'
  exact len_str (by omega) ⟨.int _,H,I.tok _,⟨_,rfl⟩,q⟩
 |qt y =>
  obtain⟨t,rfl⟩:=rx
  obtain⟨hy,e'⟩:y.size<=sizeLine/\n=y.size:=e
  subst e'
  exact PySem.W.len_bytes (by omega) ⟨.int _,H,I.tok _,⟨_,rfl⟩,q⟩
 |ref p =>
  cases rx
  have e':(∃xs,aN X.K H p xs/\n=xs.length)\/∃xs,bT X.K H p xs/\n=xs.length:=e
  rcases e' with⟨xs,hx,e'⟩|⟨xs,hx,e'⟩
  ·subst e'
   obtain⟨its,r',pl,hz⟩:=I.list hx
   have hlen:=r'.length
   exact Calls.call_len_list pl.isList (by simp only[size_toArray];omega) ⟨.int xs.length,H,I.tok _,⟨_,by simp only[size_toArray];rw[hlen]⟩,q⟩
  ·subst e'
   obtain⟨its,r',pl,hz⟩:=I.tuple hx
   have hlen:=r'.length
   exact len_tuple pl (by simp only[size_toArray];omega) ⟨.int xs.length,H,I.tok _,⟨_,by simp only[size_toArray];rw[hlen]⟩,q⟩
 |_=>exact(show False from e).elim
end
structure qu(h:Heap)(x dx C:Addr)(mA:Str->Option Value):Prop where
 obj:h.get? x=some (instObj C dx)
 ns:h.Ns1 dx mA
 ne:dx≠x
theorem zQk{h:Heap}(n:h.Ns1 l m):∃od,h.get? l=some od/\∀name,lookIn name od=some (m name):=by
 obtain⟨o,k,ep,g,j,f,_,d⟩:=n
 refine⟨o,g,λname=>?_⟩
 have e:=d name
 unfold nsFind findBy at e
 unfold lookIn
 rw[j]
 dsimp only
 split
 ·grind
 ·have a:k.toList.any (·.refKey)=false:=by
   rw[List.any_eq_false]
   intro y i
   obtain⟨z,t,c⟩:=f y (Array.mem_toList_iff.mp i)
   simp[DictEntry.refKey,c]
  grind
theorem qu.look(I:qu h x c C d):∃od,PySem.W.InstAt h x (instObj C c) C (some od)/\∀name,lookIn name od=some (d name) :=
 let⟨od,b,e⟩:=zQk I.ns
 ⟨od,⟨I.obj,rfl,rfl,b⟩,e⟩
section
variable{prog:Program}{w:World}{A:Around}{E:Value->Shared->Prop}{s:Shared}{K:Frag}{x dx C f:Addr}{mA:Str->Option Value}{name:Str}{v:Value}
theorem get_map{Q:Value->Shared->Prop}(X:K.In s.heap)(I:qu s.heap x dx C mA)(d:plainGet K C name=true)(c:hasDictIn K C=true)(b:findIn K (.ref C) name=some none)(hv:mA name=some v)(a:PySem.W.handedIn v=true)(h:Q v { s with toks:=s.toks+1 }) :
  wpAny (model prog w) A (getAttr (.ref x) name expr) Q E s:=by
 obtain⟨od,J,hl⟩:=I.look
 exact PySem.W.get_value X J (aej d).1 (PySem.W.findObj_own c b rfl (by grind)) a h
theorem zUf{Q:Value×List Value->Shared->Prop}(X:K.In s.heap)(I:qu s.heap x dx C mA)(hg:plainGet K C name=true)(hf:findIn K (.ref C) name=some (some (.ref f)))(ht:isFn K (.ref f)=true)(hv:mA name=none)(h:Q (.ref f,[.ref x]) s) :
  wpAny (model prog w) A (getMethod (.ref x) name pl) Q E s:=by
 obtain⟨od,J,hl⟩:=I.look
 exact PySem.W.method_fn X J (aej hg).1 (aej hg).2 hf (beq_iff_eq.mp ht) (by show(lookIn name od).map (·.isSome)=some false;rw[hl,hv];rfl) h
theorem Aj{Q:Unit->Shared->Prop}(X:K.In s.heap)(I:qu s.heap x dx C mA)(k:findIn K (.ref C) "__setattr__" = some (some (.builtin "object.__setattr__")))(l:PySem.W.plainOver K C=true)(o:takerIn K C name=some none)(n:hasDictIn K C=true)(q:aex mA ns)(hsz:ns.length<=sizeLine)(h:∀h',qu h' x dx C (λy=>if y=name then some v else mA y)->SameBut dx s.heap h'->Q () { s with heap:=h',toks:=s.toks+2 }) :
  wpAny (model prog w) A (setAttr (.ref x) name v) Q E s:=by
 obtain⟨od,J,hl⟩:=I.look
 refine PySem.W.set_plain X J k (PySem.W.osa_open (s:={ s with toks:=s.toks+1 }) (r:=none) X J l o λb=>?_)
 obtain⟨cd,p,i⟩:=PySem.W.any_some n
 have m:=I.obj
 refine aag (aah (aag (aag (wpAny_loadPart m (aag (PySem.W.Looks.here (s:={ s with toks:=s.toks+1 }) (PySem.W.looks_clsIn X p) ?_))))))
 rw[i]
 refine aah (a:=some dx) (aag (aah (aag ?_)))
 refine wpAny_nsSet1 (s:={ s with toks:=s.toks+1 }) I.ns λh' d c=>?_
 obtain⟨oD,esD,epD,e,g,j⟩:=d.count (PySem.Within.cons name v q)
 refine aag (wpAny_lookBehind e (by rw[g];exact pastItsLine_dict (aas j (by grind))) ?_)
 exact aah (h _ ⟨(c.2 _ (ab8 I.ne)).trans I.obj,d,I.ne⟩ c)
theorem zT2(X:K.In s.heap)(d:PySem.W.makesIn K C=true)(e:findIn K (.ref C) "__init__" = some (some (.ref f)))(c:typeIn K (.ref f)=some (.type "function"))(h:codeAny (model prog w) (A.under (.builtin "type.__call__" ⟨.ref C::vs,b⟩)) (.call (.ref f) ⟨.ref (s.heap.objs.size+1)::vs,b⟩) (PySem.W.InitBack (s.heap.objs.size+1) R)
   { s with heap:=(s.heap.push emptyDict).push (instObj C s.heap.objs.size) }) :
  codeAny (model prog w) A (.call (.ref C) ⟨vs,b⟩) R s:=by
 exact PySem.W.make_core (PySem.W.makes_of X d) (PySem.W.looks_findIn X e) (λa=>PySem.W.bind_fn X a c) (.inl rfl) h
end
def aH(f:Str)(v:V):List (Str×V)->List (Str×V)
 |[]=>[(f,v)]
 | (g,x)::r=>if g=f then(g,v)::r else(g,x)::aH f v r
theorem zM(f g:Str)(v:V):∀fs:List (Str×V),(aH f v fs).lookup g=if g=f then some v else fs.lookup g
 |[]=>by
  show List.lookup g [(f,v)]=_
  grind
 | (k,x)::r=>by
  have ih:=zM f g v r
  rw[show aH f v ((k,x)::r)=(if k=f then(k,v)::r else(k,x)::aH f v r) from rfl]
  grind
theorem Wc(f:Str)(v:V):∀fs:List (Str×V),f∈(aH f v fs).map (·.1)/\∀g,g∈fs.map (·.1)->g∈(aH f v fs).map (·.1)
 |[]=>⟨by simp[aH],λg h=>by simp at h⟩
 | (k,x)::r=>by
  obtain⟨i1,i2⟩:=Wc f v r
  rw[show aH f v ((k,x)::r)=(if k=f then(k,v)::r else(k,x)::aH f v r) from rfl]
  grind
theorem ZD(f:Str)(v:V):∀fs:List (Str×V),(aH f v fs).length<=fs.length+1
 |[]=>by simp[aH]
 | (k,x)::r=>by
  have ih:=ZD f v r
  rw[show aH f v ((k,x)::r)=(if k=f then(k,v)::r else(k,x)::aH f v r) from rfl]
  grind
theorem gD.some_of(r:gD (some v) o):∃u,o=some u/\RelV v u:=by
 cases o with
 |none=>exact(r).elim
 |some u=>exact⟨u,rfl,r⟩
theorem gD.none_of(r:gD none o):o=none:=by
 cases o with
 |none=>rfl
 |some u=>exact(r).elim
theorem zQz(r:RelV v u):PySem.W.handedIn u=true:=by
 cases v with
 |non=>cases(r);rfl
 |bl b=>cases(r);rfl
 |int i=>obtain⟨t,e⟩:=(r);cases e;rfl
 |str x=>obtain⟨t,e⟩:=(r);cases e;rfl
 |qt b=>obtain⟨t,e⟩:=(r);cases e;rfl
 |flt b=>obtain⟨t,e⟩:=(r);cases e;rfl
 |ref a=>cases(r);rfl
 |ty n=>cases(r);rfl
section
variable{P:Program}{w:World}{H H':Hp}{h h':Heap}{a C dx:Addr}{fs fs':List (Str×V)}
theorem TJ(c:eZ P w H h)(e:H a=some (.ins C dx fs)):∃b,qu h a dx C b/\(∀f,gD (fs.lookup f) (b f))/\aex b (fs.map (·.1))/\fs.length<=1000/\H dx=some (.own a):=by
 obtain⟨d,z,g,i,b,n,r,q⟩:=(c a _ e)
 exact⟨b,⟨i,n,g⟩,r,q,z,d⟩
end
structure Cls(K:Frag)(C:Addr):Prop where
 pg:plainGet K C ada=true
 hd:hasDictIn K C=true
 po:PySem.W.plainOver K C=true
 sa:findIn K (.ref C) "__setattr__" = some (some (.builtin "object.__setattr__"))
theorem Cls.get{K:Frag}{C:Addr}(c:Cls K C)(f:Str):plainGet K C f=true:=c.pg
def aY(K:Frag)(C:Addr)(f:Str):Prop:=findIn K (.ref C) f=some none
theorem aY.taker{K:Frag}{C:Addr}{f:Str}(n:aY K C f):takerIn K C f=some none:=by
 unfold takerIn
 rw[n]
 rfl
structure Meth(K:Frag)(C:Addr)(m:Str)(f:Addr):Prop where
 at_:findIn K (.ref C) m=some (some (.ref f))
 fn:isFn K (.ref f)=true
 kp:keepIn K (.ref f)=true
section
variable{X:Cx}{pins:List (Addr×Obj)}{σ:St}{H:Hp}{s:Shared}{a C dx:Addr}{fs:List (Str×V)}{f:Str}{v:V}{A:Around}{E:Value->Shared->Prop}
theorem zN6{Q:Value->Shared->Prop}(I:Inv X pins σ H s)(e:H a=some (.ins C dx fs))(c:Cls X.K C)(n:aY X.K C f)(l:fs.lookup f=some v)(h:∀u s',Inv X pins σ H s'->RelV v u->Q u s'):wpAny (model X.prog X.w) A (getAttr (.ref a) f b) Q E s:=by
 obtain⟨g,O,r,_,_,_⟩:=TJ I.hok e
 obtain⟨u,i,d⟩:=gD.some_of (v:=v) (o:=g f) (by grind)
 exact get_map I.iJ O (c.get f) c.hd n i (zQz d) (h u _ (I.tok _) d)
theorem Wd{Q:Value×List Value->Shared->Prop}(I:Inv X pins σ H s)(e:H a=some (.ins C dx fs))(c:Cls X.K C)(k:Meth X.K C m g)(l:fs.lookup m=none)(h:Q (.ref g,[.ref a]) s):wpAny (model X.prog X.w) A (getMethod (.ref a) m pl) Q E s:=by
 obtain⟨b,O,r,_,_,_⟩:=TJ I.hok e
 have d:b m=none:=gD.none_of (by grind)
 exact zUf I.iJ O (c.get m) k.at_ k.fn d h
theorem zNi{Q:Unit->Shared->Prop}(I:Inv X pins σ H s)(e:H a=some (.ins C dx fs))(c:Cls X.K C)(n:aY X.K C f)(hl:fs.length<1000)(p:RelV y u)(h:∀s',Inv X pins σ (upd H a (.ins C dx (aH f y fs))) s'->Q () s'):wpAny (model X.prog X.w) A (setAttr (.ref a) f u) Q E s:=by
 obtain⟨m,O,r,i,_,j⟩:=TJ I.hok e
 have B:(fs.map (·.1)).length<=sizeLine:=by rw[length_map,sizeLine_eq];omega
 refine Aj I.iJ O c.sa c.po n.taker c.hd i B λD d k=>h _ ?_
 have t:∃o,D.get? dx=some o:=let⟨o,_,_,G,_⟩:=d.ns;⟨o,G⟩
 refine I.write (x:=a) (e:=dx) (by rw[e];exact acd) (.inr j) (λb q l z=>(k.2 b l).trans z) t ?_
 refine⟨by rw[zN O.ne];exact j,?_,O.ne,d.obj,_,d.ns,λg=>?_,λg F=>?_⟩
 ·have:=ZD f y fs;omega
 ·show gD ((aH f y fs).lookup g) (if g=f then some u else m g)
  rw[zM]
  by_cases q:g=f
  ·rw[if_pos q,if_pos q];exact p
  grind
 ·by_cases q:g=f
  ·rw[q];exact(Wc f y fs).1
  ·refine(Wc f y fs).2 g (i g λz=>F ?_)
   grind
theorem Inv.made(I:Inv X pins σ H s):Inv X pins σ (upd (upd H s.heap.objs.size (.own (s.heap.objs.size+1))) (s.heap.objs.size+1) (.ins C s.heap.objs.size []))
  { s with heap:=(s.heap.push emptyDict).push (instObj C s.heap.objs.size) }:=by
 have d:(s.heap.push emptyDict).get? s.heap.objs.size=some emptyDict:=get?_push_size s.heap rfl
 have j:=by
  have:=get?_push_size (s.heap.push emptyDict) (o:=instObj C s.heap.objs.size) rfl
  rwa [size_push] at this
 have k:(s.heap.push emptyDict).Ns s.heap.objs.size (λ_=>none):=⟨emptyDict,#[],_,d,rfl,(λe l=>absurd l (by simp)),λ_=>rfl⟩
 have h:=I.laid (o:=.own (s.heap.objs.size+1)) (t':=s.toks) (λb u q=>get?_push_of_some _ q) (aak _) ⟨_,d⟩
 refine h.laid (λb u q=>get?_push_of_some _ q) (Nat.le_of_eq (size_push _ _)) ?_
 have g:s.heap.objs.size≠s.heap.objs.size+1:=aan (abp _)
 refine⟨by rw[zN g,zJ],aa0 _,g,j,λ_=>none,(Heap.Ns1.of_empty k).at λo q=>get?_push_of_some _ q,λ_=>acd,λy i=>absurd rfl i⟩
theorem Ak(b:attributeBase e f env (eval e env)=eval e env)(h:wpAny (model prog w) A (eval e env) (λo c=>wpAny (model prog w) A (getAttr o f true) Q E c) E s):wpAny (model prog w) A (eval (.Attribute e f pos) env) Q E s :=
 Attribute_any_ h (by rw[arm_eval_Attribute,b])
end
def nJ(K:Frag)(d:TE)(f:Str):TE:=λσ H Q=>d σ H λx c=>∃a C g b v,x=.ref a/\c a=some (.ins C g b)/\Cls K C/\aY K C f/\b.lookup f=some v/\Q v c
def Wf(K:Frag)(h g:TE)(f:Str):TS:=λD σ H=>g σ H λy i=>h σ i λx d=>∃a C c b,x=.ref a/\d a=some (.ins C c b)/\Cls K C/\aY K C f/\b.length<1000 /\
 D.nx σ (upd d a (.ins C c (aH f y b)))
section
variable{X:Cx}{o e value:Expr}{f:Str}{pos pos' tpos:Pos}{ta tv:TE}
theorem ZF(p:PE X e ta)(d:attributeBase e f X.env (eval e X.env)=eval e X.env):PE X (.Attribute e f pos) (nJ X.K ta f):=by
 intro b s σ H Q I h
 refine Ak d (aO (p b s σ H _ I h) ?_)
 rintro u s1 ⟨x,m,j,r,a,C,dx,fs,v,t,i,c,n,l,q⟩
 subst t
 obtain rfl:u=aa7 a:=r
 exact zN6 j i c n l λu' s2 g k=>⟨v,m,g,k,q⟩
theorem yj(m:PE X o ta)(i:PE X value tv)(k:swapsWith value (some (.Attribute o f pos')) pos.line X.env=pure false):PS X (.Assign [.Attribute o f pos'] value pos) (Wf X.K ta tv f):=by
 intro b s σ H D I h
 refine plainObj_wpAny_Assign_Attribute (aO (i b s σ H _ I h) λu d ⟨y,j,B,v,q⟩=>aO (m b d σ j _ B q) ?_) k
 rintro t s2 ⟨x,H2,g,p,a,C,dx,fs,w,z,c,n,l,r⟩
 subst w
 obtain rfl:t=aa7 a:=p
 exact zNi g z c n l v λs3 A=>⟨σ,_,A,r⟩
theorem Fy(D:PE X e te)(I:Inv X i σ H s)(h:te σ H λx n=>∃a C t fs g,x=.ref a/\n a=some (.ins C t fs)/\Cls X.K C/\Meth X.K C m g/\fs.lookup m=none /\
   ∀j,Inv X i σ n j->wpAny (model X.prog X.w) X.A (callWith pos (.ref g) [.ref a] (backTo pos (starEach b X.env)) (backToKw pos (keywordEach [] X.env))) Q X.xe j)(z:eval (.Call (.Attribute e m d) b [] pos) X.env=(do
   let p <-eval e X.env
   standAt d.atName
   let(f,first) <-holding [p] (getMethod p m pl)
   callWith pos f first (backTo pos (starEach b X.env)) (backToKw pos (keywordEach [] X.env)))) :
  wpAny (model X.prog X.w) X.A (eval (.Call (.Attribute e m d) b [] pos) X.env) Q X.xe s:=by
 refine ady (aO (D i s σ H _ I h) ?_) z
 rintro u j ⟨x,n,r,B,a,C,t,fs,g,v,y,c,k,l,q⟩
 subst v
 obtain rfl:u=aa7 a:=B
 exact Wd r y c k l (q j r)
end
section
variable{X:Cx}{pins:List (Addr×Obj)}{σ:St}{H:Hp}{s:Shared}{A:Around}{E:Value->Shared->Prop}{Q:Value->Shared->Prop}{c:Value}{b:Bool}
inductive iQ(K:Frag)(H:Hp):V->Value->Prop where
 |non:iQ K H .non (.type "NoneType")
 |bl (x:Bool):iQ K H (.bl x) (.type "bool")
 |int (i:Int):iQ K H (.int i) (.type "int")
 |str (x:Str):iQ K H (.str x) (.type "str")
 |flt (x:UInt64):iQ K H (.flt x) (.type "float")
 |lst {a:Addr} {xs:List V} (e:H a=some (.lst xs)):iQ K H (.ref a) (.type "list")
 |mQ {a:Addr} {o:Obj} {xs:List V} (e:H a=some (.mQ o (.lst xs))):iQ K H (.ref a) (.type "list")
 |tup {a:Addr} {xs:List V} (e:H a=some (.tup xs)):iQ K H (.ref a) (.type "tuple")
 |dK {a:Addr} {kvs:List (Key×V)} (e:H a=some (.dK kvs)):iQ K H (.ref a) (.type "dict")
 |dT {a:Addr} {kvs:List (List Key×V)} (e:H a=some (.dT kvs)):iQ K H (.ref a) (.type "dict")
 |ins {a C dx:Addr} {fs:List (Str×V)} (e:H a=some (.ins C dx fs)) (cl:Cls K C) (ha:findIn K (.ref C) "__class__" = some (some (.builtin "object.__class__")))
   (hn:specialIn K (.builtin "object.__class__") "__get__" = some (some (.builtin "getset_descriptor.__get__"))) (htk:takesIn K (.builtin "object.__class__")=some true)
   (hm:mroIn K C (.type "object")=some true):iQ K H (.ref a) (.ref C)
theorem zQu(I:Inv X pins σ H s)(g:RelV x u)(F:iQ X.K H x t)(e:kitOne X.K t c=some b)(h:∀tk,Q (.bool b) { s with toks:=tk }) :
  wpAny (model X.prog X.w) A (call (.builtin "isinstance") [u,c]) Q E s:=by
 cases F with
 |non=>cases(show u=ac6 from g);exact adl PySem.W.kitx_none I.iJ acd e (λz=>nomatch z) h
 |bl y=>cases(show u=Value.bool y from g);exact adl PySem.W.kitx_bool I.iJ acd e (λz=>nomatch z) h
 |int i=>obtain⟨t,q⟩:=(show∃t,u=abt i t from g);cases q;exact adl PySem.W.kitx_int I.iJ acd e (λz=>nomatch z) h
 |str y=>obtain⟨t,q⟩:=(show∃t,u=Value.str y t from g);cases q;exact adl PySem.W.kitx_str I.iJ acd e (λz=>nomatch z) h
 |flt y=>obtain⟨t,q⟩:=(show∃t,u=Value.float y t from g);cases q;exact adl PySem.W.kitx_float I.iJ acd e (λz=>nomatch z) h
 |@lst a l f =>
  cases(show u=aa7 a from g)
  obtain⟨_,_,n,_,j⟩:=(show bJ X.prog X.w H s.heap a (.lst l) from I.hok a _ f)
  exact adl PySem.W.kitx_list I.iJ ⟨_,j,rfl⟩ e (λz=>nomatch z) h
 |@mQ a ob l f =>
  cases(show u=aa7 a from g)
  obtain⟨_,_,_,n,_,j⟩:=(show bJ X.prog X.w H s.heap a (.mQ ob (.lst l)) from I.hok a _ f)
  exact adl PySem.W.kitx_list I.iJ ⟨_,j,rfl⟩ e (λz=>nomatch z) h
 |@tup a l f =>
  cases(show u=aa7 a from g)
  obtain⟨_,_,_,p⟩:=(show bJ X.prog X.w H s.heap a (.tup l) from I.hok a _ f)
  obtain⟨o,j,m,_⟩:=p
  exact adl PySem.W.kitx_tuple I.iJ ⟨o,j,m⟩ e (λz=>nomatch z) h
 |@dK a k f =>
  cases(show u=aa7 a from g)
  obtain⟨_,_,vs,_,p⟩:=(show bJ X.prog X.w H s.heap a (.dK k) from I.hok a _ f)
  obtain⟨o,B,G,j,m,_⟩:=p
  exact adl PySem.W.kitx_dict I.iJ ⟨o,j,m.1⟩ e (λz=>nomatch z) h
 |@dT a k f =>
  cases(show u=aa7 a from g)
  obtain⟨_,_,l,_,o,B,G,j,m,_⟩:=(show bJ X.prog X.w H s.heap a (.dT k) from I.hok a _ f)
  exact adl PySem.W.kitx_dict I.iJ ⟨o,j,m.1⟩ e (λz=>nomatch z) h
 |@ins a C dx fs f v L hn r D =>
  cases(show u=aa7 a from g)
  obtain⟨mA,O,_⟩:=TJ I.hok f
  obtain⟨od,J,_⟩:=O.look
  exact adl (PySem.W.kitx_own (v.get _) v.hd L hn r D) I.iJ J e (λz=>nomatch z) h
end
structure bI(k:Nat)(A:Around):Prop where
 hd:A.handled=none
 dp:A.depth+3*k+5<recursionLimit
 un:A.units+16*k+200<cLine
theorem bI.mono(r:bI k A)(h:j<=k):bI j A:=⟨r.hd,by have:=r.dp;omega,by have:=r.un;omega⟩
theorem bI.deeper(r:bI (k+1) A)(env:Env):bI k (A.deeper env) :=
 ⟨r.hd,by have:=r.dp;show A.depth+1+3*k+5<_;omega,by have:=r.un;show A.units+3+16*k+200<_;omega⟩
theorem zN0{A:Around}:(A.under (.builtin "type.__call__" ⟨.ref C::us,kw⟩)).depth=A.depth+1:=by
 first|rfl|grind
theorem zNz{A:Around}:(A.under (.builtin "type.__call__" ⟨.ref C::us,kw⟩)).units=A.units+1:=by
 first|rfl|grind
theorem bI.make(r:bI (k+1) A)(C:Addr)(us:List Value)(a:List (Str×Value)):bI k (A.under (.builtin "type.__call__" ⟨.ref C::us,a⟩)) :=
 ⟨r.hd,by have:=r.dp;rw[zN0];omega,by have:=r.un;rw[zNz];omega⟩
theorem bI.depth(r:bI k A):A.depth<recursionLimit:=by have:=r.dp;omega
theorem bI.units(r:bI k A):A.units+64<cLine:=by have:=r.un;omega
def aU:TA:=λ_ H Q=>Q [] H
def yK(a:TE)(e:TA):TA:=λσ H Q=>a σ H λx c=>e σ c λd b=>Q (x::d) b
section
variable{X:Cx}{e:Expr}{es:List Expr}{te:TE}{t:TA}{pos:Pos}
theorem zD:PA X [] aU:=λ_ _ _ _ H Q I h=>ade ⟨[],H,I,.nil,h⟩
theorem zA(n:PE X e te)(k:PA X es t)(m:starEach (e::es) X.env=(false,eval e X.env)::starEach es X.env:=by rfl):PA X (e::es) (yK te t):=by
 intro pos a s σ H Q I h
 rw[m]
 refine acg (aO (n a s σ H _ I h) ?_)
 rintro u o ⟨x,j,g,f,l⟩
 exact aO (k pos a o σ j _ g l) (by rintro us s2 ⟨i,p,d,c,b⟩;exact⟨x::i,p,d,.cons f c,b⟩)
def rG(t:TA):TE:=λσ H Q=>t σ H λb c=>b.length<=sizeLine/\∀p,c p=none->Q (.ref p) (upd c p (.tup b))
def uc(t:TA):TE:=λσ H Q=>t σ H λa b=>a.length<=sizeLine/\∀p,b p=none->Q (.ref p) (upd b p (.lst a))
theorem uY{f}(h:PA X es t):PE X (.Tuple es f pos) (rG t):=by
 intro a s σ H Q I l
 refine wpAny_Tuple_spliced (aO (h pos a s σ H _ I l) λk d ⟨g,i,c,r,z,q⟩=>⟨by rw[<-r.length];exact z,?_⟩)
 have j:=c.hok.fresh (aak _)
 refine⟨.ref d.heap.objs.size,upd i d.heap.objs.size (.tup g),c.laid (λb u e=>get?_push_of_some _ e) (aak _) ?_,rfl,q _ j⟩
 exact⟨z,k,r,⟨_,get?_push_size _ rfl,rfl,_,rfl⟩⟩
theorem xF(h:PA X es t):PE X (.List es pos) (uc t):=by
 intro a s σ H Q I f
 refine wpAny_List_spliced (aO (h pos a s σ H _ I f) λk c ⟨g,i,d,r,z,q⟩=>⟨by rw[<-r.length];exact z,?_⟩)
 have j:=d.hok.fresh (aak _)
 refine⟨.ref c.heap.objs.size,upd i c.heap.objs.size (.lst g),d.laid (λb u e=>get?_push_of_some _ e) (aak _) ?_,rfl,q _ j⟩
 exact⟨z,k,0,r,get?_push_size _ rfl⟩
end
abbrev Sp:=List V->Hp->VK->XK->Prop
abbrev tL:=List Env->Hp->Shared->XK->Value->Shared->Prop
structure qw(P:Program)(w:World)(K:Frag)(mg:Str->Option Value)(base:Heap)(A:Around)(outer:List Env)(s:Shared)(H:Hp):Prop where
 frames:A.frames=some outer
 mod:Mod K mg base
 bs:∀b o,base.get? b=some o->s.heap.get? b=some o/\H b=none
 z8:base.objs.size<=s.heap.objs.size
 jT:s.heap.FunFrames base outer
 HB:∀b∈frs outer,H b=none
 hok:eZ P w H s.heap
 bare:AllBare s.gens
def CE(b:List Env)(P:Program)(w:World)(H:Hp)(s:Shared)(Q:VK)(u:Value)(s':Shared):Prop :=
 ∃v c,s'.os=s.os/\AllBare s'.gens/\Un (frs b) [] H c s.heap s'.heap/\eZ P w c s'.heap/\RelV v u/\Q v c
def CR(CX:tL)(a:List Env)(P:Program)(w:World)(H:Hp)(s:Shared)(Q:VK)(E:XK)(r:Result)(s':Shared):Prop :=
 match r with
 |.ok (.ret u)=>CE a P w H s Q u s'
 |.ok _=>False
 |.error e=>CX a H s E e s'
structure aq(P:Program)(w:World)(K:Frag)(mg:Str->Option Value)(base:Heap)(CX:tL)(k:Nat)(f:Addr)(fd:FuncData)(ps:List Str)(sp:Sp):Prop where
 len:∀vs H Q E,sp vs H Q E->vs.length=ps.length
 run:∀(A:Around)(outer:List Env)(s:Shared)(H:Hp)(args:Args)(us:List Value)(vs:List V)(Q:VK)(E:XK),bI k A->qw P w K mg base A outer s H->BindsTo s fd args (ps.zip us)->Vals vs us->sp vs H Q E ->
  codeAny (model P w) A (.call (.ref f) args) (CR CX outer P w H s Q E) s
theorem aq.mono{P:Program}{w:World}{K:Frag}{mg:Str->Option Value}{base:Heap}{CX:tL}{j k:Nat}{f:Addr}{c:FuncData}{ps:List Str}{sp:Sp}(F:aq P w K mg base CX j f c ps sp)(h:j<=k) :
  aq P w K mg base CX k f c ps sp:=⟨F.len,λA a s H b g d Q E e=>F.run A a s H b g d Q E (e.mono h)⟩
theorem aq.imp{P:Program}{w:World}{K:Frag}{mg:Str->Option Value}{base:Heap}{CX:tL}{k:Nat}{f:Addr}{e:FuncData}{ps:List Str}{sp d:Sp}(F:aq P w K mg base CX k f e ps sp)(h:∀vs H Q E,d vs H Q E->sp vs H Q E):aq P w K mg base CX k f e ps d :=
 ⟨λvs H Q E q=>F.len vs H Q E (h _ _ _ _ q),λA b s H c l vs Q E n i g m j=>F.run A b s H c l vs Q E n i g m (h _ _ _ _ j)⟩
theorem qw.make{P:Program}{w:World}{K:Frag}{mg:Str->Option Value}{base:Heap}{A:Around}{a:List Env}{s:Shared}{H:Hp}(e:qw P w K mg base A a s H)(C:Addr)(us:List Value)(b:List (Str×Value)) :
  qw P w K mg base (A.under (.builtin "type.__call__" ⟨.ref C::us,b⟩)) a s H:=⟨by first|exact e.frames|grind,e.mod,e.bs,e.z8,e.jT,e.HB,e.hok,e.bare⟩
section
variable{X:Cx}{pins:List (Addr×Obj)}{σ:St}{H:Hp}{s s':Shared}
theorem Inv.env0(I:Inv X pins σ H s):qw X.prog X.w X.K X.mg X.base X.A X.stack s H :=
 ⟨I.ok.frames,I.ok.mod,I.bs,aas I.ok.z8 I.sz,I.stack,I.qT,I.hok,I.bare⟩
theorem Inv.after(I:Inv X pins σ H s)(h:CE X.stack X.prog X.w H s Q u s'):EP X pins σ Q u s':=by
 obtain⟨v,j,os,c,i,e,r,q⟩:=h
 obtain⟨hh,g,d,t,f⟩:=s'
 obtain rfl:f=s.os:=os
 exact⟨v,j,I.call i e c (λb z=>absurd z (by simp)),r,q⟩
end
def rH(sp:Sp)(a:List V)(E:XK)(t:TA):TE:=λσ H Q=>t σ H λb c=>sp (b++a) c Q E
def O8(C:Addr)(m:Str)(sp:Sp)(b:List V)(E:XK)(h:TE)(t:TA):TE:=λσ H Q=>h σ H λx d=>∃a g c,x=.ref a/\d a=some (.ins C g c)/\c.lookup m=none /\
 t σ d λf e=>sp (x::(f++b)) e Q E
def O9(C:Addr)(sp:Sp)(c:List V)(E:XK)(t:TA):TE:=λσ H Q=>t σ H λe d=>∀x b,d x=none->d b=none->b≠x ->
 sp (.ref x::(e++c)) (upd (upd d b (.own x)) x (.ins C b [])) (λv f=>v=.non/\Q (.ref x) f) E
def Binds(K:Frag)(c:FuncData)(ps:List Str)(b:List Value):Prop :=
 ∀(s:Shared)(a:List Value),K.In s.heap->(a++b).length=ps.length->BindsTo s c ⟨a,[]⟩ (ps.zip (a++b))
theorem Binds.all{K:Frag}{b:FuncData}{ps:List Str}(h:∀us:List Value,us.length=ps.length->bindArgs b ⟨us,[]⟩=pure (ps.zip us)):Binds K b ps []:=λs us _ a=>by
 rw[append_nil] at a ⊢
 exact .of_eq (h us a)
def Al(CX:tL)(X:Cx)(E:XK):Prop:=∀(b:List (Addr×Obj))(σ:St)(H:Hp)(s:Shared)(e:Value)(c:Shared),Inv X b σ H s->CX X.stack H s E e c->X.xe e c
section
variable{X:Cx}{CX:tL}{k:Nat}{f C:Addr}{fd:FuncData}{ps:List Str}{sp:Sp}{nO:List V}{ds:List Value}{E:XK}{x m:Str}{p pos apos:Pos}{e o:Expr}{es:List Expr}{ta:TE}{t:TA}
theorem TQ(F:aq X.prog X.w X.K X.mg X.base CX k f fd ps sp)(j:bI k X.A)(d:Binds X.K fd ps ds)(n:Vals nO ds)(i:Al CX X E)(I:Inv X a σ H s)(r:Vals vs us)(h:sp (vs++nO) H Q E):wpAny (model X.prog X.w) X.A (call (.ref f) us) (EP X a σ Q) X.xe s:=by
 have c:=r.append n
 have q:(us++ds).length=ps.length:=by rw[<-c.length];exact F.len _ _ _ _ h
 refine wpAny_call (acv (F.run X.A X.stack s H ⟨us,[]⟩ (us++ds) (vs++nO) Q E j I.env0 (d s us I.iJ q) c h) λr l b=>?_)
 cases r with
 |error e=>exact i a σ H s e l I b
 |ok g =>
  cases g with
  |ret u=>exact I.after b
  |next=>exact abd b
  |brk=>exact abd b
  |cont=>exact abd b
theorem Ik(F:aq X.prog X.w X.K X.mg X.base CX k f fd ps sp)(i:bI k X.A)(z:Gl X x)(l:X.mg x=some (.ref f))(v:keepIn X.K (.ref f)=true)(j:Binds X.K fd ps ds)(u:Vals nO ds)(B:Al CX X E)(n:PA X (e::es) t)(d:(x==("__debug__":Str))=false:=by decide)(y:starEach (e::es) X.env=(false,eval e X.env)::starEach es X.env:=by rfl)(c:(backTo pos (starEach es X.env)).any (·.1)=false:=by rfl) :
  PE X (.Call (.Name x p) (e::es) [] pos) (rH sp nO E t):=by
 intro b s σ H Q I h
 refine abg (Oi I z l ?_ d)
 refine aed I.ok.mod.Mg v (aO (n pos b s σ H _ I h) λus s1 ⟨vs,H1,g,r,q⟩=>⟨g.iJ,?_⟩) y c
 exact TQ F i j u B g r q
theorem Am(he:PE X o ta)(c:Cls X.K C)(j:Meth X.K C m f)(F:aq X.prog X.w X.K X.mg X.base CX k f fd ps sp)(hr:bI k X.A)(G:Binds X.K fd ps ds)(hd:Vals nO ds)(J:Al CX X E)(ha:PA X (e::es) t)(g:starEach (e::es) X.env=(false,eval e X.env)::starEach es X.env:=by rfl)(i:(backTo pos (starEach es X.env)).any (·.1)=false:=by rfl)(ht:eval (.Call (.Attribute o m apos) (e::es) [] pos) X.env=(do
   let y <-eval o X.env
   standAt apos.atName
   let(f,first) <-holding [y] (getMethod y m pl)
   callWith pos f first (backTo pos (starEach (e::es) X.env)) (backToKw pos (keywordEach [] X.env))):=by rfl) :
  PE X (.Call (.Attribute o m apos) (e::es) [] pos) (O8 C m sp nO E ta t):=by
 intro b s σ H Q I h
 refine ady (aO (he b s σ H _ I h) ?_) ht
 rintro u z ⟨x,L,v,B,a,dx,fs,ex,ea,l,q⟩
 subst ex
 obtain rfl:u=aa7 a:=B
 refine Wd v ea c j l ?_
 refine aed I.ok.mod.Mg j.kp (aO (ha pos b z σ L _ v q) λus s2 ⟨vs,H2,n,r,D⟩=>⟨n.iJ,?_⟩) g i
 exact TQ (vs:=.ref a::vs) F hr G hd J n (.cons rfl r) D
theorem zTk(G:PE X o ta)(c:Cls X.K C)(i:Meth X.K C m f)(F:aq X.prog X.w X.K X.mg X.base CX k f fd ps sp)(D:bI k X.A)(r:Binds X.K fd ps ds)(J:Vals nO ds)(v:Al CX X E)(B:eval (.Call (.Attribute o m apos) [] [] pos) X.env=(do
   let j <-eval o X.env
   standAt apos.atName
   let(f,first) <-holding [j] (getMethod j m pl)
   callWith pos f first (backTo pos (starEach [] X.env)) (backToKw pos (keywordEach [] X.env))):=by rfl) :
  PE X (.Call (.Attribute o m apos) [] [] pos) (O8 C m sp nO E ta aU):=by
 intro d s σ H Q I h
 refine ady (aO (G d s σ H _ I h) ?_) B
 rintro u s1 ⟨x,H1,g,n,a,dx,fs,y,z,l,q⟩
 subst y
 obtain rfl:u=aa7 a:=n
 refine Wd g z c i l ?_
 exact PySem.W.callWith_K0 g.iJ i.kp (TQ (vs:=[.ref a]) F D r J v g (.cons rfl .nil) q)
structure Mk(K:Frag)(C f:Addr):Prop where
 makes:PySem.W.makesIn K C=true
 init:findIn K (.ref C) "__init__" = some (some (.ref f))
 fn:isFn K (.ref f)=true
 kp:keepIn K (.ref C)=true
theorem ZG(M:Mk X.K C f)(F:aq X.prog X.w X.K X.mg X.base CX k f fd ps sp)(hr:bI (k+1) X.A)(hb:Binds X.K fd ps ds)(hd:Vals nO ds)(hx:Al CX X E)(I:Inv X pins σ H s)(r:Vals vs us)(h:∀x dx,H x=none->H dx=none->dx≠x->sp (.ref x::(vs++nO)) (upd (upd H dx (.own x)) x (.ins C dx [])) (λv H2=>v=.non/\Q (.ref x) H2) E) :
  wpAny (model X.prog X.w) X.A (call (.ref C) us) (EP X pins σ Q) X.xe s:=by
 have hq:=h (s.heap.objs.size+1) s.heap.objs.size (I.hok.fresh (abw _)) (I.hok.fresh (aak _)) (aan (abp _))
 have I2:=Inv.made (C:=C) I
 have r2:Vals (V.ref (s.heap.objs.size+1)::(vs++nO)) (aa7 (s.heap.objs.size+1)::(us++ds)):=.cons rfl (r.append hd)
 have hl:(aa7 (s.heap.objs.size+1)::us++ds).length=ps.length:=by
  have e:=r2.length
  rw[F.len _ _ _ _ hq] at e
  exact e.symm
 refine wpAny_call (zT2 (f:=f) I.iJ M.makes M.init (beq_iff_eq.mp M.fn) (acv (F.run _ X.stack _ _ ⟨aa7 (s.heap.objs.size+1)::us,[]⟩ (aa7 (s.heap.objs.size+1)::(us++ds)) _ _ E (hr.make C us [])
  (I2.env0.make C us []) (hb _ (aa7 (s.heap.objs.size+1)::us) I2.iJ hl) r2 hq) λr s' hq'=>?_))
 cases r with
 |error e=>exact hx pins σ _ _ e s' I2 hq'
 |ok fl =>
  cases fl with
  |ret u =>
   obtain⟨v,H',I3,rv,ev,q3⟩:=I2.after hq'
   subst ev
   exact⟨rv,⟨V.ref (s.heap.objs.size+1),H',I3,rfl,q3⟩⟩
  |next=>exact abd hq'
  |brk=>exact abd hq'
  |cont=>exact abd hq'
theorem vD(M:Mk X.K C f)(F:aq X.prog X.w X.K X.mg X.base CX k f fd ps sp)(n:bI (k+1) X.A)(y:Gl X x)(l:X.mg x=some (.ref C))(j:Binds X.K fd ps ds)(u:Vals nO ds)(g:Al CX X E)(i:PA X (e::es) t)(c:(x==("__debug__":Str))=false:=by decide)(v:starEach (e::es) X.env=(false,eval e X.env)::starEach es X.env:=by rfl)(b:(backTo pos (starEach es X.env)).any (·.1)=false:=by rfl) :
  PE X (.Call (.Name x p) (e::es) [] pos) (O9 C sp nO E t):=by
 intro a s σ H Q I h
 refine abg (Oi I y l ?_ c)
 refine aed I.ok.mod.Mg M.kp (aO (i pos a s σ H _ I h) λus s1 ⟨vs,H1,d,r,q⟩=>⟨d.iJ,?_⟩) v b
 exact ZG M F n j u g d r q
theorem zTl(M:Mk X.K C f)(F:aq X.prog X.w X.K X.mg X.base CX k f fd ps sp)(c:bI (k+1) X.A)(d:Gl X x)(j:X.mg x=some (.ref C))(i:Binds X.K fd ps ds)(g:Vals nO ds)(b:Al CX X E)(a:(x==("__debug__":Str))=false:=by decide):PE X (.Call (.Name x p) [] [] pos) (O9 C sp nO E aU):=by
 intro pins s σ H Q I h
 refine abg (Oi I d j ?_ a)
 exact PySem.W.callWith_K0 I.iJ M.kp (ZG M F c i g b I .nil h)
end
structure ao(N P:List Str)(sc:Scope):Prop where
 kind:sc.kind=.function
 co:sc.isCoroutine=false
 gen:sc.isGenerator=false
 nd:N.Nodup
 pre:N.take P.length=P
 par:∀x∈P,sc.names.lookup x=some .local\/sc.names.lookup x=some .cell
 Il:∀y∈sc.names,y.2≠.free
theorem ZJ{kindOf:Str->Option NameKind}{x:Str}:∀{a:List (Str×Value)}{m:Str->Option Value},(∀v,(x,v)∉a)->bindL kindOf a m x=m x
 |[],_,_=>rfl
 | (n,v)::r,m,h=>by
  unfold bindL
  rw[ZJ λw b=>h w (mem_cons_of_mem _ b)]
  split
  ·grind
  ·rfl
theorem ZL{kindOf:Str->Option NameKind}{x:Str}:∀{a:List (Str×Value)}{m:Str->Option Value},(∀v,(x,v)∉a)->bindC kindOf a m x=m x
 |[],_,_=>rfl
 | (n,v)::r,m,h=>by
  unfold bindC
  rw[ZL λw b=>h w (mem_cons_of_mem _ b)]
  split
  ·rfl
  grind
theorem ZM{kindOf:Str->Option NameKind}:∀{P:List Str}{vs:List Value}{i:Nat}{m:Str->Option Value},P.Nodup->P[i]?=some x->vs[i]?=some v->kindOf x=some .local ->
  bindL kindOf (P.zip vs) m x=some v
 |[],_,_,_,_,h,_,_=>by simp at h
 |_::_,[],_,_,_,_,h,_=>by simp at h
 |p::P,w::vs,0,m,nd,h1,h2,hk=>by
  simp at h1 h2;subst h1;subst h2
  show bindL kindOf ((p,w)::P.zip vs) m p=_
  unfold bindL
  rw[ZJ λv hv=>(nodup_cons.mp nd).1 (of_mem_zip hv).1,if_pos hk]
  simp
 |p::P,w::vs,i+1,m,nd,h1,h2,hk=>by
  show bindL kindOf ((p,w)::P.zip vs) m x=_
  unfold bindL
  exact ZM (i:=i) (nodup_cons.mp nd).2 (by simpa using h1) (by simpa using h2) hk
theorem ZP{kindOf:Str->Option NameKind}:∀{P:List Str}{vs:List Value}{i:Nat}{m:Str->Option Value},P.Nodup->P[i]?=some x->vs[i]?=some v->kindOf x≠some .local ->
  bindC kindOf (P.zip vs) m x=some v
 |[],_,_,_,_,h,_,_=>by simp at h
 |_::_,[],_,_,_,_,h,_=>by simp at h
 |p::P,w::vs,0,m,c,b,a,d=>by
  simp at b a;subst b;subst a
  show bindC kindOf ((p,w)::P.zip vs) m p=_
  unfold bindC
  rw[ZL λv e=>(nodup_cons.mp c).1 (of_mem_zip e).1,if_neg d]
  simp
 |p::P,w::vs,i+1,m,c,b,a,d=>by
  unfold bindC
  exact ZP (i:=i) (nodup_cons.mp c).2 (by grind) (by grind) d
def start(N:List Str)(vs:List V):St:=vs.map some++replicate (N.length-vs.length) none
def lY(CX:tL)(P:Program)(w:World)(K:Frag)(mg:Str->Option Value)(base:Heap)(N:List Str)(d:Str)(b:Scope)(f:Addr)(h:Value)(A:Around)(c:List Env)(s:Shared)(H:Hp)(E:XK):Cx where
 prog:=P
 w:=w
 K:=K
 mg:=mg
 base:=base
 A:=A.deeper (envOfC d b s.heap.objs.size f h)
 N:=N
 s₀:=s
 H₀:=H
 env:=envOfC d b s.heap.objs.size f h
 outer:=c
 stack:=envOfC d b s.heap.objs.size f h::c
 ex:=[]
 calm:=true
 fn:=λ_=>true
 pn:=[]
 xe:=λe i=>wpAny (model P w) (A.deeper (envOfC d b s.heap.objs.size f h)) (leaving (envOfC d b s.heap.objs.size f h) e) (λ_ g=>CX c H s E e g) (λj g=>CX c H s E j g) i
theorem ZQ{a:Scope}(h:a.names.lookup x=some .cell):∃c,(cellsFrom n a.names []).lookup x=some c:=by
 have q:=acq a.names n [] (.inl h)
 exact abl.mp q
theorem zQv{CX:tL}{P:Program}{w:World}{K:Frag}{mg:Str->Option Value}{base:Heap}{N ps:List Str}{qual:Str}{scope:Scope}{f:Addr}{cd:Value}{A:Around}{outer:List Env}{s s1:Shared}{H:Hp}{E:XK}{us:List Value}{vs:List V}(S:ao N ps scope)(hd:A.handled=none)(e0:qw P w K mg base A outer s H)(hl:vs.length=ps.length)(r:Vals vs us)(x:InCallC s s.heap.objs.size (bindL (envOfC qual scope s.heap.objs.size f cd).kindOf (ps.zip us) λ_=>none) (cellsFrom (s.heap.objs.size+1) scope.names []) (bindC (envOfC qual scope s.heap.objs.size f cd).kindOf (ps.zip us) λ_=>none) s1) :
  Inv (lY CX P w K mg base N qual scope f cd A outer s H E) [] (start N vs) H s1:=by
 have hpl:ps.length<=N.length:=by have:=congrArg List.length S.pre;rw[length_take] at this;omega
 obtain⟨h1,tk,rfl,hk⟩:=x.done
 have Wg:∀b:Addr,b∉(lY CX P w K mg base N qual scope f cd A outer s H E).ex:=λb z=>absurd (show b∈([]:List Addr) from z) (by simp)
 refine⟨⟨e0.mod,S.kind,rfl,rfl,aak _,λy z c h1 h2=>?_,λy hy=>?_,λy c _ h=>?_,λ_=>hd,Around.frames_deeper e0.frames,.inr ⟨rfl,rfl⟩,λb z=>absurd z (Wg b),e0.bs,e0.z8,λb _ _=>Wg b,λb z=>absurd z (Wg b),e0.jT,e0.HB⟩,
  rfl,e0.bare,Un.kept hk,⟨_,x.toInCall.ns,λi y v h1 h2 h3=>?_⟩,λy c h=>⟨_,x.cell y c h⟩,e0.hok.fresh (aak _),λy c h=>?_,λp hp=>absurd (show p∈([]:List (Addr×Obj)) from hp) (by simp),e0.hok.kept hk,?_⟩
 ·exact name_of_addr x.apart (abb h1) (abb h2)
 ·have hy:scope.names.lookup y=some .cell\/scope.names.lookup y=some .free:=hy
  rcases hy with hy|hy
  ·exact ZQ hy
  ·exact absurd rfl (S.Il _ (abb hy))
 ·exact ab3 (x.above y c (abb h))
 ·have hi:i<vs.length:=by
   unfold start at h2
   by_cases hi:i<vs.length
   ·exact hi
   ·rw[getElem?_append_right (by simpa using hi)] at h2
    rw[List.getElem?_replicate] at h2
    split at h2<;>cases h2
  have ha:vs[i]?=some v:=by
   unfold start at h2
   rw[getElem?_append_left (by simpa using hi),getElem?_map] at h2
   cases e:vs[i]? with
   |none=>rw[e] at h2;cases h2
   |some a=>rw[e] at h2;cases h2;rfl
  obtain⟨u,hu,rv⟩:=r.get ha
  have hp:ps[i]?=some y:=by
   rw[<-S.pre,getElem?_take_of_lt (by omega)];exact h1
  have ZR:ps.Nodup:=by rw[<-S.pre];exact S.nd.sublist (List.take_sublist _ _)
  refine⟨u,rv,?_⟩
  rcases S.par y (mem_of_getElem? hp) with k|k
  ·exact .inl ⟨k,ZM ZR hp hu k⟩
  ·obtain⟨c,e⟩:=ZQ (n:=s.heap.objs.size+1) k
   refine .inr ⟨.inl k,c,e,?_⟩
   have q:=x.cell y c e
   rw[ZP ZR hp hu (by show scope.names.lookup y≠_;rw[k];decide)] at q
   exact q
 ·exact e0.hok.fresh (ab3 (x.above y c (abb h)))
 ·unfold start
  show _=N.length
  rw[length_append,length_map,List.length_replicate]
  omega
theorem Fz{CX:tL}{P:Program}{w:World}{K:Frag}{mg:Str->Option Value}{base:Heap}{k:Nat}{f:Addr}{name qual:Str}{params:Arguments}{body:List Stmt}{scope:Scope}{dV kV doc pm cdv ct oc:Value}{an od:Option Addr}{osl:Array (Option Value)}{N ps:List Str}{sp:Sp}(lk:K.lookup f=some ⟨oc,od,.func (fnOf name qual params body scope dV kV doc pm an cdv ct),osl⟩)(hcd:codeIn K cdv qual=true)(S:ao N ps scope)(len:∀vs H Q E,sp vs H Q E->vs.length=ps.length)(hbody:∀(A:Around) (outer:List Env) (s:Shared) (H:Hp) (vs:List V) (Q:VK) (E:XK),bI k (A.deeper (envOfC qual scope s.heap.objs.size f cdv))->sp vs H Q E ->
   ∃t,oM (lY CX P w K mg base N qual scope f cdv A outer s H E) body t/\t { nx:=λ_ H'=>Q .non H',rt:=Q } (start N vs) H) :
  aq P w K mg base CX (k+1) f (fnOf name qual params body scope dV kV doc pm an cdv ct) ps sp:=by
 refine⟨len,λA outer s H args us vs Q E hr e0 hb r hsp=>?_⟩
 have hl:=len _ _ _ _ hsp
 have KX:K.In s.heap:=e0.mod.Mg.keeps λb o e=>(e0.bs b o e).1
 have lim:s.heap.NoLimit:=e0.mod.nolimit.keeps λb o e=>(e0.bs b o e).1
 have hkind:∀y∈ps.zip us,scope.names.lookup y.1=some .local\/(scope.names.lookup y.1=some .cell/\((cellsFrom (s.heap.objs.size+1) scope.names []).lookup y.1).isSome=true):=λ⟨n,v⟩ hy=>by
  rcases S.par n (of_mem_zip hy).1 with q|q
  ·exact .inl q
  ·exact .inr ⟨q,acq _ _ _ (.inl q)⟩
 refine codeAny_call_function hr.depth (KX _ _ lk) rfl S.co S.gen rfl (PySem.W.codeRec_of KX hcd) (hb _ _ _ _ ?_)
 refine wpAny_newFunctionEnv_cells S.kind hkind λenv he s1 x=>?_
 subst he
 refine⟨lim.keeps x.toInCall.keep,codeAny_func ?_⟩
 obtain⟨t,ht,hq⟩:=hbody A outer s H vs Q E (hr.deeper _) hsp
 have I:Inv (lY CX P w K mg base N qual scope f cdv A outer s H E) [] (start N vs) H s1:=zQv S hr.hd e0 hl r x
 refine abm (ht [] s1 (start N vs) H _ I hq) (λfl s' hs=>?_) λe s' hs=>hs
 have fin:∀{σ':St}{H':Hp}{v:V}{u:Value},Inv (lY CX P w K mg base N qual scope f cdv A outer s H E) [] σ' H' s'->RelV v u->Q v H'->CE outer P w H s Q u s' :=
  λ{σ' H' v u} J rv q=>⟨v,H',J.os,J.bare,J.base,J.hok,rv,q⟩
 cases fl with
 |ret u =>
  obtain⟨v,σ',H',J,rv,q⟩:=hs
  exact fin J rv q
 |next =>
  obtain⟨σ',H',J,q⟩:=hs
  exact fin (v:=V.non) (u:=ac6) J rfl q
 |brk =>
  obtain⟨_,_,_,q⟩:=hs
  exact abd q
 |cont =>
  obtain⟨_,_,_,q⟩:=hs
  exact abd q
section
variable{X:Cx}{x:Str}{p pos:Pos}{e:Expr}{es:List Expr}{t:TA}{id T:String}{r:List V->Hp->VK->Prop}
def rJ(r:List V->Hp->VK->Prop)(t:TA):TE:=λσ H Q=>t σ H λa b=>r a b Q
theorem zS(k:qU X (.builtin id) r)(z:Gl X x)(n:X.mg x=none)(o:bootBuiltins x=some (.builtin id))(m:PA X (e::es) t)(q:x ≠ "__name__":=by decide)(d:(x==("__debug__":Str))=false:=by decide)(y:starEach (e::es) X.env=(false,eval e X.env)::starEach es X.env:=by rfl)(c:(backTo pos (starEach es X.env)).any (·.1)=false:=by rfl):PE X (.Call (.Name x p) (e::es) [] pos) (rJ r t):=by
 intro b s σ H Q I h
 refine abg (tX I z n o ?_ q d)
 exact PyProof.Rows.callWith_builtin1 (aO (m pos b s σ H _ I h) (by rintro l g ⟨w,i,v,u,j⟩;exact k b g σ i w l Q v u j)) y c
theorem wT(j:qU X (.type T) r)(y:Gl X x)(m:X.mg x=none)(n:bootBuiltins x=some (.type T))(l:PA X (e::es) t)(o:x ≠ "__name__":=by decide)(d:(x==("__debug__":Str))=false:=by decide)(w:starEach (e::es) X.env=(false,eval e X.env)::starEach es X.env:=by rfl)(c:(backTo pos (starEach es X.env)).any (·.1)=false:=by rfl):PE X (.Call (.Name x p) (e::es) [] pos) (rJ r t):=by
 intro b s σ H Q I h
 refine abg (tX I y m n ?_ o d)
 exact aa5 (aO (l pos b s σ H _ I h) (by rintro k f ⟨v,g,u,q,i⟩;exact j b f σ g v k Q u q i)) w c
end
section
variable{κ:Type}[DecidableEq κ]
noncomputable def fL(kvs:List (κ×V))(k:κ):Option V:=(kvs.find? λa=>decide (a.1=k)).map (·.2)
def putK(kvs:List (κ×V))(k:κ)(v:V):List (κ×V) :=
 if(kvs.any λa=>decide (a.1=k))=true then kvs.map (λa=>if a.1=k then(a.1,v) else a) else kvs++[(k,v)]
theorem Wh{p:κ×V}{r:List (κ×V)}{k:κ}(e:p.1=k):fL (p::r) k=some p.2:=by simp[fL,e]
theorem Wi{p:κ×V}{r:List (κ×V)}{k:κ}(e:¬p.1=k):fL (p::r) k=fL r k:=by simp[fL,e]
theorem ZS(k:κ):∀kvs:List (κ×V),(kvs.any λa=>decide (a.1=k))=(fL kvs k).isSome
 |[]=>rfl
 |p::r=>by
  rw[any_cons]
  by_cases e:p.1=k
  ·simp only[Wh e,decide_eq_true e,Bool.true_or,ad5]
  ·rw[Wi e,decide_eq_false e];exact ZS k r
theorem ZV(kvs:List (κ×V))(k:κ)(v:V):(putK kvs k v).length<=kvs.length+1:=by
 unfold putK
 grind
theorem gD.dX(r:gD o u):o.isSome=u.isSome:=by
 cases o with
 |none=>cases u with
  |none=>rfl
  |some _=>exact(r).elim
 |some _=>cases u with
  |none=>exact(r).elim
  |some _=>rfl
theorem gD.getD(r:gD o u)(a:RelV d d'):RelV (o.getD d) (u.getD d'):=by
 cases o with
 |none=>cases u with
  |none=>exact a
  |some _=>exact(r).elim
 |some _=>cases u with
  |none=>exact(r).elim
  |some _=>exact r
theorem KV.val(r:KV kvs vs)(k:κ):gD (fL kvs k) (valueAt vs k):=by
 induction r with
 |nil=>exact acd
 |@cons p q ps c h t ih =>
  obtain⟨d,f⟩:=h
  by_cases e:p.1=k
  ·have a:=d.symm.trans e
   have b:valueAt (q::c) k=some q.2:=by simp[valueAt,a]
   rw[Wh e,b];exact f
  ·have a:¬q.1=k:=λz=>e (d.trans z)
   have b:valueAt (q::c) k=valueAt c k:=by simp[valueAt,a]
   rw[Wi e,b];exact ih
theorem KV.any(r:KV kvs vs)(k:κ):(kvs.any λkv=>decide (kv.1=k))=vs.any λkv=>decide (kv.1=k):=by
 unfold KV at r
 induction r with
 |nil=>rfl
 |cons h t ih=>rw[any_cons,any_cons,ih,h.1]
theorem KV.repl(r:KV kvs vs)(k:κ)(ry:RelV y u) :
  KV (kvs.map λa=>if a.1=k then(a.1,y) else a) (vs.map λa=>if a.1=k then(a.1,u) else a):=by
 induction r with
 |nil=>exact .nil
 |@cons p q ps qs h t ih =>
  refine .cons ?_ ih
  grind
theorem KV.put(r:KV kvs vs)(k:κ)(a:RelV y u):KV (putK kvs k y) (stored vs k u):=by
 unfold putK stored
 rw[r.any k]
 by_cases e:(vs.any λb=>decide (b.1=k))=true
 ·rw[if_pos e,if_pos e];exact r.repl k a
 ·rw[if_neg e,if_neg e];exact ae4 r ⟨rfl,a⟩
theorem KV.length(r:KV kvs vs):kvs.length=vs.length:=aeb r
end
theorem O_(r:RelV (kV k) u):(wD P w).is k u=true:=by
 cases k with
 |inl i=>obtain⟨t,e⟩:=(r);subst e;exact zKv P w i t
 |inr x=>obtain⟨t,e⟩:=(r);subst e;exact zKu P w x t
theorem ZW:∀{ks:List Key}{us:List Value},Vals (ks.map kV) us->ItemsAre (wD P w) ks us
 |[],_,r=>by cases r;exact .nil
 |k::ks,_,r=>by
  cases r with
  |cons h t=>exact .cons (O_ h) (ZW t)
abbrev KT(H:Hp):List (List Key×V)->List (List Key×Addr×Value)->Prop:=Paired λp q=>p.1=q.1/\H q.2.1=some (.tup (p.1.map kV))/\RelV p.2 q.2.2
theorem KT.val(r:KT H kvs xs)(k:List Key):gD (fL kvs k) ((atKey xs k).map (·.2)):=by
 induction r with
 |nil=>exact acd
 |@cons p q ps c h t ih =>
  obtain⟨d,_,f⟩:=h
  by_cases e:p.1=k
  ·have a:=d.symm.trans e
   have b:atKey (q::c) k=some q.2:=by simp[atKey,a]
   rw[Wh e,b];exact f
  ·have a:¬q.1=k:=λz=>e (d.trans z)
   have b:atKey (q::c) k=atKey c k:=by simp[atKey,a]
   rw[Wi e,b];exact ih
theorem KT.repl(r:KT H kvs xs)(k:List Key)(ry:RelV y u) :
  KT H (kvs.map λa=>if a.1=k then(a.1,y) else a) (xs.map (putAt k u)):=by
 induction r with
 |nil=>exact .nil
 |@cons p q ps qs h t ih =>
  refine .cons ?_ ih
  unfold putAt
  grind
theorem KT.put(r:KT H kvs xs)(k:List Key)(d:H b=some (.tup (k.map kV)))(a:RelV y u) :
  KT H (putK kvs k y) (storedH xs k b u):=by
 have e:(kvs.any λc=>decide (c.1=k))=(atKey xs k).isSome:=by
  rw[ZS,(r.val k).dX,ad8]
 unfold putK storedH
 rw[e]
 by_cases q:(atKey xs k).isSome=true
 ·rw[if_pos q,if_pos q];exact r.repl k a
 ·rw[if_neg q,if_neg q];exact ae4 r ⟨rfl,d,a⟩
theorem KT.keeps(r:KT H kvs xs)(a:∀b ys,H b=some (.tup ys)->H' b=some (.tup ys)):KT H' kvs xs :=
 Paired.Hz r λ_ _ z=>⟨z.1,a _ _ z.2.1,z.2.2⟩
section
variable{P:Program}{w:World}{H:Hp}{h:Heap}{a:Addr}
theorem FJ(b:eZ P w H h)(e:Rd H a u):bJ P w H h a u:=e.ok b
theorem Pa(b:eZ P w H h)(e:Rd H a (.dK kvs)):kvs.length<=sizeLine/\(a==sysModules)=false/\∃vs,KV kvs vs/\h.DictOf (wD P w) a vs :=
 FJ b e
theorem Pb(b:eZ P w H h)(e:H a=some (.dK kvs)):kvs.length<=sizeLine/\(a==sysModules)=false/\∃vs,KV kvs vs/\h.DictOf (wD P w) a vs:=Pa b (.inl e)
theorem Pg{ks:List Key}(g:eZ P w H h)(e:H a=some (.tup (ks.map kV))):(tupleKind (wD P w)).is h ks a:=by
 obtain⟨_,b,r,o,c,f,n,d⟩:=(g a _ e)
 exact⟨o,b.toArray,n,c,f,d,by simpa using ZW r⟩
theorem Ph(ok:eZ P w H h)(e:Rd H a (.dT kvs)):kvs.length<=sizeLine/\(a==sysModules)=false /\
  ∃xs,KT H kvs xs/\h.DictOfH (tupleKind (wD P w)) a xs:=by
 obtain⟨z,y,xs,r,o,es,ep,h1,h2,h3,h4,h5⟩:=(show bJ P w H h a (.dT kvs) from FJ ok e)
 refine⟨z,y,xs,r,o,es,ep,h1,h2,h3,h4,λx hx=>?_,h5⟩
 have all:∀{l:List (List Key×V)}{m:List (List Key×Addr×Value)},KT H l m->∀x∈m,(tupleKind (wD P w)).is h x.1 x.2.1:=by
  intro l m q
  induction q with
  |nil=>intro x hx;exact nomatch hx
  |@cons p q ps qs hq t ih =>
   intro x hx
   rcases mem_cons.mp hx with e|hx
   ·subst e
    exact Pg ok (by rw[<-hq.1];exact hq.2.1)
   ·exact ih x hx
 exact all r x hx
theorem Pj(b:eZ P w H h)(e:H a=some (.dT kvs)):kvs.length<=sizeLine/\(a==sysModules)=false /\
  ∃xs,KT H kvs xs/\h.DictOfH (tupleKind (wD P w)) a xs:=Ph b (.inl e)
end
noncomputable def jV(H:Hp)(a:Addr)(y:V)(r:Option V):Prop :=
 (∃c k,Rd H a (.dK c)/\y=kV k/\r=fL c k)\/∃c k b,Rd H a (.dT c)/\y=.ref b/\H b=some (.tup (k.map kV))/\r=fL c k
def rK(H:Hp)(a:Addr)(y v:V)(H':Hp):Prop :=
 (∃c k,H a=some (.dK c)/\y=kV k/\c.length<sizeLine/\H'=upd H a (.dK (putK c k v))) \/
 ∃c k b,H a=some (.dT c)/\y=.ref b/\H b=some (.tup (k.map kV))/\c.length<sizeLine/\H'=upd H a (.dT (putK c k v))
theorem jV.k{H:Hp}{a:Addr}{kvs:List (Key×V)}{k:Key}(e:H a=some (.dK kvs)):jV H a (kV k) (fL kvs k):=.inl ⟨kvs,k,.inl e,rfl,rfl⟩
theorem rK.k{H:Hp}{a:Addr}{kvs:List (Key×V)}{k:Key}{v:V}(e:H a=some (.dK kvs))(b:kvs.length<sizeLine):rK H a (kV k) v (upd H a (.dK (putK kvs k v))):=.inl ⟨kvs,k,e,rfl,b,rfl⟩
section
variable{X:Cx}{pins:List (Addr×Obj)}{σ:St}{H:Hp}{s:Shared}{a:Addr}{y v:V}{u r:Value}{o:Option V}{A:Around}{E:Value->Shared->Prop}
theorem Inv.big(I:Inv X pins σ H s):sysModules<s.heap.objs.size:=by
 have h:=(I.mod.glob.keeps I.bk).lt
 exact ad4 (by decide) h
theorem Wj{Q:Value->Shared->Prop}(p:A.units+1<cLine)(I:Inv X pins σ H s)(g:jV H a y o)(n:RelV y u)(h:∀s',Inv X pins σ H s'->Q (.bool o.isSome) s') :
  wpAny (model X.prog X.w) A (compareOp .In u (.ref a)) Q E s:=by
 rcases g with⟨j,k,e,m,l⟩|⟨j,k,b,e,m,t,l⟩
 ·subst m
  obtain⟨z,f,vs,c,i⟩:=Pa I.hok e
  refine wpAny_in_of (O_ n) f i.mapOf ?_
  rw[<-(c.val k).dX,<-l]
  exact h _ (I.tok _)
 ·subst m
  cases(n)
  obtain⟨z,f,xs,c,i⟩:=Ph I.hok e
  refine wpAny_in_heap (ac7 p) (Pg I.hok t) f i ?_
  have q:=(c.val k).dX
  rw[ad8] at q
  rw[<-q,<-l]
  exact h _ (I.tok _)
theorem Ao{Q:Value->Shared->Prop}(n:A.units+1<cLine)(I:Inv X pins σ H s)(g:jV H a y o)(m:RelV y u)(h:∀s',Inv X pins σ H s'->Q (.bool (!o.isSome)) s') :
  wpAny (model X.prog X.w) A (compareOp .NotIn u (.ref a)) Q E s:=by
 rcases g with⟨i,k,e,j,l⟩|⟨i,k,b,e,j,p,l⟩
 ·subst j
  obtain⟨z,d,vs,c,f⟩:=Pa I.hok e
  refine wpAny_notIn_of (O_ m) d f.mapOf ?_
  rw[<-(c.val k).dX,<-l]
  exact h _ (I.tok _)
 ·subst j
  cases(m)
  obtain⟨z,d,xs,c,f⟩:=Ph I.hok e
  refine wpAny_notIn_heap (ac7 n) (Pg I.hok p) d f ?_
  have q:=(c.val k).dX
  rw[ad8] at q
  rw[<-q,<-l]
  exact h _ (I.tok _)
theorem ZX(I:Inv X pins σ H s)(g:Oe (H a))(f:SameBut a s.heap h')(e:∃q,h'.get? a=some q)(c:bJ X.prog X.w (upd H a ob) h' a ob) :
  Inv X pins σ (upd H a ob) { s with heap:=h',toks:=t' } :=
 I.write g (.inl rfl) (λb q d z=>(f.2 b d).trans z) e c
theorem Im{h':Heap}{kvs:List (Key×V)}(z:kvs.length<=sizeLine)(c:(a==sysModules)=false)(b:KV kvs vs)(dd:h'.DictOf (wD P w) a vs) :
  bJ P w H' h' a (.dK kvs):=⟨z,c,vs,b,dd⟩
theorem zRq{Q:Unit->Shared->Prop}(Z:A.units+1<cLine)(I:Inv X pins σ H s)(g:rK H a y v H')(F:RelV y u)(J:RelV v r)(h:∀s',Inv X pins σ H' s'->Q () s') :
  wpAny (model X.prog X.w) A (setItem (.ref a) u r) Q E s:=by
 rcases g with⟨f,k,e,p,l,n⟩|⟨f,k,b,e,p,M,l,n⟩
 ·subst p n
  obtain⟨z,B,S,i,t⟩:=Pb I.hok e
  have C:S.length<=sizeLine:=by rw[<-i.length];exact z
  have D:(putK f k v).length<=sizeLine:=by have:=ZV f k v;omega
  refine wpAny_setItem_pairs (hsz:=C) (O_ F) t λL j x=>h _ ?_
  have Y:∃q,L.get? a=some q:=let⟨q,_,_,m,_⟩:=j;⟨q,m⟩
  exact ZX I (by rw[e];exact acd) x Y (Im D B (i.put k J) j)
 ·subst p n
  cases(show u=aa7 b from F)
  obtain⟨z,B,R,i,t⟩:=Pj I.hok e
  have C:R.length<=sizeLine:=by rw[<-aeb i];exact z
  have D:(putK f k v).length<=sizeLine:=by have:=ZV f k v;omega
  refine wpAny_setItem_heap (hsz:=C) (ac7 Z) (Pg I.hok M) t λL j x=>h _ ?_
  obtain⟨q,T,W,m,P,U,O,_,N⟩:=j
  refine ZX I (by rw[e];exact acd) x ⟨q,m⟩ ⟨D,B,_,(i.put k M J).keeps λc ys G=>?_,q,T,W,m,P,U,O,N⟩
  rw[zN (Od G e (λz=>nomatch z))]
  exact G
end
def Io(e f:TE):TE:=λσ H Q=>e σ H λy c=>f σ c λx b=>∃a o,x=.ref a/\jV b a y o/\Q (.bl o.isSome) b
def Z0(d e:TE):TE:=λσ H Q=>d σ H λy c=>e σ c λx b=>∃a o,x=.ref a/\jV b a y o/\Q (.bl (!o.isSome)) b
def ud(e f c:TE):TS:=λD σ H=>c σ H λv h=>e σ h λx i=>f σ i λy g=>∃a b,x=.ref a/\rK g a y v b/\D.nx σ b
section
variable{X:Cx}{o i e value:Expr}{pos pos' tpos:Pos}{td ty tv:TE}
theorem Z1(q:X.A.units+1<cLine)(l:PE X i ty)(m:PE X o td):PC X .In i o (Io ty td):=by
 intro b s σ H Q I h
 refine aO (l b s σ H _ I h) λiv t ⟨y,n,k,c,p⟩=>aO (m b t σ n _ k p) ?_
 rintro u s2 ⟨x,v,f,r,a,z,d,g,w⟩
 subst d
 obtain rfl:u=aa7 a:=r
 exact Wj q f g c λs3 j=>⟨.bl z.isSome,v,j,rfl,w⟩
theorem zPy(q:X.A.units+1<cLine)(l:PE X i ty)(m:PE X o td):PC X .NotIn i o (Z0 ty td):=by
 intro b s σ H Q I h
 refine aO (l b s σ H _ I h) λiv t ⟨y,n,k,c,p⟩=>aO (m b t σ n _ k p) ?_
 rintro u s2 ⟨x,v,f,r,a,z,d,g,w⟩
 subst d
 obtain rfl:u=aa7 a:=r
 exact Ao q f g c λs3 j=>⟨.bl (!z.isSome),v,j,rfl,w⟩
theorem TV(L:X.A.units+1<cLine)(j:PE X o td)(F:PE X i ty)(f:PE X value tv)(m:swapsWith value (some (.Subscript o i pos')) pos.line X.env=pure false) :
  PS X (.Assign [.Subscript o i pos'] value pos) (ud td ty tv):=by
 intro b s σ H D I h
 refine wpAny_Assign_Subscript (aO (f b s σ H _ I h) λr M ⟨v,k,E,w,l⟩=>aO (j b M σ k _ E l) λu G ⟨x,c,d,n,p⟩=>aO (F b G σ c _ d p) ?_) m
 rintro iv s3 ⟨y,H3,C,q,a,B,t,g,J⟩
 subst t
 obtain rfl:u=aa7 a:=n
 exact zRq L C g q w λs4 z=>⟨σ,B,z,J⟩
end
theorem zUu(h:Heap)(a:sysModules<h.objs.size):bJ P w H (h.push { cls:=.type "dict",data:=.dict #[] }) h.objs.size (.dK []) :=
 ⟨aa0 _,beq_eq_false_iff_ne.mpr (ab8 (aan a)),[],.nil,Heap.DictOf.new h⟩
def Z2:TE:=λ_ H Q=>∀p,H p=none->Q (.ref p) (upd H p (.dK []))
section
variable{X:Cx}{pos:Pos}
theorem TX:PE X (.Dict [] [] pos) Z2:=λpins s σ H Q I h =>
 wpAny_Dict_empty ⟨.ref s.heap.objs.size,_,I.laid (λ_ _ q=>get?_push_of_some _ q) (aak _) (zUu s.heap I.big),rfl,h _ (I.hok.fresh (aak _))⟩
end
structure M2(X:Cx)(o:Expr)(m:Str)(apos:Pos)(e f:Expr)(cpos:Pos):Prop where
 base:attributeBase o m X.env (eval o X.env)=eval o X.env
 few:((backTo cpos (starEach [e,f] X.env)).all (λx=>!x.1)&&(backToKw cpos (keywordEach [] X.env)).all (λx=>x.1.isSome)
  && decide (([e,f]:List Expr).length+([]:List Keyword).length+(if([]:List Keyword).isEmpty then 0 else 1)<30))=true
 line:(apos.endLine==cpos.line)=true
 trees:backTo cpos (starEach [e,f] X.env)=[(false,eval e X.env),(false,eval f X.env)]
def Z4(H:Hp)(a:Addr):Prop:=(∃b,Rd H a (.dK b))\/∃b,Rd H a (.dT b)
theorem Ip(I:Inv X pins σ H s)(d:Z4 H a) :
  s.TypeIs (.ref a) "dict" /\ (∀b,aa7 a=.ref b->∃ob,s.heap.get? b=some ob/\ob.dict=none)/\(a==sysModules)=false:=by
 rcases d with⟨f,e⟩|⟨f,e⟩
 ·obtain⟨_,h,vs,_,c⟩:=Pa I.hok e
  refine⟨c.typeIs,λb q=>?_,h⟩
  cases q
  obtain⟨ob,_,_,g,i,_⟩:=c
  exact⟨ob,g,i.2.1⟩
 ·obtain⟨_,h,xs,_,c⟩:=Ph I.hok e
  refine⟨c.typeIs,λb q=>?_,h⟩
  cases q
  obtain⟨ob,_,_,g,i,_⟩:=c
  exact⟨ob,g,i.2.1⟩
section
variable{X:Cx}{pins:List (Addr×Obj)}{σ:St}{H:Hp}{s:Shared}{a:Addr}{y d:V}{u r:Value}{o:Option V}{A:Around}{E:Value->Shared->Prop}
theorem Ir{Q:Value->Shared->Prop}(B:A.units+1<cLine)(I:Inv X pins σ H s)(g:jV H a y o)(p:RelV y u)(q:RelV d r)(h:∀w' s',Inv X pins σ H s'->RelV (o.getD d) w'->Q w' s') :
  wpAny (model X.prog X.w) A (call (.builtin "dict.get") [.ref a,u,r]) Q E s:=by
 rcases g with⟨m,k,e,j,l⟩|⟨m,k,b,e,j,v,l⟩
 ·subst j
  obtain⟨z,n,vs,f,i⟩:=Pa I.hok e
  refine call_meetsIn ado i.typeIs PySem.F.entry_dict_get (PySem.F.args_dict_get_3 _ _ _) (meets_dict_get_default (wD X.prog X.w) a (O_ p) n r) ⟨_,i.mapOf,h _ _ (I.tok _) ?_⟩
  rw[l]
  exact(f.val k).getD q
 ·subst j
  cases(p)
  obtain⟨z,n,t,f,i⟩:=Ph I.hok e
  refine call_meetsIn ado i.typeIs PySem.F.entry_dict_get (PySem.F.args_dict_get_3 _ _ _) (meetsH_dict_get_default (tupleKind (wD X.prog X.w)) a b n r) ⟨ac7 B,k,t,Pg I.hok v,i,h _ _ (I.tok _) ?_⟩
  rw[l]
  exact(f.val k).getD q
end
def Z5(f e g:TE):TE:=λσ H Q=>f σ H λx c=>∃a,x=.ref a/\Z4 c a/\e σ c λy d=>g σ d λz b=>∃o,jV b a y o/\Q (o.getD z) b
section
variable{X:Cx}{o e f:Expr}{apos cpos:Pos}{td ty tx:TE}
theorem zTn(hu:X.A.units+1<cLine)(ho:PE X o td)(he:PE X e ty)(hf:PE X f tx)(m:M2 X o "get" apos e f cpos):PE X (.Call (.Attribute o "get" apos) [e,f] [] cpos) (Z5 td ty tx):=by
 intro i s σ H Q I h
 refine wpAny_Call_method m.base m.few m.line PySem.F.plainAttrs_dict ado PySem.F.type_dict_get (aO (ho i s σ H _ I h) ?_)
 rintro u l ⟨x,n,k,v,a,ex,d,p⟩
 subst ex
 obtain rfl:u=aa7 a:=v
 obtain⟨t,q,_⟩:=Ip k d
 refine⟨t,q,?_⟩
 rw[m.trees]
 refine adb rfl (Calls.evalArgs_plain (acg (aO (he i l σ n _ k p) λiv s2 ⟨y,H2,I2,ry,w⟩ =>
  acg (aO (hf i s2 σ H2 _ I2 w) λfv s3 ⟨z,r,I3,B,ov,g,q3⟩=>ade ?_))))
 exact Ir hu I3 g ry B λw' s4 I4 j=>⟨_,r,I4,j,q3⟩
end
end L2
namespace HT
open PySem PyProof.Rows
section
open PySem.SeqAt
open PySem.AutoSeq1 (wpAny_loadPart')
open PySem.MeetsSeq PySem.MeetsSeq2 PySem.MeetsSeq3
end
section
variable{prog:Program}{w:World}{A:Around}{E:Value->Shared->Prop}{s:Shared}
noncomputable def cG(n d:Nat):Option Int->Nat
 |none=>d
 |some v=>if v<0 then(v+(n:Int)).toNat else min v.toNat n
theorem Aq(n d k:Nat):cG n d (some (k:Int))=min k n:=by
 show(if(k:Int)<0 then((k:Int)+(n:Int)).toNat else min (k:Int).toNat n)=min k n
 rw[if_neg (by omega),abx]
theorem Iu(n d:Nat)(a:d<=n)(o:Option Int):cG n d o<=n:=by
 cases o with
 |none=>exact a
 |some v =>
  show(if v<0 then(v+(n:Int)).toNat else min v.toNat n)<=n
  grind
theorem Z6(v:Int)(n d:Nat):(if v<0 then max (v+(n:Int)) 0 else min v (n:Int))=((cG n d (some v):Nat):Int):=by
 show(if v<0 then max (v+(n:Int)) 0 else min v (n:Int))=(((if v<0 then(v+(n:Int)).toNat else min v.toNat n):Nat):Int)
 grind
theorem zOo(lo a:Option Int)(n:Nat):Builtin.Slice.sliceAdjust lo a 1 (n:Int)=(((cG n 0 lo:Nat):Int),((cG n n a:Nat):Int)):=by
 refine Prod.ext ?_ ?_
 ·cases lo with
  |none=>rfl
  |some v=>exact Z6 v n 0
 ·cases a with
  |none=>rfl
  |some v=>exact Z6 v n n
theorem zNr(i j:Nat):ab5 (i:Int) (j:Int) 1=j-i:=by
 unfold ab5
 grind
theorem Z7{Q:Option Int->Shared->Prop}(p:IsPart v o)(h:Q o s):wpAny (model prog w) A (Builtin.Slice.slicePartIndex v) Q E s:=by
 cases p with
 |none=>exact slicePart_none h
 |int i t=>exact slicePart_int h
theorem zEa{f:Addr}{e d:Value}{lo c:Option Int}{n:Nat}{Q:Int×Int×Nat->Shared->Prop}(i:s.heap.IsSliceOf f e d .none)(pl:IsPart e lo)(g:IsPart d c)(h:Q (((cG n 0 lo:Nat):Int),1,cG n n c-cG n 0 lo) s):wpAny (model prog w) A (Builtin.Slice.sliceApplied (.ref f) (pure (n:Int))) Q E s:=by
 obtain⟨os,a,hcs,b⟩:=id i
 refine aag (aag (wpAny_field a b (x:=e) rfl (aag (wpAny_field a b (x:=d) rfl (aag (wpAny_field a b rfl (aah ?_)))))))
 refine aag (slicePart_none ?_)
 refine aag (Z7 pl (aag (Z7 g (aag (aah ?_)))))
 show wpAny _ _ (match Builtin.Slice.sliceAdjust lo c 1 (n:Int) with|(lo,c)=>pure (lo,(1:Int),ab5 lo c 1)) _ _ s
 rw[zOo lo c n]
 show wpAny _ _ (pure (((cG n 0 lo:Nat):Int),(1:Int),ab5 ((cG n 0 lo:Nat):Int) ((cG n n c:Nat):Int) 1)) _ _ s
 rw[zNr]
 exact aah h
theorem zTi(xs:Array Value)(i k:Nat):((aax k).filterMap λ(m:Nat)=>xs[((i:Int)+(m:Int)*1).toNat]?).toArray=((xs.toList.drop i).take k).toArray:=by
 have e:(λ(m:Nat)=>xs[((i:Int)+(m:Int)*1).toNat]?)=λm=>xs[i+m]?:=by
  grind
 rw[e]
 have:=pick_run xs i k
 rw[filterMap_map] at this
 have a:((λx=>xs[x]?)∘λx=>i+x)=λm=>xs[i+m]?:=rfl
 rw[a] at this
 rw[this]
theorem iR{t f:Addr}{items:Array Value}{l n:Value}{lo b:Option Int}{Q:Value->Shared->Prop}(d:IsTup s.heap t items)(k:s.heap.IsSliceOf f l n .none)(pl:IsPart l lo)(o:IsPart n b)(hw:¬(cG items.size 0 lo=0/\cG items.size items.size b=items.size))(h:Q (.ref s.heap.objs.size) { s with heap:=s.heap.push { cls:=.type "tuple",data:=.seq ((items.toList.drop (cG items.size 0 lo)).take (cG items.size items.size b-cG items.size 0 lo)).toArray } })(hsz:items.size<=sizeLine):wpAny (model prog w) A (getItem (.ref t) (.ref f)) Q E s:=by
 have c:sizeOk (.seq ((items.toList.drop (cG items.size 0 lo)).take (cG items.size items.size b-cG items.size 0 lo)).toArray):=by
  show((items.toList.drop (cG items.size 0 lo)).take (cG items.size items.size b-cG items.size 0 lo)).toArray.size<=sizeLine
  rw[size_toArray,length_take,length_drop,length_toList]
  omega
 have hj:cG items.size items.size b<=items.size:=Iu _ _ (aak _) b
 obtain⟨os,e,i,hds⟩:=id k
 have j:s.TypeIs (.ref f) "slice":=⟨os,e,i⟩
 unfold getItem
 try with_reducible refine aa6 ?_
 first|refine aag (aah ?_)|skip
 refine aag (wpAny_sequenceKey d.typeIs (by decide) ?_)
 refine aag (wpAny_callSpecial?_slot (name:=adi "__getitem__") d.typeIs PyProof.Rows.slot_tuple_getitem
  (abu PyProof.Rows.slot_tuple_getitem d.typeIs entry_tuple_getitem ?_ (args_tuple_getitem _ _)))
 show wpAny _ _ (Builtin.Tuple.tupleItemsOf (.ref t) >>= _) _ _ s
 refine aag (tupleItemsOf_ d ?_)
 refine aag (ae0 j ?_)
 rw[if_pos (by decide)]
 refine aag (zEa k pl o ?_)
 have g:¬((((cG items.size 0 lo:Nat):Int)==0&&(1:Int)==1&&(cG items.size items.size b-cG items.size 0 lo)==items.size)=true):=by
  grind
 show wpAny _ _ (if(((cG items.size 0 lo:Nat):Int)==0&&(1:Int)==1&&(cG items.size items.size b-cG items.size 0 lo)==items.size)=true then _ else _) _ _ s
 rw[if_neg g,zTi]
 first
  |exact aag (m:=Builtin.Tuple.tupleExact _) (abz (aah ⟨_,rfl,aah h⟩) c)
  |grind
  |grind
  |grind
end
end HT
namespace L2
open PySem PySem.Spec PyProof.Rows
abbrev TO:=St->Hp->(Option Int->Hp->Prop)->Prop
noncomputable def PO(X:Cx)(e:Option Expr)(t:TO):Prop :=
 ∀(b:List (Addr×Obj))(s:Shared)(σ:St)(H:Hp)(Q:Option Int->Hp->Prop),Inv X b σ H s->t σ H Q ->
  wpAny (model X.prog X.w) X.A (evalPart e X.env) (λu d=>∃o c,Inv X b σ c d/\IsPart u o/\Q o c) X.xe s
def Ms:TO:=λ_ H Q=>Q none H
def Mt(t:TE):TO:=λσ H Q=>t σ H λx a=>∃i,x=.int i/\Q (some i) a
section
variable{X:Cx}{e:Expr}{te:TE}{lo hi:Option Expr}{tl th:TO}{pos p2:Pos}
theorem FN:PO X none Ms:=by
 intro pins s σ H Q I h
 exact aah ⟨none,H,I,.none,h⟩
theorem FQ(h:PE X e te):PO X (some e) (Mt te):=by
 intro a s σ H Q I b
 refine aO (h a s σ H _ I b) ?_
 rintro u s1 ⟨x,f,d,c,g⟩
 obtain⟨i,rfl,q⟩:=g
 obtain⟨t,rfl⟩:=c
 exact⟨some i,f,d,.int i t,q⟩
def Pk(X:Cx)(r:V->Option Int->Option Int->Hp->VK->Prop):Prop :=
 ∀(b:List (Addr×Obj))(s:Shared)(σ:St)(H:Hp)(x:V)(v f d:Value)(lo hi:Option Int)(c:Addr)(Q:VK),Inv X b σ H s->RelV x v->s.heap.IsSliceOf c f d .none->IsPart f lo->IsPart d hi->r x lo hi H Q ->
  ∃T id,typeLookup (.type T) "__getitem__" = pure (some (.builtin id))/\s.TypeIs v T/\wpAny (model X.prog X.w) X.A (getItem v (.ref c)) (EP X b σ Q) X.xe s
def Mu(r:V->Option Int->Option Int->Hp->VK->Prop)(te:TE)(tl th:TO):TE:=λσ H Q=>te σ H λx b=>tl σ b λl a=>th σ a λu c=>r x l u c Q
theorem uZ(G:Pk X r)(J:PE X e te)(D:PO X lo tl)(L:PO X hi th):PE X (.Subscript e (.Slice lo hi none p2) pos) (Mu r te tl th):=by
 intro c s σ H Q I h
 refine Subscript_ (aO (J c s σ H _ I h) ?_)
 rintro v k ⟨x,t,A,w,N⟩
 refine wpAny_Slice (aO (D c k σ t _ A N) λf C ⟨l,j,n,B,m⟩=>aO (L c C σ j _ n m) ?_)
 rintro g d ⟨u,i,z,o,F⟩
 refine aah ?_
 have p:Inv X c σ i { d with heap:=d.heap.push { cls:=.type "slice",data:=.fields #[f,g,.none] } }:=z.kept λb ob q=>get?_push_of_some _ q
 obtain⟨T,id,E,y,M⟩:=G c { d with heap:=d.heap.push { cls:=.type "slice",data:=.fields #[f,g,.none] } } σ i x v f g l u d.heap.objs.size Q p w (Heap.IsSliceOf.new ..) B o F
 exact tail_any y E M (by with_unfolding_all rfl)
noncomputable def qx(xs:List V)(lo hi:Option Int):List V:=(xs.drop (HT.cG xs.length 0 lo)).take (HT.cG xs.length xs.length hi-HT.cG xs.length 0 lo)
theorem Z8(xs:List V)(lo hi:Option Int):(qx xs lo hi).length<=xs.length:=by
 unfold qx
 rw[length_take,length_drop]
 omega
def Iv(K:Frag):V->Option Int->Option Int->Hp->VK->Prop:=λx lo hi H Q=>∃a b,x=.ref a/\bT K H a b /\
 ¬(HT.cG b.length 0 lo=0/\HT.cG b.length b.length hi=b.length)/\∀p,H p=none->Q (.ref p) (upd H p (.tup (qx b lo hi)))
theorem Z9:Pk X (Iv X.K):=by
 intro pins s σ H x v vl vu lo hi sl Q I m l n j h
 obtain⟨a,c,rfl,o,hw,q⟩:=h
 cases m
 obtain⟨f,r,i,k⟩:=I.tuple o
 have d:f.toArray.size=c.length:=by exact r.length.symm
 refine⟨"tuple",_,PyProof.Rows.slot_tuple_getitem.lookup,i.typeIs,?_⟩
 refine HT.iR i l n j (by grind) ?_ (by grind)
 rw[d]
 refine⟨.ref s.heap.objs.size,_,I.laid (λb ob q=>get?_push_of_some _ q) (aak _) ?_,rfl,q _ (I.hok.fresh (aak _))⟩
 exact⟨aas (Z8 c lo hi) k,_,(r.drop (HT.cG c.length 0 lo)).take (HT.cG c.length c.length hi-HT.cG c.length 0 lo),IsTup.new _ _⟩
end
noncomputable def qW(n:Nat)(i:Int):Option Nat:=if 0<=i then(if i<n then some i.toNat else none) else if -(n:Int)<=i then some (i+n).toNat else none
noncomputable def bL{α:Type}(xs:List α)(i:Int):Option α:=(qW xs.length i).bind λj=>xs[j]?
theorem Z_(h:qW n i=some j):seqIndex? i n=some j/\j<n /\ -(n:Int)<=i/\i<n:=by
 unfold qW at h
 by_cases h0:0<=i
 ·rw[if_pos h0] at h
  by_cases h1:i<n
  ·rw[if_pos h1] at h
   have e:i.toNat=j:=aam h
   exact⟨by rw[aek h0 h1,e],by omega,by omega,h1⟩
  ·rw[if_neg h1] at h;cases h
 ·rw[if_neg h0] at h
  by_cases h1:-(n:Int)<=i
  ·rw[if_pos h1] at h
   have e:(i+n).toNat=j:=aam h
   exact⟨by rw[aez (by omega) h1,e],by omega,h1,by omega⟩
  ·rw[if_neg h1] at h;cases h
theorem Wk{α:Type}{xs:List α}{v:α}(h:bL xs i=some v):∃j,seqIndex? i xs.length=some j/\xs[j]?=some v/\j<xs.length /\ -(xs.length:Int)<=i/\i<xs.length:=by
 unfold bL at h
 cases e:qW xs.length i with
 |none=>rw[e] at h;cases h
 |some j =>
  rw[e] at h
  obtain⟨h1,h2,h3,h4⟩:=Z_ e
  exact⟨j,h1,h,h2,h3,h4⟩
theorem TY{α:Type}{xs:List α}{j:Nat}{v:α}(h:xs[j]?=some v):bL xs (j:Int)=some v:=by
 have hj:j<xs.length:=(aal.mp h).1
 have e:qW xs.length (j:Int)=some j:=by
  unfold qW
  rw[if_pos (by omega),if_pos (by omega)];simp
 unfold bL;rw[e];exact h
def Av(b:Expr):Prop:=∀o i,subscripted b false o i=operate [o,i] (getItem o i)
def Pn(X:Cx)(r:R2):Prop :=
 ∀(d b:Expr)(c:List (Addr×Obj))(s:Shared)(σ:St)(H:Hp)(x y:V)(v u:Value)(Q:VK),Inv X c σ H s->RelV x v->RelV y u->r x y H Q ->
  subscripted b false v u=operate [v,u] (getItem v u)->wpAny (model X.prog X.w) X.A (subscriptTail d b v u) (EP X c σ Q) X.xe s
def MtR(X:Cx)(id:String)(r:V->List V->Hp->VK->Prop):Prop :=
 ∀(b:List (Addr×Obj))(s:Shared)(σ:St)(H:Hp)(x:V)(c:List V)(v:Value)(d:List Value)(Q:VK),Inv X b σ H s->RelV x v->Vals c d->r x c H Q ->
  wpAny (model X.prog X.w) X.A (call (.builtin id) (v::d)) (EP X b σ Q) X.xe s
section
variable{X:Cx}{a b:Expr}{ta tb:TE}{pos:Pos}
theorem yH(f:Pn X r)(i:PE X a ta)(m:PE X b tb)(g:Av b):PE X (.Subscript a b pos) (gF r ta tb):=by
 intro c s σ H Q I h
 exact Subscript_ (H_ i m I h λv u e x y l k j d q=>f a b c e σ l x y v u Q k j d q (g _ _))
def oW(K:Frag):R2:=λx y H Q=>∃p c i v,x=.ref p/\y=.int i/\aN K H p c/\bL c i=some v/\Q v H
def uf(K:Frag):R2:=λx y H Q=>∃p c i v,x=.ref p/\y=.int i/\bT K H p c/\bL c i=some v/\Q v H
theorem wI:Pn X (oW X.K):=by
 intro value slice pins s σ H x y v u Q I rx ry h hs
 obtain⟨p,xs,i,z,rfl,rfl,hq,he,q⟩:=h
 cases rx
 obtain⟨t,rfl⟩:=ry
 obtain⟨its,r,pl,hz⟩:=I.list hq
 obtain⟨j,h1,h2,h3,h4,h5⟩:=Wk he
 obtain⟨w,ew,Wm⟩:=r.get h2
 have hl:=r.length
 have hn:=Ii
 have fin:EP X pins σ Q w s:=⟨z,H,I,Wm,q⟩
 by_cases h0:0<=i
 ·have hj:i.toNat=j:=by
   rw[aek h0 h5] at h1
   exact aam h1
  exact item_listR pl.isList h0 (by omega) (by rw[hj];simpa using ew) fin hs
 ·have hj:(i+(its.toArray.size:Int)).toNat=j:=by
   rw[aez (by omega) h4] at h1
   rw[size_toArray,<-hl]
   exact aam h1
  exact subscriptTail_builtinR (x:=w) pl.isList.typeIs slot_list_getitem.lookup
   (wpAny_getItem_list_neg (Q:=λr s'=>r=w/\EP X pins σ Q r s') pl.isList (by omega) (by rw[size_toArray]<;>omega) (by omega) (by rw[hj];simpa using ew) ⟨rfl,fin⟩) hs
theorem yp:Pn X (uf X.K):=by
 intro value slice c s σ H x y v u Q I o k h m
 obtain⟨p,xs,i,z,rfl,rfl,l,n,q⟩:=h
 cases o
 obtain⟨t,rfl⟩:=k
 obtain⟨its,r,f,hz⟩:=I.tuple l
 obtain⟨j,h1,g,h3,h4,h5⟩:=Wk n
 obtain⟨w,ew,e⟩:=r.get g
 have hl:=r.length
 have hn:=Ii
 have d:EP X c σ Q w s:=⟨z,H,I,e,q⟩
 exact subscriptTail_builtinR f.typeIs slot_tuple_getitem.lookup
  (getItem_tuple (j:=j) f (by omega) (by omega) (by grind) (by grind) ⟨rfl,d⟩) m
theorem zNy(c:List Value)(n j:Nat)(u:Value):ach (·.setIfInBounds j u) { cls:=.type "list",data:=.seq c.toArray n }={ cls:=.type "list",data:=.seq (c.set j u).toArray n }:=by
 simp[ach]
theorem Inv.lst(I:Inv X pins σ H s)(h:H p=some (.lst xs)) :
  ∃(its:List Value)(n:Nat),Vals xs its/\s.heap.get? p=some { cls:=.type "list",data:=.seq its.toArray n }/\xs.length<=sizeLine:=by
 obtain⟨z,its,n,r,e⟩:=I.hok p _ h
 exact⟨its,n,r,e,z⟩
theorem Inv.Iw{d its':List Value}(I:Inv X c σ H s)(h:H p=some (.lst xs))(j:s.heap.get? p=some { cls:=.type "list",data:=.seq d.toArray n })(g:f { cls:=.type "list",data:=.seq d.toArray n }={ cls:=.type "list",data:=.seq its'.toArray n' })(r:Vals ys its')(hz:ys.length<=sizeLine)(t:Nat) :
  Inv X c σ (upd H p (.lst ys)) { s with heap:=s.heap.update p f,toks:=t }:=by
 have e:(s.heap.update p f).get? p=some { cls:=.type "list",data:=.seq its'.toArray n' }:=by
  rw[get?_update_self f j (by rw[g]<;>rfl),g]
 refine I.write (by rw[h];trivial) (.inl rfl) (λb u i q=>(get?_update_other _ _ (ab8 i)).trans q) ⟨_,e⟩ ?_
 exact⟨hz,its',n',r,e⟩
def ug:V->V->V->Hp->(Hp->Prop)->Prop:=λo i v H Q=>∃p c k j,o=.ref p/\i=.int k/\H p=some (.lst c)/\qW c.length k=some j/\Q (upd H p (.lst (c.set j v)))
theorem Mv:HW X ug:=by
 intro pins s σ H o i v ov iv u Q I ro ri rv h
 obtain⟨p,xs,k,j,rfl,rfl,hp,hj,q⟩:=h
 cases ro
 obtain⟨t,rfl⟩:=ri
 obtain⟨its,n,r,ho,hz⟩:=I.lst hp
 obtain⟨h1,h2,h3,h4⟩:=Z_ hj
 have hl:=r.length
 have hn:=Ii
 have I':Inv X pins σ (upd H p (.lst (xs.set j v))) { s with heap:=s.heap.update p (ach (·.setIfInBounds j u)) } :=
  I.Iw hp ho (zNy its n j u) (r.set rv j) (by rw[length_set];exact hz) s.toks
 by_cases h0:0<=k
 ·have hk:k.toNat=j:=by
   rw[aek h0 h4] at h1
   exact aam h1
  exact PySem.W.ki_setAt ho h0 (by omega) (by rw[size_toArray,<-hl];exact h4) (by rw[hk];exact⟨_,I',q⟩)
 ·have hk:(k+(its.toArray.size:Int)).toNat=j:=by
   rw[aez (by omega) h3] at h1
   rw[size_toArray,<-hl]
   exact aam h1
  exact PySem.W.ki_setBack ho (by omega) (by rw[size_toArray,<-hl];exact h3) (by omega) (by rw[hk];exact⟨_,I',q⟩)
theorem zIi(lo d:Option Int)(n:Nat):(sliceBounds lo d none n).1=((HT.cG n 0 lo:Nat):Int)/\(sliceBounds lo d none n).2.1=((HT.cG n n d:Nat):Int)/\(sliceBounds lo d none n).2.2=1:=by
 refine⟨?_,?_,rfl⟩
 ·cases lo with
  |none=>simp[sliceBounds,HT.cG]
  |some i =>
   simp only[sliceBounds,HT.cG,Option.getD_none,if_true]
   grind
 ·cases d with
  |none=>simp[sliceBounds,HT.cG]
  |some i =>
   simp only[sliceBounds,HT.cG,Option.getD_none,if_true]
   grind
theorem zG4(c:List Value)(lo d:Option Int):slicePick c.toArray lo d none=((c.drop (HT.cG c.length 0 lo)).take (HT.cG c.length c.length d-HT.cG c.length 0 lo)).toArray:=by
 obtain⟨h,g,f⟩:=zIi lo d c.toArray.size
 unfold slicePick
 rw[h,g,f]
 simp only[sliceRange_one,pick_run]<;>rfl
def rN(K:Frag):V->Option Int->Option Int->Hp->VK->Prop:=λx lo d H Q=>∃a c,x=.ref a/\aN K H a c/\∀p,H p=none->Q (.ref p) (upd H p (.lst (qx c lo d)))
theorem Aw:Pk X (rN X.K):=by
 intro pins s σ H x v vl vu lo e sl Q I l k n i h
 obtain⟨a,d,rfl,j,q⟩:=h
 cases l
 obtain⟨its,r,g,m⟩:=I.list j
 have c:=r.length
 refine⟨"list",_,slot_list_getitem.lookup,g.isList.typeIs,?_⟩
 refine wpAny_getItem_list_slice g.isList k n i .none (by simp) ?_ (by grind)
 rw[zG4,<-c]
 refine⟨.ref s.heap.objs.size,_,I.laid (λb ob q=>get?_push_of_some _ q) (aak _) ?_,rfl,q _ (I.hok.fresh (aak _))⟩
 exact⟨aas (Z8 d lo e) m,_,0,(r.drop (HT.cG d.length 0 lo)).take (HT.cG d.length d.length e-HT.cG d.length 0 lo),get?_push_size _ rfl⟩
def yq:V->Bool
 |.non=>true
 |.bl _=>true
 |.int _=>true
 |.str _=>true
 |_=>false
def yr:V->V->Bool
 |.non,.non=>true
 |.bl a,.bl b=>a==b
 |.bl a,.int b=>(if a then 1 else 0)==b
 |.int a,.bl b=>a==(if b then 1 else 0)
 |.int a,.int b=>a==b
 |.str a,.str b=>a==b
 |_,_=>false
theorem zV8(ry:RelV y u)(rx:RelV x v)(fy:yq y=true)(fx:yq x=true):adq A s u v (yr y x):=by
 cases y with
 |non =>
  cases ry
  cases x with
  |non=>cases rx;exact SeqAt.EqAt.same _
  |bl b=>cases rx;exact SeqAt.EqAt.none_bool b
  |int b=>obtain⟨t,rfl⟩:=rx;exact SeqAt.EqAt.none_int b t
  |str b=>obtain⟨t,rfl⟩:=rx;exact SeqAt.EqAt.none_str b t
  |_=>exact absurd (show false=true from fx) aai
 |bl a =>
  cases ry
  cases x with
  |non=>cases rx;exact SeqAt.EqAt.bool_none a
  |bl b=>cases rx;exact SeqAt.EqAt.bool_bool a b
  |int b=>obtain⟨t,rfl⟩:=rx;exact SeqAt.EqAt.bool_int a b t
  |str b=>obtain⟨t,rfl⟩:=rx;exact SeqAt.EqAt.bool_str a b t
  |_=>exact absurd (show false=true from fx) aai
 |int a =>
  obtain⟨t',rfl⟩:=ry
  cases x with
  |non=>cases rx;exact SeqAt.EqAt.int_none a t'
  |bl b=>cases rx;exact SeqAt.EqAt.int_bool a t' b
  |int b=>obtain⟨t,rfl⟩:=rx;exact SeqAt.EqAt.int_int a t' b t
  |str b=>obtain⟨t,rfl⟩:=rx;exact SeqAt.EqAt.int_str a t' b t
  |_=>exact absurd (show false=true from fx) aai
 |str a =>
  obtain⟨t',rfl⟩:=ry
  cases x with
  |non=>cases rx;exact SeqAt.EqAt.str_none a t'
  |bl b=>cases rx;exact SeqAt.EqAt.str_bool a t' b
  |int b=>obtain⟨t,rfl⟩:=rx;exact SeqAt.EqAt.str_int a t' b t
  |str b=>obtain⟨t,rfl⟩:=rx;exact SeqAt.EqAt.str_str a t' b t
  |_=>exact absurd (show false=true from fx) aai
 |_=>exact absurd (show false=true from fy) aai
def Ax(x:V)(u:Value):Bool:=match u with
 |.none=>yr .non x
 |.bool b=>yr (.bl b) x
 |.int i _=>yr (.int i) x
 |.str z _=>yr (.str z) x
 |_=>false
theorem zV7(r:RelV y u)(f:yq y=true):Ax x u=yr y x:=by
 cases y with
 |non=>cases r;rfl
 |bl b=>cases r;rfl
 |int i=>obtain⟨t,rfl⟩:=r;rfl
 |str z=>obtain⟨t,rfl⟩:=r;rfl
 |_=>exact absurd (f) aai
theorem Wn:∀{xs:List V}{us:List Value},Vals xs us->xs.all yq=true->us.any (Ax x)=xs.any λy=>yr y x
 |_,_,.nil,_=>rfl
 |y::xs,u::us,.cons r t,f=>by
  rw[all_cons,aaz] at f
  rw[any_cons,any_cons,zV7 r f.1,Wn t f.2]
theorem Wo(d:RelV x v)(e:yq x=true):∀{xs:List V}{us:List Value},Vals xs us->xs.all yq=true->∀u∈us,adq A s u v (Ax x u)
 |_,_,.nil,_=>λu c=>by cases c
 |y::xs,u::us,.cons r t,f=>λg c=>by
  rw[all_cons,aaz] at f
  rcases mem_cons.mp c with rfl|c
  ·rw[zV7 r f.1];exact zV8 r d f.1 e
  ·exact Wo d e t f.2 g c
def inV(x:V)(xs:List V):Bool:=xs.any λy=>yr y x
def T3(K:Frag)(d:Bool):R2:=λx y H Q=>∃p c,y=.ref p/\(aN K H p c\/bT K H p c)/\yq x=true/\c.all yq=true/\Q (.bl (if d then !inV x c else inV x c)) H
theorem zP4:jU X (compareOp .In) (T3 X.K false):=by
 intro pins s σ H x y v u Q I j k h
 obtain⟨p,xs,rfl,e,i,f,q⟩:=h
 cases k
 rcases e with e|e
 ·obtain⟨c,r,g,l⟩:=I.list e
  refine SeqAt.in_listAt (Ax x) g.isList (λw m=>Wo j i r f w (by grind)) ⟨.bl _,H,I,rfl,?_⟩
  rw[show c.toArray.any (Ax x)=c.any (Ax x) by simp,Wn r f]
  exact q
 ·obtain⟨c,r,g,l⟩:=I.tuple e
  refine SeqAt.in_tupleAt (Ax x) g (λw m=>Wo j i r f w (by simp_all)) ⟨.bl _,H,I,rfl,?_⟩
  rw[show c.toArray.any (Ax x)=c.any (Ax x) by simp,Wn r f]
  exact q
theorem vT:qU X (.builtin "len") (λxs H Q=>∃p ys,xs=[.ref p]/\(aN X.K H p ys\/bT X.K H p ys)/\Q (.int ys.length) H):=by
 intro pins s σ H xs us Q I r h
 obtain⟨p,ys,rfl,d,q⟩:=h
 obtain⟨u,rfl,j⟩:=Fw r
 cases j
 have hn:=Ii
 rcases d with d|d
 ·obtain⟨g,e,f,i⟩:=I.list d
  have c:=e.length
  exact Calls.call_len_list f.isList (by grind) ⟨.int ys.length,H,I.tok _,⟨s.toks+1,by grind⟩,q⟩
 ·obtain⟨g,e,f,i⟩:=I.tuple d
  have c:=e.length
  exact len_tuple f (by grind) ⟨.int ys.length,H,I.tok _,⟨s.toks+1,by grind⟩,q⟩
theorem zJu:qU X (.type "list") (λxs H Q=>∃p ys,xs=[.ref p]/\(aN X.K H p ys\/bT X.K H p ys)/\∀l,H l=none->Q (.ref l) (upd H l (.lst ys))):=by
 intro v s σ H xs us Q I r h
 obtain⟨p,ys,rfl,t,q⟩:=h
 obtain⟨u,rfl,C⟩:=Fw r
 cases C
 have j:∀(c:List Value),Vals ys c->ys.length<=sizeLine->∀(d:Heap)(f:Nat),(∀b B,s.heap.get? b=some B->d.get? b=some B) ->
   d.get? s.heap.objs.size=some { cls:=.type "list",dict:=none,data:=.seq c.toArray f,slots:=#[] }->EP X v σ Q (.ref s.heap.objs.size) { s with heap:=d }:=λc g k d f m e =>
  ⟨.ref s.heap.objs.size,_,I.laid m (aak _) (show bJ X.prog X.w _ d _ (.lst ys) from⟨k,c,f,g,e⟩),rfl,q _ (I.hok.fresh (aak _))⟩
 rcases t with t|t
 ·obtain⟨c,g,y,k⟩:=I.list t
  have i:=g.length
  obtain⟨o,z,x,n,A⟩:=y.isList
  exact call_list_seq p (.inl rfl) z x A (λd f m e=>j c g k d f m e) (by grind)
 ·obtain⟨c,g,y,k⟩:=I.tuple t
  have i:=g.length
  obtain⟨o,z,x,n,A⟩:=y
  exact call_list_seq p (.inr rfl) z x A (λd f m e=>j c g k d f m e) (by grind)
def Wq(K:Frag)(T:String)(x:V)(H:Hp):Prop:=match x with
 |.str _=>T = "str"
 |.int _=>T = "int"
 |.ref p=>(T = "list" /\ ∃d,aN K H p d)\/(T = "tuple" /\ ∃o,K.lookup p=some o/\o.cls=.type "tuple" /\ o.dict=none) \/
   (T = "dict" /\ ((∃c,H p=some (.dK c))\/∃c,H p=some (.dT c)))\/(T = "set" /\ ∃S n,H p=some (.set S n))
 |_=>False
theorem zVe(I:Inv X pins σ H s)(r:RelV x v)(ty:Wq X.K T x H) :
  s.TypeIs v T/\∀a,v=.ref a->∃ob,s.heap.get? a=some ob/\ob.dict=none:=by
 cases x with
 |str z =>
  obtain⟨t,rfl⟩:=r
  cases(show T = "str" from ty)
  exact⟨typeIs_str s z t,λ_ e=>nomatch e⟩
 |int i =>
  obtain⟨t,rfl⟩:=r
  cases(show T = "int" from ty)
  exact⟨typeIs_int s i t,λ_ e=>nomatch e⟩
 |ref p =>
  cases r
  rcases ty with⟨rfl,xs,hq⟩|⟨rfl,o,hk,hc,hd⟩|⟨rfl,hk⟩|⟨rfl,S,n,hk⟩
  ·obtain⟨its,_,pl,_⟩:=I.list hq
   refine⟨pl.isList.typeIs,λa e=>?_⟩
   cases e
   obtain⟨o,n,e,c,hd,_⟩:=pl
   exact⟨o,e,hd⟩
  ·refine⟨⟨o,I.iJ p o hk,hc⟩,λa e=>?_⟩
   cases e
   exact⟨o,I.iJ _ o hk,hd⟩
  ·have z:∃o,s.heap.get? p=some o/\o.ExactDict:=by
    rcases hk with⟨kvs,hk⟩|⟨kvs,hk⟩
    ·obtain⟨_,_,_,_,o,_,_,e,ex,_⟩:=I.hok p _ hk
     exact⟨o,e,ex⟩
    ·obtain⟨_,_,_,_,o,_,_,e,ex,_⟩:=I.hok p _ hk
     exact⟨o,e,ex⟩
   obtain⟨o,e,ex⟩:=z
   refine⟨⟨o,e,ex.1⟩,λa e2=>?_⟩
   cases e2
   exact⟨o,e,ex.2.1⟩
  ·obtain⟨o,_,_,_,e,ex,_⟩:=I.hok p _ hk
   refine⟨⟨o,e,ex.1⟩,λa e2=>?_⟩
   cases e2
   exact⟨o,e,ex.2.1⟩
 |_=>exact abd ty
def uh(K:Frag)(T:String)(r:V->List V->Hp->VK->Prop)(d:TE):TE:=λσ H Q=>d σ H λx c=>Wq K T x c/\r x [] c Q
def Ay(K:Frag)(T:String)(r:V->List V->Hp->VK->Prop)(e:TE)(t:TA):TE:=λσ H Q=>e σ H λx c=>Wq K T x c/\t σ c λd f=>r x d f Q
variable{o e:Expr}{es:List Expr}{to:TE}{t:TA}{name:Str}{apos cpos:Pos}{T id:String}{r:V->List V->Hp->VK->Prop}
theorem Iz(q:PlainAttrs T)(g:Slot T name id)(i:typeOf (.builtin id)=pure (.type "method_descriptor"))(m:MtR X id r)(u:PE X o to)(f:attributeBase o name X.env (eval o X.env)=eval o X.env:=by rfl)(d:(apos.endLine==cpos.line)=true:=by rfl):PE X (.Call (.Attribute o name apos) [] [] cpos) (uh X.K T r to):=by
 intro c s σ H Q I h
 refine wpAny_Call_method0_late f d (aO (u c s σ H _ I h) ?_)
 rintro v n ⟨x,y,k,j,p,z⟩
 obtain⟨w,l⟩:=zVe k j p
 exact⟨T,id,q,g,i,w,l,adb rfl (PySem.evalArgs_none (m c n σ y x [] v [] Q k j .nil z))⟩
theorem FT(pa:PlainAttrs T)(slot:Slot T name id)(hty:typeOf (.builtin id)=pure (.type "method_descriptor"))(hm:MtR X id r)(ho:PE X o to)(ha:PA X (e::es) t)(hbase:attributeBase o name X.env (eval o X.env)=eval o X.env:=by rfl)(hfew:((backTo cpos (starEach (e::es) X.env)).all (λx=>!x.1)&&(backToKw cpos (keywordEach [] X.env)).all (λx=>x.1.isSome)
   && decide ((e::es).length+([]:List Keyword).length+(if([]:List Keyword).isEmpty then 0 else 1)<30))=true:=by rfl)(hline:(apos.endLine==cpos.line)=true:=by rfl)(hs:starEach (e::es) X.env=(false,eval e X.env)::starEach es X.env:=by rfl)(hplain:(backTo cpos (starEach es X.env)).any (·.1)=false:=by rfl) :
  PE X (.Call (.Attribute o name apos) (e::es) [] cpos) (Ay X.K T r to t):=by
 intro pins s σ H Q I h
 refine wpAny_Call_method_late hbase hfew hline rfl (aO (ho pins s σ H _ I h) λv s1 ⟨x,H1,I1,r1,ty,q1⟩=>?_)
 obtain⟨h1,h2⟩:=zVe I1 r1 ty
 refine⟨T,id,pa,slot,hty,h1,h2,?_⟩
 have hA:=ha cpos pins s1 σ H1 _ I1 q1
 rw[hs] at hA ⊢
 refine adb (by show(false||(backTo cpos (starEach es X.env)).any (·.1))=false;rw[hplain]<;>rfl) (Calls.evalArgs_plain ?_)
 exact aO hA λus s2 ⟨vs,H2,I2,r2,q2⟩=>hm pins s2 σ H2 x vs v us Q I2 r1 r2 q2
end
def Mw(X:Cx)(id:String)(r:V->List V->Hp->VK->Prop):Prop :=
 ∀(a:List (Addr×Obj))(s:Shared)(σ:St)(H:Hp)(x:V)(b:List V)(v:Value)(c:List Value)(Q:VK),Inv X a σ H s->RelV x v->Vals b c->r x b H Q ->
  wpAny (model X.prog X.w) X.A (call (.builtin id) (v::c)) (EP X a σ Q) X.xe s
theorem Vals.one{x:V}{us:List Value}(h:Vals [x] us):∃u,us=[u]/\RelV x u:=by
 cases h with|cons r h=>cases h;exact⟨_,rfl,r⟩
theorem Vals.two{x y:V}{us:List Value}(h:Vals [x,y] us):∃u v,us=[u,v]/\RelV x u/\RelV y v:=by
 cases h with|cons r h=>cases h with|cons q h=>cases h;exact⟨_,_,rfl,r,q⟩
theorem Vals.zero:∀{us:List Value},Vals [] us->us=[]
 |_,.nil=>rfl
theorem Vals.dropLast(h:Vals xs us):Vals xs.dropLast us.dropLast:=by
 induction h with
 |nil=>exact .nil
 |cons r t ih =>
  cases t with
  |nil=>exact .nil
  |cons q t'=>exact .cons r ih
theorem Vals.eraseIdx:∀{xs:List V}{us:List Value}(i:Nat),Vals xs us->Vals (xs.eraseIdx i) (us.eraseIdx i)
 |_,_,_,.nil=>.nil
 |_,_,0,.cons _ t=>t
 |_,_,i+1,.cons r t=>.cons r (Vals.eraseIdx i t)
theorem Vals.reverse(h:Vals xs us):Vals xs.reverse us.reverse:=by
 induction h with
 |nil=>exact .nil
 |cons r t ih=>rw[reverse_cons,reverse_cons];exact Vals.append ih (.cons r .nil)
theorem IK{α:Type}(l:List α):l.eraseIdx (l.length-1)=l.dropLast:=by
 grind
section
variable{X:Cx}{pins:List (Addr×Obj)}{σ:St}{H:Hp}{s:Shared}{l b:Addr}{xs ys zs:List V}
theorem Inv.Az{a its':List Value}{f:Array Value->Array Value}(I:Inv X pins σ H s)(i:H l=some (.lst xs))(e:s.heap.get? l=some { cls:=.type "list",data:=.seq a.toArray n })(g:f a.toArray=its'.toArray)(d:Vals ys its')(hz:ys.length<=sizeLine) :
  Inv X pins σ (upd H l (.lst ys)) { s with heap:=s.heap.update l (ach f),toks:=t' }:=by
 have q:=PySem.IsL.update e f
 rw[g] at q
 refine I.write (by rw[i];exact trivial) (.inl rfl) (λb' u c h=>(get?_update_other s.heap (ach f) (ab8 c)).trans h) ⟨_,q⟩ ?_
 exact⟨hz,its',_,d,q⟩
theorem Inv.um(I:Inv X pins σ H s)(c:H l=some (.lst xs)):xs.length<=sizeLine/\∃(a:List Value)(n:Nat),Vals xs a/\xs.length=a.length/\s.heap.get? l=some { cls:=.type "list",data:=.seq a.toArray n }:=by
 obtain⟨z,a,n,r,e⟩:=I.hok l _ c
 exact⟨z,a,n,r,r.length,e⟩
theorem zTw(h:n<=sizeLine):ac0 n=false:=by
 unfold ac0
 grind
end
section
variable{X:Cx}
def Pq:V->List V->Hp->VK->Prop:=λx b H Q=>∃l a y,x=.ref l/\b=[y]/\H l=some (.lst a)/\a.length<sizeLine/\Q .non (upd H l (.lst (a++[y])))
theorem xB:Mw X "list.append" Pq:=by
 intro pins s σ H x vs v us Q I c f h
 obtain⟨l,xs,y,rfl,rfl,b,hz,q⟩:=h
 cases c
 obtain⟨u,rfl,d⟩:=f.one
 obtain⟨z,a,n,r,hl,e⟩:=I.um b
 refine aee F.slot_list_append ⟨_,e,rfl⟩ F.entry_list_append (F.args_list_append_2 _ _) (PySem.list_append l a.toArray n u (by grind)) ⟨e,?_⟩
 refine⟨.non,_,I.Az b e (by simp) (r.append (.cons d .nil)) ?_,rfl,q⟩
 grind
def T4:V->List V->Hp->VK->Prop:=λx d H Q=>∃l b c a,x=.ref l/\d=[.ref b]/\H l=some (.lst c)/\H b=some (.lst a)/\c.length+a.length<=sizeLine/\Q .non (upd H l (.lst (c++a)))
theorem Wr:Mw X "list.extend" T4:=by
 intro pins s σ H x vs v us Q I t o h
 obtain⟨l,b,xs,zs,rfl,rfl,g,j,hz,q⟩:=h
 cases t
 obtain⟨u,rfl,k⟩:=o.one
 cases k
 obtain⟨z,c,n,r,hl,e⟩:=I.um g
 obtain⟨z2,a,i,p,hl2,m⟩:=I.um j
 have f:c.toArray.size+a.toArray.size<=sizeLine:=by grind
 have d:¬(!c.toArray.isEmpty&&ac0 (c.toArray.size+a.toArray.size))=true:=by
  rw[zTw f]
  grind
 refine aee F.slot_list_extend ⟨_,e,rfl⟩ F.entry_list_extend (F.args_list_extend_2 _ _)
  (AutoSeq1.list_extend_list_list_0 l c.toArray n b a.toArray i d (by grind) (by omega)) ⟨e,m,?_⟩
 refine⟨.non,_,I.Az g e (by simp) (r.append p) ?_,rfl,q⟩
 grind
def Pr:V->List V->Hp->VK->Prop:=λx b H Q=>∃l a y,x=.ref l/\b=[]/\H l=some (.lst a)/\a[a.length-1]?=some y/\Q y (upd H l (.lst a.dropLast))
theorem IV:Mw X "list.pop" Pr:=by
 intro pins s σ H x vs v us Q I f i h
 obtain⟨l,xs,y,rfl,rfl,d,j,q⟩:=h
 cases f
 have b:=i.zero
 subst b
 obtain⟨z,a,n,r,hl,e⟩:=I.um d
 obtain⟨u,hu,g⟩:=r.get j
 have c:a.toArray[a.toArray.size-1]?=some u:=by
  grind
 refine aee F.slot_list_pop ⟨_,e,rfl⟩ F.entry_list_pop (F.args_list_pop_1 _) (MeetsSeq.list_pop_last l a.toArray n u c (by grind)) ⟨e,?_⟩
 refine⟨y,_,I.Az d e ?_ r.dropLast ?_,g,q⟩
 ·grind
 grind
def Ws:V->List V->Hp->VK->Prop:=λx a H Q=>∃l b,x=.ref l/\a=[]/\H l=some (.lst b)/\Q .non (upd H l (.lst []))
theorem zL7:Mw X "list.clear" Ws:=by
 intro pins s σ H x vs v us Q I d f h
 obtain⟨l,xs,rfl,rfl,c,q⟩:=h
 cases d
 have b:=f.zero
 subst b
 obtain⟨z,a,n,r,hl,e⟩:=I.um c
 refine aee F.slot_list_clear ⟨_,e,rfl⟩ F.entry_list_clear (F.args_list_clear_1 _) (AutoSeq1.list_clear_list_0 l a.toArray n (by grind)) ⟨e,?_⟩
 exact⟨.non,_,I.Az c e rfl .nil (aa0 _),rfl,q⟩
end
end L2
namespace Att
open PySem PySem.W PySem.Calls PyProof.Rows
theorem zFl:∀(ns:LI)(vs:List Value),WellAll P h vs (ns.map WData.int)->IntsAre vs ns:=by
 intro ns
 induction ns with
 |nil =>
  intro vs w
  cases w
  exact .nil
 |cons n ns ih =>
  intro vs w
  cases w with
  |cons a b =>
   cases a
   exact .cons _ _ (ih _ b)
theorem zPf{l:OpenLaw}(hn:l.most=some n)(c:l.row.toRowW.claim.pre b=true)(j:WellAll P h g b) :
  ∃a vs ns,g=[aa7 a]/\b=[WData.list (ns.map WData.int)]/\h.get? a=some { cls:=.type "list",data:=.seq vs.toArray }/\IntsAre vs ns/\ns.length<=n:=by
 have i:=(pre_splitW c).1
 have m:l.pre.holds [] { args:=b }=true:=(pre_splitW c).2
 obtain⟨d,r,rfl,p,t⟩:=hasAllW_cons i
 obtain rfl:=hasAllW_nil t
 obtain⟨xs,rfl,s⟩:=hasW_list p
 obtain⟨ns,rfl⟩:=items_int s
 have f:ns.length<=n:=by
  unfold OpenLaw.pre at m
  have k:(WTm.not (.lt (.lit (.int (n:Int))) (.len (.arg 0)))).holds [] { args:=[.list (ns.map .int)] }=true:=by
   have k:=(holds_andW m).1
   grind
  have h5:=condW_of k (w_not (w_lt w_lit (w_len_list (w_arg rfl))))
  grind
 cases j with
 |cons q u =>
  cases u
  cases q with
  |list o e=>exact⟨_,_,ns,rfl,rfl,o,zFl ns _ e,f⟩
theorem zPu(l:OpenLaw)(a:List WData):l.row.toRowW.claim.post a (.bool true) a=true :=
 postW_of
  (show WShape.has [] (.bool true) .bool=true by first|rfl|decide|grind)
  (w_eq_bool (w_res rfl) w_lit) rfl
theorem oX{l:OpenLaw}{B:World->Heap->Prop}{d:DefRec}(P:l.most=some n)(v:d.params.defaults=[])(call:∀(w:World) (x b:Shared) (mg t:Str->Option Value) (h:Addr) (o:Obj) (z m c:Value) (a:Addr) (vs:List Value) (ns:LI),
   Ground q e [] L w x mg t b.heap->B w b.heap ->
   b.heap.get? h=some o->o.data=.func (docDef d.name d.params d.body d.scope z m c)->b.heap.CodeRec m d.name->mg d.name=some (.ref h) ->
   b.heap.get? a=some { cls:=.type "list",data:=.seq vs.toArray }->IntsAre vs ns->ns.length<=n->b.gens=#[] ->
   codeAny (model l.prog w) callerA (.call (.ref h) ⟨[.ref a],[]⟩) (λr s'=>r=.ok (.ret (.bool true))/\OldK b.heap s'.heap/\s'.os=b.os/\AllBare s'.gens) b) :
  WalkO q e L B l.row.toRowW d [] (λf vs=>PySem.call f vs):=by
 intro w x b mg t G Y h o z m c N E C I u A p H args vals as j hlay hrd y hlo
 obtain rfl:N=.none:=Dflts.none A v
 obtain rfl:E=.none:=Dflts.noKw A
 obtain⟨a,vs,ns,rfl,rfl,k,g,i⟩:=zPf P j y
 refine enter_call (acv (call w x b mg t h o z m c a vs ns G Y C (fd_plain I) u p k g i H) λr s' O=>?_)
 obtain⟨rfl,J,F,D⟩:=O
 exact⟨.inl ⟨.bool true,.bool true,[],rfl,λ_=>rfl,.bool true,zPu l _,λ_=>⟨Pairwise.nil,λ_ M=>(nomatch M)⟩⟩,J,F,D⟩
end Att
namespace L2
open PySem PySem.Spec PyProof.Rows
theorem zIa:∀{vs:List Value}{ns:LI},IntsAre vs ns->Vals (ns.map V.int) vs
 |_,_,.nil=>.nil
 |_,_,.cons n t h=>.cons ⟨t,rfl⟩ (zIa h)
def Only(H:Hp):Prop:=∀b,H b=none\/∃o a,H b=some (.mQ o (.lst a))
theorem zT5{K:Frag}{c:Shared}{vs:List Value}(X:K.In c.heap)(D:c.heap.Ns aa3 mg)(g:c.heap.Ns builtinsNs Y)(L:∀x:Str,x ≠ "__name__"->Y x=bootBuiltins x)(t:c.heap.NoLimit)(hg:c.gens=#[])(J:c.heap.get? a=some { cls:=.type "list",data:=.seq vs.toArray })(Z:IntsAre vs ns)(hl:ns.length<=sizeLine)(hr:bI k callerA)(F:∀base:Heap,K.In base->base.Ns aa3 mg->aq P w K mg base CX k T fd [x] sp)(l:∀(s:Shared) (u:Value),BindsTo s fd ⟨[u],[]⟩ [(x,u)])(N:∀H:Hp,Only H->aN K H a (ns.map V.int)->sp [.ref a] H (λv _=>v=.bl true) λ_ _ _=>False)(M:∀H e s',CX [] H c (λ_ _ _=>False) e s'->False) :
  codeAny (model P w) callerA (.call (.ref T) ⟨[.ref a],[]⟩) (λr s'=>r=.ok (.ret (.bool true))/\OldK c.heap s'.heap/\s'.os=c.os/\AllBare s'.gens) c:=by
 have U:=zIa Z
 have B:=Z.length
 have j:∀H:Hp,Only H->aN K H a (ns.map V.int)->eZ P w H c.heap->(∀b,H b≠none->b=a)->(H a≠none->K.lookup a=none) ->
   codeAny (model P w) callerA (.call (.ref T) ⟨[.ref a],[]⟩) (λr s'=>r=.ok (.ret (.bool true))/\OldK c.heap s'.heap/\s'.os=c.os/\AllBare s'.gens) c:=by
  intro H hO hS C S hK
  have f:∀{b:Addr}{o:Obj},c.heap.get? b=some o->H b=none->(nD c.heap H).get? b=some o:=λe n=>zUd e n
  have Q:∀{b:Addr}{o:Obj}{y:Array DictEntry}{A:Nat},c.heap.get? b=some o->o.data=.dict y A->H b=none:=λ{b o y A} e d=>by
   cases q:H b with
   |none=>rfl
   |some u =>
    have R:b=a:=S b (by rw[q];simp)
    subst R
    rw[J] at e;cases e
    have d':Data.seq vs.toArray _=Data.dict y A:=d
    cases d'
  have i:∀{b:Addr}{m:Str->Option Value},c.heap.Ns b m->(nD c.heap H).Ns b m:=λ{b m} ⟨o,y,A,e,d,r⟩=>⟨o,y,A,f e (Q e d),d,r⟩
  have p:K.In (nD c.heap H):=λb o e=>f (X b o e) (by
   cases q:H b with
   |none=>rfl
   |some u =>
    have R:b=a:=S b (by rw[q];simp)
    subst R
    rw[hK (by rw[q];simp)] at e;cases e)
  have hM:Mod K mg (nD c.heap H):=⟨p,i D,⟨Y,i g,L⟩,let⟨mc,h1,h2⟩:=t;⟨mc,i h1,h2⟩⟩
  have e0:qw P w K mg (nD c.heap H) callerA [] c H:=⟨rfl,hM,λb o e=>z6 e,Nat.le_of_eq (zQy _ _),trivial,λb g=>absurd (show b∈([]:List Addr) from g) (by simp),C,.of_eq hg⟩
  refine acv ((F _ p (i D)).run callerA [] c H ⟨[.ref a],[]⟩ [.ref a] [.ref a] _ _ hr e0 (l c (.ref a)) (.cons rfl .nil) (N H hO hS)) λr s' h=>?_
  cases r with
  |error e=>exact(M H e s' h).elim
  |ok fl =>
   cases fl with
   |next=>exact abd h
   |brk=>exact abd h
   |cont=>exact abd h
   |ret u =>
    obtain⟨v,H',os,G,un,E,r',q⟩:=h
    have q':v=.bl true:=q
    subst q'
    obtain rfl:u=Value.bool true:=r'
    refine⟨rfl,OldK.of_keep λb o e=>?_,os,G⟩
    cases q:H b with
    |none=>exact un.keep b o e q (by intro z;exact absurd (show b∈([]:List Addr) from z) (by simp)) (by simp)
    |some u =>
     rcases hO b with z|⟨ob,xs,z⟩
     ·rw[q] at z;cases z
     ·have z2:=un.j7 b ob _ z
      obtain⟨e1,_⟩:=C b _ z
      obtain⟨e2,_⟩:=E b _ z2
      rw[e] at e1;cases e1
      exact e2
 cases O:K.lookup a with
 |some o =>
  have e:=X a o O
  rw[J] at e
  cases e
  refine j (λ_=>none) (λ_=>.inl rfl) (.inr ⟨_,vs.toArray,_,O,rfl,rfl,rfl,by rw[size_toArray,B];exact hl,by simpa using U⟩) (λb u z=>by have I:(none:Option HO)=some u:=z;cases I) (λb z=>absurd rfl z) λz=>absurd rfl z
 |none =>
  refine j (λb=>if b=a then some (.mQ { cls:=.type "list",data:=.seq vs.toArray } (.lst (ns.map V.int))) else none) (λb=>?_) (.inl (.inr ⟨{ cls:=.type "list",data:=.seq vs.toArray },if_pos rfl⟩)) (λb u z=>?_) (λb z=>?_) λ_=>O
  ·by_cases g:b=a
   ·exact .inr ⟨_,_,if_pos g⟩
   ·exact .inl (if_neg g)
  ·by_cases g:b=a
   ·have I:=(if_pos g).symm.trans z
    cases I
    subst g
    exact⟨J,by rw[length_map];exact hl,vs,_,U,J⟩
   ·have I:=(if_neg g).symm.trans z
    cases I
  ·by_cases g:b=a
   ·exact g
   ·exact absurd (if_neg g) z
theorem A_{l:ad1}{D:World->Heap->Prop}{d:DefRec}{K:Params->Frag}{CX:World->tL}{sp:World->Sp}(hn:l.most=some n)(z:n<=sizeLine)(r:d.params.defaults=[])(hr:bI k callerA)(hY:∀(w:World) (h:Heap),D w h->(K w.params).In h)(F:∀(w:World) (mg:Str->Option Value) (p:Addr) (h:Heap),(K w.params).In h->h.Ns aa3 mg->mg d.name=some (.ref p) ->
   ∃y:FuncData,(∀(s:Shared) (u:Value),BindsTo s y ⟨[u],[]⟩ [(x,u)]) /\
    ∀base:Heap,(K w.params).In base->base.Ns aa3 mg->aq l.prog w (K w.params) mg base (CX w) k p y [x] (sp w))(t:∀(w:World) (H:Hp) (a:Addr) (ns:LI),ns.length<=n->Only H->aN (K w.params) H a (ns.map V.int)->sp w [.ref a] H (λv _=>v=.bl true) λ_ _ _=>False)(B:∀(w:World) (H:Hp) (s:Shared) (e:Value) (s':Shared),CX w [] H s (λ_ _ _=>False) e s'->False) :
  PySem.W.WalkO q loose XP D l.row.toRowW d [] (λf vs=>PySem.call f vs):=by
 refine Att.oX hn r λw s₀ s₁ mg mb p o pm cd doc a vs ns G Y ho hd hcd A m j i hg=>?_
 have C:=hY w _ Y
 obtain⟨y,hb,hF⟩:=F w mg p _ C G.T.g A
 exact zT5 C G.T.g G.T.b G.T.builtins G.T.nolimit hg m j (aas i z) hr hF hb (λH hO E=>t w H a ns i hO E) λH e s'=>B w H s₁ e s'
def yZ(s:Stmt)(j:Nat):Stmt:=match s with
 |.ClassDef _ _ _ b _ _ _ _ _ _ _=>b.getD j (.Pass ⟨0,0,0,0⟩)
 |_=>.Pass ⟨0,0,0,0⟩
def vY(s:Stmt):Arguments:=match s with
 |.FunctionDef _ a _ _ _ _ _ _ _ _=>a
 |_=>{ posonlyargs:=[],args:=[],vararg:=none,kwonlyargs:=[],kw_defaults:=[],kwarg:=none,defaults:=[] }
def xY(s:Stmt):List Stmt:=match s with
 |.FunctionDef _ _ b _ _ _ _ _ _ _=>b
 |_=>[]
def zH(s:Stmt):Scope:=match s with
 |.FunctionDef _ _ _ _ _ _ a _ _ _=>a
 |_=>{ kind:=.function,names:=[],isGenerator:=false,isCoroutine:=false }
abbrev aP:tL:=λ_ _ _ _ _ _=>False
abbrev E0:XK:=λ_ _ _=>False
theorem xR:Al aP X E0:=λ_ _ _ _ _ _ _ h=>h.elim
structure aV(K:Frag)(x qual:Str)(st:Stmt)(f:Addr)(fd:FuncData):Prop where
 ex:∃(oc:Value)(od:Option Addr)(kV doc pm:Value)(an:Option Addr)(cdv ct:Value)(osl:Array (Option Value)),
  fd=fnOf x qual (vY st) (xY st) (zH st) .none kV doc pm an cdv ct/\K.lookup f=some ⟨oc,od,.func fd,osl⟩/\codeIn K cdv qual=true
 kp:keepIn K (.ref f)=true
section
variable{P:Program}{w:World}{K:Frag}{mg:Str->Option Value}{base:Heap}
theorem aV.ok{x c:Str}{st:Stmt}{f:Addr}{l:FuncData}{N ps:List Str}{k:Nat}{sp:Sp}(F:aV K x c st f l)(S:ao N ps (zH st))(i:∀vs H Q E,sp vs H Q E->vs.length=ps.length)(e:∀(d:Value) (A:Around) (b:List Env) (s:Shared) (H:Hp) (vs:List V) (Q:VK) (E:XK),bI k (A.deeper (envOfC c (zH st) s.heap.objs.size f d))->sp vs H Q E ->
   ∃t,oM (lY aP P w K mg base N c (zH st) f d A b s H E).Aa (xY st) t/\t { nx:=λ_ H'=>Q .non H',rt:=Q } (start N vs) H):aq P w K mg base aP (k+1) f l ps sp:=by
 obtain⟨oc,od,kV,doc,pm,an,d,ct,osl,rfl,n,j⟩:=F.ex
 refine Fz n j S i λA b s H vs Q E m g=>?_
 obtain⟨t,h,q⟩:=e d A b s H vs Q E m g
 exact⟨t,h.Aa,q⟩
theorem aV.binds{x b:Str}{st:Stmt}{f:Addr}{j:FuncData}{ps:List Str}(F:aV K x b st f j)(h:∀(kV d g:Value) (i:Option Addr) (c e:Value) (us:List Value),us.length=ps.length->bindArgs (fnOf x b (vY st) (xY st) (zH st) .none kV d g i c e) ⟨us,[]⟩=pure (ps.zip us)):Binds K j ps []:=by
 obtain⟨oc,od,kV,d,g,i,c,e,osl,rfl,lk,hcd⟩:=F.ex
 exact .all (h kV d g i c e)
theorem j8{x a:Str}{st:Stmt}{f:Addr}{j:Value}{od i:Option Addr}{e:Array (Option Value)}{kV d g b h:Value}(l:K.lookup f=some ⟨j,od,.func (fnOf x a (vY st) (xY st) (zH st) .none kV d g i b h),e⟩)(c:codeIn K b a=true)(k:keepIn K (.ref f)=true):aV K x a st f (fnOf x a (vY st) (xY st) (zH st) .none kV d g i b h):=⟨⟨j,od,kV,d,g,i,b,h,e,rfl,l,c⟩,k⟩
end
theorem T5(a:bI k A):A.units+1<cLine:=aap (Nat.add_le_add_left (by decide:1<=64) _) a.units
theorem Wt(h:n<=1000):n<sizeLine:=aap h (by decide)
section
variable{X:Cx}
theorem pv(i:Nat)(b:X.N[i]?=some x:=by rfl)(d:Og X.env.scope x:=by first|exact Or.inl rfl|exact Or.inr (Or.inl rfl)|exact Or.inr (Or.inr rfl))(c:(x==("__debug__":Str))=false:=by decide)(a:(x==("__classdict__":Str))=false:=by decide):PE X (.Name x pos) (aZ i):=HF b d c a
end
theorem j9{A B:Prop}(h:B):if false=true then A else B:=by
 grind
theorem iT{A B:Prop}(h:A):if true=true then A else B:=by
 grind
theorem uo{c A B:Prop}[Decidable c](h1:c->A)(h2:¬c->B):if c then A else B:=by
 grind
def Same(H H':Hp):Prop:=∀b o,H b=some o->H' b=some o
theorem Same.refl(H:Hp):Same H H:=λ_ _ h=>h
theorem Same.trans(a:Same H d)(b:Same d e):Same H e:=λc o h=>b c o (a c o h)
theorem Same.free(e:Same H H')(h:H' l=ae3):H l=ae3:=by
 cases q:H l with
 |none=>rfl
 |some o =>
  rw[e l o q] at h
  cases h
theorem Same.seq{K:Frag}{H H':Hp}{a:Addr}{xs:List V}(e:Same H H')(h:aN K H a xs):aN K H' a xs:=by
 rcases h with(h|⟨o,h⟩)|h
 ·exact .inl (.inl (e _ _ h))
 ·exact .inl (.inr ⟨o,e _ _ h⟩)
 ·exact .inr h
open PySem
section
variable{prog:Program}{w:World}{A:Around}{R:Result->Shared->Prop}{s:Shared}
theorem vG{α:Type}{t:Sem α}{Q b:α->Shared->Prop}(h:wpAny M A t Q (λ_ _=>False) s)(c:∀a s,Q a s->b a s):wpAny M A t b (notedBy M A env E) s :=
 abm h c λ_ _ z=>z.elim
theorem zJt(I:Nat->Shared->Prop)(d:∀n s,I n s->wpAny (model prog w) A (pyNext k) (λr j=>match r with
   |none=>R (.ok .next) j
   |some v=>wpAny (model prog w) A (letOwnedTupleGo a k v) (λ_ o=>wpAny (model prog w) A (assign a env v) (λ_ t =>
     wpAny (model prog w) A (forIn f true λc r=>if r=true then do let i <-isTrue c env (eval c env);pure (ab1 i) else pure (ab1 r)) (λi l =>
      if i=true then wpAny (model prog w) A (eval g env) (λx u =>
       wpAny (model prog w) A (call (.builtin "list.append") [acc,x]) (λ_ y=>∃m,m<n/\I m y) (λ_ _=>False) u) (λ_ _=>False) l
      else∃m,m<n/\I m l) (λ_ _=>False) t) (λ_ _=>False) o) (λ_ _=>False) j) (λ_ _=>False) s)(n:Nat)(h:I n s):codeAny (model prog w) A (.compLoop (.ListComp g [⟨a,e,f,0⟩] b pos) 0 k acc env) R s:=by
 refine codeAny_loop rfl I (λn s B=>?_) n h
 show wpAny _ A ((compTurn (.ListComp g [⟨a,e,f,0⟩] b pos) 0 k acc env).onRaise (λx=>do noteFrame x env;theTreesLotGoes x)) _ _ s
 refine wpAny_noted ?_
 rw[compTurn_list]
 refine aag (aep (aag (vG (d n s B) λr j q=>?_)))
 cases r with
 |none=>exact aah q
 |some v =>
  refine aag (vG q λ_ o D=>?_)
  refine aag (vG D λ_ t z=>aag (vG z λi l p=>?_))
  cases i with
  |false=>exact aah ⟨rfl,p⟩
  |true =>
   exact aag (aag (vG p λx u E=>aag (vG E λ_ y C=>aah (aah ⟨rfl,C⟩))))
end
def mR(env:Env):List (Str×NameKind)->List (Str×Addr)->List (Str×Addr)
 |[],a=>a
 | (n,k)::r,a=>if k==.free then mR env r ((n,(env.cells.lookup n).getD 0)::a) else mR env r a
theorem zC2{scope:Scope}{env:Env}(h:∀y∈scope.names,y.2=.free->∃c,env.cells.lookup y.1=some c):closureFor scope env=pure (mR env scope.names []):=by
 unfold closureFor
 generalize scope.names=l at h
 have go:∀(l:List (Str×NameKind))(acc:List (Str×Addr)),(∀y∈l,y.2=.free->∃c,env.cells.lookup y.1=some c) ->
    (forIn l acc (λ(x:Str×NameKind) (r:List (Str×Addr))=>match x with
    | (name,kind)=>if(kind==aa8)=true then(do let __do_lift <-cellOf env name;pure (ab1 ((name,__do_lift)::r))) else pure (ab1 r)):Sem (List (Str×Addr)))=pure (mR env l acc):=by
  intro l
  induction l with
  |nil=>intro acc _;rfl
  |cons x r ih =>
   intro acc hl
   obtain⟨n,k⟩:=x
   rw[List.forIn_cons]
   unfold mR
   by_cases hk:(k==aa8)=true
   ·obtain⟨c,hc⟩:=hl (n,k) mem_cons_self (adu hk)
    simp only[hk,if_true]
    have hc':env.cells.lookup n=some c:=hc
    unfold cellOf
    rw[hc']
    exact ih _ λy hy=>hl y (mem_cons_of_mem _ hy)
   ·simp only[hk,if_false]
    exact ih _ λy hy=>hl y (mem_cons_of_mem _ hy)
 have e:=go l [] h
 simp only[bind_pure]
 exact e
theorem Wu{env:Env}:∀(l:List (Str×NameKind))(acc:List (Str×Addr)),(∀x c,acc.lookup x=some c->(env.cells.lookup x).getD 0=c)->∀x c,(mR env l acc).lookup x=some c->(env.cells.lookup x).getD 0=c
 |[],_,h,x,c,e=>h x c e
 | (n,k)::r,acc,h,x,c,e=>by
  unfold mR at e
  by_cases a:(k==aa8)=true
  ·rw[if_pos a] at e
   refine Wu r _ (λy d q=>?_) x c e
   grind
  ·rw[if_neg a] at e
   exact Wu r acc h x c e
theorem Wv:∀(l:List (Str×NameKind))(acc:List (Str×Addr))(x:Str)(c:Addr),(mR env l acc).lookup x=some c->(acc.lookup x).isSome=true\/(x,aa8)∈l
 |[],_,x,c,e=>.inl (by unfold mR at e;grind)
 | (n,k)::r,acc,x,c,e=>by
  unfold mR at e
  by_cases a:(k==aa8)=true
  ·rw[if_pos a] at e
   rcases Wv r _ x c e with h|h
   ·grind
   grind
  ·rw[if_neg a] at e
   rcases Wv r _ x c e with h|h
   ·grind
   grind
theorem T6:∀(l:List (Str×NameKind))(acc:List (Str×Addr))(x:Str),((acc.lookup x).isSome=true\/(x,aa8)∈l)->((mR env l acc).lookup x).isSome=true
 |[],_,x,h=>by
  rcases h with h|h
  ·exact h
  grind
 | (n,k)::r,acc,x,h=>by
  unfold mR
  by_cases a:(k==aa8)=true
  ·rw[if_pos a]
   refine T6 r _ x ?_
   grind
  ·rw[if_neg a]
   refine T6 r _ x ?_
   grind
theorem zDx{env:Env}:∀{a:List (Str×NameKind)}{x:Str},a.lookup x=some .free ->
  (a.map λ(n,k)=>if(k==aa8&&env.scope.kind==.function&&env.kindOf n==some .cell) then(n,ac1) else(n,k)).lookup x=some .cell \/
  (a.map λ(n,k)=>if(k==aa8&&env.scope.kind==.function&&env.kindOf n==some .cell) then(n,ac1) else(n,k)).lookup x=some .free
 |[],_,h=>by simp at h
 | (n,k)::r,x,h=>by
  have ih:=@zDx env r x
  grind
theorem Ww{env:Env}:∀{a:List (Str×NameKind)}{x:Str}{k:NameKind},(k=.cell\/k=.free) ->
  (a.map λ(n,k)=>if(k==aa8&&env.scope.kind==.function&&env.kindOf n==some .cell) then(n,ac1) else(n,k)).lookup x=some k->(x,aa8)∈a\/(x,ac1)∈a
 |[],_,_,_,h=>by simp at h
 | (n,k')::r,x,k,b,h=>by
  have ih:=@Ww env r x k b
  grind
theorem xQ:∀(l:List (Str×NameKind))(n:Nat)(acc:List (Str×Addr)),cellsFrom n l acc=cellsFrom n l []++acc
 |[],_,_=>rfl
 | (x,k)::r,n,acc=>by
  unfold cellsFrom
  split
  ·rw[xQ r (n+1) ((x,n)::acc),xQ r (n+1) [(x,n)]];simp
  ·exact xQ r n acc
theorem Wx:∀(l:List (Str×NameKind))(n:Nat)(x:Str)(c:Addr),(x,c)∈cellsFrom n l []->(x,ac1)∈l
 |[],_,_,_,h=>by cases h
 | (y,k)::r,n,x,c,h=>by
  unfold cellsFrom at h
  split at h
  ·rw[xQ] at h
   rcases mem_append.mp h with h|h
   ·exact mem_cons_of_mem _ (Wx r _ x c h)
   grind
  ·exact mem_cons_of_mem _ (Wx r _ x c h)
theorem zD9{s:Shared}{a:Scope}{Q:Env->Shared->Prop}(j:∀h',h'.Ns s.heap.objs.size (λ_=>none)->(∀b o,s.heap.get? b=some o->h'.get? b=some o)->CellsOk h' (s.heap.objs.size+1) (cellsFrom (s.heap.objs.size+1) a.names []) ->
   Q (newEnv a s.heap.objs.size c (cellsFrom (s.heap.objs.size+1) a.names d) g none .none (some f) builtinsNs) { s with heap:=h' }) :
  wpAny M A (newFunctionEnv a c d [] g none .none (some f)) Q E s:=by
 refine aag (wpAny_alloc ?_)
 refine aag (wpAny_layCells _ (λname kind cells=>by grind) _ _ _ _ ?_)
 have h:=cellsFrom_ok a.names (s.heap.push { cls:=.type "dict",data:=.dict #[] }) (s.heap.objs.size+1) [] ⟨λ_ _ i=>(nomatch i),Pairwise.nil⟩ (by simp_all)
 rw[size_push] at h
 rw[size_push ..]
 refine aag ?_
 rw[List.forIn_nil]
 exact aah (aah (j _ ((Heap.Ns.new s.heap (.type "dict")).keeps (pushCells_keeps _ _)) (λb o e=>pushCells_keeps _ _ b o (get?_push_of_some _ e)) h))
theorem eZ.track(x:eZ P w H h)(f:H a=none)(new:bJ P w (upd H a o) h a o):eZ P w (upd H a o) h:=λb u e=>by
 by_cases d:b=a
 ·subst d;rw[zJ] at e;grind
 ·rw[zN d] at e
  exact(x b u e).stay (λc v _ q=>q) (λc q=>by rw[zN (zL q f)];exact q) λc xs q=>by rw[zN (zL q f)];exact q
theorem Un.track(u:Un fs i H H' h h')(h0:h.get? a=none)(e:H a=none):Un fs i H (upd H' a o) h h' where
 keep:=u.keep
 slot:=u.slot
 free:=λb c q n f=>by
  rw[zN (λz=>by grind)];exact u.free b c q n f
 there:=u.there
 tups:=λb d q=>by rw[zN (zL q e)];exact u.tups b d q
 j7:=λb c d q=>by rw[zN (zL q e)];exact u.j7 b c d q
 lX:=λb g q=>by rw[zN (zL q e)];exact u.lX b g q
def nIn(N:List Str)(own:List Str)(ix:List Nat):List Str:=own++ix.map λj=>N.getD j ada
def gG(σ:St)(n:Nat)(ix:List Nat):St:=replicate n none++ix.map λj=>(σ[j]?).getD none
def cT(X:Cx)(a:Scope)(own:List Str)(ix:List Nat)(C:Addr)(s:Shared)(H:Hp)(fp:List Addr):Cx :=
 { X with N:=nIn X.N own ix,s₀:=s,H₀:=H,env:=compEnvC a (cellsFrom (C+1) a.names (mR X.env a.names [])) C X.env,outer:=X.stack,stack:=X.stack,ex:=fp,fn:=λx=>a.names.lookup x==some .cell,pn:=[] }
def T7(b:Scope)(c:List Str)(a:Scope)(ix:List Nat):Bool :=
 a.kind==.function &&
 (a.names.all λy=>(y.2 != .cell||a.names.lookup y.1==some .cell)&&(y.2 != .local||a.names.lookup y.1==some .local)&&(y.2 != .free||(b.names.lookup y.1==some .cell||b.names.lookup y.1==some .free))) &&
 ix.all λj=>match c[j]? with
  |some x=>a.names.lookup x==some .free
  |none=>false
structure h_(osc:Scope)(oN:List Str)(scope:Scope)(ix:List Nat):Prop where
 kind:scope.kind=.function
 clk:∀y∈scope.names,y.2=.cell->scope.names.lookup y.1=some .cell
 nm:∀y∈scope.names,y.2=.local->scope.names.lookup y.1=some .local
 fr:∀y∈scope.names,y.2=.free->osc.names.lookup y.1=some .cell\/osc.names.lookup y.1=some .free
 ix:∀j∈ix,∃x,oN[j]?=some x/\scope.names.lookup x=some .free
theorem zJr(h:T7 b d a ix=true):h_ b d a ix:=by
 unfold T7 at h
 rw[aaz,aaz,all_eq_true] at h
 obtain⟨⟨f,h2⟩,h3⟩:=h
 refine⟨adu f,λy c e=>?_,λy c e=>?_,λy c e=>?_,λj hj=>?_⟩
 ·grind
 ·grind
 ·grind
 grind
section
variable{X:Cx}{pins:List (Addr×Obj)}{σ:St}{H:Hp}{s:Shared}{scope:Scope}{own:List Str}{ix:List Nat}
theorem Wy(I:Inv X pins σ H s)(a:h_ X.env.scope X.N scope ix):∀y∈scope.names,y.2=.free->∃c,X.env.cells.lookup y.1=some c:=λy b e=>by
 rcases a.fr y b e with q|q
 ·exact I.ok.has y.1 (.inl q)
 ·exact I.ok.has y.1 (.inr q)
theorem zMq(I:Inv X pins σ H s)(a:h_ X.env.scope X.N scope ix)(e:(mR X.env scope.names []).lookup x=some c):X.env.cells.lookup x=some c:=by
 have h1:=Wu scope.names [] (λx c q=>by simp at q) x c e
 rcases Wv scope.names [] x c e with q|q
 ·simp at q
 ·obtain⟨c',hc⟩:=Wy I a (x,.free) q rfl
  grind
theorem zUz(I:Inv X pins σ H s)(d:h_ X.env.scope X.N scope ix)(b:(x,aa8)∈scope.names)(e:X.env.cells.lookup x=some c):(mR X.env scope.names []).lookup x=some c:=by
 have a:=T6 (env:=X.env) scope.names [] x (.inr b)
 obtain⟨c',f⟩:=abl.mp a
 have:=zMq I d f
 grind
theorem uR(I:Inv X pins σ H s)(a:h_ X.env.scope X.N scope ix)(e:(cellsFrom (C+1) scope.names (mR X.env scope.names [])).lookup x=some c):(x,c)∈cellsFrom (C+1) scope.names []\/X.env.cells.lookup x=some c:=by
 rw[xQ,lookup_append] at e
 cases h:(cellsFrom (C+1) scope.names []).lookup x with
 |some d=>rw[h] at e;cases e;exact .inl (abb h)
 |none=>rw[h] at e;exact .inr (zMq I a e)
theorem uq(h:(gG σ n ix)[i]?=some (some v)):∃j,ix[i-n]?=some j/\σ[j]?=some (some v)/\n<=i:=by
 unfold gG at h
 grind
theorem Inv.comp{h₁:Heap}(I:Inv X pins σ H s)(f:h_ X.env.scope X.N scope ix)(fo:∀b∈fp,ju X pins H b)(Pu:∀b∈fp,b<s.heap.objs.size)(E:s.heap.objs.size<=C)(hns:h₁.Ns C m₀)(hk:∀b o,s.heap.get? b=some o->h₁.get? b=some o)(F:CellsOk h₁ (C+1) (cellsFrom (C+1) scope.names [])):Inv (cT X scope own ix C s H fp) [] (gG σ own.length ix) H { s with heap:=h₁,toks:=t' }:=by
 have lt:∀{b:Addr},b<s.heap.objs.size->b≠C:=λ{b} n=>aan (aaq n E)
 have A:∀{x:Str}{c:Addr},X.env.cells.lookup x=some c->c<C+1:=λ{x c} e=>by
  obtain⟨v,q⟩:=I.cell x c e
  exact adg (aaq q.lt E)
 have g:∀{x:Str}{c:Addr},X.env.cells.lookup x=some c->∀v,s.heap.IsCell c v->h₁.IsCell c v:=λ{x c} _ v ⟨o,ho,hd⟩=>⟨o,hk _ _ ho,hd⟩
 refine⟨⟨I.ok.mod,f.kind,I.ok.glob,I.ok.blt,E,λx y c h1 h2=>?_,λx hx=>?_,λx c h e=>by
  have h':scope.names.lookup x=some .cell:=adu h
  have e':(cellsFrom (C+1) scope.names (mR X.env scope.names [])).lookup x=some c:=e
  rw[xQ,lookup_append] at e'
  obtain⟨d,hd⟩:=abl.mp (acq scope.names (C+1) [] (.inl h'))
  rw[hd] at e'
  cases e'
  exact aas E (ad7 (F.empty _ _ (abb hd)).2),I.ok.hd,I.ok.frames,.inl rfl,λb n=>?_,I.bs,aas I.ok.z8 I.sz,λb o e n=>?_,λb n z=>?_,I.stack,I.qT⟩,
  rfl,I.bare,Un.kept hk,⟨m₀,hns,λi x v h1 h2 h3=>?_⟩,λx c h=>?_,I.hok.fresh E,λx c h=>?_,λp hp=>?_,I.hok.kept hk,?_⟩
 ·rcases uR I f h1 with q1|q1
  ·rcases uR I f h2 with G|G
   ·exact name_of_addr F.apart q1 G
   ·exact absurd (aaq (A G) (F.empty _ _ q1).2) (aa9 _)
  ·rcases uR I f h2 with G|G
   ·exact absurd (aaq (A q1) (F.empty _ _ G).2) (aa9 _)
   ·exact I.ok.inj x y c q1 G
 ·have k:(x,aa8)∈scope.names\/(x,ac1)∈scope.names:=by
   rcases hx with hx|hx
   ·exact Ww (env:=X.env) (.inl rfl) hx
   ·exact Ww (env:=X.env) (.inr rfl) hx
  refine abl.mp ?_
  show((cellsFrom (C+1) scope.names (mR X.env scope.names [])).lookup x).isSome=true
  rcases k with k|k
  ·exact acq _ _ _ (.inr (T6 (env:=X.env) scope.names [] x (.inr k)))
  ·exact acq _ _ _ (.inl (f.clk _ k rfl))
 ·obtain⟨f0,f1,f2,f3,f4,f5⟩:=fo b n
  refine⟨lt (Pu b n),λx c h=>?_⟩
  rcases uR I f h with q|q
  ·exactλz=>absurd (aaq (Pu b n) (aas E (ad7 (z▸(F.empty _ _ q).2)))) (aa9 _)
  ·exact f4 x c q
 ·obtain⟨f0,f1,f2,f3,f4,f5⟩:=fo b n
  rcases f3 with z|z
  ·exact I.ok.tV b o e z
  ·exact absurd (aaq (lt_size e) (aas I.ok.z8 z)) (aa9 _)
 ·obtain⟨f0,f1,f2,f3,f4,f5⟩:=fo b n
  rcases mem_cons.mp (I.nG b z) with z|z
  ·exact f1 z
  ·exact f2 z
 ·obtain⟨j,hj,hv,hn⟩:=uq h2
  obtain⟨y,hy,hf⟩:=f.ix j (mem_of_getElem? hj)
  have e:y=x:=by
   have D:(nIn X.N own ix)[i]?=some x:=h1
   unfold nIn at D
   rw[getElem?_append_right hn,getElem?_map,hj] at D
   have t:X.N.getD j ada=x:=aam D
   rw[getD_eq_getElem?_getD,hy] at t
   exact t
  subst e
  have k:(y,aa8)∈scope.names:=abb hf
  have vis:Og X.env.scope y:=by
   rcases f.fr _ k rfl with q|q
   ·exact .inr (.inl q)
   ·exact .inr (.inr q)
  obtain⟨m,_,hl⟩:=I.loc
  obtain⟨u,r,l⟩:=hl j y v hy hv vis
  refine⟨u,r,?_⟩
  rcases l with⟨hk',_⟩|⟨_,c,hc,J⟩
  ·have w:X.env.scope.names.lookup y=some .local:=hk'
   rcases f.fr _ k rfl with q|q
   ·have B:X.env.scope.names.lookup y=some .cell:=q
    rw[w] at B;cases B
   ·have B:X.env.scope.names.lookup y=some .free:=q
    rw[w] at B;cases B
  ·refine .inr ⟨zDx (env:=X.env) hf,c,?_,g hc _ J⟩
   show(cellsFrom (C+1) scope.names (mR X.env scope.names [])).lookup y=some c
   rw[xQ,lookup_append,zUz I f k hc]
   cases e:(cellsFrom (C+1) scope.names []).lookup y with
   |none=>rfl
   |some d =>
    have q:=f.clk _ (Wx _ _ _ _ (abb e)) rfl
    have B:scope.names.lookup y=some .cell:=q
    rw[hf] at B;cases B
 ·rcases uR I f h with q|q
  ·exact⟨_,(F.empty _ _ q).1⟩
  ·obtain⟨v,z⟩:=I.cell x c q
   exact⟨v,g q v z⟩
 ·rcases uR I f h with q|q
  ·exact I.hok.fresh (aas E (ad7 (F.empty _ _ q).2))
  ·exact I.fH x c q
 ·exact absurd (show p∈([]:List (Addr×Obj)) from hp) (by simp)
 ·show(gG σ own.length ix).length=(nIn X.N own ix).length
  unfold gG nIn
  simp
end
def ur(X:Cx)(b:List Expr)(t:TT):Prop :=
 ∀(a:List (Addr×Obj))(s:Shared)(σ:St)(H:Hp)(Q:Bool->Hp->Prop),Inv X a σ H s->t σ H Q ->
  wpAny (model X.prog X.w) X.A (forIn b true λc r=>if r=true then do let d <-isTrue c X.env (eval c X.env);pure (ab1 d) else pure (ab1 r)) (TP X a σ Q) X.xe s
def rO:TT:=λ_ H Q=>Q true H
theorem wR:ur X [] rO:=λ_ _ _ H _ I h=>wpAny_tests_nil ⟨H,I,h⟩
theorem Px(h:PT X c t):ur X [c] t:=λa s σ H Q I q=>wpAny_tests_one (h a s σ H Q I q)
def Mx(n:Nat)(ix:List Nat)(g:TG)(s:TT)(te:TE)(σ:St)(Q:VK)(J:It)(q:Hp):Prop :=
 ∃W:Nat->Nat->List V->St->Hp->Prop,(∃m,W 0 m [] (gG σ n ix) q)/\∀i m c k a,W i m c k a ->
  (J.stop i a/\c.length<=sizeLine/\∀p,a p=none->Q (.ref p) (upd a p (.lst c))) \/
  (J.go i a/\c.length<sizeLine/\∃N:List V->St->Hp->Prop,(∀d h o,N d h o->∃j,j<m/\W (i+1) j d h o) /\
   ∀x l,J.Mp i a x l->g x k l λe t=>s e t λb f=>if b=true then te e f λy r=>N (c++[y]) e r else N c e f)
def Mz(n:Nat)(ix:List Nat)(a:TI)(g:TG)(b:TT)(te:TE):TE:=λσ H Q=>a σ H (Mx n ix g b te σ Q)
def Wz(X:Cx)(a:List (Addr×Obj))(σ:St)(Q:VK)(acc:Value)(C:Addr)(s':Shared):Prop :=
 ∃p b,acc=.ref p/\Inv X a σ b s'/\(∃m,s'.heap.Ns C m)/\ju X a b C/\Q (.ref p) b
theorem WD{X:Cx}{α:Type}{t:Sem α}{Q b:α->Shared->Prop}(hx:X.xe=λ_ _=>False)(h:wpAny M A t Q X.xe s)(c:∀a s,Q a s->b a s):wpAny M A t b E s :=
 abm h c λe s' z=>by grind
section
variable{X:Cx}{elt tg iter:Expr}{ifs:List Expr}{scope:Scope}{pos:Pos}{own:List Str}{ix:List Nat}{wi:TI}{g:TG}{tc:TT}{te:TE}
theorem zGu{RR:Value->Addr->Result->Shared->Prop}(hx:X.xe=λ_ _=>False)(hc:X.calm=true)(sc:h_ X.env.scope X.N scope ix)(I:Inv X Z σ H s)(T:Turn X.prog X.w X.K tg J fp it tn)(st:tn 0 s.heap)(fo:∀b∈fp,ju X Z H b)(hg:∀C s H fp,PG (cT X scope own ix C s H fp) tg g)(hif:∀C s H fp,ur (cT X scope own ix C s H fp) ifs tc)(he:∀C s H fp,PE (cT X scope own ix C s H fp) elt te)(rd:Mx own.length ix g tc te σ Q J H)(hRR:∀acc C s',Wz X Z σ Q acc C s'->RR acc C (.ok .next) s') :
  wpAny (model X.prog X.w) X.A (newList []) (λacc s₃=>wpAny (model X.prog X.w) X.A (newFunctionEnv scope X.env.globals (mR X.env scope.names []) [] X.env.qual none .none (some X.env)) (λY s₄ =>
   codeAny (model X.prog X.w) X.A (.compStart (.ListComp elt [⟨tg,iter,ifs,0⟩] scope pos) 0 (.ref it) acc { Y with scope:=relabel scope X.env }) (RR acc Y.locals) s₄) E s₃) E s:=by
 refine abz (zD9 (λh₁ B m co=>?_))
 dsimp only at B m co ⊢
 generalize l:s.heap.objs.size=D at B m co ⊢
 generalize hH2:s.heap.push { cls:=.type "list",dict:=none,data:=.seq ([]:List Value).toArray }=G at B m co ⊢
 generalize hC':G.objs.size=C at B m co ⊢
 have hC:C=D+1:=by rw[<-hC',<-hH2,size_push,l]
 have hDC:D≠C:=by rw[hC];exact aan (abp _)
 have hle:s.heap.objs.size<=C:=by rw[hC,l];exact abw _
 have old:∀b o,s.heap.get? b=some o->h₁.get? b=some o:=λb o e=>by
  exact m b o (hH2▸get?_push_of_some _ e)
 have oD:h₁.get? D=some { cls:=.type "list",data:=.seq ([]:List Value).toArray 0 }:=by
  refine m D _ ?_
  rw[<-hH2,<-l]
  exact get?_push_size _ rfl
 have Pu:∀b∈fp,b<s.heap.objs.size:=λb j=>by
  obtain⟨o,e,_⟩:=T.obj 0 _ st b j
  exact lt_size e
 have nDf:∀b∈fp,b≠D:=λb j=>by rw[<-l];exact aan (Pu b j)
 have sD:s.heap.get? D=none:=by
  cases e:s.heap.get? D with
  |none=>rfl
  |some o=>exact absurd (lt_size e) (by rw[l];exact aa9 _)
 have hDn:H D=none:=I.hok.fresh (by rw[l];exact aak _)
 have I0:Inv (cT X scope own ix C s H fp) [] (gG σ own.length ix) H { s with heap:=h₁ }:=I.comp sc fo Pu hle B old co
 have st0:tn 0 h₁:=T.keep 0 _ _ st λb _ o e=>old b o e
 have hx':(cT X scope own ix C s H fp).xe=λ_ _=>False:=hx
 have U:D≠(cT X scope own ix C s H fp).env.locals:=hDC
 have Dex:D∈(cT X scope own ix C s H fp).ex\/(cT X scope own ix C s H fp).s₀.heap.objs.size<=D:=.inr (by show s.heap.objs.size<=D;rw[l];exact aak _)
 have Dfs:D∉(cT X scope own ix C s H fp).fs:=I0.HD (a:=D) |> λk=>λz=>by
  have z':D∈frs X.stack:=z
  rcases mem_cons.mp (I.nG D z') with q|q
  ·exact absurd (q▸I.lt) (by rw[l];exact aa9 _)
  ·exact I.HD (by rw[l];exact aak _) q
 have Py:∀x c,(cT X scope own ix C s H fp).env.cells.lookup x=some c->c≠D:=λx c e z=>by
  rcases uR I sc e with q|q
  ·have w1:=(co.empty _ _ q).2
   rw[z,hC] at w1
   omega
  ·obtain⟨v,q⟩:=I.cell x c q
   exact absurd (aaq q.lt (by rw[z,l];exact aak _)) (aa9 _)
 have WK:∀{P:Hp}{pl:List (Addr×Obj)},(∀b∈fp,P b=none)->(∀p∈pl,p.1=D)->∀b∈fp,ju (cT X scope own ix C s H fp) pl P b:=λ{P pl} hn L b j=>by
  obtain⟨f0,f1,f2,f3,f4,f5⟩:=fo b j
  refine⟨hn b j,(I0.ok.S9 b j).1,I0.ok.tW b j,.inl j,(I0.ok.S9 b j).2,λp hp' z=>?_⟩
  rcases mem_append.mp hp' with q|q
  ·exact absurd (show p∈([]:List (Addr×Obj)) from q) (by simp)
  ·exact nDf b j (by rw[<-z];exact L p q)
 obtain⟨W,⟨m0,w0⟩,step⟩:=rd
 have R:codeAny (model X.prog X.w) X.A (.compLoop (.ListComp elt [⟨tg,iter,ifs,0⟩] scope pos) 0 (.ref it) (.ref D) (cT X scope own ix C s H fp).env) (RR (.ref D) C) { s with heap:=h₁ }:=by
  refine zJt (λn s'=>∃i M σ' P f k,Inv (cT X scope own ix C s H fp) [] σ' P s'/\tn i s'.heap/\(∀b∈fp,P b=none)/\P D=none/\s'.heap.get? D=some { cls:=.type "list",data:=.seq (toArray f) k }/\Vals M f/\W i n M σ' P) ?_ m0
   ⟨0,[],_,H,[],0,I0,st0,λb j=>(fo b j).1,hDn,oD,.nil,w0⟩
  rintro n s1 ⟨i,M,σ1,H1,f,k,I1,tn1,fr1,D1,o1,O,w1⟩
  have J1:Inv (cT X scope own ix C s H fp) [(D,{ cls:=.type "list",data:=.seq (toArray f) k })] σ1 H1 s1:=I1.iK λp L=>by
   have e:p=(D,{ cls:=.type "list",data:=.seq (toArray f) k }):=by simpa using L
   subst e
   exact⟨o1,D1,U,Dfs,λv z=>by cases z⟩
  have t:∀p∈[((D,{ cls:=.type "list",data:=.seq (toArray f) k }):Addr×Obj)],p.1=D:=λp L=>by
   have e:p=(D,{ cls:=.type "list",data:=.seq (toArray f) k }):=by simpa using L
   rw[e]
  rcases step i n M σ1 H1 w1 with⟨stop,hz,qn⟩|⟨go,hz,N,hN,stp⟩
  ·refine aO (T.done (cT X scope own ix C s H fp) rfl rfl rfl hc i _ s1 σ1 H1 _ J1 (WK fr1 t) tn1 stop) λr s2 ⟨hr,I2⟩=>?_
   subst hr
   obtain⟨e2,_⟩:=I2.pin (D,{ cls:=.type "list",data:=.seq (toArray f) k }) (mem_append_right _ (by simp))
   obtain⟨m2,WL,_⟩:=I2.loc
   refine hRR _ _ _ ⟨D,upd H1 D (.lst M),rfl,?_,⟨m2,WL⟩,?_,qn D D1⟩
   ·refine I.call' (ch:=fp) I2.os (Un.track I2.base sD hDn) (I2.hok.track D1 ⟨hz,f,k,O,e2⟩) I2.bare λb j=>?_
    obtain⟨f0,f1,f2,f3,f4,f5⟩:=fo b j
    exact⟨f3,f1,f4,f5⟩
   ·refine I.jw hle ?_
    rw[zN hDC.symm]
    exact I2.free
  ·refine aO (T.item (cT X scope own ix C s H fp) rfl rfl rfl hc i _ s1 σ1 H1 _ J1 (WK fr1 t) tn1 go) λr s2 ⟨u,hr,h2⟩=>?_
   subst hr
   refine aO h2 ?_
   rintro _ s3 ⟨x,H3,I3,rx,y3,WM,fr3⟩
   have I3':=I3.pinned (WK fr3 t) (T.obj _ _ WM)
   refine WD hx' (hg C s H fp _ s3 σ1 H3 x u _ I3' rx (stp x H3 y3)) ?_
   rintro _ s4 ⟨σ4,H4,I4,q4⟩
   refine WD hx' (hif C s H fp _ s4 σ4 H4 _ I4 q4) ?_
   rintro b s5 ⟨H5,I5,q5⟩
   have S:∀{σ7:St}{H7:Hp}{s7:Shared},Inv (cT X scope own ix C s H fp) ([(D,{ cls:=.type "list",data:=.seq (toArray f) k })]++Ft fp s3.heap) σ7 H7 s7 ->
     tn (i+1) s7.heap/\(∀b∈fp,H7 b=none)/\H7 D=none/\s7.heap.get? D=some { cls:=.type "list",data:=.seq (toArray f) k }:=λ{σ7 H7 s7} I7=>by
    have Pz:=I7.pin (D,{ cls:=.type "list",data:=.seq (toArray f) k }) (mem_append_right _ (mem_append_left _ (by simp)))
    refine⟨T.keep _ _ _ WM λb j o e=>(I7.pin (b,o) (mem_append_right _ (mem_append_right _ (vH j e)))).1,λb j=>?_,Pz.2.1,Pz.1⟩
    obtain⟨o,e,d⟩:=T.obj _ _ WM b j
    exact(I7.pin (b,o) (mem_append_right _ (mem_append_right _ (vH j e)))).2.1
   cases b with
   |false =>
    obtain⟨m',hm,w'⟩:=hN _ _ _ (show N M σ4 H5 from q5)
    obtain⟨b1,b2,b3,b4⟩:=S I5
    exact⟨m',hm,i+1,M,σ4,H5,f,k,I5.iK (λp L=>absurd L (by simp)),b1,b2,b3,b4,O,w'⟩
   |true =>
    rw[if_pos rfl]
    refine WD hx' (he C s H fp _ s5 σ4 H5 _ I5 q5) ?_
    rintro v s6 ⟨y,H6,I6,ry,q6⟩
    obtain⟨m',hm,w'⟩:=hN _ _ _ q6
    obtain⟨b1,b2,b3,b4⟩:=S I6
    have zl:f.length=M.length:=O.length.symm
    refine aee F.slot_list_append ⟨_,b4,rfl⟩ F.entry_list_append (F.args_list_append_2 _ _) (PySem.list_append D f.toArray k v (by rw[size_toArray];omega)) ⟨b4,?_⟩
    have q:=PySem.IsL.update b4 (λxs=>xs.push v)
    have keep:∀b o,b≠D->s6.heap.get? b=some o->(s6.heap.update D (ach λxs=>xs.push v)).get? b=some o:=λb o j e=>(get?_update_other s6.heap _ (ab8 j)).trans e
    refine⟨m',hm,i+1,M++[y],σ4,H6,f++[v],(if(f.toArray.push v).size==f.toArray.size then k else k+1),?_,T.keep _ _ _ b1 (λb j o e=>keep b o (nDf b j) e),b2,b3,?_,O.append (.cons ry .nil),w'⟩
    ·exact(I6.iK (Fb:=[]) λp L=>absurd L (by simp)).turned (t':=s6.toks) keep b3 U Dex Py λp L=>absurd (show p∈([]:List (Addr×Obj)) from L) (by simp)
    ·rw[show(f++[v]).toArray=f.toArray.push v by simp]
     exact q
 exact codeAny_compStart_list R (T.self X.A 0 _ _ _ st0 R)
theorem yt(R:X.xe=λ_ _=>False)(w:X.calm=true)(L:T7 X.env.scope X.N scope ix=true)(F:PI X tg iter wi)(P:∀C s H fp,PG (cT X scope own ix C s H fp) tg g)(i:∀C s H fp,ur (cT X scope own ix C s H fp) ifs tc)(O:∀C s H fp,PE (cT X scope own ix C s H fp) elt te)(u:∀x,foldedSetIterable iter X.env x=pure x:=by intro _;rfl):PE X (.ListComp elt [⟨tg,iter,ifs,0⟩] scope pos) (Mz own.length ix wi g tc te):=by
 intro a s σ H Q I h
 have c:=zJr L
 refine wpAny_comprehension_free rfl u (zC2 (Wy I c)) c.kind c.nm (aO (F a s σ H _ I h) λv s1 E=>aO E λitv s2 l=>?_)
 obtain⟨it,fp,tn,J,H2,e,B,T,f,k,M⟩:=l
 subst e
 refine zGu R w c B T f k P i O M ?_
 rintro acc C s' ⟨p,y,rfl,r,⟨m,j⟩,t,q⟩
 obtain⟨D,G,k,n,S,z⟩:=t
 exact⟨m,j,λh' d=>⟨.ref p,y,r.turned (λb o A e=>(d.2 b A).trans e) D G n S z,rfl,q⟩⟩
theorem Ba{f:Pos}(hN:X.N.Nodup)(z:X.N[i]?=some x)(j:X.env.scope.names.lookup x=some .local)(Z:X.xe=λ_ _=>False)(hc:X.calm=true)(Y:T7 X.env.scope X.N scope ix=true)(hi:PI X tg iter wi)(P:∀C s H fp,PG (cT X scope own ix C s H fp) tg g)(t:∀C s H fp,ur (cT X scope own ix C s H fp) ifs tc)(he:∀C s H fp,PE (cT X scope own ix C s H fp) elt te)(u:swapsWith (.ListComp elt [⟨tg,iter,ifs,0⟩] scope pos) (some (.Name x c)) f.line X.env=pure true:=by rfl)(hs:∀x,foldedSetIterable iter X.env x=pure x:=by intro _;rfl):PS X (.Assign [.Name x c] (.ListComp elt [⟨tg,iter,ifs,0⟩] scope pos) f) (g_ (Mz own.length ix wi g tc te) (vR i)):=by
 intro d s σ H D I h
 have n:=zJr Y
 rw[exec_Assign_Name_used _ _ _ _ u]
 refine aag (aep (aag ?_))
 refine aag (abm (wpAny_comprehension_free (use:=some (assign (.Name x c) X.env)) (Q:=λ_ k=>SP X d D .next k) rfl hs (zC2 (Wy I n)) n.kind n.nm
  (aO (hi d s σ H _ I h) λv s1 h1=>aO h1 λitv s2 W=>?_)) (λ_ k hq=>aah (aah hq)) λ_ _ e=>e)
 obtain⟨it,fp,tn,J,H2,e,O,T,E,M,rd⟩:=W
 subst e
 refine zGu (RR:=λl C=>compPost (model X.prog X.w) X.A X.xe (some (assign (.Name x c) X.env)) (λ_ k=>SP X d D .next k) l C) Z hc n O T E M P t he rd ?_
 rintro l C k ⟨p,H',rfl,R,⟨m,y⟩,fC,q⟩
 obtain⟨f0,U,M,f3,S,f5⟩:=fC
 show wpAny _ X.A (assign (.Name x c) X.env (.ref p)) _ _ _
 refine wpAny_assign_Name (Zm (v:=.ref p) R hN z (.inl j) rfl (?_) (.inr j))
 rintro L r ⟨a,B,ha⟩
 have G:C≠a:=by
  grind
 exact⟨m,y.sameBut B G,λh' F=>⟨_,H',r.turned (t':=L.toks) (λb o hb e=>(F.2 b hb).trans e) f0 U f3 S f5,q⟩⟩
end
section
variable{n:Nat}{ix:List Nat}{g:TG}{tc:TT}{te:TE}{σ:St}{Q:VK}{H:Hp}
theorem zRt{K:Frag}{a:Addr}{xs:List V}(Pv:Nat->List V->St->Hp->Prop)(h0:Pv 0 [] (gG σ n ix) H)(hl:∀i ys σ H,i<=xs.length->Pv i ys σ H->aN K H a xs/\ys.length<=i)(hz:xs.length<sizeLine)(hs:∀i x ys σ H,xs[i]?=some x->Pv i ys σ H->g x σ H λσ4 H4=>tc σ4 H4 λb H5=>if b=true then te σ4 H5 λy H6=>Pv (i+1) (ys++[y]) σ4 H6 else Pv (i+1) ys σ4 H5)(hd:∀ys σ H,Pv xs.length ys σ H->∀p,H p=none->Q (.ref p) (upd H p (.lst ys))):Mx n ix g tc te σ Q (Mr K a) H:=by
 refine⟨λi m ys σ H=>m=xs.length-i/\i<=xs.length/\Pv i ys σ H,⟨xs.length,by simp,aa0 _,h0⟩,?_⟩
 rintro i m ys σ H ⟨rfl,hi,p⟩
 obtain⟨q,hy⟩:=hl i ys σ H hi p
 by_cases hlt:i<xs.length
 ·refine .inr ⟨⟨xs,xs[i],q,by simp[hlt]⟩,by omega,Pv (i+1),λys' σ' H' p'=>⟨xs.length-(i+1),by omega,rfl,hlt,p'⟩,λx H' y=>?_⟩
  obtain⟨e,y⟩:=y
  subst e
  exact hs i x ys σ _ (y xs q) p
 ·have e:i=xs.length:=by omega
  subst e
  exact .inl ⟨⟨xs,q,aak _⟩,by omega,hd ys σ H p⟩
theorem zUx{K:Frag}{a:Addr}{xs:List V}(Pv:Nat->List V->St->Hp->Prop)(h0:Pv 0 [] (gG σ n ix) H)(hl:∀i ys σ H,i<=xs.length->Pv i ys σ H->bT K H a xs/\ys.length<=i)(hz:xs.length<sizeLine)(hs:∀i x ys σ H,xs[i]?=some x->Pv i ys σ H->g x σ H λσ4 H4=>tc σ4 H4 λb H5=>if b=true then te σ4 H5 λy H6=>Pv (i+1) (ys++[y]) σ4 H6 else Pv (i+1) ys σ4 H5)(hd:∀ys σ H,Pv xs.length ys σ H->∀p,H p=none->Q (.ref p) (upd H p (.lst ys))):Mx n ix g tc te σ Q (Ti K a) H:=by
 refine⟨λi m ys σ H=>m=xs.length-i/\i<=xs.length/\Pv i ys σ H,⟨xs.length,by simp,aa0 _,h0⟩,?_⟩
 rintro i m ys σ H ⟨rfl,hi,p⟩
 obtain⟨q,hy⟩:=hl i ys σ H hi p
 by_cases hlt:i<xs.length
 ·refine .inr ⟨⟨xs,xs[i],q,by simp[hlt]⟩,by omega,Pv (i+1),λys' σ' H' p'=>⟨xs.length-(i+1),by omega,rfl,hlt,p'⟩,λx H' y=>?_⟩
  obtain⟨e,y⟩:=y
  subst e
  exact hs i x ys σ _ (y xs q) p
 ·have e:i=xs.length:=by omega
  subst e
  exact .inl ⟨⟨xs,q,aak _⟩,by omega,hd ys σ H p⟩
end
def Ite(K:Frag)(a:Addr):It :=
 ⟨λi H=>∃b x,aN K H a b/\b[i]?=some x,λi H v c=>∃t x,v=.ref t/\H t=none/\c=upd H t (.tup [.int i,x])/\∀b,aN K H a b->b[i]?=some x,λi H=>∃b,aN K H a b/\b.length<=i⟩
theorem zO5{P:Program}{w:World}{K:Frag}{M:List Expr}{k:Nat}{tp:Pos}(a e f:Addr)(G:e≠f) :
  Turn P w K (.Tuple M k tp) (Ite K a) [e,f] e (λi h=>(∃g,IsEnum h e f ((i:Nat):Int) g)/\h.IsListIter f a i) where
 mem:=by simp
 obj:=λi h st b r=>by
  obtain⟨⟨g,t⟩,o,ho,c,d⟩:=st
  have m:b=e\/b=f:=by simpa using r
  rcases m with rfl|rfl
  ·exact⟨_,t,λv z=>by
    have z':ae2 _=ae1 v:=z
    cases z'⟩
  ·exact⟨o,ho,λv z=>by rw[d] at z;cases z⟩
 keep:=λi h h' st k=>⟨let⟨g,t⟩:=st.1;⟨g,k e (by simp) _ t⟩,st.2.at λo q=>k f (by simp) o q⟩
 item:=by
  intro X Z Y hK hc i N s σ H E I S st hg
  subst Z Y hK
  obtain⟨xs,x,T,j⟩:=hg
  obtain⟨its,rv,p,hz⟩:=I.list T
  obtain⟨u,hu,ru⟩:=rv.get j
  obtain⟨⟨g,t⟩,y⟩:=st
  obtain⟨f0,f1,f2,f3,f4,f5⟩:=S e (by simp)
  obtain⟨Q,g1,g2,g3,g4,g5⟩:=S f (by simp)
  refine wpAny_pyNext_enum_item t y p.isList (x:=u) (by simpa using hu) G λh₁ heo F ht₁ hz₁ hk₁=>?_
  refine⟨_,rfl,wpAny_letOwnedTupleGo_enum (s:={ s with heap:=h₁,toks:=s.toks+1 }) heo λA he₂ l=>?_⟩
  replace l:SameBut e h₁ A:=l
  have J:e<s.heap.objs.size:=lt_size t
  have D:H s.heap.objs.size=none:=I.hok.fresh (aak _)
  have ht₂:A.get? s.heap.objs.size=some { cls:=.type "tuple",data:=.seq #[.int i s.toks,u] }:=(l.2 _ (acu J)).trans ht₁
  have O:∀b o,b≠e->b≠f->s.heap.get? b=some o->A.get? b=some o:=λb o h1 h2 q=>(l.2 b h1).trans (hk₁ b o h1 h2 q)
  have lt:∀b o,s.heap.get? b=some o->b≠s.heap.objs.size:=λb o q=>aan (lt_size q)
  have B:∀b o,s.heap.get? b=some o->b∉[e,f]->∃R,A.get? b=some R:=λb o q j=>⟨o,O b o (λz=>j (by simp[z])) (λz=>j (by simp[z])) q⟩
  have U:Un (frs X.stack) [e,f] H (upd H s.heap.objs.size (.tup [.int i,x])) s.heap A :=
   ⟨λb o q _ _ j=>O b o (λz=>j (by simp[z])) (λz=>j (by simp[z])) q,λb o q _ _ j=>⟨o.slots,O b o (λz=>j (by simp[z])) (λz=>j (by simp[z])) q⟩,
    λb o q n _=>by rw[zN (lt b o q)];exact n,B,λb ys q=>by rw[zN (zL q D)];exact q,λb o ys q=>by rw[zN (zL q D)];exact q,λb ps q=>⟨#[],by rw[zN (zL q D),q];simp⟩⟩
  have ok:eZ X.prog X.w (upd H s.heap.objs.size (.tup [.int i,x])) A:=λb o q=>by
   by_cases r:b=s.heap.objs.size
   ·subst r
    rw[zJ] at q
    cases q
    exact⟨by show 2<=sizeLine;decide,[.int i s.toks,u],.cons ⟨_,rfl⟩ (.cons ru .nil),⟨_,ht₂,rfl,_,rfl⟩⟩
   ·rw[zN r] at q
    refine(I.hok b o q).stay (λc v C z=>?_) (λc z=>by rw[zN (zL z D)];exact z) λc ys z=>by rw[zN (zL z D)];exact z
    have hcs:∃R,H c=some R:=by
     rcases C with rfl|C
     ·exact⟨o,q⟩
     ·exact⟨_,C⟩
    obtain⟨R,L⟩:=hcs
    exact O c v (zL L f0) (zL L Q) z
  have I2:=I.call (h':=A) (g':=s.gens) (t':=s.toks+1) (d':=s.drawn) (ch:=[e,f]) U ok I.bare λb r=>by
   have m:b=e\/b=f:=by simpa using r
   rcases m with rfl|rfl
   ·exact⟨f3,f1,f4,f5⟩
   ·exact⟨g3,g1,g4,g5⟩
  refine⟨.ref s.heap.objs.size,_,I2,rfl,⟨s.heap.objs.size,x,rfl,D,rfl,λys hy=>by rw[I.fJ hy T];exact j⟩,⟨⟨_,by rw[show((i+1:Nat):Int)=(i:Int)+1 by push_cast;rfl];exact he₂⟩,F.extBut l.extBut G.symm⟩,λb r=>?_⟩
  have m:b=e\/b=f:=by simpa using r
  obtain⟨o2,ho2,_⟩:=y
  rcases m with rfl|rfl
  ·rw[zN (aan J)];exact f0
  ·rw[zN (aan (lt_size ho2))];exact Q
 done:=by
  intro X Z Y hK hc i N s σ H E I S st hg
  subst Z Y hK
  obtain⟨xs,T,j⟩:=hg
  obtain⟨its,rv,p,hz⟩:=I.list T
  obtain⟨⟨g,t⟩,y⟩:=st
  obtain⟨Q,g1,g2,g3,g4,g5⟩:=S f (by simp)
  have hl:=rv.length
  exact wpAny_pyNext_enum_end (I.ok.hd hc) t y p.isList (by simp;omega) λh' eb=>⟨rfl,I.turned (t':=s.toks) (λb o r e=>eb b o r e) Q g1 g3 g4 g5⟩
 self:=λ_ _ _ _ _ st h=>let⟨⟨_,t⟩,_⟩:=st;wpAny_pyIter_enum t h
def uw(K:Frag)(d:TA):TI:=λσ H R=>d σ H λc b=>∃a,c=[.ref a]/\(∃e,aN K b a e)/\R (Ite K a) b
theorem jW:bootBuiltins "enumerate" = some (.type "enumerate"):=by decide +kernel
theorem zPw(hg:Gl X "enumerate")(hm:X.mg "enumerate" = none)(ha:PA X [a] ta)(hs:starEach [a] X.env=[(false,eval a X.env)]:=by rfl) :
  PI X (.Tuple elts k tp) (.Call (.Name "enumerate" p) [a] [] pos) (uw X.K ta):=by
 intro pins s σ H R I h
 refine Call_ (tX I hg hm jW (aa5 (aO (ha pos pins s σ H _ I h) λus s1 ⟨vs,H1,I1,r1,q1⟩=>?_) hs rfl))
 obtain⟨l,e,⟨xs,hq⟩,q⟩:=q1
 subst e
 cases r1 with
 |cons r rr =>
  cases rr
  cases r
  obtain⟨its,rv,p,hz⟩:=I1.list hq
  refine call_enumerate_list p.isList λh' hE hI hsz hk=>wpAny_pyIter_enum hE ?_
  have I2:Inv X pins σ H1 { s1 with heap:=h',toks:=s1.toks }:=I1.kept hk
  refine⟨s1.heap.objs.size+1,[s1.heap.objs.size+1,s1.heap.objs.size],_,_,H1,rfl,I2,zO5 l _ _ (Nat.succ_ne_self _),⟨⟨.none,hE⟩,hI⟩,λb hb=>?_,q⟩
  have hb':b=s1.heap.objs.size+1\/b=s1.heap.objs.size:=by simpa using hb
  rcases hb' with rfl|rfl
  ·exact I1.jw (abw _) (I1.hok.fresh (abw _))
  ·exact I1.jw (aak _) (I1.hok.fresh (aak _))
theorem zUh{K:Frag}{a:Addr}{xs:List V}{g:TG}{j:TS}{D:Ends}{σ:St}{H:Hp}(b:Nat->St->Hp->Prop)(h0:b 0 σ H)(n:∀i σ H,i<=xs.length->b i σ H->aN K H a xs)(hs:∀i x t σ H,xs[i]?=some x->H t=none->b i σ H->g (.ref t) σ (upd H t (.tup [.int i,x])) λd c=>j { D with nx:=b (i+1),ct:=b (i+1),bk:=D.nx } d c)(k:∀σ H,b xs.length σ H->D.nx σ H) :
  ∃W:Nat->Nat->St->Hp->Prop,(∃m,W 0 m σ H)/\∀i m σ H,W i m σ H ->
   ((Ite K a).stop i H/\D.nx σ H)\/((Ite K a).go i H/\∃N:St->Hp->Prop,(∀h H',N h H'->∃m',m'<m/\W (i+1) m' h H')/\∀x H',(Ite K a).Mp i H x H'->g x σ H' λd c=>j { D with nx:=N,ct:=N,bk:=D.nx } d c):=by
 refine⟨λi m σ H=>m=xs.length-i/\i<=xs.length/\b i σ H,⟨xs.length,by simp,aa0 _,h0⟩,?_⟩
 rintro i m σ H ⟨rfl,l,p⟩
 have q:=n i σ H l p
 by_cases f:i<xs.length
 ·refine .inr ⟨⟨xs,xs[i],q,by grind⟩,b (i+1),λh H' o=>⟨xs.length-(i+1),by omega,rfl,f,o⟩,λx H' y=>?_⟩
  obtain⟨t,x',rfl,ht,rfl,y⟩:=y
  grind
 ·have e:i=xs.length:=by omega
  subst e
  exact .inl ⟨⟨xs,q,aak _⟩,k σ H p⟩
def WQ(a:Str)(te:TE):TE:=λσ H Q=>te σ H λx b=>(∃i,x=.int i/\i.natAbs.log2<1920/\Q (.str (a++adi (toString i))) b)\/∃z,x=.str z/\z.length<=1000/\Q (.str (a++z)) b
theorem zEr(x y:Str):(x++y).length=x.length+y.length:=by rw[<-strLen_append]
theorem ux{a:Str}(y:PE X e te)(w:a.length<=1000):PE X (.JoinedStr [.Constant (.str a) j p1,.FormattedValue e (-1) none p2] pos) (WQ a te):=by
 intro d s σ H Q I h
 refine JoinedStr_many (joinParts_cons (Calls.Constant_str ?_))
 have m:(ada++a)=a:=by
  cases a with
  |mk c=>show Str.mk _=_;simp[ada]
 refine⟨by rw[m];exact aas w (by decide),?_⟩
 rw[m]
 have v:=I.tok (s.toks+1)
 refine joinParts_cons (FormattedValue_plain (aO (y d _ σ H _ v h) ?_))
 rintro u n ⟨x,g,k,l,p⟩
 rcases p with⟨i,rfl,f,q⟩|⟨z,rfl,o,q⟩
 ·obtain⟨t,rfl⟩:=l
  refine formatField_int_small f ?_
  have b:(a++adi (toString i)).length<=sizeLine:=by
   have:=int_text_len_1921 f
   rw[zEr]
   exact aas (show a.length+(adi (toString i)).length<=4000 by omega) (by decide)
  refine⟨b,joinParts_nil ?_ b⟩
  exact⟨.str (a++adi (toString i)),g,(k.tok (n.toks+1+1)).tok _,⟨_,rfl⟩,q⟩
 ·obtain⟨t,rfl⟩:=l
  have b:(a++z).length<=sizeLine:=by
   rw[zEr]
   exact aas (show a.length+z.length<=4000 by omega) (by decide)
  refine formatField_str (λt' r=>?_) (aas o (by decide))
  refine⟨b,joinParts_nil ?_ b⟩
  exact⟨.str (a++z),g,(k.tok r).tok _,⟨_,rfl⟩,q⟩
def Bb(K:Frag)(c:Value):List V->Hp->VK->Prop:=λd H Q=>∃x y t b,d=[x,y]/\RelV y c/\iQ K H x t/\kitOne K t c=some b/\Q (.bl b) H
theorem zU2(i:∀y u,RelV y c->RelV y u->u=c):qU X (.builtin "isinstance") (Bb X.K c):=by
 intro pins s σ H xs us Q I r h
 obtain⟨x,y,t,b,rfl,a,d,e,q⟩:=h
 obtain⟨u,v,rfl,g,f⟩:=r.two
 obtain rfl:=i y v a f
 exact zQu I g d e λj=>⟨.bl b,H,I.tok j,rfl,q⟩
theorem PB:∀y u,RelV y (.type n)->RelV y u->u=.type n:=λy u h1 h2=>by
 cases y<;>first
  | (cases h1;done)
  | (obtain⟨_,e⟩:=h1;cases e;done)
  | (cases h1;cases h2;rfl)
theorem vX:∀y u,RelV y (.ref a)->RelV y u->u=.ref a:=λy u h1 h2=>by
 cases y<;>first
  | (cases h1;done)
  | (obtain⟨_,e⟩:=h1;cases e;done)
  | (cases h1;cases h2;rfl)
def WR(t:TS):TS:=λD σ H=>∃I:St->Hp->Prop,t { D with nx:=I } σ H/\∀b c,I b c->D.nx b c
theorem IW{X:Cx}{st:Stmt}{t:TS}(h:PS X st t):PS X st (WR t):=by
 intro a s σ H D I i
 obtain⟨J,d,j⟩:=i
 refine aO (h a s σ H _ I d) λf s' q=>?_
 cases f with
 |next=>obtain⟨g,b,c,e⟩:=q;exact⟨g,b,c,j _ _ e⟩
 |brk=>exact q
 |cont=>exact q
 |ret u=>exact q
theorem zL6{σ:St}{A B:St->Hp->Prop}(h:A (σ.set i (some x)) H):vR i x σ H (λa d=>rO a d λb c=>if b=true then A a c else B a c):=by
 show if true=true then A (σ.set i (some x)) H else B (σ.set i (some x)) H
 grind
theorem WT{X:Cx}{K:Frag}(h:X.K=K){es:List Expr}{k:Nat}{t:Mj}{n:Nat}{pos:Pos}(d:X.calm=true)(c:Ou X es t)(b:(assignEach es X.env).length=n:=by rfl)(a:(assignEach es X.env).findIdx? (·.1)=none:=by rfl):PG X (.Tuple es k pos) (Ab K n t):=by
 subst h
 exact Fj d c b a
end L2
namespace Ts
open PySem L2
theorem au(h:H p=none)(o:HO):Same H (upd H p o):=λb u q=>by rw[zN (zL q h)];exact q
theorem _root_.L2.Same.put(s:Same H H')(h:H p=none)(o:HO):Same H (upd H' p o):=λb u q=>by rw[zN (zL q h)];exact s b u q
def A2{α β:Type}(R:α->β->Prop):List α->List β->Prop
 |[],[]=>True
 |x::b,y::a=>R x y/\A2 R b a
 |_,_=>False
section
variable{α β:Type}{R R':α->β->Prop}
theorem A2.len:∀{xs:List α}{ys:List β},A2 R xs ys->xs.length=ys.length
 |[],[],_=>rfl
 |_::_,_::_,h=>congrArg (· + 1) (A2.len h.2)
 |[],_::_,h=>h.elim
 |_::_,[],h=>h.elim
theorem A2.imp(f:∀x y,R x y->R' x y):∀{xs:List α}{ys:List β},A2 R xs ys->A2 R' xs ys
 |[],[],_=>trivial
 |_::_,_::_,h=>⟨f _ _ h.1,A2.imp f h.2⟩
 |[],_::_,h=>h.elim
 |_::_,[],h=>h.elim
theorem A2.app:∀{xs:List α}{ys:List β}{b:List α}{a:List β},A2 R xs ys->A2 R b a->A2 R (xs++b) (ys++a)
 |[],[],_,_,_,h=>h
 |_::_,_::_,_,_,h,c=>⟨h.1,A2.app h.2 c⟩
 |[],_::_,_,_,h,_=>h.elim
 |_::_,[],_,_,h,_=>h.elim
theorem A2.snoc(h:A2 R xs ys)(r:R x y):A2 R (xs++[x]) (ys++[y]):=h.app ⟨r,trivial⟩
theorem A2.at1:∀{xs:List α}{ys:List β}{i:Nat}{x:α},A2 R xs ys->xs[i]?=some x->∃y,ys[i]?=some y/\R x y
 |[],_,_,_,_,e=>by simp at e
 |_::_,_::_,0,_,h,e=>by simp at e;subst e;exact⟨_,rfl,h.1⟩
 |_::_,_::_,i+1,_,h,e=>by
  obtain⟨y,h1,h2⟩:=A2.at1 (i:=i) h.2 (by simpa using e)
  exact⟨y,by simpa using h1,h2⟩
 |_::_,[],_,_,h,_=>h.elim
theorem A2.at2:∀{xs:List α}{ys:List β}{i:Nat}{y:β},A2 R xs ys->ys[i]?=some y->∃x,xs[i]?=some x/\R x y
 |_,[],_,_,_,e=>by simp at e
 |_::_,_::_,0,_,h,e=>by simp at e;subst e;exact⟨_,rfl,h.1⟩
 |_::_,_::_,i+1,_,h,e=>by
  obtain⟨y,h1,h2⟩:=A2.at2 (i:=i) h.2 (by simpa using e)
  exact⟨y,by simpa using h1,h2⟩
 |[],_::_,_,_,h,_=>h.elim
theorem A2.set(r:R x y):∀{xs:List α}{ys:List β}(i:Nat),A2 R xs ys->A2 R (xs.set i x) (ys.set i y)
 |[],[],_,_=>trivial
 |_::_,_::_,0,h=>⟨r,h.2⟩
 |_::_,_::_,i+1,h=>⟨h.1,A2.set r i h.2⟩
 |[],_::_,_,h=>h.elim
 |_::_,[],_,h=>h.elim
theorem A2.rev:∀{xs:List α}{ys:List β},A2 R xs ys->A2 R xs.reverse ys.reverse
 |[],[],_=>trivial
 |_::_,_::_,h=>by
  rw[reverse_cons,reverse_cons]
  exact(A2.rev h.2).snoc h.1
 |[],_::_,h=>h.elim
 |_::_,[],h=>h.elim
theorem A2.tk:∀{xs:List α}{ys:List β}(i:Nat),A2 R xs ys->A2 R (xs.take i) (ys.take i)
 |[],[],_,_=>by simp[A2]
 |_::_,_::_,0,h=>trivial
 |_::_,_::_,i+1,h=>⟨h.1,A2.tk i h.2⟩
 |[],_::_,_,h=>h.elim
 |_::_,[],_,h=>h.elim
theorem A2.dr:∀{xs:List α}{ys:List β}(i:Nat),A2 R xs ys->A2 R (xs.drop i) (ys.drop i)
 |[],[],_,_=>by simp[A2]
 |_::_,_::_,0,h=>h
 |_::_,_::_,i+1,h=>A2.dr i h.2
 |[],_::_,_,h=>h.elim
 |_::_,[],_,h=>h.elim
theorem A2.of_map{f:β->α}(h:∀y,R (f y) y):∀ys:List β,A2 R (ys.map f) ys
 |[]=>trivial
 |y::ys=>⟨h y,A2.of_map h ys⟩
end
theorem A2.jx{α β:Type}{f:β->α}:∀{xs:List α}{ys:List β},A2 (λx y=>x=f y) xs ys->xs=ys.map f
 |[],[],_=>rfl
 |_::_,_::_,h=>by rw[map_cons,h.1,A2.jx h.2]
 |[],_::_,h=>h.elim
 |_::_,[],h=>h.elim
class Rp (K:Frag) (α:Type) where
 rp:Hp->V->α->Prop
 mono:∀{F F':Hp}{v:V}{a:α},Same F F'->rp F v a->rp F' v a
abbrev rp(K:Frag){α:Type}[Rp K α]:Hp->V->α->Prop:=Rp.rp (K:=K)
class Nn (K:Frag) (α:Type) [Rp K α]:Prop where
 nn:∀{F:Hp}{v:V}{a:α},rp K F v a->v≠.non
class Sc (K:Frag) (α:Type) [Rp K α] where
 val:α->V
 is:∀{F:Hp}{v:V}{a:α},rp K F v a↔v=val a
 inj:∀{a b:α},val a=val b->a=b
section
variable{K:Frag}
instance:Rp K Int:=⟨λ_ v n=>v=.int n,λ_ h=>h⟩
instance:Rp K Bool:=⟨λ_ v n=>v=.bl n,λ_ h=>h⟩
instance:Rp K Str:=⟨λ_ v n=>v=.str n,λ_ h=>h⟩
instance:Rp K Unit:=⟨λ_ v _=>v=.non,λ_ h=>h⟩
instance{α:Type}[Rp K α]:Rp K (Option α):=⟨λF v a=>match a with
 |none=>v=.non
 |some x=>v≠.non/\rp K F v x,λ{F F' v a} s h=>match a,h with
 |none,h=>h
 |some x,h=>⟨h.1,Rp.mono s h.2⟩⟩
instance{α:Type}[Rp K α]:Rp K (List α):=⟨λF v xs=>∃p vs,v=.ref p/\F p=some (.lst vs)/\A2 (rp K F) vs xs,λs ⟨p,vs,h1,h2,h3⟩=>⟨p,vs,h1,s _ _ h2,h3.imp λ_ _=>Rp.mono s⟩⟩
instance{α β:Type}[Rp K α][Rp K β]:Rp K (α×β):=⟨λF v x=>∃p a b,v=.ref p/\F p=some (.tup [a,b])/\rp K F a x.1/\rp K F b x.2,λs ⟨p,a,b,h1,h2,h3,h4⟩=>⟨p,a,b,h1,s _ _ h2,Rp.mono s h3,Rp.mono s h4⟩⟩
structure I8 where
 ns:LI
instance:Rp K I8:=⟨λF v x=>∃p,v=.ref p/\aN K F p (x.ns.map V.int),λs ⟨p,h1,h2⟩=>⟨p,h1,s.seq h2⟩⟩
instance:Nn K Int:=⟨λh=>by cases h;intro e;cases e⟩
instance{α:Type}[Rp K α]:Nn K (List α):=⟨λ⟨_,_,h,_⟩=>by rw[h];intro e;cases e⟩
instance:Sc K Int:=⟨V.int,aeu,λh=>by cases h;rfl⟩
instance:Sc K Bool:=⟨V.bl,aeu,λh=>by cases h;rfl⟩
instance:Sc K Str:=⟨V.str,aeu,λh=>by cases h;rfl⟩
instance{α:Type}[Rp K α][Sc K α][Nn K α]:Sc K (Option α):=⟨λa=>match a with
 |none=>.non
 |some x=>Sc.val K x,λ{F v a}=>match a with
 |none=>aeu
 |some x=>⟨λh=>Sc.is.mp h.2,λh=>⟨Nn.nn (K:=K) (F:=F) (a:=x) (Sc.is.mpr h),Sc.is.mpr h⟩⟩,λ{a b} h=>match a,b,h with
 |none,none,_=>rfl
 |some x,some y,h=>by rw[Sc.inj (K:=K) (a:=x) (b:=y) h]
 |none,some y,h=>absurd h.symm (Nn.nn (K:=K) (F:=λ_=>none) (a:=y) (Sc.is.mpr rfl))
 |some x,none,h=>absurd h (Nn.nn (K:=K) (F:=λ_=>none) (a:=x) (Sc.is.mpr rfl))⟩
theorem uy{α:Type}[Rp K α][Sc K α]{a:α}(h:rp K F v a):rp K F' v a:=Sc.is.mpr (Sc.is.mp h)
inductive Md|nw|fz|hp
def dif(H a:Hp):Hp:=λb=>match a b with
 |none=>H b
 |some _=>none
def ext(c a H:Hp):Hp:=λb=>match a b with
 |none=>H b
 |some _=>c b
structure Bs where
 Fa:Hp
 H0:Hp
abbrev Own:=List (Addr×HO)
class Ob (K:Frag) (α:Type) where
 β:Type
 qy:Rp K β
 ro:Hp->V->α->Own->Prop
 mono:∀{F F':Hp}{v:V}{a:α}{O:Own},Same F F'->ro F v a O->ro F' v a O
 val:α->β
 mQ:∀{F:Hp}{v:V}{a:α}{O:Own},ro F v a O->(∀x∈O,F x.1=some x.2)->Rp.rp (K:=K) F v (val a)
def reg(B:Bs)(F H:Hp):Md->Hp
 |.nw=>dif F B.H0
 |.fz=>F
 |.hp=>H
theorem aK:Same (dif H H0) H:=λb o h=>by
 unfold dif at h
 grind
theorem yR(h:a b=none):dif H a b=H b:=by
 unfold dif
 rw[h]
theorem yO(s:Same H H'):Same (dif H a) (dif H' a):=λb o h=>by
 unfold dif at h ⊢
 cases e:a b with
 |none=>rw[e] at h;exact s b o h
 |some u=>grind
structure Ok(B:Bs)(F:Hp)(O:Own)(H:Hp):Prop where
 fh:Same F H
 h0:Same B.H0 H
 fa:∀b o,F b=some o->B.Fa b=some o\/B.H0 b=none
 fo:∀x∈O,F x.1=none/\B.H0 x.1=none/\H x.1=some x.2
 nd:(O.map (·.1)).Nodup
structure aX(B:Bs)(F H:Hp)(O:Own)(F' H':Hp):Prop where
 ff:Same F F'
 hh:Same H H'
 ok:Ok B F' O H'
 nw:∀b,F b=none->H b≠none->F' b=none
section
variable{B:Bs}{F H F' H' F2 H2:Hp}{O:Own}
theorem aX.refl(k:Ok B F O H):aX B F H O F H:=⟨.refl _,.refl _,k,λ_ h _=>h⟩
theorem aX.trans(a:aX B F H O F' H')(b:aX B F' H' O F2 H2):aX B F H O F2 H2 :=
 ⟨a.ff.trans b.ff,a.hh.trans b.hh,b.ok,λq d c=>b.nw q (a.nw q d c) λe=>c (a.hh.free e)⟩
theorem aX.new(k:Ok B F O H)(h:H p=none)(o:HO):aX B F H O (upd F p o) (upd H p o):=by
 have j:=k.fh.free h
 refine⟨au j o,au h o,⟨λb u e=>?_,k.h0.put (k.h0.free h) o,λb u e=>?_,λx f=>?_,k.nd⟩,λb d i=>?_⟩
 ·by_cases q:b=p
  ·subst q;rw[zJ] at e ⊢;exact e
  ·rw[zN q] at e ⊢;exact k.fh b u e
 ·by_cases q:b=p
  ·subst q;exact .inr (k.h0.free h)
  ·rw[zN q] at e;exact k.fa b u e
 ·obtain⟨c,g,a⟩:=k.fo x f
  have q:=zL a h
  exact⟨by rw[zN q];exact c,g,by rw[zN q];exact a⟩
 ·rw[zN λe=>i (by grind)];exact d
theorem xG(g:aX B F H O F' H')(md:Md):Same (reg B F H md) (reg B F' H' md):=match md with
 |.nw=>yO g.ff
 |.fz=>g.ff
 |.hp=>g.hh
end
inductive Slot(K:Frag):Type 1
 |un
 |fz (n:Bool) {α:Type} [Rp K α] (a:α)
 |hs {α:Type} [Rp K α] (a:α)
 |nu {α:Type} [Rp K α] (a:α)
 |ow (n:Bool) {α:Type} [Rp K α] (xs:List α)
 |od {α:Type} [Rp K α] (kvs:List (Key×α))
 |ob (n:Bool) {α:Type} [Ob K α] (a:α)
abbrev SL(K:Frag):=List (Slot K)
abbrev cJ:Bool->Md
 |true=>.nw
 |false=>.fz
def lo(F:Hp)(O:Own)(H:Hp):Hp:=λb=>if(F b).isSome||(O.any λx=>x.1==b) then none else H b
inductive ak(B:Bs)(F L H:Hp):SL K->St->Own->Prop
 |nil:ak B F L H [] [] []
 |un {sl:SL K} {σ:St} {O:Own} {x:Option V}:ak B F L H sl σ O->ak B F L H (.un::sl) (x::σ) O
 |fz {n:Bool} {α:Type} [Rp K α] {a:α} {sl:SL K} {σ:St} {O:Own} {v:V}:rp K (reg B F H (cJ n)) v a->ak B F L H sl σ O->ak B F L H (.fz n a::sl) (some v::σ) O
 |hs {α:Type} [Rp K α] {a:α} {sl:SL K} {σ:St} {O:Own} {v:V}:rp K H v a->ak B F L H sl σ O->ak B F L H (.hs a::sl) (some v::σ) O
 |nu {α:Type} [Rp K α] {a:α} {sl:SL K} {σ:St} {O:Own} {v:V}:rp K (dif L B.H0) v a->ak B F L H sl σ O->ak B F L H (.nu a::sl) (some v::σ) O
 |ow {n:Bool} {α:Type} [Rp K α] {xs:List α} {sl:SL K} {σ:St} {O:Own} {p:Addr} {vs:List V}:A2 (rp K (reg B F H (cJ n))) vs xs->ak B F L H sl σ O->ak B F L H (.ow n xs::sl) (some (.ref p)::σ) ((p,.lst vs)::O)
 |od {α:Type} [Rp K α] {kvs:List (Key×α)} {sl:SL K} {σ:St} {O:Own} {p:Addr} {ks:List (Key×V)}:A2 (λ(x:Key×V) (y:Key×α)=>x.1=y.1/\rp K F x.2 y.2) ks kvs->ak B F L H sl σ O->ak B F L H (.od kvs::sl) (some (.ref p)::σ) ((p,.dK ks)::O)
 |ob {n:Bool} {α:Type} [Ob K α] {a:α} {sl:SL K} {σ:St} {O Oc:Own} {v:V}:Ob.ro K (reg B F H (cJ n)) v a Oc->ak B F L H sl σ O->ak B F L H (.ob n a::sl) (some v::σ) (Oc++O)
def At(B:Bs)(a:SL K)(F:Hp)(O:Own)(H:Hp)(σ:St):Prop:=Ok B F O H/\ak B F (lo F O H) H a σ O
abbrev dz:Slot K->Bool
 |@Slot.ow _ _ _ _ _=>true
 |@Slot.od _ _ _ _=>true
 |@Slot.ob _ _ _ _ _=>true
 |_=>false
abbrev bU:Slot K->Bool
 |@Slot.hs _ _ _ _=>true
 |_=>false
section
variable{B:Bs}{F H F' H' L L':Hp}{O O':Own}{sl:SL K}{σ:St}
theorem yI(n:Bool)(a:Same F F'):Same (reg B F H (cJ n)) (reg B F' H' (cJ n)):=match n with
 |true=>yO a
 |false=>a
theorem ak.mono(a:Same F F')(c:Same L L')(b:Same H H')(h:ak B F L H sl σ O):ak B F' L' H' sl σ O:=by
 induction h with
 |nil=>exact .nil
 |un _ ih=>exact .un ih
 |fz r _ ih=>exact .fz (Rp.mono (yI _ a) r) ih
 |hs r _ ih=>exact .hs (Rp.mono b r) ih
 |nu r _ ih=>exact .nu (Rp.mono (yO c) r) ih
 |ow r _ ih=>exact .ow (r.imp λ_ _=>Rp.mono (yI _ a)) ih
 |od r _ ih=>exact .od (r.imp λ_ _ z=>⟨z.1,Rp.mono a z.2⟩) ih
 |ob r _ ih=>exact .ob (Ob.mono (yI _ a) r) ih
theorem ak.mut(a:Same L L')(h:ak B F L H sl σ O)(hn:sl.all (λs=>!bU s)=true):ak B F L' H' sl σ O:=by
 induction h with
 |nil=>exact .nil
 |un _ ih=>exact .un (ih (by grind))
 |fz r _ ih=>exact .fz (Rp.mono (yI _ (.refl _)) r) (ih (by grind))
 |hs r _ ih=>grind
 |nu r _ ih=>exact .nu (Rp.mono (yO a) r) (ih (by grind))
 |ow r _ ih=>exact .ow (r.imp λ_ _=>Rp.mono (yI _ (.refl _))) (ih (by grind))
 |od r _ ih=>exact .od r (ih (by grind))
 |ob r _ ih=>exact .ob (Ob.mono (yI _ (.refl _)) r) (ih (by grind))
theorem WW(g:aX B F H O F' H'):Same (lo F O H) (lo F' O H'):=λb o h=>by
 unfold lo at h ⊢
 cases e:(F b).isSome||(O.any λx=>x.1==b) with
 |true=>grind
 |false =>
  rw[e] at h
  have a:H b=some o:=h
  rw[Bool.or_eq_false_iff] at e
  have c:F' b=none:=g.nw b (by cases q:F b with|none=>rfl|some u=>grind) (by grind)
  rw[c,e.2]
  exact g.hh b o a
theorem At.grow(h:At B sl F O H σ)(g:aX B F H O F' H'):At B sl F' O H' σ:=⟨g.ok,h.2.mono g.ff (WW g) g.hh⟩
theorem ak.len(h:ak B F L H sl σ O):σ.length=sl.length:=by
 induction h with
 |nil=>rfl
 |un _ ih=>grind
 |fz _ _ ih=>grind
 |hs _ _ ih=>grind
 |nu _ _ ih=>grind
 |ow _ _ ih=>grind
 |od _ _ ih=>grind
 |ob _ _ ih=>grind
theorem ak.oY{α:Type}[Rp K α]{a:α}(h:ak B F L H sl σ O):∀{i:Nat},sl[i]?=some (.fz n a)->∃v,σ[i]?=some (some v)/\rp K (reg B F H (cJ n)) v a:=by
 induction h with
 |nil=>intro i e;simp at e
 |fz r _ ih =>
  intro i e
  cases i with
  |zero=>simp only[getElem?_cons_zero] at e;cases e;exact⟨_,rfl,r⟩
  |succ i=>exact ih (by simpa using e)
 |_ =>
  rename_i ih
  intro i e
  cases i with
  |zero=>simp only[getElem?_cons_zero] at e;cases e
  |succ i=>exact ih (by simpa using e)
theorem ak.PJ{α:Type}[Rp K α]{a:α}(h:ak B F L H sl σ O):∀{i:Nat},sl[i]?=some (.hs a)->∃v,σ[i]?=some (some v)/\rp K H v a:=by
 induction h with
 |nil=>intro i e;simp at e
 |hs r _ ih =>
  intro i e
  cases i with
  |zero=>simp only[getElem?_cons_zero] at e;cases e;exact⟨_,rfl,r⟩
  |succ i=>exact ih (by simpa using e)
 |_ =>
  rename_i ih
  intro i e
  cases i with
  |zero=>simp only[getElem?_cons_zero] at e;cases e
  |succ i=>exact ih (by simpa using e)
theorem ak.uz{α:Type}[Rp K α]{a:α}(h:ak B F L H sl σ O):∀{i:Nat},sl[i]?=some (.nu a)->∃v,σ[i]?=some (some v)/\rp K (dif L B.H0) v a:=by
 induction h with
 |nil=>intro i e;simp at e
 |nu r _ ih =>
  intro i e
  cases i with
  |zero=>simp only[getElem?_cons_zero] at e;cases e;exact⟨_,rfl,r⟩
  |succ i=>exact ih (by simpa using e)
 |_ =>
  rename_i ih
  intro i e
  cases i with
  |zero=>simp only[getElem?_cons_zero] at e;cases e
  |succ i=>exact ih (by simpa using e)
theorem ak.put(h:ak B F L H sl σ O)(a:∀(sl:SL K) (σ:St) (O:Own),ak B F L H sl σ O->ak B F L H (s'::sl) (x::σ) O):∀{i:Nat},sl[i]?=some s->dz s=false->ak B F L H (sl.set i s') (σ.set i x) O:=by
 induction h with
 |nil=>intro i e;simp at e
 |un g ih =>
  intro i e o
  cases i with
  |zero=>exact a _ _ _ g
  |succ i=>exact .un (ih (by simpa using e) o)
 |fz r g ih =>
  intro i e o
  cases i with
  |zero=>exact a _ _ _ g
  |succ i=>exact .fz r (ih (by simpa using e) o)
 |hs r g ih =>
  intro i e o
  cases i with
  |zero=>exact a _ _ _ g
  |succ i=>exact .hs r (ih (by simpa using e) o)
 |nu r g ih =>
  intro i e o
  cases i with
  |zero=>exact a _ _ _ g
  |succ i=>exact .nu r (ih (by simpa using e) o)
 |ow r g ih =>
  intro i e o
  cases i with
  |zero=>grind
  |succ i=>exact .ow r (ih (by simpa using e) o)
 |od r g ih =>
  intro i e o
  cases i with
  |zero=>simp only[getElem?_cons_zero] at e;cases e;cases o
  |succ i=>exact .od r (ih (by simpa using e) o)
 |ob r g ih =>
  intro i e o
  cases i with
  |zero=>simp only[getElem?_cons_zero] at e;cases e;cases o
  |succ i=>exact .ob r (ih (by simpa using e) o)
theorem ak.own(h:ak B F L H sl σ O)(b:∀(sl:SL K) (σ:St) (O:Own),ak B F L H sl σ O->ak B F L H (s'::sl) (x::σ) (c::O)) :
  ∀{i:Nat},sl[i]?=some s->dz s=false->∃O1 O2,O=O1++O2/\ak B F L H (sl.set i s') (σ.set i x) (O1++c::O2):=by
 induction h with
 |nil=>intro i e;simp at e
 |un g ih =>
  intro i e o
  cases i with
  |zero=>exact⟨[],_,rfl,b _ _ _ g⟩
  |succ i=>obtain⟨O1,O2,q,z⟩:=ih (by simpa using e) o;exact⟨O1,O2,q,.un z⟩
 |fz r g ih =>
  intro i e o
  cases i with
  |zero=>exact⟨[],_,rfl,b _ _ _ g⟩
  |succ i=>obtain⟨O1,O2,q,z⟩:=ih (by simpa using e) o;exact⟨O1,O2,q,.fz r z⟩
 |hs r g ih =>
  intro i e o
  cases i with
  |zero=>exact⟨[],_,rfl,b _ _ _ g⟩
  |succ i=>obtain⟨O1,O2,q,z⟩:=ih (by simpa using e) o;exact⟨O1,O2,q,.hs r z⟩
 |nu r g ih =>
  intro i e o
  cases i with
  |zero=>exact⟨[],_,rfl,b _ _ _ g⟩
  |succ i=>obtain⟨O1,O2,q,z⟩:=ih (by simpa using e) o;exact⟨O1,O2,q,.nu r z⟩
 |ow r g ih =>
  intro i e o
  cases i with
  |zero=>simp only[getElem?_cons_zero] at e;cases e;cases o
  |succ i=>obtain⟨O1,O2,q,z⟩:=ih (by simpa using e) o;exact⟨_::O1,O2,by rw[q]<;>rfl,.ow r z⟩
 |od r g ih =>
  intro i e o
  cases i with
  |zero=>simp only[getElem?_cons_zero] at e;cases e;cases o
  |succ i=>obtain⟨O1,O2,q,z⟩:=ih (by simpa using e) o;exact⟨_::O1,O2,by rw[q]<;>rfl,.od r z⟩
 |@ob _ _ _ _ _ _ _ d _ r g ih =>
  intro i e o
  cases i with
  |zero=>simp only[getElem?_cons_zero] at e;cases e;cases o
  |succ i =>
   obtain⟨O1,O2,q,z⟩:=ih (by simpa using e) o
   refine⟨d++O1,O2,by rw[q,append_assoc],?_⟩
   rw[append_assoc]
   exact .ob r z
theorem ak.oZ{α:Type}[Rp K α]{xs:List α}(h:ak B F L H sl σ O):∀{i:Nat},sl[i]?=some (.ow n xs) ->
  ∃O1 O2 p vs,O=O1++(p,.lst vs)::O2/\σ[i]?=some (some (.ref p))/\A2 (rp K (reg B F H (cJ n))) vs xs /\
   (∀(s':Slot K)(x:Option V)(c:Addr×HO),(∀(sl:SL K)(σ:St)(O:Own),ak B F L H sl σ O->ak B F L H (s'::sl) (x::σ) (c::O))->ak B F L H (sl.set i s') (σ.set i x) (O1++c::O2)) /\
   (∀(s':Slot K)(x:Option V),(∀(sl:SL K)(σ:St)(O:Own),ak B F L H sl σ O->ak B F L H (s'::sl) (x::σ) O)->ak B F L H (sl.set i s') (σ.set i x) (O1++O2)):=by
 induction h with
 |nil=>intro i e;simp at e
 |un g ih =>
  intro i e
  cases i with
  |zero=>simp only[getElem?_cons_zero] at e;cases e
  |succ i=>obtain⟨O1,O2,p,vs,q,f,b,j,d⟩:=ih (by simpa using e);exact⟨O1,O2,p,vs,q,f,b,λs' x c z=>.un (j s' x c z),λs' x z=>.un (d s' x z)⟩
 |fz r g ih =>
  intro i e
  cases i with
  |zero=>simp only[getElem?_cons_zero] at e;cases e
  |succ i=>obtain⟨O1,O2,p,vs,q,f,b,j,d⟩:=ih (by simpa using e);exact⟨O1,O2,p,vs,q,f,b,λs' x c z=>.fz r (j s' x c z),λs' x z=>.fz r (d s' x z)⟩
 |hs r g ih =>
  intro i e
  cases i with
  |zero=>simp only[getElem?_cons_zero] at e;cases e
  |succ i=>obtain⟨O1,O2,p,vs,q,f,b,j,d⟩:=ih (by simpa using e);exact⟨O1,O2,p,vs,q,f,b,λs' x c z=>.hs r (j s' x c z),λs' x z=>.hs r (d s' x z)⟩
 |nu r g ih =>
  intro i e
  cases i with
  |zero=>simp only[getElem?_cons_zero] at e;cases e
  |succ i=>obtain⟨O1,O2,p,vs,q,f,b,j,d⟩:=ih (by simpa using e);exact⟨O1,O2,p,vs,q,f,b,λs' x c z=>.nu r (j s' x c z),λs' x z=>.nu r (d s' x z)⟩
 |ow r g ih =>
  intro i e
  cases i with
  |zero=>simp only[getElem?_cons_zero] at e;cases e;exact⟨[],_,_,_,rfl,rfl,r,λs' x c z=>z _ _ _ g,λs' x z=>z _ _ _ g⟩
  |succ i=>obtain⟨O1,O2,p,vs,q,f,b,j,d⟩:=ih (by simpa using e);exact⟨_::O1,O2,p,vs,by rw[q]<;>rfl,f,b,λs' x c z=>.ow r (j s' x c z),λs' x z=>.ow r (d s' x z)⟩
 |od r g ih =>
  intro i e
  cases i with
  |zero=>simp only[getElem?_cons_zero] at e;cases e
  |succ i=>obtain⟨O1,O2,p,vs,q,f,b,j,d⟩:=ih (by simpa using e);exact⟨_::O1,O2,p,vs,by rw[q]<;>rfl,f,b,λs' x c z=>.od r (j s' x c z),λs' x z=>.od r (d s' x z)⟩
 |@ob _ _ _ _ _ _ _ k _ r g ih =>
  intro i e
  cases i with
  |zero=>simp only[getElem?_cons_zero] at e;cases e
  |succ i =>
   obtain⟨O1,O2,p,vs,q,f,b,j,d⟩:=ih (by simpa using e)
   refine⟨k++O1,O2,p,vs,by rw[q,append_assoc],f,b,λs' x c z=>?_,λs' x z=>?_⟩
   ·rw[append_assoc];exact .ob r (j s' x c z)
   ·rw[append_assoc];exact .ob r (d s' x z)
theorem ak.FW{α:Type}[Rp K α]{kvs:List (Key×α)}(h:ak B F L H sl σ O):∀{i:Nat},sl[i]?=some (.od kvs) ->
  ∃O1 O2 p ks,O=O1++(p,.dK ks)::O2/\σ[i]?=some (some (.ref p))/\A2 (λ(x:Key×V) (y:Key×α)=>x.1=y.1/\rp K F x.2 y.2) ks kvs /\
   (∀(s':Slot K)(x:Option V)(c:Addr×HO),(∀(sl:SL K)(σ:St)(O:Own),ak B F L H sl σ O->ak B F L H (s'::sl) (x::σ) (c::O))->ak B F L H (sl.set i s') (σ.set i x) (O1++c::O2)) /\
   (∀(s':Slot K)(x:Option V),(∀(sl:SL K)(σ:St)(O:Own),ak B F L H sl σ O->ak B F L H (s'::sl) (x::σ) O)->ak B F L H (sl.set i s') (σ.set i x) (O1++O2)):=by
 induction h with
 |nil=>intro i e;simp at e
 |un g ih =>
  intro i e
  cases i with
  |zero=>simp only[getElem?_cons_zero] at e;cases e
  |succ i=>obtain⟨O1,O2,p,f,q,d,a,j,b⟩:=ih (by simpa using e);exact⟨O1,O2,p,f,q,d,a,λs' x c z=>.un (j s' x c z),λs' x z=>.un (b s' x z)⟩
 |fz r g ih =>
  intro i e
  cases i with
  |zero=>simp only[getElem?_cons_zero] at e;cases e
  |succ i=>obtain⟨O1,O2,p,f,q,d,a,j,b⟩:=ih (by simpa using e);exact⟨O1,O2,p,f,q,d,a,λs' x c z=>.fz r (j s' x c z),λs' x z=>.fz r (b s' x z)⟩
 |hs r g ih =>
  intro i e
  cases i with
  |zero=>simp only[getElem?_cons_zero] at e;cases e
  |succ i=>obtain⟨O1,O2,p,f,q,d,a,j,b⟩:=ih (by simpa using e);exact⟨O1,O2,p,f,q,d,a,λs' x c z=>.hs r (j s' x c z),λs' x z=>.hs r (b s' x z)⟩
 |nu r g ih =>
  intro i e
  cases i with
  |zero=>simp only[getElem?_cons_zero] at e;cases e
  |succ i=>obtain⟨O1,O2,p,f,q,d,a,j,b⟩:=ih (by simpa using e);exact⟨O1,O2,p,f,q,d,a,λs' x c z=>.nu r (j s' x c z),λs' x z=>.nu r (b s' x z)⟩
 |od r g ih =>
  intro i e
  cases i with
  |zero=>simp only[getElem?_cons_zero] at e;cases e;exact⟨[],_,_,_,rfl,rfl,r,λs' x c z=>z _ _ _ g,λs' x z=>z _ _ _ g⟩
  |succ i=>obtain⟨O1,O2,p,f,q,d,a,j,b⟩:=ih (by simpa using e);exact⟨_::O1,O2,p,f,by rw[q]<;>rfl,d,a,λs' x c z=>.od r (j s' x c z),λs' x z=>.od r (b s' x z)⟩
 |ow r g ih =>
  intro i e
  cases i with
  |zero=>simp only[getElem?_cons_zero] at e;cases e
  |succ i=>obtain⟨O1,O2,p,f,q,d,a,j,b⟩:=ih (by simpa using e);exact⟨_::O1,O2,p,f,by rw[q]<;>rfl,d,a,λs' x c z=>.ow r (j s' x c z),λs' x z=>.ow r (b s' x z)⟩
 |@ob _ _ _ _ _ _ _ k _ r g ih =>
  intro i e
  cases i with
  |zero=>simp only[getElem?_cons_zero] at e;cases e
  |succ i =>
   obtain⟨O1,O2,p,f,q,d,a,j,b⟩:=ih (by simpa using e)
   refine⟨k++O1,O2,p,f,by rw[q,append_assoc],d,a,λs' x c z=>?_,λs' x z=>?_⟩
   ·rw[append_assoc];exact .ob r (j s' x c z)
   ·rw[append_assoc];exact .ob r (b s' x z)
theorem ak.mU{α:Type}[Ob K α]{a:α}(h:ak B F L H sl σ O):∀{i:Nat},sl[i]?=some (.ob n a) ->
  ∃O1 Oc O2 v,O=O1++(Oc++O2)/\σ[i]?=some (some v)/\Ob.ro K (reg B F H (cJ n)) v a Oc /\
   (∀(s':Slot K)(x:Option V)(c:Own),(∀(sl:SL K)(σ:St)(O:Own),ak B F L H sl σ O->ak B F L H (s'::sl) (x::σ) (c++O))->ak B F L H (sl.set i s') (σ.set i x) (O1++(c++O2))):=by
 induction h with
 |nil=>intro i e;simp at e
 |un g ih =>
  intro i e
  cases i with
  |zero=>simp only[getElem?_cons_zero] at e;cases e
  |succ i=>obtain⟨O1,Oc,O2,v,q,d,f,b⟩:=ih (by simpa using e);exact⟨O1,Oc,O2,v,q,d,f,λs' x c z=>.un (b s' x c z)⟩
 |fz r g ih =>
  intro i e
  cases i with
  |zero=>simp only[getElem?_cons_zero] at e;cases e
  |succ i=>obtain⟨O1,Oc,O2,v,q,d,f,b⟩:=ih (by simpa using e);exact⟨O1,Oc,O2,v,q,d,f,λs' x c z=>.fz r (b s' x c z)⟩
 |hs r g ih =>
  intro i e
  cases i with
  |zero=>simp only[getElem?_cons_zero] at e;cases e
  |succ i=>obtain⟨O1,Oc,O2,v,q,d,f,b⟩:=ih (by simpa using e);exact⟨O1,Oc,O2,v,q,d,f,λs' x c z=>.hs r (b s' x c z)⟩
 |nu r g ih =>
  intro i e
  cases i with
  |zero=>simp only[getElem?_cons_zero] at e;cases e
  |succ i=>obtain⟨O1,Oc,O2,v,q,d,f,b⟩:=ih (by simpa using e);exact⟨O1,Oc,O2,v,q,d,f,λs' x c z=>.nu r (b s' x c z)⟩
 |ow r g ih =>
  intro i e
  cases i with
  |zero=>simp only[getElem?_cons_zero] at e;cases e
  |succ i=>obtain⟨O1,Oc,O2,v,q,d,f,b⟩:=ih (by simpa using e);exact⟨_::O1,Oc,O2,v,by rw[q]<;>rfl,d,f,λs' x c z=>.ow r (b s' x c z)⟩
 |od r g ih =>
  intro i e
  cases i with
  |zero=>simp only[getElem?_cons_zero] at e;cases e
  |succ i=>obtain⟨O1,Oc,O2,v,q,d,f,b⟩:=ih (by simpa using e);exact⟨_::O1,Oc,O2,v,by rw[q]<;>rfl,d,f,λs' x c z=>.od r (b s' x c z)⟩
 |@ob _ _ _ _ _ _ _ Oc _ r g ih =>
  intro i e
  cases i with
  |zero=>simp only[getElem?_cons_zero] at e;cases e;exact⟨[],Oc,_,_,rfl,rfl,r,λs' x c z=>z _ _ _ g⟩
  |succ i =>
   obtain⟨O1,j,O2,v,q,d,f,b⟩:=ih (by simpa using e)
   refine⟨Oc++O1,j,O2,v,by rw[q,append_assoc],d,f,λs' x c z=>?_⟩
   rw[append_assoc];exact .ob r (b s' x c z)
end
end
section
variable{K:Frag}{B:Bs}{F H F' H' L L':Hp}{O O' O1 O2:Own}{sl:SL K}{σ:St}{p:Addr}{o o':HO}
theorem I9{α:Type}{a b:List α}{x:α}:(a++x::b).Nodup↔(a++b).Nodup/\x∉a++b:=by
 grind
theorem Ok.add(k:Ok B F (O1++O2) H)(h:H p=none):Ok B F (O1++(p,o)::O2) (upd H p o):=by
 refine⟨λb u e=>?_,k.h0.put (k.h0.free h) o,k.fa,λx hx=>?_,?_⟩
 ·rw[zN (zL (k.fh b u e) h)];exact k.fh b u e
 ·have hx':x=(p,o)\/x∈O1++O2:=by
   grind
  rcases hx' with rfl|hx'
  ·exact⟨k.fh.free h,k.h0.free h,zJ⟩
  ·obtain⟨a1,a2,a3⟩:=k.fo x hx'
   exact⟨a1,a2,by rw[zN (zL a3 h)];exact a3⟩
 ·rw[map_append,map_cons,I9,<-map_append]
  refine⟨k.nd,λz=>?_⟩
  obtain⟨x,hx,e⟩:=mem_map.mp z
  obtain⟨_,_,a3⟩:=k.fo x hx
  grind
theorem Ok.one(k:Ok B F (O1++(p,o)::O2) H):F p=none/\B.H0 p=none/\H p=some o:=k.fo (p,o) (mem_append.mpr (.inr mem_cons_self))
theorem Ok.ndp(k:Ok B F (O1++(p,o)::O2) H):∀x∈O1++O2,x.1≠p:=λx hx e=>by
 have q:=k.nd
 grind
theorem Ok.drop(k:Ok B F (O1++(p,o)::O2) H):Ok B F (O1++O2) H:=by
 refine⟨k.fh,k.h0,k.fa,λx hx=>k.fo x ?_,?_⟩
 ·grind
 ·have q:=k.nd
  grind
theorem Ok.chg(k:Ok B F (O1++(p,o)::O2) H)(o':HO):Ok B F (O1++(p,o')::O2) (upd H p o'):=by
 obtain⟨a1,a2,a3⟩:=k.one
 refine⟨k.fh.put a1 o',k.h0.put a2 o',k.fa,λx hx=>?_,?_⟩
 ·have hx':x=(p,o')\/x∈O1++O2:=by
   grind
  rcases hx' with rfl|hx'
  ·exact⟨a1,a2,zJ⟩
  ·obtain⟨b1,b2,b3⟩:=k.drop.fo x hx'
   exact⟨b1,b2,by rw[zN (k.ndp x hx')];exact b3⟩
 ·have q:=k.nd
  grind
theorem Ok.freeze(k:Ok B F (O1++(p,o)::O2) H):Ok B (upd F p o) (O1++O2) H:=by
 obtain⟨a1,a2,a3⟩:=k.one
 refine⟨λb u e=>?_,k.h0,λb u e=>?_,λx hx=>?_,k.drop.nd⟩
 ·by_cases q:b=p
  ·subst q;rw[zJ] at e;grind
  ·rw[zN q] at e;exact k.fh b u e
 ·by_cases q:b=p
  ·grind
  ·rw[zN q] at e;exact k.fa b u e
 ·obtain⟨b1,b2,b3⟩:=k.drop.fo x hx
  exact⟨by rw[zN (k.ndp x hx)];exact b1,b2,b3⟩
theorem WX(h:H p=none):Same (lo F (O1++O2) H) (lo F (O1++(p,o)::O2) (upd H p o)):=λb u e=>by
 unfold lo at e ⊢
 by_cases q:b=p
 ·grind
 ·rw[zN q]
  grind
theorem zV1:Same (lo F (O1++(p,o)::O2) H) (lo F (O1++(p,o')::O2) (upd H p o')):=λb u e=>by
 unfold lo at e ⊢
 by_cases q:b=p
 ·grind
 ·rw[zN q]
  grind
theorem j4:Same (lo F (O1++(p,o)::O2) H) (lo F (O1++O2) H):=λb u e=>by
 unfold lo at e ⊢
 grind
theorem jy:Same (lo F (O1++(p,o)::O2) H) (lo (upd F p o) (O1++O2) H):=λb u e=>by
 unfold lo at e ⊢
 split at e
 ·cases e
 ·rename_i h
  rw[List.any_append,any_cons] at h
  simp at h
  have q:b≠p:=λz=>h.2.2.1 z.symm
  rw[zN q,if_neg]
  ·exact e
  ·rw[List.any_append]
   simp
   exact⟨h.1,h.2.1,h.2.2.2⟩
theorem Ok.called(k:Ok B F O H)(s:Same H H'):aX B F H O (ext F H H') H':=by
 have e1:∀b o,ext F H H' b=some o->F b=some o\/H b=none:=λb o h=>by
  unfold ext at h
  grind
 refine⟨λb o h=>?_,s,⟨λb o h=>?_,k.h0.trans s,λb o h=>?_,λx hx=>?_,k.nd⟩,λb h1 h2=>?_⟩
 ·unfold ext
  rw[k.fh b o h]
  exact h
 ·unfold ext at h
  cases q:H b with
  |none=>grind
  |some u=>rw[q] at h;rw[<-k.fh b o h];exact(s b u q).trans q.symm
 ·rcases e1 b o h with z|z
  ·exact k.fa b o z
  ·exact .inr (k.h0.free z)
 ·obtain⟨a1,a2,a3⟩:=k.fo x hx
  refine⟨?_,a2,s _ _ a3⟩
  unfold ext
  grind
 ·unfold ext
  grind
theorem I_(h0:Same B.H0 H)(s:Same H H'):Same (dif H' H) (dif (ext F H H') B.H0):=λb o h=>by
 unfold dif at h
 cases q:H b with
 |none =>
  rw[yR (h0.free q)]
  unfold ext
  grind
 |some u=>grind
theorem zUk(s:Same H H'):Same (ext H H H') H':=λb o h=>by
 unfold ext at h
 cases q:H b with
 |none=>grind
 |some u=>rw[q] at h;cases(h);exact s b _ q
theorem Ja(h0:Same B.H0 H):Same (ext (dif F B.H0) H H') (dif (ext F H H') B.H0):=λb o h=>by
 unfold ext at h
 cases q:H b with
 |none =>
  rw[yR (h0.free q)]
  unfold ext
  grind
 |some u =>
  have z:B.H0 b=none:=by
   cases z:B.H0 b with
   |none=>rfl
   |some w =>
    unfold dif at h
    grind
  rw[yR z] at h ⊢
  unfold ext
  grind
variable{md md1 md2:Md}{α β γ:Type}[Rp K α][Rp K β][Rp K γ]{t t1 t2:TE}{m:Option α}{m1:Option β}{m2:Option γ}
noncomputable def Ex(B:Bs)(sl:SL K)(md:Md)(t:TE){α:Type}[Rp K α](m:Option α):Prop :=
 ∀a,m=some a->∀(F:Hp)(O:Own)(H:Hp)(σ:St)(Q:VK),At B sl F O H σ->(∀(v:V)(F' H':Hp),aX B F H O F' H'->rp K (reg B F' H' md) v a->Q v H')->t σ H Q
noncomputable def Et(B:Bs)(sl:SL K)(t:TT)(m:Option Bool):Prop :=
 ∀a,m=some a->∀(F:Hp)(O:Own)(H:Hp)(σ:St)(Q:Bool->Hp->Prop),At B sl F O H σ->(∀(F' H':Hp),aX B F H O F' H'->Q a H')->t σ H Q
inductive Ar(R:Hp):SL K->List V->Prop
 |nil:Ar R [] []
 |cons {n:Bool} {α:Type} [Rp K α] {a:α} {v:V} {sl:SL K} {vs:List V}:rp K R v a->Ar R sl vs->Ar R (.fz n a::sl) (v::vs)
noncomputable def Ea(B:Bs)(sl:SL K)(md:Md)(t:TA){A:Type}(as:A->SL K)(m:Option A):Prop :=
 ∀a,m=some a->∀(F:Hp)(O:Own)(H:Hp)(σ:St)(Q:List V->Hp->Prop),At B sl F O H σ->(∀(vs:List V)(F' H':Hp),aX B F H O F' H'->Ar (reg B F' H' md) (as a) vs->Q vs H')->t σ H Q
theorem Ex.sc[Sc K α](h:Ex B sl md t m):Ex B sl md1 t m:=λa ha F O H σ Q s k=>h a ha F O H σ Q s λv F' H' g r=>k v F' H' g (uy r)
theorem Ex.up(h:Ex B sl .nw t m):Ex B sl .fz t m:=λa ha F O H σ Q s k=>h a ha F O H σ Q s λv F' H' g r=>k v F' H' g (Rp.mono aK r)
theorem WY[Nn K α](h:Ex B sl md t m):Ex B sl md t (m.bind λa=>some (some a)):=λa ha F O H σ Q s k=>by
 cases m with
 |none=>cases ha
 |some a' =>
  cases(ha)
  exact h a' rfl F O H σ Q s λv F' H' g r=>k v F' H' g ⟨Nn.nn r,r⟩
theorem yM{n:Bool}{a:α}(i:Nat)(hs:sl[i]?=some (.fz n a)):Ex B sl (cJ n) (aZ i) (some a):=λa' ha F O H σ Q s k=>by
 cases ha
 obtain⟨v,h1,h2⟩:=s.2.oY hs
 exact⟨v,h1,k v F H (.refl s.1) h2⟩
theorem zI[Sc K α]{n:Bool}{a:α}(i:Nat)(hs:sl[i]?=some (.fz n a)):Ex B sl md (aZ i) (some a):=(yM i hs).sc
theorem lo_le:Same (lo F O H) H:=λb o h=>by
 unfold lo at h
 grind
theorem rP(k:Ok B F O H)(n:Bool):Same (reg B F H (cJ n)) H:=match n with
 |true=>aK.trans k.fh
 |false=>k.fh
theorem zE{n:Bool}{a:α}(i:Nat)(hs:sl[i]?=some (.fz n a)):Ex B sl .hp (aZ i) (some a):=λa' ha F O H σ Q s k=>by
 cases ha
 obtain⟨v,h1,h2⟩:=s.2.oY hs
 exact⟨v,h1,k v F H (.refl s.1) (Rp.mono (rP s.1 n) h2)⟩
theorem vK{n:Bool}{xs:List α}(i:Nat)(hs:sl[i]?=some (.ow n xs)):Ex B sl .hp (aZ i) (some xs):=λa' ha F O H σ Q s k=>by
 cases ha
 obtain⟨O1,O2,p,vs,rfl,h1,h2,_⟩:=s.2.oZ hs
 exact⟨_,h1,k _ F H (.refl s.1) ⟨p,vs,rfl,s.1.one.2.2,h2.imp λ_ _=>Rp.mono (rP s.1 n)⟩⟩
theorem Jb[Sc K α](a:α):Ex B sl md (tC (Sc.val K a)) (some a):=λa' ha F O H σ Q s k=>by cases ha;exact k _ F H (.refl s.1) (Sc.is.mpr rfl)
theorem zR(i:Int):Ex B sl md (tC (.int i)) (some i):=Jb i
theorem FZ(i:Bool):Ex B sl md (tC (.bl i)) (some i):=Jb i
theorem yu(i:Str):Ex B sl md (tC (.str i)) (some i):=Jb i
theorem MF:Ex B sl md (tC .non) (some (none:Option α)):=λa' ha F O H σ Q s k=>by cases ha;exact k _ F H (.refl s.1) rfl
theorem nQ{f:β->γ->Option α}(h:(m1.bind λa=>m2.bind λb=>f a b)=some c):∃a b,m1=some a/\m2=some b/\f a b=some c:=by
 cases m1 with
 |none=>cases h
 |some a =>
  cases m2 with
  |none=>cases h
  |some b=>grind
theorem Bc{f:β->γ->Option α}[Sc K α](hr:∀(a:β) (b:γ) (c:α) (v w:V) (H:Hp) (Q:VK),f a b=some c->rp K H v a->rp K H w b->Q (Sc.val K c) H->r v w H Q)(h1:Ex B sl .hp t1 m1)(h2:Ex B sl .hp t2 m2):Ex B sl md (gF r t1 t2) (m1.bind λa=>m2.bind λb=>f a b):=λc hc F O H σ Q s k=>by
 obtain⟨a,b,ha,hb,hf⟩:=nQ hc
 refine h1 a ha F O H σ _ s λv F' H' g r1=>?_
 refine h2 b hb F' O H' σ _ (s.grow g) λw F2 H2 g2 r2=>?_
 exact hr a b c v w H2 Q hf (Rp.mono g2.hh r1) r2 (k _ F2 H2 (g.trans g2) (Sc.is.mpr rfl))
theorem xL(h:Ex B sl md t m'):Et B sl (TF t) m':=λc hc F O H σ Q s k=>h c hc F O H σ _ s λv F' H' g r=>⟨c,r,k F' H' g⟩
theorem cI(h:Ex B sl md t m'):Et B sl (tB t) m':=λc hc F O H σ Q s k=>h c hc F O H σ _ s λv F' H' g r=>⟨c,r,k F' H' g⟩
theorem PK{t:TT}{n:Option Bool}(h:Et B sl t n):Et B sl (Oq t) (n.bind λc=>some !c):=λc hc F O H σ Q s k=>by
 cases n with
 |none=>cases hc
 |some c' =>
  cases(hc)
  exact h c' rfl F O H σ _ s λF' H' g=>k F' H' g
theorem Jc(h:Ex B sl .hp t n):Ex B sl md (Fi t) (n.bind λc=>some !c):=λc hc F O H σ Q s k=>by
 cases n with
 |none=>cases hc
 |some c' =>
  cases(hc)
  refine h c' rfl F O H σ _ s λv F' H' g r=>?_
  cases r
  exact⟨c',rfl,k _ F' H' g rfl⟩
theorem zV6{t u:TT}{n n':Option Bool}(h:Et B sl t n)(h':Et B sl u n'):Et B sl (Oo t u) (n.bind λc=>if c=true then n' else some false):=λc hc F O H σ Q s k=>by
 cases n with
 |none=>cases hc
 |some c' =>
  refine h c' rfl F O H σ _ s λF' H' g=>?_
  cases c' with
  |true=>exact iT (h' c (by simpa using hc) F' O H' σ _ (s.grow g) λF2 H2 g2=>k F2 H2 (g.trans g2))
  |false=>cases(show some false=some c from by simpa using hc);exact j9 (k F' H' g)
theorem PL{t u:TT}{n n':Option Bool}(h:Et B sl t n)(h':Et B sl u n'):Et B sl (V2 t u) (n.bind λc=>if c=true then some true else n'):=λc hc F O H σ Q s k=>by
 cases n with
 |none=>cases hc
 |some c' =>
  refine h c' rfl F O H σ _ s λF' H' g=>?_
  cases c' with
  |true=>cases(show some true=some c from by simpa using hc);exact iT (k F' H' g)
  |false=>exact j9 (h' c (by simpa using hc) F' O H' σ _ (s.grow g) λF2 H2 g2=>k F2 H2 (g.trans g2))
theorem W0(h:Ex B sl .hp t1 n)(h':Ex B sl .hp t2 n'):Ex B sl md (Fg t1 t2) (n.bind λc=>if c=true then n' else some false):=λc hc F O H σ Q s k=>by
 cases n with
 |none=>cases hc
 |some c' =>
  refine h c' rfl F O H σ _ s λv F' H' g r=>?_
  cases r
  refine⟨c',rfl,?_⟩
  cases c' with
  |true=>exact iT (h' c (by simpa using hc) F' O H' σ _ (s.grow g) λv F2 H2 g2 r2=>k v F2 H2 (g.trans g2) (uy r2))
  |false=>cases(show some false=some c from by simpa using hc);exact j9 (k _ F' H' g rfl)
theorem zV4{t:TT}{n:Option Bool}{m m':Option α}(h:Et B sl t n)(h1:Ex B sl md t1 m)(h2:Ex B sl md t2 m'):Ex B sl md (Zo t t1 t2) (n.bind λc=>if c=true then m else m'):=λc hc F O H σ Q s k=>by
 cases n with
 |none=>cases hc
 |some c' =>
  refine h c' rfl F O H σ _ s λF' H' g=>?_
  cases c' with
  |true=>exact iT (h1 c (by simpa using hc) F' O H' σ _ (s.grow g) λv F2 H2 g2 r2=>k v F2 H2 (g.trans g2) r2)
  |false=>exact j9 (h2 c (by simpa using hc) F' O H' σ _ (s.grow g) λv F2 H2 g2 r2=>k v F2 H2 (g.trans g2) r2)
theorem zO:Ea B sl md aU (λ_:Unit=>[]) (some ()):=λa ha F O H σ Q s k=>k [] F H (.refl s.1) .nil
theorem zF{A:Type}{as:A->SL K}{ma:Option A}(h1:Ex B sl md t m)(h2:Ea B sl md tr as ma):Ea B sl md (yK t tr) (λx:α×A=>.fz false x.1::as x.2) (m.bind λa=>ma.bind λb=>some (a,b)):=λc hc F O H σ Q s k=>by
 cases m with
 |none=>cases hc
 |some a =>
  cases ma with
  |none=>cases hc
  |some b =>
   cases(show some (a,b)=some c from hc)
   refine h1 a rfl F O H σ _ s λv F' H' g r1=>?_
   refine h2 b rfl F' O H' σ _ (s.grow g) λvs F2 H2 g2 r2=>?_
   exact k (v::vs) F2 H2 (g.trans g2) (.cons (Rp.mono (xG g2 md) r1) r2)
theorem Jd(k:Ok B F O H)(h:H p=none)(md:Md):reg B (upd F p o) (upd H p o) md p=some o:=match md with
 |.nw=>by show dif (upd F p o) B.H0 p=_;rw[yR (k.h0.free h)];exact zJ
 |.fz=>zJ
 |.hp=>zJ
def cap:Nat:=100000
theorem rQ(h:n<cap):n<sizeLine:=ad4 h (by decide)
theorem Je(h:n<=cap):n<=sizeLine:=aas h (by decide)
noncomputable def El(B:Bs)(sl:SL K)(md:Md)(t:TA){α:Type}[Rp K α](m:Option (List α)):Prop :=
 ∀a,m=some a->∀(F:Hp)(O:Own)(H:Hp)(σ:St)(Q:List V->Hp->Prop),At B sl F O H σ->(∀(vs:List V)(F' H':Hp),aX B F H O F' H'->A2 (rp K (reg B F' H' md)) vs a->Q vs H')->t σ H Q
theorem yw:El B sl md aU (some ([]:List α)):=λa ha F O H σ Q s k=>by cases ha;exact k [] F H (.refl s.1) trivial
theorem xM(h1:Ex B sl md t m)(h2:El B sl md tr ma):El B sl md (yK t tr) (m.bind λa=>ma.bind λb=>some (a::b)):=λc hc F O H σ Q s k=>by
 cases m with
 |none=>cases hc
 |some a =>
  cases ma with
  |none=>cases hc
  |some b =>
   cases(show some (a::b)=some c from hc)
   refine h1 a rfl F O H σ _ s λv F' H' g r1=>?_
   refine h2 b rfl F' O H' σ _ (s.grow g) λvs F2 H2 g2 r2=>?_
   exact k (v::vs) F2 H2 (g.trans g2) ⟨Rp.mono (xG g2 md) r1,r2⟩
noncomputable def Eo(B:Bs)(sl:SL K)(md:Md)(t:TE){α:Type}[Rp K α](m:Option (List α)):Prop :=
 ∀a,m=some a->∀(F:Hp)(O:Own)(H:Hp)(σ:St)(Q:VK),At B sl F O H σ->(∀(p:Addr)(vs:List V)(F' H':Hp),aX B F H O F' H'->H' p=none->A2 (rp K (reg B F' H' md)) vs a->Q (.ref p) (upd H' p (.lst vs)))->t σ H Q
theorem Eo.ex{m:Option (List α)}(h:Eo B sl md t m):Ex B sl md t m:=λa ha F O H σ Q s k=>h a ha F O H σ Q s λp vs F' H' g hp r=>by
 have g2:=aX.new g.ok hp (.lst vs)
 exact k _ _ _ (g.trans g2) ⟨p,vs,rfl,Jd g.ok hp md,r.imp λ_ _=>Rp.mono (xG g2 md)⟩
theorem qX:Eo B sl md (uc aU) (some ([]:List α)):=λa ha F O H σ Q s k=>by
 cases ha
 exact⟨aa0 _,λp hp=>k p [] F H (.refl s.1) hp trivial⟩
theorem yx{t:TA}{ma:Option (List α)}(h:El B sl md t ma)(hl:∀a,ma=some a->a.length<=cap):Eo B sl md (uc t) ma:=λa ha F O H σ Q s k =>
 h a ha F O H σ _ s λvs F' H' g r=>⟨by rw[r.len];exact Je (hl a ha),λp hp=>k p vs F' H' g hp r⟩
theorem W2(h1:Ex B sl md t1 m1)(h2:Ex B sl md t2 m2):Ex B sl md (rG (yK t1 (yK t2 aU))) (m1.bind λa=>m2.bind λb=>some (a,b)):=λc hc F O H σ Q s kk=>by
 obtain⟨a,b,ha,hb,hf⟩:=nQ hc
 cases hf
 refine h1 a ha F O H σ _ s λv F' H' g r1=>?_
 refine h2 b hb F' O H' σ _ (s.grow g) λw F2 H2 g2 r2=>?_
 refine⟨by show 2<=sizeLine;decide,λp hp=>?_⟩
 have g3:=aX.new g2.ok hp (.tup [v,w])
 exact kk _ _ _ (g.trans (g2.trans g3)) ⟨p,v,w,rfl,Jd g2.ok hp md,Rp.mono (xG (g2.trans g3) md) r1,Rp.mono (xG g3 md) r2⟩
def b_(K:Frag)(al:Bool){A β:Type}[Rp K β](as:A->SL K)(f:A->Option β):Sp:=λvs H Q _ =>
 ∃a b Fa,Same Fa H/\f a=some b/\Ar Fa (as a) vs/\∀v H',Same H H'->rp K (if al=true then ext Fa H H' else dif H' H) v b->Q v H'
theorem zP{A:Type}{as:A->SL K}{f:A->Option β}{ma:Option A}(h:Ea B sl .hp ta as ma):Ex B sl md (rH (b_ K false as f) [] E0 ta) (ma.bind f):=λc hc F O H σ Q s kk=>by
 cases ma with
 |none=>cases hc
 |some a =>
  refine h a rfl F O H σ _ s λvs F' H' g r=>?_
  rw[append_nil]
  refine⟨a,c,H',.refl _,hc,r,λv H2 s2 r2=>?_⟩
  have g2:=g.ok.called s2
  refine kk v _ H2 (g.trans g2) ?_
  have r3:=Rp.mono (I_ (F:=F') g.ok.h0 s2) r2
  exact match md with
  |.nw=>r3
  |.fz=>Rp.mono aK r3
  |.hp=>Rp.mono (aK.trans g2.ok.fh) r3
theorem zMh{A:Type}{as:A->SL K}{f:A->Option β}{ma:Option A}(h:Ea B sl md ta as ma):Ex B sl md (rH (b_ K true as f) [] E0 ta) (ma.bind f):=λc hc F O H σ Q s kk=>by
 cases ma with
 |none=>cases hc
 |some a =>
  refine h a rfl F O H σ _ s λvs F' H' g r=>?_
  rw[append_nil]
  have hle:Same (reg B F' H' md) H':=match md with
   |.nw=>aK.trans g.ok.fh
   |.fz=>g.ok.fh
   |.hp=>.refl _
  refine⟨a,c,reg B F' H' md,hle,hc,r,λv H2 s2 r2=>?_⟩
  have g2:=g.ok.called s2
  refine kk v _ H2 (g.trans g2) ?_
  exact match md,r2 with
  |.nw,r2=>Rp.mono (Ja g.ok.h0) r2
  |.fz,r2=>r2
  |.hp,r2=>Rp.mono (zUk s2) r2
end
noncomputable def push{α:Type}(xs:List α)(a:α):Option (List α):=if xs.length<cap then some (xs++[a]) else none
noncomputable def setAt{α:Type}(xs:List α)(i:Int)(a:α):Option (List α):=(qW xs.length i).bind λj=>some (xs.set j a)
noncomputable def bW(n:Int):Option LI:=if -(2^62)<=n/\n<2^62 then some ((aax n.toNat).map acs) else none
def xN{S α:Type}(step:S->α->Option S):List α->S->Option S
 |[],s=>some s
 |x::b,s=>(step s x).bind λa=>xN step b a
inductive Out(S β:Type)|nx (s:S)|rt (b:β)
def uE{S α β:Type}(step:S->α->Option (Out S β)):List α->S->Option (Out S β)
 |[],s=>some (.nx s)
 |x::a,s=>(step s x).bind λo=>match o with
  |.nx c=>uE step a c
  |.rt b=>some (.rt b)
def Ga{S:Type}(c:S->Option Bool)(a:S->Option S):Nat->S->Option S
 |0,_=>none
 |k+1,s=>(c s).bind λb=>if b=true then(a s).bind λd=>Ga c a k d else some s
def wJ{α β:Type}(c:α->Option Bool)(f:α->Option β):List α->Option (List β)
 |[]=>some []
 |x::a=>(c x).bind λb=>if b=true then(f x).bind λy=>(wJ c f a).bind λd=>some (y::d) else wJ c f a
noncomputable def Out.els{S β:Type}(o:Out S β)(f:S->Option β):Option β:=match o with
 |.nx s=>f s
 |.rt b=>some b
noncomputable def Out.aO{S a β:Type}(o:Out S β)(f:S->Option (Out a β)):Option (Out a β):=match o with
 |.nx s=>f s
 |.rt b=>some (.rt b)
theorem W3{S α:Type}(step:S->α->Option S):∀(xs ys:List α)(s:S),xN step (xs++ys) s=(xN step xs s).bind λs'=>xN step ys s'
 |[],ys,s=>rfl
 |x::xs,ys,s=>by
  show(step s x).bind _=((step s x).bind _).bind _
  cases step s x with
  |none=>rfl
  |some s'=>exact W3 step xs ys s'
theorem zOa{S α:Type}{step:S->α->Option S}{xs:List α}{s g:S}(h:xN step xs s=some g){x:α}(j:xs[i]?=some x):∃a b,xN step (xs.take i) s=some a/\step a x=some b/\xN step (xs.take (i+1)) s=some b:=by
 have e:xs=xs.take (i+1)++xs.drop (i+1):=(take_append_drop _ _).symm
 have k:xs.take (i+1)=xs.take i++[x]:=by rw[take_add_one,j]<;>rfl
 rw[e,W3] at h
 cases q:xN step (xs.take (i+1)) s with
 |none=>rw[q] at h;cases h
 |some b =>
  have d:=q
  rw[k,W3] at d
  cases z:xN step (xs.take i) s with
  |none=>rw[z] at d;cases d
  |some a =>
   rw[z] at d
   have f:(step a x).bind (λl=>some l)=some b:=d
   refine⟨a,b,rfl,?_,rfl⟩
   cases w:step a x with
   |none=>rw[w] at f;cases f
   |some c=>rw[w] at f;exact f
section
variable{K:Frag}{B:Bs}{F H F' H' G:Hp}{O:Own}{sl sl2:SL K}{σ:St}{md:Md}{α β γ:Type}[Rp K α][Rp K β][Rp K γ]{t u v:TS}{te:TE}{m:Option α}{S S':Type}{al:Bool}
def Sg(B:Bs)(G:Hp)(sl:SL K)(σ:St)(H:Hp):Prop:=∃F O,Same G F/\At B sl F O H σ
def Rt(K:Frag){β:Type}[Rp K β](B:Bs)(al:Bool)(b:β)(v:V)(H':Hp):Prop:=Same B.H0 H'/\rp K (if al=true then ext B.Fa B.H0 H' else dif H' B.H0) v b
noncomputable def Sn(B:Bs)(sl:SL K)(t:TS){S:Type}(L:S->SL K)(m:Option S):Prop :=
 ∀a,m=some a->∀(G:Hp)(D:Ends)(σ:St)(H:Hp),Sg B G sl σ H->(∀b H',Sg B G (L a) b H'->D.nx b H')->t D σ H
noncomputable def SB(B:Bs)(sl:SL K)(t:TS)(al:Bool){β:Type}[Rp K β](m:Option β):Prop :=
 ∀b,m=some b->∀(G:Hp)(D:Ends)(σ:St)(H:Hp),Sg B G sl σ H->(∀v H',Rt K B al b v H'->D.rt v H')->t D σ H
def XE(B:Bs)(G:Hp)(al:Bool)(L:S->SL K)(D:Ends)(o:Out S β):Prop:=match o with
 |.nx s=>∀a H',Sg B G (L s) a H'->D.nx a H'
 |.rt b=>∀v H',Rt K B al b v H'->D.rt v H'
noncomputable def Sx(B:Bs)(sl:SL K)(t:TS)(al:Bool){S β:Type}[Rp K β](L:S->SL K)(m:Option (Out S β)):Prop :=
 ∀o,m=some o->∀(G:Hp)(D:Ends)(σ:St)(H:Hp),Sg B G sl σ H->XE B G al L D o->t D σ H
theorem SB.of(h:SB B sl t al m)(q:m=m'):SB B sl t al m':=q▸h
theorem Sn.of(h:Sn B sl t L m)(q:m=m'):Sn B sl t L m':=q▸h
inductive Le:SL K->SL K->Prop
 |nil:Le [] []
 |eq {s:Slot K} {a b:SL K}:Le a b->Le (s::a) (s::b)
 |un {s:Slot K} {a b:SL K}:Le a b->Le (s::a) (.un::b)
 |fr {n:Bool} {α:Type} [Rp K α] {xs:List α} {a b:SL K}:Le a b->Le (.ow n xs::a) (.fz n xs::b)
 |old {α:Type} [Rp K α] {x:α} {a b:SL K}:Le a b->Le (.fz true x::a) (.fz false x::b)
 |fo {n:Bool} {α:Type} [Ob K α] {x:α} {a b:SL K}:Le a b->Le (.ob n x::a) (@Slot.fz K n (Ob.β K α) (Ob.qy) (Ob.val x)::b)
theorem Ok.sub(k:Ok B F O H)(s:Sublist a O):Ok B F a H:=⟨k.fh,k.h0,k.fa,λx b=>k.fo x (s.subset b),(s.map _).nodup k.nd⟩
theorem zV0(s:Sublist a O):Same (lo F O H) (lo F a H):=λb u e=>by
 unfold lo at e ⊢
 grind
theorem Ok.qY:∀(Oc:Own){F:Hp}{O:Own},Ok B F (P++(Oc++O)) H->∃F2,Same F F2/\Ok B F2 (P++O) H/\Same (lo F (P++(Oc++O)) H) (lo F2 (P++O) H)/\∀x∈Oc,F2 x.1=some x.2/\B.H0 x.1=none
 |[],F,O,k=>⟨F,.refl _,k,.refl _,λx hx=>(by cases hx)⟩
 | (p,o)::Oc,F,O,k=>by
  obtain⟨a1,a2,a3⟩:=k.one
  have sf:Same F (upd F p o):=au a1 _
  obtain⟨F2,s2,k2,l2,m2⟩:=Ok.qY Oc (k.freeze)
  refine⟨F2,sf.trans s2,k2,jy.trans l2,λx hx=>?_⟩
  rcases mem_cons.mp hx with e|hx
  ·subst e;exact⟨s2 _ _ zJ,a2⟩
  ·exact m2 x hx
theorem ak.le(h:Le sl sl2):∀{F:Hp}{σ:St}{O:Own},Ok B F (P++O) H->ak B F (lo F (P++O) H) H sl σ O->∃F' f,Same F F'/\Ok B F' (P++f) H/\Same (lo F (P++O) H) (lo F' (P++f) H)/\ak B F' (lo F' (P++f) H) H sl2 σ f:=by
 induction h generalizing P with
 |nil=>intro F σ O k h;cases h;exact⟨F,[],.refl _,k,.refl _,.nil⟩
 |eq _ ih =>
  intro F σ O k h
  cases h with
  |un h=>obtain⟨F',f,a,b,c,d⟩:=ih k h;exact⟨F',f,a,b,c,.un d⟩
  |fz r h=>obtain⟨F',f,a,b,c,d⟩:=ih k h;exact⟨F',f,a,b,c,.fz (Rp.mono (yI _ a) r) d⟩
  |hs r h=>obtain⟨F',f,a,b,c,d⟩:=ih k h;exact⟨F',f,a,b,c,.hs r d⟩
  |nu r h=>obtain⟨F',f,a,b,c,d⟩:=ih k h;exact⟨F',f,a,b,c,.nu (Rp.mono (yO c) r) d⟩
  |@ow _ _ _ _ _ _ O p g r h =>
   have e:P++(p,HO.lst g)::O=(P++[(p,HO.lst g)])++O:=by simp
   rw[e] at k h
   obtain⟨F',f,a,b,c,d⟩:=ih k h
   have q:(P++[(p,HO.lst g)])++f=P++(p,HO.lst g)::f:=by simp
   rw[q] at b c d
   rw[<-e] at c
   exact⟨F',_::f,a,b,c,.ow (r.imp λ_ _=>Rp.mono (yI _ a)) d⟩
  |@od _ _ _ _ _ O p g r h =>
   have e:P++(p,HO.dK g)::O=(P++[(p,HO.dK g)])++O:=by simp
   rw[e] at k h
   obtain⟨F',f,a,b,c,d⟩:=ih k h
   have q:(P++[(p,HO.dK g)])++f=P++(p,HO.dK g)::f:=by simp
   rw[q] at b c d
   rw[<-e] at c
   exact⟨F',_::f,a,b,c,.od (r.imp λ_ _ z=>⟨z.1,Rp.mono a z.2⟩) d⟩
  |@ob _ _ _ _ _ _ O i v r h =>
   rw[<-append_assoc] at k h
   obtain⟨F',f,a,b,c,d⟩:=ih k h
   rw[append_assoc] at b c d
   rw[append_assoc] at c
   exact⟨F',i++f,a,b,c,.ob (Ob.mono (yI _ a) r) d⟩
 |un _ ih =>
  intro F σ O k h
  cases h with
  |un h=>obtain⟨F',f,a,b,c,d⟩:=ih k h;exact⟨F',f,a,b,c,.un d⟩
  |fz r h=>obtain⟨F',f,a,b,c,d⟩:=ih k h;exact⟨F',f,a,b,c,.un d⟩
  |hs r h=>obtain⟨F',f,a,b,c,d⟩:=ih k h;exact⟨F',f,a,b,c,.un d⟩
  |nu r h=>obtain⟨F',f,a,b,c,d⟩:=ih k h;exact⟨F',f,a,b,c,.un d⟩
  |ow r h=>obtain⟨F',f,a,b,c,d⟩:=ih k.drop (h.mono (.refl _) j4 (.refl _));exact⟨F',f,a,b,j4.trans c,.un d⟩
  |od r h=>obtain⟨F',f,a,b,c,d⟩:=ih k.drop (h.mono (.refl _) j4 (.refl _));exact⟨F',f,a,b,j4.trans c,.un d⟩
  |@ob _ _ _ _ _ _ O i v r h =>
   have l:Sublist (P++O) (P++(i++O)):=Sublist.append (Sublist.refl P) (List.sublist_append_right i O)
   obtain⟨F',f,a,b,c,d⟩:=ih (k.sub l) (h.mono (.refl _) (zV0 l) (.refl _))
   exact⟨F',f,a,b,(zV0 l).trans c,.un d⟩
 |@fr n _ _ _ _ _ _ ih =>
  intro F σ O k h
  cases h with
  |@ow _ _ _ _ _ _ O p g r h =>
   obtain⟨I,A,a3⟩:=k.one
   have j:Same F (upd F p (.lst g)):=au I _
   obtain⟨F',f,a,b,c,d⟩:=ih k.freeze (h.mono j jy (.refl _))
   refine⟨F',f,j.trans a,b,jy.trans c,.fz ⟨p,g,rfl,?_,r.imp λ_ _=>Rp.mono (yI _ (j.trans a))⟩ d⟩
   cases n with
   |true=>exact(yR A).trans (a _ _ zJ)
   |false=>exact a _ _ zJ
 |old _ ih =>
  intro F σ O k h
  cases h with
  |fz r h=>obtain⟨F',f,a,b,c,d⟩:=ih k h;exact⟨F',f,a,b,c,.fz (Rp.mono (aK.trans a) r) d⟩
 |@fo n _ _ _ _ _ _ ih =>
  intro F σ O k h
  cases h with
  |@ob _ _ _ _ _ _ O i v r h =>
   obtain⟨F2,o,y,s,C⟩:=Ok.qY i k
   obtain⟨F',f,a,b,c,d⟩:=ih y (h.mono o s (.refl _))
   refine⟨F',f,o.trans a,b,s.trans c,@ak.fz _ _ _ _ _ _ _ Ob.qy _ _ _ _ _ (Ob.mQ (Ob.mono (yI _ (o.trans a)) r) λx D=>?_) d⟩
   obtain⟨w,E⟩:=C x D
   cases n with
   |true=>exact(yR E).trans (a _ _ w)
   |false=>exact a _ _ w
theorem Sg.le(h:Sg B G sl σ H)(l:Le sl sl2):Sg B G sl2 σ H:=by
 obtain⟨F,O,g,k,s⟩:=h
 obtain⟨F',c,a,b,_,d⟩:=ak.le (P:=[]) l k s
 exact⟨F',c,g.trans a,b,d⟩
theorem Sg.grow(g:Same G F)(h:At B sl F a H σ)(b:aX B F H a F' H'):Sg B G sl σ H':=⟨F',a,g.trans b.ff,h.grow b⟩
theorem yD(L:S->SL K)(s:S)(h:Le sl (L s)):Sn B sl HN L (some s):=λa b G D σ H q k=>by cases b;exact k σ H (q.le h)
theorem zT{f:S->Option S'}(d:Sn B sl t L b)(h2:∀s,Sn B (L s) u L' (f s)):Sn B sl (dY t u) L' (b.bind f):=λa c G D σ H q k=>by
 cases b with
 |none=>cases c
 |some s=>exact d s rfl G _ σ H q λe H' g=>h2 s a c G D e H' g k
theorem zW{f:S->Option β}(d:Sn B sl t L b)(h2:∀s,SB B (L s) u al (f s)):SB B sl (dY t u) al (b.bind f):=λa c G D σ H q k=>by
 cases b with
 |none=>cases c
 |some s=>exact d s rfl G _ σ H q λe H' g=>h2 s a c G D e H' g k
theorem PN{f:S->Option (Out S' β)}(d:Sn B sl t L b)(h2:∀s,Sx B (L s) u al L' (f s)):Sx B sl (dY t u) al L' (b.bind f):=λa c G D σ H q k=>by
 cases b with
 |none=>cases c
 |some s=>exact d s rfl G _ σ H q λe H' g=>h2 s a c G D e H' g k
theorem T8{f:S->Option β}(d:Sx B sl t al L e)(h2:∀s,SB B (L s) u al (f s)):SB B sl (dY t u) al (e.bind λo=>o.els f):=λa c G D σ H q k=>by
 cases e with
 |none=>cases c
 |some o =>
  cases o with
  |nx s=>exact d _ rfl G _ σ H q λh H' g=>h2 s a c G D h H' g k
  |rt b=>cases c;exact d _ rfl G { D with nx:=u D } σ H q k
theorem T9(L:S->SL K)(s:S)(h:Le sl (L s)):Sx B sl HN al L (some (.nx s):Option (Out S β)):=λa b G D σ H q k=>by cases b;exact k σ H (q.le h)
theorem Gb(k:Ok B F' O H')(n:Bool){v:V}{b:β}(r:rp K (reg B F' H' (cJ n)) v b)(a:n=!al):Rt K B al b v H':=by
 refine⟨k.h0,?_⟩
 cases al with
 |false=>subst a;exact Rp.mono (yO k.fh) r
 |true =>
  subst a
  refine Rp.mono (λb o h=>?_) r
  show ext B.Fa B.H0 H' b=some o
  unfold ext
  cases q:B.H0 b with
  |none=>exact k.fh b o h
  |some u =>
   rcases k.fa b o h with z|z
   ·exact z
   grind
theorem yC(h:Ex B sl (cJ !al) te m):SB B sl (dY (nH te) u) al m:=λb c G D σ H s k=>by
 obtain⟨F,O,g,a⟩:=s
 exact h b c F O H σ _ a λv F' H' d r=>k v H' (Gb d.ok (!al) r rfl)
theorem Bd(h:F p=none):Same (dif F a) (dif (upd F p o) a):=yO (au h o)
theorem Bg{n:Bool}{xs:List α}(i:Nat)(j:sl[i]?=some (.ow n xs))(o:n=!al):SB B sl (dY (nH (aZ i)) u) al (some xs):=λb d G D σ H s k=>by
 cases d
 obtain⟨F,O,g,a⟩:=s
 obtain⟨O1,O2,p,f,rfl,e,l,_⟩:=a.2.oZ j
 obtain⟨c,h,a3⟩:=a.1.one
 refine⟨_,e,k _ H (Gb a.1.freeze n ⟨p,f,rfl,?_,l.imp λ_ _=>Rp.mono ?_⟩ o)⟩
 ·cases n with
  |true=>exact(yR h).trans zJ
  |false=>exact zJ
 ·cases n with
  |true=>exact Bd c
  |false=>exact au c _
theorem qz(hc:Et B sl c n)(h1:Sn B sl t L m1)(h2:Sn B sl u L m2):Sn B sl (rE c t u) L (n.bind λb=>if b=true then m1 else m2):=λa ha G D σ H s k=>by
 cases n with
 |none=>cases ha
 |some b =>
  obtain⟨F,O,g,z⟩:=s
  refine hc b rfl F O H σ _ z λF' H' gr=>?_
  cases b with
  |true=>exact iT (h1 a (by simpa using ha) G D σ H' (Sg.grow g z gr) k)
  |false=>exact j9 (h2 a (by simpa using ha) G D σ H' (Sg.grow g z gr) k)
theorem uJ{c:TT}{n:Option Bool}{f e:Option β}(j:Et B sl c n)(i:SB B sl t al f)(h2:SB B sl u al e):SB B sl (dY (rE c t HN) u) al (n.bind λb=>if b=true then f else e):=λa h G D σ H s k=>by
 cases n with
 |none=>cases h
 |some b =>
  obtain⟨F,O,g,z⟩:=s
  refine j b rfl F O H σ _ z λF' H' d=>?_
  cases b with
  |true=>exact iT (i a (by grind) G _ σ H' (Sg.grow g z d) k)
  |false=>exact j9 (h2 a (by grind) G D σ H' (Sg.grow g z d) k)
theorem PX{c:TT}{n:Option Bool}{m1:Option β}{L:S->SL K}{m2:Option (Out S β)}(hc:Et B sl c n)(h1:SB B sl t al m1)(h2:Sx B sl u al L m2) :
  Sx B sl (dY (rE c t HN) u) al L (n.bind λb=>if b=true then m1.bind λb=>some (.rt b) else m2):=λa ha G D σ H s k=>by
 cases n with
 |none=>cases ha
 |some b =>
  obtain⟨F,O,g,z⟩:=s
  refine hc b rfl F O H σ _ z λF' H' gr=>?_
  cases b with
  |true =>
   have e:=(show(m1.bind λb=>some (Out.rt b))=some a by simpa using ha)
   cases m1 with
   |none=>cases e
   |some b=>cases e;exact iT (h1 b rfl G _ σ H' (Sg.grow g z gr) k)
  |false=>exact j9 (h2 a (by simpa using ha) G D σ H' (Sg.grow g z gr) k)
theorem Sg.set{s:Slot K}{i:Nat}{n:Bool}{a:α}{v:V}{O:Own}(g:Same G F)(h:At B sl F O H σ)(b:sl[i]?=some s)(c:dz s=false)(r:rp K (reg B F H (cJ n)) v a):Sg B G (sl.set i (.fz n a)) (σ.set i (some v)) H :=
 ⟨F,O,g,h.1,h.2.put (λ_ _ _ z=>.fz r z) b c⟩
theorem xU(n:Bool)(i:Nat)(d:sl[i]?=some s)(e:dz s=false)(h:Ex B sl (cJ n) te m):Sn B sl (g_ te (vR i)) (λa=>sl.set i (.fz n a)) m:=λa c G D σ H s k=>by
 obtain⟨F,O,g,z⟩:=s
 exact h a c F O H σ _ z λv F' H' b r=>k _ _ (Sg.set (g.trans b.ff) (z.grow b) d e r)
theorem MJ(h:Ex B sl md te m):Sn B sl (tY te) (λ_=>sl) m:=λa b G D σ H s k=>by
 obtain⟨F,O,g,z⟩:=s
 exact h a b F O H σ _ z λv F' H' c r=>k _ _ (Sg.grow g z c)
theorem At.own{s:Slot K}{i:Nat}{n:Bool}{xs:List α}{vs:List V}{p:Addr}(h:At B sl F O H σ)(e:sl[i]?=some s)(d:dz s=false)(a:H p=none)(r:A2 (rp K (reg B F H (cJ n))) vs xs) :
  ∃b,At B (sl.set i (.ow n xs)) F b (upd H p (.lst vs)) (σ.set i (some (.ref p))):=by
 obtain⟨k,f⟩:=h
 obtain⟨O1,O2,rfl,z⟩:=f.own (c:=(p,.lst vs)) (λ_ _ _ z=>.ow r z) e d
 exact⟨_,k.add a,z.mono (.refl _) (WX a) (au a _)⟩
theorem uX{s:Slot K}{m:Option (List α)}(n:Bool)(i:Nat)(d:sl[i]?=some s)(e:dz s=false)(h:Eo B sl (cJ n) te m):Sn B sl (g_ te (vR i)) (λa=>sl.set i (.ow n a)) m:=λa f G D σ H s k=>by
 obtain⟨F,O,g,z⟩:=s
 refine h a f F O H σ _ z λp vs F' H' b l r=>k _ _ ?_
 obtain⟨c,j⟩:=(z.grow b).own d e l r
 exact⟨F',c,g.trans b.ff,j⟩
theorem T_(i:Nat)(f:sl[i]?=some s)(e:dz s=false):Sn B sl (g_ Z2 (vR i)) (λ_=>sl.set i (.od ([]:List (Key×α)))) (some ()):=λa ha G D σ H s k=>by
 obtain⟨F,O,g,j,d⟩:=s
 intro p b
 refine k _ _ ?_
 obtain⟨O1,O2,rfl,h⟩:=d.own (s':=.od ([]:List (Key×α))) (c:=(p,.dK [])) (λ_ _ _ z=>.od trivial z) f e
 exact⟨F,_,g,j.add b,h.mono (.refl _) (WX b) (au b _)⟩
theorem P0{α:Type}:∀{l:List α}{i:Nat}{x:α},l[i]?=some x->l.set i x=l
 |[],_,_,h=>by simp at h
 |_::_,0,_,h=>by simp at h;subst h;rfl
 |_::l,i+1,_,h=>congrArg _ (P0 (l:=l) (i:=i) (by simpa using h))
theorem P_{P:Slot K->Bool}(hs:P s=true):∀{l:SL K}{i:Nat},l.all P=true->(l.set i s).all P=true
 |[],_,h=>h
 |_::_,0,h=>by grind
 |_::l,i+1,h=>by grind
theorem At.chg{i:Nat}{n:Bool}{xs:List α}(h:At B sl F O H σ)(f:sl[i]?=some (.ow n xs))(d:sl.all (λs=>!bU s)=true):∃p vs,σ[i]?=some (some (.ref p))/\H p=some (.lst vs)/\A2 (rp K (reg B F H (cJ n))) vs xs /\
  ∀(ws:List V)(ys:List α),A2 (rp K (reg B F H (cJ n))) ws ys->∃b,At B (sl.set i (.ow n ys)) F b (upd H p (.lst ws)) σ:=by
 obtain⟨k,c⟩:=h
 obtain⟨O1,O2,p,vs,rfl,a,g,e,_⟩:=c.oZ f
 refine⟨p,vs,a,k.one.2.2,g,λws ys r=>⟨_,k.chg (.lst ws),?_⟩⟩
 have z:=e (.ow n ys) (some (.ref p)) (p,.lst ws) λ_ _ _ z=>.ow r z
 rw[P0 a] at z
 exact z.mut zV1 (P_ rfl d)
theorem At.Bh(h:At B sl F O H σ)(g:sl[i]?=some (.od kvs))(d:sl.all (λs=>!bU s)=true):∃p ks,σ[i]?=some (some (.ref p))/\H p=some (.dK ks)/\A2 (λ(x:Key×V) (y:Key×α)=>x.1=y.1/\rp K F x.2 y.2) ks kvs /\
  ∀(ws:List (Key×V))(ys:List (Key×α)),A2 (λ(x:Key×V) (y:Key×α)=>x.1=y.1/\rp K F x.2 y.2) ws ys->∃b,At B (sl.set i (.od ys)) F b (upd H p (.dK ws)) σ:=by
 obtain⟨k,c⟩:=h
 obtain⟨O1,O2,p,e,rfl,a,j,f,_⟩:=c.FW g
 refine⟨p,e,a,k.one.2.2,j,λws ys r=>⟨_,k.chg (.dK ws),?_⟩⟩
 have z:=f (.od ys) (some (.ref p)) (p,.dK ws) λ_ _ _ z=>.od r z
 rw[P0 a] at z
 exact z.mut zV1 (P_ rfl d)
theorem wE(i:Nat)(o:sl[i]?=some (.ow n xs))(x:sl.all (λs=>!bU s)=true)(h:Ex B sl (cJ n) te m) :
  Sn B sl (tY (Ay K "list" Pq (aZ i) (yK te aU))) (λys=>sl.set i (.ow n ys)) (m.bind λa=>push xs a):=λys y G D σ H s k=>by
 cases m with
 |none=>cases y
 |some a =>
  have b:=y
  unfold push at b
  split at b
  case isFalse=>cases b
  rename_i C
  cases b
  obtain⟨F,O,g,z⟩:=s
  obtain⟨p,vs,q,I,h3,_⟩:=z.chg o x
  refine⟨_,q,.inl ⟨rfl,_,aN.of I⟩,?_⟩
  refine h a rfl F O H σ _ z λv F' H' w r=>?_
  obtain⟨p',c,j,f,d,l⟩:=(z.grow w).chg o x
  have e:=q.symm.trans j
  cases e
  obtain⟨A,E⟩:=l (c++[v]) (xs++[a]) (d.snoc r)
  exact⟨p,c,v,rfl,rfl,f,rQ (by rw[d.len];exact C),k _ _ ⟨F',A,g.trans w.ff,E⟩⟩
theorem Ua(i:Nat)(hs:sl[i]?=some (.ow n xs))(hh:sl.all (λs=>!bU s)=true)(hv:Ex B sl (cJ n) te m)(hi:Ex B sl .hp ti mi) :
  Sn B sl (g_ te (Ov (aZ i) ti ug)) (λys=>sl.set i (.ow n ys)) (m.bind λa=>mi.bind λk=>setAt xs k a):=λys ha G D σ H s k=>by
 cases m with
 |none=>cases ha
 |some a =>
  cases mi with
  |none=>cases ha
  |some ix =>
   have ha':setAt xs ix a=some ys:=ha
   obtain⟨F,O,g,z⟩:=s
   refine hv a rfl F O H σ _ z λv F' H' gr r=>?_
   obtain⟨p,vs,h1,h2,h3,_⟩:=(z.grow gr).chg hs hh
   refine⟨_,h1,?_⟩
   refine hi ix rfl F' O H' σ _ (z.grow gr) λw F2 H2 W4 rw=>?_
   cases rw
   obtain⟨p',vs',h1',h2',h3',h4'⟩:=((z.grow gr).grow W4).chg hs hh
   have e:=h1.symm.trans h1'
   cases e
   unfold setAt at ha'
   cases ej:qW xs.length ix with
   |none=>rw[ej] at ha';cases ha'
   |some jj =>
    rw[ej] at ha'
    cases ha'
    obtain⟨O',z'⟩:=h4' (vs'.set jj v) (xs.set jj a) (h3'.set (Rp.mono (xG W4 (cJ n)) r) jj)
    exact⟨p,vs',ix,jj,rfl,rfl,h2',by rw[h3'.len,ej],k _ _ ⟨F2,O',(g.trans gr.ff).trans W4.ff,z'⟩⟩
end
section
variable{K:Frag}{B:Bs}{F H F' H' G:Hp}{O:Own}{sl sl2:SL K}{σ:St}{md:Md}{α β γ:Type}[Rp K α][Rp K β][Rp K γ]{tb u v:TS}{te:TE}{m:Option α}{S S':Type}{al n:Bool}
theorem Ub{S α β:Type}(step:S->α->Option (Out S β)):∀(xs ys:List α)(s:S),uE step (xs++ys) s=(uE step xs s).bind λo=>o.aO λs'=>uE step ys s'
 |[],ys,s=>rfl
 |x::xs,ys,s=>by
  show(step s x).bind _=((step s x).bind _).bind _
  cases step s x with
  |none=>rfl
  |some o =>
   cases o with
   |nx s'=>exact Ub step xs ys s'
   |rt b=>rfl
theorem zN8{S α β:Type}{step:S->α->Option (Out S β)}{xs:List α}{s a:S}{x:α}(h:uE step (xs.take i) s=some (.nx a))(c:xs[i]?=some x):uE step (xs.take (i+1)) s=step a x:=by
 have b:xs.take (i+1)=xs.take i++[x]:=by rw[take_add_one,c]<;>rfl
 rw[b,Ub,h]
 show(step a x).bind _=step a x
 cases step a x with
 |none=>rfl
 |some o=>cases o<;>rfl
theorem zQ3{S α β:Type}{step:S->α->Option (Out S β)}{xs:List α}{s:S}{o:Out S β}{b:β}(h:uE step xs s=some o)(a:uE step (xs.take i) s=some (.rt b)):o=.rt b:=by
 rw[<-take_append_drop i xs,Ub,a] at h
 cases h
 rfl
theorem zN9{S α β:Type}{step:S->α->Option (Out S β)}{xs:List α}{s:S}{o:Out S β}(i:Nat)(h:uE step xs s=some o):∃a,uE step (xs.take i) s=some a:=by
 rw[<-take_append_drop i xs,Ub] at h
 cases q:uE step (xs.take i) s with
 |none=>grind
 |some a=>grind
def Yl(K:Frag)(B:Bs)(F':Hp)(n:Bool)(J:It){α:Type}[Rp K α](xs:List α):Prop:=∀(i:Nat)(c:Hp)(f:Own)(b:Hp),Same F' c->Ok B c f b ->
 (xs.length<=i->J.stop i b)/\∀x,xs[i]?=some x->J.go i b/\∀v d,J.Mp i b v d->∃e,aX B c b f e d/\rp K (reg B e d (cJ n)) v x
noncomputable def Ei(B:Bs)(sl:SL K)(n:Bool)(b:TI){α:Type}[Rp K α](mi:Option (List α)):Prop :=
 ∀a,mi=some a->∀(F:Hp)(O:Own)(H:Hp)(σ:St)(R:It->Hp->Prop),At B sl F O H σ->(∀(J:It)(F' H':Hp),aX B F H O F' H'->Yl K B F' n J a->R J H')->b σ H R
def Tg(B:Bs)(sl:SL K)(n:Bool)(g:TG){α:Type}[Rp K α](L:α->SL K):Prop :=
 ∀(v:V)(x:α)(F:Hp)(O:Own)(H:Hp)(σ:St)(Q:St->Hp->Prop),At B sl F O H σ->rp K (reg B F H (cJ n)) v x->(∀b,At B (L x) F O H b->Q b H)->g v σ H Q
theorem yG(i:Nat)(b:sl[i]?=some s)(c:dz s=false):Tg B sl n (vR i) (λx:α=>sl.set i (.fz n x)):=λv x F O H σ Q a r k=>k _ ⟨a.1,a.2.put (λ_ _ _ z=>.fz r z) b c⟩
theorem zO6(k:Ok B F O H)(h:reg B F H (cJ n) p=some o):H p=some o:=rP k n p o h
theorem Gd(i j:Nat)(l:sl[i]?=some s)(g:dz s=false)(d:∀x:Slot K,(sl.set i x)[j]?=some s')(c:dz s'=false) :
  Tg B sl n (Ab K 2 (Ml (vR i) (Ml (vR j) HX))) (λx:α×β=>(sl.set i (.fz n x.1)).set j (.fz n x.2)):=λv x F O H σ Q a r k=>by
 obtain⟨p,e,b,rfl,f,o,h⟩:=r
 refine⟨p,[e,b],rfl,.inl (.inl (zO6 a.1 f)),rfl,e,[b],rfl,b,[],rfl,rfl,?_⟩
 exact k _ ⟨a.1,(a.2.put (λ_ _ _ z=>.fz o z) l g).put (λ_ _ _ z=>.fz h z) (d _) c⟩
theorem wK{L:S->SL K}{A:S->α->SL K}{step:S->α->Option S}(f:S)(h0:Le sl (L f))(R:Ei B (L f) n I mi)(hg:∀s,Tg B (L s) n g (A s))(hb:∀s x,Sn B (A s x) tb L (step s x)) :
  Sn B sl (Ae I g tb) L (mi.bind λxs=>xN step xs f):=λU b G D σ H q k=>by
 cases mi with
 |none=>cases b
 |some xs =>
  have b:xN step xs f=some U:=b
  obtain⟨F,O,Y,a⟩:=q.le h0
  refine R xs rfl F O H σ _ a λJ F' H' y Z=>?_
  refine⟨λi m σ H=>m=xs.length-i/\i<=xs.length/\∃s,xN step (xs.take i) f=some s/\Sg B F' (L s) σ H,⟨xs.length,rfl,aa0 _,f,rfl,F',O,.refl _,a.grow y⟩,?_⟩
  rintro i m σ H ⟨rfl,hil,s,o,E,h,j,l⟩
  obtain⟨y1,y2⟩:=Z i E h H j l.1
  by_cases d:i<xs.length
  ·obtain⟨M,Q⟩:=y2 xs[i] (aaj d)
   obtain⟨s',c,t,X,N⟩:=zOa b (aaj d)
   rw[o] at t
   cases t
   refine .inr ⟨M,Sg B F' (L c),λw H' z=>⟨xs.length-(i+1),by omega,rfl,d,c,N,z⟩,λv p P=>?_⟩
   obtain⟨r,C,r3⟩:=Q v p P
   exact hg s v xs[i] r h p σ _ (l.grow C) r3 λw T=>hb s xs[i] c X F' _ w p ⟨r,h,j.trans C.ff,T⟩ λσ2 H2 z=>z
  ·have e:i=xs.length:=by omega
   subst e
   rw[take_length,b] at o
   cases o
   exact .inl ⟨y1 (aak _),k σ H ⟨E,h,(Y.trans y.ff).trans j,l⟩⟩
theorem Uc{L:S->SL K}{Lx:S->α->SL K}{step:S->α->Option (Out S β)}(s0:S)(h0:Le sl (L s0))(hi:Ei B (L s0) n wi mi)(hg:∀s,Tg B (L s) n g (Lx s))(hb:∀s x,Sx B (Lx s x) tb al L (step s x)) :
  Sx B sl (Ae wi g tb) al L (mi.bind λxs=>uE step xs s0):=λo ho G D σ H q k=>by
 cases mi with
 |none=>cases ho
 |some xs =>
  have ho:uE step xs s0=some o:=ho
  obtain⟨F,O,g0,a⟩:=q.le h0
  refine hi xs rfl F O H σ _ a λJ F' H' gr yl=>?_
  refine⟨λi m σ H=>m=xs.length-i/\i<=xs.length/\∃s,uE step (xs.take i) s0=some (.nx s)/\Sg B F' (L s) σ H,⟨xs.length,rfl,aa0 _,s0,rfl,F',O,.refl _,a.grow gr⟩,?_⟩
  rintro i m σ H ⟨rfl,hil,s,hs,F2,O2,sf,a2⟩
  obtain⟨y1,y2⟩:=yl i F2 O2 H sf a2.1
  by_cases hlt:i<xs.length
  ·obtain⟨go,y3⟩:=y2 xs[i] (aaj hlt)
   have e2:=zN8 hs (aaj hlt)
   obtain⟨o',e3⟩:=zN9 (i+1) ho
   refine .inr ⟨go,λσ H=>∃s',o'=.nx s'/\Sg B F' (L s') σ H,λσ' H' ⟨s',e,z⟩=>⟨xs.length-(i+1),by omega,rfl,hlt,s',by rw[e3,e],z⟩,λv H3 yd=>?_⟩
   obtain⟨F3,g3,r3⟩:=y3 v H3 yd
   refine hg s v xs[i] F3 O2 H3 σ _ (a2.grow g3) r3 λσ' a'=>hb s xs[i] o' (by rw[<-e2,e3]) F' _ σ' H3 ⟨F3,O2,sf.trans g3.ff,a'⟩ ?_
   cases o' with
   |nx s'=>exactλσ2 H2 z=>⟨s',rfl,z⟩
   |rt b =>
    have:=zQ3 ho e3
    subst this
    exact k
  ·have e:i=xs.length:=by omega
   subst e
   rw[take_length,ho] at hs
   cases hs
   exact .inl ⟨y1 (aak _),k σ H ⟨F2,O2,(g0.trans gr.ff).trans sf,a2⟩⟩
theorem zSu{L:S->SL K}{cM:S->Option Bool}{bM:S->Option S}(fuel:Nat)(s0:S)(h0:Le sl (L s0))(hc:∀s,Et B (L s) c (cM s))(hb:∀s,Sn B (L s) tb L (bM s)):Sn B sl (Zu c tb) L (Ga cM bM fuel s0):=λs1 hs1 G D σ H q k=>by
 refine⟨λm σ H=>∃s,Ga cM bM m s=some s1/\Sg B G (L s) σ H,⟨fuel,s0,hs1,q.le h0⟩,?_⟩
 rintro m σ H ⟨s,hs,F,O,g,a⟩
 cases m with
 |zero=>cases hs
 |succ m =>
  have hs:((cM s).bind λb=>if b=true then(bM s).bind λs'=>Ga cM bM m s' else some s)=some s1:=hs
  cases e:cM s with
  |none=>rw[e] at hs;cases hs
  |some b =>
   rw[e] at hs
   refine hc s b e F O H σ _ a λF' H' gr=>?_
   cases b with
   |true =>
    have hs:((bM s).bind λs'=>Ga cM bM m s')=some s1:=by simpa using hs
    cases e2:bM s with
    |none=>rw[e2] at hs;cases hs
    |some s' =>
     rw[e2] at hs
     exact iT ⟨Sg B G (L s'),λσ' H' z=>⟨m,abp _,s',hs,z⟩,hb s s' e2 G _ σ H' (Sg.grow g a gr) λ_ _ z=>z⟩
   |false =>
    have hs:some s=some s1:=by simpa using hs
    cases hs
    exact j9 (k σ H' (Sg.grow g a gr))
theorem yW{mi:Option (List α)}(h:Ex B sl (cJ n) te mi):Ei B sl n (Tj K te) mi:=λt d F O H σ R a k=>by
 refine h t d F O H σ _ a λv F' H' j r=>?_
 obtain⟨p,b,rfl,c,q⟩:=r
 refine⟨p,rfl,⟨b,aN.of (rP j.ok n p _ c)⟩,k _ F' H' j λi s O2 C l g=>?_⟩
 have f:aN K C p b:=aN.of (g.fh _ _ (l _ _ (by cases n with|true=>exact aK _ _ c|false=>exact c)))
 refine⟨λz=>⟨b,f,by rw[q.len];exact z⟩,λx d=>?_⟩
 obtain⟨w,o,D⟩:=q.at2 d
 refine⟨⟨b,w,f,o⟩,λv H3 A=>?_⟩
 obtain⟨e,y⟩:=A
 subst e
 have:=(o.symm.trans (y b f))
 cases this
 exact⟨s,.refl g,Rp.mono (yI n l) D⟩
theorem W5{k i:Nat}{x:Int}(h:((aax k).map acs)[i]?=some x):i<k/\x=i:=by
 grind
theorem uF(h:Ex B sl .hp te mi):Ei B sl n (Fq (yK te aU)) (mi.bind bW):=λxs hx F O H σ R a k=>by
 cases mi with
 |none=>cases hx
 |some j =>
  have hx:bW j=some xs:=hx
  unfold bW at hx
  split at hx
  case isFalse=>cases hx
  rename_i hb
  cases hx
  refine h j rfl F O H σ _ a λv F' H' gr r=>?_
  cases r
  refine⟨j,rfl,hb.1,hb.2,k _ F' H' gr λi F2 O2 H2 sf k2=>⟨λhl=>?_,λx hx=>?_⟩⟩
  ·rw[length_map,length_range] at hl;exact hl
  ·obtain⟨h1,rfl⟩:=W5 hx
   refine⟨h1,λv H3 yd=>?_⟩
   obtain⟨rfl,rfl⟩:=yd
   exact⟨F2,.refl k2,by show V.int (0+(i:Int))=V.int i;rw[Int.zero_add]⟩
def za{α:Type}(xs:List α):List (Int×α):=((aax xs.length).map acs).zip xs
theorem W6{α:Type}{xs:List α}{i:Nat}{x:Int×α}(h:(za xs)[i]?=some x):x.1=i/\xs[i]?=some x.2:=by
 unfold za at h
 rw[getElem?_zip_eq_some] at h
 exact⟨(W5 h.1).2,h.2⟩
theorem zJn{α:Type}(xs:List α):(za xs).length=xs.length:=by unfold za;simp
theorem W7{mi:Option (List α)}(h:Ex B sl (cJ n) te mi):Ei B sl n (uw K (yK te aU)) (mi.bind λxs=>some (za xs)):=λxs c F O H σ R a k=>by
 cases mi with
 |none=>cases c
 |some z =>
  cases(c)
  refine h z rfl F O H σ _ a λv F' H' l r=>?_
  obtain⟨p,b,rfl,f,s⟩:=r
  refine⟨p,rfl,⟨b,aN.of (rP l.ok n p _ f)⟩,k _ F' H' l λi F2 O2 I g d=>?_⟩
  have e:aN K I p b:=aN.of (d.fh _ _ (g _ _ (by cases n with|true=>exact aK _ _ f|false=>exact f)))
  refine⟨λD=>⟨b,e,by rw[s.len,<-zJn];exact D⟩,λx c=>?_⟩
  obtain⟨C,E⟩:=W6 c
  obtain⟨w,q,A⟩:=s.at2 E
  refine⟨⟨b,w,e,q⟩,λv H3 J=>?_⟩
  obtain⟨t,x',rfl,o,rfl,y⟩:=J
  have:=(q.symm.trans (y b e))
  cases this
  have j:=aX.new d o (.tup [.int i,w])
  refine⟨_,j,t,.int i,w,rfl,?_,?_,Rp.mono (yI n (g.trans j.ff)) A⟩
  ·exact Jd d o (cJ n)
  ·rw[C];rfl
noncomputable def bh{α β:Type}(c:α->Option Bool)(f:α->Option β)(xs:List α):Option (List β):=if xs.length<cap then wJ c f xs else none
theorem Ud{α β:Type}(c:α->Option Bool)(f:α->Option β):∀(xs ys:List α),wJ c f (xs++ys)=(wJ c f xs).bind λa=>(wJ c f ys).bind λb=>some (a++b)
 |[],ys=>by
  rw[List.nil_append]
  show wJ c f ys=(wJ c f ys).bind λb=>some ([]++b)
  cases wJ c f ys<;>rfl
 |x::xs,ys=>by
  show(c x).bind _=((c x).bind _).bind _
  cases c x with
  |none=>rfl
  |some b =>
   cases b with
   |true =>
    show(f x).bind _=((f x).bind _).bind _
    cases f x with
    |none=>rfl
    |some y =>
     show(wJ c f (xs++ys)).bind _=((wJ c f xs).bind _).bind _
     rw[Ud c f xs ys]
     cases wJ c f xs with
     |none=>rfl
     |some a =>
      show((wJ c f ys).bind _).bind _=(wJ c f ys).bind _
      cases wJ c f ys<;>rfl
   |false=>exact Ud c f xs ys
theorem W8{α β:Type}(c:α->Option Bool)(f:α->Option β):∀{xs:List α}{ys:List β},wJ c f xs=some ys->ys.length<=xs.length
 |[],ys,h=>by cases h;exact aak _
 |x::xs,ys,h=>by
  have h:((c x).bind λb=>if b=true then(f x).bind λy=>(wJ c f xs).bind λys=>some (y::ys) else wJ c f xs)=some ys:=h
  cases e:c x with
  |none=>rw[e] at h;cases h
  |some b =>
   rw[e] at h
   cases b with
   |true =>
    have h:((f x).bind λy=>(wJ c f xs).bind λys=>some (y::ys))=some ys:=by simpa using h
    cases e2:f x with
    |none=>rw[e2] at h;cases h
    |some y =>
     rw[e2] at h
     cases e3:wJ c f xs with
     |none=>rw[e3] at h;cases h
     |some zs =>
      rw[e3] at h
      cases h
      exact abq (W8 c f e3)
   |false =>
    have h:wJ c f xs=some ys:=by simpa using h
    exact Nat.le_succ_of_le (W8 c f h)
theorem zOj{α β:Type}{c:α->Option Bool}{f:α->Option β}{xs:List α}{zs:List β}(i:Nat)(h:wJ c f xs=some zs):∃ys,wJ c f (xs.take i)=some ys:=by
 rw[<-take_append_drop i xs,Ud] at h
 cases q:wJ c f (xs.take i) with
 |none=>grind
 |some o'=>grind
theorem zOk{α β:Type}{c:α->Option Bool}{f:α->Option β}{xs:List α}{zs ys:List β}{x:α}(h:wJ c f (xs.take (i+1))=some zs)(d:wJ c f (xs.take i)=some ys)(g:xs[i]?=some x) :
  (c x=some false/\zs=ys)\/∃y,c x=some true/\f x=some y/\zs=ys++[y]:=by
 have a:xs.take (i+1)=xs.take i++[x]:=by rw[take_add_one,g]<;>rfl
 rw[a,Ud,d] at h
 have h:(((c x).bind λb=>if b=true then(f x).bind λy=>some [y] else some []).bind λb=>some (ys++b))=some zs:=h
 cases e:c x with
 |none=>rw[e] at h;cases h
 |some b =>
  rw[e] at h
  cases b with
  |true =>
   have h:(((f x).bind λy=>some [y]).bind λb=>some (ys++b))=some zs:=by simpa using h
   cases a:f x with
   |none=>rw[a] at h;cases h
   |some y=>rw[a] at h;cases h;exact .inr ⟨y,rfl,rfl,rfl⟩
  |false =>
   have h:some (ys++[])=some zs:=by simpa using h
   rw[append_nil] at h
   cases h
   exact .inl ⟨rfl,rfl⟩
abbrev Qa:Slot K->Slot K
 |.un=>.un
 |@Slot.fz _ n _ i a=>@Slot.fz _ n _ i a
 |@Slot.hs _ _ i a=>@Slot.hs _ _ i a
 |@Slot.nu _ _ i a=>@Slot.hs _ _ i a
 |@Slot.ow _ _ _ i b=>@Slot.hs _ _ _ b
 |@Slot.od _ _ _ _=>.un
 |@Slot.ob _ _ _ _ _=>.un
theorem aX.lift(k:Ok B F O H)(g:aX B F H [] F' H'):aX B F H O F' H' :=
 ⟨g.ff,g.hh,⟨g.ok.fh,g.ok.h0,g.ok.fa,λx b=>by
  obtain⟨a,c,d⟩:=k.fo x b
  exact⟨g.nw _ a (by grind),c,g.hh _ _ d⟩,k.nd⟩,g.nw⟩
theorem Ok.nil(k:Ok B F O H):Ok B F [] H:=⟨k.fh,k.h0,k.fa,λx a=>(by cases a),(by simp)⟩
theorem ak.one(a:At B sl F O H σ)(L:Hp)(j:Nat)(f:sl[j]?=some s):∀{e:SL K}{g:St},ak B F L H e g []->ak B F L H (Qa s::e) ((σ[j]?).getD none::g) []:=λ{e g} h=>by
 cases s with
 |un=>exact .un h
 |fz n b=>obtain⟨v,c,d⟩:=a.2.oY f;rw[c];exact .fz d h
 |hs b=>obtain⟨v,c,d⟩:=a.2.PJ f;rw[c];exact .hs d h
 |nu b=>obtain⟨v,c,d⟩:=a.2.uz f;rw[c];exact .hs (Rp.mono (aK.trans lo_le) d) h
 |ow n xs =>
  obtain⟨k,i⟩:=a
  obtain⟨O1,O2,p,l,rfl,c,d,_⟩:=i.oZ f
  rw[c]
  exact .hs ⟨p,l,rfl,k.one.2.2,d.imp λ_ _=>Rp.mono (rP k n)⟩ h
 |od kvs=>exact .un h
 |ob n a=>exact .un h
def Jf(sl:SL K)(n:Nat)(ix:List Nat):SL K:=replicate n .un++ix.map λj=>Qa ((sl[j]?).getD .un)
theorem Bj(a:At B sl F O H σ)(L:Hp)(n:Nat):∀(ix:List Nat),(∀j∈ix,j<sl.length)->ak B F L H (Jf sl n ix) (gG σ n ix) []:=λix b=>by
 unfold Jf gG
 induction n with
 |zero =>
  induction ix with
  |nil=>exact .nil
  |cons j ix ih =>
   have c:=b j mem_cons_self
   have d:=aaj c
   have z:=ak.one a L j d (ih λk e=>b k (mem_cons_of_mem _ e))
   grind
 |succ n ih=>exact .un ih
inductive o_:SL K->SL K->Prop
 |nil:o_ [] []
 |eq {s:Slot K} {a b:SL K}:o_ a b->o_ (s::a) (s::b)
 |un {s:Slot K} {a b:SL K}:o_ a b->o_ (s::a) (.un::b)
theorem ak.le1(l:o_ sl sl2):∀{σ:St}{O:Own},ak B F L H sl σ O->O=[]->ak B F L H sl2 σ []:=by
 induction l with
 |nil=>grind
 |eq _ ih =>
  intro σ O h e
  cases h with
  |un h=>exact .un (ih h e)
  |fz r h=>exact .fz r (ih h e)
  |hs r h=>exact .hs r (ih h e)
  |nu r h=>exact .nu r (ih h e)
  |ow r h=>cases e
  |od r h=>cases e
  |ob r h =>
   obtain⟨a,b⟩:=List.append_eq_nil_iff.mp e
   subst a
   exact .ob r (ih h b)
 |un _ ih =>
  intro σ O h e
  cases h with
  |un h=>exact .un (ih h e)
  |fz r h=>exact .un (ih h e)
  |hs r h=>exact .un (ih h e)
  |nu r h=>exact .un (ih h e)
  |ow r h=>cases e
  |od r h=>cases e
  |ob r h=>exact .un (ih h (List.append_eq_nil_iff.mp e).2)
theorem ak.le0(l:o_ sl sl2)(h:ak B F L H sl σ []):ak B F L H sl2 σ []:=h.le1 l rfl
theorem wZ{c:α->Option Bool}{f:α->Option β}{ix:List Nat}(Z:(ix.all λj=>decide (j<sl.length))=true)(hI:ig=Jf sl no ix)(hi:Ei B sl n wi mi)(hg:Tg B ig n g Lx)(hc:∀x,Et B (Lx x) tc (c x))(he:∀x,Ex B (Lx x) md te (f x))(hle:∀x,o_ (Lx x) ig) :
  Eo B sl md (Mz no ix wi g tc te) (mi.bind λxs=>bh c f xs):=λzs r F O H σ Q a k=>by
 cases mi with
 |none=>cases r
 |some xs =>
  have r:bh c f xs=some zs:=r
  unfold bh at r
  split at r
  case isFalse=>cases r
  rename_i N
  have hcl:=rQ N
  refine hi xs rfl F O H σ _ a λJ F' H' gr yl=>?_
  have a':=a.grow gr
  refine⟨λi m D A d=>m=xs.length-i/\i<=xs.length/\∃(h:Hp)(ws:List β),wJ c f (xs.take i)=some ws/\aX B F' H' O h d/\ak B h (lo h [] d) d ig A []/\A2 (rp K (reg B h d md)) D ws,
   ⟨xs.length,rfl,aa0 _,F',[],rfl,.refl a'.1,?_,trivial⟩,?_⟩
  ·rw[hI]
   exact Bj a' _ no ix λj hj=>by simpa using(all_eq_true.mp Z) j hj
  rintro i m D A d ⟨rfl,hil,h,ws,P,X,s2,U⟩
  have hyl:D.length<=xs.length:=by
   rw[U.len]
   exact aas (W8 c f P) (by rw[length_take];omega)
  obtain⟨y1,y2⟩:=yl i h O d X.ff X.ok
  by_cases t:i<xs.length
  ·obtain⟨go,y3⟩:=y2 xs[i] (aaj t)
   obtain⟨E,M⟩:=zOj (i+1) r
   refine .inr ⟨go,by omega,λD A d=>∃(h:Hp),aX B F' H' O h d/\ak B h (lo h [] d) d ig A []/\A2 (rp K (reg B h d md)) D E,(by rintro ys' σ' H' ⟨z,I,L,z3⟩;exact⟨xs.length-(i+1),by omega,rfl,t,z,E,M,I,L,z3⟩),λv C yd=>?_⟩
   obtain⟨z,b,r3⟩:=y3 v C yd
   have g23:=X.trans b
   have W9:At B ig z [] C A:=⟨b.ok.nil,s2.mono b.ff (WW ⟨b.ff,b.hh,b.ok.nil,b.nw⟩) b.hh⟩
   refine hg v xs[i] z [] C A _ W9 r3 λT R=>?_
   have s:∀{o q:Hp},aX B z C [] o q->aX B F' H' O o q/\ak B o (lo o [] q) q ig T []:=λ{o q} l=>⟨g23.trans (aX.lift b.ok l),(R.grow l).2.le0 (hle xs[i])⟩
   rcases zOk M P (aaj t) with⟨Y,rfl⟩|⟨y,Y,e2,rfl⟩
   ·refine hc xs[i] false Y z [] C T _ R λo q l=>j9 ?_
    obtain⟨I,L⟩:=s l
    exact⟨o,I,L,U.imp λ_ _=>Rp.mono (xG (b.trans (aX.lift b.ok l)) md)⟩
   ·refine hc xs[i] true Y z [] C T _ R λo q l=>iT ?_
    refine he xs[i] y e2 o [] q T _ (R.grow l) λw F6 H6 g6 r6=>?_
    obtain⟨I,L⟩:=s (l.trans g6)
    exact⟨F6,I,L,(U.imp λ_ _=>Rp.mono (xG (b.trans (aX.lift b.ok (l.trans g6))) md)).snoc r6⟩
  ·have e:i=xs.length:=by omega
   subst e
   rw[take_length,r] at P
   cases P
   exact .inl ⟨y1 (aak _),by omega,λp hp=>k p D h d (gr.trans X) hp U⟩
abbrev isF:Slot K->Bool
 |@Slot.fz _ false _ _ _=>true
 |_=>false
theorem zEu{as:SL K}(k:Nat)(a:as.all isF=true)(r:Ar F as vs):ak ⟨F,H⟩ F L' H (as++replicate k .un) (vs.map some++replicate k none) []:=by
 induction r with
 |nil =>
  show ak _ _ _ _ ([]++_) ([]++_) []
  induction k with
  |zero=>exact .nil
  |succ k ih=>exact .un ih
 |@cons n _ _ _ _ _ _ r _ ih =>
  rw[all_cons,aaz] at a
  cases n with
  |false=>exact .fz r (ih a.2)
  |true=>grind
theorem Ar.len(r:Ar F as vs):vs.length=as.length:=by
 induction r with
 |nil=>rfl
 |cons _ _ ih=>grind
theorem zSr{A:Type}{as:A->SL K}{f:A->Option β}{N:List Str}(p:∀a,(as a).all isF=true)(k:∀a,(as a).length=i)(j:∀c a,SB ⟨c,H⟩ (as a++replicate (N.length-i) .un) t al (f a))(h:b_ K al as f vs H Q E):t { nx:=λ_ H'=>Q .non H',rt:=Q } (L2.start N vs) H:=by
 obtain⟨a,b,c,s,d,r,q⟩:=h
 have e:L2.start N vs=vs.map some++replicate (N.length-i) none:=by
  unfold L2.start
  rw[r.len,k]
 rw[e]
 refine j c a b d c _ _ H ⟨c,[],.refl _,⟨s,.refl _,λb o h=>.inl h,λx l=>(by cases l),(by simp)⟩,zEu _ (p a) r⟩ (λv H' z=>q v H' z.1 z.2)
theorem zVl{A:Type}{as:A->SL K}{f:A->Option β}(c:∀a,(as a).length=d)(h:b_ K al as f vs H Q E):vs.length=d:=by
 obtain⟨a,b,Fa,s,hfa,r,q⟩:=h
 rw[r.len,c]
end
open PySem.SeqAt (EqAt RcAt RcNeAt)
class Eqv (K:Frag) (α:Type) [Rp K α] [DecidableEq α] where
 dep:Nat
 det:∀{H:Hp}{v:V}{a b:α},rp K H v a->rp K H v b->a=b
 MN:∀{X:Cx}{pins:List (Addr×Obj)}{σ:St}{H:Hp}{s:Shared},Inv X pins σ H s->∀{A:Around},A.units+dep<cLine->∀{v w:V}{u u':Value}{a b:α},rp K H v a->rp K H w b->RelV v u->RelV w u'->EqAt A s u u' (decide (a=b))
 Ue:∀{X:Cx}{pins:List (Addr×Obj)}{σ:St}{H:Hp}{s:Shared},Inv X pins σ H s->∀{A:Around},A.units+dep<cLine->∀{v w:V}{u u':Value}{a b:α},rp K H v a->rp K H w b->RelV v u->RelV w u'->RcAt A s u u' (decide (a=b))
 Ug:∀{X:Cx}{pins:List (Addr×Obj)}{σ:St}{H:Hp}{s:Shared},Inv X pins σ H s->∀{A:Around},A.units+dep<cLine->∀{v w:V}{u u':Value}{a b:α},rp K H v a->rp K H w b->RelV v u->RelV w u'->RcNeAt A s u u' (!decide (a=b))
section
variable{K:Frag}
theorem pq{α:Type}[BEq α][LawfulBEq α][DecidableEq α](a b:α):(a==b)=decide (a=b):=by
 grind
instance:Eqv K Int where
 dep:=0
 det h1 h2:=by cases h1;cases h2;rfl
 MN _ _ _ _ _ _ _ _ _ h1 h2 r1 r2:=by cases h1;cases h2;obtain⟨t,rfl⟩:=r1;obtain⟨t',rfl⟩:=r2;rw[<-pq];exact EqAt.int_int _ _ _ _
 Ue _ _ _ _ _ _ _ _ _ h1 h2 r1 r2:=by cases h1;cases h2;obtain⟨t,rfl⟩:=r1;obtain⟨t',rfl⟩:=r2;rw[<-pq];exact RcAt.int_int _ _ _ _
 Ug _ _ _ _ _ _ _ _ _ h1 h2 r1 r2:=by cases h1;cases h2;obtain⟨t,rfl⟩:=r1;obtain⟨t',rfl⟩:=r2;rw[<-pq];exact RcNeAt.int_int _ _ _ _
instance:Eqv K Str where
 dep:=0
 det h1 h2:=by cases h1;cases h2;rfl
 MN _ _ _ _ _ _ _ _ _ h1 h2 r1 r2:=by cases h1;cases h2;obtain⟨t,rfl⟩:=r1;obtain⟨t',rfl⟩:=r2;rw[<-pq];exact EqAt.str_str _ _ _ _
 Ue _ _ _ _ _ _ _ _ _ h1 h2 r1 r2:=by cases h1;cases h2;obtain⟨t,rfl⟩:=r1;obtain⟨t',rfl⟩:=r2;rw[<-pq];exact RcAt.str_str _ _ _ _
 Ug _ _ _ _ _ _ _ _ _ h1 h2 r1 r2:=by cases h1;cases h2;obtain⟨t,rfl⟩:=r1;obtain⟨t',rfl⟩:=r2;rw[<-pq];exact RcNeAt.str_str _ _ _ _
theorem A2.det{α β:Type}{R:α->β->Prop}(h:∀x y z,R x y->R x z->y=z):∀{xs:List α}{ys zs:List β},A2 R xs ys->A2 R xs zs->ys=zs
 |[],[],[],_,_=>rfl
 |_::_,_::_,_::_,h1,h2=>by rw[h _ _ _ h1.1 h2.1,A2.det h h1.2 h2.2]
 |[],_::_,_,h1,_=>h1.elim
 |[],[],_::_,_,h2=>h2.elim
 |_::_,[],_,h1,_=>h1.elim
 |_::_,_::_,[],_,h2=>h2.elim
theorem Uh{α:Type}[DecidableEq α]:∀{xs ys:List α},xs.length=ys.length->((aax xs.length).all λj=>decide (xs[j]?=ys[j]?))=decide (xs=ys)
 |[],[],_=>by simp
 |x::xs,y::ys,h=>by
  have ih:=Uh (xs:=xs) (ys:=ys) (by simpa using h)
  rw[length_cons,range_succ_eq_map,all_cons,List.all_map]
  have e:((λj=>decide ((x::xs)[j]?=(y::ys)[j]?))∘Nat.succ)=λj=>decide (xs[j]?=ys[j]?):=by
   funext j
   simp
  rw[e,ih]
  by_cases h1:x=y<;>by_cases h2:xs=ys<;>simp[h1,h2]
 |[],_::_,h=>by simp at h
 |_::_,[],h=>by simp at h
theorem M4{α:Type}[Rp K α]{xs:List α}(r:Vals vs us)(h:A2 (rp K H) vs xs)(j:Nat)(hj:j<us.toArray.size):∃v x,xs[j]?=some x/\rp K H v x/\RelV v us.toArray[j]:=by
 have l1:j<vs.length:=by rw[r.length];grind
 obtain⟨u,hu,ru⟩:=r.get (aaj l1)
 obtain⟨x,hx,rx⟩:=h.at1 (aaj l1)
 grind
theorem W_{A:Around}:A.in1.units=A.units+1:=rfl
instance{α:Type}[Rp K α][DecidableEq α][Eqv K α]:Eqv K (List α) where
 dep:=Eqv.dep K α+1
 det {H v a b} h1 h2:=by
  obtain⟨p,vs,rfl,h1,r1⟩:=h1
  obtain⟨p',vs',e,h2,r2⟩:=h2
  cases e
  cases h1.symm.trans h2
  exact A2.det (R:=rp K H) (λ_ _ _ z1 z2=>Eqv.det (K:=K) z1 z2) r1 r2
 Ue {X pins σ H s} I {A} hu {v w u u' a b} h1 h2 q1 q2:=by
  obtain⟨p,vs,rfl,h1,r1⟩:=h1
  obtain⟨p',ws,rfl,h2,r2⟩:=h2
  cases q1;cases q2
  obtain⟨us,s1,p1,_⟩:=I.list (aN.of h1)
  obtain⟨us',s2,p2,_⟩:=I.list (aN.of h2)
  have n1:us.toArray.size=a.length:=by rw[size_toArray,<-r1.len];exact s1.length.symm
  have n2:us'.toArray.size=b.length:=by rw[size_toArray,<-r2.len];exact s2.length.symm
  by_cases hl:a.length=b.length
  ·have z:=RcAt.lists (e:=λj=>decide (a[j]?=b[j]?)) p1.isList p2.isList (by rw[n1,n2];exact hl) (aap (ab4 _ _) hu) (λj h1 h2=>by
    obtain⟨v,x,e1,e2,e3⟩:=M4 s1 r1 j h1
    obtain⟨w,y,f1,f2,f3⟩:=M4 s2 r2 j h2
    rw[e1,f1]
    have z:=Eqv.MN (K:=K) I (A:=A.in1) (by rw[W_];omega) e2 f2 e3 f3
    simpa using z)
   rw[n1,Uh hl] at z
   exact z
  ·rw[show decide (a=b)=false by simp;intro e;exact hl (by rw[e])]
   exact RcAt.lists_lengths p1.isList p2.isList (by rw[n1,n2];exact bne_iff_ne.mpr hl) (aap (ab4 _ _) hu)
 Ug {X pins σ H s} I {A} hu {v w u u' a b} h1 h2 q1 q2:=by
  obtain⟨p,vs,rfl,h1,r1⟩:=h1
  obtain⟨p',ws,rfl,h2,r2⟩:=h2
  cases q1;cases q2
  obtain⟨us,s1,p1,_⟩:=I.list (aN.of h1)
  obtain⟨us',s2,p2,_⟩:=I.list (aN.of h2)
  have n1:us.toArray.size=a.length:=by rw[size_toArray,<-r1.len];exact s1.length.symm
  have n2:us'.toArray.size=b.length:=by rw[size_toArray,<-r2.len];exact s2.length.symm
  by_cases hl:a.length=b.length
  ·have z:=RcNeAt.lists (e:=λj=>decide (a[j]?=b[j]?)) p1.isList p2.isList (by rw[n1,n2];exact hl) (aap (ab4 _ _) hu) (λj h1 h2=>by
    obtain⟨v,x,e1,e2,e3⟩:=M4 s1 r1 j h1
    obtain⟨w,y,f1,f2,f3⟩:=M4 s2 r2 j h2
    rw[e1,f1]
    have z:=Eqv.MN (K:=K) I (A:=A.in1) (by rw[W_];omega) e2 f2 e3 f3
    simpa using z)
   rw[n1,Uh hl] at z
   exact z
  ·rw[show decide (a=b)=false by simp;intro e;exact hl (by rw[e])]
   exact RcNeAt.lists_lengths p1.isList p2.isList (by rw[n1,n2];exact bne_iff_ne.mpr hl) (aap (ab4 _ _) hu)
 MN {X pins σ H s} I {A} hu {v w u u' a b} h1 h2 q1 q2:=by
  obtain⟨p,vs,rfl,h1,r1⟩:=h1
  obtain⟨p',ws,rfl,h2,r2⟩:=h2
  cases q1;cases q2
  by_cases hp:p=p'
  ·subst hp
   cases h1.symm.trans h2
   rw[show a=b from A2.det (R:=rp K H) (λ_ _ _ z1 z2=>Eqv.det (K:=K) z1 z2) r1 r2]
   simp
   exact EqAt.same _
  ·refine EqAt.of_refs hp ?_
   obtain⟨us,s1,p1,_⟩:=I.list (aN.of h1)
   obtain⟨us',s2,p2,_⟩:=I.list (aN.of h2)
   have n1:us.toArray.size=a.length:=by rw[size_toArray,<-r1.len];exact s1.length.symm
   have n2:us'.toArray.size=b.length:=by rw[size_toArray,<-r2.len];exact s2.length.symm
   by_cases hl:a.length=b.length
   ·have z:=RcAt.lists (e:=λj=>decide (a[j]?=b[j]?)) p1.isList p2.isList (by rw[n1,n2];exact hl) (aap (ab4 _ _) hu) (λj h1 h2=>by
     obtain⟨v,x,e1,e2,e3⟩:=M4 s1 r1 j h1
     obtain⟨w,y,f1,f2,f3⟩:=M4 s2 r2 j h2
     rw[e1,f1]
     have z:=Eqv.MN (K:=K) I (A:=A.in1) (by rw[W_];omega) e2 f2 e3 f3
     simpa using z)
    rw[n1,Uh hl] at z
    exact z
   ·rw[show decide (a=b)=false by simp;intro e;exact hl (by rw[e])]
    exact RcAt.lists_lengths p1.isList p2.isList (by rw[n1,n2];exact bne_iff_ne.mpr hl) (aap (ab4 _ _) hu)
def Bk(K:Frag)(α:Type)[Rp K α][DecidableEq α](neg:Bool):R2:=λx y H Q=>∃a b:α,rp K H x a/\rp K H y b/\Q (.bl (if neg=true then !decide (a=b) else decide (a=b))) H
theorem Ge(K:Frag)(α:Type)[Rp K α][DecidableEq α][Eqv K α]{X:Cx}(hr:bI k X.A)(hd:Eqv.dep K α<=64:=by exact Nat.le_of_ble_eq_true rfl):jU X (compareOp .Eq) (Bk K α false):=by
 intro pins s σ H x y v u Q I rx ry h
 obtain⟨a,b,h1,h2,q⟩:=h
 exact Eqv.Ue I (by have:=hr.units;omega) h1 h2 rx ry _ _ _ _ ⟨.bl (decide (a=b)),H,I,rfl,q⟩
theorem M5(K:Frag)(α:Type)[Rp K α][DecidableEq α][Eqv K α]{X:Cx}(hr:bI k X.A)(hd:Eqv.dep K α<=64:=by exact Nat.le_of_ble_eq_true rfl):jU X (compareOp .NotEq) (Bk K α true):=by
 intro pins s σ H x y v u Q I rx ry h
 obtain⟨a,b,h1,h2,q⟩:=h
 exact Eqv.Ug I (by have:=hr.units;omega) h1 h2 rx ry _ _ _ _ ⟨.bl (!decide (a=b)),H,I,rfl,q⟩
variable{B:Bs}{sl:SL K}{md md1:Md}{α β:Type}[Rp K α][Rp K β]{t1 t2 t:TE}
theorem Gf[DecidableEq α]{m1 m2:Option α}(h1:Ex B sl .hp t1 m1)(h2:Ex B sl .hp t2 m2):Ex B sl md (gF (Bk K α false) t1 t2) (m1.bind λa=>m2.bind λb=>some (decide (a=b))) :=
 Bc (λa b c v w H Q e r1 r2 q=>by cases e;exact⟨a,b,r1,r2,q⟩) h1 h2
theorem M6[DecidableEq α]{m1 m2:Option α}(h1:Ex B sl .hp t1 m1)(h2:Ex B sl .hp t2 m2):Ex B sl md (gF (Bk K α true) t1 t2) (m1.bind λa=>m2.bind λb=>some (!decide (a=b))) :=
 Bc (λa b c v w H Q e r1 r2 q=>by cases e;exact⟨a,b,r1,r2,q⟩) h1 h2
section
variable{m1 m2:Option Int}
theorem Qc{g:Int->Int->V}{f:Int->Int->α}[Sc K α](hg:∀i j,g i j=Sc.val K (f i j))(h1:Ex B sl .hp t1 m1)(h2:Ex B sl .hp t2 m2):Ex B sl md (gF (qg g) t1 t2) (m1.bind λa=>m2.bind λb=>some (f a b)) :=
 Bc (λa b c v w H Q e r1 r2 q=>by cases r1;cases r2;exact⟨a,b,rfl,rfl,by grind⟩) h1 h2
theorem Ui(h1:Ex B sl .hp t1 m1)(h2:Ex B sl .hp t2 m2):Ex B sl md (gF (qg λi j=>.int (i+j)) t1 t2) (m1.bind λa=>m2.bind λb=>some (a+b)):=Qc (λ_ _=>rfl) h1 h2
theorem Jg(h1:Ex B sl .hp t1 m1)(h2:Ex B sl .hp t2 m2):Ex B sl md (gF (qg λi j=>.int (i-j)) t1 t2) (m1.bind λa=>m2.bind λb=>some (a-b)):=Qc (λ_ _=>rfl) h1 h2
theorem Gg(h1:Ex B sl .hp t1 m1)(h2:Ex B sl .hp t2 m2):Ex B sl md (gF (qg λi j=>.bl (decide (i<j))) t1 t2) (m1.bind λa=>m2.bind λb=>some (decide (a<b))):=Qc (λ_ _=>rfl) h1 h2
theorem Uj(h1:Ex B sl .hp t1 m1)(h2:Ex B sl .hp t2 m2):Ex B sl md (gF (qg λi j=>.bl (decide (j<i))) t1 t2) (m1.bind λa=>m2.bind λb=>some (decide (b<a))):=Qc (λ_ _=>rfl) h1 h2
noncomputable def iU(a b:Int):Option Int:=if 0<b then some (a%b) else none
noncomputable def j_(a b:Int):Option Int:=if 0<b/\b<1073741824 then some (a/b) else none
theorem Jh(h1:Ex B sl .hp t1 m1)(h2:Ex B sl .hp t2 m2):Ex B sl md (gF (rI (λ_ j=>0<j) λi j=>.int (i%j)) t1 t2) (m1.bind λa=>m2.bind λb=>iU a b) :=
 Bc (λa b c v w H Q e r1 r2 q=>by
  unfold iU at e
  split at e
  case isFalse=>cases e
  rename_i hc
  cases e;cases r1;cases r2
  exact⟨a,b,rfl,rfl,hc,q⟩) h1 h2
theorem Qd(h1:Ex B sl .hp t1 m1)(h2:Ex B sl .hp t2 m2):Ex B sl md (gF (rI Ie λi j=>.int (i/j)) t1 t2) (m1.bind λa=>m2.bind λb=>j_ a b) :=
 Bc (λa b c v w H Q e r1 r2 q=>by
  unfold j_ at e
  split at e
  case isFalse=>cases e
  rename_i hc
  cases e;cases r1;cases r2
  exact⟨a,b,rfl,rfl,hc,q⟩) h1 h2
end
theorem A2.bL(h:A2 R vs xs)(e:L2.bL xs i=some a):∃v,L2.bL vs i=some v/\R v a:=by
 unfold L2.bL at e ⊢
 rw[h.len]
 cases q:qW xs.length i with
 |none=>grind
 |some j=>rw[q] at e;exact h.at2 e
theorem wF{m1:Option (List α)}{m2:Option Int}(h1:Ex B sl md t1 m1)(h2:Ex B sl .hp t2 m2):Ex B sl md (gF (oW K) t1 t2) (m1.bind λxs=>m2.bind λi=>L2.bL xs i):=λc hc F O H σ Q s k=>by
 obtain⟨xs,i,e1,e2,e3⟩:=nQ hc
 refine h1 xs e1 F O H σ _ s λv F' H' g r1=>?_
 refine h2 i e2 F' O H' σ _ (s.grow g) λw F2 H2 g2 r2=>?_
 cases r2
 obtain⟨p,vs,rfl,z1,z2⟩:=r1
 obtain⟨u,y1,y2⟩:=z2.bL e3
 have hle:=(match md with
  |.nw=>aK.trans g.ok.fh
  |.fz=>g.ok.fh
  |.hp=>.refl _:Same (reg B F' H' md) H').trans g2.hh
 exact⟨p,vs,i,u,rfl,rfl,aN.of (hle _ _ z1),y1,k u F2 H2 (g.trans g2) (Rp.mono (xG g2 md) y2)⟩
abbrev Ji(K:Frag):List V->Hp->VK->Prop:=λxs H Q=>∃p ys,xs=[.ref p]/\(aN K H p ys\/bT K H p ys)/\Q (.int ys.length) H
theorem qZ{m:Option (List α)}(h:Ex B sl .hp t m):Ex B sl md (rJ (Ji K) (yK t aU)) (m.bind λxs=>some (xs.length:Int)):=λc hc F O H σ Q s k=>by
 cases m with
 |none=>cases hc
 |some xs =>
  cases(hc)
  refine h xs rfl F O H σ _ s λv F' H' g r1=>?_
  obtain⟨p,vs,rfl,z1,z2⟩:=r1
  exact⟨p,vs,rfl,.inl (aN.of z1),k _ F' H' g (by show V.int vs.length=V.int xs.length;rw[z2.len])⟩
abbrev Gh(K:Frag):List V->Hp->VK->Prop:=λxs H Q=>∃p ys,xs=[V.ref p]/\(aN K H p ys\/bT K H p ys)/\∀l,H l=none->Q (.ref l) (upd H l (.lst ys))
theorem A2.sc{F F':Hp}[Sc K α]{vs:List V}{xs:List α}(h:A2 (rp K F) vs xs):A2 (rp K F') vs xs:=h.imp λ_ _=>uy
theorem Jj[Sc K α]{m:Option (List α)}(h:Ex B sl .hp t m):Eo B sl md (rJ (Gh K) (yK t aU)) m:=λc hc F O H σ Q s k=>by
 refine h c hc F O H σ _ s λv F' H' g r1=>?_
 obtain⟨p,vs,rfl,z1,z2⟩:=r1
 exact⟨p,vs,rfl,.inl (aN.of z1),λl hl=>k l vs F' H' g hl z2.sc⟩
class Fl (K:Frag) (α:Type) [Rp K α] [Sc K α] [DecidableEq α]:Prop where
 flat:∀a:α,yq (Sc.val K a)=true
 eq:∀a b:α,yr (Sc.val K a) (Sc.val K b)=decide (a=b)
instance:Fl K Int:=⟨λ_=>rfl,λa b=>by show(a==b)=_;exact pq a b⟩
instance:Fl K Str:=⟨λ_=>rfl,λa b=>by show(a==b)=_;exact pq a b⟩
theorem A2.vals[Sc K α]:∀{vs:List V}{xs:List α},A2 (rp K F) vs xs->vs=xs.map (Sc.val K)
 |[],[],_=>rfl
 |_::_,_::_,h=>by rw[map_cons,Sc.is.mp h.1,A2.vals h.2]
 |[],_::_,h=>h.elim
 |_::_,[],h=>h.elim
theorem Xa[Sc K α][DecidableEq α][Fl K α](a:α):∀xs:List α,inV (Sc.val K a) (xs.map (Sc.val K))=decide (a∈xs)
 |[]=>by simp[inV]
 |x::xs=>by
  have ih:=Xa a xs
  unfold inV at ih ⊢
  rw[map_cons,any_cons,Fl.eq]
  grind
theorem zQ4[Sc K α][DecidableEq α][Fl K α](xs:List α):(xs.map (Sc.val K)).all yq=true:=by
 rw[List.all_map,all_eq_true]
 intro x _
 exact Fl.flat x
theorem Qe[Sc K α][DecidableEq α][Fl K α]{m1:Option α}{m2:Option (List α)}(h1:Ex B sl .hp t1 m1)(h2:Ex B sl .hp t2 m2):Ex B sl md (gF (T3 K false) t1 t2) (m1.bind λa=>m2.bind λxs=>some (decide (a∈xs))) :=
 Bc (λa b c v w H Q e r1 r2 q=>by
  cases e
  obtain⟨p,vs,rfl,z1,z2⟩:=r2
  have ev:=Sc.is.mp r1
  have es:=z2.vals
  subst ev es
  refine⟨p,_,rfl,.inl (aN.of z1),Fl.flat a,zQ4 b,?_⟩
  have:=Xa (K:=K) a b
  rw[this]
  exact q) h1 h2
theorem Qf{m:Option (Option α)}(h:Ex B sl .hp t m):Ex B sl md (Ol t) (m.bind λa=>some a.isNone):=λc hc F O H σ Q s k=>by
 cases m with
 |none=>cases hc
 |some a =>
  cases(hc)
  refine h a rfl F O H σ _ s λv F' H' g r1=>?_
  cases a with
  |none=>cases r1;exact k _ F' H' g rfl
  |some x=>rw[decide_eq_false r1.1];exact k _ F' H' g rfl
theorem Bo{m:Option (Option α)}(h:Ex B sl .hp t m):Ex B sl md (Fe t) (m.bind λa=>some a.isSome):=λc hc F O H σ Q s k=>by
 cases m with
 |none=>cases hc
 |some a =>
  cases(hc)
  refine h a rfl F O H σ _ s λv F' H' g r1=>?_
  cases a with
  |none=>cases r1;exact k _ F' H' g rfl
  |some x=>rw[decide_eq_false r1.1];exact k _ F' H' g rfl
theorem M7{m:Option (Option α)}(h:Ex B sl md t m):Ex B sl md t (m.bind λa=>a):=λc hc F O H σ Q s k=>by
 cases m with
 |none=>cases hc
 |some a =>
  cases a with
  |none=>cases hc
  |some x =>
   have e:=aam hc
   subst e
   exact h (some x) rfl F O H σ _ s λv F' H' g r1=>k v F' H' g r1.2
class Ty (K:Frag) (α:Type) [Rp K α] where
 ty:Value
 is:∀{H:Hp}{v:V}{a:α},rp K H v a->iQ K H v ty
instance:Ty K Int:=⟨.type "int",λh=>by cases h;exact .int _⟩
instance:Ty K Str:=⟨.type "str",λh=>by cases h;exact .str _⟩
instance:Ty K (List α):=⟨.type "list",λ⟨p,vs,e,h,_⟩=>by rw[e];exact .lst h⟩
theorem Qg[Ty K α]{c:Value}{y:V}{b:Bool}{m:Option α}(hb:kitOne K (Ty.ty K α) c=some b)(hy:RelV y c)(h:Ex B sl .hp t m):Ex B sl md (rJ (Bb K c) (yK t (yK (tC y) aU))) (m.bind λ_=>some b):=λd hd F O H σ Q s k=>by
 cases m with
 |none=>cases hd
 |some a =>
  cases(show some b=some d from hd)
  refine h a rfl F O H σ _ s λv F' H' g r1=>?_
  exact⟨v,y,_,b,rfl,hy,Ty.is r1,hb,k _ F' H' g rfl⟩
end
def src(xss:List LI)(j:Nat):LI:=((aax xss.length).filter λk=>decide ((j:Int)∈xss.getD k [])).map acs
theorem gU{α:Type}{p q:α->Bool}:∀{l:List α},(∀x∈l,p x=q x)->l.filter p=l.filter q
 |[],_=>rfl
 |a::l,h=>by
  rw[filter_cons,filter_cons,h a mem_cons_self,gU λx b=>h x (mem_cons_of_mem _ b)]
theorem zSp(xss:List LI)(xs:LI)(j:Nat):src (xss++[xs]) j=src xss j++(if(j:Int)∈xs then[(xss.length:Int)] else[]):=by
 unfold src
 rw[length_append,length_singleton,List.range_succ,List.filter_append,map_append]
 congr 1
 ·congr 1
  refine gU λk hk=>?_
  grind
 grind
theorem zSo{xss:List LI}{i:Nat}{xs:LI}(h:xss[i]?=some xs)(j:Nat):src (xss.take (i+1)) j=src (xss.take i) j++(if(j:Int)∈xs then[(i:Int)] else[]):=by
 have a:=(aal.mp h).1
 rw[take_add_one,h]
 have e:(some xs:Option LI).toList=[xs]:=rfl
 rw[e,zSp,length_take,Nat.min_eq_left (ab3 a)]
theorem Bp(xss:List LI)(j:Nat):(src xss j).length<=xss.length:=by
 unfold src
 grind
theorem int_at{ns:LI}{i:Nat}{y:V}(h:(ns.map V.int)[i]?=some y):∃z,y=.int z/\ns[i]?=some z:=by
 rw[getElem?_map] at h
 cases e:ns[i]? with
 |none=>rw[e] at h;cases h
 |some z=>rw[e] at h;exact⟨z,(aam h).symm,rfl⟩
theorem Jk{bs:List Addr}{i:Nat}{y:V}(h:(bs.map V.ref)[i]?=some y):∃b,y=.ref b/\bs[i]?=some b:=by
 rw[getElem?_map] at h
 cases e:bs[i]? with
 |none=>rw[e] at h;cases h
 |some z=>rw[e] at h;exact⟨z,(aam h).symm,rfl⟩
theorem Bq{bs:List Addr}{i:Nat}{b:Addr}(h:bs[i]?=some b):(bs.map V.ref)[i]?=some (.ref b):=by rw[getElem?_map,h]<;>rfl
theorem xC{α:Type}{xs:List α}{x:α}(h:xs[i]?=some x):i<xs.length:=(aal.mp h).1
theorem zQl{i:Nat}(h:i<1920):((i:Int)).natAbs.log2<1920:=by
 exact aap (Nat.log2_le_self i) h
theorem zGl{ns:LI}(nd:ns.Nodup)(h:ns[i]?=some z):¬z∈ns.take i:=λhz=>by
 obtain⟨j,hj⟩:=mem_iff_getElem?.mp hz
 have hji:j<i:=by
  have:=xC hj
  rw[length_take] at this
  omega
 rw[getElem?_take_of_lt hji] at hj
 have hi:=xC h
 have hjl:=xC hj
 rw[aaj hi] at h
 rw[aaj hjl] at hj
 have e:ns[j]=ns[i]:=(aam hj).trans (aam h).symm
 have:=(getElem_inj nd).mp e
 omega
theorem uD{α:Type}{ns:List α}{z x:α}(h:ns[i]?=some z):x∈ns.take (i+1)↔x∈ns.take i\/x=z:=by
 rw[take_add_one,h]
 simp
def pA(K:Frag)(H:Hp)(bs:List Addr)(xss:List LI):Prop:=bs.length=xss.length/\∀(i:Nat)(b:Addr),bs[i]?=some b->∃c:LI,xss[i]?=some c/\aN K H b (c.map V.int)
theorem pA.same(r:pA K H bs xss)(s:Same H H'):pA K H' bs xss:=⟨r.1,λi b h=>let⟨d,a,c⟩:=r.2 i b h;⟨d,a,s.seq c⟩⟩
def Uk(n:Nat)(xss:List LI):Prop:=xss.length=n/\∀a∈xss,a≠[]/\a.Nodup/\a.length<=100/\∀z∈a,0<=z/\z<(n:Int)
def pB(H:Hp)(b:List Addr)(a:Nat->LI):Prop:=∀(j:Nat)(c:Addr),b[j]?=some c->H c=some (.lst ((a j).map V.int))
structure Bl(K:Frag)(mg:Str->Option Value):Prop where
 len:mg "len" = none
 range:mg "range" = none
 nU:mg "isinstance" = none
 int:mg "int" = none
 bool:mg "bool" = none
 list:mg "list" = none
 enum:mg "enumerate" = none
 ii:kitOne K (.type "int") (.type "int")=some true
 ib:kitOne K (.type "int") (.type "bool")=some false
 ll:kitOne K (.type "list") (.type "list")=some true
theorem Qh:kitOne K (.type "int") (.type "int")=some true:=rfl
theorem Qi:kitOne K (.type "list") (.type "list")=some true:=rfl
theorem Qj:kitOne K (.type "int") (.type "bool")=some false:=by
 first|rfl|grind
theorem vW:bootBuiltins "isinstance" = some (.builtin "isinstance"):=by decide +kernel
theorem Xb:bootBuiltins "int" = some (.type "int"):=by decide +kernel
theorem Br:bootBuiltins "bool" = some (.type "bool"):=by decide +kernel
theorem Bt:bootBuiltins "list" = some (.type "list"):=by decide +kernel
structure News(H H':Hp)(cs:List Addr)(xss:List (List V)):Prop where
 len:cs.length=xss.length
 at_:∀(i:Nat)(c:Addr),cs[i]?=some c->∃xs,xss[i]?=some xs/\H' c=some (.lst xs)
 new:∀c∈cs,H c=none
 nd:cs.Nodup
theorem News.nil:News H H' [] []:=⟨rfl,λi c h=>(by simp at h),λc h=>(by cases h),List.nodup_nil⟩
theorem News.snoc(n:News H H1 cs xss)(s:Same H H1)(h:H1 l=none):News H (upd H1 l (.lst xs)) (cs++[l]) (xss++[xs]):=by
 have hl:∀c∈cs,c≠l:=λc hc e=>by
  obtain⟨i,hi⟩:=mem_iff_getElem?.mp hc
  obtain⟨ys,_,q⟩:=n.at_ i c hi
  rw[e,h] at q
  cases q
 refine⟨by rw[length_append,length_append,n.len]<;>rfl,λi c hc=>?_,λc hc=>?_,?_⟩
 ·by_cases hi:i<cs.length
  ·rw[getElem?_append_left hi] at hc
   obtain⟨ys,h1,h2⟩:=n.at_ i c hc
   refine⟨ys,?_,?_⟩
   ·rw[getElem?_append_left (by rw[<-n.len];exact hi)];exact h1
   ·rw[zN (hl c (mem_of_getElem? hc))];exact h2
  ·rw[getElem?_append_right (by omega)] at hc
   have hi2:i-cs.length=0:=by
    have:=xC hc
    simp at this
    omega
   rw[hi2] at hc
   have e:l=c:=aam hc
   subst e
   refine⟨xs,?_,zJ⟩
   rw[getElem?_append_right (by rw[<-n.len];omega),<-n.len,hi2]<;>rfl
 ·rcases mem_append.mp hc with hc|hc
  ·exact n.new c hc
  ·rw[mem_singleton.mp hc];exact s.free h
 ·rw[nodup_append]
  refine⟨n.nd,by simp,λa ha b hb e=>?_⟩
  rw[mem_singleton.mp hb] at e
  exact hl a ha e
theorem News.Qk(n:News H H' c xss)(h:H' r=none):r∉c:=λb=>by
 obtain⟨i,a⟩:=mem_iff_getElem?.mp b
 obtain⟨ys,_,q⟩:=n.at_ i r a
 grind
structure aF(C:Addr) where
 steps:List LI
 marks:List (Str×LI)
 fair:List LI
 sources:List LI
def Xc:List Str:=["many","next_of","before","marked","fair_at","names_at"]
def srcs(xss:List LI):List LI:=(aax xss.length).map (src xss)
def hid(H:Hp)(p:Addr):Hp:=λb=>if b=p then none else H b
section
variable{K:Frag}{C:Addr}
instance:Rp K (aF C):=⟨λF v m=>∃p dx fs vS vM vF vB,v=.ref p/\F p=some (.ins C dx fs)/\fs.lookup ("steps":Str)=some vS/\rp K F vS m.steps/\fs.lookup ("marks":Str)=some vM/\rp K F vM m.marks/\fs.lookup ("fair":Str)=some vF/\rp K F vF m.fair /\
 fs.lookup ("sources":Str)=some vB/\rp K F vB m.sources/\∀g∈Xc,fs.lookup g=none,
 λs h=>by
  obtain⟨p,dx,fs,vS,vM,vF,vB,h1,h2,h3,h4,h5,h6,h7,h8,h9,h10,h11⟩:=h
  exact⟨p,dx,fs,vS,vM,vF,vB,h1,s _ _ h2,h3,Rp.mono s h4,h5,Rp.mono s h6,h7,Rp.mono s h8,h9,Rp.mono s h10,h11⟩⟩
theorem uU(ns:LI):A2 (rp K F) (ns.map V.int) ns:=A2.of_map (f:=V.int) (λ_=>rfl) ns
theorem zR3:∀{cs:List Addr}{xss:List LI},cs.length=xss.length->(∀(i:Nat)(c:Addr),cs[i]?=some c->∃xs,xss[i]?=some xs/\F c=some (.lst (xs.map V.int)))->A2 (rp K F) (cs.map V.ref) xss
 |[],[],_,_=>trivial
 |c::cs,xs::xss,hl,h=>by
  obtain⟨ys,e1,e2⟩:=h 0 c rfl
  cases e1
  exact⟨⟨c,_,rfl,e2,uU _⟩,zR3 (by simpa using hl) λi c' hc=>h (i+1) c' hc⟩
 |[],_::_,hl,_=>by simp at hl
 |_::_,[],hl,_=>by simp at hl
theorem zPb{xss:List LI}(h:i<xss.length):(srcs xss)[i]?=some (src xss i):=by
 unfold srcs
 rw[getElem?_map,getElem?_range h]
 rfl
theorem Bu{a:List Addr}{xss:List LI}(d:a.length=xss.length)(n:pB H' a (src xss))(h:∀c∈a,∀o,H' c=some o->D c=some o):A2 (rp K D) (a.map V.ref) (srcs xss):=by
 refine zR3 (by rw[d];unfold srcs;simp) λi c b=>?_
 have hi:=xC b
 exact⟨_,zPb (by omega),h c (mem_of_getElem? b) _ (n i c b)⟩
end
section
variable{K:Frag}{B:Bs}{F H F' H' G:Hp}{O:Own}{sl:SL K}{σ:St}{md:Md}{α β:Type}[Rp K α][Rp K β]{te ta:TE}{C:Addr}
theorem Um{d:aF C->α}(cl:Cls K C)(i:aY K C f)(j:∀(R:Hp) (v:V) (x:aF C),rp K R v x->∃p b fs w,v=.ref p/\R p=some (.ins C b fs)/\fs.lookup f=some w/\rp K R w (d x))(h:Ex B sl md ta m) :
  Ex B sl md (nJ K ta f) (m.bind λx=>some (d x)):=λc e F O H σ Q s k=>by
 cases m with
 |none=>cases e
 |some x =>
  cases(e)
  refine h x rfl F O H σ _ s λv F' H' g r=>?_
  obtain⟨p,b,fs,w,rfl,l,o,n⟩:=j _ v x r
  have a:Same (reg B F' H' md) H':=match md with
   |.nw=>aK.trans g.ok.fh
   |.fz=>g.ok.fh
   |.hp=>.refl _
  exact⟨p,C,b,fs,w,rfl,a _ _ l,cl,i,o,k w F' H' g n⟩
theorem zJi{m:Option (aF C)}(cl:Cls K C)(g:aY K C "steps")(h:Ex B sl md ta m):Ex B sl md (nJ K ta "steps") (m.bind λx=>some x.steps) :=
 Um cl g (by rintro R v x ⟨p,b,c,a,vM,vF,vB,e,i,f,d,_⟩;exact⟨p,b,c,a,e,i,f,d⟩) h
theorem zQ9{m:Option (aF C)}(cl:Cls K C)(f:aY K C "marks")(h:Ex B sl md ta m):Ex B sl md (nJ K ta "marks") (m.bind λx=>some x.marks) :=
 Um cl f (by rintro R v x ⟨p,b,c,vS,i,vF,vB,e,g,_,_,a,d,_⟩;exact⟨p,b,c,i,e,g,a,d⟩) h
theorem zMf{m:Option (aF C)}(cl:Cls K C)(g:aY K C "fair")(h:Ex B sl md ta m):Ex B sl md (nJ K ta "fair") (m.bind λx=>some x.fair) :=
 Um cl g (by rintro R v x ⟨p,b,c,vS,vM,d,vB,f,i,_,_,_,_,a,e,_⟩;exact⟨p,b,c,d,f,i,a,e⟩) h
theorem zK4{m:Option (aF C)}(cl:Cls K C)(g:aY K C "sources")(h:Ex B sl md ta m):Ex B sl md (nJ K ta "sources") (m.bind λx=>some x.sources) :=
 Um cl g (by rintro R v x ⟨p,i,c,vS,vM,vF,e,f,b,_,_,_,_,_,_,d,a,_⟩;exact⟨p,i,c,e,f,b,d,a⟩) h
theorem Bv{A:Type}{as:A->SL K}{f:aF C×A->Option β}{e:Option A}(z:g∈Xc)(h0:Ex B sl .hp ta k)(h:Ea B sl .hp t as e) :
  Ex B sl md (O8 C g (b_ K false (λx:aF C×A=>.fz false x.1::as x.2) f) [] E0 ta t) (k.bind λx=>e.bind λa=>f (x,a)):=λc i F O H σ Q s u=>by
 cases k with
 |none=>cases i
 |some x =>
  cases e with
  |none=>cases i
  |some a =>
   refine h0 x rfl F O H σ _ s λv w J l q=>?_
   obtain⟨p,y,E,vS,vM,vF,vB,rfl,I,h3,h4,h5,h6,h7,h8,h9,h10,d⟩:=id q
   refine⟨p,y,E,rfl,I,d g z,?_⟩
   refine h a rfl w O J σ _ (s.grow l) λvs F' H' b r=>?_
   rw[append_nil]
   refine⟨(x,a),c,H',.refl _,i,.cons (Rp.mono b.hh q) r,λv D n L=>?_⟩
   have o:=b.ok.called n
   refine u v _ D (l.trans (b.trans o)) ?_
   have j:=Rp.mono (I_ (F:=F') b.ok.h0 n) L
   exact match md with
   |.nw=>j
   |.fz=>Rp.mono aK j
   |.hp=>Rp.mono (aK.trans o.ok.fh) j
noncomputable def En(B:Bs)(sl:SL K)(t:TE){α:Type}[Rp K α](m:Option α):Prop :=
 ∀a,m=some a->∀(F:Hp)(O:Own)(H:Hp)(σ:St)(Q:VK),At B sl F O H σ->(∀(v:V)(F' c b:Hp),aX B F H O F' c->Same c b->rp K (dif b c) v a->Q v b)->t σ H Q
theorem Uo{A:Type}{as:A->SL K}{f:A->Option β}{ta:TA}{b:Option A}(h:Ea B sl .hp ta as b):En B sl (rH (b_ K false as f) [] E0 ta) (b.bind f):=λc d F O H σ Q s e=>by
 cases b with
 |none=>cases d
 |some a =>
  refine h a rfl F O H σ _ s λvs F' H' g r=>?_
  rw[append_nil]
  exact⟨a,c,H',.refl _,d,r,λv j k i=>e v F' H' j g k i⟩
theorem En.ex{m:Option α}(h:En B sl te m):Ex B sl md te m:=λc f F O H σ Q s e=>h c f F O H σ Q s λv F' H1 i g b j=>by
 have d:=g.ok.called b
 refine e v _ i (g.trans d) ?_
 have a:=Rp.mono (I_ (F:=F') g.ok.h0 b) j
 exact match md with
 |.nw=>a
 |.fz=>Rp.mono aK a
 |.hp=>Rp.mono (aK.trans d.ok.fh) a
class IsL (K:Frag) (α:Type) [Rp K α]:Prop where
 il:∀{F:Hp}{v:V}{a:α},rp K F v a->∃p vs,v=.ref p/\F p=some (.lst vs)
abbrev Jl:Slot K->Bool
 |@Slot.hs _ _ _ _=>true
 |@Slot.nu _ _ _ _=>true
 |_=>false
theorem ak.calm(h:ak B F L H sl σ O)(hn:sl.all (λs=>!Jl s)=true):ak B F L' H' sl σ O:=by
 induction h with
 |nil=>exact .nil
 |un _ ih=>exact .un (ih (by grind))
 |fz r _ ih=>exact .fz (Rp.mono (yI _ (.refl _)) r) (ih (by grind))
 |hs r _ ih=>grind
 |nu r _ ih=>grind
 |ow r _ ih=>exact .ow (r.imp λ_ _=>Rp.mono (yI _ (.refl _))) (ih (by grind))
 |od r _ ih=>exact .od r (ih (by grind))
 |ob r _ ih=>exact .ob (Ob.mono (yI _ (.refl _)) r) (ih (by grind))
instance(n:Nat)(xss:List LI):Decidable (Uk n xss):=by unfold Uk;infer_instance
theorem zVm{s:Slot K}(i:Nat)(b:sl[i]?=some (.fz n x))(h:Ex B sl .hp te m):Sn B sl (Oz i te (Tf f)) (λa=>sl.set i (.fz true a)) (m.bind λy=>some (f x y)):=λa d G D σ H s k=>by
 cases m with
 |none=>cases d
 |some y =>
  cases(d)
  obtain⟨F,O,g,z⟩:=s
  obtain⟨v,j,e⟩:=z.2.oY b
  subst e
  refine⟨_,j,h y rfl F O H σ _ z λw F' H' c r=>?_⟩
  cases r
  exact⟨x,y,rfl,rfl,k _ _ (Sg.set (g.trans c.ff) (z.grow c) b rfl rfl)⟩
end
section
variable{K:Frag}{X:Cx}
theorem zVx(K:Frag)(h:X.K=K:=by rfl):jU X (compareOp .In) (T3 K false):=by subst h;exact zP4
theorem bQ(K:Frag)(h:X.K=K:=by rfl):Pn X (oW K):=by subst h;exact wI
theorem u5(K:Frag)(h:X.K=K:=by rfl):Pn X (uf K):=by subst h;exact yp
theorem uS(K:Frag)(h:X.K=K:=by rfl):qU X (.builtin "len") (Ji K):=by subst h;exact vT
theorem Jm(K:Frag)(h:X.K=K:=by rfl):qU X (.type "list") (Gh K):=by subst h;exact zJu
theorem vV(K:Frag)(a:∀y u,RelV y c->RelV y u->u=c)(h:X.K=K:=by rfl):qU X (.builtin "isinstance") (Bb K c):=by subst h;exact zU2 a
theorem Gi(K:Frag)(b:PE X e c)(h:X.K=K:=by rfl)(a:attributeBase e f X.env (eval e X.env)=eval e X.env:=by rfl):PE X (.Attribute e f pos) (nJ K c f):=by subst h;exact ZF b a
theorem yU(K:Frag)(b:PE X l a)(h:X.K=K:=by rfl):PI X tg l (Tj K a):=by subst h;exact V6 b
theorem Xd(K:Frag)(b:X.mg "enumerate" = none)(f:PA X [a] c)(h:X.K=K:=by rfl)(e:Gl X "enumerate":=by rfl)(d:starEach [a] X.env=[(false,eval a X.env)]:=by rfl) :
  PI X (.Tuple elts k tp) (.Call (.Name "enumerate" p) [a] [] pos) (uw K c):=by subst h;exact zPw e b f d
theorem ql(K:Frag){o e:Expr}{es:List Expr}{k:TE}{t:TA}{name:Str}{c a:Pos}{T id:String}{r:V->List V->Hp->VK->Prop}(n:PlainAttrs T)(g:PySem.Slot T name id)(j:typeOf (.builtin id)=pure (.type "method_descriptor"))(m:Mw X id r)(l:PE X o k)(q:PA X (e::es) t)(h:X.K=K:=by rfl)(f:attributeBase o name X.env (eval o X.env)=eval o X.env:=by rfl)(i:((backTo a (starEach (e::es) X.env)).all (λx=>!x.1)&&(backToKw a (keywordEach [] X.env)).all (λx=>x.1.isSome)
   && decide ((e::es).length+([]:List Keyword).length+(if([]:List Keyword).isEmpty then 0 else 1)<30))=true:=by rfl)(d:(c.endLine==a.line)=true:=by rfl)(p:starEach (e::es) X.env=(false,eval e X.env)::starEach es X.env:=by rfl)(b:(backTo a (starEach es X.env)).any (·.1)=false:=by rfl) :
  PE X (.Call (.Attribute o name c) (e::es) [] a) (Ay K T r k t):=by subst h;exact FT n g j m l q f i d p b
theorem Xe(K:Frag){o:Expr}{g:TE}{name:Str}{b a:Pos}{T id:String}{r:V->List V->Hp->VK->Prop}(i:PlainAttrs T)(e:PySem.Slot T name id)(f:typeOf (.builtin id)=pure (.type "method_descriptor"))(k:Mw X id r)(j:PE X o g)(h:X.K=K:=by rfl)(d:attributeBase o name X.env (eval o X.env)=eval o X.env:=by rfl)(c:(b.endLine==a.line)=true:=by rfl):PE X (.Call (.Attribute o name b) [] [] a) (uh K T r g):=by subst h;exact Iz i e f k j d c
theorem Jo:bootBuiltins "any" = some (.builtin "any"):=by decide +kernel
theorem Jp:bootBuiltins "all" = some (.builtin "all"):=by decide +kernel
theorem Xf:bootBuiltins "sorted" = some (.builtin "sorted"):=by decide +kernel
theorem u_:Et B sl rO (some true):=λa b F O H σ Q s k=>by cases b;exact k F H (.refl s.1)
theorem zc{α:Type}:∀c:List α,some []=some c->c.length<=0:=λc h=>by grind
theorem wM{α:Type}{m:Option α}{ma:Option (List α)}(h:∀b,ma=some b->b.length<=n):∀c,(m.bind λa=>ma.bind λb=>some (a::b))=some c->c.length<=n+1:=λc e=>by
 cases m with
 |none=>cases e
 |some a =>
  cases ma with
  |none=>cases e
  |some b=>cases e;exact abq (h b rfl)
theorem bnd{α β:Type}(a:α)(f:α->Option β):(some a).bind f=f a:=(λ(x:Option α) (e:x=some a)=>by grind:∀x,x=some a->x.bind f=f a) _ rfl
def fuel:Nat:=100000
structure bw(P:Program)(w:World)(K:Frag)(mg:Str->Option Value)(base:Heap)(k:Nat)(x:Str)(ps:List Str)(sp:Sp):Prop where
 ex:∃f fd,aq P w K mg base aP k f fd ps sp/\Binds K fd ps []/\keepIn K (.ref f)=true/\mg x=some (.ref f)
structure dZ(P:Program)(w:World)(K:Frag)(mg:Str->Option Value)(base:Heap)(k:Nat)(C:Addr)(m:Str)(ps:List Str)(sp:Sp):Prop where
 ex:∃f fd,aq P w K mg base aP k f fd ps sp/\Binds K fd ps []/\Meth K C m f
 cl:Cls K C
theorem bw.mono(c:bw P w K mg base j x ps sp)(h:j<=k):bw P w K mg base k x ps sp:=by
 obtain⟨f,d,a,b⟩:=c.ex
 exact⟨f,d,a.mono h,b⟩
theorem dZ.mono(c:dZ P w K mg base j C x ps sp)(h:j<=k):dZ P w K mg base k C x ps sp:=by
 obtain⟨f,d,a,b⟩:=c.ex
 exact⟨⟨f,d,a.mono h,b⟩,c.cl⟩
theorem zX(c:bw X.prog X.w X.K X.mg X.base k x ps sp)(i:bI k X.A)(m:PA X (e::es) t)(l:Gl X x:=by rfl)(a:(x==("__debug__":Str))=false:=by decide)(j:starEach (e::es) X.env=(false,eval e X.env)::starEach es X.env:=by rfl)(b:(backTo pos (starEach es X.env)).any (·.1)=false:=by rfl):PE X (.Call (.Name x p) (e::es) [] pos) (rH sp [] E0 t):=by
 obtain⟨f,fd,g,n,h,d⟩:=c.ex
 exact Ik g i l d h n .nil xR m a j b
theorem Ql(c:dZ X.prog X.w X.K X.mg X.base k C m ps sp)(j:bI k X.A)(l:PE X o n)(p:PA X (e::es) t)(b:starEach (e::es) X.env=(false,eval e X.env)::starEach es X.env:=by rfl)(d:(backTo pos (starEach es X.env)).any (·.1)=false:=by rfl)(h:eval (.Call (.Attribute o m a) (e::es) [] pos) X.env=(do
   let g <-eval o X.env
   standAt a.atName
   let(f,first) <-holding [g] (getMethod g m pl)
   callWith pos f first (backTo pos (starEach (e::es) X.env)) (backToKw pos (keywordEach [] X.env))):=by rfl):PE X (.Call (.Attribute o m a) (e::es) [] pos) (O8 C m sp [] E0 n t):=by
 obtain⟨f,fd,r,q,i⟩:=c.ex
 exact Am l c.cl i r j q .nil xR p b d h
theorem Uq(c:dZ X.prog X.w X.K X.mg X.base k C m ps sp)(h:bI k X.A)(i:PE X o j)(d:eval (.Call (.Attribute o m a) [] [] pos) X.env=(do
   let b <-eval o X.env
   standAt a.atName
   let(f,first) <-holding [b] (getMethod b m pl)
   callWith pos f first (backTo pos (starEach [] X.env)) (backToKw pos (keywordEach [] X.env))):=by rfl):PE X (.Call (.Attribute o m a) [] [] pos) (O8 C m sp [] E0 j aU):=by
 obtain⟨f,fd,e,l,g⟩:=c.ex
 exact zTk i c.cl g e h l .nil xR d
end
section
variable{P:Program}{w:World}{K:Frag}{mg:Str->Option Value}{base:Heap}
theorem yJ{A β:Type}[Rp K β]{as:A->SL K}{e:A->Option β}(F:aV K x d st f i)(S:ao N ps (zH st))(o:∀a,(as a).all isF=true)(g:∀a,(as a).length=ps.length)(l:∀(c:Value) (A:Around) (b:List Env) (s:Shared) (H:Hp) (E:XK),bI k (A.deeper (acy d (zH st) s.heap.objs.size f c)) ->
   ∃t,oM (lY aP P w K mg base N d (zH st) f c A b s H E).Aa (xY st) t/\∀j a,SB ⟨j,H⟩ (as a++replicate (N.length-ps.length) .un) t al (e a)) :
  aq P w K mg base aP (k+1) f i ps (b_ K al as e) :=
 F.ok S (λm H Q E h=>zVl g h) λc A b s H m Q E n h=>by
  obtain⟨t,p,q⟩:=l c A b s H E n
  exact⟨t,p,zSr o g q h⟩
end
noncomputable def W{α:Type}(m:Option α)(P:α->Prop):Prop:=∃a,m=some a/\P a
section
variable{α β S:Type}
theorem aj:W (some a) P↔P a:=⟨λ⟨_,e,h⟩=>by grind,λh=>⟨a,rfl,h⟩⟩
theorem Gj:W (none:Option α) P↔False:=⟨λ⟨_,e,_⟩=>(by cases e),abd⟩
theorem zC{m:Option α}:W (m.bind f) Q↔W m λa=>W (f a) Q:=by
 cases m with
 |none=>exact⟨λ⟨_,e,_⟩=>(by cases e),λ⟨_,e,_⟩=>(by cases e)⟩
 |some a=>exact⟨λh=>⟨a,rfl,h⟩,by rintro⟨_,e,h⟩;grind⟩
theorem Ur:W ((Out.nx s:Out S β).els f) Q↔W (f s) Q:=aeu
theorem W.imp{Q:α->Prop}(h:W m P)(f:∀a,P a->Q a):W m Q:=let⟨a,e,p⟩:=h;⟨a,e,f a p⟩
theorem Qm:W (iU a b) Q↔0<b/\Q (a%b):=by
 unfold iU
 split
 ·rw[aj];grind
 ·rw[Gj];grind
theorem Us:W (j_ a b) Q↔(0<b/\b<1073741824)/\Q (a/b):=by
 unfold j_
 split
 ·rename_i h;rw[aj];exact⟨λq=>⟨h,q⟩,λq=>q.2⟩
 ·rename_i h;rw[Gj];exact⟨abd,λq=>h q.1⟩
theorem tM:W (push xs a) Q↔xs.length<cap/\Q (xs++[a]):=by
 unfold push
 split
 ·rename_i h;rw[aj];exact⟨λq=>⟨h,q⟩,λq=>q.2⟩
 ·rename_i h;rw[Gj];exact⟨abd,λq=>h q.1⟩
def rng(n:Int):LI:=(aax n.toNat).map acs
theorem cU:W (bW n) Q↔(-(2^62)<=n/\n<2^62)/\Q (rng n):=by
 unfold bW rng
 split
 ·rename_i h;rw[aj];exact⟨λq=>⟨h,q⟩,λq=>q.2⟩
 ·rename_i h;rw[Gj];exact⟨abd,λq=>h q.1⟩
theorem zf(h:0<=n):((rng n).length:Int)=n:=by
 unfold rng
 grind
theorem Xg{n:Int}{i:Nat}{x:Int}(h:(rng n)[i]?=some x):x=i/\(i:Int)<n:=by
 obtain⟨a,b⟩:=W5 h
 exact⟨b,by omega⟩
theorem nY:x∈rng n↔0<=x/\x<n:=by
 unfold rng
 rw[mem_map]
 constructor
 ·grind
 ·intro⟨h1,h2⟩
  exact⟨x.toNat,mem_range.mpr (by omega),by grind⟩
theorem zWf(h:0<=i):L2.bL xs i=xs[i.toNat]?:=by
 unfold L2.bL qW
 rw[if_pos h]
 by_cases q:i<xs.length
 ·rw[if_pos q];rfl
 ·rw[if_neg q,abe (by omega)];rfl
theorem cV(h0:0<=i):W (L2.bL xs i) Q↔∃a,xs[i.toNat]?=some a/\Q a:=by
 rw[zWf h0]
 exact aeu
theorem zS4{xs:List α}{i:Int}{a:α}(h0:0<=i)(h1:i<xs.length):setAt xs i a=some (xs.set i.toNat a):=by
 unfold setAt qW
 rw[if_pos h0,if_pos h1]
 rfl
theorem Qn{xs:List α}{i:Int}{a:α}{Q:List α->Prop}(h0:0<=i)(b:i<xs.length):W (setAt xs i a) Q↔Q (xs.set i.toNat a):=by
 rw[zS4 h0 b,aj]
theorem vA{step:S->α->Option S}{Q:S->Prop}(I:Nat->S->Prop)(h0:I 0 s)(f:∀i x s,xs[i]?=some x->I i s->W (step s x) (I (i+1)))(g:∀s,I xs.length s->Q s):W (xN step xs s) Q:=by
 have key:∀(a:List α)(i:Nat)(s:S),(∀j x,a[j]?=some x->xs[i+j]?=some x)->i+a.length=xs.length->I i s->W (xN step a s) Q:=by
  intro a
  induction a with
  |nil=>intro i s _ c h;exact⟨s,rfl,g s ((c)▸h)⟩
  |cons y a ih =>
   intro i s d c h
   show W ((step s y).bind λb=>xN step a b) Q
   rw[zC]
   refine(f i y s (d 0 y rfl) h).imp λb e=>ih (i+1) b (λj x hx=>?_) (by grind) e
   have:=d (j+1) x (by grind)
   grind
 grind
theorem zGr{step:S->α->Option (Out S β)}:uE step (x::xs) s=(step s x).bind λo=>o.aO λs'=>uE step xs s':=by
 congr 1
theorem zR6{step:S->α->Option (Out S β)}{Q:Out S β->Prop}(I:Nat->S->Prop)(h0:I 0 s)(e:∀i x s,xs[i]?=some x->I i s->W (step s x) λo=>∃s',o=.nx s'/\I (i+1) s')(f:∀s,I xs.length s->Q (.nx s)):W (uE step xs s) Q:=by
 have key:∀(a:List α)(i:Nat)(s:S),(∀j x,a[j]?=some x->xs[i+j]?=some x)->i+a.length=xs.length->I i s->W (uE step a s) Q:=by
  intro a
  induction a with
  |nil=>intro i s _ c h;exact⟨.nx s,rfl,f s ((c)▸h)⟩
  |cons y a ih =>
   intro i s b c h
   rw[zGr,zC]
   refine(e i y s (b 0 y rfl) h).imp ?_
   rintro o ⟨s',rfl,d⟩
   refine ih (i+1) s' (λj x hx=>?_) (by grind) d
   have:=b (j+1) x (by grind)
   grind
 grind
theorem Bw{c:S->Option Bool}{a:S->Option S}(I:S->Prop)(μ:S->Nat)(h0:I s)(hk:μ s<k)(d:∀s,I s->W (c s) λb=>if b=true then W (a s) λs'=>I s'/\μ s'<μ s else Q s):W (Ga c a k s) Q:=by
 induction k generalizing s with
 |zero=>omega
 |succ k ih =>
  show W ((c s).bind λb=>if b=true then(a s).bind λs'=>Ga c a k s' else some s) Q
  rw[zC]
  refine(d s h0).imp λb h=>?_
  cases b with
  |true =>
   simp only[if_true]
   rw[zC]
   exact h.imp λs' ⟨e,h2⟩=>ih e (by omega)
  |false=>simpa[aj] using h
theorem zJs(c:α->Bool)(f:α->β):∀xs:List α,wJ (λx=>some (c x)) (λx=>some (f x)) xs=some ((xs.filter c).map f)
 |[]=>rfl
 |x::xs=>by
  have ih:=zJs c f xs
  show(some (c x)).bind _=_
  grind
theorem zWj(c:α->Bool)(f:α->β):W (bh (λx=>some (c x)) (λx=>some (f x)) xs) Q↔xs.length<cap/\Q ((xs.filter c).map f):=by
 unfold bh
 split
 ·rename_i h;rw[zJs,aj];exact⟨λq=>⟨h,q⟩,λq=>q.2⟩
 ·rename_i h;rw[Gj];exact⟨abd,λq=>h q.1⟩
theorem zQ5(xs:List α):xs.filter (λ_=>true)=xs:=List.filter_eq_self.mpr λ_ _=>rfl
theorem Jq(f:α->β):W (bh (λ_=>some true) (λx=>some (f x)) xs) Q↔xs.length<cap/\Q (xs.map f):=by
 rw[zWj (λ_=>true) f,zQ5]
theorem Jr[Decidable c]:W (if c then a else b) Q↔(c->W a Q)/\(¬c->W b Q):=by
 grind
theorem yS(h:n<=1000):n<cap:=aap h (by decide)
def aJ(n:Int)(xs:LI):Prop:=xs.Pairwise (· < ·)/\∀x∈xs,0<=x/\x<n
theorem aJ.nodup(h:aJ n xs):xs.Nodup:=h.1.imp λq=>Int.ne_of_lt q
theorem M8:aJ n []:=⟨.nil,λx h=>by cases h⟩
theorem zIq(h:aJ k xs)(h0:0<=k)(hk:k<n):aJ n (xs++[k]):=by
 refine⟨List.pairwise_append.mpr ⟨h.1,by simp,λx a y b=>?_⟩,λx a=>?_⟩
 ·rw[mem_singleton.mp b];exact(h.2 x a).2
 ·rcases mem_append.mp a with q|q
  ·have:=h.2 x q;omega
  grind
theorem zPn(h:aJ n xs)(l:n<=m):aJ m xs:=⟨h.1,λx a=>by have:=h.2 x a;omega⟩
theorem wB:∀{n:Nat}{xs:LI},xs.Nodup->(∀x∈xs,0<=x/\x<(n:Int))->xs.length<=n
 |0,xs,_,h=>by
  cases xs with
  |nil=>grind
  |cons x xs=>have:=h x mem_cons_self;omega
 |n+1,xs,a,h=>by
  by_cases q:(n:Int)∈xs
  ·have l:=List.length_erase_of_mem q
   have ih:=wB (n:=n) (xs:=xs.erase (n:Int)) (a.erase _) λx b=>by
    grind
   omega
  ·have ih:=wB (n:=n) a λx b=>by
    grind
   omega
end
end Ts
namespace L2
open PySem PySem.Spec PyProof.Rows
theorem Xh:∀{ns:LI}{a:List Value},Vals (ns.map V.int) a->IntsAre a ns
 |[],[],_=>.nil
 |n::ns,_::a,h=>by
  cases h with
  |cons r t =>
   obtain⟨k,rfl⟩:=r
   exact .cons n k (Xh t)
theorem uV:∀{ns:LI}{a:List Value},IntsAre a ns->Vals (ns.map V.int) a
 |_,_,.nil=>.nil
 |_,_,.cons n t h=>.cons ⟨t,rfl⟩ (uV h)
section
variable{X:Cx}
def Gk(K:Frag):List V->Hp->VK->Prop:=λc H Q=>∃(p:Addr)(b:LI),c=[.ref p]/\aN K H p (b.map V.int)/\b.length<64/\∀(l:Addr)(a:LI),H l=none->a.Perm b->a.Pairwise (· <= ·)->Q (.ref l) (upd H l (.lst (a.map V.int)))
theorem Xi(K:Frag)(m:X.K=K:=by rfl):qU X (.builtin "sorted") (Gk K):=by
 subst m
 intro pins s σ H xs us Q I r h
 obtain⟨p,ns,rfl,k,h64,q⟩:=h
 obtain⟨u,rfl,n⟩:=Fw r
 cases n
 obtain⟨d,g,j,hz⟩:=I.list k
 have i:=g.length
 rw[length_map] at i
 refine sorted_ints j.isList (Xh g) (by omega) λa c t f o=>?_
 obtain⟨e,he⟩:=sortedAll_at s.heap d a
 have l:=I.hok.fresh (abw _)
 refine⟨.ref (s.heap.objs.size+1),_,I.laid (λb ob w=>sortedAll_old w) (abw _) ?_,rfl,q _ c l f o⟩
 refine⟨?_,a.toList,e,uV t,?_⟩
 ·rw[length_map,f.length_eq]
  grind
 ·simp_all
theorem zEn{bs:List Bool}(r:Vals (bs.map V.bl) its):TruthOf prog w A (λi v=>its.toArray[i]?=some v) (λi=>bs.getD i false):=by
 intro i v s Q E hv hq
 have hv:its[i]?=some v:=by simpa using hv
 have hi:i<bs.length:=by
  have:=(aal.mp hv).1
  rw[<-r.length,length_map] at this
  exact this
 obtain⟨u,h1,h2⟩:=r.get (i:=i) (x:=.bl bs[i]) (by rw[getElem?_map,aaj hi]<;>rfl)
 rw[hv] at h1
 cases h1
 cases h2
 have hq:Q (bs.getD i false) s:=hq
 rw[getD_eq_getElem?_getD,aaj hi] at hq
 exact abn hq
theorem zPq{bs:List Bool}:((aax bs.length).any λi=>bs.getD i false)=bs.any id:=by
 rw[abo,any_eq_true,any_eq_true]
 constructor
 ·rintro⟨i,b,c⟩
  have a:=mem_range.mp b
  rw[getD_eq_getElem?_getD,aaj a] at c
  exact⟨_,getElem_mem a,c⟩
 ·rintro⟨x,b,c⟩
  obtain⟨i,a,e⟩:=getElem_of_mem b
  refine⟨i,mem_range.mpr a,?_⟩
  grind
theorem zPr{bs:List Bool}:((aax bs.length).all λi=>bs.getD i false)=bs.all id:=by
 rw[abo,all_eq_true,all_eq_true]
 constructor
 ·intro h x b
  obtain⟨i,a,e⟩:=getElem_of_mem b
  have z:=h i (mem_range.mpr a)
  grind
 ·intro h i a
  have a:=mem_range.mp a
  rw[getD_eq_getElem?_getD,aaj a]
  exact h _ (getElem_mem a)
def Xj(K:Frag)(f:List Bool->Bool):List V->Hp->VK->Prop:=λb H Q=>∃(p:Addr)(a:List Bool),b=[.ref p]/\aN K H p (a.map V.bl)/\Q (.bl (f a)) H
theorem Gm{s:Shared}{h':Heap}(a:∀b o,b∉[s.heap.objs.size]->(s.heap.push { cls:=.type "list_iterator",data:=.fields #[.ref l,.int 0 0] }).get? b=some o->h'.get? b=some o) :
  ∀b o,s.heap.get? b=some o->h'.get? b=some o:=λb o e=>a b o (λm=>aa9 _ (mem_singleton.mp m▸lt_size e)) (get?_push_of_some _ e)
theorem zRy(K:Frag)(l:X.calm=true)(m:X.K=K:=by rfl):qU X (.builtin "any") (Xj K λbs=>bs.any id):=by
 subst m
 intro pins s σ H xs us Q I r h
 obtain⟨p,bs,rfl,i,q⟩:=h
 obtain⟨u,rfl,f⟩:=Fw r
 cases f
 obtain⟨a,d,k,hz⟩:=I.list i
 have c:=k.isList
 have b:p<s.heap.objs.size:=by obtain⟨_,e,_⟩:=c;exact lt_size e
 refine call_any_walk (adn c ?_)
 refine⟨_,_,_,_,_,_,_,rfl,Walks.list (A:=X.A.in1) (I.ok.hd l) s.heap.objs.size p (aan b) a.toArray,⟨⟨_,get?_push_size _ rfl,rfl,rfl⟩,c.push _⟩,zEn d,λh' tk g=>?_⟩
 have j:a.toArray.size=bs.length:=by
  rw[size_toArray,<-d.length,length_map]
 rw[j,zPq]
 exact⟨.bl (bs.any id),H,I.kept (Gm g),rfl,q⟩
theorem zRz(K:Frag)(l:X.calm=true)(m:X.K=K:=by rfl):qU X (.builtin "all") (Xj K λbs=>bs.all id):=by
 subst m
 intro pins s σ H xs us Q I r h
 obtain⟨p,bs,rfl,i,q⟩:=h
 obtain⟨u,rfl,f⟩:=Fw r
 cases f
 obtain⟨a,d,k,hz⟩:=I.list i
 have c:=k.isList
 have b:p<s.heap.objs.size:=by obtain⟨_,e,_⟩:=c;exact lt_size e
 refine call_all_walk (adn c ?_)
 refine⟨_,_,_,_,_,_,_,rfl,Walks.list (A:=X.A.in1) (I.ok.hd l) s.heap.objs.size p (aan b) a.toArray,⟨⟨_,get?_push_size _ rfl,rfl,rfl⟩,c.push _⟩,zEn d,λh' tk g=>?_⟩
 have j:a.toArray.size=bs.length:=by
  rw[size_toArray,<-d.length,length_map]
 rw[j,zPr]
 exact⟨.bl (bs.all id),H,I.kept (Gm g),rfl,q⟩
end
end L2
namespace Ts
open PySem L2
def Ut(ns:LI):LI:=ns.mergeSort (λa b=>decide (a<=b))
noncomputable def iV(ns:LI):Option LI:=if ns.length<64 then some (Ut ns) else none
theorem vJ(ns:LI):(Ut ns).Perm ns:=List.mergeSort_perm _ _
theorem zD4(ns:LI):(Ut ns).Pairwise (· <= ·):=by
 have:=List.pairwise_mergeSort (le:=λa b=>decide (a<=b)) (λa b c h1 h2=>by grind) (λa b=>by grind) ns
 exact this.imp λh=>by grind
theorem zEs:∀{xs ys:LI},xs.Perm ys->xs.Pairwise (· <= ·)->ys.Pairwise (· <= ·)->xs=ys
 |[],ys,p,_,_=>(Perm.nil_eq p)
 |x::xs,[],p,_,_=>by simp_all
 |x::xs,y::ys,p,h1,h2=>by
  have a1:=pairwise_cons.mp h1
  have a2:=pairwise_cons.mp h2
  have e:x=y:=by
   have q1:=p.subset mem_cons_self
   have q2:=p.symm.subset mem_cons_self
   grind
  subst e
  rw[zEs (Perm.cons_inv p) a1.2 a2.2]
section
variable{K:Frag}{B:Bs}{sl:SL K}{md:Md}{t t1 t2:TE}{n:Bool}
theorem Xk(h:Ex B sl .hp t m):Eo B sl md (rJ (Gk K) (yK t aU)) (m.bind iV):=λc hc F O H σ Q s k=>by
 cases m with
 |none=>cases hc
 |some ns =>
  have hc:iV ns=some c:=hc
  unfold iV at hc
  split at hc
  case isFalse=>cases hc
  rename_i hl
  cases hc
  refine h ns rfl F O H σ _ s λv F' H' g r1=>?_
  obtain⟨p,vs,rfl,z1,z2⟩:=r1
  have z3:=z2.vals
  subst z3
  refine⟨p,ns,rfl,aN.of z1,hl,λl ns' hn p1 p2=>?_⟩
  rw[zEs (p1.trans (vJ ns).symm) p2 (zD4 ns)]
  exact k l _ F' H' g hn (uU _)
theorem zMi(h:Ex B sl .hp t m):Ex B sl md (rJ (Xj K f) (yK t aU)) (m.bind λbs=>some (f bs)):=λc hc F O H σ Q s k=>by
 cases m with
 |none=>cases hc
 |some bs =>
  cases(hc)
  refine h bs rfl F O H σ _ s λv F' H' g r1=>?_
  obtain⟨p,vs,rfl,z1,z2⟩:=r1
  have z3:=z2.vals
  subst z3
  exact⟨p,bs,rfl,aN.of z1,k _ F' H' g rfl⟩
theorem Uu(h:Ex B sl .hp t m):Ex B sl md (Zw (rU λi=>.int (-i)) t) (m.bind λa=>some (-a)):=λc hc F O H σ Q s k=>by
 cases m with
 |none=>cases hc
 |some a =>
  cases(show some (-a)=some c from hc)
  refine h a rfl F O H σ _ s λv F' H' g r1=>?_
  cases r1
  exact⟨a,rfl,k _ F' H' g rfl⟩
end
section
variable{β:Type}
noncomputable def gK(kvs:List (Key×β))(k:Key):Option β:=(kvs.find? λa=>decide (a.1=k)).map (·.2)
def pK(kvs:List (Key×β))(k:Key)(v:β):List (Key×β):=if(kvs.any λa=>decide (a.1=k))=true then kvs.map (λa=>if a.1=k then(a.1,v) else a) else kvs++[(k,v)]
abbrev cN(kvs:List (Key×β))(k:Int):Option β:=gK kvs (abj k)
noncomputable def dput(kvs:List (Key×β))(k:Int)(v:β):Option (List (Key×β)):=if kvs.length<cap then some (pK kvs (abj k) v) else none
theorem Uv:∀{kvs:List (Key×β)}{k:Key},(kvs.any λa=>decide (a.1=k))=(gK kvs k).isSome
 |[],_=>rfl
 |x::kvs,k=>by
  unfold gK
  grind
theorem Xl:∀(kvs:List (Key×β))(k j:Key)(v:β),gK (pK kvs k v) j=if j=k then some v else gK kvs j:=λkvs k j v=>by
 unfold pK
 cases a:(kvs.any λb=>decide (b.1=k)) with
 |true =>
  rw[if_pos rfl]
  induction kvs with
  |nil=>cases a
  |cons x kvs ih =>
   unfold gK at ih ⊢
   rw[map_cons,find?_cons,find?_cons]
   by_cases e:x.1=k
   ·rw[if_pos e]
    by_cases f:j=k
    ·subst f
     rw[decide_eq_true (show(x.1,v).1=j from e),if_pos rfl];rfl
    ·rw[decide_eq_false (show¬(x.1,v).1=j fromλz=>f (z.symm.trans e)),if_neg f]
     show Option.map (λx=>x.2) (List.find? (λb=>decide (b.1=j)) (aev (λb=>if b.1=k then(b.1,v) else b) kvs))=Option.map (λx=>x.2) (List.find? (λb=>decide (b.1=j)) kvs)
     clear ih a
     induction kvs with
     |nil=>rfl
     |cons y kvs ih =>
      grind
   grind
 |false =>
  rw[if_neg (by decide)]
  unfold gK
  grind
theorem Xm(kvs:List (Key×β))(k:Key)(v:β):(pK kvs k v).length<=kvs.length+1:=by
 unfold pK
 grind
end
section
variable{K:Frag}{α:Type}[Rp K α]
abbrev DR(K:Frag){α:Type}[Rp K α](F:Hp):Key×V->Key×α->Prop:=λx y=>x.1=y.1/\rp K F x.2 y.2
theorem A2.any:∀{ks:List (Key×V)}{kvs:List (Key×α)},A2 (DR K F) ks kvs->(ks.any λa=>decide (a.1=k))=(kvs.any λa=>decide (a.1=k))
 |[],[],_=>rfl
 |_::_,_::_,h=>by rw[any_cons,any_cons,h.1.1,A2.any h.2]
 |[],_::_,h=>h.elim
 |_::_,[],h=>h.elim
theorem A2.val:∀{ks:List (Key×V)}{kvs:List (Key×α)},A2 (DR K F) ks kvs->(gK kvs k=none/\fL ks k=none)\/∃a v,gK kvs k=some a/\fL ks k=some v/\rp K F v a
 |[],[],_=>.inl ⟨rfl,rfl⟩
 |x::ks,y::kvs,h=>by
  unfold gK fL
  rw[find?_cons,find?_cons,h.1.1]
  by_cases e:y.1=k
  ·rw[decide_eq_true e];exact .inr ⟨y.2,x.2,rfl,rfl,h.1.2⟩
  ·rw[decide_eq_false e];exact A2.val h.2
 |[],_::_,h=>h.elim
 |_::_,[],h=>h.elim
theorem A2.Qo(r:rp K F v a):∀{ks:List (Key×V)}{kvs:List (Key×α)},A2 (DR K F) ks kvs->A2 (DR K F) (ks.map λb=>if b.1=k then(b.1,v) else b) (kvs.map λb=>if b.1=k then(b.1,a) else b)
 |[],[],_=>trivial
 |x::ks,y::kvs,h=>by
  rw[map_cons,map_cons]
  refine⟨?_,A2.Qo r h.2⟩
  by_cases e:x.1=k
  ·rw[if_pos e,if_pos (h.1.1▸e)];exact⟨h.1.1,r⟩
  ·rw[if_neg e,if_neg (h.1.1▸e)];exact h.1
 |[],_::_,h=>h.elim
 |_::_,[],h=>h.elim
theorem A2.put{F:Hp}{k:Key}{v:V}{a:α}(r:rp K F v a){ks:List (Key×V)}{kvs:List (Key×α)}(h:A2 (DR K F) ks kvs):A2 (DR K F) (putK ks k v) (pK kvs k a):=by
 unfold putK pK
 rw[h.any]
 split
 ·exact h.Qo r
 ·exact h.snoc ⟨rfl,r⟩
structure Dc(α:Type) where
 kv:List (Key×α)
instance:Rp K (Dc α):=⟨λF v d=>∃p ks,v=.ref p/\F p=some (.dK ks)/\A2 (DR K F) ks d.kv,λs ⟨p,ks,h1,h2,h3⟩=>⟨p,ks,h1,s _ _ h2,h3.imp λ_ _ z=>⟨z.1,Rp.mono s z.2⟩⟩⟩
variable{B:Bs}{sl:SL K}{md:Md}{t t2:TE}{F H G:Hp}{O:Own}{σ:St}{u:TS}{al:Bool}
theorem Uw{kvs:List (Key×α)}(i:Nat)(e:sl[i]?=some (.od kvs)):Ex B sl .hp (aZ i) (some (Dc.mk kvs)):=λa' f F O H σ Q s k=>by
 cases f
 obtain⟨a,b⟩:=s
 obtain⟨O1,O2,p,c,rfl,d,g,_⟩:=b.FW e
 exact⟨_,d,k _ F H (.refl a) ⟨p,c,rfl,a.one.2.2,g.imp λ_ _ z=>⟨z.1,Rp.mono a.fh z.2⟩⟩⟩
theorem Js{m:Option Int}{b:Option (Dc α)}(h:Ex B sl .hp t m)(h2:Ex B sl .hp t2 b):Ex B sl md (Io t t2) (m.bind λk=>b.bind λd=>some (cN d.kv k).isSome):=λc o F O H σ Q s f=>by
 obtain⟨k,d,i,l,n⟩:=nQ o
 cases n
 refine h k i F O H σ _ s λv C q g y=>?_
 refine h2 d l C O q σ _ (s.grow g) λw J E z D=>?_
 cases y
 obtain⟨p,A,rfl,x,I⟩:=D
 refine⟨p,_,rfl,jV.k (k:=abj k) x,?_⟩
 have e:(fL A (abj k:Key)).isSome=(cN d.kv k).isSome:=by
  rcases I.val (k:=abj k) with⟨j,r⟩|⟨a,v,j,r,_⟩
  ·grind
  grind
 rw[e]
 exact f _ J E (g.trans z) rfl
theorem zRa{m:Option Int}{b:Option (Dc α)}(h:Ex B sl .hp t m)(h2:Ex B sl .hp t2 b):Ex B sl md (Z0 t t2) (m.bind λk=>b.bind λd=>some !(cN d.kv k).isSome):=λc o F O H σ Q s f=>by
 obtain⟨k,d,i,l,n⟩:=nQ o
 cases n
 refine h k i F O H σ _ s λv C q g y=>?_
 refine h2 d l C O q σ _ (s.grow g) λw J E z D=>?_
 cases y
 obtain⟨p,A,rfl,x,I⟩:=D
 refine⟨p,_,rfl,jV.k (k:=abj k) x,?_⟩
 have e:(fL A (abj k:Key)).isSome=(cN d.kv k).isSome:=by
  rcases I.val (k:=abj k) with⟨j,r⟩|⟨a,v,j,r,_⟩
  ·grind
  grind
 rw[e]
 exact f _ J E (g.trans z) rfl
theorem Xn{kvs:List (Key×α)}{m:Option α}{mi:Option Int}{te x:TE}(i:Nat)(C:sl[i]?=some (.od kvs))(A:sl.all (λs=>!bU s)=true)(J:Ex B sl .fz te m)(N:Ex B sl .hp x mi) :
  Sn B sl (ud (aZ i) x te) (λys=>sl.set i (.od ys)) (m.bind λa=>mi.bind λk=>dput kvs k a):=λys E G D σ H s k=>by
 obtain⟨a,h,S,U,f⟩:=nQ E
 unfold dput at f
 split at f
 case isFalse=>cases f
 rename_i Q
 cases f
 obtain⟨F,O,g,z⟩:=s
 refine J a S F O H σ _ z λv P M j r=>?_
 obtain⟨p,ks,y,h2,h3,_⟩:=(z.grow j).Bh C A
 refine⟨_,y,?_⟩
 refine N h U P O M σ _ (z.grow j) λw T H2 b L=>?_
 cases L
 obtain⟨p',n,l,q,c,o⟩:=((z.grow j).grow b).Bh C A
 have e:=y.symm.trans l
 cases e
 obtain⟨I,R⟩:=o (putK n (abj h) v) (pK kvs (abj h) a) (c.put (Rp.mono b.ff r))
 exact⟨p,_,rfl,rK.k (k:=abj h) q (rQ (by rw[c.len];exact Q)),k _ _ ⟨T,I,(g.trans j.ff).trans b.ff,R⟩⟩
end
section
variable{K:Frag}{B:Bs}{sl:SL K}{md:Md}{t:TE}{u:TS}{al:Bool}{α:Type}[Rp K α]
abbrev Qp:List V->Hp->VK->Prop:=λa H Q=>(∃i,a=[.int i]/\Q (.int i) H)\/∃k,a=[.bl k]/\Q (.int (if k then 1 else 0)) H
theorem zQ7(h:Ex B sl .hp t m):Ex B sl md (rJ Qp (yK t aU)) (m.bind λb=>some (if b=true then(1:Int) else 0)):=λc a F O H σ Q s k=>by
 cases m with
 |none=>cases a
 |some b =>
  cases(a)
  refine h b rfl F O H σ _ s λv e d g f=>?_
  cases f
  exact .inr ⟨b,rfl,k _ e d g rfl⟩
theorem zS9{n:Bool}{xs:List α}(i:Nat)(d:sl[i]?=some (.ow n xs))(c:n=!al):SB B sl (dY (nH (aZ i)) u) al (some (some xs)):=λb a G D σ H s k=>by
 cases a
 exact Bg i d c xs rfl G { D with rt:=D.rt } σ H s λv e r=>k v e ⟨r.1,Nn.nn r.2,r.2⟩
end
end Ts
namespace L2
open PySem PySem.Spec PyProof.Rows
def Its(x:Str):It:=⟨λi _=>i<x.cps.size,λi H v a=>a=H/\∃c,x.cps[i]?=some c/\v=.str ⟨#[c]⟩,λi _=>x.cps.size<=i⟩
theorem zNc{P:Program}{w:World}{K:Frag}{N:Expr}(d:Addr)(x:Str)(t:Tok):Turn P w K N (Its x) [d] d (λi h=>h.IsStrIter d "str_ascii_iterator" x t i) where
 mem:=mem_singleton.mpr rfl
 obj:=λi h st b f=>by
  have e:b=d:=mem_singleton.mp f
  subst e
  obtain⟨o,m,g,M⟩:=st
  grind
 keep:=λi h l st k=>by
  obtain⟨o,m,r⟩:=st
  exact⟨o,k d (mem_singleton.mpr rfl) _ m,r⟩
 item:=by
  intro X B q y g i a s σ H E I p st G
  subst B q y
  obtain⟨A,D,O,C,J,F⟩:=p d (mem_singleton.mpr rfl)
  refine(Walks.strAscii (prog:=X.prog) (w:=X.w) (I.ok.hd g) d x t).item i s _ _ G st λv l L R j U=>?_
  obtain⟨c,u,S,rfl⟩:=R
  have T:Inv X a σ H { s with heap:=l,toks:=L }:=I.turned (λb o f e=>U b o (λz=>f (mem_singleton.mp z)) e) A D C J F
  obtain⟨o,m,g,M⟩:=id j
  exact⟨_,rfl,Mq (s:={ s with heap:=l,toks:=L }) (n:="str_ascii_iterator") m g M (by decide) ⟨.str ⟨#[c]⟩,H,T,⟨u,rfl⟩,⟨rfl,c,S,rfl⟩,j,λb f=>(p b f).1⟩⟩
 done:=by
  intro X B q y g i a s σ H E I p st G
  subst B q y
  obtain⟨A,D,O,C,J,F⟩:=p d (mem_singleton.mpr rfl)
  exact wpAny_pyNext_ascii_end (I.ok.hd g) st (abh G) λl Q=>⟨rfl,I.turned (t':=s.toks) (λb o f e=>Q b o f e) A D C J F⟩
 self:=λ_ _ _ _ _ st h=>wpAny_pyIter_striter_ascii st h
theorem zO3{P:Program}{w:World}{K:Frag}{N:Expr}(d:Addr)(x:Str)(t:Tok):Turn P w K N (Its x) [d] d (λi h=>h.IsStrIter d "str_iterator" x t i) where
 mem:=mem_singleton.mpr rfl
 obj:=λi h st b f=>by
  have e:b=d:=mem_singleton.mp f
  subst e
  obtain⟨o,m,g,M⟩:=st
  grind
 keep:=λi h l st k=>by
  obtain⟨o,m,r⟩:=st
  exact⟨o,k d (mem_singleton.mpr rfl) _ m,r⟩
 item:=by
  intro X B q y g i a s σ H E I p st G
  subst B q y
  obtain⟨A,D,O,C,J,F⟩:=p d (mem_singleton.mpr rfl)
  refine(Walks.strWide (prog:=X.prog) (w:=X.w) (I.ok.hd g) d x t).item i s _ _ G st λv l L R j U=>?_
  obtain⟨c,u,S,rfl⟩:=R
  have T:Inv X a σ H { s with heap:=l,toks:=L }:=I.turned (λb o f e=>U b o (λz=>f (mem_singleton.mp z)) e) A D C J F
  obtain⟨o,m,g,M⟩:=id j
  exact⟨_,rfl,Mq (s:={ s with heap:=l,toks:=L }) (n:="str_iterator") m g M (by decide) ⟨.str ⟨#[c]⟩,H,T,⟨u,rfl⟩,⟨rfl,c,S,rfl⟩,j,λb f=>(p b f).1⟩⟩
 done:=by
  intro X B q y g i a s σ H E I p st G
  subst B q y
  obtain⟨A,D,O,C,J,F⟩:=p d (mem_singleton.mpr rfl)
  exact wpAny_pyNext_wide_end (I.ok.hd g) st (abh G) λl Q=>⟨rfl,I.turned (t':=s.toks) (λb o f e=>Q b o f e) A D C J F⟩
 self:=λ_ _ _ _ _ st h=>wpAny_pyIter_striter_wide st h
section
variable{X:Cx}{tg:Expr}
def Qq(a:TE):TI:=λσ H R=>a σ H λx b=>∃y,x=.str y/\R (Its y) b
theorem Jt(n:PE X l p):PI X tg l (Qq p):=by
 intro a s σ H R I h
 refine aO (n a s σ H _ I h) ?_
 rintro v c ⟨x,f,d,k,m⟩
 obtain⟨y,e,q⟩:=m
 subst e
 obtain⟨t,rfl⟩:=k
 have g:∀b∈[c.heap.objs.size],ju X a f b:=λb j=>by
  have e:b=c.heap.objs.size:=mem_singleton.mp j
  subst e
  exact d.jw (aak _) (d.hok.fresh (aak _))
 cases i:y.cps.all (· < 128)
 ·exact wpAny_pyIter_wide i ⟨c.heap.objs.size,[c.heap.objs.size],_,_,f,rfl,d.kept (t':=c.toks) λb o e=>get?_push_of_some _ e,zO3 _ y t,⟨_,get?_push_size _ rfl,rfl,rfl⟩,g,q⟩
 ·exact wpAny_pyIter_ascii i ⟨c.heap.objs.size,[c.heap.objs.size],_,_,f,rfl,d.kept (t':=c.toks) λb o e=>get?_push_of_some _ e,zNc _ y t,⟨_,get?_push_size _ rfl,rfl,rfl⟩,g,q⟩
end
end L2
namespace Ts
open PySem L2
section
variable{K:Frag}{B:Bs}{sl:SL K}{md:Md}{t ta tb tc:TE}{n:Bool}
def Ux(x:Str):List Str:=x.cps.toList.map λc=>(⟨#[c]⟩:Str)
theorem Ju(h:Ex B sl .hp t mi):Ei B sl n (Qq t) (mi.bind λx=>some (Ux x)):=λxs f F O H σ R a k=>by
 cases mi with
 |none=>cases f
 |some x =>
  cases(f)
  refine h x rfl F O H σ _ a λv j q p r=>?_
  cases r
  refine⟨x,rfl,k _ j q p λi s O2 H2 sf m=>⟨λl=>?_,λy b=>?_⟩⟩
  ·show x.cps.size<=i
   unfold Ux at l
   grind
  ·unfold Ux at b
   rw[getElem?_map,getElem?_toList] at b
   cases e:x.cps[i]? with
   |none=>grind
   |some c =>
    rw[e] at b
    cases b
    have o:i<x.cps.size:=(Array.getElem?_eq_some_iff.mp e).1
    refine⟨o,λv H3 g=>?_⟩
    obtain⟨rfl,c',d,rfl⟩:=g
    rw[e] at d
    cases d
    exact⟨s,.refl m,rfl⟩
theorem zMg{f g:Int->Int->Bool}(E:Ex B sl .hp ta y)(h2:Ex B sl .hp tb I)(J:Ex B sl .hp tc p) :
  Ex B sl md (Zx (qg λi j=>.bl (f i j)) (qg λi j=>.bl (g i j)) ta tb tc) (y.bind λa=>I.bind λb=>if f a b=true then p.bind λc=>some (g b c) else some false):=λd z F O H σ Q s k=>by
 obtain⟨a,b,P,M,e⟩:=nQ z
 refine E a P F O H σ _ s λv G A h C=>?_
 refine h2 b M G O A σ _ (s.grow h) λw o m l D=>?_
 cases C
 cases D
 refine⟨a,b,rfl,rfl,_,rfl,?_⟩
 by_cases q:f a b=true
 ·rw[if_pos q] at e ⊢
  cases p with
  |none=>cases e
  |some c =>
   cases(e)
   refine J c rfl o O m σ _ ((s.grow h).grow l) λu L N x r=>?_
   cases r
   exact⟨b,c,rfl,rfl,k _ L N ((h.trans l).trans x) rfl⟩
 ·rw[if_neg q] at e ⊢
  cases e
  exact k _ o m (h.trans l) rfl
def Gn:List V->Hp->VK->Prop:=λa H Q=>∃x:Str,a=[.str x]/\x.length<cap/\Q (.int x.length) H
theorem zRx:qU X (.builtin "len") Gn:=by
 intro a s σ H xs c Q I r h
 obtain⟨x,rfl,b,q⟩:=h
 exact zU1 a s σ H _ c Q I r ⟨_,_,rfl,⟨ab3 (rQ b),rfl⟩,q⟩
noncomputable def Bx(x:Str):Option Int:=if x.length<cap then some (x.length:Int) else none
theorem BJ(h:Ex B sl .hp t m):Ex B sl md (rJ Gn (yK t aU)) (m.bind Bx):=λc a F O H σ Q s k=>by
 cases m with
 |none=>cases a
 |some x =>
  have a:Bx x=some c:=a
  unfold Bx at a
  split at a
  case isFalse=>cases a
  rename_i e
  cases a
  refine h x rfl F O H σ _ s λv d b g f=>?_
  cases f
  exact⟨x,rfl,e,k _ d b g rfl⟩
def inS(i j:Str):Bool:=!(ac8 j i 0 j.length 1).isEmpty
abbrev Xo:R2:=λx y H Q=>∃i j,x=.str i/\y=.str j/\Q (.bl (!(ac8 j i 0 j.length 1).isEmpty)) H
theorem Jv(h:Ex B sl .hp ta d)(h2:Ex B sl .hp tb i):Ex B sl md (gF Xo ta tb) (d.bind λa=>i.bind λb=>some (inS a b)) :=
 Bc (λa b c v w H Q e g f q=>by
  cases e
  cases g
  cases f
  exact⟨a,b,rfl,rfl,q⟩) h h2
theorem Jw{ws:List Str}(f:∀H,bT K H p (ws.map V.str))(h:Ex B sl .hp t m):Ex B sl md (gF (T3 K false) t (tC (.ref p))) (m.bind λx=>some (decide (x∈ws))):=λc b F O H σ Q s k=>by
 cases m with
 |none=>cases b
 |some x =>
  cases(b)
  refine h x rfl F O H σ _ s λv i d g e=>?_
  cases e
  refine⟨p,_,rfl,.inr (f d),Fl.flat (K:=K) x,zQ4 (K:=K) ws,?_⟩
  have:=Xa (K:=K) x ws
  rw[show inV (V.str x) (ws.map V.str)=decide (x∈ws) from this]
  exact k _ i d g rfl
end
section
variable{P:Program}{w:World}{K:Frag}{mg:Str->Option Value}{base:Heap}{B:Bs}{sl:SL K}{al:Bool}{S β:Type}[Rp K β]
theorem M9:Sn B sl Zr L none:=λa b=>by cases b
theorem Uy{A:Type}{as:A->SL K}{u:A->Option Unit}(F:aV K x i st f fd)(S:ao N ps (zH st))(hf:∀a,(as a).all isF=true)(n:∀a,(as a).length=ps.length)(hb:∀(d:Value) (A:Around) (c:List Env) (s:Shared) (H:Hp) (E:XK),bI k (A.deeper (acy i (zH st) s.heap.objs.size f d)) ->
   ∃t,oM (lY aP P w K mg base N i (zH st) f d A c s H E).Aa (xY st) t/\∀j a,∃L:Unit->SL K,Sn ⟨j,H⟩ (as a++replicate (N.length-ps.length) .un) t L (u a)) :
  aq P w K mg base aP (k+1) f fd ps (b_ K al as u) :=
 F.ok S (λm H Q E h=>zVl n h) λd A c s H m Q E C h=>by
  obtain⟨t,p,q⟩:=hb d A c s H E C
  refine⟨t,p,?_⟩
  obtain⟨a,b,j,s,l,r,v⟩:=h
  have e:L2.start N m=m.map some++replicate (N.length-ps.length) none:=by
   unfold L2.start
   rw[r.len,n]
  rw[e]
  obtain⟨L,q⟩:=q j a
  exact q b l j _ _ H ⟨j,[],.refl _,⟨s,.refl _,λb o h=>.inl h,λx z=>(by cases z),(by simp)⟩,zEu _ (hf a) r⟩ (by rintro σ' G ⟨F',O',g,D⟩;exact v .non G D.1.h0 rfl)
noncomputable def Jx(a:Str)(i:Int):Option Str:=if i.natAbs.log2<1920 then some (a++adi (toString i)) else none
noncomputable def M_(a z:Str):Option Str:=if z.length<=1000 then some (a++z) else none
theorem zV5(a:Str)(h:Ex B sl .hp t m):Ex B sl md (WQ a t) (m.bind (Jx a)):=λc b F O H σ Q s k=>by
 cases m with
 |none=>cases b
 |some i =>
  have b:Jx a i=some c:=b
  unfold Jx at b
  split at b
  case isFalse=>cases b
  rename_i f
  cases b
  refine h i rfl F O H σ _ s λv e d g j=>?_
  cases j
  exact .inl ⟨i,rfl,f,k _ e d g rfl⟩
theorem Jy(a:Str)(h:Ex B sl .hp t m):Ex B sl md (WQ a t) (m.bind (M_ a)):=λc b F O H σ Q s k=>by
 cases m with
 |none=>cases b
 |some i =>
  have b:M_ a i=some c:=b
  unfold M_ at b
  split at b
  case isFalse=>cases b
  rename_i f
  cases b
  refine h i rfl F O H σ _ s λv e d g j=>?_
  cases j
  exact .inr ⟨i,rfl,f,k _ e d g rfl⟩
theorem Qs:kitOne K (.type "str") (.type "str")=some true:=rfl
theorem Jz:bootBuiltins "str" = some (.type "str"):=by decide +kernel
end
section
variable{β:Type}
abbrev Gp(kvs:List (Key×β))(k:Str):Option β:=gK kvs (abv k)
noncomputable def pC(kvs:List (Key×β))(k:Str)(v:β):Option (List (Key×β)):=if kvs.length<cap then some (pK kvs (abv k) v) else none
end
section
variable{K:Frag}{α:Type}[Rp K α]
variable{B:Bs}{sl:SL K}{md:Md}{t t2:TE}{F H G:Hp}{O:Own}{σ:St}{u:TS}{al:Bool}
theorem BK{m:Option Str}{b:Option (Dc α)}(h:Ex B sl .hp t m)(h2:Ex B sl .hp t2 b):Ex B sl md (Io t t2) (m.bind λk=>b.bind λd=>some (Gp d.kv k).isSome):=λc o F O H σ Q s f=>by
 obtain⟨k,d,i,l,n⟩:=nQ o
 cases n
 refine h k i F O H σ _ s λv C q g y=>?_
 refine h2 d l C O q σ _ (s.grow g) λw J E z D=>?_
 cases y
 obtain⟨p,A,rfl,x,I⟩:=D
 refine⟨p,_,rfl,jV.k (k:=abv k) x,?_⟩
 have e:(fL A (abv k:Key)).isSome=(Gp d.kv k).isSome:=by
  rcases I.val (k:=abv k) with⟨j,r⟩|⟨a,v,j,r,_⟩
  ·grind
  grind
 rw[e]
 exact f _ J E (g.trans z) rfl
theorem zS0{kvs:List (Key×α)}{m:Option α}{mi:Option Str}{te q:TE}(i:Nat)(A:sl[i]?=some (.od kvs))(y:sl.all (λs=>!bU s)=true)(I:Ex B sl .fz te m)(M:Ex B sl .hp q mi) :
  Sn B sl (ud (aZ i) q te) (λys=>sl.set i (.od ys)) (m.bind λa=>mi.bind λk=>pC kvs k a):=λys C G D σ H s k=>by
 obtain⟨a,f,R,T,d⟩:=nQ C
 unfold pC at d
 split at d
 case isFalse=>cases d
 rename_i P
 cases d
 obtain⟨F,O,g,z⟩:=s
 refine I a R F O H σ _ z λv N L h r=>?_
 obtain⟨p,ks,x,h2,h3,_⟩:=(z.grow h).Bh A y
 refine⟨_,x,?_⟩
 refine M f T N O L σ _ (z.grow h) λw S H2 b J=>?_
 cases J
 obtain⟨p',l,j,o,c,n⟩:=((z.grow h).grow b).Bh A y
 have e:=x.symm.trans j
 cases e
 obtain⟨E,Q⟩:=n (putK l (abv f) v) (pK kvs (abv f) a) (c.put (Rp.mono b.ff r))
 exact⟨p,_,rfl,rK.k (k:=abv f) o (rQ (by rw[c.len];exact P)),k _ _ ⟨S,E,(g.trans h.ff).trans b.ff,Q⟩⟩
end
abbrev LLI:=List LI
abbrev zj:=List (Str×LI)
structure fP(p:Addr) where
 u:Unit
noncomputable def Uz(C:Addr)(h:LLI->Option Unit)(f:zj->Int->Option Unit)(i:LLI->Int->Option Unit)(e g:LLI->Option LLI)(xss:LLI)(mo:Option zj)(fo:Option LLI):Option (aF C) :=
 (h xss).bind λ_=>(f (mo.getD []) (xss.length:Int)).bind λ_=>(i (fo.getD []) (xss.length:Int)).bind λ_=>(e xss).bind λa=>(bh (λ_=>some true) (λx:Str×LI=>some (x.1,x.2)) (mo.getD [])).bind λb =>
  (e (fo.getD [])).bind λc=>(g a).bind λd=>some ⟨a,b,c,d⟩
theorem zm{α β:Type}{m:Option α}{f:α->Option β}{b:β}(h:m.bind f=some b):∃a,m=some a/\f a=some b:=by
 cases m with
 |none=>cases h
 |some a=>exact⟨a,rfl,h⟩
section
variable{K:Frag}{C:Addr}{B:Bs}{sl:SL K}{F H:Hp}{O:Own}{σ:St}
instance:Rp K (fP p):=⟨λ_ v _=>v=.ref p,λ_ h=>h⟩
noncomputable def pD(K:Frag)(C:Addr)(mk:LLI->Option zj->Option LLI->Option (aF C)):Sp:=λj H Q _=>∃(p i:Addr)(g d f:V)(a:LLI)(h:Option zj)(e:Option LLI)(M:aF C),j=[.ref p,g,d,f]/\H p=some (.ins C i []) /\
 rp K (hid H p) g a/\rp K (hid H p) d h/\rp K (hid H p) f e/\mk a h e=some M/\∀c:Hp,(∀b o,b≠p->H b=some o->c b=some o)->rp K (dif c (hid H p)) (.ref p) M->Q .non c
variable{mk:LLI->Option zj->Option LLI->Option (aF C)}
theorem zSs{a:Hp}{x d:Addr}(m:a x=none)(j:a d=none){l h i:V}{xss:LLI}{mo:Option zj}{fo:Option LLI}{c:aF C}(z:rp K a l xss)(r:rp K a h mo)(y:rp K a i fo)(p:mk xss mo fo=some c){Q:VK}{E:XK}(k:∀f:Hp,Same a f->rp K (dif f a) (.ref x) c->Q (.ref x) f):pD K C mk [.ref x,l,h,i] (upd (upd a d (.own x)) x (.ins C d [])) (λv f=>v=.non/\Q (.ref x) f) E:=by
 have n:Same a (upd (upd a d (.own x)) x (.ins C d [])):=λb o e=>by rw[zN (zL e m),zN (zL e j)];exact e
 have g:Same a (hid (upd (upd a d (.own x)) x (.ins C d [])) x):=λb o e=>by
  unfold hid
  rw[if_neg (zL e m)]
  exact n b o e
 refine⟨x,d,l,h,i,xss,mo,fo,c,rfl,zJ,Rp.mono g z,Rp.mono g r,Rp.mono g y,p,λf t w=>⟨rfl,?_⟩⟩
 refine k f (λb o e=>t b o (zL e m) (n b o e)) (Rp.mono (λb o e=>?_) w)
 have s:a b=none:=by
  cases q:a b with
  |none=>rfl
  |some u =>
   have:=g b u q
   unfold dif at e
   grind
 rw[yR s]
 exact aK _ _ e
theorem zRi(D:Ex B sl .hp u t)(h2:Ex B sl .hp E p)(I:Ex B sl .hp v o) :
  En B sl (O9 C (pD K C mk) [] E0 (yK u (yK E (yK v aU)))) (t.bind λa=>p.bind λb=>o.bind λc=>mk a (some b) (some c)):=λc e F O H σ Q s r=>by
 obtain⟨a,rfl,e⟩:=zm e
 obtain⟨b,rfl,e⟩:=zm (m:=p) e
 obtain⟨d,rfl,e⟩:=zm (m:=o) e
 refine D a rfl F O H σ _ s λv1 A S l z=>?_
 refine h2 b rfl A O S σ _ (s.grow l) λN R M f n=>?_
 refine I d rfl R O M σ _ ((s.grow l).grow f) λw J h i q=>?_
 intro x dx L j nex
 have g:=n
 have k:=q
 exact zSs L j (Rp.mono (f.hh.trans i.hh) z) (show rp K h N (some b) from⟨Nn.nn g,Rp.mono i.hh n⟩) (show rp K h w (some d) from⟨Nn.nn k,q⟩) e λy P G=>r _ J h y (l.trans (f.trans i)) P G
theorem JB(h:b≠p):hid H p b=H b:=by unfold hid;grind
theorem Nb:hid H p p=none:=by unfold hid;grind
theorem Qt:Same (hid H p) H:=λb o e=>by
 by_cases q:b=p
 ·subst q;rw[Nb] at e;cases e
 ·rw[JB q] at e;exact e
theorem Nf(s:Same H H'):Same (hid H p) (hid H' p):=λb o e=>by
 by_cases q:b=p
 ·subst q;rw[Nb] at e;cases e
 ·rw[JB q] at e ⊢;exact s b o e
theorem Gq:hid (upd H p o) p=hid H p:=by
 funext b
 by_cases q:b=p
 ·subst q;rw[Nb,Nb]
 ·rw[JB q,JB q,zN q]
theorem UG(kp:∀b o,b≠p->H b=some o->a b=some o)(d:a p≠none):Same (dif H' a) (dif (hid H' p) (hid H p)):=λb o e=>by
 have g:a b=none:=by
  cases q:a b with
  |none=>rfl
  |some u=>unfold dif at e;grind
 have c:b≠p:=λq=>d (by grind)
 rw[yR g] at e
 have f:hid H p b=none:=by
  rw[JB c]
  cases q:H b with
  |none=>rfl
  |some u=>grind
 rw[yR f,JB c]
 exact e
theorem zWe(e:ak (K:=K) ⟨hid c p,c⟩ (hid c p) (lo (hid c p) [] c) c sl σ []):At (K:=K) ⟨hid c p,c⟩ sl (hid c p) [] c σ :=
 ⟨⟨Qt,.refl _,λb o h=>.inl h,λx d=>(by cases d),by simp⟩,e⟩
end
end Ts
namespace pF
open PySem
def Rz(xs:Array Nat):Prop:=∀i k a b:Nat,i<k->xs[i]?=some a->xs[k]?=some b->a<b
theorem Xp(hr:Rz xs):∀(fuel lo hi:Nat),hi-lo<=fuel->lo<=hi->hi<=xs.size->(∀i a,i<lo->xs[i]?=some a->a<j)->(∀i a,hi<=i->xs[i]?=some a->j<=a) ->
  (below.go xs j fuel lo hi)<=xs.size/\(∀i a,i<below.go xs j fuel lo hi->xs[i]?=some a->a<j)/\(∀i a,below.go xs j fuel lo hi<=i->xs[i]?=some a->j<=a)
 |0,lo,hi,hf,hl,hz,h1,h2=>by
  have e:lo=hi:=by omega
  subst e
  unfold below.go
  exact⟨hz,h1,h2⟩
 |fuel+1,lo,hi,hf,hl,hz,h1,h2=>by
  unfold below.go
  by_cases hlt:lo<hi
  ·rw[if_pos hlt]
   have hm:(lo+hi)/2<hi:=by omega
   have hm0:lo<=(lo+hi)/2:=by omega
   have hms:(lo+hi)/2<xs.size:=by omega
   have e:xs.getD ((lo+hi)/2) j=xs[(lo+hi)/2]:=by simp[Array.getD,hms]
   dsimp only
   rw[e]
   by_cases hc:xs[(lo+hi)/2]<j
   ·rw[if_pos hc]
    refine Xp hr fuel _ hi (by omega) (by omega) hz (λi a hi' ha=>?_) h2
    by_cases hi2:i=(lo+hi)/2
    ·subst hi2
     rw[aar hms] at ha
     cases ha
     exact hc
    ·exact ad4 (hr i ((lo+hi)/2) a _ (by omega) ha (aar hms)) hc
   ·rw[if_neg hc]
    refine Xp hr fuel lo _ (by omega) (by omega) (by omega) h1 (λi a hi' ha=>?_)
    by_cases hi2:i=(lo+hi)/2
    ·subst hi2
     rw[aar hms] at ha
     cases ha
     omega
    ·have:=hr ((lo+hi)/2) i _ a (by omega) (aar hms) ha
     omega
  ·rw[if_neg hlt]
   have e:lo=hi:=by omega
   subst e
   exact⟨hz,h1,h2⟩
theorem Xq(b:Rz xs)(j:Nat):below xs j<=xs.size/\(∀i a,i<below xs j->xs[i]?=some a->a<j)/\(∀i a,below xs j<=i->xs[i]?=some a->j<=a) :=
 Xp b xs.size 0 xs.size (by omega) (aa0 _) (aak _) (λi a h=>absurd h (ab2 _)) (λi a h1 h2=>by
  grind)
theorem JC{α:Type}(xs:Array α)(p:Nat)(x:α)(hp:p<=xs.size)(i:Nat):(insertAt xs p x)[i]?=if i<p then xs[i]? else if i=p then some x else xs[i-1]?:=by
 have e:insertAt xs p x=(xs.toList.take p++x::xs.toList.drop p).toArray:=by
  unfold insertAt
  apply Array.ext'
  simp
  rw[List.take_of_length_le (by rw[length_drop,length_toList];exact aak _)]
 rw[e,getElem?_toArray]
 have hl:p<=xs.toList.length:=by simpa using hp
 by_cases h1:i<p
 ·rw[if_pos h1,getElem?_append_left (by rw[length_take];omega),getElem?_take_of_lt h1,getElem?_toList]
 ·rw[if_neg h1,getElem?_append_right (by rw[length_take];omega),length_take,Nat.min_eq_left hl]
  by_cases h2:i=p
  ·subst h2;simp
  ·rw[if_neg h2]
   obtain⟨k,rfl⟩:∃k,i=p+1+k:=⟨i-(p+1),by omega⟩
   rw[show p+1+k-p=k+1 by omega,List.getElem?_cons_succ,List.getElem?_drop,getElem?_toList]
   congr 1
   omega
theorem JD(hr:Rz xs)(hn:xs[below xs j]?≠some j):Rz (insertAt xs (below xs j) j):=by
 obtain⟨b1,b2,b3⟩:=Xq hr j
 intro i k a b hik ha hb
 rw[JC _ _ _ b1] at ha hb
 generalize below xs j=p at *
 have up:∀m c,p<=m->xs[m]?=some c->j<c:=λm c hm hc=>by
  have h1:=b3 m c hm hc
  by_cases e:m=p
  ·subst e
   have:c≠j:=λz=>hn (by rw[hc,z])
   omega
  ·have hp:p<xs.size:=by
    have:m<xs.size:=by
     by_cases z:m<xs.size
     ·exact z
     ·rw[abh (by omega)] at hc;cases hc
    omega
   have h2:=hr p m _ c (by omega) (aar hp) hc
   have h3:=b3 p _ (aak _) (aar hp)
   omega
 by_cases i1:i<p
 ·rw[if_pos i1] at ha
  have ja:=b2 i a i1 ha
  by_cases k1:k<p
  ·rw[if_pos k1] at hb;exact hr i k a b hik ha hb
  ·rw[if_neg k1] at hb
   by_cases k2:k=p
   ·rw[if_pos k2] at hb;cases hb;exact ja
   ·rw[if_neg k2] at hb
    exact ad4 ja (up (k-1) b (by omega) hb)
 ·rw[if_neg i1] at ha
  have k1:¬k<p:=by omega
  have k2:¬k=p:=by omega
  rw[if_neg k1,if_neg k2] at hb
  by_cases i2:i=p
  ·rw[if_pos i2] at ha;cases ha;exact up (k-1) b (by omega) hb
  ·rw[if_neg i2] at ha
   exact hr (i-1) (k-1) a b (by omega) ha hb
def Free(t:SetTable)(j:Nat):Prop:=t.place[below t.place j]?≠some j
theorem zIh{t:SetTable}(h:∀i,t.slot j≠.live i):Free t j:=λe=>by
 refine h (below t.place j) ?_
 unfold SetTable.slot
 simp[e]
theorem Xr:∀(a:Nat)(p:SetTable.Probe)(j:Nat)(d:Option Nat),(∀d,p.dummy=some d->Free t d)->probe.go t f h a p=some (.empty j d)->Free t j/\∀e,d=some e->Free t e
 |0,p,j,d,g,e=>by unfold probe.go at e;cases e
 |a+1,p,j,d,g,e=>by
  have b:∀q:SetTable.Probe,(t.advance q).dummy=q.dummy:=λq=>by
   unfold SetTable.advance
   grind
  unfold probe.go at e
  cases c:t.slot p.j with
  |empty =>
   rw[c] at e
   cases e
   exact⟨zIh (λi z=>by grind),g⟩
  |dummy =>
   rw[c] at e
   refine Xr a _ j d (λl k=>?_) e
   rw[b] at k
   cases k
   exact zIh λi z=>by grind
  |live i =>
   rw[c] at e
   dsimp only at e
   split at e
   ·cases e
   ·exact Xr a _ j d (λl k=>g l (by grind)) e
theorem zHt{t:SetTable}(e:t.freeSlot h=some (j,b)):Free t j:=by
 unfold SetTable.freeSlot at e
 split at e
 ·rename_i c d a
  cases e
  have q:=Xr _ _ c d (λd f=>by cases f) a
  cases d with
  |none=>exact q.1
  |some d=>grind
 grind
structure Tb(led:Bool)(t:SetTable):Prop where
 led:t.led=led
 rz:t.plain=true->Rz t.place
theorem UJ(h:Tb led t)(n:Nat):Tb led (t.standIn n):=⟨h.led,λz=>by cases z⟩
theorem Qu(h:Tb led t)(n:Nat):Tb led (t.orStandIn n):=by
 unfold SetTable.orStandIn
 split
 ·exact h
 ·exact UJ h n
theorem JF(a:Tb led t)(es:Array (Int×Value))(h:Int)(x:Value):Tb led (layNew t es h x).2.1:=by
 unfold layNew
 cases e:t.freeSlot h with
 |none=>exact UJ a _
 |some q =>
  obtain⟨j,b⟩:=q
  dsimp only
  refine Qu (t:=(t.put j).1) ⟨a.led,λz=>?_⟩ _
  exact JD (a.rz z) (zHt e)
theorem zIo(f:Nat->Option Nat)(n:Nat):Rz (((aax n).filterMap λj=>(f j).map (j,·)).map (·.1)).toArray:=by
 have p:(((aax n).filterMap λj=>(f j).map (j,·)).map (·.1)).Pairwise (· < ·):=by
  rw[List.pairwise_map]
  refine Pairwise.filterMap _ ?_ (List.pairwise_lt_range (n:=n))
  intro a b g x c y d
  cases o:f a with
  |none=>rw[o] at c;cases c
  |some u =>
   cases h:f b with
   |none=>rw[h] at d;cases d
   |some v =>
    rw[o] at c
    rw[h] at d
    cases c
    cases d
    exact g
 intro i k a b e m l
 rw[getElem?_toArray] at m l
 obtain⟨q,t⟩:=aal.mp m
 obtain⟨r,s⟩:=aal.mp l
 rw[<-t,<-s]
 exact List.pairwise_iff_getElem.mp p i k q r e
theorem zSl(a:Tb led t)(es:Array (Int×Value))(n:Nat):Tb led (relayAll t es n).2.1:=by
 unfold relayAll
 cases e:t.relaid (es.map (·.1)) n with
 |none=>exact UJ a _
 |some q =>
  obtain⟨t',order⟩:=q
  dsimp only
  split
  ·unfold SetTable.relaid SetTable.laid at e
   cases b:SetTable.layClean (SetTable.sizeAbove n-1) (es.map (·.1)) with
   |none=>rw[b] at e;cases e
   |some owner =>
    rw[b] at e
    cases e
    exact⟨a.led,λ_=>zIo _ _⟩
  ·exact UJ a _
theorem zSm(led:Bool):Tb led (.fresh 0 0 led):=⟨rfl,λ_=>λi k a b _ h _=>by
 have:(#[]:Array Nat)[i]?=some a:=h
 simp at this⟩
section
variable{prog:Program}{w:World}{κ:Type}[DecidableEq κ](knd:KeyKind prog w κ)(dec:Value->κ)
def Good(led:Bool)(h:Heap)(a:Addr)(ks:List κ):Prop :=
 ∃o b c t,h.get? a=some o/\o.ExactSet/\o.data=.set b c t/\ElemsOf knd b.toList/\(b.toList.map λe=>dec e.2).Perm ks/\ks.Nodup/\b.size<scanBound/\t.fits b.size=true/\Tb led t
variable{knd}{dec}{led:Bool}{A:Around}{E:Value->Shared->Prop}{s:Shared}
theorem Good.len(g:Good knd dec led h a ks):ks.length<scanBound:=by
 obtain⟨o,es,ep,t,_,_,_,_,p,_,b,_⟩:=g
 rw[<-p.length_eq,length_map]
 exact b
theorem Good.keep{h':Heap}(g:Good knd dec led h a ks)(k:∀o,h.get? a=some o->h'.get? a=some o):Good knd dec led h' a ks:=by
 obtain⟨o,d,c,t,e,b⟩:=g
 exact⟨o,d,c,t,k _ e,b⟩
theorem zJe(hdec:∀k v,knd.is k v=true->dec v=k)(b:ElemsOf knd es)(k:κ):es.findIdx? (λe=>knd.is k e.2)=none↔k∉es.map λe=>dec e.2:=by
 constructor
 ·intro h c
  obtain⟨e,d,rfl⟩:=mem_map.mp c
  obtain⟨⟨k',hk,_⟩,_⟩:=b e d
  grind
 grind
theorem Gs{h:Heap}(c:h.get? a=some o)(b:o.data=.set es ep t):(h.update a (aes es' t')).get? a=some { o with data:=.set es' (ep+1) t' }:=by
 have q:=get?_update_self (aes es' t') c (by rw[putSet_of es' t' b];rfl)
 rw[putSet_of es' t' b] at q
 exact q
theorem Xu{Q:Unit->Shared->Prop}(h:Q () a):wpAny (model prog w) A (match b with|true=>rule "set.scan.the-table-gave-way" | false=>pure ()) Q E a:=by
 cases b
 ·exact aah h
 ·exact adw h
theorem zMu{g:Bool->Sem Unit}(hg:∀(b:Bool) (s₁:Shared) (Q':Unit->Shared->Prop),Q' () s₁->wpAny (model prog w) A (g b) Q' E s₁){es1:Array (Int×Value)}{t2:SetTable}{R:Option Bool->Shared->Prop}(ho:s.heap.get? a=some o)(hx:o.ExactSet)(hd:o.data=.set es ep t)(hel:ElemsOf knd es1.toList)(hp:(es1.toList.map λe=>dec e.2).Perm ks)(nd:ks.Nodup)(hb:es1.size<scanBound)(hf:t2.fits es1.size=true)(tb:Tb led t2)(h:∀h',SameBut a s.heap h'->Good knd dec led h' a ks->R (some true) { s with heap:=h' }) :
  wpAny (model prog w) A (storeSet a es1 t2 >>= λ_=>if(!dum&&t2.tooFull)=true then(g (relayAll t2 es1 (grown es1.size)).2.2 >>= λ_=>storeSet a (relayAll t2 es1 (grown es1.size)).1 (relayAll t2 es1 (grown es1.size)).2.1 >>= λ_=>pure (some true)) else pure (some true)) R E s:=by
 refine aag (ab0 ho hd ?_ (aby hb))
 have o1:=Gs (es':=es1) (t':=t2) ho hd
 have sb:=SameBut.update s.heap a (aes es1 t2)
 split
 ·have rp:=relayAll_perm t2 es1 (grown es1.size)
  have rf:=relayAll_fits t2 es1 (grown es1.size)
  have rt:=zSl tb es1 (grown es1.size)
  generalize relayAll t2 es1 (grown es1.size)=L at rp rf rt ⊢
  obtain⟨es2,t3,gv⟩:=L
  dsimp only at rp rf rt ⊢
  have sz:es2.size=es1.size:=by rw[<-length_toList,rp.length_eq,length_toList]
  refine aag (hg _ _ _ (aag (ab0 o1 rfl (aah (h _ (sb.trans (SameBut.update _ a _)) ⟨_,es2,_,t3,Gs (es':=es2) (t':=t3) o1 rfl,hx,rfl,hel.perm rp,(rp.map _).trans hp,nd,by rw[sz];exact hb,rf,rt⟩)) (aby (by rw[sz];exact hb)))))
 ·exact aah (h _ sb ⟨_,es1,_,t2,o1,hx,rfl,hel,hp,nd,hb,hf,tb⟩)
theorem JG(h:Tb led t):Tb led { t with plain:=false }:=⟨h.led,λz=>by cases z⟩
theorem UL(f:∀k v,knd.is k v=true->dec v=k){Q:Bool->Shared->Prop}(N:knd.is k x=true)(K:x.scannable=true)(g:Good knd dec led s.heap a ks)(i:ks.length+1<scanBound)(h:∀(h':Heap) (b:Bool),SameBut a s.heap h'->Good knd dec led h' a (if k∈ks then ks else k::ks)->Q b { s with heap:=h' }) :
  wpAny (model prog w) A (setAddHashed a x (knd.hash k)) Q E s:=by
 obtain⟨o,d,Z,t,r,O,F,c,G,X,V,S,U⟩:=g
 have n:d.size=ks.length:=by rw[<-G.length_eq,length_map,length_toList]
 unfold setAddHashed setAddHashedIn
 refine aa6 (aag (aau r F S ?_))
 dsimp only
 rw[byScan_of K V c]
 simp only[↓reduceIte]
 unfold setAddByScan
 refine aag (aag (adw (aag (wpAny_setScan_of N r F S c ?_))))
 have T:=zJe f c k
 cases P:List.findIdx? (λe=>knd.is k e.2) d.toList with
 |some j =>
  have M:k∈ks:=by
   refine G.mem_iff.mp (Classical.byContradiction λz=>?_)
   rw[T.mpr z] at P
   cases P
  dsimp only
  refine aah (aah ?_)
  have q:=h s.heap false (SameBut.refl a s.heap)
  rw[if_pos M] at q
  exact q ⟨o,d,Z,t,r,O,F,c,G,X,V,S,U⟩
 |none =>
  have M:k∉ks:=λz=>T.mp P (G.mem_iff.mpr z)
  dsimp only
  have m:=layNew_perm t d (knd.hash k) x
  have H:=layNew_fits t d (knd.hash k) x
  have C:=JF U d (knd.hash k) x
  generalize layNew t d (knd.hash k) x=L at m H C ⊢
  obtain⟨B,t1,D,gave⟩:=L
  dsimp only at m H C ⊢
  rw[Array.toList_push] at m
  have W:B.size=d.size+1:=by rw[<-length_toList,m.length_eq,length_append,length_toList];rfl
  have y:(B.toList.map λe=>dec e.2).Perm (k::ks):=by
   refine(m.map _).trans ?_
   rw[map_append]
   show(_++[dec x]).Perm _
   rw[f k x N]
   exact Perm.trans (l₂:=k::d.toList.map λ(e:Int×Value)=>dec e.2) List.perm_append_comm (G.cons k)
  have I:∀h',SameBut a s.heap h'->Good knd dec led h' a (k::ks)->Q true { s with heap:=h' }:=λh' J p=>by
   have q:=h h' true J
   rw[if_neg M] at q
   exact q p
  have u:(k::ks).Nodup:=nodup_cons.mpr ⟨M,X⟩
  refine aag (Xu ?_)
  split
  ·refine aag ?_
   rw[hashByValue_scannable 8 K]
   refine aah ?_
   refine zMu (led:=led) (dum:=D) (λb Y Q' R=>Xu R) r O F ((c.push N K).perm m) y u (by rw[W,n];exact i) ?_ ?_ λh' J p=>?_
   ·split
    ·exact H
    ·exact SetTable.fits_plain_off H
   ·split
    ·exact C
    ·exact JG C
   ·exact aah (I h' J p)
  ·refine aag (aah ?_)
   simp only[↓reduceIte]
   refine zMu (led:=led) (dum:=D) (λb Y Q' R=>Xu R) r O F ((c.push N K).perm m) y u (by rw[W,n];exact i) H C λh' J p=>?_
   exact aah (I h' J p)
end
open PySem PySem.Spec PyProof.Rows
section
variable{κ:Type}[DecidableEq κ]
def met(a:Nat->κ):Nat->List κ
 |0=>[]
 |i+1=>if a i∈met a i then met a i else a i::met a i
theorem zQh(a:Nat->κ):∀i,(met a i).length<=i
 |0=>aak _
 |i+1=>by
  have ih:=zQh a i
  unfold met
  grind
theorem zQi(a:Nat->κ)(k:κ):∀i,k∈met a i↔∃j,j<i/\a j=k
 |0=>by simp[met]
 |i+1=>by
  have ih:=zQi a k i
  show k∈(if a i∈met a i then met a i else a i::met a i)↔_
  grind
variable{prog:Program}{w:World}{knd:KeyKind prog w κ}{dec:Value->κ}{led:Bool}{A:Around}{R:Result->Shared->Prop}{I:Addr}{fp wr:List Addr}{G:Array GenState->Array GenState->Prop}{n:Nat}{P:Nat->Value->Prop}{St:Nat->Shared->Prop}
theorem BL(p:∀k v,knd.is k v=true->dec v=k)(W:WalksS prog w A.in1 I fp wr G n P St)(S:Addr)(u:S∉fp)(a:Nat->κ)(r:∀i v,P i v->knd.is (a i) v=true/\v.scannable=true)(f:n+1<scanBound) :
  ∀(k i:Nat)(s:Shared),n-i=k->i<=n->St i s->Good knd dec led s.heap S (met a i)->(∀s',Moved (S::wr) G s s'->Good knd dec led s'.heap S (met a n)->R (.ok (.ret .none)) s')->codeAny (model prog w) A (.builtin "set.update.loop" ⟨[.ref S,.ref I],[]⟩) R s:=by
 have c:S∉wr:=λh=>u (W.sub _ h)
 have j:∀b∈wr,b∈S::wr:=λb f=>mem_cons_of_mem _ f
 intro k
 induction k with
 |zero =>
  intro i s H E st g d
  have e:i=n:=by omega
  subst e
  refine aci F.entry_set_update_loop ?_
  rw[ab7 ac9 _]
  refine aag (m:=pyNext (.ref I)) (W.done s _ _ st λs' l=>?_)
  exact aah (d s' (l.mono j) (g.keep λo h=>l.heap S o c h))
 |succ k ih =>
  intro i s H E st g d
  have C:i<n:=by omega
  refine aci F.entry_set_update_loop ?_
  rw[ab7 ac9 _]
  refine aag (m:=pyNext (.ref I)) (W.item i s _ _ C st λv s' J z l=>?_)
  obtain⟨q,x⟩:=r i v J
  refine aag (m:=holding [v] (setAdd S v)) (aa6 ?_)
  unfold setAdd
  refine aa6 (aag (knd.pyHash (k:=a i) q ?_))
  refine UL (led:=led) (s:={ s' with toks:=s'.toks+1 }) p q x (g.keep λo h=>l.heap S o c h) (by have:=zQh a i;omega) λh' b D L=>?_
  refine aah ⟨adz ac9 _,ih (i+1) _ (by omega) C (W.frame _ s' _ _ z (abw _) λb f o e=>?_) L λy t B=>?_⟩
  ·rw[D.2 b (λh:b=S=>u (by rw[<-h];exact f))];exact e
  ·refine d y (Moved.trans W.gtrans ((l.mono j).then_heap (abw _) λb o f e=>?_) t) B
   rw[D.2 b (λh:b=S=>f (h▸mem_cons_self))];exact e
end
section
variable{prog:Program}{w:World}{A:Around}{E:Value->Shared->Prop}{s:Shared}
def zV(w:World):Bool:=!w.params.followText "set-order"
theorem zTy(a:Value){Q₁:Value->Shared->Prop}(h:Q₁ (.ref s.heap.objs.size) { s with heap:=s.heap.push { cls:=.type "set",dict:=none,data:=.set #[] 0 (.fresh 0 0 (zV w)) } }) :
  codeAny (model prog w) A (.call (.builtin "set.__new__") ⟨[.type "set",a],[]⟩) (wants Q₁ E) s:=by
 refine codeAny_of_tree (aag (m:=checkBuiltinCall "set.__new__" ⟨[.type "set",a],[]⟩) (wpAny_of_eq (F.newCall_set_1 a) (aah ⟨adz F.plain_set_new _,aci F.entry_set_new ?_⟩)))
 rw[ab7 F.plain_set_new _]
 unfold Builtin.«set.__new__» Builtin.Frozenset.newClass
 have sub:=aef
 obtain⟨hp,g,d,tk,os⟩:=s
 dsimp only
 wp_walk
 refine acw (aah ?_)
 dsimp only
 simp only[newObj]
 exact aag (wpAny_alloc (aah (aah h)))
theorem Qv{κ:Type}[DecidableEq κ]{knd:KeyKind prog w κ}{dec:Value->κ}{h:Heap}(e:h.get? a=some { cls:=.type "set",dict:=none,data:=.set #[] 0 (.fresh 0 0 led) }):Good knd dec led h a [] :=
 ⟨_,#[],0,.fresh 0 0 led,e,⟨rfl,rfl,rfl⟩,rfl,λx hx=>by simp at hx,by simp,List.nodup_nil,by show 0<4096;decide,by cases led<;>rfl,zSm led⟩
set_option maxHeartbeats 4000000 in
theorem zU0{κ:Type}[DecidableEq κ]{knd:KeyKind prog w κ}{dec:Value->κ}(hdec:∀k v,knd.is k v=true->dec v=k){Q:Value->Shared->Prop}(val:Nat->κ)(hh:A.handled=none)(hl:s.heap.IsList l items)(hi:∀(i:Nat) (v:Value),items[i]?=some v->knd.is (val i) v=true/\v.scannable=true)(hb:items.size+1<scanBound)(h:∀(h':Heap) (tk:Nat),Good knd dec (zV w) h' s.heap.objs.size (met val items.size)->(∀b o,b<s.heap.objs.size->s.heap.get? b=some o->h'.get? b=some o)->Q (.ref s.heap.objs.size) { s with heap:=h',toks:=tk }) :
  wpAny (model prog w) A (call (.type "set") [.ref l]) Q E s:=by
 obtain⟨c,tl,hmro⟩:=F.called_set.mro
 have hmade:=F.called_set.made
 have hsub:=F.called_set.sub
 refine wpAny_call (codeAny_of_tree (aah ⟨Code.quiet_builtin _ (by decide +kernel),aci F.entry_type_call ?_⟩))
 rw[Around.under_plain (weight_type_call_type "set" [.ref l] []) rfl]
 have h1:=F.called_set.notType
 have h2:=F.called_set.canCreate
 have hct:=F.typeCall_set_1 (.ref l)
 repeat(any_goals (first|assumption|wp_step))
 refine acv (zTy (.ref l) (E:=E) (Q₁:=λobj s₁=>obj=.ref s.heap.objs.size/\s₁={ s with heap:=s.heap.push { cls:=.type "set",dict:=none,data:=.set #[] 0 (.fresh 0 0 (zV w)) } }) ⟨rfl,rfl⟩) λr s₁ hr=>?_
 cases r with
 |error e=>exact hr
 |ok fl =>
  cases fl with
  |ret obj =>
   obtain⟨rfl,rfl⟩:=hr
   have hS:(s.heap.push { cls:=.type "set",dict:=none,data:=.set #[] 0 (.fresh 0 0 (zV w)) }).get? s.heap.objs.size=some { cls:=.type "set",dict:=none,data:=.set #[] 0 (.fresh 0 0 (zV w)) }:=get?_push_size _ rfl
   have hT:Shared.TypeIs { s with heap:=s.heap.push { cls:=.type "set",dict:=none,data:=.set #[] 0 (.fresh 0 0 (zV w)) } } (.ref s.heap.objs.size) "set":=⟨_,hS,rfl⟩
   have hli:=F.called_set.init.lookup
   have hbi:=F.called_set.init.bind (.ref s.heap.objs.size)
   repeat(any_goals (first|assumption|wp_step))
   refine acv (codeAny_call_builtin (R:=wants (λr s₂=>r=.none/\∃h' tk,s₂={ s with heap:=h',toks:=tk }/\Good knd dec (zV w) h' s.heap.objs.size (met val items.size)/\(∀b o,b<s.heap.objs.size->s.heap.get? b=some o->h'.get? b=some o)) E)
    F.called_set.init.plain F.entry_set_init (check_set_init_1 hT ?_)) λr₂ s₂ hr₂=>?_
   ·obtain⟨ol,hol,hcl,nl,hdl⟩:=hl
    obtain⟨ocls,odict,odata,oslots⟩:=ol
    simp only at hcl hdl
    subst hcl
    subst hdl
    have hol':(s.heap.push { cls:=.type "set",dict:=none,data:=.set #[] 0 (.fresh 0 0 (zV w)) }).get? l=some { cls:=.type "list",dict:=odict,data:=.seq items nl,slots:=oslots }:=get?_push_of_some _ hol
    have hsls:=F.sub_list_set
    have hslf:=F.sub_list_frozenset
    have hne:(adt "list" == adt "dict")=false:=by decide
    have hl1:(s.heap.push { cls:=.type "set",dict:=none,data:=.set #[] 0 (.fresh 0 0 (zV w)) }).IsList l items:=⟨_,hol',rfl,nl,rfl⟩
    unfold Builtin.«set.__init__» noKeywords Builtin.Frozenset.updateFrom
    generalize hPI:pyIter=PI
    wp_walk
    subst hPI
    refine adn hl1 (aag (wpAny_runValue ?_))
    have hlS:l<s.heap.objs.size:=lt_size hol
    have sz:(s.heap.push { cls:=.type "set",dict:=none,data:=.set #[] 0 (.fresh 0 0 (zV w)) }).objs.size=s.heap.objs.size+1:=size_push ..
    have hneI:l≠(s.heap.push { cls:=.type "set",dict:=none,data:=.set #[] 0 (.fresh 0 0 (zV w)) }).objs.size:=by rw[sz];exact aan (adg hlS)
    refine BL (led:=zV w) hdec ((Walks.list (by simp[hh]) _ l hneI items).toS) s.heap.objs.size (by
     rw[sz]
     intro z
     rcases mem_cons.mp z with z|z
     ·exact absurd z (aan (abp _))
     ·exact absurd (mem_singleton.mp z) (acu hlS)) val hi hb (items.size-0) 0 _ (by omega) (aa0 _) ⟨⟨_,get?_push_size _ rfl,rfl,rfl⟩,hl1.push _⟩ (Qv (get?_push_of_some _ hS)) λs' hm g'=>?_
    obtain⟨h',g1,d1,tk',os1⟩:=s'
    have eg:g1=s.gens:=hm.gens
    have ed:d1=s.drawn:=hm.drawn
    have eo:os1=s.os:=hm.os
    subst eg ed eo
    refine aah ?_
    refine aah ⟨rfl,h',tk',rfl,g',λb o hb e=>hm.heap b o (λz=>?_) (get?_push_of_some _ (get?_push_of_some _ e))⟩
    rcases mem_cons.mp z with z|z
    ·exact absurd z (aan hb)
    ·have z:=mem_singleton.mp z
     rw[sz] at z
     exact absurd z (aan (adg hb))
   ·cases r₂ with
    |error e=>exact hr₂
    |ok fl₂ =>
     cases fl₂ with
     |ret r =>
      obtain⟨rfl,h',tk,rfl,hS',hk'⟩:=hr₂
      repeat(any_goals (first|assumption|wp_step))
      exact h _ _ hS' hk'
     |_=>exact hr₂.elim
  |_=>exact hr.elim
end
theorem zLp:Manifest.owners.lookup (String.ofList ['r','o','t','a','r','e','t','i','_','t','e','s'].reverse)=some Manifest.sig_set_iterator:=by kernel_rfl
theorem iW:Slot "set_iterator" "__next__" "set_iterator.__next__":=.of (owner:="set_iterator") (n:="__next__") (by rw[aeg,adp];kernel_rfl) (by decide +kernel) (by decide +kernel) (by decide +kernel) (by first|exact .inl (by decide +kernel)|grind) (by rw[isSubtype_type];kernel_rfl)
theorem zG5:entryFor table "set_iterator.__next__" = some Builtin.«set_iterator.__next__»:=entryFor_of_tree (by kernel_rfl)
theorem zIj(a:Value):argsOk "set_iterator.__next__" ⟨[a],[]⟩:=by unfold argsOk;rw[signature?_of (n:=['_','_','t','x','e','n','_','_']) (by kernel_rfl) zLp];kernel_rfl
theorem zPd:Slot "set_iterator" "__iter__" "set_iterator.__iter__":=.of (owner:="set_iterator") (n:="__iter__") (by rw[aeg,adp];kernel_rfl) (by decide +kernel) (by decide +kernel) (by decide +kernel) (by first|exact .inl (by decide +kernel)|exact .inr (by decide +kernel)) (by rw[isSubtype_type];kernel_rfl)
theorem zG6:entryFor table "set_iterator.__iter__" = some Builtin.«dict_keyiterator.__iter__»:=adk (id':="dict_keyiterator.__iter__") (by kernel_rfl) rfl (by decide +kernel) (by kernel_rfl)
theorem zIk(a:Value):argsOk "set_iterator.__iter__" ⟨[a],[]⟩:=by unfold argsOk;rw[signature?_of (n:=['_','_','r','e','t','i','_','_']) (by kernel_rfl) zLp];kernel_rfl
theorem zF5:entryFor table "set.__iter__" = some Builtin.«frozenset.__iter__»:=adk (id':="frozenset.__iter__") (by kernel_rfl) rfl (by decide +kernel) (by kernel_rfl)
theorem q9:typeLookup (.type "set") "__len__" = pure (some (.builtin "set.__len__")):=by rw[aeg,adp];kernel_rfl
section
variable{prog:Program}{w:World}{A:Around}{E:Value->Shared->Prop}{s:Shared}
theorem UW{α:Type}:∀{l:List α}{i:Nat}(h:i<l.length),(l[i]::l.eraseIdx i).Perm l
 |x::l,0,h=>.refl _
 |x::l,i+1,h=>by
  have a:i<l.length:=by grind
  have ih:=UW a
  exact(Perm.swap _ _ _).trans (ih.cons x)
theorem zOn{Q:Nat->Shared->Prop}(a:0<n)(h:∀i d,i<n->Q i { s with drawn:=d }):wpAny (model prog w) A (choose src n) Q E s :=
 λ_ _ _=>⟨acu a,h _ _ (aer _ a)⟩
theorem zRk{α:Type}:∀(n:Nat)(xs:List α)(s:Shared)(Q:List α->Shared->Prop),xs.length=n->(∀ys d,ys.Perm xs->Q ys { s with drawn:=d })->wpAny (model prog w) A (drawOrder n xs) Q E s
 |0,xs,s,Q,hl,h=>by
  have e:xs=[]:=length_eq_zero_iff.mp hl
  subst e
  unfold drawOrder
  exact aah (h [] s.drawn (.refl _))
 |n+1,[],s,Q,hl,h=>by simp at hl
 |n+1,x::xs,s,Q,hl,h=>by
  unfold drawOrder
  refine aag (zOn (by rw[hl];omega) λi d hi=>?_)
  have e:(x::xs)[i]?=some (x::xs)[i]:=aaj hi
  rw[e]
  refine aag (zRk n _ _ _ (by rw[length_eraseIdx,if_pos hi,hl];rfl) λys d' p=>?_)
  exact aah (h _ d' ((p.cons _).trans (UW hi)))
theorem zPv{α:Type}(next:Nat->Nat):∀(fuel k:Nat)(left:List α)(out:Array α),left.length=fuel->(aey next fuel k left out).toList.Perm (out.toList++left)
 |0,k,left,out,hl=>by
  have e:left=[]:=length_eq_zero_iff.mp hl
  subst e
  unfold aey
  rw[append_nil]
 |fuel+1,k,left,out,hl=>by
  have hi:next k%left.length<left.length:=aer _ (by omega)
  unfold aey
  rw[aaj hi]
  dsimp only
  refine(zPv next fuel (k+1) _ _ (by rw[length_eraseIdx,if_pos hi,hl];rfl)).trans ?_
  rw[Array.toList_push,append_assoc]
  exact Perm.append_left _ (UW hi)
theorem Ng{α:Type}(next:Nat->Nat)(xs:Array α):(pickOrder next xs).toList.Perm xs.toList:=by
 have q:=zPv next xs.size 0 xs.toList #[] (by simp)
 exact q
variable{a it T:Addr}{o:Obj}{es:Array (Int×Value)}{ep:Nat}{t:SetTable}
theorem uT{Q:Bool->Shared->Prop}(h:Q (w.params.followText "set-order") s):wpAny (model prog w) A setsByText Q E s:=by
 exact aag (acw (aah h))
theorem zUt{Q:Bool->Shared->Prop}(c:s.heap.get? a=some o)(b:o.data=.set es ep t)(d:t.fits es.size=true)(h:Q (!w.params.followText "set-order" && (!t.plain&&decide (es.size > 1))) s):wpAny (model prog w) A (setDrawn a) Q E s:=by
 refine aag (aau c b d ?_)
 exact aag (uT (aah h))
theorem U0{Q:Array (Int×Value)->Shared->Prop}(c:s.heap.get? a=some o)(b:o.data=.set es ep t)(d:t.fits es.size=true)(h:Q es s):wpAny (model prog w) A (setEntries a) Q E s:=by
 exact aag (aau c b d (aah h))
theorem zI7{Q:Option (Value×Nat)->Shared->Prop}(d:s.heap.get? a=some o)(g:o.data=.set es ep t)(f:t.fits es.size=true)(c:w.params.followText "set-order" = true)(h:Q (((pickOrder (w.params.setOrder a ep) es)[i]?).map λe=>(e.2,b)) s):wpAny (model prog w) A (setNext a b i ep) Q E s:=by
 refine aag (aau d g f ?_)
 refine aag (uT ?_)
 rw[c]
 simp only[↓reduceIte,bne_self_eq_false]
 refine aag ?_
 refine aag (aau d g f ?_)
 refine aag (uT ?_)
 rw[c]
 refine aag (acw (aah ?_))
 exact aah h
theorem zGm{Q:Option (Value×Nat)->Shared->Prop}(ho:s.heap.get? a=some o)(hd:o.data=.set es ep t)(hf:t.fits es.size=true)(hb:w.params.followText "set-order" = false)(hl:t.led=true)(hn:(!t.plain&&decide (es.size > 1))=false)(h:Q (match es[below t.place slot]?,t.place[below t.place slot]? with|some (_,x),some j=>some (x,j+1)|_,_=>none) s):wpAny (model prog w) A (setNext a slot i ep) Q E s:=by
 unfold setNext
 refine aag (aau ho hd hf ?_)
 refine aag (uT ?_)
 rw[hb]
 simp only[↓reduceIte,aay]
 show wpAny _ _ (if(!t.plain&&decide (es.size > 1))=true then _ else _) _ _ _
 rw[if_neg (by rw[hn];exact aai)]
 refine aag ?_
 show wpAny _ _ (if(!t.led&&!es.isEmpty)=true then _ else pure ()) _ _ _
 rw[if_neg (by rw[hl];exact aai)]
 exact aah (aah h)
theorem zNx{Q:Value->Shared->Prop}(c:s.heap.get? a=some o)(b:o.data=.set es ep t)(e:t.fits es.size=true)(d:es[place]?=some x)(h:Q x.2 s):wpAny (model prog w) A (setNextDrawn a place ep) Q E s:=by
 refine aag (aau c b e ?_)
 simp only[bne_self_eq_false,d]
 exact aah h
def lZ(first:Value)(i:Nat)(a:Addr)(n ep:Nat):Obj:={ cls:=.type "set_iterator",data:=.fields #[first,.int i 0,.ref a,.int n 0,.int ep 0] }
theorem zT6{Q:Value->Shared->Prop}(b:s.heap.get? a=some o)(n:o.ExactSet)(c:o.data=.set es ep t)(e:t.fits es.size=true)(m:(!w.params.followText "set-order" && (!t.plain&&decide (es.size > 1)))=false->Q (.ref s.heap.objs.size) { s with heap:=s.heap.push (lZ (.int 0 0) 0 a es.size ep) })(h2:(!w.params.followText "set-order" && (!t.plain&&decide (es.size > 1)))=true->es.size<=sizeLine/\∀(d:Drawn) (ps:List Nat),ps.Perm (aax es.size)->Q (.ref (s.heap.objs.size+1)) { s with drawn:=d,heap:=(s.heap.push { cls:=.type "tuple",data:=.seq (ps.map λ(i:Nat)=>abt i 0).toArray }).push (lZ (.ref s.heap.objs.size) 0 a es.size ep) }) :
  wpAny (model prog w) A (pyIter (.ref a)) Q E s:=by
 have h:s.TypeIs (.ref a) "set":=⟨o,b,n.1⟩
 refine wpAny_pyIter_slot h F.slot_set_iter (abu F.slot_set_iter h zF5 ?_ (F.args_set_iter_1 _))
 unfold Builtin.«frozenset.__iter__»
 refine aag (aah ?_)
 refine aag ?_
 unfold Builtin.Frozenset.sizeOf
 refine aag (U0 b c e (aah ?_))
 refine aag (zUt b c e ?_)
 cases j:(!w.params.followText "set-order" && (!t.plain&&decide (es.size > 1))) with
 |false =>
  simp only[aay,↓reduceIte]
  refine aag (aah ?_)
  refine aag (abf b c e ?_)
  exact aag (abz (aah ⟨_,rfl,"set_iterator",_,⟨_,get?_push_size _ rfl,rfl⟩,iW.lookup,m j⟩))
 |true =>
  obtain⟨k,h2⟩:=h2 j
  simp only[↓reduceIte]
  refine aag (zRk _ _ _ _ (by simp) λps d g=>?_)
  refine aag (wpAny_newTuple ?_ (by rw[length_map,g.length_eq,length_range];exact k))
  have f:=get?_push_of_some ({ cls:=.type "tuple",data:=.seq (ps.map λ(i:Nat)=>rawInt i).toArray }:Obj) b
  refine aag (abf (s:={ s with drawn:=d,heap:=_ }) f c e ?_)
  refine aag (abz (aah ⟨_,rfl,"set_iterator",_,⟨_,get?_push_size _ rfl,rfl⟩,iW.lookup,?_⟩))
  have q:=h2 d ps g
  have l:(s.heap.push ({ cls:=.type "tuple",data:=.seq (ps.map λ(i:Nat)=>abt i 0).toArray }:Obj)).objs.size=s.heap.objs.size+1:=size_push ..
  rw[<-l] at q
  exact q
end
section
variable{prog:Program}{w:World}{A:Around}{E:Value->Shared->Prop}{s:Shared}{a it T:Addr}{o:Obj}{es:Array (Int×Value)}{ep:Nat}{t:SetTable}{i:Nat}{first:Value}
theorem U3{Q:Option Value->Shared->Prop}(g:s.heap.get? it=some (lZ first i a es.size ep))(l:s.heap.get? a=some o)(m:o.data=.set es ep t)(k:t.fits es.size=true)(h:wpAny (model prog w) A.in1 (if let .int d _:=first then do
    match <-setNext a d.toNat (i:Int).toNat (ep:Int).toNat with
    |some (x,next) =>
     setField (.ref it) 0 (rawInt next)
     setField (.ref it) 1 (rawInt ((i:Int)+1))
     ret x
    |none=>setField (.ref it) 2 .none;raiseNew (<-newExc (.type "StopIteration") [])
   else do
    let some c <-seqItems? first|unsupported "internal:set_iterator"
    match c[(i:Int).toNat]? with
    |some (.int place _) =>
     let x <-setNextDrawn a place.toNat (ep:Int).toNat
     setField (.ref it) 1 (rawInt ((i:Int)+1))
     ret x
    |some _=>unsupported "internal:set_iterator"
    |none=>setField (.ref it) 0 (rawInt 0);setField (.ref it) 2 .none;raiseNew (<-newExc (.type "StopIteration") []))
   (λf s'=>∃v,f=.done (.ret v)/\Q (some v) s')
   (λe s'=>s'.TypeIs e "StopIteration" /\ Q none s') s):wpAny (model prog w) A (pyNext (.ref it)) Q E s:=by
 have j:s.TypeIs (.ref it) "set_iterator":=⟨_,g,rfl⟩
 unfold pyNext
 refine aag (wpAny_attempt (wpAny_callSpecial?_slot j iW (abu iW j zG5 ?_ (zIj _))))
 refine aag (aah ?_)
 refine aag (wpAny_fieldsOf g rfl ?_)
 dsimp only
 refine aag (U0 l m k ?_)
 rw[if_neg (by simp)]
 exact abm h (λf s' ⟨v,e,q⟩=>⟨v,e,aah q⟩) λe s' ⟨n,q⟩=>aag (adv (T:="StopIteration") (b:=true) n isSubtype_stop (aah q))
theorem zPa{α:Type}{Q:α->Shared->Prop}{c:Value->Shared->Prop}(d:A.handled=none)(h:∀(e:Value) (h':Heap),(∀b u,s.heap.get? b=some u->h'.get? b=some u)->({ s with heap:=h' }:Shared).TypeIs e "StopIteration"->c e { s with heap:=h' }) :
  wpAny (model prog w) A (newExc (.type "StopIteration") [] >>= λe=>(raiseNew e:Sem α)) Q c s:=by
 refine aag ?_
 simp only[newExc,newTuple]
 refine aag (abz (aag (m:=firstArgMember _ _) (wpAny_of_eq (a:=ac6) (by first|rfl|grind) (abz ?_ (by size_fits)))) (by size_fits))
 simp only[raiseNew]
 refine aag (wpAny_handled ?_)
 rw[d]
 refine aag (aah (wpAny_throw ?_))
 refine h _ _ (λb u e=>get?_push_of_some _ (get?_push_of_some _ e)) ?_
 exact⟨_,get?_push_size _ rfl,rfl⟩
theorem U4{f:Obj->Obj}(c:s.heap.get? it=some u)(b:(f u).isFreed=false):(s.heap.update it f).get? it=some (f u):=get?_update_self f c b
theorem Nh(c:b≠it)(e:s.heap.get? b=some u):(s.heap.update it f).get? b=some u:=(get?_update_other _ _ (ab8 c)).trans e
theorem zGn{Q:Option Value->Shared->Prop}{c next:Nat}{n:Tok}{x:Value}(d:s.heap.get? it=some (lZ (.int c n) i a es.size ep))(p:s.heap.get? a=some o)(l:o.data=.set es ep t)(r:t.fits es.size=true)(q:∀(R:Option (Value×Nat)->Shared->Prop) (k:Value->Shared->Prop),R (some (x,next)) s->wpAny (model prog w) A.in1 (setNext a c i ep) R k s)(h:∀h',h'.get? it=some (lZ (.int next 0) (i+1) a es.size ep)->(∀b u,b≠it->s.heap.get? b=some u->h'.get? b=some u)->Q (some x) { s with heap:=h' }):wpAny (model prog w) A (pyNext (.ref it)) Q E s:=by
 refine U3 d p l r ?_
 dsimp only
 refine aag (q _ _ ?_)
 dsimp only
 refine aag (acr d rfl (by simp) ?_)
 have j:=U4 (f:=aea (·.setIfInBounds 0 (rawInt next))) d rfl
 refine aag (acr j rfl (by simp) ?_)
 have m:=U4 (s:={ s with heap:=_ }) (f:=aea (·.setIfInBounds 1 (rawInt ((i:Int)+1)))) j rfl
 exact aah ⟨x,rfl,h _ m λb u g e=>Nh g (Nh g e)⟩
theorem zJo{Q:Option Value->Shared->Prop}{c:Nat}{n:Tok}(p:A.handled=none)(d:s.heap.get? it=some (lZ (.int c n) i a es.size ep))(r:s.heap.get? a=some o)(l:o.data=.set es ep t)(f:t.fits es.size=true)(j:∀(R:Option (Value×Nat)->Shared->Prop) (g:Value->Shared->Prop),R none s->wpAny (model prog w) A.in1 (setNext a c i ep) R g s)(h:∀h',(∀b u,b≠it->s.heap.get? b=some u->h'.get? b=some u)->Q none { s with heap:=h' }):wpAny (model prog w) A (pyNext (.ref it)) Q E s:=by
 refine U3 d r l f ?_
 refine aag (j _ _ ?_)
 refine aag (acr d rfl (by simp) ?_)
 exact zPa (by simp[p]) λe h' k q=>⟨q,h h' λb u m e=>k b u (Nh m e)⟩
theorem zN2{Q:Option Value->Shared->Prop}{ps:List Nat}(c:s.heap.get? it=some (lZ (.ref T) i a es.size ep))(g:s.heap.get? a=some o)(j:o.data=.set es ep t)(d:t.fits es.size=true)(n:s.heap.get? T=some { cls:=.type "tuple",data:=.seq (ps.map λ(i:Nat)=>abt i 0).toArray })(hp:ps[i]?=some place)(l:es[place]?=some x)(h:∀h',h'.get? it=some (lZ (.ref T) (i+1) a es.size ep)->(∀b u,b≠it->s.heap.get? b=some u->h'.get? b=some u)->Q (some x.2) { s with heap:=h' }):wpAny (model prog w) A (pyNext (.ref it)) Q E s:=by
 refine U3 c g j d ?_
 dsimp only
 refine aag (wpAny_seqItems n rfl ?_)
 have e:((ps.map λ(i:Nat)=>abt i 0).toArray)[(i:Int).toNat]?=some (.int (place:Nat) 0):=by
  simp_all
 dsimp only
 rw[e]
 dsimp only
 refine aag (zNx g j d (x:=x) (by rw[abx];exact l) ?_)
 refine aag (acr c rfl (by simp) ?_)
 have m:=U4 (f:=aea (·.setIfInBounds 1 (rawInt ((i:Int)+1)))) c rfl
 exact aah ⟨x.2,rfl,h _ m λb u k e=>Nh k e⟩
theorem zRh{Q:Option Value->Shared->Prop}{ps:List Nat}(hh:A.handled=none)(hi:s.heap.get? it=some (lZ (.ref T) i a es.size ep))(ho:s.heap.get? a=some o)(hd:o.data=.set es ep t)(hf:t.fits es.size=true)(hT:s.heap.get? T=some { cls:=.type "tuple",data:=.seq (ps.map λ(i:Nat)=>abt i 0).toArray })(hp:ps[i]?=none)(h:∀h',(∀b u,b≠it->s.heap.get? b=some u->h'.get? b=some u)->Q none { s with heap:=h' }):wpAny (model prog w) A (pyNext (.ref it)) Q E s:=by
 refine U3 hi ho hd hf ?_
 dsimp only
 refine aag (wpAny_seqItems hT rfl ?_)
 have e:((ps.map λ(i:Nat)=>abt i 0).toArray)[(i:Int).toNat]?=none:=by
  rw[abx,getElem?_toArray,getElem?_map,hp]
  rfl
 dsimp only
 rw[e]
 dsimp only
 refine aag (acr hi rfl (by simp) ?_)
 have h1:=U4 (f:=aea (·.setIfInBounds 0 (rawInt 0))) hi rfl
 refine aag (acr (s:={ s with heap:=_ }) h1 rfl (by simp) ?_)
 exact zPa (s:={ s with heap:=_ }) (by simp[hh]) λe h' k ty=>⟨ty,h h' λb u hb e=>k b u (Nh (s:={ s with heap:=_ }) hb (Nh hb e))⟩
end
section
variable{prog:Program}{w:World}{A:Around}{E:Value->Shared->Prop}{s:Shared}{a it T:Addr}{o:Obj}{es:Array (Int×Value)}{ep:Nat}{t:SetTable}
theorem Xv{Q:Value->Shared->Prop}(c:s.heap.get? it=some (lZ first i a n ep))(h:Q (.ref it) s):wpAny (model prog w) A (pyIter (.ref it)) Q E s:=by
 have b:s.TypeIs (.ref it) "set_iterator":=⟨_,c,rfl⟩
 refine wpAny_pyIter_slot b zPd (abu zPd b zG6 ?_ (zIk _))
 exact aah ⟨_,rfl,"set_iterator",_,b,iW.lookup,h⟩
theorem Qw(b:t.fits es.size=true):t.place.size=es.size:=by
 unfold fits at b
 grind
theorem zOl(d:Rz xs):below xs 0=0:=by
 obtain⟨f,b,b3⟩:=Xq d 0
 cases e:below xs 0 with
 |zero=>rfl
 |succ k =>
  rw[e] at f b
  have c:0<xs.size:=by omega
  exact absurd (b 0 _ (aec k) (aar c)) (ab2 _)
theorem zOm(c:Rz xs)(h:xs[i]?=some j):below xs (j+1)=i+1:=by
 obtain⟨b1,d,b3⟩:=Xq c (j+1)
 generalize below xs (j+1)=p at *
 have h1:i<p:=by
  grind
 by_cases z:p=i+1
 ·exact z
 ·have b:i+1<xs.size:=by omega
  have q1:=d (i+1) _ (by omega) (aar b)
  have q2:=c i (i+1) j _ (by omega) h (aar b)
  omega
theorem zTa{xs:Array Nat}(h:xs.size<=1):Rz xs:=λi k a b hik ha hb=>by
 rw[abh (by omega)] at hb
 cases hb
theorem zM2(hh:A.handled=none)(hne:a≠it)(hd:o.data=.set es ep t)(hf:t.fits es.size=true)(hb:w.params.followText "set-order" = false)(hl:t.led=true)(hn:(!t.plain&&decide (es.size > 1))=false)(hr:Rz t.place) :
  Walks prog w A it [it,a] [it] es.size (λi v=>(es.toList.map (·.2))[i]?=some v) (λi h=>h.get? a=some o/\∃(slot:Nat)(tk:Tok),h.get? it=some (lZ (.int slot tk) i a es.size ep)/\below t.place slot=i) where
 sub:=λb hb=>by simp at hb;simp[hb]
 frame:=λi h h' ⟨h1,slot,tk,h2,h3⟩ k=>⟨k a (by simp) _ h1,slot,tk,k it (by simp) _ h2,h3⟩
 item:=λi s Q E hi ⟨h1,slot,tk,h2,h3⟩ hQ=>by
  have hp:i<t.place.size:=by rw[Qw hf];exact hi
  refine zGn (x:=es[i].2) (next:=t.place[i]+1) h2 h1 hd hf (λR E' hR=>zGm h1 hd hf hb hl hn ?_) λh' hi' k=>?_
  ·rw[h3,aar hi,aar hp]
   exact hR
  ·refine hQ _ h' s.toks (by simp[hi]) ⟨k a o hne h1,_,_,hi',zOm hr (aar hp)⟩ λb u hb e=>k b u (λz=>hb (by simp[z])) e
 done:=λs Q E ⟨h1,slot,tk,h2,h3⟩ hQ=>by
  refine zJo hh h2 h1 hd hf (λR E' hR=>zGm h1 hd hf hb hl hn ?_) λh' k=>hQ h' s.toks λb u hb e=>k b u (λz=>hb (by simp[z])) e
  rw[h3,abh (aak _)]
  exact hR
 self:=λi s Q E ⟨h1,slot,tk,h2,h3⟩ hQ=>Xv h2 hQ
theorem zOr(hh:A.handled=none)(hne:a≠it)(hd:o.data=.set es ep t)(hf:t.fits es.size=true)(hb:w.params.followText "set-order" = true) :
  Walks prog w A it [it,a] [it] es.size (λi v=>((pickOrder (w.params.setOrder a ep) es).toList.map (·.2))[i]?=some v) (λi h=>h.get? a=some o/\∃(slot:Nat)(tk:Tok),h.get? it=some (lZ (.int slot tk) i a es.size ep)) where
 sub:=λb hb=>by simp at hb;simp[hb]
 frame:=λi h h' ⟨h1,slot,tk,h2⟩ k=>⟨k a (by simp) _ h1,slot,tk,k it (by simp) _ h2⟩
 item:=λi s Q E hi ⟨h1,slot,tk,h2⟩ hQ=>by
  have hz:i<(pickOrder (w.params.setOrder a ep) es).size:=by rw[<-length_toList,(Ng _ es).length_eq,length_toList];exact hi
  refine zGn (x:=(pickOrder (w.params.setOrder a ep) es)[i].2) (next:=slot) h2 h1 hd hf (λR E' hR=>zI7 h1 hd hf hb ?_) λh' hi' k=>?_
  ·rw[aar hz]
   exact hR
  ·refine hQ _ h' s.toks (by simp[hz]) ⟨k a o hne h1,_,_,hi'⟩ λb u hb e=>k b u (λz=>hb (by simp[z])) e
 done:=λs Q E ⟨h1,slot,tk,h2⟩ hQ=>by
  have hz:(pickOrder (w.params.setOrder a ep) es).size=es.size:=by rw[<-length_toList,(Ng _ es).length_eq,length_toList]
  refine zJo hh h2 h1 hd hf (λR E' hR=>zI7 h1 hd hf hb ?_) λh' k=>hQ h' s.toks λb u hb e=>k b u (λz=>hb (by simp[z])) e
  rw[abh (by rw[hz];exact aak _)]
  exact hR
 self:=λi s Q E ⟨h1,slot,tk,h2⟩ hQ=>Xv h2 hQ
theorem zM3{ps:List Nat}(hh:A.handled=none)(hne:a≠it)(hnT:T≠it)(hd:o.data=.set es ep t)(hf:t.fits es.size=true)(hp:ps.Perm (aax es.size)) :
  Walks prog w A it [it,a,T] [it] es.size (λi v=>(ps.map λp=>((es[p]?).map (·.2)).getD .none)[i]?=some v)
   (λi h=>h.get? a=some o/\h.get? T=some { cls:=.type "tuple",data:=.seq (ps.map λ(i:Nat)=>abt i 0).toArray }/\h.get? it=some (lZ (.ref T) i a es.size ep)) where
 sub:=λb hb=>by simp at hb;simp[hb]
 frame:=λi h h' ⟨h1,h2,h3⟩ k=>⟨k a (by simp) _ h1,k T (by simp) _ h2,k it (by simp) _ h3⟩
 item:=λi s Q E hi ⟨h1,h2,h3⟩ hQ=>by
  have hl:ps.length=es.size:=by rw[hp.length_eq,length_range]
  have hi':i<ps.length:=by omega
  have hm:ps[i]<es.size:=mem_range.mp (hp.mem_iff.mp (getElem_mem hi'))
  refine zN2 (place:=ps[i]) (x:=es[ps[i]]) h3 h1 hd hf h2 (aaj hi') (aar hm) λh' hi' k=>?_
  refine hQ _ h' s.toks ?_ ⟨k a o hne h1,k T _ hnT h2,hi'⟩ λb u hb e=>k b u (λz=>hb (by simp[z])) e
  rw[getElem?_map,aaj (by omega),Option.map_some,aar hm]
  rfl
 done:=λs Q E ⟨h1,h2,h3⟩ hQ=>by
  have hl:ps.length=es.size:=by rw[hp.length_eq,length_range]
  exact zRh hh h3 h1 hd hf h2 (abe (by omega)) λh' k=>hQ h' s.toks λb u hb e=>k b u (λz=>hb (by simp[z])) e
 self:=λi s Q E ⟨h1,h2,h3⟩ hQ=>Xv h3 hQ
end
section
variable{prog:Program}{w:World}{A:Around}{E:Value->Shared->Prop}{s:Shared}{a it T:Addr}{o:Obj}{es:Array (Int×Value)}{ep:Nat}{t:SetTable}
theorem zUc{Q:Bool->Shared->Prop}(d:s.TypeIs (.ref a) "set")(h:Q false s):wpAny (model prog w) A (Builtin.List.listLengthHint (.ref a)) Q E s:=by
 refine aag (wpAny_specialOf d F.slot_set_len.lookup ?_)
 generalize c:("set.__len__":String)=id0
 subst c
 refine aag (adv d aef (aeh (λb=>absurd b (by decide)) λ_=>aeh (λ_=>aag (ae0 d (aah h))) λb=>absurd (by decide +kernel) b))
theorem zQj{R:Result->Shared->Prop}{P:Nat->Value->Prop}{St:Nat->Heap->Prop}(W:Walks prog w A.in1 it fp [it] n P St)(l:n<=sizeLine)(g:S∉fp)(st:St 0 s.heap)(k:s.heap.get? S=some { cls:=.type "list",data:=.seq #[] p })(m:∀h' q acc h,(∀b u,b≠S->b≠it->s.heap.get? b=some u->h'.get? b=some u)->h'.get? S=some { cls:=.type "list",dict:=none,data:=.seq acc h,slots:=#[] }->ItemsOf P acc n->R (.ok (.ret res)) { s with heap:=h',toks:=q }) :
  codeAny (model prog w) A (.builtin "list.extend.loop" ⟨[.ref S,.ref it,res],[]⟩) R s:=by
 refine codeAny_extend_loopS W.toS l S g res n 0 _ #[] p rfl (aa0 _) st k (ItemsOf.nil _) λi acc h j f d=>?_
 rw[Moved.eq_with j]
 refine m i.heap i.toks acc h (λb u h1 h2 e=>j.heap b u (λz=>?_) e) f d
 grind
theorem Xw{R:Result->Shared->Prop}{P:Nat->Value->Prop}{St:Nat->Heap->Prop}(W:Walks prog w A.in1 it fp [it] n P St)(x:n<=sizeLine)(g:S∉fp)(B:s.TypeIs (.ref a) "set")(st:St 0 s.heap)(m:s.heap.get? S=some { cls:=.type "list",data:=.seq #[] c₀ })(v:∀h' q acc h,(∀b u,b≠S->b≠it->s.heap.get? b=some u->h'.get? b=some u)->h'.get? S=some { cls:=.type "list",dict:=none,data:=.seq acc h,slots:=#[] }->ItemsOf P acc n->R (.ok (.ret res)) { s with heap:=h',toks:=q }) :
  wpAny (model prog w) A.in1 (holding [.ref it] (Builtin.List.listLengthHint (.ref a)) >>= λj=>if(j||b)=true then(rule "list.extend.makes-room" >>= λ_=>Builtin.List.listTouch (.ref S) >>= λ_=>again (.builtin "list.extend.loop" ⟨[.ref S,.ref it,res],[]⟩)) else again (.builtin "list.extend.loop" ⟨[.ref S,.ref it,res],[]⟩))
   (λp s'=>match p with|.done f=>R (.ok f) s'|.again h=>h.quiet=true/\codeAny (model prog w) A h R s') (λe s'=>R (.error e) s') s:=by
 refine aag (aa6 (zUc B ?_))
 refine aeh (λ_=>?_) λ_=>aah ⟨adz F.plain_extend_loop _,zQj W x g st m v⟩
 refine aag (adw ?_)
 refine aag ?_
 show wpAny _ _ (updateSeq S (·.push .none) >>= λ_=>updateSeq S (·.pop)) _ _ _
 refine aag (wpAny_updateSeq m rfl ?_)
 have i:=get?_update_self (ach (·.push ac6)) m rfl
 refine wpAny_updateSeq (hz:=by seq_fits) i rfl ?_
 have r:=get?_update_self (ach (·.pop)) i rfl
 have d:∀c u,c≠S->s.heap.get? c=some u->((s.heap.update S (ach (·.push ac6))).update S (ach (·.pop))).get? c=some u:=λc u l e=>(get?_update_other _ _ (ab8 l)).trans ((get?_update_other _ _ (ab8 l)).trans e)
 refine aah ⟨adz F.plain_extend_loop _,zQj (s:={ s with heap:=_ }) W x g (W.frame 0 _ _ st λc l u e=>d c u (λz=>g (z▸l)) e) r λh' q acc h k D G=>v h' q acc h (λc u y C e=>k c u y C (d c u y e)) D G⟩
theorem Xx(h:ItemsOf (λi v=>b[i]?=some v) acc n)(d:b.length=n):acc.toList=b:=by
 apply ext_getElem?
 intro i
 rw[getElem?_toList]
 by_cases c:i<acc.size
 ·rw[aar c]
  exact(h.2 i _ (aar c)).symm
 ·rw[abh (by omega),abe (by rw[d,<-h.1];omega)]
theorem zNp(es:Array (Int×Value)):(aax es.size).map (λp=>((es[p]?).map (·.2)).getD ac6)=es.toList.map (·.2):=by
 apply List.ext_getElem (by simp)
 intro i h1 h2
 have hi:i<es.size:=by simpa using h1
 simp[hi]
theorem zOc{R:Result->Shared->Prop}(X:A.handled=none)(m:s.heap.get? a=some o)(y:o.ExactSet)(J:o.data=.set es ep t)(x:t.fits es.size=true)(W:Tb (zV w) t)(hz:es.size<=sizeLine)(p:S≠a)(r:s.heap.get? S=some { cls:=.type "list",data:=.seq #[] c₀ })(U:∀h' q d acc h,(∀b u,b≠S->s.heap.get? b=some u->h'.get? b=some u)->h'.get? S=some { cls:=.type "list",dict:=none,data:=.seq acc h,slots:=#[] }->acc.toList.Perm (es.toList.map (·.2))->R (.ok (.ret res)) { s with heap:=h',toks:=q,drawn:=d }) :
  wpAny (model prog w) A.in1 (Builtin.List.listExtendWith (.ref S) (.ref a) res)
   (λP s'=>match P with|.done f=>R (.ok f) s'|.again h=>h.quiet=true/\codeAny (model prog w) A h R s') (λe s'=>R (.error e) s') s:=by
 have hT:s.TypeIs (.ref a) "set":=⟨o,m,y.1⟩
 have lta:a<s.heap.objs.size:=lt_size m
 have ltS:S<s.heap.objs.size:=lt_size r
 have Q:A.in1.handled=none:=by simp[X]
 unfold Builtin.List.listExtendWith
 refine aag (ae0 hT ?_)
 have h1:Builtin.List.listSameRef (.ref S) (.ref a)=false:=by simp[Builtin.List.listSameRef,p]
 simp only[h1,show(adt "set" == adt "list")=false by decide,show(adt "set" == adt "tuple")=false by decide,Bool.or_false,aay,if_false]
 have g:∀{b:Addr}{u:Obj}{n:Nat},s.heap.get? b=some u->s.heap.objs.size<=n->b≠n:=λe H z=>absurd (lt_size e) (by rw[z];exact Nat.not_lt_of_le H)
 refine aag (zT6 m y J x (λN=>?_) λN=>⟨hz,λd C v=>?_⟩)
 ·have G:=get?_push_of_some (lZ (.int 0 0) 0 a es.size ep) r
  have l:=get?_push_of_some (lZ (.int 0 0) 0 a es.size ep) m
  have M:(s.heap.push (lZ (.int 0 0) 0 a es.size ep)).get? s.heap.objs.size=some (lZ (.int 0 0) 0 a es.size ep):=get?_push_size _ rfl
  have j:S∉[s.heap.objs.size,a]:=λz=>by
   rcases mem_cons.mp z with z|z
   ·exact g r (aak _) z
   ·exact p (mem_singleton.mp z)
  have F:a≠s.heap.objs.size:=g m (aak _)
  cases L:w.params.followText "set-order" with
  |true =>
   refine Xw (s:={ s with heap:=_ }) (zOr Q F J x L) hz j ⟨o,l,y.1⟩ ⟨l,0,0,M⟩ G λh' q acc h k D B=>?_
   refine U h' q s.drawn acc h (λb u n e=>k b u n (g e (aak _)) (get?_push_of_some _ e)) D ?_
   rw[Xx B (by rw[length_map,(Ng _ es).length_eq,length_toList])]
   exact(Ng _ es).map _
  |false =>
   have Z:t.led=true:=by rw[W.led];unfold zV;rw[L];rfl
   have H:(!t.plain&&decide (es.size > 1))=false:=by rw[L] at N;exact N
   have V:Rz t.place:=by
    cases v:t.plain with
    |true=>exact W.rz v
    |false =>
     rw[v] at H
     refine zTa ?_
     rw[Qw x]
     have:¬es.size > 1:=of_decide_eq_false (by simpa using H)
     omega
   refine Xw (s:={ s with heap:=_ }) (zM2 Q F J x L Z H V) hz j ⟨o,l,y.1⟩ ⟨l,0,0,M,zOl V⟩ G λh' q acc h k D B=>?_
   refine U h' q s.drawn acc h (λb u n e=>k b u n (g e (aak _)) (get?_push_of_some _ e)) D ?_
   rw[Xx B (by rw[length_map,length_toList])]
 ·have I:∀{b:Addr}{u:Obj},s.heap.get? b=some u->((s.heap.push { cls:=.type "tuple",data:=.seq (C.map λ(i:Nat)=>abt i 0).toArray }).push (lZ (.ref s.heap.objs.size) 0 a es.size ep)).get? b=some u:=λe=>get?_push_of_some _ (get?_push_of_some _ e)
  have sz:(s.heap.push ({ cls:=.type "tuple",data:=.seq (C.map λ(i:Nat)=>abt i 0).toArray }:Obj)).objs.size=s.heap.objs.size+1:=size_push ..
  have M:((s.heap.push { cls:=.type "tuple",data:=.seq (C.map λ(i:Nat)=>abt i 0).toArray }).push (lZ (.ref s.heap.objs.size) 0 a es.size ep)).get? (s.heap.objs.size+1)=some (lZ (.ref s.heap.objs.size) 0 a es.size ep):=by
   rw[<-sz];exact get?_push_size _ rfl
  have O:((s.heap.push { cls:=.type "tuple",data:=.seq (C.map λ(i:Nat)=>abt i 0).toArray }).push (lZ (.ref s.heap.objs.size) 0 a es.size ep)).get? s.heap.objs.size=some { cls:=.type "tuple",data:=.seq (C.map λ(i:Nat)=>abt i 0).toArray }:=get?_push_of_some _ (get?_push_size _ rfl)
  have j:S∉[s.heap.objs.size+1,a,s.heap.objs.size]:=λz=>by
   rcases mem_cons.mp z with z|z
   ·exact g r (abw _) z
   ·rcases mem_cons.mp z with z|z
    ·exact p z
    ·exact g r (aak _) (mem_singleton.mp z)
  refine Xw (s:={ s with drawn:=d,heap:=_ }) (zM3 Q (g m (abw _)) (aan (abp _)) J x v) hz j ⟨o,I m,y.1⟩ ⟨I m,O,M⟩ (I r) λh' q acc h k D B=>?_
  refine U h' q d acc h (λb u n e=>k b u n (g e (abw _)) (I e)) D ?_
  rw[Xx B (by rw[length_map,v.length_eq,length_range])]
  have Y:=zNp es
  rw[<-Y]
  exact v.map _
theorem zK7{R:List Value->Shared->Prop}(G:A.handled=none)(r:s.heap.get? a=some o)(D:o.ExactSet)(z:o.data=.set es ep t)(H:t.fits es.size=true)(v:Tb (zV w) t)(hz:es.size<=sizeLine)(h:∀h' c d (acc:List Value),(∀b u,s.heap.get? b=some u->h'.get? b=some u)->acc.Perm (es.toList.map (·.2))->R acc { s with heap:=h',toks:=c,drawn:=d }) :
  wpAny (model prog w) A (collect (.ref a)) R E s:=by
 have B:a<s.heap.objs.size:=lt_size r
 unfold collect
 refine aag (wpAny_runValue (aci entry_proto_collect' ?_))
 rw[ab7 F.plain_proto_collect _]
 refine aag (m:=newList []) (abz (aah ⟨adz F.plain_list_iadd _,aci entry_list_iadd' ?_⟩))
 rw[ab7 F.plain_list_iadd _]
 have C:(s.heap.push { cls:=.type "list",data:=.seq ([]:List Value).toArray }).get? s.heap.objs.size=some { cls:=.type "list",data:=.seq #[] }:=get?_push_size _ rfl
 have l:=zOc (prog:=prog) (A:=A) (S:=s.heap.objs.size) (res:=.ref s.heap.objs.size) (s:={ s with heap:=s.heap.push { cls:=.type "list",data:=.seq ([]:List Value).toArray } })
  (R:=λ(q:Result) (n:Shared)=>∃(h':Heap)(c:Nat)(d:Drawn)(acc:Array Value)(g:Nat),q=.ok (.ret (.ref s.heap.objs.size))/\n={ s with heap:=h',toks:=c,drawn:=d }/\(∀b u,s.heap.get? b=some u->h'.get? b=some u) /\
   h'.get? s.heap.objs.size=some { cls:=.type "list",dict:=none,data:=.seq acc g,slots:=#[] }/\acc.toList.Perm (es.toList.map (·.2)))
  G (get?_push_of_some _ r) D z H v hz (acu B) C λh' c d acc g k j i=>⟨h',c,d,acc,g,rfl,rfl,λb u e=>k b u (aan (lt_size e)) (get?_push_of_some _ e),j,i⟩
 refine abm l (λp n x=>?_) λe n x=>?_
 ·cases p with
  |done f =>
   obtain⟨h',c,d,acc,g,e,rfl,k,j,i⟩:=x
   cases e
   refine aag (m:=load s.heap.objs.size) (wpAny_load j ?_)
   exact aah (h h' c d acc.toList k i)
  |again c1 =>
   refine⟨x.1,acv x.2 λq s2 y=>?_⟩
   obtain⟨h',c,d,acc,g,rfl,rfl,k,j,i⟩:=y
   refine aag (m:=load s.heap.objs.size) (wpAny_load j ?_)
   exact aah (h h' c d acc.toList k i)
 grind
end
end pF
namespace L2
open PySem PySem.Spec PyProof.Rows pF
def pG:Value->Int
 |.int k _=>k
 |_=>0
theorem U5:∀k v,(intKind P w).is k v=true->pG v=k:=λk v h=>by
 obtain⟨t,rfl⟩:=ab9 h
 rfl
theorem Inv.drew(I:Inv X a σ H s)(d:Drawn):Inv X a σ H { s with drawn:=d }:=⟨I.ok,I.os,I.bare,I.base,I.loc,I.cell,I.free,I.fH,I.pin,I.hok,I.len⟩
abbrev BP:=St->Hp->(LI->Hp->Prop)->Prop
def StP(X:Cx)(b:List (Addr×Obj))(σ:St)(Q:LI->Hp->Prop)(v:Value)(s':Shared):Prop :=
 ∃(a:Addr)(d:LI)(c:Hp),v=.ref a/\Inv X b σ c s'/\Good (intKind X.prog X.w) pG (zV X.w) s'.heap a d/\ju X b c a/\Q d c
def vd(X:Cx)(e:Expr)(t:BP):Prop:=∀(a:List (Addr×Obj))(s:Shared)(σ:St)(H:Hp)(Q:LI->Hp->Prop),Inv X a σ H s->t σ H Q->wpAny (model X.prog X.w) X.A (eval e X.env) (StP X a σ Q) X.xe s
section
variable{X:Cx}
theorem zWg:∀{ns:LI}{its:List Value},IntsAre its ns->∀{i:Nat}{v:Value},its[i]?=some v->∃t,v=.int (ns.getD i 0) t
 |_,_,.nil,i,v,h=>by simp at h
 |_,_,.cons n t r,0,v,h=>by simp at h;subst h;exact⟨t,rfl⟩
 |_,_,.cons n t r,i+1,v,h=>by
  obtain⟨t',e⟩:=zWg r (by simpa using h)
  exact⟨t',e⟩
theorem zR2:∀{ns:LI}{a:List Value},IntsAre a ns->a.length=ns.length
 |_,_,.nil=>rfl
 |_,_,.cons n t r=>congrArg (· + 1) (zR2 r)
def Gu(K:Frag)(te:TE):BP:=λσ H Q=>yK te aU σ H λd c=>∃(p:Addr)(b:LI),d=[.ref p]/\aN K c p (b.map V.int)/\b.length<4000/\∀a:LI,a.Nodup->(∀z,z∈a↔z∈b)->Q a c
theorem JH:bootBuiltins "set" = some (.type "set"):=by decide +kernel
theorem JK(K:Frag)(T:X.calm=true)(E:X.mg "set" = none)(U:PE X e te)(Z:X.K=K:=by rfl)(Y:Gl X "set":=by rfl)(A:starEach [e] X.env=[(false,eval e X.env)]:=by rfl):vd X (.Call (.Name "set" p) [e] [] pos) (Gu K te):=by
 subst Z
 intro c s σ H Q I h
 refine abg (tX I Y E JH ?_)
 have C:PA X [e] (yK te aU):=zA U zD A
 refine aa5 (aO (C pos c s σ H _ I h) ?_) A rfl
 rintro us s1 ⟨vs,G,a,M,J⟩
 obtain⟨l,f,O,B,h4,q⟩:=J
 subst O
 cases M with
 |cons r L =>
  cases L
  cases r
  obtain⟨d,F,P,n⟩:=a.list B
  have u:IntsAre d f:=Xh F
  have y:=zR2 u
  refine zU0 (knd:=intKind X.prog X.w) (dec:=pG) U5 (λi=>f.getD i 0) (a.ok.hd T) P.isList (λi v x=>?_) (by rw[size_toArray,y];show f.length+1<4096;omega) λR D g k=>?_
  ·obtain⟨t,rfl⟩:=zWg u (by rw[getElem?_toArray] at x;exact x)
   exact⟨intKind_is _ _ _ _,rfl⟩
  ·have S:=a.kept (h':=R) (t':=D) λb o e=>k b o (lt_size e) e
   obtain⟨_,_,_,_,_,_,_,_,_,N,_⟩:=id g
   refine⟨_,_,G,rfl,S,g,a.jw (aak _) (a.hok.fresh (aak _)),q _ N λz=>?_⟩
   rw[zQi,size_toArray,y]
   constructor
   ·grind
   ·intro n
    obtain⟨j,m,e⟩:=getElem_of_mem n
    exact⟨j,m,by rw[getD_eq_getElem?_getD,aaj m];exact e⟩
def Qx(ts:BP):TE:=λσ H Q=>ts σ H λb c=>b.length<64/\∀(l:Addr)(a:LI),c l=none->a.Perm b->a.Pairwise (· <= ·)->Q (.ref l) (upd c l (.lst (a.map V.int)))
theorem zMa:∀{vs:List Value},(∀v∈vs,∃k,(intKind P w).is k v=true)->IntsAre vs (vs.map pG)
 |[],_=>.nil
 |v::vs,h=>by
  obtain⟨k,a⟩:=h v mem_cons_self
  obtain⟨t,rfl⟩:=ab9 a
  exact .cons k t (zMa λu b=>h u (mem_cons_of_mem _ b))
theorem zSt(hc:X.calm=true)(I:Inv X pins σ H s)(g:Good (intKind X.prog X.w) pG (zV X.w) s.heap a ks)(h64:ks.length<64)(q:∀(l:Addr) (ms:LI),H l=none->ms.Perm ks->ms.Pairwise (· <= ·)->Q (.ref l) (upd H l (.lst (ms.map V.int)))):wpAny (model X.prog X.w) X.A (call (.builtin "sorted") [.ref a]) (EP X pins σ Q) X.xe s:=by
 obtain⟨o,es,ep,t,ho,hx,hd,hel,hp,nd,hb,hf,tb⟩:=g
 have hsz:es.size=ks.length:=by rw[<-hp.length_eq,length_map,length_toList]
 refine PySem.Calls.call_function_entry kind_sorted plain_sorted entry_sorted (args_sorted1 _) ?_
 unfold Builtin.«sorted»
 refine aag (m:=checkCount "sorted" 1 1 _) (aah ?_)
 refine aag (zK7 (A:=X.A.in1) (I.ok.hd hc) ho hx hd hf tb (aby hb) λh' tk d acc hkeep hacc=>?_)
 have I':Inv X pins σ H { s with heap:=h',toks:=tk,drawn:=d }:=(I.kept (h':=h') (t':=tk) hkeep).drew d
 have hI:IntsAre acc (acc.map pG):=zMa (P:=X.prog) (w:=X.w) λv hv=>by
  obtain⟨e,he,rfl⟩:=mem_map.mp (hacc.mem_iff.mp hv)
  obtain⟨⟨k,hk,_⟩,_⟩:=hel e he
  exact⟨k,hk⟩
 have hpk:(acc.map pG).Perm ks:=by
  refine(hacc.map pG).trans ?_
  rw[map_map]
  exact hp
 have hal:acc.length=ks.length:=by rw[<-hpk.length_eq,length_map]
 have hsl:acc.length<=sizeLine:=by rw[hal];exact ab3 (ad4 h64 (by decide))
 refine aag (wpAny_newList ?_ hsl)
 have hoL:(h'.push (seqObj "list" acc.toArray 0)).get? h'.objs.size=some (seqObj "list" acc.toArray 0):=get?_push_size _ rfl
 refine aag (aa6 (abu slot_list_sort ⟨_,hoL,rfl⟩ entry_list_sort (list_sort_tree hoL hI (by omega) λout ns' a1 a2 a3=>⟨_,rfl,?_⟩) (args_list_sort _)))
 refine aah ⟨_,rfl,?_⟩
 obtain⟨e,he⟩:=sortedHeap_at (out:=out) hoL
 refine⟨.ref h'.objs.size,_,I'.laid (t':=tk) (o:=.lst (ns'.map V.int)) (λb ob w=>?_) (aak _) ?_,rfl,q _ ns' (I'.hok.fresh (aak _)) (a2.trans hpk) a3⟩
 ·have hb:h'.get? b=some ob:=w
  have hlt:=lt_size hb
  rw[sortedHeap_old (aan hlt) (by rw[size_push'];exact adg hlt),Heap.get?_push_ne _ _ _ (aan hlt)]
  exact hb
 ·refine⟨?_,out.toList,e,uV a1,?_⟩
  ·rw[length_map,a2.length_eq,length_map];exact hsl
  ·rw[Array.toArray_toList];exact he
theorem U6(n:X.calm=true)(j:X.mg "sorted" = none)(l:vd X e ts)(m:Gl X "sorted":=by rfl)(f:starEach [e] X.env=[(false,eval e X.env)]:=by rfl):PE X (.Call (.Name "sorted" p) [e] [] pos) (Qx ts):=by
 intro c s σ H Q I h
 refine abg (tX I m j (by decide +kernel:bootBuiltins "sorted" = some (.builtin "sorted")) ?_)
 refine PyProof.Rows.callWith_builtin1 (Q:=_) ?_ f rfl
 rw[f]
 show wpAny _ _ (spliced ((false,eval e X.env)::backTo pos [])) _ _ s
 refine acg (aO (l c s σ H _ I h) ?_)
 rintro u s1 ⟨a,ks,H1,i,k,g,fo,d,q⟩
 subst i
 refine ade ?_
 exact zSt n k g d q
end
end L2
namespace Ts
open PySem L2
def nZ(z:Int):LI->LI
 |[]=>[z]
 |y::a=>if z<y then z::y::a else if z=y then y::a else y::nZ z a
def vC(ns:LI):LI:=ns.foldr nZ []
noncomputable def jA(ns:LI):Option LI:=if ns.length<64 then some (vC ns) else none
theorem kh:∀{ys:LI},x∈nZ z ys↔x=z\/x∈ys
 |[]=>by simp[nZ]
 |y::ys=>by
  unfold nZ
  split
  ·simp
  ·split
   ·grind
   ·rw[mem_cons,kh]
    grind
theorem zQw:∀{ys:LI},ys.Pairwise (· < ·)->(nZ z ys).Pairwise (· < ·)
 |[],_=>by simp[nZ]
 |y::ys,h=>by
  have h1:=pairwise_cons.mp h
  unfold nZ
  split
  ·rename_i hz
   refine pairwise_cons.mpr ⟨λx hx=>?_,h⟩
   rcases mem_cons.mp hx with e|e
   ·rw[e];exact hz
   ·exact Int.lt_trans hz (h1.1 x e)
  ·split
   ·exact h
   ·refine pairwise_cons.mpr ⟨λx hx=>?_,zQw h1.2⟩
    rcases kh.mp hx with e|e
    ·rw[e];omega
    ·exact h1.1 x e
theorem bH:∀{ns:LI},x∈vC ns↔x∈ns
 |[]=>by simp[vC]
 |n::ns=>by
  show x∈nZ n (vC ns)↔_
  rw[kh,bH,mem_cons]
theorem uW:∀ns:LI,(vC ns).Pairwise (· < ·)
 |[]=>.nil
 |n::ns=>zQw (uW ns)
theorem Gv:∀{xs ys:LI},xs.Pairwise (· < ·)->ys.Pairwise (· < ·)->(∀s,s∈xs↔s∈ys)->xs=ys
 |[],[],_,_,_=>rfl
 |[],y::ys,_,_,h=>absurd ((h y).mpr mem_cons_self) (by simp)
 |x::xs,[],_,_,h=>absurd ((h x).mp mem_cons_self) (by simp)
 |x::xs,y::ys,b,c,h=>by
  have a:=pairwise_cons.mp b
  have d:=pairwise_cons.mp c
  have e:x=y:=by
   rcases mem_cons.mp ((h x).mp mem_cons_self) with e|e
   ·exact e
   ·rcases mem_cons.mp ((h y).mpr mem_cons_self) with f|f
    ·grind
    grind
  subst e
  rw[Gv a.2 d.2 λs=>?_]
  grind
theorem BR:∀{ks ns:LI},ks.Nodup->(∀z∈ks,z∈ns)->ks.length<=ns.length
 |[],_,_,_=>aa0 _
 |k::ks,ns,d,h=>by
  obtain⟨a,b,e⟩:=List.append_of_mem (h k mem_cons_self)
  have c:=nodup_cons.mp d
  have q:=BR (ns:=a++b) c.2 λz hz=>by
   grind
  grind
theorem vI:∀{a:LI},a.Pairwise (· <= ·)->a.Nodup->a.Pairwise (· < ·)
 |[],_,_=>.nil
 |m::a,h,c=>by
  have d:=pairwise_cons.mp h
  have b:=nodup_cons.mp c
  refine pairwise_cons.mpr ⟨λx hx=>?_,vI d.2 b.2⟩
  grind
section
variable{K:Frag}{B:Bs}{sl:SL K}{md:Md}{t:TE}
theorem zOf(h:Ex B sl .hp t m):Eo B sl md (Qx (Gu K t)) (m.bind jA):=λc a F O H σ Q s k=>by
 cases m with
 |none=>cases a
 |some b =>
  have a:jA b=some c:=a
  unfold jA at a
  split at a
  case isFalse=>cases a
  rename_i x
  cases a
  refine h b rfl F O H σ _ s λv w A g r=>?_
  obtain⟨p,vs,rfl,o,j⟩:=r
  have y:=j.vals
  subst y
  refine⟨p,b,rfl,aN.of o,by omega,λks i d=>⟨aap (BR i λz n=>(d z).mp n) x,λl ms q f u=>?_⟩⟩
  have e:=Gv (vI u (f.nodup_iff.mpr i)) (uW b) λz=>by rw[f.mem_iff,d,bH]
  subst e
  exact k l _ w A g q (uU _)
end
end Ts
namespace pF
open PySem PySem.Spec PyProof.Rows
theorem zG9:entryFor table "set.__and__" = some Builtin.«frozenset.__and__»:=adk (id':="frozenset.__and__") (by kernel_rfl) rfl (by decide +kernel) (by kernel_rfl)
section
variable{prog:Program}{w:World}{κ:Type}[DecidableEq κ]{knd:KeyKind prog w κ}{dec:Value->κ}{led:Bool}{A:Around}{E:Value->Shared->Prop}{s:Shared}
theorem Good.setOf(hdec:∀k v,knd.is k v=true->dec v=k)(g:Good knd dec led h a ks):h.SetOf knd a (λk=>decide (k∈ks)) ks.length:=by
 obtain⟨o,n,d,t,m,l,f,b,c,nd,p,j,tb⟩:=g
 refine⟨o,n,d,t,m,l,f,b,λk=>?_,p,j,by rw[<-c.length_eq,length_map,length_toList]⟩
 rw[decide_eq_true_iff,<-c.mem_iff,mem_map]
 constructor
 ·rintro⟨e,i,rfl⟩
  obtain⟨⟨k',hk,_⟩,_⟩:=b e i
  grind
 grind
theorem Good.size(g:Good knd dec led h a ks):∃o es ep t,h.get? a=some o/\o.ExactSet/\o.data=.set es ep t/\t.fits es.size=true/\es.size=ks.length/\Tb led t/\ElemsOf knd es.toList/\(es.toList.map λe=>dec e.2).Perm ks:=by
 obtain⟨o,es,ep,t,k,j,f,b,c,nd,hb,i,d⟩:=g
 exact⟨o,es,ep,t,k,j,f,i,by rw[<-c.length_eq,length_map,length_toList],d,b,c⟩
theorem Good.type{s:Shared}(g:Good knd dec led s.heap a ks):s.TypeIs (.ref a) "set":=by
 obtain⟨o,_,_,_,b,c,_⟩:=g
 exact⟨o,b,c.1⟩
theorem zp{Q:Bool->Shared->Prop}(b:s.TypeIs (.ref a) "set")(h:Q true s):wpAny (model prog w) A (Builtin.Frozenset.isAnySet (.ref a)) Q E s:=by
 refine aag (adv b aef ?_)
 exact aah h
theorem Ni{Q:Nat->Shared->Prop}(g:Good knd dec led s.heap a ks)(h:Q ks.length s):wpAny (model prog w) A (Builtin.Frozenset.sizeOf a) Q E s:=by
 obtain⟨o,es,ep,t,c,h2,d,b,hl,_⟩:=g.size
 refine aag (U0 c d b (aah ?_))
 grind
theorem zLx(sets:List Addr)(hs:∀a∈sets,∃ks:List κ,Good knd dec led s.heap a ks)(hn:∀k v,knd.is k v=true->∀b,v≠.ref b){Q:Bool->Shared->Prop}(h:Q true s):wpAny (model prog w) A (setsQuiet sets) Q E s:=by
 unfold setsQuiet
 refine aag (abm (acf (β:=Option Bool×Unit) _ (λl b s'=>s'=s/\b=(none,())/\∀a∈l,∃ks:List κ,Good knd dec led s.heap a ks) (λb s'=>s'=s/\b=(none,())) ?turn (λb s' hI=>⟨hI.1,hI.2.1⟩) sets _ ⟨rfl,rfl,hs⟩) ?post (λ_ _ h=>h))
 case post =>
  rintro b s' ⟨rfl,rfl⟩
  exact aah h
 case turn =>
  rintro a rest b s' ⟨rfl,rfl,hg⟩
  obtain⟨ks,g⟩:=hg a mem_cons_self
  obtain⟨o,es,ep,t,h1,h2,h3,hf,hl,tb,hel,hp⟩:=g.size
  refine aag (U0 h1 h3 hf ?_)
  rw[<-forIn_toList]
  refine aag (abm (acf (β:=Option Bool×Unit) _ (λl b s''=>s''=s'/\b=(none,())/\∀e∈l,∀c,e.2≠.ref c) (λb s''=>s''=s'/\b=(none,())) ?t2 (λb s' hI=>⟨hI.1,hI.2.1⟩) es.toList _ ⟨rfl,rfl,?p0⟩) ?p2 (λ_ _ h=>h))
  case p0 =>
   intro e he c z
   obtain⟨⟨k,hk,_⟩,_⟩:=hel e he
   exact hn k _ hk c z
  case p2 =>
   rintro b s'' ⟨rfl,rfl⟩
   exact aah ⟨rfl,rfl,λa ha=>hg a (mem_cons_of_mem _ ha)⟩
  case t2 =>
   rintro⟨hh,x⟩ l b s'' ⟨rfl,rfl,hl⟩
   have hx:=hl _ mem_cons_self
   dsimp only at hx ⊢
   split
   ·exact absurd rfl (hx _)
   ·exact aah ⟨rfl,rfl,λe he=>hl e (mem_cons_of_mem _ he)⟩
theorem zOs(g:Good knd dec (zV w) s.heap a ks)(i:w.params.followText "set-order" = false->∀o es ep t,s.heap.get? a=some o->o.data=.set es ep t->(!t.plain&&decide (es.size > 1))=false){Q:Array (Int×Value)->Shared->Prop}(h:∀es:Array (Int×Value),ElemsOf knd es.toList->(es.toList.map λe=>dec e.2).Perm ks->Q es s):wpAny (model prog w) A (setWalk a) Q E s:=by
 obtain⟨o,es,ep,t,c,h2,f,l,hl,j,b,d⟩:=g.size
 unfold setWalk
 refine aag (aau c f l ?_)
 dsimp only
 refine aag (uT ?_)
 cases k:w.params.followText "set-order" with
 |true =>
  simp only[↓reduceIte]
  refine aag (acw (aah ?_))
  exact h _ (b.perm (Ng _ es)) (((Ng _ es).map _).trans d)
 |false =>
  have q:=i k o es ep t c f
  have aad:t.led=true:=by rw[j.led];unfold zV;grind
  simp only[aay,↓reduceIte]
  show wpAny _ _ (if(!t.plain&&decide (es.size > 1))=true then _ else _) _ _ _
  rw[if_neg (by grind)]
  refine aag ?_
  show wpAny _ _ (if(!t.led&&decide (es.size > 1))=true then _ else pure ()) _ _ _
  rw[if_neg (by grind)]
  exact aah (aah (h es b d))
theorem Xy(g:Good knd dec (zV w) s.heap a ks)(l:Good knd dec (zV w) s.heap f H)(M:∀b∈d,∃ks:List κ,Good knd dec (zV w) s.heap b ks)(S:∀k v,knd.is k v=true->∀b,v≠.ref b){Q:Array (Int×Value)->Shared->Prop}(h:∀(es:Array (Int×Value)) (h':Heap),ElemsOf knd es.toList->(es.toList.map λe=>dec e.2).Perm ks->SameBut f s.heap h'->Good knd dec (zV w) h' f H->Q es { s with heap:=h' }):wpAny (model prog w) A (setWalkUnseen a d (some f)) Q E s:=by
 obtain⟨o,es,ep,t,J,h2,O,R,hl,G,m,F⟩:=g.size
 unfold setWalkUnseen
 refine aag (aau J O R ?_)
 dsimp only
 refine aag (uT ?_)
 split
 ·rename_i c
  refine zOs g (λx o' p ep' t' h1' h3'=>?_) λp n r=>h p s.heap n r (SameBut.refl f s.heap) l
  grind
 ·refine aag (zLx (knd:=knd) (dec:=dec) (led:=zV w) (a::d) (λb x=>(mem_cons.mp x).elim (λe=>e▸⟨ks,g⟩) (M b)) S ?_)
  simp only[abk,aay,↓reduceIte]
  refine aag (adw ?_)
  obtain⟨of,C,epf,P,u,N,q,y,B,i,j,L⟩:=l.size
  refine aag (aau u q y ?_)
  dsimp only
  split
  ·have D:=l.len
   refine aag (ab0 u q ?_ (aby (by rw[B];exact D)))
   obtain⟨_,_,_,_,e1,_,_,_,_,I,x,_,_⟩:=l
   refine aah (h es _ m F (SameBut.update _ f _) ⟨_,C,_,_,Gs (es':=C) (t':=_) u q,N,rfl,j,L,I,?_,?_,?_⟩)
   ·rw[B];exact D
   ·exact y
   ·refine⟨?_,λz=>?_⟩
    ·show(P.led&&t.led)=_
     rw[i.led,G.led,aem]
    ·exact i.rz (Bool.and_eq_true_iff.mp z).1
  ·exact aah (h es s.heap m F (SameBut.refl f s.heap) l)
theorem zGp(p:∀k v,knd.is k v=true->dec v=k)(id:String)(hn:∀k v,knd.is k v=true->∀b,v≠.ref b)(V:x≠r)(R:y≠r)(gx:Good knd dec (zV w) s.heap x i)(U:Good knd dec (zV w) s.heap y u)(gr:Good knd dec (zV w) s.heap r []){Q:Unit->Shared->Prop}(h:∀(h':Heap) (a:List κ),SameBut r s.heap h'->Good knd dec (zV w) h' r a->(∀k,k∈a↔k∈i/\k∈u)->Q () { s with heap:=h' }) :
  wpAny (model prog w) A (do
   let T <-setEpoch y
   for (h,W) in <-setWalkUnseen y [x,r] (some r) do
    holding [W] do
     if(<-setFind x W h).isSome then
      let _ <-setAddHashed r W h
    aa4 id y T) Q E s:=by
 obtain⟨o,es,ep,t,h1,d,h3,hf,hl,tb,hel,hp⟩:=U.size
 refine aag (abf h1 h3 hf ?_)
 refine aag (Xy U gr (λb hb=>(mem_cons.mp hb).elim (λe=>e▸⟨i,gx⟩) λe=>(mem_singleton.mp e)▸⟨[],gr⟩) hn λM h' L N sb X=>?_)
 rw[<-forIn_toList]
 have ln:M.toList.length=u.length:=by rw[<-N.length_eq,length_map]
 refine aag (abm (acf (β:=Unit) _ (λl _ I=>∃d a,I={ s with heap:=d }/\SameBut r s.heap d/\Good knd dec (zV w) d r a/\ElemsOf knd l/\a.length+l.length<=u.length/\∀k,(k∈a\/(k∈i/\k∈l.map λe=>dec e.2))↔(k∈i/\k∈u)) (λ_ I=>∃d a,I={ s with heap:=d }/\SameBut r s.heap d/\Good knd dec (zV w) d r a/\∀k,k∈a↔k∈i/\k∈u) ?turn ?fin M.toList () ⟨h',[],rfl,sb,X,L,by rw[ln,List.length_nil];omega,λk=>?_⟩) ?post (λ_ _ h=>h))
 case turn =>
  rintro⟨hs,v⟩ l b I ⟨d,a,rfl,g,H,O,P,J⟩
  obtain⟨⟨k,S,hh⟩,G⟩:=O _ mem_cons_self
  dsimp only at S hh G ⊢
  subst hh
  have kx:∀o,s.heap.get? x=some o->d.get? x=some o:=λo e=>by rw[g.2 x V];exact e
  have ky':∀o,s.heap.get? y=some o->d.get? y=some o:=λo e=>by rw[g.2 y R];exact e
  have Y:=gx.keep kx
  have dv:dec v=k:=p k v S
  rw[length_cons] at P
  have F:∀(f:Heap)(n:List κ),SameBut r s.heap f->Good knd dec (zV w) f r n->n.length+l.length<=u.length->(∀c,(c∈n\/(c∈i/\c∈l.map λe=>dec e.2))↔(c∈i/\c∈u)) ->
    wpAny (model prog w) A (aa4 id y ep) (λ_ C=>wpAny (model prog w) A (pure (ab1 ())) (λq C=>match q with|.yield _=>∃d a,C={ s with heap:=d }/\SameBut r s.heap d/\Good knd dec (zV w) d r a/\ElemsOf knd l/\a.length+l.length<=u.length/\∀k,(k∈a\/(k∈i/\k∈l.map λe=>dec e.2))↔(k∈i/\k∈u)|.done _=>∃d a,C={ s with heap:=d }/\SameBut r s.heap d/\Good knd dec (zV w) d r a/\∀k,k∈a↔k∈i/\k∈u) E C) E { s with heap:=f }:=λf n B Z l3 m3=>by
   unfold aa4
   refine aag (abf (s:={ s with heap:=f }) (by show f.get? y=_;rw[B.2 y R];exact h1) h3 hf ?_)
   simp only[bne_self_eq_false,aay,↓reduceIte]
   exact aah (aah ⟨f,n,rfl,B,Z,λe he=>O e (mem_cons_of_mem _ he),l3,m3⟩)
  refine aag (aa6 (aag (wpAny_setFind_of (s:={ s with heap:=d }) S G (Y.setOf p) λq hq=>?_)))
  cases q with
  |none =>
   have nk:k∉i:=by simpa using hq.symm
   simp only[Option.isSome_none,aay,↓reduceIte]
   refine aah (aag (F d a g H (by omega) λc=>?_))
   rw[<-J c,map_cons,mem_cons]
   show _↔(c∈a\/c∈i/\(c=dec v\/_))
   rw[dv]
   constructor
   ·rintro(z|⟨D,m⟩)
    ·exact .inl z
    ·exact .inr ⟨D,.inr m⟩
   ·rintro(z|⟨D,m|m⟩)
    ·exact .inl z
    ·exact absurd (m▸D) nk
    ·exact .inr ⟨D,m⟩
  |some j =>
   have mk:k∈i:=by simpa using hq.symm
   simp only[ad5,↓reduceIte]
   refine aag (UL (led:=zV w) (s:={ s with heap:=d }) p S G H (by have:=U.len;omega) λf b' B Z=>?_)
   refine aah (aag (F f _ (g.trans B) Z ?_ λc=>?_))
   ·split
    ·omega
    ·rw[length_cons];omega
   ·rw[<-J c,map_cons,mem_cons]
    show _↔(c∈a\/c∈i/\(c=dec v\/_))
    rw[dv]
    have e:c∈(if k∈a then a else k::a)↔c=k\/c∈a:=by
     split
     ·rename_i z
      exact⟨.inr,λq=>q.elim (λq=>q▸z) λq=>q⟩
     ·exact mem_cons
    rw[e]
    constructor
    ·rintro((z|z)|⟨D,m⟩)
     ·exact .inr ⟨z▸mk,.inl z⟩
     ·exact .inl z
     ·exact .inr ⟨D,.inr m⟩
    ·rintro(z|⟨D,m|m⟩)
     ·exact .inl (.inr z)
     ·exact .inl (.inl m)
     ·exact .inr ⟨D,m⟩
 case fin =>
  rintro b I ⟨d,a,rfl,g,H,_,_,J⟩
  refine⟨d,a,rfl,g,H,λk=>?_⟩
  rw[<-J k]
  simp
 case post =>
  rintro b I ⟨d,a,rfl,g,H,J⟩
  exact aah (h d a g H J)
 ·rw[N.mem_iff]
  simp
theorem Xz(b:s.TypeIs (.ref a) "set"){Q:Value->Shared->Prop}(h:Q (.type "set") s):wpAny (model prog w) A (Builtin.Frozenset.baseOf a) Q E s:=by
 refine aag (adv b aef ?_)
 exact aah h
theorem XC{Q:Value->Shared->Prop}(h:Q (.ref s.heap.objs.size) { s with heap:=s.heap.push { cls:=.type "set",dict:=none,data:=.set #[] 0 (.fresh 0 0 (zV w)) } }):wpAny (model prog w) A (newSet (.type "set")) Q E s:=by
 refine aag (aag (acw (aah ?_)))
 exact aag (wpAny_alloc (aah h))
theorem zT8(j:∀k v,knd.is k v=true->dec v=k)(id:String)(F:∀k v,knd.is k v=true->∀b,v≠.ref b)(t:b≠a)(u:Good knd dec (zV w) s.heap a B)(y:Good knd dec (zV w) s.heap b C){Q:Value->Shared->Prop}(h:∀(h':Heap) (d:List κ),Good knd dec (zV w) h' s.heap.objs.size d->(∀k,k∈d↔k∈B/\k∈C)->(∀c o,c<s.heap.objs.size->s.heap.get? c=some o->h'.get? c=some o)->Q (.ref s.heap.objs.size) { s with heap:=h' }) :
  wpAny (model prog w) A (Builtin.Frozenset.intersection id a (.ref b)) Q E s:=by
 have z:a<s.heap.objs.size:=by obtain⟨o,_,_,_,x,_⟩:=u;exact lt_size x
 have D:b<s.heap.objs.size:=by obtain⟨o,_,_,_,x,_⟩:=y;exact lt_size x
 unfold Builtin.Frozenset.intersection
 rw[if_neg (λe=>t (aeo (adu e)))]
 refine aag (Xz u.type (aag (XC ?_)))
 refine aag (aah ?_)
 have r:∀c o,s.heap.get? c=some o->(s.heap.push { cls:=.type "set",dict:=none,data:=.set #[] 0 (.fresh 0 0 (zV w)) }).get? c=some o:=λc o e=>get?_push_of_some _ e
 have i:=u.keep (r a)
 have f:=y.keep (r b)
 have n:Good knd dec (zV w) (s.heap.push { cls:=.type "set",dict:=none,data:=.set #[] 0 (.fresh 0 0 (zV w)) }) s.heap.objs.size []:=Qv (get?_push_size _ rfl)
 generalize hp:s.heap.push { cls:=.type "set",dict:=none,data:=.set #[] 0 (.fresh 0 0 (zV w)) }=l at r i f n ⊢
 have p:∀(h':Heap)(d:List κ),SameBut s.heap.objs.size l h'->Good knd dec (zV w) h' s.heap.objs.size d->(∀k,k∈d↔k∈B/\k∈C)->Q (.ref s.heap.objs.size) { s with heap:=h' }:=λh' d q g m =>
  h h' d g m λc o G e=>by rw[q.2 c (aan G)];exact r c o e
 refine aag (aa6 (aag (zp (s:={ s with heap:=l }) (Good.type (s:={ s with heap:=l }) f) ?_)))
 simp only[↓reduceIte]
 refine aag (aah ?_)
 refine aag (Ni (s:={ s with heap:=l }) f (aag (Ni (s:={ s with heap:=l }) i ?_)))
 split
 ·exact zGp (s:={ s with heap:=l }) j id F (aan D) (aan z) f i n λh' d q g m=>aah (p h' d q g λk=>by rw[m k,and_comm])
 ·exact zGp (s:={ s with heap:=l }) j id F (aan z) (aan D) i f n λh' d q g m=>aah (p h' d q g m)
theorem JL(d:∀k v,knd.is k v=true->dec v=k)(n:∀k v,knd.is k v=true->∀b,v≠.ref b)(j:b≠a)(f:Good knd dec (zV w) s.heap a l)(i:Good knd dec (zV w) s.heap b p){Q:Value->Shared->Prop}(h:∀(h':Heap) (e:List κ),Good knd dec (zV w) h' s.heap.objs.size e->(∀k,k∈e↔k∈l/\k∈p)->(∀c o,c<s.heap.objs.size->s.heap.get? c=some o->h'.get? c=some o)->Q (.ref s.heap.objs.size) { s with heap:=h' }) :
  wpAny (model prog w) A (binaryOp .BitAnd (.ref a) (.ref b)) Q E s:=by
 refine ad3 (T:="set") f.type i.type F.fills_set_and F.slot_set_and (abu F.slot_set_and f.type zG9 ?_ (F.args_set_and_2 _ _))
 refine aag ?_
 refine aah ?_
 dsimp only
 refine aag (aag (zp f.type ?_))
 refine zp i.type ?_
 refine aag (aah (aag (zT8 d _ n j f i λh' e g m k=>aah ⟨.ref s.heap.objs.size,rfl,?_,h h' e g m k⟩)))
 grind
end
end pF
namespace L2
open PySem PySem.Spec PyProof.Rows pF
section
variable{X:Cx}
def Gw(c d:BP):BP:=λσ H Q=>c σ H λg f=>d σ f λb e=>∀a:LI,a.Nodup->(∀z,z∈a↔z∈g/\z∈b)->Q a e
theorem BW(F:vd X a D)(l:vd X b C):vd X (.BinOp a .BitAnd b pos) (Gw D C):=by
 intro c s σ H Q I h
 refine ael (aO (F c s σ H _ I h) ?_)
 rintro u w ⟨p,ks,B,e,J,g,fo,N⟩
 subst e
 obtain⟨o,es,ep,t,x,gx,gd,_⟩:=id g
 have f:=J.pinned (fp:=[p]) (λb l=>by grind) (λb l=>by
  grind)
 refine aO (l _ w σ B _ f N) ?_
 rintro u2 d ⟨P,js,U,Y,q,L,j,R⟩
 subst Y
 have n:(p,o)∈X.pn++(c++Ft [p] w.heap):=mem_append_right _ (mem_append_right _ (vH (mem_singleton.mpr rfl) x))
 have S:d.heap.get? p=some o:=(q.pin (p,o) n).1
 have W:=g.keep (h':=d.heap) λo' A=>by rw[x] at A;cases A;exact S
 have T:P≠p:=ab8 (j.2.2.2.2.2 (p,o) n)
 have i:=q.dW
 refine JL U5 (λk v O b z=>?_) T W L λM y r m k=>?_
 ·obtain⟨t,rfl⟩:=ab9 O
  cases z
 ·have E:=i.kept (h':=M) (t':=d.toks) λb o e=>k b o (lt_size e) e
  obtain⟨_,_,_,_,_,_,_,_,_,G,_⟩:=id r
  exact⟨_,y,U,rfl,E,r,i.jw (aak _) (i.hok.fresh (aak _)),R y G m⟩
end
end L2
namespace Ts
open PySem L2
noncomputable def q_(ns a:LI):Option LI:=if(ns.length<64\/a.length<64)/\ns.length<4000/\a.length<4000 then some (vC (ns.filter λz=>decide (z∈a))) else none
section
variable{K:Frag}{B:Bs}{sl:SL K}{md:Md}{t1 t2:TE}
theorem zOg(J:Ex B sl .hp t1 N)(h2:Ex B sl .hp t2 M):Eo B sl md (Qx (Gw (Gu K t1) (Gu K t2))) (N.bind λa=>M.bind λb=>q_ a b):=λc A F O H σ Q s k=>by
 obtain⟨n,i,P,S,d⟩:=nQ A
 unfold q_ at d
 split at d
 case isFalse=>cases d
 rename_i f
 cases d
 refine J n P F O H σ _ s λv L R g E=>?_
 obtain⟨p,vs,rfl,C,z2⟩:=E
 have U:=z2.vals
 subst U
 refine⟨p,n,rfl,aN.of C,f.2.1,λks nd r=>?_⟩
 refine h2 i S L O R σ _ (s.grow g) λw t Z I x=>?_
 obtain⟨T,vs',rfl,X,Y⟩:=x
 have G:=Y.vals
 subst G
 refine⟨T,i,rfl,aN.of X,f.2.2,λjs jd q rs h m=>⟨f.1.elim (aap (BR h λz j=>(r z).mp ((m z).mp j).1)) (aap (BR h λz j=>(q z).mp ((m z).mp j).2)),λl y D o u=>?_⟩⟩
 have e:y=vC (n.filter λz=>decide (z∈i)):=Gv (vI u (o.nodup_iff.mpr h)) (uW _) λz=>by rw[o.mem_iff,m,r,q,bH,mem_filter,decide_eq_true_iff]
 subst e
 exact k l _ t Z (g.trans I) D (uU _)
end
end Ts
namespace L2
open PySem PySem.Spec PyProof.Rows
section
variable{X:Cx}
theorem Gx:Te X .BitOr (Tf λi j=>acj i j):=by
 intro pins s σ H x y v u Q I d b h
 obtain⟨i,j,c,a,q⟩:=h
 subst c;subst a
 obtain⟨t,rfl⟩:=d
 obtain⟨t',rfl⟩:=b
 exact ior_int ⟨.int _,H,I.tok _,⟨_,rfl⟩,q⟩
def Gy(K:Frag):V->V->Hp->VK->Prop:=λx y H Q=>∃p b i v,x=.ref p/\y=.int i/\0<=i/\aN K H p b/\bL b i=some v/\Q v H
theorem zQ1(K:Frag)(h:X.K=K:=by rfl):OD X (Gy K):=by
 subst h
 intro pins s σ H o i ov iv Q I rx ry h
 obtain⟨p,xs,i,z,rfl,rfl,h0,hq,he,q⟩:=h
 cases rx
 obtain⟨t,rfl⟩:=ry
 obtain⟨its,r,pl,hz⟩:=I.list hq
 obtain⟨j,h1,h2,h3,h4,h5⟩:=Wk he
 obtain⟨w,ew,Wm⟩:=r.get h2
 have hl:=r.length
 have hn:=Ii
 have hj:i.toNat=j:=by
  rw[aek h0 h5] at h1
  exact aam h1
 exact wpAny_getItem_list pl.isList h0 (by omega) (by rw[hj];simpa using ew) ⟨z,H,I,Wm,q⟩
theorem XD(K:Frag)(f:PE X a e)(c:X.K=K:=by rfl)(d:∀b,isTrue a X.env b=(do let v <-b;standAt a.pos;holding [v] (truthy v)):=by intro _;rfl) :
  PT X a (λσ H Q=>e σ H λx H'=>∃k,Ai K x H' k/\Q k H'):=by
 subst c
 exact zTg f d
def tLR(c:TA):TE:=λσ H Q=>c σ H λb a=>∃j:Int,b=[.int j] /\ -(2^62)<=j/\j<1000000/\∀l,a l=none->Q (.ref l) (upd a l (.lst (((aax j.toNat).map acs).map V.int)))
theorem BX{acc:List Value}:∀{ns:LI},acc.length=ns.length->(∀(i:Nat)(v:Value),acc[i]?=some v->∃t:Tok,v=abt (ns.getD i 0) t)->IntsAre acc ns:=by
 induction acc with
 |nil =>
  intro ns h _
  cases ns with
  |nil=>exact .nil
  |cons n ns=>simp at h
 |cons v acc ih =>
  intro ns h g
  cases ns with
  |nil=>simp at h
  |cons n ns =>
   obtain⟨t,e⟩:=g 0 v rfl
   subst e
   exact .cons n t (ih (by simpa using h) λi v hv=>g (i+1) v hv)
theorem zTm(hc:X.calm=true)(hg:Gl X "list")(hm:X.mg "list" = none)(y:Gl X "range")(A:X.mg "range" = none)(ha:PA X [a] ta)(hs:starEach [a] X.env=[(false,eval a X.env)]:=by rfl)(m:starEach [Expr.Call (.Name "range" p2) [a] [] c] X.env=[(false,eval (Expr.Call (.Name "range" p2) [a] [] c) X.env)]:=by rfl):PE X (.Call (.Name "list" p) [.Call (.Name "range" p2) [a] [] c] [] pos) (tLR ta):=by
 intro k s σ H Q I h
 refine abg (tX I hg hm (by decide +kernel:bootBuiltins "list" = some (.type "list")) ?_)
 refine aa5 ?_ m rfl
 rw[m]
 show wpAny _ _ (spliced ((false,eval (Expr.Call (.Name "range" p2) [a] [] c) X.env)::backTo pos [])) _ _ s
 refine acg (abg (tX I y A boot_range (aa5 (aO (ha c k s σ H _ I h) ?_) hs rfl)))
 rintro us u ⟨vs,H1,I1,r1,z⟩
 obtain⟨j,e,z,q2,q⟩:=z
 subst e
 cases r1 with
 |cons r rr =>
  cases rr
  obtain⟨t,rfl⟩:=r
  refine call_range_1 (ade ?_)
  have x:Inv X k σ H1 { u with heap:=u.heap.push { cls:=.type "range",data:=.fields #[.int 0 u.toks,.int j t,.int 1 (u.toks+1)] },toks:=u.toks+1+1 }:=I1.kept λb o e=>get?_push_of_some _ e
  refine call_list_range (n:=j.toNat) (x.ok.hd hc) (IsRange.new ..) (small_one (by omega) (by omega) z (by omega)) (by rw[rangeSize_one];split<;>omega) (by omega) λh' tk g c' hk hS f=>?_
  have hI:IntsAre g.toList ((aax j.toNat).map acs):=BX (by rw[length_toList,f.1,length_map,length_range]) λi v B=>by
   rw[getElem?_toList] at B
   obtain⟨C,rfl⟩:=f.2 i v B
   have hi:i<j.toNat:=by
    have:=(Array.getElem?_eq_some_iff.mp B).1
    rw[f.1] at this
    exact this
   refine⟨C,?_⟩
   have e:((aax j.toNat).map acs).getD i 0=(i:Int):=by
    rw[getD_eq_getElem?_getD,getElem?_map,getElem?_range hi]
    rfl
   rw[e]
   simp
  refine⟨.ref _,_,x.laid (h':=h') (t':=tk) (o:=.lst (((aax j.toNat).map acs).map V.int)) (λb ob w=>hk b ob w) (aak _) ?_,rfl,q _ (x.hok.fresh (aak _))⟩
  refine⟨?_,g.toList,c',uV hI,?_⟩
  ·rw[length_map,length_map,length_range]
   exact aas (show j.toNat<=1000000 by omega) (by decide)
  ·rw[Array.toArray_toList];exact hS
end
end L2
namespace Ts
open PySem L2
noncomputable def vf(a b:Int):Option Int:=if 0<=b/\b<=1000000/\a.natAbs<2^64 then some (a*2^b.toNat) else none
noncomputable def iY(a b:Int):Option Int:=if 0<=b then some (a/2^b.toNat) else none
section
variable{K:Frag}{B:Bs}{sl:SL K}{md:Md}{t t1 t2 te:TE}{m1 m2:Option Int}
theorem Qy(c:Ex B sl .hp t1 m1)(h2:Ex B sl .hp t2 m2):Ex B sl md (gF (qg λi j=>.int (aa1 i j)) t1 t2) (m1.bind λa=>m2.bind λb=>some (aa1 a b)):=Qc (λ_ _=>rfl) c h2
theorem JM(h:Ex B sl .hp t1 m1)(h2:Ex B sl .hp t2 m2):Ex B sl md (gF (rI OJ λi j=>.int (i*2^j.toNat)) t1 t2) (m1.bind λa=>m2.bind λb=>vf a b) :=
 Bc (λa b c v w H Q e g f q=>by
  unfold vf at e
  split at e
  case isFalse=>cases e
  rename_i d
  cases e;cases g;cases f
  exact⟨a,b,rfl,rfl,d,q⟩) h h2
theorem U7(h:Ex B sl .hp t1 m1)(h2:Ex B sl .hp t2 m2):Ex B sl md (gF (rI (λ_ j=>0<=j) λi j=>.int (i/2^j.toNat)) t1 t2) (m1.bind λa=>m2.bind λb=>iY a b) :=
 Bc (λa b c v w H Q e g f q=>by
  unfold iY at e
  split at e
  case isFalse=>cases e
  rename_i d
  cases e;cases g;cases f
  exact⟨a,b,rfl,rfl,d,q⟩) h h2
theorem XF{m:Option Int}(h:Ex B sl .hp t m):Et B sl (λσ H Q=>t σ H λx H'=>∃k,Ai K x H' k/\Q k H') (m.bind λi=>some (i != 0)):=λc b F O H σ Q s k=>by
 cases m with
 |none=>cases b
 |some i =>
  cases(b)
  refine h i rfl F O H σ _ s λv d H' g r=>?_
  cases r
  exact⟨_,rfl,k d H' g⟩
noncomputable def Nj(n:Int):Option LI:=if -(2^62)<=n/\n<1000000 then some ((aax n.toNat).map acs) else none
theorem zUn(h:Ex B sl .hp t m):Eo B sl md (tLR (yK t aU)) (m.bind Nj):=λc a F O H σ Q s k=>by
 cases m with
 |none=>cases a
 |some n =>
  have a:Nj n=some c:=a
  unfold Nj at a
  split at a
  case isFalse=>cases a
  rename_i b
  cases a
  refine h n rfl F O H σ _ s λv e d g i=>?_
  cases i
  exact⟨n,rfl,b.1,b.2,λl f=>k l _ e d g f (uU _)⟩
noncomputable def vg(xs ys:LI):Option LI:=if xs.length+ys.length<cap then some (xs++ys) else none
theorem zPc(i:Nat)(w:sl[i]?=some (.ow n xs))(u:sl.all (λs=>!bU s)=true)(h:Ex B sl .hp te m) :
  Sn B sl (tY (Ay K "list" T4 (aZ i) (yK te aU))) (λys=>sl.set i (.ow n ys)) (m.bind λa=>vg xs a):=λys o G D σ H s k=>by
 cases m with
 |none=>cases o
 |some a =>
  have b:vg xs a=some ys:=o
  unfold vg at b
  split at b
  case isFalse=>cases b
  rename_i E
  cases b
  obtain⟨F,O,g,z⟩:=s
  obtain⟨p,vs,l,M,h3,_⟩:=z.chg w u
  refine⟨_,l,.inl ⟨rfl,_,aN.of M⟩,?_⟩
  refine h a rfl F O H σ _ z λv C H' x r=>?_
  obtain⟨p',vs',j,c,f,d⟩:=(z.grow x).chg w u
  have e:=l.symm.trans j
  cases e
  obtain⟨q,us,rfl,I,N⟩:=r
  have J:=N.vals
  subst J
  have A:=f.vals
  subst A
  obtain⟨y,L⟩:=d (xs.map V.int++a.map V.int) (xs++a) (by rw[<-map_append];exact uU _)
  exact⟨p,q,_,_,rfl,rfl,c,I,by rw[length_map,length_map];exact ab3 (rQ E),k _ _ ⟨C,y,g.trans x.ff,L⟩⟩
noncomputable def BZ(f:Int->Int->Int)(xs:LI)(ix:Int)(y:Int):Option LI:=if 0<=ix then(L2.bL xs ix).bind λx=>setAt xs ix (f x y) else none
theorem zS1(i:Nat)(I:sl[i]?=some (.ow n xs))(o:sl.all (λs=>!bU s)=true)(Y:Ex B sl .hp ti mi)(N:Ex B sl .hp te m) :
  Sn B sl (Fp (aZ i) ti te (Gy K) (Tf f) ug) (λys=>sl.set i (.ow n ys)) (mi.bind λk=>m.bind λa=>BZ f xs k a):=λys X G D σ H s k=>by
 obtain⟨l,a,P,S,b⟩:=nQ X
 unfold BZ at b
 split at b
 case isFalse=>cases b
 rename_i h0
 obtain⟨x,Z,b⟩:=Option.bind_eq_some_iff.mp b
 obtain⟨F,O,g,z⟩:=s
 obtain⟨p,vs,A,h2,h3,_⟩:=z.chg I o
 refine⟨_,A,?_⟩
 refine Y l P F O H σ _ z λv U H' h r=>?_
 cases r
 obtain⟨p',u,E,J,C,h4'⟩:=(z.grow h).chg I o
 have e:=A.symm.trans E
 cases e
 obtain⟨Q,y,q⟩:=C.bL Z
 have q:Q=.int x:=Sc.is.mp q
 subst q
 refine⟨p,u,l,_,rfl,rfl,h0,aN.of J,y,?_⟩
 refine N a S U O H' σ _ (z.grow h) λw F2 H2 d T=>?_
 cases T
 obtain⟨p2,c,y1,y2,L,R⟩:=((z.grow h).grow d).chg I o
 have e:=A.symm.trans y1
 cases e
 refine⟨x,a,rfl,rfl,?_⟩
 unfold setAt at b
 cases M:qW xs.length l with
 |none=>simp_all
 |some j =>
  rw[M] at b
  cases b
  obtain⟨O',z'⟩:=R (c.set j (.int (f x a))) (xs.set j (f x a)) (L.set (Sc.is.mpr rfl) j)
  exact⟨p,c,l,j,rfl,rfl,y2,by rw[L.len,M],k _ _ ⟨F2,O',(g.trans h.ff).trans d.ff,z'⟩⟩
end
section
variable{K:Frag}{B:Bs}{sl:SL K}{F H H2:Hp}{O:Own}{σ:St}{te:TE}
theorem At.same(z:At B sl F O H σ)(a:Same H H2):At B sl F O H2 σ:=by
 have d:Same (lo F O H) (lo F O H2):=λb o e=>by
  unfold lo at e ⊢
  split at e
  ·cases e
  ·rename_i f
   rw[if_neg f]
   exact a _ _ e
 exact⟨⟨z.1.fh.trans a,z.1.h0.trans a,z.1.fa,λx c=>⟨(z.1.fo x c).1,(z.1.fo x c).2.1,a _ _ (z.1.fo x c).2.2⟩,z.1.nd⟩,z.2.mono (.refl _) d a⟩
theorem Ca{s:Slot K}{m:Option LI}(i:Nat)(w:sl[i]?=some s)(l:dz s=false)(h:En B sl te m):Sn B sl (g_ te (vR i)) (λa=>sl.set i (.ow true a)) m:=λa y G D σ H s k=>by
 obtain⟨F,O,g,z⟩:=s
 refine h a y F O H σ _ z λv E j H2 d I r=>k _ _ ?_
 obtain⟨p,J,rfl,c,A⟩:=r
 have t:J=a.map V.int:=A.vals
 subst t
 have f:j p=none:=by
  cases q:j p with
  |none=>rfl
  |some u=>unfold dif at c;grind
 have h2:=by rw[yR f] at c;exact c
 obtain⟨C,x⟩:=(z.grow d).own (n:=true) w l f (uU a)
 exact⟨E,C,g.trans d.ff,x.same λb o e=>by
  by_cases q:b=p
  ·subst q
   rw[zJ] at e
   grind
  ·rw[zN q] at e
   exact I b o e⟩
end
noncomputable def d_{α:Type}(xs:List α)(lo b:Option Int):List α:=(xs.drop (HT.cG xs.length 0 lo)).take (HT.cG xs.length xs.length b-HT.cG xs.length 0 lo)
section
variable{P:Program}{w:World}{K:Frag}{mg:Str->Option Value}{base:Heap}{B:Bs}{sl:SL K}{md:Md}{α β:Type}[Rp K α][Rp K β]{tA:Addr}{tO:HO}{te t1 t2:TE}
theorem A2.cut(h:A2 R vs xs)(lo a:Option Int):A2 R (qx vs lo a) (d_ xs lo a):=by
 unfold qx d_
 rw[h.len]
 exact(h.dr _).tk _
theorem zMk[Sc K α]{m:Option (List α)}{mi:Option Int}{e:TE}(h:Ex B sl .hp te m)(q:Ex B sl .hp e mi):Eo B sl md (Mu (rN K) te (Mt e) Ms) (m.bind λxs=>mi.bind λi=>some (d_ xs (some i) none)):=λc b F O H σ Q s k=>by
 obtain⟨xs,i,j,a,b⟩:=nQ b
 cases b
 refine h xs j F O H σ _ s λv t z g r=>?_
 refine q i a t O z σ _ (s.grow g) λu f A d o=>?_
 obtain⟨p,y,rfl,n,C⟩:=r
 exact⟨i,o,p,y,rfl,aN.of (d.hh _ _ n),λl x=>k l _ f A (g.trans d) x (C.cut _ _).sc⟩
theorem zUp[Sc K α]{m:Option (List α)}{mi:Option Int}{e:TE}(h:Ex B sl .hp te m)(q:Ex B sl .hp e mi):Eo B sl md (Mu (rN K) te Ms (Mt e)) (m.bind λxs=>mi.bind λi=>some (d_ xs none (some i))):=λc b F O H σ Q s k=>by
 obtain⟨xs,i,j,a,b⟩:=nQ b
 cases b
 refine h xs j F O H σ _ s λv t z g r=>?_
 refine q i a t O z σ _ (s.grow g) λu f A d o=>?_
 obtain⟨p,y,rfl,n,C⟩:=r
 exact⟨i,o,p,y,rfl,aN.of (d.hh _ _ n),λl x=>k l _ f A (g.trans d) x (C.cut _ _).sc⟩
theorem rR(K:Frag){X:Cx}(h:X.K=K:=by rfl):Pk X (rN K):=by subst h;exact Aw
end
section
variable{X:Cx}{pos pos':Pos}{x:Str}{e:Expr}{te:TE}
theorem xH(i:Nat)(a:X.N.Nodup)(d:PE X e te)(b:X.N[i]?=some x:=by rfl)(c:Loc X.env.scope x:=by first|exact .inl rfl|exact .inr rfl)(g:swapsWith e (some (.Name x pos')) pos.line X.env=pure false:=by rfl)(f:X.fn x=true\/X.env.scope.names.lookup x=some .local:=by first|exact .inl rfl|exact .inr rfl|assumption):PS X (.Assign [.Name x pos'] e pos) (g_ te (vR i)):=Fo a b c d g f
theorem bV(i:Nat)(a:X.N.Nodup)(d:X.N[i]?=some x:=by rfl)(b:Loc X.env.scope x:=by first|exact .inl rfl|exact .inr rfl)(c:X.fn x=true\/X.env.scope.names.lookup x=some .local:=by first|exact .inl rfl|exact .inr rfl|assumption):PG X (.Name x pos) (vR i):=yQ a d b c
end
theorem esc{K:Frag}{B:Bs}{a:SL K}{md:Md}{α:Type}[Rp K α][Sc K α]{t:TE}{m:Option α}(h:Ex B a .hp t m):Ex B a md t m:=h.sc
theorem fsc{N P:List Str}{s:Scope}(g:s.kind=.function:=by rfl)(h2:s.isCoroutine=false:=by rfl)(d:s.isGenerator=false:=by rfl)(e:N.Nodup:=by decide +kernel)(b:N.take P.length=P:=by rfl)(c:∀x∈P,s.names.lookup x=some .local\/s.names.lookup x=some .cell:=by decide +kernel)(f:∀y∈s.names,y.2≠.free:=by decide +kernel):ao N P s:=⟨g,h2,d,e,b,c,f⟩
section
variable{K:Frag}{x y:Str}{st:Stmt}{f:Addr}{fd:FuncData}{p0 p1 p2 p3 p4:Str}
theorem qm(F:aV K x y st f fd)(h:∀kV p o n j l i,bindArgs (fnOf x y (vY st) (xY st) (zH st) .none kV p o n j l) ⟨[i],[]⟩=pure [(p0,i)]:=by intros;rfl):Binds K fd [p0] []:=F.binds λa b c d e g m k=>by
 rcases m with _|⟨i,_|_⟩<;>cases k
 exact h a b c d e g i
theorem iZ(F:aV K x y st f fd)(h:∀kV m p o k l i j,bindArgs (fnOf x y (vY st) (xY st) (zH st) .none kV m p o k l) ⟨[i,j],[]⟩=pure [(p0,i),(p1,j)]:=by intros;rfl):Binds K fd [p0,p1] []:=F.binds λa b c d e g n q=>by
 rcases n with _|⟨i,_|⟨j,_|_⟩⟩<;>cases q
 exact h a b c d e g i j
theorem oO(F:aV K x y st f fd)(h:∀kV n q p l r k i j,bindArgs (fnOf x y (vY st) (xY st) (zH st) .none kV n q p l r) ⟨[k,i,j],[]⟩=pure [(p0,k),(p1,i),(p2,j)]:=by intros;rfl):Binds K fd [p0,p1,p2] []:=F.binds λa b c d e g o m=>by
 rcases o with _|⟨k,_|⟨i,_|⟨j,_|_⟩⟩⟩<;>cases m
 exact h a b c d e g k i j
theorem Nk(F:aV K x y st f fd)(h:∀kV o r q m s l i j k,bindArgs (fnOf x y (vY st) (xY st) (zH st) .none kV o r q m s) ⟨[l,i,j,k],[]⟩=pure [(p0,l),(p1,i),(p2,j),(p3,k)]:=by intros;rfl):Binds K fd [p0,p1,p2,p3] []:=F.binds λa b c d e g p n=>by
 rcases p with _|⟨l,_|⟨i,_|⟨j,_|⟨k,_|_⟩⟩⟩⟩<;>cases n
 exact h a b c d e g l i j k
end
theorem bx{K:Frag}{a b:SL K}(h:Le a b:=by repeat(first|exact Le.nil|refine Le.eq ?_|refine Le.un ?_|refine Le.fr ?_)):Le a b:=h
theorem iu{K:Frag}{a b:SL K}(h:o_ a b:=by repeat(first|exact o_.nil|refine o_.eq ?_|refine o_.un ?_)):o_ a b:=h
abbrev Slot.z{α:Type}[Rp K α](a:α):Slot K:=.fz false a
abbrev Slot.y{α:Type}[Rp K α](a:α):Slot K:=.fz true a
end Ts
namespace pF
open PySem PySem.SetTable
def U8(m:Nat):Nat->Nat->Nat
 |0,i=>i
 |t+1,i=>U8 m t ((i*5+1)%m)
def seen(m:Nat):Nat->Nat->Nat->Nat
 |0,_,a=>a
 |t+1,i,a=>seen m t ((i*5+1)%m) (a|||1 <<< i)
theorem zLr(m j:Nat):∀(t i acc:Nat),(seen m t i acc).testBit j=true->acc.testBit j=true\/∃u,u<t/\U8 m u i=j
 |0,i,acc,h=>.inl h
 |t+1,i,acc,h=>by
  rcases zLr m j t _ _ h with z|⟨u,b,e⟩
  ·rw[Nat.testBit_or,ac4] at z
   rcases z with z|z
   ·exact .inl z
   ·rw[Nat.testBit_shiftLeft,aaz,decide_eq_true_eq] at z
    obtain⟨z1,a⟩:=z
    have:j-i=0:=by
     cases q:j-i with
     |zero=>rfl
     |succ n =>
      rw[q] at a
      have:(1:Nat).testBit (n+1)=false:=Nat.testBit_lt_two_pow (aaq (by decide) (acp (by decide) (abq (aa0 n))))
      rw[this] at a
      cases a
    exact .inr ⟨0,aec _,by show i=j;omega⟩
  ·exact .inr ⟨u+1,Nat.succ_lt_succ b,e⟩
def rT(m:Nat):Bool:=(aax m).all λi=>seen m m i 0==2^m-1
theorem Cd(h:rT m=true)(a:i<m)(hj:j<m):∃u,u<m/\U8 m u i=j:=by
 have q:=all_eq_true.mp h i (mem_range.mpr a)
 have t:(seen m m i 0).testBit j=true:=by grind
 rcases zLr m j m i 0 t with z|z
 ·grind
 ·exact z
theorem Qz:rT 8=true:=by decide +kernel
theorem QB:rT 16=true:=by decide +kernel
theorem QC:rT 32=true:=by decide +kernel
theorem QD:rT 64=true:=by decide +kernel
theorem JN:rT 128=true:=by decide +kernel
theorem JQ:rT 256=true:=by decide +kernel
theorem QF{owner:Array (Option Nat)}{mask i:Nat}(h:owner.getD i (some 0)=none):(aax (runEnd mask i+1-i)).find? (λk=>(owner.getD (i+k) (some 0)).isNone)≠none:=λe=>by
 have q:=List.find?_eq_none.mp e 0 (mem_range.mpr (by unfold runEnd;grind))
 grind
theorem zJc{owner:Array (Option Nat)}{mask:Nat}:∀(a i p j:Nat),layClean.free mask owner a i p=some j->owner.getD j (some 0)=none
 |0,_,_,_,h=>by cases h
 |a+1,i,p,j,h=>by
  unfold layClean.free at h
  split at h
  ·simp_all
  ·exact zJc a _ _ j h
theorem zJd{owner:Array (Option Nat)}{mask j:Nat}(b:owner.getD j (some 0)=none):∀(a u i:Nat),u<a->U8 (mask+1) u i=j->layClean.free mask owner a i 0≠none
 |0,u,i,h,_=>absurd h (ab2 _)
 |a+1,0,i,_,e=>by
  have c:=e
  subst c
  unfold layClean.free
  cases q:(aax (runEnd mask i+1-i)).find? λk=>(owner.getD (i+k) (some 0)).isNone with
  |none=>exact absurd q (QF b)
  |some k=>grind
 |a+1,u+1,i,h,e=>by
  unfold layClean.free
  cases q:(aax (runEnd mask i+1-i)).find? λk=>(owner.getD (i+k) (some 0)).isNone with
  |none=>exact zJd b a u _ (adf h) e
  |some k=>grind
theorem zMc{owner:Array (Option Nat)}{mask:Nat}(a:Nat)(h0:∀i,i<=mask->layClean.free mask owner a i 0≠none):∀(d i p:Nat),i<=mask->p<32^d->layClean.free mask owner (a+d) i p≠none
 |0,i,p,c,b=>by
  grind
 |d+1,i,p,c,b=>by
  unfold layClean.free
  cases q:(aax (runEnd mask i+1-i)).find? λk=>(owner.getD (i+k) (some 0)).isNone with
  |none=>exact zMc a h0 d _ _ (aco (aer _ (aec _))) (by grind)
  |some k=>grind
theorem Ce{owner:Array (Option Nat)}{mask j:Nat}(a:rT (mask+1)=true)(d:j<=mask)(b:owner.getD j (some 0)=none)(h:Int):∃k,layClean.free mask owner (turns mask) (bits h%(mask+1)) (bits h)=some k/\owner.getD k (some 0)=none:=by
 have q:layClean.free mask owner (mask+2+13) (bits h%(mask+1)) (bits h)≠none:=zMc (mask+2) (λi c=>by
  obtain⟨u,hu,e⟩:=Cd a (Nat.lt_succ_of_le c) (Nat.lt_succ_of_le d)
  exact zJd b _ u i (by omega) e) 13 _ _ (aco (aer _ (aec _))) (by unfold bits;grind)
 unfold turns
 cases e:layClean.free mask owner (mask+15) (bits h%(mask+1)) (bits h) with
 |none=>grind
 |some k=>exact⟨k,rfl,zJc _ _ _ _ e⟩
theorem XH{α:Type}(v:α):∀(l:List (Option α))(j:Nat),l[j]?=some none->((l.set j (some v)).filterMap id).Perm (v::l.filterMap id)
 |[],j,h=>by simp at h
 |x::l,0,h=>by
  have e:x=none:=by simpa using h
  subst e
  exact .refl _
 |none::l,j+1,h=>by
  show((l.set j (some v)).filterMap id).Perm (v::l.filterMap id)
  exact XH v l j (by simpa using h)
 |some x::l,j+1,h=>by
  show(x::(l.set j (some v)).filterMap id).Perm (v::x::l.filterMap id)
  exact((XH v l j (by simpa using h)).cons x).trans (.swap _ _ _)
theorem zIf:∀(l:List (Option Nat)),(l.filterMap id).length<l.length->∃j,j<l.length/\l[j]?=some none
 |[],h=>by simp at h
 |none::l,_=>⟨0,by simp,rfl⟩
 |some x::l,h=>by
  obtain⟨j,hj,e⟩:=zIf l (by simpa using h)
  exact⟨j+1,by simpa using hj,e⟩
theorem getD_none{owner:Array (Option Nat)}:owner.getD j (some 0)=none↔owner.toList[j]?=some none:=by
 rw[Array.getD_eq_getD_getElem?,getElem?_toList]
 cases owner[j]? with
 |none=>simp
 |some x=>simp
theorem zV2{mask:Nat}(hc:rT (mask+1)=true):∀(hs:LI)(owner:Array (Option Nat))(k:Nat),owner.size=mask+1->(owner.toList.filterMap id).Perm (aax k)->k+hs.length<=mask ->
  ∃qC,hs.foldl (λacc h=>do
   let(owner,k) <-acc
   let j <-layClean.free mask owner (turns mask) (bits h%(mask+1)) (bits h)
   pure (owner.setIfInBounds j (some k),k+1)) (some (owner,k))=some (qC,k+hs.length)/\qC.size=mask+1/\(qC.toList.filterMap id).Perm (aax (k+hs.length))
 |[],owner,k,h1,h2,h3=>⟨owner,rfl,h1,h2⟩
 |h::hs,owner,k,h1,h2,h3=>by
  obtain⟨j,hj,ej⟩:=zIf owner.toList (by rw[h2.length_eq,length_range,length_toList,h1];rw[length_cons] at h3;omega)
  obtain⟨i,ei,fi⟩:=Ce hc (owner:=owner) (j:=j) (by rw[length_toList,h1] at hj;omega) (getD_none.mpr ej) h
  have q:=zV2 hc hs (owner.setIfInBounds i (some k)) (k+1) (by rw[Array.size_setIfInBounds];exact h1) ?_ (by rw[length_cons] at h3;omega)
  ·obtain⟨o',e,z1,z2⟩:=q
   have ek:k+(h::hs).length=k+1+hs.length:=by rw[length_cons];omega
   refine⟨o',?_,z1,by rw[ek];exact z2⟩
   rw[ek,List.foldl_cons,<-e]
   refine congrArg (λz=>List.foldl _ z hs) ?_
   show(layClean.free mask owner (turns mask) (bits h%(mask+1)) (bits h)).bind _=_
   rw[ei]
   rfl
  ·rw[Array.toList_setIfInBounds,List.range_succ]
   exact((XH k owner.toList i (getD_none.mp fi)).trans (h2.cons k)).trans (List.perm_append_singleton k _).symm
theorem zIs:∀(l:List (Option Nat)),(aax l.length).filterMap (λj=>(l[j]?).getD none)=l.filterMap id
 |[]=>rfl
 |x::l=>by
  rw[length_cons,range_succ_eq_map,filterMap_cons,filterMap_map]
  have e:((λj=>((x::l)[j]?).getD none)∘Nat.succ)=λj=>(l[j]?).getD none:=rfl
  rw[e,zIs l]
  cases x<;>rfl
theorem zQo{mask:Nat}(i:rT (mask+1)=true)(finger moves:Nat)(led plain:Bool)(c:Array Int)(l:c.size<=mask) :
  ∃t a,laid mask finger moves led plain c=some (t,a)/\a.toList.Perm (aax c.size)/\t.place.size=c.size/\t.dummies=#[]/\t.mask=mask/\t.led=led/\t.plain=plain/\Rz t.place:=by
 obtain⟨b,e,m,d⟩:=zV2 i c.toList (Array.replicate (mask+1) none) 0 (by rw[Array.size_replicate]) (by rw[Array.toList_replicate,List.filterMap_replicate_of_none rfl];exact .refl _) (by rw[aew,length_toList];exact l)
 rw[aew,length_toList] at d
 have h:layClean mask c=some b:=by
  unfold layClean
  rw[<-Array.foldl_toList,e]
  rfl
 have g:((aax (mask+1)).filterMap λj=>(b.getD j none).map λk=>(j,k)).map (·.2)=b.toList.filterMap id:=by
  rw[<-zIs b.toList,length_toList,m,List.map_filterMap]
  refine congrArg (λf=>List.filterMap f _) (funext λj=>?_)
  rw[Array.getD_eq_getD_getElem?,getElem?_toList]
  cases(b[j]?).getD none<;>rfl
 refine⟨_,_,by unfold laid;rw[h];rfl,?_,?_,rfl,rfl,rfl,rfl,zIo (λj=>b.getD j none) _⟩
 ·show((aax (mask+1)).filterMap λj=>(b.getD j none).map λk=>(j,k)).map (·.2) |>.Perm _
  rw[g]
  exact d
 ·show(((aax (mask+1)).filterMap λj=>(b.getD j none).map λk=>(j,k)).map (·.1)).length=_
  rw[length_map,<-length_map (f:=(·.2)),g,d.length_eq,length_range]
theorem zU3(h:n<=255):∃m,sizeAbove n=m+1/\n<=m/\rT (m+1)=true/\m<=255:=by
 by_cases h1:n<8
 ·exact⟨7,by unfold sizeAbove;unfold sizeAbove.go;rw[if_neg (by omega)],by omega,Qz,by omega⟩
 by_cases h2:n<16
 ·exact⟨15,by unfold sizeAbove;unfold sizeAbove.go;rw[if_pos (by omega)];unfold sizeAbove.go;rw[if_neg (by omega)],by omega,QB,by omega⟩
 by_cases h3:n<32
 ·exact⟨31,by unfold sizeAbove;unfold sizeAbove.go;rw[if_pos (by omega)];unfold sizeAbove.go;rw[if_pos (by omega)];unfold sizeAbove.go;rw[if_neg (by omega)],by omega,QC,by omega⟩
 by_cases h4:n<64
 ·exact⟨63,by unfold sizeAbove;unfold sizeAbove.go;rw[if_pos (by omega)];unfold sizeAbove.go;rw[if_pos (by omega)];unfold sizeAbove.go;rw[if_pos (by omega)];unfold sizeAbove.go;rw[if_neg (by omega)],by omega,QD,by omega⟩
 by_cases h5:n<128
 ·exact⟨127,by unfold sizeAbove;unfold sizeAbove.go;rw[if_pos (by omega)];unfold sizeAbove.go;rw[if_pos (by omega)];unfold sizeAbove.go;rw[if_pos (by omega)];unfold sizeAbove.go;rw[if_pos (by omega)];unfold sizeAbove.go;rw[if_neg (by omega)],by omega,JN,by omega⟩
 ·exact⟨255,by unfold sizeAbove;unfold sizeAbove.go;rw[if_pos (by omega)];unfold sizeAbove.go;rw[if_pos (by omega)];unfold sizeAbove.go;rw[if_pos (by omega)];unfold sizeAbove.go;rw[if_pos (by omega)];unfold sizeAbove.go;rw[if_pos (by omega)];unfold sizeAbove.go;rw[if_neg (by omega)],by omega,JQ,by omega⟩
open PySem PySem.Spec PyProof.Rows
section
variable{prog:Program}{w:World}{κ:Type}[DecidableEq κ]{knd:KeyKind prog w κ}{dec:Value->κ}{led:Bool}{A:Around}{E:Value->Shared->Prop}{s:Shared}
theorem zGj{α:Type}(es:Array α)(a:Array Nat)(h:a.toList.Perm (aax es.size)):(a.filterMap (es[·]?)).toList.Perm es.toList:=by
 rw[Array.toList_filterMap]
 refine(h.filterMap _).trans ?_
 have e:(aax es.size).filterMap (es[·]?)=es.toList:=by
  have:∀l:List α,(aax l.length).filterMap (λj=>l[j]?)=l:=λl=>by
   induction l with
   |nil=>rfl
   |cons x l ih =>
    rw[length_cons,range_succ_eq_map,filterMap_cons,filterMap_map]
    show x::List.filterMap (λj=>l[j]?) _=_
    rw[ih]
  have q:=this es.toList
  grind
 rw[e]
theorem zLw{Q:Unit->Shared->Prop}(e:s.heap.get? a=some o)(d:o.data=.set es ep t)(y:t.fits es.size=true)(x:b<=255)(hn:es.size<=b)(h:∀(es':Array (Int×Value)) (t':SetTable),es'.toList.Perm es.toList->t'.place.size=es.size->t'.dummies=#[]->b<=t'.mask->rT (t'.mask+1)=true->t'.led=t.led->Rz t'.place->Q () { s with heap:=s.heap.update a (aes es' t') }):wpAny (model prog w) A (setRelay a b) Q E s:=by
 obtain⟨m,i,e2,f,e4⟩:=zU3 x
 unfold setRelay
 refine aag (aau e d y ?_)
 dsimp only
 rw[if_neg (by rw[i];show¬m+1 > 2^24;omega)]
 obtain⟨t',c,r,g,k,u,v,l,q7,q⟩:=zQo (mask:=m) f t.finger (t.movedTo m) t.led t.plain (es.map (·.1)) (by grind)
 rw[size_map] at g k
 have n:t.relaid (es.map (·.1)) b=some (t',c):=by
  unfold SetTable.relaid
  rw[i]
  exact r
 rw[n]
 have p:=zGj es c g
 have j:(c.filterMap (es[·]?)).size=es.size:=by rw[<-length_toList,p.length_eq,length_toList]
 refine aag (m:=(if((c.filterMap (es[·]?)).size != es.size)=true then unsupported "internal:set-table-lost-an-element" else pure (c.filterMap (es[·]?),t'))) ?_
 rw[if_neg (by rw[j];simp)]
 refine aah ?_
 exact ab0 e d (h _ t' p k u (by grind) (by rw[v];exact f) l q) (by rw[j];show es.size<=2^24;omega)
theorem XJ{t':SetTable}(h1:t'.place.size=n)(h2:t'.dummies=#[])(h3:a<=t'.mask)(h4:n<=a):t'.fits n=true:=by
 unfold fits adx
 grind
theorem zLv{Q:Unit->Shared->Prop}(g:Good knd dec led s.heap a ks)(hw:wanted<=255)(hn:ks.length<=wanted)(h:∀h',SameBut a s.heap h'->Good knd dec led h' a ks->Q () { s with heap:=h' }):wpAny (model prog w) A (setRelay a wanted) Q E s:=by
 obtain⟨o,es,ep,t,ho,hx,hd,hel,hp,nd,hb,hf,tb⟩:=g
 have ln:es.size=ks.length:=by rw[<-hp.length_eq,length_map,length_toList]
 refine zLw ho hd hf hw (by rw[ln];exact hn) λes' t' p q3 q4 q5 q6 q7 q8=>h _ (SameBut.update _ a _) ?_
 have sz:es'.size=es.size:=by rw[<-length_toList,p.length_eq,length_toList]
 exact⟨_,es',_,t',Gs (es':=es') (t':=t') ho hd,hx,rfl,hel.perm p,(p.map _).trans hp,nd,by rw[sz];exact hb,by rw[sz];exact XJ q3 q4 q5 (by rw[ln];exact hn),⟨q7.trans tb.led,λ_=>q8⟩⟩
theorem Cg{Q:Unit->Shared->Prop}(g:Good knd dec led s.heap a ks)(hw:(ks.length+b)*2<=255)(h:∀h',SameBut a s.heap h'->Good knd dec led h' a ks->Q () { s with heap:=h' }):wpAny (model prog w) A (setRoomFor a b) Q E s:=by
 obtain⟨o,i,ep,t,d,hx,f,hel,e,nd,hb,c,tb⟩:=id g
 have ln:i.size=ks.length:=by rw[<-e.length_eq,length_map,length_toList]
 unfold setRoomFor
 refine aag (aau d f c ?_)
 dsimp only
 unfold SetTable.roomFor
 have pl:=Qw c
 split
 ·rename_i z
  split at z
  ·cases z
   exact zLv g (by grind) (by grind) h
  grind
 ·exact aah (h _ (SameBut.refl a s.heap) g)
theorem zFe{Q:Unit->Shared->Prop}(l:s.heap.get? r=some { cls:=.type "set",dict:=none,data:=.set #[] 0 (.fresh 0 0 (zV w)) })(G:r≠o)(g:Good knd dec (zV w) s.heap o ks)(hl:ks.length<=127)(h:∀h',SameBut r s.heap h'->Good knd dec (zV w) h' r ks->Q () { s with heap:=h' }):wpAny (model prog w) A (setMerge r o each) Q E s:=by
 obtain⟨ob,b,ep,t,ho,hx,Z,u,F,V,C,X,D⟩:=id g
 have ln:b.size=ks.length:=by rw[<-F.length_eq,length_map,length_toList]
 unfold setMerge
 rw[if_neg (by simpa using G)]
 refine aag (aau ho Z X ?_)
 dsimp only
 by_cases e:b.isEmpty=true
 ·rw[if_pos e]
  have e0:b.size=0:=by simpa[Array.isEmpty] using e
  have k0:ks=[]:=length_eq_zero_iff.mp (by rw[<-ln];exact e0)
  subst k0
  exact aah (h _ (SameBut.refl r s.heap) (Qv l))
 rw[if_neg e]
 refine aag (abm (Q:=λ_ s'=>∃(i:Heap)(x:Obj)(k:Nat)(d:SetTable),s'={ s with heap:=i }/\SameBut r s.heap i/\i.get? r=some x/\x.ExactSet/\x.data=.set #[] k d/\d.place.size=0/\d.dummies=#[]/\d.led=zV w/\rT (d.mask+1)=true/\b.size<=d.mask) ?first ?post (λ_ _ h=>h))
 case post =>
  rintro _ _ ⟨i,x,k,d,rfl,O,q,T,n,L,N,P,Y,M⟩
  refine aag (aau (s:={ s with heap:=i }) q n (by show d.fits 0=true;exact XJ L N (aa0 _) (aak 0)) ?_)
  dsimp only
  have f:d.fill=0:=by unfold adx;rw[L,N];rfl
  unfold SetTable.road
  rw[f]
  rw[if_neg (by simp)]
  by_cases v:(d.mask==t.mask&&t.dummies.isEmpty)=true
  ·rw[if_pos v]
   refine ab0 (s:={ s with heap:=i }) q n (h _ (O.trans (SameBut.update _ r _)) ⟨_,b,_,_,Gs (es':=b) (t':=_) q n,T,rfl,u,F,V,C,X,⟨?_,λz=>D.rz (Bool.and_eq_true_iff.mp z).2⟩⟩) (aby C)
   show(d.led&&t.led)=_
   rw[P,D.led,aem]
  ·rw[if_neg v]
   obtain⟨j,a,q1,S,y,H,W,J,R,U⟩:=zQo (mask:=d.mask) Y d.finger d.moves (d.led&&t.led) (d.plain&&t.plain) (b.map (·.1)) (by rw[size_map];exact M)
   rw[size_map] at S y
   dsimp only
   rw[q1]
   have p:=zGj b a S
   have B:(a.filterMap (b[·]?)).size=b.size:=by rw[<-length_toList,p.length_eq,length_toList]
   refine aag (m:=(if((a.filterMap (b[·]?)).size != b.size)=true then unsupported "internal:set-table-lost-an-element" else pure (a.filterMap (b[·]?),j))) ?_
   rw[if_neg (by rw[B];simp)]
   refine aah ?_
   refine ab0 (s:={ s with heap:=i }) q n (h _ (O.trans (SameBut.update _ r _)) ⟨_,_,_,j,Gs (es':=a.filterMap (b[·]?)) (t':=j) q n,T,rfl,u.perm p,(p.map _).trans F,V,by rw[B];exact C,by rw[B];exact XJ y H (by rw[W];exact M) (aak _),⟨?_,λ_=>U⟩⟩) (aby (by rw[B];exact C))
   rw[J,P,D.led,aem]
 case first =>
  unfold setRoomFor
  refine aag (aau l rfl rfl ?_)
  dsimp only
  have e1:(SetTable.fresh 0 0 (zV w)).roomFor b.size=if(b.size*5 ≥ 21) then some (b.size*2) else none:=by
   unfold SetTable.roomFor adx SetTable.fresh
   simp
  rw[e1]
  by_cases c:b.size*5 ≥ 21
  ·rw[if_pos c]
   refine zLw l rfl rfl (by omega) (aa0 _) λI j p y H W J R U=>?_
   have ee:I=#[]:=by
    have:=p.length_eq
    rw[length_toList] at this
    exact Array.eq_empty_of_size_eq_zero this
   subst ee
   exact⟨_,_,_,j,rfl,SameBut.update _ r _,Gs (es':=#[]) (t':=j) l rfl,⟨rfl,rfl,rfl⟩,rfl,y,H,R,J,by omega⟩
  ·rw[if_neg c]
   exact aah ⟨s.heap,_,0,_,rfl,SameBut.refl r s.heap,l,⟨rfl,rfl,rfl⟩,rfl,rfl,rfl,rfl,Qz,by show b.size<=7;omega⟩
end
section
variable{prog:Program}{w:World}{κ:Type}[DecidableEq κ]{knd:KeyKind prog w κ}{dec:Value->κ}{led:Bool}{A:Around}{E:Value->Shared->Prop}{s:Shared}
theorem zRs{Q:Value->Shared->Prop}(g:Good knd dec (zV w) s.heap a ks)(n:ks.length<=127)(h:∀(h':Heap),Good knd dec (zV w) h' s.heap.objs.size ks->(∀c o,c<s.heap.objs.size->s.heap.get? c=some o->h'.get? c=some o)->(ks=[]->h'=s.heap.push { cls:=.type "set",dict:=none,data:=.set #[] 0 (.fresh 0 0 (zV w)) })->Q (.ref s.heap.objs.size) { s with heap:=h' }) :
  wpAny (model prog w) A (acz a) Q E s:=by
 have l:a<s.heap.objs.size:=by obtain⟨o,_,_,_,m,_⟩:=g;exact lt_size m
 have b:∀c o,s.heap.get? c=some o->(s.heap.push { cls:=.type "set",dict:=none,data:=.set #[] 0 (.fresh 0 0 (zV w)) }).get? c=some o:=λc o e=>get?_push_of_some _ e
 have d:=g.keep (b a)
 unfold acz
 refine aag (Xz g.type (aag (XC ?_)))
 refine aag (aah ?_)
 cases ks with
 |nil =>
  obtain⟨o,k,ep,t,r,hx,j,hel,f,nd,hb,p,tb⟩:=d
  have e0:k.size=0:=by rw[<-length_toList];have:=f.length_eq;grind
  unfold setMerge
  rw[if_neg (by grind)]
  refine aag (aag (aau (s:={ s with heap:=_ }) r j p ?_))
  dsimp only
  rw[if_pos (by grind)]
  refine aah (aah (h _ (Qv (get?_push_size _ rfl)) (λc o _ e=>b c o e) λ_=>rfl))
 |cons k0 ks0 =>
  refine aag (zFe (s:={ s with heap:=_ }) (get?_push_size _ rfl) (acu l) d n λh' u q=>?_)
  exact aah (h h' q (λc o i e=>by rw[u.2 c (aan i)];exact b c o e) λz=>by cases z)
theorem QG{α:Type}(xs:Array α)(p:Nat):(eraseAt xs p).toList=xs.toList.eraseIdx p:=by
 unfold eraseAt
 rw[List.eraseIdx_eq_take_drop_succ]
 simp[List.extract_eq_take_drop]
 exact List.take_of_length_le (by grind)
theorem zT9{α:Type}(xs:Array α)(p:Nat)(x:α):(insertAt xs p x).size=xs.size+1:=by
 unfold insertAt
 grind
theorem QH(hr:Rz xs)(p:Nat):Rz (eraseAt xs p):=by
 intro i k a b hik ha hb
 rw[<-getElem?_toList,QG,List.getElem?_eraseIdx] at ha hb
 have q:∀j,xs.toList[j]?=xs[j]?:=λj=>getElem?_toList
 split at ha<;>split at hb
 ·exact hr i k a b hik (by rw[<-q];exact ha) (by rw[<-q];exact hb)
 ·exact hr i (k+1) a b (by omega) (by rw[<-q];exact ha) (by rw[<-q];exact hb)
 ·omega
 ·exact hr (i+1) (k+1) a b (by omega) (by rw[<-q];exact ha) (by rw[<-q];exact hb)
theorem zOh(f:∀k v,knd.is k v=true->dec v=k){Q:Bool->Shared->Prop}(P:knd.is k x=true)(U:x.scannable=true)(g:Good knd dec led s.heap a ks)(h:∀(h':Heap) (b:Bool),SameBut a s.heap h'->Good knd dec led h' a (ks.erase k)->Q b { s with heap:=h' }) :
  wpAny (model prog w) A (setDiscardHashed a x (knd.hash k)) Q E s:=by
 obtain⟨o,c,ep,t,m,V,l,d,C,N,M,n,I⟩:=id g
 unfold setDiscardHashed
 refine aag ?_
 unfold setFind setFindIn
 refine aag (aau m l n ?_)
 dsimp only
 rw[byScan_of U M d]
 simp only[↓reduceIte]
 refine aag (adw (aag (wpAny_setScan_of P m l n d ?_)))
 have R:=zJe f d k
 cases H:List.findIdx? (λe=>knd.is k e.2) c.toList with
 |none =>
  have O:k∉ks:=λz=>R.mp H (C.mem_iff.mpr z)
  dsimp only
  refine aah (aah ?_)
  have q:=h s.heap false (SameBut.refl a s.heap)
  rw[List.erase_of_not_mem O] at q
  exact q g
 |some j =>
  obtain⟨p,u,_⟩:=List.findIdx?_eq_some_iff_getElem.mp H
  dsimp only
  rw[aew]
  refine aah (aag (aau m l n ?_))
  dsimp only
  have D:t.place.size=c.size:=Qw n
  have i:j<t.place.size:=by rw[D,<-length_toList];exact p
  have y:(eraseAt c j).size=c.size-1:=by rw[<-length_toList,QG,length_eraseIdx,if_pos p,length_toList]
  have F:t.drop j={ t with place:=eraseAt t.place j,dummies:=insertAt t.dummies (below t.dummies t.place[j]) t.place[j] }:=by
   unfold SetTable.drop
   rw[aar i]
  have jz:j<c.size:=by rw[<-length_toList];exact p
  have T:(t.drop j).fits (eraseAt c j).size=true:=by
   rw[F]
   unfold fits adx at n ⊢
   have S:(eraseAt t.place j).size=c.size-1:=by rw[<-length_toList,QG,length_eraseIdx,length_toList,if_pos i,D]
   dsimp only
   rw[S,zT9,y]
   grind
  have B:Tb led (t.drop j):=by
   rw[F]
   exact⟨I.led,λz=>QH (I.rz z) j⟩
  have r:((eraseAt c j).toList.map λe=>dec e.2).Perm (ks.erase k):=by
   rw[QG]
   have G:=((UW p).map λe=>dec e.2).trans C
   rw[map_cons,f k _ u] at G
   have J:=G.erase k
   rw[List.erase_cons_head] at J
   exact J
  refine aag (ab0 m l (aag (wpAny_point (aah (h _ true (SameBut.update _ a _) ⟨_,_,_,_,Gs (es':=eraseAt c j) (t':=t.drop j) m l,V,rfl,λe L=>?_,r,N.erase k,by rw[y];omega,T,B⟩)))) (aby (by rw[y];omega)))
  rw[QG] at L
  exact d e (List.mem_of_mem_eraseIdx L)
theorem Ci{Q:Unit->Shared->Prop}(g:Good knd dec led s.heap a ks)(hw:ks.length<=63)(h:∀h',SameBut a s.heap h'->Good knd dec led h' a ks->Q () { s with heap:=h' }):wpAny (model prog w) A (setTidy a) Q E s:=by
 obtain⟨o,b,ep,t,i,hx,f,hel,c,nd,hb,d,tb⟩:=id g
 have ln:b.size=ks.length:=by rw[<-c.length_eq,length_map,length_toList]
 refine aag (aau i f d ?_)
 dsimp only
 split
 ·have e:grown b.size=ks.length*4:=by unfold grown;grind
  exact zLv g (by omega) (by omega) h
 ·exact aah (h _ (SameBut.refl a s.heap) g)
theorem zM8(g:Good knd dec (zV w) s.heap a ks)(r:∀b∈d,∃ks:List κ,Good knd dec (zV w) s.heap b ks)(p:∀k v,knd.is k v=true->∀b,v≠.ref b){Q:Array (Int×Value)->Shared->Prop}(h:∀(es:Array (Int×Value)),ElemsOf knd es.toList->(es.toList.map λe=>dec e.2).Perm ks->Q es s):wpAny (model prog w) A (setWalkUnseen a d none) Q E s:=by
 obtain⟨o,es,ep,t,q,h2,u,x,hl,tb,l,n⟩:=g.size
 refine aag (aau q u x ?_)
 dsimp only
 refine aag (uT ?_)
 split
 ·rename_i c
  refine zOs g (λm o' i ep' t' h1' h3'=>?_) λi f j=>h i f j
  grind
 ·refine aag (zLx (knd:=knd) (dec:=dec) (led:=zV w) (a::d) (λb m=>(mem_cons.mp m).elim (λe=>e▸⟨ks,g⟩) (r b)) p ?_)
  exact aag (adw (aah (h es l n)))
theorem Cj(p:∀k v,knd.is k v=true->dec v=k)(id:String)(hn:∀k v,knd.is k v=true->∀b,v≠.ref b)(x:b≠r)(I:Good knd dec (zV w) s.heap r u)(J:Good knd dec (zV w) s.heap b G)(hl:u.length<=63)(Y:¬G.length/8 > u.length){Q:Unit->Shared->Prop}(h:∀(h':Heap) (d:List κ),SameBut r s.heap h'->Good knd dec (zV w) h' r d->(∀k,k∈d↔k∈u/\k∉G)->Q () { s with heap:=h' }) :
  wpAny (model prog w) A (Builtin.Frozenset.differenceUpdate id r (.ref b)) Q E s:=by
 obtain⟨o,es,ep,t,X,n,T,V,hlb,tb,hel,hp⟩:=J.size
 have nda:u.Nodup:=by obtain⟨_,_,_,_,_,_,_,_,_,L,_⟩:=I;exact L
 unfold Builtin.Frozenset.differenceUpdate
 rw[if_neg (λe=>x (aeo (adu e)))]
 refine aag (zp J.type ?_)
 simp only[↓reduceIte]
 refine aag (aah ?_)
 refine aag (Ni J (aag (Ni I ?_)))
 rw[if_neg Y]
 refine aag (abf X T V ?_)
 refine aag (aa6 (aag (zM8 J (λc Z=>(mem_singleton.mp Z)▸⟨u,I⟩) hn λR F O=>?_)))
 rw[<-forIn_toList]
 refine aag (abm (acf (β:=Unit) _ (λl _ z=>∃n d,z={ s with heap:=n }/\SameBut r s.heap n/\Good knd dec (zV w) n r d/\ElemsOf knd l/\d.length<=63/\∀k,(k∈d/\k∉l.map λe=>dec e.2)↔(k∈u/\k∉G)) (λ_ z=>∃n d,z={ s with heap:=n }/\SameBut r s.heap n/\Good knd dec (zV w) n r d/\d.length<=63/\∀k,k∈d↔k∈u/\k∉G) ?turn ?fin R.toList () ⟨s.heap,u,rfl,SameBut.refl r s.heap,I,F,hl,λk=>?_⟩) ?post (λ_ _ h=>h))
 case turn =>
  rintro⟨hs',v⟩ l W z ⟨g,d,rfl,i,y,B,f,C⟩
  obtain⟨⟨k,P,U⟩,D⟩:=B _ mem_cons_self
  dsimp only at P U D ⊢
  subst U
  have dv:dec v=k:=p k v P
  have S:d.Nodup:=by obtain⟨_,_,_,_,_,_,_,_,_,L,_⟩:=y;exact L
  refine aag (aa6 (zOh (led:=zV w) (s:={ s with heap:=g }) p P D y λj b'' m M=>?_))
  refine aag ?_
  unfold aa4
  refine aag (abf (s:={ s with heap:=j }) (by show j.get? b=_;rw[m.2 b x];show g.get? b=_;rw[i.2 b x];exact X) T V ?_)
  simp only[bne_self_eq_false,aay,↓reduceIte]
  refine aah (aah ⟨j,d.erase k,rfl,i.trans m,M,λe he=>B e (mem_cons_of_mem _ he),?_,λc=>?_⟩)
  ·have:=List.length_erase_le (a:=k) (l:=d)
   omega
  ·rw[<-C c,map_cons,mem_cons]
   show _↔(c∈d/\¬(c=dec v\/_))
   rw[dv,S.mem_erase_iff]
   constructor
   ·rintro⟨⟨N,H⟩,z3⟩
    exact⟨H,λq=>q.elim N z3⟩
   ·rintro⟨N,H⟩
    exact⟨⟨λq=>H (.inl q),N⟩,λq=>H (.inr q)⟩
 case fin =>
  rintro W z ⟨g,d,rfl,i,y,_,f,C⟩
  refine⟨g,d,rfl,i,y,f,λk=>?_⟩
  rw[<-C k]
  simp
 case post =>
  rintro W z ⟨g,d,rfl,i,y,f,C⟩
  refine aah ?_
  exact Ci (s:={ s with heap:=g }) y f λj m M=>h j d (i.trans m) M C
 ·rw[O.mem_iff]
end
theorem zG7:entryFor table "set.__sub__" = some Builtin.«frozenset.__sub__»:=adk (id':="frozenset.__sub__") (by kernel_rfl) rfl (by decide +kernel) (by kernel_rfl)
theorem zIl:entryFor table "set.__or__" = some Builtin.«frozenset.__or__»:=adk (id':="frozenset.__or__") (by kernel_rfl) rfl (by decide +kernel) (by kernel_rfl)
section
variable{prog:Program}{w:World}{κ:Type}[DecidableEq κ]{knd:KeyKind prog w κ}{dec:Value->κ}{led:Bool}{A:Around}{E:Value->Shared->Prop}{s:Shared}
theorem zRm(u:∀k v,knd.is k v=true->dec v=k)(id:String)(hn:∀k v,knd.is k v=true->∀b,v≠.ref b)(hxr:x≠r)(W:y≠r)(gx:Good knd dec (zV w) s.heap x m)(X:Good knd dec (zV w) s.heap y B)(gr:Good knd dec (zV w) s.heap r [])(Z:∀o es e t,s.heap.get? y=some o->o.data=.set es e t->e=ep){Q:Unit->Shared->Prop}(h:∀(h':Heap) (a:List κ),SameBut r s.heap h'->Good knd dec (zV w) h' r a->(∀k,k∈a↔k∈B/\k∉m)->Q () { s with heap:=h' }) :
  wpAny (model prog w) A (do
   for (h,V) in <-setWalkUnseen y [x,r] (some r) do
    holding [V] do
     let G <-pure (<-setFind x V h).isSome
     if !G then
      let _ <-setAddHashed r V h
    aa4 id y ep) Q E s:=by
 obtain⟨o,es,M,t,h1,d,h3,hf,hl,tb,hel,hp⟩:=X.size
 have e1:=Z o es M t h1 h3
 subst e1
 refine aag (Xy X gr (λb hb=>(mem_cons.mp hb).elim (λe=>e▸⟨m,gx⟩) λe=>(mem_singleton.mp e)▸⟨[],gr⟩) hn λR h' N O sb XM=>?_)
 rw[<-forIn_toList]
 have ln:R.toList.length=B.length:=by rw[<-O.length_eq,length_map]
 refine aag (abm (acf (β:=Unit) _ (λl _ J=>∃d a,J={ s with heap:=d }/\SameBut r s.heap d/\Good knd dec (zV w) d r a/\ElemsOf knd l/\a.length+l.length<=B.length/\∀k,(k∈a\/(k∉m/\k∈l.map λe=>dec e.2))↔(k∈B/\k∉m)) (λ_ J=>∃d a,J={ s with heap:=d }/\SameBut r s.heap d/\Good knd dec (zV w) d r a/\∀k,k∈a↔k∈B/\k∉m) ?turn ?fin R.toList () ⟨h',[],rfl,sb,XM,N,by rw[ln,List.length_nil];omega,λk=>?_⟩) ?post (λ_ _ h=>h))
 case turn =>
  rintro⟨hs,v⟩ l b J ⟨d,a,rfl,i,L,S,P,I⟩
  obtain⟨⟨k,T,hh⟩,H⟩:=S _ mem_cons_self
  dsimp only at T hh H ⊢
  subst hh
  have kx':∀o,s.heap.get? x=some o->d.get? x=some o:=λo e=>by rw[i.2 x hxr];exact e
  have U:=gx.keep kx'
  have dv:dec v=k:=u k v T
  rw[length_cons] at P
  have F:∀(f:Heap)(p:List κ),SameBut r s.heap f->Good knd dec (zV w) f r p->p.length+l.length<=B.length->(∀c,(c∈p\/(c∉m/\c∈l.map λe=>dec e.2))↔(c∈B/\c∉m)) ->
    wpAny (model prog w) A (aa4 id y M) (λ_ D=>wpAny (model prog w) A (pure (ab1 ())) (λq D=>match q with|.yield _=>∃d a,D={ s with heap:=d }/\SameBut r s.heap d/\Good knd dec (zV w) d r a/\ElemsOf knd l/\a.length+l.length<=B.length/\∀k,(k∈a\/(k∉m/\k∈l.map λe=>dec e.2))↔(k∈B/\k∉m)|.done _=>∃d a,D={ s with heap:=d }/\SameBut r s.heap d/\Good knd dec (zV w) d r a/\∀k,k∈a↔k∈B/\k∉m) E D) E { s with heap:=f }:=λf p C Y l3 m3=>by
   unfold aa4
   refine aag (abf (s:={ s with heap:=f }) (by show f.get? y=_;rw[C.2 y W];exact h1) h3 hf ?_)
   simp only[bne_self_eq_false,aay,↓reduceIte]
   exact aah (aah ⟨f,p,rfl,C,Y,λe he=>S e (mem_cons_of_mem _ he),l3,m3⟩)
  refine aag (aa6 (aag (wpAny_setFind_of (s:={ s with heap:=d }) T H (U.setOf u) λq hq=>aag (aah ?_))))
  cases q with
  |some j =>
   have nk:k∈m:=by simpa using hq.symm
   simp only[ad5,abk,aay,↓reduceIte]
   refine aah (aag (F d a i L (by omega) λc=>?_))
   rw[<-I c,map_cons,mem_cons]
   show _↔(c∈a\/c∉m/\(c=dec v\/_))
   rw[dv]
   constructor
   ·rintro(z|⟨n,g⟩)
    ·exact .inl z
    ·exact .inr ⟨n,.inr g⟩
   ·rintro(z|⟨n,g|g⟩)
    ·exact .inl z
    ·exact absurd nk (g▸n)
    ·exact .inr ⟨n,g⟩
  |none =>
   have mk:k∉m:=by simpa using hq.symm
   simp only[Option.isSome_none,aei,↓reduceIte]
   refine aag (UL (led:=zV w) (s:={ s with heap:=d }) u T H L (by have:=X.len;omega) λf b' C Y=>?_)
   refine aah (aag (F f _ (i.trans C) Y ?_ λc=>?_))
   ·split
    ·omega
    ·rw[length_cons];omega
   ·rw[<-I c,map_cons,mem_cons]
    show _↔(c∈a\/c∉m/\(c=dec v\/_))
    rw[dv]
    have e:c∈(if k∈a then a else k::a)↔c=k\/c∈a:=by
     split
     ·rename_i z
      exact⟨.inr,λq=>q.elim (λq=>q▸z) λq=>q⟩
     ·exact mem_cons
    rw[e]
    constructor
    ·rintro((z|z)|⟨n,g⟩)
     ·exact .inr ⟨z▸mk,.inl z⟩
     ·exact .inl z
     ·exact .inr ⟨n,.inr g⟩
    ·rintro(z|⟨n,g|g⟩)
     ·exact .inl (.inr z)
     ·exact .inl (.inl g)
     ·exact .inr ⟨n,g⟩
 case fin =>
  rintro b J ⟨d,a,rfl,i,L,_,_,I⟩
  refine⟨d,a,rfl,i,L,λk=>?_⟩
  rw[<-I k]
  simp
 case post =>
  rintro b J ⟨d,a,rfl,i,L,I⟩
  exact aah (h d a i L I)
 ·rw[O.mem_iff]
  constructor
  ·rintro(z|⟨n,g⟩)
   ·cases z
   ·exact⟨g,n⟩
  ·exactλ⟨n,g⟩=>.inr ⟨g,n⟩
theorem Ck(d:∀k v,knd.is k v=true->dec v=k)(id:String)(D:∀k v,knd.is k v=true->∀b,v≠.ref b)(hab:b≠a)(q:Good knd dec (zV w) s.heap a H)(n:Good knd dec (zV w) s.heap b P)(F:H.length<=63){Q:Value->Shared->Prop}(h:∀(h':Heap) (j:List κ),Good knd dec (zV w) h' s.heap.objs.size j->(∀k,k∈j↔k∈H/\k∉P)->(∀c o,c<s.heap.objs.size->s.heap.get? c=some o->h'.get? c=some o)->Q (.ref s.heap.objs.size) { s with heap:=h' }) :
  wpAny (model prog w) A (Builtin.Frozenset.difference id a (.ref b)) Q E s:=by
 have R:a<s.heap.objs.size:=by obtain⟨o,_,_,_,i,_⟩:=q;exact lt_size i
 have z:b<s.heap.objs.size:=by obtain⟨o,_,_,_,i,_⟩:=n;exact lt_size i
 unfold Builtin.Frozenset.difference
 refine aag (zp n.type ?_)
 simp only[abk,aay,Bool.false_and,↓reduceIte]
 refine aag (aah ?_)
 refine aag (Ni n (aag (Ni q ?_)))
 split
 ·rename_i c
  refine aag (adw (aag (zRs q (by omega) λh' N J _=>?_)))
  refine aag (aah ?_)
  refine aag (aa6 (Cj (s:={ s with heap:=h' }) d id D (aan z) N (n.keep λo e=>J b o z e) F (by omega) λG j B O m=>aah (h G j O m λc o u e=>?_)))
  rw[B.2 c (aan u)]
  exact J c o u e
 ·refine aag (Xz q.type (aag (XC ?_)))
  refine aag (aah ?_)
  have x:∀c o,s.heap.get? c=some o->(s.heap.push { cls:=.type "set",dict:=none,data:=.set #[] 0 (.fresh 0 0 (zV w)) }).get? c=some o:=λc o e=>get?_push_of_some _ e
  have f:=q.keep (x a)
  have l:=n.keep (x b)
  have r:Good knd dec (zV w) (s.heap.push { cls:=.type "set",dict:=none,data:=.set #[] 0 (.fresh 0 0 (zV w)) }) s.heap.objs.size []:=Qv (get?_push_size _ rfl)
  generalize hp:s.heap.push { cls:=.type "set",dict:=none,data:=.set #[] 0 (.fresh 0 0 (zV w)) }=y at x f l r ⊢
  obtain⟨o,es,ep,t,i,G,C,S,F,tb,hel,hpp⟩:=f.size
  refine aag (abf (s:={ s with heap:=y }) i C S ?_)
  refine aag (aa6 (zRm (s:={ s with heap:=y }) d id D (aan z) (aan R) l f r (λM es' e' t' L I=>?_) λh' j B g m=>aah (h h' j g m λc o u e=>?_)))
  ·have p:y.get? a=some M:=L
   rw[i] at p
   cases p
   rw[C] at I
   cases I
   rfl
  ·rw[B.2 c (aan u)];exact x c o e
theorem JR(d:∀k v,knd.is k v=true->dec v=k)(q:∀k v,knd.is k v=true->∀b,v≠.ref b)(j:b≠a)(f:Good knd dec (zV w) s.heap a l)(i:Good knd dec (zV w) s.heap b n)(p:l.length<=63){Q:Value->Shared->Prop}(h:∀(h':Heap) (e:List κ),Good knd dec (zV w) h' s.heap.objs.size e->(∀k,k∈e↔k∈l/\k∉n)->(∀c o,c<s.heap.objs.size->s.heap.get? c=some o->h'.get? c=some o)->Q (.ref s.heap.objs.size) { s with heap:=h' }) :
  wpAny (model prog w) A (binaryOp .Sub (.ref a) (.ref b)) Q E s:=by
 refine ad3 (op:=.Sub) f.type i.type F.fills_set_sub F.slot_set_sub (abu F.slot_set_sub f.type zG7 ?_ (F.args_set_sub_2 _ _))
 refine aag ?_
 refine aah ?_
 dsimp only
 refine aag (aag (zp f.type ?_))
 refine zp i.type ?_
 refine aag (aah (aag (Ck d _ q j f i p λh' e g m k=>aah ⟨.ref s.heap.objs.size,rfl,?_,h h' e g m k⟩)))
 grind
end
section
variable{prog:Program}{w:World}{κ:Type}[DecidableEq κ]{knd:KeyKind prog w κ}{dec:Value->κ}{led:Bool}{A:Around}{E:Value->Shared->Prop}{s:Shared}
theorem zT0(u:∀k v,knd.is k v=true->dec v=k)(id:String)(hn:∀k v,knd.is k v=true->∀b,v≠.ref b)(n:o≠r)(g:Good knd dec (zV w) s.heap r j)(go:Good knd dec (zV w) s.heap o B)(hk:j≠[])(hl:(j.length+B.length)*2<=255)(Y:∀ob es e t,s.heap.get? o=some ob->ob.data=.set es e t->e=ep){Q:Unit->Shared->Prop}(h:∀(h':Heap) (ks:List κ),SameBut r s.heap h'->Good knd dec (zV w) h' r ks->(∀k,k∈ks↔k∈j\/k∈B)->Q () { s with heap:=h' }) :
  wpAny (model prog w) A (setMerge r o (aa4 id o ep)) Q E s:=by
 obtain⟨ob,es,V,t,X,p,U,hf,M,tb,hel,hp⟩:=go.size
 have e1:=Y ob es V t X U
 subst e1
 unfold setMerge
 rw[if_neg (by simpa using(ab8 n))]
 refine aag (aau X U hf ?_)
 dsimp only
 by_cases i:es.isEmpty=true
 ·rw[if_pos i]
  have e0:es.size=0:=by simpa[Array.isEmpty] using i
  have k0:B=[]:=length_eq_zero_iff.mp (by rw[<-M];exact e0)
  subst k0
  exact aah (h _ j (SameBut.refl r s.heap) g λk=>by simp)
 rw[if_neg i]
 refine aag (Cg g (by rw[M];exact hl) λW T Z=>?_)
 obtain⟨o5,es5,ep5,t5,i1,i2,i3,D,il5,tb5,aae,ip5⟩:=Z.size
 have go4:=go.keep (h':=W) λob' e=>by rw[T.2 o n];exact e
 refine aag (aau (s:={ s with heap:=W }) i1 i3 D ?_)
 dsimp only
 have y:t5.fill≠0:=by
  unfold adx
  rw[Qw D,il5]
  cases j with
  |nil=>exact absurd rfl hk
  |cons a l=>rw[length_cons];omega
 unfold SetTable.road
 rw[if_pos (by simpa using y)]
 dsimp only
 refine aag (Xy (s:={ s with heap:=W }) go4 Z (λb hb=>(mem_singleton.mp hb)▸⟨j,Z⟩) hn λR h' N P sb XM=>?_)
 rw[<-forIn_toList]
 have ln:R.toList.length=B.length:=by rw[<-P.length_eq,length_map]
 refine aag (abm (acf (β:=Unit) _ (λl _ C=>∃p ks,C={ s with heap:=p }/\SameBut r s.heap p/\Good knd dec (zV w) p r ks/\ElemsOf knd l/\ks.length+l.length<=128/\∀k,(k∈ks\/k∈l.map λe=>dec e.2)↔(k∈j\/k∈B)) (λ_ C=>∃p ks,C={ s with heap:=p }/\SameBut r s.heap p/\Good knd dec (zV w) p r ks/\∀k,k∈ks↔k∈j\/k∈B) ?turn ?fin R.toList () ⟨h',j,rfl,T.trans sb,XM,N,by rw[ln];omega,λk=>?_⟩) ?post (λ_ _ h=>h))
 case turn =>
  rintro⟨hs,v⟩ l b C ⟨f,ks,rfl,d,F,O,H,J⟩
  obtain⟨⟨k,x,hh⟩,L⟩:=O _ mem_cons_self
  dsimp only at x hh L ⊢
  subst hh
  have dv:dec v=k:=u k v x
  rw[length_cons] at H
  have big:(129:Nat)<scanBound:=by decide
  have I:ks.length+1<scanBound:=by omega
  refine aag (aa6 (UL (led:=zV w) (s:={ s with heap:=f }) u x L F I λm b' S g3=>?_))
  have G:m.get? o=some ob:=by rw[S.2 o n];show f.get? o=_;rw[d.2 o n];exact X
  refine aag ?_
  unfold aa4
  refine aag (abf (s:={ s with heap:=m }) G U hf ?_)
  simp only[bne_self_eq_false,aay,↓reduceIte]
  refine aah (aag (aau (s:={ s with heap:=m }) G U hf ?_))
  simp only[bne_self_eq_false,aay,↓reduceIte]
  refine aah ⟨m,_,rfl,d.trans S,g3,λe he=>O e (mem_cons_of_mem _ he),?_,λc=>?_⟩
  ·split
   ·omega
   ·rw[length_cons];omega
  ·rw[<-J c,map_cons,mem_cons]
   show _↔(c∈ks\/(c=dec v\/_))
   rw[dv]
   have e:c∈(if k∈ks then ks else k::ks)↔c=k\/c∈ks:=by
    split
    ·rename_i z
     exact⟨.inr,λq=>q.elim (λq=>q▸z) λq=>q⟩
    ·exact mem_cons
   rw[e]
   constructor
   ·rintro((z|z)|z)
    ·exact .inr (.inl z)
    ·exact .inl z
    ·exact .inr (.inr z)
   ·rintro(z|z|z)
    ·exact .inl (.inr z)
    ·exact .inl (.inl z)
    ·exact .inr z
 case fin =>
  rintro b C ⟨f,ks,rfl,d,F,_,_,J⟩
  refine⟨f,ks,rfl,d,F,λk=>?_⟩
  rw[<-J k]
  simp
 case post =>
  rintro b C ⟨f,ks,rfl,d,F,J⟩
  exact aah (h f ks d F J)
 ·rw[P.mem_iff]
theorem JT(c:∀k v,knd.is k v=true->dec v=k)(id:String)(m:∀k v,knd.is k v=true->∀b,v≠.ref b)(d:o≠r)(g:Good knd dec (zV w) s.heap r f)(e:Good knd dec (zV w) s.heap o i)(h0:f=[]->s.heap.get? r=some { cls:=.type "set",dict:=none,data:=.set #[] 0 (.fresh 0 0 (zV w)) })(p:(f.length+i.length)*2<=255){Q:Unit->Shared->Prop}(h:∀(h':Heap) (ks:List κ),SameBut r s.heap h'->Good knd dec (zV w) h' r ks->(∀k,k∈ks↔k∈f\/k∈i)->Q () { s with heap:=h' }) :
  wpAny (model prog w) A (Builtin.Frozenset.updateFrom id r (.ref o)) Q E s:=by
 obtain⟨ob,es,ep',t,n,h2,q,x,hlo,tb,hel,hp⟩:=e.size
 refine aag (zp e.type ?_)
 simp only[↓reduceIte]
 refine aag (aah ?_)
 refine aag (abf n q x ?_)
 cases f with
 |nil=>exact zFe (h0 rfl) (ab8 d) e (by grind) λh' u j=>h h' i u j λk=>by simp
 |cons a l =>
  refine zT0 c id m d g e (λz=>by cases z) p (λob' es' e' t' z1 z2=>?_) h
  grind
theorem QJ(d:∀k v,knd.is k v=true->dec v=k)(u:∀k v,knd.is k v=true->∀b,v≠.ref b)(hab:b≠a)(g:Good knd dec (zV w) s.heap a n)(f:Good knd dec (zV w) s.heap b q)(hl:n.length<=63)(hl':q.length<=63){Q:Value->Shared->Prop}(h:∀(h':Heap) (p:List κ),Good knd dec (zV w) h' s.heap.objs.size p->(∀k,k∈p↔k∈n\/k∈q)->(∀c o,c<s.heap.objs.size->s.heap.get? c=some o->h'.get? c=some o)->Q (.ref s.heap.objs.size) { s with heap:=h' }) :
  wpAny (model prog w) A (binaryOp .BitOr (.ref a) (.ref b)) Q E s:=by
 have l:b<s.heap.objs.size:=by obtain⟨o,_,_,_,B,_⟩:=f;exact lt_size B
 refine ad3 (op:=.BitOr) (T:="set") g.type f.type F.fills_set_or F.slot_set_or (abu F.slot_set_or g.type zIl ?_ (F.args_set_or_2 _ _))
 refine aag (m:=Builtin.Frozenset.slot1 "__or__" ⟨[.ref a,.ref b],[]⟩) ?_
 unfold Builtin.Frozenset.slot1 slotArgs
 refine aah ?_
 dsimp only
 refine aag (aag (zp g.type ?_))
 refine zp f.type ?_
 simp only[abk,aay,↓reduceIte]
 refine aag (aah (aag ?_))
 refine aag (m:=acz a) (zRs g (by omega) λh' G j D=>?_)
 have C:(aa7 b != .ref a)=true:=by
  grind
 rw[if_pos C]
 refine aag (aah ?_)
 refine aag (aa6 (JT (s:={ s with heap:=h' }) d _ u (aan l) G (f.keep λo e=>j b o l e) (λz=>?_) (by omega) λr y t x m=>aah (aah ⟨.ref s.heap.objs.size,rfl,?_,h r y x m λc o i e=>?_⟩)))
 ·show h'.get? _=_
  rw[D z]
  exact get?_push_size _ rfl
 ·exactλz=>Value.noConfusion z
 ·rw[t.2 c (aan i)]
  exact j c o i e
end
end pF
namespace L2
open PySem PySem.Spec PyProof.Rows pF
section
variable{X:Cx}
def Gz(g d:BP):BP:=λσ H Q=>g σ H λb f=>b.length<64/\d σ f λc e=>∀a:LI,a.Nodup->(∀z,z∈a↔z∈b/\z∉c)->Q a e
theorem Cm(F:vd X a D)(l:vd X b C):vd X (.BinOp a .Sub b pos) (Gz D C):=by
 intro c s σ H Q I h
 refine ael (aO (F c s σ H _ I h) ?_)
 rintro u w ⟨p,ks,B,e,J,g,fo,R,N⟩
 subst e
 obtain⟨o,es,ep,t,x,gx,gd,_⟩:=id g
 have f:=J.pinned (fp:=[p]) (λb l=>by grind) (λb l=>by
  grind)
 refine aO (l _ w σ B _ f N) ?_
 rintro u2 d ⟨P,js,W,Z,q,L,j,S⟩
 subst Z
 have n:(p,o)∈X.pn++(c++Ft [p] w.heap):=mem_append_right _ (mem_append_right _ (vH (mem_singleton.mpr rfl) x))
 have T:d.heap.get? p=some o:=(q.pin (p,o) n).1
 have Y:=g.keep (h':=d.heap) λo' A=>by rw[x] at A;cases A;exact T
 have U:P≠p:=ab8 (j.2.2.2.2.2 (p,o) n)
 have i:=q.dW
 refine JR U5 (λk v O b z=>?_) U Y L (aco R) λM y r m k=>?_
 ·obtain⟨t,rfl⟩:=ab9 O
  cases z
 ·have E:=i.kept (h':=M) (t':=d.toks) λb o e=>k b o (lt_size e) e
  obtain⟨_,_,_,_,_,_,_,_,_,G,_⟩:=id r
  exact⟨_,y,W,rfl,E,r,i.jw (aak _) (i.hok.fresh (aak _)),S y G m⟩
def QK(f g:BP):BP:=λσ H Q=>f σ H λc d=>c.length<64/\g σ d λb e=>b.length<64/\∀a:LI,a.Nodup->(∀z,z∈a↔z∈c\/z∈b)->Q a e
theorem JV(D:vd X a ta)(f:vd X b T):vd X (.BinOp a .BitOr b pos) (QK ta T):=by
 intro c s σ H Q I h
 refine ael (aO (D c s σ H _ I h) ?_)
 rintro u r ⟨p,ks,W,e,J,g,fo,R,N⟩
 subst e
 obtain⟨o,es,ep,t,y,gx,gd,_⟩:=id g
 have i:=J.pinned (fp:=[p]) (λb f=>by grind) (λb f=>by
  grind)
 refine aO (f _ r σ W _ i N) ?_
 rintro u2 d ⟨P,js,Y,C,x,L,j,l,F⟩
 subst C
 have q:(p,o)∈X.pn++(c++Ft [p] r.heap):=mem_append_right _ (mem_append_right _ (vH (mem_singleton.mpr rfl) y))
 have S:d.heap.get? p=some o:=(x.pin (p,o) q).1
 have Z:=g.keep (h':=d.heap) λo' B=>by rw[y] at B;cases B;exact S
 have U:P≠p:=ab8 (j.2.2.2.2.2 (p,o) q)
 have n:=x.dW
 refine QJ U5 (λk v O b z=>?_) U Z L (aco R) (aco l) λM A w m k=>?_
 ·obtain⟨t,rfl⟩:=ab9 O
  cases z
 ·have E:=n.kept (h':=M) (t':=d.toks) λb o e=>k b o (lt_size e) e
  obtain⟨_,_,_,_,_,_,_,_,_,G,_⟩:=id w
  exact⟨_,A,Y,rfl,E,w,n.jw (aak _) (n.hok.fresh (aak _)),F A G m⟩
end
end L2
namespace Ts
open PySem L2
noncomputable def mV(ns a:LI):Option LI:=if ns.length<64/\a.length<4000 then some (vC (ns.filter λz=>!decide (z∈a))) else none
noncomputable def Cp(ns a:LI):Option LI:=if ns.length<64/\a.length<64/\(vC (ns++a)).length<64 then some (vC (ns++a)) else none
section
variable{K:Frag}{B:Bs}{sl:SL K}{md:Md}{t1 t2:TE}
theorem zOe(L:Ex B sl .hp t1 R)(h2:Ex B sl .hp t2 N):Eo B sl md (Qx (Gz (Gu K t1) (Gu K t2))) (R.bind λa=>N.bind λb=>mV a b):=λc P F O H σ Q s k=>by
 obtain⟨m,h,S,Z,d⟩:=nQ P
 unfold mV at d
 split at d
 case isFalse=>cases d
 rename_i f
 cases d
 refine L m S F O H σ _ s λv M T g E=>?_
 obtain⟨p,vs,rfl,C,z2⟩:=E
 have X:=z2.vals
 subst X
 refine⟨p,m,rfl,aN.of C,aaq f.1 (by decide),λks I j=>⟨aap (BR I λz i=>(j z).mp i) f.1,?_⟩⟩
 refine h2 h Z M O T σ _ (s.grow g) λw r H2 J x=>?_
 obtain⟨U,vs',rfl,Y,t⟩:=x
 have G:=t.vals
 subst G
 refine⟨U,h,rfl,aN.of Y,f.2,λjs jd A rs o n=>⟨aap (BR o λz i=>(j z).mp ((n z).mp i).1) f.1,λl y D q u=>?_⟩⟩
 have e:y=vC (m.filter λz=>!decide (z∈h)):=Gv (vI u (q.nodup_iff.mpr o)) (uW _) λz=>by rw[q.mem_iff,n,j,A,bH,mem_filter,Bool.not_eq_true',decide_eq_false_iff_not]
 subst e
 exact k l _ r H2 (g.trans J) D (uU _)
theorem zRg(L:Ex B sl .hp t1 P)(h2:Ex B sl .hp t2 N):Eo B sl md (Qx (QK (Gu K t1) (Gu K t2))) (P.bind λa=>N.bind λb=>Cp a b):=λc A F O H σ Q s k=>by
 obtain⟨r,o,R,T,h⟩:=nQ A
 unfold Cp at h
 split at h
 case isFalse=>cases h
 rename_i f
 cases h
 refine L r R F O H σ _ s λv M S g E=>?_
 obtain⟨p,vs,rfl,C,z2⟩:=E
 have X:=z2.vals
 subst X
 refine⟨p,r,rfl,aN.of C,aaq f.1 (by decide),λks I i=>⟨aap (BR I λz d=>(i z).mp d) f.1,?_⟩⟩
 refine h2 o T M O S σ _ (s.grow g) λw t H2 J y=>?_
 obtain⟨U,vs',rfl,Y,Z⟩:=y
 have G:=Z.vals
 subst G
 refine⟨U,o,rfl,aN.of Y,aaq f.2.1 (by decide),λjs x j=>⟨aap (BR x λz d=>(j z).mp d) f.2.1,λrs q m=>⟨aap (BR q λz d=>bH.mpr (mem_append.mpr (((m z).mp d).imp (i z).mp (j z).mp))) f.2.2,λl us D n u=>?_⟩⟩⟩
 have e:=Gv (vI u (n.nodup_iff.mpr q)) (uW _) λz=>by rw[n.mem_iff,m,i,j,bH,mem_append]
 subst e
 exact k l _ t H2 (g.trans J) D (uU _)
end
end Ts
namespace L2
open PySem PySem.Spec PyProof.Rows
theorem Inv.Cq{X:Cx}{pins:List (Addr×Obj)}{σ:St}{H:Hp}{s:Shared}{ch:List Addr}{h₂:Heap}{t' n:Nat}{xs:List V}{us:List Value}(I:Inv X pins σ H s)(kk:∀b o,b∉ch->s.heap.get? b=some o->h₂.get? b=some o)(ht:h₂.get? s.heap.objs.size=some { cls:=.type "tuple",data:=.seq us.toArray n })(rv:Vals xs us)(hz:xs.length<=sizeLine)(hf:∀b∈ch,ju X pins H b):Inv X pins σ (upd H s.heap.objs.size (.tup xs)) { s with heap:=h₂,toks:=t' }:=by
 have nT:H s.heap.objs.size=none:=I.hok.fresh (aak _)
 have lt:∀b o,s.heap.get? b=some o->b≠s.heap.objs.size:=λb o q=>aan (lt_size q)
 have U:Un (frs X.stack) ch H (upd H s.heap.objs.size (.tup xs)) s.heap h₂ :=
  ⟨λb o q _ _ hx=>kk b o hx q,λb o q _ _ hx=>⟨o.slots,kk b o hx q⟩,λb o q n _=>by rw[zN (lt b o q)];exact n,λb o q hx=>⟨o,kk b o hx q⟩,
   λb ys q=>by rw[zN (zL q nT)];exact q,λb o ys q=>by rw[zN (zL q nT)];exact q,λb ps q=>⟨#[],by rw[zN (zL q nT),q];simp⟩⟩
 have ok:eZ X.prog X.w (upd H s.heap.objs.size (.tup xs)) h₂:=λb o q=>by
  by_cases hb:b=s.heap.objs.size
  ·subst hb
   rw[zJ] at q
   cases q
   exact⟨hz,us,rv,⟨_,ht,rfl,_,rfl⟩⟩
  ·rw[zN hb] at q
   refine(I.hok b o q).stay (λc v hc' z=>?_) (λc z=>by rw[zN (zL z nT)];exact z) λc ys z=>by rw[zN (zL z nT)];exact z
   have hcs:∃o',H c=some o':=by
    rcases hc' with rfl|hc'
    ·exact⟨o,q⟩
    ·exact⟨_,hc'⟩
   obtain⟨o',ho'⟩:=hcs
   refine kk c v (λhm=>?_) z
   rw[(hf c hm).1] at ho'
   cases ho'
 exact I.call (h':=h₂) (g':=s.gens) (t':=t') (d':=s.drawn) (ch:=ch) U ok I.bare λb hb=>let⟨_,f1,_,f3,f4,f5⟩:=hf b hb;⟨f3,f1,f4,f5⟩
def Itz(K:Frag)(a b:Addr):It :=
 ⟨λi H=>∃c d x y,aN K H a c/\aN K H b d/\c[i]?=some x/\d[i]?=some y,
   λi H v e=>∃t x y,v=.ref t/\H t=none/\e=upd H t (.tup [x,y])/\(∀c,aN K H a c->c[i]?=some x)/\∀d,aN K H b d->d[i]?=some y,
   λi H=>∃c d,aN K H a c/\aN K H b d/\(c.length<=i\/d.length<=i)⟩
theorem zSj{P:Program}{w:World}{K:Frag}{elts:List Expr}{k:Nat}{tp:Pos}(l1 l2 z TI TO i1 i2:Addr)(D:ZipApart z TI TO i1 i2 l1 l2) :
  Turn P w K (.Tuple elts k tp) (Itz K l1 l2) [z,TI,TO,i1,i2] z (λi h=>IsZip h z TI TO .none/\IsPair h TI (.ref i1) (.ref i2)/\(∃a b,IsPair h TO a b)/\h.IsListIter i1 l1 i/\h.IsListIter i2 l2 i) where
 mem:=by simp
 obj:=λi h st b hb=>by
  obtain⟨hz,hTI,⟨a,b',hTO⟩,⟨o1,e1,c1,d1⟩,⟨o2,e2,c2,d2⟩⟩:=st
  have hb':b=z\/b=TI\/b=TO\/b=i1\/b=i2:=by simpa using hb
  rcases hb' with rfl|rfl|rfl|rfl|rfl
  ·exact⟨_,hz,λv q=>by have q':ae2 _=ae1 v:=q;cases q'⟩
  ·exact⟨_,hTI,λv q=>by have q':Data.seq _ _=ae1 v:=q;cases q'⟩
  ·exact⟨_,hTO,λv q=>by have q':Data.seq _ _=ae1 v:=q;cases q'⟩
  ·exact⟨o1,e1,λv q=>by rw[d1] at q;cases q⟩
  ·exact⟨o2,e2,λv q=>by rw[d2] at q;cases q⟩
 keep:=λi h h' st k=>by
  obtain⟨hz,hTI,⟨a,b',hTO⟩,h1,h2⟩:=st
  exact⟨k z (by simp) _ hz,k TI (by simp) _ hTI,⟨a,b',k TO (by simp) _ hTO⟩,h1.at λo q=>k i1 (by simp) o q,h2.at λo q=>k i2 (by simp) o q⟩
 item:=by
  intro X hP hw hK hc i pins s σ H E I hf st hg
  subst hP hw hK
  obtain⟨xs,ys,x,y,hq1,hq2,hx,hy⟩:=hg
  obtain⟨us,Nm,p1,z1⟩:=I.list hq1
  obtain⟨vs,Np,p2,z2⟩:=I.list hq2
  obtain⟨u,hu,ru⟩:=Nm.get hx
  obtain⟨v,hv,rv⟩:=Np.get hy
  obtain⟨hz,hTI,⟨a,b',hTO⟩,h1,h2⟩:=st
  refine wpAny_pyNext_zip_item D hz hTI hTO h1 h2 p1.isList p2.isList (x:=u) (y:=v) (by simpa using hu) (by simpa using hv) λh₁ a1 a2 a3 a4 a5 a6 a7=>?_
  refine⟨_,rfl,wpAny_letOwnedTupleGo_zip (s:={ s with heap:=h₁ }) a1 λh₂ b1 hs₂=>?_⟩
  replace hs₂:SameBut z h₁ h₂:=hs₂
  have nT:H s.heap.objs.size=none:=I.hok.fresh (aak _)
  have zlt:z<s.heap.objs.size:=lt_size hz
  have ht₂:h₂.get? s.heap.objs.size=some { cls:=.type "tuple",data:=.seq #[u,v] }:=(hs₂.2 _ (acu zlt)).trans a5
  have I2:=I.Cq (ch:=[z,TI,TO,i1,i2]) (h₂:=h₂) (t':=s.toks) (xs:=[x,y]) (us:=[u,v]) (λb o hb q=>by
   have e1:b≠z:=λe=>hb (by simp[e])
   exact(hs₂.2 b e1).trans (a7 b o e1 (λe=>hb (by simp[e])) (λe=>hb (by simp[e])) (λe=>hb (by simp[e])) q)) ht₂ (.cons ru (.cons rv .nil)) (by show 2<=sizeLine;decide) hf
  have kTI:h₂.get? TI=some { cls:=.type "tuple",data:=.seq #[.ref i1,.ref i2] }:=(hs₂.2 TI D.TIz).trans (a7 _ _ D.TIz D.TITO D.TIi1 D.TIi2 hTI)
  refine⟨.ref s.heap.objs.size,_,I2,rfl,⟨s.heap.objs.size,x,y,rfl,nT,rfl,λzs hz'=>by rw[I.fJ hz' hq1];exact hx,λzs hz'=>by rw[I.fJ hz' hq2];exact hy⟩,
   ⟨b1,kTI,⟨_,_,(hs₂.2 TO D.TOz).trans a2⟩,a3.extBut hs₂.extBut D.i1z,a4.extBut hs₂.extBut D.i2z⟩,λb hb=>?_⟩
  have hb0:=(hf b hb).1
  by_cases hbs:b=s.heap.objs.size
  ·exfalso
   have st':∀b∈[z,TI,TO,i1,i2],b<s.heap.objs.size:=λb hb=>by
    obtain⟨o1,e1,_⟩:=h1
    obtain⟨o2,e2,_⟩:=h2
    have hb':b=z\/b=TI\/b=TO\/b=i1\/b=i2:=by simpa using hb
    rcases hb' with rfl|rfl|rfl|rfl|rfl
    ·exact lt_size hz
    ·exact lt_size hTI
    ·exact lt_size hTO
    ·exact lt_size e1
    ·exact lt_size e2
   exact absurd (st' b hb) (by rw[hbs];exact aa9 _)
  ·rw[zN hbs];exact hb0
 done:=by
  intro X hP hw hK hc i pins s σ H E I hf st hg
  subst hP hw hK
  obtain⟨xs,ys,hq1,hq2,hx⟩:=hg
  obtain⟨us,Nm,p1,z1⟩:=I.list hq1
  obtain⟨vs,Np,p2,z2⟩:=I.list hq2
  have l1:=Nm.length
  have l2:=Np.length
  obtain⟨hz,hTI,⟨a,b',hTO⟩,h1,h2⟩:=st
  refine wpAny_pyNext_zip_end (I.ok.hd hc) D hz hTI hTO h1 h2 p1.isList p2.isList (by
   rcases hx with hx|hx
   ·left;simp;omega
   ·right;simp;omega) λh' hk=>⟨rfl,?_⟩
  have kk:∀b o,b∉[z,TI,TO,i1,i2]->s.heap.get? b=some o->h'.get? b=some o:=λb o hb q=>hk b o (λe=>hb (by simp[e])) (λe=>hb (by simp[e])) (λe=>hb (by simp[e])) (λe=>hb (by simp[e])) q
  refine I.call (h':=h') (g':=s.gens) (t':=s.toks) (d':=s.drawn) (ch:=[z,TI,TO,i1,i2]) ⟨λb o q _ _ hx=>kk b o hx q,λb o q _ _ hx=>⟨o.slots,kk b o hx q⟩,λ_ _ _ n _=>n,λb o q hx=>⟨o,kk b o hx q⟩,λ_ _ q=>q,λ_ _ _ q=>q,λ_ ps q=>⟨#[],by rw[q];simp⟩⟩ (λb o q=>?_) I.bare λb hb=>let⟨_,f1,_,f3,f4,f5⟩:=hf b hb;⟨f3,f1,f4,f5⟩
  refine(I.hok b o q).stay (λc v hc' zz=>?_) (λ_ q=>q) λ_ _ q=>q
  have hcs:∃o',H c=some o':=by
   rcases hc' with rfl|hc'
   ·exact⟨o,q⟩
   ·exact⟨_,hc'⟩
  obtain⟨o',ho'⟩:=hcs
  exact kk c v (λhm=>by rw[(hf c hm).1] at ho';cases ho') zz
 self:=λ_ _ _ _ _ st h=>wpAny_pyIter_zip st.1 h
def JW(K:Frag)(e:TA):TI:=λσ H R=>e σ H λd c=>∃a b,d=[.ref a,.ref b]/\(∃g,aN K c a g)/\(∃f,aN K c b f)/\R (Itz K a b) c
theorem rW:bootBuiltins "zip" = some (.type "zip"):=by decide +kernel
theorem JX(Q:Gl X "zip")(S:X.mg "zip" = none)(L:PA X [a,b] U)(hs:starEach [a,b] X.env=[(false,eval a X.env),(false,eval b X.env)]:=by rfl)(x:starEach [b] X.env=[(false,eval b X.env)]:=by rfl) :
  PI X (.Tuple elts k tp) (.Call (.Name "zip" p) [a,b] [] pos) (JW X.K U):=by
 intro d s σ H R I h
 refine Call_ (tX I Q S rW (aa5 (aO (L pos d s σ H _ I h) ?_) (by grind) (by rw[x];rfl)))
 rintro G c ⟨O,B,f,F,T⟩
 obtain⟨C,y,e,⟨xs,i⟩,⟨ys,r⟩,q⟩:=T
 subst e
 obtain⟨u,v,rfl,E,P⟩:=F.two
 cases E
 cases P
 obtain⟨G,_,z,_⟩:=f.list i
 obtain⟨O,_,D,_⟩:=f.list r
 have n:C<c.heap.objs.size:=by obtain⟨o,_,e,_⟩:=z;exact lt_size e
 have l:y<c.heap.objs.size:=by obtain⟨o,_,e,_⟩:=D;exact lt_size e
 refine call_zip_2 z.isList D.isList λJ A w t m j hsz M=>wpAny_pyIter_zip A ?_
 have N:Inv X d σ B { c with heap:=J,toks:=c.toks }:=f.kept M
 refine⟨c.heap.objs.size+4,[c.heap.objs.size+4,c.heap.objs.size+2,c.heap.objs.size+3,c.heap.objs.size,c.heap.objs.size+1],_,_,B,rfl,N,zSj C y _ _ _ _ _ (zipApart_new n l),⟨A,w,⟨_,_,t⟩,m,j⟩,λb hb=>?_,q⟩
 have g:c.heap.objs.size<=b:=by
  grind
 exact f.jw g (f.hok.fresh g)
def XQ(K:Frag)(a:Addr)(n:Nat):It :=
 ⟨λi H=>i<n/\∃b x,aN K H a b/\b[n-1-i]?=some x,λi H x c=>c=H/\∀b,aN K H a b->b[n-1-i]?=some x,λi _=>i=n⟩
theorem zSk{P:Program}{w:World}{K:Frag}{R:Expr}(a g:Addr)(n:Nat):Turn P w K R (XQ K a n) [g] g (λi h=>h.IsRevIter g a ((n:Int)-1-(i:Nat))) where
 mem:=by simp
 obj:=λi h st b l=>by
  have e:b=g:=by simpa using l
  subst e
  obtain⟨o,e,c,d⟩:=st
  exact⟨o,e,λv z=>by rw[d] at z;cases z⟩
 keep:=λi h m st k=>st.at λo e=>k g (by simp) o e
 item:=by
  intro X t F B N i f s σ H E I q st G
  subst t F B
  obtain⟨M,xs,x,L,J⟩:=G
  obtain⟨its,Q,p,hz⟩:=I.list L
  obtain⟨u,Z,O⟩:=Q.get J
  obtain⟨y,D,S,A,r,C⟩:=q g (by simp)
  have e:(n:Int)-1-(i:Nat)=((n-1-i:Nat):Int):=by omega
  rw[e] at st
  refine wpAny_pyNext_rev_item st p.isList (x:=u) (by simpa using Z) λm j sb=>?_
  have T:Inv X f σ H { s with heap:=m }:=I.turned (t':=s.toks) (λb o l e=>(sb.2 b l).trans e) y D A r C
  have e2:((n-1-i:Nat):Int)-1=(n:Int)-1-((i+1:Nat):Int):=by omega
  rw[e2] at j
  obtain⟨o,e,c,d⟩:=id j
  exact⟨u,rfl,Mq (s:={ s with heap:=m }) e c d (by decide) ⟨x,H,T,O,⟨rfl,λys Y=>by rw[I.fJ Y L];exact J⟩,j,λb l=>(q b l).1⟩⟩
 done:=by
  intro X t F B N i f s σ H E I q st G
  subst t F B
  have M:i=n:=G
  subst M
  obtain⟨y,D,S,A,r,C⟩:=q g (by simp)
  have e:(i:Int)-1-(i:Nat)=-1:=by omega
  rw[e] at st
  exact wpAny_pyNext_rev_end (I.ok.hd N) st λm U=>⟨rfl,I.turned (t':=s.toks) (λb o l e=>U b o l e) y D A r C⟩
 self:=λ_ _ _ _ _ st h=>wpAny_pyIter_revIter st h
def Cr(K:Frag)(e:TA):TI:=λσ H R=>e σ H λd c=>∃a b,d=[.ref a]/\aN K c a b/\R (XQ K a b.length) c
theorem kj:bootBuiltins "reversed" = some (.type "reversed"):=by decide +kernel
theorem JZ(B:Gl X "reversed")(w:X.mg "reversed" = none)(v:PA X [a] n)(r:starEach [a] X.env=[(false,eval a X.env)]:=by rfl):PI X tg (.Call (.Name "reversed" p) [a] [] pos) (Cr X.K n):=by
 intro f s σ H R I h
 refine Call_ (tX I B w kj (aa5 (aO (v pos f s σ H _ I h) ?_) r rfl))
 rintro us c ⟨vs,j,g,y,A⟩
 obtain⟨l,i,e,t,q⟩:=A
 subst e
 obtain⟨u,rfl,z⟩:=y.one
 cases z
 obtain⟨d,x,p,hz⟩:=g.list t
 have hl:=x.length
 refine call_reversed_list p.isList ?_
 have m:Inv X f σ j { c with heap:=c.heap.push (revObj l ((d.toArray.size:Int)-1)),toks:=c.toks }:=g.kept λb o e=>get?_push_of_some _ e
 have k:(c.heap.push (revObj l ((d.toArray.size:Int)-1))).IsRevIter c.heap.objs.size l ((i.length:Int)-1-((0:Nat):Int)):=by
  refine⟨_,get?_push_size _ rfl,rfl,?_⟩
  show ae2 #[.ref l,rawInt ((d.toArray.size:Int)-1)]=_
  grind
 refine wpAny_pyIter_revIter (s:={ c with heap:=c.heap.push (revObj l ((d.toArray.size:Int)-1)) }) k ?_
 refine⟨c.heap.objs.size,[c.heap.objs.size],_,_,j,rfl,m,zSk l _ i.length,k,λb hb=>?_,q⟩
 have e:b=c.heap.objs.size:=by grind
 subst e
 exact g.jw (aak _) (g.hok.fresh (aak _))
theorem zUy{n:Nat}{ix:List Nat}{g:TG}{h:TT}{te:TE}{σ:St}{Q:VK}{H:Hp}{K:Frag}{a:Addr}{xs:List V}(c:Nat->List V->St->Hp->Prop)(h0:c 0 [] (gG σ n ix) H)(u:∀i ys σ H,i<=xs.length->c i ys σ H->aN K H a xs/\ys.length<=i)(hz:xs.length<sizeLine)(hs:∀i x ys σ H,xs[xs.length-1-i]?=some x->i<xs.length->c i ys σ H->g x σ H λf s=>h f s λb j=>if b=true then te f j λy r=>c (i+1) (ys++[y]) f r else c (i+1) ys f j)(o:∀ys σ H,c xs.length ys σ H->∀p,H p=none->Q (.ref p) (upd H p (.lst ys))):Mx n ix g h te σ Q (XQ K a xs.length) H:=by
 refine⟨λi m ys σ H=>m=xs.length-i/\i<=xs.length/\c i ys σ H,⟨xs.length,by simp,aa0 _,h0⟩,?_⟩
 rintro i m ys σ H ⟨rfl,t,p⟩
 obtain⟨q,hy⟩:=u i ys σ H t p
 by_cases d:i<xs.length
 ·refine .inr ⟨⟨d,xs,xs[xs.length-1-i]'(by omega),q,aaj (by omega)⟩,by omega,c (i+1),λys' σ' l k=>⟨xs.length-(i+1),by omega,rfl,d,k⟩,λx l y=>?_⟩
  obtain⟨e,y⟩:=y
  grind
 ·have e:i=xs.length:=by omega
  subst e
  exact .inl ⟨rfl,by omega,o ys σ H p⟩
structure oR(K:Frag)(C:Addr)(m:Str)(f:Addr):Prop where
 sp:specialIn K (.ref C) "__getattribute__" = some (some (.builtin "type.__getattribute__"))
 rd:PySem.W.readsIn K C (.type "type")=true
 at_:PySem.W.findCls K (.ref C) (.type "type") m=some (.val (.ref f))
 kp:keepIn K (.ref f)=true
section
variable{X:Cx}{CX:tL}{k:Nat}{f C:Addr}{fd:FuncData}{ps:List Str}{sp:Sp}{nO:List V}{ds:List Value}{E:XK}{x m:Str}{p pos apos:Pos}{e o:Expr}{es:List Expr}{ta:TE}{t:TA}
theorem uL(D:Gl X x)(v:X.mg x=some (.ref C))(c:oR X.K C m f)(F:aq X.prog X.w X.K X.mg X.base CX k f fd ps sp)(hr:bI k X.A)(B:Binds X.K fd ps ds)(hd:Vals nO ds)(y:Al CX X E)(n:PA X (e::es) t)(d:(x==("__debug__":Str))=false:=by decide)(i:starEach (e::es) X.env=(false,eval e X.env)::starEach es X.env:=by rfl)(g:(backTo pos (starEach es X.env)).any (·.1)=false:=by rfl)(z:eval (.Call (.Attribute (.Name x p) m apos) (e::es) [] pos) X.env=(do
   let j <-eval (.Name x p) X.env
   standAt apos.atName
   let(f,first) <-holding [j] (getMethod j m pl)
   callWith pos f first (backTo pos (starEach (e::es) X.env)) (backToKw pos (keywordEach [] X.env))):=by rfl) :
  PE X (.Call (.Attribute (.Name x p) m apos) (e::es) [] pos) (rH sp nO E t):=by
 intro b s σ H Q I h
 refine ady (Oi I D v ?_ d) z
 refine PySem.W.method_cls I.iJ c.sp (PySem.W.cls_value I.iJ c.rd c.at_ rfl ?_)
 have u:=I.tok (s.toks+1)
 refine aed I.ok.mod.Mg c.kp (aO (n pos b _ σ H _ u h) λus s1 ⟨vs,H1,l,r,q⟩=>⟨l.iJ,?_⟩) i g
 exact TQ F hr B hd y l r q
end
theorem Cu{X:Cx}{K:Frag}(h:X.K=K):Pk X (Iv K):=by
 subst h
 exact Z9
theorem rY{x y:V}{A B:Prop}(h:x=y)(a:A):if decide (x=y)=true then A else B:=by
 grind
theorem bR{x y:V}{A B:Prop}(h:¬x=y)(b:B):if decide (x=y)=true then A else B:=by
 grind
end L2
namespace Sy
open PySem L2
inductive Tr where
 |all
 |mark (x:Str)
 |one (i:Fin 7) (t:Tr)
 |two (i:Fin 4) (l r:Tr)
def w1(i:Fin 7):Str:=(["not","somenext","eachnext","somealways","eachalways","someever","eachever"]:List Str).getD i.val ada
def w2(i:Fin 4):Str:=(["both","either","sometill","eachtill"]:List Str).getD i.val ada
def Tr.depth:Tr->Nat
 |.all=>0
 |.mark _=>0
 |.one _ t=>t.depth+1
 |.two _ l r=>max l.depth r.depth+1
def Kp(p:Addr)(H H':Hp):Prop:=∀b o,b≠p->H b=some o->H' b=some o
theorem Kp.of(s:Same H H'):Kp p H H':=λb o _ e=>s b o e
theorem Kp.trans(a:Kp p H d)(b:Kp p d f):Kp p H f:=λc o n e=>b c o n (a c o n e)
theorem Kp.put(p:Addr)(H:Hp)(o:HO):Kp p H (upd H p o):=λb u n e=>by rw[zN n];exact e
theorem au(h:H p=none)(o:HO):Same H (upd H p o):=λb u q=>by rw[zN (zL q h)];exact q
theorem U9(h:aN K H b xs)(n:b≠a)(k:Kp a H H'):aN K H' b xs:=by
 rcases h with(h|⟨c,h⟩)|h
 ·exact .inl (.inl (k _ _ n h))
 ·exact .inl (.inr ⟨c,k _ _ n h⟩)
 ·exact .inr h
def tQ(w:V)(q:Addr):List (Str×V):=aH "parts" (.ref q) (aH "word" w [])
def rZ(w v:V)(q:Addr):List (Str×V):=aH "part" v (tQ w q)
def su(w v u:V)(q:Addr):List (Str×V):=aH "right" u (aH "left" v (tQ w q))
def Nq(x:V)(q:Addr):List (Str×V):=aH "name" x (tQ x q)
theorem bN(f:Str)(v:V):∀fs:List (Str×V),(aH f v fs).length<=fs.length+1
 |[]=>aak _
 | (g,x)::r=>by
  unfold aH
  split
  ·exact abw _
  ·exact abq (bN f v r)
theorem U_(w:V)(q:Addr):(tQ w q).length<=2:=by
 have a1:=bN "parts" (V.ref q) (aH "word" w [])
 have a2:=bN "word" w []
 have a3:([]:List (Str×V)).length=0:=rfl
 show(aH "parts" (V.ref q) (aH "word" w [])).length<=2
 omega
structure fj(K:Frag)(C:Addr):Prop where
 cl:Cls K C
 nW:aY K C "word"
 nP:aY K C "parts"
 n1:aY K C "part"
 nL:aY K C "left"
 nR:aY K C "right"
 nN:aY K C "name"
inductive Hd where
 |all
 |mark
 |one (i:Fin 7)
 |two (i:Fin 4)
def spS(K:Frag):Sp:=λc H Q _=>∃(p C b:Addr)(x y:V),c=[.ref p,x,y]/\H p=some (.ins C b [])/\fj K C/\∀a:Hp,Kp p H a->a p=some (.ins C b (aH "parts" y (aH "word" x [])))->Q .non a
def pH(K:Frag):Sp:=λc H Q _=>∃(p C b:Addr)(x v:V),c=[.ref p,x,v]/\H p=some (.ins C b [])/\fj K C/\∀(q:Addr)(a:Hp),Kp p H a->H q=none->a q=some (.tup [v])->a p=some (.ins C b (rZ x v q))->Q .non a
def vh(K:Frag):Sp:=λc H Q _=>∃(p C b:Addr)(x v u:V),c=[.ref p,x,v,u]/\H p=some (.ins C b [])/\fj K C/\∀(q:Addr)(a:Hp),Kp p H a->H q=none->a q=some (.tup [v,u])->a p=some (.ins C b (su x v u q))->Q .non a
def QL(C:Addr):Sp:=λc H Q _=>∃(p b:Addr),c=[.ref p]/\H p=some (.ins C b [])/\∀(q:Addr)(a:Hp),Kp p H a->H q=none->a q=some (.tup [])->a p=some (.ins C b (tQ (.str "all") q))->Q .non a
def QM(C:Addr):Sp:=λc H Q _=>∃(p b:Addr)(x:V),c=[.ref p,x]/\H p=some (.ins C b [])/\∀(q:Addr)(a:Hp),Kp p H a->H q=none->a q=some (.tup [])->a p=some (.ins C b (Nq x q))->Q .non a
def n6(C:Addr)(w:Str):Sp:=λc H Q _=>∃(p b:Addr)(v:V),c=[.ref p,v]/\H p=some (.ins C b [])/\∀(q:Addr)(a:Hp),Kp p H a->H q=none->a q=some (.tup [v])->a p=some (.ins C b (rZ (.str w) v q))->Q .non a
def sy(C:Addr)(w:Str):Sp:=λc H Q _=>∃(p b:Addr)(v u:V),c=[.ref p,v,u]/\H p=some (.ins C b [])/\∀(q:Addr)(a:Hp),Kp p H a->H q=none->a q=some (.tup [v,u])->a p=some (.ins C b (su (.str w) v u q))->Q .non a
inductive aR(cl:Hd->Addr)(H:Hp):Addr->Tr->Prop where
 |all {p q dx:Addr}:H p=some (.ins (cl .all) dx (tQ (.str "all") q))->H q=some (.tup [])->aR cl H p .all
 |mark {p q dx:Addr} {x:Str}:H p=some (.ins (cl .mark) dx (Nq (.str x) q))->H q=some (.tup [])->aR cl H p (.mark x)
 |one {p q dx c:Addr} {i:Fin 7} {t:Tr}:H p=some (.ins (cl (.one i)) dx (rZ (.str (w1 i)) (.ref c) q))->H q=some (.tup [.ref c])->aR cl H c t->aR cl H p (.one i t)
 |two {p q dx c d:Addr} {i:Fin 4} {l r:Tr}:H p=some (.ins (cl (.two i)) dx (su (.str (w2 i)) (.ref c) (.ref d) q))->H q=some (.tup [.ref c,.ref d])->aR cl H c l->aR cl H d r->aR cl H p (.two i l r)
theorem aR.same(h:aR cl H p t)(s:Same H H'):aR cl H' p t:=by
 induction h with
 |all a b=>exact .all (s _ _ a) (s _ _ b)
 |mark a b=>exact .mark (s _ _ a) (s _ _ b)
 |one a b _ ih=>exact .one (s _ _ a) (s _ _ b) ih
 |two a b _ _ d c=>exact .two (s _ _ a) (s _ _ b) d c
def hd:Tr->Hd
 |.all=>.all
 |.mark _=>.mark
 |.one i _=>.one i
 |.two i _ _=>.two i
def hw:Tr->Str
 |.all=>"all"
 |.mark x=>x
 |.one i _=>w1 i
 |.two i _ _=>w2 i
def iH:Tr->List Tr
 |.all=>[]
 |.mark _=>[]
 |.one _ t=>[t]
 |.two _ l r=>[l,r]
theorem kw1:¬(("word":Str) = "parts"):=by decide +kernel
theorem kw2:¬(("word":Str) = "part"):=by decide +kernel
theorem kw3:¬(("word":Str) = "left"):=by decide +kernel
theorem kw4:¬(("word":Str) = "right"):=by decide +kernel
theorem kw5:¬(("word":Str) = "name"):=by decide +kernel
theorem kp2:¬(("parts":Str) = "part"):=by decide +kernel
theorem kp3:¬(("parts":Str) = "left"):=by decide +kernel
theorem kp4:¬(("parts":Str) = "right"):=by decide +kernel
theorem kp5:¬(("parts":Str) = "name"):=by decide +kernel
theorem Va(w:V)(q:Addr):(tQ w q).lookup ("word":Str)=some w:=by unfold tQ;rw[zM,if_neg kw1,zM,if_pos rfl]
theorem Vb(w:V)(q:Addr):(tQ w q).lookup ("parts":Str)=some (.ref q):=by unfold tQ;rw[zM,if_pos rfl]
theorem Vc(w:V)(q:Addr){m:Str}(a:¬m = "parts")(h2:¬m = "word"):(tQ w q).lookup m=none:=by
 unfold tQ
 rw[zM,if_neg a,zM,if_neg h2]
 rfl
theorem aR.look(h:aR cl H p t):∃(l q:Addr)(fs:List (Str×V))(j:List Addr),H p=some (.ins (cl (hd t)) l fs)/\fs.lookup ("word":Str)=some (.str (hw t))/\fs.lookup ("parts":Str)=some (.ref q) /\
  (∀m:Str,¬m = "word"->¬m = "parts"->¬m = "part"->¬m = "left"->¬m = "right"->¬m = "name"->fs.lookup m=none)/\H q=some (.tup (j.map V.ref))/\Paired (aR cl H) j (iH t):=by
 cases h with
 |all e g=>exact⟨_,_,_,[],e,Va _ _,Vb _ _,λm a b _ _ _ _=>Vc _ _ b a,g,.nil⟩
 |mark e g =>
  refine⟨_,_,_,[],e,?_,?_,λm a b _ _ _ f=>?_,g,.nil⟩
  ·unfold Nq;rw[zM,if_neg kw5];exact Va _ _
  ·unfold Nq;rw[zM,if_neg kp5];exact Vb _ _
  ·unfold Nq;rw[zM,if_neg f];exact Vc _ _ b a
 |one e g i =>
  refine⟨_,_,_,[_],e,?_,?_,λm a b c _ _ _=>?_,g,.cons i .nil⟩
  ·unfold rZ;rw[zM,if_neg kw2];exact Va _ _
  ·unfold rZ;rw[zM,if_neg kp2];exact Vb _ _
  ·unfold rZ;rw[zM,if_neg c];exact Vc _ _ b a
 |two e g i k =>
  refine⟨_,_,_,[_,_],e,?_,?_,λm a b _ c d _=>?_,g,.cons i (.cons k .nil)⟩
  ·unfold su;rw[zM,if_neg kw4,zM,if_neg kw3];exact Va _ _
  ·unfold su;rw[zM,if_neg kp4,zM,if_neg kp3];exact Vb _ _
  ·unfold su;rw[zM,if_neg d,zM,if_neg c];exact Vc _ _ b a
theorem zIt(h:u∈iH t):u.depth<t.depth:=by
 cases t with
 |all=>cases h
 |mark x=>cases h
 |one i t=>simp[iH] at h;subst h;exact abp _
 |two i l r =>
  simp[iH] at h
  rcases h with rfl|rfl
  ·show _<max _ _+1;omega
  ·show _<max _ _+1;omega
def n1(i:Fin 7):Str:=(["Not","SomeNext","EachNext","SomeAlways","EachAlways","SomeEver","EachEver"]:List Str).getD i.val ada
def n2(i:Fin 4):Str:=(["Both","Either","SomeTill","EachTill"]:List Str).getD i.val ada
structure XR(P:Program)(w:World)(K:Frag)(mg:Str->Option Value)(base:Heap)(k:Nat)(cl fi:Hd->Addr)(di:Hd->FuncData):Prop where
 made:∀h,Mk K (cl h) (fi h)
 iA:aq P w K mg base aP k (fi .all) (di .all) ["self"] (QL (cl .all))
 bA:Binds K (di .all) ["self"] []
 iM:aq P w K mg base aP k (fi .mark) (di .mark) ["self","name"] (QM (cl .mark))
 bM:Binds K (di .mark) ["self","name"] []
 i1:∀i,aq P w K mg base aP k (fi (.one i)) (di (.one i)) ["self","part"] (n6 (cl (.one i)) (w1 i))
 b1:∀i,Binds K (di (.one i)) ["self","part"] []
 i2:∀i,aq P w K mg base aP k (fi (.two i)) (di (.two i)) ["self","left","right"] (sy (cl (.two i)) (w2 i))
 b2:∀i,Binds K (di (.two i)) ["self","left","right"] []
 mA:mg "All" = some (.ref (cl .all))
 mM:mg "Mark" = some (.ref (cl .mark))
 m1:∀i,mg (n1 i)=some (.ref (cl (.one i)))
 m2:∀i,mg (n2 i)=some (.ref (cl (.two i)))
theorem QS(d:H x=none)(c:H a=none):Same H (upd (upd H a (.own x)) x (.ins C a [])):=λb o e=>by
 rw[zN (zL e d),zN (zL e c)]
 exact e
theorem J0(a:H x=none)(d:H c=none)(k:Kp x (upd (upd H c (.own x)) x (.ins C c [])) H'):Same H H':=λb o e=>k b o (zL e a) (QS a d b o e)
end Sy
namespace Ts
open PySem L2 Sy
structure eV(cl:Hd->Addr) where
 t:Tr
def iw:Hd->Tr->Bool
 |.all,.all=>true
 |.mark,.mark _=>true
 |.one i,.one j _=>decide (j=i)
 |.two i,.two j _ _=>decide (j=i)
 |_,_=>false
def eV.parts(x:eV cl):List (eV cl):=(iH x.t).map eV.mk
noncomputable def eV.name(x:eV cl):Option Str:=match x.t with
 |.mark s=>some s
 |_=>none
structure pI(P:Program)(w:World)(K:Frag)(mg:Str->Option Value)(base:Heap)(k:Nat)(cl fi:Hd->Addr)(di:Hd->FuncData):Prop where
 ini:XR P w K mg base k cl fi di
 kd:∀h,fj K (cl h)
 nU:∀h h':Hd,∀t:Tr,hd t=h->kitOne K (.ref (cl h)) (.ref (cl h'))=some (iw h' t)
 c1:∀h,findIn K (.ref (cl h)) "__class__" = some (some (.builtin "object.__class__"))
 c2:specialIn K (.builtin "object.__class__") "__get__" = some (some (.builtin "getset_descriptor.__get__"))
 c3:takesIn K (.builtin "object.__class__")=some true
 c4:∀h,mroIn K (cl h) (.type "object")=some true
section
variable{K:Frag}{cl:Hd->Addr}
instance:Rp K (eV cl):=⟨λF v x=>∃p,v=.ref p/\aR cl F p x.t,λs ⟨p,h1,h2⟩=>⟨p,h1,h2.same s⟩⟩
end
section
variable{P:Program}{w:World}{K:Frag}{mg:Str->Option Value}{base:Heap}{B:Bs}{sl:SL K}{md:Md}{te t1 t2:TE}{cl fi:Hd->Addr}{di:Hd->FuncData}{k:Nat}
theorem wH(I:pI P w K mg base k cl fi di)(b:Hd){m:Option (eV cl)}(h:Ex B sl .hp te m):Ex B sl md (rJ (Bb K (.ref (cl b))) (yK te (yK (tC (.ref (cl b))) aU))) (m.bind λa=>some (iw b a.t)):=λc d F O H σ Q s e=>by
 cases m with
 |none=>cases d
 |some a =>
  cases d
  refine h a rfl F O H σ _ s λv l f g j=>?_
  obtain⟨p,rfl,i⟩:=j
  obtain⟨dx,q,fs,cs,n,_⟩:=i.look
  exact⟨.ref p,.ref (cl b),_,_,rfl,rfl,.ins n (I.kd (hd a.t)).cl (I.c1 _) I.c2 I.c3 (I.c4 _),I.nU (hd a.t) b a.t rfl,e _ l f g rfl⟩
theorem zOd(I:pI P w K mg base k cl fi di){m:Option (eV cl)}(h:Ex B sl .hp te m):Ex B sl md (nJ K te "name") (m.bind λa=>a.name):=λc b F O H σ Q s d=>by
 cases m with
 |none=>cases b
 |some a =>
  obtain⟨t⟩:=a
  cases t with
  |mark x =>
   cases b
   refine h _ rfl F O H σ _ s λv i l g f=>?_
   obtain⟨p,rfl,e⟩:=f
   cases e with
   |mark j e2=>exact⟨p,_,_,_,_,rfl,j,(I.kd .mark).cl,(I.kd .mark).nN,by unfold Nq;rw[zM,if_pos rfl],d _ i l g rfl⟩
  |_=>cases b
theorem GD:∀{a:List Addr}{ts:List Tr},Paired (aR cl F) a ts->A2 (rp K F) (a.map V.ref) (ts.map (eV.mk (cl:=cl)))
 |_,_,.nil=>trivial
 |_,_,.cons h r=>⟨⟨_,rfl,h⟩,GD r⟩
theorem zUs{n:Bool}(I:pI P w K mg base k cl fi di){mi:Option (eV cl)}(h:Ex B sl (cJ n) te mi):Ei B sl n (Ad K (nJ K te "parts")) (mi.bind λa=>some a.parts):=λxs b F O H σ R a t=>by
 cases mi with
 |none=>cases b
 |some y =>
  cases b
  refine h y rfl F O H σ _ a λv l j c r=>?_
  obtain⟨p,rfl,A⟩:=r
  obtain⟨L,q,N,o,S,l2,E,l4,f,D⟩:=A.look
  have s:A2 (rp K (reg B l j (cJ n))) (o.map V.ref) y.parts:=GD D
  have u:=rP c.ok n p _ S
  refine⟨p,_,L,N,.ref q,rfl,u,(I.kd _).cl,(I.kd _).nP,E,q,rfl,⟨_,bT.of (rP c.ok n q _ f)⟩,t _ l j c λi Q O2 M m g=>?_⟩
  have d:bT K M q (o.map V.ref):=bT.of (g.fh _ _ (m _ _ (by cases n with|true=>exact aK _ _ f|false=>exact f)))
  refine⟨λG=>⟨_,d,by rw[s.len];exact G⟩,λx b=>?_⟩
  obtain⟨w,hw,C⟩:=s.at2 b
  refine⟨⟨_,w,d,hw⟩,λv H3 z=>?_⟩
  obtain⟨e,J⟩:=z
  subst e
  have:=(hw.symm.trans (J _ d))
  cases this
  exact⟨Q,.refl g,Rp.mono (yI n m) C⟩
end
theorem zV3(K:Frag)(b:PE X l a)(h:X.K=K:=by rfl):PI X tg l (Ad K a):=by subst h;exact Zv b
section
variable{K:Frag}{B:Bs}{sl:SL K}{md:Md}{te:TE}{α:Type}[Rp K α]
noncomputable def sE{α:Type}(xs ys:List α):Option (List α):=if xs.length+ys.length<cap then some (xs++ys) else none
theorem zNg{n:Bool}{xs:List α}{m:Option (List α)}(i:Nat)(t:sl[i]?=some (.ow n xs))(w:sl.all (λs=>!bU s)=true)(h:Ex B sl (cJ n) te m) :
  Sn B sl (tY (Ay K "list" T4 (aZ i) (yK te aU))) (λys=>sl.set i (.ow n ys)) (m.bind λa=>sE xs a):=λys u G D σ H s k=>by
 cases m with
 |none=>cases u
 |some a =>
  have b:sE xs a=some ys:=u
  unfold sE at b
  split at b
  case isFalse=>cases b
  rename_i E
  cases b
  obtain⟨F,O,g,z⟩:=s
  obtain⟨p,vs,x,L,h3,_⟩:=z.chg t w
  refine⟨_,x,.inl ⟨rfl,_,aN.of L⟩,?_⟩
  refine h a rfl F O H σ _ z λv M H' l r=>?_
  obtain⟨p',j,o,d,c,f⟩:=(z.grow l).chg t w
  have e:=x.symm.trans o
  cases e
  obtain⟨q,A,rfl,I,y⟩:=r
  obtain⟨C,J⟩:=f (j++A) (xs++a) (c.app y)
  exact⟨p,q,_,_,rfl,rfl,d,rP l.ok n q _ I,by rw[c.len,y.len];exact ab3 (rQ E),k _ _ ⟨M,C,g.trans l.ff,J⟩⟩
end
inductive GF where
 |none
 |step (n:Int)
 |shut
 |walk (xs:LI)
 |out
 |loop (xs ys:LI)
 |rank (n:Int) (o:Option Int)
 |here
 |dead
 |plain
def GF.word:GF->Str
 |.none=>"none"
 |.step _=>"step"
 |.shut=>"shut"
 |.walk _=>"walk"
 |.out=>"out"
 |.loop _ _=>"loop"
 |.rank _ _=>"rank"
 |.here=>"here"
 |.dead=>"dead"
 |.plain=>"plain"
def GF.len:GF->Int
 |.step _=>2
 |.walk _=>2
 |.loop _ _=>3
 |.rank _ _=>3
 |_=>1
def GF.at1:GF->Option Int
 |.step n=>some n
 |.rank n _=>some n
 |_=>ae3
section
variable{K:Frag}
def GF.rest(K:Frag)(F:Hp):GF->List V->Prop
 |.step n,c=>c=[.int n]
 |.walk d,c=>∃a,c=[a]/\rp K F a d
 |.loop d e,c=>∃a b,c=[a,b]/\rp K F a d/\rp K F b e
 |.rank n o,c=>∃b,c=[.int n,b]/\rp K F b o
 |_,c=>c=[]
end
open PySem L2
section
variable{K:Frag}{B:Bs}{sl:SL K}{F H H' L L':Hp}{O:Own}{σ:St}{α:Type}[Rp K α]
abbrev i_:Slot K->Bool
 |@Slot.nu _ _ _ _=>true
 |_=>false
theorem ak.QT(h:ak B F L H sl σ O)(a:sl.all (λs=>!bU s&&!i_ s)=true):ak B F L' H' sl σ O:=by
 induction h with
 |nil=>exact .nil
 |un _ ih=>exact .un (ih (by grind))
 |fz r _ ih=>exact .fz (Rp.mono (yI _ (.refl _)) r) (ih (by grind))
 |hs r _ ih=>grind
 |nu r _ ih=>grind
 |ow r _ ih=>exact .ow (r.imp λ_ _=>Rp.mono (yI _ (.refl _))) (ih (by grind))
 |od r _ ih=>exact .od r (ih (by rw[all_cons,aaz] at a;exact a.2))
 |ob r _ ih=>exact .ob (Ob.mono (yI _ (.refl _)) r) (ih (by rw[all_cons,aaz] at a;exact a.2))
end
theorem QV{β:Type}[Rp K β]{m:Option β}(sl2:SL K)(h:SB B sl2 t al m)(e:a=sl2:=by rfl):SB B a t al m:=e▸h
def del(H:Hp)(p:Addr):Hp:=λb=>if b=p then none else H b
def Cv(K:Frag){A β:Type}[Rp K β](as:A->SL K)(f:LI->A->Option (β×LI)):Sp:=λi H Q _ =>
 ∃(p:Addr)(g:LI)(h:List V)(a:A)(b:β)(c:LI)(e:Hp),i=.ref p::h/\H p=some (.lst (g.map V.int))/\e p=none/\Same e H/\f g a=some (b,c)/\Ar e (as a) h /\
  ∀v d,Same (del H p) d->d p=some (.lst (c.map V.int))->rp K (dif d H) v b->Q v d
section
variable{K:Frag}{B:Bs}{sl:SL K}{md:Md}{β:Type}[Rp K β]
noncomputable def Ey(B:Bs)(sl:SL K)(md:Md)(t:TE){α S:Type}[Rp K α](L:S->SL K)(m:Option (α×S)):Prop :=
 ∀a s,m=some (a,s)->∀(F:Hp)(O:Own)(H:Hp)(σ:St)(Q:VK),At B sl F O H σ->(∀(v:V)(c:Hp)(d:Own)(b:Hp),Same F c->At B (L s) c d b σ->rp K (reg B c b md) v a->Q v b)->t σ H Q
theorem zUj{A:Type}{as:A->SL K}{f:LI->A->Option (β×LI)}{I:Option A}(i:Nat)(D:sl[i]?=some (.ow n ws))(U:sl.all (λs=>!bU s)=true)(h:Ea B sl .fz Z as I) :
  Ey B sl md (rH (Cv K as f) [] E0 (yK (aZ i) Z)) (λg=>sl.set i (.ow n g)) (I.bind λa=>f ws a):=λb g u F O H σ Q z k=>by
 cases I with
 |none=>cases u
 |some a =>
  have u:f ws a=some (b,g):=u
  obtain⟨p,vs,N,h2,h3,_⟩:=z.chg D U
  refine⟨_,N,?_⟩
  refine h a rfl F O H σ _ z λS t l L r=>?_
  have E:=z.grow L
  obtain⟨p',J,x,j,M,y⟩:=E.chg D U
  cases N.symm.trans x
  obtain⟨O1,O2,p2,vs2,eO,m,_⟩:=E.2.oZ D
  cases N.symm.trans m
  have fp:t p=none:=by
   have X:=E.1
   rw[eO] at X
   exact X.one.1
  have ev:J=ws.map V.int:=A2.jx M
  show Cv K as f ((.ref p::S)++[]) l Q E0
  rw[append_nil]
  refine⟨p,ws,S,a,b,g,t,rfl,by rw[j,ev],fp,L.ok.fh,u,r,λv w s2 e2 r2=>?_⟩
  obtain⟨Y,P⟩:=y (g.map V.int) g (A2.of_map (R:=rp K (reg B t l (cJ n))) (f:=V.int) (λ_=>rfl) g)
  have T:Same (upd l p (.lst (g.map V.int))) w:=λc o e=>by
   by_cases q:c=p
   ·subst q
    rw[zJ] at e
    rw[e2]
    exact e
   ·rw[zN q] at e
    refine s2 c o ?_
    unfold del
    grind
  have G:=P.1.called T
  refine k v _ Y w (L.ff.trans G.ff) (P.grow G) ?_
  have d:Same (dif w l) (dif w (upd l p (.lst (g.map V.int)))):=λc o e=>by
   unfold dif at e ⊢
   by_cases q:c=p
   ·subst q
    rw[j] at e
    cases e
   ·rw[zN q]
    exact e
  have C:=Rp.mono (I_ (F:=t) P.1.h0 T) (Rp.mono d r2)
  exact match md with
  |.nw=>C
  |.fz=>Rp.mono aK C
  |.hp=>Rp.mono (aK.trans G.ok.fh) C
end
structure RL(p:Addr) where
 ws:LI
section
variable{K:Frag}{B:Bs}{sl:SL K}{F H:Hp}{O:Own}{σ:St}{md:Md}{β:Type}[Rp K β]{p:Addr}{ws:LI}
instance:Rp K (RL p):=⟨λF v x=>v=.ref p/\F p=some (.lst (x.ws.map V.int)),λs ⟨h1,h2⟩=>⟨h1,s _ _ h2⟩⟩
theorem At.gH(z:At B sl F O H σ)(k:sl[i]?=some (.nu (RL.mk (p:=p) ws)))(E:(sl.set i .un).all (λs=>!bU s&&!i_ s)=true) :
  σ[i]?=some (some (.ref p))/\H p=some (.lst (ws.map V.int))/\B.H0 p=none/\F p=none/\(∀x∈O,x.1≠p)/\∀a:LI,At B (sl.set i (.nu (RL.mk (p:=p) a))) F O (upd H p (.lst (a.map V.int))) σ:=by
 obtain⟨v,m,rfl,d⟩:=z.2.uz k
 have n:B.H0 p=none:=by
  cases q:B.H0 p with
  |none=>rfl
  |some u=>unfold dif at d;rw[q] at d;cases d
 rw[yR n] at d
 have h2':=d
 unfold lo at d
 split at d
 case isTrue=>cases d
 rename_i b
 have f:=b
 rw[ac4,not_or] at b
 have w:F p=none:=by
  cases q:F p with
  |none=>rfl
  |some u=>exact absurd (by rw[q];rfl) b.1
 have t:∀x∈O,x.1≠p:=λx l e=>b.2 (any_eq_true.mpr ⟨x,l,by simpa using e⟩)
 refine⟨m,d,n,w,t,λa=>⟨⟨z.1.fh.put w _,z.1.h0.put n _,z.1.fa,λx l=>?_,z.1.nd⟩,?_⟩⟩
 ·obtain⟨y,D,C⟩:=z.1.fo x l
  exact⟨y,D,by rw[zN (t x l)];exact C⟩
 ·have e:σ.set i (some (.ref p))=σ:=by
   apply ext_getElem?
   intro j
   rw[acn]
   split
   ·rename_i o
    subst o
    split
    ·exact m.symm
    ·rename_i g
     rw[abe (by omega)] at m
     cases m
   ·rfl
  have q:=z.2.put (s':=.un) (x:=some (.ref p)) (λsl σ O h=>.un h) k rfl
  rw[e] at q
  have A:=q.QT (L':=lo F O (upd H p (.lst (a.map V.int)))) (H':=upd H p (.lst (a.map V.int))) E
  have g:i<sl.length:=by
   cases c:decide (i<sl.length) with
   |true=>exact of_decide_eq_true c
   |false=>rw[abe (by have:=of_decide_eq_false c;omega)] at k;cases k
  have r:=A.put (s:=.un) (s':=.nu (RL.mk (p:=p) a)) (x:=some (.ref p)) (i:=i) (λsl σ O h=>.nu (by
   refine⟨rfl,?_⟩
   rw[yR n]
   unfold lo
   rw[if_neg f,zJ]) h) (by rw[acn,if_pos rfl,if_pos g]) rfl
  rw[e,set_set] at r
  exact r
end
section
variable{K:Frag}{B:Bs}{sl:SL K}{F H:Hp}{O:Own}{σ:St}{md:Md}{α β S:Type}[Rp K α][Rp K β]{p:Addr}{ws:LI}{te:TE}{t u:TS}
noncomputable def pJ(B:Bs)(p:Addr)(sl:SL K)(t:TS){β:Type}[Rp K β](m:Option (β×LI)):Prop :=
 ∀b ws,m=some (b,ws)->∀(G:Hp)(D:Ends)(σ:St)(H:Hp),Sg B G sl σ H->(∀v a,Same B.H0 a->a p=some (.lst (ws.map V.int))->(∃F:Hp,F p=none/\Same F a/\rp K (dif F B.H0) v b)->D.rt v a)->t D σ H
theorem pJ.of{m m':Option (β×LI)}(h:pJ B p sl t m)(e:m=m'):pJ B p sl t m':=e▸h
theorem zPg{m:Option β}(i:Nat)(l:sl[i]?=some (.nu (RL.mk (p:=p) ws)))(f:(sl.set i .un).all (λs=>!bU s&&!i_ s)=true)(h:Ex B sl .nw te m):pJ B p sl (dY (nH te) u) (m.bind λb=>some (b,ws)):=λb ws' e G D σ H s k=>by
 cases m with
 |none=>cases e
 |some c =>
  obtain⟨rfl,rfl⟩:=ad9 (aam (e))
  obtain⟨F,O,g,a⟩:=s
  refine h c rfl F O H σ _ a λv j q d r=>?_
  obtain⟨_,o,_,n,_⟩:=(a.grow d).gH l f
  exact k v q d.ok.h0 o ⟨j,n,d.ok.fh,r⟩
theorem uI(hs:sl[i]?=some s):(sl.set i s')[i]?=some s':=by
 grind
theorem zS7{s:Slot K}{m:Option (β×LI)}(i:Nat)(hs:sl[i]?=some s)(hh:(sl.set i .un).all (λs=>!bU s&&!i_ s)=true)(h:Ey B sl .nw te (λws'=>sl.set i (.nu (RL.mk (p:=p) ws'))) m):pJ B p sl (dY (nH te) u) m:=λb ws' hb G D σ H s k=>by
 obtain⟨F,O,g,a⟩:=s
 refine h b ws' hb F O H σ _ a λv F' O' H' sf a' r=>?_
 obtain⟨_,h2,_,f0,_⟩:=a'.gH (uI hs) (by rw[set_set];exact hh)
 exact k v H' a'.1.h0 h2 ⟨F',f0,a'.1.fh,r⟩
theorem J2{f:S->Option (β×LI)}(g:Sn B sl t L c)(h2:∀s,pJ B p (L s) u (f s)):pJ B p sl (dY t u) (c.bind f):=λa w b G D σ H q k=>by
 cases c with
 |none=>cases b
 |some s=>exact g s rfl G _ σ H q λe d h=>h2 s a w b G D e d h k
theorem Cw{c:TT}{n:Option Bool}{m1 m2:Option (β×LI)}(hc:Et B sl c n)(h1:pJ B p sl t m1)(h2:pJ B p sl u m2):pJ B p sl (dY (rE c t HN) u) (n.bind λb=>if b=true then m1 else m2):=λa w ha G D σ H s k=>by
 cases n with
 |none=>cases ha
 |some b =>
  obtain⟨F,O,g,z⟩:=s
  refine hc b rfl F O H σ _ z λF' H' gr=>?_
  cases b with
  |true=>exact iT (h1 a w (by simpa using ha) G _ σ H' (Sg.grow g z gr) k)
  |false=>exact j9 (h2 a w (by simpa using ha) G D σ H' (Sg.grow g z gr) k)
theorem Cy(i:Nat)(hs:sl[i]?=some (.nu (RL.mk (p:=p) ws)))(hh:(sl.set i .un).all (λs=>!bU s&&!i_ s)=true):Ey B sl md (uh K "list" Pr (aZ i)) (λws'=>sl.set i (.nu (RL.mk (p:=p) ws'))) (ws.getLast?.bind λy=>some (y,ws.dropLast)):=λb ws' hb F O H σ Q z k=>by
 cases e2:ws.getLast? with
 |none=>rw[e2] at hb;cases hb
 |some y =>
  rw[e2] at hb
  obtain⟨rfl,rfl⟩:=ad9 (aam (show some (y,ws.dropLast)=some (b,ws') from hb))
  obtain⟨h1,h2,b0,f0,o0,ch⟩:=z.gH hs hh
  refine⟨_,h1,.inl ⟨rfl,_,aN.of h2⟩,p,ws.map V.int,V.int y,rfl,rfl,h2,?_,?_⟩
  ·rw[length_map,getElem?_map,<-List.getLast?_eq_getElem?,e2];rfl
  rw[<-List.map_dropLast]
  exact k _ F O _ (.refl _) (ch ws.dropLast) rfl
theorem Cz(i:Nat)(e:sl[i]?=some (.nu (RL.mk (p:=p) ws)))(b:(sl.set i .un).all (λs=>!bU s&&!i_ s)=true):Ex B sl md (rJ (Ji K) (yK (aZ i) aU)) (some (ws.length:Int)):=λd f F O H σ Q z k=>by
 cases f
 obtain⟨c,a,_⟩:=z.gH e b
 refine⟨_,c,p,_,rfl,.inl (aN.of a),k _ F H (.refl z.1) ?_⟩
 rw[length_map]
 rfl
theorem zIg{as:SL K}(k:Nat)(a:as.all isF=true)(r:Ar F as vs):ak B F L' H (as++replicate k .un) (vs.map some++replicate k none) []:=by
 induction r with
 |nil =>
  show ak _ _ _ _ ([]++_) ([]++_) []
  induction k with
  |zero=>exact .nil
  |succ k ih=>exact .un ih
 |@cons n _ _ _ _ _ _ r _ ih =>
  rw[all_cons,aaz] at a
  cases n with
  |false=>exact .fz r (ih a.2)
  |true=>grind
end
section
variable{P:Program}{w:World}{K:Frag}{mg:Str->Option Value}{base:Heap}
theorem zRo{A β:Type}[Rp K β]{as:A->SL K}{C:LI->A->Option (β×LI)}(F:aV K x i st f fd)(S:ao N ps (zH st))(hf:∀a,(as a).all isF=true)(G:∀a,(as a).length+1=ps.length)(hb:∀(g:Value) (A:Around) (d:List Env) (s:Shared) (H:Hp) (E:XK),bI k (A.deeper (acy i (zH st) s.heap.objs.size f g)) ->
   ∃t,oM (lY aP P w K mg base N i (zH st) f g A d s H E).Aa (xY st) t/\∀j p ws a,pJ ⟨j,del H p⟩ p (.nu (RL.mk (p:=p) ws)::(as a++replicate (N.length-ps.length) .un)) t (C ws a)) :
  aq P w K mg base aP (k+1) f fd ps (Cv K as C) :=
 F.ok S (λvs H Q E h=>by
  obtain⟨p,ws,m,a,b,l,j,rfl,_,_,_,_,r,_⟩:=h
  rw[length_cons,r.len,G]) λg A d s H vs Q E hr h=>by
  obtain⟨t,pt,q⟩:=hb g A d s H E hr
  refine⟨t,pt,?_⟩
  obtain⟨p,ws,m,a,b,l,j,rfl,hp,fp,sf,n,r,kk⟩:=h
  have e:L2.start N (.ref p::m)=some (.ref p)::(m.map some++replicate (N.length-ps.length) none):=by
   unfold L2.start
   rw[length_cons,r.len,G]
   rfl
  have d0:Same (del H p) H:=λc o e=>by
   unfold del at e
   split at e
   ·cases e
   ·exact e
  have B:del H p p=none:=by
   unfold del
   rw[if_pos rfl]
  rw[e]
  refine q j p ws a b l n j _ _ H ⟨j,[],.refl _,⟨sf,d0,λb o h=>.inl h,λx hx=>(by cases hx),(by simp)⟩,.nu ⟨rfl,?_⟩ (zIg _ (hf a) r)⟩ (λv D s1 e1 z=>?_)
  ·rw[yR B]
   unfold lo
   rw[fp]
   exact hp
  ·obtain⟨J,f2,s2,r2⟩:=z
   refine kk v D s1 e1 (Rp.mono (λc o e=>?_) r2)
   unfold dif at e ⊢
   by_cases I:c=p
   ·subst I
    have e:(match del H c c with|none=>J c|some _=>none)=some o:=e
    rw[B,f2] at e
    cases e
   ·have ed:del H p c=H c:=by
     unfold del
     rw[if_neg I]
    have e:(match del H p c with|none=>J c|some _=>none)=some o:=e
    rw[ed] at e
    show(match H c with|none=>D c|some _=>none)=some o
    cases y:H c with
    |none=>rw[y] at e;exact s2 _ _ e
    |some u=>rw[y] at e;cases e
end
section
variable{K:Frag}{B:Bs}{sl:SL K}{md:Md}{α β S:Type}[Rp K α][Rp K β]{te:TE}
theorem Vd{L:S->SL K}(n:Bool)(j:Nat)(f:∀s,∃x,(L s)[j]?=some x/\dz x=false)(h:Ey B sl (cJ n) te L m):Sn B sl (g_ te (vR j)) (λr:α×S=>(L r.2).set j (.fz n r.1)) m:=λa i G D σ H s k=>by
 obtain⟨F,O,g,z⟩:=s
 obtain⟨x,d,b⟩:=f a.2
 exact h a.1 a.2 i F O H σ _ z λv F' O' H' c l r=>k _ _ (Sg.set (g.trans c) l d b r)
end
section
variable{K:Frag}{B:Bs}{sl:SL K}{md:Md}{α β S:Type}[Rp K α][Rp K β]{te:TE}{p:Addr}{ws:LI}
structure Fr(p:Addr)(F H F' H':Hp):Prop where
 ff:Same F F'
 hh:∀b o,b≠p->H b=some o->H' b=some o
 nw:∀b,F b=none->H b≠none->F' b=none
theorem Fr.of(g:aX B F H O a H'):Fr p F H a H':=⟨g.ff,λb o _ e=>g.hh b o e,g.nw⟩
theorem Fr.refl(F H:Hp):Fr p F H F H:=⟨.refl _,λ_ _ _ e=>e,λ_ h _=>h⟩
theorem Fr.trans(a:Fr p F H g d)(b:Fr p g d j h)(hp:d p≠none):Fr p F H j h :=
 ⟨a.ff.trans b.ff,λc o n e=>b.hh c o n (a.hh c o n e),λc f i=>b.nw c (a.nw c f i) (by
  by_cases n:c=p
  ·grind
  ·cases q:H c with
   |none=>grind
   |some o=>rw[a.hh c o n q];grind)⟩
noncomputable def sG(B:Bs)(p:Addr)(sl:SL K)(md:Md)(t:TE){α S:Type}[Rp K α](L:S->SL K)(m:Option (α×S)):Prop :=
 ∀a s,m=some (a,s)->∀(F:Hp)(O:Own)(H:Hp)(σ:St)(Q:VK),At B sl F O H σ->(∀(v:V)(c b:Hp),Fr p F H c b->At B (L s) c O b σ->rp K (reg B c b md) v a->Q v b)->t σ H Q
theorem sG.ey{L:S->SL K}{m:Option (α×S)}(h:sG B p sl md te L m):Ey B sl md te L m:=λa s e F O H σ Q z k=>h a s e F O H σ Q z λv c b f d r=>k v c O b f.ff d r
theorem Ve{A:Type}{as:A->SL K}{f:LI->A->Option (β×LI)}{D:Option A}(i:Nat)(E:sl[i]?=some (.nu (RL.mk (p:=p) ws)))(I:(sl.set i .un).all (λs=>!bU s&&!i_ s)=true)(h:Ea B sl .fz T as D) :
  sG B p sl md (rH (Cv K as f) [] E0 (yK (aZ i) T)) (λg=>sl.set i (.nu (RL.mk (p:=p) g))) (D.bind λa=>f ws a):=λb g t F O H σ Q z k=>by
 cases D with
 |none=>cases t
 |some a =>
  have t:f ws a=some (b,g):=t
  obtain⟨U,_⟩:=z.gH E I
  refine⟨_,U,?_⟩
  refine h a rfl F O H σ _ z λG l j C r=>?_
  obtain⟨_,L,b0,R,o0,P⟩:=(z.grow C).gH E I
  show Cv K as f ((.ref p::G)++[]) j Q E0
  rw[append_nil]
  refine⟨p,ws,G,a,b,g,l,rfl,L,R,C.ok.fh,t,r,λv m N Y M=>?_⟩
  have w:=P g
  have J:Same (upd j p (.lst (g.map V.int))) m:=λc o e=>by
   by_cases q:c=p
   ·subst q
    rw[zJ] at e
    rw[Y]
    exact e
   ·rw[zN q] at e
    refine N c o ?_
    unfold del
    rw[if_neg q]
    exact e
  have x:=w.1.called J
  have u:Fr p l j l (upd j p (.lst (g.map V.int))):=⟨.refl _,λc o n e=>by rw[zN n];exact e,λ_ h _=>h⟩
  have X:upd j p (.lst (g.map V.int)) p≠none:=by rw[zJ];intro q;cases q
  refine k v _ m ((Fr.of C).trans (u.trans (.of x) X) (by rw[L];intro q;cases q)) (w.grow x) ?_
  have d:Same (dif m j) (dif m (upd j p (.lst (g.map V.int)))):=λc o e=>by
   unfold dif at e ⊢
   by_cases q:c=p
   ·grind
   ·rw[zN q]
    exact e
  have y:=Rp.mono (I_ (F:=l) w.1.h0 J) (Rp.mono d M)
  exact match md with
  |.nw=>y
  |.fz=>Rp.mono aK y
  |.hp=>Rp.mono (aK.trans x.ok.fh) y
theorem XS{A:Type}{as:A->SL K}{f:α×A->Option β}{l:S->Option A}(h0:sG B p sl .hp te L m)(E:∀s,∃(i:Nat) (ws:LI),(L s)[i]?=some (.nu (RL.mk (p:=p) ws))/\((L s).set i .un).all (λs=>!bU s&&!i_ s)=true)(h:∀s,Ea B (L s) .hp U as (l s)) :
  sG B p sl md (rH (b_ K false (λx:α×A=>.fz false x.1::as x.2) f) [] E0 (yK te U)) L (m.bind λr=>(l r.2).bind λa=>(f (r.1,a)).bind λb=>some (b,r.2)):=λc s g F O H σ Q z k=>by
 cases m with
 |none=>cases g
 |some r =>
  obtain⟨a,d⟩:=r
  have g:((l d).bind λx=>(f (a,x)).bind λb=>some (b,d))=some (c,s):=g
  cases y:l d with
  |none=>grind
  |some x =>
   rw[y] at g
   have g:((f (a,x)).bind λb=>some (b,d))=some (c,s):=g
   cases u:f (a,x) with
   |none=>grind
   |some b =>
    rw[u] at g
    obtain⟨rfl,rfl⟩:=ad9 (aam (show some (b,d)=some (c,s) from g))
    refine h0 a d rfl F O H σ _ z λv I G P n J=>?_
    obtain⟨i,w1,N,X⟩:=E d
    obtain⟨_,hp1,_⟩:=n.gH N X
    refine h d x y I O G σ _ n λR Y w j M=>?_
    show b_ K false (λx:α×A=>.fz false x.1::as x.2) f ((v::R)++[]) w Q E0
    rw[append_nil]
    refine⟨(a,x),b,w,.refl _,u,.cons (Rp.mono j.hh J) M,λD T t C=>?_⟩
    have o:=j.ok.called t
    refine k D _ T (P.trans (.of (j.trans o)) (by grind)) (n.grow (j.trans o)) ?_
    have q:=Rp.mono (I_ (F:=Y) j.ok.h0 t) C
    exact match md with
    |.nw=>q
    |.fz=>Rp.mono aK q
    |.hp=>Rp.mono (aK.trans o.ok.fh) q
end
def jX{α β:Type}(f:LI->α->Option (β×LI)):LI->List α->Option (List β×LI)
 |a,[]=>some ([],a)
 |a,x::b=>(f a x).bind λr=>(jX f r.2 b).bind λq=>some (r.1::q.1,q.2)
noncomputable def kE{α β:Type}(f:LI->α->Option (β×LI))(ws:LI)(xs:List α):Option (List β×LI):=if xs.length<cap then jX f ws xs else none
section
variable{K:Frag}{B:Bs}{sl:SL K}{md:Md}{α β S:Type}[Rp K α][Rp K β]{te:TE}{p:Addr}{ws:LI}{n n':Bool}
noncomputable def QW(B:Bs)(p:Addr)(sl:SL K)(md:Md)(t:TE){α S:Type}[Rp K α](L:S->SL K)(m:Option (List α×S)):Prop :=
 ∀a s,m=some (a,s)->∀(F:Hp)(O:Own)(H:Hp)(σ:St)(Q:VK),At B sl F O H σ->(∀(q:Addr)(d:List V)(c b:Hp),Fr p F H c b->At B (L s) c O b σ->b q=none->A2 (rp K (reg B c b md)) d a->Q (.ref q) (upd b q (.lst d)))->t σ H Q
theorem At.QX{f:LI}(z:At B sl F O H σ)(d:sl[i]?=some (.nu (RL.mk (p:=p) ws)))(l:(sl.set i .un).all (λs=>!bU s&&!i_ s)=true)(c:Fr p F H b a)(k2:Ok B b [] a)(hp:a p=some (.lst (f.map V.int)))(fp:b p=none):At B (sl.set i (.nu (RL.mk (p:=p) f))) b O a σ:=by
 obtain⟨h1,h2,o,f0,m,_⟩:=z.gH d l
 refine⟨⟨k2.fh,k2.h0,k2.fa,λx g=>?_,z.1.nd⟩,?_⟩
 ·obtain⟨u,t,k⟩:=z.1.fo x g
  exact⟨c.nw _ u (by rw[k];intro q;cases q),t,c.hh _ _ (m x g) k⟩
 ·have e:σ.set i (some (.ref p))=σ:=by
   apply ext_getElem?
   grind
  have q:=z.2.put (s':=.un) (x:=some (.ref p)) (λsl σ O h=>.un h) d rfl
  rw[e] at q
  have r:=(q.QT (L':=lo b O a) (H':=a) l).mono c.ff (.refl _) (.refl _)
  have j:=r.put (s:=.un) (s':=.nu (RL.mk (p:=p) f)) (x:=some (.ref p)) (i:=i) (λsl σ O h=>.nu (by
   refine⟨rfl,?_⟩
   rw[yR o]
   unfold lo
   grind) h) (uI d) rfl
  rw[e,set_set] at j
  exact j
theorem zMl{ig:LI->SL K}{R:LI->α->SL K}{f:LI->α->Option (β×LI)}(j:Nat)(I:sl[j]?=some (.nu (RL.mk (p:=p) ws)))(hh:(sl.set j .un).all (λs=>!bU s&&!i_ s)=true)(h0:∀(F:Hp) (O:Own) (H:Hp) (σ:St),At B sl F O H σ->ak B F (lo F [] H) H (ig ws) (gG σ no ix) [])(hi:Ei B sl n l mi)(hg:∀ws,Tg B (ig ws) n g (R ws))(hc:∀ws x,Et B (R ws x) tc (some true))(he:∀ws x,sG B p (R ws x) (cJ n') te (λP=>R P x) (f ws x))(hle:∀ws x,o_ (R ws x) (ig ws))(hI:∀ws x,∃jI,(R ws x)[jI]?=some (.nu (RL.mk (p:=p) ws))/\((R ws x).set jI .un).all (λs=>!bU s&&!i_ s)=true) :
  QW B p sl (cJ n') (Mz no ix l g tc te) (λP=>sl.set j (.nu (RL.mk (p:=p) P))) (mi.bind λxs=>kE f ws xs):=λd c E F O H σ Q a k=>by
 cases mi with
 |none=>cases E
 |some xs =>
  have E:kE f ws xs=some (d,c):=E
  unfold kE at E
  split at E
  case isFalse=>cases E
  rename_i hcap
  have hcl:=rQ hcap
  refine hi xs rfl F O H σ _ a λJ F' H' gr yl=>?_
  have a':=a.grow gr
  have zl:d.length=xs.length:=by
   have key:∀(xs:List α)(ws:LI)(d:List β)(c:LI),jX f ws xs=some (d,c)->d.length=xs.length:=by
    intro xs
    induction xs with
    |nil=>intro ws d c h;cases h;rfl
    |cons x xs ih =>
     intro ws d c h
     unfold jX at h
     cases X:f ws x with
     |none=>rw[X] at h;cases h
     |some r =>
      rw[X] at h
      have h:((jX f r.2 xs).bind λq=>some (r.1::q.1,q.2))=some (d,c):=h
      cases M:jX f r.2 xs with
      |none=>rw[M] at h;cases h
      |some q =>
       rw[M] at h
       cases(show some (r.1::q.1,q.2)=some (d,c) from h)
       rw[length_cons,length_cons,ih r.2 q.1 q.2 M]
   exact key xs ws d c E
  refine⟨λi m ys σ2 C=>m=xs.length-i/\i<=xs.length/\∃(D:Hp)(l:LI)(Z Y:List β),jX f l (xs.drop i)=some (Y,c)/\Z++Y=d/\Z.length=i/\Fr p F' H' D C/\At B (sl.set j (.nu (RL.mk (p:=p) l))) D O C σ/\ak B D (lo D [] C) C (ig l) σ2 []/\A2 (rp K (reg B D C (cJ n'))) ys Z,
   ⟨xs.length,rfl,aa0 _,F',ws,[],d,E,rfl,rfl,.refl _ _,?_,h0 F' O H' σ a',trivial⟩,?_⟩
  ·have e:sl.set j (.nu (RL.mk (p:=p) ws))=sl:=by
    apply ext_getElem?
    intro i
    rw[acn]
    split
    ·rename_i hij
     subst hij
     split
     ·exact I.symm
     ·rename_i t
      rw[abe (by omega)] at I
      cases I
    ·rfl
   rw[e]
   exact a'
  rintro i m ys σ2 C ⟨rfl,hil,D,l,Z,Y,b,ez,bl,T,A,s2,r2⟩
  have hyl:ys.length=i:=by rw[r2.len,bl]
  obtain⟨y1,y2⟩:=yl i D O C T.ff A.1
  by_cases t:i<xs.length
  ·obtain⟨go,y3⟩:=y2 xs[i] (aaj t)
   rw[List.drop_eq_getElem_cons t] at b
   unfold jX at b
   cases X:f l xs[i] with
   |none=>rw[X] at b;cases b
   |some r =>
    rw[X] at b
    have b:((jX f r.2 (xs.drop (i+1))).bind λq=>some (r.1::q.1,q.2))=some (Y,c):=b
    cases M:jX f r.2 (xs.drop (i+1)) with
    |none=>rw[M] at b;cases b
    |some q =>
     rw[M] at b
     obtain⟨y,w2⟩:=r
     obtain⟨cs',wE'⟩:=q
     obtain⟨rfl,rfl⟩:=ad9 (aam (show some (y::cs',wE')=some (Y,c) from b))
     refine .inr ⟨go,by omega,λys' σ' U=>∃(L:Hp),Fr p F' H' L U/\At B (sl.set j (.nu (RL.mk (p:=p) w2))) L O U σ/\ak B L (lo L [] U) U (ig w2) σ' []/\A2 (rp K (reg B L U (cJ n'))) ys' (Z++[y]),(by rintro ys' σ' U ⟨L,z1,z2,z3,z4⟩;exact⟨xs.length-(i+1),by omega,rfl,t,L,w2,Z++[y],cs',M,by rw[append_assoc];exact ez,by rw[length_append,bl];rfl,z1,z2,z3,z4⟩),λv H3 yd=>?_⟩
     obtain⟨F3,o,r3⟩:=y3 v H3 yd
     have G:=A.grow o
     have W9:At B (ig l) F3 [] H3 σ2:=⟨o.ok.nil,s2.mono o.ff (WW ⟨o.ff,o.hh,o.ok.nil,o.nw⟩) o.hh⟩
     refine hg l v xs[i] F3 [] H3 σ2 _ W9 r3 λσ4 a4=>?_
     refine hc l xs[i] true rfl F3 [] H3 σ4 _ a4 λF5 H5 g5=>iT ?_
     have g5':=aX.lift o.ok g5
     have at5:=G.grow g5'
     refine he l xs[i] y w2 X F5 [] H5 σ4 _ (a4.grow g5) λu F6 H6 N a6 r6=>?_
     obtain⟨_,Vf,b5,f5,o5,ch5⟩:=at5.gH (uI I) (by rw[set_set];exact hh)
     obtain⟨jI,i1,i2⟩:=hI w2 xs[i]
     obtain⟨_,X3,_,f6,_⟩:=a6.gH i1 i2
     obtain⟨_,hp2,_⟩:=A.gH (uI I) (by rw[set_set];exact hh)
     obtain⟨_,hp3,_⟩:=G.gH (uI I) (by rw[set_set];exact hh)
     have nn:∀{H:Hp}{w:LI},H p=some (.lst (w.map V.int))->H p≠none:=λe=>by rw[e];intro z;cases z
     have at6:=at5.QX (uI I) (by rw[set_set];exact hh) N a6.1 X3 f6
     rw[set_set] at at6
     exact⟨F6,T.trans ((Fr.of o).trans ((Fr.of g5').trans N (nn Vf)) (nn hp3)) (nn hp2),at6,a6.2.le0 (hle w2 xs[i]),(r2.imp λ_ _=>Rp.mono (yI _ (o.ff.trans (g5.ff.trans N.ff)))).snoc r6⟩
  ·have e:i=xs.length:=by omega
   subst e
   rw[List.drop_length] at b
   cases(show some (([]:List β),l)=some (Y,c) from b)
   rw[append_nil] at ez
   subst ez
   exact .inl ⟨y1 (aak _),by omega,λq hq=>k q ys D C ((Fr.of gr).trans T (by
    obtain⟨_,h2,_⟩:=a'.gH I hh
    rw[h2];intro q;cases q)) A hq r2⟩
end
section
variable{K:Frag}{B:Bs}{sl:SL K}{md:Md}{α β S:Type}[Rp K α][Rp K β]{te t1 t2:TE}{p:Addr}
theorem QW.eyn{L:S->SL K}{m:Option (List α×S)}(n:∀s,∃(i:Nat) (ws:LI),(L s)[i]?=some (.nu (RL.mk (p:=p) ws))/\((L s).set i .un).all (λs=>!bU s&&!i_ s)=true)(h:QW B p sl md te L m):sG B p sl md te L m:=λa s e F O H σ Q z k=>h a s e F O H σ Q z λq d F' H' j b f r=>by
 have c:=aX.new b.1 f (.lst d)
 obtain⟨i,w1,l,g⟩:=n s
 obtain⟨_,hp1,_⟩:=b.gH l g
 exact k _ _ _ (j.trans (.of c) (by grind)) (b.grow c) ⟨q,d,rfl,Jd b.1 f md,r.imp λ_ _=>Rp.mono (xG c md)⟩
theorem zUi{n:Bool}{L:S->SL K}{h:Option α}{m:Option (β×S)}{i:Nat}{ws:LI}(x:sl[i]?=some (.nu (RL.mk (p:=p) ws)))(A:(sl.set i .un).all (λs=>!bU s&&!i_ s)=true)(y:∀s,∃(i:Nat) (ws:LI),(L s)[i]?=some (.nu (RL.mk (p:=p) ws))/\((L s).set i .un).all (λs=>!bU s&&!i_ s)=true)(I:Ex B sl (cJ n) t1 h)(h2:sG B p sl (cJ n) t2 L m):sG B p sl (cJ n) (rG (yK t1 (yK t2 aU))) L (h.bind λa=>m.bind λr=>some ((a,r.1),r.2)):=λc s j F O H σ Q z k=>by
 cases h with
 |none=>cases j
 |some a =>
  cases m with
  |none=>cases j
  |some r =>
   obtain⟨b,t⟩:=r
   obtain⟨rfl,rfl⟩:=ad9 (aam (j))
   refine I a rfl F O H σ _ z λv C M g D=>?_
   obtain⟨_,l,_⟩:=(z.grow g).gH x A
   refine h2 b t rfl C O M σ _ (z.grow g) λw F2 H2 u f J=>?_
   obtain⟨i',w1,E,G⟩:=y t
   obtain⟨_,hp2,_⟩:=f.gH E G
   refine⟨by show 2<=sizeLine;decide,λq o=>?_⟩
   have d:=aX.new f.1 o (.tup [v,w])
   exact k _ _ _ ((Fr.of g).trans (u.trans (.of d) (by grind)) (by rw[l];intro q;cases q)) (f.grow d) ⟨q,v,w,rfl,Jd f.1 o _,Rp.mono (yI _ (u.ff.trans d.ff)) D,Rp.mono (yI _ d.ff) J⟩
theorem zNh{L:S->SL K}(i:Nat)(J:sl[i]?=some (.ow n xs))(y:sl.all (λs=>!bU s)=true)(w:∀s,(L s)[i]?=some (.ow n xs)/\(L s).all (λs=>!bU s)=true)(h:sG B p sl (cJ n) te L m) :
  Sn B sl (tY (Ay K "list" Pq (aZ i) (yK te aU))) (λr:List α×S=>(L r.2).set i (.ow n r.1)) (m.bind λr=>(push xs r.1).bind λys=>some (ys,r.2)):=λys f G D σ H s k=>by
 cases m with
 |none=>cases f
 |some r =>
  obtain⟨a,j⟩:=r
  have f:((push xs a).bind λys=>some (ys,j))=some ys:=f
  cases c:push xs a with
  |none=>grind
  |some t =>
   rw[c] at f
   cases(show some (t,j)=some ys from f)
   unfold push at c
   split at c
   case isFalse=>cases c
   rename_i I
   cases c
   obtain⟨F,O,g,z⟩:=s
   obtain⟨q,vs,x,N,h3,_⟩:=z.chg J y
   refine⟨_,x,.inl ⟨rfl,_,aN.of N⟩,?_⟩
   refine h a j rfl F O H σ _ z λv C H' A M r=>?_
   obtain⟨q',b,o,l,d,u⟩:=M.chg (w j).1 (w j).2
   cases x.symm.trans o
   obtain⟨E,P⟩:=u (b++[v]) (xs++[a]) (d.snoc r)
   exact⟨q,b,v,rfl,rfl,l,rQ (by rw[d.len];exact I),k _ _ ⟨C,E,g.trans A.ff,P⟩⟩
end
section
variable{K:Frag}{B:Bs}{sl:SL K}{F H:Hp}{O:Own}{σ:St}
abbrev QZ:Slot K->Slot K
 |@Slot.fz _ n _ i a=>@Slot.fz _ n _ i a
 |@Slot.nu _ _ i a=>@Slot.nu _ _ i a
 |_=>.un
theorem J3:Same (lo F O H) (lo F [] H):=λb o h=>by
 unfold lo at h ⊢
 grind
theorem ak.X4(a:At B sl F O H σ)(j:Nat)(g:sl[j]?=some s):∀{c:SL K}{e:St},ak B F (lo F [] H) H c e []->ak B F (lo F [] H) H (QZ s::c) ((σ[j]?).getD none::e) []:=λ{c e} h=>by
 cases s with
 |un=>exact .un h
 |fz n b=>obtain⟨v,f,d⟩:=a.2.oY g;rw[f];exact .fz d h
 |hs b=>exact .un h
 |nu b=>obtain⟨v,f,d⟩:=a.2.uz g;rw[f];exact .nu (Rp.mono (yO J3) d) h
 |ow n xs=>exact .un h
 |od kvs=>exact .un h
 |ob n a=>exact .un h
def vm(sl:SL K)(n:Nat)(ix:List Nat):SL K:=replicate n .un++ix.map λj=>QZ ((sl[j]?).getD .un)
theorem zS2(a:At B sl F O H σ)(n:Nat):∀(ix:List Nat),(∀j∈ix,j<sl.length)->ak B F (lo F [] H) H (vm sl n ix) (gG σ n ix) []:=λix b=>by
 unfold vm gG
 induction n with
 |zero =>
  induction ix with
  |nil=>exact .nil
  |cons j ix ih =>
   have c:=b j mem_cons_self
   have d:=aaj c
   have z:=ak.X4 a j d (ih λk e=>b k (mem_cons_of_mem _ e))
   grind
 |succ n ih=>exact .un ih
theorem zWa{ix:List Nat}(hix:(ix.all λj=>decide (j<sl.length))=true)(hI:ig=vm sl no ix):∀(F:Hp)(O:Own)(H:Hp)(σ:St),At B sl F O H σ->ak B F (lo F [] H) H ig (gG σ no ix) []:=λF O H σ a=>by
 rw[hI]
 exact zS2 a no ix λj hj=>by simpa using(all_eq_true.mp hix) j hj
end
structure oU(α β γ:Type) where
 a:α
 b:β
 c:γ
section
variable{K:Frag}{B:Bs}{sl:SL K}{md:Md}{n:Bool}{α β γ S:Type}[Rp K α][Rp K β][Rp K γ]{te t1 t2 t3:TE}
instance:Rp K (oU α β γ):=⟨λF v x=>∃p u w z,v=.ref p/\F p=some (.tup [u,w,z])/\rp K F u x.a/\rp K F w x.b/\rp K F z x.c,λs h=>by
  obtain⟨p,u,w,z,h1,h2,h3,h4,h5⟩:=h
  exact⟨p,u,w,z,h1,s _ _ h2,Rp.mono s h3,Rp.mono s h4,Rp.mono s h5⟩⟩
theorem zQ6{h:Option α}{j:Option β}{i:Option γ}(r:Ex B sl md t1 h)(h2:Ex B sl md t2 j)(x:Ex B sl md t3 i):Ex B sl md (rG (yK t1 (yK t2 (yK t3 aU)))) (h.bind λa=>j.bind λb=>i.bind λc=>some (oU.mk a b c)):=λd g F O H σ Q s o=>by
 cases h with
 |none=>cases g
 |some a =>
  cases j with
  |none=>cases g
  |some b =>
   cases i with
   |none=>cases g
   |some c =>
    cases(g)
    refine r a rfl F O H σ _ s λv z t l D=>?_
    refine h2 b rfl z O t σ _ (s.grow l) λw A y k q=>?_
    refine x c rfl A O y σ _ ((s.grow l).grow k) λu F3 H3 e C=>?_
    refine⟨by show 3<=sizeLine;decide,λp m=>?_⟩
    have f:=aX.new e.ok m (.tup [v,w,u])
    exact o _ _ _ (l.trans (k.trans (e.trans f))) ⟨p,v,w,u,rfl,Jd e.ok m md,Rp.mono (xG (k.trans (e.trans f)) md) D,Rp.mono (xG (e.trans f) md) q,Rp.mono (xG f md) C⟩
theorem CG(i j l:Nat)(q:sl[i]?=some s)(D:dz s=false)(f:∀x:Slot K,(sl.set i x)[j]?=some s')(m:dz s'=false)(e:∀x y:Slot K,((sl.set i x).set j y)[l]?=some u)(g:dz u=false) :
  Tg B sl n (Ab K 3 (Ml (vR i) (Ml (vR j) (Ml (vR l) HX)))) (λx:oU α β γ=>((sl.set i (.fz n x.a)).set j (.fz n x.b)).set l (.fz n x.c)):=λv x F O H σ Q a r k=>by
 obtain⟨p,o,h,d,rfl,t,C,A,w⟩:=r
 refine⟨p,[o,h,d],rfl,.inl (.inl (zO6 a.1 t)),rfl,o,[h,d],rfl,h,[d],rfl,d,[],rfl,rfl,?_⟩
 exact k _ ⟨a.1,((a.2.put (λ_ _ _ z=>.fz C z) q D).put (λ_ _ _ z=>.fz A z) (f _) m).put (λ_ _ _ z=>.fz w z) (e _ _) g⟩
end
section
variable{K:Frag}{B:Bs}{sl:SL K}{md:Md}{te:TE}
theorem J4{mi:Option LI}(h:Ex B sl .hp te mi):Eo B sl md (Mz 1 [] (Cr K (yK te aU)) (vR 0) rO (aZ 0)) (mi.bind λus=>if us.length<cap then some us.reverse else none):=λy c F O H σ Q a k=>by
 cases mi with
 |none=>cases c
 |some us =>
  have c:(if us.length<cap then some us.reverse else none)=some y:=c
  split at c
  case isFalse=>cases c
  rename_i e
  cases c
  refine h us rfl F O H σ _ a λv s o D r=>?_
  obtain⟨p,b,rfl,m,w⟩:=r
  have m:o p=some (.lst b):=m
  have z:b=us.map V.int:=A2.jx w
  have A:b.length=us.length:=w.len
  refine⟨p,b,rfl,aN.of m,zUy (xs:=b) (λi l j d=>d=o/\(∃v,j=[v])/\l=b.reverse.take i) ⟨rfl,⟨none,rfl⟩,rfl⟩ (?_) (by rw[A];exact rQ e) (λi x l j d C t ⟨g,⟨v,u⟩,n⟩=>?_) (λl j d ⟨g,_,n⟩ q E=>?_)⟩
  rintro i l j d t ⟨g,_,u⟩
  ·subst g
   exact⟨aN.of m,by grind⟩
  ·subst g
   subst u
   subst n
   refine⟨x,rfl,rfl,⟨some x,rfl⟩,?_⟩
   rw[take_add_one,List.getElem?_reverse t,C]
   rfl
  ·subst g
   subst n
   refine k q _ s d D E ?_
   rw[<-List.length_reverse,take_length,z]
   exact(A2.of_map (R:=rp K (reg B s d md)) (f:=V.int) (λ_=>rfl) us).rev
end
noncomputable def J5(us:LI):Option LI:=if us.length<cap then some us.reverse else none
section
variable{K:Frag}{B:Bs}{sl sl2:SL K}{md:Md}{te:TE}{t:TS}{β:Type}[Rp K β]{p:Addr}
theorem zUo{m:Option I8}{mi:Option Int}{d:TE}(h:Ex B sl .hp te m)(w:Ex B sl .hp d mi):Eo B sl md (Mu (rN K) te Ms (Mt d)) (m.bind λxs=>mi.bind λi=>some (d_ xs.ns none (some i))):=λc b F O H σ Q s k=>by
 obtain⟨xs,i,n,a,b⟩:=nQ b
 cases b
 refine h xs n F O H σ _ s λv x z g r=>?_
 refine w i a x O z σ _ (s.grow g) λu j A e q=>?_
 obtain⟨p,rfl,o⟩:=r
 exact⟨i,q,p,xs.ns.map V.int,rfl,e.hh.seq o,λl y=>k l _ j A (g.trans e) y ((A2.of_map (f:=V.int) (λ_=>rfl) xs.ns).cut _ _)⟩
theorem CJ(h:Ex B sl .hp te mi):Eo B sl md (Mz 1 [] (Cr K (yK te aU)) (vR 0) rO (aZ 0)) (mi.bind λus=>J5 us):=J4 h
theorem J6(K:Frag){X:Cx}(b:X.mg "reversed" = none)(f:PA X [a] d)(h:X.K=K:=by rfl)(e:Gl X "reversed":=by rfl)(c:starEach [a] X.env=[(false,eval a X.env)]:=by rfl):PI X tg (.Call (.Name "reversed" q) [a] [] pos) (Cr K d):=by subst h;exact JZ e b f c
theorem CK{m:Option (β×LI)}(l:Le sl sl2)(h:pJ B p sl2 t m):pJ B p sl t m:=λa w b G D σ H q k=>h a w b G D σ H (q.le l) k
theorem J7{m:Option (β×LI)}(sl2:SL K)(h:pJ B p sl2 t m)(e:sl=sl2:=by rfl):pJ B p sl t m:=e▸h
end
section
variable{K:Frag}{B:Bs}{sl:SL K}{F H:Hp}{O:Own}{σ:St}{t u:TS}{al:Bool}{α β S A A1 A2:Type}[Rp K α][Rp K β]{b:β}
def SnA(B:Bs)(sl:SL K)(t:TS){S:Type}(L:S->SL K)(P:S->Prop):Prop :=
 ∀(G:Hp)(D:Ends)(σ:St)(H:Hp),Sg B G sl σ H->(∀s,P s->∀a c,Sg B G (L s) a c->D.nx a c)->t D σ H
def tR(B:Bs)(sl:SL K)(t:TS)(al:Bool){β A:Type}[Rp K β](m:A->Option β)(P:A->Prop)(b:β):Prop :=
 (∃a,P a)->(∀a,P a->m a=some b)->∀(G:Hp)(D:Ends)(σ:St)(H:Hp),Sg B G sl σ H->(∀v c,Rt K B al b v c->D.rt v c)->t D σ H
theorem CN(h:SB B sl t al m):tR B sl t al (λ_:Unit=>m) (λ_=>True) b:=λ_ a G D σ H q k=>h b (a () trivial) G D σ H q k
theorem Nr{f:S->A->Option β}(i:Sn B sl t L c)(h2:∀s,tR B (L s) u al (f s) P b):tR B sl (dY t u) al (λa=>c.bind λs=>f s a) P b:=λh d G D σ H q k=>by
 cases c with
 |none=>grind
 |some s=>exact i s rfl G _ σ H q λg l e=>h2 s h (λa j=>d a j) G D g l e k
theorem CP{g:A1->A2->Option β}(d:SnA B sl t L l)(h2:∀s,tR B (L s) u al (g s) m b):tR B sl (dY t u) al (λa:A1×A2=>g a.1 a.2) (λa=>l a.1/\m a.2) b:=λne c G D σ H q k =>
 d G _ σ H q λs h f j e=>h2 s (by grind) (λa i=>c (s,a) ⟨h,i⟩) G D f j e k
theorem J8(sl2:SL K)(h:tR B sl2 t al m P b)(e:sl=sl2:=by rfl):tR B sl t al m P b:=e▸h
theorem tR.sb(h:tR B sl t al m P b)(d:∃a,P a)(f:∀a,P a->m a=some b):SB B sl t al (some b):=λc e G D σ H q k=>by
 cases e
 exact h d f G D σ H q k
end
open PySem.SeqAt (EqAt RcAt RcNeAt)
section
variable{K:Frag}{B:Bs}{sl:SL K}{md:Md}{te t1 t2:TE}{α β γ δ:Type}[Rp K α][Rp K β][Rp K γ][Rp K δ]
theorem zUl{o:oU α β γ->δ}(i:Int)(r:∀(R:Hp) (x:oU α β γ) (u w z:V),rp K R u x.a->rp K R w x.b->rp K R z x.c->∃y,L2.bL [u,w,z] i=some y/\rp K R y (o x))(E:Ex B sl md t1 m)(h2:Ex B sl .hp t2 (some i)):Ex B sl md (gF (uf K) t1 t2) (m.bind λx=>some (o x)):=λc h F O H σ Q s k=>by
 cases m with
 |none=>cases h
 |some x =>
  cases(h)
  refine E x rfl F O H σ _ s λv q d g C=>?_
  refine h2 i rfl q O d σ _ (s.grow g) λw N L f G=>?_
  cases G
  obtain⟨p,l,j,n,rfl,A,M,J,I⟩:=C
  have e:=(match md with
   |.nw=>aK.trans g.ok.fh
   |.fz=>g.ok.fh
   |.hp=>.refl _:Same (reg B q d md) d).trans f.hh
  obtain⟨y,D,t⟩:=r _ x l j n M J I
  exact⟨p,[l,j,n],i,y,rfl,rfl,.inl (.inl (e _ _ A)),D,k y N L (g.trans f) (Rp.mono (xG f md) t)⟩
theorem Vg{m:Option (oU α β γ)}(b:Ex B sl md t1 m)(h2:Ex B sl .hp t2 (some (0:Int))):Ex B sl md (gF (uf K) t1 t2) (m.bind λx=>some x.a):=zUl 0 (λ_ _ u _ _ h _ _=>⟨u,rfl,h⟩) b h2
end
section
variable{K:Frag}{B:Bs}{sl slE slW:SL K}{md:Md}{te:TE}{F F' H H' L L':Hp}{O:Own}{σ:St}{α β γ:Type}[Rp K α][Rp K β][Rp K γ]
theorem X5{α:Type 1}:∀{l:List α}{i:Nat}{x:α},l[i]?=some x->l.set i x=l
 |[],_,_,h=>by simp at h
 |_::_,0,_,h=>by simp at h;subst h;rfl
 |_::l,i+1,_,h=>congrArg _ (X5 (l:=l) (i:=i) (by simpa using h))
end
end Ts
namespace L2
open PySem PySem.Spec PyProof.Rows
section
variable{X:Cx}
theorem J9(K:Frag)(d:X.mg "zip" = none)(g:PA X [a,b] i)(h:X.K=K:=by rfl)(f:Gl X "zip":=by rfl)(e:starEach [a,b] X.env=[(false,eval a X.env),(false,eval b X.env)]:=by rfl)(c:starEach [b] X.env=[(false,eval b X.env)]:=by rfl) :
  PI X (.Tuple elts k tp) (.Call (.Name "zip" p) [a,b] [] pos) (JW K i):=by subst h;exact JX f d g e c
end
end L2
namespace Ts
open PySem L2
section
variable{K:Frag}{B:Bs}{sl:SL K}{md:Md}{α β:Type}[Rp K α][Rp K β]{te t1 t2:TE}
theorem J_{n:Bool}{A:Option (List α)}{E:Option (List β)}(h1:Ex B sl (cJ n) t1 A)(h2:Ex B sl (cJ n) t2 E):Ei B sl n (JW K (yK t1 (yK t2 aU))) (A.bind λa=>E.bind λb=>some (a.zip b)):=λzs l F O H σ R a k=>by
 obtain⟨xs,ys,X,Z,U⟩:=nQ l
 cases U
 refine h1 xs X F O H σ _ a λv F1 H1 J Y=>?_
 refine h2 ys Z F1 O H1 σ _ (a.grow J) λw M H2 d S=>?_
 obtain⟨p,c,rfl,D,s⟩:=Y
 obtain⟨q,g,rfl,y,C⟩:=S
 have f:M p=some (.lst c):=d.ff _ _ (by cases n with|true=>exact aK _ _ D|false=>exact D)
 have e:=by cases n with|true=>exact aK _ _ y|false=>exact y
 refine⟨p,q,rfl,⟨c,aN.of (d.ok.fh _ _ f)⟩,⟨g,aN.of (d.ok.fh _ _ e)⟩,k _ M H2 (J.trans d) λi F3 O3 I j h=>?_⟩
 have m:aN K I p c:=aN.of (h.fh _ _ (j _ _ f))
 have o:aN K I q g:=aN.of (h.fh _ _ (j _ _ e))
 refine⟨λhl=>⟨c,g,m,o,?_⟩,λx hx=>?_⟩
 ·rw[List.length_zip] at hl
  rw[s.len,C.len]
  omega
 ·obtain⟨Q,ey⟩:=getElem?_zip_eq_some.mp hx
  obtain⟨u,L,N⟩:=s.at2 Q
  obtain⟨z,l,P⟩:=C.at2 ey
  refine⟨⟨c,g,u,z,m,o,L,l⟩,λv H4 T=>?_⟩
  obtain⟨t,u',z',rfl,G,rfl,y1,y2⟩:=T
  cases L.symm.trans (y1 c m)
  cases l.symm.trans (y2 g o)
  have r:=aX.new h G (.tup [u,z])
  exact⟨_,r,t,u,z,rfl,Jd h G (cJ n),Rp.mono (yI n (d.ff.trans (j.trans r.ff))) N,Rp.mono (yI n (j.trans r.ff)) P⟩
end
structure Fx(v:V)(α:Type) where
 x:α
section
variable{K:Frag}{B:Bs}{sl:SL K}{F H G L:Hp}{O:Own}{σ:St}{te t2:TE}{t:TS}{al:Bool}{α:Type}[Rp K α]{md:Md}
instance:Rp K (Fx v α):=⟨λF u a=>u=v/\rp K F u a.x,λs h=>⟨h.1,Rp.mono s h.2⟩⟩
theorem Q_(h:Ex B sl md te (some (Fx.mk a:Fx v α))):Ex B sl md te (some a):=λc e F O H σ Q s k=>by
 cases e
 exact h _ rfl F O H σ Q s λu d b g r=>k u d b g r.2
end
structure cW(α:Type) where
 xss:List (List α)
abbrev Rr:=List (Addr×List V)
def qD(p:Addr)(a:Rr):Own:=(p,.lst (a.map λr=>V.ref r.1))::a.map λr=>(r.1,HO.lst r.2)
def mj(K:Frag){α:Type}[Rp K α](R:Hp)(b:Rr)(xss:List (List α)):Prop:=A2 (λ(r:Addr×List V) (a:List α)=>A2 (rp K R) r.2 a) b xss
section
variable{K:Frag}{α:Type}[Rp K α]
theorem Vh:∀{a:Rr}{xss:List (List α)},mj K R a xss->(∀r∈a,R r.1=some (.lst r.2))->A2 (rp K R) (a.map λr=>V.ref r.1) xss
 |[],[],_,_=>trivial
 |r::a,row::xss,h,m=>⟨⟨r.1,r.2,rfl,m r mem_cons_self,h.1⟩,Vh h.2 λq b=>m q (mem_cons_of_mem _ b)⟩
 |[],_::_,h,_=>h.elim
 |_::_,[],h,_=>h.elim
theorem mj.mono{R b:Hp}(s:Same R b){a:Rr}{xss:List (List α)}(h:mj K R a xss):mj K b a xss:=A2.imp (λ_ _ z=>z.imp λ_ _=>Rp.mono s) h
theorem CQ(h:r∈a):(r.1,HO.lst r.2)∈qD p a:=mem_cons_of_mem _ (mem_map.mpr ⟨r,h,rfl⟩)
instance:Ob K (cW α) where
 β:=List (List α)
 qy:=inferInstance
 ro R v x Oc:=∃p rs,v=.ref p/\Oc=qD p rs/\mj K R rs x.xss
 mono s:=λ⟨p,rs,h1,h2,h3⟩=>⟨p,rs,h1,h2,h3.mono s⟩
 val x:=x.xss
 mQ:=λ⟨p,rs,h1,h2,h3⟩ m=>by
  subst h2
  exact⟨p,_,h1,m _ mem_cons_self,Vh h3 λr hr=>m (r.1,.lst r.2) (CQ hr)⟩
instance:Rp K (cW α):=⟨λF v x=>∃(p:Addr)(rs:Rr),v=.ref p/\(∀y∈qD p rs,F y.1=some y.2)/\(aev (λy:Addr×HO=>y.1) (qD p rs)).Nodup/\mj K F rs x.xss,λs ⟨p,rs,h1,h2,h3,h4⟩=>⟨p,rs,h1,λy hy=>s _ _ (h2 y hy),h3,h4.mono s⟩⟩
theorem Ka{F:Hp}{v:V}{x:cW α}(h:rp K F v x):rp K F v x.xss:=by
 obtain⟨p,rs,b,a,h3,c⟩:=h
 exact⟨p,_,b,a _ mem_cons_self,Vh c λr d=>a (r.1,.lst r.2) (CQ d)⟩
theorem Ra(p:Addr)(a:Rr):(qD p a).map (·.1)=p::a.map (·.1):=by
 unfold qD
 rw[map_cons,map_map]
 rfl
end
section
variable{K:Frag}{B:Bs}{sl sl2:SL K}{F H G:Hp}{O:Own}{σ:St}{md:Md}{te t2 t3:TE}{t u:TS}{al:Bool}
theorem At.setC{β:Type}[Ob K β]{a:β}(z:At B sl F O H σ)(hs:sl[i]?=some (.ob n a))(hh:sl.all (λs=>!bU s)=true) :
  ∃Oc v,σ[i]?=some (some v)/\Ob.ro K (reg B F H (cJ n)) v a Oc/\(∀x∈Oc,H x.1=some x.2/\F x.1=none/\B.H0 x.1=none)/\(Oc.map (·.1)).Nodup/\(∀x∈Oc,x∈O) /\
   ∀(N:β)(j:Own)(H':Hp),Ob.ro K (reg B F H (cJ n)) v N j->(j.map (·.1)).Nodup->(∀b u,H b=some u->(∀x∈Oc,x.1≠b)->H' b=some u)->(∀x∈j,H' x.1=some x.2/\((∃y∈Oc,y.1=x.1)\/H x.1=none))->∃O',At B (sl.set i (.ob n N)) F O' H' σ:=by
 obtain⟨k,z0⟩:=z
 obtain⟨C,Oc,A,v,rfl,h1,h2,h3⟩:=z0.mU hs
 have f:∀x∈Oc,x∈C++(Oc++A):=λx c=>mem_append_right _ (mem_append_left _ c)
 have nd:=k.nd
 rw[map_append,map_append,nodup_append] at nd
 obtain⟨R,L,I⟩:=nd
 rw[nodup_append] at L
 obtain⟨S,T,U⟩:=L
 refine⟨Oc,v,h1,h2,λx c=>⟨(k.fo x (f x c)).2.2,(k.fo x (f x c)).1,(k.fo x (f x c)).2.1⟩,S,f,λN j H' r nd' h g=>⟨C++(j++A),?_,?_⟩⟩
 ·have E:∀x∈j,F x.1=none/\B.H0 x.1=none:=λx c=>by
   rcases(g x c).2 with⟨y,d,e⟩|e
   ·rw[<-e];exact⟨(k.fo y (f y d)).1,(k.fo y (f y d)).2.1⟩
   ·exact⟨k.fh.free e,k.h0.free e⟩
  have p:∀x∈C,∀y∈Oc,y.1≠x.1:=λx c y d e=>I x.1 (mem_map.mpr ⟨x,c,rfl⟩) y.1 (mem_append_left _ (mem_map.mpr ⟨y,d,rfl⟩)) e.symm
  have m:∀x∈A,∀y∈Oc,y.1≠x.1:=λx c y d e=>U y.1 (mem_map.mpr ⟨y,d,rfl⟩) x.1 (mem_map.mpr ⟨x,c,rfl⟩) e
  have J:∀x∈C,x∈C++(Oc++A):=λx c=>mem_append_left _ c
  have M:∀x∈A,x∈C++(Oc++A):=λx c=>mem_append_right _ (mem_append_right _ c)
  refine⟨λb o e=>?_,λb o e=>?_,k.fa,λx c=>?_,?_⟩
  ·exact h b o (k.fh b o e) λx c q=>by rw[<-q,(k.fo x (f x c)).1] at e;cases e
  ·exact h b o (k.h0 b o e) λx c q=>by rw[<-q,(k.fo x (f x c)).2.1] at e;cases e
  ·rcases mem_append.mp c with c|c
   ·obtain⟨Y,Z,X⟩:=k.fo x (J x c)
    exact⟨Y,Z,h _ _ X (p x c)⟩
   ·rcases mem_append.mp c with c|c
    ·exact⟨(E x c).1,(E x c).2,(g x c).1⟩
    ·obtain⟨Y,Z,X⟩:=k.fo x (M x c)
     exact⟨Y,Z,h _ _ X (m x c)⟩
  ·have fresh:∀x∈j,∀y,y∈C\/y∈A->y.1≠x.1:=λx c y d e=>by
    rcases(g x c).2 with⟨w,hw,q⟩|q
    ·rcases d with d|d
     ·exact p y d w hw (q.trans e.symm)
     ·exact m y d w hw (q.trans e.symm)
    ·have:H y.1=some y.2:=d.elim (λd=>(k.fo y (J y d)).2.2) λd=>(k.fo y (M y d)).2.2
     rw[e,q] at this
     cases this
   rw[map_append,map_append,nodup_append,nodup_append]
   refine⟨R,⟨nd',T,λa Q b l e=>?_⟩,λa Q b l e=>?_⟩
   ·obtain⟨x,c,rfl⟩:=mem_map.mp Q
    obtain⟨y,d,rfl⟩:=mem_map.mp l
    exact fresh x c y (.inr d) e.symm
   ·obtain⟨y,d,rfl⟩:=mem_map.mp Q
    rcases mem_append.mp l with l|l
    ·obtain⟨x,c,rfl⟩:=mem_map.mp l
     exact fresh x c y (.inl d) e
    ·exact I _ Q _ (mem_append_right _ l) e
 ·have zz:=h3 (.ob n N) (some v) j λ_ _ _ y=>.ob r y
  rw[P0 h1] at zz
  refine zz.mut (λb w e=>?_) (P_ rfl hh)
  unfold lo at e ⊢
  split at e
  ·cases e
  ·rename_i l
   simp only[ac4,any_eq_true,not_or,not_exists,not_and,beq_iff_eq] at l
   have D:∀x∈Oc,x.1≠b:=λx c=>l.2 x (f x c)
   rw[if_neg]
   ·exact h b w e D
   ·simp only[ac4,any_eq_true,not_or,not_exists,not_and,beq_iff_eq]
    refine⟨l.1,λx c q=>?_⟩
    rcases mem_append.mp c with c|c
    ·exact l.2 x (mem_append_left _ c) q
    ·rcases mem_append.mp c with c|c
     ·rcases(g x c).2 with⟨y,d,P⟩|P
      ·exact D y d (P.trans q)
      ·rw[q,e] at P;cases P
     ·exact l.2 x (mem_append_right _ (mem_append_right _ c)) q
section
variable{α:Type}[Rp K α]
theorem X6{n:Bool}{x:cW α}(i:Nat)(hs:sl[i]?=some (.ob n x)):Ex B sl .hp (aZ i) (some x.xss):=λa' ha F O H σ Q s k=>by
 cases ha
 obtain⟨O1,Oc,O2,v,e,h1,⟨p,rs,rfl,rfl,h2⟩,_⟩:=s.2.mU hs
 have Kc:∀x∈qD p rs,H x.1=some x.2:=λx hx=>(s.1.fo x (by rw[e];exact mem_append_right _ (mem_append_left _ hx))).2.2
 exact⟨_,h1,k _ F H (.refl s.1) ⟨p,_,rfl,Kc _ mem_cons_self,Vh (h2.mono (rP s.1 n)) λr hr=>Kc (r.1,.lst r.2) (CQ hr)⟩⟩
end
end
section
variable{K:Frag}{B:Bs}{sl sl2:SL K}{F H G:Hp}{O:Own}{σ:St}{md:Md}{te t2 t3:TE}{t u:TS}{al:Bool}{α:Type}[Rp K α]
theorem A2.X7{γ δ:Type}{R:γ->δ->Prop}{x:γ}{y:δ}(r:R x y){xs:List γ}{ys:List δ}(j:Nat)(h:A2 R xs ys):A2 R (xs.set j x) (ys.set j y):=A2.set r j h
theorem At.CT{n:Bool}{x:cW α}{i j:Nat}{f:List α}(z:At B sl F O H σ)(Y:sl[i]?=some (.ob n x))(hh:sl.all (λs=>!bU s)=true)(hj:x.xss[j]?=some f) :
  ∃p q ps vs,σ[i]?=some (some (.ref p))/\H p=some (.lst ps)/\ps[j]?=some (.ref q)/\ps.length=x.xss.length/\H q=some (.lst vs)/\A2 (rp K (reg B F H (cJ n))) vs f/\F q=none/\B.H0 q=none/\p≠q /\
   ∀a c,A2 (rp K (reg B F H (cJ n))) a c->∃O',At B (sl.set i (.ob n (cW.mk (x.xss.set j c)))) F O' (upd H q (.lst a)) σ:=by
 obtain⟨Oc,v,T,⟨p,d,rfl,rfl,A⟩,m,M,_,up⟩:=z.setC Y hh
 obtain⟨⟨q,vs⟩,l,w⟩:=A2.at2 A hj
 have o:(q,vs)∈d:=mem_of_getElem? l
 have X:j<d.length:=(aal.mp l).1
 obtain⟨Z,S,P⟩:=m _ (CQ (p:=p) o)
 have g:=M
 rw[Ra,nodup_cons] at g
 have N:p≠q:=λe=>g.1 (e▸mem_map.mpr ⟨_,o,rfl⟩)
 refine⟨p,q,d.map λr=>V.ref r.1,vs,T,(m _ mem_cons_self).1,by rw[getElem?_map,l];rfl,by rw[length_map];exact A.len,Z,w,S,P,N,λa c r=>?_⟩
 have I:(d.set j (q,a)).map (·.1)=d.map (·.1):=by
  rw[List.map_set]
  refine ext_getElem? λk=>?_
  rw[acn]
  split
  ·rename_i e
   subst e
   split
   ·rw[getElem?_map,l];rfl
   ·rename_i z;exact absurd (by rw[length_map];exact X) z
  ·rfl
 have mr:(d.set j (q,a)).map (λr=>V.ref r.1)=d.map λr=>V.ref r.1:=by
  have:=congrArg (aev V.ref) I
  rw[map_map,map_map] at this
  exact this
 refine up (cW.mk (x.xss.set j c)) (qD p (d.set j (q,a))) (upd H q (.lst a)) ⟨p,_,rfl,rfl,A2.X7 (R:=λ(r:Addr×List V) (f:List α)=>A2 (rp K (reg B F H (cJ n))) r.2 f) r j A⟩ (by rw[Ra,I,<-Ra];exact M) (λb u e D=>?_) λy E=>?_
 ·rw[zN λw=>D _ (CQ o) w.symm]
  exact e
 ·rcases mem_cons.mp E with e|E
  ·subst e
   refine⟨?_,.inl ⟨_,mem_cons_self,rfl⟩⟩
   show upd H q _ p=some (.lst ((d.set j (q,a)).map λr=>V.ref r.1))
   rw[zN N,mr]
   exact(m _ mem_cons_self).1
  ·obtain⟨L,C,rfl⟩:=mem_map.mp E
   obtain⟨k,h⟩:=mem_iff_getElem?.mp C
   rw[acn] at h
   split at h
   ·rename_i e
    subst e
    cases h
    exact⟨zJ,.inl ⟨_,CQ o,rfl⟩⟩
   ·rename_i ne
    have J:=mem_of_getElem? h
    refine⟨?_,.inl ⟨_,CQ J,rfl⟩⟩
    have n2:L.1≠q:=λe=>by
     have a1:(d.map (·.1))[j]?=some q:=by rw[getElem?_map,l];rfl
     have U:(d.map (·.1))[k]?=some q:=by rw[getElem?_map,h];exact congrArg some e
     obtain⟨l1,g1⟩:=aal.mp a1
     obtain⟨l2,Q⟩:=aal.mp U
     exact ne ((getElem_inj g.2).mp (g1.trans Q.symm))
    show upd H q _ L.1=_
    rw[zN n2]
    exact(m _ (CQ (p:=p) J)).1
noncomputable def jB(x:cW α)(k:Int)(a:α):Option (cW α):=if 0<=k then(x.xss[k.toNat]?).bind λr=>if r.length<cap then some (cW.mk (x.xss.set k.toNat (r++[a]))) else none else none
theorem zSy{n:Bool}{x:cW α}{m:Option α}{r:Option Int}(i:Nat)(o:sl[i]?=some (.ob n x))(E:sl.all (λs=>!bU s)=true)(h2:Ex B sl .hp t2 r)(h:Ex B sl (cJ n) te m) :
  Sn B sl (tY (Ay K "list" Pq (gF (oW K) (aZ i) t2) (yK te aU))) (λa=>sl.set i (.ob n a)) (r.bind λk=>m.bind λa=>jB x k a):=λc b G D σ H s P=>by
 cases r with
 |none=>cases b
 |some k =>
  cases m with
  |none=>cases b
  |some a =>
   have b:jB x k a=some c:=b
   unfold jB at b
   split at b
   case isFalse=>cases b
   rename_i k0
   cases e:x.xss[k.toNat]? with
   |none=>rw[e] at b;cases b
   |some d =>
    rw[e] at b
    have b:(if d.length<cap then some (cW.mk (x.xss.set k.toNat (d++[a]))) else none)=some c:=b
    split at b
    case isFalse=>cases b
    rename_i hl
    cases b
    obtain⟨F,O,g,z⟩:=s
    obtain⟨p,_,_,_,I,_⟩:=z.CT o E e
    refine⟨_,I,h2 k rfl F O H σ _ z λu2 F2 H2 M R=>?_⟩
    cases R
    have j:=z.grow M
    obtain⟨p2,l,w,vs,y,N,L,w4,X,_⟩:=j.CT o E e
    cases I.symm.trans y
    have q:bL w k=some (.ref l):=by
     have:=TY L
     rw[show((k.toNat:Nat):Int)=k by omega] at this
     exact this
    refine⟨p,w,k,.ref l,rfl,rfl,aN.of N,q,.inl ⟨rfl,_,aN.of X⟩,h a rfl F2 O H2 σ _ j λv F3 H3 A r3=>?_⟩
    have T:=j.grow A
    obtain⟨p3,q3,C,f,Y,Q,Z,y4,U,J,_,_,_,up⟩:=T.CT o E e
    cases I.symm.trans Y
    have S:w=C:=by have:=(A.hh _ _ N).symm.trans Q;cases this;rfl
    subst S
    cases L.symm.trans Z
    obtain⟨O',z'⟩:=up (f++[v]) (d++[a]) (J.snoc r3)
    exact⟨l,f,v,rfl,rfl,U,rQ (by rw[J.len];exact hl),P _ _ ⟨F3,O',g.trans (M.trans A).ff,z'⟩⟩
end
structure Ob0 where
 u:Unit
instance:Ob K Ob0 where
 β:=Unit
 qy:=inferInstance
 ro _ v _ O:=v=.non/\O=[]
 mono _ h:=h
 val _:=()
 mQ h _:=h.1
class X8 (K:Frag) (α:Type) [Rp K α]:Prop where
 keep:∀{F F':Hp}{v:V}{a:α},(∀b t,F b=some (.tup t)->F' b=some (.tup t))->rp K F v a->rp K F' v a
section
variable{K:Frag}
instance:X8 K Int:=⟨λ_ h=>h⟩
variable{B:Bs}{sl sl2:SL K}{F F' H H1 H2 G:Hp}{O:Own}{σ:St}{md:Md}{te t1 t2 t3:TE}{t u:TS}{al:Bool}
theorem At.Kd(X:Addr->Bool)(z:At B sl F O H1 σ)(d:Same H1 H2)(l:sl.all (λs=>!Jl s)=true):∃a,Same F a/\At B sl a O H2 σ/\(∀b o,dif H2 H1 b=some o->X b=false->a b=some o)/\∀b o,dif H2 H1 b=some o->X b=true->a b=none/\B.H0 b=none/\∀x∈O,x.1≠b:=by
 have g:∀b o,dif H2 H1 b=some o->H1 b=none/\H2 b=some o:=λb o e=>by
  unfold dif at e
  grind
 let a:Hp:=λb=>match F b with
  |some o=>some o
  |none=>if X b=true then none else dif H2 H1 b
 have f:∀b o,F b=some o->a b=some o:=λb o e=>by show(match F b with|some o=>some o|none=>_)=_;rw[e]
 have c:∀b,F b=none->a b=if X b=true then none else dif H2 H1 b:=λb e=>by show(match F b with|some o=>some o|none=>_)=_;rw[e]
 refine⟨a,f,⟨⟨λb o e=>?_,z.1.h0.trans d,λb o e=>?_,λx m=>?_,z.1.nd⟩,(z.2.mono f (.refl _) d).calm l⟩,λb o e x=>?_,λb o e x=>?_⟩
 ·cases q:F b with
  |some u=>rw[f b u q] at e;cases e;exact d _ _ (z.1.fh _ _ q)
  |none =>
   grind
 ·cases q:F b with
  |some u=>rw[f b u q] at e;cases e;exact z.1.fa _ _ q
  |none =>
   rw[c b q] at e
   split at e
   ·cases e
   ·exact .inr (z.1.h0.free (g b o e).1)
 ·obtain⟨n,k,i⟩:=z.1.fo x m
  refine⟨?_,k,d _ _ i⟩
  rw[c _ n]
  split
  ·rfl
  ·unfold dif
   rw[i]
 ·rw[c b (z.1.fh.free (g b o e).1),if_neg (by rw[x];decide)]
  exact e
 ·have h:=(g b o e).1
  refine⟨by rw[c b (z.1.fh.free h),if_pos x],z.1.h0.free h,λy j q=>?_⟩
  have:=(z.1.fo y j).2.2
  rw[q,h] at this
  cases this
theorem At.X_{β:Type}[Ob K β]{a:β}{Oc:Own}(z:At B sl F O H σ)(A:sl.all (λs=>!Jl s)=true)(o:sl[i]?=some s)(w:dz s=false)(C:(Oc.map (·.1)).Nodup)(c:∀x∈Oc,F x.1=none/\B.H0 x.1=none/\H x.1=some x.2/\∀y∈O,y.1≠x.1)(r:Ob.ro K (reg B F H (cJ n)) v a Oc):∃I,At B (sl.set i (.ob n a)) F I H (σ.set i (some v)):=by
 obtain⟨k,D⟩:=z
 have q:=D.put (s':=.ob true (Ob0.mk ())) (x:=some .non) (λ_ _ _ y=>ak.ob (Oc:=[]) (show V.non=.non/\([]:Own)=[] from⟨rfl,rfl⟩) y) o w
 obtain⟨l,Oc0,m,v0,e,_,⟨_,rfl⟩,E⟩:=q.mU (uI o)
 have e:O=l++m:=e
 subst e
 have p:=E (.ob n a) (some v) Oc λ_ _ _ y=>.ob r y
 rw[set_set,set_set] at p
 refine⟨l++(Oc++m),⟨k.fh,k.h0,k.fa,λx d=>?_,?_⟩,p.calm (P_ rfl A)⟩
 ·rcases mem_append.mp d with d|d
  ·exact k.fo x (mem_append_left _ d)
  ·rcases mem_append.mp d with d|d
   ·exact⟨(c x d).1,(c x d).2.1,(c x d).2.2.1⟩
   ·exact k.fo x (mem_append_right _ d)
 ·have g:=k.nd
  rw[map_append,nodup_append] at g
  rw[map_append,map_append,nodup_append,nodup_append]
  refine⟨g.1,⟨C,g.2.1,λa h b f e=>?_⟩,λa h b f e=>?_⟩
  ·obtain⟨x,d,rfl⟩:=mem_map.mp h
   obtain⟨y,j,rfl⟩:=mem_map.mp f
   exact(c x d).2.2.2 y (mem_append_right _ j) e.symm
  ·obtain⟨y,j,rfl⟩:=mem_map.mp h
   rcases mem_append.mp f with f|f
   ·obtain⟨x,d,rfl⟩:=mem_map.mp f
    exact(c x d).2.2.2 y (mem_append_left _ j) e
   ·exact g.2.2 _ h _ f e
section
variable{α:Type}[Rp K α]
theorem CV[X8 K α]{s:Slot K}{m:Option (cW α)}(i:Nat)(hs:sl[i]?=some s)(ho:dz s=false)(I:sl.all (λs=>!Jl s)=true)(h:En B sl te m):Sn B sl (g_ te (vR i)) (λa=>sl.set i (.ob true a)) m:=λa ha G D σ H s k=>by
 obtain⟨F,O,g,z⟩:=s
 refine h a ha F O H σ _ z λv F' H1 H2 o X r=>k _ _ ?_
 obtain⟨p,d,rfl,c,U,T⟩:=r
 obtain⟨E,R,z2,L,Y⟩:=(z.grow o).Kd (λb=>decide (b∈(qD p d).map (·.1))) X I
 have C:∀b t,dif H2 H1 b=some (.tup t)->b∉(qD p d).map (·.1):=λb t e N=>by
  obtain⟨y,l,rfl⟩:=mem_map.mp N
  rw[c y l] at e
  rcases mem_cons.mp l with q|l
  ·rw[q] at e;cases e
  ·obtain⟨w,_,q⟩:=mem_map.mp l
   rw[<-q] at e;cases e
 have S:mj K (dif E B.H0) d a.xss:=A2.imp (λ_ _ z=>z.imp λ_ _=>X8.keep λb t e=>by
  have P:B.H0 b=none:=o.ok.h0.free (by
   unfold dif at e
   cases q:H1 b with
   |none=>rfl
   |some u=>rw[q] at e;cases e)
  rw[yR P]
  exact L b _ e (decide_eq_false (C b t e))) T
 obtain⟨Q,z'⟩:=z2.X_ (n:=true) (a:=a) (v:=.ref p) (Oc:=qD p d) I hs ho U (λx A=>by
  obtain⟨a1,Z,M⟩:=Y x.1 x.2 (c x A) (decide_eq_true (mem_map.mpr ⟨x,A,rfl⟩))
  exact⟨a1,Z,aK _ _ (c x A),M⟩) (show∃(J:Addr)(j:Rr),V.ref p=.ref J/\qD p d=qD J j/\mj K (dif E B.H0) j a.xss from⟨p,d,rfl,rfl,S⟩)
 exact⟨E,Q,g.trans (o.ff.trans R),z'⟩
end
theorem Ke{α:Type}[Rp K α]{m:Option (cW α)}(h:Ex B sl md te m):Ex B sl md te (m.bind λx=>some x.xss):=λc b F O H σ Q s k=>by
 cases m with
 |none=>cases b
 |some x=>cases b;exact h x rfl F O H σ Q s λv F' d g r=>k v F' d g (Ka r)
end
end Ts
namespace Sy
open PySem L2 Ts
inductive aW(H:Hp):V->Tr->Prop where
 |all {a:Addr}:H a=some (.tup [.str "all"])->aW H (.ref a) .all
 |mark {a:Addr} {x:Str}:H a=some (.tup [.str "mark",.str x])->aW H (.ref a) (.mark x)
 |one {a:Addr} {i:Fin 7} {v:V} {t:Tr}:H a=some (.tup [.str (w1 i),v])->aW H v t->aW H (.ref a) (.one i t)
 |two {a:Addr} {i:Fin 4} {v u:V} {l r:Tr}:H a=some (.tup [.str (w2 i),v,u])->aW H v l->aW H u r->aW H (.ref a) (.two i l r)
theorem aW.mono(h:aW H v t)(k:∀a xs,H a=some (.tup xs)->H' a=some (.tup xs)):aW H' v t:=by
 induction h with
 |all h=>exact .all (k _ _ h)
 |mark h=>exact .mark (k _ _ h)
 |one h _ ih=>exact .one (k _ _ h) ih
 |two h _ _ b c=>exact .two (k _ _ h) b c
theorem aW.same(h:aW H v t)(s:Same H H'):aW H' v t:=h.mono λa xs e=>s a _ e
inductive Itm where
 |s (x:Str)
 |t (t:Tr)
def items:Tr->List Itm
 |.all=>[.s "all"]
 |.mark x=>[.s "mark",.s x]
 |.one i t=>[.s (w1 i),.t t]
 |.two i l r=>[.s (w2 i),.t l,.t r]
theorem zVd:∀i j:Fin 7,w1 i=w1 j->i=j:=by decide +kernel
theorem zVc:∀i j:Fin 4,w2 i=w2 j->i=j:=by decide +kernel
theorem Yb:∀i:Fin 7,¬w1 i = "mark":=by decide +kernel
theorem Kf:∀i:Fin 7,¬w1 i = "all":=by decide +kernel
theorem CW:∀i:Fin 4,¬w2 i = "mark":=by decide +kernel
theorem Kg:∀i:Fin 4,¬w2 i = "all":=by decide +kernel
theorem zT1:¬(("mark":Str) = "all"):=by decide +kernel
theorem zQt:∀{t u:Tr},items t=items u->t=u
 |.all,.all,_=>rfl
 |.all,.mark _,h=>by simp[items] at h
 |.all,.one _ _,h=>by simp[items] at h
 |.all,.two _ _ _,h=>by simp[items] at h
 |.mark _,.all,h=>by simp[items] at h
 |.mark x,.mark y,h=>by
  simp[items] at h
  rw[h]
 |.mark _,.one i t,h=>by simp[items] at h
 |.mark _,.two _ _ _,h=>by simp[items] at h
 |.one _ _,.all,h=>by simp[items] at h
 |.one i t,.mark _,h=>by simp[items] at h
 |.one i t,.one j u,h=>by
  simp[items] at h
  rw[zVd i j h.1,h.2]
 |.one _ _,.two _ _ _,h=>by simp[items] at h
 |.two _ _ _,.all,h=>by simp[items] at h
 |.two _ _ _,.mark _,h=>by simp[items] at h
 |.two _ _ _,.one _ _,h=>by simp[items] at h
 |.two i l r,.two j l' r',h=>by
  simp[items] at h
  rw[zVc i j h.1,h.2.1,h.2.2]
def Yc(H:Hp)(x:V):Itm->Prop
 |.s y=>x=.str y
 |.t t=>aW H x t
theorem aW.items(h:aW H v t):∃a xs,v=.ref a/\H a=some (.tup xs)/\Paired (Yc H) xs (items t):=by
 cases h with
 |all h=>exact⟨_,_,rfl,h,.cons rfl .nil⟩
 |mark h=>exact⟨_,_,rfl,h,.cons rfl (.cons rfl .nil)⟩
 |one h b=>exact⟨_,_,rfl,h,.cons rfl (.cons b .nil)⟩
 |two h b c=>exact⟨_,_,rfl,h,.cons rfl (.cons b (.cons c .nil))⟩
theorem Vi{α β:Type}{F:α->β->Prop}:∀{l₁:List α}{l₂:List β}{j:Nat}{x:α},Paired F l₁ l₂->l₁[j]?=some x->∃y,l₂[j]?=some y/\F x y
 |_,_,_,_,.nil,e=>by simp at e
 |_,_,0,_,.cons r _,e=>by simp at e;subst e;exact⟨_,rfl,r⟩
 |_,_,j+1,x,.cons _ t,e=>by
  obtain⟨u,h1,h2⟩:=Vi (j:=j) (x:=x) t (by simpa using e)
  exact⟨u,by simpa using h1,h2⟩
theorem zOi(h:Itm.t u∈items t):u.depth<t.depth:=by
 cases t with
 |all=>simp[items] at h
 |mark x=>simp[items] at h
 |one i t=>simp[items] at h;subst h;exact abp _
 |two i l r =>
  simp[items] at h
  rcases h with rfl|rfl
  ·show _<max _ _+1;omega
  ·show _<max _ _+1;omega
theorem aW.inj:∀{t u:Tr},aW H v t->aW H v u->t=u:=by
 intro t u h
 induction h generalizing u with
 |all h =>
  intro b
  cases b with
  |all _=>rfl
  |mark a=>grind
  |one a _=>rw[h] at a;simp at a
  |two a _ _=>rw[h] at a;simp at a
 |mark h =>
  intro b
  cases b with
  |all a=>rw[h] at a;simp at a
  |mark a=>grind
  |one a _=>rw[h] at a;simp at a;exact absurd a.1.symm (Yb _)
  |two a _ _=>rw[h] at a;simp at a
 |one h l ih =>
  intro b
  cases b with
  |all a=>rw[h] at a;simp at a
  |mark a=>rw[h] at a;simp at a;exact absurd a.1 (Yb _)
  |one a c =>
   rw[h] at a
   simp at a
   obtain⟨e,f⟩:=a
   subst f
   rw[zVd _ _ e,ih c]
  |two a _ _=>rw[h] at a;simp at a
 |two h l a g d =>
  intro b
  cases b with
  |all a=>rw[h] at a;simp at a
  |mark a=>rw[h] at a;simp at a
  |one a _=>rw[h] at a;simp at a
  |two c j i =>
   rw[h] at c
   simp at c
   obtain⟨e,f,k⟩:=c
   subst f k
   rw[zVc _ _ e,g j,d i]
theorem sH{α:Type}{l m:List α}(h:l.length=m.length)(k:∀j,j<l.length->l[j]?=m[j]?):l=m:=by
 refine ext_getElem? λj=>?_
 grind
theorem GJ(s:Shared)(ok:eZ P w H s.heap)(n:Nat)(ih:∀(t u:Tr) (A:Around) (v1 v2:V) (x1 x2:Value),t.depth<n->A.units+n<cLine->aW H v1 t->aW H v2 u->RelV v1 x1->RelV v2 x2->∃b,adq A s x1 x2 b/\(b=true->t=u))(t u:Tr)(A:Around)(a1 a2:Addr)(hd:t.depth<n+1)(hu:A.units+(n+1)<cLine)(h1:aW H (.ref a1) t)(h2:aW H (.ref a2) u):∃b,SeqAt.RcAt A s (.ref a1) (.ref a2) b/\(b=true->t=u):=by
 obtain⟨_,v,q1,e1,p1⟩:=h1.items
 obtain⟨_,o,q2,e2,p2⟩:=h2.items
 cases q1
 cases q2
 obtain⟨z1,f,Nm,T1⟩:=ok a1 _ e1
 obtain⟨z2,d,Np,T2⟩:=ok a2 _ e2
 have l1:=Nm.length
 have l2:=Np.length
 have m1:=p1.length
 have m2:=p2.length
 have it:∀j:Nat,∃b:Bool,(∀(x:j<f.toArray.size)(k2:j<d.toArray.size),adq A.in1 s f.toArray[j] d.toArray[j] b)/\(b=true->j<f.length->j<d.length->(items t)[j]?=(items u)[j]?):=λj=>by
  by_cases x:j<f.length
  ·by_cases k2:j<d.length
   ·have g1:v[j]?=some (v[j]'(by omega)):=aaj (by omega)
    have g2:o[j]?=some (o[j]'(by omega)):=aaj (by omega)
    obtain⟨y1,hy1,i⟩:=Nm.get g1
    obtain⟨y2,hy2,h⟩:=Np.get g2
    obtain⟨i1,hi1,f1⟩:=Vi p1 g1
    obtain⟨i2,hi2,f2⟩:=Vi p2 g2
    have q1:f[j]=y1:=aam ((aaj x).symm.trans hy1)
    have q2:d[j]=y2:=aam ((aaj k2).symm.trans hy2)
    rw[hi1,hi2]
    have m:∀b,adq A.in1 s y1 y2 b->∀(x:j<f.toArray.size)(k2:j<d.toArray.size),adq A.in1 s f.toArray[j] d.toArray[j] b:=λb g _ _=>by
     simp only[List.getElem_toArray,q1,q2]
     exact g
    have hu1:A.in1.units+n<cLine:=by show A.units+1+n<cLine;omega
    cases i1 with
    |s p =>
     have f1':v[j]'(by omega)=.str p:=f1
     rw[f1'] at i
     cases i2 with
     |s l =>
      have r:o[j]'(by omega)=.str l:=f2
      rw[r] at h
      refine⟨yr (.str p) (.str l),m _ (zV8 i h rfl rfl),λg _ _=>?_⟩
      rw[adu (show(p==l)=true from g)]
     |t l =>
      obtain⟨a,ys,e,ea,pa⟩:=aW.items f2
      rw[e] at h
      cases h
      obtain⟨tk,rfl⟩:=i
      obtain⟨_,_,_,Ta⟩:=ok a _ ea
      exact⟨false,m _ (SeqAt.EqAt.str_tuple p tk (show s.heap.IsTuple a _ from Ta) (by omega)),λg=>by cases g⟩
    |t p =>
     cases i2 with
     |s l =>
      have r:o[j]'(by omega)=.str l:=f2
      rw[r] at h
      obtain⟨a,ys,e,ea,pa⟩:=aW.items f1
      rw[e] at i
      cases i
      obtain⟨tk,rfl⟩:=h
      obtain⟨_,_,_,Ta⟩:=ok a _ ea
      exact⟨false,m _ (SeqAt.EqAt.tuple_str l tk (show s.heap.IsTuple a _ from Ta) (by omega)),λg=>by cases g⟩
     |t l =>
      have dlt:p.depth<n:=by
       have:=zOi (mem_of_getElem? hi1)
       omega
      obtain⟨b,g,q⟩:=ih p l A.in1 _ _ y1 y2 dlt hu1 f1 f2 i h
      exact⟨b,m _ g,λhbt _ _=>by rw[q hbt]⟩
   ·exact⟨false,λ_ k=>absurd (by simpa using k) k2,λg=>by cases g⟩
  ·exact⟨false,λk _=>absurd (by simpa using k) x,λg=>by cases g⟩
 obtain⟨e,he⟩:=Classical.axiomOfChoice it
 refine⟨_,SeqAt.RcAt.tuples (show s.heap.IsTuple a1 _ from T1) (show s.heap.IsTuple a2 _ from T2) (by omega) (e:=e) (λj x k2=>(he j).1 x k2),λg=>?_⟩
 rw[aaz] at g
 obtain⟨hb1,q⟩:=g
 have hs:f.length=d.length:=by simpa using q
 rw[all_eq_true] at hb1
 refine zQt (sH (by omega) λj hj=>?_)
 refine(he j).2 (hb1 j ?_) (by omega) (by omega)
 rw[mem_range]
 simp
 omega
theorem GK(s:Shared)(m:eZ P w H s.heap):∀(n:Nat)(t u:Tr)(A:Around)(c d:V)(e f:Value),t.depth<n->A.units+n<cLine->aW H c t->aW H d u->RelV c e->RelV d f ->
  ∃b,adq A s e f b/\(b=true->t=u)
 |0,_,_,_,_,_,_,_,h,_,_,_,_,_=>absurd h (ab2 _)
 |n+1,t,u,A,c,d,e,f,hd,q,i,j,p,r2=>by
  obtain⟨l,xs1,rfl,e1,p1⟩:=i.items
  obtain⟨k,xs2,rfl,e2,p2⟩:=j.items
  cases p
  cases r2
  by_cases o:l=k
  ·subst o
   exact⟨true,SeqAt.EqAt.same _,λ_=>i.inj j⟩
  obtain⟨b,hb,g⟩:=GJ s m n (λt u A c d e f=>GK s m n t u A c d e f) t u A l k hd q i j
  exact⟨b,SeqAt.EqAt.of_refs o hb,g⟩
def Rb:R2:=λx y H Q=>∃t u,aW H x t/\aW H y u/\t.depth<20/\∀b:Bool,(b=true->t=u)->Q (.bl b) H
theorem CZ{X:Cx}(hu:X.A.units+64<cLine):jU X (compareOp .Eq) Rb:=by
 intro pins s σ H x y v u Q I k e h
 obtain⟨t,j,d,a,hd,q⟩:=h
 obtain⟨m,xs1,rfl,e1,p1⟩:=d.items
 obtain⟨i,xs2,rfl,e2,p2⟩:=a.items
 cases k
 cases e
 obtain⟨b,o,c⟩:=GJ s I.hok 19 (λt u A n g l f=>GK s I.hok 19 t u A n g l f) t j X.A m i hd (by omega) d a
 exact o _ _ _ _ ⟨.bl b,H,I,rfl,q b c⟩
end Sy
namespace Ts
open PySem L2
section
variable{K:Frag}
variable{B:Bs}{sl sl2:SL K}{F H G:Hp}{O:Own}{σ:St}{md:Md}{te t2 t3:TE}{t u:TS}{al:Bool}
theorem At.C_{β:Type}[Ob K β]{a:β}(z:At B sl F O H σ)(hn:sl.all (λs=>!Jl s)=true)(hs:sl[i]?=some (.ob n a)) :
  ∃Oc v,σ[i]?=some (some v)/\Ob.ro K (reg B F H (cJ n)) v a Oc/\(∀x∈Oc,H x.1=some x.2/\F x.1=none/\B.H0 x.1=none)/\(Oc.map (·.1)).Nodup/\(∀x∈Oc,x∈O) /\
   ∀(L:β)(f:Own)(H':Hp),Ob.ro K (reg B F H (cJ n)) v L f->(f.map (·.1)).Nodup->(∀b u,H b=some u->(∀x∈Oc,x.1≠b)->H' b=some u)->(∀x∈f,H' x.1=some x.2/\F x.1=none/\B.H0 x.1=none/\((∃y∈Oc,y.1=x.1)\/∀y∈O,y.1≠x.1))->∃O',At B (sl.set i (.ob n L)) F O' H' σ:=by
 obtain⟨k,z0⟩:=z
 obtain⟨A,Oc,C,v,rfl,h1,h2,h3⟩:=z0.mU hs
 have j:∀x∈Oc,x∈A++(Oc++C):=λx c=>mem_append_right _ (mem_append_left _ c)
 have Z:=k.nd
 rw[map_append,map_append,nodup_append] at Z
 obtain⟨P,J,I⟩:=Z
 rw[nodup_append] at J
 obtain⟨R,N,U⟩:=J
 have m:∀x∈A,∀y∈Oc,y.1≠x.1:=λx c y h e=>I x.1 (mem_map.mpr ⟨x,c,rfl⟩) y.1 (mem_append_left _ (mem_map.mpr ⟨y,h,rfl⟩)) e.symm
 have l:∀x∈C,∀y∈Oc,y.1≠x.1:=λx c y h e=>U y.1 (mem_map.mpr ⟨y,h,rfl⟩) x.1 (mem_map.mpr ⟨x,c,rfl⟩) e
 have D:∀x∈A,x∈A++(Oc++C):=λx c=>mem_append_left _ c
 have E:∀x∈C,x∈A++(Oc++C):=λx c=>mem_append_right _ (mem_append_right _ c)
 refine⟨Oc,v,h1,h2,λx c=>⟨(k.fo x (j x c)).2.2,(k.fo x (j x c)).1,(k.fo x (j x c)).2.1⟩,R,j,λL f H' r X g d=>⟨A++(f++C),?_,?_⟩⟩
 ·refine⟨λb o e=>?_,λb o e=>?_,k.fa,λx c=>?_,?_⟩
  ·exact g b o (k.fh b o e) λx c q=>by rw[<-q,(k.fo x (j x c)).1] at e;cases e
  ·exact g b o (k.h0 b o e) λx c q=>by rw[<-q,(k.fo x (j x c)).2.1] at e;cases e
  ·rcases mem_append.mp c with c|c
   ·obtain⟨T,Q,S⟩:=k.fo x (D x c)
    exact⟨T,Q,g _ _ S (m x c)⟩
   ·rcases mem_append.mp c with c|c
    ·exact⟨(d x c).2.1,(d x c).2.2.1,(d x c).1⟩
    ·obtain⟨T,Q,S⟩:=k.fo x (E x c)
     exact⟨T,Q,g _ _ S (l x c)⟩
  ·have fresh:∀x∈f,∀y,y∈A\/y∈C->y.1≠x.1:=λx c y h e=>by
    rcases(d x c).2.2.2 with⟨w,Y,q⟩|q
    ·rcases h with h|h
     ·exact m y h w Y (q.trans e.symm)
     ·exact l y h w Y (q.trans e.symm)
    ·exact q y (h.elim (D y) (E y)) e
   rw[map_append,map_append,nodup_append,nodup_append]
   refine⟨P,⟨X,N,λa M b p e=>?_⟩,λa M b p e=>?_⟩
   ·obtain⟨x,c,rfl⟩:=mem_map.mp M
    obtain⟨y,h,rfl⟩:=mem_map.mp p
    exact fresh x c y (.inr h) e.symm
   ·obtain⟨y,h,rfl⟩:=mem_map.mp M
    rcases mem_append.mp p with p|p
    ·obtain⟨x,c,rfl⟩:=mem_map.mp p
     exact fresh x c y (.inl h) e
    ·exact I _ M _ (mem_append_right _ p) e
 ·have zz:=h3 (.ob n L) (some v) f λ_ _ _ y=>.ob r y
  rw[P0 h1] at zz
  exact zz.calm (P_ rfl hn)
theorem Dd(e:dif a c b=some o):c b=none/\a b=some o:=by
 unfold dif at e
 grind
end
section
variable{K:Frag}
variable{B:Bs}{sl sl2:SL K}{F H G:Hp}{O:Own}{σ:St}{md:Md}{te t1 t2 t3:TE}{t u:TS}{al:Bool}
theorem Yd:∀{vs:List V}{xs:LI},A2 (rp K R) vs xs->vs=xs.map V.int
 |[],[],_=>rfl
 |v::vs,x::xs,h=>by
  have e:=h.1
  rw[e,Yd h.2];rfl
 |[],_::_,h=>h.elim
 |_::_,[],h=>h.elim
end
structure mW where
 xss:List LI
def n7(R:Hp)(ps:List Addr)(xss:List LI):Prop:=A2 (λ(q:Addr) (a:LI)=>R q=some (.lst (a.map V.int))) ps xss
section
variable{K:Frag}
theorem n7.mono(s:Same R a)(h:n7 R ps xss):n7 a ps xss:=A2.imp (λ_ _ e=>s _ _ e) h
theorem Ye:∀{ps:List Addr}{xss:List LI},n7 R ps xss->A2 (rp K R) (ps.map V.ref) xss
 |[],[],_=>trivial
 |q::ps,a::xss,h=>⟨⟨q,_,rfl,h.1,uU a⟩,Ye h.2⟩
 |[],_::_,h=>h.elim
 |_::_,[],h=>h.elim
theorem Vj:∀{ps:List Addr}{xss:List LI}{q:Addr},n7 R ps xss->q∈ps->∃a,R q=some (.lst (aev V.int a))
 |p::ps,a::xss,q,h,b=>by
  rcases mem_cons.mp b with e|b
  ·rw[e];exact⟨a,h.1⟩
  ·exact Vj h.2 b
 |[],_,_,_,b=>by cases b
 |_::_,[],_,h,_=>h.elim
theorem zPp{ps a:List Addr}(h:ps.map V.ref=a.map V.ref):ps=a:=(List.map_inj_right λ_ _ e=>V.ref.inj e).mp h
instance:Ob K mW where
 β:=List LI
 qy:=inferInstance
 ro R v x Oc:=∃(p:Addr)(ps:List Addr),v=.ref p/\Oc=[(p,.lst (ps.map V.ref))]/\ps.Nodup/\n7 R ps x.xss
 mono s:=λ⟨p,ps,h1,h2,h3,h4⟩=>⟨p,ps,h1,h2,h3,h4.mono s⟩
 val x:=x.xss
 mQ:=λ⟨p,ps,h1,h2,h3,h4⟩ m=>by
  subst h2
  exact⟨p,_,h1,m _ mem_cons_self,Ye h4⟩
variable{B:Bs}{sl sl2:SL K}{F H G:Hp}{O:Own}{σ:St}{md:Md}{te t2 t3:TE}{t u:TS}{al:Bool}
theorem zSv(i:Nat)(e:sl[i]?=some s)(d:dz s=false):Sn B sl (g_ (uc aU) (vR i)) (λx:mW=>sl.set i (.ob true x)) (some (mW.mk [])):=λa f G D σ H s k=>by
 cases f
 obtain⟨F,O,g,j,c⟩:=s
 refine⟨aa0 _,λp b=>k _ _ ?_⟩
 obtain⟨O1,O2,rfl,h⟩:=c.own (s':=.ob true (mW.mk [])) (λ_ _ _ z=>ak.ob (Oc:=[(p,.lst [])]) (⟨p,[],rfl,rfl,.nil,trivial⟩) z) e d
 exact⟨F,_,g,j.add b,h.mono (.refl _) (WX b) (au b _)⟩
noncomputable def pL(x:mW)(ys:LI):Option mW:=if x.xss.length<cap then some (mW.mk (x.xss++[ys])) else none
theorem zSx(i:Nat)(Q:sl[i]?=some (.ob true x))(J:sl.all (λs=>!Jl s)=true)(h:En B sl te m) :
  Sn B sl (tY (Ay K "list" Pq (aZ i) (yK te aU))) (λa=>sl.set i (.ob true a)) (m.bind λy=>pL x y):=λc d G D σ H s k=>by
 cases m with
 |none=>cases d
 |some y =>
  have d:pL x y=some c:=d
  unfold pL at d
  split at d
  case isFalse=>cases d
  rename_i hl
  cases d
  obtain⟨F,O,g,z⟩:=s
  obtain⟨Oc,v,R,⟨p,f,rfl,rfl,nd0,N⟩,S,_⟩:=z.C_ J Q
  refine⟨_,R,.inl ⟨rfl,_,aN.of (S _ mem_cons_self).1⟩,h y rfl F O H σ _ z λv F' H1 H2 j M r=>?_⟩
  obtain⟨q,vs,rfl,l,r2⟩:=r
  rw[Yd r2] at l
  obtain⟨T,Y,z2,X,_⟩:=(z.grow j).Kd (λ_=>false) M J
  obtain⟨Oc2,v2,E,⟨p2,n,rfl,rfl,I,o⟩,C,nd,Kc,up⟩:=z2.C_ J Q
  cases R.symm.trans E
  have P:=(C _ mem_cons_self).1
  have L:f=n:=by
   have a:=(j.hh.trans M) _ _ (S _ mem_cons_self).1
   have b:=a.symm.trans P
   exact zPp (HO.lst.inj (aam b))
  subst L
  have fq:dif T B.H0 q=some (.lst (y.map V.int)):=by
   rw[yR (j.ok.h0.free (Dd l).1)]
   exact X q _ l rfl
  have Z:q∉f:=λhq=>by
   obtain⟨row,e⟩:=Vj N hq
   have:=(rP z.1 true _ _ e)
   have:=j.hh _ _ this
   rw[(Dd l).1] at this;cases this
  refine⟨p,_,.ref q,rfl,rfl,P,rQ (by rw[length_map,show f.length=x.xss.length from N.len];exact hl),?_⟩
  obtain⟨O',z'⟩:=up (mW.mk (x.xss++[y])) [(p,.lst ((f++[q]).map V.ref))] (upd H2 p (.lst (f.map V.ref++[.ref q]))) ⟨p,f++[q],rfl,rfl,by
   rw[nodup_append]
   refine⟨I,by simp,λa ha b hb e=>Z ?_⟩
   rw[<-mem_singleton.mp hb,<-e];exact ha,A2.snoc o fq⟩ (by simp) (λb u e A=>by
   rw[zN λe2=>A _ mem_cons_self e2.symm];exact e) (λw U=>by
   rw[mem_singleton.mp U]
   exact⟨by rw[zJ,map_append];rfl,(C _ mem_cons_self).2.1,(C _ mem_cons_self).2.2,.inl ⟨_,mem_cons_self,rfl⟩⟩)
  exact k _ _ ⟨T,O',(g.trans j.ff).trans Y,z'⟩
theorem zS8{x:mW}(i:Nat)(hs:sl[i]?=some (.ob true x)):SB B sl (dY (nH (aZ i)) u) false (some (cW.mk x.xss)):=λb hb G D σ H s k=>by
 cases hb
 obtain⟨F,O,g,a⟩:=s
 obtain⟨O1,Oc,O2,v,e,h1,⟨p,ps,rfl,rfl,nd,h2⟩,_⟩:=a.2.mU hs
 have Kc:(p,HO.lst (ps.map V.ref))∈O:=by rw[e];exact mem_append_right _ (mem_append_left _ mem_cons_self)
 obtain⟨f0,a2,a3⟩:=a.1.fo _ Kc
 have rows:∀{ps:List Addr}{xss:List LI},n7 (dif F B.H0) ps xss->∃rs:Rr,rs.map (·.1)=ps/\(∀r∈rs,dif H B.H0 r.1=some (.lst r.2))/\mj K (dif H B.H0) rs xss:=by
  intro ps
  induction ps with
  |nil =>
   intro xss h
   cases xss with
   |nil=>exact⟨[],rfl,λr hr=>(by cases hr),trivial⟩
   |cons _ _=>exact h.elim
  |cons q ps ih =>
   intro xss h
   cases xss with
   |nil=>exact h.elim
   |cons row xss =>
    obtain⟨rs,e1,e2,e3⟩:=ih h.2
    refine⟨(q,row.map V.int)::rs,by rw[map_cons,e1],λr hr=>?_,⟨uU row,e3⟩⟩
    rcases mem_cons.mp hr with e|hr
    ·rw[e];exact yO a.1.fh _ _ h.1
    ·exact e2 r hr
 obtain⟨rs,e1,e2,e3⟩:=rows h2
 have el:(rs.map λr=>V.ref r.1)=ps.map V.ref:=by rw[<-e1,map_map];rfl
 refine⟨_,h1,k _ H ⟨a.1.h0,p,rs,rfl,λy hy=>?_,?_,e3⟩⟩
 ·rcases mem_cons.mp hy with q|hy
  ·rw[q]
   show dif H B.H0 p=some (.lst (rs.map λr=>V.ref r.1))
   rw[el,yR a2];exact a3
  ·obtain⟨r,hr,rfl⟩:=mem_map.mp hy
   exact e2 r hr
 ·show((qD p rs).map λy:Addr×HO=>y.1).Nodup
  rw[Ra,e1]
  refine nodup_cons.mpr ⟨λhq=>?_,nd⟩
  obtain⟨row,er⟩:=Vj h2 hq
  have:=aK _ _ er
  rw[show F p=none from f0] at this;cases this
noncomputable def pN(x:mW)(y:cW Int):Option mW:=if x.xss.length+y.xss.length<cap then some (mW.mk (x.xss++y.xss)) else none
theorem GP:∀{rs:Rr}{xss:List LI},mj K R rs xss->(∀r∈rs,R r.1=some (.lst r.2))->n7 R (rs.map (·.1)) xss
 |[],[],_,_=>trivial
 |r::rs,row::xss,h,m=>⟨by have:=m r mem_cons_self;rw[Yd h.1] at this;exact this,GP h.2 λq hq=>m q (mem_cons_of_mem _ hq)⟩
 |[],_::_,h,_=>h.elim
 |_::_,[],h,_=>h.elim
theorem zSw(i:Nat)(hs:sl[i]?=some (.ob true x))(T:sl.all (λs=>!Jl s)=true)(h:En B sl te m) :
  Sn B sl (tY (Ay K "list" T4 (aZ i) (yK te aU))) (λa=>sl.set i (.ob true a)) (m.bind λy=>pN x y):=λc n G D σ H s k=>by
 cases m with
 |none=>cases n
 |some y =>
  have n:pN x y=some c:=n
  unfold pN at n
  split at n
  case isFalse=>cases n
  rename_i hl
  cases n
  obtain⟨F,O,g,z⟩:=s
  obtain⟨Oc,v,h1,⟨p,A,rfl,rfl,nd0,Z⟩,c1,_⟩:=z.C_ T hs
  refine⟨_,h1,.inl ⟨rfl,_,aN.of (c1 _ mem_cons_self).1⟩,h y rfl F O H σ _ z λv F' H1 H2 C Y r=>?_⟩
  obtain⟨q,j,rfl,d,l,r4⟩:=r
  obtain⟨U,sf,z2,o1,_⟩:=(z.grow C).Kd (λ_=>false) Y T
  obtain⟨Oc2,v2,J,⟨p2,L,rfl,rfl,M,X⟩,N,nd,Kc,up⟩:=z2.C_ T hs
  cases h1.symm.trans J
  have hp:=(N _ mem_cons_self).1
  have Q:A=L:=by
   have a:=(C.hh.trans Y) _ _ (c1 _ mem_cons_self).1
   have b:=a.symm.trans hp
   exact zPp (HO.lst.inj (aam b))
  subst Q
  have I:∀r∈j,dif H2 H1 r.1=some (.lst r.2):=λr o=>d _ (CQ (p:=q) o)
  have fr:n7 (dif U B.H0) (j.map (·.1)) y.xss:=GP (K:=K) (R:=dif U B.H0) (A2.imp (λ_ _ z=>z.imp λ_ _ e=>e) r4) λr o=>by
   rw[yR (C.ok.h0.free (Dd (I r o)).1)]
   exact o1 _ _ (I r o) rfl
  have S:(j.map (·.1)).Nodup:=by
   have l:((qD q j).map λy:Addr×HO=>y.1).Nodup:=l
   rw[Ra] at l
   exact(nodup_cons.mp l).2
  have hq:=(Dd (d _ mem_cons_self)).2
  have el:(j.map λr=>V.ref r.1)=(j.map (·.1)).map V.ref:=by rw[map_map];rfl
  refine⟨p,q,_,_,rfl,rfl,hp,hq,by rw[length_map,length_map,show A.length=x.xss.length from Z.len,show j.length=y.xss.length from r4.len];exact ab3 (rQ hl),?_⟩
  obtain⟨O',z'⟩:=up (mW.mk (x.xss++y.xss)) [(p,.lst ((A++j.map (·.1)).map V.ref))] (upd H2 p (.lst (A.map V.ref++j.map λr=>V.ref r.1))) ⟨p,A++j.map (·.1),rfl,rfl,(by
   rw[nodup_append]
   refine⟨M,S,λa ha b hb e=>?_⟩
   obtain⟨r,o,rfl⟩:=mem_map.mp hb
   obtain⟨row,P⟩:=Vj Z ha
   have:=C.hh _ _ (rP z.1 true _ _ P)
   rw[e,(Dd (I r o)).1] at this;cases this),A2.app X fr⟩ (by simp) (λb u e E=>by
   rw[zN λP=>E _ mem_cons_self P.symm];exact e) (λw hw=>by
   rw[mem_singleton.mp hw]
   exact⟨by rw[zJ,map_append,el],(N _ mem_cons_self).2.1,(N _ mem_cons_self).2.2,.inl ⟨_,mem_cons_self,rfl⟩⟩)
  exact k _ _ ⟨U,O',(g.trans C.ff).trans sf,z'⟩
theorem Df{x:mW}{b:Option Int}(i:Nat)(n:sl[i]?=some (.ob true x))(h2:Ex B sl .hp t2 b):Ex B sl .nw (gF (oW K) (aZ i) t2) (b.bind λi=>L2.bL x.xss i):=λc f F O H σ Q s k=>by
 cases b with
 |none=>cases f
 |some j =>
  obtain⟨O1,Oc,O2,v,e,m,⟨p,ps,rfl,rfl,nd,o⟩,_⟩:=s.2.mU n
  have a:=(s.1.fo _ (by rw[e];exact mem_append_right _ (mem_append_left _ mem_cons_self))).2.2
  refine⟨_,m,?_⟩
  refine h2 j rfl F _ H σ _ s λw g q d l=>?_
  cases l
  obtain⟨u,h,r⟩:=(Ye o).bL f
  exact⟨p,_,j,u,rfl,rfl,aN.of (d.hh _ _ a),h,k u g q d (Rp.mono (xG d .nw) r)⟩
end
section
variable{K:Frag}{B:Bs}{sl:SL K}{F H G L:Hp}{O:Own}{σ:St}{te t2 ti:TE}{t u:TS}{al:Bool}{md:Md}
def lend:List V->SL K->SL K
 |_,[]=>[]
 |b,@Slot.fz _ _ _ _ a::sl=>.fz false (Fx.mk a:Fx (b.headD .non) _)::lend b.tail sl
 |b,@Slot.ob _ _ α _ a::sl=>@Slot.fz K false (Fx (b.headD .non) (Ob.β K α)) (@instRpFx K (Ob.β K α) Ob.qy _) (Fx.mk (Ob.val a))::lend b.tail sl
 |b,@Slot.ow _ n _ _ c::sl=>.ow n c::lend b.tail sl
 |b,_::sl=>.un::lend b.tail sl
abbrev GQ:Slot K->Bool
 |.un=>true
 |@Slot.fz _ _ _ _ _=>true
 |@Slot.ob _ _ _ _ _=>true
 |@Slot.ow _ true _ _ []=>true
 |_=>false
inductive mq:SL K->SL K->Prop
 |nil:mq [] []
 |un {s:Slot K} {a b:SL K}:dz s=false->mq a b->mq (s::a) (.un::b)
 |fz {n:Bool} {α:Type} [Rp K α] {x:α} {a b:SL K}:mq a b->mq (.fz n x::a) (.fz n x::b)
 |ob {n:Bool} {α:Type} [Ob K α] {x:α} {a b:SL K}:mq a b->mq (.ob n x::a) (.ob n x::b)
 |ow {α:Type} [Rp K α] {xs:List α} {a b:SL K}:mq a b->mq (.ow true ([]:List α)::a) (.ow true xs::b)
theorem GR(n:Bool):Same (reg B F H (cJ n)) F:=match n with
 |true=>aK
 |false=>.refl _
theorem Dg(h:ak B F L H sl σ O)(pl:sl.all GQ=true):∃(vs:List V)(j Oc:Own),O.Perm (j++Oc) /\
  (∀c i k m,Same F i->(∀x∈Oc,i x.1=some x.2)->ak c i k m (lend vs sl) σ j) /\
  ∀d,mq sl d->∀c D E I w O2 f,ak c D E I (lend vs d) w O2->Same F f->Same (dif D c.H0) (dif f B.H0)->∃g,g.Perm (O2++Oc)/\∀S T,ak B f S T d w g:=by
 induction h with
 |nil=>exact⟨[],[],[],.nil,λ_ _ _ _ _ _=>.nil,λd e c D E I w O2 f z _ _=>by cases e;cases z;exact⟨[],.nil,λ_ _=>.nil⟩⟩
 |un _ ih =>
  rw[all_cons,aaz] at pl
  obtain⟨vs,j,Oc,e,s,o⟩:=ih pl.2
  refine⟨.non::vs,j,Oc,e,λc i k m a b=>.un (s c i k m a b),λd e c D E I w O2 f z a b=>?_⟩
  cases e with
  |un _ e=>cases z with|un z=>obtain⟨g,p,q⟩:=o _ e _ _ _ _ _ _ f z a b;exact⟨g,p,λl h=>.un (q l h)⟩
 |@fz n α _ a sl σ O v r _ ih =>
  rw[all_cons,aaz] at pl
  obtain⟨vs,j,Oc,e,s,o⟩:=ih pl.2
  refine⟨v::vs,j,Oc,e,λc i k m a b=>.fz (n:=false) ⟨rfl,Rp.mono ((GR n).trans a) r⟩ (s c i k m a b),λd e c D E I w O2 f z a b=>?_⟩
  cases e with
  |un _ e=>cases z with|un z=>obtain⟨g,p,q⟩:=o _ e _ _ _ _ _ _ f z a b;exact⟨g,p,λl h=>.un (q l h)⟩
  |fz e =>
   cases z with
   |fz J z =>
    obtain⟨g,p,q⟩:=o _ e _ _ _ _ _ _ f z a b
    obtain rfl:=J.1
    exact⟨g,p,λl h=>.fz (n:=n) (Rp.mono (yI n a) r) (q l h)⟩
 |hs r _ ih=>rw[all_cons,aaz] at pl;exact absurd pl.1 (by simp)
 |nu r _ ih=>rw[all_cons,aaz] at pl;exact absurd pl.1 (by simp)
 |@ow n α _ N sl σ O p vs r _ ih =>
  rw[all_cons,aaz] at pl
  have R:n=true/\N=[]:=by cases n<;>cases N<;>first|exact⟨rfl,rfl⟩|exact absurd pl.1 (by simp)
  obtain⟨rfl,rfl⟩:=R
  cases vs with
  |cons _ _=>exact r.elim
  |nil =>
   obtain⟨Q,j,Oc,e,s,o⟩:=ih pl.2
   refine⟨.non::Q,(p,.lst [])::j,Oc,e.cons _,λc i k m a b=>.ow (n:=true) (vs:=[]) trivial (s c i k m a b),λd e c D E I w O2 f z a b=>?_⟩
   cases e with
   |un q _=>cases q
   |ow e =>
    cases z with
    |ow J z =>
     obtain⟨g,p,q⟩:=o _ e _ _ _ _ _ _ f z a b
     exact⟨_::g,p.cons _,λl h=>.ow (n:=true) (J.imp λ_ _=>Rp.mono b) (q l h)⟩
 |od r _ ih=>rw[all_cons,aaz] at pl;exact absurd pl.1 (by simp)
 |@ob n α _ x sl σ O C v r _ ih =>
  rw[all_cons,aaz] at pl
  obtain⟨vs,j,Oc,e,s,o⟩:=ih pl.2
  have P:∀A:Own,(C++(A++Oc)).Perm (A++(C++Oc)):=λA=>by
   rw[<-append_assoc,<-append_assoc]
   exact List.perm_append_comm.append_right _
  refine⟨v::vs,j,C++Oc,(e.append_left C).trans (P j),λc i k m a b=>@ak.fz K c i k m false _ (@instRpFx K (Ob.β K α) Ob.qy v) (Fx.mk (Ob.val x)) _ _ _ v ⟨rfl,Ob.mQ (Ob.mono ((GR n).trans a) r) λy M=>b y (mem_append_left _ M)⟩ (s c i k m a λy M=>b y (mem_append_right _ M)),λd e c D E I w O2 f z a b=>?_⟩
  cases e with
  |un q _=>cases q
  |ob e =>
   cases z with
   |fz J z =>
    obtain⟨g,p,q⟩:=o _ e _ _ _ _ _ _ f z a b
    obtain rfl:=J.1
    exact⟨_++g,(p.append_left C).trans (P O2),λl h=>.ob (Ob.mono (yI n a) r) (q l h)⟩
theorem Dh{β S:Type}[Rp K β]{Lf:S->SL K}{m:Option (Out S β)}(pl:sl.all GQ=true)(hL:∀s,mq sl (Lf s))(h:∀B' vs,Sx B' (lend vs sl) t false (λs=>lend vs (Lf s)) m):Sx B sl t false Lf m:=λo ho G D σ H s q=>by
 obtain⟨F,O,g,k,z⟩:=s
 obtain⟨vs,C,Q,pm,hin,Z⟩:=Dg z pl
 have nd:((C++Q).map (·.1)).Nodup:=(pm.map (·.1)).nodup_iff.mp k.nd
 rw[map_append,nodup_append] at nd
 have dj:∀x∈C,∀y∈Q,x.1≠y.1:=λx d y M=>nd.2.2 _ (mem_map.mpr ⟨x,d,rfl⟩) _ (mem_map.mpr ⟨y,M,rfl⟩)
 have N:∀x,x∈C\/x∈Q->F x.1=none/\B.H0 x.1=none/\H x.1=some x.2:=λx d=>k.fo x (pm.mem_iff.mpr (mem_append.mpr d))
 let r:Hp:=λb=>if Q.any (λx=>x.1==b) then H b else F b
 let f:Hp:=λb=>if C.any (λx=>x.1==b) then none else H b
 have p:∀b,r b=if Q.any (λx=>x.1==b) then H b else F b:=λ_=>rfl
 have P:∀b,f b=if C.any (λx=>x.1==b) then none else H b:=λ_=>rfl
 have i:∀{A:Own}{b:Addr},A.any (λx=>x.1==b)=true↔∃x∈A,x.1=b:=λ{A b}=>by rw[any_eq_true];exact⟨λ⟨x,a,e⟩=>⟨x,a,adu e⟩,λ⟨x,a,e⟩=>⟨x,a,beq_iff_eq.mpr e⟩⟩
 have l:∀b,(∀x∈C,x.1≠b)->f b=H b:=λb hb=>by rw[P,if_neg];intro e;obtain⟨x,d,e⟩:=i.mp e;exact hb x d e
 have sF:Same F r:=λb o e=>by
  rw[p]
  split
  ·exact k.fh _ _ e
  ·exact e
 have cF:∀x∈Q,r x.1=some x.2:=λx d=>by rw[p,if_pos (i.mpr ⟨x,d,rfl⟩)];exact(N x (.inr d)).2.2
 have I:Same F f:=λb o e=>by rw[l b λx d n=>by rw[<-n,(N x (.inl d)).1] at e;cases e];exact k.fh _ _ e
 have j:Same B.H0 f:=λb o e=>by rw[l b λx d n=>by rw[<-n,(N x (.inl d)).2.1] at e;cases e];exact k.h0 _ _ e
 have owN:∀x∈C,f x.1=none:=λx d=>by rw[P,if_pos (i.mpr ⟨x,d,rfl⟩)]
 have R:∀x∈Q,f x.1=some x.2:=λx d=>by rw[l _ λy M e=>dj y M x d e];exact(N x (.inr d)).2.2
 have k1:Ok ⟨r,f⟩ r C H:=by
  refine⟨λb o e=>?_,λb o e=>?_,λb o e=>.inl e,λx d=>⟨?_,owN x d,(N x (.inl d)).2.2⟩,nd.1⟩
  ·rw[p] at e
   split at e
   ·exact e
   ·exact k.fh _ _ e
  ·have e:f b=some o:=e
   rw[P] at e
   split at e
   ·cases e
   ·exact e
  ·rw[p,if_neg λe=>by obtain⟨y,M,e⟩:=i.mp e;exact dj x d y M e.symm]
   exact(N x (.inl d)).1
 refine h ⟨r,f⟩ vs o ho r D σ H ⟨r,C,.refl _,k1,hin _ r _ H sF cF⟩ ?_
 cases o with
 |rt b=>exactλv T ⟨a1,E⟩=>q v T ⟨j.trans a1,Rp.mono (λc o e=>by
   have e:dif T f c=some o:=e
   obtain⟨e1,e2⟩:=Dd e
   show dif T B.H0 c=some o
   rw[yR (j.free e1)]
   exact e2) E⟩
 |nx s =>
  rintro σ' T ⟨F2,O2,g2,k2,z2⟩
  have J:Same f T:=k2.h0
  let Y:Hp:=λb=>match F b with
   |some o=>some o
   |none=>dif F2 f b
  have sn:Same F Y:=λb o e=>by show(match F b with|some o=>some o|none=>dif F2 f b)=some o;rw[e]
  have X:∀b,F b=none->Y b=dif F2 f b:=λb e=>by show(match F b with|some o=>some o|none=>dif F2 f b)=_;rw[e]
  have sd:Same (dif F2 f) (dif Y B.H0):=λb o e=>by
   obtain⟨e1,e2⟩:=Dd e
   rw[yR (j.free e1),X b (I.free e1)]
   exact e
  obtain⟨O',U,zz⟩:=Z _ (hL s) _ _ _ _ _ _ Y z2 sn sd
  have o2N:∀x∈O2,f x.1=none:=λx d=>(k2.fo x d).2.1
  refine q σ' T ⟨Y,O',g.trans sn,⟨λb o e=>?_,j.trans J,λb o e=>?_,λx d=>?_,?_⟩,zz _ _⟩
  ·cases w:F b with
   |some u=>rw[sn _ _ w] at e;cases e;exact J _ _ (I _ _ w)
   |none=>rw[X b w] at e;exact k2.fh _ _ (aK _ _ e)
  ·cases w:F b with
   |some u=>rw[sn _ _ w] at e;cases e;exact k.fa _ _ w
   |none=>rw[X b w] at e;exact .inr (j.free (Dd e).1)
  ·rcases mem_append.mp (U.mem_iff.mp d) with d|d
   ·obtain⟨a1,E,a3⟩:=k2.fo x d
    have E:f x.1=none:=E
    exact⟨by rw[X _ (I.free E),yR E];exact a1,j.free E,a3⟩
   ·obtain⟨a1,E,_⟩:=N x (.inr d)
    refine⟨?_,E,J _ _ (R x d)⟩
    rw[X _ a1]
    unfold dif
    rw[R x d]
  ·refine(U.map (·.1)).nodup_iff.mpr ?_
   rw[map_append,nodup_append]
   refine⟨k2.nd,nd.2.1,λa ha b hb e=>?_⟩
   obtain⟨x,d,rfl⟩:=mem_map.mp ha
   obtain⟨y,M,rfl⟩:=mem_map.mp hb
   have:=o2N x d
   rw[e,R y M] at this
   cases this
end
section
variable{K:Frag}{B:Bs}{sl:SL K}{F H G:Hp}{O:Own}{σ:St}{md:Md}{te ti t t2 t3:TE}{u:TS}{al:Bool}{α β:Type}[Rp K α][Rp K β]
theorem Di{F' H':Hp}{O:Own}(k:Ok B F' O H'):∀md:Md,Same (reg B F' H' md) H'
 |.nw=>aK.trans k.fh
 |.fz=>k.fh
 |.hp=>.refl _
theorem zJm{m:Option (List α)}{mi:Option Int}(h:Ex B sl md te m)(hi:Ex B sl .hp ti mi):Eo B sl md (Mu (rN K) te (Mt ti) Ms) (m.bind λxs=>mi.bind λi=>some (d_ xs (some i) none)):=λc hc F O H σ Q s k=>by
 obtain⟨xs,i,hx,hi',hc⟩:=nQ hc
 cases hc
 refine h xs hx F O H σ _ s λv F' H' g r=>?_
 refine hi i hi' F' O H' σ _ (s.grow g) λu F2 H2 g2 r2=>?_
 have r2:u=.int i:=r2
 obtain⟨p,vs,rfl,z1,z2⟩:=r
 exact⟨i,r2,p,vs,rfl,aN.of (g2.hh _ _ (Di g.ok md _ _ z1)),λl hl=>k l _ F2 H2 (g.trans g2) hl ((z2.imp λ_ _=>Rp.mono (xG g2 md)).cut _ _)⟩
theorem zRb{m:Option (Dc α)}{m2:Option Int}{m3:Option α}(h:Ex B sl .hp t m)(h2:Ex B sl .hp t2 m2)(h3:Ex B sl .hp t3 m3):Ex B sl .hp (Z5 t t2 t3) (m.bind λd=>m2.bind λk=>m3.bind λx=>some ((cN d.kv k).getD x)):=λc hc F O H σ Q s kk=>by
 obtain⟨d,k,e1,e2,e3⟩:=nQ hc
 cases e4:m3 with
 |none=>rw[e4] at e3;cases e3
 |some x =>
  rw[e4] at e3
  cases e3
  refine h d e1 F O H σ _ s λv F' H' g r1=>?_
  obtain⟨p,ks,rfl,z1,z2⟩:=r1
  refine⟨p,rfl,.inl ⟨ks,.inl z1⟩,?_⟩
  refine h2 k e2 F' O H' σ _ (s.grow g) λw F2 H2 g2 r2=>?_
  cases r2
  refine h3 x e4 F2 O H2 σ _ ((s.grow g).grow g2) λy F3 H3 g3 r3=>?_
  have dg:=jV.k (k:=abj k) (g3.hh _ _ (g2.hh _ _ z1))
  refine⟨_,dg,?_⟩
  rcases z2.val (k:=abj k) with⟨q1,q2⟩|⟨a,v,q1,q2,q3⟩
  ·rw[q2]
   have e:(cN d.kv k).getD x=x:=by show(gK d.kv (abj k)).getD x=x;rw[q1];rfl
   rw[e] at kk
   exact kk _ F3 H3 (g.trans (g2.trans g3)) r3
  ·rw[q2]
   have e:(cN d.kv k).getD x=a:=by show(gK d.kv (abj k)).getD x=a;rw[q1];rfl
   rw[e] at kk
   exact kk _ F3 H3 (g.trans (g2.trans g3)) (Rp.mono (g2.hh.trans g3.hh) q3)
theorem zMb{p:Addr}(k:Ok B F O H)(hp:H p=none)(o:HO):aX B F H O F (upd H p o):=⟨.refl _,au hp _,⟨k.fh.put (k.fh.free hp) _,k.h0.put (k.h0.free hp) _,k.fa,λx hx=>by
 obtain⟨a1,a2,a3⟩:=k.fo x hx
 exact⟨a1,a2,au hp _ _ _ a3⟩,k.nd⟩,λ_ h _=>h⟩
theorem zUr{A:Type}{as:A->SL K}{f:LI->A->Option (β×LI)}{ta:TA}{m:Option LI}{ma:Option A}(h0:Eo B sl .hp te m)(h:Ea B sl .fz ta as ma) :
  En B sl (rH (Cv K as f) [] E0 (yK te ta)) (m.bind λws=>ma.bind λa=>(f ws a).bind λr=>some r.1):=λc hc F O H σ Q z k=>by
 cases m with
 |none=>cases hc
 |some ws =>
  cases ma with
  |none=>cases hc
  |some a =>
   have hc:(f ws a).bind (λr=>some r.1)=some c:=hc
   cases ef:f ws a with
   |none=>rw[ef] at hc;cases hc
   |some r =>
    rw[ef] at hc
    cases hc
    refine h0 ws rfl F O H σ _ z λp vs F1 H1 gr hp r1=>?_
    have ev:vs=ws.map V.int:=A2.jx r1
    subst ev
    have g1:=zMb gr.ok hp (.lst (ws.map V.int))
    refine h a rfl F1 O _ σ _ ((z.grow gr).grow g1) λus F3 H3 g3 ra=>?_
    have h3:H3 p=some (.lst (ws.map V.int)):=g3.hh _ _ zJ
    have f3:F3 p=none:=g3.nw p (gr.ok.fh.free hp) (by rw[zJ];intro q;cases q)
    show Cv K as f ((.ref p::us)++[]) H3 Q E0
    rw[append_nil]
    refine⟨p,ws,us,a,r.1,r.2,F3,rfl,h3,f3,g3.ok.fh,ef,ra,λv H4 s4 e4 r4=>?_⟩
    have hn:∀b o,F3 b=some o\/B.H0 b=some o\/(∃x∈O,x.1=b)\/H1 b=some o->b≠p:=λb o e q=>by
     subst q
     rcases e with e|e|⟨x,hx,e⟩|e
     ·rw[f3] at e;cases e
     ·rw[gr.ok.h0.free hp] at e;cases e
     ·rw[<-e,(gr.ok.fo x hx).2.2] at hp;cases hp
     ·rw[hp] at e;cases e
    have s34:∀b o,b≠p->H3 b=some o->H4 b=some o:=λb o q e=>s4 b o (by unfold del;rw[if_neg q];exact e)
    have vo:Same H1 H4:=λb o e=>s34 b o (hn b o (.inr (.inr (.inr e)))) (g3.hh _ _ (g1.hh _ _ e))
    let H5:Hp:=del H3 p
    have h5:∀b,b≠p->H5 b=H3 b:=λb q=>by show del H3 p b=_;unfold del;rw[if_neg q]
    have g5:aX B F1 H1 O F3 H5:=⟨g3.ff,λb o e=>by rw[h5 b (hn b o (.inr (.inr (.inr e))))];exact g3.hh _ _ (g1.hh _ _ e),⟨λb o e=>by rw[h5 b (hn b o (.inl e))];exact g3.ok.fh _ _ e,λb o e=>by rw[h5 b (hn b o (.inr (.inl e)))];exact g3.ok.h0 _ _ e,g3.ok.fa,λx hx=>⟨(g3.ok.fo x hx).1,(g3.ok.fo x hx).2.1,by rw[h5 x.1 (hn x.1 x.2 (.inr (.inr (.inl ⟨x,hx,rfl⟩))))];exact(g3.ok.fo x hx).2.2⟩,g3.ok.nd⟩,λb q1 q2=>g3.nw b q1 λe=>q2 (g1.hh.free e)⟩
    refine k v F3 H5 H4 (gr.trans g5) s4 (Rp.mono (λb o e=>?_) r4)
    obtain⟨e1,e2⟩:=Dd e
    rw[yR (show del H3 p b=none by unfold del;split<;>first|rfl|exact e1)]
    exact e2
def Dj:Nat->List LI->List LI
 |0,xs=>xs
 |_+1,[]=>[]
 |k+1,_::xs=>[]::Dj k xs
theorem zRu:∀(k:Nat)(xs:List LI),(Dj k xs).length=xs.length
 |0,_=>rfl
 |_+1,[]=>rfl
 |k+1,_::xs=>congrArg (· + 1) (zRu k xs)
theorem zWb:∀{k:Nat}{xs:List LI}(h:k<xs.length),(Dj k xs)[k]?=some xs[k]
 |0,_::_,_=>rfl
 |_+1,_::xs,h=>zWb (xs:=xs) (adf h)
theorem zMp:∀{k:Nat}{xs:List LI},k<xs.length->(Dj k xs).set k []=Dj (k+1) xs
 |0,_::_,_=>rfl
 |_+1,_::xs,h=>congrArg ([] :: ·) (zMp (xs:=xs) (adf h))
theorem zRv:∀xs:List LI,Dj xs.length xs=xs.map λ_=>[]
 |[]=>rfl
 |_::xs=>congrArg ([] :: ·) (zRv xs)
theorem zKb{x:cW Int}(i j:Nat)(ij:i≠j)(hs:sl[i]?=some (.ob true x))(hj:sl[j]?=some .un)(hh:sl.all (λs=>!bU s)=true) :
  Sn B sl (Ae (Tj K (aZ i)) (vR j) (tY (uh K "list" Ws (aZ j)))) (λa=>sl.set i (.ob true a)) (some (cW.mk (x.xss.map λ_=>[]):cW Int)):=λa ha G D σ H s k=>by
 cases ha
 obtain⟨F,O,g,z⟩:=s
 obtain⟨Oc,v,h1,⟨p,rs,rfl,rfl,h2⟩,c2,_⟩:=z.setC hs hh
 have il:i<sl.length:=(aal.mp hs).1
 have at0:∀y:cW Int,(sl.set i (.ob true y))[i]?=some (.ob true y):=λy=>getElem?_set_self il
 have hh2:∀y:cW Int,(sl.set i (.ob true y)).all (λs=>!bU s)=true:=λy=>by
  rw[all_eq_true] at hh ⊢
  intro s hm
  rcases List.mem_or_eq_of_mem_set hm with hm|e
  ·exact hh s hm
  ·subst e;rfl
 have hj2:∀y:cW Int,(sl.set i (.ob true y))[j]?=some .un:=λy=>by rw[getElem?_set_ne ij];exact hj
 refine⟨_,h1,p,rfl,⟨_,aN.of (c2 _ mem_cons_self).1⟩,λi' m σ' H'=>m=x.xss.length-i'/\i'<=x.xss.length/\σ'[i]?=some (some (.ref p))/\∃O',At B (sl.set i (.ob true (cW.mk (Dj i' x.xss)))) F O' H' σ',⟨_,rfl,aa0 _,h1,O,?_⟩,?_⟩
 ·rw[show(cW.mk (Dj 0 x.xss):cW Int)=x from rfl,X5 hs]
  exact z
 rintro i' m σ' H' ⟨rfl,hil,hσ,O',z'⟩
 obtain⟨_,v,h1',⟨p',rs',rfl,rfl,h2'⟩,c2',_⟩:=z'.setC (at0 _) (hh2 _)
 cases hσ.symm.trans h1'
 have hq:aN K H' p (rs'.map λr=>V.ref r.1):=aN.of (c2' _ mem_cons_self).1
 have hl:rs'.length=x.xss.length:=by rw[A2.len h2'];exact zRu _ _
 by_cases hlt:i'<x.xss.length
 ·obtain⟨p2,q,ps,vs,w1,w2,w3,w4,w5,w6,_,_,_,up⟩:=z'.CT (j:=i') (at0 _) (hh2 _) (zWb hlt)
  cases hσ.symm.trans w1
  refine .inr ⟨⟨ps,_,aN.of w2,w3⟩,λσ2 H2=>σ2[i]?=some (some (.ref p))/\∃O',At B (sl.set i (.ob true (cW.mk (Dj (i'+1) x.xss)))) F O' H2 σ2,(by rintro σ2 H2 ⟨a1,a2⟩;exact⟨_,by omega,rfl,hlt,a1,a2⟩),λv H2 yd=>?_⟩
  obtain⟨e1,y⟩:=yd
  subst e1
  cases w3.symm.trans (y ps (aN.of w2))
  have Rf:j<σ'.length:=by rw[z'.2.len];exact(aal.mp (hj2 _)).1
  refine⟨.ref q,by rw[getElem?_set_self Rf],.inl ⟨rfl,vs,aN.of w5⟩,q,vs,rfl,rfl,w5,by rw[getElem?_set_ne (ab8 ij)];exact hσ,?_⟩
  obtain⟨O2,z2⟩:=up [] [] trivial
  rw[set_set,zMp hlt] at z2
  have z3:=z2.2.put (s':=.un) (x:=some (.ref q)) (λ_ _ _ y=>.un y) (hj2 _) rfl
  rw[X5 (hj2 _)] at z3
  exact⟨O2,z2.1,z3⟩
 ·have e:i'=x.xss.length:=by omega
  subst e
  refine .inl ⟨⟨_,hq,by rw[length_map,hl];exact aak _⟩,k σ' H' ⟨F,O',g,?_⟩⟩
  rw[zRv] at z'
  exact z'
theorem zSz{x:cW Int}(i:Nat)(hs:sl[i]?=some (.ob true x))(hh:sl.all (λs=>!bU s)=true) :
  Sn B sl (tY (uh K "list" Ws (aZ i))) (λa=>sl.set i (.ob true a)) (some (cW.mk []:cW Int)):=λa ha G D σ H s k=>by
 cases ha
 obtain⟨F,O,g,z⟩:=s
 obtain⟨Oc,v,h1,⟨p,rs,rfl,rfl,h2⟩,c2,nd,Kc,up⟩:=z.setC hs hh
 have hp:=(c2 _ mem_cons_self).1
 obtain⟨O',z'⟩:=up (cW.mk []) [(p,.lst [])] (upd H p (.lst [])) ⟨p,[],rfl,rfl,trivial⟩ (by simp) (λb u e off=>by rw[zN (λq=>off _ mem_cons_self q.symm)];exact e) λy hy=>by
  cases mem_singleton.mp hy
  exact⟨zJ,.inl ⟨_,mem_cons_self,rfl⟩⟩
 exact⟨_,h1,.inl ⟨rfl,_,aN.of hp⟩,p,_,rfl,rfl,hp,k _ _ ⟨F,O',g,z'⟩⟩
theorem Dk{s:Slot K}(j:Nat)(hs:sl[j]?=some s)(ho:dz s=false):Sn B sl (g_ (uc aU) (vR j)) (λ_:Unit=>sl.set j (.ow true ([]:List α))) (some ()):=λ_ _ G D σ H q k=>uX true j hs ho (qX (α:=α)) [] rfl G D σ H q k
end
def top(i:Nat):Stmt:=PySem.Challenge.pw_treesay_k46_table_of_parts.main.body.getD i (.Pass ⟨0,0,0,0⟩)
abbrev eE:Stmt:=top 2
abbrev n8:Stmt:=top 3
abbrev kI:Stmt:=top 4
abbrev kJ:Stmt:=top 5
abbrev iy:Stmt:=top 6
abbrev jC:Stmt:=top 7
abbrev fQ:Stmt:=top 9
abbrev iz:Stmt:=top 10
abbrev eF:Stmt:=top 11
abbrev dI:Stmt:=top 12
abbrev jD:Stmt:=top 14
abbrev dJ:Stmt:=top 15
abbrev n_:Stmt:=top 16
abbrev fU:Stmt:=top 17
abbrev eG:Stmt:=top 18
abbrev kO:Stmt:=top 19
abbrev qF:Stmt:=top 20
abbrev s_alive:Stmt:=top 21
abbrev jc:Stmt:=yZ (top 23) 0
abbrev jE:Stmt:=yZ (top 24) 0
abbrev jF:Stmt:=yZ (top 25) 0
abbrev kW:Stmt:=yZ (top 26) 0
abbrev jY:Stmt:=yZ (top 27) 0
abbrev kY:Stmt:=yZ (top 28) 0
abbrev jZ:Stmt:=yZ (top 29) 0
abbrev je:Stmt:=yZ (top 30) 0
abbrev gJ:Stmt:=yZ (top 31) 0
abbrev gM:Stmt:=yZ (top 32) 0
abbrev gO:Stmt:=yZ (top 33) 0
abbrev gP:Stmt:=yZ (top 34) 0
abbrev fu:Stmt:=yZ (top 35) 0
abbrev fG:Stmt:=yZ (top 36) 0
abbrev gQ:Stmt:=yZ (top 37) 0
abbrev gR:Stmt:=yZ (top 38) 0
abbrev fV:Stmt:=top 40
abbrev fW:Stmt:=top 41
abbrev iB:Stmt:=top 42
abbrev fX:Stmt:=top 43
abbrev bO:Stmt:=top 44
abbrev jG:Stmt:=top 45
abbrev dM:Stmt:=top 46
abbrev oh:Stmt:=top 47
abbrev ou:Stmt:=top 48
abbrev iC:Stmt:=top 59
abbrev cX:Stmt:=top 60
abbrev dN:Stmt:=top 61
abbrev jH:Stmt:=top 62
abbrev dO:Stmt:=top 63
abbrev eH:Stmt:=top 64
abbrev kZ:Stmt:=top 65
abbrev Vk:Stmt:=top 66
abbrev vp:Stmt:=yZ (top 67) 0
abbrev cY:Stmt:=yZ (top 67) 1
abbrev cg:Stmt:=yZ (top 67) 2
abbrev cO:Stmt:=yZ (top 67) 3
abbrev cP:Stmt:=yZ (top 67) 4
abbrev cj:Stmt:=yZ (top 67) 6
abbrev lg:Stmt:=top 69
abbrev mX:Stmt:=top 70
abbrev pO:Stmt:=top 71
abbrev lq:Stmt:=top 72
abbrev lB:Stmt:=top 73
abbrev lC:Stmt:=top 74
abbrev jJ:Stmt:=top 75
abbrev iD:Stmt:=top 76
abbrev lD:Stmt:=top 77
abbrev mY:Stmt:=top 78
section
variable{P:Program}{w:World}{K:Frag}{mg:Str->Option Value}{base:Heap}
def Yg(K:Frag):Sp:=λg H Q _=>∃(a:Addr)(f:List Addr)(b:List LI),g=[.ref a]/\aN K H a (f.map V.ref)/\pA K H f b/\b.length<=60/\Uk b.length b /\
 ∀(r:Addr)(e:List Addr)(d:Hp),Same H d->H r=none->d r=some (.lst (e.map V.ref))->e.length=b.length->pB d e (src b)->(∀c∈e,H c=none)->Q (.ref r) d
theorem vq:ao ["steps","sources","stand","targets","target"] ["steps"] (zH Vk):=⟨rfl,rfl,rfl,by decide +kernel,rfl,by decide +kernel,by decide +kernel⟩
theorem Yh:(["stand"]:List Str).Nodup:=by decide +kernel
theorem Kh{a:List Addr}(e:a.Nodup){i j:Nat}{c:Addr}(b:a[i]?=some c)(h2:a[j]?=some c):i=j:=by
 obtain⟨k1,d⟩:=aal.mp b
 obtain⟨k2,f⟩:=aal.mp h2
 exact(getElem_inj e).mp (d.trans f.symm)
theorem pB.put{Kl:Nat->LI}(r:pB H cs row)(nd:cs.Nodup)(hc:cs[j]?=some c)(e:Kl j=xs)(e':∀k,k≠j->Kl k=row k):pB (upd H c (.lst (xs.map V.int))) cs Kl:=λk d hd=>by
 by_cases hk:k=j
 ·subst hk
  rw[hc] at hd
  cases hd
  rw[zJ,e]
 ·rw[zN (λz=>hk (Kh nd hd (by rw[z];exact hc))),e' k hk]
  exact r k d hd
theorem Rg(F:aV K "sources_of" "sources_of" Vk f fd)(B:Bl K mg):aq P w K mg base aP 1 f fd ["steps"] (Yg K):=by
 refine F.ok vq (λvs H Q E h=>?_) (λcdv A outer s H vs Q E hr h=>?_)
 ·obtain⟨a,bs,g,rfl,_⟩:=h
  rfl
 obtain⟨a,bs,g,rfl,hS,hR,Km,hV,q⟩:=h
 have Y:(bs.map V.ref).length=g.length:=by rw[length_map];exact hR.1
 refine⟨_,zB (Ba (i:=1) (own:=["stand"]) (ix:=[]) vq.nd rfl rfl rfl rfl rfl (V6 (pv 0)) (λC s H fp=>yQ (i:=0) Yh rfl (Or.inl rfl)) (λC s H fp=>wR) (λC s H fp=>xF zD))
  (zB (xI aat rfl (zPw rfl B.enum (zA (pv 0) zD)) (Fj rfl (yP (yQ (i:=2) vq.nd rfl (Or.inl rfl)) (yP (yQ (i:=3) vq.nd rfl (Or.inl rfl)) yh)))
   (yA (xI aat rfl (V6 (pv 3)) (yQ (i:=4) vq.nd rfl (Or.inl rfl))
    (yA (zY (FT aao aav aaw xB (yH wI (pv 1) (pv 4) (λ_ _=>rfl)) (zA (pv 2) zD)))))))
  (yA (zQ (pv 1)))),?_⟩
 refine⟨_,rfl,a,rfl,⟨_,hS⟩,zRt (K:=K) (a:=a) (xs:=bs.map V.ref) (λi ys σ M=>∃(d:List Addr)(v:Option V),ys=d.map V.ref/\σ=[v]/\Same H M/\News H M d (replicate i [])/\d.length=i)
  ⟨[],none,rfl,rfl,Same.refl H,News.nil,rfl⟩ (by rintro i ys σ M _ ⟨d,v,e,_,I,_,hi⟩;exact⟨I.seq hS,by rw[e,length_map,hi];exact aak _⟩) (Wt (by omega)) ?_ ?_⟩
 ·rintro i y ys σ M hi ⟨d,v,rfl,rfl,I,N,J⟩
  refine zL6 ?_
  refine⟨(by show 0<=sizeLine;decide),λl hl'=>?_⟩
  refine⟨d++[l],_,by rw[map_append]<;>rfl,rfl,I.trans (au hl' _),?_,by rw[length_append,J]<;>rfl⟩
  have e:replicate (i+1) ([]:List V)=replicate i []++[[]]:=List.replicate_succ'
  rw[e]
  exact N.snoc I hl'
 rintro ys σ M ⟨d,v,rfl,rfl,I,N,J⟩ r R
 have T:d.length=g.length:=by rw[J,Y]
 have s3:Same H (upd M r (.lst (d.map V.ref))):=I.trans (au R _)
 have hrH:H r=none:=I.free R
 have nrc:r∉d:=N.Qk R
 have R0:pB (upd M r (.lst (d.map V.ref))) d (src (g.take 0)):=λj c n=>by
  obtain⟨G,h1,h2⟩:=N.at_ j c n
  have e:G=[]:=by
   rw[List.getElem?_replicate] at h1
   split at h1
   ·exact(aam h1).symm
   ·cases h1
  subst e
  rw[zN (λz=>nrc (by rw[<-z];exact mem_of_getElem? n)),h2]
  rfl
 refine⟨_,rfl,a,rfl,⟨_,s3.seq hS⟩,zUh (K:=K) (a:=a) (xs:=bs.map V.ref) (λi σ D=>∃u v t,σ=[some (.ref a),some (.ref r),u,v,t]/\Same H D/\D r=some (.lst (d.map V.ref))/\pB D d (src (g.take i)))
  ⟨none,none,none,rfl,s3,zJ,R0⟩ (by rintro i σ D _ ⟨_,_,_,_,Z,_⟩;exact Z.seq hS) ?_ ?_⟩
 ·rintro i x t σ D hi ht ⟨u,v,t',rfl,Z,O,R4⟩
  obtain⟨b,rfl,hb⟩:=Jk hi
  obtain⟨G,hx,U⟩:=hR.2 i b hb
  obtain⟨ne,nd,len,vr⟩:=hV.2 G (mem_of_getElem? hx)
  have il:=xC hx
  have st:Same D (upd D t (.tup [.int i,.ref b])):=au ht _
  have s5:=Z.trans st
  refine⟨t,_,rfl,bT.of zJ,rfl,_,_,rfl,_,_,rfl,rfl,?_⟩
  refine⟨_,rfl,b,rfl,⟨_,s5.seq U⟩,zUg (K:=K) (a:=b) (xs:=G.map V.int) (λm σ S=>∃tt,σ=[some (.ref a),some (.ref r),some (.int i),some (.ref b),tt]/\Same H S/\S r=some (.lst (d.map V.ref)) /\
   pB S d λj=>src (g.take i) j++(if(j:Int)∈G.take m then[(i:Int)] else[])) ⟨t',rfl,s5,st _ _ O,λj c n=>?_⟩ (by rintro m σ S _ ⟨_,_,X,_⟩;exact X.seq U) ?_ ?_⟩
  ·rw[st _ _ (R4 j c n)]
   simp
  ·rintro m y σ S hm ⟨tt,rfl,X,p,R6⟩
   obtain⟨z,rfl,hz⟩:=int_at hm
   obtain⟨z0,z1⟩:=vr z (mem_of_getElem? hz)
   have zl:z.toNat<d.length:=by rw[T];omega
   have n:d[z.toNat]?=some d[z.toNat]:=aaj zl
   have L:((z.toNat:Nat):Int)=z:=by omega
   have o:=R6 z.toNat _ n
   have hno:¬z∈G.take m:=zGl nd hz
   simp only[L,if_neg hno,append_nil] at o
   have hix:bL (d.map V.ref) z=some (.ref d[z.toNat]):=by
    have:=TY (Bq n)
    rw[L] at this
    exact this
   refine⟨_,rfl,_,rfl,r,_,z,_,rfl,rfl,aN.of p,hix,.inl ⟨rfl,_,aN.of o⟩,_,rfl,_,_,_,rfl,rfl,o,?_,?_⟩
   ·have:=Bp (g.take i) z.toNat
    rw[length_take] at this
    refine Wt ?_
    rw[length_map]
    omega
   ·have cH:H d[z.toNat]=none:=N.new _ (mem_of_getElem? n)
    have cr:r≠d[z.toNat]:=λe=>nrc (by rw[e];exact mem_of_getElem? n)
    refine⟨_,rfl,X.put cH _,by rw[zN cr];exact p,?_⟩
    have em:(src (g.take i) z.toNat).map V.int++[V.int i]=(src (g.take i) z.toNat++[(i:Int)]).map V.int:=by rw[map_append]<;>rfl
    rw[em]
    refine R6.put N.nd n ?_ λk hk=>?_
    ·rw[L,if_pos ((uD hz).mpr (.inr rfl))]
    ·have hk':((k:Int)∈G.take (m+1))=((k:Int)∈G.take m):=by
      rw[uD hz]
      refine propext ⟨λh=>h.elim id λe=>absurd (by omega) hk,.inl⟩
     simp only[hk']
  ·rintro σ S ⟨tt,rfl,X,p,R6⟩
   refine⟨_,_,_,rfl,X,p,λj c n=>?_⟩
   rw[R6 j c n,zSo hx j,length_map,take_length]
 ·rintro σ D ⟨u,v,t,rfl,Z,O,R4⟩
  refine⟨_,rfl,?_⟩
  have e:g.take (bs.map V.ref).length=g:=by rw[Y];exact take_length
  rw[e] at R4
  exact q r d D Z hrH O T R4 N.new
end
structure v7(K:Frag)(x qual:Str)(st:Stmt)(dV:Value)(f:Addr)(fd:FuncData):Prop where
 ex:∃(oc:Value)(od:Option Addr)(kV doc pm:Value)(an:Option Addr)(cdv ct:Value)(osl:Array (Option Value)),
  fd=fnOf x qual (vY st) (xY st) (zH st) dV kV doc pm an cdv ct/\K.lookup f=some ⟨oc,od,.func fd,osl⟩/\codeIn K cdv qual=true
 kp:keepIn K (.ref f)=true
section
variable{P:Program}{w:World}{K:Frag}{mg:Str->Option Value}{base:Heap}
theorem v7.ok(F:v7 K x c st dV f j)(S:ao N ps (zH st))(g:∀vs H Q E,sp vs H Q E->vs.length=ps.length)(d:∀(b:Value) (A:Around) (a:List Env) (s:Shared) (H:Hp) (vs:List V) (Q:VK) (E:XK),bI k (A.deeper (acy c (zH st) s.heap.objs.size f b))->sp vs H Q E ->
   ∃t,oM (lY aP P w K mg base N c (zH st) f b A a s H E).Aa (xY st) t/\t { nx:=λ_ H'=>Q .non H',rt:=Q } (start N vs) H):aq P w K mg base aP (k+1) f j ps sp:=by
 obtain⟨oc,od,kV,doc,pm,an,b,ct,osl,rfl,m,i⟩:=F.ex
 refine Fz m i S g λA a s H vs Q E l e=>?_
 obtain⟨t,h,q⟩:=d b A a s H vs Q E l e
 exact⟨t,h.Aa,q⟩
structure Cl(K:Frag)(mg:Str->Option Value)(C:Addr):Prop where
 cl:Cls K C
 nS:aY K C "steps"
 nM:aY K C "marks"
 nF:aY K C "fair"
 nB:aY K C "sources"
 mgC:mg "Machine" = some (.ref C)
theorem Ko:ao ["self","steps","marks","fair","given_marks","given_fair"] ["self","steps","marks","fair"] (zH vp):=⟨rfl,rfl,rfl,by decide +kernel,rfl,by decide +kernel,by decide +kernel⟩
theorem Rh:(["name","stands"]:List Str).Nodup:=by decide +kernel
theorem bN(f:Str)(v:V):∀fs:List (Str×V),(aH f v fs).length<=fs.length+1
 |[]=>aak _
 | (g,x)::r=>by
  unfold aH
  split
  ·grind
  ·exact abq (bN f v r)
theorem zPl:∀{vs:List V}{xss:List LI},A2 (rp K R) vs xss->∃bs:List Addr,vs=bs.map V.ref/\pA K R bs xss
 |[],[],_=>⟨[],rfl,rfl,λi b h=>by simp at h⟩
 |v::vs,a::xss,h=>by
  obtain⟨bs,e,h1,h2⟩:=zPl h.2
  obtain⟨p,c,rfl,h3,d⟩:=h.1
  have h5:c=a.map V.int:=d.vals
  refine⟨p::bs,by grind,by grind,λi b hb=>?_⟩
  cases i with
  |zero=>exact⟨a,rfl,aN.of (by grind)⟩
  |succ i=>simp_all
 |[],_::_,h=>h.elim
 |_::_,[],h=>h.elim
noncomputable def Nt(xss:LLI):Option LLI:=if xss.length<=60/\Uk xss.length xss then some (srcs xss) else none
theorem Kq(F:aV K "sources_of" "sources_of" Vk f m)(B:Bl K mg):aq P w K mg base aP 1 f m ["steps"] (b_ K false (λa:LLI×Unit=>([.fz false a.1]:SL K)) λa=>Nt a.1):=by
 refine(Rg F B).imp λvs H Q E h=>?_
 obtain⟨⟨g,⟨⟩⟩,b,Fa,s,d,r,q⟩:=h
 have d:Nt g=some b:=d
 unfold Nt at d
 split at d
 case isFalse=>cases d
 rename_i j
 cases d
 cases r with
 |cons u t =>
  cases t
  obtain⟨a,ws,rfl,v,A⟩:=u
  obtain⟨z,rfl,x⟩:=zPl A
  refine⟨a,z,g,rfl,aN.of (s _ _ v),x.same s,j.1,j.2,λk cs i y p e l R N=>q _ _ y ?_⟩
  refine⟨k,_,rfl,by show dif i H k=_;rw[yR p];exact e,?_⟩
  exact Bu l R λc n o e=>by show dif i H c=_;rw[yR (N c n)];exact e
theorem Kr{fS:LLI->Option Unit}{fM:zj->Int->Option Unit}{fF:LLI->Int->Option Unit}{fC fO:LLI->Option LLI}(F:v7 K "__init__" "Machine.__init__" vp dV f fd)(T:Cl K mg C)(B:Bl K mg)(CS:bw P w K mg base k "check_steps" ["steps"] (b_ K false (λa:LLI×Unit=>([.fz false a.1]:SL K)) λa=>fS a.1))(CM:bw P w K mg base k "check_marks" ["marks","many"] (b_ K false (λa:zj×Int×Unit=>([.fz false a.1,.fz false a.2.1]:SL K)) λa=>fM a.1 a.2.1))(CF:bw P w K mg base k "check_fair" ["fair","many"] (b_ K false (λa:LLI×Int×Unit=>([.fz false a.1,.fz false a.2.1]:SL K)) λa=>fF a.1 a.2.1))(CC:bw P w K mg base k "copied" ["lists"] (b_ K false (λa:LLI×Unit=>([.fz false a.1]:SL K)) λa=>fC a.1))(CO:bw P w K mg base k "sources_of" ["steps"] (b_ K false (λa:LLI×Unit=>([.fz false a.1]:SL K)) λa=>fO a.1)) :
  aq P w K mg base aP (k+1) f fd ["self","steps","marks","fair"] (pD K C (Uz C fS fM fF fC fO)):=by
 refine F.ok Ko (λvs H Q E h=>?_) (λcdv A outer s H vs Q E hr h=>?_)
 ·obtain⟨p,dx,vS,vM,vF,xss,mo,fo,M,rfl,_⟩:=h
  rfl
 obtain⟨p,dx,vS,vM,vF,xss,mo,fo,M,rfl,hp,rS,rM,rF,hm,q⟩:=h
 unfold Uz at hm
 obtain⟨⟨⟩,e1,hm⟩:=zm hm
 obtain⟨⟨⟩,e2,hm⟩:=zm hm
 obtain⟨⟨⟩,e3,hm⟩:=zm hm
 obtain⟨a,e4,hm⟩:=zm hm
 obtain⟨b,e5,hm⟩:=zm hm
 obtain⟨c,e6,hm⟩:=zm hm
 obtain⟨d,e7,hm⟩:=zm hm
 cases hm
 refine⟨_,zB (Fo (i:=4) Ko.nd rfl (Or.inl rfl) (Zq (z_ (Om (pv 2))) (xF zD) (pv 2)))
  (zB (Fo (i:=5) Ko.nd rfl (Or.inl rfl) (Zq (z_ (Om (pv 3))) (xF zD) (pv 3)))
  (zB (zY (zX CS hr (zA (pv 1) zD)))
  (zB (zY (zX CM hr (zA (pv 4) (zA (zS (uS K) rfl B.len aa2 (zA (pv 1) zD)) zD))))
  (zB (zY (zX CF hr (zA (pv 5) (zA (zS (uS K) rfl B.len aa2 (zA (pv 1) zD)) zD))))
  (zB (yj (pv 0) (zX CC hr (zA (pv 1) zD)) rfl)
  (zB (yj (pv 0) (yt (own:=["name","stands"]) (ix:=[]) rfl rfl rfl (yU K (pv 4)) (λC s H fp=>WT (K:=K) (n:=2) rfl rfl (yP (yQ (i:=0) Rh rfl (Or.inl rfl)) (yP (yQ (i:=1) Rh rfl (Or.inl rfl)) yh))) (λC s H fp=>wR)
   (λC s H fp=>uY (zA (pv 0) (zA (wT (Jm K) rfl B.list Bt (zA (pv 1) zD)) zD)))) rfl)
  (zB (yj (pv 0) (zX CC hr (zA (pv 5) zD)) rfl)
  (yA (yj (pv 0) (zX CO hr (zA (ZF (pv 0) rfl) zD)) rfl))))))))),?_⟩
 have sg0:Sg (K:=K) ⟨hid H p,H⟩ (hid H p) [.fz false (fP.mk ():fP p),.fz false xss,.fz false mo,.fz false fo,.un,.un] [some (.ref p),some vS,some vM,some vF,none,none] H :=
  ⟨hid H p,[],.refl _,zWe (.fz (show rp K _ _ (fP.mk ():fP p) from rfl) (.fz rS (.fz rM (.fz rF (.un (.un .nil))))))⟩
 refine(Sn.of (xU false 4 rfl rfl (zV4 (cI (md:=.hp) (Qf (zE 2 rfl))) (Eo.ex (qX (α:=Str×LI))) (M7 (yM 2 rfl)))) (show _=some (mo.getD []) by cases mo<;>rfl)) _ rfl (hid H p) _ _ H sg0 λσ1 H1 sg1=>?_
 refine(Sn.of (xU false 5 rfl rfl (zV4 (cI (md:=.hp) (Qf (zE 3 rfl))) (Eo.ex (qX (α:=LI))) (M7 (yM 3 rfl)))) (show _=some (fo.getD []) by cases fo<;>rfl)) _ rfl (hid H p) _ _ H1 sg1 λσ2 H2 sg2=>?_
 refine(Sn.of (MJ (md:=.hp) (zP (f:=λa:LLI×Unit=>fS a.1) (zF (zE 1 rfl) zO))) (show _=fS xss from rfl)) () e1 (hid H p) _ _ H2 sg2 λσ3 H3 sg3=>?_
 refine(Sn.of (MJ (md:=.hp) (zP (f:=λa:zj×Int×Unit=>fM a.1 a.2.1) (zF (zE 4 rfl) (zF (Ex.sc (md:=.hp) (qZ (zE 1 rfl))) zO)))) (show _=fM (mo.getD []) (xss.length:Int) from rfl)) () e2 (hid H p) _ _ H3 sg3 λσ4 H4 sg4=>?_
 refine(Sn.of (MJ (md:=.hp) (zP (f:=λa:LLI×Int×Unit=>fF a.1 a.2.1) (zF (zE 5 rfl) (zF (Ex.sc (md:=.hp) (qZ (zE 1 rfl))) zO)))) (show _=fF (fo.getD []) (xss.length:Int) from rfl)) () e3 (hid H p) _ _ H4 sg4 λσ5 H5 sg5=>?_
 obtain⟨F5,O5,g5,k5,s5⟩:=sg5
 have s5:ak (K:=K) ⟨hid H p,H⟩ F5 (lo F5 O5 H5) H5 [.fz false (fP.mk ():fP p),.fz false xss,.fz false mo,.fz false fo,.fz false (mo.getD []),.fz false (fo.getD [])] σ5 O5:=s5
 cases s5 with|fz r0 s5 =>
 cases s5 with|fz r1 s5 =>
 cases s5 with|fz r2 s5 =>
 cases s5 with|fz r3 s5 =>
 cases s5 with|fz r4 s5 =>
 cases s5 with|fz r5 s5 =>
 cases s5
 rename_i v0 v1 v2 v3 v4 v5
 have r0:v0=.ref p:=r0
 subst r0
 have hF:Same F5 (hid H5 p):=λb o e=>by
  by_cases z:b=p
  ·subst z
   rcases k5.fa b o e with z|z
   ·have z:hid H b b=some o:=z
    rw[Nb] at z
    cases z
   ·have z:H b=none:=z
    rw[hp] at z
    cases z
  ·rw[JB z];exact k5.fh b o e
 have r1:rp K (hid H5 p) v1 xss:=Rp.mono hF r1
 have r2:rp K (hid H5 p) v2 mo:=Rp.mono hF r2
 have r3:rp K (hid H5 p) v3 fo:=Rp.mono hF r3
 have r4:rp K (hid H5 p) v4 (mo.getD []):=Rp.mono hF r4
 have r5:rp K (hid H5 p) v5 (fo.getD []):=Rp.mono hF r5
 have Yi:Same H H5:=k5.h0
 have Vf:H5 p=some (.ins C dx []):=Yi _ _ hp
 refine⟨_,rfl,(xss,()),a,H5,.refl _,e4,.cons (Rp.mono Qt r1) .nil,λy1 H6 s6 t1=>?_⟩
 have t1:rp K (dif H6 H5) y1 a:=t1
 have X3:=s6 _ _ Vf
 refine⟨_,rfl,p,C,dx,[],rfl,X3,T.cl,T.nS,(by show 0<1000;decide),?_⟩
 have f1:=Rp.mono (UG (H:=H) (p:=p) (λb o _ e=>Yi b o e) (by rw[Vf];intro z;cases z)) t1
 have kp6:∀b o,b≠p->H b=some o->(upd H6 p (.ins C dx (aH "steps" y1 []))) b=some o:=λb o n e=>by rw[zN n];exact s6 _ _ (Yi _ _ e)
 have h6:Same (hid H5 p) (hid (upd H6 p (.ins C dx (aH "steps" y1 []))) p):=by rw[Gq];exact Nf s6
 have E2:Ex (K:=K) ⟨hid (upd H6 p (.ins C dx (aH "steps" y1 []))) p,upd H6 p (.ins C dx (aH "steps" y1 []))⟩ [.fz false (fP.mk ():fP p),.fz false xss,.fz false mo,.fz false fo,.fz false (mo.getD []),.fz false (fo.getD [])] .nw _ _ :=
  (wZ (n:=false) (ig:=[.un,.un]) (no:=2) (ix:=[]) rfl rfl (yW (yM 4 rfl)) (Gd 0 1 rfl rfl (λ_=>rfl) rfl) (λx=>u_) (λx=>W2 (zI 0 rfl) (Jj (zE 1 rfl)).ex) (λx=>o_.un (o_.un o_.nil))).ex
 refine E2 b e5 (hid (upd H6 p (.ins C dx (aH "steps" y1 []))) p) [] _ _ _ (zWe (.fz (show rp K _ _ (fP.mk ():fP p) from rfl) (.fz (Rp.mono h6 r1) (.fz (Rp.mono h6 r2) (.fz (Rp.mono h6 r3) (.fz (Rp.mono h6 r4) (.fz (Rp.mono h6 r5) .nil))))))) λy2 F7 H7 g7 t2=>?_
 have s7:=g7.hh
 have t2:rp K (dif H7 (upd H6 p (.ins C dx (aH "steps" y1 [])))) y2 b:=Rp.mono (yO g7.ok.fh) t2
 have hp7:H7 p=some (.ins C dx (aH "steps" y1 [])):=s7 _ _ zJ
 refine⟨_,rfl,p,C,dx,_,rfl,hp7,T.cl,T.nM,(by show 1<1000;decide),?_⟩
 have f2:=Rp.mono (UG (H:=H) (p:=p) kp6 (by rw[zJ];intro z;cases z)) t2
 have kp7:∀b o,b≠p->H b=some o->(upd H7 p (.ins C dx (aH "marks" y2 (aH "steps" y1 [])))) b=some o:=λb o n e=>by rw[zN n];exact s7 _ _ (kp6 _ _ n e)
 have h7:Same (hid (upd H6 p (.ins C dx (aH "steps" y1 []))) p) (hid (upd H7 p (.ins C dx (aH "marks" y2 (aH "steps" y1 [])))) p):=by rw[Gq (H:=H7)];exact Nf s7
 refine⟨_,rfl,(fo.getD [],()),c,_,.refl _,e6,.cons (Rp.mono (h6.trans (h7.trans Qt)) r5) .nil,λy3 H8 s8 t3=>?_⟩
 have t3:rp K (dif H8 (upd H7 p (.ins C dx (aH "marks" y2 (aH "steps" y1 []))))) y3 c:=t3
 have hp8:H8 p=some (.ins C dx (aH "marks" y2 (aH "steps" y1 []))):=s8 _ _ zJ
 have l2:(aH "marks" y2 (aH "steps" y1 [])).length<1000:=by
  have a1:=bN "marks" y2 (aH "steps" y1 [])
  have a2:=bN "steps" y1 []
  have a3:([]:List (Str×V)).length=0:=rfl
  omega
 refine⟨_,rfl,p,C,dx,_,rfl,hp8,T.cl,T.nF,l2,?_⟩
 have f3:=Rp.mono (UG (H:=H) (p:=p) kp7 (by rw[zJ];intro z;cases z)) t3
 have kp8:∀b o,b≠p->H b=some o->(upd H8 p (.ins C dx (aH "fair" y3 (aH "marks" y2 (aH "steps" y1 []))))) b=some o:=λb o n e=>by rw[zN n];exact s8 _ _ (kp7 _ _ n e)
 have h8:Same (hid (upd H7 p (.ins C dx (aH "marks" y2 (aH "steps" y1 [])))) p) (hid (upd H8 p (.ins C dx (aH "fair" y3 (aH "marks" y2 (aH "steps" y1 []))))) p):=by rw[Gq (H:=H8)];exact Nf s8
 have lk:(aH "fair" y3 (aH "marks" y2 (aH "steps" y1 []))).lookup ("steps":Str)=some y1:=by
  rw[zM,if_neg (by decide +kernel),zM,if_neg (by decide +kernel),zM,if_pos rfl]
 have d1:Same (dif (hid H6 p) (hid H p)) (hid (upd H8 p (.ins C dx (aH "fair" y3 (aH "marks" y2 (aH "steps" y1 []))))) p):=aK.trans ((by rw[Gq];exact .refl _:Same (hid H6 p) (hid (upd H6 p (.ins C dx (aH "steps" y1 []))) p)).trans (h7.trans h8))
 refine⟨_,rfl,p,C,dx,_,_,rfl,zJ,T.cl,T.nS,lk,(a,()),d,_,.refl _,e7,.cons (Rp.mono (d1.trans Qt) f1) .nil,λy4 H9 s9 t4=>?_⟩
 have t4:rp K (dif H9 (upd H8 p (.ins C dx (aH "fair" y3 (aH "marks" y2 (aH "steps" y1 [])))))) y4 d:=t4
 have hp9:H9 p=some (.ins C dx (aH "fair" y3 (aH "marks" y2 (aH "steps" y1 [])))):=s9 _ _ zJ
 have l3:(aH "fair" y3 (aH "marks" y2 (aH "steps" y1 []))).length<1000:=by
  have a0:=bN "fair" y3 (aH "marks" y2 (aH "steps" y1 []))
  have a1:=bN "marks" y2 (aH "steps" y1 [])
  have a2:=bN "steps" y1 []
  have a3:([]:List (Str×V)).length=0:=rfl
  omega
 refine⟨_,rfl,p,C,dx,_,rfl,hp9,T.cl,T.nB,l3,?_⟩
 have f4:=Rp.mono (UG (H:=H) (p:=p) kp8 (by rw[zJ];intro z;cases z)) t4
 have kp9:∀b o,b≠p->H b=some o->(upd H9 p (.ins C dx (aH "sources" y4 (aH "fair" y3 (aH "marks" y2 (aH "steps" y1 [])))))) b=some o:=λb o n e=>by rw[zN n];exact s9 _ _ (kp8 _ _ n e)
 have u9:Same (hid H9 p) (upd H9 p (.ins C dx (aH "sources" y4 (aH "fair" y3 (aH "marks" y2 (aH "steps" y1 [])))))):=(by rw[Gq];exact .refl _:Same (hid H9 p) (hid (upd H9 p (.ins C dx (aH "sources" y4 (aH "fair" y3 (aH "marks" y2 (aH "steps" y1 [])))))) p)).trans Qt
 have u8:Same (hid H8 p) (hid H9 p):=(by rw[Gq];exact .refl _:Same (hid H8 p) (hid (upd H8 p (.ins C dx (aH "fair" y3 (aH "marks" y2 (aH "steps" y1 []))))) p)).trans (Nf s9)
 have u7:Same (hid H7 p) (hid H8 p):=(by rw[Gq];exact .refl _:Same (hid H7 p) (hid (upd H7 p (.ins C dx (aH "marks" y2 (aH "steps" y1 [])))) p)).trans (Nf s8)
 have u6:Same (hid H6 p) (hid H7 p):=(by rw[Gq];exact .refl _:Same (hid H6 p) (hid (upd H6 p (.ins C dx (aH "steps" y1 []))) p)).trans (Nf s7)
 refine q _ kp9 ⟨p,dx,aH "sources" y4 (aH "fair" y3 (aH "marks" y2 (aH "steps" y1 []))),y1,y2,y3,y4,rfl,?_,?_,Rp.mono (yO (u6.trans (u7.trans (u8.trans u9)))) f1,?_,Rp.mono (yO (u7.trans (u8.trans u9))) f2,?_,Rp.mono (yO (u8.trans u9)) f3,?_,Rp.mono (yO u9) f4,?_⟩
 ·rw[yR Nb];exact zJ
 ·rw[zM,if_neg (by decide +kernel)];exact lk
 ·rw[zM,if_neg (by decide +kernel),zM,if_neg (by decide +kernel),zM,if_pos rfl]
 ·rw[zM,if_neg (by decide +kernel),zM,if_pos rfl]
 ·rw[zM,if_pos rfl]
 ·intro g hg
  simp only[Xc,mem_cons,List.not_mem_nil,or_false] at hg
  rcases hg with rfl|rfl|rfl|rfl|rfl|rfl<;>(rw[zM,if_neg (by decide +kernel),zM,if_neg (by decide +kernel),zM,if_neg (by decide +kernel),zM,if_neg (by decide +kernel)];rfl)
end
end Ts
namespace Sy
open PySem L2
abbrev Yj:Stmt:=Ts.jc
abbrev Yk:Stmt:=Ts.jE
abbrev Ym:Stmt:=Ts.jF
abbrev Ks:Stmt:=Ts.kW
abbrev v8:Stmt:=Ts.jY
abbrev Ku:Stmt:=Ts.kY
abbrev Yn:Stmt:=Ts.gJ
abbrev Yo:Stmt:=Ts.gM
abbrev Yp:Stmt:=Ts.fu
abbrev Yq:Stmt:=Ts.fG
abbrev Yr:Stmt:=Ts.gQ
abbrev Ys:Stmt:=Ts.gR
abbrev v9:Stmt:=Ts.jZ
abbrev Yt:Stmt:=Ts.je
abbrev Yu:Stmt:=Ts.gO
abbrev Yv:Stmt:=Ts.gP
section
variable{P:Program}{w:World}{K:Frag}{mg:Str->Option Value}{base:Heap}
theorem zS5:ao ["self","word","parts"] ["self","word","parts"] (zH Yj):=⟨rfl,rfl,rfl,by decide +kernel,rfl,by decide +kernel,by decide +kernel⟩
theorem zQd(F:aV K "__init__" "Saying.__init__" Yj f fd):aq P w K mg base aP 1 f fd ["self","word","parts"] (spS K):=by
 refine F.ok zS5 (λvs H Q E h=>?_) (λcdv A outer s H vs Q E hr h=>?_)
 ·obtain⟨p,C,dx,x,y,rfl,_⟩:=h
  rfl
 obtain⟨p,C,dx,x,y,rfl,hp,T,q⟩:=h
 refine⟨_,zB (yj (pv 0) (pv 1) rfl) (yA (yj (pv 0) (pv 2) rfl)),?_⟩
 refine⟨_,rfl,_,rfl,p,C,dx,[],rfl,hp,T.cl,T.nW,(by show 0<1000;decide),_,rfl,_,rfl,p,C,dx,_,rfl,zJ,T.cl,T.nP,(by show 1<1000;decide),?_⟩
 exact q _ ((Kp.put p H _).trans (Kp.put p _ _)) zJ
theorem Dl:ao ["self","word","part"] ["self","word","part"] (zH Yk):=⟨rfl,rfl,rfl,by decide +kernel,rfl,by decide +kernel,by decide +kernel⟩
theorem zTv(F:aV K "__init__" "OfOne.__init__" Yk f u)(l:mg "Saying" = some (.ref D))(r:oR K D "__init__" g)(G:aq P w K mg base aP 1 g j ["self","word","parts"] (spS K))(m:Binds K j ["self","word","parts"] []) :
  aq P w K mg base aP 2 f u ["self","word","part"] (pH K):=by
 refine F.ok Dl (λo H Q E h=>?_) (λcdv A outer s H o Q E n h=>?_)
 ·obtain⟨p,C,c,x,v,rfl,_⟩:=h
  rfl
 obtain⟨p,C,c,x,v,rfl,d,T,q⟩:=h
 refine⟨_,zB (zY (uL rfl l r G n m .nil xR (zA (pv 0) (zA (pv 1) (zA (uY (zA (pv 2) zD)) zD))))) (yA (yj (pv 0) (pv 2) rfl)),?_⟩
 refine⟨_,rfl,_,rfl,_,rfl,(by show 1<=sizeLine;decide),λt a=>?_⟩
 have b:=au a (.tup [v]) _ _ d
 refine⟨p,C,c,_,_,rfl,b,T,λH' i k=>?_⟩
 have e:t≠p:=(zL d a).symm
 refine⟨_,rfl,_,rfl,p,C,c,_,rfl,k,T.cl,T.n1,aap (U_ x t) (by decide),?_⟩
 exact q t _ (((Kp.of (au a _)).trans i).trans (Kp.put p _ _)) a (by rw[zN e];exact i _ _ e zJ) zJ
theorem Dm:ao ["self","word","left","right"] ["self","word","left","right"] (zH Ym):=⟨rfl,rfl,rfl,by decide +kernel,rfl,by decide +kernel,by decide +kernel⟩
theorem zTu(F:aV K "__init__" "OfTwo.__init__" Ym f y)(l:mg "Saying" = some (.ref D))(j:oR K D "__init__" g)(G:aq P w K mg base aP 1 g r ["self","word","parts"] (spS K))(m:Binds K r ["self","word","parts"] []) :
  aq P w K mg base aP 2 f y ["self","word","left","right"] (vh K):=by
 refine F.ok Dm (λo H Q E h=>?_) (λcdv A outer s H o Q E n h=>?_)
 ·obtain⟨p,C,b,x,v,u,rfl,_⟩:=h
  rfl
 obtain⟨p,C,b,x,v,u,rfl,e,T,q⟩:=h
 refine⟨_,zB (zY (uL rfl l j G n m .nil xR (zA (pv 0) (zA (pv 1) (zA (uY (zA (pv 2) (zA (pv 3) zD))) zD))))) (zB (yj (pv 0) (pv 2) rfl) (yA (yj (pv 0) (pv 3) rfl))),?_⟩
 refine⟨_,rfl,_,rfl,_,rfl,_,rfl,(by show 2<=sizeLine;decide),λt a=>?_⟩
 have c:=au a (.tup [v,u]) _ _ e
 refine⟨p,C,b,_,_,rfl,c,T,λH' i k=>?_⟩
 have d:t≠p:=(zL e a).symm
 refine⟨_,rfl,_,rfl,p,C,b,_,rfl,k,T.cl,T.nL,aap (U_ x t) (by decide),?_⟩
 refine⟨_,rfl,_,rfl,p,C,b,_,rfl,zJ,T.cl,T.nR,aap (aas (bN "left" v _) (abq (U_ x t))) (by decide),?_⟩
 exact q t _ ((((Kp.of (au a _)).trans i).trans (Kp.put p _ _)).trans (Kp.put p _ _)) a (by rw[zN d,zN d];exact i _ _ d zJ) zJ
theorem Ri:ao ["self"] ["self"] (zH Ks):=⟨rfl,rfl,rfl,by decide +kernel,rfl,by decide +kernel,by decide +kernel⟩
theorem Kv(F:aV K "__init__" "All.__init__" Ks f fd)(T:fj K C)(mD:mg "Saying" = some (.ref D))(cD:oR K D "__init__" g)(G:aq P w K mg base aP 1 g gd ["self","word","parts"] (spS K))(bG:Binds K gd ["self","word","parts"] []) :
  aq P w K mg base aP 2 f fd ["self"] (QL C):=by
 refine F.ok Ri (λvs H Q E h=>?_) (λcdv A outer s H vs Q E hr h=>?_)
 ·obtain⟨p,dx,rfl,_⟩:=h
  rfl
 obtain⟨p,dx,rfl,hp,q⟩:=h
 refine⟨_,yA (zY (uL rfl mD cD G hr bG .nil xR (zA (pv 0) (zA yE (zA (uY zD) zD))))),?_⟩
 refine⟨_,rfl,(by show 0<=sizeLine;decide),λt ht=>?_⟩
 have hp1:=au ht (.tup []) _ _ hp
 have pt:t≠p:=(zL hp ht).symm
 exact⟨p,C,dx,_,_,rfl,hp1,T,λH' k1 e1=>q t H' ((Kp.of (au ht _)).trans k1) ht (k1 _ _ pt zJ) e1⟩
theorem Kw:ao ["self","name"] ["self","name"] (zH v8):=⟨rfl,rfl,rfl,by decide +kernel,rfl,by decide +kernel,by decide +kernel⟩
theorem Dn(F:aV K "__init__" "Mark.__init__" v8 f u)(T:fj K C)(l:mg "Saying" = some (.ref D))(r:oR K D "__init__" g)(G:aq P w K mg base aP 1 g j ["self","word","parts"] (spS K))(m:Binds K j ["self","word","parts"] []) :
  aq P w K mg base aP 2 f u ["self","name"] (QM C):=by
 refine F.ok Kw (λo H Q E h=>?_) (λcdv A outer s H o Q E n h=>?_)
 ·obtain⟨p,c,x,rfl,_⟩:=h
  rfl
 obtain⟨p,c,x,rfl,d,q⟩:=h
 refine⟨_,zB (zY (uL rfl l r G n m .nil xR (zA (pv 0) (zA (pv 1) (zA (uY zD) zD))))) (yA (yj (pv 0) (pv 1) rfl)),?_⟩
 refine⟨_,rfl,_,rfl,(by grind),λt a=>?_⟩
 have b:=au a (.tup []) _ _ d
 have e:t≠p:=(zL d a).symm
 refine⟨p,C,c,_,_,rfl,b,T,λH' i k=>?_⟩
 refine⟨_,rfl,_,rfl,p,C,c,_,rfl,k,T.cl,T.nN,aap (U_ x t) (by decide),?_⟩
 exact q t _ (((Kp.of (au a _)).trans i).trans (Kp.put p _ _)) a (by rw[zN e];exact i _ _ e zJ) zJ
end
section
variable{P:Program}{w:World}{K:Frag}{mg:Str->Option Value}{base:Heap}
theorem Rj:ao ["self","part"] ["self","part"] (zH Ku):=⟨rfl,rfl,rfl,by decide +kernel,rfl,by decide +kernel,by decide +kernel⟩
theorem Ky(F:aV K "__init__" "Not.__init__" Ku f v)(T:fj K C)(d:mg "OfOne" = some (.ref D))(n:oR K D "__init__" g)(G:aq P w K mg base aP 2 g k ["self","word","part"] (pH K))(r:Binds K k ["self","word","part"] []) :
  aq P w K mg base aP 3 f v ["self","part"] (n6 C "not"):=by
 refine F.ok Rj (λu H Q E h=>?_) (λcdv A outer s H u Q E i h=>?_)
 ·obtain⟨p,a,c,rfl,_⟩:=h
  rfl
 obtain⟨p,a,c,rfl,b,q⟩:=h
 refine⟨_,yA (zY (uL rfl d n G i r .nil xR (zA (pv 0) (zA yE (zA (pv 1) zD))))),?_⟩
 exact⟨_,rfl,_,rfl,p,C,a,_,_,rfl,b,T,λe m l t o j=>q e m l t o j⟩
theorem zNk:ao ["self","part"] ["self","part"] (zH Yn):=⟨rfl,rfl,rfl,by decide +kernel,rfl,by decide +kernel,by decide +kernel⟩
theorem zKp(F:aV K "__init__" "SomeNext.__init__" Yn f v)(T:fj K C)(d:mg "OfOne" = some (.ref D))(n:oR K D "__init__" g)(G:aq P w K mg base aP 2 g k ["self","word","part"] (pH K))(r:Binds K k ["self","word","part"] []) :
  aq P w K mg base aP 3 f v ["self","part"] (n6 C "somenext"):=by
 refine F.ok zNk (λu H Q E h=>?_) (λcdv A outer s H u Q E i h=>?_)
 ·obtain⟨p,a,c,rfl,_⟩:=h
  rfl
 obtain⟨p,a,c,rfl,b,q⟩:=h
 refine⟨_,yA (zY (uL rfl d n G i r .nil xR (zA (pv 0) (zA yE (zA (pv 1) zD))))),?_⟩
 exact⟨_,rfl,_,rfl,p,C,a,_,_,rfl,b,T,λe m l t o j=>q e m l t o j⟩
theorem zNn:ao ["self","part"] ["self","part"] (zH Yo):=⟨rfl,rfl,rfl,by decide +kernel,rfl,by decide +kernel,by decide +kernel⟩
theorem zKs(F:aV K "__init__" "EachNext.__init__" Yo f v)(T:fj K C)(d:mg "OfOne" = some (.ref D))(n:oR K D "__init__" g)(G:aq P w K mg base aP 2 g k ["self","word","part"] (pH K))(r:Binds K k ["self","word","part"] []) :
  aq P w K mg base aP 3 f v ["self","part"] (n6 C "eachnext"):=by
 refine F.ok zNn (λu H Q E h=>?_) (λcdv A outer s H u Q E i h=>?_)
 ·obtain⟨p,a,c,rfl,_⟩:=h
  rfl
 obtain⟨p,a,c,rfl,b,q⟩:=h
 refine⟨_,yA (zY (uL rfl d n G i r .nil xR (zA (pv 0) (zA yE (zA (pv 1) zD))))),?_⟩
 exact⟨_,rfl,_,rfl,p,C,a,_,_,rfl,b,T,λe m l t o j=>q e m l t o j⟩
theorem zIm:ao ["self","part"] ["self","part"] (zH Yp):=⟨rfl,rfl,rfl,by decide +kernel,rfl,by decide +kernel,by decide +kernel⟩
theorem zHm(F:aV K "__init__" "SomeAlways.__init__" Yp f v)(T:fj K C)(d:mg "OfOne" = some (.ref D))(n:oR K D "__init__" g)(G:aq P w K mg base aP 2 g k ["self","word","part"] (pH K))(r:Binds K k ["self","word","part"] []) :
  aq P w K mg base aP 3 f v ["self","part"] (n6 C "somealways"):=by
 refine F.ok zIm (λu H Q E h=>?_) (λcdv A outer s H u Q E i h=>?_)
 ·obtain⟨p,a,c,rfl,_⟩:=h
  rfl
 obtain⟨p,a,c,rfl,b,q⟩:=h
 refine⟨_,yA (zY (uL rfl d n G i r .nil xR (zA (pv 0) (zA yE (zA (pv 1) zD))))),?_⟩
 exact⟨_,rfl,_,rfl,p,C,a,_,_,rfl,b,T,λe m l t o j=>q e m l t o j⟩
theorem zIn:ao ["self","part"] ["self","part"] (zH Yq):=⟨rfl,rfl,rfl,by decide +kernel,rfl,by decide +kernel,by decide +kernel⟩
theorem zHn(F:aV K "__init__" "EachAlways.__init__" Yq f v)(T:fj K C)(d:mg "OfOne" = some (.ref D))(n:oR K D "__init__" g)(G:aq P w K mg base aP 2 g k ["self","word","part"] (pH K))(r:Binds K k ["self","word","part"] []) :
  aq P w K mg base aP 3 f v ["self","part"] (n6 C "eachalways"):=by
 refine F.ok zIn (λu H Q E h=>?_) (λcdv A outer s H u Q E i h=>?_)
 ·obtain⟨p,a,c,rfl,_⟩:=h
  rfl
 obtain⟨p,a,c,rfl,b,q⟩:=h
 refine⟨_,yA (zY (uL rfl d n G i r .nil xR (zA (pv 0) (zA yE (zA (pv 1) zD))))),?_⟩
 exact⟨_,rfl,_,rfl,p,C,a,_,_,rfl,b,T,λe m l t o j=>q e m l t o j⟩
theorem zNl:ao ["self","part"] ["self","part"] (zH Yr):=⟨rfl,rfl,rfl,by decide +kernel,rfl,by decide +kernel,by decide +kernel⟩
theorem zKq(F:aV K "__init__" "SomeEver.__init__" Yr f v)(T:fj K C)(d:mg "OfOne" = some (.ref D))(n:oR K D "__init__" g)(G:aq P w K mg base aP 2 g k ["self","word","part"] (pH K))(r:Binds K k ["self","word","part"] []) :
  aq P w K mg base aP 3 f v ["self","part"] (n6 C "someever"):=by
 refine F.ok zNl (λu H Q E h=>?_) (λcdv A outer s H u Q E i h=>?_)
 ·obtain⟨p,a,c,rfl,_⟩:=h
  rfl
 obtain⟨p,a,c,rfl,b,q⟩:=h
 refine⟨_,yA (zY (uL rfl d n G i r .nil xR (zA (pv 0) (zA yE (zA (pv 1) zD))))),?_⟩
 exact⟨_,rfl,_,rfl,p,C,a,_,_,rfl,b,T,λe m l t o j=>q e m l t o j⟩
theorem zNo:ao ["self","part"] ["self","part"] (zH Ys):=⟨rfl,rfl,rfl,by decide +kernel,rfl,by decide +kernel,by decide +kernel⟩
theorem zKt(F:aV K "__init__" "EachEver.__init__" Ys f v)(T:fj K C)(d:mg "OfOne" = some (.ref D))(n:oR K D "__init__" g)(G:aq P w K mg base aP 2 g k ["self","word","part"] (pH K))(r:Binds K k ["self","word","part"] []) :
  aq P w K mg base aP 3 f v ["self","part"] (n6 C "eachever"):=by
 refine F.ok zNo (λu H Q E h=>?_) (λcdv A outer s H u Q E i h=>?_)
 ·obtain⟨p,a,c,rfl,_⟩:=h
  rfl
 obtain⟨p,a,c,rfl,b,q⟩:=h
 refine⟨_,yA (zY (uL rfl d n G i r .nil xR (zA (pv 0) (zA yE (zA (pv 1) zD))))),?_⟩
 exact⟨_,rfl,_,rfl,p,C,a,_,_,rfl,b,T,λe m l t o j=>q e m l t o j⟩
theorem Kz:ao ["self","left","right"] ["self","left","right"] (zH v9):=⟨rfl,rfl,rfl,by decide +kernel,rfl,by decide +kernel,by decide +kernel⟩
theorem Dp(F:aV K "__init__" "Both.__init__" v9 f x)(T:fj K C)(e:mg "OfTwo" = some (.ref D))(o:oR K D "__init__" g)(G:aq P w K mg base aP 2 g l ["self","word","left","right"] (vh K))(t:Binds K l ["self","word","left","right"] []) :
  aq P w K mg base aP 3 f x ["self","left","right"] (sy C "both"):=by
 refine F.ok Kz (λv H Q E h=>?_) (λcdv A outer s H v Q E j h=>?_)
 ·obtain⟨p,a,c,d,rfl,_⟩:=h
  rfl
 obtain⟨p,a,c,d,rfl,b,q⟩:=h
 refine⟨_,yA (zY (uL rfl e o G j t .nil xR (zA (pv 0) (zA yE (zA (pv 1) (zA (pv 2) zD)))))),?_⟩
 exact⟨_,rfl,_,rfl,_,rfl,p,C,a,_,_,_,rfl,b,T,λi n m u r k=>q i n m u r k⟩
theorem zS6:ao ["self","left","right"] ["self","left","right"] (zH Yt):=⟨rfl,rfl,rfl,by decide +kernel,rfl,by decide +kernel,by decide +kernel⟩
theorem zQe(F:aV K "__init__" "Either.__init__" Yt f x)(T:fj K C)(e:mg "OfTwo" = some (.ref D))(o:oR K D "__init__" g)(G:aq P w K mg base aP 2 g l ["self","word","left","right"] (vh K))(t:Binds K l ["self","word","left","right"] []) :
  aq P w K mg base aP 3 f x ["self","left","right"] (sy C "either"):=by
 refine F.ok zS6 (λv H Q E h=>?_) (λcdv A outer s H v Q E j h=>?_)
 ·obtain⟨p,a,c,d,rfl,_⟩:=h
  rfl
 obtain⟨p,a,c,d,rfl,b,q⟩:=h
 refine⟨_,yA (zY (uL rfl e o G j t .nil xR (zA (pv 0) (zA yE (zA (pv 1) (zA (pv 2) zD)))))),?_⟩
 exact⟨_,rfl,_,rfl,_,rfl,p,C,a,_,_,_,rfl,b,T,λi n m u r k=>q i n m u r k⟩
theorem zNj:ao ["self","left","right"] ["self","left","right"] (zH Yu):=⟨rfl,rfl,rfl,by decide +kernel,rfl,by decide +kernel,by decide +kernel⟩
theorem zKo(F:aV K "__init__" "SomeTill.__init__" Yu f x)(T:fj K C)(e:mg "OfTwo" = some (.ref D))(o:oR K D "__init__" g)(G:aq P w K mg base aP 2 g l ["self","word","left","right"] (vh K))(t:Binds K l ["self","word","left","right"] []) :
  aq P w K mg base aP 3 f x ["self","left","right"] (sy C "sometill"):=by
 refine F.ok zNj (λv H Q E h=>?_) (λcdv A outer s H v Q E j h=>?_)
 ·obtain⟨p,a,c,d,rfl,_⟩:=h
  rfl
 obtain⟨p,a,c,d,rfl,b,q⟩:=h
 refine⟨_,yA (zY (uL rfl e o G j t .nil xR (zA (pv 0) (zA yE (zA (pv 1) (zA (pv 2) zD)))))),?_⟩
 exact⟨_,rfl,_,rfl,_,rfl,p,C,a,_,_,_,rfl,b,T,λi n m u r k=>q i n m u r k⟩
theorem zNm:ao ["self","left","right"] ["self","left","right"] (zH Yv):=⟨rfl,rfl,rfl,by decide +kernel,rfl,by decide +kernel,by decide +kernel⟩
theorem zKr(F:aV K "__init__" "EachTill.__init__" Yv f x)(T:fj K C)(e:mg "OfTwo" = some (.ref D))(o:oR K D "__init__" g)(G:aq P w K mg base aP 2 g l ["self","word","left","right"] (vh K))(t:Binds K l ["self","word","left","right"] []) :
  aq P w K mg base aP 3 f x ["self","left","right"] (sy C "eachtill"):=by
 refine F.ok zNm (λv H Q E h=>?_) (λcdv A outer s H v Q E j h=>?_)
 ·obtain⟨p,a,c,d,rfl,_⟩:=h
  rfl
 obtain⟨p,a,c,d,rfl,b,q⟩:=h
 refine⟨_,yA (zY (uL rfl e o G j t .nil xR (zA (pv 0) (zA yE (zA (pv 1) (zA (pv 2) zD)))))),?_⟩
 exact⟨_,rfl,_,rfl,_,rfl,p,C,a,_,_,_,rfl,b,T,λi n m u r k=>q i n m u r k⟩
end
open PySem L2 Ts
abbrev zVo:Stmt:=Ts.mX
abbrev GX:Stmt:=Ts.pO
abbrev zPi:Stmt:=Ts.lq
section
variable{P:Program}{w:World}{K:Frag}{mg:Str->Option Value}{base:Heap}
theorem vac(no:∀vs H Q E,¬sp vs H Q E):aq P w K mg base aP k f fd ps sp :=
 ⟨λvs H Q E h=>absurd h (no vs H Q E),λA outer s H args us vs Q E _ _ _ _ h=>absurd h (no vs H Q E)⟩
def Rk:Sp:=λd H Q _=>∃(a:Addr)(e:LI),d=[.ref a]/\H a=some (.lst (e.map V.int))/\∀(z:Int)(b:LI)(c:Hp),Kp a H c->c a=some (.lst (b.map V.int))->Q (.int z) c
end
section
variable{P:Program}{w:World}{K:Frag}{mg:Str->Option Value}{base:Heap}
def ZK(Z:Hp)(a:Addr)(H:Hp):Prop:=∀b o,Z b=some o->b≠a/\H b=some o
theorem ZK.kp(z:ZK Z a H)(k:Kp a H H'):ZK Z a H':=λb o e=>⟨(z b o e).1,k b o (z b o e).1 (z b o e).2⟩
theorem ZK.free(z:ZK Z a H)(h:H p=none):Z p=none:=by
 cases q:Z p with
 |none=>rfl
 |some o=>rw[(z p o q).2] at h;cases h
theorem ZK.new(z:ZK Z a H)(h:H p=none):dif (upd H p o) Z p=some o:=by rw[yR (z.free h)];exact zJ
theorem aW.Yw(h:aW (dif H Z) v t)(e:H a=some (.lst xs))(k:Kp a H H'):aW (dif H' Z) v t:=h.mono λc ys q=>by
 unfold dif at q ⊢
 cases b:Z c with
 |some u=>grind
 |none=>rw[b] at q;exact k c _ (λn=>by grind) q
def Dq(K:Frag)(n:Nat):Sp:=λh H Q _=>∃(a b:Addr)(d:Nat)(g:LI)(f:List Str),h=[.ref a,.ref b,.int d]/\d<n/\H a=some (.lst (g.map V.int))/\aN K H b (f.map V.str)/\b≠a/\f.length<=1000 /\
 ∃Z:Hp,ZK Z a H/\∀(v:V)(t:Tr)(e:LI)(c:Hp),Kp a H c->c a=some (.lst (e.map V.int))->aW (dif c Z) v t->t.depth<=d->Q v c
theorem sI:ao ["_law_rest","_law_names","_law_deep","_law_cell_here","_law_way","_law_word","_law_left"] ["_law_rest","_law_names","_law_deep"] (zH zVo):=⟨rfl,rfl,rfl,by decide +kernel,rfl,by decide +kernel,by decide +kernel⟩
theorem Rm(h0:0<=c)(h1:c<7):∃i:Fin 7,bL [V.str "not",V.str "somenext",V.str "eachnext",V.str "somealways",V.str "eachalways",V.str "someever",V.str "eachever"] c=some (.str (w1 i)):=by
 have h:c=0\/c=1\/c=2\/c=3\/c=4\/c=5\/c=6:=by omega
 rcases h with rfl|rfl|rfl|rfl|rfl|rfl|rfl
 ·exact⟨0,rfl⟩
 ·exact⟨1,rfl⟩
 ·exact⟨2,rfl⟩
 ·exact⟨3,rfl⟩
 ·exact⟨4,rfl⟩
 ·exact⟨5,rfl⟩
 ·exact⟨6,rfl⟩
theorem Rn(h0:0<=c)(h1:c<4):∃i:Fin 4,bL [V.str "both",V.str "either",V.str "sometill",V.str "eachtill"] c=some (.str (w2 i)):=by
 have h:c=0\/c=1\/c=2\/c=3:=by omega
 rcases h with rfl|rfl|rfl|rfl
 ·exact⟨0,rfl⟩
 ·exact⟨1,rfl⟩
 ·exact⟨2,rfl⟩
 ·exact⟨3,rfl⟩
set_option maxHeartbeats 4000000 in
theorem GZ(F:aV K "_law_grown" "_law_grown" zVo f fd)(bF:Binds K fd ["_law_rest","_law_names","_law_deep"] [])(mF:mg "_law_grown" = some (.ref f))(GC:aq P w K mg base aP 1 g gd ["_law_rest"] Rk)(bC:Binds K gd ["_law_rest"] [])(kC:keepIn K (.ref g)=true)(mC:mg "_law_cell" = some (.ref g))(B:Bl K mg) :
  ∀n:Nat,aq P w K mg base aP (n+2) f fd ["_law_rest","_law_names","_law_deep"] (Dq K n)
 |0=>vac λvs H Q E h=>by
  obtain⟨_,_,_,_,_,_,h,_⟩:=h
  exact ab2 _ h
 |n+1=>by
  have G:=GZ F bF mF GC bC kC mC B n
  refine F.ok sI (λvs H Q E h=>?_) (λcdv A outer s H vs Q E hr h=>?_)
  ·obtain⟨a,b,d,ns,xs,rfl,_⟩:=h
   rfl
  obtain⟨a,b,d,ns,xs,rfl,hdn,hA,hB,hba,Rf,Z,hz,q⟩:=h
  refine⟨_,zB (Fo (i:=3) sI.nd rfl (Or.inl rfl) (Ik (GC.mono (by omega)) hr rfl mC kC bC .nil xR (zA (pv 0) zD)))
   (zB (Fo (i:=4) sI.nd rfl (Or.inl rfl) (xT tZ (pv 3) zK))
   (zB (yT (PW.pt (pw_or (zZ qj (pv 2) zK (yL _)) (pw_or1 (zZ O7 (pv 4) zK (yL _)))))
    (zB (yT (PW.pt (pw_or (zZ qj (pv 4) zK (yL _)) (pw_or1 (zZ qj (zS vT rfl B.len aa2 (zA (pv 1) zD)) zK (yL _))))) (yA (zQ (uY (zA yE zD)))) zG)
     (yA (zQ (uY (zA yE (zA (yH wI (pv 1) (xT tZ (xT Fv (pv 3) zK) (zS vT rfl B.len aa2 (zA (pv 1) zD))) (λ_ _=>rfl)) zD)))))) zG)
   (zB (yT (zZ O7 (pv 4) zK (yL _))
    (zB (Fo (i:=5) sI.nd rfl (Or.inl rfl) (yH wI (xF (zA yE (zA yE (zA yE (zA yE (zA yE (zA yE (zA yE zD)))))))) (xT tZ (xT Fv (pv 3) zK) zK) (λ_ _=>rfl)))
     (yA (zQ (uY (zA (pv 5) (zA (Ik G hr rfl mF F.kp bF .nil xR (zA (pv 0) (zA (pv 1) (zA (xT Tt (pv 2) zK) zD)))) zD)))))) zG)
   (zB (Fo (i:=5) sI.nd rfl (Or.inl rfl) (yH wI (xF (zA yE (zA yE (zA yE (zA yE zD))))) (xT tZ (xT Fv (pv 3) zK) zK) (λ_ _=>rfl)))
   (zB (Fo (i:=6) sI.nd rfl (Or.inl rfl) (Ik G hr rfl mF F.kp bF .nil xR (zA (pv 0) (zA (pv 1) (zA (xT Tt (pv 2) zK) zD)))))
   (yA (zQ (uY (zA (pv 5) (zA (pv 6) (zA (Ik G hr rfl mF F.kp bF .nil xR (zA (pv 0) (zA (pv 1) (zA (xT Tt (pv 2) zK) zD)))) zD))))))))))),?_⟩
  refine⟨_,rfl,a,ns,rfl,hA,λc Vl H1 k1 e1=>?_⟩
  have Nu:=U9 hB hba k1
  have hz1:=hz.kp k1
  refine⟨_,rfl,_,_,rfl,rfl,(by show(0:Int)<16;decide),?_⟩
  have c0:=ad0 (c/16) (show(7:Int)≠0 by decide)
  have c1:=ac5 (c/16) (show(0:Int)<7 by decide)
  have c2:=ad0 (c/16) (show(4:Int)≠0 by decide)
  have c3:=ac5 (c/16) (show(0:Int)<4 by decide)
  have stop:∀{D:Ends},D.rt=Q->dY (rE (V2 (TF (gF V_ (aZ 4) (tC (.int 0)))) (TF (gF V_ (rJ (λxs H Q=>∃p ys,xs=[V.ref p]/\(aN K H p ys\/bT K H p ys)/\Q (.int ys.length) H) (yK (aZ 1) aU)) (tC (.int 0))))) (nH (rG (yK (tC (.str "all")) aU))) HN)
    (nH (rG (yK (tC (.str "mark")) (yK (gF (oW K) (aZ 1) (gF (rI (λ_ j=>0<j) λi j=>.int (i%j)) (gF (rI Ie λi j=>.int (i/j)) (aZ 3) (tC (.int 16))) (rJ (λxs H Q=>∃p ys,xs=[V.ref p]/\(aN K H p ys\/bT K H p ys)/\Q (.int ys.length) H) (yK (aZ 1) aU)))) aU)))) D
    [some (.ref a),some (.ref b),some (.int d),some (.int c),some (.int (c%16)),none,none] H1:=by
   intro D hD
   have G3:∀p,H1 p=none->D.rt (.ref p) (upd H1 p (.tup [.str "all"])):=λp hp=>by
    rw[hD]
    exact q _ .all Vl _ (k1.trans (Kp.of (au hp _))) (au hp _ _ _ e1) (.all (hz1.new hp)) (aa0 _)
   refine⟨_,rfl,rfl,_,rfl,?_⟩
   refine uo (λ_=>iT ⟨(by show 1<=sizeLine;decide),G3⟩) (λ_=>?_)
   refine⟨_,rfl,b,_,rfl,.inl Nu,rfl,_,rfl,uo (λ_=>⟨(by show 1<=sizeLine;decide),G3⟩) (λhne=>?_)⟩
   have hx0:xs.length≠0:=λe=>hne (by rw[length_map,e];exact decide_eq_true rfl)
   have hpos:(0:Int)<((xs.map V.str).length:Int):=by rw[length_map];omega
   have d0:=ad0 (c/16) (show((xs.map V.str).length:Int)≠0 by omega)
   have d1:=ac5 (c/16) hpos
   rw[length_map] at d0 d1
   have hil:((c/16)%(xs.length:Int)).toNat<xs.length:=by omega
   have hat:bL (xs.map V.str) ((((c/16)%(xs.length:Int)).toNat:Nat):Int)=some (.str xs[((c/16)%(xs.length:Int)).toNat]):=TY (by rw[getElem?_map,aaj hil]<;>rfl)
   rw[show((((c/16)%(xs.length:Int)).toNat:Nat):Int)=(c/16)%(xs.length:Int) by omega] at hat
   refine⟨_,rfl,_,rfl,_,_,rfl,rfl,⟨by decide,by decide⟩,_,rfl,b,_,rfl,.inl Nu,_,_,rfl,rfl,hpos,b,_,_,_,rfl,rfl,Nu,(by rw[length_map];exact hat),(by show 2<=sizeLine;decide),λp hp=>?_⟩
   rw[hD]
   exact q _ (.mark _) Vl _ (k1.trans (Kp.of (au hp _))) (au hp _ _ _ e1) (.mark (hz1.new hp)) (aa0 _)
  refine⟨_,rfl,rfl,_,rfl,?_⟩
  refine uo (λ_=>iT (stop rfl)) (λhd0=>?_)
  have hd1:1<=d:=by
   have:¬((d:Int)=0):=λe=>hd0 (by rw[e];exact decide_eq_true rfl)
   omega
  refine⟨_,rfl,_,_,rfl,rfl,_,rfl,?_⟩
  refine uo (λ_=>stop rfl) (λ_=>?_)
  have dm:(d:Int)-1=((d-1:Nat):Int):=by omega
  refine⟨_,rfl,_,_,rfl,rfl,_,rfl,uo (λ_=>?_) (λ_=>?_)⟩
  ·obtain⟨i,hi⟩:=Rm c0 c1
   refine⟨(by show 7<=sizeLine;decide),λt0 h0=>?_⟩
   have k2:=Kp.of (p:=a) (au h0 (.lst [V.str "not",V.str "somenext",V.str "eachnext",V.str "somealways",V.str "eachalways",V.str "someever",V.str "eachever"]))
   have at0:a≠t0:=zL e1 h0
   refine⟨_,rfl,_,_,rfl,rfl,⟨by decide,by decide⟩,_,_,rfl,rfl,(by show(0:Int)<7;decide),t0,_,_,_,rfl,rfl,aN.of zJ,hi,?_⟩
   refine⟨_,rfl,_,rfl,_,rfl,_,rfl,_,_,rfl,rfl,a,b,d-1,Vl,xs,congrArg (λz=>[V.ref a,V.ref b,V.int z]) dm,by omega,by rw[zN at0];exact e1,U9 Nu hba k2,hba,Rf,Z,hz1.kp k2,λv t Yx H2 k3 e2 ht hdt=>?_⟩
   refine⟨(by show 2<=sizeLine;decide),λp hp=>?_⟩
   refine q _ (.one i t) Yx _ (((k1.trans k2).trans k3).trans (Kp.of (au hp _))) (au hp _ _ _ e2) (.one (((hz1.kp k2).kp k3).new hp) (ht.same (yO (au hp _)))) ?_
   show t.depth+1<=d
   omega
  ·obtain⟨i,hi⟩:=Rn c2 c3
   refine⟨(by show 4<=sizeLine;decide),λt0 h0=>?_⟩
   have k2:=Kp.of (p:=a) (au h0 (.lst [V.str "both",V.str "either",V.str "sometill",V.str "eachtill"]))
   have at0:a≠t0:=zL e1 h0
   refine⟨_,rfl,_,_,rfl,rfl,⟨by decide,by decide⟩,_,_,rfl,rfl,(by show(0:Int)<4;decide),t0,_,_,_,rfl,rfl,aN.of zJ,hi,?_⟩
   refine⟨_,rfl,_,rfl,_,rfl,_,_,rfl,rfl,a,b,d-1,Vl,xs,congrArg (λz=>[V.ref a,V.ref b,V.int z]) dm,by omega,by rw[zN at0];exact e1,U9 Nu hba k2,hba,Rf,Z,hz1.kp k2,λv t Yx H2 k3 e2 ht hdt=>?_⟩
   refine⟨_,rfl,_,rfl,_,rfl,_,rfl,_,rfl,_,_,rfl,rfl,a,b,d-1,Yx,xs,congrArg (λz=>[V.ref a,V.ref b,V.int z]) dm,by omega,e2,U9 Nu hba (k2.trans k3),hba,Rf,Z,(hz1.kp k2).kp k3,λv' t' ns3 H3 k4 e3 ht' hdt'=>?_⟩
   refine⟨(by show 3<=sizeLine;decide),λp hp=>?_⟩
   have ht3:=(ht.Yw e2 k4).same (yO (au hp (.tup [V.str (w2 i),v,v'])))
   refine q _ (.two i t t') ns3 _ ((((k1.trans k2).trans k3).trans k4).trans (Kp.of (au hp _))) (au hp _ _ _ e3) (.two ((((hz1.kp k2).kp k3).kp k4).new hp) ht3 (ht'.same (yO (au hp _)))) ?_
   show max t.depth t'.depth+1<=d
   omega
end
section
variable{P:Program}{w:World}{K:Frag}{mg:Str->Option Value}{base:Heap}{cl fi:Hd->Addr}{di:Hd->FuncData}
theorem KC(d:Same Z H)(m:aR cl (dif H Z) c t)(g:σ[1]?=some (some (.ref c)))(k:∀(p:Addr) (H':Hp),Same H H'->aR cl (dif H' Z) p (.one i t)->Q (.ref p) H') :
  O9 (cl (.one i)) (n6 (cl (.one i)) (w1 i)) [] E0 (yK (aZ 1) aU) σ H Q:=by
 refine⟨_,g,?_⟩
 intro x f a b ne
 exact⟨x,f,.ref c,rfl,zJ,λq H' e j n l=>⟨rfl,k x H' (J0 a b e) (.one (by rw[yR (d.free a)];exact l) (by rw[yR (d.free ((QS a b).free j))];exact n) (m.same (yO (J0 a b e))))⟩⟩
def KD(cl:Hd->Addr):Sp:=λb H Q _=>∃(Z:Hp)(i:Fin 7)(c:Addr)(t:Tr),b=[.str (w1 i),.ref c]/\Same Z H/\aR cl (dif H Z) c t/\∀(p:Addr)(a:Hp),Same H a->aR cl (dif a Z) p (.one i t)->Q (.ref p) a
theorem Yy:ao ["_law_word","_law_part"] ["_law_word","_law_part"] (zH zPi):=⟨rfl,rfl,rfl,by decide +kernel,rfl,by decide +kernel,by decide +kernel⟩
theorem fi7:∀i:Fin 7,i=0\/i=1\/i=2\/i=3\/i=4\/i=5\/i=6:=by decide
theorem fi4:∀i:Fin 4,i=0\/i=1\/i=2\/i=3:=by decide
theorem gV(h:¬x=y):¬V.str x=V.str y:=λe=>h (V.str.inj e)
set_option maxHeartbeats 4000000 in
theorem Ro(F:aV K "_law_single" "_law_single" zPi f fd)(I:XR P w K mg base 3 cl fi di):aq P w K mg base aP 5 f fd ["_law_word","_law_part"] (KD cl):=by
 refine F.ok Yy (λvs H Q E h=>?_) (λcdv A outer s H vs Q E hr h=>?_)
 ·obtain⟨_,i,c,t,rfl,_⟩:=h
  rfl
 obtain⟨Z,i,c,t,rfl,sz,hc,q⟩:=h
 refine⟨_,zB (yT (zZ qj (pv 0) yE (yL _)) (yA (zQ (vD (I.made (.one 0)) (I.i1 0) hr rfl (I.m1 0) (I.b1 0) .nil xR (zA (pv 1) zD)))) zG)
  (zB (yT (zZ qj (pv 0) yE (yL _)) (yA (zQ (vD (I.made (.one 1)) (I.i1 1) hr rfl (I.m1 1) (I.b1 1) .nil xR (zA (pv 1) zD)))) zG)
  (zB (yT (zZ qj (pv 0) yE (yL _)) (yA (zQ (vD (I.made (.one 2)) (I.i1 2) hr rfl (I.m1 2) (I.b1 2) .nil xR (zA (pv 1) zD)))) zG)
  (zB (yT (zZ qj (pv 0) yE (yL _)) (yA (zQ (vD (I.made (.one 3)) (I.i1 3) hr rfl (I.m1 3) (I.b1 3) .nil xR (zA (pv 1) zD)))) zG)
  (zB (yT (zZ qj (pv 0) yE (yL _)) (yA (zQ (vD (I.made (.one 4)) (I.i1 4) hr rfl (I.m1 4) (I.b1 4) .nil xR (zA (pv 1) zD)))) zG)
  (zB (yT (zZ qj (pv 0) yE (yL _)) (yA (zQ (vD (I.made (.one 5)) (I.i1 5) hr rfl (I.m1 5) (I.b1 5) .nil xR (zA (pv 1) zD)))) zG)
  (yA (zQ (vD (I.made (.one 6)) (I.i1 6) hr rfl (I.m1 6) (I.b1 6) .nil xR (zA (pv 1) zD))))))))),?_⟩
 rcases fi7 i with rfl|rfl|rfl|rfl|rfl|rfl|rfl
 ·exact⟨_,rfl,rfl,_,rfl,rY rfl (KC sz hc rfl q)⟩
 ·exact⟨_,rfl,rfl,_,rfl,bR (gV (by decide +kernel)) ⟨_,rfl,rfl,_,rfl,rY rfl (KC sz hc rfl q)⟩⟩
 ·exact⟨_,rfl,rfl,_,rfl,bR (gV (by decide +kernel)) ⟨_,rfl,rfl,_,rfl,bR (gV (by decide +kernel)) ⟨_,rfl,rfl,_,rfl,rY rfl (KC sz hc rfl q)⟩⟩⟩
 ·exact⟨_,rfl,rfl,_,rfl,bR (gV (by decide +kernel)) ⟨_,rfl,rfl,_,rfl,bR (gV (by decide +kernel)) ⟨_,rfl,rfl,_,rfl,bR (gV (by decide +kernel)) ⟨_,rfl,rfl,_,rfl,rY rfl (KC sz hc rfl q)⟩⟩⟩⟩
 ·exact⟨_,rfl,rfl,_,rfl,bR (gV (by decide +kernel)) ⟨_,rfl,rfl,_,rfl,bR (gV (by decide +kernel)) ⟨_,rfl,rfl,_,rfl,bR (gV (by decide +kernel)) ⟨_,rfl,rfl,_,rfl,bR (gV (by decide +kernel)) ⟨_,rfl,rfl,_,rfl,rY rfl (KC sz hc rfl q)⟩⟩⟩⟩⟩
 ·exact⟨_,rfl,rfl,_,rfl,bR (gV (by decide +kernel)) ⟨_,rfl,rfl,_,rfl,bR (gV (by decide +kernel)) ⟨_,rfl,rfl,_,rfl,bR (gV (by decide +kernel)) ⟨_,rfl,rfl,_,rfl,bR (gV (by decide +kernel)) ⟨_,rfl,rfl,_,rfl,bR (gV (by decide +kernel)) ⟨_,rfl,rfl,_,rfl,rY rfl (KC sz hc rfl q)⟩⟩⟩⟩⟩⟩
 ·exact⟨_,rfl,rfl,_,rfl,bR (gV (by decide +kernel)) ⟨_,rfl,rfl,_,rfl,bR (gV (by decide +kernel)) ⟨_,rfl,rfl,_,rfl,bR (gV (by decide +kernel)) ⟨_,rfl,rfl,_,rfl,bR (gV (by decide +kernel)) ⟨_,rfl,rfl,_,rfl,bR (gV (by decide +kernel)) ⟨_,rfl,rfl,_,rfl,bR (gV (by decide +kernel)) (KC sz hc rfl q)⟩⟩⟩⟩⟩⟩
def KH(cl:Hd->Addr)(n:Nat):Sp:=λb H Q _=>∃(Z:Hp)(v:V)(t:Tr),b=[v]/\Same Z H/\aW H v t/\t.depth<n/\t.depth<8/\∀(p:Addr)(a:Hp),Same H a->aR cl (dif a Z) p t->Q (.ref p) a
theorem Rq:ao ["_law_tree","_law_parts"] ["_law_tree"] (zH GX):=⟨rfl,rfl,rfl,by decide +kernel,rfl,by decide +kernel,by decide +kernel⟩
theorem Yz:(["_law_part"]:List Str).Nodup:=by decide +kernel
theorem YB(s:Same H H'):∀{a:List Addr}{ts:List Tr},Paired (aR cl H) a ts->Paired (aR cl H') a ts
 |_,_,.nil=>.nil
 |_,_,.cons r t=>.cons (r.same s) (YB s t)
theorem zPz{α β:Type}{F:α->β->Prop}{ts:List β}{a:List α}{t:β}{c:α}(h:Paired F a (ts.take i))(b:ts[i]?=some t)(f:F c t):Paired F (a++[c]) (ts.take (i+1)):=by
 rw[take_add_one,b]
 exact ae4 h f
theorem zGi(sz:Same Z H)(hb:bT K H b vs)(hp:Paired (aW H) vs ts)(hd:∀t∈ts,t.depth<n/\t.depth<8)(hz:vs.length<=2)(k:∀(l:Addr) (cs:List Addr) (H':Hp),Same H H'->H' l=some (.lst (cs.map V.ref))->H l=none->Paired (aR cl (dif H' Z)) cs ts->Q (.ref l) H') :
  Mx 1 [] (vR 0) rO (rH (KH cl n) [] E0 (yK (aZ 0) aU)) σ Q (Ti K b) H:=by
 have hln:=hp.length
 refine zUx (K:=K) (a:=b) (xs:=vs) (λi ys σ H2=>∃(cs:List Addr)(v:Option V),ys=cs.map V.ref/\σ=[v]/\Same H H2/\Paired (aR cl (dif H2 Z)) cs (ts.take i)/\cs.length=i)
  ⟨[],none,rfl,rfl,Same.refl H,.nil,rfl⟩ (λi ys σ H2 _ ⟨cs,v,e,_,s2,_,hi⟩=>⟨?_,by rw[e,length_map,hi];exact aak _⟩) (Wt (by omega)) ?_ ?_
 ·rcases hb with(hb|⟨o,hb⟩)|hb
  ·exact .inl (.inl (s2 _ _ hb))
  ·exact .inl (.inr ⟨o,s2 _ _ hb⟩)
  ·exact .inr hb
 ·rintro i y ys σ H2 hi ⟨cs,v,rfl,rfl,s2,hN,hci⟩
  obtain⟨t,ht,hty⟩:=Vi hp hi
  obtain⟨d1,d2⟩:=hd t (mem_of_getElem? ht)
  refine zL6 ?_
  refine⟨_,rfl,Z,_,t,rfl,sz.trans s2,hty.same s2,d1,d2,λp H3 s3 hs=>?_⟩
  exact⟨cs++[p],_,by rw[map_append]<;>rfl,rfl,s2.trans s3,zPz (YB (yO s3) hN) ht hs,by rw[length_append,hci]<;>rfl⟩
 ·rintro ys σ H2 ⟨cs,v,rfl,rfl,s2,hN,hci⟩ p hp0
  have e:ts.take vs.length=ts:=by rw[hln];exact take_length
  rw[e] at hN
  exact k p cs _ (s2.trans (au hp0 _)) zJ (s2.free hp0) (YB (yO (au hp0 _)) hN)
theorem Vm(j:Same Z H)(g:H l=some (.lst [V.ref c,V.ref d]))(o:aR cl (dif H Z) c t)(hd:aR cl (dif H Z) d u)(f:σ[1]?=some (some (.ref l)))(k:∀(p:Addr) (H':Hp),Same H H'->aR cl (dif H' Z) p (.two i t u)->Q (.ref p) H') :
  O9 (cl (.two i)) (sy (cl (.two i)) (w2 i)) [] E0 (yK (gF (oW K) (aZ 1) (tC (.int 0))) (yK (gF (oW K) (aZ 1) (tC (.int 1))) aU)) σ H Q:=by
 refine⟨_,f,l,_,_,_,rfl,rfl,aN.of g,rfl,_,f,l,_,_,_,rfl,rfl,aN.of g,rfl,?_⟩
 intro x s a b ne
 exact⟨x,s,.ref c,.ref d,rfl,zJ,λq H' e n m r=>⟨rfl,k x H' (J0 a b e) (.two (by rw[yR (j.free a)];exact r) (by rw[yR (j.free ((QS a b).free n))];exact m) (o.same (yO (J0 a b e))) (hd.same (yO (J0 a b e))))⟩⟩
set_option maxHeartbeats 8000000 in
theorem G4(F:aV K "_law_made" "_law_made" GX f fd)(bF:Binds K fd ["_law_tree"] [])(mF:mg "_law_made" = some (.ref f))(I:XR P w K mg base 3 cl fi di)(GS:aq P w K mg base aP 5 g gd ["_law_word","_law_part"] (KD cl))(bS:Binds K gd ["_law_word","_law_part"] [])(kS:keepIn K (.ref g)=true)(mS:mg "_law_single" = some (.ref g))(B:Bl K mg) :
  ∀n:Nat,aq P w K mg base aP (n+5) f fd ["_law_tree"] (KH cl n)
 |0=>vac λvs H Q E h=>by
  obtain⟨_,_,_,_,_,_,h,_⟩:=h
  exact ab2 _ h
 |n+1=>by
  have G:=G4 F bF mF I GS bS kS mS B n
  refine F.ok Rq (λvs H Q E h=>?_) (λcdv A outer s H vs Q E hr h=>?_)
  ·obtain⟨_,v,t,rfl,_⟩:=h
   rfl
  obtain⟨Z,v,t,rfl,sz,hT,hn,h8,q⟩:=h
  have hu:=hr.units
  have Nv:bI 4 _:=hr.mono (show 4<=n+5 by omega)
  refine⟨_,zB (yT (zZ qj (yH yp (pv 0) zK (λ_ _=>rfl)) yE (yL _)) (yA (zQ (zTl (I.made .all) I.iA Nv rfl I.mA I.bA .nil xR))) zG)
   (zB (yT (zZ qj (yH yp (pv 0) zK (λ_ _=>rfl)) yE (yL _)) (yA (zQ (vD (I.made .mark) I.iM Nv rfl I.mM I.bM .nil xR (zA (yH yp (pv 0) zK (λ_ _=>rfl)) zD)))) zG)
   (zB (Ba (i:=1) (own:=["_law_part"]) (ix:=[]) Rq.nd rfl rfl rfl rfl rfl (Zv (uZ Z9 (pv 0) (FQ zK) FN)) (λC s H fp=>yQ (i:=0) Yz rfl (Or.inl rfl)) (λC s H fp=>wR)
    (λC s H fp=>Ik G hr rfl mF F.kp bF .nil xR (zA (pv 0) zD)))
   (zB (IW (yT (PW.pt (pw_and (zZ qj (zS vT rfl B.len aa2 (zA (pv 0) zD)) zK (yL _)) (pw_and1 (zZ (CZ hu) (yH yp (pv 0) zK (λ_ _=>rfl)) (yH yp (pv 0) zK (λ_ _=>rfl)) (yL _)))))
    (yA (Ox (yH wI (pv 1) zK (λ_ _=>rfl)) (Ow (pv 1) zK Mv))) zG))
   (zB (yT (zZ qj (zS vT rfl B.len aa2 (zA (pv 0) zD)) zK (yL _)) (yA (zQ (Ik (GS.mono (show 5<=n+5 by omega)) hr rfl mS kS bS .nil xR (zA (yH yp (pv 0) zK (λ_ _=>rfl)) (zA (yH wI (pv 1) zK (λ_ _=>rfl)) zD))))) zG)
   (zB (yT (zZ qj (yH yp (pv 0) zK (λ_ _=>rfl)) yE (yL _)) (yA (zQ (vD (I.made (.two 0)) (I.i2 0) Nv rfl (I.m2 0) (I.b2 0) .nil xR (zA (yH wI (pv 1) zK (λ_ _=>rfl)) (zA (yH wI (pv 1) zK (λ_ _=>rfl)) zD))))) zG)
   (zB (yT (zZ qj (yH yp (pv 0) zK (λ_ _=>rfl)) yE (yL _)) (yA (zQ (vD (I.made (.two 1)) (I.i2 1) Nv rfl (I.m2 1) (I.b2 1) .nil xR (zA (yH wI (pv 1) zK (λ_ _=>rfl)) (zA (yH wI (pv 1) zK (λ_ _=>rfl)) zD))))) zG)
   (zB (yT (zZ qj (yH yp (pv 0) zK (λ_ _=>rfl)) yE (yL _)) (yA (zQ (vD (I.made (.two 2)) (I.i2 2) Nv rfl (I.m2 2) (I.b2 2) .nil xR (zA (yH wI (pv 1) zK (λ_ _=>rfl)) (zA (yH wI (pv 1) zK (λ_ _=>rfl)) zD))))) zG)
   (yA (zQ (vD (I.made (.two 3)) (I.i2 3) Nv rfl (I.m2 3) (I.b2 3) .nil xR (zA (yH wI (pv 1) zK (λ_ _=>rfl)) (zA (yH wI (pv 1) zK (λ_ _=>rfl)) zD)))))))))))),?_⟩
  cases hT with
  |@all a h1 =>
   refine⟨_,rfl,a,_,_,_,rfl,rfl,bT.of h1,rfl,rfl,_,rfl,rY rfl ?_⟩
   intro x dx nx nd ne
   exact⟨x,dx,rfl,zJ,λq0 H' k1 f0 e1 e2=>⟨rfl,q x H' (J0 nx nd k1) (.all (by rw[yR (sz.free nx)];exact e2) (by rw[yR (sz.free ((QS nx nd).free f0))];exact e1))⟩⟩
  |@mark a x0 h1 =>
   refine⟨_,rfl,a,_,_,_,rfl,rfl,bT.of h1,rfl,rfl,_,rfl,bR (gV zT1) ?_⟩
   refine⟨_,rfl,a,_,_,_,rfl,rfl,bT.of h1,rfl,rfl,_,rfl,rY rfl ?_⟩
   refine⟨_,rfl,a,_,_,_,rfl,rfl,bT.of h1,rfl,?_⟩
   intro x dx nx nd ne
   exact⟨x,dx,.str x0,rfl,zJ,λq0 H' k1 f0 e1 e2=>⟨rfl,q x H' (J0 nx nd k1) (.mark (by rw[yR (sz.free nx)];exact e2) (by rw[yR (sz.free ((QS nx nd).free f0))];exact e1))⟩⟩
  |@one a i v t h1 ht =>
   have hd1:t.depth+1<n+1:=hn
   have hd8:t.depth+1<8:=h8
   refine⟨_,rfl,a,_,_,_,rfl,rfl,bT.of h1,rfl,rfl,_,rfl,bR (gV (Kf i)) ?_⟩
   refine⟨_,rfl,a,_,_,_,rfl,rfl,bT.of h1,rfl,rfl,_,rfl,bR (gV (Yb i)) ?_⟩
   refine⟨_,rfl,1,rfl,a,_,rfl,bT.of h1,(by show¬(1=0/\2=2);decide),λb hb=>⟨b,rfl,⟨_,bT.of zJ⟩,?_⟩⟩
   have s1:=au hb (.tup [v])
   refine zGi (n:=n) (vs:=[v]) (ts:=[t]) (sz.trans s1) (bT.of zJ) (.cons (ht.same s1) .nil) (λt' h'=>by
    have e:t'=t:=by simpa using h'
    subst e
    exact⟨by omega,by omega⟩) (by show 1<=2;decide) λl cs H2 s2 e2 f2 hp=>?_
   cases hp with
   |@cons c _ _ _ hc hnil =>
    cases hnil
    have hA:=s2 _ _ (s1 _ _ h1)
    refine⟨λσ H3=>σ=[some (.ref a),some (.ref l)]/\H3=H2,?_,?_⟩
    ·refine⟨_,rfl,a,_,rfl,.inr (bT.of hA),rfl,_,rfl,?_⟩
     refine bR (by intro z;injection z with z;have z':((2:Nat):Int)=3:=z;omega) ?_
     exact⟨rfl,rfl⟩
    rintro σ H3 ⟨rfl,rfl⟩
    refine⟨_,rfl,a,_,rfl,.inr (bT.of hA),rfl,_,rfl,rY rfl ?_⟩
    refine⟨_,rfl,a,_,_,_,rfl,rfl,bT.of hA,rfl,_,rfl,l,_,_,_,rfl,rfl,aN.of e2,rfl,Z,i,c,t,rfl,sz.trans (s1.trans s2),hc,λp H4 s4 hs=>?_⟩
    exact q p H4 (s1.trans (s2.trans s4)) hs
  |@two a i v u t t' h1 ht ht' =>
   have hd1:max t.depth t'.depth+1<n+1:=hn
   have hd8:max t.depth t'.depth+1<8:=h8
   refine⟨_,rfl,a,_,_,_,rfl,rfl,bT.of h1,rfl,rfl,_,rfl,bR (gV (Kg i)) ?_⟩
   refine⟨_,rfl,a,_,_,_,rfl,rfl,bT.of h1,rfl,rfl,_,rfl,bR (gV (CW i)) ?_⟩
   refine⟨_,rfl,1,rfl,a,_,rfl,bT.of h1,(by show¬(1=0/\3=3);decide),λb hb=>⟨b,rfl,⟨_,bT.of zJ⟩,?_⟩⟩
   have s1:=au hb (.tup [v,u])
   refine zGi (n:=n) (vs:=[v,u]) (ts:=[t,t']) (sz.trans s1) (bT.of zJ) (.cons (ht.same s1) (.cons (ht'.same s1) .nil)) (λt0 h'=>by
    have e:t0=t\/t0=t':=by simpa using h'
    rcases e with rfl|rfl
    ·exact⟨by omega,by omega⟩
    ·exact⟨by omega,by omega⟩) (by show 2<=2;decide) λl cs H2 s2 e2 f2 hp=>?_
   cases hp with
   |@cons c _ _ _ hc hrest =>
    cases hrest with
    |@cons d _ _ _ hd hnil =>
     cases hnil
     have hA:=s2 _ _ (s1 _ _ h1)
     have ht2:=(ht.same s1).same s2
     have YC:=(ht'.same s1).same s2
     refine⟨λσ H3=>σ=[some (.ref a),some (.ref l)]/\∃d',Kp l H2 H3/\H3 l=some (.lst [V.ref c,V.ref d'])/\aR cl (dif H2 Z) d' t',?_,?_⟩
     ·refine⟨_,rfl,a,_,rfl,.inr (bT.of hA),rfl,_,rfl,rY rfl ?_⟩
      refine⟨_,rfl,a,_,_,_,rfl,rfl,bT.of hA,rfl,_,rfl,a,_,_,_,rfl,rfl,bT.of hA,rfl,t,t',ht2,YC,by omega,λb hb=>⟨_,rfl,?_⟩⟩
      cases b with
      |true =>
       refine iT ?_
       refine⟨_,rfl,l,_,_,_,rfl,rfl,aN.of e2,rfl,_,rfl,l,_,_,_,rfl,rfl,e2,rfl,rfl,c,Kp.put l H2 _,zJ,?_⟩
       rw[<-hb rfl]
       exact hc
      |false =>
       refine j9 ?_
       exact⟨rfl,d,λb o _ e=>e,e2,hd⟩
     rintro σ H3 ⟨rfl,d',k3,e3,hd'⟩
     have s3:Same H H3:=λb o e=>k3 b o (zL e (s1.free f2)) ((s1.trans s2) b o e)
     have zq:H3 a=some (.tup [V.str (w2 i),v,u]):=s3 _ _ h1
     have dk:∀{b:Addr}{o:HO},(∀xs,o≠.lst xs)->dif H2 Z b=some o->dif H3 Z b=some o:=λ{b o} no e=>by
      unfold dif at e ⊢
      cases hz:Z b with
      |some u=>rw[hz] at e;cases e
      |none=>rw[hz] at e;exact k3 b o (λq=>by subst q;rw[e2] at e;exact no _ (aam e).symm) e
     have Ru:∀{p:Addr}{t0:Tr},aR cl (dif H2 Z) p t0->aR cl (dif H3 Z) p t0:=λ{p t0} h0=>by
      induction h0 with
      |all g1 g2=>exact .all (dk (by intro _ z;cases z) g1) (dk (by intro _ z;cases z) g2)
      |mark g1 g2=>exact .mark (dk (by intro _ z;cases z) g1) (dk (by intro _ z;cases z) g2)
      |one g1 g2 _ ih=>exact .one (dk (by intro _ z;cases z) g1) (dk (by intro _ z;cases z) g2) ih
      |two g1 g2 _ _ ih1 ih2=>exact .two (dk (by intro _ z;cases z) g1) (dk (by intro _ z;cases z) g2) ih1 ih2
     have hc3:=Ru hc
     have Vn:=Ru hd'
     have fin:∀(p:Addr)(H4:Hp),Same H3 H4->aR cl (dif H4 Z) p (.two i t t')->Q (.ref p) H4:=λp H4 s4 hs=>q p H4 (s3.trans s4) hs
     refine⟨_,rfl,a,_,rfl,.inr (bT.of zq),rfl,_,rfl,bR (by intro z;injection z with z;have z':((3:Nat):Int)=2:=z;omega) ?_⟩
     rcases fi4 i with rfl|rfl|rfl|rfl
     ·exact⟨_,rfl,a,_,_,_,rfl,rfl,bT.of zq,rfl,rfl,_,rfl,rY rfl (Vm (sz.trans s3) e3 hc3 Vn rfl fin)⟩
     ·exact⟨_,rfl,a,_,_,_,rfl,rfl,bT.of zq,rfl,rfl,_,rfl,bR (gV (by decide +kernel)) ⟨_,rfl,a,_,_,_,rfl,rfl,bT.of zq,rfl,rfl,_,rfl,rY rfl (Vm (sz.trans s3) e3 hc3 Vn rfl fin)⟩⟩
     ·exact⟨_,rfl,a,_,_,_,rfl,rfl,bT.of zq,rfl,rfl,_,rfl,bR (gV (by decide +kernel)) ⟨_,rfl,a,_,_,_,rfl,rfl,bT.of zq,rfl,rfl,_,rfl,bR (gV (by decide +kernel)) ⟨_,rfl,a,_,_,_,rfl,rfl,bT.of zq,rfl,rfl,_,rfl,rY rfl (Vm (sz.trans s3) e3 hc3 Vn rfl fin)⟩⟩⟩
     ·exact⟨_,rfl,a,_,_,_,rfl,rfl,bT.of zq,rfl,rfl,_,rfl,bR (gV (by decide +kernel)) ⟨_,rfl,a,_,_,_,rfl,rfl,bT.of zq,rfl,rfl,_,rfl,bR (gV (by decide +kernel)) ⟨_,rfl,a,_,_,_,rfl,rfl,bT.of zq,rfl,rfl,_,rfl,bR (gV (by decide +kernel)) (Vm (sz.trans s3) e3 hc3 Vn rfl fin)⟩⟩⟩
end
end Sy
namespace Ts
open PySem L2 Sy
structure bY where
 t:Tr
section
variable{P:Program}{w:World}{K:Frag}{mg:Str->Option Value}{base:Heap}{B:Bs}{sl:SL K}{md:Md}{cl:Hd->Addr}{te t1 t2 t3:TE}
instance:Rp K bY:=⟨λF v x=>aW F v x.t,λs h=>h.same s⟩
def ExA(B:Bs)(sl:SL K)(md:Md)(t:TE){α:Type}[Rp K α](P:α->Prop):Prop :=
 ∀(F:Hp)(O:Own)(H:Hp)(σ:St)(Q:VK),At B sl F O H σ->(∀a,P a->∀(v:V)(c b:Hp),aX B F H O c b->rp K (reg B c b md) v a->Q v b)->t σ H Q
theorem zRd{L:Option LI}{M:Option (List Str)}{ws:LI}{xs:List Str}{d n:Nat}{G:Int}(h1:Eo B sl .fz t1 L)(e1:L=some ws)(h2:Ex B sl .fz t2 M)(e2:M=some xs)(T:xs.length<=1000)(h3:Ex B sl .hp t3 (some G))(Y:G=(d:Int))(dn:d<n) :
  ExA B sl md (rH (Dq K n) [] E0 (yK t1 (yK t2 (yK t3 aU)))) (λx:bY=>x.t.depth<=d):=λF O H σ Q z k=>by
 subst Y
 refine h1 ws e1 F O H σ _ z λp vs A a j C r=>?_
 have Z:vs=ws.map V.int:=A2.jx r
 subst Z
 have y:=z.grow j
 have g:=y.grow (zMb j.ok C (.lst (ws.map V.int)))
 refine h2 xs e2 A O _ σ _ g λv2 m I h r2=>?_
 refine h3 _ rfl m O I σ _ (g.grow h) λv3 F3 R u s=>?_
 have s:v3=.int d:=s
 obtain⟨b,bs,rfl,b1,b2⟩:=r2
 have S:bs=xs.map V.str:=A2.jx b2
 subst S
 have X:upd a p (.lst (ws.map V.int)) p≠none:=by rw[zJ];grind
 have U:I p=some (.lst (ws.map V.int)):=h.hh _ _ zJ
 have f2:m p=none:=h.nw p (j.ok.fh.free C) X
 have D:m b=some (.lst (xs.map V.str)):=b1
 subst s
 have i:Same a R:=λc o e=>u.hh _ _ (h.hh _ _ (au C _ _ _ e))
 have N:∀c o,a c=some o->c≠p:=λc o e q=>by grind
 refine⟨p,b,d,ws,xs,rfl,dn,u.hh _ _ U,aN.of (u.hh _ _ (h.ok.fh _ _ D)),λq=>(by grind),T,a,λc o e=>⟨N c o e,i _ _ e⟩,λv t ns' l kp _ tr dt=>?_⟩
 have f:Same a l:=λc o e=>kp c o (N c o e) (i _ _ e)
 have J:=y.1.called f
 have E:rp K (dif (ext A a l) B.H0) v (bY.mk t):=Rp.mono (I_ (F:=A) y.1.h0 f) (show aW (dif l a) v t from tr)
 refine k (bY.mk t) dt v _ l (j.trans J) ?_
 exact match md with
 |.nw=>E
 |.fz=>Rp.mono aK E
 |.hp=>Rp.mono (aK.trans J.ok.fh) E
theorem Dr{α:Type}[Rp K α]{b:α->Prop}(j:Nat)(d:sl[j]?=some s)(f:dz s=false)(h:ExA B sl .nw te b):SnA B sl (g_ te (vR j)) (λx:α=>sl.set j (.fz true x)) b:=λG D σ H q k=>by
 obtain⟨F,O,g,z⟩:=q
 exact h F O H σ _ z λa i v F' H' c r=>k a i _ _ (Sg.set (g.trans c.ff) (z.grow c) d f r)
end
end Ts
namespace Sy
open PySem L2 Ts
def kn:Tr->Str
 |.all=>"all"
 |.mark _=>"mark"
 |.one i _=>w1 i
 |.two i _ _=>w2 i
def Vo:Tr->Bool
 |.mark _=>true
 |_=>false
theorem aW.look(h:aW H v t)(d:Vo t=false):∃(a:Addr)(vs:List V),v=.ref a/\H a=some (.tup (.str (kn t)::vs))/\Paired (aW H) vs (iH t):=by
 cases h with
 |all b=>exact⟨_,[],rfl,b,.nil⟩
 |mark b=>cases d
 |one b c=>exact⟨_,[_],rfl,b,.cons c .nil⟩
 |two b c e=>exact⟨_,[_,_],rfl,b,.cons c (.cons e .nil)⟩
theorem zUv(x:V)(vs:List V):qx (x::vs) (some 1) none=vs:=by
 show(vs).take ((vs.length+1)-1)=vs
 grind
theorem zUw(x:V)(vs:List V):¬(HT.cG (x::vs).length 0 (some 1)=0/\HT.cG (x::vs).length (x::vs).length none=(x::vs).length):=by
 have e1:HT.cG (x::vs).length 0 (some 1)=1:=by
  show(if(1:Int)<0 then((1:Int)+((vs.length+1:Nat):Int)).toNat else min (1:Int).toNat (vs.length+1))=1
  grind
 omega
theorem Ds(x:V)(vs:List V):bL (x::vs) 0=some x:=TY rfl
end Sy
namespace Ts
open PySem L2 Sy
theorem _root_.Sy.aW.head(h:aW H v t):∃(a:Addr)(vs:List V),v=.ref a/\H a=some (.tup (.str (kn t)::vs)):=by
 cases h with
 |all b=>exact⟨_,_,rfl,b⟩
 |mark b=>exact⟨_,_,rfl,b⟩
 |one b _=>exact⟨_,_,rfl,b⟩
 |two b _ _=>exact⟨_,_,rfl,b⟩
noncomputable def lE(x:bY):Option (List bY):=if Vo x.t=true then none else some ((iH x.t).map bY.mk)
section
variable{K:Frag}{B:Bs}{sl:SL K}{md:Md}{t1 t2 te:TE}
theorem KJ{m:Option bY}(j:Ex B sl .hp t1 m)(h2:Ex B sl .hp t2 (some (0:Int))):Ex B sl md (gF (uf K) t1 t2) (m.bind λx=>some (kn x.t)):=λc b F O H σ Q s k=>by
 cases m with
 |none=>cases b
 |some x =>
  cases(b)
  refine j x rfl F O H σ _ s λv i o g l=>?_
  refine h2 0 rfl i O o σ _ (s.grow g) λw f n d h=>?_
  cases h
  obtain⟨a,vs,rfl,e⟩:=l.head
  exact⟨a,_,0,.str (kn x.t),rfl,rfl,bT.of (d.hh _ _ e),Ds _ _,k _ f n (g.trans d) rfl⟩
theorem zVf:∀{vs:List V}{ts:List Tr},Paired (aW F) vs ts->A2 (rp K F) vs (ts.map bY.mk)
 |_,_,.nil=>trivial
 |_,_,.cons r t=>⟨r,zVf t⟩
theorem zLm(s:Same F a):∀{vs:List V}{ts:List Tr},Paired (aW F) vs ts->Paired (aW a) vs ts
 |_,_,.nil=>.nil
 |_,_,.cons r t=>.cons (r.same s) (zLm s t)
theorem KN(h:Ex B sl (cJ n) te m)(L:Ex B sl .hp t1 (some (1:Int))):Ei B sl n (Ad K (Mu (Iv K) te (Mt t1) Ms)) (m.bind λx=>lE x):=λT d F O H σ R a Z=>by
 cases m with
 |none=>cases d
 |some x =>
  have d:lE x=some T:=d
  unfold lE at d
  split at d
  case isTrue=>cases d
  rename_i hm
  cases d
  refine h x rfl F O H σ _ a λv M l o r=>?_
  refine L 1 rfl M O l σ _ (a.grow o) λw X z g j=>?_
  have j:w=.int 1:=j
  have r:=r.same (yI (B:=B) (H:=l) (H':=z) n g.ff)
  obtain⟨b,f,rfl,e,D⟩:=r.look (by grind)
  have Y:=rP g.ok n b _ e
  refine⟨1,j,b,_,rfl,bT.of Y,zUw _ _,λq J=>?_⟩
  rw[zUv]
  have s:=aX.new g.ok J (.tup f)
  refine⟨q,rfl,⟨_,bT.of zJ⟩,Z _ _ _ (o.trans (g.trans s)) λi S O4 I k p=>?_⟩
  have c:bT K I q f:=bT.of (p.fh _ _ (k _ _ zJ))
  have C:A2 (rp K (reg B (upd X q (.tup f)) (upd z q (.tup f)) (cJ n))) f ((iH x.t).map bY.mk):=zVf (zLm (yI n s.ff) D)
  refine⟨λN=>⟨_,c,by rw[C.len];exact N⟩,λy E=>?_⟩
  obtain⟨u,A,P⟩:=C.at2 E
  refine⟨⟨_,u,c,A⟩,λv H5 G=>?_⟩
  obtain⟨Q,U⟩:=G
  subst Q
  have:=A.symm.trans (U _ c)
  cases this
  exact⟨S,.refl p,Rp.mono (yI n k) P⟩
end
abbrev zJ2(K:Frag):Sp:=Dq K 6
def KQ(cl:Hd->Addr)(a:bY):Option (eV cl):=if a.t.depth<6 then some (eV.mk a.t) else none
abbrev YD(K:Frag)(cl:Hd->Addr):Sp:=b_ K false (λa:bY×Unit=>([.fz false a.1]:SL K)) (λa=>KQ cl a.1)
section
variable{P:Program}{w:World}{K:Frag}{mg:Str->Option Value}{base:Heap}{B:Bs}{sl:SL K}{cl:Hd->Addr}{t1 t2 t3:TE}
theorem KR(h:aq P w K mg base aP k f i ps (KH cl 6)):aq P w K mg base aP k f i ps (YD K cl):=aq.imp h λvs H Q E ⟨a,b,Fa,d,e,r,q⟩=>by
 cases r with
 |cons g l =>
  cases l
  have e:KQ cl a.1=some b:=e
  unfold KQ at e
  split at e
  case isFalse=>cases e
  rename_i hd
  cases e
  exact⟨H,_,a.1.t,rfl,.refl _,g.same d,hd,by omega,λp j s c=>q _ j s ⟨p,rfl,c⟩⟩
theorem zPh{u:TS}{al:Bool}{A2 β:Type}[Rp K β]{b:β}{e:A2->Prop}{g:bY->A2->Option β}{s:Slot K}{c:Option LI}{i:Option (List Str)}{xs:List Str}{d n:Nat}{k:Int}(j:Nat)(m:sl[j]?=some s)(o:dz s=false)(r:Eo B sl .fz t1 c)(h2:Ex B sl .fz t2 i)(y:i=some xs)(z:xs.length<=1000)(x:Ex B sl .hp t3 (some k))(q:k=(d:Int))(l:d<n)(h:∀s,tR B (sl.set j (.fz true s)) u al (g s) e b):tR B sl (dY (g_ (rH (Dq K n) [] E0 (yK t1 (yK t2 (yK t3 aU)))) (vR j)) u) al (λa:bY×A2=>c.bind λ_=>g a.1 a.2) (λa=>a.1.t.depth<=d/\e a.2) b:=λf hm=>by
 cases v:c with
 |none =>
  obtain⟨a,p⟩:=f
  grind
 |some ws =>
  exact CP (Dr j m o (zRd r v h2 y z x q l)) h f λa p=>by
   grind
end
end Ts
set_option maxHeartbeats 40000000
namespace Ts
open PySem L2 Sy
section
variable{P:Program}{w:World}{K:Frag}{mg:Str->Option Value}{base:Heap}
def Rv(a:Int)(b:Int):Option Bool:=if true=true then if(!false)=true then if decide ((0:Int)<=a)=true then some (decide (a<b)) else some false else some false else some false
theorem jN:ao ["thing","many"] ["thing","many"] (zH iC):=fsc
abbrev zGx(K:Frag):Sp:=b_ K false (λa:Int×Int×Unit=>([.z a.1,.z a.2.1]:SL K)) (λa=>Rv a.1 a.2.1)
theorem zKm(F:aV K "is_stand" "is_stand" iC f a)(B:Bl K mg):aq P w K mg base aP (k+1) f a ["thing","many"] (zGx K):=by
 refine yJ F jN (λ_=>rfl) (λ_=>rfl) λcdv A outer s H E hr=>?_
 have nd:=jN.nd
 refine⟨_,(zB (zQ (V3 (zS (vV K (PB (n:="int"))) rfl B.nU vW (zA (pv 0) (zA (Oj (v:=.ty "int") rfl B.int Xb rfl) zD))) (V3 (HJ (zS (vV K (PB (n:="bool"))) rfl B.nU vW (zA (pv 0) (zA (Oj (v:=.ty "bool") rfl B.bool Br rfl) zD)))) (Zn (Zy t_ O7 zK (pv 0) (pv 1)))))) zG),?_⟩
 rintro Fa ⟨q0,q1,⟨⟩⟩
 exact SB.of (yC (esc (W0 (Qg B.ii rfl (zI 0 rfl)) (W0 (Jc (Qg B.ib rfl (zI 0 rfl))) (zMg (f:=(λi j=>decide (i<=j))) (g:=(λi j=>decide (i<j))) (zR 0) (zI 0 rfl) (zI 1 rfl)))))) (by unfold Rv;simp only[bnd])
def xE(g:LI)(h:Int)(q2:Str):Option Unit:=(some ()).bind λqG=>((some g).bind λe=>xN (λ(d:List (Key×Bool)) (c:Int)=>(((Rv c h).bind λf=>some (!f)).bind λb=>if b=true then none else some ()).bind λs6=>(if((cN (Dc.mk d).kv c).isSome)=true then none else some ()).bind λs8=>(dput d c true).bind λa=>some a) e (([]:List (Key×Bool)))).bind λs3=>some ()
theorem eX:ao ["stands","many","where","ahead","stand"] ["stands","many","where"] (zH cX):=fsc
abbrev vO(K:Frag):Sp:=b_ K false (λa:LI×Int×Str×Unit=>([.z a.1,.z a.2.1,.z a.2.2.1]:SL K)) (λa=>xE a.1 a.2.1 a.2.2.1)
theorem zFa(F:aV K "check_stands" "check_stands" cX f m)(B:Bl K mg)(a:bw P w K mg base k "is_stand" ["thing","many"] (zGx K)):aq P w K mg base aP (k+1) f m ["stands","many","where"] (vO K):=by
 refine Uy F eX (λ_=>rfl) (λ_=>rfl) λcdv A outer s H E h=>?_
 have j:=eX.nd
 have l:=T5 h
 refine⟨_,(zB (xH 3 j TX) (zB (xI aat rfl (yU K (pv 0)) (bV 4 j) (zB (yT (Ot (wQ (zX a h (zA (pv 4) (zA (pv 1) zD))))) Mi zG) (zB (yT (z_ (Z1 l (pv 4) (pv 3))) Mi zG) (zB (TV l (pv 3) (pv 4) Fd rfl) zG)))) zG)),?_⟩
 rintro Fa ⟨e,g,d,⟨⟩⟩
 exact⟨_,Sn.of (zT (T_ (α:=Bool) 3 rfl rfl) (λqG=>(zT (wK (n:=false) (L:=(λc:List (Key×Bool)=>([.z e,.z g,.z d,.od (c:List (Key×Bool)),.un]:SL K))) (([]:List (Key×Bool))) bx (yW (yM 0 rfl)) (λc=>(yG 4 rfl rfl)) (λc i=>(zT (qz (PK (cI (md:=.hp) (zP (zF (esc (zI 4 rfl)) (zF (esc (zI 1 rfl)) zO))))) M9 (yD (λs7:Unit=>([.z e,.z g,.z d,.od (c:List (Key×Bool)),.z i]:SL K)) () bx)) (λs6=>(zT (qz (cI (md:=.hp) (Js (zI 4 rfl) (Uw 3 rfl))) M9 (yD (λs9:Unit=>([.z e,.z g,.z d,.od (c:List (Key×Bool)),.z i]:SL K)) () bx)) (λs8=>(zT (Xn 3 rfl rfl (esc (FZ true)) (zI 4 rfl)) (λb=>(yD (λc:List (Key×Bool)=>([.z e,.z g,.z d,.od (c:List (Key×Bool)),.un]:SL K)) b bx))))))))) (λs3=>(yD (λ_:Unit=>([.un,.un,.un,.un,.un]:SL K)) () bx))))) (by unfold xE;simp only[bnd])⟩
def wX(f:List LI):Option Unit:=(some (f.length:Int)).bind λa=>((if(decide (a<(1:Int)))=true then some true else some (decide ((60:Int)<a))).bind λb=>if b=true then none else some ()).bind λs2=>((some (za f)).bind λg=>xN (λ(s4:Unit) (c:Int×LI)=>(((((Jx "steps of stand " c.1).bind λh=>some ((h,()))).bind λi=>some (a,i)).bind λe=>some (c.2,e)).bind λd=>xE d.1 d.2.1 d.2.2.1).bind λu11=>(if(decide ((c.2.length:Int)=(0:Int)))=true then none else some ()).bind λs12=>some ()) g ()).bind λs5=>some ()
theorem fY:ao ["steps","many","stand","targets"] ["steps"] (zH dN):=fsc
abbrev zH7(K:Frag):Sp:=b_ K false (λa:((List LI))×Unit=>([.z a.1]:SL K)) (λa=>wX a.1)
theorem zF9(F:aV K "check_steps" "check_steps" dN f j)(B:Bl K mg)(b:mg "MOST_STANDS" = some (.int 60 mz))(a:bw P w K mg base k "check_stands" ["stands","many","where"] (vO K)):aq P w K mg base aP (k+1) f j ["steps"] (zH7 K):=by
 refine Uy F fY (λ_=>rfl) (λ_=>rfl) λcdv A outer s H E i=>?_
 have e:=fY.nd
 refine⟨_,(zB (xH 1 e (zS (uS K) rfl B.len aa2 (zA (pv 0) zD))) (zB (yT (PW.pt (pw_or (zZ O7 (pv 1) zK (yL _)) (pw_or1 (zZ Tz (pv 1) (wC (v:=.int 60) rfl b ⟨_,rfl⟩) (yL _))))) Mi zG) (zB (xI aat rfl (Xd K B.enum (zA (pv 0) zD)) (Fj rfl (yP (bV 2 e) (yP (bV 3 e) yh))) (zB (zY (zX a i (zA (pv 3) (zA (pv 1) (zA (ux (pv 2) (by decide)) zD))))) (zB (yT (zZ (Ge K Int i) (zS (uS K) rfl B.len aa2 (zA (pv 3) zD)) zK (yL _)) Mi zG) zG))) zG))),?_⟩
 rintro Fa ⟨d,⟨⟩⟩
 exact⟨_,Sn.of (zT (xU true 1 rfl rfl (esc (qZ (zE 0 rfl)))) (λc=>(zT (qz (PL (xL (md:=.hp) (Gg (zI 1 rfl) (zR 1))) (xL (md:=.hp) (Uj (zI 1 rfl) (zR 60)))) M9 (yD (λs3:Unit=>([.z d,.y c,.un,.un]:SL K)) () bx)) (λs2=>(zT (wK (n:=false) (L:=(λg:Unit=>([.z d,.y c,.un,.un]:SL K))) () bx (W7 (yM 0 rfl)) (λg=>(Gd 2 3 rfl rfl (λ_=>rfl) rfl)) (λg h=>(zT (MJ (md:=.hp) (zP (zF (zE 3 rfl) (zF (esc (zI 1 rfl)) (zF (esc (zV5 "steps of stand " (zI 2 rfl))) zO))))) (λu11=>(zT (qz (xL (md:=.hp) (Gf (qZ (zE 3 rfl)) (zR 0))) M9 (yD (λKY:Unit=>([.z d,.y c,.z h.1,.z h.2]:SL K)) () bx)) (λs12=>(yD (λg:Unit=>([.z d,.y c,.un,.un]:SL K)) () bx))))))) (λs5=>(yD (λ_:Unit=>([.un,.un,.un,.un]:SL K)) () bx))))))) (by unfold wX;simp only[bnd])⟩
def uP(a:Str):Option Bool:=(if(!true)=true then some true else some (decide (a∈(["all","not","both","either","somenext","eachnext","sometill","eachtill","someever","eachever"]:List Str)))).bind λb=>if b=true then some false else((Bx a).bind λc=>if decide ((1:Int)<=c)=true then some (decide (c<=(8:Int))) else some false).bind λe=>if e=true then((some (Ux a)).bind λg=>bh (λ(d:Str)=>some true) (λ(d:Str)=>some (inS d ("abcdefghijklmnopqrstuvwxyz":Str))) g).bind λf=>some (f.all id) else some false
theorem lF:ao ["name"] ["name"] (zH jH):=fsc
abbrev zJ4(K:Frag):Sp:=b_ K false (λa:Str×Unit=>([.z a.1]:SL K)) (λa=>uP a.1)
theorem zNv(F:aV K "is_name" "is_name" jH f p)(B:Bl K mg)(e:mg "LETTERS" = some (.str "abcdefghijklmnopqrstuvwxyz" sJ))(c:mg "LONGEST_NAME" = some (.int 8 lG))(b:mg "SAYING_WORDS" = some (.ref a))(d:∀H,bT K H a ((["all","not","both","either","somenext","eachnext","sometill","eachtill","someever","eachever"]:List Str).map V.str))(h:mg "all" = none)(l:mg "str" = none):aq P w K mg base aP (k+1) f p ["name"] (zJ4 K):=by
 refine yJ F lF (λ_=>rfl) (λ_=>rfl) λcdv A outer s H E hr=>?_
 have nd:=lF.nd
 refine⟨_,(zB (yT (PW.pt (pw_or (Ot (wQ (zS (vV K (PB (n:="str"))) rfl B.nU vW (zA (pv 0) (zA (Oj (v:=.ty "str") rfl l Jz rfl) zD))))) (pw_or1 (zZ (zVx K) (pv 0) (wC (v:=.ref a) rfl b rfl) (by with_unfolding_all rfl))))) (zB (zQ Fd) zG) zG) (zB (zQ (V3 (Zy t_ t_ zK (zS zRx rfl B.len aa2 (zA (pv 0) zD)) (wC (v:=.int 8) rfl c ⟨_,rfl⟩)) (Zn (zS (zRz K rfl) rfl h Jp (zA (yt (own:=["sign"]) (ix:=[]) rfl rfl rfl (Jt (pv 0)) (λC s H m=>yQ (i:=0) (show(["sign"]:List Str).Nodup from by decide +kernel) rfl (Or.inl rfl)) (λC s H m=>wR) (λC s H m=>(Wa zP3 (pv 0) (wC (v:=.str "abcdefghijklmnopqrstuvwxyz") rfl e ⟨_,rfl⟩) (by with_unfolding_all rfl)))) zD))))) zG)),?_⟩
 rintro Fa ⟨q0,⟨⟩⟩
 exact SB.of (uJ (PL (PK (cI (md:=.hp) (Qg Qs rfl (zI 0 rfl)))) (xL (md:=.hp) (Jw d (zI 0 rfl)))) (yC (esc (FZ false))) (yC (esc (W0 (zMg (f:=(λi j=>decide (i<=j))) (g:=(λi j=>decide (i<=j))) (zR 1) (BJ (zI 0 rfl)) (zR 8)) (zMi (wZ (n:=true) (ig:=[.un]) (no:=1) (ix:=[]) rfl rfl (Ju (zI 0 rfl)) (yG 0 rfl rfl) (λo=>u_) (λo=>(esc (Jv (zI 0 rfl) (yu "abcdefghijklmnopqrstuvwxyz")))) (λo=>iu)).ex))))) (by unfold uP;simp only[bnd])
def wY(i:List (Str×LI))(j:Int):Option Unit:=(some ()).bind λqG=>((some i).bind λk=>xN (λ(h:List (Key×Bool)) (d:Str×LI)=>(((uP d.1).bind λl=>some (!l)).bind λb=>if b=true then none else some ()).bind λs6=>(if((Gp (Dc.mk h).kv d.1).isSome)=true then none else some ()).bind λs8=>(pC h d.1 true).bind λa=>(((((M_ "mark " d.1).bind λf=>some ((f,()))).bind λe=>some (j,e)).bind λg=>some (d.2,g)).bind λc=>xE c.1 c.2.1 c.2.2.1).bind λu15=>some a) k (([]:List (Key×Bool)))).bind λs3=>some ()
theorem fZ:ao ["marks","many","ahead","name","stands"] ["marks","many"] (zH dO):=fsc
abbrev zH8(K:Frag):Sp:=b_ K false (λa:((List (Str×LI)))×Int×Unit=>([.z a.1,.z a.2.1]:SL K)) (λa=>wY a.1 a.2.1)
theorem zGa(F:aV K "check_marks" "check_marks" dO f m)(B:Bl K mg)(a:bw P w K mg base k "check_stands" ["stands","many","where"] (vO K))(b:bw P w K mg base k "is_name" ["name"] (zJ4 K)):aq P w K mg base aP (k+1) f m ["marks","many"] (zH8 K):=by
 refine Uy F fZ (λ_=>rfl) (λ_=>rfl) λcdv A outer s H E i=>?_
 have j:=fZ.nd
 have l:=T5 i
 refine⟨_,(zB (xH 2 j TX) (zB (xI aat rfl (yU K (pv 0)) (Fj rfl (yP (bV 3 j) (yP (bV 4 j) yh))) (zB (yT (Ot (wQ (zX b i (zA (pv 3) zD)))) Mi zG) (zB (yT (z_ (Z1 l (pv 3) (pv 2))) Mi zG) (zB (TV l (pv 2) (pv 3) Fd rfl) (zB (zY (zX a i (zA (pv 4) (zA (pv 1) (zA (ux (pv 3) (by decide)) zD))))) zG))))) zG)),?_⟩
 rintro Fa ⟨e,g,⟨⟩⟩
 exact⟨_,Sn.of (zT (T_ (α:=Bool) 2 rfl rfl) (λqG=>(zT (wK (n:=false) (L:=(λd:List (Key×Bool)=>([.z e,.z g,.od (d:List (Key×Bool)),.un,.un]:SL K))) (([]:List (Key×Bool))) bx (yW (yM 0 rfl)) (λd=>(Gd 3 4 rfl rfl (λ_=>rfl) rfl)) (λd h=>(zT (qz (PK (cI (md:=.hp) (zP (zF (esc (zI 3 rfl)) zO)))) M9 (yD (λs7:Unit=>([.z e,.z g,.od (d:List (Key×Bool)),.z h.1,.z h.2]:SL K)) () bx)) (λs6=>(zT (qz (cI (md:=.hp) (BK (zI 3 rfl) (Uw 2 rfl))) M9 (yD (λs9:Unit=>([.z e,.z g,.od (d:List (Key×Bool)),.z h.1,.z h.2]:SL K)) () bx)) (λs8=>(zT (zS0 2 rfl rfl (esc (FZ true)) (zI 3 rfl)) (λc=>(zT (MJ (md:=.hp) (zP (zF (zE 4 rfl) (zF (esc (zI 1 rfl)) (zF (esc (Jy "mark " (zI 3 rfl))) zO))))) (λu15=>(yD (λd:List (Key×Bool)=>([.z e,.z g,.od (d:List (Key×Bool)),.un,.un]:SL K)) c bx))))))))))) (λs3=>(yD (λ_:Unit=>([.un,.un,.un,.un,.un]:SL K)) () bx))))) (by unfold wY;simp only[bnd])⟩
def vQ(e:List LI)(d:Int):Option Unit:=((some (za e)).bind λh=>xN (λ(s1:Unit) (b:Int×LI)=>(((((Jx "fair set " b.1).bind λg=>some ((g,()))).bind λc=>some (d,c)).bind λf=>some (b.2,f)).bind λa=>xE a.1 a.2.1 a.2.2.1).bind λu8=>some ()) h ()).bind λs2=>some ()
theorem gW:ao ["fair","many","number","stands"] ["fair","many"] (zH eH):=fsc
abbrev zJ5(K:Frag):Sp:=b_ K false (λa:((List LI))×Int×Unit=>([.z a.1,.z a.2.1]:SL K)) (λa=>vQ a.1 a.2.1)
theorem zHl(F:aV K "check_fair" "check_fair" eH f h)(B:Bl K mg)(a:bw P w K mg base k "check_stands" ["stands","many","where"] (vO K)):aq P w K mg base aP (k+1) f h ["fair","many"] (zJ5 K):=by
 refine Uy F gW (λ_=>rfl) (λ_=>rfl) λcdv A outer s H E g=>?_
 have d:=gW.nd
 refine⟨_,(zB (xI aat rfl (Xd K B.enum (zA (pv 0) zD)) (Fj rfl (yP (bV 2 d) (yP (bV 3 d) yh))) (zB (zY (zX a g (zA (pv 3) (zA (pv 1) (zA (ux (pv 2) (by decide)) zD))))) zG)) zG),?_⟩
 rintro Fa ⟨e,c,⟨⟩⟩
 exact⟨_,Sn.of (zT (wK (n:=false) (L:=(λb:Unit=>([.z e,.z c,.un,.un]:SL K))) () bx (W7 (yM 0 rfl)) (λb=>(Gd 2 3 rfl rfl (λ_=>rfl) rfl)) (λb x3=>(zT (MJ (md:=.hp) (zP (zF (zE 3 rfl) (zF (esc (zI 1 rfl)) (zF (esc (zV5 "fair set " (zI 2 rfl))) zO))))) (λu8=>(yD (λb:Unit=>([.z e,.z c,.un,.un]:SL K)) () bx))))) (λs2=>(yD (λ_:Unit=>([.un,.un,.un,.un]:SL K)) () bx))) (by unfold vQ;simp only[bnd])⟩
def Nx(b:List LI):Option (List LI):=(some b).bind λc=>bh (λ(a:LI)=>some true) (λ(a:LI)=>some a) c
theorem mZ:ao ["lists"] ["lists"] (zH kZ):=fsc
abbrev zU8(K:Frag):Sp:=b_ K false (λa:((List LI))×Unit=>([.z a.1]:SL K)) (λa=>Nx a.1)
theorem zQc(F:aV K "copied" "copied" kZ f c)(B:Bl K mg):aq P w K mg base aP (k+1) f c ["lists"] (zU8 K):=by
 refine yJ F mZ (λ_=>rfl) (λ_=>rfl) λcdv A outer s H E hr=>?_
 have nd:=mZ.nd
 refine⟨_,(zB (zQ (yt (own:=["things"]) (ix:=[]) rfl rfl rfl (yU K (pv 0)) (λC s H b=>yQ (i:=0) (show(["things"]:List Str).Nodup from by decide +kernel) rfl (Or.inl rfl)) (λC s H b=>wR) (λC s H b=>(wT (Jm K) rfl B.list Bt (zA (pv 0) zD))))) zG),?_⟩
 rintro Fa ⟨q0,⟨⟩⟩
 exact SB.of (yC (wZ (n:=false) (ig:=[.un]) (no:=1) (ix:=[]) rfl rfl (yW (yM 0 rfl)) (yG 0 rfl rfl) (λa=>u_) (λa=>(Jj (zE 0 rfl)).ex) (λa=>iu)).ex) (by unfold Nx;simp only[bnd])
end
abbrev Ny(C:Addr):=Uz C wX wY vQ Nx Nt
section
variable{P:Program}{w:World}{K:Frag}{mg:Str->Option Value}{base:Heap}
def yX(a:aF C):Option Int:=some (a.steps.length:Int)
theorem eY:ao ["self"] ["self"] (zH cY):=fsc
abbrev wG(K:Frag)(C:Addr):Sp:=b_ K false (λa:(aF C)×Unit=>([.z a.1]:SL K)) (λa=>yX a.1)
theorem zFb(F:aV K "many" "Machine.many" cY f a)(B:Bl K mg)(T:Cl K mg C):aq P w K mg base aP (k+1) f a ["self"] (wG K C):=by
 refine yJ F eY (λ_=>rfl) (λ_=>rfl) λcdv A outer s H E hr=>?_
 have nd:=eY.nd
 refine⟨_,(zB (zQ (zS (uS K) rfl B.len aa2 (zA (Gi K (pv 0)) zD))) zG),?_⟩
 rintro Fa ⟨q0,⟨⟩⟩
 exact SB.of (yC (esc (qZ (zJi T.cl T.nS (zE 0 rfl))))) (by unfold yX;simp only[bnd])
def yY(b:aF C)(c:Int):Option LI:=(bL b.steps c).bind λa=>iV a
theorem cZ:ao ["self","stand"] ["self","stand"] (zH cg):=fsc
abbrev vL(K:Frag)(C:Addr):Sp:=b_ K false (λa:(aF C)×Int×Unit=>([.z a.1,.z a.2.1]:SL K)) (λa=>yY a.1 a.2.1)
theorem zCs(F:aV K "next_of" "Machine.next_of" cg f b)(B:Bl K mg)(T:Cl K mg C)(a:mg "sorted" = none):aq P w K mg base aP (k+1) f b ["self","stand"] (vL K C):=by
 refine yJ F cZ (λ_=>rfl) (λ_=>rfl) λcdv A outer s H E hr=>?_
 have nd:=cZ.nd
 refine⟨_,(zB (zQ (zS (Xi K) rfl a Xf (zA (yH (bQ K) (Gi K (pv 0)) (pv 1) (λ_ _=>rfl)) zD))) zG),?_⟩
 rintro Fa ⟨q0,q1,⟨⟩⟩
 exact SB.of (yC (Xk (wF (zJi T.cl T.nS (zE 0 rfl)) (zI 1 rfl))).ex) (by unfold yY;simp only[bnd])
def xS(b:aF C)(a:Int):Option LI:=bL b.sources a
theorem dF:ao ["self","stand"] ["self","stand"] (zH cO):=fsc
abbrev zA8(K:Frag)(C:Addr):Sp:=b_ K false (λa:(aF C)×Int×Unit=>([.z a.1,.z a.2.1]:SL K)) (λa=>xS a.1 a.2.1)
theorem zDm(F:aV K "before" "Machine.before" cO f a)(B:Bl K mg)(T:Cl K mg C):aq P w K mg base aP (k+1) f a ["self","stand"] (zA8 K C):=by
 refine yJ F dF (λ_=>rfl) (λ_=>rfl) λcdv A outer s H E hr=>?_
 have nd:=dF.nd
 refine⟨_,(zB (zQ (wT (Jm K) rfl B.list Bt (zA (yH (bQ K) (Gi K (pv 0)) (pv 1) (λ_ _=>rfl)) zD))) zG),?_⟩
 rintro Fa ⟨q0,q1,⟨⟩⟩
 exact SB.of (yC (Jj (wF (zK4 T.cl T.nB (zE 0 rfl)) (zI 1 rfl))).ex) (by unfold xS;simp only[bnd])
def yF(e:aF C)(d:Str):Option LI:=((some e.marks).bind λc=>uE (λ(s1:Unit) (a:Str×LI)=>if(decide (a.1=d))=true then(iV a.2).bind λb=>some (.rt b) else some (.nx ())) c ()).bind λo=>o.els λs2=>some ([]:LI)
theorem dG:ao ["self","name","known","stands"] ["self","name"] (zH cP):=fsc
abbrev zA7(K:Frag)(C:Addr):Sp:=b_ K false (λa:(aF C)×Str×Unit=>([.z a.1,.z a.2.1]:SL K)) (λa=>yF a.1 a.2.1)
theorem zDl(F:aV K "marked" "Machine.marked" cP f h)(B:Bl K mg)(T:Cl K mg C)(a:mg "sorted" = none):aq P w K mg base aP (k+1) f h ["self","name"] (zA7 K C):=by
 refine yJ F dG (λ_=>rfl) (λ_=>rfl) λcdv A outer s H E g=>?_
 have d:=dG.nd
 refine⟨_,(zB (xI aat rfl (yU K (Gi K (pv 0))) (Fj rfl (yP (bV 2 d) (yP (bV 3 d) yh))) (zB (yT (zZ (Ge K Str g) (pv 2) (pv 1) (yL _)) (zB (zQ (zS (Xi K) rfl a Xf (zA (pv 3) zD))) zG) zG) zG)) (zB (zQ (xF zD)) zG)),?_⟩
 rintro Fa ⟨e,c,⟨⟩⟩
 exact SB.of (T8 (Uc (n:=false) (L:=(λb:Unit=>([.z e,.z c,.un,.un]:SL K))) () bx (yW (zQ9 T.cl T.nM (yM 0 rfl))) (λb=>(Gd 2 3 rfl rfl (λ_=>rfl) rfl)) (λb x3=>(PX (xL (md:=.hp) (Gf (zI 2 rfl) (zI 1 rfl))) (yC (Xk (zE 3 rfl)).ex) (T9 (λb:Unit=>([.z e,.z c,.un,.un]:SL K)) () bx)))) (λs2=>(yC (qX (α:=Int)).ex))) (by unfold yF;simp only[bnd])
def xK(b:aF C)(c:Int):Option LI:=(bL b.fair c).bind λa=>iV a
theorem c7:ao ["self","number"] ["self","number"] (zH cj):=fsc
abbrev zAu(K:Frag)(C:Addr):Sp:=b_ K false (λa:(aF C)×Int×Unit=>([.z a.1,.z a.2.1]:SL K)) (λa=>xK a.1 a.2.1)
theorem zCt(F:aV K "fair_at" "Machine.fair_at" cj f b)(B:Bl K mg)(T:Cl K mg C)(a:mg "sorted" = none):aq P w K mg base aP (k+1) f b ["self","number"] (zAu K C):=by
 refine yJ F c7 (λ_=>rfl) (λ_=>rfl) λcdv A outer s H E hr=>?_
 have nd:=c7.nd
 refine⟨_,(zB (zQ (zS (Xi K) rfl a Xf (zA (yH (bQ K) (Gi K (pv 0)) (pv 1) (λ_ _=>rfl)) zD))) zG),?_⟩
 rintro Fa ⟨q0,q1,⟨⟩⟩
 exact SB.of (yC (Xk (wF (zMf T.cl T.nF (zE 0 rfl)) (zI 1 rfl))).ex) (by unfold xK;simp only[bnd])
def yN(b:aF C):Option LI:=(yX b).bind λa=>Nj a
theorem gY:ao ["machine"] ["machine"] (zH eE):=fsc
abbrev wN(K:Frag)(C:Addr):Sp:=b_ K false (λa:(aF C)×Unit=>([.z a.1]:SL K)) (λa=>yN a.1)
theorem zHk(F:aV K "everywhere" "everywhere" eE f b)(B:Bl K mg)(a:dZ P w K mg base k C "many" ["self"] (wG K C)):aq P w K mg base aP (k+1) f b ["machine"] (wN K C):=by
 refine yJ F gY (λ_=>rfl) (λ_=>rfl) λcdv A outer s H E c=>?_
 have nd:=gY.nd
 refine⟨_,(zB (zQ (zTm rfl rfl B.list rfl B.range (zA (Uq a c (pv 0)) zD))) zG),?_⟩
 rintro Fa ⟨q0,⟨⟩⟩
 exact SB.of (yC (zUn (Bv (by decide +kernel) (zE 0 rfl) zO)).ex) (by unfold yN;simp only[bnd])
def Nz(j:aF C)(i:LI):Option (List Bool):=(((yX j).bind λe=>bW e).bind λc=>bh (λ(g:Int)=>some true) (λ(g:Int)=>some false) c).bind λa=>((some i).bind λc=>xN (λ(h:List Bool) (f:Int)=>(setAt h f true).bind λb=>some b) c a).bind λd=>some d
theorem pP:ao ["machine","stands","told","stand"] ["machine","stands"] (zH n8):=fsc
abbrev YF(K:Frag)(C:Addr):Sp:=b_ K false (λa:(aF C)×LI×Unit=>([.z a.1,.z a.2.1]:SL K)) (λa=>Nz a.1 a.2.1)
theorem zTs(F:aV K "flags" "flags" n8 f fd)(B:Bl K mg)(aL:dZ P w K mg base k C "many" ["self"] (wG K C)):aq P w K mg base aP (k+1) f fd ["machine","stands"] (YF K C):=by
 refine yJ F pP (λ_=>rfl) (λ_=>rfl) λcdv A outer s H E hr=>?_
 have nd:=pP.nd
 refine⟨_,(zB (Ba (i:=2) (own:=["stand"]) (ix:=[]) nd rfl rfl rfl rfl rfl (wS rfl B.range (zA (Uq aL hr (pv 0)) zD)) (λC s H fp=>yQ (i:=0) (show(["stand"]:List Str).Nodup from by decide +kernel) rfl (Or.inl rfl)) (λC s H fp=>wR) (λC s H fp=>Fd)) (zB (xI aat rfl (yU K (pv 1)) (bV 3 nd) (zB (Ox Fd (Ow (pv 2) (pv 3) Mv)) zG)) (zB (zQ (pv 2)) zG))),?_⟩
 rintro Fa ⟨q0,q1,⟨⟩⟩
 exact SB.of (zW (uX true 2 rfl rfl (wZ (n:=true) (ig:=[.un]) (no:=1) (ix:=[]) rfl rfl (uF (Bv (by decide +kernel) (zE 0 rfl) zO)) (yG 0 rfl rfl) (λx3=>u_) (λx3=>(esc (FZ false))) (λx3=>iu))) (λRw=>(zW (wK (n:=false) (L:=(λs4:List Bool=>([.z q0,.z q1,.ow true s4,.un]:SL K))) Rw bx (yW (yM 1 rfl)) (λs4=>(yG 3 rfl rfl)) (λs4 x6=>(zT (Ua 2 rfl rfl (esc (FZ true)) (zI 3 rfl)) (λRx=>(yD (λs4:List Bool=>([.z q0,.z q1,.ow true s4,.un]:SL K)) Rx bx))))) (λs5=>(Bg 2 rfl rfl))))) (by unfold Nz;simp only[bnd])
def uM(b:LI)(a:LI):Option LI:=mV b a
theorem lH:ao ["one","other"] ["one","other"] (zH jC):=fsc
abbrev YG(K:Frag):Sp:=b_ K false (λa:LI×LI×Unit=>([.z a.1,.z a.2.1]:SL K)) (λa=>uM a.1 a.2.1)
theorem zNs(F:aV K "without" "without" jC f c)(B:Bl K mg)(a:mg "sorted" = none)(b:mg "set" = none):aq P w K mg base aP (k+1) f c ["one","other"] (YG K):=by
 refine yJ F lH (λ_=>rfl) (λ_=>rfl) λcdv A outer s H E hr=>?_
 have nd:=lH.nd
 refine⟨_,(zB (zQ (U6 rfl a (Cm (JK K rfl b (pv 0)) (JK K rfl b (pv 1))))) zG),?_⟩
 rintro Fa ⟨q0,q1,⟨⟩⟩
 exact SB.of (yC (zOe (zE 0 rfl) (zE 1 rfl)).ex) (by unfold uM;simp only[bnd])
def xA(b:aF C)(c:LI):Option LI:=((yN b).bind λd=>some ((d,(c,())))).bind λa=>uM a.1 a.2.1
theorem m5:ao ["machine","stands"] ["machine","stands"] (zH kI):=fsc
abbrev Ry(K:Frag)(C:Addr):Sp:=b_ K false (λa:(aF C)×LI×Unit=>([.z a.1,.z a.2.1]:SL K)) (λa=>xA a.1 a.2.1)
theorem zP6(F:aV K "others" "others" kI f d)(B:Bl K mg)(a:bw P w K mg base k "everywhere" ["machine"] (wN K C))(b:bw P w K mg base k "without" ["one","other"] (YG K)):aq P w K mg base aP (k+1) f d ["machine","stands"] (Ry K C):=by
 refine yJ F m5 (λ_=>rfl) (λ_=>rfl) λcdv A outer s H E c=>?_
 have nd:=m5.nd
 refine⟨_,(zB (zQ (zX b c (zA (zX a c (zA (pv 0) zD)) (zA (pv 1) zD)))) zG),?_⟩
 rintro Fa ⟨q0,q1,⟨⟩⟩
 exact SB.of (yC (zP (zF (zP (zF (zE 0 rfl) zO)) (zF (zE 1 rfl) zO)))) (by unfold xA;simp only[bnd])
def vE(b:LI)(a:LI):Option LI:=Cp b a
theorem jO:ao ["one","other"] ["one","other"] (zH iy):=fsc
abbrev YH(K:Frag):Sp:=b_ K false (λa:LI×LI×Unit=>([.z a.1,.z a.2.1]:SL K)) (λa=>vE a.1 a.2.1)
theorem zKj(F:aV K "together" "together" iy f c)(B:Bl K mg)(a:mg "sorted" = none)(b:mg "set" = none):aq P w K mg base aP (k+1) f c ["one","other"] (YH K):=by
 refine yJ F jO (λ_=>rfl) (λ_=>rfl) λcdv A outer s H E hr=>?_
 have nd:=jO.nd
 refine⟨_,(zB (zQ (U6 rfl a (JV (JK K rfl b (pv 0)) (JK K rfl b (pv 1))))) zG),?_⟩
 rintro Fa ⟨q0,q1,⟨⟩⟩
 exact SB.of (yC (zRg (zE 0 rfl) (zE 1 rfl)).ex) (by unfold vE;simp only[bnd])
def xO(b:LI)(a:LI):Option LI:=q_ b a
theorem m6:ao ["one","other"] ["one","other"] (zH kJ):=fsc
abbrev NK(K:Frag):Sp:=b_ K false (λa:LI×LI×Unit=>([.z a.1,.z a.2.1]:SL K)) (λa=>xO a.1 a.2.1)
theorem zP5(F:aV K "shared" "shared" kJ f c)(B:Bl K mg)(a:mg "sorted" = none)(b:mg "set" = none):aq P w K mg base aP (k+1) f c ["one","other"] (NK K):=by
 refine yJ F m6 (λ_=>rfl) (λ_=>rfl) λcdv A outer s H E hr=>?_
 have nd:=m6.nd
 refine⟨_,(zB (zQ (U6 rfl a (BW (JK K rfl b (pv 0)) (JK K rfl b (pv 1))))) zG),?_⟩
 rintro Fa ⟨q0,q1,⟨⟩⟩
 exact SB.of (yC (zOg (zE 0 rfl) (zE 1 rfl)).ex) (by unfold xO;simp only[bnd])
def uQ(u:aF C)(B:LI)(z:LI):Option (List (Option Int)):=(Nz u B).bind λd=>(((yX u).bind λE=>bW E).bind λp=>bh (λ(F:Int)=>some true) (λ(F:Int)=>some (none:Option Int)) p).bind λl=>((some z).bind λp=>xN (λ(A:List (Option Int)) (G:Int)=>(setAt A G (some (0:Int))).bind λj=>some j) p l).bind λD=>(some z).bind λn=>(some (0:Int)).bind λf=>(Ga (λa:(List (Option Int))×LI×Int=>some (decide (a.2.2<(a.2.1.length:Int)))) (λa:(List (Option Int))×LI×Int=>(bL a.2.1 a.2.2).bind λc=>((xS u c).bind λp=>xN (λ(e:(List (Option Int))×LI) (i:Int)=>(((bL d i).bind λt=>if t=true then(bL e.1 i).bind λx=>some x.isNone else some false).bind λb=>if b=true then(((((bL e.1 c).bind λv=>v).bind λy=>some (y+(1:Int))).bind λr=>some (some r)).bind λs=>setAt e.1 i s).bind λh=>(push e.2 i).bind λk=>some (h,k) else some (e.1,e.2)).bind λo=>some (o.1,o.2)) p (a.1,a.2.1)).bind λm=>(some (a.2.2+(1:Int))).bind λg=>some (m.1,m.2,g)) fuel (D,n,f)).bind λq=>some q.1
theorem jf:ao ["machine","through","goal","passable","told","stand","row","place","source"] ["machine","through","goal"] (zH fQ):=fsc
abbrev zF4(K:Frag)(C:Addr):Sp:=b_ K false (λa:(aF C)×LI×LI×Unit=>([.z a.1,.z a.2.1,.z a.2.2.1]:SL K)) (λa=>uQ a.1 a.2.1 a.2.2.1)
theorem zI5(F:aV K "distances" "distances" fQ f fd)(B:Bl K mg)(cQ:dZ P w K mg base k C "before" ["self","stand"] (zA8 K C))(aL:dZ P w K mg base k C "many" ["self"] (wG K C))(j5:bw P w K mg base k "flags" ["machine","stands"] (YF K C)):aq P w K mg base aP (k+1) f fd ["machine","through","goal"] (zF4 K C):=by
 refine yJ F jf (λ_=>rfl) (λ_=>rfl) λcdv A outer s H E hr=>?_
 have nd:=jf.nd
 refine⟨_,(zB (xH 3 nd (zX j5 hr (zA (pv 0) (zA (pv 1) zD)))) (zB (Ba (i:=4) (own:=["stand"]) (ix:=[]) nd rfl rfl rfl rfl rfl (wS rfl B.range (zA (Uq aL hr (pv 0)) zD)) (λC s H fp=>yQ (i:=0) (show(["stand"]:List Str).Nodup from by decide +kernel) rfl (Or.inl rfl)) (λC s H fp=>wR) (λC s H fp=>Mh)) (zB (xI aat rfl (yU K (pv 2)) (bV 5 nd) (zB (Ox zK (Ow (pv 4) (pv 5) Mv)) zG)) (zB (xH 6 nd (wT (Jm K) rfl B.list Bt (zA (pv 2) zD))) (zB (xH 7 nd zK) (zB (zTh aat (zZ O7 (pv 7) (zS (uS K) rfl B.len aa2 (zA (pv 6) zD)) (yL _)) (zB (xH 5 nd (yH (bQ K) (pv 6) (pv 7) (λ_ _=>rfl))) (zB (xI aat rfl (yU K (Ql cQ hr (pv 0) (zA (pv 5) zD))) (bV 8 nd) (zB (yT (PW.pt (pw_and (wQ (yH (bQ K) (pv 3) (pv 8) (λ_ _=>rfl))) (pw_and1 (z_ (Om (yH (bQ K) (pv 4) (pv 8) (λ_ _=>rfl))))))) (zB (Ox (xT Tq (yH (bQ K) (pv 4) (pv 5) (λ_ _=>rfl)) zK) (Ow (pv 4) (pv 8) Mv)) (zB (zY (ql K aao aav aaw xB (pv 6) (zA (pv 8) zD))) zG)) zG) zG)) (zB (Zt (i:=7) nd rfl (by first|exact .inl rfl|exact .inr rfl) zK HY) zG)))) (zB (zQ (pv 4)) zG))))))),?_⟩
 rintro Fa ⟨q0,q1,q2,⟨⟩⟩
 exact SB.of (zW (xU true 3 rfl rfl (zP (zF (zE 0 rfl) (zF (zE 1 rfl) zO)))) (λbZ=>(zW (uX true 4 rfl rfl (wZ (n:=true) (ig:=[.un]) (no:=1) (ix:=[]) rfl rfl (uF (Bv (by decide +kernel) (zE 0 rfl) zO)) (yG 0 rfl rfl) (λx4=>u_) (λx4=>(esc (MF (α:=Int)))) (λx4=>iu))) (λRB=>(zW (wK (n:=false) (L:=(λs5:List (Option Int)=>([.z q0,.z q1,.z q2,.y bZ,.ow true s5,.un,.un,.un,.un]:SL K))) RB bx (yW (yM 2 rfl)) (λs5=>(yG 5 rfl rfl)) (λs5 x7=>(zT (Ua 4 rfl rfl (esc (WY (zR 0))) (zI 5 rfl)) (λRD=>(yD (λs5:List (Option Int)=>([.z q0,.z q1,.z q2,.y bZ,.ow true s5,.un,.un,.un,.un]:SL K)) RD bx))))) (λs6=>(zW (uX true 6 rfl rfl (Jj (zE 2 rfl))) (λYJ=>(zW (xU true 7 rfl rfl (esc (zR 0))) (λDt=>(zW (zSu (L:=(λqp:(List (Option Int))×LI×Int=>([.z q0,.z q1,.z q2,.y bZ,.ow true qp.1,.un,.ow true qp.2.1,.y qp.2.2,.un]:SL K))) fuel (s6,YJ,Dt) bx (λqp=>(xL (md:=.hp) (Gg (zI 7 rfl) (qZ (vK 6 rfl))))) (λqp=>(zT (xU true 5 rfl rfl (esc (esc (wF (vK 6 rfl) (zI 7 rfl))))) (λj6=>(zT (wK (n:=true) (L:=(λvo:(List (Option Int))×LI=>([.z q0,.z q1,.z q2,.y bZ,.ow true vo.1,.y j6,.ow true vo.2,.y qp.2.2,.un]:SL K))) (qp.1,qp.2.1) bx (yW (Bv (by decide +kernel) (zE 0 rfl) (zF (esc (zI 5 rfl)) zO))) (λvo=>(yG 8 rfl rfl)) (λvo x16=>(zT (qz (zV6 (cI (md:=.hp) (esc (wF (zE 3 rfl) (zI 8 rfl)))) (cI (md:=.hp) (Qf (esc (wF (vK 4 rfl) (zI 8 rfl)))))) (zT (Ua 4 rfl rfl (esc (WY (Ui (M7 (esc (wF (vK 4 rfl) (zI 5 rfl)))) (zR 1)))) (zI 8 rfl)) (λKZ=>(zT (wE 6 rfl rfl (esc (zI 8 rfl))) (λRG=>(yD (λRJ:(List (Option Int))×LI=>([.z q0,.z q1,.z q2,.y bZ,.ow true RJ.1,.y j6,.ow true RJ.2,.y qp.2.2,.y x16]:SL K)) (KZ,RG) bx))))) (yD (λRJ:(List (Option Int))×LI=>([.z q0,.z q1,.z q2,.y bZ,.ow true RJ.1,.y j6,.ow true RJ.2,.y qp.2.2,.y x16]:SL K)) (vo.1,vo.2) bx)) (λK1=>(yD (λvo:(List (Option Int))×LI=>([.z q0,.z q1,.z q2,.y bZ,.ow true vo.1,.y j6,.ow true vo.2,.y qp.2.2,.un]:SL K)) (K1.1,K1.2) bx))))) (λs15=>(zT (zVm (s:=.un) 7 rfl (zR 1)) (λDu=>(yD (λqp:(List (Option Int))×LI×Int=>([.z q0,.z q1,.z q2,.y bZ,.ow true qp.1,.un,.ow true qp.2.1,.y qp.2.2,.un]:SL K)) (s15.1,s15.2,Du) bx))))))))) (λs12=>(Bg 4 rfl rfl))))))))))))) (by unfold uQ;simp only[bnd])
def xJ(c:aF C)(e:LI)(f:LI):Option LI:=(uQ c e f).bind λa=>(some (za a)).bind λd=>bh (λ(b:Int×(Option Int))=>some b.2.isSome) (λ(b:Int×(Option Int))=>some b.1) d
theorem jP:ao ["machine","through","goal","away"] ["machine","through","goal"] (zH iz):=fsc
abbrev Vp(K:Frag)(C:Addr):Sp:=b_ K false (λa:(aF C)×LI×LI×Unit=>([.z a.1,.z a.2.1,.z a.2.2.1]:SL K)) (λa=>xJ a.1 a.2.1 a.2.2.1)
theorem zKn(F:aV K "comes_to" "comes_to" iz f e)(B:Bl K mg)(a:bw P w K mg base k "distances" ["machine","through","goal"] (zF4 K C)):aq P w K mg base aP (k+1) f e ["machine","through","goal"] (Vp K C):=by
 refine yJ F jP (λ_=>rfl) (λ_=>rfl) λcdv A outer s H E h=>?_
 have g:=jP.nd
 refine⟨_,(zB (xH 3 g (zX a h (zA (pv 0) (zA (pv 1) (zA (pv 2) zD))))) (zB (zQ (yt (own:=["stand","steps"]) (ix:=[]) rfl rfl rfl (Xd K B.enum (zA (pv 3) zD)) (λC s H d=>WT (K:=K) (n:=2) rfl rfl (yP (yQ (i:=0) (show(["stand","steps"]:List Str).Nodup from by decide +kernel) rfl (Or.inl rfl)) (yP (yQ (i:=1) (show(["stand","steps"]:List Str).Nodup from by decide +kernel) rfl (Or.inl rfl)) yh))) (λC s H d=>Px (z_ (z9 (pv 1)))) (λC s H d=>(pv 0)))) zG)),?_⟩
 rintro Fa ⟨q0,q1,q2,⟨⟩⟩
 exact SB.of (zW (xU true 3 rfl rfl (zP (zF (zE 0 rfl) (zF (zE 1 rfl) (zF (zE 2 rfl) zO))))) (λaac=>(yC (wZ (n:=true) (ig:=[.un,.un]) (no:=2) (ix:=[]) rfl rfl (W7 (yM 3 rfl)) (Gd 0 1 rfl rfl (λ_=>rfl) rfl) (λc=>(cI (md:=.hp) (Bo (zI 1 rfl)))) (λc=>(esc (zI 0 rfl))) (λc=>iu)).ex))) (by unfold xJ;simp only[bnd])
def vP(b:aF C)(c:Int)(f:List Bool):Option Bool:=((yY b c).bind λe=>bh (λ(a:Int)=>some true) (λ(a:Int)=>bL f a) e).bind λd=>some (d.any id)
theorem gZ:ao ["machine","stand","hit"] ["machine","stand","hit"] (zH eF):=fsc
abbrev zD7(K:Frag)(C:Addr):Sp:=b_ K false (λa:(aF C)×Int×(List Bool)×Unit=>([.z a.1,.z a.2.1,.z a.2.2.1]:SL K)) (λa=>vP a.1 a.2.1 a.2.2.1)
theorem zHi(F:aV K "steps_into" "steps_into" eF f g)(B:Bl K mg)(c:mg "any" = none)(a:dZ P w K mg base k C "next_of" ["self","stand"] (vL K C)):aq P w K mg base aP (k+1) f g ["machine","stand","hit"] (zD7 K C):=by
 refine yJ F gZ (λ_=>rfl) (λ_=>rfl) λcdv A outer s H E j=>?_
 have nd:=gZ.nd
 refine⟨_,(zB (zQ (zS (zRy K rfl) rfl c Jo (zA (yt (own:=["after"]) (ix:=[2]) rfl rfl rfl (yU K (Ql a j (pv 0) (zA (pv 1) zD))) (λC s H d=>yQ (i:=0) (show(["after","hit"]:List Str).Nodup from by decide +kernel) rfl (Or.inl rfl)) (λC s H d=>wR) (λC s H d=>(yH (bQ K) (pv 1) (pv 0) (λ_ _=>rfl)))) zD))) zG),?_⟩
 rintro Fa ⟨q0,q1,h,⟨⟩⟩
 exact SB.of (yC (esc (zMi (wZ (n:=true) (ig:=[.un,.z h]) (no:=1) (ix:=[2]) rfl rfl (yW (Bv (by decide +kernel) (zE 0 rfl) (zF (esc (zI 1 rfl)) zO))) (yG 0 rfl rfl) (λe=>u_) (λe=>(esc (esc (wF (zE 1 rfl) (zI 0 rfl))))) (λe=>iu)).ex))) (by unfold vP;simp only[bnd])
def wU(c:aF C)(f:LI)(e:LI):Option LI:=(Nz c e).bind λa=>(some f).bind λd=>bh (λ(b:Int)=>vP c b a) (λ(b:Int)=>some b) d
theorem gb:ao ["machine","among","goal","hit"] ["machine","among","goal"] (zH dI):=fsc
abbrev zC6(K:Frag)(C:Addr):Sp:=b_ K false (λa:(aF C)×LI×LI×Unit=>([.z a.1,.z a.2.1,.z a.2.2.1]:SL K)) (λa=>wU a.1 a.2.1 a.2.2.1)
theorem zF7(F:aV K "stepping_to" "stepping_to" dI f l)(B:Bl K mg)(b:bw P w K mg base k "flags" ["machine","stands"] (YF K C))(a:bw P w K mg base k "steps_into" ["machine","stand","hit"] (zD7 K C)):aq P w K mg base aP (k+1) f l ["machine","among","goal"] (zC6 K C):=by
 refine yJ F gb (λ_=>rfl) (λ_=>rfl) λcdv A outer s H E g=>?_
 have j:=gb.nd
 refine⟨_,(zB (xH 3 j (zX b g (zA (pv 0) (zA (pv 2) zD)))) (zB (zQ (yt (own:=["stand"]) (ix:=[0,3]) rfl rfl rfl (yU K (pv 1)) (λC s H d=>yQ (i:=0) (show(["stand","machine","hit"]:List Str).Nodup from by decide +kernel) rfl (Or.inl rfl)) (λC s H d=>Px (wQ (zX a g (zA (pv 1) (zA (pv 0) (zA (pv 2) zD)))))) (λC s H d=>(pv 0)))) zG)),?_⟩
 rintro Fa ⟨h,q1,q2,⟨⟩⟩
 exact SB.of (zW (xU true 3 rfl rfl (zP (zF (zE 0 rfl) (zF (zE 2 rfl) zO)))) (λc=>(yC (wZ (n:=false) (ig:=[.un,.z h,.y c]) (no:=1) (ix:=[0,3]) rfl rfl (yW (yM 1 rfl)) (yG 0 rfl rfl) (λe=>(cI (md:=.hp) (zP (zF (zE 1 rfl) (zF (esc (zI 0 rfl)) (zF (zE 2 rfl) zO)))))) (λe=>(esc (zI 0 rfl))) (λe=>iu)).ex))) (by unfold wU;simp only[bnd])
def NP(e:LI):Option Int:=(some (0:Int)).bind λb=>((some e).bind λf=>xN (λ(c:Int) (d:Int)=>((vf (1:Int) d).bind λh=>some (acj c h)).bind λa=>some a) f b).bind λg=>some g
theorem lJ:ao ["stands","told","stand"] ["stands"] (zH jD):=fsc
abbrev zJ6(K:Frag):Sp:=b_ K false (λa:LI×Unit=>([.z a.1]:SL K)) (λa=>NP a.1)
theorem zNw(F:aV K "bits_of" "bits_of" jD f g)(B:Bl K mg):aq P w K mg base aP (k+1) f g ["stands"] (zJ6 K):=by
 refine yJ F lJ (λ_=>rfl) (λ_=>rfl) λcdv A outer s H E hr=>?_
 have d:=lJ.nd
 refine⟨_,(zB (xH 1 d zK) (zB (xI aat rfl (yU K (pv 0)) (bV 2 d) (zB (Zt (i:=1) d rfl (by first|exact .inl rfl|exact .inr rfl) (xT Ig zK (pv 2)) Gx) zG)) (zB (zQ (pv 1)) zG))),?_⟩
 rintro Fa ⟨e,⟨⟩⟩
 exact SB.of (zW (xU true 1 rfl rfl (esc (zR 0))) (λa=>(zW (wK (n:=false) (L:=(λc:Int=>([.z e,.y c,.un]:SL K))) a bx (yW (yM 0 rfl)) (λc=>(yG 2 rfl rfl)) (λc x4=>(zT (zVm (s:=.un) 1 rfl (JM (zR 1) (zI 2 rfl))) (λb=>(yD (λc:Int=>([.z e,.y c,.un]:SL K)) b bx))))) (λs3=>(yC (esc (zI 1 rfl))))))) (by unfold NP;simp only[bnd])
def wV(y:aF C)(l:LI):Option LI:=(NP l).bind λa=>(((yX y).bind λD=>bW D).bind λf=>bh (λ(F:Int)=>some true) (λ(F:Int)=>some (0:Int)) f).bind λg=>((some l).bind λf=>xN (λ(E:LI) (z:Int)=>(((((yY y z).bind λq=>some ((q,()))).bind λB=>NP B.1).bind λm=>some (aa1 m a)).bind λs=>setAt E z s).bind λe=>some e) f g).bind λA=>((some l).bind λf=>xN (λ(n:LI) (h:Int)=>((some l).bind λf=>xN (λ(d:LI) (k:Int)=>(((((bL d k).bind λp=>iY p h).bind λr=>some (aa1 r (1:Int))).bind λu=>some (u != 0)).bind λb=>if b=true then((bL d h).bind λx=>BZ (λi j=>acj i j) d k x).bind λc=>some c else some d).bind λo=>some o) f n).bind λv=>some v) f A).bind λt=>some t
theorem gj:ao ["machine","within","inside","rows","stand","middle"] ["machine","within"] (zH dJ):=fsc
abbrev zC8(K:Frag)(C:Addr):Sp:=b_ K false (λa:(aF C)×LI×Unit=>([.z a.1,.z a.2.1]:SL K)) (λa=>wV a.1 a.2.1)
theorem zF8(F:aV K "onward_bits" "onward_bits" dJ f fd)(B:Bl K mg)(aL:dZ P w K mg base k C "many" ["self"] (wG K C))(bK:dZ P w K mg base k C "next_of" ["self","stand"] (vL K C))(gA:bw P w K mg base k "bits_of" ["stands"] (zJ6 K)):aq P w K mg base aP (k+1) f fd ["machine","within"] (zC8 K C):=by
 refine yJ F gj (λ_=>rfl) (λ_=>rfl) λcdv A outer s H E hr=>?_
 have nd:=gj.nd
 refine⟨_,(zB (xH 2 nd (zX gA hr (zA (pv 1) zD))) (zB (Ba (i:=3) (own:=["stand"]) (ix:=[]) nd rfl rfl rfl rfl rfl (wS rfl B.range (zA (Uq aL hr (pv 0)) zD)) (λC s H fp=>yQ (i:=0) (show(["stand"]:List Str).Nodup from by decide +kernel) rfl (Or.inl rfl)) (λC s H fp=>wR) (λC s H fp=>zK)) (zB (xI aat rfl (yU K (pv 1)) (bV 4 nd) (zB (Ox (xT O6 (zX gA hr (zA (Ql bK hr (pv 0) (zA (pv 4) zD)) zD)) (pv 2)) (Ow (pv 3) (pv 4) Mv)) zG)) (zB (xI aat rfl (yU K (pv 1)) (bV 5 nd) (zB (xI aat rfl (yU K (pv 1)) (bV 4 nd) (zB (yT (XD K (xT O6 (xT Tv (yH (bQ K) (pv 3) (pv 4) (λ_ _=>rfl)) (pv 5)) zK)) (zB (Ac (pv 3) (pv 4) (zQ1 K) (yH (bQ K) (pv 3) (pv 5) (λ_ _=>rfl)) Gx Mv) zG) zG) zG)) zG)) (zB (zQ (pv 3)) zG))))),?_⟩
 rintro Fa ⟨q0,q1,⟨⟩⟩
 exact SB.of (zW (xU true 2 rfl rfl (esc (zP (zF (zE 1 rfl) zO)))) (λdH=>(zW (uX true 3 rfl rfl (wZ (n:=true) (ig:=[.un]) (no:=1) (ix:=[]) rfl rfl (uF (Bv (by decide +kernel) (zE 0 rfl) zO)) (yG 0 rfl rfl) (λx4=>u_) (λx4=>(esc (zR 0))) (λx4=>iu))) (λRK=>(zW (wK (n:=false) (L:=(λs5:LI=>([.z q0,.z q1,.y dH,.ow true s5,.un,.un]:SL K))) RK bx (yW (yM 1 rfl)) (λs5=>(yG 4 rfl rfl)) (λs5 x7=>(zT (Ua 3 rfl rfl (esc (Qy (zP (zF (Bv (by decide +kernel) (zE 0 rfl) (zF (esc (zI 4 rfl)) zO)) zO)) (zI 2 rfl))) (zI 4 rfl)) (λRM=>(yD (λs5:LI=>([.z q0,.z q1,.y dH,.ow true s5,.un,.un]:SL K)) RM bx))))) (λs6=>(zW (wK (n:=false) (L:=(λKY:LI=>([.z q0,.z q1,.y dH,.ow true KY,.un,.un]:SL K))) s6 bx (yW (yM 1 rfl)) (λKY=>(yG 5 rfl rfl)) (λKY Vq=>(zT (wK (n:=false) (L:=(λNQ:LI=>([.z q0,.z q1,.y dH,.ow true NQ,.un,.z Vq]:SL K))) KY bx (yW (yM 1 rfl)) (λNQ=>(yG 4 rfl rfl)) (λNQ x18=>(zT (qz (XF (Qy (U7 (esc (wF (vK 3 rfl) (zI 4 rfl))) (zI 5 rfl)) (zR 1))) (zT (zS1 3 rfl rfl (zI 4 rfl) (esc (wF (vK 3 rfl) (zI 5 rfl)))) (λK3=>(yD (λRN:LI=>([.z q0,.z q1,.y dH,.ow true RN,.z x18,.z Vq]:SL K)) K3 bx))) (yD (λRN:LI=>([.z q0,.z q1,.y dH,.ow true RN,.z x18,.z Vq]:SL K)) NQ bx)) (λK4=>(yD (λNQ:LI=>([.z q0,.z q1,.y dH,.ow true NQ,.un,.z Vq]:SL K)) K4 bx))))) (λs17=>(yD (λKY:LI=>([.z q0,.z q1,.y dH,.ow true KY,.un,.un]:SL K)) s17 bx))))) (λvo=>(Bg 3 rfl rfl))))))))) (by unfold wV;simp only[bnd])
def RP(A:aF C)(B:LI):Option (List LI):=(jA B).bind λa=>(wV A a).bind λc=>(some (([]:List LI))).bind λh=>(some ()).bind λRQ=>((some a).bind λk=>xN (λ(i:(List LI)×(List (Key×Bool))) (l:Int)=>((if(!(cN (Dc.mk i.2).kv l).isSome)=true then(((bL c l).bind λy=>iY y l).bind λz=>some (aa1 z (1:Int))).bind λo=>some (o != 0) else some false).bind λb=>if b=true then((some a).bind λk=>bh (λ(e:Int)=>((((bL c l).bind λr=>iY r e).bind λv=>((bL c e).bind λm=>iY m l).bind λn=>some (aa1 v n)).bind λq=>some (aa1 q (1:Int))).bind λu=>some (u != 0)) (λ(e:Int)=>some e) k).bind λd=>(push i.1 d).bind λf=>((some d).bind λk=>xN (λ(p:List (Key×Bool)) (s:Int)=>(dput p s true).bind λg=>some g) k i.2).bind λt=>some (f,t) else some (i.1,i.2)).bind λj=>some (j.1,j.2)) k ((h,([]:List (Key×Bool))))).bind λx=>some x.1
theorem pQ:ao ["machine","within","stands","rows","told","done","stand","ring","other"] ["machine","within"] (zH n_):=fsc
abbrev zR9(K:Frag)(C:Addr):Sp:=b_ K false (λa:(aF C)×LI×Unit=>([.z a.1,.z a.2.1]:SL K)) (λa=>RP a.1 a.2.1)
theorem zTq(F:aV K "rings" "rings" n_ f M)(B:Bl K mg)(j:mg "sorted" = none)(u:mg "set" = none)(c:bw P w K mg base k "onward_bits" ["machine","within"] (zC8 K C)):aq P w K mg base aP (k+1) f M ["machine","within"] (zR9 K C):=by
 refine yJ F pQ (λ_=>rfl) (λ_=>rfl) λcdv A outer s H E J=>?_
 have o:=pQ.nd
 have G:=T5 J
 refine⟨_,(zB (xH 2 o (U6 rfl j (JK K rfl u (pv 1)))) (zB (xH 3 o (zX c J (zA (pv 0) (zA (pv 2) zD)))) (zB (xH 4 o (xF zD)) (zB (xH 5 o TX) (zB (xI aat rfl (yU K (pv 2)) (bV 6 o) (zB (yT (PW.pt (pw_and (z_ (zPy G (pv 6) (pv 5))) (pw_and1 (XD K (xT O6 (xT Tv (yH (bQ K) (pv 3) (pv 6) (λ_ _=>rfl)) (pv 6)) zK))))) (zB (Ba (i:=7) (own:=["other"]) (ix:=[3,6]) o rfl rfl rfl rfl rfl (yU K (pv 2)) (λC s H I=>yQ (i:=0) (show(["other","rows","stand"]:List Str).Nodup from by decide +kernel) rfl (Or.inl rfl)) (λC s H I=>Px (XD K (xT O6 (xT O6 (xT Tv (yH (bQ K) (pv 1) (pv 2) (λ_ _=>rfl)) (pv 0)) (xT Tv (yH (bQ K) (pv 1) (pv 0) (λ_ _=>rfl)) (pv 2))) zK))) (λC s H I=>(pv 0))) (zB (zY (ql K aao aav aaw xB (pv 4) (zA (pv 7) zD))) (zB (xI aat rfl (yU K (pv 7)) (bV 8 o) (zB (TV G (pv 5) (pv 8) Fd rfl) zG)) zG))) zG) zG)) (zB (zQ (pv 4)) zG)))))),?_⟩
 rintro Fa ⟨q,r,⟨⟩⟩
 exact SB.of (zW (xU true 2 rfl rfl (zOf (zE 1 rfl)).ex) (λa=>(zW (xU true 3 rfl rfl (zP (zF (zE 0 rfl) (zF (zE 2 rfl) zO)))) (λb=>(zW (uX true 4 rfl rfl (qX (α:=LI))) (λp=>(zW (T_ (α:=Bool) 5 rfl rfl) (λRQ=>(zW (wK (n:=true) (L:=(λl:(List LI)×(List (Key×Bool))=>([.z q,.z r,.y a,.y b,.ow true l.1,.od (l.2:List (Key×Bool)),.un,.un,.un]:SL K))) ((p,([]:List (Key×Bool)))) bx (yW (yM 2 rfl)) (λl=>(yG 6 rfl rfl)) (λl x=>(zT (qz (zV6 (cI (md:=.hp) (zRa (zI 6 rfl) (Uw 5 rfl))) (XF (Qy (U7 (esc (wF (zE 3 rfl) (zI 6 rfl))) (zI 6 rfl)) (zR 1)))) (zT (xU true 7 rfl rfl (wZ (n:=true) (ig:=[.un,.y b,.y x]) (no:=1) (ix:=[3,6]) rfl rfl (yW (yM 2 rfl)) (yG 0 rfl rfl) (λt=>(XF (Qy (Qy (U7 (esc (wF (zE 1 rfl) (zI 2 rfl))) (zI 0 rfl)) (U7 (esc (wF (zE 1 rfl) (zI 0 rfl))) (zI 2 rfl))) (zR 1)))) (λt=>(esc (zI 0 rfl))) (λt=>iu)).ex) (λe=>(zT (wE 4 rfl rfl (yM 7 rfl)) (λd=>(zT (wK (n:=true) (L:=(λh:List (Key×Bool)=>([.z q,.z r,.y a,.y b,.ow true d,.od (h:List (Key×Bool)),.y x,.y e,.un]:SL K))) l.2 bx (yW (yM 7 rfl)) (λh=>(yG 8 rfl rfl)) (λh x24=>(zT (Xn 5 rfl rfl (esc (FZ true)) (zI 8 rfl)) (λm=>(yD (λh:List (Key×Bool)=>([.z q,.z r,.y a,.y b,.ow true d,.od (h:List (Key×Bool)),.y x,.y e,.un]:SL K)) m bx))))) (λD=>(yD (λg:(List LI)×(List (Key×Bool))=>([.z q,.z r,.y a,.y b,.ow true g.1,.od (g.2:List (Key×Bool)),.y x,.un,.un]:SL K)) (d,D) bx))))))) (yD (λg:(List LI)×(List (Key×Bool))=>([.z q,.z r,.y a,.y b,.ow true g.1,.od (g.2:List (Key×Bool)),.y x,.un,.un]:SL K)) (l.1,l.2) bx)) (λv=>(yD (λl:(List LI)×(List (Key×Bool))=>([.z q,.z r,.y a,.y b,.ow true l.1,.od (l.2:List (Key×Bool)),.un,.un,.un]:SL K)) (v.1,v.2) bx))))) (λs6=>(Bg 4 rfl rfl))))))))))) (by unfold RP;simp only[bnd])
def uN(c:aF C)(f:LI):Option (Option Int):=((bW (c.fair.length:Int)).bind λe=>uE (λ(s1:Unit) (d:Int)=>((((((xK c d).bind λj=>some ((j,()))).bind λg=>some (f,g)).bind λa=>xO a.1 a.2.1).bind λi=>some (i.length:Int)).bind λh=>some (decide (h=(0:Int)))).bind λb=>if b=true then(some (some d)).bind λb=>some (.rt b) else some (.nx ())) e ()).bind λo=>o.els λs2=>some (none:Option Int)
theorem jg:ao ["machine","ring","number"] ["machine","ring"] (zH fU):=fsc
abbrev zF2(K:Frag)(C:Addr):Sp:=b_ K false (λa:(aF C)×LI×Unit=>([.z a.1,.z a.2.1]:SL K)) (λa=>uN a.1 a.2.1)
theorem zI3(F:aV K "missed_by" "missed_by" fU f h)(B:Bl K mg)(T:Cl K mg C)(a:dZ P w K mg base k C "fair_at" ["self","number"] (zAu K C))(b:bw P w K mg base k "shared" ["one","other"] (NK K)):aq P w K mg base aP (k+1) f h ["machine","ring"] (zF2 K C):=by
 refine yJ F jg (λ_=>rfl) (λ_=>rfl) λcdv A outer s H E c=>?_
 have i:=jg.nd
 refine⟨_,(zB (xI aat rfl (wS rfl B.range (zA (zS (uS K) rfl B.len aa2 (zA (Gi K (pv 0)) zD)) zD)) (bV 2 i) (zB (yT (zZ (Ge K Int c) (zS (uS K) rfl B.len aa2 (zA (zX b c (zA (pv 1) (zA (Ql a c (pv 0) (zA (pv 2) zD)) zD))) zD)) zK (yL _)) (zB (zQ (pv 2)) zG) zG) zG)) (zB (zQ Mh) zG)),?_⟩
 rintro Fa ⟨e,g,⟨⟩⟩
 exact SB.of (T8 (Uc (n:=true) (L:=(λd:Unit=>([.z e,.z g,.un]:SL K))) () bx (uF (qZ (zMf T.cl T.nF (zE 0 rfl)))) (λd=>(yG 2 rfl rfl)) (λd x3=>(PX (xL (md:=.hp) (Gf (qZ (zP (zF (zE 1 rfl) (zF (Bv (by decide +kernel) (zE 0 rfl) (zF (esc (zI 2 rfl)) zO)) zO)))) (zR 0))) (yC (esc (WY (zI 2 rfl)))) (T9 (λd:Unit=>([.z e,.z g,.un]:SL K)) () bx)))) (λs2=>(yC (esc (MF (α:=Int)))))) (by unfold uN;simp only[bnd])
def wL(b:aF C)(c:LI):Option (List LI):=(RP b c).bind λe=>bh (λ(a:LI)=>(uN b a).bind λd=>some d.isNone) (λ(a:LI)=>some a) e
theorem g8:ao ["machine","within"] ["machine","within"] (zH eG):=fsc
abbrev zD8(K:Frag)(C:Addr):Sp:=b_ K false (λa:(aF C)×LI×Unit=>([.z a.1,.z a.2.1]:SL K)) (λa=>wL a.1 a.2.1)
theorem zHj(F:aV K "fair_rings" "fair_rings" eG f h)(B:Bl K mg)(a:bw P w K mg base k "missed_by" ["machine","ring"] (zF2 K C))(b:bw P w K mg base k "rings" ["machine","within"] (zR9 K C)):aq P w K mg base aP (k+1) f h ["machine","within"] (zD8 K C):=by
 refine yJ F g8 (λ_=>rfl) (λ_=>rfl) λcdv A outer s H E c=>?_
 have nd:=g8.nd
 refine⟨_,(zB (zQ (yt (own:=["ring"]) (ix:=[0]) rfl rfl rfl (yU K (zX b c (zA (pv 0) (zA (pv 1) zD)))) (λC s H d=>yQ (i:=0) (show(["ring","machine"]:List Str).Nodup from by decide +kernel) rfl (Or.inl rfl)) (λC s H d=>Px (z_ (Om (zX a c (zA (pv 1) (zA (pv 0) zD)))))) (λC s H d=>(pv 0)))) zG),?_⟩
 rintro Fa ⟨g,q1,⟨⟩⟩
 exact SB.of (yC (wZ (n:=true) (ig:=[.un,.z g]) (no:=1) (ix:=[0]) rfl rfl (yW (zP (zF (zE 0 rfl) (zF (zE 1 rfl) zO)))) (yG 0 rfl rfl) (λe=>(cI (md:=.hp) (Qf (zP (zF (zE 1 rfl) (zF (zE 0 rfl) zO)))))) (λe=>(yM 0 rfl)) (λe=>iu)).ex) (by unfold wL;simp only[bnd])
def K5(c:List LI):Option LI:=(some ([]:LI)).bind λa=>((some c).bind λe=>xN (λ(g:LI) (d:LI)=>(vg g d).bind λb=>some b) e a).bind λf=>some f
theorem m7:ao ["lists","told","things"] ["lists"] (zH kO):=fsc
abbrev zMz(K:Frag):Sp:=b_ K false (λa:((List LI))×Unit=>([.z a.1]:SL K)) (λa=>K5 a.1)
theorem zQb(F:aV K "joined" "joined" kO f g)(B:Bl K mg):aq P w K mg base aP (k+1) f g ["lists"] (zMz K):=by
 refine yJ F m7 (λ_=>rfl) (λ_=>rfl) λcdv A outer s H E hr=>?_
 have e:=m7.nd
 refine⟨_,(zB (xH 1 e (xF zD)) (zB (xI aat rfl (yU K (pv 0)) (bV 2 e) (zB (zY (ql K aao ac2 ac3 Wr (pv 1) (zA (pv 2) zD))) zG)) (zB (zQ (pv 1)) zG))),?_⟩
 rintro Fa ⟨d,⟨⟩⟩
 exact SB.of (zW (uX true 1 rfl rfl (qX (α:=Int))) (λa=>(zW (wK (n:=false) (L:=(λc:LI=>([.z d,.ow true c,.un]:SL K))) a bx (yW (yM 0 rfl)) (λc=>(yG 2 rfl rfl)) (λc x4=>(zT (zPc 1 rfl rfl (zE 2 rfl)) (λb=>(yD (λc:LI=>([.z d,.ow true c,.un]:SL K)) b bx))))) (λs3=>(Bg 1 rfl rfl))))) (by unfold K5;simp only[bnd])
def zu(b:aF C)(c:LI):Option LI:=((((((wL b c).bind λd=>some ((d,()))).bind λf=>K5 f.1).bind λe=>some ((e,()))).bind λg=>some (c,g)).bind λh=>some (b,h)).bind λa=>xJ a.1 a.2.1 a.2.2.1
theorem rm:ao ["machine","within"] ["machine","within"] (zH qF):=fsc
abbrev Vr(K:Frag)(C:Addr):Sp:=b_ K false (λa:(aF C)×LI×Unit=>([.z a.1,.z a.2.1]:SL K)) (λa=>zu a.1 a.2.1)
theorem Dv(F:aV K "core" "core" qF f e)(B:Bl K mg)(b:bw P w K mg base k "comes_to" ["machine","through","goal"] (Vp K C))(a:bw P w K mg base k "fair_rings" ["machine","within"] (zD8 K C))(c:bw P w K mg base k "joined" ["lists"] (zMz K)):aq P w K mg base aP (k+1) f e ["machine","within"] (Vr K C):=by
 refine yJ F rm (λ_=>rfl) (λ_=>rfl) λcdv A outer s H E d=>?_
 have nd:=rm.nd
 refine⟨_,(zB (zQ (zX b d (zA (pv 0) (zA (pv 1) (zA (zX c d (zA (zX a d (zA (pv 0) (zA (pv 1) zD))) zD)) zD))))) zG),?_⟩
 rintro Fa ⟨q0,q1,⟨⟩⟩
 exact SB.of (yC (zP (zF (zE 0 rfl) (zF (zE 1 rfl) (zF (zP (zF (zP (zF (zE 0 rfl) (zF (zE 1 rfl) zO))) zO)) zO))))) (by unfold zu;simp only[bnd])
def G5(b:aF C):Option LI:=(((yN b).bind λd=>some ((d,()))).bind λc=>some (b,c)).bind λa=>zu a.1 a.2.1
theorem pR:ao ["machine"] ["machine"] (zH s_alive):=fsc
abbrev zSb(K:Frag)(C:Addr):Sp:=b_ K false (λa:(aF C)×Unit=>([.z a.1]:SL K)) (λa=>G5 a.1)
theorem zTt(F:aV K "alive" "alive" s_alive f d)(B:Bl K mg)(b:bw P w K mg base k "core" ["machine","within"] (Vr K C))(a:bw P w K mg base k "everywhere" ["machine"] (wN K C)):aq P w K mg base aP (k+1) f d ["machine"] (zSb K C):=by
 refine yJ F pR (λ_=>rfl) (λ_=>rfl) λcdv A outer s H E c=>?_
 have nd:=pR.nd
 refine⟨_,(zB (zQ (zX b c (zA (pv 0) (zA (zX a c (zA (pv 0) zD)) zD)))) zG),?_⟩
 rintro Fa ⟨q0,⟨⟩⟩
 exact SB.of (yC (zP (zF (zE 0 rfl) (zF (zP (zF (zE 0 rfl) zO)) zO)))) (by unfold G5;simp only[bnd])
def xV(b:aF C)(d:LI)(h:LI):Option LI:=(((yN b).bind λc=>((xO d h).bind λe=>some ((e,()))).bind λf=>some (c,f)).bind λg=>some (b,g)).bind λa=>wU a.1 a.2.1 a.2.2.1
theorem jh:ao ["machine","living","part"] ["machine","living","part"] (zH fV):=fsc
abbrev zF1(K:Frag)(C:Addr):Sp:=b_ K false (λa:(aF C)×LI×LI×Unit=>([.z a.1,.z a.2.1,.z a.2.2.1]:SL K)) (λa=>xV a.1 a.2.1 a.2.2.1)
theorem zI2(F:aV K "some_next" "some_next" fV f e)(B:Bl K mg)(b:bw P w K mg base k "everywhere" ["machine"] (wN K C))(c:bw P w K mg base k "shared" ["one","other"] (NK K))(a:bw P w K mg base k "stepping_to" ["machine","among","goal"] (zC6 K C)):aq P w K mg base aP (k+1) f e ["machine","living","part"] (zF1 K C):=by
 refine yJ F jh (λ_=>rfl) (λ_=>rfl) λcdv A outer s H E d=>?_
 have nd:=jh.nd
 refine⟨_,(zB (zQ (zX a d (zA (pv 0) (zA (zX b d (zA (pv 0) zD)) (zA (zX c d (zA (pv 1) (zA (pv 2) zD))) zD))))) zG),?_⟩
 rintro Fa ⟨q0,q1,q2,⟨⟩⟩
 exact SB.of (yC (zP (zF (zE 0 rfl) (zF (zP (zF (zE 0 rfl) zO)) (zF (zP (zF (zE 1 rfl) (zF (zE 2 rfl) zO))) zO))))) (by unfold xV;simp only[bnd])
def xD(h:aF C)(d:LI)(b:LI)(f:LI):Option LI:=((((xO d f).bind λg=>some ((g,()))).bind λe=>some (b,e)).bind λc=>some (h,c)).bind λa=>xJ a.1 a.2.1 a.2.2.1
theorem ji:ao ["machine","living","left","right"] ["machine","living","left","right"] (zH fW):=fsc
abbrev zF0(K:Frag)(C:Addr):Sp:=b_ K false (λa:(aF C)×LI×LI×LI×Unit=>([.z a.1,.z a.2.1,.z a.2.2.1,.z a.2.2.2.1]:SL K)) (λa=>xD a.1 a.2.1 a.2.2.1 a.2.2.2.1)
theorem zI1(F:aV K "some_till" "some_till" fW f d)(B:Bl K mg)(a:bw P w K mg base k "comes_to" ["machine","through","goal"] (Vp K C))(b:bw P w K mg base k "shared" ["one","other"] (NK K)):aq P w K mg base aP (k+1) f d ["machine","living","left","right"] (zF0 K C):=by
 refine yJ F ji (λ_=>rfl) (λ_=>rfl) λcdv A outer s H E c=>?_
 have nd:=ji.nd
 refine⟨_,(zB (zQ (zX a c (zA (pv 0) (zA (pv 2) (zA (zX b c (zA (pv 1) (zA (pv 3) zD))) zD))))) zG),?_⟩
 rintro Fa ⟨q0,q1,q2,q3,⟨⟩⟩
 exact SB.of (yC (zP (zF (zE 0 rfl) (zF (zE 2 rfl) (zF (zP (zF (zE 1 rfl) (zF (zE 3 rfl) zO))) zO))))) (by unfold xD;simp only[bnd])
def RT(e:aF C)(h:LI)(c:LI)(f:LI):Option LI:=(((((xA e f).bind λg=>some ((g,()))).bind λd=>some (h,d)).bind λa=>xO a.1 a.2.1).bind λi=>some ((i,(c,())))).bind λb=>uM b.1 b.2.1
theorem jQ:ao ["machine","living","left","right"] ["machine","living","left","right"] (zH iB):=fsc
abbrev zGv(K:Frag)(C:Addr):Sp:=b_ K false (λa:(aF C)×LI×LI×LI×Unit=>([.z a.1,.z a.2.1,.z a.2.2.1,.z a.2.2.2.1]:SL K)) (λa=>RT a.1 a.2.1 a.2.2.1 a.2.2.2.1)
theorem zKk(F:aV K "spoilers" "spoilers" iB f e)(B:Bl K mg)(c:bw P w K mg base k "others" ["machine","stands"] (Ry K C))(b:bw P w K mg base k "shared" ["one","other"] (NK K))(a:bw P w K mg base k "without" ["one","other"] (YG K)):aq P w K mg base aP (k+1) f e ["machine","living","left","right"] (zGv K C):=by
 refine yJ F jQ (λ_=>rfl) (λ_=>rfl) λcdv A outer s H E d=>?_
 have nd:=jQ.nd
 refine⟨_,(zB (zQ (zX a d (zA (zX b d (zA (pv 1) (zA (zX c d (zA (pv 0) (zA (pv 3) zD))) zD))) (zA (pv 2) zD)))) zG),?_⟩
 rintro Fa ⟨q0,q1,q2,q3,⟨⟩⟩
 exact SB.of (yC (zP (zF (zP (zF (zE 1 rfl) (zF (zP (zF (zE 0 rfl) (zF (zE 3 rfl) zO))) zO))) (zF (zE 2 rfl) zO)))) (by unfold RT;simp only[bnd])
def xW(d:aF C)(j:LI)(k:LI)(h:LI):Option LI:=(xA d h).bind λa=>(((((RT d j k h).bind λn=>some ((n,()))).bind λo=>some (a,o)).bind λm=>some (d,m)).bind λg=>xJ g.1 g.2.1 g.2.2.1).bind λb=>((((((zu d a).bind λp=>some ((p,()))).bind λl=>some (b,l)).bind λi=>vE i.1 i.2.1).bind λf=>some ((f,()))).bind λe=>some (d,e)).bind λc=>xA c.1 c.2.1
theorem jk:ao ["machine","living","left","right","waiting","broken"] ["machine","living","left","right"] (zH fX):=fsc
abbrev zF3(K:Frag)(C:Addr):Sp:=b_ K false (λa:(aF C)×LI×LI×LI×Unit=>([.z a.1,.z a.2.1,.z a.2.2.1,.z a.2.2.2.1]:SL K)) (λa=>xW a.1 a.2.1 a.2.2.1 a.2.2.2.1)
theorem zI4(F:aV K "each_till" "each_till" fX f i)(B:Bl K mg)(d:bw P w K mg base k "comes_to" ["machine","through","goal"] (Vp K C))(e:bw P w K mg base k "core" ["machine","within"] (Vr K C))(a:bw P w K mg base k "others" ["machine","stands"] (Ry K C))(c:bw P w K mg base k "spoilers" ["machine","living","left","right"] (zGv K C))(b:bw P w K mg base k "together" ["one","other"] (YH K)):aq P w K mg base aP (k+1) f i ["machine","living","left","right"] (zF3 K C):=by
 refine yJ F jk (λ_=>rfl) (λ_=>rfl) λcdv A outer s H E g=>?_
 have h:=jk.nd
 refine⟨_,(zB (xH 4 h (zX a g (zA (pv 0) (zA (pv 3) zD)))) (zB (xH 5 h (zX d g (zA (pv 0) (zA (pv 4) (zA (zX c g (zA (pv 0) (zA (pv 1) (zA (pv 2) (zA (pv 3) zD))))) zD))))) (zB (zQ (zX a g (zA (pv 0) (zA (zX b g (zA (pv 5) (zA (zX e g (zA (pv 0) (zA (pv 4) zD))) zD))) zD)))) zG))),?_⟩
 rintro Fa ⟨q0,q1,q2,q3,⟨⟩⟩
 exact SB.of (zW (xU true 4 rfl rfl (zP (zF (zE 0 rfl) (zF (zE 3 rfl) zO)))) (λRV=>(zW (xU true 5 rfl rfl (zP (zF (zE 0 rfl) (zF (zE 4 rfl) (zF (zP (zF (zE 0 rfl) (zF (zE 1 rfl) (zF (zE 2 rfl) (zF (zE 3 rfl) zO))))) zO))))) (λVs=>(yC (zP (zF (zE 0 rfl) (zF (zP (zF (zE 5 rfl) (zF (zP (zF (zE 0 rfl) (zF (zE 4 rfl) zO))) zO))) zO)))))))) (by unfold xW;simp only[bnd])
def zU(a:aF C)(h:LI)(i:eV cl)(b:List LI):Option LI:=if(iw (.one 1) i.t)=true then((((bL b (0:Int)).bind λa2=>some ((a2,()))).bind λb3=>some (h,b3)).bind λb4=>some (a,b4)).bind λo=>xV o.1 o.2.1 o.2.2.1 else if(iw (.one 2) i.t)=true then((((((((((bL b (0:Int)).bind λa6=>some ((a6,()))).bind λb7=>some (a,b7)).bind λz5=>xA z5.1 z5.2.1).bind λa9=>some ((a9,()))).bind λZ=>some (h,Z)).bind λb11=>some (a,b11)).bind λO=>xV O.1 O.2.1 O.2.2.1).bind λn=>some ((n,()))).bind λI=>some (a,I)).bind λm=>xA m.1 m.2.1 else if(iw (.two 2) i.t)=true then((((bL b (0:Int)).bind λY=>((bL b (1:Int)).bind λq=>some ((q,()))).bind λv=>some (Y,v)).bind λx=>some (h,x)).bind λD=>some (a,D)).bind λd=>xD d.1 d.2.1 d.2.2.1 d.2.2.2.1 else if(iw (.two 3) i.t)=true then((((bL b (0:Int)).bind λa23=>((bL b (1:Int)).bind λH=>some ((H,()))).bind λU=>some (a23,U)).bind λA=>some (h,A)).bind λS=>some (a,S)).bind λc=>xW c.1 c.2.1 c.2.2.1 c.2.2.2.1 else if(iw (.one 3) i.t)=true then(((bL b (0:Int)).bind λs=>some ((s,()))).bind λT=>some (a,T)).bind λj=>zu j.1 j.2.1 else if(iw (.one 4) i.t)=true then(((((((yN a).bind λp=>(((((bL b (0:Int)).bind λz=>some ((z,()))).bind λN=>some (a,N)).bind λl=>xA l.1 l.2.1).bind λQ=>some ((Q,()))).bind λb36=>some (p,b36)).bind λF=>some (h,F)).bind λM=>some (a,M)).bind λf=>xD f.1 f.2.1 f.2.2.1 f.2.2.2.1).bind λX=>some ((X,()))).bind λE=>some (a,E)).bind λk=>xA k.1 k.2.1 else if(iw (.one 5) i.t)=true then((((yN a).bind λG=>((bL b (0:Int)).bind λu=>some ((u,()))).bind λL=>some (G,L)).bind λR=>some (h,R)).bind λJ=>some (a,J)).bind λe=>xD e.1 e.2.1 e.2.2.1 e.2.2.2.1 else((((yN a).bind λB=>((bL b (0:Int)).bind λa49=>some ((a49,()))).bind λb51=>some (B,b51)).bind λy=>some (h,y)).bind λr=>some (a,r)).bind λg=>xW g.1 g.2.1 g.2.2.1 g.2.2.2.1
theorem cL:ao ["machine","living","saying","sets"] ["machine","living","saying","sets"] (zH bO):=fsc
abbrev uA(K:Frag)(C:Addr)(cl:Hd->Addr):Sp:=b_ K false (λa:(aF C)×LI×(eV cl)×((List LI))×Unit=>([.z a.1,.z a.2.1,.z a.2.2.1,.z a.2.2.2.1]:SL K)) (λa=>zU a.1 a.2.1 a.2.2.1 a.2.2.2.1)
theorem zBf(F:aV K "meaning_over_walks" "meaning_over_walks" bO f j)(B:Bl K mg)(I:pI P w K mg base kS cl fi di)(i:bw P w K mg base k "core" ["machine","within"] (Vr K C))(g:bw P w K mg base k "each_till" ["machine","living","left","right"] (zF3 K C))(b:bw P w K mg base k "everywhere" ["machine"] (wN K C))(d:bw P w K mg base k "others" ["machine","stands"] (Ry K C))(e:bw P w K mg base k "some_next" ["machine","living","part"] (zF1 K C))(c:bw P w K mg base k "some_till" ["machine","living","left","right"] (zF0 K C)):aq P w K mg base aP (k+1) f j ["machine","living","saying","sets"] (uA K C cl):=by
 refine yJ F cL (λ_=>rfl) (λ_=>rfl) λcdv A outer s H E h=>?_
 have nd:=cL.nd
 refine⟨_,(zB (yT (wQ (zS (vV K (vX (a:=cl (.one 1)))) rfl B.nU vW (zA (pv 2) (zA (wC (v:=.ref (cl (.one 1))) rfl (I.ini.m1 1) rfl) zD)))) (zB (zQ (zX e h (zA (pv 0) (zA (pv 1) (zA (yH (bQ K) (pv 3) zK (λ_ _=>rfl)) zD))))) zG) zG) (zB (yT (wQ (zS (vV K (vX (a:=cl (.one 2)))) rfl B.nU vW (zA (pv 2) (zA (wC (v:=.ref (cl (.one 2))) rfl (I.ini.m1 2) rfl) zD)))) (zB (zQ (zX d h (zA (pv 0) (zA (zX e h (zA (pv 0) (zA (pv 1) (zA (zX d h (zA (pv 0) (zA (yH (bQ K) (pv 3) zK (λ_ _=>rfl)) zD))) zD)))) zD)))) zG) zG) (zB (yT (wQ (zS (vV K (vX (a:=cl (.two 2)))) rfl B.nU vW (zA (pv 2) (zA (wC (v:=.ref (cl (.two 2))) rfl (I.ini.m2 2) rfl) zD)))) (zB (zQ (zX c h (zA (pv 0) (zA (pv 1) (zA (yH (bQ K) (pv 3) zK (λ_ _=>rfl)) (zA (yH (bQ K) (pv 3) zK (λ_ _=>rfl)) zD)))))) zG) zG) (zB (yT (wQ (zS (vV K (vX (a:=cl (.two 3)))) rfl B.nU vW (zA (pv 2) (zA (wC (v:=.ref (cl (.two 3))) rfl (I.ini.m2 3) rfl) zD)))) (zB (zQ (zX g h (zA (pv 0) (zA (pv 1) (zA (yH (bQ K) (pv 3) zK (λ_ _=>rfl)) (zA (yH (bQ K) (pv 3) zK (λ_ _=>rfl)) zD)))))) zG) zG) (zB (yT (wQ (zS (vV K (vX (a:=cl (.one 3)))) rfl B.nU vW (zA (pv 2) (zA (wC (v:=.ref (cl (.one 3))) rfl (I.ini.m1 3) rfl) zD)))) (zB (zQ (zX i h (zA (pv 0) (zA (yH (bQ K) (pv 3) zK (λ_ _=>rfl)) zD)))) zG) zG) (zB (yT (wQ (zS (vV K (vX (a:=cl (.one 4)))) rfl B.nU vW (zA (pv 2) (zA (wC (v:=.ref (cl (.one 4))) rfl (I.ini.m1 4) rfl) zD)))) (zB (zQ (zX d h (zA (pv 0) (zA (zX c h (zA (pv 0) (zA (pv 1) (zA (zX b h (zA (pv 0) zD)) (zA (zX d h (zA (pv 0) (zA (yH (bQ K) (pv 3) zK (λ_ _=>rfl)) zD))) zD))))) zD)))) zG) zG) (zB (yT (wQ (zS (vV K (vX (a:=cl (.one 5)))) rfl B.nU vW (zA (pv 2) (zA (wC (v:=.ref (cl (.one 5))) rfl (I.ini.m1 5) rfl) zD)))) (zB (zQ (zX c h (zA (pv 0) (zA (pv 1) (zA (zX b h (zA (pv 0) zD)) (zA (yH (bQ K) (pv 3) zK (λ_ _=>rfl)) zD)))))) zG) zG) (zB (zQ (zX g h (zA (pv 0) (zA (pv 1) (zA (zX b h (zA (pv 0) zD)) (zA (yH (bQ K) (pv 3) zK (λ_ _=>rfl)) zD)))))) zG)))))))),?_⟩
 rintro Fa ⟨q0,q1,q2,q3,⟨⟩⟩
 exact SB.of (uJ (cI (md:=.hp) (wH I (.one 1) (zE 2 rfl))) (yC (zP (zF (zE 0 rfl) (zF (zE 1 rfl) (zF (wF (zE 3 rfl) (zR 0)) zO))))) (uJ (cI (md:=.hp) (wH I (.one 2) (zE 2 rfl))) (yC (zP (zF (zE 0 rfl) (zF (zP (zF (zE 0 rfl) (zF (zE 1 rfl) (zF (zP (zF (zE 0 rfl) (zF (wF (zE 3 rfl) (zR 0)) zO))) zO)))) zO)))) (uJ (cI (md:=.hp) (wH I (.two 2) (zE 2 rfl))) (yC (zP (zF (zE 0 rfl) (zF (zE 1 rfl) (zF (wF (zE 3 rfl) (zR 0)) (zF (wF (zE 3 rfl) (zR 1)) zO)))))) (uJ (cI (md:=.hp) (wH I (.two 3) (zE 2 rfl))) (yC (zP (zF (zE 0 rfl) (zF (zE 1 rfl) (zF (wF (zE 3 rfl) (zR 0)) (zF (wF (zE 3 rfl) (zR 1)) zO)))))) (uJ (cI (md:=.hp) (wH I (.one 3) (zE 2 rfl))) (yC (zP (zF (zE 0 rfl) (zF (wF (zE 3 rfl) (zR 0)) zO)))) (uJ (cI (md:=.hp) (wH I (.one 4) (zE 2 rfl))) (yC (zP (zF (zE 0 rfl) (zF (zP (zF (zE 0 rfl) (zF (zE 1 rfl) (zF (zP (zF (zE 0 rfl) zO)) (zF (zP (zF (zE 0 rfl) (zF (wF (zE 3 rfl) (zR 0)) zO))) zO))))) zO)))) (uJ (cI (md:=.hp) (wH I (.one 5) (zE 2 rfl))) (yC (zP (zF (zE 0 rfl) (zF (zE 1 rfl) (zF (zP (zF (zE 0 rfl) zO)) (zF (wF (zE 3 rfl) (zR 0)) zO)))))) (yC (zP (zF (zE 0 rfl) (zF (zE 1 rfl) (zF (zP (zF (zE 0 rfl) zO)) (zF (wF (zE 3 rfl) (zR 0)) zO))))))))))))) (by unfold zU;simp only[bnd])
def wW(d:aF C)(n:LI)(a:eV cl)(b:List LI):Option LI:=if(iw .all a.t)=true then yN d else if(iw .mark a.t)=true then(a.name.bind λj=>some ((j,()))).bind λm=>yF d m.1 else if(iw (.one 0) a.t)=true then(((bL b (0:Int)).bind λq=>some ((q,()))).bind λo=>some (d,o)).bind λi=>xA i.1 i.2.1 else if(iw (.two 0) a.t)=true then((bL b (0:Int)).bind λk=>((bL b (1:Int)).bind λl=>some ((l,()))).bind λp=>some (k,p)).bind λh=>xO h.1 h.2.1 else if(iw (.two 1) a.t)=true then((bL b (0:Int)).bind λg=>((bL b (1:Int)).bind λe=>some ((e,()))).bind λf=>some (g,f)).bind λc=>vE c.1 c.2.1 else zU d n a b
theorem lK:ao ["machine","living","saying","sets"] ["machine","living","saying","sets"] (zH jG):=fsc
abbrev zJ1(K:Frag)(C:Addr)(cl:Hd->Addr):Sp:=b_ K false (λa:(aF C)×LI×(eV cl)×((List LI))×Unit=>([.z a.1,.z a.2.1,.z a.2.2.1,.z a.2.2.2.1]:SL K)) (λa=>wW a.1 a.2.1 a.2.2.1 a.2.2.2.1)
theorem zNt(F:aV K "meaning" "meaning" jG f j)(B:Bl K mg)(I:pI P w K mg base kS cl fi di)(c:dZ P w K mg base k C "marked" ["self","name"] (zA7 K C))(d:bw P w K mg base k "everywhere" ["machine"] (wN K C))(b:bw P w K mg base k "meaning_over_walks" ["machine","living","saying","sets"] (uA K C cl))(h:bw P w K mg base k "others" ["machine","stands"] (Ry K C))(g:bw P w K mg base k "shared" ["one","other"] (NK K))(e:bw P w K mg base k "together" ["one","other"] (YH K)):aq P w K mg base aP (k+1) f j ["machine","living","saying","sets"] (zJ1 K C cl):=by
 refine yJ F lK (λ_=>rfl) (λ_=>rfl) λcdv A outer s H E i=>?_
 have nd:=lK.nd
 refine⟨_,(zB (yT (wQ (zS (vV K (vX (a:=cl .all))) rfl B.nU vW (zA (pv 2) (zA (wC (v:=.ref (cl .all)) rfl I.ini.mA rfl) zD)))) (zB (zQ (zX d i (zA (pv 0) zD))) zG) zG) (zB (yT (wQ (zS (vV K (vX (a:=cl .mark))) rfl B.nU vW (zA (pv 2) (zA (wC (v:=.ref (cl .mark)) rfl I.ini.mM rfl) zD)))) (zB (zQ (Ql c i (pv 0) (zA (Gi K (pv 2)) zD))) zG) zG) (zB (yT (wQ (zS (vV K (vX (a:=cl (.one 0)))) rfl B.nU vW (zA (pv 2) (zA (wC (v:=.ref (cl (.one 0))) rfl (I.ini.m1 0) rfl) zD)))) (zB (zQ (zX h i (zA (pv 0) (zA (yH (bQ K) (pv 3) zK (λ_ _=>rfl)) zD)))) zG) zG) (zB (yT (wQ (zS (vV K (vX (a:=cl (.two 0)))) rfl B.nU vW (zA (pv 2) (zA (wC (v:=.ref (cl (.two 0))) rfl (I.ini.m2 0) rfl) zD)))) (zB (zQ (zX g i (zA (yH (bQ K) (pv 3) zK (λ_ _=>rfl)) (zA (yH (bQ K) (pv 3) zK (λ_ _=>rfl)) zD)))) zG) zG) (zB (yT (wQ (zS (vV K (vX (a:=cl (.two 1)))) rfl B.nU vW (zA (pv 2) (zA (wC (v:=.ref (cl (.two 1))) rfl (I.ini.m2 1) rfl) zD)))) (zB (zQ (zX e i (zA (yH (bQ K) (pv 3) zK (λ_ _=>rfl)) (zA (yH (bQ K) (pv 3) zK (λ_ _=>rfl)) zD)))) zG) zG) (zB (zQ (zX b i (zA (pv 0) (zA (pv 1) (zA (pv 2) (zA (pv 3) zD)))))) zG)))))),?_⟩
 rintro Fa ⟨q0,q1,q2,q3,⟨⟩⟩
 exact SB.of (uJ (cI (md:=.hp) (wH I .all (zE 2 rfl))) (yC (zP (zF (zE 0 rfl) zO))) (uJ (cI (md:=.hp) (wH I .mark (zE 2 rfl))) (yC (Bv (by decide +kernel) (zE 0 rfl) (zF (esc (esc (zOd I (zE 2 rfl)))) zO))) (uJ (cI (md:=.hp) (wH I (.one 0) (zE 2 rfl))) (yC (zP (zF (zE 0 rfl) (zF (wF (zE 3 rfl) (zR 0)) zO)))) (uJ (cI (md:=.hp) (wH I (.two 0) (zE 2 rfl))) (yC (zP (zF (wF (zE 3 rfl) (zR 0)) (zF (wF (zE 3 rfl) (zR 1)) zO)))) (uJ (cI (md:=.hp) (wH I (.two 1) (zE 2 rfl))) (yC (zP (zF (wF (zE 3 rfl) (zR 0)) (zF (wF (zE 3 rfl) (zR 1)) zO)))) (yC (zP (zF (zE 0 rfl) (zF (zE 1 rfl) (zF (zE 2 rfl) (zF (zE 3 rfl) zO))))))))))) (by unfold wW;simp only[bnd])
def wP(rec:(aF C)->LI->(eV cl)->Option (cW Int))(h:aF C)(i:LI)(j:eV cl):Option (cW Int):=(some (mW.mk [])).bind λe=>(some (([]:List LI))).bind λc=>((some j.parts).bind λo=>xN (λ(k:mW×(List LI)) (l:eV cl)=>((rec h i l).bind λn=>pN k.1 n).bind λa=>((bL a.xss (-(1:Int))).bind λm=>push k.2 m).bind λd=>some (a,d)) o (e,c)).bind λg=>((wW h i j g.2).bind λf=>pL g.1 f).bind λb=>some (cW.mk b.xss)
def wA:Nat->(aF C)->LI->(eV cl)->Option (cW Int)
 |0=>λ_ _ _=>none
 |n+1=>wP (wA n)
theorem gk:ao ["machine","living","saying","told","sets","part"] ["machine","living","saying"] (zH dM):=fsc
abbrev uG(K:Frag)(C:Addr)(cl:Hd->Addr)(rec:(aF C)->LI->(eV cl)->Option (cW Int)):Sp:=b_ K false (λa:(aF C)×LI×(eV cl)×Unit=>([.z a.1,.z a.2.1,.z a.2.2.1]:SL K)) (λa=>rec a.1 a.2.1 a.2.2.1)
abbrev zC5(K:Frag)(C:Addr)(cl:Hd->Addr):Sp:=uG K C cl (wA 9 )
theorem zF6(F:aV K "table_among" "table_among" dM f p)(B:Bl K mg)(I:pI P w K mg base kS cl fi di)(b:bw P w K mg base k "meaning" ["machine","living","saying","sets"] (zJ1 K C cl))(a:bw P w K mg base k "table_among" ["machine","living","saying"] (uG K C cl rec)):aq P w K mg base aP (k+1) f p ["machine","living","saying"] (uG K C cl (wP rec)):=by
 refine yJ F gk (λ_=>rfl) (λ_=>rfl) λcdv A outer s H E m=>?_
 have i:=gk.nd
 refine⟨_,(zB (xH 3 i (xF zD)) (zB (xH 4 i (xF zD)) (zB (xI aat rfl (zV3 K (Gi K (pv 2))) (bV 5 i) (zB (zY (ql K aao ac2 ac3 Wr (pv 3) (zA (zX a m (zA (pv 0) (zA (pv 1) (zA (pv 5) zD)))) zD))) (zB (zY (ql K aao aav aaw xB (pv 4) (zA (yH (bQ K) (pv 3) (Tn Tw zK) (λ_ _=>rfl)) zD))) zG))) (zB (zY (ql K aao aav aaw xB (pv 3) (zA (zX b m (zA (pv 0) (zA (pv 1) (zA (pv 2) (zA (pv 4) zD))))) zD))) (zB (zQ (pv 3)) zG))))),?_⟩
 rintro Fa ⟨j,o,l,⟨⟩⟩
 exact SB.of (zW (zSv 3 rfl rfl) (λc=>(zW (uX true 4 rfl rfl (qX (α:=LI))) (λe=>(zW (wK (n:=false) (L:=(λg:mW×(List LI)=>([.z j,.z o,.z l,.ob true (g.1:mW),.ow true g.2,.un]:SL K))) (c,e) bx (zUs I (yM 2 rfl)) (λg=>(yG 5 rfl rfl)) (λg x5=>(zT (zSw 3 rfl rfl (Uo (zF (zE 0 rfl) (zF (zE 1 rfl) (zF (zE 5 rfl) zO))))) (λd=>(zT (wE 4 rfl rfl (Df 3 rfl (Uu (zR 1)))) (λh=>(yD (λg:mW×(List LI)=>([.z j,.z o,.z l,.ob true (g.1:mW),.ow true g.2,.un]:SL K)) (d,h) bx))))))) (λs4=>(zW (zSx 3 rfl rfl (Uo (zF (zE 0 rfl) (zF (zE 1 rfl) (zF (zE 2 rfl) (zF (vK 4 rfl) zO)))))) (λYK=>(zS8 3 rfl))))))))) (by unfold wP;simp only[bnd])
def K6(b:aF C)(c:eV cl):Option (cW Int):=(((G5 b).bind λe=>some ((e,(c,())))).bind λd=>some (b,d)).bind λa=>wA 9 a.1 a.2.1 a.2.2.1
theorem pU:ao ["machine","saying"] ["machine","saying"] (zH oh):=fsc
abbrev YL(K:Frag)(C:Addr)(cl:Hd->Addr):Sp:=b_ K false (λa:(aF C)×(eV cl)×Unit=>([.z a.1,.z a.2.1]:SL K)) (λa=>K6 a.1 a.2.1)
theorem zTp(F:aV K "table" "table" oh f d)(B:Bl K mg)(b:bw P w K mg base k "alive" ["machine"] (zSb K C))(a:bw P w K mg base k "table_among" ["machine","living","saying"] (zC5 K C cl)):aq P w K mg base aP (k+1) f d ["machine","saying"] (YL K C cl):=by
 refine yJ F pU (λ_=>rfl) (λ_=>rfl) λcdv A outer s H E c=>?_
 have nd:=pU.nd
 refine⟨_,(zB (zQ (zX a c (zA (pv 0) (zA (zX b c (zA (pv 0) zD)) (zA (pv 1) zD))))) zG),?_⟩
 rintro Fa ⟨q0,q1,⟨⟩⟩
 exact SB.of (yC (zP (zF (zE 0 rfl) (zF (zP (zF (zE 0 rfl) zO)) (zF (zE 1 rfl) zO))))) (by unfold K6;simp only[bnd])
def NT(b:aF C)(c:eV cl):Option LI:=((K6 b c).bind λa=>some a.xss).bind λd=>bL d (-(1:Int))
theorem pW:ao ["machine","saying"] ["machine","saying"] (zH ou):=fsc
abbrev zSa(K:Frag)(C:Addr)(cl:Hd->Addr):Sp:=b_ K false (λa:(aF C)×(eV cl)×Unit=>([.z a.1,.z a.2.1]:SL K)) (λa=>NT a.1 a.2.1)
theorem zTr(F:aV K "holds" "holds" ou f b)(B:Bl K mg)(a:bw P w K mg base k "table" ["machine","saying"] (YL K C cl)):aq P w K mg base aP (k+1) f b ["machine","saying"] (zSa K C cl):=by
 refine yJ F pW (λ_=>rfl) (λ_=>rfl) λcdv A outer s H E c=>?_
 have nd:=pW.nd
 refine⟨_,(zB (zQ (yH (bQ K) (zX a c (zA (pv 0) (zA (pv 1) zD))) (Tn Tw zK) (λ_ _=>rfl))) zG),?_⟩
 rintro Fa ⟨q0,q1,⟨⟩⟩
 exact SB.of (yC (wF (Ke (zP (zF (zE 0 rfl) (zF (zE 1 rfl) zO)))) (Uu (zR 1)))) (by unfold NT;simp only[bnd])
end
end Ts
set_option maxHeartbeats 40000000
namespace Ts
open PySem L2 Sy
section
variable{P:Program}{w:World}{K:Frag}{mg:Str->Option Value}{base:Heap}
def uB(a:LI) :Option (Int×LI):=if(decide ((a.length:Int)=(0:Int)))=true then some ((0:Int),a) else a.getLast?.bind λy=>some (y,a.dropLast)
theorem m8:ao ["_law_rest"] ["_law_rest"] (zH lg):=fsc
abbrev YM(K:Frag):Sp:=Cv K (λa:Unit=>([]:SL K)) (λb a=>uB b )
theorem zP9(F:aV K "_law_cell" "_law_cell" lg f a)(B:Bl K mg):aq P w K mg base aP (k+1) f a ["_law_rest"] (YM K):=by
 refine zRo F m8 (λ_=>rfl) (λ_=>rfl) λcdv A outer s H E b=>?_
 have nd:=m8.nd
 refine⟨_,(zB (yT (zZ (Ge K Int b) (zS (uS K) rfl B.len aa2 (zA (pv 0) zD)) zK (yL _)) (zB (zQ zK) zG) zG) (zB (zQ (Xe K aao PySem.F.slot_list_pop PySem.F.type_list_pop IV (pv 0))) zG)),?_⟩
 rintro Fa p q0 ⟨⟩
 exact pJ.of (Cw (xL (md:=.hp) (Gf (Cz 0 rfl rfl) (zR 0))) (zPg 0 rfl rfl (esc (zR 0))) (zS7 0 rfl rfl (Cy 0 rfl rfl))) (by unfold uB;simp only[bnd])
def uC(h:Int)(f:Int):Option LI:=(some ([]:LI)).bind λc=>((bW f).bind λj=>xN (λ(e:LI×Int) (l:Int)=>(((iU e.2 (2:Int)).bind λi=>some (decide (i=(1:Int)))).bind λb=>if b=true then(push e.1 l).bind λd=>some d else some e.1).bind λg=>(j_ e.2 (2:Int)).bind λa=>some (g,a)) j (c,h)).bind λk=>some k.1
theorem m9:ao ["_law_cell_here","_law_many","_law_found","_law_stand"] ["_law_cell_here","_law_many"] (zH lB):=fsc
abbrev zMy(K:Frag):Sp:=b_ K false (λa:Int×Int×Unit=>([.z a.1,.z a.2.1]:SL K)) (λa=>uC a.1 a.2.1)
theorem zQa(F:aV K "_law_bits" "_law_bits" lB f o)(B:Bl K mg):aq P w K mg base aP (k+1) f o ["_law_cell_here","_law_many"] (zMy K):=by
 refine yJ F m9 (λ_=>rfl) (λ_=>rfl) λcdv A outer s H E j=>?_
 have g:=m9.nd
 refine⟨_,(zB (xH 2 g (xF zD)) (zB (xI aat rfl (wS rfl B.range (zA (pv 1) zD)) (bV 3 g) (zB (yT (zZ (Ge K Int j) (xT tZ (pv 0) zK) zK (yL _)) (zB (zY (ql K aao aav aaw xB (pv 2) (zA (pv 3) zD))) zG) zG) (zB (xH 0 g (xT Fv (pv 0) zK)) zG))) (zB (zQ (pv 2)) zG))),?_⟩
 rintro Fa ⟨m,e,⟨⟩⟩
 exact SB.of (zW (uX true 2 rfl rfl (qX (α:=Int))) (λc=>(zW (wK (n:=true) (L:=(λb:LI×Int=>([.z b.2,.z e,.ow true b.1,.un]:SL K))) (c,m) bx (uF (zI 1 rfl)) (λb=>(yG 3 rfl rfl)) (λb i=>(zT (qz (xL (md:=.hp) (Gf (Jh (zI 0 rfl) (zR 2)) (zR 1))) (zT (wE 2 rfl rfl (esc (zI 3 rfl))) (λd=>(yD (λh:LI=>([.z b.2,.z e,.ow true h,.y i]:SL K)) d bx))) (yD (λh:LI=>([.z b.2,.z e,.ow true h,.y i]:SL K)) b.1 bx)) (λl=>(zT (xU true 0 rfl rfl (esc (Qd (zI 0 rfl) (zR 2)))) (λa=>(yD (λb:LI×Int=>([.z b.2,.z e,.ow true b.1,.un]:SL K)) (l,a) (Le.old bx)))))))) (λs3=>(Bg 2 rfl rfl))))) (by unfold uC;simp only[bnd])
def NZ(l:Int)(p:Int)(k:Int):Option LI:=(some ([]:LI)).bind λe=>(some l).bind λf=>((bW k).bind λm=>xN (λ(g:LI×Int) (o:Int)=>(((iU g.2 (3:Int)).bind λq=>some (decide (q=(1:Int)))).bind λb=>if b=true then(push g.1 o).bind λd=>some d else some g.1).bind λn=>(j_ g.2 (3:Int)).bind λc=>some (n,c)) m (e,f)).bind λj=>(if(decide (j.1=([]:LI)))=true then((iU (l+p) k).bind λi=>push j.1 i).bind λa=>some a else some j.1).bind λh=>some h
theorem m_:ao ["_law_cell_here","_law_k","_law_many","_law_found","_law_rest","_law_stand"] ["_law_cell_here","_law_k","_law_many"] (zH lC):=fsc
abbrev zMx(K:Frag):Sp:=b_ K false (λa:Int×Int×Int×Unit=>([.z a.1,.z a.2.1,.z a.2.2.1]:SL K)) (λa=>NZ a.1 a.2.1 a.2.2.1)
theorem zP8(F:aV K "_law_next" "_law_next" lC f t)(B:Bl K mg):aq P w K mg base aP (k+1) f t ["_law_cell_here","_law_k","_law_many"] (zMx K):=by
 refine yJ F m_ (λ_=>rfl) (λ_=>rfl) λcdv A outer s H E r=>?_
 have m:=m_.nd
 refine⟨_,(zB (xH 3 m (xF zD)) (zB (xH 4 m (pv 0)) (zB (xI aat rfl (wS rfl B.range (zA (pv 2) zD)) (bV 5 m) (zB (yT (zZ (Ge K Int r) (xT tZ (pv 4) zK) zK (yL _)) (zB (zY (ql K aao aav aaw xB (pv 3) (zA (pv 5) zD))) zG) zG) (zB (xH 4 m (xT Fv (pv 4) zK)) zG))) (zB (yT (zZ (Ge K LI r) (pv 3) (xF zD) (yL _)) (zB (zY (ql K aao aav aaw xB (pv 3) (zA (xT tZ (xT Tq (pv 0) (pv 1)) (pv 2)) zD))) zG) zG) (zB (zQ (pv 3)) zG))))),?_⟩
 rintro Fa ⟨i,j,l,⟨⟩⟩
 exact SB.of (zW (uX true 3 rfl rfl (qX (α:=Int))) (λc=>(zW (xU true 4 rfl rfl (esc (zI 0 rfl))) (λh=>(zW (wK (n:=true) (L:=(λb:LI×Int=>([.z i,.z j,.z l,.ow true b.1,.y b.2,.un]:SL K))) (c,h) bx (uF (zI 2 rfl)) (λb=>(yG 5 rfl rfl)) (λb q=>(zT (qz (xL (md:=.hp) (Gf (Jh (zI 4 rfl) (zR 3)) (zR 1))) (zT (wE 3 rfl rfl (esc (zI 5 rfl))) (λd=>(yD (λo:LI=>([.z i,.z j,.z l,.ow true o,.y b.2,.y q]:SL K)) d bx))) (yD (λo:LI=>([.z i,.z j,.z l,.ow true o,.y b.2,.y q]:SL K)) b.1 bx)) (λu=>(zT (xU true 4 rfl rfl (esc (Qd (zI 4 rfl) (zR 3)))) (λe=>(yD (λb:LI×Int=>([.z i,.z j,.z l,.ow true b.1,.y b.2,.un]:SL K)) (u,e) bx))))))) (λp=>(zW (qz (xL (md:=.hp) (Gf (vK 3 rfl) (qX (α:=Int)).ex)) (zT (wE 3 rfl rfl (esc (Jh (Ui (zI 0 rfl) (zI 1 rfl)) (zI 2 rfl)))) (λa=>(yD (λg:LI=>([.z i,.z j,.z l,.ow true g,.y p.2,.un]:SL K)) a bx))) (yD (λg:LI=>([.z i,.z j,.z l,.ow true g,.y p.2,.un]:SL K)) p.1 bx)) (λqp=>(Bg 3 rfl rfl))))))))) (by unfold NZ;simp only[bnd])
def uO(H:LI) :Option ((oU (List LI) (List (Str×LI)) (List LI))×LI):=(uB H ).bind λa=>(((j_ a.1 (8:Int)).bind λG=>iU G (7:Int)).bind λF=>some ((1:Int)+F)).bind λg=>(((iU a.1 (8:Int)).bind λI=>some (decide (I=(1:Int)))).bind λb=>if b=true then(((j_ a.1 (8:Int)).bind λE=>iU E (5:Int)).bind λC=>some ((8:Int)+C)).bind λh=>some h else some g).bind λr=>((bW r).bind λl=>kE (λ(y:LI) (B:Int)=>(uB y ).bind λk=>(NZ k.1 B r).bind λx=>some (x,k.2)) a.2 l).bind λd=>(some (([]:List (Str×LI)))).bind λf=>((some ([("p":Str),("wet":Str),("darkness":Str)])).bind λl=>xN (λ(m:(List (Str×LI))×LI) (u:Str)=>((((uB m.2 ).bind λq=>(uC q.1 r).bind λA=>some (A,q.2)).bind λi=>some ((u,i.1),i.2)).bind λj=>(push m.1 j.1).bind λD=>some (D,j.2)).bind λc=>some (c.1,c.2)) l (f,d.2)).bind λn=>((((j_ a.1 (60:Int)).bind λz=>iU z (4:Int)).bind λt=>bW t).bind λl=>kE (λ(s:LI) (x31:Int)=>(uB s ).bind λo=>(uC o.1 r).bind λv=>some (v,o.2)) n.2 l).bind λe=>some (oU.mk d.1 n.1 e.1,e.2)
theorem lM:ao ["_law_rest","_law_cell_here","_law_many","_law_steps","_law_marks","_law_name","_law_fair"] ["_law_rest"] (zH jJ):=fsc
abbrev zJ3(K:Frag):Sp:=Cv K (λa:Unit=>([]:SL K)) (λb a=>uO b )
theorem zNu(F:aV K "_law_drawn" "_law_drawn" jJ f fd)(B:Bl K mg)(jl:bw P w K mg base k "_law_bits" ["_law_cell_here","_law_many"] (zMy K))(dh:bw P w K mg base k "_law_cell" ["_law_rest"] (YM K))(lN:bw P w K mg base k "_law_next" ["_law_cell_here","_law_k","_law_many"] (zMx K)):aq P w K mg base aP (k+1) f fd ["_law_rest"] (zJ3 K):=by
 refine zRo F lM (λ_=>rfl) (λ_=>rfl) λcdv A outer s H E hr=>?_
 have nd:=lM.nd
 refine⟨_,(zB (xH 1 nd (zX dh hr (zA (pv 0) zD))) (zB (xH 2 nd (xT Tq zK (xT tZ (xT Fv (pv 1) zK) zK))) (zB (yT (zZ (Ge K Int hr) (xT tZ (pv 1) zK) zK (yL _)) (zB (xH 2 nd (xT Tq zK (xT tZ (xT Fv (pv 1) zK) zK))) zG) zG) (zB (Ba (i:=3) (own:=["_law_k"]) (ix:=[2,0]) nd rfl rfl rfl rfl rfl (wS rfl B.range (zA (pv 2) zD)) (λC s H fp=>yQ (i:=0) (show(["_law_k","_law_many","_law_rest"]:List Str).Nodup from by decide +kernel) rfl (Or.inl rfl)) (λC s H fp=>wR) (λC s H fp=>(zX lN hr (zA (zX dh hr (zA (pv 2) zD)) (zA (pv 0) (zA (pv 1) zD)))))) (zB (xH 4 nd (xF zD)) (zB (xI aat rfl (yU K (xF (zA yE (zA yE (zA yE zD))))) (bV 5 nd) (zB (zY (ql K aao aav aaw xB (pv 4) (zA (uY (zA (pv 5) (zA (zX jl hr (zA (zX dh hr (zA (pv 0) zD)) (zA (pv 2) zD))) zD))) zD))) zG)) (zB (Ba (i:=6) (own:=["_law_k"]) (ix:=[2,0]) nd rfl rfl rfl rfl rfl (wS rfl B.range (zA (xT tZ (xT Fv (pv 1) zK) zK) zD)) (λC s H fp=>yQ (i:=0) (show(["_law_k","_law_many","_law_rest"]:List Str).Nodup from by decide +kernel) rfl (Or.inl rfl)) (λC s H fp=>wR) (λC s H fp=>(zX jl hr (zA (zX dh hr (zA (pv 2) zD)) (zA (pv 1) zD))))) (zB (zQ (uY (zA (pv 3) (zA (pv 4) (zA (pv 6) zD))))) zG)))))))),?_⟩
 rintro Fa p q0 ⟨⟩
 exact pJ.of (J2 (Vd true 1 (λ_=>⟨_,rfl,rfl⟩) (sG.ey (Ve 0 rfl rfl zO))) (λaM=>(J7 [.nu (RL.mk (p:=p) aM.2),.y aM.1,.un,.un,.un,.un,.un] (J2 (xU true 2 rfl rfl (esc (Ui (zR 1) (Jh (Qd (zI 1 rfl) (zR 8)) (zR 7))))) (λG6=>(J7 [.nu (RL.mk (p:=p) aM.2),.y aM.1,.y G6,.un,.un,.un,.un] (J2 (qz (xL (md:=.hp) (Gf (Jh (zI 1 rfl) (zR 8)) (zR 1))) (zT (xU true 2 rfl rfl (esc (Ui (zR 8) (Jh (Qd (zI 1 rfl) (zR 8)) (zR 5))))) (λRW=>(yD (λs7:Int=>([.nu (RL.mk (p:=p) aM.2),.y aM.1,.y s7,.un,.un,.un,.un]:SL K)) RW bx))) (yD (λs7:Int=>([.nu (RL.mk (p:=p) aM.2),.y aM.1,.y s7,.un,.un,.un,.un]:SL K)) G6 bx)) (λs6=>(J7 [.nu (RL.mk (p:=p) aM.2),.y aM.1,.y s6,.un,.un,.un,.un] (J2 (Vd true 3 (λ_=>⟨_,rfl,rfl⟩) (sG.ey (QW.eyn (λ_=>⟨0,_,rfl,rfl⟩) (zMl (n:=true) (n':=true) (ig:=λw13:LI=>([.un,.y s6,.nu (RL.mk (p:=p) w13)]:SL K)) (no:=1) (ix:=[2,0]) 0 rfl rfl (zWa rfl rfl) (uF (zI 2 rfl)) (λw13=>yG 0 rfl rfl) (λw13 x12=>u_) (λw13 x12=>(XS (as:=(λa:Int×Int×Unit=>([.z a.1,.z a.2.1]:SL K))) (f:=(λa=>NZ a.1 a.2.1 a.2.2.1)) (Ve 2 rfl rfl zO) (λ_=>⟨2,_,rfl,rfl⟩) (λw14=>(zF (esc (zI 0 rfl)) (zF (esc (zI 1 rfl)) zO))))) (λw13 x12=>iu) (λw13 x12=>⟨2,rfl,rfl⟩))))) (λcR=>(J7 [.nu (RL.mk (p:=p) cR.2),.y aM.1,.y s6,.y cR.1,.un,.un,.un] (J2 (uX true 4 rfl rfl (qX (α:=Str×LI))) (λrA=>(J7 [.nu (RL.mk (p:=p) cR.2),.y aM.1,.y s6,.y cR.1,.ow true rA,.un,.un] (J2 (wK (n:=true) (L:=(λK7:(List (Str×LI))×LI=>([.nu (RL.mk (p:=p) K7.2),.y aM.1,.y s6,.y cR.1,.ow true K7.1,.un,.un]:SL K))) (rA,cR.2) bx (yW (yx (xM (esc (yu "p")) (xM (esc (yu "wet")) (xM (esc (yu "darkness")) yw))) (λa h=>aas ((wM (wM (wM zc))) a h) (by decide))).ex) (λK7=>(yG 5 rfl rfl)) (λK7 x20=>(zT (zNh (n:=true) 4 rfl rfl (λ_=>⟨rfl,rfl⟩) (zUi (n:=true) (i:=0) rfl rfl (λ_=>⟨0,_,rfl,rfl⟩) (esc (zI 5 rfl)) (XS (as:=(λa:Int×Unit=>([.z a.1]:SL K))) (f:=(λa=>uC a.1 a.2.1)) (Ve 0 rfl rfl zO) (λ_=>⟨0,_,rfl,rfl⟩) (λw22=>(zF (esc (zI 2 rfl)) zO))))) (λjm=>(yD (λK7:(List (Str×LI))×LI=>([.nu (RL.mk (p:=p) K7.2),.y aM.1,.y s6,.y cR.1,.ow true K7.1,.un,.un]:SL K)) (jm.1,jm.2) bx))))) (λK1=>(J7 [.nu (RL.mk (p:=p) K1.2),.y aM.1,.y s6,.y cR.1,.ow true K1.1,.un,.un] (J2 (Vd true 6 (λ_=>⟨_,rfl,rfl⟩) (sG.ey (QW.eyn (λ_=>⟨0,_,rfl,rfl⟩) (zMl (n:=true) (n':=true) (ig:=λw32:LI=>([.un,.y s6,.nu (RL.mk (p:=p) w32)]:SL K)) (no:=1) (ix:=[2,0]) 0 rfl rfl (zWa rfl rfl) (uF (Jh (Qd (zI 1 rfl) (zR 60)) (zR 4))) (λw32=>yG 0 rfl rfl) (λw32 x31=>u_) (λw32 x31=>(XS (as:=(λa:Int×Unit=>([.z a.1]:SL K))) (f:=(λa=>uC a.1 a.2.1)) (Ve 2 rfl rfl zO) (λ_=>⟨2,_,rfl,rfl⟩) (λw33=>(zF (esc (zI 1 rfl)) zO)))) (λw32 x31=>iu) (λw32 x31=>⟨2,rfl,rfl⟩))))) (λoE=>(J7 [.nu (RL.mk (p:=p) oE.2),.y aM.1,.y s6,.y cR.1,.ow true K1.1,.un,.y oE.1] (CK (sl2:=[.nu (RL.mk (p:=p) oE.2),.y aM.1,.y s6,.y cR.1,.y K1.1,.un,.y oE.1]) bx (zPg 0 rfl rfl (zQ6 (md:=cJ true) (yM 3 rfl) (yM 4 rfl) (yM 6 rfl))))))))))))))))))))))))) (by unfold uO;simp only[bnd])
def RX(rec:bY->Option (List bY))(d:bY):Option (List bY):=(some ([]:List bY)).bind λa=>(if(!decide ((kn d.t)=("mark":Str)))=true then((lE d).bind λg=>xN (λ(f:List bY) (j:bY)=>((rec j).bind λe=>sE f e).bind λc=>some c) g a).bind λh=>some h else some a).bind λi=>(push i d).bind λb=>some b
def uH:Nat->bY->Option (List bY)
 |0=>λ_=>none
 |n+1=>RX (uH n)
theorem jR:ao ["_law_tree","_law_found","_law_part"] ["_law_tree"] (zH iD):=fsc
abbrev Vt(K:Frag)(rec:bY->Option (List bY)):Sp:=b_ K true (λa:bY×Unit=>([.z a.1]:SL K)) (λa=>rec a.1)
abbrev zGw(K:Frag):Sp:=Vt K (uH 7 )
theorem zKl(F:aV K "_law_within" "_law_within" iD f j)(B:Bl K mg)(a:bw P w K mg base k "_law_within" ["_law_tree"] (Vt K rec)):aq P w K mg base aP (k+1) f j ["_law_tree"] (Vt K (RX rec)):=by
 refine yJ F jR (λ_=>rfl) (λ_=>rfl) λcdv A outer s H E h=>?_
 have i:=jR.nd
 refine⟨_,(zB (xH 1 i (xF zD)) (zB (yT (zZ (M5 K Str h) (yH (u5 K) (pv 0) zK (λ_ _=>rfl)) yE (yL _)) (zB (xI aat rfl (zV3 K (uZ (Cu rfl) (pv 0) (FQ zK) FN)) (bV 2 i) (zB (zY (ql K aao ac2 ac3 Wr (pv 1) (zA (zX a h (zA (pv 2) zD)) zD))) zG)) zG) zG) (zB (zY (ql K aao aav aaw xB (pv 1) (zA (pv 0) zD))) (zB (zQ (pv 1)) zG)))),?_⟩
 rintro Fa ⟨e,⟨⟩⟩
 exact SB.of (zW (uX false 1 rfl rfl (qX (α:=bY))) (λb=>(zW (qz (xL (md:=.hp) (M6 (KJ (zE 0 rfl) (zR 0)) (yu "mark"))) (zT (wK (n:=false) (L:=(λd:List bY=>([.z e,.ow false d,.un]:SL K))) b bx (KN (yM 0 rfl) (zR 1)) (λd=>(yG 2 rfl rfl)) (λd x6=>(zT (zNg 1 rfl rfl (zMh (zF (yM 2 rfl) zO))) (λc=>(yD (λd:List bY=>([.z e,.ow false d,.un]:SL K)) c bx))))) (λl=>(yD (λg:List bY=>([.z e,.ow false g,.un]:SL K)) l bx))) (yD (λg:List bY=>([.z e,.ow false g,.un]:SL K)) b bx)) (λs2=>(zW (wE 1 rfl rfl (yM 0 rfl)) (λYQ=>(Bg 1 rfl rfl))))))) (by unfold RX;simp only[bnd])
def vN(cl:Hd->Addr)(q:aF C)(s:bY)(l:Int):Option (Option (List LI)):=((((KQ cl s).bind λt=>some ((t,()))).bind λv=>some (q,v)).bind λr=>K6 r.1 r.2.1).bind λa=>(uH 7 s).bind λf=>(if(!true)=true then some true else some (!decide ((a.xss.length:Int)=(f.length:Int)))).bind λb=>if b=true then some ((none:Option (List LI))) else(some ()).bind λu7=>((some (a.xss.zip f)).bind λn=>uE (λ(u:List LI) (d:LI×bY)=>(if(!true)=true then some true else((bW l).bind λn=>bh (λ(g:Int)=>some (decide (g∈d.1))) (λ(g:Int)=>some g) n).bind λk=>some (!decide (d.1=k))).bind λb=>if b=true then(some ((none:Option (List LI)))).bind λb=>some (.rt b) else((((KQ cl d.2).bind λm=>some ((m,()))).bind λp=>some (q,p)).bind λi=>NT i.1 i.2.1).bind λc=>if(!decide (c=d.1))=true then(some ((none:Option (List LI)))).bind λb=>some (.rt b) else(push u d.1).bind λe=>(push c l).bind λDw=>some (.nx e)) n (([]:List LI))).bind λo=>o.els λh=>(jB a (0:Int) l).bind λj=>if(!decide ((d_ j.xss (some (1:Int)) none)=(d_ h (some (1:Int)) none)))=true then some ((none:Option (List LI))) else(some (cW.mk (j.xss.map λ_=>[]):cW Int)).bind λDy=>(some (cW.mk []:cW Int)).bind λDz=>some (some h)
theorem ni:ao ["_law_machine","_law_tree","_law_many","_law_found","_law_due","_law_kept","_law_some","_law_part","_law_alone"] ["_law_machine","_law_tree","_law_many"] (zH lD):=fsc
abbrev zMw(K:Frag)(C:Addr)(cl:Hd->Addr):Sp:=b_ K false (λa:(aF C)×bY×Int×Unit=>([.z a.1,.z a.2.1,.z a.2.2.1]:SL K)) (λa=>vN cl a.1 a.2.1 a.2.2.1)
theorem zP7(F:aV K "_law_told" "_law_told" lD f G)(B:Bl K mg)(o:mg "zip" = none)(b:bw P w K mg base k "_law_made" ["_law_tree"] (YD K cl))(d:bw P w K mg base k "_law_within" ["_law_tree"] (zGw K))(e:bw P w K mg base k "holds" ["machine","saying"] (zSa K C cl))(g:bw P w K mg base k "table" ["machine","saying"] (YL K C cl)):aq P w K mg base aP (k+1) f G ["_law_machine","_law_tree","_law_many"] (zMw K C cl):=by
 refine yJ F ni (λ_=>rfl) (λ_=>rfl) λcdv A outer s H E l=>?_
 have m:=ni.nd
 refine⟨_,(zB (xH 3 m (zX g l (zA (pv 0) (zA (zX b l (zA (pv 1) zD)) zD)))) (zB (xH 4 m (zX d l (zA (pv 1) zD))) (zB (yT (PW.pt (pw_or (Ot (wQ (zS (vV K (PB (n:="list"))) rfl B.nU vW (zA (pv 3) (zA (Oj (v:=.ty "list") rfl B.list Bt rfl) zD))))) (pw_or1 (zZ (M5 K Int l) (zS (uS K) rfl B.len aa2 (zA (pv 3) zD)) (zS (uS K) rfl B.len aa2 (zA (pv 4) zD)) (yL _))))) (zB (zQ Mh) zG) zG) (zB (xH 5 m (xF zD)) (zB (xI aat rfl (J9 K o (zA (pv 3) (zA (pv 4) zD))) (Fj rfl (yP (bV 6 m) (yP (bV 7 m) yh))) (zB (yT (PW.pt (pw_or (Ot (wQ (zS (vV K (PB (n:="list"))) rfl B.nU vW (zA (pv 6) (zA (Oj (v:=.ty "list") rfl B.list Bt rfl) zD))))) (pw_or1 (zZ (M5 K LI l) (pv 6) (yt (own:=["_law_stand"]) (ix:=[6]) rfl rfl rfl (wS rfl B.range (zA (pv 2) zD)) (λC s H D=>yQ (i:=0) (show(["_law_stand","_law_some"]:List Str).Nodup from by decide +kernel) rfl (Or.inl rfl)) (λC s H D=>Px (zZ (zVx K) (pv 0) (pv 1) (by with_unfolding_all rfl))) (λC s H D=>(pv 0))) (yL _))))) (zB (zQ Mh) zG) zG) (zB (xH 8 m (zX e l (zA (pv 0) (zA (zX b l (zA (pv 7) zD)) zD)))) (zB (yT (zZ (M5 K LI l) (pv 8) (pv 6) (yL _)) (zB (zQ Mh) zG) zG) (zB (zY (ql K aao aav aaw xB (pv 5) (zA (wT (Jm K) rfl B.list Bt (zA (pv 6) zD)) zD))) (zB (zY (ql K aao aav aaw xB (pv 8) (zA (pv 2) zD))) zG)))))) (zB (zY (ql K aao aav aaw xB (yH (bQ K) (pv 3) zK (λ_ _=>rfl)) (zA (pv 2) zD))) (zB (yT (zZ (M5 K (List LI) l) (uZ (rR K) (pv 3) (FQ zK) FN) (uZ (rR K) (pv 5) (FQ zK) FN) (yL _)) (zB (zQ Mh) zG) zG) (zB (xI aat rfl (yU K (pv 3)) (bV 6 m) (zB (zY (Xe K aao PySem.F.slot_list_clear PySem.F.type_list_clear zL7 (pv 6))) zG)) (zB (zY (Xe K aao PySem.F.slot_list_clear PySem.F.type_list_clear zL7 (pv 3))) (zB (zQ (pv 5)) zG)))))))))),?_⟩
 rintro Fa ⟨r,x,u,⟨⟩⟩
 exact SB.of (zW (CV 3 rfl rfl rfl (Uo (zF (zE 0 rfl) (zF (zP (zF (zE 1 rfl) zO)) zO)))) (λc=>(zW (xU false 4 rfl rfl (zMh (zF (yM 1 rfl) zO))) (λh=>(uJ (PL (PK (cI (md:=.hp) (Qg B.ll rfl (X6 3 rfl)))) (xL (md:=.hp) (M6 (qZ (X6 3 rfl)) (qZ (zE 4 rfl))))) (yC (MF (α:=List LI))) (zW (Dk (α:=LI) 5 rfl rfl) (λu7=>(T8 (Dh (Lf:=λy:List LI=>([.z r,.z x,.z u,.ob true (c:cW Int),.z h,.ow true y,.un,.un,.un]:SL K)) rfl (λ_=>(mq.fz (mq.fz (mq.fz (mq.ob (mq.fz (mq.ow (mq.un rfl (mq.un rfl (mq.un rfl mq.nil)))))))))) (λB_ a=>(Uc (n:=false) (L:=(λq:List LI=>([.z (Fx.mk r:Fx (a.headD .non) (aF C)),.z (Fx.mk x:Fx (a.tail.headD .non) bY),.z (Fx.mk u:Fx (a.tail.tail.headD .non) Int),.z (Fx.mk c.xss:Fx (a.tail.tail.tail.headD .non) (List LI)),.z (Fx.mk h:Fx (a.tail.tail.tail.tail.headD .non) (List bY)),.ow true q,.un,.un,.un]:SL K))) (([]:List LI)) bx (J_ (Q_ (yM (n:=false) 3 rfl)) (Q_ (yM (n:=false) 4 rfl))) (λq=>(Gd 6 7 rfl rfl (λ_=>rfl) rfl)) (λq t=>(PX (PL (PK (cI (md:=.hp) (Qg B.ll rfl (zE 6 rfl)))) (xL (md:=.hp) (M6 (zE 6 rfl) (wZ (n:=true) (ig:=[.un,.z t.1]) (no:=1) (ix:=[6]) rfl rfl (uF (esc (Q_ (zE 2 rfl)))) (yG 0 rfl rfl) (λp=>(xL (md:=.hp) (Qe (zI 0 rfl) (zE 1 rfl)))) (λp=>(esc (zI 0 rfl))) (λp=>iu)).ex))) (yC (MF (α:=List LI))) (PN (Ca 8 rfl rfl (Uo (zF (Q_ (zE 0 rfl)) (zF (zP (zF (zE 7 rfl) zO)) zO)))) (λVu=>(PX (xL (md:=.hp) (M6 (vK 8 rfl) (zE 6 rfl))) (yC (MF (α:=List LI))) (PN (wE 5 rfl rfl (Jj (zE 6 rfl)).ex) (λj=>(PN (wE 8 rfl rfl (esc (esc (Q_ (zE 2 rfl))))) (λDw=>(T9 (λq:List LI=>([.z (Fx.mk r:Fx (a.headD .non) (aF C)),.z (Fx.mk x:Fx (a.tail.headD .non) bY),.z (Fx.mk u:Fx (a.tail.tail.headD .non) Int),.z (Fx.mk c.xss:Fx (a.tail.tail.tail.headD .non) (List LI)),.z (Fx.mk h:Fx (a.tail.tail.tail.tail.headD .non) (List bY)),.ow true q,.un,.un,.un]:SL K)) j bx))))))))))))) (λN5=>(zW (zSy 3 rfl rfl (zR 0) (esc (zI 2 rfl))) (λu21=>(uJ (xL (md:=.hp) (M6 (zJm (X6 3 rfl) (zR 1)).ex (zJm (vK 5 rfl) (zR 1)).ex)) (yC (MF (α:=List LI))) (zW (zKb 3 6 (by decide) rfl rfl rfl) (λDy=>(zW (zSz 3 rfl rfl) (λDz=>(zS9 5 rfl rfl))))))))))))))))) (by unfold vN;simp only[bnd])
end
open PySem L2
def N6(n:Int)(xs:LI):Prop:=xs≠[]/\xs.Nodup/\xs.length<=60/\∀z∈xs,0<=z/\z<n
structure Gr{C:Addr}(m:aF C)(n:Int):Prop where
 len:(m.steps.length:Int)=n
 pos:1<=n
 few:n<=60
 row:∀xs∈m.steps,xs≠[]/\xs.Nodup/\∀z∈xs,0<=z/\z<n
 src:m.sources=srcs m.steps
def nxt(xss:List LI)(s:Int):LI:=xss.getD s.toNat []
theorem DG:x∈src xss j↔0<=x/\x<(xss.length:Int)/\(j:Int)∈nxt xss x:=by
 unfold src nxt
 grind
theorem Vv{C:Addr}{m:aF C}(g:Gr m n):yX m=some n:=by
 unfold yX
 rw[g.len]
theorem zSh{C:Addr}{m:aF C}(g:Gr m n)(h0:0<=s)(h1:s<n):W (xS m s) λxs=>∀x,x∈xs↔0<=x/\x<n/\s∈nxt m.steps x:=by
 unfold xS
 rw[cV h0,g.src]
 have a:=g.len
 refine⟨_,zPb (by omega),λx=>?_⟩
 rw[DG,a,show((s.toNat:Nat):Int)=s by omega]
theorem RZ{α:Type}{xs:List α}{a d:α}(h:i<xs.length):(xs.set i a).getD j d=if j=i then a else xs.getD j d:=by
 grind
theorem zOy{C:Addr}{m:aF C}(g:Gr m n)(k:∀x∈xs,0<=x/\x<n):W (Nz m xs) λa=>(a.length:Int)=n/\∀s:Int,0<=s->s<n->a.getD s.toNat false=decide (s∈xs):=by
 unfold Nz
 have hp:=g.pos
 have hf:=g.few
 simp only[zC,aj,Vv g,cU]
 refine⟨⟨by omega,by omega⟩,?_⟩
 rw[Jq (λ_=>false)]
 have e:=zf (n:=n) (by omega)
 refine⟨yS (by omega),vA (λi a=>(a.length:Int)=n/\∀s:Int,0<=s->s<n->a.getD s.toNat false=decide (s∈xs.take i)) ⟨by rw[length_map];exact e,λs _ _=>?_⟩ (λi x a f b=>?_) λa b=>?_⟩
 ·rw[getD_eq_getElem?_getD,getElem?_map]
  cases(rng n)[s.toNat]?<;>simp
 ·have c:=k x (mem_of_getElem? f)
  simp only[zC,aj]
  rw[Qn c.1 (by omega)]
  refine⟨by rw[length_set];exact b.1,λs j h=>?_⟩
  rw[RZ (by omega)]
  have d:xs.take (i+1)=xs.take i++[x]:=by rw[take_add_one,f]<;>rfl
  by_cases q:s.toNat=x.toNat
  ·have:s=x:=by omega
   subst this
   rw[if_pos rfl,d];simp
  ·have:s≠x:=λz=>q (by rw[z])
   rw[if_neg q,b.2 s j h,d]
   simp[this]
 ·rw[take_length] at b
  exact b
abbrev dg(d:List (Option Int))(s:Int):Option Int:=d.getD s.toNat none
structure qH(xss:List LI)(through goal:LI)(n:Int)(d:List (Option Int)):Prop where
 len:(d.length:Int)=n
 pos:∀s k,0<=s->s<n->dg d s=some k->0<=k/\k<n
 zero:∀s,0<=s->s<n->(dg d s=some 0↔s∈goal)
 via:∀s k,0<=s->s<n->dg d s=some k->s∉goal->s∈through/\∃t∈nxt xss s,0<=t/\t<n/\dg d t=some (k-1)
 near:∀s t k,0<=s->s<n->0<=t->t<n->s∈through->t∈nxt xss s->dg d t=some k->∃j,dg d s=some j/\j<=k+1
structure Bf(xss:List LI)(pass:Int->Prop)(goal:LI)(n:Int)(d:List (Option Int))(row:LI)(place:Nat):Prop where
 len:(d.length:Int)=n
 rng:∀s∈row,0<=s/\s<n
 nd:row.Nodup
 iff:∀s:Int,0<=s->s<n->((dg d s).isSome=true↔s∈row)
 idx:∀(i:Nat)(s:Int),row[i]?=some s->∃k:Int,dg d s=some k/\0<=k/\k<=i
 mono:∀(i j:Nat)(s t k l:Int),i<=j->row[i]?=some s->row[j]?=some t->dg d s=some k->dg d t=some l->k<=l
 top:∀(j:Nat)(s t k l:Int),row[place]?=some s->row[j]?=some t->dg d s=some k->dg d t=some l->l<=k+1
 zero:∀s:Int,0<=s->s<n->(dg d s=some 0↔s∈goal)
 via:∀(s k:Int),s∈row->dg d s=some k->s∉goal->pass s/\∃t∈nxt xss s,0<=t/\t<n/\dg d t=some (k-1)
 done:∀(i:Nat)(s t k:Int),i<place->row[i]?=some t->dg d t=some k->0<=s->s<n->pass s->t∈nxt xss s->∃j,dg d s=some j/\j<=k+1
theorem YS{d:List (Option Int)}(hl:(d.length:Int)=n)(h0:0<=s)(h1:s<n)(t0:0<=t):dg (d.set s.toNat v) t=if t=s then v else dg d t:=by
 show(d.set s.toNat v).getD t.toNat none=_
 rw[RZ (by omega)]
 by_cases e:t=s
 ·rw[if_pos e,if_pos (by rw[e])]
 ·rw[if_neg e,if_neg (by omega)]
theorem N7{a:LI}{i:Nat}{s x:Int}(h:(a++[x])[i]?=some s):a[i]?=some s\/(i=a.length/\s=x):=by
 grind
structure Bm(xss:List LI)(pass:Int->Prop)(goal:LI)(n:Int)(d:List (Option Int))(row:LI)(place:Nat)(t k:Int)(seen:LI):Prop where
 bf:Bf xss pass goal n d row place
 at_:row[place]?=some t
 k_:dg d t=some k
 rB:∀s∈seen,pass s->∃j,dg d s=some j/\j<=k+1
theorem Bm.put(b:Bm xss F goal n d A place t k P)(r:0<=x)(C:x<n)(hp:F x)(I:dg d x=none)(ht:t∈nxt xss x) :
  Bm xss F goal n (d.set x.toNat (some (k+1))) (A++[x]) place t k (P++[x]):=by
 have B:=b.bf
 have L:=B.rng t (mem_of_getElem? b.at_)
 have R:x∉A:=λh=>by have:=(B.iff x r C).mpr h;rw[I] at this;cases this
 have X:t≠x:=λe=>R (e▸mem_of_getElem? b.at_)
 obtain⟨k',e1,k0,kp⟩:=B.idx place t b.at_
 rw[b.k_] at e1
 cases e1
 have pl:=xC b.at_
 have f:∀s:Int,0<=s->s≠x->dg (d.set x.toNat (some (k+1))) s=dg d s:=λs p q=>by rw[YS B.len r C p,if_neg q]
 have g:dg (d.set x.toNat (some (k+1))) x=some (k+1):=by rw[YS B.len r C r,if_pos rfl]
 have y:∀{i:Nat}{s:Int},A[i]?=some s->0<=s/\s<n/\s≠x:=λh=>by
  have:=B.rng _ (mem_of_getElem? h)
  exact⟨this.1,this.2,λe=>R (e▸mem_of_getElem? h)⟩
 refine⟨⟨by rw[length_set];exact B.len,λs J=>?_,?_,λs p H=>?_,λi s h=>?_,λi j s u a l ij o m G v=>?_,λj s u a l o m G v=>?_,λs p H=>?_,λs a J o m=>?_,λi s u a hi o m p H U hu=>?_⟩,?_,?_,λs J U=>?_⟩
 ·rcases mem_append.mp J with q|q
  ·exact B.rng s q
  ·rw[mem_singleton.mp q];exact⟨r,C⟩
 ·rw[nodup_append]
  exact⟨B.nd,by simp,λa ha c hc e=>by rw[mem_singleton.mp hc] at e;exact R (e▸ha)⟩
 ·by_cases e:s=x
  ·subst e;rw[g];simp
  ·rw[f s p e,B.iff s p H];simp[e]
 ·rcases N7 h with h|⟨rfl,rfl⟩
  ·obtain⟨Z,a2,S⟩:=y h
   rw[f s Z S];exact B.idx i s h
  ·exact⟨k+1,g,by omega,by omega⟩
 ·rcases N7 o with T|⟨rfl,rfl⟩
  ·obtain⟨Z,a2,S⟩:=y T
   rw[f s Z S] at G
   rcases N7 m with g2|⟨rfl,rfl⟩
   ·obtain⟨K,b2,O⟩:=y g2
    rw[f u K O] at v
    exact B.mono i j s u a l ij T g2 G v
   ·rw[g] at v
    cases v
    exact B.top i t s k a b.at_ T b.k_ G
  ·rcases N7 m with m|⟨rfl,rfl⟩
   ·have:=xC m;omega
   ·rw[G] at v;cases v;exact ad6 _
 ·have D:s=t:=by
   rcases N7 o with o|⟨e,_⟩
   ·rw[b.at_] at o;exact(aam o).symm
   ·omega
  subst D
  rw[f s L.1 X,b.k_] at G
  cases G
  rcases N7 m with m|⟨rfl,rfl⟩
  ·obtain⟨K,b2,O⟩:=y m
   rw[f u K O] at v
   exact B.top j s u k l b.at_ m b.k_ v
  ·rw[g] at v;cases v;exact ad6 _
 ·by_cases e:s=x
  ·subst e
   rw[g]
   constructor
   ·intro q;have q:=aam q;omega
   ·intro q;have:=(B.zero s p H).mpr q;rw[I] at this;cases this
  ·rw[f s p e];exact B.zero s p H
 ·rcases mem_append.mp J with q|q
  ·have sr:=B.rng s q
   have sx:s≠x:=λe=>R (e▸q)
   rw[f s sr.1 sx] at o
   obtain⟨p1,u,u1,u2,u3,Y⟩:=B.via s a q o m
   refine⟨p1,u,u1,u2,u3,?_⟩
   rw[f u u2 λe=>by rw[e,I] at Y;cases Y]
   exact Y
  ·have:=mem_singleton.mp q
   subst this
   rw[g] at o
   cases o
   exact⟨hp,t,ht,L.1,L.2,by rw[f t L.1 X,b.k_,show k+1-1=k by omega]⟩
 ·have D:A[i]?=some u:=by rw[getElem?_append_left (by omega)] at o;exact o
  obtain⟨K,b2,O⟩:=y D
  rw[f u K O] at m
  obtain⟨j,E,Q⟩:=B.done i s u a hi D m p H U hu
  by_cases e:s=x
  ·subst e;rw[I] at E;cases E
  ·exact⟨j,by rw[f s p e];exact E,Q⟩
 ·rw[getElem?_append_left pl];exact b.at_
 ·rw[f t L.1 X];exact b.k_
 ·rcases mem_append.mp J with q|q
  ·obtain⟨j,E,Q⟩:=b.rB s q U
   by_cases e:s=x
   ·subst e;rw[I] at E;cases E
   ·by_cases p:0<=s
    ·exact⟨j,by rw[f s p e];exact E,Q⟩
    ·refine⟨j,?_,Q⟩
     show(d.set x.toNat (some (k+1))).getD s.toNat none=some j
     have z:s.toNat=0:=by omega
     rw[RZ (by have:=B.len;omega)]
     by_cases w:s.toNat=x.toNat
     ·have xz:x=0:=by omega
      have M:d.getD s.toNat none=some j:=E
      have N:d.getD x.toNat none=none:=I
      rw[w] at M
      rw[M] at N
      cases N
     ·rw[if_neg w];exact E
  ·rw[mem_singleton.mp q];exact⟨k+1,g,ad6 _⟩
theorem zJ7{C:Addr}{m:aF C}(g:Gr m n){goal:LI}(ht:∀x∈through,0<=x/\x<n)(F:goal.Nodup/\∀x∈goal,0<=x/\x<n):W (uQ m through goal) (qH m.steps through goal n):=by
 unfold uQ
 have hp:=g.pos
 have hf:=g.few
 simp only[zC,aj,Vv g,cU]
 refine(zOy g ht).imp λfl ⟨fl1,fl2⟩=>⟨⟨by omega,by omega⟩,?_⟩
 rw[Jq (λ_=>(none:Option Int))]
 have e:=zf (n:=n) (by omega)
 refine⟨yS (by omega),vA (λi (d:List (Option Int))=>(d.length:Int)=n/\∀s:Int,0<=s->s<n->dg d s=if s∈goal.take i then some 0 else none) ⟨by rw[length_map];exact e,λs _ _=>?_⟩ (λi x d p hI=>?_) λd L=>?_⟩
 ·show(aev (λ_=>(none:Option Int)) (rng n)).getD s.toNat none=_
  rw[getD_eq_getElem?_getD,getElem?_map]
  cases(rng n)[s.toNat]?<;>simp
 ·have c:=F.2 x (mem_of_getElem? p)
  simp only[zC,aj]
  rw[Qn c.1 (by omega)]
  refine⟨by rw[length_set];exact hI.1,λs I J=>?_⟩
  have tk:goal.take (i+1)=goal.take i++[x]:=by rw[take_add_one,p]<;>rfl
  rw[YS hI.1 c.1 c.2 I,hI.2 s I J,tk]
  by_cases q:s=x<;>simp[q]
 rw[take_length] at L
 have U:Bf m.steps (· ∈ through) goal n d goal 0:=by
  have z:∀s:Int,0<=s->s<n->∀k,dg d s=some k->k=0/\s∈goal:=λs I J k h=>by
   rw[L.2 s I J] at h
   split at h
   ·rename_i q;cases h;exact⟨rfl,q⟩
   ·cases h
  refine⟨L.1,F.2,F.1,λs I J=>?_,λi s h=>?_,λi j s t k l _ w o X Q=>?_,λj s t k l w o X Q=>?_,λs I J=>?_,λs k A w o=>absurd A o,λi s t k p=>by omega⟩
  ·rw[L.2 s I J];by_cases q:s∈goal<;>simp[q]
  ·have A:=mem_of_getElem? h
   have:=F.2 s A
   exact⟨0,by rw[L.2 s this.1 this.2,if_pos A],ad6 _,by omega⟩
  ·have S:=F.2 s (mem_of_getElem? w)
   have Y:=F.2 t (mem_of_getElem? o)
   have:=(z s S.1 S.2 k X).1
   have:=(z t Y.1 Y.2 l Q).1
   omega
  ·have S:=F.2 s (mem_of_getElem? w)
   have Y:=F.2 t (mem_of_getElem? o)
   have:=(z s S.1 S.2 k X).1
   have:=(z t Y.1 Y.2 l Q).1
   omega
  ·rw[L.2 s I J];by_cases q:s∈goal<;>simp[q]
 have O:n.toNat<=60:=by omega
 refine Bw (λs=>∃f:Nat,s.2.2=(f:Int)/\Bf m.steps (· ∈ through) goal n s.1 s.2.1 f) (λs=>n.toNat-s.2.2.toNat) ⟨0,rfl,U⟩ (show n.toNat-(0:Int).toNat<fuel from aap (Nat.sub_le _ _) (aap O (by decide))) ?_
 rintro s ⟨f,hpl,B⟩
 rw[aj]
 have rl:s.2.1.length<=n.toNat:=wB B.nd λx c=>by have:=B.rng x c;omega
 by_cases lt:s.2.2<(s.2.1.length:Int)
 ·rw[decide_eq_true lt,if_pos rfl]
  simp only[zC,aj]
  rw[cV (by omega)]
  have N:f<s.2.1.length:=by omega
  have e1:s.2.2.toNat=f:=by omega
  rw[e1]
  refine⟨_,aaj N,?_⟩
  have D:s.2.1[f]?=some s.2.1[f]:=aaj N
  generalize s.2.1[f]=t at D
  have tr:=B.rng t (mem_of_getElem? D)
  obtain⟨k,hk,k0,k1⟩:=B.idx f t D
  refine(zSh g tr.1 tr.2).imp λxs P=>?_
  refine vA (λi (r:List (Option Int)×LI)=>Bm m.steps (· ∈ through) goal n r.1 r.2 f t k (xs.take i)) ⟨B,D,hk,λs A=>by cases A⟩ (λi x r p b=>?_) λr b=>?_
  ·have c:=(P x).mp (mem_of_getElem? p)
   have tk:xs.take (i+1)=xs.take i++[x]:=by rw[take_add_one,p]<;>rfl
   rw[tk]
   simp only[zC,aj]
   rw[cV c.1]
   have fx:=fl2 x c.1 c.2.1
   have T:x.toNat<fl.length:=by omega
   refine⟨_,aaj T,?_⟩
   rw[getD_eq_getElem?_getD,aaj T] at fx
   have fx:fl[x.toNat]=decide (x∈through):=fx
   rw[fx]
   have dl:x.toNat<r.1.length:=by have:=b.bf.len;omega
   have dx:dg r.1 x=r.1[x.toNat]:=by show r.1.getD x.toNat none=_;rw[getD_eq_getElem?_getD,aaj dl];rfl
   by_cases px:x∈through
   ·rw[decide_eq_true px,if_pos rfl,zC,cV c.1]
    refine⟨_,aaj dl,?_⟩
    rw[<-dx,aj]
    cases E:dg r.1 x with
    |none =>
     simp only[Option.isNone_none,if_true,zC,aj]
     have R:t.toNat<r.1.length:=by have:=b.bf.len;omega
     rw[cV tr.1]
     refine⟨_,aaj R,?_⟩
     have ek:r.1[t.toNat]=some k:=by
      have:=b.k_
      have z:r.1.getD t.toNat none=some k:=this
      rw[getD_eq_getElem?_getD,aaj R] at z
      exact z
     rw[ek,aj,Qn c.1 (by have:=b.bf.len;omega),tM]
     have rl2:r.2.length<=n.toNat:=wB b.bf.nd λx c=>by have:=b.bf.rng x c;omega
     exact⟨yS (by omega),b.put c.1 c.2.1 px E c.2.2⟩
    |some j =>
     simp only[Option.isNone_some,aay,if_false,aj]
     refine⟨b.bf,b.at_,b.k_,λs A Z=>?_⟩
     rcases mem_append.mp A with q|q
     ·exact b.rB s q Z
     ·rw[mem_singleton.mp q]
      have K:x∈r.2:=(b.bf.iff x c.1 c.2.1).mp (by rw[E];rfl)
      obtain⟨ii,hii⟩:=mem_iff_getElem?.mp K
      exact⟨j,E,b.bf.top ii t x k j b.at_ hii b.k_ E⟩
   ·rw[decide_eq_false px,if_neg (by decide),aj]
    simp only[aay,if_false,aj]
    refine⟨b.bf,b.at_,b.k_,λs A Z=>?_⟩
    rcases mem_append.mp A with q|q
    ·exact b.rB s q Z
    ·rw[mem_singleton.mp q] at Z;exact absurd Z px
  ·rw[take_length] at b
   refine⟨⟨f+1,by show s.2.2+1=_;omega,?_⟩,?_⟩
   ·have y:=b.bf
    refine⟨y.len,y.rng,y.nd,y.iff,y.idx,y.mono,λj u v a l w o X Q=>?_,y.zero,y.via,λi u v a p w o H G pu M=>?_⟩
    ·have q1:=y.mono f (f+1) t u k a (by omega) b.at_ w b.k_ X
     have q2:=y.top j t v k l b.at_ o b.k_ Q
     omega
    ·by_cases q:i=f
     ·subst q
      rw[b.at_] at w
      cases w
      rw[b.k_] at o
      cases o
      exact b.rB u ((P u).mpr ⟨H,G,M⟩) pu
     ·exact y.done i u v a (by omega) w o H G pu M
   ·show n.toNat-(s.2.2+1).toNat<n.toNat-f
    omega
 ·rw[decide_eq_false lt,if_neg (by decide)]
  have all:∀t∈s.2.1,∃i,i<f/\s.2.1[i]?=some t:=λt h=>by
   obtain⟨i,p⟩:=mem_iff_getElem?.mp h
   exact⟨i,by have:=xC p;omega,p⟩
  refine⟨B.len,λu k H G h=>?_,B.zero,λu k H G h M=>?_,λu t k H G t0 t1 M ht hk=>?_⟩
  ·have K:=(B.iff u H G).mp (by rw[h];rfl)
   obtain⟨i,p⟩:=mem_iff_getElem?.mp K
   obtain⟨k',e1,e2,e3⟩:=B.idx i u p
   rw[h] at e1
   cases e1
   have:=xC p
   exact⟨e2,by omega⟩
  ·exact B.via u k ((B.iff u H G).mp (by rw[h];rfl)) h M
  ·obtain⟨i,w,o⟩:=all t ((B.iff t t0 t1).mp (by rw[hk];rfl))
   exact B.done i u t k w o hk H G M ht
theorem YT{xss:List LI}(hl:(xss.length:Int)=n)(h0:0<=s)(h1:s<n):xss[s.toNat]?=some (nxt xss s):=by
 have:s.toNat<xss.length:=by omega
 unfold nxt
 rw[getD_eq_getElem?_getD,aaj this]
 rfl
theorem zVz:∀{xs ys:LI},xs.Pairwise (· < ·)->ys.Pairwise (· < ·)->(∀s,s∈xs↔s∈ys)->xs=ys
 |[],[],_,_,_=>rfl
 |[],y::ys,_,_,h=>by have:=(h y).mpr mem_cons_self;grind
 |x::xs,[],_,_,h=>by have:=(h x).mp mem_cons_self;grind
 |x::xs,y::ys,d,c,h=>by
  have a:=pairwise_cons.mp d
  have b:=pairwise_cons.mp c
  have e:x=y:=by
   rcases mem_cons.mp ((h x).mp mem_cons_self) with q|q
   ·exact q
   ·rcases mem_cons.mp ((h y).mpr mem_cons_self) with r|r
    ·grind
    grind
  subst e
  rw[zVz a.2 b.2 λs=>?_]
  grind
theorem zVq(n:Int):(rng n).Pairwise (· < ·):=by
 unfold rng
 rw[List.pairwise_map]
 exact List.pairwise_lt_range.imp λh=>by show(_:Int)<_;simpa using h
def pick(n:Int)(p:Int->Bool):LI:=(rng n).filter p
theorem jo:s∈pick n p↔0<=s/\s<n/\p s=true:=by
 unfold pick
 rw[mem_filter,nY,and_assoc]
theorem yV(n:Int)(p:Int->Bool):aJ n (pick n p):=⟨(zVq n).filter p,λx a=>by have:=jo.mp a;omega⟩
theorem DK(h:aJ n xs)(e:∀s,0<=s->s<n->(s∈xs↔p s=true)):xs=pick n p :=
 zVz h.1 (yV n p).1 λs=>by
  rw[jo]
  constructor
  ·intro q;have:=h.2 s q;exact⟨this.1,this.2,(e s this.1 this.2).mp q⟩
  ·intro⟨a,b,c⟩;exact(e s a b).mpr c
theorem zUq{d:List (Option Int)}(hl:(d.length:Int)=n):za d=(rng n).map λs=>(s,dg d s):=by
 refine ext_getElem? λi=>?_
 have e:n.toNat=d.length:=by omega
 by_cases q:i<d.length
 ·have h1:(rng n)[i]?=some (i:Int):=by unfold rng;rw[getElem?_map,getElem?_range (by omega)];rfl
  rw[getElem?_map,h1]
  unfold za
  rw[getElem?_zip_eq_some (z:=((i:Int),dg d i))|>.mpr ⟨?_,?_⟩]
  ·rfl
  ·rw[getElem?_map,getElem?_range q];rfl
  ·show d[i]?=some (d.getD ((i:Int).toNat) none)
   rw[abx,getD_eq_getElem?_getD,aaj q];rfl
 ·rw[abe (by rw[zJn];omega),abe (by rw[length_map];unfold rng;rw[length_map,length_range];omega)]
theorem DN:W (dput kvs k v) Q↔kvs.length<cap/\Q (pK kvs (abj k) v):=by
 unfold dput
 rw[Jr]
 constructor
 ·intro⟨a,b⟩
  by_cases h:kvs.length<cap
  ·exact⟨h,aj.mp (a h)⟩
  ·exact absurd (b h) (by rw[Gj];exact id)
 ·intro⟨h,q⟩
  exact⟨λ_=>aj.mpr q,λz=>absurd h z⟩
theorem zU5:W (pC kvs k v) Q↔kvs.length<cap/\Q (pK kvs (abv k) v):=by
 unfold pC
 rw[Jr]
 constructor
 ·intro⟨a,b⟩
  by_cases h:kvs.length<cap
  ·exact⟨h,aj.mp (a h)⟩
  ·exact absurd (b h) (by rw[Gj];exact id)
 ·intro⟨h,q⟩
  exact⟨λ_=>aj.mpr q,λz=>absurd h z⟩
def zx(n:Int)(xs:LI):Prop:=xs.Nodup/\xs.length<=100/\∀z∈xs,0<=z/\z<n
theorem zOx(h:0<=z/\z<n):Rv z n=some true:=by
 unfold Rv
 grind
theorem YW(h:zx n xs)(x:Str):W (xE xs n x) λ_=>True:=by
 unfold xE
 rw[zC,aj,zC,zC,aj]
 refine vA (λi s=>s.length<=i/\∀z,(cN s z).isSome=true->z∈xs.take i) ⟨aa0 _,λz c=>by cases c⟩ (λi y s a f=>?_) λs _=>aj.mpr trivial
 have il:=xC a
 rw[zOx (h.2.2 y (mem_of_getElem? a)),zC,zC,zC,aj,aj,if_neg (by decide),aj,zC]
 have d:(cN s y).isSome=false:=by
  cases q:(cN s y).isSome with
  |false=>rfl
  |true=>exact absurd (f.2 y q) (zGl h.1 a)
 have b:=d
 rw[b,if_neg (by decide),aj,zC,DN]
 have l1:=h.2.1
 refine⟨yS (by omega),?_⟩
 rw[aj]
 have l2:=Xm s (abj y) true
 refine⟨by omega,λz c=>?_⟩
 rw[uD a]
 have e:=Xl s (abj y) (abj z) true
 grind
theorem G7(a:Str){i:Nat}(h:i<1000):W (Jx a (i:Int)) λ_=>True:=by
 unfold Jx
 rw[if_pos (zQl (by omega)),aj]
 trivial
theorem zM6{xss:List LI}(d:(xss.length:Int)=n)(h0:1<=n)(h1:n<=60)(h:∀xs∈xss,xs≠[]/\zx n xs):W (wX xss) λ_=>True:=by
 unfold wX
 rw[zC,aj,zC,zC,d,decide_eq_false (by omega),if_neg (by decide),aj,decide_eq_false (by omega),if_neg (by decide),aj,zC,zC,aj]
 refine vA (λ_ _=>True) trivial (λi y s c _=>?_) λs _=>aj.mpr trivial
 obtain⟨f,a⟩:=W6 c
 have il:=xC a
 obtain⟨e,b⟩:=h y.2 (mem_of_getElem? a)
 rw[f]
 simp only[zC]
 refine(G7 "steps of stand " (i:=i) (by omega)).imp λt _=>?_
 rw[aj,aj,aj]
 refine(YW b t).imp λ_ _=>?_
 rw[decide_eq_false (λz=>e (length_eq_zero_iff.mp (by omega))),if_neg (by decide),aj,aj]
 trivial
theorem zO2{xss:List LI}(hl:xss.length<=100)(h:∀xs∈xss,zx n xs):W (vQ xss n) λ_=>True:=by
 unfold vQ
 rw[zC,zC,aj]
 refine vA (λ_ _=>True) trivial (λi y s c _=>?_) λs _=>aj.mpr trivial
 obtain⟨b,a⟩:=W6 c
 have il:=xC a
 rw[b]
 simp only[zC]
 refine(G7 "fair set " (by omega)).imp λt _=>?_
 rw[aj,aj,aj]
 refine(YW (h y.2 (mem_of_getElem? a)) t).imp λ_ _=>?_
 rw[aj]
 trivial
def YX(n:Int)(a:List (Str×LI)):Prop:=(a.map (·.1)).Nodup/\a.length<=100/\∀m∈a,uP m.1=some true/\m.1.length<=1000/\zx n m.2
theorem zM7(h:YX n ms):W (wY ms n) λ_=>True:=by
 unfold wY
 rw[zC,aj,zC,zC,aj]
 refine vA (λi s=>s.length<=i/\∀z,(Gp s z).isSome=true->z∈(ms.map (·.1)).take i) ⟨aa0 _,λz hz=>by cases hz⟩ (λi y s hi hI=>?_) λs _=>aj.mpr trivial
 have il:=xC hi
 have hi':(ms.map (·.1))[i]?=some y.1:=by rw[getElem?_map,hi];rfl
 obtain⟨nm,ln,ok⟩:=h.2.2 y (mem_of_getElem? hi)
 have nin:y.1∉(ms.map (·.1)).take i:=λhz=>by
  obtain⟨j,hj⟩:=mem_iff_getElem?.mp hz
  have hji:j<i:=by
   have:=xC hj
   rw[length_take] at this
   omega
  rw[getElem?_take_of_lt hji] at hj
  have a1:=xC hi'
  have a2:=xC hj
  rw[aaj a1] at hi'
  rw[aaj a2] at hj
  have e:(ms.map (·.1))[j]=(ms.map (·.1))[i]:=(aam hj).trans (aam hi').symm
  have:=(getElem_inj h.1).mp e
  omega
 rw[nm,zC,zC,zC,aj,aj,abk,if_neg (by decide),aj,zC]
 have hn:(Gp (Dc.mk s).kv y.1).isSome=false:=by
  cases q:(Gp s y.1).isSome with
  |false=>rfl
  |true=>exact absurd (hI.2 y.1 q) nin
 rw[hn,if_neg (by decide),aj,zC,zU5]
 have l1:=h.2.1
 refine⟨yS (by omega),?_⟩
 simp only[zC]
 have fs:W (M_ "mark " y.1) λ_=>True:=by
  unfold M_
  rw[if_pos ln,aj]
  trivial
 refine fs.imp λt _=>?_
 rw[aj,aj,aj]
 refine(YW ok t).imp λ_ _=>?_
 rw[aj]
 have l2:=Xm s (abv y.1) true
 refine⟨by omega,λz hz=>?_⟩
 rw[uD hi']
 have e:Gp (pK s (abv y.1) true) z=if(abv z:Key)=abv y.1 then some true else Gp s z:=Xl s (abv y.1) (abv z) true
 rw[e] at hz
 by_cases q:(abv z:Key)=abv y.1
 ·exact .inr (Sum.inr.inj q)
 ·rw[if_neg q] at hz
  exact .inl (hI.2 z hz)
theorem zLj{xss:List LI}(h:xss.length<=100):Nx xss=some xss:=by
 have q:W (Nx xss) (· = xss):=by
  unfold Nx
  rw[zC,aj,Jq (λx=>x),map_id']
  exact⟨yS (by omega),rfl⟩
 obtain⟨a,e,rfl⟩:=q
 exact e
theorem R3(C:Addr){xss:List LI}{mo:Option zj}{fo:Option LLI}(i:(xss.length:Int)=n)(h0:1<=n)(k:n<=60)(h:∀xs∈xss,xs≠[]/\zx n xs)(j:YX n (mo.getD []))(g:(fo.getD []).length<=100/\∀xs∈fo.getD [],zx n xs) :
  W (Ny C xss mo fo) λm=>Gr m n/\m.steps=xss/\m.marks=mo.getD []/\m.fair=fo.getD []:=by
 unfold Ny Uz
 rw[zC]
 refine(zM6 i h0 k h).imp λ_ _=>?_
 rw[zC,i]
 refine(zM7 j).imp λ_ _=>?_
 rw[zC]
 refine(zO2 g.1 g.2).imp λ_ _=>?_
 have m1:=j.2.1
 rw[zLj (by omega),zC,aj,zC,Jq (λx:Str×LI=>(x.1,x.2))]
 refine⟨yS (by omega),?_⟩
 have e:(mo.getD []).map (λx:Str×LI=>(x.1,x.2))=mo.getD []:=map_id' _
 rw[zLj g.1,zC,aj,zC]
 have l:Nt xss=some (srcs xss):=by
  unfold Nt
  rw[if_pos ⟨by omega,rfl,λxs f=>by obtain⟨a,b,c,d⟩:=h xs f;exact⟨a,b,c,λz o=>by have:=d z o;omega⟩⟩]
 rw[l,aj,aj,e]
 exact⟨⟨i,h0,k,λxs f=>by obtain⟨a,b,c,d⟩:=h xs f;exact⟨a,b,d⟩,rfl⟩,rfl,rfl,rfl⟩
theorem R5(h:aJ n xs)(Km:n<=60):zx n xs:=⟨h.nodup,by
 by_cases hn:0<=n
 ·have:=wB (n:=n.toNat) h.nodup λx hx=>by have:=h.2 x hx;omega
  omega
 ·cases xs with
  |nil=>exact aa0 _
  |cons x xs=>have:=h.2 x mem_cons_self;omega,h.2⟩
theorem DP(h:N6 n xs):xs≠[]/\zx n xs:=⟨h.1,h.2.1,by have:=h.2.2.1;omega,h.2.2.2⟩
theorem YZ(hx:0<=x)(hy:0<=y):aa1 x y=((x.toNat&&&y.toNat:Nat):Int):=by
 unfold aa1
 rw[decide_eq_true hx,decide_eq_true hy]
theorem zMt(hx:0<=x)(hy:0<=y):acj x y=((x.toNat|||y.toNat:Nat):Int):=by
 have h1:¬0<=ace x:=by unfold ace;omega
 have h2:¬0<=ace y:=by unfold ace;omega
 have nn:∀z,ace (ace z)=z:=λz=>by unfold ace;omega
 unfold acj aa1
 grind
def bt(x t:Int):Bool:=x.toNat.testBit t.toNat
theorem G8(a:0<=x)(b:0<=y)(t:Int):bt (acj x y) t=(bt x t||bt y t):=by
 unfold bt
 rw[zMt a b,abx,Nat.testBit_or]
theorem zWd(a:0<=x)(b:0<=y)(t:Int):bt (aa1 x y) t=(bt x t&&bt y t):=by
 unfold bt
 rw[YZ a b,abx,Nat.testBit_and]
theorem G9(a:0<=x)(b:0<=y):0<=acj x y:=by rw[zMt a b];grind
theorem zWh(a:0<=x)(b:0<=y):0<=aa1 x y:=by rw[YZ a b];grind
theorem DQ(t:Int):bt 0 t=false:=by unfold bt;simp
theorem K8(ht:0<=t)(hu:0<=u):bt (1*2^t.toNat) u=decide (u=t):=by
 unfold bt
 rw[Int.one_mul,show((2:Int)^t.toNat).toNat=2^t.toNat by
  grind]
 grind
theorem Y0{x:Int}(a:0<=x)(k:Nat):0<=x/2^k:=Int.ediv_nonneg a (Int.le_of_lt (Int.pow_pos (by decide)))
theorem DW{x:Int}(hx:0<=x)(k:Nat):(x/2^k).toNat=x.toNat>>>k:=by
 rw[Nat.shiftRight_eq_div_pow]
 grind
theorem Y4{t:Int}(hx:0<=x):bt (x/2^t.toNat) 0=bt x t:=by
 unfold bt
 rw[DW hx,Int.toNat_zero,Nat.testBit_shiftRight]
 rfl
theorem zWc(a:0<=x):(aa1 x 1 != 0)=bt x 0:=by
 rw[YZ a (by decide)]
 unfold bt
 grind
theorem zVb(h:∀x∈xs,0<=x/\x<n)(Km:n<=60):W (NP xs) λb=>0<=b/\∀t:Int,0<=t->bt b t=decide (t∈xs):=by
 unfold NP
 rw[zC,aj,zC,zC,aj]
 refine vA (λi s=>0<=s/\∀t:Int,0<=t->bt s t=decide (t∈xs.take i)) ⟨by decide,λt _=>by rw[DQ];simp⟩ (λi x s c a=>?_) λs a=>?_
 ·obtain⟨g,l⟩:=a
  have j:=h x (mem_of_getElem? c)
  have e:vf 1 x=some (1*2^x.toNat):=by unfold vf;rw[if_pos ⟨j.1,by omega,by decide⟩]
  have k:xs.take (i+1)=xs.take i++[x]:=by rw[take_add_one,c]<;>rfl
  have d:(0:Int)<=1*2^x.toNat:=by rw[Int.one_mul];exact Int.le_of_lt (Int.pow_pos (by decide))
  rw[zC,zC,e,aj,aj,aj]
  refine⟨G9 g d,λt f=>?_⟩
  rw[G8 g d,l t f,K8 j.1 f,k,abo]
  simp
 ·rw[aj]
  rw[take_length] at a
  exact a
def rb(rows:LI)(s t:Int):Bool:=bt (rows.getD s.toNat 0) t
theorem R7{rows:LI}(hl:(rows.length:Int)=n)(h0:0<=s)(h1:s<n):L2.bL rows s=some (rows.getD s.toNat 0):=by
 rw[zWf h0,getD_eq_getElem?_getD,aaj (by omega)]
 rfl
def G_(rows:LI):Prop:=∀i:Nat,0<=rows.getD i 0
theorem zMs{rows:LI}{n s t:Int}(c:(rows.length:Int)=n)(b:G_ rows)(h0:0<=s)(e:s<n)(d:0<=t) :
  ((((L2.bL rows s).bind λa=>iY a t).bind λa=>some (aa1 a 1)).bind λa=>some (a != 0))=some (rb rows s t):=by
 rw[R7 c h0 e]
 show(((iY _ t).bind _).bind _)=_
 unfold iY
 rw[if_pos d]
 show some (aa1 (rows.getD s.toNat 0/2^t.toNat) 1 != 0)=_
 rw[zWc (Y0 (b _) _),Y4 (b _)]
 rfl
theorem zSi{rows:LI}{n s t:Int}(e:(rows.length:Int)=n)(c:G_ rows)(h0:0<=s)(i:s<n)(f:0<=t)(j:t<n) :
  (((((L2.bL rows s).bind λa=>iY a t).bind λa=>((L2.bL rows t).bind λb=>iY b s).bind λb=>some (aa1 a b)).bind λa=>some (aa1 a 1)).bind λa=>some (a != 0))=some (rb rows s t&&rb rows t s):=by
 rw[R7 e h0 i,R7 e f j]
 show((((iY _ t).bind λa=>(iY _ s).bind _).bind _).bind _)=_
 unfold iY
 rw[if_pos f,if_pos h0]
 show some (aa1 (aa1 (rows.getD s.toNat 0/2^t.toNat) (rows.getD t.toNat 0/2^s.toNat)) 1 != 0)=_
 have d:=Y0 (c s.toNat) t.toNat
 have g:=Y0 (c t.toNat) s.toNat
 rw[zWc (zWh d g),zWd d g,Y4 (c _),Y4 (c _)]
 rfl
theorem zVr{rows:LI}(hl:(rows.length:Int)=n)(x0:0<=x)(x1:x<n)(s0:0<=s):rb (rows.set x.toNat v) s t=if s=x then bt v t else rb rows s t:=by
 unfold rb
 rw[RZ (by omega)]
 by_cases e:s=x
 ·subst e;rw[if_pos rfl,if_pos rfl]
 ·rw[if_neg (by omega),if_neg e]
theorem zVy{rows:LI}(hl:(rows.length:Int)=n)(x0:0<=x)(x1:x<n)(b:G_ rows)(a:0<=v):G_ (rows.set x.toNat v):=λi=>by
 rw[RZ (by omega)]
 split
 ·exact a
 ·exact b i
inductive iI(xss:List LI)(U:LI):Int->Int->Prop
 |one {s t:Int}:t∈nxt xss s->t∈U->iI xss U s t
 |step {s u t:Int}:u∈nxt xss s->u∈U->iI xss U u t->iI xss U s t
theorem iI.trans(h:iI xss U s t)(k:iI xss U t u):iI xss U s u:=by
 induction h with
 |one a b=>exact .step a b k
 |step a b _ ih=>exact .step a b (ih k)
theorem iI.mem(h:iI xss U s t):t∈U:=by
 induction h with
 |one _ b=>exact b
 |step _ _ _ ih=>exact ih
theorem iI.mono{xss:List LI}{U V:LI}{s t:Int}(h:iI xss U s t)(k:∀x∈U,x∈V):iI xss V s t:=by
 induction h with
 |one a b=>exact .one a (k _ b)
 |step a b _ ih=>exact .step a (k _ b) ih
structure lO(xss:List LI)(U rows:LI):Prop where
 nn:G_ rows
 edge:∀s∈U,∀t∈U,t∈nxt xss s->rb rows s t=true
 sound:∀s∈U,∀t:Int,0<=t->rb rows s t=true->iI xss U s t
 trans:∀s∈U,∀u∈U,∀t:Int,0<=t->rb rows s u=true->rb rows u t=true->rb rows s t=true
theorem zMo{α β:Type}{c:α->Option Bool}{f:α->Option β}{p:α->Bool}{g:α->β}:∀{xs:List α},(∀x∈xs,c x=some (p x))->(∀x∈xs,f x=some (g x))->wJ c f xs=some ((xs.filter p).map g)
 |[],_,_=>rfl
 |x::xs,h,e=>by
  have ih:=zMo (λy a=>h y (mem_cons_of_mem _ a)) λy a=>e y (mem_cons_of_mem _ a)
  show((c x).bind λb=>if b=true then(f x).bind λy=>(wJ c f xs).bind λd=>some (y::d) else wJ c f xs)=_
  grind
theorem R8{α β:Type}{c:α->Option Bool}{f:α->Option β}{p:α->Bool}{g:α->β}{xs:List α}(a:xs.length<cap)(d:∀x∈xs,c x=some (p x))(b:∀x∈xs,f x=some (g x)):bh c f xs=some ((xs.filter p).map g):=by
 unfold bh
 rw[if_pos a]
 exact zMo d b
theorem zVp{C:Addr}{m:aF C}(g:Gr m n)(h0:0<=s)(a:s<n):nxt m.steps s∈m.steps:=mem_of_getElem? (YT g.len h0 a)
theorem zLi{C:Addr}{m:aF C}(g:Gr m n)(h0:0<=s)(a:s<n):W (yY m s) λxs=>xs.length<=60/\∀x,x∈xs↔x∈nxt m.steps s:=by
 unfold yY
 have f:=g.few
 obtain⟨_,b,rg⟩:=g.row _ (zVp g h0 a)
 have l:=wB (n:=n.toNat) b λx hx=>by grind
 rw[zC,cV h0]
 refine⟨_,YT g.len h0 a,?_⟩
 unfold iV
 rw[if_pos (by omega),aj]
 refine⟨by rw[(vJ _).length_eq];omega,λx=>(vJ _).mem_iff⟩
def dl(xs:LI):List (Key×Bool):=xs.map λx=>((abj x:Key),true)
theorem zV9:∀(xs:LI)(x:Int),(cN (dl xs) x).isSome=decide (x∈xs)
 |[],x=>by simp[dl,gK]
 |y::xs,x=>by
  have ih:=zV9 xs x
  unfold cN gK dl at ih ⊢
  grind
theorem K9(h:x∉xs):pK (dl xs) (abj x) true=dl (xs++[x]):=by
 unfold pK
 unfold dl
 grind
theorem K_(xs:LI):(dl xs).length=xs.length:=length_map ..
theorem La:W (dput kvs k v) Q↔kvs.length<cap/\Q (pK kvs (abj k) v):=by
 unfold dput
 split
 ·rename_i h;rw[aj];exact⟨λq=>⟨h,q⟩,λq=>q.2⟩
 ·rename_i h;rw[Gj];exact⟨abd,λq=>h q.1⟩
section
variable{S α β:Type}
theorem zR7{step:S->α->Option (Out S β)}{Q:Out S β->Prop}(I:Nat->S->Prop)(h0:I 0 s)(f:∀i x s,xs[i]?=some x->I i s->W (step s x) λo=>(∃s',o=.nx s'/\I (i+1) s')\/∃b,o=.rt b/\Q (.rt b))(g:∀s,I xs.length s->Q (.nx s)):W (uE step xs s) Q:=by
 have key:∀(a:List α)(i:Nat)(s:S),(∀j x,a[j]?=some x->xs[i+j]?=some x)->i+a.length=xs.length->I i s->W (uE step a s) Q:=by
  intro a
  induction a with
  |nil=>intro i s _ d h;exact⟨.nx s,rfl,g s ((show i=xs.length from d)▸h)⟩
  |cons y a ih =>
   intro i s e d h
   rw[zGr,zC]
   refine(f i y s (e 0 y rfl) h).imp ?_
   rintro o (⟨s',rfl,c⟩|⟨b,rfl,c⟩)
   ·refine ih (i+1) s' (λj x hx=>?_) (by grind) c
    have:=e (j+1) x (by grind)
    grind
   ·exact⟨.rt b,rfl,c⟩
 grind
end
theorem Vw{α:Type}{xs:List α}{x:α}(h:xs[i]?=some x):xs.take (i+1)=xs.take i++[x]:=by rw[take_add_one,h]<;>rfl
theorem Hf{xs:LI}{i:Nat}{x s:Int}(h:xs[i]?=some x):s∈xs.take (i+1)↔s∈xs.take i\/s=x:=by rw[Vw h,mem_append,mem_singleton]
theorem Lb{C:Addr}{m:aF C}(g:Gr m n)(h0:0<=s)(a:s<n):∀x∈nxt m.steps s,0<=x/\x<n:=(g.row _ (zVp g h0 a)).2.2
theorem zSd{C:Addr}{m:aF C}(g:Gr m n)(z:∀x∈U,0<=x/\x<n):W (wV m U) λrows=>(rows.length:Int)=n/\lO m.steps U rows:=by
 unfold wV
 have L:=g.few
 have pos:=g.pos
 rw[zC]
 refine(zVb z L).imp λinside ⟨Z,ib⟩=>?_
 rw[zC,zC,zC,Vv g,aj,cU]
 refine⟨⟨by omega,by omega⟩,?_⟩
 have rl:=zf (n:=n) (by omega)
 rw[Jq (λ_=>(0:Int))]
 refine⟨yS (by omega),?_⟩
 rw[zC,zC,aj]
 refine vA (λi rows=>(rows.length:Int)=n/\G_ rows/\∀s∈U.take i,∀t:Int,0<=t->rb rows s t=decide (t∈nxt m.steps s/\t∈U)) ⟨by rw[length_map];exact rl,λi=>?_,λs l=>by simp at l⟩ (λi x rows K E=>?_) λrows E=>?_
 ·rw[getD_eq_getElem?_getD,getElem?_map]
  cases(rng n)[i]?<;>exact ad6 0
 ·obtain⟨I,R,H⟩:=E
  have q:=z x (mem_of_getElem? K)
  rw[zC,zC,zC,zC,zC]
  refine(zLi g q.1 q.2).imp ?_
  rintro ns ⟨_,F⟩
  rw[aj]
  refine(zVb (xs:=ns) (λy hy=>Lb g q.1 q.2 y ((F y).mp hy)) L).imp λb ⟨b0,bb⟩=>?_
  rw[aj,Qn q.1 (by omega),aj]
  refine⟨by rw[length_set];exact I,zVy I q.1 q.2 R (zWh b0 Z),λs l t f=>?_⟩
  rw[Hf K] at l
  have s0:0<=s:=l.elim (λh=>(z s (mem_of_mem_take h)).1) λh=>h▸q.1
  rw[zVr I q.1 q.2 s0]
  by_cases e:s=x
  ·subst e
   rw[if_pos rfl,zWd b0 Z,bb t f,ib t f,abo]
   simp[F]
  ·rw[if_neg e]
   exact H s (l.resolve_right e) t f
 ·obtain⟨I,R,H⟩:=E
  rw[take_length] at H
  rw[zC,zC,aj]
  refine vA (λi rows=>(rows.length:Int)=n/\G_ rows/\(∀s∈U,∀t∈U,t∈nxt m.steps s->rb rows s t=true)/\(∀s∈U,∀t:Int,0<=t->rb rows s t=true->iI m.steps U s t)/\∀u∈U.take i,∀s∈U,∀t:Int,0<=t->rb rows s u=true->rb rows u t=true->rb rows s t=true)
   ⟨I,R,λs l t f h=>by rw[H s l t (z t f).1];exact decide_eq_true ⟨h,f⟩,λs l t f h=>by
    rw[H s l t f] at h
    have:=of_decide_eq_true h
    exact .one this.1 this.2,λu P=>by simp at P⟩ (λi u w K E=>?_) λrows E=>?_
  ·obtain⟨Q,N,X,B,O⟩:=E
   have J:=mem_of_getElem? K
   have D:=z u J
   rw[zC,zC,aj]
   refine vA (λj rows=>(rows.length:Int)=n/\G_ rows/\∀s∈U,∀t:Int,0<=t->rb rows s t=(rb w s t||(decide (s∈U.take j)&&(rb w s u&&rb w u t)))) ⟨Q,N,λs _ t _=>by simp⟩ (λj x rows M S=>?_) λrows S=>?_
   ·obtain⟨o,p,r⟩:=S
    have xm:=mem_of_getElem? M
    have q:=z x xm
    have ex:rb rows x u=rb w x u:=by
     rw[r x xm u D.1]
     cases rb w x u<;>simp
    have eu:∀t:Int,0<=t->rb rows u t=rb w u t:=λt f=>by
     rw[r u J t f]
     cases rb w u t<;>simp
    rw[zMs o p q.1 q.2 D.1,zC,zC,aj,ex]
    by_cases c:rb w x u=true
    ·rw[c,if_pos rfl,zC,zC,R7 o D.1 D.2,aj]
     unfold BZ
     rw[if_pos q.1,R7 o q.1 q.2]
     show W (setAt rows x _) _
     rw[Qn q.1 (by omega),aj,aj]
     refine⟨by rw[length_set];exact o,zVy o q.1 q.2 p (G9 (p _) (p _)),λs l t f=>?_⟩
     rw[zVr o q.1 q.2 (z s l).1]
     by_cases e:s=x
     ·subst e
      rw[if_pos rfl,G8 (p _) (p _)]
      show(rb rows s t||rb rows u t)=_
      rw[r s l t f,eu t f,c,decide_eq_true ((Hf M).mpr (.inr rfl))]
      cases rb w s t<;>cases rb w u t<;>simp
     ·rw[if_neg e,r s l t f]
      have:decide (s∈U.take (j+1))=decide (s∈U.take j):=by
       rw[abo,decide_eq_true_iff,decide_eq_true_iff,Hf M]
       exact⟨λh=>h.resolve_right e,.inl⟩
      rw[this]
    ·have c:rb w x u=false:=by simpa using c
     rw[c,if_neg (by decide),aj,aj]
     refine⟨o,p,λs l t f=>?_⟩
     rw[r s l t f]
     by_cases e:s=x
     ·subst e
      rw[c]
      simp
     ·have:decide (s∈U.take (j+1))=decide (s∈U.take j):=by
       rw[abo,decide_eq_true_iff,decide_eq_true_iff,Hf M]
       exact⟨λh=>h.resolve_right e,.inl⟩
      rw[this]
   ·obtain⟨o,p,r⟩:=S
    rw[take_length] at r
    have A:∀s∈U,∀t:Int,0<=t->(rb rows s t=true↔rb w s t=true\/(rb w s u=true/\rb w u t=true)):=λs l t f=>by
     rw[r s l t f,decide_eq_true l]
     simp
    rw[aj]
    refine⟨o,p,λs l t f h=>(A s l t (z t f).1).mpr (.inl (X s l t f h)),λs l t f h=>?_,λv G s l t f h1 h2=>?_⟩
    ·rcases(A s l t f).mp h with h|⟨h,k⟩
     ·exact B s l t f h
     ·exact(B s l u D.1 h).trans (B u J t f k)
    ·rw[Hf K] at G
     refine(A s l t f).mpr ?_
     rcases G with G|rfl
     ·have vU:=mem_of_mem_take G
      have v0:=(z v vU).1
      have T:=O v G
      rcases(A s l v v0).mp h1 with a|⟨a,b⟩<;>rcases(A v vU t f).mp h2 with c|⟨c,d⟩
      ·exact .inl (T s l t f a c)
      ·exact .inr ⟨T s l u D.1 a c,d⟩
      ·exact .inr ⟨a,T u J t f b c⟩
      ·exact .inr ⟨a,d⟩
     ·have a:rb w s v=true:=((A s l v D.1).mp h1).elim id And.left
      have b:rb w v t=true:=((A v J t f).mp h2).elim id And.right
      exact .inr ⟨a,b⟩
  ·obtain⟨o,p,ed,so,Y⟩:=E
   rw[take_length] at Y
   rw[aj]
   exact⟨o,p,ed,so,λs l u P t f=>Y u P s l t f⟩
def ring(rows U:LI)(s:Int):LI:=U.filter λt=>rb rows s t&&rb rows t s
theorem aQ:t∈ring rows U s↔t∈U/\rb rows s t=true/\rb rows t s=true:=by
 unfold ring
 rw[mem_filter,aaz]
structure qI(xss:List LI)(U G:LI):Prop where
 sub:∀s∈G,s∈U
 nd:G.Nodup
 go:∀s∈G,∀t∈G,iI xss G s t
theorem lO.full(R:lO xss U rows)(h0:∀x∈U,0<=x)(h:iI xss U s t):s∈U->rb rows s t=true:=by
 induction h with
 |one a b=>exactλc=>R.edge _ c _ b a
 |step a b p ih=>exactλc=>R.trans _ c _ b _ (h0 _ p.mem) (R.edge _ c _ b a) (ih b)
theorem zPo(R:lO xss U rows)(h0:∀x∈U,0<=x)(r:U.Nodup)(i:o∈U):qI xss U (ring rows U o):=by
 have g:∀{s t:Int},iI xss U s t->s∈ring rows U o->t∈ring rows U o->iI xss (ring rows U o) s t:=by
  intro s t h
  induction h with
  |one a b=>exactλ_ c=>.one a c
  |@step s u t a b p ih =>
   intro d c
   obtain⟨e,j,m⟩:=aQ.mp d
   obtain⟨f,n,k⟩:=aQ.mp c
   have v:=R.trans o i s e u (h0 u b) j (R.edge s e u b a)
   have q:=R.trans u b t f o (h0 o i) (R.full h0 p b) k
   have l:=aQ.mpr ⟨b,v,q⟩
   exact .step a l (ih l c)
 refine⟨λs d=>(aQ.mp d).1,r.filter _,λs d t c=>?_⟩
 obtain⟨e,j,m⟩:=aQ.mp d
 obtain⟨f,n,k⟩:=aQ.mp c
 exact g (R.sound s e t (h0 t f) (R.trans s e o i t (h0 t f) m n)) d c
structure DX(rows U:LI)(told:List LI):Prop where
 are:∀G∈told,∃s∈U,rb rows s s=true/\G=ring rows U s
 nd:told.flatten.Nodup
 all:∀s∈U,rb rows s s=true->s∈told.flatten
theorem zOt(h:∀x∈xs,0<=x/\x<n)(a:xs.length<64):jA xs=some (vC xs)/\aJ n (vC xs):=by
 unfold jA
 rw[if_pos a]
 exact⟨rfl,uW xs,λx b=>h x (bH.mp b)⟩
theorem DY{C:Addr}{m:aF C}(g:Gr m n)(I:∀x∈xs,0<=x/\x<n)(hl:xs.length<64):W (RP m xs) λf=>∃rows,lO m.steps (vC xs) rows/\DX rows (vC xs) f:=by
 obtain⟨e,r⟩:=zOt I hl
 have few:=g.few
 have pos:=g.pos
 unfold RP
 rw[e,zC,aj,zC]
 generalize vC xs=U at r ⊢
 have h0:∀x∈U,0<=x:=λx I=>(r.2 x I).1
 have Ul:U.length<=n.toNat:=wB r.nodup λx I=>by have:=r.2 x I;omega
 refine(zSd g r.2).imp λrows ⟨T,R⟩=>?_
 rw[zC,aj,zC,aj,zC,zC,aj]
 refine vA (λi z=>∃f:List LI,z=(f,dl f.flatten)/\(∀G∈f,∃s∈U,rb rows s s=true/\G=ring rows U s)/\f.flatten.Nodup/\(∀s∈U.take i,rb rows s s=true->s∈f.flatten)/\f.length<=i) ⟨[],rfl,λG u=>(by cases u),by simp,λs v=>(by simp at v),aak _⟩ (λi x z J O=>?_) λz O=>?_
 ·obtain⟨f,rfl,l,E,o,tl⟩:=O
  have F:=mem_of_getElem? J
  have w:=r.2 x F
  have M:∀t∈f.flatten,t∈U:=λt B=>by
   obtain⟨G,u,N⟩:=mem_flatten.mp B
   obtain⟨s,_,_,rfl⟩:=l G u
   exact(aQ.mp N).1
  have il:i<U.length:=(aal.mp J).1
  rw[zC,zC]
  show W (if(!(cN (dl f.flatten) x).isSome)=true then _ else _) _
  rw[zV9]
  by_cases K:x∈f.flatten
  ·rw[decide_eq_true K,abk,if_neg (by decide),aj,if_neg (by decide),aj,aj]
   exact⟨f,rfl,l,E,λs v h=>((Hf J).mp v).elim (λq=>o s q h) λq=>q▸K,by omega⟩
  ·rw[decide_eq_false K,aei,if_pos rfl,zMs T R.nn w.1 w.2 w.1,aj]
   by_cases c:rb rows x x=true
   ·have D:∀t∈ring rows U x,t∉f.flatten:=λt B Y=>by
     obtain⟨G,u,N⟩:=mem_flatten.mp Y
     obtain⟨s,P,_,rfl⟩:=l G u
     obtain⟨S,t1,t2⟩:=aQ.mp B
     obtain⟨_,t3,X⟩:=aQ.mp N
     exact K (mem_flatten.mpr ⟨_,u,aQ.mpr ⟨F,R.trans s P t S x w.1 t3 t2,R.trans x F t S s (h0 s P) t1 X⟩⟩)
    have Q:(ring rows U x).Nodup:=r.nodup.filter _
    have H:(f.flatten++ring rows U x).Nodup:=by
     rw[nodup_append]
     exact⟨E,Q,λa ha b hb e=>D b hb (e▸ha)⟩
    have ln:(f.flatten++ring rows U x).length<=n.toNat:=wB H λy hy=>by
     have:y∈U:=(mem_append.mp hy).elim (M y) λq=>(aQ.mp q).1
     have:=r.2 y this
     omega
    rw[c,if_pos rfl,zC,zC,aj,R8 (p:=λt=>rb rows x t&&rb rows t x) (g:=λt=>t) (yS (by omega)) (λt B=>zSi T R.nn w.1 w.2 (r.2 t B).1 (r.2 t B).2) (λt _=>rfl),aj,map_id']
    show W ((push f (ring rows U x)).bind _) _
    rw[zC,tM]
    refine⟨yS (by omega),?_⟩
    rw[zC,zC,aj]
    refine vA (λk d=>d=dl (f.flatten++(ring rows U x).take k)) (by rw[List.take_zero,append_nil]) (λk y d A L=>?_) λd L=>?_
    ·subst L
     have A:(ring rows U x)[k]?=some y:=A
     have ym:=mem_of_getElem? A
     have kl:=(aal.mp A).1
     have yn:y∉f.flatten++(ring rows U x).take k:=λq=>by
      rcases mem_append.mp q with q|q
      ·exact D y ym q
      ·obtain⟨j,hj,e⟩:=getElem_of_mem q
       rw[List.getElem_take] at e
       rw[length_take] at hj
       have Z:=(aal.mp A).2
       have:=(List.nodup_iff_pairwise_ne.mp Q)
       have ne:=List.pairwise_iff_getElem.mp this j k (by omega) kl (by omega)
       exact ne (e.trans Z.symm)
     rw[zC,La,K9 yn,K_]
     refine⟨yS ?_,?_⟩
     ·rw[length_append] at ln ⊢
      rw[length_take]
      omega
     ·rw[aj,Vw A,append_assoc]
    ·subst L
     rw[show(ring rows U x).take (U.filter λt=>rb rows x t&&rb rows t x).length=ring rows U x from take_length,aj,aj]
     refine⟨f++[ring rows U x],by rw[flatten_append,flatten_singleton],λG u=>?_,by rw[flatten_append,flatten_singleton];exact H,λs v h=>?_,by rw[length_append];exact abq tl⟩
     ·rcases mem_append.mp u with q|q
      ·exact l G q
      ·exact⟨x,F,c,mem_singleton.mp q⟩
     ·rw[flatten_append,flatten_singleton,mem_append]
      exact((Hf J).mp v).elim (λq=>.inl (o s q h)) λq=>.inr (by rw[q];exact aQ.mpr ⟨F,c,c⟩)
   ·have c':rb rows x x=false:=by simpa using c
    rw[c',if_neg (by decide),aj,aj]
    exact⟨f,rfl,l,E,λs v h=>((Hf J).mp v).elim (λq=>o s q h) λq=>absurd (q▸h) c,by omega⟩
 ·obtain⟨f,rfl,l,E,o,_⟩:=O
  rw[take_length] at o
  rw[aj]
  exact⟨rows,R,l,E,o⟩
def wO(n:Int)(a:List LI):Prop:=a.length<=100/\∀F∈a,zx n F
def xX(a:List LI)(G:LI):Bool:=a.all λF=>G.any λx=>decide (x∈F)
theorem q9(h:zx n xs)(Km:n<=60)(h0:0<=n):xs.length<=60:=by
 have:=wB (n:=n.toNat) h.1 λx a=>by have:=h.2.2 x a;omega
 omega
theorem zSg{C:Addr}{m:aF C}{n:Int}(g:Gr m n)(hf:wO n m.fair){i:Nat}{F:LI}(hi:m.fair[i]?=some F):W (xK m (i:Int)) λxs=>xs.length<=60/\∀x,x∈xs↔x∈F:=by
 unfold xK
 have few:=g.few
 have pos:=g.pos
 have l:=q9 (hf.2 F (mem_of_getElem? hi)) few (by omega)
 rw[zC,cV (by omega)]
 refine⟨F,by rw[abx];exact hi,?_⟩
 unfold iV
 rw[if_pos (by omega),aj]
 exact⟨by rw[(vJ _).length_eq];exact l,λx=>(vJ _).mem_iff⟩
theorem zOv{xs ys:LI}(h:xs.length<64\/ys.length<64)(h1:xs.length<4000)(h2:ys.length<4000):xO xs ys=some (vC (xs.filter λz=>decide (z∈ys))):=by
 unfold xO q_
 rw[if_pos ⟨h,h1,h2⟩]
theorem zLh{xs ys:LI}(a:xs.length<64)(h2:ys.length<4000):xO xs ys=some (vC (xs.filter λz=>decide (z∈ys))):=zOv (.inl a) (by omega) h2
theorem nj:(vC xs).length=0↔xs=[]:=by
 constructor
 ·intro h
  cases xs with
  |nil=>rfl
  |cons x xs =>
   have:=(bH (ns:=x::xs)).mpr mem_cons_self
   grind
 ·intro h;subst h;rfl
theorem zSe{C:Addr}{m:aF C}(g:Gr m n)(h:wO n m.fair){G:LI}(p:G.length<64):W (uN m G) λo=>o.isNone=xX m.fair G:=by
 unfold uN
 have hl:=h.1
 rw[zC,zC,cU]
 refine⟨⟨by omega,by omega⟩,zR7 (λi _=>∀F∈m.fair.take i,(G.any λx=>decide (x∈F))=true) (λF c=>by simp at c) (λi x s l f=>?_) λs f=>?_⟩
 ·obtain⟨rfl,a⟩:=Xg l
  have j:i<m.fair.length:=by omega
  have c:m.fair[i]?=some m.fair[i]:=aaj j
  rw[zC,zC,zC,zC,zC,zC]
  refine(zSg g h c).imp λd ⟨yl,k⟩=>?_
  rw[aj,aj]
  show W (xO G d) _
  rw[zLh p (by omega),aj,aj,aj]
  by_cases e:G.filter (λz=>decide (z∈d))=[]
  ·rw[decide_eq_true (show((vC (G.filter λz=>decide (z∈d))).length:Int)=0 by have:=nj.mpr e;omega),if_pos rfl,zC,aj,aj]
   refine .inr ⟨_,rfl,?_⟩
   show W (some (some (i:Int))) _
   rw[aj]
   symm
   show xX m.fair G=false
   have:(G.any λx=>decide (x∈m.fair[i]))=false:=by
    rw[List.any_eq_false]
    intro x a q
    have q:=of_decide_eq_true q
    have:x∈G.filter (λz=>decide (z∈d)):=mem_filter.mpr ⟨a,decide_eq_true ((k x).mpr q)⟩
    rw[e] at this
    cases this
   unfold xX
   rw[List.all_eq_false]
   exact⟨_,getElem_mem j,by rw[this];decide⟩
  ·rw[decide_eq_false (λz=>e (nj.mp (by omega))),if_neg (by decide),aj]
   refine .inl ⟨(),rfl,λF b=>?_⟩
   rw[Vw c,mem_append,mem_singleton] at b
   rcases b with q|q
   ·exact f F q
   ·subst q
    obtain⟨x,a⟩:=List.exists_mem_of_ne_nil _ e
    rw[mem_filter] at a
    exact any_eq_true.mpr ⟨x,a.1,decide_eq_true ((k x).mp (of_decide_eq_true a.2))⟩
 ·have e:(rng (m.fair.length:Int)).length=m.fair.length:=by have:=zf (n:=(m.fair.length:Int)) (by omega);omega
  rw[e,take_length] at f
  rw[Ur,aj]
  symm
  show xX m.fair G=true
  exact all_eq_true.mpr f
theorem zTd{U:LI}(h:U.length<=k):(ring rows U s).length<=k:=aas (List.length_filter_le ..) h
structure qJ(xss:List LI)(fair:List LI)(U goal:LI):Prop where
 nd:goal.Nodup
 sub:∀s∈goal,s∈U
 of:∀s∈goal,∃G:LI,qI xss U G/\s∈G/\xX fair G=true/\∀t∈G,t∈goal
 all:∀s∈U,∀G:LI,(∀t,t∈G↔t∈U/\iI xss U s t/\iI xss U t s)->iI xss U s s->xX fair G=true->s∈goal
theorem zI8(h:∀t,t∈G↔t∈G'):xX fair G=xX fair G':=by
 unfold xX
 congr 1
 funext F
 rw[abo,any_eq_true,any_eq_true]
 exact⟨λ⟨x,a,b⟩=>⟨x,(h x).mp a,b⟩,λ⟨x,a,b⟩=>⟨x,(h x).mpr a,b⟩⟩
theorem D_{C:Addr}{m:aF C}(g:Gr m n)(hf:wO n m.fair)(A:∀x∈xs,0<=x/\x<n)(M:xs.length<64) :
  W (wL m xs) λa=>a.length<=60/\(∀G∈a,qI m.steps (vC xs) G/\xX m.fair G=true)/\W (K5 a) λgoal=>goal=a.flatten/\qJ m.steps m.fair (vC xs) goal:=by
 have few:=g.few
 have pos:=g.pos
 have z:=(zOt A M).2
 have k:∀x∈vC xs,0<=x:=λx A=>(z.2 x A).1
 have Q:(vC xs).length<=n.toNat:=wB z.nodup λx A=>by have:=z.2 x A;omega
 unfold wL
 rw[zC]
 refine(DY g A M).imp λd ⟨D,R,T⟩=>?_
 have Z:d.length<=60/\d.flatten.length<=60:=by
  have f:d.flatten.length<=n.toNat:=wB T.nd λy O=>by
   obtain⟨G,j,X⟩:=mem_flatten.mp O
   obtain⟨s,_,_,rfl⟩:=T.are G j
   have:=z.2 y (aQ.mp X).1
   omega
  refine⟨?_,by omega⟩
  have ne:∀G∈d,1<=G.length:=λG j=>by
   obtain⟨s,r,c,rfl⟩:=T.are G j
   exact List.length_pos_of_mem (aQ.mpr ⟨r,c,c⟩)
  have:∀l:List LI,(∀G∈l,1<=G.length)->l.length<=l.flatten.length:=λl=>by
   induction l with
   |nil=>intro _;exact aa0 _
   |cons G l ih =>
    intro h
    rw[flatten_cons,length_append,length_cons]
    have a:=ih λF v=>h F (mem_cons_of_mem _ v)
    have b:=h G mem_cons_self
    omega
  have:=this d ne
  omega
 have Y:∀G∈d,G.length<64:=λG j=>by
  obtain⟨s,_,_,rfl⟩:=T.are G j
  have:=zTd (rows:=D) (s:=s) Q
  omega
 rw[R8 (p:=xX m.fair) (g:=λG=>G) (yS (by omega)) (λG j=>by
  obtain⟨o,e,q⟩:=zSe g hf (Y G j)
  rw[e]
  exact congrArg some q) (λ_ _=>rfl),aj,map_id']
 have N:∀l:List LI,(l.filter (xX m.fair)).flatten.Sublist l.flatten:=λl=>by
  induction l with
  |nil=>exact Sublist.refl _
  |cons G l ih =>
   rw[filter_cons]
   split
   ·rw[flatten_cons,flatten_cons];exact(Sublist.refl _).append ih
   ·rw[flatten_cons];exact ih.trans (List.sublist_append_right ..)
 have S:W (K5 (d.filter (xX m.fair))) (· = (d.filter (xX m.fair)).flatten):=by
  unfold K5
  rw[zC,aj,zC,zC,aj]
  refine vA (λi s=>s=((d.filter (xX m.fair)).take i).flatten) (by rw[List.take_zero];rfl) (λi G s P I=>?_) λs I=>?_
  ·subst I
   unfold vg
   have e:((d.filter (xX m.fair)).take i).flatten++G=((d.filter (xX m.fair)).take (i+1)).flatten:=by rw[Vw P,flatten_append,flatten_singleton]
   have l:(((d.filter (xX m.fair)).take i).flatten++G).length<=60:=by
    rw[e]
    have a:((d.filter (xX m.fair)).take (i+1)).flatten.Sublist (d.filter (xX m.fair)).flatten:=by
     have U:(d.filter (xX m.fair)).flatten=((d.filter (xX m.fair)).take (i+1)).flatten++((d.filter (xX m.fair)).drop (i+1)).flatten:=by rw[<-flatten_append,take_append_drop]
     rw[U]
     exact List.sublist_append_left ..
    have:=(a.trans (N d)).length_le
    omega
   rw[length_append] at l
   rw[if_pos (yS (by omega)),zC,aj,aj,e]
  ·subst I
   rw[take_length,aj]
 refine⟨aas (List.length_filter_le ..) Z.1,λG j=>?_,S.imp λgoal e=>⟨e,?_⟩⟩
 ·obtain⟨o,w,_,rfl⟩:=T.are G (mem_filter.mp j).1
  exact⟨zPo R k z.nodup w,(mem_filter.mp j).2⟩
 subst e
 refine⟨T.nd.sublist (N d),λs E=>?_,λs E=>?_,λs r G j p q=>?_⟩
 ·obtain⟨G,j,B⟩:=mem_flatten.mp E
  obtain⟨o,_,_,rfl⟩:=T.are G (mem_filter.mp j).1
  exact(aQ.mp B).1
 ·obtain⟨G,j,B⟩:=mem_flatten.mp E
  obtain⟨o,w,_,rfl⟩:=T.are G (mem_filter.mp j).1
  exact⟨_,zPo R k z.nodup w,B,(mem_filter.mp j).2,λt ht=>mem_flatten.mpr ⟨_,j,ht⟩⟩
 ·obtain⟨F,v,B⟩:=mem_flatten.mp (T.all s r (R.full k p r))
  obtain⟨o,w,oo,rfl⟩:=T.are F v
  obtain⟨_,K,L⟩:=aQ.mp B
  refine mem_flatten.mpr ⟨_,mem_filter.mpr ⟨v,?_⟩,B⟩
  rw[<-q]
  refine zI8 λt=>?_
  rw[j t,aQ]
  constructor
  ·rintro⟨u,J,H⟩
   exact⟨u,R.sound s r t (k t u) (R.trans s r o w t (k t u) L J),R.sound t u s (k s r) (R.trans t u o w s (k s r) H K)⟩
  ·rintro⟨u,J,H⟩
   exact⟨u,R.trans o w s r t (k t u) K (R.full k J r),R.trans t u s r o (k o w) (R.full k H u) L⟩
theorem Ld{C:Addr}{m:aF C}(g:Gr m n)(d:wO n m.fair)(c:∀x∈xs,0<=x/\x<n)(b:xs.length<64) :
  W ((wL m xs).bind λa=>K5 a) (qJ m.steps m.fair (vC xs)):=by
 rw[zC]
 exact(D_ g d c b).imp (by rintro a ⟨_,_,h⟩;exact h.imp λ_ q=>q.2)
theorem zO1{C:Addr}{m:aF C}(g:Gr m n){goal:LI}(b:∀x∈through,0<=x/\x<n)(a:goal.Nodup/\∀x∈goal,0<=x/\x<n):W (xJ m through goal) λR=>∃d,qH m.steps through goal n d/\R=pick n λs=>(dg d s).isSome:=by
 unfold xJ
 have few:=g.few
 have pos:=g.pos
 rw[zC]
 refine(zJ7 g b a).imp λd D=>?_
 have rl:=zf (n:=n) (by omega)
 rw[zC,aj,zUq D.len]
 have e:bh (λx=>some x.2.isSome) (λx=>some x.1) ((rng n).map λs=>(s,dg d s))=some (pick n λs=>(dg d s).isSome):=by
  rw[R8 (yS (by grind)) (λ_ _=>rfl) (λ_ _=>rfl)]
  congr 1
  rw[List.filter_map,map_map]
  exact map_id' _
 rw[e,aj]
 grind
theorem Vx(h:aJ n U):vC U=U:=Gv (uW U) h.1 λ_=>bH
inductive Rc(xss:List LI)(U:LI)(s:Int):Int->Prop
 |here:Rc xss U s s
 |on {t u:Int}:Rc xss U s t->u∈nxt xss t->u∈U->Rc xss U s u
theorem Rc.mem(h:Rc xss U s t)(a:s∈U):t∈U:=by
 cases h with
 |here=>exact a
 |on _ _ h=>exact h
theorem Rc.trans(h:Rc xss U s t)(k:Rc xss U t u):Rc xss U s u:=by
 induction k with
 |here=>exact h
 |on _ a b ih=>exact .on ih a b
theorem Rc.pth(h:Rc xss U s t):t=s\/iI xss U s t:=by
 induction h with
 |here=>exact .inl rfl
 |@on t u _ a b ih =>
  rcases ih with rfl|ih
  ·exact .inr (.one a b)
  ·exact .inr (ih.trans (.one a b))
theorem iI.rc(h:iI xss U s t):Rc xss U s t:=by
 induction h with
 |one a b=>exact .on .here a b
 |step a b _ ih=>exact(Rc.on .here a b).trans ih
theorem cls(P:Int->Prop):∃p:Int->Bool,∀x,p x=true↔P x:=⟨λx=>@decide _ (Classical.propDecidable (P x)),λx=>by
 grind⟩
def Vy(xss c:List LI)(U:LI)(b:Int):Prop:=iI xss U b b/\∀F∈c,∃x∈F,Rc xss U b x/\Rc xss U x b
theorem Eb(D:qH xss U goal n d)(G:qJ xss l U goal)(i:∀x∈U,0<=x/\x<n)(s:Int):s∈pick n (λs=>(dg d s).isSome)↔s∈U/\∃b∈U,Vy xss l U b/\Rc xss U s b:=by
 have g:∀b∈U,(b∈goal↔Vy xss l U b):=λb z=>by
  constructor
  ·intro h
   obtain⟨R,N,E,H,_⟩:=G.of b h
   have L:∀{x y:Int},x∈R->y∈R->iI xss U x y:=λZ hy=>(N.go _ Z _ hy).mono N.sub
   refine⟨L E E,λF I=>?_⟩
   obtain⟨x,P,J⟩:=any_eq_true.mp (all_eq_true.mp H F I)
   exact⟨x,of_decide_eq_true J,(L E P).rc,(L P E).rc⟩
  ·rintro⟨p,m⟩
   obtain⟨f,M⟩:=cls λt=>iI xss U b t/\iI xss U t b
   refine G.all b z (U.filter f) (λt=>by rw[mem_filter,M t]) p ?_
   refine all_eq_true.mpr λF I=>?_
   obtain⟨x,J,r1,Q⟩:=m F I
   have O:iI xss U b x:=r1.pth.elim (λe=>e▸p) id
   have Y:iI xss U x b:=Q.pth.elim (λe=>by rw[<-e];exact e▸p) id
   exact any_eq_true.mpr ⟨x,mem_filter.mpr ⟨O.mem,(M x).mpr ⟨O,Y⟩⟩,decide_eq_true J⟩
 have K:∀(k:Nat)(s:Int),0<=s->s<n->dg d s=some (k:Int)->s∈U/\∃b∈goal,Rc xss U s b:=by
  intro k
  induction k with
  |zero =>
   intro s v o e
   have C:=(D.zero s v o).mp e
   exact⟨G.sub s C,s,C,.here⟩
  |succ k ih =>
   intro s v o e
   have S:s∉goal:=λC=>by
    have:=(D.zero s v o).mpr C
    rw[e] at this
    have:=aam this
    omega
   obtain⟨c,t,tn,t0,T,e2⟩:=D.via s _ v o e S
   obtain⟨A,b,w,r⟩:=ih t t0 T (by rw[e2];congr 1;omega)
   exact⟨c,b,w,(Rc.on .here tn A).trans r⟩
 have B:∀{s t:Int},Rc xss U s t->s∈U->(dg d t).isSome=true->(dg d s).isSome=true:=λh=>by
  induction h with
  |here=>exactλ_ q=>q
  |@on t u r a b ih =>
   intro c q
   have A:=r.mem c
   obtain⟨k,e⟩:=abl.mp q
   obtain⟨j,X,_⟩:=D.near t u k (i t A).1 (i t A).2 (i u b).1 (i u b).2 A a e
   exact ih c (by rw[X];rfl)
 rw[jo]
 constructor
 ·rintro⟨v,o,q⟩
  obtain⟨k,e⟩:=abl.mp q
  have kp:=D.pos s k v o e
  obtain⟨c,b,w,r⟩:=K k.toNat s v o (by rw[e];congr 1;omega)
  exact⟨c,b,G.sub b w,(g b (G.sub b w)).mp w,r⟩
 ·rintro⟨c,b,z,bB,r⟩
  refine⟨(i s c).1,(i s c).2,B r c ?_⟩
  rw[(D.zero b (i b z).1 (i b z).2).mpr ((g b z).mpr bB)]
  rfl
theorem zO0{C:Addr}{m:aF C}(g:Gr m n)(j:wO n m.fair)(c:aJ n U):W (zu m U) λR=>aJ n R/\∀s,s∈R↔s∈U/\∃b∈U,Vy m.steps m.fair U b/\Rc m.steps U s b:=by
 unfold zu
 have few:=g.few
 have Ul:U.length<=n.toNat:=wB c.nodup λx k=>by have:=c.2 x k;omega
 have q:=Ld g j c.2 (by omega)
 rw[Vx c,zC] at q
 rw[zC,zC,zC,zC,zC,zC]
 refine q.imp λa i=>?_
 rw[aj]
 refine i.imp λf G=>?_
 rw[aj,aj,aj]
 show W (xJ m U f) _
 refine(zO1 g c.2 ⟨G.nd,λx h=>c.2 x (G.sub x h)⟩).imp ?_
 rintro R ⟨d,D,e⟩
 subst e
 exact⟨yV n _,Eb D G c.2⟩
theorem Lg{C:Addr}{m:aF C}(g:Gr m n):yN m=some (rng n):=by
 unfold yN
 rw[Vv g]
 have:=g.pos
 have:=g.few
 show Nj n=_
 unfold Nj
 rw[if_pos ⟨by omega,by omega⟩]
 rfl
theorem Vz(h:n<=60)(h0:0<=n):(rng n).length<=60:=by have:=zf h0;omega
theorem zSc{C:Addr}{m:aF C}(g:Gr m n){xs:LI}(a:xs.length<4000):xA m xs=some (pick n λz=>!decide (z∈xs)):=by
 unfold xA
 rw[Lg g]
 have r:=Vz g.few (by have:=g.pos;omega)
 show mV (rng n) xs=_
 unfold mV
 rw[if_pos ⟨by omega,a⟩]
 exact congrArg some (Vx (yV n _))
theorem xZ(h:aJ n xs)(Km:n<=60):xs.length<=60:=by
 by_cases h0:0<=n
 ·have:=wB (n:=n.toNat) h.nodup λx b=>by have:=h.2 x b;omega
  omega
 ·cases xs with
  |nil=>grind
  |cons a l=>have:=h.2 a mem_cons_self;omega
theorem zH9{ys:LI}(b:aJ n xs)(a:n<=60)(c:ys.length<4000):xO xs ys=some (xs.filter λz=>decide (z∈ys)):=by
 rw[zLh (by have:=xZ b a;omega) c]
 exact congrArg some (Vx ⟨b.1.filter _,λx h=>b.2 x (mem_filter.mp h).1⟩)
theorem zM4{ys:LI}(b:aJ n xs)(a:n<=60)(c:ys.length<4000):uM xs ys=some (xs.filter λz=>!decide (z∈ys)):=by
 unfold uM mV
 rw[if_pos ⟨by have:=xZ b a;omega,c⟩]
 exact congrArg some (Vx ⟨b.1.filter _,λx h=>b.2 x (mem_filter.mp h).1⟩)
def Lh(xss c:List LI)(n:Int)(L:LI):Prop:=aJ n L/\∀s,s∈L↔s∈rng n/\∃b∈rng n,Vy xss c (rng n) b/\Rc xss (rng n) s b
theorem VB(n:Int):aJ n (rng n):=⟨zVq n,λx a=>nY.mp a⟩
theorem Ec{C:Addr}{m:aF C}(g:Gr m n)(a:wO n m.fair):W (G5 m) (Lh m.steps m.fair n):=by
 unfold G5
 rw[Lg g]
 exact zO0 g a (VB n)
def into(xss:List LI)(G:LI)(s:Int):Bool:=(nxt xss s).any λt=>decide (t∈G)
theorem Li{C:Addr}{m:aF C}(g:Gr m n)(h0:0<=s)(h1:s<n){fl:List Bool}(hl:(fl.length:Int)=n)(hh:∀t:Int,0<=t->t<n->fl.getD t.toNat false=decide (t∈G)):vP m s fl=some (into m.steps G s):=by
 unfold vP
 obtain⟨xs,e,xl,xm⟩:=zLi g h0 h1
 rw[e]
 have bd:∀x∈xs,0<=x/\x<n:=λx hx=>by
  have hx':=(xm x).mp hx
  have hr:nxt m.steps s∈m.steps:=mem_of_getElem? (YT g.len h0 h1)
  exact(g.row _ hr).2.2 x hx'
 show((bh _ _ xs).bind _)=_
 rw[R8 (p:=λ_=>true) (g:=λx=>decide (x∈G)) (yS (by omega)) (λ_ _=>rfl) (λx hx=>?_)]
 ·show some _=some _
  congr 1
  rw[List.filter_eq_self.mpr (λ_ _=>rfl)]
  unfold into
  rw[abo,any_eq_true,any_eq_true]
  constructor
  ·rintro⟨b,hb,e⟩
   obtain⟨x,hx,rfl⟩:=mem_map.mp hb
   exact⟨x,(xm x).mp hx,e⟩
  ·rintro⟨x,hx,e⟩
   exact⟨_,mem_map.mpr ⟨x,(xm x).mpr hx,rfl⟩,e⟩
 ·obtain⟨x0,x1⟩:=bd x hx
  have q:W (bL fl x) (· = decide (x∈G)):=by
   rw[cV x0]
   refine⟨fl.getD x.toNat false,?_,hh x x0 x1⟩
   rw[getD_eq_getElem?_getD,aaj (by omega)]
   rfl
  obtain⟨a,ea,e2⟩:=q
  rw[ea,e2]
theorem zM5{C:Addr}{m:aF C}(g:Gr m n)(c:∀x∈G,0<=x/\x<n):wU m (rng n) G=some (pick n (into m.steps G)):=by
 unfold wU
 obtain⟨fl,e,d,b⟩:=zOy g c
 rw[e]
 have r:=Vz g.few (by grind)
 show bh _ _ (rng n)=_
 rw[R8 (yS (by omega)) (λx f=>?_) (λ_ _=>rfl),map_id']
 ·rfl
 ·obtain⟨h,a⟩:=nY.mp f
  exact Li g h a d b
theorem Y5{α:Type}{m:Option α}{a:α}(h:m=some a):W m (· = a):=⟨a,h,rfl⟩
theorem oF{α:Type}{m:Option α}{a:α}(h:W m (· = a)):m=some a:=by obtain⟨b,e,rfl⟩:=h;exact e
theorem zGf{C:Addr}{m:aF C}(g:Gr m n)(a:aJ n L)(b:aJ n S):xV m L S=some (pick n (into m.steps (L.filter λz=>decide (z∈S)))):=by
 apply oF
 unfold xV
 rw[zC,zC,zC,Lg g,aj,zC,zC,zH9 a g.few (by have:=xZ b g.few;omega),aj,aj,aj,aj]
 exact Y5 (zM5 g λx c=>a.2 x (mem_filter.mp c).1)
theorem pX{α:Type}{pre:List α}{x:α}:L2.bL (pre++[x]) (-(1:Int))=some x:=by
 unfold L2.bL qW
 rw[if_neg (by decide),if_pos (by rw[length_append,length_singleton];omega)]
 show(pre++[x])[((-(1:Int))+((pre++[x]).length:Nat)).toNat]?=some x
 have e:((-(1:Int))+((pre++[x]).length:Nat)).toNat=pre.length:=by rw[length_append,length_singleton];omega
 rw[e,getElem?_append_right (aak _),Nat.sub_self]
 rfl
theorem zN3(h:aJ n xs):Ut xs=xs :=
 Gv (vI (zD4 xs) ((vJ xs).nodup_iff.mpr h.nodup)) h.1 λs=>(vJ xs).mem_iff
theorem zSf{C:Addr}{m:aF C}(Km:n<=60)(hs:∀mk∈m.marks,aJ n mk.2)(x:Str):W (yF m x) λS=>(∃mk∈m.marks,mk.1=x/\S=mk.2)\/((∀mk∈m.marks,mk.1≠x)/\S=[]):=by
 unfold yF
 rw[zC,zC,aj]
 refine zR7 (λi _=>∀mk∈m.marks.take i,mk.1≠x) (λmk h=>by simp at h) (λi mk _ hi hI=>?_) λ_ hI=>?_
 ·have mm:=mem_of_getElem? hi
  by_cases c:mk.1=x
  ·rw[decide_eq_true c,if_pos rfl,zC]
   have r:=xZ (hs mk mm) Km
   unfold iV
   rw[if_pos (by omega),aj,aj,zN3 (hs mk mm)]
   refine .inr ⟨_,rfl,?_⟩
   show W (some mk.2) _
   rw[aj]
   exact .inl ⟨mk,mm,c,rfl⟩
  ·rw[decide_eq_false c,if_neg (by decide),aj]
   refine .inl ⟨(),rfl,λmk' h=>?_⟩
   rw[take_add_one,hi,mem_append] at h
   rcases h with h|h
   ·exact hI mk' h
   ·have e:mk'=mk:=by simpa using h
    rw[e];exact c
 ·rw[take_length] at hI
  rw[Ur,aj]
  exact .inr ⟨hI,rfl⟩
theorem R9(ws:LI):W (uB ws) λ_=>True:=by
 unfold uB
 rw[Jr]
 refine⟨λ_=>aj.mpr trivial,λh=>?_⟩
 cases ws with
 |nil=>grind
 |cons x r =>
  exact⟨_,rfl,trivial⟩
theorem zOw(c:Int)(h0:0<=n)(h1:n<=60):W (uC c n) (aJ n):=by
 unfold uC
 rw[zC,aj,zC,zC,cU]
 refine⟨⟨by omega,by omega⟩,?_⟩
 have rn:=zf h0
 refine vA (λj z=>aJ j z.1/\z.1.length<=j) ⟨M8,aak _⟩ (λj y z hj hJ=>?_) λz hJ=>?_
 ·obtain⟨rfl,hy⟩:=Xg hj
  simp only[zC,Us,Qm,aj,Jr,tM]
  exact⟨by decide,λ_=>⟨yS (by omega),⟨by decide,by decide⟩,zIq hJ.1 (by omega) (by omega),by rw[length_append];exact abq hJ.2⟩,λ_=>⟨⟨by decide,by decide⟩,zPn hJ.1 (by omega),by omega⟩⟩
 ·rw[rn] at hJ
  rw[aj]
  exact hJ.1
theorem zE4(h:aJ n xs)(a:n<=60)(b:xs≠[]):N6 n xs:=⟨b,h.nodup,xZ h a,h.2⟩
theorem Ed(c k:Int)(h0:1<=n)(d:n<=60):W (NZ c k n) (N6 n):=by
 unfold NZ
 rw[zC,aj,zC,aj,zC,zC,cU]
 refine⟨⟨by omega,by omega⟩,?_⟩
 have b:=zf (n:=n) (by omega)
 refine vA (λj z=>aJ j z.1/\z.1.length<=j) ⟨M8,aak _⟩ (λj y z g a=>?_) λz a=>?_
 ·obtain⟨rfl,f⟩:=Xg g
  simp only[zC,Us,Qm,aj,Jr,tM]
  exact⟨by decide,λ_=>⟨yS (by omega),⟨by decide,by decide⟩,zIq a.1 (by omega) (by omega),by grind⟩,λ_=>⟨⟨by decide,by decide⟩,zPn a.1 (by omega),by omega⟩⟩
 ·rw[b] at a
  rw[zC]
  by_cases e:z.1=[]
  ·rw[if_pos (decide_eq_true e),zC,zC,Qm]
   refine⟨by omega,?_⟩
   have z0:=ad0 (c+k) (show n≠0 by omega)
   have z1:=ac5 (c+k) (show 0<n by omega)
   rw[e,tM]
   refine⟨yS (by simp),?_⟩
   rw[aj,aj]
   refine⟨by simp,by simp,by simp,λy f=>?_⟩
   grind
  ·rw[if_neg (by grind),aj,aj]
   exact zE4 a.1 d e
section
variable{α β:Type}{f:LI->α->Option (β×LI)}{R:β->Prop}
theorem zWi:∀(xs:List α)(ws:LI),(∀ws,∀x∈xs,W (f ws x) λr=>R r.1)->W (jX f ws xs) λr=>r.1.length=xs.length/\∀y∈r.1,R y
 |[],ws,_=>aj.mpr ⟨rfl,λy h=>by cases h⟩
 |x::xs,ws,h=>by
  unfold jX
  rw[zC]
  refine(h ws x mem_cons_self).imp λr hr=>?_
  rw[zC]
  refine(zWi xs r.2 λw y a=>h w y (mem_cons_of_mem _ a)).imp λq hq=>?_
  rw[aj]
  grind
theorem zR8{xs:List α}(a:xs.length<cap)(h:∀ws,∀x∈xs,W (f ws x) λr=>R r.1):W (kE f ws xs) λr=>r.1.length=xs.length/\∀y∈r.1,R y:=by
 unfold kE
 rw[if_pos a]
 exact zWi xs ws h
end
structure wg(n:Int)(T:oU (List LI) (List (Str×LI)) (List LI)):Prop where
 pos:1<=n
 few:n<=60
 len:(T.a.length:Int)=n
 row:∀xs∈T.a,N6 n xs
 marks:∃A B D,T.b=[(("p":Str),A),(("wet":Str),B),(("darkness":Str),D)]/\aJ n A/\aJ n B/\aJ n D
 fair:wO n T.c
 aaf:T.c.length<=4
theorem Ef(h0:1<=n)(h1:n<=60)(s:List (Str×LI))(ws:LI)(x:Str)(hs:s.length<=100):W (((((uB ws).bind λr23=>(uC r23.1 n).bind λb24=>some (b24,r23.2)).bind λr25=>some ((x,r25.1),r25.2)).bind λr26=>(push s r26.1).bind λy27=>some (y27,r26.2)).bind λjm=>some (jm.1,jm.2)) λz=>∃A,z.1=s++[(x,A)]/\aJ n A:=by
 rw[zC,zC,zC,zC]
 refine(R9 ws).imp λr _=>?_
 rw[zC]
 refine(zOw r.1 (by omega) h1).imp λA hA=>?_
 rw[aj,aj,zC,tM]
 refine⟨yS (by omega),?_⟩
 rw[aj,aj]
 exact⟨A,rfl,hA⟩
theorem zOz(ws:LI):W (uO ws) λv=>∃n,wg n v.1:=by
 unfold uO
 rw[zC]
 refine(R9 ws).imp λc _=>?_
 have K:∀Q:Int->Prop,(∀n,1<=n->n<=60->Q n)->W ((((j_ c.1 (8:Int)).bind λL=>iU L (7:Int)).bind λO=>some ((1:Int)+O))) λg=>W (((iU c.1 (8:Int)).bind λN=>some (decide (N=(1:Int)))).bind λb=>if b=true then(((j_ c.1 (8:Int)).bind λI=>iU I (5:Int)).bind λC=>some ((8:Int)+C)).bind λo=>some o else some g) Q:=λQ h=>by
  simp only[zC,Qm,Us,aj,Jr]
  exact⟨⟨by decide,by decide⟩,by decide,by decide,λ_=>⟨⟨by decide,by decide⟩,by decide,h _ (by omega) (by omega)⟩,λ_=>h _ (by omega) (by omega)⟩
 rw[zC]
 refine(K _ λn n1 f=>?_).imp λg h=>by rw[zC];exact h
 have rl:=Vz f (by omega)
 have S:=zf (n:=n) (by omega)
 rw[zC,zC,cU]
 refine⟨⟨by omega,by omega⟩,?_⟩
 refine(zR8 (R:=N6 n) (yS (by omega)) λw x _=>?_).imp λm q=>?_
 ·rw[zC]
  refine(R9 w).imp λr _=>?_
  rw[zC]
  refine(Ed r.1 x n1 f).imp λb M=>?_
  rw[aj]
  exact M
 rw[zC,aj,zC,zC,aj]
 refine vA (λi z=>z.1.length=i/\∃A B D,aJ n A/\aJ n B/\aJ n D/\z.1=([(("p":Str),A),("wet",B),("darkness",D)]:List (Str×LI)).take i) ⟨rfl,[],[],[],M8,M8,M8,rfl⟩ (λi x z j t=>?_) λz t=>?_
 ·obtain⟨l,A,B,D,a,b,d,e⟩:=t
  have P:i<3:=by
   have:=(aal.mp j).1
   simpa using this
  refine(Ef n1 f z.1 z.2 x (by omega)).imp λz' ⟨E,H,G⟩=>⟨by rw[H,length_append,l];rfl,?_⟩
  rw[H,e]
  match i,j,P with
  |0,j,_ =>
   have s:x = "p":=by simpa using j.symm
   subst s
   exact⟨E,B,D,G,b,d,rfl⟩
  |1,j,_ =>
   have s:x = "wet":=by simpa using j.symm
   subst s
   exact⟨A,E,D,a,G,d,rfl⟩
  |2,j,_ =>
   have s:x = "darkness":=by simpa using j.symm
   subst s
   exact⟨A,B,E,a,b,G,rfl⟩
 ·obtain⟨l,A,B,D,a,b,d,e⟩:=t
  have e:z.1=[(("p":Str),A),("wet",B),("darkness",D)]:=e
  rw[zC,zC,zC,zC,Us]
  refine⟨⟨by decide,by decide⟩,?_⟩
  rw[Qm]
  refine⟨by decide,?_⟩
  have J:0<=c.1/60%4/\c.1/60%4<4:=by omega
  have r4:=zf J.1
  rw[cU]
  refine⟨⟨by omega,by omega⟩,?_⟩
  refine(zR8 (R:=aJ n) (yS (by omega)) λw x _=>?_).imp λk y=>?_
  ·rw[zC]
   refine(R9 w).imp λr _=>?_
   rw[zC]
   refine(zOw r.1 (by omega) f).imp λF u=>?_
   rw[aj]
   exact u
  rw[aj]
  exact⟨n,n1,f,by show(m.1.length:Int)=n;rw[q.1];exact S,q.2,⟨A,B,D,e,a,b,d⟩,⟨by show k.1.length<=100;omega,λF u=>R5 (y.2 F u) f⟩,by show k.1.length<=4;omega⟩
theorem yB{α:Type}{c:Prop}[Decidable c]{a b:Option α}{Q:α->Prop}(h:¬c)(q:W b Q):W (if c then a else b) Q:=by grind
theorem zy{α:Type}{c:Prop}[Decidable c]{a b:Option α}{Q:α->Prop}(h:c)(q:W a Q):W (if c then a else b) Q:=by grind
section
variable{C:Addr}{cl:Hd->Addr}{m:aF C}{n:Int}
theorem uK{L:LI}(a:aJ n L)(p:Int->Bool):aJ n (L.filter p):=⟨a.1.filter p,λx b=>a.2 x (mem_filter.mp b).1⟩
def nt(n:Int)(S:LI):LI:=pick n λz=>!decide (z∈S)
def tg(n:Int)(A B:LI):LI:=pick n λz=>decide (z∈A)||decide (z∈B)
def sn(m:aF C)(n:Int)(L S:LI):LI:=pick n (into m.steps (L.filter λz=>decide (z∈S)))
def cm(m:aF C)(U G:LI):LI:=(xJ m U G).getD []
def co(m:aF C)(U:LI):LI:=(zu m U).getD []
def st(m:aF C)(L A B:LI):LI:=cm m A (L.filter λz=>decide (z∈B))
def R_(n:Int)(L A B:LI):LI:=(L.filter λz=>decide (z∈nt n B)).filter λz=>!decide (z∈A)
def et(m:aF C)(n:Int)(L A B:LI):LI:=nt n (tg n (cm m (nt n B) (R_ n L A B)) (co m (nt n B)))
theorem Hg(g:Gr m n){U G:LI}(hU:aJ n U)(hG:aJ n G):xJ m U G=some (cm m U G)/\aJ n (cm m U G):=by
 obtain⟨R,e,d,D,rfl⟩:=zO1 g hU.2 ⟨hG.nodup,hG.2⟩
 have ec:cm m U G=pick n λs=>(dg d s).isSome:=by
  unfold cm
  rw[e]
  rfl
 exact⟨by rw[e,ec],by rw[ec];exact yV n _⟩
theorem wj(g:Gr m n)(b:wO n m.fair){U:LI}(a:aJ n U):zu m U=some (co m U)/\aJ n (co m U):=by
 obtain⟨R,e,h,_⟩:=zO0 g b a
 have ec:co m U=R:=by
  unfold co
  grind
 grind
theorem Hh(g:Gr m n){S:LI}(a:aJ n S):xA m S=some (nt n S):=zSc g (by have:=xZ a g.few;omega)
theorem N8(S:LI):aJ n (nt n S):=yV n _
theorem Hi(g:Gr m n){A B:LI}(c:aJ n A)(d:aJ n B):vE A B=some (tg n A B):=by
 have la:=xZ c g.few
 have lb:=xZ d g.few
 have e:vC (A++B)=tg n A B:=Gv (uW _) (yV n _).1 λs=>by
  rw[bH,mem_append]
  unfold tg
  rw[jo,ac4,decide_eq_true_iff,decide_eq_true_iff]
  exact⟨λh=>h.elim (λa=>⟨(c.2 s a).1,(c.2 s a).2,.inl a⟩) λb=>⟨(d.2 s b).1,(d.2 s b).2,.inr b⟩,λh=>h.2.2⟩
 have lt:=xZ (yV n λz=>decide (z∈A)||decide (z∈B)) g.few
 unfold vE Cp
 rw[e,if_pos ⟨by omega,by omega,by unfold tg;omega⟩]
theorem wk(g:Gr m n){A B:LI}(a:aJ n A)(b:aJ n B):xO A B=some (A.filter λz=>decide (z∈B)):=zH9 a g.few (by have:=xZ b g.few;omega)
theorem N_(g:Gr m n){L A B:LI}(a:aJ n L)(c:aJ n A)(b:aJ n B):xD m L A B=some (st m L A B)/\aJ n (st m L A B):=by
 have q:=Hg g c (uK a λz=>decide (z∈B))
 refine⟨oF ?_,q.2⟩
 unfold xD
 rw[zC,zC,zC,zC,wk g a b,aj,aj,aj,aj]
 rw[q.1]
 exact aj.mpr rfl
theorem Hj(g:Gr m n)(h:wO n m.fair){L A B:LI}(a:aJ n L)(f:aJ n A)(c:aJ n B):xW m L A B=some (et m n L A B):=by
 apply oF
 have e:aJ n (R_ n L A B):=uK (uK a _) _
 have d:=Hg g (N8 (n:=n) B) e
 have b:=wj g h (N8 (n:=n) B)
 have lA:=xZ f g.few
 have i:RT m L A B=some (R_ n L A B):=by
  apply oF
  unfold RT
  rw[zC,zC,zC,zC,zC,Hh g c,aj,aj,aj]
  show W (xO L (nt n B)) _
  rw[wk g a (N8 B),aj,aj]
  show W (uM _ A) _
  rw[zM4 (uK a _) g.few (by omega),aj]
  rfl
 unfold xW
 rw[zC,Hh g c,aj,zC,zC,zC,zC,zC,i,aj,aj,aj,aj]
 show W (xJ m (nt n B) (R_ n L A B)) _
 rw[d.1,aj,zC,zC,zC,zC,zC,zC,b.1,aj,aj,aj]
 dsimp only
 rw[Hi g d.2 b.2,aj,aj,aj]
 dsimp only
 rw[Hh g (S:=tg n (cm m (nt n B) (R_ n L A B)) (co m (nt n B))) (yV n _)]
 exact aj.mpr rfl
def one(m:aF C)(n:Int)(L:LI)(i:Fin 7)(S:LI):LI :=
 if i=0 then nt n S else if i=1 then sn m n L S else if i=2 then nt n (sn m n L (nt n S)) else if i=3 then co m S else if i=4 then nt n (st m L (rng n) (nt n S)) else if i=5 then st m L (rng n) S else et m n L (rng n) S
def two(m:aF C)(n:Int)(L:LI)(i:Fin 4)(A B:LI):LI :=
 if i=0 then A.filter (λz=>decide (z∈B)) else if i=1 then tg n A B else if i=2 then st m L A B else et m n L A B
def vv(m:aF C)(n:Int)(L:LI):Tr->LI
 |.all=>rng n
 |.mark x=>(yF m x).getD []
 |.one i t=>one m n L i (vv m n L t)
 |.two i l r=>two m n L i (vv m n L l) (vv m n L r)
theorem f7:∀i:Fin 7,i=0\/i=1\/i=2\/i=3\/i=4\/i=5\/i=6:=by decide
theorem f4:∀i:Fin 4,i=0\/i=1\/i=2\/i=3:=by decide
theorem Hl(g:Gr m n)(hs:∀mk∈m.marks,aJ n mk.2)(x:Str):yF m x=some ((yF m x).getD [])/\aJ n ((yF m x).getD []):=by
 obtain⟨S,e,h⟩:=zSf g.few hs x
 rw[e]
 refine⟨rfl,?_⟩
 rcases h with⟨mk,h1,_,rfl⟩|⟨_,rfl⟩
 ·exact hs mk h1
 ·exact M8
theorem zTc(g:Gr m n)(b:wO n m.fair){L S:LI}(d:aJ n L)(a:aJ n S)(i:Fin 7):aJ n (one m n L i S):=by
 have c:=VB n
 rcases f7 i with rfl|rfl|rfl|rfl|rfl|rfl|rfl
 ·exact yV n _
 ·exact yV n _
 ·exact yV n _
 ·exact(wj g b a).2
 ·exact yV n _
 ·exact(N_ g d c a).2
 ·exact yV n _
theorem zTb(g:Gr m n){L A B:LI}(c:aJ n L)(a:aJ n A)(b:aJ n B)(i:Fin 4):aJ n (two m n L i A B):=by
 rcases f4 i with rfl|rfl|rfl|rfl
 ·exact uK a _
 ·exact yV n _
 ·exact(N_ g c a b).2
 ·exact yV n _
theorem Ho(g:Gr m n)(b:wO n m.fair)(c:∀mk∈m.marks,aJ n mk.2){L:LI}(a:aJ n L):∀t:Tr,aJ n (vv m n L t)
 |.all=>VB n
 |.mark x=>(Hl g c x).2
 |.one i t=>zTc g b a (Ho g b c a t) i
 |.two i l r=>zTb g a (Ho g b c a l) (Ho g b c a r) i
theorem Lj(g:Gr m n)(d:wO n m.fair){L S:LI}(b:aJ n L)(a:aJ n S)(i:Fin 7)(t:Tr):wW m L (eV.mk (cl:=cl) (.one i t)) [S]=some (one m n L i S):=by
 have c:=VB n
 apply oF
 unfold wW
 rcases f7 i with rfl|rfl|rfl|rfl|rfl|rfl|rfl
 ·refine(yB aai (yB aai (zy (by show decide ((0:Fin 7)=0)=true;decide) ?_)))
  rw[zC,zC,zC,cV (by decide)]
  refine⟨S,rfl,?_⟩
  rw[aj,aj]
  show W (xA m S) _
  rw[Hh g a]
  exact aj.mpr rfl
 ·refine(yB aai (yB aai (yB (by show¬decide ((1:Fin 7)=0)=true;decide) (yB aai (yB aai ?_)))))
  unfold zU
  refine(zy (by show decide ((1:Fin 7)=1)=true;decide) ?_)
  rw[zC,zC,zC,zC,cV (by decide)]
  refine⟨S,rfl,?_⟩
  rw[aj,aj,aj]
  show W (xV m L S) _
  rw[zGf g b a]
  exact aj.mpr rfl
 ·refine(yB aai (yB aai (yB (by show¬decide ((2:Fin 7)=0)=true;decide) (yB aai (yB aai ?_)))))
  unfold zU
  refine(yB (by show¬decide ((2:Fin 7)=1)=true;decide) (zy (by show decide ((2:Fin 7)=2)=true;decide) ?_))
  rw[zC,zC,zC,zC,zC,zC,zC,zC,zC,zC,cV (by decide)]
  refine⟨S,rfl,?_⟩
  rw[aj,aj]
  show W (xA m S) _
  rw[Hh g a,aj,aj,aj,aj]
  show W (xV m L (nt n S)) _
  rw[zGf g b (N8 S),aj,aj,aj]
  show W (xA m (sn m n L (nt n S))) _
  rw[Hh g (S:=sn m n L (nt n S)) (yV n _)]
  exact aj.mpr rfl
 ·refine(yB aai (yB aai (yB (by show¬decide ((3:Fin 7)=0)=true;decide) (yB aai (yB aai ?_)))))
  unfold zU
  refine(yB (by show¬decide ((3:Fin 7)=1)=true;decide) (yB (by show¬decide ((3:Fin 7)=2)=true;decide) (yB aai (yB aai (zy (by show decide ((3:Fin 7)=3)=true;decide) ?_)))))
  rw[zC,zC,zC,cV (by decide)]
  refine⟨S,rfl,?_⟩
  rw[aj,aj]
  show W (zu m S) _
  rw[(wj g d a).1]
  exact aj.mpr rfl
 ·refine(yB aai (yB aai (yB (by show¬decide ((4:Fin 7)=0)=true;decide) (yB aai (yB aai ?_)))))
  unfold zU
  refine(yB (by show¬decide ((4:Fin 7)=1)=true;decide) (yB (by show¬decide ((4:Fin 7)=2)=true;decide) (yB aai (yB aai (yB (by show¬decide ((4:Fin 7)=3)=true;decide) (zy (by show decide ((4:Fin 7)=4)=true;decide) ?_))))))
  rw[zC,zC,zC,zC,zC,zC,zC,Lg g,aj]
  rw[zC,zC,zC,zC,zC,cV (by decide)]
  refine⟨S,rfl,?_⟩
  rw[aj,aj]
  show W (xA m S) _
  rw[Hh g a,aj,aj,aj,aj,aj]
  show W (xD m L (rng n) (nt n S)) _
  rw[(N_ g b c (N8 S)).1,aj,aj,aj]
  dsimp only
  rw[Hh g (N_ g b c (N8 S)).2]
  exact aj.mpr rfl
 ·refine(yB aai (yB aai (yB (by show¬decide ((5:Fin 7)=0)=true;decide) (yB aai (yB aai ?_)))))
  unfold zU
  refine(yB (by show¬decide ((5:Fin 7)=1)=true;decide) (yB (by show¬decide ((5:Fin 7)=2)=true;decide) (yB aai (yB aai (yB (by show¬decide ((5:Fin 7)=3)=true;decide) (yB (by show¬decide ((5:Fin 7)=4)=true;decide) (zy (by show decide ((5:Fin 7)=5)=true;decide) ?_)))))))
  rw[zC,zC,zC,zC,Lg g,aj]
  rw[zC,zC,cV (by decide)]
  refine⟨S,rfl,?_⟩
  rw[aj,aj,aj,aj]
  show W (xD m L (rng n) S) _
  rw[(N_ g b c a).1]
  exact aj.mpr rfl
 ·refine(yB aai (yB aai (yB (by show¬decide ((6:Fin 7)=0)=true;decide) (yB aai (yB aai ?_)))))
  unfold zU
  refine(yB (by show¬decide ((6:Fin 7)=1)=true;decide) (yB (by show¬decide ((6:Fin 7)=2)=true;decide) (yB aai (yB aai (yB (by show¬decide ((6:Fin 7)=3)=true;decide) (yB (by show¬decide ((6:Fin 7)=4)=true;decide) (yB (by show¬decide ((6:Fin 7)=5)=true;decide) ?_)))))))
  rw[zC,zC,zC,zC,Lg g,aj]
  rw[zC,zC,cV (by decide)]
  refine⟨S,rfl,?_⟩
  rw[aj,aj,aj,aj]
  show W (xW m L (rng n) S) _
  rw[Hj g d b c a]
  exact aj.mpr rfl
theorem Lk(g:Gr m n)(d:wO n m.fair){L A B:LI}(c:aJ n L)(a:aJ n A)(b:aJ n B)(i:Fin 4)(l r:Tr):wW m L (eV.mk (cl:=cl) (.two i l r)) [A,B]=some (two m n L i A B):=by
 apply oF
 unfold wW
 rcases f4 i with rfl|rfl|rfl|rfl
 ·refine(yB aai (yB aai (yB aai (zy (by show decide ((0:Fin 4)=0)=true;decide) ?_))))
  rw[zC,zC,cV (by decide)]
  refine⟨A,rfl,?_⟩
  rw[zC,zC,cV (by decide)]
  refine⟨B,rfl,?_⟩
  rw[aj,aj]
  show W (xO A B) _
  rw[wk g a b]
  exact aj.mpr rfl
 ·refine(yB aai (yB aai (yB aai (yB (by show¬decide ((1:Fin 4)=0)=true;decide) (zy (by show decide ((1:Fin 4)=1)=true;decide) ?_)))))
  rw[zC,zC,cV (by decide)]
  refine⟨A,rfl,?_⟩
  rw[zC,zC,cV (by decide)]
  refine⟨B,rfl,?_⟩
  rw[aj,aj]
  show W (vE A B) _
  rw[Hi g a b]
  exact aj.mpr rfl
 ·refine(yB aai (yB aai (yB aai (yB (by show¬decide ((2:Fin 4)=0)=true;decide) (yB (by show¬decide ((2:Fin 4)=1)=true;decide) ?_)))))
  unfold zU
  refine(yB aai (yB aai (zy (by show decide ((2:Fin 4)=2)=true;decide) ?_)))
  rw[zC,zC,zC,zC,cV (by decide)]
  refine⟨A,rfl,?_⟩
  rw[zC,zC,cV (by decide)]
  refine⟨B,rfl,?_⟩
  rw[aj,aj,aj,aj]
  show W (xD m L A B) _
  rw[(N_ g c a b).1]
  exact aj.mpr rfl
 ·refine(yB aai (yB aai (yB aai (yB (by show¬decide ((3:Fin 4)=0)=true;decide) (yB (by show¬decide ((3:Fin 4)=1)=true;decide) ?_)))))
  unfold zU
  refine(yB aai (yB aai (yB (by show¬decide ((3:Fin 4)=2)=true;decide) (zy (by show decide ((3:Fin 4)=3)=true;decide) ?_))))
  rw[zC,zC,zC,zC,cV (by decide)]
  refine⟨A,rfl,?_⟩
  rw[zC,zC,cV (by decide)]
  refine⟨B,rfl,?_⟩
  rw[aj,aj,aj,aj]
  show W (xW m L A B) _
  rw[Hj g d c a b]
  exact aj.mpr rfl
theorem Sd(g:Gr m n)(b:wO n m.fair)(c:∀mk∈m.marks,aJ n mk.2){L:LI}(a:aJ n L)(t:Tr):wW m L (eV.mk (cl:=cl) t) ((iH t).map (vv m n L))=some (vv m n L t):=by
 cases t with
 |all =>
  show yN m=_
  exact Lg g
 |mark x =>
  exact(Hl g c x).1
 |one i t=>exact Lj g b a (Ho g b c a t) i t
 |two i l r=>exact Lk g b a (Ho g b c a l) (Ho g b c a r) i l r
def post:Tr->List Tr
 |.all=>[.all]
 |.mark x=>[.mark x]
 |.one i t=>post t++[.one i t]
 |.two i l r=>post l++post r++[.two i l r]
theorem Oa(t:Tr):post t=(iH t).flatMap post++[t]:=by cases t<;>simp[post,iH]
theorem VD:∀t:Tr,(post t).length<2^(t.depth+1)
 |.all=>by decide
 |.mark x=>by show 1<2;decide
 |.one i t=>by
  have:=VD t
  show(post t++[_]).length<2^(t.depth+1+1)
  grind
 |.two i l r=>by
  have a:=VD l
  have b:=VD r
  have c:2^(l.depth+1)<=2^(max l.depth r.depth+1):=acp (by decide) (by omega)
  have d:2^(r.depth+1)<=2^(max l.depth r.depth+1):=acp (by decide) (by omega)
  show(post l++post r++[_]).length<2^(max l.depth r.depth+1+1)
  grind
theorem VF{t:Tr}{k:Nat}(h:t.depth<k)(hk:k<=9):(post t).length<=512:=aas (ab3 (VD t)) (aas (acp (by decide) (show t.depth+1<=9 by omega)) (by decide))
theorem VG{t:Tr}(b:t.depth<9)(i:Nat):(((iH t).take i).flatMap post).length<=512:=by
 have a:=VF b (aak _)
 have e:(iH t).flatMap post=((iH t).take i).flatMap post++((iH t).drop i).flatMap post:=by rw[<-flatMap_append,take_append_drop]
 rw[Oa,e,length_append,length_append] at a
 omega
theorem VH:∀{t u:Tr},u∈post t->u.depth<=t.depth
 |.all,u,h=>by cases mem_singleton.mp h;grind
 |.mark x,u,h=>by cases mem_singleton.mp h;grind
 |.one i t,u,h=>by
  rcases mem_append.mp h with h|h
  ·have:=VH h;show _<=t.depth+1;omega
  grind
 |.two i l r,u,h=>by
  rcases mem_append.mp h with h|h
  ·rcases mem_append.mp h with h|h
   ·have:=VH h;show _<=max l.depth r.depth+1;omega
   ·have:=VH h;show _<=max l.depth r.depth+1;omega
  grind
theorem zU9(g:Gr m n)(r:wO n m.fair)(p:∀mk∈m.marks,aJ n mk.2){L:LI}(s:aJ n L):∀(k:Nat)(t:Tr),t.depth<k->k<=9->W (wA k m L (eV.mk (cl:=cl) t)) (· = cW.mk ((post t).map (vv m n L)))
 |0,t,h,_=>absurd h (ab2 _)
 |k+1,t,h,h9=>by
  show W (wP (wA k) m L _) _
  unfold wP
  rw[zC,aj,zC,aj,zC,zC,aj]
  show W (xN _ ((iH t).map eV.mk) _) _
  have l2:(iH t).length<=2:=by cases t<;>simp[iH]
  refine vA (λi z=>z.1.xss=(((iH t).take i).flatMap post).map (vv m n L)/\z.2=((iH t).take i).map (vv m n L)) ⟨rfl,rfl⟩ (λi x z q f=>?_) λz f=>?_
  ·obtain⟨c,b⟩:=f
   rw[getElem?_map] at q
   obtain⟨u,j,rfl⟩:=adh.mp q
   have du:=zIt (mem_of_getElem? j)
   rw[zC,zC]
   refine(zU9 g r p s k u (by omega) (by omega)).imp λT e=>?_
   subst e
   have l:=VG (t:=t) (by omega) i
   have f2:=VF (t:=u) (k:=k) (by omega) (by omega)
   have o:(post u).map (vv m n L)=((iH u).flatMap post).map (vv m n L)++[vv m n L u]:=by rw[Oa,map_append];rfl
   unfold pN
   rw[if_pos (aap (show _<=2000 by rw[c,length_map,length_map];omega) (by decide)),aj,zC,zC]
   show W (L2.bL (z.1.xss++(post u).map (vv m n L)) (-(1:Int))) _
   rw[o,<-append_assoc,pX,aj,b,tM]
   refine⟨yS (by rw[length_map,length_take];omega),?_⟩
   rw[aj]
   refine⟨?_,?_⟩
   ·show(z.1.xss++((iH u).flatMap post).map (vv m n L))++[vv m n L u]=_
    rw[append_assoc,<-o,c,take_add_one,j,flatMap_append,map_append]
    simp
   ·show((iH t).take i).map (vv m n L)++[vv m n L u]=_
    rw[take_add_one,j,map_append]
    rfl
  ·obtain⟨a,d⟩:=z
   obtain⟨c,b⟩:=f
   rw[length_map,take_length] at c b
   have b:d=(iH t).map (vv m n L):=b
   have v:a.xss=((iH t).flatMap post).map (vv m n L):=c
   clear c
   have l:=VG (t:=t) (by omega) (iH t).length
   rw[take_length] at l
   subst b
   rw[zC,zC]
   show W (wW m L (eV.mk (cl:=cl) t) ((iH t).map (vv m n L))) _
   rw[Sd g r p s t,aj]
   unfold pL
   rw[if_pos (yS (by show a.xss.length<=1000;rw[v,length_map];omega)),aj,aj]
   show cW.mk (a.xss++[vv m n L t])=_
   rw[v,Oa t,map_append]
   rfl
theorem zOu(g:Gr m n)(c:wO n m.fair)(d:∀mk∈m.marks,aJ n mk.2){L:LI}(a:aJ n L)(e:G5 m=some L){t:Tr}(b:t.depth<9):K6 m (eV.mk (cl:=cl) t)=some (cW.mk ((post t).map (vv m n L))):=by
 apply oF
 unfold K6
 rw[zC,zC,zC,e,aj,aj,aj]
 exact zU9 g c d a 9 t b (aak _)
theorem Ln(g:Gr m n)(c:wO n m.fair)(d:∀mk∈m.marks,aJ n mk.2){L:LI}(a:aJ n L)(e:G5 m=some L){t:Tr}(b:t.depth<9):NT m (eV.mk (cl:=cl) t)=some (vv m n L t):=by
 unfold NT
 rw[zOu g c d a e b]
 rw[Oa,map_append]
 exact pX
end
end Ts
set_option maxHeartbeats 40000000
namespace Ts
open PySem L2 Sy
section
variable{P:Program}{w:World}{K:Frag}{mg:Str->Option Value}{base:Heap}
def VJ(C:Addr)(cl:Hd->Addr)(S:I8)(ch:bY×Unit):Option Bool:=(J5 (d_ S.ns none (some (60:Int)))).bind λs=>(uO s ).bind λd=>((some (d_ d.2 (some (-(12:Int))) none)).bind λQ=>(uO Q ).bind λr=>some r.1).bind λh=>(if(decide ((7:Int)<(h.a.length:Int)))=true then(some (oU.mk ([[(0:Int)]]) ([(("wet":Str),[(0:Int)])]) (([]:List LI)))).bind λl=>some l else some h).bind λO=>(some (([]:List (aF C)))).bind λg=>((some ([d.1,O])).bind λp=>xN (λ(R:List (aF C)) (q:oU (List LI) (List (Str×LI)) (List LI))=>((((some q.a).bind λp=>bh (λ(u:LI)=>some true) (λ(u:LI)=>some u) p).bind λH=>((some q.b).bind λp=>bh (λ(m:Str×LI)=>some true) (λ(m:Str×LI)=>some (m.1,m.2)) p).bind λN=>Ny C H (some N) (some q.c)).bind λv=>push R v).bind λf=>some f) p g).bind λL=>(((bL ([(12:Int),(5:Int)]) (if(decide ((7:Int)<(d.1.a.length:Int)))=true then(1:Int) else 0)).bind λD=>some (-D)).bind λA=>some (d_ d.2 (some A) none)).bind λ_=>(λj:bY=>(some ()).bind λLp=>((some (d_ ([(0:Int),(1:Int),(0:Int)]) none (some ((3:Int)-(if(decide ((7:Int)<(d.1.a.length:Int)))=true then(1:Int) else 0))))).bind λp=>uE (λ(t:List (Key×(List LI))) (i:Int)=>(((bL L i).bind λB=>(((((bL ([d.1,O]) i).bind λE=>some E.a).bind λM=>some (M.length:Int)).bind λx=>some ((x,()))).bind λy=>some (j,y)).bind λJ=>some (B,J)).bind λn=>vN cl n.1 n.2.1 n.2.2.1).bind λe=>(if e.isNone=true then some true else(e.bind λz=>some ((cN (Dc.mk t).kv i).getD z)).bind λF=>e.bind λG=>some (!decide (F=G))).bind λb=>if b=true then(some false).bind λb=>some (.rt b) else(e.bind λI=>dput t i I).bind λk=>some (.nx k)) p (([]:List (Key×(List LI))))).bind λo=>o.els λRN=>some true) ch.1
def Hq(C:Addr)(cl:Hd->Addr)(_:I8):Option Bool:=some true
end
theorem Sh(xs:LI):(d_ xs none (some (60:Int))).length<=60:=by
 unfold d_
 rw[length_take,show(60:Int)=((60:Nat):Int) from rfl,HT.Aq]
 omega
theorem jq:uP "p" = some true/\uP "wet" = some true/\uP "darkness" = some true:=by decide +kernel
theorem Lq{n:Int}(h0:0<=n)(Km:n<=60):bW n=some (rng n):=oF (cU.mpr ⟨⟨by omega,by omega⟩,rfl⟩)
theorem Eh{n:Int}{X:LI}(h:aJ n X):(rng n).filter (λz=>decide (z∈X))=X:=(DK h λs _ _=>by grind).symm
theorem Sq{xs ys:List bY}{Q:List bY->Prop}(h:xs.length+ys.length<=1100)(q:Q (xs++ys)):W (sE xs ys) Q:=by
 unfold sE
 rw[if_pos (aap h (by decide)),aj]
 exact q
theorem Ss:∀t:Tr,Vo t=false->¬kn t=("mark":Str):=by
 intro t h
 cases t with
 |all=>decide +kernel
 |mark x=>cases h
 |one i t=>exact(by decide +kernel:∀i,¬w1 i=("mark":Str)) i
 |two i l r=>exact(by decide +kernel:∀i,¬w2 i=("mark":Str)) i
theorem zLg:∀(k:Nat)(t:Tr),t.depth<k->k<=7->W (uH k (bY.mk t)) (· = (post t).map bY.mk)
 |0,t,h,_=>absurd h (ab2 _)
 |k+1,t,h,h9=>by
  show W (RX (uH k) (bY.mk t)) _
  unfold RX
  have m:=VG (t:=t) (by omega) (iH t).length
  have c:∀d:List bY,d=((iH t).flatMap post).map bY.mk->W ((push d (bY.mk t)).bind λf=>some f) (· = (post t).map bY.mk):=λd e=>by
   rw[take_length] at m
   rw[zC,tM]
   refine⟨yS (by rw[e,length_map];omega),?_⟩
   rw[aj,e,Oa t,map_append]
   rfl
  rw[zC,aj,zC]
  cases a:Vo t with
  |true =>
   cases t with
   |mark x =>
    rw[show kn (bY.mk (Tr.mark x)).t=("mark":Str) from rfl,decide_eq_true rfl,abk,if_neg (show¬(false=true) by decide),aj]
    exact c [] rfl
   |all=>cases a
   |one i t=>cases a
   |two i l r=>cases a
  |false =>
   rw[decide_eq_false (Ss t a),aei,if_pos rfl,zC,zC]
   unfold lE
   rw[if_neg (by rw[show(bY.mk t).t=t from rfl,a];decide),aj]
   refine vA (λi z=>z=(((iH t).take i).flatMap post).map bY.mk) rfl (λi x z j b=>?_) λz b=>?_
   ·rw[getElem?_map] at j
    obtain⟨u,g,rfl⟩:=adh.mp j
    have du:u.depth<t.depth:=zIt (mem_of_getElem? g)
    have f1:=VG (t:=t) (by omega) i
    have f2:=VF (t:=u) (k:=k) (by omega) (by omega)
    rw[zC,zC]
    refine(zLg k u (by omega) (by omega)).imp λT e=>?_
    subst e
    refine Sq (by rw[b,length_map,length_map];omega) ?_
    rw[aj,b,take_add_one,g,flatMap_append,map_append]
    simp
   ·rw[aj]
    rw[length_map,take_length] at b
    exact c z b
section
variable{C:Addr}{cl:Hd->Addr}{m:aF C}{n:Int}
theorem Hr(t:Tr)(h:t.depth<=5):KQ cl (bY.mk t)=some (eV.mk t):=by
 unfold KQ
 rw[if_pos (show t.depth<6 by omega)]
theorem zRr{α:Type}(xs:List α):d_ xs (some (1:Int)) none=xs.drop 1:=by
 unfold d_
 cases xs with
 |nil=>rfl
 |cons x xs =>
  have e:HT.cG (x::xs).length 0 (some (1:Int))=1:=by
   unfold HT.cG
   simp
  rw[e]
  show((x::xs).drop 1).take ((x::xs).length-1)=_
  simp
theorem Lr(g:Gr m n)(n1:1<=n)(d:wO n m.fair)(b:∀mk∈m.marks,aJ n mk.2){L:LI}(c:aJ n L)(o:G5 m=some L){t:Tr}(y:t.depth<=5):W (vN cl m (bY.mk t) n) (· = some ((post t).map (vv m n L))):=by
 have pl:=VF (t:=t) (k:=6) (by omega) (by decide)
 have rl:=Vz g.few (by omega)
 unfold vN
 rw[zC,zC,zC,zC,Hr t y,aj,aj,aj]
 show W (K6 m (eV.mk (cl:=cl) t)) _
 rw[zOu g d b c o (by omega),aj,zC]
 refine(zLg 7 t (by omega) (by decide)).imp λdue e=>?_
 subst e
 rw[zC,if_neg (show¬((!true)=true) by decide),aj,length_map,length_map,decide_eq_true rfl,abk,if_neg (show¬(false=true) by decide),zC,aj,zC,zC,aj]
 refine zR6 (λi z=>z=((post t).take i).map (vv m n L)) rfl (λi x z A f=>?_) λz f=>?_
 ·obtain⟨q,j⟩:=getElem?_zip_eq_some.mp A
  rw[getElem?_map] at q j
  obtain⟨u,h,B⟩:=adh.mp q
  rw[h] at j
  have v:bY.mk u=x.2:=aam j
  have il:i<(post t).length:=(aal.mp h).1
  have du:=VH (mem_of_getElem? h)
  have p:=Ho g d b c u
  have lu:=xZ p g.few
  rw[<-B,<-v,zC,if_neg (show¬(false=true) by decide),zC,zC,Lq (by omega) g.few,aj,zWj (λx=>decide (x∈vv m n L u)) (λx=>x),map_id']
  refine⟨yS (by omega),?_⟩
  rw[aj,Eh p,decide_eq_true rfl,abk,if_neg (show¬(false=true) by decide),zC,zC,zC,zC,Hr u (by omega),aj,aj,aj]
  show W (NT m (eV.mk (cl:=cl) u)) _
  rw[Ln g d b c o (by omega),aj,decide_eq_true rfl,abk,if_neg (show¬(false=true) by decide),zC,tM,f]
  refine⟨yS (by rw[length_map,length_take];omega),?_⟩
  rw[zC,tM]
  refine⟨yS (by omega),?_⟩
  rw[aj]
  refine⟨_,rfl,?_⟩
  rw[take_add_one,h,map_append]
  rfl
 ·rw[List.length_zip,length_map,length_map,Nat.min_self,take_length] at f
  subst f
  rw[Ur,zC]
  have w:(post t).map (vv m n L)≠[]:=by rw[Oa];simp
  obtain⟨r,a,l⟩:=List.exists_cons_of_ne_nil w
  have hr:r.length<=60:=by
   have D:r∈(post t).map (vv m n L):=by rw[l];exact mem_cons_self
   obtain⟨u,_,rfl⟩:=mem_map.mp D
   exact xZ (Ho g d b c u) g.few
  have s:jB (cW.mk ((post t).map (vv m n L))) (0:Int) n=some (cW.mk ((r++[n])::a)):=by
   unfold jB
   rw[if_pos (by decide),l]
   show(if r.length<cap then some (cW.mk ((r::a).set 0 (r++[n]))) else none)=_
   rw[if_pos (yS (by omega))]
   rfl
  rw[s,aj,zRr,zRr,l]
  show W (if(!decide (a=a))=true then _ else _) _
  rw[decide_eq_true rfl,abk,if_neg (show¬(false=true) by decide),zC,aj,zC,aj,aj]
end
structure Good(n:Int)(T:oU (List LI) (List (Str×LI)) (List LI)):Prop where
 pos:1<=n
 few:n<=60
 len:(T.a.length:Int)=n
 row:∀xs∈T.a,N6 n xs
 mo:YX n T.b
 mr:∀mk∈T.b,aJ n mk.2
 fair:wO n T.c
theorem zQ0{n:Int}{T:oU (List LI) (List (Str×LI)) (List LI)}(D:wg n T):Good n T:=by
 obtain⟨n1,c,o,r,⟨k,i,A2,e,m,l,j⟩,q,f4⟩:=D
 have f:(([(("p":Str),k),("wet",i),("darkness",A2)]:List (Str×LI)).map (·.1)).Nodup:=by
  show([("p":Str),"wet","darkness"]:List Str).Nodup
  decide +kernel
 have g:∀d∈T.b,d=(("p":Str),k)\/d=(("wet":Str),i)\/d=(("darkness":Str),A2):=λd h=>by
  rw[e] at h
  simpa using h
 refine⟨n1,c,o,r,⟨by rw[e];exact f,by rw[e];simp,λd h=>?_⟩,λd h=>?_,q⟩
 ·rcases g d h with rfl|rfl|rfl
  ·exact⟨jq.1,(show("p":Str).length<=1000 by decide +kernel),R5 m c⟩
  ·exact⟨jq.2.1,(show("wet":Str).length<=1000 by decide +kernel),R5 l c⟩
  ·exact⟨jq.2.2,(show("darkness":Str).length<=1000 by decide +kernel),R5 j c⟩
 ·rcases g d h with rfl|rfl|rfl
  ·exact m
  ·exact l
  ·exact j
theorem zUe:Good 1 (oU.mk ([[(0:Int)]]) ([(("wet":Str),[(0:Int)])]) (([]:List LI))):=by
 have r:aJ 1 [(0:Int)]:=⟨by simp,λx a=>by cases mem_singleton.mp a;decide⟩
 refine⟨by decide,by decide,rfl,λxs h=>?_,⟨by simp,by simp,λmk h=>?_⟩,λmk h=>?_,⟨by simp,λF h=>by cases h⟩⟩
 ·cases mem_singleton.mp h
  exact zE4 r (by decide) (by simp)
 ·cases mem_singleton.mp h
  exact⟨jq.2.1,(show("wet":Str).length<=1000 by decide +kernel),R5 r (by decide)⟩
 ·cases mem_singleton.mp h
  exact r
theorem zVa(C:Addr){n:Int}{T:oU (List LI) (List (Str×LI)) (List LI)}(D:Good n T):W (((some T.a).bind λxs=>bh (λ(e:LI)=>some true) (λ(e:LI)=>some e) xs).bind λi=>((some T.b).bind λxs=>bh (λ(d:Str×LI)=>some true) (λ(d:Str×LI)=>some (d.1,d.2)) xs).bind λh=>Ny C i (some h) (some T.c)) λm=>∀cl t,t.depth<=5->∃R,W (vN (C:=C) cl m (bY.mk t) n) (· = some R):=by
 have l1:=D.len
 have l2:=D.mo.2.1
 have n60:=D.few
 rw[zC,zC,aj,Jq (λx=>x),map_id']
 refine⟨yS (by omega),?_⟩
 rw[zC,zC,aj,Jq (λx:Str×LI=>(x.1,x.2))]
 refine⟨yS (by omega),?_⟩
 rw[show(T.b.map λx=>(x.1,x.2))=T.b by simp]
 refine(R3 C (mo:=some T.b) (fo:=some T.c) D.len D.pos D.few (λxs r=>DP (D.row xs r)) D.mo D.fair).imp ?_
 rintro m ⟨g,es,j,p⟩ cl t q
 have f:wO n m.fair:=by rw[p];exact D.fair
 have k:∀mk∈m.marks,aJ n mk.2:=by rw[j];exact D.mr
 obtain⟨L,l,o⟩:=Ec g f
 exact⟨_,Lr g D.pos f k o.1 l q⟩
theorem zJp{kvs:List (Key×List LI)}{k s:Int}{v:List LI}:cN (pK kvs (abj k) v) s=if s=k then some v else cN kvs s:=by
 show gK _ _=_
 rw[Xl]
 by_cases e:s=k
 ·rw[if_pos (by rw[e]),if_pos e]
 ·rw[if_neg (λz=>e (Sum.inl.inj z)),if_neg e]
theorem zQn(C:Addr)(cl:Hd->Addr)(s:I8)(ch:bY×Unit)(hch:ch.1.t.depth<=5/\True):VJ C cl s ch=some true:=by
 apply oF
 obtain⟨⟨t⟩,_⟩:=ch
 obtain⟨y,_⟩:=hch
 have y:t.depth<=5:=y
 unfold VJ
 rw[zC]
 have c60:=Sh s.ns
 unfold J5
 rw[if_pos (yS (by omega)),aj,zC]
 refine(zOz _).imp λv ⟨n,D⟩=>?_
 obtain⟨T,rest⟩:=v
 have D:=zQ0 D
 rw[zC,zC,aj,zC]
 refine(zOz _).imp λv2 ⟨n2,D2⟩=>?_
 have D2:=zQ0 D2
 rw[aj]
 have d3:W (if(decide ((7:Int)<(v2.1.a.length:Int)))=true then(some (oU.mk ([[(0:Int)]]) ([(("wet":Str),[(0:Int)])]) (([]:List LI)))).bind λk=>some k else some v2.1) λl=>∃n2,Good n2 l:=by
  rw[Jr]
  exact⟨λ_=>by rw[zC,aj,aj];exact⟨1,zUe⟩,λ_=>aj.mpr ⟨n2,D2⟩⟩
 rw[zC]
 refine d3.imp ?_
 rintro l ⟨n3,D3⟩
 clear d3
 rw[zC,aj,zC,zC,aj]
 refine(show W (xN _ [T,l] []) λm=>∃j d,m=[j,d]/\(∀cl t,t.depth<=5->∃R,W (vN (C:=C) cl j (bY.mk t) n) (· = some R))/\(∀cl t,t.depth<=5->∃R,W (vN (C:=C) cl d (bY.mk t) n3) (· = some R)) from ?_).imp λm ⟨j,d,e10,h0,p⟩=>?_
 ·unfold xN
  rw[zC,zC,zC]
  refine(zVa C D).imp λj h0=>?_
  rw[tM]
  refine⟨yS (by simp),?_⟩
  rw[aj]
  unfold xN
  rw[zC,zC,zC]
  refine(zVa C D3).imp λd p=>?_
  rw[tM]
  refine⟨yS (by simp),?_⟩
  rw[aj]
  unfold xN
  rw[aj]
  exact⟨j,d,rfl,h0,p⟩
 subst e10
 obtain⟨w,q0⟩:=h0 cl t y
 obtain⟨B,q1⟩:=p cl t y
 have mo2:W (L2.bL ([(12:Int),(5:Int)]) (if(decide ((7:Int)<(T.a.length:Int)))=true then(1:Int) else 0)) λ_=>True:=by
  by_cases c:(decide ((7:Int)<(T.a.length:Int)))=true
  ·rw[if_pos c]
   exact⟨5,rfl,trivial⟩
  ·rw[if_neg c]
   exact⟨12,rfl,trivial⟩
 rw[zC,zC,zC]
 refine mo2.imp λmost _=>?_
 rw[aj,aj]
 show W ((some ()).bind _) _
 rw[zC,aj,zC,zC,aj]
 have hx:∀x∈d_ ([(0:Int),(1:Int),(0:Int)]) none (some ((3:Int)-(if(decide ((7:Int)<(T.a.length:Int)))=true then(1:Int) else 0))),x=0\/x=1:=λx hx=>by
  have:x∈[(0:Int),1,0]:=List.mem_of_mem_drop (mem_of_mem_take hx)
  simp at this
  omega
 have hl:(d_ ([(0:Int),(1:Int),(0:Int)]) none (some ((3:Int)-(if(decide ((7:Int)<(T.a.length:Int)))=true then(1:Int) else 0)))).length<=3:=by
  unfold d_
  rw[length_take,length_drop]
  show min _ (3-_)<=3
  omega
 refine zR6 (λi z=>z.length<=i/\(∀v,cN z 0=some v->v=w)/\∀v,cN z 1=some v->v=B) ⟨aak _,λv h=>(by cases h),λv h=>(by cases h)⟩ (λi x z hi hz=>?_) λz hz=>by rw[Ur,aj]
 obtain⟨z0,z1,z2⟩:=hz
 have il:=aaq (aal.mp hi).1 hl
 have u:∀R,(∀v,cN z x=some v->v=R)->(x=0->R=w)->(x=1->R=B)->W ((if(some R:Option (List LI)).isNone=true then some true else((some R).bind λa33=>some ((cN (Dc.mk z).kv x).getD a33)).bind λa34=>(some R).bind λb35=>some (!decide (a34=b35))).bind λb=>if b=true then(some false).bind λb=>some (Out.rt b) else((some R).bind λa37=>dput z x a37).bind λg=>some (.nx g)) λo=>∃s',o=.nx s'/\s'.length<=i+1/\(∀v,cN s' 0=some v->v=w)/\∀v,cN s' 1=some v->v=B:=λR p h2 h3=>by
  have e:(cN z x).getD R=R:=by
   cases q:cN z x with
   |none=>rfl
   |some v=>exact p v q
  rw[zC,if_neg (by simp),zC,zC,aj,aj,zC,aj,aj]
  show W (if(!decide ((cN z x).getD R=R))=true then _ else _) _
  rw[e,decide_eq_true rfl,abk,if_neg (show¬(false=true) by decide),zC,zC,aj]
  unfold dput
  rw[if_pos (yS (by omega)),aj,aj]
  refine⟨_,rfl,aas (Xm _ _ _) (by omega),λv f=>?_,λv f=>?_⟩
  ·rw[zJp] at f
   split at f
   ·rename_i e;cases f;exact h2 e.symm
   ·exact z1 v f
  ·rw[zJp] at f
   split at f
   ·rename_i e;cases f;exact h3 e.symm
   ·exact z2 v f
 rcases hx x (mem_of_getElem? hi) with rfl|rfl
 ·rw[zC,zC,zC,show L2.bL [j,d] (0:Int)=some j from rfl,aj,zC,zC,zC,zC,zC,show L2.bL [(T,rest).1,l] (0:Int)=some T from rfl,aj,aj,aj,aj,aj,aj]
  show W (vN cl j (bY.mk t) (T.a.length:Int)) _
  rw[D.len]
  refine q0.imp λr e=>?_
  subst e
  exact u w z1 (λ_=>rfl) λh=>absurd h (by decide)
 ·rw[zC,zC,zC,show L2.bL [j,d] (1:Int)=some d from rfl,aj,zC,zC,zC,zC,zC,show L2.bL [(T,rest).1,l] (1:Int)=some l from rfl,aj,aj,aj,aj,aj,aj]
  show W (vN cl d (bY.mk t) (l.a.length:Int)) _
  rw[D3.len]
  refine q1.imp λr e=>?_
  subst e
  exact u B z2 (λh=>absurd h (by decide)) λ_=>rfl
end Ts
set_option profiler true
set_option profiler.threshold 3000
set_option maxHeartbeats 40000000
namespace Ts
open PySem L2 Sy
section
variable{P:Program}{w:World}{K:Frag}{mg:Str->Option Value}{base:Heap}
theorem wu:ao ["_law_script","_law_rest","_law_drawn_here","_law_other","_law_machines","_law_steps","_law_marks","_law_fair","_law_tree","_law_kept","_law_k","_law_told_here"] ["_law_script"] (zH mY):=fsc
abbrev Sv(K:Frag)(C:Addr)(cl:Hd->Addr):Sp:=b_ K false (λa:I8×Unit=>([.z a.1]:SL K)) (λa=>Hq C cl a.1)
theorem Ls{k0:Nat}{C:Addr}{cl:Hd->Addr}{f:Addr}{fd:FuncData}(F:aV K "law" "law" mY f fd)(B:Bl K mg)(T:Cl K mg C){fI:Addr}{Sw:FuncData}(MK:Mk K C fI)(GI:aq P w K mg base aP k0 fI Sw ["self","steps","marks","fair"] (pD K C (Ny C)))(Y6:Binds K Sw ["self","steps","marks","fair"] [])(jK:mg "reversed" = none)(gB:bw P w K mg base (k0+1) "_law_drawn" ["_law_rest"] (zJ3 K))(jL:bw P w K mg base (k0+1) "_law_grown" ["_law_rest","_law_names","_law_deep"] (zJ2 K))(lQ:bw P w K mg base (k0+1) "_law_told" ["_law_machine","_law_tree","_law_many"] (zMw K C cl)):aq P w K mg base aP ((k0+1)+1) f fd ["_law_script"] (Sv K C cl):=by
 refine yJ F wu (λ_=>rfl) (λ_=>rfl) λcdv A outer s H E hr=>?_
 have nd:=wu.nd
 have hu:=T5 hr
 refine⟨_,(zB (Ba (i:=1) (own:=["_law_cell_here"]) (ix:=[]) nd rfl rfl rfl rfl rfl (J6 K jK (zA (uZ (rR K) (pv 0) FN (FQ zK)) zD)) (λC s H fp=>yQ (i:=0) (show(["_law_cell_here"]:List Str).Nodup from by decide +kernel) rfl (Or.inl rfl)) (λC s H fp=>wR) (λC s H fp=>(pv 0))) (zB (xH 2 nd (zX gB hr (zA (pv 1) zD))) (zB (xH 3 nd (zX gB hr (zA (uZ (rR K) (pv 1) (FQ (Tn Tw zK)) FN) zD))) (zB (yT (zZ Tz (zS (uS K) rfl B.len aa2 (zA (yH (u5 K) (pv 3) zK (λ_ _=>rfl)) zD)) zK (yL _)) (zB (xH 3 nd (uY (zA (xF (zA (xF (zA zK zD)) zD)) (zA (xF (zA (uY (zA yE (zA (xF (zA zK zD)) zD))) zD)) (zA (xF zD) zD))))) zG) zG) (zB (xH 4 nd (xF zD)) (zB (xI aat rfl (yU K (xF (zA (pv 2) (zA (pv 3) zD)))) (Fj rfl (yP (bV 5 nd) (yP (bV 6 nd) (yP (bV 7 nd) yh)))) (zB (zY (ql K aao aav aaw xB (pv 4) (zA (vD MK GI hr rfl T.mgC Y6 .nil xR (zA (yt (own:=["_law_some"]) (ix:=[]) rfl rfl rfl (yU K (pv 5)) (λC s H fp=>yQ (i:=0) (show(["_law_some"]:List Str).Nodup from by decide +kernel) rfl (Or.inl rfl)) (λC s H fp=>wR) (λC s H fp=>(wT (Jm K) rfl B.list Bt (zA (pv 0) zD)))) (zA (yt (own:=["_law_name","_law_some"]) (ix:=[]) rfl rfl rfl (yU K (pv 6)) (λC s H fp=>WT (K:=K) (n:=2) rfl rfl (yP (yQ (i:=0) (show(["_law_name","_law_some"]:List Str).Nodup from by decide +kernel) rfl (Or.inl rfl)) (yP (yQ (i:=1) (show(["_law_name","_law_some"]:List Str).Nodup from by decide +kernel) rfl (Or.inl rfl)) yh))) (λC s H fp=>wR) (λC s H fp=>(uY (zA (pv 0) (zA (wT (Jm K) rfl B.list Bt (zA (pv 1) zD)) zD))))) (zA (pv 7) zD)))) zD))) zG)) (zB (xH 8 nd (zX jL hr (zA (uZ (rR K) (pv 1) (FQ (Tn Tw (yH (bQ K) (xF (zA zK (zA zK zD))) (wT ZC rfl B.int Xb (zA (Wa Tz (zS (uS K) rfl B.len aa2 (zA (yH (u5 K) (pv 2) zK (λ_ _=>rfl)) zD)) zK (yL _)) zD)) (λ_ _=>rfl)))) FN) (zA (xF (zA yE (zA yE (zA yE (zA yE zD))))) (zA zK zD))))) (zB (xH 9 nd TX) (zB (xI aat rfl (yU K (uZ (rR K) (xF (zA zK (zA zK (zA zK zD)))) FN (FQ (xT Tt zK (wT ZC rfl B.int Xb (zA (Wa Tz (zS (uS K) rfl B.len aa2 (zA (yH (u5 K) (pv 2) zK (λ_ _=>rfl)) zD)) zK (yL _)) zD)))))) (bV 10 nd) (zB (xH 11 nd (zX lQ hr (zA (yH (bQ K) (pv 4) (pv 10) (λ_ _=>rfl)) (zA (pv 8) (zA (zS (uS K) rfl B.len aa2 (zA (yH (u5 K) (yH (bQ K) (xF (zA (pv 2) (zA (pv 3) zD))) (pv 10) (λ_ _=>rfl)) zK (λ_ _=>rfl)) zD)) zD))))) (zB (yT (PW.pt (pw_or (z_ (Om (pv 11))) (pw_or1 (zZ (M5 K (List LI) hr) (zTn hu (pv 9) (pv 10) (pv 11) ⟨rfl,rfl,rfl,rfl⟩) (pv 11) (yL _))))) (zB (zQ Fd) zG) zG) (zB (TV hu (pv 9) (pv 10) (pv 11) rfl) zG)))) (zB (zQ Fd) zG)))))))))),?_⟩
 rintro Fa ⟨q0,⟨⟩⟩
 refine tR.sb (Nr (uX true 1 rfl rfl (CJ (zUo (zE 0 rfl) (zR 60)).ex)) (λSJ=>(J8 [.z q0,.ow true SJ,.un,.un,.un,.un,.un,.un,.un,.un,.un,.un] (Nr (Vd true 2 (λ_=>⟨_,rfl,rfl⟩) (zUj 1 rfl rfl zO)) (λaG=>(J8 [.z q0,.ow true aG.2,.y aG.1,.un,.un,.un,.un,.un,.un,.un,.un,.un] (Nr (xU true 3 rfl rfl (En.ex (zUr (as:=(λa:Unit=>([]:SL K))) (f:=(λws a=>uO ws )) (zMk (vK 1 rfl) (Uu (zR 12))) zO))) (λwz=>(J8 [.z q0,.ow true aG.2,.y aG.1,.y wz,.un,.un,.un,.un,.un,.un,.un,.un] (Nr (qz (xL (md:=.hp) (Uj (qZ (Vg (zE 3 rfl) (zR 0))) (zR 7))) (zT (xU true 3 rfl rfl (zQ6 (yx (xM (yx (xM (esc (zR 0)) yw) (λa h=>aas ((wM zc) a h) (by decide))).ex yw) (λa h=>aas ((wM zc) a h) (by decide))).ex (yx (xM (W2 (yu "wet") (yx (xM (esc (zR 0)) yw) (λa h=>aas ((wM zc) a h) (by decide))).ex) yw) (λa h=>aas ((wM zc) a h) (by decide))).ex (qX (α:=LI)).ex)) (λLw=>(yD (λs6:oU (List LI) (List (Str×LI)) (List LI)=>([.z q0,.ow true aG.2,.y aG.1,.y s6,.un,.un,.un,.un,.un,.un,.un,.un]:SL K)) Lw bx))) (yD (λs6:oU (List LI) (List (Str×LI)) (List LI)=>([.z q0,.ow true aG.2,.y aG.1,.y s6,.un,.un,.un,.un,.un,.un,.un,.un]:SL K)) wz bx)) (λs5=>(J8 [.z q0,.ow true aG.2,.y aG.1,.y s5,.un,.un,.un,.un,.un,.un,.un,.un] (Nr (uX true 4 rfl rfl (qX (α:=aF C))) (λnq=>(J8 [.z q0,.ow true aG.2,.y aG.1,.y s5,.ow true nq,.un,.un,.un,.un,.un,.un,.un] (Nr (wK (n:=true) (L:=(λs9:List (aF C)=>([.z q0,.ow true aG.2,.y aG.1,.y s5,.ow true s9,.un,.un,.un,.un,.un,.un,.un]:SL K))) nq bx (yW (yx (xM (yM 2 rfl) (xM (yM 3 rfl) yw)) (λa h=>aas ((wM (wM zc)) a h) (by decide))).ex) (λs9=>(CG 5 6 7 rfl rfl (λ_=>rfl) rfl (λ_ _=>rfl) rfl)) (λs9 x11=>(zT (wE 4 rfl rfl (zRi (wZ (n:=true) (ig:=[.un]) (no:=1) (ix:=[]) rfl rfl (yW (yM 5 rfl)) (yG 0 rfl rfl) (λx13=>u_) (λx13=>(Jj (zE 0 rfl)).ex) (λx13=>iu)).ex (wZ (n:=true) (ig:=[.un,.un]) (no:=2) (ix:=[]) rfl rfl (yW (yM 6 rfl)) (Gd 0 1 rfl rfl (λ_=>rfl) rfl) (λx14=>u_) (λx14=>(W2 (zI 0 rfl) (Jj (zE 1 rfl)).ex)) (λx14=>iu)).ex (zE 7 rfl)).ex) (λqK=>(yD (λs9:List (aF C)=>([.z q0,.ow true aG.2,.y aG.1,.y s5,.ow true s9,.un,.un,.un,.un,.un,.un,.un]:SL K)) qK bx))))) (λN5=>(J8 [.z q0,.ow true aG.2,.y aG.1,.y s5,.ow true N5,.un,.un,.un,.un,.un,.un,.un] (zPh (d:=5) 8 rfl rfl (zMk (vK 1 rfl) (Uu (esc (wF (yx (xM (esc (zR 12)) (xM (esc (zR 5)) yw)) (λa h=>aas ((wM (wM zc)) a h) (by decide))).ex (zQ7 (Uj (qZ (Vg (zE 2 rfl) (zR 0))) (zR 7))))))) (yx (xM (esc (yu "p")) (xM (esc (yu "wet")) (xM (esc (yu "darkness")) (xM (esc (yu "x")) yw)))) (λa h=>aas ((wM (wM (wM (wM zc)))) a h) (by decide))).ex rfl (by decide) (zR 5) rfl (by decide) (λoG=>(J8 [.z q0,.ow true aG.2,.y aG.1,.y s5,.ow true N5,.un,.un,.un,.y oG,.un,.un,.un] (CN (zW (T_ (α:=List LI) 9 rfl rfl) (λLp=>(QV [.z q0,.ow true aG.2,.y aG.1,.y s5,.ow true N5,.un,.un,.un,.y oG,.od (([]:List (Key×(List LI))):List (Key×(List LI))),.un,.un] (T8 (Uc (n:=true) (L:=(λK4:List (Key×(List LI))=>([.z q0,.ow true aG.2,.y aG.1,.y s5,.ow true N5,.un,.un,.un,.y oG,.od (K4:List (Key×(List LI))),.un,.un]:SL K))) (([]:List (Key×(List LI)))) bx (yW (zUp (yx (xM (esc (zR 0)) (xM (esc (zR 1)) (xM (esc (zR 0)) yw))) (λa h=>aas ((wM (wM (wM zc))) a h) (by decide))).ex (Jg (zR 3) (zQ7 (Uj (qZ (Vg (zE 2 rfl) (zR 0))) (zR 7))))).ex) (λK4=>(yG 10 rfl rfl)) (λK4 x24=>(PN (xU true 11 rfl rfl (zP (zF (wF (vK 4 rfl) (zI 10 rfl)) (zF (zE 8 rfl) (zF (esc (qZ (Vg (wF (yx (xM (zE 2 rfl) (xM (zE 3 rfl) yw)) (λa h=>aas ((wM (wM zc)) a h) (by decide))).ex (zI 10 rfl)) (zR 0)))) zO))))) (λLy=>(PX (PL (cI (md:=.hp) (Qf (zE 11 rfl))) (xL (md:=.hp) (M6 (zRb (Uw 9 rfl) (zI 10 rfl) (M7 (zE 11 rfl))) (M7 (zE 11 rfl))))) (yC (esc (FZ false))) (PN (Xn 9 rfl rfl (M7 (yM (n:=true) 11 rfl).up) (zI 10 rfl)) (λLz=>(T9 (λK4:List (Key×(List LI))=>([.z q0,.ow true aG.2,.y aG.1,.y s5,.ow true N5,.un,.un,.un,.y oG,.od (K4:List (Key×(List LI))),.un,.un]:SL K)) Lz bx)))))))) (λRN=>(yC (esc (FZ true)))))))))))))))))))))))))))))) ⟨(bY.mk .all,()),by show 0<=5;decide,trivial⟩ λch hch=>?_
 exact(show _=VJ C cl q0 ch by unfold VJ;simp only[bnd]).trans (zQn C cl q0 ch hch)
end
open PySem L2
theorem SM(h:aq P w K mg base aP k f m ["_law_rest"] (YM K)):aq P w K mg base aP k f m ["_law_rest"] Sy.Rk:=aq.imp h λvs H Q E ⟨a,d,e,j,q⟩=>by
 subst e
 obtain⟨⟨z,c⟩,i,_⟩:=R9 d
 refine⟨a,d,[],(),z,c,λ_=>none,rfl,j,rfl,(λb o e=>by cases e),i,.nil,λv p g l r=>?_⟩
 have r:v=.int z:=r
 subst r
 exact q z c p (λb o n e=>g b o (by unfold del;rw[if_neg n];exact e)) l
theorem zT4(C:Addr)(cl:Sy.Hd->Addr)(a:I8):W (Hq C cl a) (· = true):=⟨true,rfl,rfl⟩
end Ts
namespace Sy
open PySem L2
section
variable{K:Frag}{C D:Addr}
theorem Ej(c:isClsIn K D=true)(b:typeIn K (.ref D)=some (.type "type"))(a:mroIn K C (.ref D)=some true):kitOne K (.ref C) (.ref D)=some true:=by
 unfold kitOne
 split
 ·rfl
 ·unfold PySem.W.kitCls PySem.W.subIn
  dsimp only
  rw[b,a,show(PySem.W.clsIn K D).isSome=true from c]
  rfl
theorem LC(b:isClsIn K D=true)(c:typeIn K (.ref D)=some (.type "type"))(d:mroIn K C (.ref D)=some false)(hs:mroIn K C (.ref C)=some true):kitOne K (.ref C) (.ref D)=some false:=by
 have a:C≠D:=λe=>by
  grind
 unfold kitOne
 rw[if_neg (λe=>a (aeo (adu e)))]
 unfold PySem.W.kitCls PySem.W.subIn
 dsimp only
 rw[c,d,show(PySem.W.clsIn K D).isSome=true from b]
 rfl
def VL(K:Frag)(C:Addr):List Addr->Prop
 |[]=>True
 |D::r=>mroIn K C (.ref D)=some false/\VL K C r
def xg(K:Frag):List Addr->List Addr->Prop
 |_,[]=>True
 |p,C::r=>mroIn K C (.ref C)=some true/\VL K C p/\VL K C r/\xg K (C::p) r
theorem zL8(h:VL K C a)(m:D∈a):mroIn K C (.ref D)=some false:=by
 induction a with
 |nil=>cases m
 |cons E r ih =>
  cases m with
  |head=>exact h.1
  |tail _ m=>exact ih h.2 m
theorem SN:∀{p:List Addr},xg K p r->∀{i:Nat},r[i]?=some C->mroIn K C (.ref C)=some true/\(D∈p->mroIn K C (.ref D)=some false)/\∀{j:Nat},r[j]?=some D->j≠i->mroIn K C (.ref D)=some false:=by
 induction r with
 |nil=>intro p _ i e;cases e
 |cons E r ih =>
  intro p h i e
  cases i with
  |zero =>
   cases e
   refine⟨h.1,zL8 h.2.1,λ{j} f n=>?_⟩
   cases j with
   |zero=>exact absurd rfl n
   |succ j=>exact zL8 h.2.2.1 (mem_of_getElem? f)
  |succ i =>
   obtain⟨a,b,c⟩:=ih h.2.2.2 e
   refine⟨a,λm=>b (.tail _ m),λ{j} f n=>?_⟩
   cases j with
   |zero=>cases f;exact b (.head _)
   |succ j=>exact c f λq=>n (congrArg _ q)
end
def hix:Hd->Nat
 |.all=>0
 |.mark=>1
 |.one i=>i.val+2
 |.two i=>i.val+9
theorem Ek(h:Hd)(t:Tr):Ts.iw h t=decide (hix h=hix (hd t)):=by
 cases h<;>cases t
 case one.one i j _=>exact decide_eq_decide.2 ⟨λe=>by subst e;rfl,λe=>Fin.ext (by have e:i.val+2=j.val+2:=e;omega)⟩
 case two.two i j _ _=>exact decide_eq_decide.2 ⟨λe=>by subst e;rfl,λe=>Fin.ext (by have e:i.val+9=j.val+9:=e;omega)⟩
 all_goals first|rfl|(symm;apply decide_eq_false;intro e;simp only[hix,hd] at e;omega)
theorem Em:∀i:Fin 7,i=0\/i=1\/i=2\/i=3\/i=4\/i=5\/i=6:=by decide
theorem Ep:∀i:Fin 4,i=0\/i=1\/i=2\/i=3:=by decide
abbrev Y7(K:Frag)(C:Addr):Prop:=findIn K (.ref C) "__class__" = some (some (.builtin "object.__class__"))/\mroIn K C (.type "object")=some true/\isClsIn K C=true/\typeIn K (.ref C)=some (.type "type")
abbrev qL(K:Frag)(C:Addr)(x y:Str)(st:Stmt):Prop:=nsIn K aa3 x=some (some (.ref C))/\(∃f b,Mk K C f/\aV K "__init__" y st f b)/\Cls K C/\(findIn K (.ref C) "word" = some none/\findIn K (.ref C) "parts" = some none/\findIn K (.ref C) "part" = some none/\findIn K (.ref C) "left" = some none/\findIn K (.ref C) "right" = some none/\findIn K (.ref C) "name" = some none)/\Y7 K C
abbrev VN(K:Frag)(C:Addr)(x y:Str)(st:Stmt):Prop:=nsIn K aa3 x=some (some (.ref C))/\∃f b,oR K C "__init__" f/\aV K "__init__" y st f b
def HdQ(K:Frag)(C f:Addr):Prop:=Mk K C f/\fj K C/\Y7 K C
section
variable{K:Frag}{h:Heap}{mg:Str->Option Value}{C:Addr}{x y:Str}{st:Stmt}
theorem LK(a:nsIn K aa3 x=some (some (.ref C)))(c:oR K C "__init__" f)(F:aV K "__init__" y st f b):VN K C x y st:=⟨a,f,b,c,F⟩
theorem LQ(a:nsIn K aa3 x=some (some (.ref C)))(m:Mk K C f)(F:aV K "__init__" y st f b)(c:Cls K C)(n:(findIn K (.ref C) "word" = some none/\findIn K (.ref C) "parts" = some none/\findIn K (.ref C) "part" = some none/\findIn K (.ref C) "left" = some none/\findIn K (.ref C) "right" = some none/\findIn K (.ref C) "name" = some none)/\Y7 K C):qL K C x y st:=⟨a,⟨f,b,m,F⟩,c,n⟩
theorem sO(X:K.In h)(G:h.Ns aa3 mg)(p:qL K C x y st):mg x=some (.ref C)/\∃f b,aV K "__init__" y st f b/\HdQ K C f:=by
 obtain⟨a,⟨f,b,m,F⟩,c,⟨n1,n2,d,g,e,i⟩,r⟩:=p
 exact⟨mg_of X G a,f,b,F,m,⟨c,n1,n2,d,g,e,i⟩,r⟩
end
set_option maxHeartbeats 8000000 in
theorem LR{l:ad1}{K:Frag}(X:K.In h)(G:h.Ns aa3 mg)(bA:VN K CA "Saying" "Saying.__init__" Yj)(bB:VN K CB "OfOne" "OfOne.__init__" Yk)(bD:VN K CD "OfTwo" "OfTwo.__init__" Ym)(h0:qL K C0 "All" "All.__init__" Ks)(h1:qL K C1 "Mark" "Mark.__init__" v8)(h2:qL K C2 "Not" "Not.__init__" Ku)(h3:qL K C3 "SomeNext" "SomeNext.__init__" Yn)(h4:qL K C4 "EachNext" "EachNext.__init__" Yo)(h5:qL K C5 "SomeAlways" "SomeAlways.__init__" Yp)(h6:qL K C6 "EachAlways" "EachAlways.__init__" Yq)(h7:qL K C7 "SomeEver" "SomeEver.__init__" Yr)(h8:qL K C8 "EachEver" "EachEver.__init__" Ys)(h9:qL K C9 "Both" "Both.__init__" v9)(h10:qL K C10 "Either" "Either.__init__" Yt)(h11:qL K C11 "SomeTill" "SomeTill.__init__" Yu)(h12:qL K C12 "EachTill" "EachTill.__init__" Yv)(m:xg K [] [C0,C1,C2,C3,C4,C5,C6,C7,C8,C9,C10,C11,C12])(hn:specialIn K (.builtin "object.__class__") "__get__" = some (some (.builtin "getset_descriptor.__get__")))(ht:takesIn K (.builtin "object.__class__")=some true)
   :∃(cl fi:Hd->Addr)(di:Hd->FuncData),∀base:Heap,Ts.pI l.prog w K mg base 3 cl fi di:=by
 obtain⟨aA,fA,dA,cA,FA⟩:=bA
 have aA:=mg_of X G aA
 obtain⟨aB,fB,dB,cB,FB⟩:=bB
 have aB:=mg_of X G aB
 obtain⟨aD,fD,dD,cD,FD⟩:=bD
 have aD:=mg_of X G aD
 obtain⟨a0,f0,d0,F0,Q0⟩:=sO X G h0
 obtain⟨a1,f1,d1,F1,Q1⟩:=sO X G h1
 obtain⟨a2,f2,d2,F2,Q2⟩:=sO X G h2
 obtain⟨a3,f3,d3,F3,Q3⟩:=sO X G h3
 obtain⟨a4,f4,d4,F4,Q4⟩:=sO X G h4
 obtain⟨a5,f5,d5,F5,Q5⟩:=sO X G h5
 obtain⟨a6,f6,d6,F6,Q6⟩:=sO X G h6
 obtain⟨a7,f7,d7,F7,Q7⟩:=sO X G h7
 obtain⟨a8,f8,d8,F8,Q8⟩:=sO X G h8
 obtain⟨a9,f9,d9,F9,Q9⟩:=sO X G h9
 obtain⟨a10,f10,d10,F10,Q10⟩:=sO X G h10
 obtain⟨a11,f11,d11,F11,Q11⟩:=sO X G h11
 obtain⟨a12,f12,d12,F12,Q12⟩:=sO X G h12
 refine⟨λh=>([C0,C1,C2,C3,C4,C5,C6,C7,C8,C9,C10,C11,C12]:List Addr).getD (hix h) 0,λh=>([f0,f1,f2,f3,f4,f5,f6,f7,f8,f9,f10,f11,f12]:List Addr).getD (hix h) 0,λh=>([d0,d1,d2,d3,d4,d5,d6,d7,d8,d9,d10,d11,d12]:List FuncData).getD (hix h) d0,λbase=>?_⟩
 have Z:∀h,HdQ K (([C0,C1,C2,C3,C4,C5,C6,C7,C8,C9,C10,C11,C12]:List Addr).getD (hix h) 0) (([f0,f1,f2,f3,f4,f5,f6,f7,f8,f9,f10,f11,f12]:List Addr).getD (hix h) 0)/\([C0,C1,C2,C3,C4,C5,C6,C7,C8,C9,C10,C11,C12]:List Addr)[hix h]?=some (([C0,C1,C2,C3,C4,C5,C6,C7,C8,C9,C10,C11,C12]:List Addr).getD (hix h) 0):=λh=>by
  rcases h with _|_|i|i
  ·exact⟨Q0,rfl⟩
  ·exact⟨Q1,rfl⟩
  ·rcases Em i with rfl|rfl|rfl|rfl|rfl|rfl|rfl<;>exact⟨by assumption,rfl⟩
  ·rcases Ep i with rfl|rfl|rfl|rfl<;>exact⟨by assumption,rfl⟩
 have oA:=zQd (P:=l.prog) (w:=w) (mg:=mg) (base:=base) FA
 have bA:=Ts.oO (p0:="self") (p1:="word") (p2:="parts") FA
 have oB:=zTv FB aA cA oA bA
 have bB:=Ts.oO (p0:="self") (p1:="word") (p2:="part") FB
 have oD:=zTu FD aA cA oA bA
 have bD:=Ts.Nk (p0:="self") (p1:="word") (p2:="left") (p3:="right") FD
 have o0:=Kv F0 Q0.2.1 aA cA oA bA
 have o1:=Dn F1 Q1.2.1 aA cA oA bA
 have o2:=Ky F2 Q2.2.1 aB cB oB bB
 have o3:=zKp F3 Q3.2.1 aB cB oB bB
 have o4:=zKs F4 Q4.2.1 aB cB oB bB
 have o5:=zHm F5 Q5.2.1 aB cB oB bB
 have o6:=zHn F6 Q6.2.1 aB cB oB bB
 have o7:=zKq F7 Q7.2.1 aB cB oB bB
 have o8:=zKt F8 Q8.2.1 aB cB oB bB
 have o9:=Dp F9 Q9.2.1 aD cD oD bD
 have o10:=zQe F10 Q10.2.1 aD cD oD bD
 have o11:=zKo F11 Q11.2.1 aD cD oD bD
 have o12:=zKr F12 Q12.2.1 aD cD oD bD
 refine⟨⟨λh=>(Z h).1.1,o0.mono (by decide),Ts.qm F0,o1.mono (by decide),Ts.iZ F1,λi=>by rcases Em i with rfl|rfl|rfl|rfl|rfl|rfl|rfl<;>assumption,λi=>by rcases Em i with rfl|rfl|rfl|rfl|rfl|rfl|rfl<;>(first|exact Ts.iZ F2|exact Ts.iZ F3|exact Ts.iZ F4|exact Ts.iZ F5|exact Ts.iZ F6|exact Ts.iZ F7|exact Ts.iZ F8),λi=>by rcases Ep i with rfl|rfl|rfl|rfl<;>assumption,λi=>by rcases Ep i with rfl|rfl|rfl|rfl<;>(first|exact Ts.oO F9|exact Ts.oO F10|exact Ts.oO F11|exact Ts.oO F12),a0,a1,λi=>by rcases Em i with rfl|rfl|rfl|rfl|rfl|rfl|rfl<;>assumption,λi=>by rcases Ep i with rfl|rfl|rfl|rfl<;>assumption⟩,λh=>(Z h).1.2.1,λh h' t e=>?_,λh=>(Z h).1.2.2.1,hn,ht,λh=>(Z h).1.2.2.2.1⟩
 subst e
 rw[Ek]
 obtain⟨x,_,y⟩:=SN (D:=_) m (Z (hd t)).2
 by_cases e:hix h'=hix (hd t)
 ·rw[decide_eq_true e]
  exact Ej (Z h').1.2.2.2.2.1 (Z h').1.2.2.2.2.2 (by rw[e];exact x)
 ·rw[decide_eq_false e]
  exact LC (Z h').1.2.2.2.2.1 (Z h').1.2.2.2.2.2 (y (Z h').2 e) x
end Sy
namespace Ts
open PySem L2 Sy
def Hs(K:Frag):Sp:=λc H Q _=>∃(a:Addr)(b:LI),c=[.ref a]/\aN K H a (b.map V.int)/\b.length<=63/\∀d,Q (.bl true) d
section
variable{P:Program}{w:World}{K:Frag}{mg:Str->Option Value}{base h:Heap}{j k:Nat}{f C:Addr}{fd:FuncData}{ps:List Str}{sp:Sp}{x y:Str}{st:Stmt}
theorem SQ(no:∀vs H Q E,¬sp vs H Q E):aq P w K mg base aP k f fd ps sp :=
 ⟨λvs H Q E h=>absurd h (no vs H Q E),λA outer s H args us vs Q E _ _ _ _ h=>absurd h (no vs H Q E)⟩
abbrev FP(K:Frag)(x:Str)(st:Stmt):Prop:=∃f fd,nsIn K aa3 x=some (some (.ref f))/\aV K x x st f fd
abbrev MP(K:Frag)(C:Addr)(x y:Str)(st:Stmt):Prop:=∃f fd,Meth K C x f/\aV K x y st f fd
def Ht(K:Frag):List Str->Prop
 |[]=>True
 |x::r=>nsIn K aa3 x=some none/\Ht K r
theorem SX(a:nsIn K aa3 x=some (some (.ref f)))(F:aV K x x st f fd):FP K x st:=⟨f,fd,a,F⟩
theorem S5(a:Meth K C x f)(F:aV K x y st f fd):MP K C x y st:=⟨f,fd,a,F⟩
theorem Er{g n kV b m a e:Value}{od i:Option Addr}{d:Array (Option Value)}(l:K.lookup f=some ⟨n,od,.func (fnOf x y (vY st) (xY st) (zH st) g kV b m i a e),d⟩)(c:codeIn K a y=true)(k:keepIn K (.ref f)=true):v7 K x y st g f (fnOf x y (vY st) (xY st) (zH st) g kV b m i a e):=⟨⟨n,od,kV,b,m,i,a,e,d,rfl,l,c⟩,k⟩
theorem L_(X:K.In h)(G:h.Ns aa3 mg)(p:FP K x st)(t:∀f fd,aV K x x st f fd->aq P w K mg base aP k f fd ps sp/\Binds K fd ps []):bw P w K mg base k x ps sp:=by
 obtain⟨f,fd,a,F⟩:=p
 exact⟨f,fd,(t f fd F).1,(t f fd F).2,F.kp,mg_of X G a⟩
theorem Es(c:Cls K C)(p:MP K C x y st)(t:∀f fd,aV K x y st f fd->aq P w K mg base aP k f fd ps sp/\Binds K fd ps []):dZ P w K mg base k C x ps sp:=by
 obtain⟨f,fd,a,F⟩:=p
 exact⟨⟨f,fd,(t f fd F).1,(t f fd F).2,a⟩,c⟩
theorem bw.m(c:bw P w K mg base j x ps sp)(h:j<=k:=by decide):bw P w K mg base k x ps sp:=c.mono h
theorem dZ.m(c:dZ P w K mg base j C x ps sp)(h:j<=k:=by decide):dZ P w K mg base k C x ps sp:=c.mono h
end
set_option maxHeartbeats 8000000 in
theorem all_mk{l:ad1}{K:Frag}(X:K.In h)(G:h.Ns aa3 mg)(hfa:mg "law" = some (.ref fa))(SY:∃(cl fi:Hd->Addr) (di:Hd->FuncData),∀base:Heap,pI l.prog w K mg base 3 cl fi di)(h1:FP K "sources_of" Vk)(h2:FP K "is_stand" iC)(h3:FP K "check_stands" cX)(h4:FP K "check_steps" dN)(h5:FP K "is_name" jH)(h6:FP K "check_marks" dO)(h7:FP K "check_fair" eH)(h8:FP K "copied" kZ)(h9:FP K "everywhere" eE)(h10:FP K "flags" n8)(h11:FP K "without" jC)(h12:FP K "others" kI)(h13:FP K "together" iy)(h14:FP K "shared" kJ)(h15:FP K "distances" fQ)(h16:FP K "comes_to" iz)(h17:FP K "steps_into" eF)(h18:FP K "stepping_to" dI)(h19:FP K "bits_of" jD)(h20:FP K "onward_bits" dJ)(h21:FP K "rings" n_)(h22:FP K "missed_by" fU)(h23:FP K "fair_rings" eG)(h24:FP K "joined" kO)(h25:FP K "core" qF)(h26:FP K "alive" s_alive)(h27:FP K "some_next" fV)(h28:FP K "some_till" fW)(h29:FP K "spoilers" iB)(h30:FP K "each_till" fX)(h31:FP K "meaning_over_walks" bO)(h32:FP K "meaning" jG)(h33:FP K "table_among" dM)(h34:FP K "table" oh)(h35:FP K "holds" ou)(h36:FP K "_law_cell" lg)(h37:FP K "_law_grown" mX)(h38:FP K "_law_single" lq)(h39:FP K "_law_made" pO)(h40:FP K "_law_bits" lB)(h41:FP K "_law_next" lC)(h42:FP K "_law_drawn" jJ)(h43:FP K "_law_within" iD)(h44:FP K "_law_told" lD)(h45:FP K "law" mY)(aC:nsIn K aa3 "Machine" = some (some (.ref C)))(mk:Mk K C fI)(FI:v7 K "__init__" "Machine.__init__" vp (.ref TD) fI Sw)(lT:K.lookup TD=some ⟨ocT,odT,.seq #[.none,.none] nT,slT⟩)(m0:MP K C "many" "Machine.many" cY)(m1:MP K C "next_of" "Machine.next_of" cg)(m2:MP K C "before" "Machine.before" cO)(m3:MP K C "marked" "Machine.marked" cP)(m4:MP K C "fair_at" "Machine.fair_at" cj)(cC:Cls K C)(nC:findIn K (.ref C) "steps" = some none/\findIn K (.ref C) "marks" = some none/\findIn K (.ref C) "fair" = some none/\findIn K (.ref C) "sources" = some none)(lR:nsIn K aa3 "LETTERS" = some (some (.str "abcdefghijklmnopqrstuvwxyz" sJ)))(dR:nsIn K aa3 "LONGEST_NAME" = some (some (.int 8 lG)))(eN:nsIn K aa3 "MOST_STANDS" = some (some (.int 60 mz)))(dU:nsIn K aa3 "SAYING_WORDS" = some (some (.ref gn)))(mG:K.lookup gn=some ⟨.type "tuple",none,.seq #[.str "all" sS,.str "not" sU,.str "both" sV,.str "either" sW,.str "somenext" sX,.str "eachnext" sY,.str "sometill" sZ,.str "eachtill" tu,.str "someever" tD,.str "eachever" tE] xq,tU⟩)(z:Ht K ["len","range","isinstance","int","bool","list","enumerate","any","all","sorted","str","set","zip","reversed"]) :
  ∃fd:FuncData,(∀(s:Shared)(v:Value),BindsTo s fd ⟨[v],[]⟩ [("_law_script",v)])/\∀base:Heap,K.In base->base.Ns aa3 mg->aq l.prog w K mg base aP 21 fa fd ["_law_script"] (Hs K):=by
 obtain⟨f,fd,a,⟨oc,od,kV,dc,pm,an,cd,ct,sl,rfl,lk,ck⟩,kp⟩:=h45
 have e:=hfa.symm.trans (mg_of X G a)
 cases e
 obtain⟨cl,fi,di,I0⟩:=SY
 obtain⟨Y8,Ma,pY,Y9,S6,S7,qM,Y_,Za,Eu,Zb,Zc,Zd,jK,_⟩:=z
 obtain⟨nS,nM,nF,nB⟩:=nC
 have N:∀{x:Str},nsIn K aa3 x=some none->mg x=none:=λe=>PySem.W.mg_none_of X G e
 have B:Bl K mg:=⟨N Y8,N Ma,N pY,N Y9,N S6,N S7,N qM,Qh,Qj,Qi⟩
 have Ze:=N Y_
 have Zf:=N Za
 have eU:=N Eu
 have Zg:=N Zb
 have Ew:=N Zc
 have Zh:=N Zd
 have tG:=N jK
 have lR:=mg_of X G lR
 have dR:=mg_of X G dR
 have eN:=mg_of X G eN
 have dU:=mg_of X G dU
 have T:Cl K mg C:=⟨cC,nS,nM,nF,nB,mg_of X G aC⟩
 have Y6:Binds K Sw ["self","steps","marks","fair"] []:=λs us KX hl=>by
  obtain⟨_,_,_,_,_,_,_,_,_,rfl,_⟩:=FI.ex
  have h2:us.length=4:=by
   rw[length_append] at hl
   have:([]:List Value).length=0:=rfl
   have h4:(["self","steps","marks","fair"]:List Str).length=4:=rfl
   omega
  match us,h2 with
  |[u0,u1,u2,u3],_=>exact BindsTo.of_defaults rfl (KX _ _ lT) rfl rfl rfl
 refine⟨fnOf "law" "law" (vY mY) (xY mY) (zH mY) .none kV dc pm an cd ct,λs v=>.of_eq rfl,λbase _ _=>?_⟩
 have cal:∀{k:Nat}{x:Str}{st:Stmt}{ps:List Str}{sp:Sp},FP K x st->(∀f fd,aV K x x st f fd->aq l.prog w K mg base aP k f fd ps sp/\Binds K fd ps [])->bw l.prog w K mg base k x ps sp:=λh t=>L_ X G h t
 have xr:∀{k:Nat}{x y:Str}{st:Stmt}{ps:List Str}{sp:Sp},MP K C x y st->(∀f fd,aV K x y st f fd->aq l.prog w K mg base aP k f fd ps sp/\Binds K fd ps [])->dZ l.prog w K mg base k C x ps sp:=λh t=>Es cC h t
 have I:=I0 base
 have lU:∀H:Hp,bT K H gn ((["all","not","both","either","somenext","eachnext","sometill","eachtill","someever","eachever"]:List Str).map V.str):=λH=>.inr ⟨_,_,_,mG,rfl,rfl,(by show 10<=sizeLine;decide),by repeat(first|exact Paired.nil|refine Paired.cons ⟨_,rfl⟩ ?_)⟩
 have qN:=cal h2 λ_ _ F=>⟨zKm (k:=0) F B,iZ F⟩
 have dw:=cal h3 λ_ _ F=>⟨zFa (k:=1) F B qN.m,oO F⟩
 have mH:=cal h4 λ_ _ F=>⟨zF9 (k:=2) F B eN dw.m,qm F⟩
 have tH:=cal h5 λ_ _ F=>⟨zNv (k:=0) F B lR dR dU lU Zf Zg,qm F⟩
 have mJ:=cal h6 λ_ _ F=>⟨zGa (k:=2) F B dw.m tH.m,iZ F⟩
 have oH:=cal h7 λ_ _ F=>⟨zHl (k:=2) F B dw.m,iZ F⟩
 have xu:=cal h8 λ_ _ F=>⟨zQc (k:=0) F B,qm F⟩
 have Zi:=cal h1 λ_ _ F=>⟨Kq F B,qm F⟩
 have OI:aq l.prog w K mg base aP 4 fI Sw ["self","steps","marks","fair"] (pD K C (Ny C)):=Kr (k:=3) FI T B mH.m mJ.m oH.m xu.m Zi.m
 have aL:=xr m0 λ_ _ F=>⟨zFb (k:=0) (C:=C) F B T,qm F⟩
 have bK:=xr m1 λ_ _ F=>⟨zCs (k:=0) (C:=C) F B T eU,iZ F⟩
 have cQ:=xr m2 λ_ _ F=>⟨zDm (k:=0) (C:=C) F B T,iZ F⟩
 have jM:=xr m3 λ_ _ F=>⟨zDl (k:=0) (C:=C) F B T eU,iZ F⟩
 have jr:=xr m4 λ_ _ F=>⟨zCt (k:=0) (C:=C) F B T eU,iZ F⟩
 have cu:=cal h9 λ_ _ F=>⟨zHk (k:=1) (C:=C) F B aL.m,qm F⟩
 have j5:=cal h10 λ_ _ F=>⟨zTs (k:=1) (C:=C) F B aL.m,iZ F⟩
 have nA:=cal h11 λ_ _ F=>⟨zNs (k:=0) F B eU Ew,iZ F⟩
 have jt:=cal h12 λ_ _ F=>⟨zP6 (k:=2) (C:=C) F B cu.m nA.m,iZ F⟩
 have lV:=cal h13 λ_ _ F=>⟨zKj (k:=0) F B eU Ew,iZ F⟩
 have gq:=cal h14 λ_ _ F=>⟨zP5 (k:=0) F B eU Ew,iZ F⟩
 have pZ:=cal h15 λ_ _ F=>⟨zI5 (k:=2) (C:=C) F B cQ.m aL.m j5.m,oO F⟩
 have iG:=cal h16 λ_ _ F=>⟨zKn (k:=3) (C:=C) F B pZ.m,oO F⟩
 have oJ:=cal h17 λ_ _ F=>⟨zHi (k:=1) (C:=C) F B Ze bK.m,oO F⟩
 have mK:=cal h18 λ_ _ F=>⟨zF7 (k:=2) (C:=C) F B j5.m oJ.m,oO F⟩
 have gA:=cal h19 λ_ _ F=>⟨zNw (k:=0) F B,qm F⟩
 have mL:=cal h20 λ_ _ F=>⟨zF8 (k:=1) (C:=C) F B aL.m bK.m gA.m,iZ F⟩
 have Ez:=cal h21 λ_ _ F=>⟨zTq (k:=2) (C:=C) F B eU Ew mL.m,iZ F⟩
 have p7:=cal h22 λ_ _ F=>⟨zI3 (k:=1) (C:=C) F B T jr.m gq.m,iZ F⟩
 have oK:=cal h23 λ_ _ F=>⟨zHj (k:=3) (C:=C) F B p7.m Ez.m,iZ F⟩
 have yc:=cal h24 λ_ _ F=>⟨zQb (k:=0) F B,qm F⟩
 have qO:=cal h25 λ_ _ F=>⟨Dv (k:=4) (C:=C) F B iG.m oK.m yc.m,iZ F⟩
 have EY:=cal h26 λ_ _ F=>⟨zTt (k:=5) (C:=C) F B qO.m cu.m,qm F⟩
 have p8:=cal h27 λ_ _ F=>⟨zI2 (k:=3) (C:=C) F B cu.m gq.m mK.m,oO F⟩
 have qb:=cal h28 λ_ _ F=>⟨zI1 (k:=4) (C:=C) F B iG.m gq.m,Nk F⟩
 have qP:=cal h29 λ_ _ F=>⟨zKk (k:=3) (C:=C) F B jt.m gq.m nA.m,Nk F⟩
 have qd:=cal h30 λ_ _ F=>⟨zI4 (k:=5) (C:=C) F B iG.m qO.m jt.m qP.m lV.m,Nk F⟩
 have gw:=cal h31 λ_ _ F=>⟨zBf (k:=6) (C:=C) (cl:=cl) F B I qO.m qd.m cu.m jt.m p8.m qb.m,Nk F⟩
 have tK:=cal h32 λ_ _ F=>⟨zNt (k:=7) (C:=C) (cl:=cl) F B I jM.m cu.m gw.m jt.m gq.m lV.m,Nk F⟩
 have lW:∀n:Nat,bw l.prog w K mg base (8+n) "table_among" ["machine","living","saying"] (uG K C cl (wA n)):=λn=>by
  induction n with
  |zero=>exact cal h33 λ_ _ F=>⟨SQ (λvs H Q E ⟨_,_,_,_,z,_⟩=>by cases z),oO F⟩
  |succ n ih=>exact cal h33 λ_ _ F=>⟨zF6 (k:=8+n) F B I (tK.mono (aas (by decide) (ab4 8 n))) ih,oO F⟩
 have mO:bw l.prog w K mg base 17 "table_among" ["machine","living","saying"] (zC5 K C cl):=lW 9
 have rC:=cal h34 λ_ _ F=>⟨zTp (k:=17) (C:=C) (cl:=cl) F B EY.m mO.m,iZ F⟩
 have E_:=cal h35 λ_ _ F=>⟨zTr (k:=18) (C:=C) (cl:=cl) F B rC.m,iZ F⟩
 have dh:=cal h36 λ_ _ F=>⟨zP9 (k:=0) F B,qm F⟩
 have jL:bw l.prog w K mg base 8 "_law_grown" ["_law_rest","_law_names","_law_deep"] (zJ2 K):=by
  obtain⟨f,fd,a,F⟩:=h37
  obtain⟨gC,dC,GC0,bC,kC,mC⟩:=dh
  exact⟨f,fd,Sy.GZ F (oO F) (mg_of X G a) (SM GC0) bC kC mC B 6,oO F,F.kp,mg_of X G a⟩
 have qQ:bw l.prog w K mg base 5 "_law_single" ["_law_word","_law_part"] (Sy.KD cl):=by
  obtain⟨f,fd,a,F⟩:=h38
  exact⟨f,fd,Sy.Ro F I.ini,iZ F,F.kp,mg_of X G a⟩
 have yg:bw l.prog w K mg base 11 "_law_made" ["_law_tree"] (YD K cl):=by
  obtain⟨f,fd,a,F⟩:=h39
  obtain⟨gS,dS,GS,bS,kS,mS⟩:=qQ
  exact⟨f,fd,KR (Sy.G4 F (qm F) (mg_of X G a) I.ini GS bS kS mS B 6),qm F,F.kp,mg_of X G a⟩
 have jl:=cal h40 λ_ _ F=>⟨zQa (k:=0) F B,iZ F⟩
 have lN:=cal h41 λ_ _ F=>⟨zP8 (k:=0) F B,oO F⟩
 have gB:=cal h42 λ_ _ F=>⟨zNu (k:=1) F B jl.m dh.m lN.m,qm F⟩
 have qe:∀n:Nat,bw l.prog w K mg base (0+n) "_law_within" ["_law_tree"] (Vt K (uH n)):=λn=>by
  induction n with
  |zero=>exact cal h43 λ_ _ F=>⟨SQ (λvs H Q E ⟨_,_,_,_,z,_⟩=>by cases z),qm F⟩
  |succ n ih=>exact cal h43 λ_ _ F=>⟨zKl (k:=0+n) F B ih,qm F⟩
 have qR:bw l.prog w K mg base 7 "_law_within" ["_law_tree"] (zGw K):=qe 7
 have lQ:=cal h44 λ_ _ F=>⟨zP7 (k:=19) (C:=C) (cl:=cl) F B Zh yg.m qR.m E_.m rC.m,oO F⟩
 refine aq.imp (Ls (k0:=19) (C:=C) (cl:=cl) (j8 lk ck kp) B T mk (OI.mono (by decide)) Y6 tG gB.m jL.m lQ.m) λvs H Q E h=>?_
 obtain⟨a,ns,rfl,hS,h63,hQ⟩:=h
 obtain⟨b,e1,e2⟩:=zT4 C cl ⟨ns⟩
 subst e2
 exact⟨(⟨ns⟩,()),true,H,.refl _,e1,.cons ⟨a,rfl,hS⟩ .nil,λv H' _ r=>by cases r;exact hQ H'⟩
theorem walk{l:ad1}{i:World->Heap->Prop}{d:DefRec}{K:Params->Frag}(n:l.most=some 63)(c:d.params.defaults=[])(k:∀(w:World) (h:Heap),i w h->(K w.params).In h)(F:∀(w:World) (mg:Str->Option Value) (e:Addr) (h:Heap),(K w.params).In h->h.Ns aa3 mg->mg d.name=some (.ref e) ->
   ∃g:FuncData,(∀(s:Shared) (u:Value),BindsTo s g ⟨[u],[]⟩ [("_law_script",u)])/\∀base:Heap,(K w.params).In base->base.Ns aa3 mg->aq l.prog w (K w.params) mg base aP 21 e g ["_law_script"] (Hs (K w.params))) :
  PySem.W.WalkO q loose XP i l.row.toRowW d [] (λf vs=>PySem.call f vs) :=
 L2.A_ n (by decide) c ⟨rfl,by decide,by decide⟩ k F (λ_ _ a m j _ o=>⟨a,m,rfl,o,j,λ_=>rfl⟩) λ_ _ _ _ _ z=>z
end Ts
namespace PySem.W.Fast
def tw2649765738420794671:=0
def tw10206883343408550236:=0
def tw14672025048984936798:=0
def tw4686663501476916751:=0
def tw5095776412667411016:=0
def tw9754454652491060223:=0
def tw16712214104635945626:=0
def tw5915110099152386592:=0
def tw987379746476760563:=0
def tw8510293699137311062:=0
def tw5218899643713148690:=0
def tw9419323946763784394:=0
def tw16321540621697633153:=0
def tw9374455092281150375:=0
def tw13816681543896098945:=0
def tw10944458994802376996:=0
def tw8524866350968732048:=0
def tw12566517580314567854:=0
def tw4192702104030362794:=0
def tw17954064758815203135:=0
def tw11635829777535706582:=0
def tw5540723954014365275:=0
def tw3422573065529465632:=0
def tw13949895496573806091:=0
def tw17491018892682190335:=0
def tw4640899546976914588:=0
def tw10851931078582528077:=0
def tw3618653028629161664:=0
def tw12980360534650717964:=0
def tw9403672095273659342:=0
def tw15861484073517245559:=0
def tw7098653770317335018:=0
def tw12852057831274146200:=0
def tw6062217951307566460:=0
def tw3836822351646712354:=0
def tw3118207499133796451:=0
def tw17765793410016430919:=0
def tw18090604452993548784:=0
def tw17517533457198839003:=0
def tw2076275035433972588:=0
def tw3018770533818682074:=0
def tw10305201160282297228:=0
def tw11241973986237446735:=0
def tw9981345840405503166:=0
def tw14499487285703814276:=0
def tw286560776949400559:=0
def tw2118439472395951839:=0
def tw13317986750916963684:=0
def tw16265713758020950330:=0
def tw8778217014244199295:=0
def tw1481866561147096548:=0
def tw2374220398061004477:=0
def tw7781033814075831159:=0
def tw12100132986740569050:=0
def tw1900673594018161502:=0
def tw3644487248415086590:=0
def tw10543795710587440205:=0
def tw15076554163519605903:=0
def tw15082455814140573911:=0
def tw16154492918460403855:=0
def tw535417238786645455:=0
def tw13728796092561930448:=0
def tw18124358192625878925:=0
def tw12975263298631295851:=0
def tw9089873808237629837:=0
def tw14154529051562352859:=0
def tw13940954105815366468:=0
def tw2674456680937598975:=0
def tw10501304818256891981:=0
def tw155679642068587353:=0
def tw6033002436708081195:=0
def tw7474736073167632780:=0
def tw11826787441828424015:=0
def tw5630392821650601693:=0
def tw1705313885972664366:=0
def tw1411878158375176112:=0
def tw16965167045359055578:=0
def tw3960558986306634084:=0
def tw14501134615969227610:=0
def tw18425878792949270815:=0
def tw12024865199928385698:=0
def tw3638921345334648777:=0
def tw2122480402913426630:=0
def tw8922488524487594374:=0
def tw13557996272273602809:=0
def tw17595083173538307731:=0
def tw13041668497670529140:=0
def tw9798974861555195168:=0
def tw12873290350738376546:=0
def tw12474986088240557628:=0
def tw5787137709509302569:=0
def tw9004295622657340521:=0
def tw4495258663935806690:=0
def tw15429283731778949930:=0
def tw16762375377548372070:=0
def tw14719439184986961672:=0
def tw2304203996449266964:=0
def tw1748475862231002468:=0
def tw13628216528700534900:=0
def tw17115387239903295510:=0
def tw16641568217800826587:=0
def tw862863858497258879:=0
def tw13123939916266446145:=0
def tw9486858384855291514:=0
def tw8674088098262868948:=0
def tw6106902592635417184:=0
def tw1930793613633590749:=0
def tw14084637419749492191:=0
def tw16177312650338847500:=0
def tw15110750738766811857:=0
def tw7098228181889719040:=0
def tw2659397433897127850:=0
def tw4139089865619389942:=0
def tw8554934603307127227:=0
def tw14699599144152796850:=0
def tw4796257662385599583:=0
def tw12330884107651701699:=0
def tw14414899537881592867:=0
def tw17466541706459680763:=0
def tw5414562825529701371:=0
def tw18000201789064927344:=0
def tw669063117595310423:=0
def tw18424909497526017040:=0
def tw2945124551964253591:=0
def tw8136655416244347086:=0
def tw6112753204502106953:=0
def tw4664112144425731331:=0
def tw13229408060559019104:=0
def tw4695401709711640874:=0
def tw2362541317671309841:=0
def tw7846475171767482769:=0
def tw15719412673497326802:=0
def tw3325135250597231992:=0
def tw286862703666525508:=0
def tw2697455165711257831:=0
def tw11656393280382491953:=0
def tw11397649286244532474:=0
def tw9405034255564768464:=0
def tw8355063400075222562:=0
def tw3176485841226303939:=0
def tw8499559036392886165:=0
def tw15885023437527584292:=0
def tw7793578108814638082:=0
def tw433005193318452514:=0
def tw12399372905915195434:=0
def tw3804822628631098624:=0
def tw6882730328078112123:=0
def tw13245109725673736892:=0
def tw3154723013607396306:=0
def tw2562097526740459403:=0
def tw9269627384666198825:=0
def tw13457887829920031236:=0
def tw3665118733450008259:=0
def tw7825721634302812019:=0
def tw9984190019893355528:=0
def tw16411886135098591816:=0
def tw869487385181047158:=0
def tw8442646372584072491:=0
def tw8036310575865470589:=0
def tw8530526007586947979:=0
def tw16762861138180967712:=0
def tw4618572064646141578:=0
def tw7106050661632987918:=0
def tw12974398179746522583:=0
def tw1174275175566022720:=0
def tw14931407295175145357:=0
def tw8084971373930106667:=0
def tw8744166458578999058:=0
def tw992264356490678709:=0
def tw1196446419140053387:=0
def tw13239098139582213231:=0
def tw5069893456302475449:=0
def tw12801490075167406409:=0
def tw10288427688272442494:=0
def tw7672118939130600539:=0
def tw8885822720394873620:=0
def tw3314766752290015424:=0
def tw16244360216625464184:=0
def tw14140367888113081446:=0
def tw433957060092340679:=0
def tw879415579370437480:=0
def tw6926791753313152125:=0
def tw4114072282185250139:=0
def tw12230900012988671058:=0
def tw13571501940717140675:=0
def tw4059595845410476754:=0
def tw14309948237282264602:=0
def tw2129070932182183658:=0
def tw16628938540521107324:=0
def tw1760951485508473426:=0
def tw12304521274927046484:=0
def tw6282481670365207957:=0
def tw1346107765990371805:=0
def tw10344458711814970504:=0
def tw14719052603424377250:=0
def tw9567858272655142992:=0
def tw15807886026482448762:=0
def tw2029231719610878687:=0
def tw11010058347670198138:=0
def tw15459992812614945136:=0
def tw8745319857625058600:=0
def tw1531738579490310293:=0
def tw2085828270247360430:=0
def tw15785510511550608334:=0
def tw12852313249799530659:=0
def tw6516452877206805474:=0
def tw16811743118939336276:=0
def tw8373074641546583218:=0
def tw3489933157942958266:=0
def tw11987487298322252390:=0
def tw16310412671902610000:=0
def tw6482505874253935780:=0
def tw2525179003756492697:=0
def tw1004317289068548578:=0
def tw11061253628826339037:=0
def tw9593329176021061357:=0
def tw15314974477051878308:=0
def tw16837331699702938142:=0
def tw12545728671317016429:=0
def tw18355877676612312341:=0
def tw513766717599848641:=0
def tw3682920907201440596:=0
def tw11687454507750781962:=0
def tw16396537076806170004:=0
def tw17529344624764173872:=0
def tw9167866141899248806:=0
def tw6795085059107245301:=0
def tw7382967445502850740:=0
def tw8777084088247947400:=0
def tw10676894775848630010:=0
def tw2220503591403271929:=0
def tw8312945794775006940:=0
def tw17618561063952247602:=0
def tw16188345236965318304:=0
def tw10996605409712672258:=0
def tw4313859265868888617:=0
def tw16140353531014988706:=0
def tw8784368292658398060:=0
def tw14825934399753578621:=0
def tw8277145666561433538:=0
def tw1933803802793980669:=0
def tw18138876541627519035:=0
def tw3601038115717912395:=0
def tw9078259794302039310:=0
def tw3465772009139599228:=0
def tw2923947561500512742:=0
def tw9902568420645520389:=0
def tw4144126115264236667:=0
def tw15825589426947111069:=0
def tw11906845403185693772:=0
def tw8055520316918544067:=0
def tw12649364220391762882:=0
def tw11321241007503165434:=0
def tw5414051258113548431:=0
def tw10815049827002719203:=0
def tw13804563565286782790:=0
def tw2536986025890351244:=0
def tw11189841786375377375:=0
def tw5663778122771408087:=0
def tw9657613607931947285:=0
def tw11846403472232249867:=0
def tw14334416427769813254:=0
def tw2239798271953996150:=0
def tw13539243839260771119:=0
def tw1211576273577515344:=0
def tw7717018242623751678:=0
def tw14398263193398191528:=0
def tw13809083524747686681:=0
def tw8659028890111989011:=0
def tw3639436729060095413:=0
def tw11930223298704473605:=0
def tw18149957423784112018:=0
def tw15127324147995029401:=0
def tw14218179271085456115:=0
def tw14546300779416925356:=0
def tw15724390895155543673:=0
def tw12337588850659250980:=0
def tw10862170986918420086:=0
def tw10244566251911247982:=0
def tw6735230248878099496:=0
def tw15534076837088120932:=0
def tw5543356977088208857:=0
def tw16356112155246230512:=0
def tw13807048948480358265:=0
def tw14860335435438377347:=0
def tw1419971283025540215:=0
def tw213443587976659823:=0
def tw9785793237308268280:=0
def tw9240409605381605116:=0
def tw519031090505461984:=0
def tw12012864837872441443:=0
def tw8438759610670201850:=0
def tw11191749529418527362:=0
def tw16552704595017267452:=0
def tw7284588141837317845:=0
def tw1285821270005070458:=0
def tw662158598160591608:=0
def tw12230593836643215182:=0
def tw374487420283814061:=0
def tw783505748002920369:=0
def tw10959708740992360481:=0
def tw18223896725698910677:=0
def tw15411090701558476409:=0
def tw10359546351000696566:=0
def tw9118207751547770795:=0
def tw1964874976280657380:=0
def tw8283948496000583789:=0
def tw5267350419965058901:=0
def tw17159261053925036376:=0
def tw10713242589493950167:=0
def tw17596462185838164846:=0
def tw3114057555354094804:=0
def tw2280764697417771120:=0
def tw1397289320115181075:=0
def tw13816214164099473218:=0
def tw8183342342088067716:=0
def tw14156890683402035374:=0
def tw16529949557961652663:=0
def tw4976845172177760580:=0
def tw7629931887880977556:=0
def tw2125977669877873693:=0
def tw7967185773929105874:=0
def tw16533455156291221509:=0
def tw9057170509975419599:=0
def tw916504549477456007:=0
def tw14434205211610209204:=0
def tw17485440932116350028:=0
def tw12601665327966367693:=0
def tw14370444892084313884:=0
def tw13939968963372757776:=0
def tw3875568395920577032:=0
def tw7368638006234451446:=0
def tw12620350163445978042:=0
def tw933201345861364616:=0
def tw16878422101090618205:=0
def tw355811484205172881:=0
def tw9670444379500982472:=0
def tw2437949535792062584:=0
def tw8954106588919378828:=0
def tw17779342491344134737:=0
def tw8048191816262199654:=0
def tw6336558765481807961:=0
def tw2487677305755124356:=0
def tw11548581319658900646:=0
def tw13507640194918566471:=0
def tw154617332662890955:=0
def tw574425315140412831:=0
def tw3219340685860576853:=0
def tw8384701983981099558:=0
def tw13410169339064190767:=0
def tw14290692201148335416:=0
def tw1413153804759987354:=0
def tw5752591724154712749:=0
def tw11372540504888249633:=0
def tw14706990585374413822:=0
def tw2724781415103802463:=0
def tw9196131056232753215:=0
def tw5831392766800319306:=0
def tw17003364625637535981:=0
def tw16118035104670931821:=0
def tw956382589978878408:=0
def tw7784853649921467655:=0
def tw4504841628799120550:=0
def tw11716801939063531379:=0
def tw5627719374044069610:=0
def tw10446342692499828806:=0
def tw10671184890372830305:=0
def tw17555628625470061787:=0
def tw7877990976035801583:=0
def tw2873099179337167855:=0
def tw17231382990298013193:=0
def tw17073581933329966891:=0
def tw2402823572639908810:=0
def tw8800040418874396061:=0
def tw17009217712963276232:=0
def tw13303705332536535943:=0
def tw5161870822069581106:=0
def tw281442592888358810:=0
def tw2506426890529562754:=0
def tw15479307879100763483:=0
def tw15681010998774262155:=0
def tw9032846500734939494:=0
def tw4117152357990190445:=0
def tw15646359649411579641:=0
def tw17228345221051522124:=0
def tw9099386356201330219:=0
def tw755729584386575299:=0
def tw17772122980500316030:=0
def tw7481334905667363982:=0
def tw11539292591796417108:=0
def tw2210634380601387406:=0
def tw7437906678238096219:=0
def tw11709580361329569725:=0
def tw8601863501273910809:=0
def tw4067419253434373087:=0
def tw15113874737545015896:=0
def tw164265387742614173:=0
def tw17301241820729473392:=0
def tw3934682354461659967:=0
def tw7898256674515539322:=0
def tw8618721099107573651:=0
def tw4948310515804941813:=0
def tw14978178027035237978:=0
def tw13056467793293007630:=0
def tw2369633447998091278:=0
def tw3937491681569760636:=0
def tw4428730092573176464:=0
def tw1254610916733590318:=0
def tw15200601945717719789:=0
def tw18310342272285635459:=0
def tw5346371311986516996:=0
def tw1173603528409607415:=0
def tw13511767479130980205:=0
def tw11950697418904735777:=0
def tw15786715830072662308:=0
def tw12253497104117434912:=0
def tw16326292068044893386:=0
def tw5636262702300526330:=0
def tw12430742637665405266:=0
def tw9566653320681753620:=0
def tw10162122581006650385:=0
def tw3270804873771566283:=0
def tw3650938141837368487:=0
def tw638049020509219799:=0
def tw3746007953190468039:=0
def tw667505281359563256:=0
def tw17592517714154771864:=0
def tw13289236751342533168:=0
def tw11410174129020726872:=0
def tw17349248882290141680:=0
def tw2219949143728751575:=0
def tw10320598361537900905:=0
def tw9471017472038175908:=0
def tw18441962433752964284:=0
def tw6956691503122594217:=0
def tw5303138501659581552:=0
def tw2371809015838862312:=0
def tw10719711959164590189:=0
def tw1130259173485921116:=0
def tw13366426191500405227:=0
def tw4499307116742144214:=0
def tw4340960938251225066:=0
def tw18310968477300245114:=0
def tw17035562069663767250:=0
def tw16754679948864236182:=0
def tw931399258900814876:=0
def tw2553031441793379304:=0
def tw15773966997181787635:=0
def tw9086571128839034625:=0
def tw17949313792191825294:=0
def tw11405908341103517817:=0
def tw12087301615661255418:=0
def tw5563058069962055845:=0
def tw8561804655685208622:=0
def tw15620176282358611484:=0
def tw13297250038331106822:=0
def tw2994800976761679050:=0
def tw481200411640248671:=0
def tw1406621079724818876:=0
def tw2178652390700538254:=0
def tw12843722279347169794:=0
def tw59770111454795483:=0
def tw5982557618789004395:=0
def tw9424674753344498035:=0
def tw8338001064707429411:=0
def tw968864956523619832:=0
def tw3335273572068765748:=0
def tw9394845039160487491:=0
def tw3055160360043371043:=0
def tw10777024623111366036:=0
def tw11050271282113495386:=0
def tw10002269523556450537:=0
def tw3696971488580569502:=0
def tw6807839652256068342:=0
def tw3789094203144732559:=0
def tw13312144422299608079:=0
def tw4826822180520862021:=0
def tw15229287616960832913:=0
def tw5687356022665433060:=0
def tw14658951332483988021:=0
def tw17582767522898933050:=0
def tw3624185316557664265:=0
def tw10095582127756412165:=0
def tw18217786147593087171:=0
def tw14757788855758621099:=0
def tw2174200410184456675:=0
def tw7299773170116566913:=0
def tw10885521750453512920:=0
def tw11074353516029394941:=0
def tw4971451153284389101:=0
def tw12331369356774798833:=0
def tw5186605098125510070:=0
def tw5580424351285031255:=0
def tw6842406632985685579:=0
def tw15872143461730010459:=0
def tw10868344565706453173:=0
def tw17022645834081264935:=0
def tw10712761674517343546:=0
def tw10014427781556972102:=0
def tw5630477434546776561:=0
def tw12447065589005689897:=0
def tw3459178208876439267:=0
def tw1715715088404464179:=0
def tw2810635213676727834:=0
def tw17547537487639920922:=0
def tw949395953327438016:=0
def tw18236594995859973295:=0
def tw10705337784494798588:=0
def tw4967144534508316081:=0
def tw4246629323448347617:=0
def tw13534683383684672785:=0
def tw14317975403650943474:=0
def tw15038646249757492051:=0
def tw4519420886108902194:=0
def tw14465071896730591427:=0
def tw18426760896725271923:=0
def tw14723068326652119743:=0
def tw1540135086600053869:=0
def tw11254745901779949809:=0
def tw9198371008409539154:=0
end PySem.W.Fast
open PySem PySem.W PyProof.Rows
set_option maxRecDepth 100000 in
set_option maxHeartbeats 0 in
theorem PySem.Challenge.cw_treesay_k46_table_of_parts_holds : PySem.Challenge.rw_treesay_k46_table_of_parts.Holds := by
 w_on; o_law; k_head; (case hw=>w_witness2)
 k_fill
 refine Ts.walk (l:=PySem.Challenge.rw_treesay_k46_table_of_parts) rfl rfl (fun w h Y=>by first | exact PySem.W.kIn_of Y | exact PySem.W.km_in_of Y) ?F
 case F =>
  intro w mg fa h KX G hmg
  refine' Ts.all_mk KX G hmg (Sy.LR KX G ?_ ?_ ?_ ?_ ?_ ?_ ?_ ?_ ?_ ?_ ?_ ?_ ?_ ?_ ?_ ?_ ?_ ?_ ?_) ?_ ?_ ?_ ?_ ?_ ?_ ?_ ?_ ?_ ?_ ?_ ?_ ?_ ?_ ?_ ?_ ?_ ?_ ?_ ?_ ?_ ?_ ?_ ?_ ?_ ?_ ?_ ?_ ?_ ?_ ?_ ?_ ?_ ?_ ?_ ?_ ?_ ?_ ?_ ?_ ?_ ?_ ?_ ?_ ?_ ?_ ?_ ?_ ?_ ?_ ?_ ?_ ?_ ?_ ?_ ?_ ?_ ?_ ?_ ?_ ?_ ?_
  all_goals first | refine' Sy.LQ ?_ ⟨?_,?_,?_,?_⟩ (L2.j8 ?_ ?_ ?_) ⟨?_,?_,?_,?_⟩ ?_ | refine' Sy.LK ?_ ⟨?_,?_,?_,?_⟩ (L2.j8 ?_ ?_ ?_) | refine' Ts.S5 ⟨?_,?_,?_⟩ (L2.j8 ?_ ?_ ?_) | refine' Ts.SX ?_ (L2.j8 ?_ ?_ ?_) | refine' Ts.Er ?_ ?_ ?_ | refine' ⟨?_,?_,?_,?_⟩ | skip
  all_goals repeat' first | refine' And.intro ?_ ?_ | exact True.intro
  all_goals first | k_is | skip
  all_goals first | k_is | skip
#print axioms PySem.Challenge.cw_treesay_k46_table_of_parts_holds
