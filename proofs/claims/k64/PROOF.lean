import PyProof.Rows.All
import Wide.All
import OpenK.AllK
import Wide.FinOn
import Lean
import PyProof.EqAt
import PyProof.EqKinds
import PyProof.TupleCall
import PyProof.NeKinds
import PyProof.EnumStmt
import PyProof.EnumMake
import PyProof.CompFree
import PyProof.Rows.FStr
import PySem.Challenge.RW_treesay_k64_whole_folded_says_the_same
open PySem renaming wpAny_bind->aav,wpAny_pure->aaw,boot_len->abd,wpAny_setState_of->abe,mainGlobals->abm,wpAny_holding->abo,wpAny_truthy_bool->abu,mem_of_lookup->abw,wpAny_setEpoch_of->aby,wpAny_Call_Name_kw->ab0,wpAny_mono->ab1,Spec->ab6,wpAny_call_entry->ab8,fits_of_scanBound->ach,wpAny_storeSet_of->aci,wpAny_forIn_list->acr,wpAny_isInstance->acs,wpAny_passesOwn->acw,wpAny_newObj_type->ac2,wpAny_rule->ac4,codeAny_builtin->ac8,wpAny_specialOf->ac9,wpAny_setField->adi,codeAny_mono->adl,wpAny_askSetting->adn,entryFor_alias->ad4,wpAny_pyIter_list->ad6,builtinLookup_eq_fast->ad7,isSubtype_tuple_tuple->ad8,plainId_quiet->aeb,wpAny_execs_nil->aed,wpAny_binaryOp_same->aee,tupleKind_room_in1->aei,wpAny_seqItems->aej,wpAny_tupleItemsOf->aek,sub_set_self->aeu,typeLookup_type->aev,wpAny_ite_split->aew,seqIndex_of->aez,wpAny_BinOp->ae0,wpAny_standAt->ae6,call_meets->afa,Within->afd,seqIndex_neg->afg
open List renaming getElem?_eq_getElem->aax,getElem?_eq_some_iff->aa0,range->abb,getElem?_eq_none->abt
open Bool renaming false_ne_true->aay,false_eq_true->abg,eq_iff_iff->acj,and_eq_true->aco,not_true->ac3,or_eq_true->adv,and_self->ae2
open Nat renaming le_refl->aaz,lt_of_le_of_lt->aa1,le_trans->aa4,ne_of_lt->aa8,lt_of_lt_of_le->aa9,zero_le->abl,lt_irrefl->ab2,le_add_right->ab4,le_succ->ab7,lt_succ_self->acp,succ_le_succ->acq,le_of_lt->acz,le_of_lt_succ->ade,not_lt_zero->adw,lt_succ_of_lt->ad2,ne_of_gt->ad3,lt_trans->aef,le_of_succ_le->ael,succ_pos->aer,mod_lt->ae7,sub_self->afb,zero_add->afc
open PySem.F renaming plainAttrs_list->aa2,slot_list_append->aa5,type_list_append->aa6
open PySem.PassesOwn renaming never->aa3
open Array renaming getElem?_eq_getElem->aa7,getElem?_eq_none->ab3
open Option.some renaming inj->abf
open Int renaming emod_lt_of_pos->abh,emod_nonneg->abk,le_refl->ace,toNat_natCast->acf,ofNat->adb,le_of_lt->aep
open PySem.Builtin renaming bitAnd->abj,bitNot->ac5,bitOr->ada
open PySem.Builtin.Frozenset renaming unchanged->abn,copyOf->adp
open PySem.Value renaming ref->abp,int->acd,isInt_shape->ac1,none->adg,type->ad9
open PySem.SetTable renaming below->abq,fill->aea
open Option renaming isSome_iff_exists->abr,isSome_some->aeh,isSome_map->aem,none->afh
open PySem.NameKind renaming free->abv,cell->adt
open PyProof.Rows renaming callWith_type1->abx,envOfC->ado,Constant_none->ae3,Subscript_->ae9
open False renaming elim->abz
open Sum renaming inl->ab5,inr->acg
open Classical renaming byContradiction->ab9
open ForInStep renaming yield->acn
open True renaming intro->acu
open PySem.Builtin.Tuple renaming tupleHashOf->acv
open PySem.Around renaming under_plainId->acy
open Ne renaming symm->ac0
open PySem.Calls renaming spliced_cons->ac6,callWith_builtin->ad0,spliced_nil->ad1
open PySem.Obj renaming mapSeq->ac7,mapFields->aen,putSet->ae8
open PySem.SetTable.below renaming go->adf
open PySem.W renaming cellsFrom_some->adh,kia_one->ad5,OpenLaw->aec,methodCall_KW->aeo,callWith_K->aes,plainGet_of->aey
open PySem.Str renaming ofString->adk,empty->adz
open PySem.Builtin.List renaming listTooLong->adq
open PySem.Paired renaming length->adu
open PySem.Builtin.Str renaming occurrences->adx
open PyProof.Rows.F renaming plain_set_update_loop->ady
open LawfulBEq renaming eq_of_beq->aeg
open Prod.mk renaming inj->aex
open Iff renaming rfl->ae1
open List.cons renaming inj->ae4
open PySem.Value.ref renaming inj->ae5
open PySem.pickOrder renaming go->afe
open PySem.W (instObj methodObj Frag lookIn plainGet hasDictIn findIn plainGet_of isFn takerIn typeIn emptyDict keepIn specialIn takesIn mroIn kitOne kia_one callWith_K methodCall_KW cellsFrom_some fnOf codeIn isClsIn nsIn mg_of)
open List (mem_filter mem_range filterMap_cons mem_cons_of_mem mem_cons mem_append mem_append_left getElem_inj getElem?_set_self getElem?_set_ne mem_append_right size_toArray length_map append_nil nodup_cons of_mem_zip replicate length length_take getElem?_append_right getElem?_append_left getElem?_map getElem?_take_of_lt mem_of_getElem? length_append any_cons length_set all_cons reverse_cons Pairwise forIn_cons mem_cons_self forIn_nil all_eq_true lookup_append getD_eq_getElem?_getD toArray map_cons getElem?_cons_zero append_assoc map_append mem_map take_append_drop take_add_one Sublist take_length length_range length_cons range_succ_eq_map filter_cons length_singleton range_succ mem_iff_getElem? nodup_nil mem_singleton nodup_append getElem?_range any_eq_true getElem_mem getElem_of_mem Perm pairwise_cons find?_cons getElem?_toArray pairwise_map pairwise_lt_range pairwise_iff_getElem length_eq_zero_iff length_eraseIdx ext_getElem? map_map length_nil rel_of_pairwise_cons idxOf_cons idxOf map_id' mem_flatten flatten_append flatten_singleton length_filter_le flatten_cons length_dropLast)
open PySem.Heap (lt_size SameBut get?_push_of_some get?_push_size size_push get?_update_self get?_update_other)
open Array (length_toList getElem?_toList forIn_toList size_map)
open PySem.SetTable (insertAt probe grown fits eraseAt)
set_option Elab.async false
set_option linter.all false
set_option maxRecDepth 100000
abbrev LI:=List Int
noncomputable section
namespace L2
open PySem PySem.Spec PyProof.Rows
abbrev Key:=Sum Int Str
def Sh:Key->Value->Bool
 |.inl k,v=>Value.isInt k v
 |.inr x,v=>Value.isStrOf x v
def ZG(w:World):Key->Int
 |.inl k=>hashInt k
 |.inr x=>hashStr w x
theorem wU:∀{k:Key}{v:Value},Sh k v=true->(∃i t,k=ab5 i/\v=acd i t)\/(∃x t,k=acg x/\v=Value.str x t)
 |.inl i,v,h=>by
  obtain⟨t,e⟩:=ac1 (k:=i) (v:=v) h
  exact .inl ⟨i,t,rfl,e⟩
 |.inr x,v,h=>by
  obtain⟨t,e⟩:=Value.isStrOf_shape (x:=x) (v:=v) h
  exact .inr ⟨x,t,rfl,e⟩
theorem zTm(i:Int)(t:Tok):Sh (.inl i) (.int i t)=true:=by simp[Sh,Value.isInt]
theorem zTl(x:Str)(t:Tok):Sh (.inr x) (.str x t)=true:=by simp[Sh,Value.isStrOf]
theorem Mx(a b:Int):decide ((ab5 a:Key)=ab5 b)=(a==b):=by
 grind
theorem Mz(a b:Str):decide ((acg a:Key)=acg b)=decide (a=b):=by
 grind
theorem MF(a:Int)(b:Str):decide ((ab5 a:Key)=acg b)=false:=decide_eq_false (λq=>nomatch q)
theorem MJ(a:Str)(b:Int):decide ((acg a:Key)=ab5 b)=false:=decide_eq_false (λq=>nomatch q)
def vW(prog:Program)(w:World):PySem.KeyKind prog w Key where
 is:=Sh
 hash:=ZG w
 inj:=λv a b m g=>by
  rcases wU m with⟨i,t,rfl,rfl⟩|⟨x,t,rfl,rfl⟩
  ·rcases wU g with⟨j,u,rfl,e⟩|⟨y,u,rfl,e⟩
   ·injection e with d _;rw[d]
   ·exact nomatch e
  ·rcases wU g with⟨j,u,rfl,e⟩|⟨y,u,rfl,e⟩
   ·exact nomatch e
   ·injection e with d _;rw[d]
 byValue:=λk v h=>by
  rcases wU h with⟨i,t,rfl,rfl⟩|⟨x,t,rfl,rfl⟩<;>rfl
 pyHash:=λf h=>by
  rcases wU f with⟨i,t,rfl,rfl⟩|⟨x,t,rfl,rfl⟩
  ·exact wpAny_pyHash_int h
  ·exact wpAny_pyHash_str h
 eqBool:=λl f h=>by
  rcases wU l with⟨i,t,rfl,rfl⟩|⟨x,t,rfl,rfl⟩
  ·rcases wU f with⟨j,u,rfl,rfl⟩|⟨y,u,rfl,rfl⟩
   ·rw[Mx] at h;exact wpAny_eqBool_int h
   ·rw[MF] at h;exact SeqAt.EqAt.int_str i t y u _ _ _ _ h
  ·rcases wU f with⟨j,u,rfl,rfl⟩|⟨y,u,rfl,rfl⟩
   ·rw[MJ] at h;exact SeqAt.EqAt.str_int x t j u _ _ _ _ h
   ·rw[Mz] at h;exact wpAny_eqBool_str h
 «strs»:=λk x t v h=>by
  rcases wU h with⟨i,u,rfl,e⟩|⟨y,u,rfl,e⟩
  ·exact nomatch e
  ·injection e with d _
   subst d
   cases v<;>rfl
theorem zM4(prog:Program)(w:World)(i:Int)(t:Tok):(vW prog w).is (.inl i) (.int i t)=true:=zTm i t
theorem zM3(prog:Program)(w:World)(x:Str)(t:Tok):(vW prog w).is (.inr x) (.str x t)=true:=zTl x t
inductive V where
 |non|bl (b:Bool)|int (i:Int)|str (x:Str)|GP (b:Array UInt8)|flt (b:UInt64)|ref (a:Addr)|ty (n:String)
 deriving DecidableEq
def RelV:V->Value->Prop
 |.non,u=>u=adg
 |.bl b,u=>u=Value.bool b
 |.int i,u=>∃t,u=acd i t
 |.str x,u=>∃t,u=Value.str x t
 |.GP b,u=>∃t,u=Value.bytes b t
 |.flt b,u=>∃t,u=Value.float b t
 |.ref a,u=>u=abp a
 |.ty n,u=>u=ad9 n
abbrev Vals:List V->List Value->Prop:=Paired RelV
theorem Vals.length(r:Vals xs us):xs.length=us.length:=adu r
theorem Vals.get:∀{xs:List V}{us:List Value}{i:Nat}{x:V},Vals xs us->xs[i]?=some x->∃u,us[i]?=some u/\RelV x u
 |_,_,_,_,.nil,e=>by simp at e
 |_,_,0,_,.cons r _,e=>by simp at e;subst e;exact⟨_,rfl,r⟩
 |_,_,i+1,x,.cons _ t,e=>by
  obtain⟨u,h1,h2⟩:=Vals.get (i:=i) (x:=x) t (by simpa using e)
  exact⟨u,by simpa using h1,h2⟩
theorem Vals.set(r:RelV x u):∀{xs:List V}{us:List Value}(i:Nat),Vals xs us->Vals (xs.set i x) (us.set i u)
 |_,_,_,.nil=>.nil
 |_,_,0,.cons _ t=>.cons r t
 |_,_,i+1,.cons q t=>.cons q (Vals.set r i t)
theorem Vals.append:∀{xs ys:List V}{us ws:List Value},Vals xs us->Vals ys ws->Vals (xs++ys) (us++ws)
 |_,_,_,_,.nil,s=>s
 |_,_,_,_,.cons r t,s=>.cons r (Vals.append t s)
theorem Vals.none_of:∀{xs:List V}{us:List Value}{i:Nat},Vals xs us->xs[i]?=none->us[i]?=none:=λ{xs us i} r e=>by
 have h1:=r.length
 have h2:xs.length<=i:=List.getElem?_eq_none_iff.mp e
 exact List.getElem?_eq_none_iff.mpr (by omega)
noncomputable def lW:Option V->Option Value->Prop
 |some v,some u=>RelV v u
 |none,none=>True
 |_,_=>False
def KV{κ:Type}:List (κ×V)->List (κ×Value)->Prop:=Paired λ(p:κ×V) (q:κ×Value)=>p.1=q.1/\RelV p.2 q.2
def kV:Key->V
 |.inl i=>.int i
 |.inr x=>.str x
inductive HO where
 |lst (xs:List V)
 |tup (xs:List V)
 |dK (kvs:List (Key×V))|dT (kvs:List (List Key×V))
 |set (S:Int->Bool) (n:Nat)
 |ins (C dx:Addr) (fs:List (Str×V))
 |own (x:Addr)
 |xd (fs:List (Str×V))
 |met (f x:Addr)
 |rng (lo hi:Int)
 |zx (o:Obj) (u:HO)
 |MN (ps:Array Value)
 |ext (φ:Heap->Prop)
abbrev Hp:=Addr->Option HO
def upd(H:Hp)(a:Addr)(o:HO):Hp:=λb=>if b=a then some o else H b
theorem zT:upd H a o a=some o:=by unfold upd;grind
theorem zX(h:b≠a):upd H a o b=H b:=by unfold upd;rw[if_neg h]
theorem Ui{H:Hp}{a b:Addr}{o u:HO}(h:H a=some o)(h':H b=some u)(d:o≠u):a≠b:=by
 grind
theorem zW{H:Hp}{a b:Addr}{o:HO}(h:H a=some o)(h':H b=none):a≠b:=by
 grind
section
variable(P:Program)(w:World)
def bZ(H:Hp)(h:Heap)(a:Addr):HO->Prop
 |.lst e=>e.length<=sizeLine/\∃(b:List Value)(n:Nat),Vals e b/\h.get? a=some { cls:=.type "list",data:=.seq b.toArray n }
 |.tup e=>e.length<=sizeLine/\∃b:List Value,Vals e b/\IsTup h a b.toArray
 |.dK d=>d.length<=sizeLine/\(a==sysModules)=false/\∃l,KV d l/\h.DictOf (vW P w) a l
 |.dT d=>d.length<=sizeLine/\(a==sysModules)=false/\∃e:List (List Key×Addr×Value),
   Paired (λ(p:List Key×V) (q:List Key×Addr×Value)=>p.1=q.1/\H q.2.1=some (.tup (p.1.map kV))/\RelV p.2 q.2.2) d e /\
   ∃o k z,h.get? a=some o/\o.ExactDict/\o.data=.dict k z/\k.toList=e.map (entryOfKey (tupleKind (vW P w)))/\(e.map (·.1)).Nodup
 |.set S n=>h.SetOf (intKind P w) a S n
 |.ins C j i=>H j=some (.own a)/\i.length<=1000/\j≠a/\h.get? a=some (instObj C j) /\
   ∃g,h.Ns1 j g/\(∀f,lW (i.lookup f) (g f))/\afd g (i.map (·.1))
 |.own _=>∃o,h.get? a=some o
 |.xd i=>∃g,h.Ns1 a g/\∀f,lW (i.lookup f) (g f)
 |.rng lo s=>∃t u v,h.get? a=some { cls:=.type "range",data:=.fields #[.int lo t,.int s u,.int 1 v] }
 |.zx o u=>h.get? a=some o/\bZ H h a u
 |.MN y=>h.get? a=some { cls:=.none,data:=.fields y }
 |.met f x=>h.get? a=some (methodObj (.ref f) (.ref x))
 |.ext φ=>φ h/\(∃o,h.get? a=some o)/\∀r m:Heap,φ r->(∀o,r.get? a=some o->m.get? a=some o)->φ m
def jk(H:Hp)(h:Heap):Prop:=∀a o,H a=some o->bZ P w H h a o
end
section
variable{P:Program}{w:World}{H H':Hp}{h h':Heap}{a:Addr}{o:HO}
theorem bZ.lt(x:bZ P w H h a o):a<h.objs.size:=by
 cases o with
 |lst d=>obtain⟨_,_,_,_,e⟩:=x;exact lt_size e
 |tup d=>obtain⟨_,_,_,p⟩:=x;exact p.lt
 |dK b=>obtain⟨_,_,_,_,o,_,_,e,_⟩:=x;exact lt_size e
 |dT b=>obtain⟨_,_,_,_,o,_,_,e,_⟩:=x;exact lt_size e
 |set S n=>obtain⟨o,_,_,_,e,_⟩:=x;exact lt_size e
 |ins C dx c=>obtain⟨_,_,_,e,_⟩:=x;exact lt_size e
 |own y=>obtain⟨_,e⟩:=x;exact lt_size e
 |xd c=>obtain⟨_,⟨_,_,_,e,_⟩,_⟩:=x;exact lt_size e
 |rng lo hi=>obtain⟨_,_,_,e⟩:=x;exact lt_size e
 |zx ob u=>obtain⟨e,_⟩:=x;exact lt_size e
 |MN ps=>exact lt_size (x)
 |met f y=>exact lt_size (x)
 |ext φ=>obtain⟨_,⟨_,e⟩,_⟩:=x;exact lt_size e
theorem Paired.M4{α β:Type}{F G:α->β->Prop}:∀{l₁:List α}{l₂:List β},Paired F l₁ l₂->(∀a b,F a b->G a b)->Paired G l₁ l₂
 |_,_,.nil,_=>.nil
 |_,_,.cons r t,f=>.cons (f _ _ r) (Paired.M4 t f)
theorem bZ.stay(x:bZ P w H h a o)(k:∀b u,(b=a\/H b=some (.own a))->h.get? b=some u->h'.get? b=some u)(ho:∀b,H b=some (.own a)->H' b=some (.own a))(ht:∀b xs,H b=some (.tup xs)->H' b=some (.tup xs)):bZ P w H' h' a o:=by
 induction o with
 |lst xs=>obtain⟨z,its,n,r,e⟩:=x;exact⟨z,its,n,r,k _ _ (.inl rfl) e⟩
 |tup xs=>obtain⟨z,its,r,ob,e,c⟩:=x;exact⟨z,its,r,ob,k _ _ (.inl rfl) e,c⟩
 |dK kvs=>obtain⟨z,y,vs,r,ob,es,ep,e,c⟩:=x;exact⟨z,y,vs,r,ob,es,ep,k _ _ (.inl rfl) e,c⟩
 |dT kvs =>
  obtain⟨z,y,xs,r,ob,es,ep,e,c⟩:=x
  exact⟨z,y,xs,Paired.M4 r λp q z=>⟨z.1,ht _ _ z.2.1,z.2.2⟩,ob,es,ep,k _ _ (.inl rfl) e,c⟩
 |set S n=>obtain⟨ob,es,ep,t,e,c⟩:=x;exact⟨ob,es,ep,t,k _ _ (.inl rfl) e,c⟩
 |ins C dx fs =>
  obtain⟨d,z,ne,e,mA,⟨od,es,ep,e2,c⟩,r⟩:=x
  exact⟨ho _ d,z,ne,k _ _ (.inl rfl) e,mA,⟨od,es,ep,k _ _ (.inr d) e2,c⟩,r⟩
 |own y=>obtain⟨ob,e⟩:=x;exact⟨ob,k _ _ (.inl rfl) e⟩
 |xd fs=>obtain⟨mA,⟨od,es,ep,e,c⟩,r⟩:=x;exact⟨mA,⟨od,es,ep,k _ _ (.inl rfl) e,c⟩,r⟩
 |rng lo hi=>obtain⟨t,u,v,e⟩:=x;exact⟨t,u,v,k _ _ (.inl rfl) e⟩
 |zx ob u ih=>obtain⟨e,q⟩:=x;exact⟨k _ _ (.inl rfl) e,ih q⟩
 |MN ps =>
  have e:h.get? a=some { cls:=.none,data:=.fields ps }:=x
  show h'.get? a=some { cls:=.none,data:=.fields ps }
  exact k a _ (.inl rfl) e
 |met f y =>
  have e:h.get? a=some (methodObj (.ref f) (.ref y)):=x
  show h'.get? a=some (methodObj (.ref f) (.ref y))
  exact k a _ (.inl rfl) e
 |ext φ=>obtain⟨p,⟨o,e⟩,st⟩:=x;exact⟨st _ _ p λo q=>k _ _ (.inl rfl) q,⟨o,k _ _ (.inl rfl) e⟩,st⟩
theorem jk.lt(x:jk P w H h)(e:H a=some o):a<h.objs.size:=(x a o e).lt
theorem jk.fresh(x:jk P w H h)(e:h.objs.size<=a):H a=none:=by
 cases q:H a with
 |none=>rfl
 |some u=>exact absurd (aa9 (x.lt q) e) (ab2 _)
theorem jk.kept(x:jk P w H h)(k:∀b u,h.get? b=some u->h'.get? b=some u):jk P w H h':=λa o e =>
 (x a o e).stay (λb u _ q=>k b u q) (λ_ q=>q) λ_ _ q=>q
theorem jk.laid(x:jk P w H h)(k:∀b u,h.get? b=some u->h'.get? b=some u)(g:h.objs.size<=a)(new:bZ P w (upd H a o) h' a o):jk P w (upd H a o) h':=λb u e=>by
 have f:=x.fresh g
 by_cases d:b=a
 ·subst d;rw[zT] at e;grind
 ·rw[zX d] at e
  exact(x b u e).stay (λc v _ q=>k c v q) (λc q=>by rw[zX (zW q f)];exact q) λc xs q=>by rw[zX (zW q f)];exact q
end
def Rd(H:Hp)(a:Addr)(u:HO):Prop:=H a=some u\/∃o,H a=some (.zx o u)
theorem Rd.ok(r:Rd H a u)(x:jk P w H h):bZ P w H h a u:=by
 rcases r with r|⟨o,r⟩
 ·exact x a u r
 ·obtain⟨_,q⟩:=x a _ r
  exact q
noncomputable def Uj:Option HO->Prop
 |some (.lst _)=>True
 |some (.dK _)=>True
 |some (.dT _)=>True
 |some (.set _ _)=>True
 |some (.ins _ _ _)=>True
 |some (.ext _)=>True
 |_=>False
section
variable{P:Program}{w:World}{H:Hp}{h h':Heap}{x e:Addr}{o':HO}
theorem jk.write(m:jk P w H h)(g:Uj (H x))(he:e=x\/H e=some (.own x))(k:∀b u,b≠e->h.get? b=some u->h'.get? b=some u)(i:∃u,h'.get? e=some u)(new:bZ P w (upd H x o') h' x o'):jk P w (upd H x o') h':=λb u q=>by
 have a:∀c y,H c=some (.own y)->c≠x:=λc y r z=>by subst z;rw[r] at g;exact g
 have d:∀c f,H c=some (.tup f)->c≠x:=λc f r z=>by subst z;rw[r] at g;exact g
 by_cases j:b=x
 ·subst j;rw[zT] at q;grind
 ·rw[zX j] at q
  by_cases hbe:b=e
  ·have l:H b=some (.own x):=by
    grind
   rw[q] at l;cases l
   obtain⟨v,hv⟩:=i
   exact⟨v,by grind⟩
  ·refine(m b u q).stay (λc v hc r=>k c v ?_ r) (λc r=>by rw[zX (a c b r)];exact r) λc f r=>by rw[zX (d c f r)];exact r
   grind
end
structure Un(fs ex:List Addr)(H H':Hp)(h h':Heap):Prop where
 keep:∀b o,h.get? b=some o->H b=none->b∉fs->b∉ex->h'.get? b=some o
 slot:∀b o,h.get? b=some o->H b=none->b∈fs->b∉ex->∃sl,h'.get? b=some { o with slots:=sl }
 free:∀b o,h.get? b=some o->H b=none->b∉ex->H' b=none
 there:∀b o,h.get? b=some o->b∉ex->∃o',h'.get? b=some o'
 tups:∀b xs,H b=some (.tup xs)->H' b=some (.tup xs)
 pB:∀b o u,H b=some (.zx o u)->H' b=some (.zx o u)
 qR:∀b ps,H b=some (.MN ps)->∃more,H' b=some (.MN (ps++more))
section
variable{fs fs' ex ex':List Addr}{H H1 H2:Hp}{h h1 h2 h':Heap}{a x e:Addr}{o:HO}
theorem Un.any(u:Un fs ex H H1 h h1)(q:h.get? b=some ob)(n:H b=none)(d:b∉ex):∃f,h1.get? b=some { ob with slots:=f }:=by
 by_cases c:b∈fs
 ·exact u.slot b ob q n c d
 ·exact⟨ob.slots,u.keep b ob q n c d⟩
theorem Un.kept(k:∀b u,h.get? b=some u->h'.get? b=some u):Un fs ex H H h h' :=
 ⟨λb ob q _ _ _=>k b ob q,λb ob q _ _ _=>⟨ob.slots,k b ob q⟩,λ_ _ _ n _=>n,λb ob q _=>⟨ob,k b ob q⟩,λ_ _ q=>q,λ_ _ _ q=>q,λ_ ps q=>⟨#[],by rw[q];simp⟩⟩
theorem Un.refl:Un fs ex H H h h:=Un.kept λ_ _ q=>q
theorem Un.laid(k:∀b u,h.get? b=some u->h'.get? b=some u)(d:h.objs.size<=a)(c:H a=none):Un fs ex H (upd H a o) h h' where
 keep:=λb u q _ _ _=>k b u q
 slot:=λb u q _ _ _=>⟨u.slots,k b u q⟩
 free:=λb u q n _=>by rw[zX (aa8 (aa9 (lt_size q) d))];exact n
 there:=λb u q _=>⟨u,k b u q⟩
 tups:=λb f q=>by rw[zX (zW q c)];exact q
 pB:=λb u f q=>by rw[zX (zW q c)];exact q
 qR:=λb ps q=>⟨#[],by rw[zX (zW q c),q];simp⟩
theorem Un.write(d:Uj (H x))(he:e=x\/H e=some (.own x))(k:∀b u,b≠e->h.get? b=some u->h'.get? b=some u)(heo:∃u,h'.get? e=some u):Un fs ex H (upd H x o) h h':=by
 have g:∀b,H b=none->b≠x:=λb n z=>by subst z;rw[n] at d;exact d
 have f:∀b,H b=none->b≠e:=λb n z=>by
  grind
 have c:∀b u,H b=some u->¬Uj (some u)->b≠x:=λb u q nm z=>by grind
 refine⟨λb u q n _ _=>k b u (f b n) q,λb u q n _ _=>⟨u.slots,k b u (f b n) q⟩,λb u q n _=>by rw[zX (g b n)];exact n,λb u q _=>?_,
  λb i q=>by rw[zX (c b _ q λz=>z)];exact q,λb u i q=>by rw[zX (c b _ q λz=>z)];exact q,λb ps q=>⟨#[],by rw[zX (c b _ q λz=>z),q];simp⟩⟩
 grind
end
def Xx(h:Heap)(H:Hp):List Addr:=(abb h.objs.size).filter λa=>(H a).isSome
def sG(h:Heap)(H:Hp):Heap:=PySem.W.hideAll h (Xx h H)
theorem zTx(h:Heap)(H:Hp):(sG h H).objs.size=h.objs.size:=PySem.W.hideAll_size _ _
theorem zXj{h:Heap}(e:h.get? b=some o)(n:H b=none):(sG h H).get? b=some o :=
 PySem.W.hideAll_get _ e λa=>by
  have q:=(mem_filter.mp a).2
  grind
theorem GQ(e:(sG h H).get? b=some o):h.get? b=some o/\H b=none:=by
 have c:=PySem.W.of_hideAll (Xx h H) e
 refine⟨c,?_⟩
 cases q:H b with
 |none=>rfl
 |some x =>
  have d:b∈Xx h H:=mem_filter.mpr ⟨mem_range.mpr (lt_size c),by simp[q]⟩
  have z:(sG h H).get? b=none:=PySem.W.hideAll_none (Xx h H) d
  grind
def GR(g h:Heap)(L:Addr):List (Addr×Obj):=(abb h.objs.size).filterMap λa=>if a=L\/(g.get? a).isSome=true then none else(h.get? a).map λo=>(a,o)
def rest(g h:Heap)(L d:Addr):List (Addr×Obj):=(GR g h L).filter λp=>decide (p.1≠d)
structure Mod(K:Frag)(mg:Str->Option Value)(base:Heap):Prop where
 Sq:K.In base
 glob:base.Ns abm mg
 blt:∃mb,base.Ns builtinsNs mb/\∀x:Str,x ≠ "__name__"->mb x=bootBuiltins x
 nolimit:base.NoLimit
structure Cx where
 prog:Program
 w:World
 K:Frag
 mg:Str->Option Value
 base:Heap
 A:Around
 N:List Str
 s₀:Shared
 H₀:Hp
 env:Env
 outer:List Env
 stack:List Env
 ex:List Addr
 fn:Str->Bool
 calm:Bool
 pn:List (Addr×Obj)
 xe:Value->Shared->Prop
def frs(l:List Env):List Addr:=l.filterMap (·.frame)
abbrev Cx.fs(X:Cx):List Addr:=frs X.outer
def Uk(a:Scope)(x:Str):Prop:=a.names.lookup x=some .local\/a.names.lookup x=some .cell\/a.names.lookup x=some .free
def Loc(a:Scope)(x:Str):Prop:=a.names.lookup x=some .local\/a.names.lookup x=some .cell
def Look(env:Env)(h:Heap)(m:Str->Option Value)(x:Str)(u:Value):Prop :=
 (env.kindOf x=some .local/\m x=some u)\/((env.kindOf x=some .cell\/env.kindOf x=some .free)/\∃c,env.cells.lookup x=some c/\h.IsCell c (some u))
structure Cx.Ok(X:Cx):Prop where
 mod:Mod X.K X.mg X.base
 kind:X.env.scope.kind=.function
 glob:X.env.globals=abm
 blt:X.env.builtins=builtinsNs
 above:X.s₀.heap.objs.size<=X.env.locals
 inj:∀x y c,X.env.cells.lookup x=some c->X.env.cells.lookup y=some c->x=y
 has:∀x,(X.env.kindOf x=some .cell\/X.env.kindOf x=some .free)->∃c,X.env.cells.lookup x=some c
 cab:∀x c,X.fn x=true->X.env.cells.lookup x=some c->X.s₀.heap.objs.size<=c
 hd:X.calm=true->X.A.handled=none
 frames:X.A.frames=some X.stack
 stk:X.stack=X.outer\/(X.stack=X.env::X.outer/\X.env.frame=some X.env.locals)
 Xy:∀b∈X.ex,b≠X.env.locals/\∀x c,X.env.cells.lookup x=some c->c≠b
 bs:∀b o,X.base.get? b=some o->X.s₀.heap.get? b=some o/\X.H₀ b=none
 GX:X.base.objs.size<=X.s₀.heap.objs.size
 Dr:∀b o,X.base.get? b=some o->b∉X.ex
 Ds:∀b∈X.ex,b∉X.fs
 oF:X.s₀.heap.FunFrames X.base X.outer
 M5:∀b∈X.fs,X.H₀ b=none
structure Inv(X:Cx)(pins:List (Addr×Obj))(σ:List (Option V))(H:Hp)(s:Shared):Prop where
 ok:X.Ok
 os:s.os=X.s₀.os
 bare:AllBare s.gens
 base:Un X.fs X.ex X.H₀ H X.s₀.heap s.heap
 loc:∃m,s.heap.Ns X.env.locals m/\∀(i:Nat)(x:Str)(v:V),X.N[i]?=some x->σ[i]?=some (some v)->Uk X.env.scope x->∃u,RelV v u/\Look X.env s.heap m x u
 cell:∀x c,X.env.cells.lookup x=some c->∃v,s.heap.IsCell c v
 free:H X.env.locals=none
 jo:∀x c,X.env.cells.lookup x=some c->H c=none
 pin:∀p∈X.pn++pins,s.heap.get? p.1=some p.2/\H p.1=none/\p.1≠X.env.locals/\p.1∉X.fs/\∀v,p.2.data≠.cell v
 hok:jk X.prog X.w H s.heap
 len:σ.length=X.N.length
section
variable{X:Cx}{pins:List (Addr×Obj)}{σ:List (Option V)}{H H':Hp}{s:Shared}{h':Heap}
theorem Cx.Ok.ZJ(c:X.Ok)(e:X.base.get? b=some o):b∉X.fs:=λa=>by
 have:=(c.oF.mem a).1
 grind
theorem Inv.bs(I:Inv X pins σ H s):∀b o,X.base.get? b=some o->s.heap.get? b=some o/\H b=none:=λb o e =>
 ⟨I.base.keep b o (I.ok.bs b o e).1 (I.ok.bs b o e).2 (I.ok.ZJ e) (I.ok.Dr b o e),I.base.free b o (I.ok.bs b o e).1 (I.ok.bs b o e).2 (I.ok.Dr b o e)⟩
theorem Inv.bk(I:Inv X pins σ H s):∀b o,X.base.get? b=some o->s.heap.get? b=some o:=λb o e=>(I.bs b o e).1
theorem Inv.mod(I:Inv X pins σ H s):Mod X.K X.mg X.base:=I.ok.mod
theorem Inv.lX(I:Inv X pins σ H s):X.K.In s.heap:=I.ok.mod.Sq.keeps I.bk
theorem Inv.nolimit(I:Inv X pins σ H s):s.heap.NoLimit:=I.ok.mod.nolimit.keeps I.bk
theorem Inv.lt(I:Inv X pins σ H s):X.env.locals<s.heap.objs.size:=let⟨_,a,_⟩:=I.loc;a.lt
theorem Inv.sz(I:Inv X pins σ H s):X.s₀.heap.objs.size<=s.heap.objs.size:=aa4 I.ok.above (acz I.lt)
theorem Inv.M6(I:Inv X pins σ H s)(h:s.heap.objs.size<=a):a∉X.fs:=λc=>by
 obtain⟨_,o,b,_⟩:=I.ok.oF.mem c
 exact absurd (aa9 (lt_size b) (aa4 I.sz h)) (ab2 _)
theorem Inv.ZK(I:Inv X pins σ H s):∀x c,X.env.cells.lookup x=some c->c≠X.env.locals:=λx c e z=>by
 obtain⟨v,o,ho,hd⟩:=I.cell x c e
 obtain⟨m,⟨o',es,ep,ho',hd',_⟩,_⟩:=I.loc
 grind
theorem Inv.oF(I:Inv X pins σ H s):s.heap.FunFrames X.base X.outer:=by
 have a:∀(l:List Env),(∀b∈frs l,b∈X.fs)->X.s₀.heap.FunFrames X.base l->s.heap.FunFrames X.base l:=by
  intro l
  induction l with
  |nil=>intro _ _;trivial
  |cons env r ih =>
   intro g j
   obtain⟨n,⟨L,o,f,h,k,m⟩,i⟩:=j
   have d:=g L (by unfold frs;grind)
   obtain⟨sl,e⟩:=I.base.slot L o k (I.ok.M5 L d) d λz=>I.ok.Ds L z d
   exact⟨n,⟨L,_,f,h,e,m⟩,ih (λb c=>g b (by unfold frs;rw[filterMap_cons,f];exact mem_cons_of_mem _ c)) i⟩
 exact a X.outer (λ_ c=>c) I.ok.oF
theorem Inv.stack(I:Inv X pins σ H s):s.heap.FunFrames X.base X.stack:=by
 rcases I.ok.stk with e|⟨e,c⟩
 ·rw[e];exact I.oF
 ·rw[e]
  obtain⟨m,b,_⟩:=I.loc
  refine .cons (by rw[I.ok.kind];decide) c b ?_ I.oF
  exact Heap.get?_none_of_le (aa4 I.ok.GX I.ok.above)
theorem Inv.sH(I:Inv X pins σ H s):∀b∈frs X.stack,b∈X.env.locals::X.fs:=λb a=>by
 rcases I.ok.stk with e|⟨e,c⟩
 ·grind
 ·rw[e] at a
  unfold frs at a
  rw[filterMap_cons,c] at a
  exact a
theorem Inv.Bq(I:Inv X pins σ H s):∀b∈frs X.stack,H b=none:=λb a=>by
 rcases mem_cons.mp (I.sH b a) with e|a
 ·rw[e];exact I.free
 ·obtain⟨_,o,c,_⟩:=I.ok.oF.mem a
  exact I.base.free b o c (I.ok.M5 b a) λz=>I.ok.Ds b z a
theorem Inv.step{g':Array GenState}{t':Nat}{d':Drawn}{ch:List Addr}(I:Inv X pins σ H s)(hch:∀b∈ch,(b∈X.ex\/X.s₀.heap.objs.size<=b)/\b≠X.env.locals/\(∀x c,X.env.cells.lookup x=some c->c≠b)/\∀p∈X.pn++pins,p.1≠b)(keep:∀b o,b≠X.env.locals->b∉X.fs->b∉ch->s.heap.get? b=some o->H b=none->h'.get? b=some o)(slot:∀b o,b≠X.env.locals->b∈X.fs->b∉ch->s.heap.get? b=some o->H b=none->∃sl,h'.get? b=some { o with slots:=sl })(free:∀b o,b∉ch->s.heap.get? b=some o->H b=none->H' b=none)(there:∀b o,b∉ch->s.heap.get? b=some o->∃o',h'.get? b=some o')(tups:∀b xs,H b=some (.tup xs)->H' b=some (.tup xs))(pB:∀b o u,H b=some (.zx o u)->H' b=some (.zx o u))(qR:∀b ps,H b=some (.MN ps)->∃more,H' b=some (.MN (ps++more)))(ns:∀m,s.heap.Ns X.env.locals m->h'.Ns X.env.locals m)(hok:jk X.prog X.w H' h')(hg:AllBare g') :
  Inv X pins σ H' { s with heap:=h',gens:=g',drawn:=d',toks:=t' }:=by
 have neL:∀b o,X.s₀.heap.get? b=some o->b≠X.env.locals:=λb o e=>aa8 (aa9 (lt_size e) I.ok.above)
 have Xz:∀b o,X.s₀.heap.get? b=some o->b∉X.ex->b∉ch:=λb o e hx hb=>by
  rcases(hch b hb).1 with z|z
  ·exact hx z
  ·exact absurd (aa9 (lt_size e) z) (ab2 _)
 have cellK:∀x c,X.env.cells.lookup x=some c->∀v,s.heap.IsCell c v->h'.IsCell c v:=λx c e v ⟨o,ho,hd⟩=>by
  have Um:c∉ch:=λz=>(hch c z).2.2.1 x c e rfl
  by_cases hc:c∈X.fs
  ·obtain⟨sl,q⟩:=slot c o (I.ZK x c e) hc Um ho (I.jo x c e)
   exact⟨_,q,hd⟩
  ·exact⟨o,keep c o (I.ZK x c e) hc Um ho (I.jo x c e),hd⟩
 refine⟨I.ok,I.os,hg,⟨λb o e n hb hx=>?_,λb o e n hb hx=>?_,λb o e n hx=>?_,λb o e hx=>?_,λb xs e=>tups b xs (I.base.tups b xs e),λb o xs e=>pB b o xs (I.base.pB b o xs e),λb ps e=>?_⟩,?_,λx c e=>?_,?_,λx c e=>?_,λp hp=>?_,hok,I.len⟩
 ·exact keep b o (neL b o e) hb (Xz b o e hx) (I.base.keep b o e n hb hx) (I.base.free b o e n hx)
 ·obtain⟨sl,e1⟩:=I.base.slot b o e n hb hx
  obtain⟨sl',e2⟩:=slot b _ (neL b o e) hb (Xz b o e hx) e1 (I.base.free b o e n hx)
  exact⟨sl',e2⟩
 ·obtain⟨o',e1⟩:=I.base.there b o e hx
  exact free b o' (Xz b o e hx) e1 (I.base.free b o e n hx)
 ·obtain⟨o',e1⟩:=I.base.there b o e hx
  exact there b o' (Xz b o e hx) e1
 ·obtain⟨m1,e1⟩:=I.base.qR b ps e
  obtain⟨m2,e2⟩:=qR b _ e1
  exact⟨m1++m2,by rw[e2,Array.append_assoc]⟩
 ·obtain⟨m,hn,hl⟩:=I.loc
  refine⟨m,ns m hn,λi x v e1 e2 e3=>?_⟩
  obtain⟨u,r,l⟩:=hl i x v e1 e2 e3
  refine⟨u,r,?_⟩
  rcases l with l|⟨k,c,e,z⟩
  ·exact .inl l
  ·exact .inr ⟨k,c,e,cellK x c e _ z⟩
 ·obtain⟨v,z⟩:=I.cell x c e
  exact⟨v,cellK x c e v z⟩
 ·obtain⟨m,⟨o,_,_,ho,_⟩,_⟩:=I.loc
  exact free _ o (λz=>(hch _ z).2.1 rfl) ho I.free
 ·obtain⟨v,o,ho,hd⟩:=I.cell x c e
  exact free c o (λz=>(hch c z).2.2.1 x c e rfl) ho (I.jo x c e)
 ·obtain⟨e,n,ne,nf,d⟩:=I.pin p hp
  have Um:p.1∉ch:=λz=>(hch p.1 z).2.2.2 p hp rfl
  exact⟨keep p.1 p.2 ne nf Um e n,free p.1 p.2 Um e n,ne,nf,d⟩
theorem Inv.un(I:Inv X pins σ H s)(u:Un X.fs [] H H' s.heap h')(c:jk X.prog X.w H' h'):Inv X pins σ H' { s with heap:=h',toks:=t' }:=by
 obtain⟨m,⟨o,es,ep,h,r⟩,_⟩:=id I.loc
 obtain⟨sl,i⟩:=u.any h I.free (by simp)
 exact I.step (ch:=[]) (λ_ z=>nomatch z) (λb o _ f _ e n=>u.keep b o e n f (by simp)) (λb o _ f _ e n=>u.slot b o e n f (by simp)) (λb o _ e n=>u.free b o e n (by simp)) (λb o _ e=>u.there b o e (by simp)) u.tups u.pB u.qR (λm' k=>by
  obtain⟨o',g,d,a,j⟩:=k
  rw[h] at a;cases a
  exact⟨_,g,d,i,j⟩) c I.bare
theorem Inv.call(I:Inv X pins σ H s)(u:Un (frs X.stack) ch H H' s.heap h')(i:jk X.prog X.w H' h')(y:AllBare g')(f:∀b∈ch,(b∈X.ex\/X.s₀.heap.objs.size<=b)/\b≠X.env.locals/\(∀x c,X.env.cells.lookup x=some c->c≠b)/\∀p∈X.pn++pins,p.1≠b) :
  Inv X pins σ H' { s with heap:=h',gens:=g',drawn:=d',toks:=t' }:=by
 obtain⟨m,⟨o,es,ep,l,r⟩,_⟩:=id I.loc
 obtain⟨sl,j⟩:=u.any l I.free λz=>(f _ z).2.1 rfl
 exact I.step f (λb o j q d e n=>u.keep b o e n (λz=>(mem_cons.mp (I.sH b z)).elim j q) d) (λb o _ _ d e n=>u.any e n d) (λb o d e n=>u.free b o e n d) (λb o d e=>u.there b o e d) u.tups u.pB u.qR (λm' t=>by
  obtain⟨o',k,h,g,v⟩:=t
  rw[l] at g;cases g
  exact⟨_,k,h,j,v⟩) i y
theorem Inv.turned(I:Inv X pins σ H s)(k:∀b o,b≠a->s.heap.get? b=some o->h'.get? b=some o)(hn:H a=none)(i:a≠X.env.locals)(h1:a∈X.ex\/X.s₀.heap.objs.size<=a)(h2:∀x c,X.env.cells.lookup x=some c->c≠a)(h3:∀p∈X.pn++pins,p.1≠a):Inv X pins σ H { s with heap:=h',toks:=t' }:=by
 refine I.step (g':=s.gens) (d':=s.drawn) (ch:=[a]) (λb hb=>?_) (λb o _ _ d e _=>k b o (λz=>d (by simp[z])) e) (λb o _ _ d e _=>⟨o.slots,k b o (λz=>d (by simp[z])) e⟩) (λ_ _ _ _ n=>n)
  (λb o d e=>⟨o,k b o (λz=>d (by simp[z])) e⟩) (λ_ _ e=>e) (λ_ _ _ e=>e) (λb ps e=>⟨#[],by grind⟩) (λm f=>?_) (λb u e=>?_) I.bare
 ·grind
 ·obtain⟨o,j,h,g,r⟩:=f
  exact⟨o,j,h,k _ o (ac0 i) g,r⟩
 ·refine(I.hok b u e).stay (λc v d q=>k c v ?_ q) (λ_ q=>q) λ_ _ q=>q
  grind
theorem Inv.tok(I:Inv X pins σ H s)(t:Nat):Inv X pins σ H { s with toks:=t }:=I.un Un.refl I.hok
theorem Inv.kept(I:Inv X pins σ H s)(k:∀b u,s.heap.get? b=some u->h'.get? b=some u):Inv X pins σ H { s with heap:=h',toks:=t' }:=I.un (Un.kept k) (I.hok.kept k)
theorem Inv.laid(I:Inv X pins σ H s)(k:∀b u,s.heap.get? b=some u->h'.get? b=some u)(c:s.heap.objs.size<=a)(d:bZ X.prog X.w (upd H a o) h' a o) :
  Inv X pins σ (upd H a o) { s with heap:=h',toks:=t' }:=I.un (Un.laid k c (I.hok.fresh c)) (I.hok.laid k c d)
theorem Inv.write(I:Inv X pins σ H s)(d:Uj (H x))(f:e=x\/H e=some (.own x))(k:∀b u,b≠e->s.heap.get? b=some u->h'.get? b=some u)(a:∃u,h'.get? e=some u)(c:bZ X.prog X.w (upd H x o) h' x o):Inv X pins σ (upd H x o) { s with heap:=h',toks:=t' }:=I.un (Un.write d f k a) (I.hok.write d f k a c)
theorem Inv.lY(I:Inv X pins σ H s)(h:∀p∈Kf,s.heap.get? p.1=some p.2/\H p.1=none/\p.1≠X.env.locals/\p.1∉X.fs/\∀v,p.2.data≠.cell v):Inv X Kf σ H s :=
 ⟨I.ok,I.os,I.bare,I.base,I.loc,I.cell,I.free,I.jo,λp a=>(mem_append.mp a).elim (λz=>I.pin p (mem_append_left _ z)) (h p),I.hok,I.len⟩
theorem zOg{N:List Str}(c:N.Nodup){i j:Nat}{x:Str}(a:N[i]?=some x)(b:N[j]?=some x):i=j:=by
 obtain⟨h1,e⟩:=aa0.mp a
 obtain⟨h2,d⟩:=aa0.mp b
 exact(getElem_inj c).mp (e.trans d.symm)
theorem zKh{Q:Unit->Shared->Prop}(I:Inv X pins σ H s)(hN:X.N.Nodup)(S:X.N[i]?=some x)(B:Loc X.env.scope x)(r:RelV v u)(h:∀s',Inv X pins (σ.set i (some v)) H s'->(∃a,SameBut a s.heap s'.heap/\(a=X.env.locals\/X.env.cells.lookup x=some a))->Q () s')(hf:X.fn x=true\/X.env.scope.names.lookup x=some .local:=by first|exact .inl rfl|exact .inr rfl|assumption):wpAny M A (storeName X.env x u) Q E s:=by
 obtain⟨m,hn,hl⟩:=id I.loc
 have U:(X.env.scope.kind==.class||(X.env.scope.kind==.module&&X.env.locals != X.env.globals))=false:=by rw[I.ok.kind];rfl
 have W:i<σ.length:=by rw[I.len];exact(aa0.mp S).1
 have O:=I.ZK
 have l:∀{a:Addr}{h':Heap},(∃o,s.heap.get? a=some o/\H a=none)->SameBut a s.heap h'->jk X.prog X.w H h':=λ{a h'} ha f b ob e=>by
  obtain⟨_,_,C⟩:=ha
  refine(I.hok b ob e).stay (λc w' t q=>(f.2 c ?_).trans q) (λ_ q=>q) λ_ _ q=>q
  rintro rfl
  rcases t with rfl|t
  ·rw[C] at e;cases e
  ·rw[C] at t;cases t
 rcases B with F|F
 ·refine wpAny_storeName_local F hn (λh' hn' f=>?_) U
  obtain⟨oL,_,_,hoL,_⟩:=id hn
  refine h _ ⟨I.ok,I.os,I.bare,⟨λb o e n L B=>?_,λb o e n L B=>?_,I.base.free,λb o e B=>?_,I.base.tups,I.base.pB,I.base.qR⟩,⟨_,hn',λj y v' g D e3=>?_⟩,λy c e=>?_,I.free,I.jo,λp hp=>?_,l ⟨oL,hoL,I.free⟩ f,by simpa using I.len⟩ ⟨_,f,.inl rfl⟩
  ·exact(f.2 b (aa8 (aa9 (lt_size e) I.ok.above))).trans (I.base.keep b o e n L B)
  ·obtain⟨sl,g⟩:=I.base.slot b o e n L B
   exact⟨sl,(f.2 b (aa8 (aa9 (lt_size e) I.ok.above))).trans g⟩
  ·obtain⟨o',g⟩:=I.base.there b o e B
   exact⟨o',(f.2 b (aa8 (aa9 (lt_size e) I.ok.above))).trans g⟩
  ·by_cases G:j=i
   ·subst G
    rw[S] at g;cases g
    rw[getElem?_set_self W] at D
    cases D
    exact⟨u,r,.inl ⟨F,by simp⟩⟩
   ·rw[getElem?_set_ne (ac0 G)] at D
    obtain⟨u',r',q⟩:=hl j y v' g D e3
    refine⟨u',r',?_⟩
    rcases q with⟨k,e⟩|⟨k,c,e,z⟩
    ·refine .inl ⟨k,?_⟩
     have:y≠x:=λe=>G (zOg hN g (e▸S))
     simp[this,e]
    ·exact .inr ⟨k,c,e,z.sameBut f (O y c e)⟩
  ·obtain⟨w',z⟩:=I.cell y c e
   exact⟨w',z.sameBut f (O y c e)⟩
  ·obtain⟨e,n,ne,nf,d⟩:=I.pin p hp
   exact⟨(f.2 p.1 ne).trans e,n,ne,nf,d⟩
 ·have J:X.fn x=true:=by
   rcases hf with z|z
   ·exact z
   ·rw[z] at F;cases F
  obtain⟨c,t⟩:=I.ok.has x (.inl F)
  obtain⟨w',z⟩:=I.cell x c t
  refine wpAny_storeName_cell I.ok.kind F t z (λh' P f=>?_)
  obtain⟨oc,T,Y⟩:=id z
  refine h { s with heap:=h' } ⟨I.ok,I.os,I.bare,⟨λb o e n L B=>?_,λb o e n L B=>?_,I.base.free,λb o e B=>?_,I.base.tups,I.base.pB,I.base.qR⟩,⟨m,hn.sameBut f (ac0 (O x c t)),λj y v' g D e3=>?_⟩,λy Z e=>?_,I.free,I.jo,λp hp=>?_,l ⟨oc,T,I.jo x c t⟩ f,by simpa using I.len⟩ ⟨c,f,.inr t⟩
  ·exact(f.2 b (aa8 (aa9 (lt_size e) (I.ok.cab x c J t)))).trans (I.base.keep b o e n L B)
  ·obtain⟨sl,g⟩:=I.base.slot b o e n L B
   exact⟨sl,(f.2 b (aa8 (aa9 (lt_size e) (I.ok.cab x c J t)))).trans g⟩
  ·obtain⟨o',g⟩:=I.base.there b o e B
   exact⟨o',(f.2 b (aa8 (aa9 (lt_size e) (I.ok.cab x c J t)))).trans g⟩
  ·by_cases G:j=i
   ·subst G
    rw[S] at g;cases g
    rw[getElem?_set_self W] at D
    cases D
    exact⟨u,r,.inr ⟨.inl F,c,t,P⟩⟩
   ·rw[getElem?_set_ne (ac0 G)] at D
    obtain⟨u',r',q⟩:=hl j y v' g D e3
    refine⟨u',r',?_⟩
    rcases q with q|⟨k,Z,e,z'⟩
    ·exact .inl q
    ·refine .inr ⟨k,Z,e,z'.sameBut f ?_⟩
     rintro rfl
     exact G (zOg hN g (I.ok.inj _ _ _ e t▸S))
  ·by_cases R:Z=c
   ·subst R;exact⟨_,P⟩
   ·obtain⟨w2,z2⟩:=I.cell y Z e
    exact⟨w2,z2.sameBut f R⟩
  ·obtain⟨e,n,ne,nf,d⟩:=I.pin p hp
   refine⟨(f.2 p.1 ?_).trans e,n,ne,nf,d⟩
   intro q
   rw[q,T] at e
   have q':oc=p.2:=abf e
   exact d w' (by rw[<-q'];exact Y)
theorem ZL{Q:Unit->Shared->Prop}(I:Inv X pins σ H s)(a:X.N.Nodup)(c:X.N[i]?=some x)(d:Loc X.env.scope x)(r:RelV v u)(h:∀s',Inv X pins (σ.set i (some v)) H s'->Q () s')(e:X.fn x=true\/X.env.scope.names.lookup x=some .local:=by first|exact .inl rfl|exact .inr rfl|assumption):wpAny M A (storeName X.env x u) Q E s :=
 zKh I a c d r (λs' b _=>h s' b) e
theorem Inv.call'{s':Shared}(I:Inv X pins σ H s)(g:s'.os=s.os)(u:Un (frs X.stack) ch H H' s.heap s'.heap)(f:jk X.prog X.w H' s'.heap)(h:AllBare s'.gens)(d:∀b∈ch,(b∈X.ex\/X.s₀.heap.objs.size<=b)/\b≠X.env.locals/\(∀x c,X.env.cells.lookup x=some c->c≠b)/\∀p∈X.pn++pins,p.1≠b):Inv X pins σ H' s':=by
 obtain⟨h',g',d',t',o'⟩:=s'
 have e:=g
 subst e
 exact I.call u f h d
end
abbrev XK:=Value->Option Addr->Hp->Prop
abbrev St:=List (Option V)
abbrev VK:=V->Hp->Prop
abbrev TE:=St->Hp->VK->Prop
abbrev TT:=St->Hp->(Bool->Hp->Prop)->Prop
abbrev TA:=St->Hp->(List V->Hp->Prop)->Prop
structure Ends where
 nx:St->Hp->Prop
 rt:VK
 bk:St->Hp->Prop:=λ_ _=>False
 ct:St->Hp->Prop:=λ_ _=>False
abbrev TS:=Ends->St->Hp->Prop
def EP(X:Cx)(a:List (Addr×Obj))(σ:St)(Q:VK)(u:Value)(s':Shared):Prop:=∃v b,Inv X a σ b s'/\RelV v u/\Q v b
def TP(X:Cx)(a:List (Addr×Obj))(σ:St)(Q:Bool->Hp->Prop)(b:Bool)(s':Shared):Prop:=∃c,Inv X a σ c s'/\Q b c
def AP(X:Cx)(a:List (Addr×Obj))(σ:St)(Q:List V->Hp->Prop)(us:List Value)(s':Shared):Prop:=∃b c,Inv X a σ c s'/\Vals b us/\Q b c
def SP(X:Cx)(a:List (Addr×Obj))(D:Ends)(f:Flow)(s':Shared):Prop :=
 match f with
 |.next=>∃c b,Inv X a c b s'/\D.nx c b
 |.brk=>∃c b,Inv X a c b s'/\D.bk c b
 |.cont=>∃c b,Inv X a c b s'/\D.ct c b
 |.ret u=>∃v c b,Inv X a c b s'/\RelV v u/\D.rt v b
def PE(X:Cx)(e:Expr)(t:TE):Prop :=
 ∀(a:List (Addr×Obj))(s:Shared)(σ:St)(H:Hp)(Q:VK),Inv X a σ H s->t σ H Q->wpAny (model X.prog X.w) X.A (eval e X.env) (EP X a σ Q) X.xe s
def PT(X:Cx)(e:Expr)(t:TT):Prop :=
 ∀(a:List (Addr×Obj))(s:Shared)(σ:St)(H:Hp)(Q:Bool->Hp->Prop),Inv X a σ H s->t σ H Q->wpAny (model X.prog X.w) X.A (isTrue e X.env (eval e X.env)) (TP X a σ Q) X.xe s
def PW(X:Cx)(e:Expr)(t:TT):Prop :=
 ∀(c:Sem Value)(b:List (Addr×Obj))(s:Shared)(σ:St)(H:Hp)(Q:Bool->Hp->Prop),Inv X b σ H s->t σ H Q->wpAny (model X.prog X.w) X.A (isTrue e X.env c) (TP X b σ Q) X.xe s
theorem PW.pt(h:PW X e t):PT X e t:=h _
def PA(X:Cx)(es:List Expr)(t:TA):Prop :=
 ∀(b:Pos)(a:List (Addr×Obj))(s:Shared)(σ:St)(H:Hp)(Q:List V->Hp->Prop),Inv X a σ H s->t σ H Q->wpAny (model X.prog X.w) X.A (spliced (backTo b (starEach es X.env))) (AP X a σ Q) X.xe s
def PS(X:Cx)(st:Stmt)(t:TS):Prop :=
 ∀(a:List (Addr×Obj))(s:Shared)(σ:St)(H:Hp)(D:Ends),Inv X a σ H s->t D σ H->wpAny (model X.prog X.w) X.A (exec st X.env) (SP X a D) X.xe s
def qT(X:Cx)(st:List Stmt)(t:TS):Prop :=
 ∀(a:List (Addr×Obj))(s:Shared)(σ:St)(H:Hp)(D:Ends),Inv X a σ H s->t D σ H->wpAny (model X.prog X.w) X.A (execs st X.env) (SP X a D) X.xe s
theorem aV{α:Type}{t:Sem α}{Q b:α->Shared->Prop}(h:wpAny M A t Q E s)(c:∀a s,Q a s->b a s):wpAny M A t b E s:=ab1 h c λ_ _ x=>x
section
variable{X:Cx}
def eU(i:Nat):TE:=λσ H Q=>∃v,σ[i]?=some (some v)/\Q v H
def tC(v:V):TE:=λ_ H Q=>Q v H
theorem M7(n:X.N[i]?=some x)(q:Uk X.env.scope x)(j:(x==("__debug__":Str))=false:=by decide)(g:(x==("__classdict__":Str))=false:=by decide):PE X (.Name x pos) (eU i):=by
 intro f s σ H Q I h
 obtain⟨v,e,h⟩:=h
 obtain⟨m,p,o⟩:=I.loc
 obtain⟨u,r,l⟩:=o i x v n e q
 have b:EP X f σ Q u s:=⟨v,H,I,r,h⟩
 rcases l with⟨d,t⟩|⟨d,c,k,a⟩
 ·exact wpAny_Name (wpAny_loadName_local I.ok.kind d p t b) j
 ·rcases d with d|d
  ·exact wpAny_Name (wpAny_loadName_cell I.ok.kind d k a b) j
  ·exact wpAny_Name (wpAny_loadName_free I.ok.kind d k a b g) j
theorem zM{i j pos}:PE X (.Constant (.int i) j pos) (tC (.int i)):=λ_ _ _ H _ I h=>wpAny_Constant_int ⟨.int i,H,I.tok _,⟨_,rfl⟩,h⟩
theorem Dt{b j pos}:PE X (.Constant (.bool b) j pos) (tC (.bl b)):=λ_ _ _ H _ I h=>Constant_bool ⟨.bl b,H,I,rfl,h⟩
theorem zY9{j pos}:PE X (.Constant .none j pos) (tC .non):=λ_ _ _ H _ I h=>ae3 ⟨.non,H,I,rfl,h⟩
theorem yN{x j pos}:PE X (.Constant (.str x) j pos) (tC (.str x)):=λ_ _ _ H _ I h=>Calls.Constant_str ⟨.str x,H,I.tok _,⟨_,rfl⟩,h⟩
def Gl(X:Cx)(x:Str):Prop:=X.env.kindOf x=some .globalImplicit
theorem Uo{Q:Value->Shared->Prop}(I:Inv X pins σ H s)(c:Gl X x)(b:X.mg x=some u)(h:Q u s)(d:(x==("__debug__":Str))=false:=by decide):wpAny (model X.prog X.w) X.A (eval (.Name x pos) X.env) Q E s :=
 Calls.Name_function_global I.ok.kind c (Calls.loadGlobal_global (by rw[I.ok.glob];exact I.mod.glob.keeps I.bk) b h) d
theorem GZ{Q:Value->Shared->Prop}(I:Inv X pins σ H s)(f:Gl X x)(b:X.mg x=none)(c:bootBuiltins x=some u)(h:Q u s)(e:x ≠ "__name__":=by decide)(g:(x==("__debug__":Str))=false:=by decide):wpAny (model X.prog X.w) X.A (eval (.Name x pos) X.env) Q E s:=by
 obtain⟨mb,d,i⟩:=I.mod.blt
 exact Calls.Name_function_global I.ok.kind f (Calls.loadGlobal_builtin (by rw[I.ok.glob];exact I.mod.glob.keeps I.bk) b (by rw[I.ok.blt];exact d.keeps I.bk) ((i x e).trans c) h) g
theorem vT(c:Gl X x)(b:X.mg x=some u)(r:RelV v u)(d:(x==("__debug__":Str))=false:=by decide):PE X (.Name x pos) (tC v) :=
 λ_ _ _ H _ I h=>Uo I c b ⟨v,H,I,r,h⟩ d
theorem Ss(c:Gl X x)(a:X.mg x=none)(e:bootBuiltins x=some u)(r:RelV v u)(d:x ≠ "__name__":=by decide)(b:(x==("__debug__":Str))=false:=by decide):PE X (.Name x pos) (tC v) :=
 λ_ _ _ H _ I h=>GZ I c a e ⟨v,H,I,r,h⟩ d b
variable{a b:Expr}{ta tb:TE}{pos:Pos}
def PC(X:Cx)(op:CmpOp)(a b:Expr)(t:TE):Prop :=
 ∀(c:List (Addr×Obj))(s:Shared)(σ:St)(H:Hp)(Q:VK),Inv X c σ H s->t σ H Q ->
  wpAny (model X.prog X.w) X.A (eval a X.env) (λv e=>wpAny (model X.prog X.w) X.A (eval b X.env) (λu d=>wpAny (model X.prog X.w) X.A (compareOp op v u) (EP X c σ Q) X.xe d) X.xe e) X.xe s
theorem zW2(b:Expr)(h:op≠.In)(h2:op≠.NotIn):behindInMarks op b=false:=by
 have c:(op==CmpOp.In)=false:=by grind
 have d:(op==CmpOp.NotIn)=false:=by grind
 cases b<;>simp[behindInMarks,c,d]
def Uq(ta:TE):TE:=λσ H Q=>ta σ H λx c=>Q (.bl (decide (x=.non))) c
def Kg(ta:TE):TE:=λσ H Q=>ta σ H λx c=>Q (.bl (!decide (x=.non))) c
theorem RelV.vg(r:RelV x v):(v==adg)=decide (x=.non):=by
 cases x with
 |non=>cases r;rfl
 |bl _=>cases r;rfl
 |int _=>obtain⟨t,rfl⟩:=r;rfl
 |str _=>obtain⟨t,rfl⟩:=r;rfl
 |GP _=>obtain⟨t,rfl⟩:=r;rfl
 |flt _=>obtain⟨t,rfl⟩:=r;rfl
 |ref _=>cases r;rfl
 |ty _=>cases r;rfl
theorem XC{j c}(k:PE X a ta):PC X .Is a (.Constant .none j c) (Uq ta):=by
 intro d s σ H Q I h
 refine aV (k d s σ H _ I h) ?_
 rintro v s1 ⟨x,g,f,e,i⟩
 exact ae3 (is_none_gen ⟨.bl _,g,f,by rw[e.vg];rfl,i⟩)
theorem G3{j c}(k:PE X a ta):PC X .IsNot a (.Constant .none j c) (Kg ta):=by
 intro d s σ H Q I h
 refine aV (k d s σ H _ I h) ?_
 rintro v s1 ⟨x,g,f,e,i⟩
 exact ae3 (isnot_none_gen ⟨.bl _,g,f,by rw[e.vg];rfl,i⟩)
def tB(t:TE):TT:=λσ H Q=>t σ H λx d=>∃c,x=.bl c/\Q c d
theorem Kh(h:PC X op a b t)(f:behindInMarks op b=false:=by first|exact zW2 _ (by decide) (by decide)|rfl):PT X (.Compare a [op] [b] pos) (tB t):=by
 intro e s σ H Q I j
 refine wpAny_isTrue_Compare1 (aV (h e s σ H _ I j) λv s1 f=>aV f λu s2 g=>aV g ?_) f
 rintro c s3 ⟨x,k,i,m,l⟩
 obtain⟨d,rfl,q⟩:=l
 cases m
 exact abu ⟨k,i,q⟩
theorem vR(h:PE X e t)(m:∀c,isTrue e X.env c=(do let v <-c;standAt e.pos;holding [v] (truthy v)):=by intro _;rfl):PT X e (tB t):=by
 intro f s σ H Q I g
 refine isTrue_plain (aV (h f s σ H _ I g) ?_) (m _)
 rintro v s1 ⟨x,j,i,k,l⟩
 obtain⟨d,rfl,q⟩:=l
 cases k
 exact abu ⟨j,i,q⟩
variable{tA XD:TT}{rest:List Expr}
def Ur(t u:TT):TT:=λσ H Q=>t σ H λc d=>if c=true then u σ d Q else Q false d
def tOr(t u:TT):TT:=λσ H Q=>t σ H λc d=>if c=true then Q true d else u σ d Q
def Us(t:TT):TT:=λσ H Q=>t σ H λc d=>Q (!c) d
theorem pw_and1(f:PT X a tA):PW X (.BoolOp .And [a] pos) tA:=by
 intro wh d s σ H Q I h
 refine isTrue_and (aV (f d s σ H Q I h) λc s1 e=>?_)
 cases c with
 |true=>exact isTrue_and_nil e
 |false=>exact e
theorem pw_or1(f:PT X a tA):PW X (.BoolOp .Or [a] pos) tA:=by
 intro wh d s σ H Q I h
 refine isTrue_or (aV (f d s σ H Q I h) λc s1 e=>?_)
 cases c with
 |false=>exact isTrue_or_nil e
 |true=>exact e
theorem pw_and(j:PT X a tA)(l:PW X (.BoolOp .And (b::rest) pos) XD):PW X (.BoolOp .And (a::b::rest) pos) (Ur tA XD):=by
 intro i d s σ H Q I h
 refine isTrue_and (aV (j d s σ H _ I h) ?_)
 rintro c k ⟨e,f,g⟩
 cases c with
 |true=>exact l i d k σ e Q f g
 |false=>exact⟨e,f,g⟩
theorem pw_or(j:PT X a tA)(l:PW X (.BoolOp .Or (b::rest) pos) XD):PW X (.BoolOp .Or (a::b::rest) pos) (tOr tA XD):=by
 intro i d s σ H Q I h
 refine isTrue_or (aV (j d s σ H _ I h) ?_)
 rintro c k ⟨e,f,g⟩
 cases c with
 |true=>exact⟨e,f,g⟩
 |false=>exact l i d k σ e Q f g
theorem M8(f:PT X a tA):PT X (.UnaryOp .Not a pos) (Us tA):=by
 intro d s σ H Q I h
 exact isTrue_not (f d s σ H (λc e=>Q (!c) e) I h)
def Kl(ta tb:TE):TE:=λσ H Q=>ta σ H λx d=>∃c,x=.bl c/\if c=true then tb σ d Q else Q (.bl false) d
def Km(ta:TE):TE:=λσ H Q=>ta σ H λx d=>∃c,x=.bl c/\Q (.bl (!c)) d
theorem zY8{op}(h:PE X a t):PE X (.BoolOp op [a] pos) t:=λc s σ H Q I d=>BoolOp_one (h c s σ H Q I d)
theorem ZM(k:PE X a ta)(i:PE X (.BoolOp .And (b::rest) pos) tb):PE X (.BoolOp .And (a::b::rest) pos) (Kl ta tb):=by
 intro d s σ H Q I h
 refine BoolOp_and (aV (k d s σ H _ I h) ?_)
 rintro v l ⟨x,f,g,j,e⟩
 obtain⟨c,rfl,e⟩:=e
 cases j
 refine abu ?_
 cases c with
 |true=>exact i d l σ f Q g e
 |false=>exact⟨.bl false,f,g,rfl,e⟩
theorem M9(j:PE X a ta):PE X (.UnaryOp .Not a pos) (Km ta):=by
 intro d s σ H Q I h
 refine UnaryOp_ (aV (j d s σ H _ I h) ?_)
 rintro v s1 ⟨x,g,i,f,e⟩
 obtain⟨c,rfl,e⟩:=e
 cases f
 exact not_of (abu ⟨.bl (!c),g,i,rfl,e⟩)
def tIf(t:TT)(ta tb:TE):TE:=λσ H Q=>t σ H λc d=>if c=true then ta σ d Q else tb σ d Q
theorem zOb(m:PT X c tA)(l:PE X a ta)(k:PE X b tb):PE X (.IfExp c a b pos) (tIf tA ta tb):=by
 intro e s σ H Q I h
 refine wpAny_IfExp (aV (m e s σ H _ I h) ?_)
 rintro d i ⟨j,g,f⟩
 cases d with
 |true=>exact l e i σ j Q g f
 |false=>exact k e i σ j Q g f
end
def bN(K:Frag)(H:Hp)(a:Addr)(xs:List V):Prop :=
 Rd H a (.lst xs) \/
  ∃(o:Obj)(b:Array Value)(n:Nat),K.lookup a=some o/\o.cls=.type "list" /\ o.dict=none/\o.data=.seq b n/\b.size<=sizeLine/\Vals xs b.toList
def ni(K:Frag)(H:Hp)(a:Addr)(xs:List V):Prop :=
 Rd H a (.tup xs) \/
  ∃(o:Obj)(b:Array Value)(n:Nat),K.lookup a=some o/\o.cls=.type "tuple" /\ o.data=.seq b n/\b.size<=sizeLine/\Vals xs b.toList
def ZP:Value->Option V
 |.none=>some .non
 |.bool b=>some (.bl b)
 |.int i _=>some (.int i)
 |.str x _=>some (.str x)
 |.bytes b _=>some (.GP b)
 |.float b _=>some (.flt b)
 |.ref a=>some (.ref a)
 |.type n=>some (.ty n)
 |_=>none
theorem RelV.abs(r:RelV x u):ZP u=some x:=by
 cases x with
 |non=>cases r;rfl
 |bl _=>cases r;rfl
 |int _=>obtain⟨t,rfl⟩:=r;rfl
 |str _=>obtain⟨t,rfl⟩:=r;rfl
 |GP _=>obtain⟨t,rfl⟩:=r;rfl
 |flt _=>obtain⟨t,rfl⟩:=r;rfl
 |ref _=>cases r;rfl
 |ty _=>cases r;rfl
theorem RelV.inj(r:RelV x u)(q:RelV y u):x=y:=abf (r.abs.symm.trans q.abs)
theorem Vals.inj:∀{xs ys:List V}{us:List Value},Vals xs us->Vals ys us->xs=ys
 |_,_,_,.nil,.nil=>rfl
 |_,_,_,.cons r t,.cons a b=>by rw[r.inj a,Vals.inj t b]
section
variable{X:Cx}{pins:List (Addr×Obj)}{σ:St}{H:Hp}{s:Shared}{a:Addr}{xs ys:List V}
theorem bN.of{K:Frag}(h:H a=some (.lst xs)):bN K H a xs:=.inl (.inl h)
theorem ni.of{K:Frag}(h:H a=some (.tup xs)):ni K H a xs:=.inl (.inl h)
theorem Inv.list(I:Inv X pins σ H s)(h:bN X.K H a xs):∃b:List Value,Vals xs b/\PlainL s.heap a b.toArray/\xs.length<=sizeLine:=by
 rcases h with h|⟨o,b,n,d,f,c,hs,hz,r⟩
 ·obtain⟨z,b,n,r,e⟩:=h.ok I.hok
  exact⟨b,r,⟨_,n,e,rfl,rfl,rfl⟩,z⟩
 ·refine⟨b.toList,r,⟨o,n,I.lX a o d,f,c,by simp_all⟩,?_⟩
  have e:=r.length
  grind
theorem Inv.tuple(I:Inv X pins σ H s)(h:ni X.K H a xs):∃b:List Value,Vals xs b/\IsTup s.heap a b.toArray/\xs.length<=sizeLine:=by
 rcases h with h|⟨o,b,n,d,c,hs,hz,r⟩
 ·obtain⟨z,b,r,p⟩:=h.ok I.hok
  grind
 ·refine⟨b.toList,r,⟨o,I.lX a o d,c,n,by simp_all⟩,?_⟩
  have e:=r.length
  grind
theorem Inv.vh(I:Inv X pins σ H s)(h:bN X.K H a xs)(h':bN X.K H a ys):xs=ys:=by
 obtain⟨c,r,⟨o,n,e,_,_,d⟩,_⟩:=I.list h
 obtain⟨b,f,⟨o',n',e',_,_,d'⟩,_⟩:=I.list h'
 have:c=b:=by grind
 subst this
 exact r.inj f
theorem Inv.BW(I:Inv X pins σ H s)(h:ni X.K H a xs)(h':ni X.K H a ys):xs=ys:=by
 obtain⟨c,r,⟨o,e,_,n,d⟩,_⟩:=I.tuple h
 obtain⟨b,f,⟨o',e',_,n',d'⟩,_⟩:=I.tuple h'
 have:c=b:=by grind
 subst this
 exact r.inj f
end
abbrev Cx.wish(X:Cx)(E:Value->Shared->Prop):Cx:={ X with xe:=E }
abbrev Cx.Ko(X:Cx):Cx:=X.wish λ_ _=>False
theorem Cx.Ok.wish{X:Cx}(a:X.Ok)(E:Value->Shared->Prop):(X.wish E).Ok :=
 ⟨a.mod,a.kind,a.glob,a.blt,a.above,a.inj,a.has,a.cab,a.hd,a.frames,a.stk,a.Xy,a.bs,a.GX,a.Dr,a.Ds,a.oF,a.M5⟩
theorem Cx.Ok.jq{X:Cx}(a:(X.wish E).Ok):X.Ok :=
 ⟨a.mod,a.kind,a.glob,a.blt,a.above,a.inj,a.has,a.cab,a.hd,a.frames,a.stk,a.Xy,a.bs,a.GX,a.Dr,a.Ds,a.oF,a.M5⟩
section
variable{X:Cx}{pins:List (Addr×Obj)}{σ:St}{H:Hp}{s:Shared}{E:Value->Shared->Prop}
theorem Inv.wish(I:Inv X pins σ H s)(E:Value->Shared->Prop):Inv (X.wish E) pins σ H s:=⟨I.ok.wish E,I.os,I.bare,I.base,I.loc,I.cell,I.free,I.jo,I.pin,I.hok,I.len⟩
theorem Inv.jq(I:Inv (X.wish E) pins σ H s):Inv X pins σ H s:=⟨I.ok.jq,I.os,I.bare,I.base,I.loc,I.cell,I.free,I.jo,I.pin,I.hok,I.len⟩
theorem SP.jq(h:SP (X.wish E) pins D f s'):SP X pins D f s':=by
 cases f with
 |next=>obtain⟨a,b,I,q⟩:=h;exact⟨a,b,I.jq,q⟩
 |brk=>obtain⟨a,b,I,q⟩:=h;exact⟨a,b,I.jq,q⟩
 |cont=>obtain⟨a,b,I,q⟩:=h;exact⟨a,b,I.jq,q⟩
 |ret u=>obtain⟨v,a,b,I,r,q⟩:=h;exact⟨v,a,b,I.jq,r,q⟩
theorem qT.Ko{st:List Stmt}{t:TS}(h:qT X.Ko st t):qT X st t:=λpins s σ H D I a =>
 ab1 (h pins s σ H D (I.wish _) a) (λ_ _ q=>q.jq) λ_ _ z=>abz z
end
section
variable{X:Cx}{st:Stmt}{rest:List Stmt}{t u:TS}{e:Expr}{te:TE}{pos:Pos}
def Ut:TS:=λD σ H=>D.nx σ H
def pC(t u:TS):TS:=λD σ H=>t { D with nx:=u D } σ H
theorem zI:qT X [] Ut:=λ_ _ σ H _ I h=>aed ⟨σ,H,I,h⟩
theorem zB(d:PS X st t)(h2:qT X rest u):qT X (st::rest) (pC t u):=by
 intro a s σ H D I h
 refine wpAny_execs_cons (aV (d a s σ H { D with nx:=u D } I h) λf i q=>?_)
 cases f with
 |next =>
  obtain⟨g,b,c,q⟩:=q
  exact h2 a i g b D c q
 |ret v=>exact q
 |brk=>exact q
 |cont=>exact q
theorem xZ(b:PS X st t):qT X [st] t:=by
 intro a s σ H D I h
 refine wpAny_execs_cons (aV (b a s σ H D I h) λf s1 q=>?_)
 cases f with
 |next=>exact aed q
 |ret v=>exact q
 |brk=>exact q
 |cont=>exact q
theorem Inv.quiet(I:Inv X pins σ H s):interactive X.env=false:=by simp[interactive,I.ok.kind]
def Kq(te:TE):TS:=λD σ H=>te σ H λ_ a=>D.nx σ a
theorem yI(f:PE X e te)(g:swapsWith e none pos.line X.env=pure false:=by rfl):PS X (.Expr e pos) (Kq te):=by
 intro a s σ H D I h
 exact wpAny_Expr_any (aV (f a s σ H _ I h) (by rintro v s1 ⟨x,c,b,r1,d⟩;exact⟨σ,c,b,d⟩)) I.quiet g
def G4(te:TE):TS:=λD σ H=>te σ H D.rt
theorem zQ(g:PE X e te):PS X (.Return (some e) pos) (G4 te):=by
 intro a s σ H D I h
 exact wpAny_Return_some (aV (g a s σ H _ I h) (by rintro v s1 ⟨x,d,c,b,f⟩;exact⟨x,σ,d,c,b,f⟩))
def G5(c:TT)(t u:TS):TS:=λD σ H=>c σ H λb a=>if b=true then t D σ a else u D σ a
theorem xD(n:PT X c o)(m:qT X a t)(l:qT X b u):PS X (.If c a b pos) (G5 o t u):=by
 intro f s σ H D I h
 refine wpAny_If (aV (n f s σ H _ I h) ?_)
 rintro d k ⟨g,i,j⟩
 cases d with
 |true=>exact m f k σ g D i j
 |false=>exact l f k σ g D i j
def zYo:TS:=λ_ _ _=>False
theorem Sv:qT X sts zYo:=λ_ _ _ _ _ _ h=>h.elim
end
abbrev TG:=V->St->Hp->(St->Hp->Prop)->Prop
abbrev Sw:=List V->St->Hp->(St->Hp->Prop)->Prop
def PG(X:Cx)(a:Expr)(t:TG):Prop :=
 ∀(b:List (Addr×Obj))(s:Shared)(σ:St)(H:Hp)(v:V)(u:Value)(Q:St->Hp->Prop),Inv X b σ H s->RelV v u->t v σ H Q ->
  wpAny (model X.prog X.w) X.A (assign a X.env u) (λ_ e=>∃d c,Inv X b d c e/\Q d c) X.xe s
def G6(X:Cx)(ts:List Expr)(t:Sw):Prop :=
 ∀(a:List (Addr×Obj))(s:Shared)(σ:St)(H:Hp)(c:List V)(d:List Value)(Q:St->Hp->Prop),Inv X a σ H s->Vals c d->t c σ H Q ->
  wpAny (model X.prog X.w) X.A (assignInOrder ((assignEach ts X.env).map (·.2)) d) (λ_ f=>∃e b,Inv X a e b f/\Q e b) X.xe s
abbrev M_:=V->V->V->Hp->(Hp->Prop)->Prop
def Nb(X:Cx)(t:M_):Prop :=
 ∀(a:List (Addr×Obj))(s:Shared)(σ:St)(H:Hp)(o i v:V)(b d u:Value)(Q:Hp->Prop),Inv X a σ H s->RelV o b->RelV i d->RelV v u->t o i v H Q ->
  wpAny (model X.prog X.w) X.A (setItem b d u) (λ_ e=>∃c,Inv X a σ c e/\Q c) X.xe s
abbrev XF:=V->V->Hp->VK->Prop
def XH(X:Cx)(op:Operator)(t:XF):Prop :=
 ∀(a:List (Addr×Obj))(s:Shared)(σ:St)(H:Hp)(x y:V)(v u:Value)(Q:VK),Inv X a σ H s->RelV x v->RelV y u->t x y H Q ->
  wpAny (model X.prog X.w) X.A (inplaceOp op v u) (EP X a σ Q) X.xe s
section
variable{X:Cx}{pos:Pos}
def vm(i:Nat):TG:=λv σ H Q=>Q (σ.set i (some v)) H
theorem yM(a:X.N.Nodup)(c:X.N[i]?=some x)(d:Loc X.env.scope x)(e:X.fn x=true\/X.env.scope.names.lookup x=some .local:=by first|exact .inl rfl|exact .inr rfl|assumption):PG X (.Name x pos) (vm i):=by
 intro pins s σ H v u Q I r h
 exact wpAny_assign_Name (ZL I a c d r (λs' b=>⟨_,H,b,h⟩) e)
def Nf:Sw:=λa σ H Q=>a=[]/\Q σ H
def SJ(t:TG)(u:Sw):Sw:=λa σ H Q=>∃v r,a=v::r/\t v σ H λc b=>u r c b Q
theorem vC:G6 X [] Nf:=by
 intro pins s σ H vs us Q I r h
 obtain⟨e,h⟩:=h
 exact assignInOrder_nil ⟨σ,H,I,h⟩
theorem yH(g:PG X e t)(h2:G6 X es u)(l:(assignEach (e::es) X.env).map (·.2)=assign e X.env::(assignEach es X.env).map (·.2):=by rfl):G6 X (e::es) (SJ t u):=by
 intro a s σ H vs us Q I r h
 obtain⟨v,vr,d,h⟩:=h
 subst d
 cases r with
 |cons r c =>
  rw[l]
  refine assignInOrder_cons (aV (g a s σ H _ _ _ I r h) ?_)
  rintro _ b ⟨i,j,f,k⟩
  exact h2 a b i j _ _ Q f c k
def G7(K:Frag)(n:Nat)(t:Sw):TG:=λv σ H Q=>∃a c,v=.ref a/\ni K H a c/\c.length=n/\t c σ H Q
theorem C_(x:X.calm=true)(h:G6 X es t)(j:(assignEach es X.env).length=n:=by rfl)(f:(assignEach es X.env).findIdx? (·.1)=none:=by rfl):PG X (.Tuple es k pos) (G7 X.K n t):=by
 intro c s σ H v u Q I r d
 obtain⟨a,p,i,g,q,d⟩:=d
 subst i
 cases r
 obtain⟨its,y,l,hz⟩:=I.tuple g
 refine assign_Tuple_tuple (I.ok.hd x) l (by simp[j,<-q,y.length]) f λh' w=>?_
 have m:=I.kept (t':=s.toks) λb o e=>w b o (aa8 (lt_size e)) e
 exact h c _ σ H p _ Q m (by grind) d
def Uu(d a:TE)(t:M_):TG:=λv σ H Q=>d σ H λo b=>a σ b λi e=>t o i v e λc=>Q σ c
theorem XJ(f:PE X o E)(A:PE X i p)(l:Nb X t)(ha:∀v,assign (.Subscript o i pos) X.env v=(do
   let b <-holding [v] (eval o X.env)
   let c <-holding [v,b] (eval i X.env)
   standAt pos
   holding [v,b,c] (setItem b c v)
   release [v,b,c] []):=by intro _;rfl):PG X (.Subscript o i pos) (Uu E p t):=by
 intro a s σ H v u Q I r h
 refine aav (abo (aV (f a s σ H _ I h) ?_))
 rintro b n ⟨x,g,z,q,j⟩
 refine aav (abo (aV (A a n σ g _ z j) ?_))
 rintro c B ⟨y,d,e,D,m⟩
 refine aav (ae6 (aav (abo (aV (l a B σ d x y v b c u _ e q D r m) ?_))))
 rintro _ s3 ⟨k,w,C⟩
 exact wpAny_release ⟨σ,k,w,C⟩
def pD(te:TE)(g:TG):TS:=λD σ H=>te σ H λx a=>g x σ a D.nx
theorem G8(m:PE X e te)(o:PG X b g)(n:swapsWithSole [b] e pos.line X.env=pure false:=by rfl)(c:swappedStores [b] e X.env=pure none:=by rfl)(i:(assignEach [b] X.env).map (·.2)=[assign b X.env]:=by rfl):PS X (.Assign [b] e pos) (pD te g):=by
 intro a s σ H D I h
 refine wpAny_Assign_stores (aV (m a s σ H _ I h) ?_) n c
 rintro v j ⟨x,k,f,d,l⟩
 rw[i]
 exact aV (o a j σ k x v _ f d l) λ_ s2 q=>q
theorem XM(c:X.N.Nodup)(f:X.N[i]?=some x)(j:Loc X.env.scope x)(m:PE X e te)(o:swapsWith e (some (.Name x b)) pos.line X.env=pure false:=by rfl)(n:X.fn x=true\/X.env.scope.names.lookup x=some .local:=by first|exact .inl rfl|exact .inr rfl|assumption) :
  PS X (.Assign [.Name x b] e pos) (pD te (vm i)):=by
 intro a s σ H D I h
 refine wpAny_Assign_Name (aV (m a s σ H _ I h) ?_) o
 rintro v s1 ⟨y,k,d,p,l⟩
 exact ZL d c f j p (λs2 g=>⟨_,k,g,l⟩) n
def Uv(i:Nat)(te:TE)(a:XF):TS:=λD σ H=>∃x,σ[i]?=some (some x)/\te σ H λy b=>a x y b λz c=>D.nx (σ.set i (some z)) c
theorem zY7(Z:X.N.Nodup)(j:X.N[i]?=some x)(f:Loc X.env.scope x)(T:PE X e te)(Q:XH X op F)(S:X.fn x=true\/X.env.scope.names.lookup x=some .local:=by first|exact .inl rfl|exact .inr rfl|assumption) :
  PS X (.AugAssign (.Name x pos') op e pos) (Uv i te F):=by
 intro a s σ H D I h
 obtain⟨v,P,h⟩:=h
 obtain⟨m,J,R⟩:=I.loc
 have g:Uk X.env.scope x:=by rcases f with k|k;exact .inl k;exact .inr (.inl k)
 obtain⟨u,r,l⟩:=R i x v j P g
 refine wpAny_AugAssign_Name ?_
 have n:wpAny (model X.prog X.w) X.A (eval e X.env) (λw o=>wpAny (model X.prog X.w) X.A (inplaceOp op u w) (λr B=>wpAny (model X.prog X.w) X.A (storeName X.env x r) (λ_=>SP X a D .next) X.xe B) X.xe o) X.xe s:=by
  refine aV (T a s σ H _ I h) ?_
  rintro w G ⟨y,W,O,L,p⟩
  refine aV (Q a G σ W v y u w _ O r L p) ?_
  rintro z s2 ⟨zv,Y,q,U,C⟩
  exact ZL q Z j f U (λs3 M=>⟨_,Y,M,C⟩) S
 rcases l with⟨b,E⟩|⟨b,c,t,d⟩
 ·exact wpAny_loadName_local I.ok.kind b J E n
 ·rcases b with b|b
  ·exact wpAny_loadName_cell I.ok.kind b t d n
  ·rcases f with k|k
   ·have:X.env.scope.names.lookup x=some .free:=b
    rw[k] at this;cases this
   ·have:X.env.scope.names.lookup x=some .free:=b
    grind
def Kr(j d te:TE)(a:V->V->Hp->VK->Prop)(c:XF)(b:M_):TS:=λD σ H=>j σ H λo g=>d σ g λi k=>a o i k λx h=>te σ h λy f=>c x y f λz m=>b o i z m λl=>D.nx σ l
def Uw(X:Cx)(t:V->V->Hp->VK->Prop):Prop :=
 ∀(a:List (Addr×Obj))(s:Shared)(σ:St)(H:Hp)(o i:V)(b c:Value)(Q:VK),Inv X a σ H s->RelV o b->RelV i c->t o i H Q ->
  wpAny (model X.prog X.w) X.A (getItem b c) (EP X a σ Q) X.xe s
theorem G9(r:PE X o to)(Y:PE X i L)(hg:Uw X g)(he:PE X e te)(q:XH X op k)(x:Nb X f)(A:∀d c b,augStore i d c b=(do holding [b,d,c] (setItem d c b);release [b,d,c] [];pure .next):=by intros;rfl):PS X (.AugAssign (.Subscript o i tpos) op e pos) (Kr to L te g k f):=by
 intro a s σ H D I h
 refine wpAny_AugAssign_SubscriptAny (aV (r a s σ H _ I h) ?_) A
 rintro d s1 ⟨p,t,W,n,u⟩
 refine aV (Y a s1 σ t _ W u) ?_
 rintro c Z ⟨l,H2,M,m,B⟩
 refine aV (hg a Z σ H2 p l d c _ M n m B) ?_
 rintro j C ⟨O,w,U,r3,q3⟩
 refine aV (he a C σ w _ U q3) ?_
 rintro v y ⟨E,R,N,S,Q⟩
 refine aV (q a y σ R O E j v _ N r3 S Q) ?_
 rintro b s5 ⟨F,G,z,r5,T⟩
 exact aV (x a s5 σ G p l F d c b _ z n m r5 T) λ_ s6 ⟨P,J,q6⟩=>⟨σ,P,J,q6⟩
def XQ(f:Int->Int->Int):XF:=λx y H Q=>∃i j,x=.int i/\y=.int j/\Q (.int (f i j)) H
theorem Ng:XH X .Add (XQ λi j=>i+j):=by
 intro pins s σ H x y v u Q I d b h
 obtain⟨i,j,c,a,q⟩:=h
 subst c;subst a
 obtain⟨t,rfl⟩:=d
 obtain⟨t',rfl⟩:=b
 exact iadd_int ⟨.int _,H,I.tok _,⟨_,rfl⟩,q⟩
end
section
variable{X:Cx}{pos:Pos}
def zYn(c:TT)(g:TS):TS:=λD σ H=>∃W:Nat->St->Hp->Prop,(∃m,W m σ H)/\∀m σ H,W m σ H ->
 c σ H λb d=>if b=true then∃N:St->Hp->Prop,(∀a f,N a f->∃e,e<m/\W e a f)/\g { D with nx:=N,ct:=N,bk:=D.nx } σ d else D.nx σ d
theorem zN8(hp:PassesOwn (model X.prog X.w) X.A X.env X.xe)(hc:PT X c tc)(hb:qT X body tb):PS X (.While c body [] pos) (zYn tc tb):=by
 intro pins s σ H D I h
 obtain⟨W,⟨m0,w0⟩,turn⟩:=h
 refine wpAny_While (codeAny_whileLoop (λn s'=>∃σ' H',Inv X pins σ' H' s'/\W n σ' H') ?_ m0 ⟨σ,H,I,w0⟩)
 rintro n s1 ⟨σ1,H1,I1,w1⟩
 refine acw hp (aV (hc pins s1 σ1 H1 _ I1 (turn n σ1 H1 w1)) λb s2 ⟨H2,I2,q2⟩=>?_)
 cases b with
 |true =>
  obtain⟨N,hN,q2⟩:=q2
  rw[if_pos rfl]
  refine acw hp (aV (hb pins s2 σ1 H2 _ I2 q2) λf s3 q3=>?_)
  cases f with
  |next =>
   obtain⟨σ3,H3,I3,n3⟩:=q3
   obtain⟨m',hm,w3⟩:=hN σ3 H3 n3
   exact⟨m',hm,σ3,H3,I3,w3⟩
  |cont =>
   obtain⟨σ3,H3,I3,n3⟩:=q3
   obtain⟨m',hm,w3⟩:=hN σ3 H3 n3
   exact⟨m',hm,σ3,H3,I3,w3⟩
  |brk=>exact q3
  |ret v=>exact q3
 |false =>
  rw[if_neg aay]
  exact aed ⟨σ1,H2,I2,q2⟩
end
structure It where
 go:Nat->Hp->Prop
 SM:Nat->Hp->V->Hp->Prop
 stop:Nat->Hp->Prop
def oG(X:Cx)(d:List (Addr×Obj))(H:Hp)(b:Addr):Prop :=
 H b=none/\b≠X.env.locals/\b∉X.fs/\(b∈X.ex\/X.s₀.heap.objs.size<=b)/\(∀x c,X.env.cells.lookup x=some c->c≠b)/\∀p∈X.pn++d,p.1≠b
theorem Inv.pF(I:Inv X pins σ H s)(hb:s.heap.objs.size<=b)(hn:H' b=none):oG X pins H' b:=by
 refine⟨hn,ad3 (aa9 I.lt hb),I.M6 hb,.inr (aa4 I.sz hb),λx c e z=>?_,λp hp z=>?_⟩
 ·obtain⟨v,q⟩:=I.cell x c e
  exact absurd (aa9 q.lt (by rw[z];exact hb)) (ab2 _)
 ·exact absurd (aa9 (lt_size (I.pin p hp).1) (by rw[z];exact hb)) (ab2 _)
structure Turn(P:Program)(w:World)(K:Frag)(tg:Expr)(J:It)(fp:List Addr)(it:Addr)(tn:Nat->Heap->Prop):Prop where
 mem:it∈fp
 obj:∀i h,tn i h->∀b∈fp,∃o,h.get? b=some o/\∀v,o.data≠.cell v
 keep:∀i h h',tn i h->(∀b∈fp,∀o,h.get? b=some o->h'.get? b=some o)->tn i h'
 item:∀(X:Cx),X.prog=P->X.w=w->X.K=K->X.calm=true->∀(i:Nat)(pins:List (Addr×Obj))(s:Shared)(σ:St)(H:Hp)(E:Value->Shared->Prop),Inv X pins σ H s->(∀b∈fp,oG X pins H b)->tn i s.heap->J.go i H ->
  wpAny (model P w) X.A (pyNext (.ref it)) (λr s1=>∃u,r=some u /\
   wpAny (model P w) X.A (letOwnedTupleGo tg (.ref it) u) (λ_ s2=>∃x H',Inv X pins σ H' s2/\RelV x u/\J.SM i H x H'/\tn (i+1) s2.heap/\∀b∈fp,H' b=none) E s1) E s
 done:∀(X:Cx),X.prog=P->X.w=w->X.K=K->X.calm=true->∀(i:Nat)(pins:List (Addr×Obj))(s:Shared)(σ:St)(H:Hp)(E:Value->Shared->Prop),Inv X pins σ H s->(∀b∈fp,oG X pins H b)->tn i s.heap->J.stop i H ->
  wpAny (model P w) X.A (pyNext (.ref it)) (λr s1=>r=none/\Inv X pins σ H s1) E s
 self:∀(A:Around)(i:Nat)(s:Shared)(Q:Value->Shared->Prop)(E:Value->Shared->Prop),tn i s.heap->Q (.ref it) s->wpAny (model P w) A (pyIter (.ref it)) Q E s
abbrev TI:=St->Hp->(It->Hp->Prop)->Prop
def PIE(X:Cx)(a:List (Addr×Obj))(σ:St)(i:Expr)(R:It->Hp->Prop)(c:Value)(h:Shared):Prop :=
 ∃(f:Addr)(e:List Addr)(g:Nat->Heap->Prop)(J:It)(d:Hp),c=.ref f/\Inv X a σ d h/\Turn X.prog X.w X.K i J e f g/\g 0 h.heap/\(∀b∈e,oG X a d b)/\R J d
def PI(X:Cx)(d b:Expr)(c:TI):Prop :=
 ∀(a:List (Addr×Obj))(s:Shared)(σ:St)(H:Hp)(R:It->Hp->Prop),Inv X a σ H s->c σ H R ->
  wpAny (model X.prog X.w) X.A (eval b X.env) (λv e=>wpAny (model X.prog X.w) X.A (pyIter v) (PIE X a σ d R) X.xe e) X.xe s
theorem Ux{s:Shared}{Q:Unit->Shared->Prop}(c:s.heap.get? d=some o)(e:o.cls=.type n)(f:o.data=.fields vs)(hn:["enumerate","zip","dict_itemiterator","dict_reverseitemiterator","odict_iterator","itertools.zip_longest","itertools.pairwise"].contains n=false)(a:Q () s):wpAny M A (letOwnedTupleGo b (.ref d) u) Q E s:=by
 unfold letOwnedTupleGo
 cases b<;>first
  |exact aaw a
  | (cases u<;>first
    |exact aaw a
    | (refine aav (wpAny_load c ?_)
       rw[e,f]
       show wpAny M A (if(["enumerate","zip","dict_itemiterator","dict_reverseitemiterator","odict_iterator","itertools.zip_longest","itertools.pairwise"].contains n&&vs[0]?==some (rawInt _))=true then _ else _) Q E s
       rw[if_neg (by grind)]
       exact aaw a))
def SN(K:Frag)(a:Addr):It :=
 ⟨λi H=>∃b x,bN K H a b/\b[i]?=some x,λi H x c=>c=H/\∀b,bN K H a b->b[i]?=some x,λi H=>∃b,bN K H a b/\b.length<=i⟩
def Itt(K:Frag)(a:Addr):It :=
 ⟨λi H=>∃b x,ni K H a b/\b[i]?=some x,λi H x c=>c=H/\∀b,ni K H a b->b[i]?=some x,λi H=>∃b,ni K H a b/\b.length<=i⟩
def XR(lo:Int)(n:Nat):It:=⟨λi _=>i<n,λi H x a=>a=H/\x=.int (lo+i),λi _=>n<=i⟩
theorem zRh{P:Program}{w:World}{K:Frag}{O:Expr}(a g:Addr):Turn P w K O (SN K a) [g] g (λi h=>h.IsListIter g a i) where
 mem:=by simp
 obj:=λi h st b j=>by
  have e:b=g:=by simpa using j
  subst e
  obtain⟨o,e,c,d⟩:=st
  grind
 keep:=λi h m st k=>st.at λo e=>k g (by simp) o e
 item:=by
  intro X v D B L i f s σ H E I q st J
  subst v D B
  obtain⟨N,x,n,t⟩:=J
  obtain⟨A,z,p,R⟩:=I.list n
  obtain⟨u,U,Y⟩:=z.get t
  obtain⟨G,F,Q,y,r,C⟩:=q g (by simp)
  refine wpAny_pyNext_list_item st p.isList (x:=u) (by simpa using U) λm l Z=>?_
  have M:Inv X f σ H { s with heap:=m }:=I.turned (t':=s.toks) (λb o j e=>(Z.2 b j).trans e) G F y r C
  obtain⟨o,e,c,d⟩:=id l
  exact⟨u,rfl,Ux (s:={ s with heap:=m }) e c d (by decide) ⟨x,H,M,Y,⟨rfl,λys T=>by rw[I.vh T n];exact t⟩,l,λb j=>(q b j).1⟩⟩
 done:=by
  intro X v D B L i f s σ H E I q st J
  subst v D B
  obtain⟨N,n,t⟩:=J
  obtain⟨A,z,p,R⟩:=I.list n
  obtain⟨G,F,Q,y,r,C⟩:=q g (by simp)
  have hl:=z.length
  exact wpAny_pyNext_list_end (I.ok.hd L) st p.isList (by simp;lia) λm S=>⟨rfl,I.turned (t':=s.toks) (λb o j e=>S b o j e) G F y r C⟩
 self:=λ_ _ _ _ _ st h=>wpAny_pyIter_listiter st h
theorem zPn{P:Program}{w:World}{K:Frag}{O:Expr}(a l:Addr):Turn P w K O (Itt K a) [l] l (λi h=>h.IsTupleIter l a i) where
 mem:=by simp
 obj:=λi h st b j=>by
  have e:b=l:=by simpa using j
  subst e
  obtain⟨o,e,c,d⟩:=st
  grind
 keep:=λi h n st k=>st.at λo e=>k l (by simp) o e
 item:=by
  intro X G C A L i f s σ H E I r st D
  subst G C A
  obtain⟨N,x,q,J⟩:=D
  obtain⟨g,v,p,Y⟩:=I.tuple q
  obtain⟨u,U,M⟩:=v.get J
  obtain⟨z,F,Q,y,t,B⟩:=r l (by simp)
  refine wpAny_pyNext_tuple_item st (show s.heap.IsTuple a g.toArray from p) (x:=u) (by simpa using U) λn m T=>?_
  have Z:Inv X f σ H { s with heap:=n }:=I.turned (t':=s.toks) (λb o j e=>(T.2 b j).trans e) z F y t B
  obtain⟨o,e,c,d⟩:=id m
  exact⟨u,rfl,Ux (s:={ s with heap:=n }) e c d (by decide) ⟨x,H,Z,M,⟨rfl,λys R=>by rw[I.BW R q];exact J⟩,m,λb j=>(r b j).1⟩⟩
 done:=by
  intro X G C A L i f s σ H E I r st D
  subst G C A
  obtain⟨N,q,J⟩:=D
  obtain⟨g,v,p,Y⟩:=I.tuple q
  obtain⟨z,F,Q,y,t,B⟩:=r l (by simp)
  have hl:=v.length
  exact wpAny_pyNext_tuple_end (I.ok.hd L) st (show s.heap.IsTuple a g.toArray from p) (by simp;lia) λn S=>⟨rfl,I.turned (t':=s.toks) (λb o j e=>S b o j e) z F y t B⟩
 self:=λ_ _ _ _ _ st h=>wpAny_pyIter_tupleiter st h
theorem zPo{P:Program}{w:World}{K:Frag}{G:Expr}(c:Addr)(lo:Int)(n:Nat):Turn P w K G (XR lo n) [c] c (λi h=>IsRangeIter h c (lo+(i:Nat)*1) ((n:Int)-(i:Nat)) 1) where
 mem:=by simp
 obj:=λi h st b d=>by
  grind
 keep:=λi h g st k=>k c (by simp) _ st
 item:=by
  intro X l q m x i a s σ H E I j st u
  subst l q m
  obtain⟨y,r,L,z,A,p⟩:=j c (by simp)
  have W:=Walks.range (prog:=X.prog) (w:=X.w) (I.ok.hd x) c lo 1 n
  refine W.item i s _ _ u st λv g B F f C=>?_
  obtain⟨t,rfl⟩:=F
  have J:Inv X a σ H { s with heap:=g,toks:=B }:=I.turned (λb o d e=>C b o (by simpa using d) e) y r z A p
  refine⟨_,rfl,Ux (s:={ s with heap:=g,toks:=B }) (n:="range_iterator") f rfl rfl (by decide) ⟨.int (lo+i),H,J,⟨t,?_⟩,⟨rfl,rfl⟩,f,λb d=>(j b d).1⟩⟩
  grind
 done:=by
  intro X l q m x i a s σ H E I j st u
  subst l q m
  obtain⟨y,r,L,z,A,p⟩:=j c (by simp)
  exact wpAny_pyNext_range_end (I.ok.hd x) st (by have:n<=i:=u;lia) λg D=>⟨rfl,I.turned (t':=s.toks) (λb o d e=>D b o d e) y r z A p⟩
 self:=λ_ _ _ _ _ st h=>wpAny_pyIter_rangeiter st h
section
variable{X:Cx}{tg:Expr}
def Du(K:Frag)(c:TE):TI:=λσ H R=>c σ H λx b=>∃a,x=.ref a/\(∃d,bN K b a d)/\R (SN K a) b
def Nh(K:Frag)(c:TE):TI:=λσ H R=>c σ H λx b=>∃a,x=.ref a/\(∃d,ni K b a d)/\R (Itt K a) b
theorem ZQ(j:PE X l k):PI X tg l (Du X.K k):=by
 intro c s σ H R I h
 refine aV (j c s σ H _ I h) ?_
 rintro v f ⟨x,m,d,i,n⟩
 obtain⟨a,e,⟨xs,g⟩,q⟩:=n
 subst e
 cases i
 obtain⟨its,rv,p,hz⟩:=d.list g
 refine ad6 p.isList ?_
 refine⟨f.heap.objs.size,[f.heap.objs.size],_,_,m,rfl,d.kept λb o e=>get?_push_of_some _ e,zRh a _,⟨_,get?_push_size _ rfl,rfl,rfl⟩,λb hb=>?_,q⟩
 have e:b=f.heap.objs.size:=by grind
 subst e
 exact d.pF (aaz _) (d.hok.fresh (aaz _))
theorem Ni(j:PE X l k):PI X tg l (Nh X.K k):=by
 intro c s σ H R I h
 refine aV (j c s σ H _ I h) ?_
 rintro v f ⟨x,m,d,i,n⟩
 obtain⟨a,e,⟨xs,g⟩,q⟩:=n
 subst e
 cases i
 obtain⟨its,rv,p,hz⟩:=d.tuple g
 refine wpAny_pyIter_tuple (p) ?_
 refine⟨f.heap.objs.size,[f.heap.objs.size],_,_,m,rfl,d.kept λb o e=>get?_push_of_some _ e,zPn a _,⟨_,get?_push_size _ rfl,rfl,rfl⟩,λb hb=>?_,q⟩
 have e:b=f.heap.objs.size:=by grind
 subst e
 exact d.pF (aaz _) (d.hok.fresh (aaz _))
theorem zWf{d:List (Addr×Obj)}{σ:St}{H:Hp}{s:Shared}{R:It->Hp->Prop}{E:Value->Shared->Prop}{lo c:Int}{t u v:Tok}{g:Nat}(I:Inv X d σ H s)(k:-(2^62)<=lo)(h2:lo<2^62)(l:-(2^62)<=c)(h:c<2^62)(q:R (XR lo (c-lo).toNat) H):wpAny (model X.prog X.w) X.A (pyIter (.ref s.heap.objs.size)) (PIE X d σ tg R) E { s with heap:=s.heap.push { cls:=.type "range",data:=.fields #[.int lo t,.int c u,.int 1 v] },toks:=g }:=by
 refine wpAny_pyIter_range (IsRange.new ..) (small_one k h2 l h) ?_
 have f:Inv X d σ H { s with heap:=s.heap.push { cls:=.type "range",data:=.fields #[.int lo t,.int c u,.int 1 v] },toks:=g }:=I.kept λb o e=>get?_push_of_some _ e
 refine⟨(s.heap.push { cls:=.type "range",data:=.fields #[.int lo t,.int c u,.int 1 v] }).objs.size,[(s.heap.push { cls:=.type "range",data:=.fields #[.int lo t,.int c u,.int 1 v] }).objs.size],_,_,H,rfl,
  f.kept (t':=g) λb o e=>get?_push_of_some _ e,zPo _ lo (c-lo).toNat,?_,λb hb=>?_,q⟩
 ·have i:lo+((0:Nat):Int)*1=lo:=by simp
  have j:(((c-lo).toNat:Nat):Int)-((0:Nat):Int)=Builtin.Range.rangeSize lo c 1:=by rw[rangeSize_one];grind
  rw[i,j]
  exact get?_push_size _ rfl
 ·have e:b=(s.heap.push { cls:=.type "range",data:=.fields #[.int lo t,.int c u,.int 1 v] }).objs.size:=by grind
  subst e
  exact f.pF (aaz _) (f.hok.fresh (aaz _))
def Dv(c:TA):TI:=λσ H R=>c σ H λa b=>∃j:Int,a=[.int j] /\ -(2^62)<=j/\j<2^62/\R (XR 0 j.toNat) b
theorem xI(l:Gl X "range")(d:X.mg "range" = none)(m:PA X [a] k)(i:starEach [a] X.env=[(false,eval a X.env)]:=by rfl):PI X tg (.Call (.Name "range" p) [a] [] pos) (Dv k):=by
 intro b s σ H R I h
 refine Call_ (GZ I l d boot_range (abx (aV (m pos b s σ H _ I h) ?_) i rfl))
 rintro us s1 ⟨vs,H1,f,n,c⟩
 obtain⟨j,e,c,o,q⟩:=c
 subst e
 cases n with
 |cons r g =>
  cases g
  obtain⟨t,rfl⟩:=r
  exact call_range_1 (zWf f (by lia) (by lia) c o (by simp_all))
def Nj(e:TI)(g:TG)(k:TS):TS:=λD σ H=>e σ H λJ f=>∃W:Nat->Nat->St->Hp->Prop,(∃m,W 0 m σ f)/\∀i m σ H,W i m σ H ->
 (J.stop i H/\D.nx σ H)\/(J.go i H/\∃N:St->Hp->Prop,(∀d b,N d b->∃c,c<m/\W (i+1) c d b)/\∀x b,J.SM i H x b->g x σ b λj h=>k { D with nx:=N,ct:=N,bk:=D.nx } j h)
def Ks(fp:List Addr)(h:Heap):List (Addr×Obj):=fp.filterMap λb=>(h.get? b).map λo=>(b,o)
theorem Nk{h:Heap}(hb:b∈fp)(e:h.get? b=some o):(b,o)∈Ks fp h:=List.mem_filterMap.mpr ⟨b,hb,by rw[e];rfl⟩
theorem zS2(a:p∈Ks fp h):p.1∈fp/\h.get? p.1=some p.2:=by
 obtain⟨b,hb,e⟩:=List.mem_filterMap.mp a
 cases q:h.get? b with
 |none=>grind
 |some o =>
  grind
theorem Inv.pinned(I:Inv X a σ H s)(d:∀b∈fp,oG X a H b)(ho:∀b∈fp,∃o,s.heap.get? b=some o/\∀v,o.data≠.cell v):Inv X (a++Ks fp s.heap) σ H s :=
 I.lY λp c=>(mem_append.mp c).elim (λz=>I.pin p (mem_append_right _ z)) λz=>by
  obtain⟨f,e⟩:=zS2 z
  obtain⟨f0,f1,f2,_⟩:=d p.1 f
  grind
theorem Inv.gP(I:Inv X (a++pl) σ H s):Inv X a σ H s:=I.lY λp b=>I.pin p (mem_append_right _ (mem_append_left _ b))
theorem xG(Q:PassesOwn (model X.prog X.w) X.A X.env X.xe)(hc:X.calm=true)(hi:PI X tg y wi)(hg:PG X tg g)(c:qT X B tb)(hs:∀x,foldedSetIterable y X.env x=pure x:=by intro _;rfl):PS X (.For tg y B [] pos) (Nj wi g tb):=by
 intro a s σ H D I h
 refine wpAny_For (aV (hi a s σ H _ I h) λv s1 h1=>aV h1 λitv s2 h2=>?_) hs
 obtain⟨it,L,tn,J,H2,e,I2,T,U,f2,W,⟨m0,w0⟩,E⟩:=h2
 subst e
 have l:∀{q:Hp},(∀b∈L,q b=none)->∀b∈L,oG X a q b:=λhn b c=>⟨hn b c,(f2 b c).2⟩
 refine codeAny_forLoop_any (λn s'=>∃i G q,Inv X a G q s'/\tn i s'.heap/\(∀b∈L,q b=none)/\W i n G q) ?_ m0 ⟨0,σ,H2,I2,U,λb c=>(f2 b c).1,w0⟩
 rintro n s3 ⟨i,O,R,I3,M,F,w3⟩
 rcases E i n O R w3 with⟨C,qn⟩|⟨go,N,hN,step⟩
 ·refine acw Q (aV (T.done X rfl rfl rfl hc i a s3 O R X.xe I3 (l F) M C) λr s4 ⟨S,I4⟩=>?_)
  subst S
  exact aed ⟨O,R,I4,qn⟩
 ·refine acw Q (aV (T.item X rfl rfl rfl hc i a s3 O R X.xe I3 (l F) M go) λr s4 ⟨u,S,h4⟩=>?_)
  subst S
  refine acw Q (aV h4 ?_)
  rintro _ s5 ⟨x,H5,I5,r5,y5,z,Y⟩
  have I5':=I5.pinned (l Y) (T.obj _ _ z)
  refine acw Q (aV (hg _ s5 O H5 x u _ I5' r5 (step x H5 y5)) ?_)
  rintro _ s6 ⟨σ6,H6,I6,q6⟩
  refine acw Q (aV (c _ s6 σ6 H6 _ I6 q6) λf Z t=>?_)
  have again:∀{j:St}{k:Hp},Inv X (a++Ks L s5.heap) j k Z->N j k->∃m,m<n/\∃i G q,Inv X a G q Z/\tn i Z.heap/\(∀b∈L,q b=none)/\W i m G q:=λ{j k} p P=>by
   obtain⟨m',hm,w7⟩:=hN j k P
   refine⟨m',hm,i+1,j,k,p.gP,T.keep _ _ _ z λb c o e=>(p.pin (b,o) (mem_append_right _ (mem_append_right _ (Nk c e)))).1,λb c=>?_,w7⟩
   obtain⟨o,e,d⟩:=T.obj _ _ z b c
   exact(p.pin (b,o) (mem_append_right _ (mem_append_right _ (Nk c e)))).2.1
  cases f with
  |next=>obtain⟨j,k,p,P⟩:=t;exact again p P
  |cont=>obtain⟨j,k,p,P⟩:=t;exact again p P
  |brk=>obtain⟨j,k,p,t⟩:=t;exact⟨j,k,p.gP,t⟩
  |ret v=>obtain⟨x7,j,k,p,r7,t⟩:=t;exact⟨x7,j,k,p.gP,r7,t⟩
end
theorem zOo{K:Frag}{a:Addr}{xs:List V}{g:TG}{tb:TS}{D:Ends}{σ:St}{H:Hp}(Pv:Nat->St->Hp->Prop)(h0:Pv 0 σ H)(hl:∀i σ H,i<=xs.length->Pv i σ H->bN K H a xs)(hs:∀i x σ H,xs[i]?=some x->Pv i σ H->g x σ H λσ2 H2=>tb { D with nx:=Pv (i+1),ct:=Pv (i+1),bk:=D.nx } σ2 H2)(hd:∀σ H,Pv xs.length σ H->D.nx σ H) :
  ∃W:Nat->Nat->St->Hp->Prop,(∃m,W 0 m σ H)/\∀i m σ H,W i m σ H ->
   ((SN K a).stop i H/\D.nx σ H)\/((SN K a).go i H/\∃N:St->Hp->Prop,(∀σ' H',N σ' H'->∃m',m'<m/\W (i+1) m' σ' H')/\∀x H',(SN K a).SM i H x H'->g x σ H' λσ2 H2=>tb { D with nx:=N,ct:=N,bk:=D.nx } σ2 H2):=by
 refine⟨λi m σ H=>m=xs.length-i/\i<=xs.length/\Pv i σ H,⟨xs.length,by simp,abl _,h0⟩,?_⟩
 rintro i m σ H ⟨rfl,hi,p⟩
 have q:=hl i σ H hi p
 by_cases hlt:i<xs.length
 ·refine .inr ⟨⟨xs,xs[i],q,by simp[hlt]⟩,Pv (i+1),λσ' H' p'=>⟨xs.length-(i+1),by omega,rfl,hlt,p'⟩,λx H' y=>?_⟩
  obtain⟨e,y⟩:=y
  subst e
  exact hs i x σ _ (y xs q) p
 ·have e:i=xs.length:=by omega
  subst e
  exact .inl ⟨⟨xs,q,aaz _⟩,hd σ H p⟩
abbrev R2:=V->V->Hp->VK->Prop
def lE(X:Cx)(f:Value->Value->Sem Value)(r:R2):Prop :=
 ∀(b:List (Addr×Obj))(s:Shared)(σ:St)(H:Hp)(x y:V)(v u:Value)(Q:VK),Inv X b σ H s->RelV x v->RelV y u->r x y H Q ->
  wpAny (model X.prog X.w) X.A (f v u) (EP X b σ Q) X.xe s
def ZR(X:Cx)(f:Value->Sem Value)(r:V->Hp->VK->Prop):Prop :=
 ∀(b:List (Addr×Obj))(s:Shared)(σ:St)(H:Hp)(x:V)(v:Value)(Q:VK),Inv X b σ H s->RelV x v->r x H Q ->
  wpAny (model X.prog X.w) X.A (f v) (EP X b σ Q) X.xe s
def rB(X:Cx)(f:Value)(r:List V->Hp->VK->Prop):Prop :=
 ∀(b:List (Addr×Obj))(s:Shared)(σ:St)(H:Hp)(c:List V)(d:List Value)(Q:VK),Inv X b σ H s->Vals c d->r c H Q ->
  wpAny (model X.prog X.w) X.A (call f d) (EP X b σ Q) X.xe s
def ZS(X:Cx)(r:V->Hp->(Bool->Hp->Prop)->Prop):Prop :=
 ∀(b:List (Addr×Obj))(s:Shared)(σ:St)(H:Hp)(x:V)(v:Value)(Q:Bool->Hp->Prop),Inv X b σ H s->RelV x v->r x H Q ->
  wpAny (model X.prog X.w) X.A (truthy v) (TP X b σ Q) X.xe s
def jf(r:R2)(a d:TE):TE:=λσ H Q=>a σ H λx c=>d σ c λy b=>r x y b Q
def tUn(r:V->Hp->VK->Prop)(a:TE):TE:=λσ H Q=>a σ H λx b=>r x b Q
def rI(C:Int->Int->Prop)(g:Int->Int->V):R2:=λx y H Q=>∃i j,x=.int i/\y=.int j/\C i j/\Q (g i j) H
def sI(g:Int->Int->V):R2:=λx y H Q=>∃i j,x=.int i/\y=.int j/\Q (g i j) H
def rU(g:Int->V):V->Hp->VK->Prop:=λx H Q=>∃i,x=.int i/\Q (g i) H
section
variable{X:Cx}{a b c:Expr}{ta tb tc:TE}{pos:Pos}
theorem G_(ha:PE X a ta)(hb:PE X b tb){R:V->V->Hp->Prop}(I:Inv X pins σ H s)(h:ta σ H λx H1=>tb σ H1 λy H2=>R x y H2){f:Value->Value->Sem Value}(hf:∀v u s2 x y H2,Inv X pins σ H2 s2->RelV x v->RelV y u->R x y H2->wpAny (model X.prog X.w) X.A (f v u) Q X.xe s2) :
  wpAny (model X.prog X.w) X.A (eval a X.env) (λv s₁=>wpAny (model X.prog X.w) X.A (eval b X.env) (λu s₂=>wpAny (model X.prog X.w) X.A (f v u) Q X.xe s₂) X.xe s₁) X.xe s:=by
 refine aV (ha pins s σ H _ I h) λv s1 ⟨x,H1,I1,r1,q1⟩=>?_
 refine aV (hb pins s1 σ H1 _ I1 q1) λu s2 ⟨y,H2,I2,r2,q2⟩=>?_
 exact hf v u s2 x y H2 I2 r1 r2 q2
theorem zZ(g:lE X (binaryOp op) r)(i:PE X a ta)(m:PE X b tb):PE X (.BinOp a op b pos) (jf r ta tb):=by
 intro d s σ H Q I h
 exact ae0 (G_ i m I h λv u f x y l k j e q=>g d f σ l x y v u Q k j e q)
theorem SQ(i:ZR X (unaryOp op) r)(l:PE X a ta):PE X (.UnaryOp op a pos) (tUn r ta):=by
 intro d s σ H Q I h
 exact UnaryOp_ (aV (l d s σ H _ I h) (by rintro v e ⟨x,j,g,f,k⟩;exact i d e σ j x v Q g f k))
theorem SX{f:Value->Value->Sem Value}{C:Int->Int->Prop}{g:Int->Int->Int}(rule:∀(i j:Int) (t u:Tok) (s:Shared) (Q:Value->Shared->Prop) (E:Value->Shared->Prop),C i j->Q (.int (g i j) s.toks) { s with toks:=s.toks+1 }->wpAny (model X.prog X.w) X.A (f (.int i t) (.int j u)) Q E s) :
  lE X f (rI C λi j=>.int (g i j)):=by
 intro pins s σ H x y v u Q I l d h
 obtain⟨i,j,rfl,rfl,k,q⟩:=h
 obtain⟨t,rfl⟩:=l
 obtain⟨e,rfl⟩:=d
 exact rule i j t e s _ _ k ⟨.int (g i j),H,I.tok _,⟨_,rfl⟩,q⟩
theorem Nm{f:Value->Value->Sem Value}{g:Int->Int->Int}(rule:∀(i j:Int) (t u:Tok) (s:Shared) (Q:Value->Shared->Prop) (E:Value->Shared->Prop),Q (.int (g i j) s.toks) { s with toks:=s.toks+1 }->wpAny (model X.prog X.w) X.A (f (.int i t) (.int j u)) Q E s) :
  lE X f (sI λi j=>.int (g i j)):=by
 intro pins s σ H x y v u Q I k d h
 obtain⟨i,j,rfl,rfl,q⟩:=h
 obtain⟨t,rfl⟩:=k
 obtain⟨e,rfl⟩:=d
 exact rule i j t e s _ _ ⟨.int (g i j),H,I.tok _,⟨_,rfl⟩,q⟩
theorem Hf{f:Value->Value->Sem Value}{g:Int->Int->Bool}(rule:∀(i j:Int) (t u:Tok) (s:Shared) (Q:Value->Shared->Prop) (E:Value->Shared->Prop),Q (.bool (g i j)) s->wpAny (model X.prog X.w) X.A (f (.int i t) (.int j u)) Q E s) :
  lE X f (sI λi j=>.bl (g i j)):=by
 intro pins s σ H x y v u Q I k d h
 obtain⟨i,j,rfl,rfl,q⟩:=h
 obtain⟨t,rfl⟩:=k
 obtain⟨e,rfl⟩:=d
 exact rule i j t e s _ _ ⟨.bl (g i j),H,I,rfl,q⟩
def Uy(i j:Int):Prop:=0<j/\j<1073741824
def Hg(i j:Int):Prop:=0<=j/\j<=1000000/\i.natAbs<2^64
def Hh(i j:Int):Prop:=(-(2^64)<i/\i<2^64)\/(-(2^64)<j/\j<2^64)
theorem Hh.ok(h:Hh i j):IntMulOk i j:=by
 rcases h with⟨d,e⟩|⟨d,e⟩
 ·exact .of_left (intBits_le_64 d e)
 ·exact .of_right (intBits_le_64 d e)
theorem zPm(k:Nat):(0:Int)<=2^k:=by
 grind
theorem vZ:lE X (binaryOp .Add) (sI λi j=>.int (i+j)):=Nm λ_ _ _ _ _ _ _ q=>add_int q
theorem XS:lE X (binaryOp .Sub) (sI λi j=>.int (i-j)):=Nm λ_ _ _ _ _ _ _ q=>sub_int q
theorem ZV:lE X (binaryOp .Mult) (rI Hh λi j=>.int (i*j)):=SX λ_ _ _ _ _ _ _ d q=>mul_int q d.ok
theorem xN:lE X (binaryOp .FloorDiv) (rI Uy λi j=>.int (i/j)):=SX λi j _ _ _ _ _ d q=>by
 have h1:(0:Int)<j:=d.1
 have h2:=d.2
 exact floordiv_int (by lia) (by grind) (.inl (PyProof.noPylong_small (by lia)))
theorem xJ:lE X (binaryOp .Mod) (rI (λ_ j=>0<j) λi j=>.int (i%j)):=SX λi j _ _ _ _ _ hc q=>by
 exact mod_int' (by lia) (by grind)
theorem Np:lE X (binaryOp .Pow) (rI Hg λi j=>.int (i^j.toNat)):=SX λ_ _ _ _ _ _ _ d q=>pow_int_small d.1 d.2.1 d.2.2 q
theorem Nq:lE X (binaryOp .LShift) (rI Hg λi j=>.int (i*2^j.toNat)):=SX λ_ _ _ _ _ _ _ d q=>lshift_int_small d.1 d.2.1 d.2.2 q
theorem X3:lE X (binaryOp .RShift) (rI (λ_ j=>0<=j) λi j=>.int (i/2^j.toNat)):=SX λi j _ _ _ _ _ hc q =>
 rshift_int hc (by rw[Int.fdiv_eq_ediv_of_nonneg i (zPm _)];exact q)
theorem Uz:lE X (binaryOp .BitAnd) (sI λi j=>.int (abj i j)):=Nm λ_ _ _ _ _ _ _ q=>and_int q
theorem unI{f:Value->Sem Value}{g:Int->Int}(rule:∀(i:Int) (t:Tok) (s:Shared) (Q:Value->Shared->Prop) (E:Value->Shared->Prop),Q (.int (g i) s.toks) { s with toks:=s.toks+1 }->wpAny (model X.prog X.w) X.A (f (.int i t)) Q E s) :
  ZR X f (rU λi=>.int (g i)):=by
 intro pins s σ H x v Q I d h
 obtain⟨i,rfl,q⟩:=h
 obtain⟨t,rfl⟩:=d
 exact rule i t s _ _ ⟨.int (g i),H,I.tok _,⟨_,rfl⟩,q⟩
theorem S5:ZR X (unaryOp .USub) (rU λi=>.int (-i)):=unI λ_ _ _ _ _ q=>neg_int q
end
section
variable{X:Cx}{a b c:Expr}{ta tb tc:TE}{pos:Pos}
theorem Nr(I:Inv X d σ H s)(q:Q (.bl k) H)(e:k=k'):EP X d σ Q (.bool k') s:=by
 subst e
 exact⟨.bl k,H,I,rfl,q⟩
theorem S6:lE X (compareOp .Lt) (sI λi j=>.bl (decide (i<j))):=Hf λ_ _ _ _ _ _ _ q=>lt_int q
theorem X4:lE X (compareOp .LtE) (sI λi j=>.bl (decide (i<=j))):=Hf λ_ _ _ _ _ _ _ q=>le_int q
theorem Ku:lE X (compareOp .Gt) (sI λi j=>.bl (decide (j<i))):=Hf λ_ _ _ _ _ _ _ q=>gt_int q
theorem UG:lE X (compareOp .GtE) (sI λi j=>.bl (decide (j<=i))):=Hf λ_ _ _ _ _ _ _ q=>ge_int q
theorem zSs:lE X (compareOp .In) (λx y H Q=>∃i j,x=.str i/\y=.str j/\Q (.bl (!(adx j i 0 j.length 1).isEmpty)) H):=by
 intro pins s σ H x y v u Q I e d h
 obtain⟨i,j,rfl,rfl,q⟩:=h
 obtain⟨t,rfl⟩:=e
 obtain⟨t',rfl⟩:=d
 exact in_str (Nr I q rfl)
theorem yZ(b:Expr)(h:op≠.In:=by decide)(h2:op≠.NotIn:=by decide):behindInMarks op b=false:=by
 have d:(op==CmpOp.In)=false:=by grind
 have e:(op==CmpOp.NotIn)=false:=by grind
 cases b<;>simp[behindInMarks,d,e]
theorem UJ(g:lE X (compareOp op) r)(i:PE X a ta)(m:PE X b tb)(n:behindInMarks op b=false):PE X (.Compare a [op] [b] pos) (jf r ta tb):=by
 intro d s σ H Q I h
 exact wpAny_Compare1 (G_ i m I h λv u f x y l k j e q=>g d f σ l x y v u Q k j e q) n
def Kv(t:TE):TT:=λσ H Q=>t σ H λx d=>∃k,x=.bl k/\Q k d
theorem yD(j:lE X (compareOp op) r)(o:PE X a ta)(q:PE X b tb)(t:behindInMarks op b=false):PT X (.Compare a [op] [b] pos) (Kv (jf r ta tb)):=by
 intro d s σ H Q I h
 refine wpAny_isTrue_Compare1 (aV (o d s σ H _ I h) λv E ⟨x,l,B,w,m⟩=>aV (q d E σ l _ B m) λu C ⟨y,F,i,g,p⟩ =>
  aV (j d C σ F x y v u _ i w g p) ?_) t
 rintro c s3 ⟨z,n,A,f,k,e,D⟩
 subst e
 cases f
 exact abu ⟨n,A,D⟩
def zYr(r f:R2)(ta tb tc:TE):TE:=λσ H Q=>ta σ H λx g=>tb σ g λy i=>r x y i λz d=>∃k,z=.bl k /\
 (if k=true then tc σ d λe h=>f y e h Q else Q (.bl false) d)
theorem zOc(T:lE X (compareOp op) r)(i:lE X (compareOp g) S)(A:PE X a ta)(D:PE X b tb)(w:PE X c tc)(E:lastMarks [op,g] [b,c]=false:=by with_unfolding_all rfl):PE X (.Compare a [op,g] [b,c] pos) (zYr r S ta tb tc):=by
 intro f s σ H Q I h
 refine Compare_chain (aV (A f s σ H _ I h) λv q ⟨x,U,O,M,p⟩=>chain_link (aV (D f q σ U _ O p) λu R ⟨y,Y,F,n,B⟩ =>
  aV (T f R σ Y x y v u _ F M n B) ?_)) E
 rintro d C ⟨z,j,m,o,k,e,l⟩
 subst e
 cases o
 refine abu ?_
 cases k with
 |false=>exact ite_ff ⟨.bl false,j,m,rfl,l⟩
 |true=>exact ite_tt (chain_last (aV (w f C σ j _ m l) (by rintro P t ⟨W,L,G,N,J⟩;exact i f t σ L y W u P Q G n N J)))
def Hi(K:Frag)(x:V)(H:Hp)(k:Bool):Prop :=
 match x with
 |.non=>k=false
 |.bl b=>k=b
 |.int i=>k=(i != 0)
 |.str y=>y.length<=sizeLine/\k=((y.length:Int) != 0)
 |.GP y=>y.size<=sizeLine/\k=((y.size:Int) != 0)
 |.ref p=>(∃e,bN K H p e/\k=!e.isEmpty)\/(∃e,ni K H p e/\k=!e.isEmpty)\/∃d,H p=some (.dK d)/\k=!d.isEmpty
 |_=>False
theorem zQh{κ:Type}{kvs:List (κ×V)}{vs:List (κ×Value)}(r:KV kvs vs):(!vs.isEmpty)=!kvs.isEmpty:=by
 cases r<;>rfl
theorem zIj(r:Vals xs d):(!d.toArray.isEmpty)=!xs.isEmpty:=by
 cases r<;>simp
theorem Nt:(sizeLine:Nat)<2^63:=by decide
theorem Nu:ZS X (λx H Q=>∃k,Hi X.K x H k/\Q k H):=by
 intro pins s σ H x v Q I rx h
 obtain⟨k,e,q⟩:=h
 have hl:=Nt
 have hs:sizeLine=16777216:=sizeLine_eq
 cases x with
 |non =>
  cases rx
  have e':k=false:=e
  subst e'
  exact truthy_none ⟨H,I,q⟩
 |bl b =>
  cases rx
  have e':k=b:=e
  subst e'
  exact abu ⟨H,I,q⟩
 |int i =>
  obtain⟨t,rfl⟩:=rx
  have e':k=(i != 0):=e
  subst e'
  exact PySem.P.truthy_int ⟨H,I,q⟩
 |str y =>
  obtain⟨t,rfl⟩:=rx
  obtain⟨hy,e'⟩:y.length<=sizeLine/\k=((y.length:Int) != 0):=e
  subst e'
  exact PySem.P.truthy_str (by lia) ⟨H,I.tok _,q⟩
 |GP y =>
  obtain⟨t,rfl⟩:=rx
  obtain⟨hy,e'⟩:y.size<=sizeLine/\k=((y.size:Int) != 0):=e
  subst e'
  exact PySem.W.truthy_bytes (by lia) ⟨H,I.tok _,q⟩
 |ref p =>
  cases rx
  have e':(∃xs,bN X.K H p xs/\k=!xs.isEmpty)\/(∃xs,ni X.K H p xs/\k=!xs.isEmpty)\/∃kvs,H p=some (.dK kvs)/\k=!kvs.isEmpty:=e
  rcases e' with⟨xs,hx,e'⟩|⟨xs,hx,e'⟩|⟨kvs,hx,e'⟩
  ·subst e'
   obtain⟨its,r,pl,hz⟩:=I.list hx
   have hlen:=r.length
   exact wpAny_truthy_list pl.isList (by simp only[size_toArray];lia) ⟨H,I.tok _,by rw[zIj r];exact q⟩
  ·subst e'
   obtain⟨its,r,pl,hz⟩:=I.tuple hx
   have hlen:=r.length
   exact truthy_tuple pl (by simp only[size_toArray];lia) ⟨H,I.tok _,by rw[zIj r];exact q⟩
  ·subst e'
   obtain⟨hz,hS,vs,r,m⟩:kvs.length<=sizeLine/\(p==sysModules)=false/\∃vs,KV kvs vs/\s.heap.DictOf (vW X.prog X.w) p vs:=I.hok p _ hx
   have hlen:kvs.length=vs.length:=adu r
   exact wpAny_truthy_dict hS m (by lia) ⟨H,I.tok _,by rw[zQh r];exact q⟩
 |_=>exact(show False from e).elim
theorem zWi(n:PE X a ta)(m:∀d,isTrue a X.env d=(do let v <-d;standAt a.pos;holding [v] (truthy v))) :
  PT X a (λσ H Q=>ta σ H λx H'=>∃k,Hi X.K x H' k/\Q k H'):=by
 intro e s σ H Q I h
 exact isTrue_plain (aV (n e s σ H _ I h) (by rintro v j ⟨x,i,g,f,l⟩;exact Nu e j σ i x v Q g f l)) (m _)
theorem zP4:lE X (binaryOp .Add) (λx y H Q=>∃i j,x=.str i/\y=.str j/\i.length+j.length<=sizeLine/\Q (.str (i++j)) H):=by
 intro pins s σ H x y v u Q I g d h
 obtain⟨i,j,rfl,rfl,f,q⟩:=h
 obtain⟨t,rfl⟩:=g
 obtain⟨e,rfl⟩:=d
 exact add_str (λe tk=>⟨.str (i++j),H,I.tok _,⟨_,rfl⟩,q⟩) f
def zPc(b:Expr):Prop:=∀o i,subscripted b false o i=operate [o,i] (getItem o i)
theorem zMp(n:PE X a ta)(r:PE X b tb)(l:zPc b) :
  PE X (.Subscript a b pos) (jf (λx y H Q=>∃z i c,x=.str z/\y=.int i/\0<=i/\i<2^63/\i<z.length/\z.cps[i.toNat]?=some c/\Q (.str ⟨#[c]⟩) H) ta tb):=by
 intro pins s σ H Q I h
 refine ae9 (G_ n r I h λv u j x y p f o d q=>?_)
 obtain⟨z,i,c,rfl,rfl,k,h63,g,m,q⟩:=q
 obtain⟨t,rfl⟩:=o
 obtain⟨t',rfl⟩:=d
 have e:=PySem.StrLaws.seqIndex_nonneg k g
 exact tail_any (typeIs_str j z t) slot_str_getitem.lookup (getItem_str (c:=c) (by
  grind) (by rw[e];exact m) ⟨.str ⟨#[c]⟩,p,f.tok _,⟨_,rfl⟩,q⟩) (l _ _)
theorem Dw(r:Vals [x] us):∃u,us=[u]/\RelV x u:=by
 cases r with
 |cons r1 r2=>cases r2;exact⟨_,rfl,r1⟩
theorem vals2(r:Vals [x,y] us):∃u w',us=[u,w']/\RelV x u/\RelV y w':=by
 cases r with
 |cons r1 e =>
  cases e with
  |cons r3 d=>cases d;grind
theorem zL1(e:X.calm=true):rB X (.builtin "min") (λxs H Q=>∃i j,xs=[.int i,.int j]/\Q (.int (if j<i then j else i)) H):=by
 intro pins s σ H xs us Q I r h
 obtain⟨i,j,rfl,q⟩:=h
 obtain⟨u,w',rfl,⟨t,rfl⟩,⟨t',rfl⟩⟩:=vals2 r
 refine min_two_ints (I.ok.hd e) λh' tk k=>⟨_,H,I.kept k,?_,q⟩
 by_cases d:j<i
 ·rw[if_pos d,if_pos d];exact⟨_,rfl⟩
 ·rw[if_neg d,if_neg d];exact⟨_,rfl⟩
theorem zUu:rB X (.type "int") (λxs H Q=>(∃i,xs=[.int i]/\Q (.int i) H)\/∃k,xs=[.bl k]/\Q (.int (if k then 1 else 0)) H):=by
 intro pins s σ H xs us Q I r h
 rcases h with⟨i,rfl,q⟩|⟨k,rfl,q⟩
 ·obtain⟨u,rfl,t,rfl⟩:=Dw r
  exact call_int_int ⟨.int i,H,I,⟨_,rfl⟩,q⟩
 ·obtain⟨u,rfl,d⟩:=Dw r
  cases d
  exact call_int_bool ⟨.int (if k then 1 else 0),H,I.tok _,⟨_,rfl⟩,q⟩
def ZW(K:Frag)(x:V)(H:Hp)(n:Nat):Prop :=
 match x with
 |.str y=>y.length<=sizeLine/\n=y.length
 |.GP y=>y.size<=sizeLine/\n=y.size
 |.ref p=>(∃d,bN K H p d/\n=d.length)\/∃d,ni K H p d/\n=d.length
 |_=>False
theorem zX2:rB X (.builtin "len") (λxs H Q=>∃x n,xs=[x]/\ZW X.K x H n/\Q (.int n) H):=by
 intro pins s σ H xs us Q I r h
 obtain⟨x,n,rfl,e,q⟩:=h
 obtain⟨u,rfl,rx⟩:=Dw r
 have hl:=Nt
 have hs:sizeLine=16777216:=sizeLine_eq
 cases x with
 |str y =>
  obtain⟨t,rfl⟩:=rx
  obtain⟨hy,e'⟩:y.length<=sizeLine/\n=y.length:=e
  subst e'
  exact len_str (by omega) ⟨.int _,H,I.tok _,⟨_,rfl⟩,q⟩
 |GP y =>
  obtain⟨t,rfl⟩:=rx
  obtain⟨hy,e'⟩:y.size<=sizeLine/\n=y.size:=e
  subst e'
  exact PySem.W.len_bytes (by omega) ⟨.int _,H,I.tok _,⟨_,rfl⟩,q⟩
 |ref p =>
  cases rx
  have e':(∃xs,bN X.K H p xs/\n=xs.length)\/∃xs,ni X.K H p xs/\n=xs.length:=e
  rcases e' with⟨xs,hx,e'⟩|⟨xs,hx,e'⟩
  ·subst e'
   obtain⟨its,r',pl,hz⟩:=I.list hx
   have hlen:=r'.length
   exact Calls.call_len_list pl.isList (by simp only[size_toArray];omega) ⟨.int xs.length,H,I.tok _,⟨_,by simp only[size_toArray];rw[hlen]⟩,q⟩
  ·subst e'
   obtain⟨its,r',pl,hz⟩:=I.tuple hx
   have hlen:=r'.length
   exact len_tuple pl (by simp only[size_toArray];omega) ⟨.int xs.length,H,I.tok _,⟨_,by simp only[size_toArray];rw[hlen]⟩,q⟩
 |_=>exact(show False from e).elim
end
structure Ae(h:Heap)(x dx C:Addr)(mA:Str->Option Value):Prop where
 obj:h.get? x=some (instObj C dx)
 ns:h.Ns1 dx mA
 ne:dx≠x
theorem zTf{h:Heap}(n:h.Ns1 l m):∃od,h.get? l=some od/\∀name,lookIn name od=some (m name):=by
 obtain⟨o,k,ep,g,j,f,_,d⟩:=n
 refine⟨o,g,λname=>?_⟩
 have e:=d name
 unfold nsFind findBy at e
 unfold lookIn
 rw[j]
 dsimp only
 split
 ·grind
 ·have a:k.toList.any (·.refKey)=false:=by
   rw[List.any_eq_false]
   intro y i
   obtain⟨z,t,c⟩:=f y (Array.mem_toList_iff.mp i)
   simp[DictEntry.refKey,c]
  grind
theorem Ae.look(I:Ae h x c C d):∃od,PySem.W.InstAt h x (instObj C c) C (some od)/\∀name,lookIn name od=some (d name) :=
 let⟨od,b,e⟩:=zTf I.ns
 ⟨od,⟨I.obj,rfl,rfl,b⟩,e⟩
section
variable{prog:Program}{w:World}{A:Around}{E:Value->Shared->Prop}{s:Shared}{K:Frag}{x dx C f:Addr}{mA:Str->Option Value}{name:Str}{v:Value}
theorem get_map{Q:Value->Shared->Prop}(X:K.In s.heap)(I:Ae s.heap x dx C mA)(d:plainGet K C name=true)(c:hasDictIn K C=true)(b:findIn K (.ref C) name=some none)(hv:mA name=some v)(a:PySem.W.handedIn v=true)(h:Q v { s with toks:=s.toks+1 }) :
  wpAny (model prog w) A (getAttr (.ref x) name expr) Q E s:=by
 obtain⟨od,J,hl⟩:=I.look
 exact PySem.W.get_value X J (aey d).1 (PySem.W.findObj_own c b rfl (by grind)) a h
theorem zXk{Q:Value×List Value->Shared->Prop}(X:K.In s.heap)(I:Ae s.heap x dx C mA)(hg:plainGet K C name=true)(hf:findIn K (.ref C) name=some (some (.ref f)))(ht:isFn K (.ref f)=true)(hv:mA name=none)(h:Q (.ref f,[.ref x]) s) :
  wpAny (model prog w) A (getMethod (.ref x) name pl) Q E s:=by
 obtain⟨od,J,hl⟩:=I.look
 exact PySem.W.method_fn X J (aey hg).1 (aey hg).2 hf (beq_iff_eq.mp ht) (by show(lookIn name od).map (·.isSome)=some false;rw[hl,hv];rfl) h
theorem Hj{Q:Unit->Shared->Prop}(X:K.In s.heap)(I:Ae s.heap x dx C mA)(k:findIn K (.ref C) "__setattr__" = some (some (.builtin "object.__setattr__")))(l:PySem.W.plainOver K C=true)(o:takerIn K C name=some none)(n:hasDictIn K C=true)(q:afd mA ns)(hsz:ns.length<=sizeLine)(h:∀h',Ae h' x dx C (λy=>if y=name then some v else mA y)->SameBut dx s.heap h'->Q () { s with heap:=h',toks:=s.toks+2 }) :
  wpAny (model prog w) A (setAttr (.ref x) name v) Q E s:=by
 obtain⟨od,J,hl⟩:=I.look
 refine PySem.W.set_plain X J k (PySem.W.osa_open (s:={ s with toks:=s.toks+1 }) (r:=none) X J l o λb=>?_)
 obtain⟨cd,p,i⟩:=PySem.W.any_some n
 have m:=I.obj
 refine aav (aaw (aav (aav (wpAny_loadPart m (aav (PySem.W.Looks.here (s:={ s with toks:=s.toks+1 }) (PySem.W.looks_clsIn X p) ?_))))))
 rw[i]
 refine aaw (a:=some dx) (aav (aaw (aav ?_)))
 refine wpAny_nsSet1 (s:={ s with toks:=s.toks+1 }) I.ns λh' d c=>?_
 obtain⟨oD,esD,epD,e,g,j⟩:=d.count (PySem.Within.cons name v q)
 refine aav (wpAny_lookBehind e (by rw[g];exact pastItsLine_dict (aa4 j (by grind))) ?_)
 exact aaw (h _ ⟨(c.2 _ (ac0 I.ne)).trans I.obj,d,I.ne⟩ c)
theorem zXa(X:K.In s.heap)(d:PySem.W.makesIn K C=true)(e:findIn K (.ref C) "__init__" = some (some (.ref f)))(c:typeIn K (.ref f)=some (.type "function"))(h:codeAny (model prog w) (A.under (.builtin "type.__call__" ⟨.ref C::vs,b⟩)) (.call (.ref f) ⟨.ref (s.heap.objs.size+1)::vs,b⟩) (PySem.W.InitBack (s.heap.objs.size+1) R)
   { s with heap:=(s.heap.push emptyDict).push (instObj C s.heap.objs.size) }) :
  codeAny (model prog w) A (.call (.ref C) ⟨vs,b⟩) R s:=by
 exact PySem.W.make_core (PySem.W.makes_of X d) (PySem.W.looks_findIn X e) (λa=>PySem.W.bind_fn X a c) (.inl rfl) h
end
def aH(f:Str)(v:V):List (Str×V)->List (Str×V)
 |[]=>[(f,v)]
 | (g,x)::r=>if g=f then(g,v)::r else(g,x)::aH f v r
theorem zS(f g:Str)(v:V):∀fs:List (Str×V),(aH f v fs).lookup g=if g=f then some v else fs.lookup g
 |[]=>by
  show List.lookup g [(f,v)]=_
  grind
 | (k,x)::r=>by
  have ih:=zS f g v r
  rw[show aH f v ((k,x)::r)=(if k=f then(k,v)::r else(k,x)::aH f v r) from rfl]
  grind
theorem ZX(f:Str)(v:V):∀fs:List (Str×V),f∈(aH f v fs).map (·.1)/\∀g,g∈fs.map (·.1)->g∈(aH f v fs).map (·.1)
 |[]=>⟨by simp[aH],λg h=>by simp at h⟩
 | (k,x)::r=>by
  obtain⟨i1,i2⟩:=ZX f v r
  rw[show aH f v ((k,x)::r)=(if k=f then(k,v)::r else(k,x)::aH f v r) from rfl]
  grind
theorem zG0(f:Str)(v:V):∀fs:List (Str×V),(aH f v fs).length<=fs.length+1
 |[]=>by simp[aH]
 | (k,x)::r=>by
  have ih:=zG0 f v r
  rw[show aH f v ((k,x)::r)=(if k=f then(k,v)::r else(k,x)::aH f v r) from rfl]
  grind
theorem lW.some_of(r:lW (some v) o):∃u,o=some u/\RelV v u:=by
 cases o with
 |none=>exact(r).elim
 |some u=>exact⟨u,rfl,r⟩
theorem lW.none_of(r:lW none o):o=none:=by
 cases o with
 |none=>rfl
 |some u=>exact(r).elim
theorem zTy(r:RelV v u):PySem.W.handedIn u=true:=by
 cases v with
 |non=>cases(r);rfl
 |bl b=>cases(r);rfl
 |int i=>obtain⟨t,e⟩:=(r);cases e;rfl
 |str x=>obtain⟨t,e⟩:=(r);cases e;rfl
 |GP b=>obtain⟨t,e⟩:=(r);cases e;rfl
 |flt b=>obtain⟨t,e⟩:=(r);cases e;rfl
 |ref a=>cases(r);rfl
 |ty n=>cases(r);rfl
section
variable{P:Program}{w:World}{H H':Hp}{h h':Heap}{a C dx:Addr}{fs fs':List (Str×V)}
theorem X5(c:jk P w H h)(e:H a=some (.ins C dx fs)):∃b,Ae h a dx C b/\(∀f,lW (fs.lookup f) (b f))/\afd b (fs.map (·.1))/\fs.length<=1000/\H dx=some (.own a):=by
 obtain⟨d,z,g,i,b,n,r,q⟩:=(c a _ e)
 exact⟨b,⟨i,n,g⟩,r,q,z,d⟩
end
structure Cls(K:Frag)(C:Addr):Prop where
 pg:plainGet K C adz=true
 hd:hasDictIn K C=true
 po:PySem.W.plainOver K C=true
 sa:findIn K (.ref C) "__setattr__" = some (some (.builtin "object.__setattr__"))
theorem Cls.get{K:Frag}{C:Addr}(c:Cls K C)(f:Str):plainGet K C f=true:=c.pg
def bO(K:Frag)(C:Addr)(f:Str):Prop:=findIn K (.ref C) f=some none
theorem bO.taker{K:Frag}{C:Addr}{f:Str}(n:bO K C f):takerIn K C f=some none:=by
 unfold takerIn
 rw[n]
 rfl
structure Meth(K:Frag)(C:Addr)(m:Str)(f:Addr):Prop where
 at_:findIn K (.ref C) m=some (some (.ref f))
 fn:isFn K (.ref f)=true
 kp:keepIn K (.ref f)=true
section
variable{X:Cx}{pins:List (Addr×Obj)}{σ:St}{H:Hp}{s:Shared}{a C dx:Addr}{fs:List (Str×V)}{f:Str}{v:V}{A:Around}{E:Value->Shared->Prop}
theorem zQi{Q:Value->Shared->Prop}(I:Inv X pins σ H s)(e:H a=some (.ins C dx fs))(c:Cls X.K C)(n:bO X.K C f)(l:fs.lookup f=some v)(h:∀u s',Inv X pins σ H s'->RelV v u->Q u s'):wpAny (model X.prog X.w) A (getAttr (.ref a) f b) Q E s:=by
 obtain⟨g,O,r,_,_,_⟩:=X5 I.hok e
 obtain⟨u,i,d⟩:=lW.some_of (v:=v) (o:=g f) (by grind)
 exact get_map I.lX O (c.get f) c.hd n i (zTy d) (h u _ (I.tok _) d)
theorem zIm{Q:Value×List Value->Shared->Prop}(I:Inv X pins σ H s)(e:H a=some (.ins C dx fs))(c:Cls X.K C)(k:Meth X.K C m g)(l:fs.lookup m=none)(h:Q (.ref g,[.ref a]) s):wpAny (model X.prog X.w) A (getMethod (.ref a) m pl) Q E s:=by
 obtain⟨b,O,r,_,_,_⟩:=X5 I.hok e
 have d:b m=none:=lW.none_of (by grind)
 exact zXk I.lX O (c.get m) k.at_ k.fn d h
theorem zPt{Q:Unit->Shared->Prop}(I:Inv X pins σ H s)(e:H a=some (.ins C dx fs))(c:Cls X.K C)(n:bO X.K C f)(hl:fs.length<1000)(p:RelV y u)(h:∀s',Inv X pins σ (upd H a (.ins C dx (aH f y fs))) s'->Q () s'):wpAny (model X.prog X.w) A (setAttr (.ref a) f u) Q E s:=by
 obtain⟨m,O,r,i,_,j⟩:=X5 I.hok e
 have B:(fs.map (·.1)).length<=sizeLine:=by rw[length_map,sizeLine_eq];lia
 refine Hj I.lX O c.sa c.po n.taker c.hd i B λD d k=>h _ ?_
 have t:∃o,D.get? dx=some o:=let⟨o,_,_,G,_⟩:=d.ns;⟨o,G⟩
 refine I.write (x:=a) (e:=dx) (by rw[e];exact acu) (.inr j) (λb q l z=>(k.2 b l).trans z) t ?_
 refine⟨by rw[zX O.ne];exact j,?_,O.ne,d.obj,_,d.ns,λg=>?_,λg F=>?_⟩
 ·have:=zG0 f y fs;lia
 ·show lW ((aH f y fs).lookup g) (if g=f then some u else m g)
  rw[zS]
  by_cases q:g=f
  ·rw[if_pos q,if_pos q];exact p
  grind
 ·by_cases q:g=f
  ·rw[q];exact(ZX f y fs).1
  ·refine(ZX f y fs).2 g (i g λz=>F ?_)
   grind
theorem Inv.made(I:Inv X pins σ H s):Inv X pins σ (upd (upd H s.heap.objs.size (.own (s.heap.objs.size+1))) (s.heap.objs.size+1) (.ins C s.heap.objs.size []))
  { s with heap:=(s.heap.push emptyDict).push (instObj C s.heap.objs.size) }:=by
 have d:(s.heap.push emptyDict).get? s.heap.objs.size=some emptyDict:=get?_push_size s.heap rfl
 have j:=by
  have:=get?_push_size (s.heap.push emptyDict) (o:=instObj C s.heap.objs.size) rfl
  rwa [size_push] at this
 have k:(s.heap.push emptyDict).Ns s.heap.objs.size (λ_=>none):=⟨emptyDict,#[],_,d,rfl,(λe l=>absurd l (by simp)),λ_=>rfl⟩
 have h:=I.laid (o:=.own (s.heap.objs.size+1)) (t':=s.toks) (λb u q=>get?_push_of_some _ q) (aaz _) ⟨_,d⟩
 refine h.laid (λb u q=>get?_push_of_some _ q) (Nat.le_of_eq (size_push _ _)) ?_
 have g:s.heap.objs.size≠s.heap.objs.size+1:=aa8 (acp _)
 refine⟨by rw[zX g,zT],abl _,g,j,λ_=>none,(Heap.Ns1.of_empty k).at λo q=>get?_push_of_some _ q,λ_=>acu,λy i=>absurd rfl i⟩
theorem Hl(b:attributeBase e f env (eval e env)=eval e env)(h:wpAny (model prog w) A (eval e env) (λo c=>wpAny (model prog w) A (getAttr o f true) Q E c) E s):wpAny (model prog w) A (eval (.Attribute e f pos) env) Q E s :=
 Attribute_any_ h (by rw[arm_eval_Attribute,b])
end
def sJ(K:Frag)(d:TE)(f:Str):TE:=λσ H Q=>d σ H λx c=>∃a C g b v,x=.ref a/\c a=some (.ins C g b)/\Cls K C/\bO K C f/\b.lookup f=some v/\Q v c
def Z0(K:Frag)(h g:TE)(f:Str):TS:=λD σ H=>g σ H λy i=>h σ i λx d=>∃a C c b,x=.ref a/\d a=some (.ins C c b)/\Cls K C/\bO K C f/\b.length<1000 /\
 D.nx σ (upd d a (.ins C c (aH f y b)))
section
variable{X:Cx}{o e value:Expr}{f:Str}{pos pos' tpos:Pos}{ta tv:TE}
theorem zZb(p:PE X e ta)(d:attributeBase e f X.env (eval e X.env)=eval e X.env):PE X (.Attribute e f pos) (sJ X.K ta f):=by
 intro b s σ H Q I h
 refine Hl d (aV (p b s σ H _ I h) ?_)
 rintro u s1 ⟨x,m,j,r,a,C,dx,fs,v,t,i,c,n,l,q⟩
 subst t
 obtain rfl:u=abp a:=r
 exact zQi j i c n l λu' s2 g k=>⟨v,m,g,k,q⟩
theorem Gq(m:PE X o ta)(i:PE X value tv)(k:swapsWith value (some (.Attribute o f pos')) pos.line X.env=pure false):PS X (.Assign [.Attribute o f pos'] value pos) (Z0 X.K ta tv f):=by
 intro b s σ H D I h
 refine plainObj_wpAny_Assign_Attribute (aV (i b s σ H _ I h) λu d ⟨y,j,B,v,q⟩=>aV (m b d σ j _ B q) ?_) k
 rintro t s2 ⟨x,H2,g,p,a,C,dx,fs,w,z,c,n,l,r⟩
 subst w
 obtain rfl:t=abp a:=p
 exact zPt g z c n l v λs3 A=>⟨σ,_,A,r⟩
end
section
variable{X:Cx}{pins:List (Addr×Obj)}{σ:St}{H:Hp}{s:Shared}{A:Around}{E:Value->Shared->Prop}{Q:Value->Shared->Prop}{c:Value}{b:Bool}
inductive lZ(K:Frag)(H:Hp):V->Value->Prop where
 |non:lZ K H .non (.type "NoneType")
 |bl (x:Bool):lZ K H (.bl x) (.type "bool")
 |int (i:Int):lZ K H (.int i) (.type "int")
 |str (x:Str):lZ K H (.str x) (.type "str")
 |flt (x:UInt64):lZ K H (.flt x) (.type "float")
 |lst {a:Addr} {xs:List V} (e:H a=some (.lst xs)):lZ K H (.ref a) (.type "list")
 |zx {a:Addr} {o:Obj} {xs:List V} (e:H a=some (.zx o (.lst xs))):lZ K H (.ref a) (.type "list")
 |tup {a:Addr} {xs:List V} (e:H a=some (.tup xs)):lZ K H (.ref a) (.type "tuple")
 |dK {a:Addr} {kvs:List (Key×V)} (e:H a=some (.dK kvs)):lZ K H (.ref a) (.type "dict")
 |dT {a:Addr} {kvs:List (List Key×V)} (e:H a=some (.dT kvs)):lZ K H (.ref a) (.type "dict")
 |ins {a C dx:Addr} {fs:List (Str×V)} (e:H a=some (.ins C dx fs)) (cl:Cls K C) (ha:findIn K (.ref C) "__class__" = some (some (.builtin "object.__class__")))
   (hn:specialIn K (.builtin "object.__class__") "__get__" = some (some (.builtin "getset_descriptor.__get__"))) (htk:takesIn K (.builtin "object.__class__")=some true)
   (hm:mroIn K C (.type "object")=some true):lZ K H (.ref a) (.ref C)
theorem zTq(I:Inv X pins σ H s)(g:RelV x u)(F:lZ X.K H x t)(e:kitOne X.K t c=some b)(h:∀tk,Q (.bool b) { s with toks:=tk }) :
  wpAny (model X.prog X.w) A (call (.builtin "isinstance") [u,c]) Q E s:=by
 cases F with
 |non=>cases(show u=adg from g);exact ad5 PySem.W.kitx_none I.lX acu e (λz=>nomatch z) h
 |bl y=>cases(show u=Value.bool y from g);exact ad5 PySem.W.kitx_bool I.lX acu e (λz=>nomatch z) h
 |int i=>obtain⟨t,q⟩:=(show∃t,u=acd i t from g);cases q;exact ad5 PySem.W.kitx_int I.lX acu e (λz=>nomatch z) h
 |str y=>obtain⟨t,q⟩:=(show∃t,u=Value.str y t from g);cases q;exact ad5 PySem.W.kitx_str I.lX acu e (λz=>nomatch z) h
 |flt y=>obtain⟨t,q⟩:=(show∃t,u=Value.float y t from g);cases q;exact ad5 PySem.W.kitx_float I.lX acu e (λz=>nomatch z) h
 |@lst a l f =>
  cases(show u=abp a from g)
  obtain⟨_,_,n,_,j⟩:=(show bZ X.prog X.w H s.heap a (.lst l) from I.hok a _ f)
  exact ad5 PySem.W.kitx_list I.lX ⟨_,j,rfl⟩ e (λz=>nomatch z) h
 |@zx a ob l f =>
  cases(show u=abp a from g)
  obtain⟨_,_,_,n,_,j⟩:=(show bZ X.prog X.w H s.heap a (.zx ob (.lst l)) from I.hok a _ f)
  exact ad5 PySem.W.kitx_list I.lX ⟨_,j,rfl⟩ e (λz=>nomatch z) h
 |@tup a l f =>
  cases(show u=abp a from g)
  obtain⟨_,_,_,p⟩:=(show bZ X.prog X.w H s.heap a (.tup l) from I.hok a _ f)
  obtain⟨o,j,m,_⟩:=p
  exact ad5 PySem.W.kitx_tuple I.lX ⟨o,j,m⟩ e (λz=>nomatch z) h
 |@dK a k f =>
  cases(show u=abp a from g)
  obtain⟨_,_,vs,_,p⟩:=(show bZ X.prog X.w H s.heap a (.dK k) from I.hok a _ f)
  obtain⟨o,B,G,j,m,_⟩:=p
  exact ad5 PySem.W.kitx_dict I.lX ⟨o,j,m.1⟩ e (λz=>nomatch z) h
 |@dT a k f =>
  cases(show u=abp a from g)
  obtain⟨_,_,l,_,o,B,G,j,m,_⟩:=(show bZ X.prog X.w H s.heap a (.dT k) from I.hok a _ f)
  exact ad5 PySem.W.kitx_dict I.lX ⟨o,j,m.1⟩ e (λz=>nomatch z) h
 |@ins a C dx fs f v L hn r D =>
  cases(show u=abp a from g)
  obtain⟨mA,O,_⟩:=X5 I.hok f
  obtain⟨od,J,_⟩:=O.look
  exact ad5 (PySem.W.kitx_own (v.get _) v.hd L hn r D) I.lX J e (λz=>nomatch z) h
end
structure cI(k:Nat)(A:Around):Prop where
 hd:A.handled=none
 dp:A.depth+3*k+5<recursionLimit
 un:A.units+16*k+200<cLine
theorem cI.mono(r:cI k A)(h:j<=k):cI j A:=⟨r.hd,by have:=r.dp;lia,by have:=r.un;omega⟩
theorem cI.deeper(r:cI (k+1) A)(env:Env):cI k (A.deeper env) :=
 ⟨r.hd,by have:=r.dp;show A.depth+1+3*k+5<_;lia,by have:=r.un;show A.units+3+16*k+200<_;omega⟩
theorem zQe{A:Around}:(A.under (.builtin "type.__call__" ⟨.ref C::us,kw⟩)).depth=A.depth+1:=by
 first|rfl|grind
theorem zQd{A:Around}:(A.under (.builtin "type.__call__" ⟨.ref C::us,kw⟩)).units=A.units+1:=by
 first|rfl|grind
theorem cI.make(r:cI (k+1) A)(C:Addr)(us:List Value)(a:List (Str×Value)):cI k (A.under (.builtin "type.__call__" ⟨.ref C::us,a⟩)) :=
 ⟨r.hd,by have:=r.dp;rw[zQe];lia,by have:=r.un;rw[zQd];omega⟩
theorem cI.depth(r:cI k A):A.depth<recursionLimit:=by have:=r.dp;lia
theorem cI.units(r:cI k A):A.units+64<cLine:=by have:=r.un;lia
def bT:TA:=λ_ H Q=>Q [] H
def wI(a:TE)(e:TA):TA:=λσ H Q=>a σ H λx c=>e σ c λd b=>Q (x::d) b
section
variable{X:Cx}{e:Expr}{es:List Expr}{te:TE}{t:TA}{pos:Pos}
theorem zF:PA X [] bT:=λ_ _ _ _ H Q I h=>ad1 ⟨[],H,I,.nil,h⟩
theorem zA(n:PE X e te)(k:PA X es t)(m:starEach (e::es) X.env=(false,eval e X.env)::starEach es X.env:=by rfl):PA X (e::es) (wI te t):=by
 intro pos a s σ H Q I h
 rw[m]
 refine ac6 (aV (n a s σ H _ I h) ?_)
 rintro u o ⟨x,j,g,f,l⟩
 exact aV (k pos a o σ j _ g l) (by rintro us s2 ⟨i,p,d,c,b⟩;exact⟨x::i,p,d,.cons f c,b⟩)
def Nv(t:TA):TE:=λσ H Q=>t σ H λb c=>b.length<=sizeLine/\∀p,c p=none->Q (.ref p) (upd c p (.tup b))
def Dy(t:TA):TE:=λσ H Q=>t σ H λa b=>a.length<=sizeLine/\∀p,b p=none->Q (.ref p) (upd b p (.lst a))
theorem vo{f}(h:PA X es t):PE X (.Tuple es f pos) (Nv t):=by
 intro a s σ H Q I l
 refine wpAny_Tuple_spliced (aV (h pos a s σ H _ I l) λk d ⟨g,i,c,r,z,q⟩=>⟨by rw[<-r.length];exact z,?_⟩)
 have j:=c.hok.fresh (aaz _)
 refine⟨.ref d.heap.objs.size,upd i d.heap.objs.size (.tup g),c.laid (λb u e=>get?_push_of_some _ e) (aaz _) ?_,rfl,q _ j⟩
 exact⟨z,k,r,⟨_,get?_push_size _ rfl,rfl,_,rfl⟩⟩
theorem xY(h:PA X es t):PE X (.List es pos) (Dy t):=by
 intro a s σ H Q I f
 refine wpAny_List_spliced (aV (h pos a s σ H _ I f) λk c ⟨g,i,d,r,z,q⟩=>⟨by rw[<-r.length];exact z,?_⟩)
 have j:=d.hok.fresh (aaz _)
 refine⟨.ref c.heap.objs.size,upd i c.heap.objs.size (.lst g),d.laid (λb u e=>get?_push_of_some _ e) (aaz _) ?_,rfl,q _ j⟩
 exact⟨z,k,0,r,get?_push_size _ rfl⟩
end
abbrev Sp:=List V->Hp->VK->XK->Prop
abbrev Dd:=List Env->Hp->Shared->XK->Value->Shared->Prop
structure Af(P:Program)(w:World)(K:Frag)(mg:Str->Option Value)(base:Heap)(A:Around)(outer:List Env)(s:Shared)(H:Hp):Prop where
 frames:A.frames=some outer
 mod:Mod K mg base
 bs:∀b o,base.get? b=some o->s.heap.get? b=some o/\H b=none
 GX:base.objs.size<=s.heap.objs.size
 oF:s.heap.FunFrames base outer
 M5:∀b∈frs outer,H b=none
 hok:jk P w H s.heap
 bare:AllBare s.gens
def CE(b:List Env)(P:Program)(w:World)(H:Hp)(s:Shared)(Q:VK)(u:Value)(s':Shared):Prop :=
 ∃v c,s'.os=s.os/\AllBare s'.gens/\Un (frs b) [] H c s.heap s'.heap/\jk P w c s'.heap/\RelV v u/\Q v c
def CR(CX:Dd)(a:List Env)(P:Program)(w:World)(H:Hp)(s:Shared)(Q:VK)(E:XK)(r:Result)(s':Shared):Prop :=
 match r with
 |.ok (.ret u)=>CE a P w H s Q u s'
 |.ok _=>False
 |.error e=>CX a H s E e s'
structure au(P:Program)(w:World)(K:Frag)(mg:Str->Option Value)(base:Heap)(CX:Dd)(k:Nat)(f:Addr)(fd:FuncData)(ps:List Str)(sp:Sp):Prop where
 len:∀vs H Q E,sp vs H Q E->vs.length=ps.length
 run:∀(A:Around)(outer:List Env)(s:Shared)(H:Hp)(args:Args)(us:List Value)(vs:List V)(Q:VK)(E:XK),cI k A->Af P w K mg base A outer s H->BindsTo s fd args (ps.zip us)->Vals vs us->sp vs H Q E ->
  codeAny (model P w) A (.call (.ref f) args) (CR CX outer P w H s Q E) s
theorem au.mono{P:Program}{w:World}{K:Frag}{mg:Str->Option Value}{base:Heap}{CX:Dd}{j k:Nat}{f:Addr}{c:FuncData}{ps:List Str}{sp:Sp}(F:au P w K mg base CX j f c ps sp)(h:j<=k) :
  au P w K mg base CX k f c ps sp:=⟨F.len,λA a s H b g d Q E e=>F.run A a s H b g d Q E (e.mono h)⟩
theorem au.imp{P:Program}{w:World}{K:Frag}{mg:Str->Option Value}{base:Heap}{CX:Dd}{k:Nat}{f:Addr}{e:FuncData}{ps:List Str}{sp d:Sp}(F:au P w K mg base CX k f e ps sp)(h:∀vs H Q E,d vs H Q E->sp vs H Q E):au P w K mg base CX k f e ps d :=
 ⟨λvs H Q E q=>F.len vs H Q E (h _ _ _ _ q),λA b s H c l vs Q E n i g m j=>F.run A b s H c l vs Q E n i g m (h _ _ _ _ j)⟩
theorem Af.make{P:Program}{w:World}{K:Frag}{mg:Str->Option Value}{base:Heap}{A:Around}{a:List Env}{s:Shared}{H:Hp}(e:Af P w K mg base A a s H)(C:Addr)(us:List Value)(b:List (Str×Value)) :
  Af P w K mg base (A.under (.builtin "type.__call__" ⟨.ref C::us,b⟩)) a s H:=⟨by first|exact e.frames|grind,e.mod,e.bs,e.GX,e.oF,e.M5,e.hok,e.bare⟩
section
variable{X:Cx}{pins:List (Addr×Obj)}{σ:St}{H:Hp}{s s':Shared}
theorem Inv.env0(I:Inv X pins σ H s):Af X.prog X.w X.K X.mg X.base X.A X.stack s H :=
 ⟨I.ok.frames,I.ok.mod,I.bs,aa4 I.ok.GX I.sz,I.stack,I.Bq,I.hok,I.bare⟩
theorem Inv.after(I:Inv X pins σ H s)(h:CE X.stack X.prog X.w H s Q u s'):EP X pins σ Q u s':=by
 obtain⟨v,j,os,c,i,e,r,q⟩:=h
 obtain⟨hh,g,d,t,f⟩:=s'
 obtain rfl:f=s.os:=os
 exact⟨v,j,I.call i e c (λb z=>absurd z (by simp)),r,q⟩
end
def UL(sp:Sp)(a:List V)(E:XK)(t:TA):TE:=λσ H Q=>t σ H λb c=>sp (b++a) c Q E
def UW(C:Addr)(m:Str)(sp:Sp)(b:List V)(E:XK)(h:TE)(t:TA):TE:=λσ H Q=>h σ H λx d=>∃a g c,x=.ref a/\d a=some (.ins C g c)/\c.lookup m=none /\
 t σ d λf e=>sp (x::(f++b)) e Q E
def Nx(C:Addr)(sp:Sp)(c:List V)(E:XK)(t:TA):TE:=λσ H Q=>t σ H λe d=>∀x b,d x=none->d b=none->b≠x ->
 sp (.ref x::(e++c)) (upd (upd d b (.own x)) x (.ins C b [])) (λv f=>v=.non/\Q (.ref x) f) E
def Binds(K:Frag)(c:FuncData)(ps:List Str)(b:List Value):Prop :=
 ∀(s:Shared)(a:List Value),K.In s.heap->(a++b).length=ps.length->BindsTo s c ⟨a,[]⟩ (ps.zip (a++b))
theorem Binds.all{K:Frag}{b:FuncData}{ps:List Str}(h:∀us:List Value,us.length=ps.length->bindArgs b ⟨us,[]⟩=pure (ps.zip us)):Binds K b ps []:=λs us _ a=>by
 rw[append_nil] at a ⊢
 exact .of_eq (h us a)
def Ho(CX:Dd)(X:Cx)(E:XK):Prop:=∀(b:List (Addr×Obj))(σ:St)(H:Hp)(s:Shared)(e:Value)(c:Shared),Inv X b σ H s->CX X.stack H s E e c->X.xe e c
section
variable{X:Cx}{CX:Dd}{k:Nat}{f C:Addr}{fd:FuncData}{ps:List Str}{sp:Sp}{sO:List V}{ds:List Value}{E:XK}{x m:Str}{p pos apos:Pos}{e o:Expr}{es:List Expr}{ta:TE}{t:TA}
theorem X6(F:au X.prog X.w X.K X.mg X.base CX k f fd ps sp)(j:cI k X.A)(d:Binds X.K fd ps ds)(n:Vals sO ds)(i:Ho CX X E)(I:Inv X a σ H s)(r:Vals vs us)(h:sp (vs++sO) H Q E):wpAny (model X.prog X.w) X.A (call (.ref f) us) (EP X a σ Q) X.xe s:=by
 have c:=r.append n
 have q:(us++ds).length=ps.length:=by rw[<-c.length];exact F.len _ _ _ _ h
 refine wpAny_call (adl (F.run X.A X.stack s H ⟨us,[]⟩ (us++ds) (vs++sO) Q E j I.env0 (d s us I.lX q) c h) λr l b=>?_)
 cases r with
 |error e=>exact i a σ H s e l I b
 |ok g =>
  cases g with
  |ret u=>exact I.after b
  |next=>exact abz b
  |brk=>exact abz b
  |cont=>exact abz b
theorem Hq(F:au X.prog X.w X.K X.mg X.base CX k f fd ps sp)(i:cI k X.A)(z:Gl X x)(l:X.mg x=some (.ref f))(v:keepIn X.K (.ref f)=true)(j:Binds X.K fd ps ds)(u:Vals sO ds)(B:Ho CX X E)(n:PA X (e::es) t)(d:(x==("__debug__":Str))=false:=by decide)(y:starEach (e::es) X.env=(false,eval e X.env)::starEach es X.env:=by rfl)(c:(backTo pos (starEach es X.env)).any (·.1)=false:=by rfl) :
  PE X (.Call (.Name x p) (e::es) [] pos) (UL sp sO E t):=by
 intro b s σ H Q I h
 refine ab0 (Uo I z l ?_ d)
 refine aes I.ok.mod.Sq v (aV (n pos b s σ H _ I h) λus s1 ⟨vs,H1,g,r,q⟩=>⟨g.lX,?_⟩) y c
 exact X6 F i j u B g r q
theorem Hr(he:PE X o ta)(c:Cls X.K C)(j:Meth X.K C m f)(F:au X.prog X.w X.K X.mg X.base CX k f fd ps sp)(hr:cI k X.A)(G:Binds X.K fd ps ds)(hd:Vals sO ds)(J:Ho CX X E)(ha:PA X (e::es) t)(g:starEach (e::es) X.env=(false,eval e X.env)::starEach es X.env:=by rfl)(i:(backTo pos (starEach es X.env)).any (·.1)=false:=by rfl)(ht:eval (.Call (.Attribute o m apos) (e::es) [] pos) X.env=(do
   let y <-eval o X.env
   standAt apos.atName
   let(f,first) <-holding [y] (getMethod y m pl)
   callWith pos f first (backTo pos (starEach (e::es) X.env)) (backToKw pos (keywordEach [] X.env))):=by rfl) :
  PE X (.Call (.Attribute o m apos) (e::es) [] pos) (UW C m sp sO E ta t):=by
 intro b s σ H Q I h
 refine aeo (aV (he b s σ H _ I h) ?_) ht
 rintro u z ⟨x,L,v,B,a,dx,fs,ex,ea,l,q⟩
 subst ex
 obtain rfl:u=abp a:=B
 refine zIm v ea c j l ?_
 refine aes I.ok.mod.Sq j.kp (aV (ha pos b z σ L _ v q) λus s2 ⟨vs,H2,n,r,D⟩=>⟨n.lX,?_⟩) g i
 exact X6 (vs:=.ref a::vs) F hr G hd J n (.cons rfl r) D
theorem zWl(G:PE X o ta)(c:Cls X.K C)(i:Meth X.K C m f)(F:au X.prog X.w X.K X.mg X.base CX k f fd ps sp)(D:cI k X.A)(r:Binds X.K fd ps ds)(J:Vals sO ds)(v:Ho CX X E)(B:eval (.Call (.Attribute o m apos) [] [] pos) X.env=(do
   let j <-eval o X.env
   standAt apos.atName
   let(f,first) <-holding [j] (getMethod j m pl)
   callWith pos f first (backTo pos (starEach [] X.env)) (backToKw pos (keywordEach [] X.env))):=by rfl) :
  PE X (.Call (.Attribute o m apos) [] [] pos) (UW C m sp sO E ta bT):=by
 intro d s σ H Q I h
 refine aeo (aV (G d s σ H _ I h) ?_) B
 rintro u s1 ⟨x,H1,g,n,a,dx,fs,y,z,l,q⟩
 subst y
 obtain rfl:u=abp a:=n
 refine zIm g z c i l ?_
 exact PySem.W.callWith_K0 g.lX i.kp (X6 (vs:=[.ref a]) F D r J v g (.cons rfl .nil) q)
structure Mk(K:Frag)(C f:Addr):Prop where
 makes:PySem.W.makesIn K C=true
 init:findIn K (.ref C) "__init__" = some (some (.ref f))
 fn:isFn K (.ref f)=true
 kp:keepIn K (.ref C)=true
theorem zN0(M:Mk X.K C f)(F:au X.prog X.w X.K X.mg X.base CX k f fd ps sp)(hr:cI (k+1) X.A)(hb:Binds X.K fd ps ds)(hd:Vals sO ds)(hx:Ho CX X E)(I:Inv X pins σ H s)(r:Vals vs us)(h:∀x dx,H x=none->H dx=none->dx≠x->sp (.ref x::(vs++sO)) (upd (upd H dx (.own x)) x (.ins C dx [])) (λv H2=>v=.non/\Q (.ref x) H2) E) :
  wpAny (model X.prog X.w) X.A (call (.ref C) us) (EP X pins σ Q) X.xe s:=by
 have hq:=h (s.heap.objs.size+1) s.heap.objs.size (I.hok.fresh (ab7 _)) (I.hok.fresh (aaz _)) (aa8 (acp _))
 have I2:=Inv.made (C:=C) I
 have r2:Vals (V.ref (s.heap.objs.size+1)::(vs++sO)) (abp (s.heap.objs.size+1)::(us++ds)):=.cons rfl (r.append hd)
 have hl:(abp (s.heap.objs.size+1)::us++ds).length=ps.length:=by
  have e:=r2.length
  rw[F.len _ _ _ _ hq] at e
  exact e.symm
 refine wpAny_call (zXa (f:=f) I.lX M.makes M.init (beq_iff_eq.mp M.fn) (adl (F.run _ X.stack _ _ ⟨abp (s.heap.objs.size+1)::us,[]⟩ (abp (s.heap.objs.size+1)::(us++ds)) _ _ E (hr.make C us [])
  (I2.env0.make C us []) (hb _ (abp (s.heap.objs.size+1)::us) I2.lX hl) r2 hq) λr s' hq'=>?_))
 cases r with
 |error e=>exact hx pins σ _ _ e s' I2 hq'
 |ok fl =>
  cases fl with
  |ret u =>
   obtain⟨v,H',I3,rv,ev,q3⟩:=I2.after hq'
   subst ev
   exact⟨rv,⟨V.ref (s.heap.objs.size+1),H',I3,rfl,q3⟩⟩
  |next=>exact abz hq'
  |brk=>exact abz hq'
  |cont=>exact abz hq'
theorem uO(M:Mk X.K C f)(F:au X.prog X.w X.K X.mg X.base CX k f fd ps sp)(n:cI (k+1) X.A)(y:Gl X x)(l:X.mg x=some (.ref C))(j:Binds X.K fd ps ds)(u:Vals sO ds)(g:Ho CX X E)(i:PA X (e::es) t)(c:(x==("__debug__":Str))=false:=by decide)(v:starEach (e::es) X.env=(false,eval e X.env)::starEach es X.env:=by rfl)(b:(backTo pos (starEach es X.env)).any (·.1)=false:=by rfl) :
  PE X (.Call (.Name x p) (e::es) [] pos) (Nx C sp sO E t):=by
 intro a s σ H Q I h
 refine ab0 (Uo I y l ?_ c)
 refine aes I.ok.mod.Sq M.kp (aV (i pos a s σ H _ I h) λus s1 ⟨vs,H1,d,r,q⟩=>⟨d.lX,?_⟩) v b
 exact zN0 M F n j u g d r q
theorem zWm(M:Mk X.K C f)(F:au X.prog X.w X.K X.mg X.base CX k f fd ps sp)(c:cI (k+1) X.A)(d:Gl X x)(j:X.mg x=some (.ref C))(i:Binds X.K fd ps ds)(g:Vals sO ds)(b:Ho CX X E)(a:(x==("__debug__":Str))=false:=by decide):PE X (.Call (.Name x p) [] [] pos) (Nx C sp sO E bT):=by
 intro pins s σ H Q I h
 refine ab0 (Uo I d j ?_ a)
 exact PySem.W.callWith_K0 I.lX M.kp (zN0 M F c i g b I .nil h)
end
structure ak(N P:List Str)(sc:Scope):Prop where
 kind:sc.kind=.function
 co:sc.isCoroutine=false
 gen:sc.isGenerator=false
 nd:N.Nodup
 pre:N.take P.length=P
 par:∀x∈P,sc.names.lookup x=some .local\/sc.names.lookup x=some .cell
 Ny:∀y∈sc.names,y.2≠.free
theorem zL4{kindOf:Str->Option NameKind}{x:Str}:∀{a:List (Str×Value)}{m:Str->Option Value},(∀v,(x,v)∉a)->bindL kindOf a m x=m x
 |[],_,_=>rfl
 | (n,v)::r,m,h=>by
  unfold bindL
  rw[zL4 λw b=>h w (mem_cons_of_mem _ b)]
  split
  ·grind
  ·rfl
theorem zL6{kindOf:Str->Option NameKind}{x:Str}:∀{a:List (Str×Value)}{m:Str->Option Value},(∀v,(x,v)∉a)->bindC kindOf a m x=m x
 |[],_,_=>rfl
 | (n,v)::r,m,h=>by
  unfold bindC
  rw[zL6 λw b=>h w (mem_cons_of_mem _ b)]
  split
  ·rfl
  grind
theorem zL5{kindOf:Str->Option NameKind}:∀{P:List Str}{vs:List Value}{i:Nat}{m:Str->Option Value},P.Nodup->P[i]?=some x->vs[i]?=some v->kindOf x=some .local ->
  bindL kindOf (P.zip vs) m x=some v
 |[],_,_,_,_,h,_,_=>by simp at h
 |_::_,[],_,_,_,_,h,_=>by simp at h
 |p::P,w::vs,0,m,nd,h1,h2,hk=>by
  simp at h1 h2;subst h1;subst h2
  show bindL kindOf ((p,w)::P.zip vs) m p=_
  unfold bindL
  rw[zL4 λv hv=>(nodup_cons.mp nd).1 (of_mem_zip hv).1,if_pos hk]
  simp
 |p::P,w::vs,i+1,m,nd,h1,h2,hk=>by
  show bindL kindOf ((p,w)::P.zip vs) m x=_
  unfold bindL
  exact zL5 (i:=i) (nodup_cons.mp nd).2 (by simpa using h1) (by simpa using h2) hk
theorem zL7{kindOf:Str->Option NameKind}:∀{P:List Str}{vs:List Value}{i:Nat}{m:Str->Option Value},P.Nodup->P[i]?=some x->vs[i]?=some v->kindOf x≠some .local ->
  bindC kindOf (P.zip vs) m x=some v
 |[],_,_,_,_,h,_,_=>by simp at h
 |_::_,[],_,_,_,_,h,_=>by simp at h
 |p::P,w::vs,0,m,c,b,a,d=>by
  simp at b a;subst b;subst a
  show bindC kindOf ((p,w)::P.zip vs) m p=_
  unfold bindC
  rw[zL6 λv e=>(nodup_cons.mp c).1 (of_mem_zip e).1,if_neg d]
  simp
 |p::P,w::vs,i+1,m,c,b,a,d=>by
  unfold bindC
  exact zL7 (i:=i) (nodup_cons.mp c).2 (by grind) (by grind) d
def start(N:List Str)(vs:List V):St:=vs.map some++replicate (N.length-vs.length) none
def sS(CX:Dd)(P:Program)(w:World)(K:Frag)(mg:Str->Option Value)(base:Heap)(N:List Str)(d:Str)(b:Scope)(f:Addr)(h:Value)(A:Around)(c:List Env)(s:Shared)(H:Hp)(E:XK):Cx where
 prog:=P
 w:=w
 K:=K
 mg:=mg
 base:=base
 A:=A.deeper (envOfC d b s.heap.objs.size f h)
 N:=N
 s₀:=s
 H₀:=H
 env:=envOfC d b s.heap.objs.size f h
 outer:=c
 stack:=envOfC d b s.heap.objs.size f h::c
 ex:=[]
 calm:=true
 fn:=λ_=>true
 pn:=[]
 xe:=λe i=>wpAny (model P w) (A.deeper (envOfC d b s.heap.objs.size f h)) (leaving (envOfC d b s.heap.objs.size f h) e) (λ_ g=>CX c H s E e g) (λj g=>CX c H s E j g) i
theorem zO2{a:Scope}(h:a.names.lookup x=some .cell):∃c,(cellsFrom n a.names []).lookup x=some c:=by
 have q:=adh a.names n [] (.inl h)
 exact abr.mp q
theorem zTt{CX:Dd}{P:Program}{w:World}{K:Frag}{mg:Str->Option Value}{base:Heap}{N ps:List Str}{qual:Str}{scope:Scope}{f:Addr}{cd:Value}{A:Around}{outer:List Env}{s s1:Shared}{H:Hp}{E:XK}{us:List Value}{vs:List V}(S:ak N ps scope)(hd:A.handled=none)(e0:Af P w K mg base A outer s H)(hl:vs.length=ps.length)(r:Vals vs us)(x:InCallC s s.heap.objs.size (bindL (envOfC qual scope s.heap.objs.size f cd).kindOf (ps.zip us) λ_=>none) (cellsFrom (s.heap.objs.size+1) scope.names []) (bindC (envOfC qual scope s.heap.objs.size f cd).kindOf (ps.zip us) λ_=>none) s1) :
  Inv (sS CX P w K mg base N qual scope f cd A outer s H E) [] (start N vs) H s1:=by
 have hpl:ps.length<=N.length:=by have:=congrArg length S.pre;rw[length_take] at this;omega
 obtain⟨h1,tk,rfl,hk⟩:=x.done
 have Z1:∀b:Addr,b∉(sS CX P w K mg base N qual scope f cd A outer s H E).ex:=λb z=>absurd (show b∈([]:List Addr) from z) (by simp)
 refine⟨⟨e0.mod,S.kind,rfl,rfl,aaz _,λy z c h1 h2=>?_,λy hy=>?_,λy c _ h=>?_,λ_=>hd,Around.frames_deeper e0.frames,.inr ⟨rfl,rfl⟩,λb z=>absurd z (Z1 b),e0.bs,e0.GX,λb _ _=>Z1 b,λb z=>absurd z (Z1 b),e0.oF,e0.M5⟩,
  rfl,e0.bare,Un.kept hk,⟨_,x.toInCall.ns,λi y v h1 h2 h3=>?_⟩,λy c h=>⟨_,x.cell y c h⟩,e0.hok.fresh (aaz _),λy c h=>?_,λp hp=>absurd (show p∈([]:List (Addr×Obj)) from hp) (by simp),e0.hok.kept hk,?_⟩
 ·exact name_of_addr x.apart (abw h1) (abw h2)
 ·have hy:scope.names.lookup y=some .cell\/scope.names.lookup y=some .free:=hy
  rcases hy with hy|hy
  ·exact zO2 hy
  ·exact absurd rfl (S.Ny _ (abw hy))
 ·exact acz (x.above y c (abw h))
 ·have hi:i<vs.length:=by
   unfold start at h2
   by_cases hi:i<vs.length
   ·exact hi
   ·rw[getElem?_append_right (by simpa using hi)] at h2
    rw[List.getElem?_replicate] at h2
    split at h2<;>cases h2
  have ha:vs[i]?=some v:=by
   unfold start at h2
   rw[getElem?_append_left (by simpa using hi),getElem?_map] at h2
   cases e:vs[i]? with
   |none=>rw[e] at h2;cases h2
   |some a=>rw[e] at h2;cases h2;rfl
  obtain⟨u,hu,rv⟩:=r.get ha
  have hp:ps[i]?=some y:=by
   rw[<-S.pre,getElem?_take_of_lt (by omega)];exact h1
  have ndP:ps.Nodup:=by rw[<-S.pre];exact S.nd.sublist (List.take_sublist _ _)
  refine⟨u,rv,?_⟩
  rcases S.par y (mem_of_getElem? hp) with k|k
  ·exact .inl ⟨k,zL5 ndP hp hu k⟩
  ·obtain⟨c,e⟩:=zO2 (n:=s.heap.objs.size+1) k
   refine .inr ⟨.inl k,c,e,?_⟩
   have q:=x.cell y c e
   rw[zL7 ndP hp hu (by show scope.names.lookup y≠_;rw[k];decide)] at q
   exact q
 ·exact e0.hok.fresh (acz (x.above y c (abw h)))
 ·unfold start
  show _=N.length
  rw[length_append,length_map,List.length_replicate]
  omega
theorem Kw{CX:Dd}{P:Program}{w:World}{K:Frag}{mg:Str->Option Value}{base:Heap}{k:Nat}{f:Addr}{name qual:Str}{params:Arguments}{body:List Stmt}{scope:Scope}{dV kV doc pm cdv ct oc:Value}{an od:Option Addr}{osl:Array (Option Value)}{N ps:List Str}{sp:Sp}(lk:K.lookup f=some ⟨oc,od,.func (fnOf name qual params body scope dV kV doc pm an cdv ct),osl⟩)(hcd:codeIn K cdv qual=true)(S:ak N ps scope)(len:∀vs H Q E,sp vs H Q E->vs.length=ps.length)(hbody:∀(A:Around) (outer:List Env) (s:Shared) (H:Hp) (vs:List V) (Q:VK) (E:XK),cI k (A.deeper (envOfC qual scope s.heap.objs.size f cdv))->sp vs H Q E ->
   ∃t,qT (sS CX P w K mg base N qual scope f cdv A outer s H E) body t/\t { nx:=λ_ H'=>Q .non H',rt:=Q } (start N vs) H) :
  au P w K mg base CX (k+1) f (fnOf name qual params body scope dV kV doc pm an cdv ct) ps sp:=by
 refine⟨len,λA outer s H args us vs Q E hr e0 hb r hsp=>?_⟩
 have hl:=len _ _ _ _ hsp
 have KX:K.In s.heap:=e0.mod.Sq.keeps λb o e=>(e0.bs b o e).1
 have lim:s.heap.NoLimit:=e0.mod.nolimit.keeps λb o e=>(e0.bs b o e).1
 have hkind:∀y∈ps.zip us,scope.names.lookup y.1=some .local\/(scope.names.lookup y.1=some .cell/\((cellsFrom (s.heap.objs.size+1) scope.names []).lookup y.1).isSome=true):=λ⟨n,v⟩ hy=>by
  rcases S.par n (of_mem_zip hy).1 with q|q
  ·exact .inl q
  ·exact .inr ⟨q,adh _ _ _ (.inl q)⟩
 refine codeAny_call_function hr.depth (KX _ _ lk) rfl S.co S.gen rfl (PySem.W.codeRec_of KX hcd) (hb _ _ _ _ ?_)
 refine wpAny_newFunctionEnv_cells S.kind hkind λenv he s1 x=>?_
 subst he
 refine⟨lim.keeps x.toInCall.keep,codeAny_func ?_⟩
 obtain⟨t,ht,hq⟩:=hbody A outer s H vs Q E (hr.deeper _) hsp
 have I:Inv (sS CX P w K mg base N qual scope f cdv A outer s H E) [] (start N vs) H s1:=zTt S hr.hd e0 hl r x
 refine ab1 (ht [] s1 (start N vs) H _ I hq) (λfl s' hs=>?_) λe s' hs=>hs
 have fin:∀{σ':St}{H':Hp}{v:V}{u:Value},Inv (sS CX P w K mg base N qual scope f cdv A outer s H E) [] σ' H' s'->RelV v u->Q v H'->CE outer P w H s Q u s' :=
  λ{σ' H' v u} J rv q=>⟨v,H',J.os,J.bare,J.base,J.hok,rv,q⟩
 cases fl with
 |ret u =>
  obtain⟨v,σ',H',J,rv,q⟩:=hs
  exact fin J rv q
 |next =>
  obtain⟨σ',H',J,q⟩:=hs
  exact fin (v:=V.non) (u:=adg) J rfl q
 |brk =>
  obtain⟨_,_,_,q⟩:=hs
  exact abz q
 |cont =>
  obtain⟨_,_,_,q⟩:=hs
  exact abz q
section
variable{X:Cx}{x:Str}{p pos:Pos}{e:Expr}{es:List Expr}{t:TA}{id T:String}{r:List V->Hp->VK->Prop}
def Ag(r:List V->Hp->VK->Prop)(t:TA):TE:=λσ H Q=>t σ H λa b=>r a b Q
theorem zR(k:rB X (.builtin id) r)(z:Gl X x)(n:X.mg x=none)(o:bootBuiltins x=some (.builtin id))(m:PA X (e::es) t)(q:x ≠ "__name__":=by decide)(d:(x==("__debug__":Str))=false:=by decide)(y:starEach (e::es) X.env=(false,eval e X.env)::starEach es X.env:=by rfl)(c:(backTo pos (starEach es X.env)).any (·.1)=false:=by rfl):PE X (.Call (.Name x p) (e::es) [] pos) (Ag r t):=by
 intro b s σ H Q I h
 refine ab0 (GZ I z n o ?_ q d)
 exact PyProof.Rows.callWith_builtin1 (aV (m pos b s σ H _ I h) (by rintro l g ⟨w,i,v,u,j⟩;exact k b g σ i w l Q v u j)) y c
theorem vH(j:rB X (.type T) r)(y:Gl X x)(m:X.mg x=none)(n:bootBuiltins x=some (.type T))(l:PA X (e::es) t)(o:x ≠ "__name__":=by decide)(d:(x==("__debug__":Str))=false:=by decide)(w:starEach (e::es) X.env=(false,eval e X.env)::starEach es X.env:=by rfl)(c:(backTo pos (starEach es X.env)).any (·.1)=false:=by rfl):PE X (.Call (.Name x p) (e::es) [] pos) (Ag r t):=by
 intro b s σ H Q I h
 refine ab0 (GZ I y m n ?_ o d)
 exact abx (aV (l pos b s σ H _ I h) (by rintro k f ⟨v,g,u,q,i⟩;exact j b f σ g v k Q u q i)) w c
end
section
variable{κ:Type}[DecidableEq κ]
noncomputable def jr(kvs:List (κ×V))(k:κ):Option V:=(kvs.find? λa=>decide (a.1=k)).map (·.2)
def putK(kvs:List (κ×V))(k:κ)(v:V):List (κ×V) :=
 if(kvs.any λa=>decide (a.1=k))=true then kvs.map (λa=>if a.1=k then(a.1,v) else a) else kvs++[(k,v)]
theorem Z2{p:κ×V}{r:List (κ×V)}{k:κ}(e:p.1=k):jr (p::r) k=some p.2:=by simp[jr,e]
theorem Z4{p:κ×V}{r:List (κ×V)}{k:κ}(e:¬p.1=k):jr (p::r) k=jr r k:=by simp[jr,e]
theorem zNs(k:κ):∀kvs:List (κ×V),(kvs.any λa=>decide (a.1=k))=(jr kvs k).isSome
 |[]=>rfl
 |p::r=>by
  rw[any_cons]
  by_cases e:p.1=k
  ·simp only[Z2 e,decide_eq_true e,Bool.true_or,aeh]
  ·rw[Z4 e,decide_eq_false e];exact zNs k r
theorem zGz(kvs:List (κ×V))(k:κ)(v:V):(putK kvs k v).length<=kvs.length+1:=by
 unfold putK
 grind
theorem lW.gQ(r:lW o u):o.isSome=u.isSome:=by
 cases o with
 |none=>cases u with
  |none=>rfl
  |some _=>exact(r).elim
 |some _=>cases u with
  |none=>exact(r).elim
  |some _=>rfl
theorem KV.val(r:KV kvs vs)(k:κ):lW (jr kvs k) (valueAt vs k):=by
 induction r with
 |nil=>exact acu
 |@cons p q ps c h t ih =>
  obtain⟨d,f⟩:=h
  by_cases e:p.1=k
  ·have a:=d.symm.trans e
   have b:valueAt (q::c) k=some q.2:=by simp[valueAt,a]
   rw[Z2 e,b];exact f
  ·have a:¬q.1=k:=λz=>e (d.trans z)
   have b:valueAt (q::c) k=valueAt c k:=by simp[valueAt,a]
   rw[Z4 e,b];exact ih
theorem KV.any(r:KV kvs vs)(k:κ):(kvs.any λkv=>decide (kv.1=k))=vs.any λkv=>decide (kv.1=k):=by
 unfold KV at r
 induction r with
 |nil=>rfl
 |cons h t ih=>rw[any_cons,any_cons,ih,h.1]
theorem KV.repl(r:KV kvs vs)(k:κ)(ry:RelV y u) :
  KV (kvs.map λa=>if a.1=k then(a.1,y) else a) (vs.map λa=>if a.1=k then(a.1,u) else a):=by
 induction r with
 |nil=>exact .nil
 |@cons p q ps qs h t ih =>
  refine .cons ?_ ih
  grind
theorem KV.put(r:KV kvs vs)(k:κ)(a:RelV y u):KV (putK kvs k y) (stored vs k u):=by
 unfold putK stored
 rw[r.any k]
 by_cases e:(vs.any λb=>decide (b.1=k))=true
 ·rw[if_pos e,if_pos e];exact r.repl k a
 ·rw[if_neg e,if_neg e];exact Paired.snoc r ⟨rfl,a⟩
theorem KV.length(r:KV kvs vs):kvs.length=vs.length:=adu r
end
theorem U0(r:RelV (kV k) u):(vW P w).is k u=true:=by
 cases k with
 |inl i=>obtain⟨t,e⟩:=(r);subst e;exact zM4 P w i t
 |inr x=>obtain⟨t,e⟩:=(r);subst e;exact zM3 P w x t
theorem zLk:∀{ks:List Key}{us:List Value},Vals (ks.map kV) us->ItemsAre (vW P w) ks us
 |[],_,r=>by cases r;exact .nil
 |k::ks,_,r=>by
  cases r with
  |cons h t=>exact .cons (U0 h) (zLk t)
abbrev KT(H:Hp):List (List Key×V)->List (List Key×Addr×Value)->Prop:=Paired λp q=>p.1=q.1/\H q.2.1=some (.tup (p.1.map kV))/\RelV p.2 q.2.2
theorem KT.val(r:KT H kvs xs)(k:List Key):lW (jr kvs k) ((atKey xs k).map (·.2)):=by
 induction r with
 |nil=>exact acu
 |@cons p q ps c h t ih =>
  obtain⟨d,_,f⟩:=h
  by_cases e:p.1=k
  ·have a:=d.symm.trans e
   have b:atKey (q::c) k=some q.2:=by simp[atKey,a]
   rw[Z2 e,b];exact f
  ·have a:¬q.1=k:=λz=>e (d.trans z)
   have b:atKey (q::c) k=atKey c k:=by simp[atKey,a]
   rw[Z4 e,b];exact ih
theorem KT.repl(r:KT H kvs xs)(k:List Key)(ry:RelV y u) :
  KT H (kvs.map λa=>if a.1=k then(a.1,y) else a) (xs.map (putAt k u)):=by
 induction r with
 |nil=>exact .nil
 |@cons p q ps qs h t ih =>
  refine .cons ?_ ih
  unfold putAt
  grind
theorem KT.put(r:KT H kvs xs)(k:List Key)(d:H b=some (.tup (k.map kV)))(a:RelV y u) :
  KT H (putK kvs k y) (storedH xs k b u):=by
 have e:(kvs.any λc=>decide (c.1=k))=(atKey xs k).isSome:=by
  rw[zNs,(r.val k).gQ,aem]
 unfold putK storedH
 rw[e]
 by_cases q:(atKey xs k).isSome=true
 ·rw[if_pos q,if_pos q];exact r.repl k a
 ·rw[if_neg q,if_neg q];exact Paired.snoc r ⟨rfl,d,a⟩
theorem KT.keeps(r:KT H kvs xs)(a:∀b ys,H b=some (.tup ys)->H' b=some (.tup ys)):KT H' kvs xs :=
 Paired.M4 r λ_ _ z=>⟨z.1,a _ _ z.2.1,z.2.2⟩
section
variable{P:Program}{w:World}{H:Hp}{h:Heap}{a:Addr}
theorem Ky(b:jk P w H h)(e:Rd H a u):bZ P w H h a u:=e.ok b
theorem Dz(b:jk P w H h)(e:Rd H a (.dK kvs)):kvs.length<=sizeLine/\(a==sysModules)=false/\∃vs,KV kvs vs/\h.DictOf (vW P w) a vs :=
 Ky b e
theorem U3(b:jk P w H h)(e:H a=some (.dK kvs)):kvs.length<=sizeLine/\(a==sysModules)=false/\∃vs,KV kvs vs/\h.DictOf (vW P w) a vs:=Dz b (.inl e)
theorem U4{ks:List Key}(g:jk P w H h)(e:H a=some (.tup (ks.map kV))):(tupleKind (vW P w)).is h ks a:=by
 obtain⟨_,b,r,o,c,f,n,d⟩:=(g a _ e)
 exact⟨o,b.toArray,n,c,f,d,by simpa using zLk r⟩
theorem DG(ok:jk P w H h)(e:Rd H a (.dT kvs)):kvs.length<=sizeLine/\(a==sysModules)=false /\
  ∃xs,KT H kvs xs/\h.DictOfH (tupleKind (vW P w)) a xs:=by
 obtain⟨z,y,xs,r,o,es,ep,h1,h2,h3,h4,h5⟩:=(show bZ P w H h a (.dT kvs) from Ky ok e)
 refine⟨z,y,xs,r,o,es,ep,h1,h2,h3,h4,λx hx=>?_,h5⟩
 have all:∀{l:List (List Key×V)}{m:List (List Key×Addr×Value)},KT H l m->∀x∈m,(tupleKind (vW P w)).is h x.1 x.2.1:=by
  intro l m q
  induction q with
  |nil=>intro x hx;exact nomatch hx
  |@cons p q ps qs hq t ih =>
   intro x hx
   rcases mem_cons.mp hx with e|hx
   ·subst e
    exact U4 ok (by rw[<-hq.1];exact hq.2.1)
   ·exact ih x hx
 exact all r x hx
theorem U5(b:jk P w H h)(e:H a=some (.dT kvs)):kvs.length<=sizeLine/\(a==sysModules)=false /\
  ∃xs,KT H kvs xs/\h.DictOfH (tupleKind (vW P w)) a xs:=DG b (.inl e)
end
noncomputable def sV(H:Hp)(a:Addr)(y:V)(r:Option V):Prop :=
 (∃c k,Rd H a (.dK c)/\y=kV k/\r=jr c k)\/∃c k b,Rd H a (.dT c)/\y=.ref b/\H b=some (.tup (k.map kV))/\r=jr c k
def BX(H:Hp)(a:Addr)(y v:V)(H':Hp):Prop :=
 (∃c k,H a=some (.dK c)/\y=kV k/\c.length<sizeLine/\H'=upd H a (.dK (putK c k v))) \/
 ∃c k b,H a=some (.dT c)/\y=.ref b/\H b=some (.tup (k.map kV))/\c.length<sizeLine/\H'=upd H a (.dT (putK c k v))
theorem sV.k{H:Hp}{a:Addr}{kvs:List (Key×V)}{k:Key}(e:H a=some (.dK kvs)):sV H a (kV k) (jr kvs k):=.inl ⟨kvs,k,.inl e,rfl,rfl⟩
theorem BX.k{H:Hp}{a:Addr}{kvs:List (Key×V)}{k:Key}{v:V}(e:H a=some (.dK kvs))(b:kvs.length<sizeLine):BX H a (kV k) v (upd H a (.dK (putK kvs k v))):=.inl ⟨kvs,k,e,rfl,b,rfl⟩
section
variable{X:Cx}{pins:List (Addr×Obj)}{σ:St}{H:Hp}{s:Shared}{a:Addr}{y v:V}{u r:Value}{o:Option V}{A:Around}{E:Value->Shared->Prop}
theorem Inv.big(I:Inv X pins σ H s):sysModules<s.heap.objs.size:=by
 have h:=(I.mod.glob.keeps I.bk).lt
 exact aef (by decide) h
theorem Z5{Q:Value->Shared->Prop}(p:A.units+1<cLine)(I:Inv X pins σ H s)(g:sV H a y o)(n:RelV y u)(h:∀s',Inv X pins σ H s'->Q (.bool o.isSome) s') :
  wpAny (model X.prog X.w) A (compareOp .In u (.ref a)) Q E s:=by
 rcases g with⟨j,k,e,m,l⟩|⟨j,k,b,e,m,t,l⟩
 ·subst m
  obtain⟨z,f,vs,c,i⟩:=Dz I.hok e
  refine wpAny_in_of (U0 n) f i.mapOf ?_
  rw[<-(c.val k).gQ,<-l]
  exact h _ (I.tok _)
 ·subst m
  cases(n)
  obtain⟨z,f,xs,c,i⟩:=DG I.hok e
  refine wpAny_in_heap (aei p) (U4 I.hok t) f i ?_
  have q:=(c.val k).gQ
  rw[aem] at q
  rw[<-q,<-l]
  exact h _ (I.tok _)
theorem Hs{Q:Value->Shared->Prop}(n:A.units+1<cLine)(I:Inv X pins σ H s)(g:sV H a y o)(m:RelV y u)(h:∀s',Inv X pins σ H s'->Q (.bool (!o.isSome)) s') :
  wpAny (model X.prog X.w) A (compareOp .NotIn u (.ref a)) Q E s:=by
 rcases g with⟨i,k,e,j,l⟩|⟨i,k,b,e,j,p,l⟩
 ·subst j
  obtain⟨z,d,vs,c,f⟩:=Dz I.hok e
  refine wpAny_notIn_of (U0 m) d f.mapOf ?_
  rw[<-(c.val k).gQ,<-l]
  exact h _ (I.tok _)
 ·subst j
  cases(m)
  obtain⟨z,d,xs,c,f⟩:=DG I.hok e
  refine wpAny_notIn_heap (aei n) (U4 I.hok p) d f ?_
  have q:=(c.val k).gQ
  rw[aem] at q
  rw[<-q,<-l]
  exact h _ (I.tok _)
theorem Z6(I:Inv X pins σ H s)(g:Uj (H a))(f:SameBut a s.heap h')(e:∃q,h'.get? a=some q)(c:bZ X.prog X.w (upd H a ob) h' a ob) :
  Inv X pins σ (upd H a ob) { s with heap:=h',toks:=t' } :=
 I.write g (.inl rfl) (λb q d z=>(f.2 b d).trans z) e c
theorem Nz{h':Heap}{kvs:List (Key×V)}(z:kvs.length<=sizeLine)(c:(a==sysModules)=false)(b:KV kvs vs)(dd:h'.DictOf (vW P w) a vs) :
  bZ P w H' h' a (.dK kvs):=⟨z,c,vs,b,dd⟩
theorem zUo{Q:Unit->Shared->Prop}(Z:A.units+1<cLine)(I:Inv X pins σ H s)(g:BX H a y v H')(F:RelV y u)(J:RelV v r)(h:∀s',Inv X pins σ H' s'->Q () s') :
  wpAny (model X.prog X.w) A (setItem (.ref a) u r) Q E s:=by
 rcases g with⟨f,k,e,p,l,n⟩|⟨f,k,b,e,p,M,l,n⟩
 ·subst p n
  obtain⟨z,B,S,i,t⟩:=U3 I.hok e
  have C:S.length<=sizeLine:=by rw[<-i.length];exact z
  have D:(putK f k v).length<=sizeLine:=by have:=zGz f k v;lia
  refine wpAny_setItem_pairs (hsz:=C) (U0 F) t λL j x=>h _ ?_
  have Y:∃q,L.get? a=some q:=let⟨q,_,_,m,_⟩:=j;⟨q,m⟩
  exact Z6 I (by rw[e];exact acu) x Y (Nz D B (i.put k J) j)
 ·subst p n
  cases(show u=abp b from F)
  obtain⟨z,B,R,i,t⟩:=U5 I.hok e
  have C:R.length<=sizeLine:=by rw[<-adu i];exact z
  have D:(putK f k v).length<=sizeLine:=by have:=zGz f k v;lia
  refine wpAny_setItem_heap (hsz:=C) (aei Z) (U4 I.hok M) t λL j x=>h _ ?_
  obtain⟨q,T,W,m,P,U,O,_,N⟩:=j
  refine Z6 I (by rw[e];exact acu) x ⟨q,m⟩ ⟨D,B,_,(i.put k M J).keeps λc ys G=>?_,q,T,W,m,P,U,O,N⟩
  rw[zX (Ui G e (λz=>nomatch z))]
  exact G
end
def U6(i:Expr):Prop:=∀b c,subscripted i false b c=operate [b,c] (getItem b c)
theorem Ht{prog:Program}{w:World}{A:Around}{E:Value->Shared->Prop}{s:Shared}{env:Env}{b a:Expr}{pos:Pos}{T id:String}{Q:Value->Shared->Prop}(l:typeLookup (.type T) "__getitem__" = pure (some (.builtin id)))(k:U6 a)(h:wpAny (model prog w) A (eval b env) (λo g=>wpAny (model prog w) A (eval a env) (λi c=>c.TypeIs o T/\wpAny (model prog w) A (getItem o i) Q E c) E g) E s) :
  wpAny (model prog w) A (eval (.Subscript b a pos) env) Q E s:=by
 refine ae9 (ab1 h (λo g m=>ab1 m (λi c d=>?_) λ_ _ x=>x) λ_ _ x=>x)
 obtain⟨n,d⟩:=d
 refine aav ?_
 refine aav (ac9 n l ?_)
 have e:wpAny (model prog w) A (subscripted a false o i) (λr f=>wpAny (model prog w) A (letTemporaryGo b o r >>= λ_=>pure r) Q E f) E c:=by
  rw[k o i]
  exact wpAny_operating (ab1 d (λr f j=>aav (wpAny_letTemporaryGo (aaw j))) λ_ _ x=>x)
 first
  |exact aaw (aav e)
  |grind
  |grind
def NK(e f:TE):TE:=λσ H Q=>e σ H λy c=>f σ c λx b=>∃a o,x=.ref a/\sV b a y o/\Q (.bl o.isSome) b
def zRo(d e:TE):TE:=λσ H Q=>d σ H λy c=>e σ c λx b=>∃a o,x=.ref a/\sV b a y o/\Q (.bl (!o.isSome)) b
def DK(e f c:TE):TS:=λD σ H=>c σ H λv h=>e σ h λx i=>f σ i λy g=>∃a b,x=.ref a/\BX g a y v b/\D.nx σ b
section
variable{X:Cx}{o i e value:Expr}{pos pos' tpos:Pos}{td ty tv:TE}
theorem zZc(q:X.A.units+1<cLine)(l:PE X i ty)(m:PE X o td):PC X .In i o (NK ty td):=by
 intro b s σ H Q I h
 refine aV (l b s σ H _ I h) λiv t ⟨y,n,k,c,p⟩=>aV (m b t σ n _ k p) ?_
 rintro u s2 ⟨x,v,f,r,a,z,d,g,w⟩
 subst d
 obtain rfl:u=abp a:=r
 exact Z5 q f g c λs3 j=>⟨.bl z.isSome,v,j,rfl,w⟩
theorem zSo(q:X.A.units+1<cLine)(l:PE X i ty)(m:PE X o td):PC X .NotIn i o (zRo ty td):=by
 intro b s σ H Q I h
 refine aV (l b s σ H _ I h) λiv t ⟨y,n,k,c,p⟩=>aV (m b t σ n _ k p) ?_
 rintro u s2 ⟨x,v,f,r,a,z,d,g,w⟩
 subst d
 obtain rfl:u=abp a:=r
 exact Hs q f g c λs3 j=>⟨.bl (!z.isSome),v,j,rfl,w⟩
theorem Z7(L:X.A.units+1<cLine)(j:PE X o td)(F:PE X i ty)(f:PE X value tv)(m:swapsWith value (some (.Subscript o i pos')) pos.line X.env=pure false) :
  PS X (.Assign [.Subscript o i pos'] value pos) (DK td ty tv):=by
 intro b s σ H D I h
 refine wpAny_Assign_Subscript (aV (f b s σ H _ I h) λr M ⟨v,k,E,w,l⟩=>aV (j b M σ k _ E l) λu G ⟨x,c,d,n,p⟩=>aV (F b G σ c _ d p) ?_) m
 rintro iv s3 ⟨y,H3,C,q,a,B,t,g,J⟩
 subst t
 obtain rfl:u=abp a:=n
 exact zUo L C g q w λs4 z=>⟨σ,B,z,J⟩
end
theorem zOw(h:Heap)(a:sysModules<h.objs.size):bZ P w H (h.push { cls:=.type "dict",data:=.dict #[] }) h.objs.size (.dK []) :=
 ⟨abl _,beq_eq_false_iff_ne.mpr (ac0 (aa8 a)),[],.nil,Heap.DictOf.new h⟩
def zYp:TE:=λ_ H Q=>∀p,H p=none->Q (.ref p) (upd H p (.dK []))
section
variable{X:Cx}{pos:Pos}
theorem Z8:PE X (.Dict [] [] pos) zYp:=λpins s σ H Q I h =>
 wpAny_Dict_empty ⟨.ref s.heap.objs.size,_,I.laid (λ_ _ q=>get?_push_of_some _ q) (aaz _) (zOw s.heap I.big),rfl,h _ (I.hok.fresh (aaz _))⟩
end
structure M2(X:Cx)(o:Expr)(m:Str)(apos:Pos)(e f:Expr)(cpos:Pos):Prop where
 base:attributeBase o m X.env (eval o X.env)=eval o X.env
 few:((backTo cpos (starEach [e,f] X.env)).all (λx=>!x.1)&&(backToKw cpos (keywordEach [] X.env)).all (λx=>x.1.isSome)
  && decide (([e,f]:List Expr).length+([]:List Keyword).length+(if([]:List Keyword).isEmpty then 0 else 1)<30))=true
 line:(apos.endLine==cpos.line)=true
 trees:backTo cpos (starEach [e,f] X.env)=[(false,eval e X.env),(false,eval f X.env)]
end L2
namespace HT
open PySem PyProof.Rows
section
open PySem.SeqAt
open PySem.AutoSeq1 (wpAny_loadPart')
open PySem.MeetsSeq PySem.MeetsSeq2 PySem.MeetsSeq3
end
end HT
namespace L2
open PySem PySem.Spec PyProof.Rows
abbrev TO:=St->Hp->(Option Int->Hp->Prop)->Prop
noncomputable def PO(X:Cx)(e:Option Expr)(t:TO):Prop :=
 ∀(b:List (Addr×Obj))(s:Shared)(σ:St)(H:Hp)(Q:Option Int->Hp->Prop),Inv X b σ H s->t σ H Q ->
  wpAny (model X.prog X.w) X.A (evalPart e X.env) (λu d=>∃o c,Inv X b σ c d/\IsPart u o/\Q o c) X.xe s
def zRl:TO:=λ_ H Q=>Q none H
def Kz(t:TE):TO:=λσ H Q=>t σ H λx a=>∃i,x=.int i/\Q (some i) a
section
variable{X:Cx}{e:Expr}{te:TE}{lo hi:Option Expr}{tl th:TO}{pos p2:Pos}
theorem Hu:PO X none zRl:=by
 intro pins s σ H Q I h
 exact aaw ⟨none,H,I,.none,h⟩
theorem Hv(h:PE X e te):PO X (some e) (Kz te):=by
 intro a s σ H Q I b
 refine aV (h a s σ H _ I b) ?_
 rintro u s1 ⟨x,f,d,c,g⟩
 obtain⟨i,rfl,q⟩:=g
 obtain⟨t,rfl⟩:=c
 exact⟨some i,f,d,.int i t,q⟩
def SlR(X:Cx)(r:V->Option Int->Option Int->Hp->VK->Prop):Prop :=
 ∀(b:List (Addr×Obj))(s:Shared)(σ:St)(H:Hp)(x:V)(v f d:Value)(lo hi:Option Int)(c:Addr)(Q:VK),Inv X b σ H s->RelV x v->s.heap.IsSliceOf c f d .none->IsPart f lo->IsPart d hi->r x lo hi H Q ->
  ∃T id,typeLookup (.type T) "__getitem__" = pure (some (.builtin id))/\s.TypeIs v T/\wpAny (model X.prog X.w) X.A (getItem v (.ref c)) (EP X b σ Q) X.xe s
def tSl(r:V->Option Int->Option Int->Hp->VK->Prop)(te:TE)(tl th:TO):TE:=λσ H Q=>te σ H λx b=>tl σ b λl a=>th σ a λu c=>r x l u c Q
theorem zWj(G:SlR X r)(J:PE X e te)(D:PO X lo tl)(L:PO X hi th):PE X (.Subscript e (.Slice lo hi none p2) pos) (tSl r te tl th):=by
 intro c s σ H Q I h
 refine ae9 (aV (J c s σ H _ I h) ?_)
 rintro v k ⟨x,t,A,w,N⟩
 refine wpAny_Slice (aV (D c k σ t _ A N) λf C ⟨l,j,n,B,m⟩=>aV (L c C σ j _ n m) ?_)
 rintro g d ⟨u,i,z,o,F⟩
 refine aaw ?_
 have p:Inv X c σ i { d with heap:=d.heap.push { cls:=.type "slice",data:=.fields #[f,g,.none] } }:=z.kept λb ob q=>get?_push_of_some _ q
 obtain⟨T,id,E,y,M⟩:=G c { d with heap:=d.heap.push { cls:=.type "slice",data:=.fields #[f,g,.none] } } σ i x v f g l u d.heap.objs.size Q p w (Heap.IsSliceOf.new ..) B o F
 exact tail_any y E M (by with_unfolding_all rfl)
end
noncomputable def vp(n:Nat)(i:Int):Option Nat:=if 0<=i then(if i<n then some i.toNat else none) else if -(n:Int)<=i then some (i+n).toNat else none
noncomputable def aU{α:Type}(xs:List α)(i:Int):Option α:=(vp xs.length i).bind λj=>xs[j]?
theorem zTp(h:vp n i=some j):seqIndex? i n=some j/\j<n /\ -(n:Int)<=i/\i<n:=by
 unfold vp at h
 by_cases h0:0<=i
 ·rw[if_pos h0] at h
  by_cases h1:i<n
  ·rw[if_pos h1] at h
   have e:i.toNat=j:=abf h
   exact⟨by rw[aez h0 h1,e],by omega,by omega,h1⟩
  ·rw[if_neg h1] at h;cases h
 ·rw[if_neg h0] at h
  by_cases h1:-(n:Int)<=i
  ·rw[if_pos h1] at h
   have e:(i+n).toNat=j:=abf h
   exact⟨by rw[afg (by omega) h1,e],by omega,h1,by omega⟩
  ·rw[if_neg h1] at h;cases h
theorem Z9{α:Type}{xs:List α}{v:α}(h:aU xs i=some v):∃j,seqIndex? i xs.length=some j/\xs[j]?=some v/\j<xs.length /\ -(xs.length:Int)<=i/\i<xs.length:=by
 unfold aU at h
 cases e:vp xs.length i with
 |none=>rw[e] at h;cases h
 |some j =>
  rw[e] at h
  obtain⟨h1,h2,h3,h4⟩:=zTp e
  exact⟨j,h1,h,h2,h3,h4⟩
theorem zU1{α:Type}{xs:List α}{j:Nat}{v:α}(h:xs[j]?=some v):aU xs (j:Int)=some v:=by
 have hj:j<xs.length:=(aa0.mp h).1
 have e:vp xs.length (j:Int)=some j:=by
  unfold vp
  rw[if_pos (by omega),if_pos (by omega)];simp
 unfold aU;rw[e];exact h
theorem zO5{α:Type}(xs:List α)(v:α):aU (xs++[v]) (-1)=some v:=by
 have e:vp (xs++[v]).length (-1)=some xs.length:=by
  unfold vp
  grind
 unfold aU
 grind
def Hw(b:Expr):Prop:=∀o i,subscripted b false o i=operate [o,i] (getItem o i)
def U7(X:Cx)(r:R2):Prop :=
 ∀(d b:Expr)(c:List (Addr×Obj))(s:Shared)(σ:St)(H:Hp)(x y:V)(v u:Value)(Q:VK),Inv X c σ H s->RelV x v->RelV y u->r x y H Q ->
  subscripted b false v u=operate [v,u] (getItem v u)->wpAny (model X.prog X.w) X.A (subscriptTail d b v u) (EP X c σ Q) X.xe s
def MtR(X:Cx)(id:String)(r:V->List V->Hp->VK->Prop):Prop :=
 ∀(b:List (Addr×Obj))(s:Shared)(σ:St)(H:Hp)(x:V)(c:List V)(v:Value)(d:List Value)(Q:VK),Inv X b σ H s->RelV x v->Vals c d->r x c H Q ->
  wpAny (model X.prog X.w) X.A (call (.builtin id) (v::d)) (EP X b σ Q) X.xe s
section
variable{X:Cx}{a b:Expr}{ta tb:TE}{pos:Pos}
theorem xC(f:U7 X r)(i:PE X a ta)(m:PE X b tb)(g:Hw b):PE X (.Subscript a b pos) (jf r ta tb):=by
 intro c s σ H Q I h
 exact ae9 (G_ i m I h λv u e x y l k j d q=>f a b c e σ l x y v u Q k j d q (g _ _))
def BZ(K:Frag):R2:=λx y H Q=>∃p c i v,x=.ref p/\y=.int i/\bN K H p c/\aU c i=some v/\Q v H
def DN(K:Frag):R2:=λx y H Q=>∃p c i v,x=.ref p/\y=.int i/\ni K H p c/\aU c i=some v/\Q v H
theorem zTo:U7 X (BZ X.K):=by
 intro value slice pins s σ H x y v u Q I rx ry h hs
 obtain⟨p,xs,i,z,rfl,rfl,hq,he,q⟩:=h
 cases rx
 obtain⟨t,rfl⟩:=ry
 obtain⟨its,r,pl,hz⟩:=I.list hq
 obtain⟨j,h1,h2,h3,h4,h5⟩:=Z9 he
 obtain⟨w,ew,Z_⟩:=r.get h2
 have hl:=r.length
 have hn:=Nt
 have fin:EP X pins σ Q w s:=⟨z,H,I,Z_,q⟩
 by_cases h0:0<=i
 ·have hj:i.toNat=j:=by
   rw[aez h0 h5] at h1
   exact abf h1
  exact item_listR pl.isList h0 (by omega) (by rw[hj];simpa using ew) fin hs
 ·have hj:(i+(its.toArray.size:Int)).toNat=j:=by
   rw[afg (by omega) h4] at h1
   rw[size_toArray,<-hl]
   exact abf h1
  exact subscriptTail_builtinR (x:=w) pl.isList.typeIs slot_list_getitem.lookup
   (wpAny_getItem_list_neg (Q:=λr s'=>r=w/\EP X pins σ Q r s') pl.isList (by omega) (by rw[size_toArray]<;>omega) (by omega) (by rw[hj];simpa using ew) ⟨rfl,fin⟩) hs
theorem NP:U7 X (DN X.K):=by
 intro value slice c s σ H x y v u Q I o k h m
 obtain⟨p,xs,i,z,rfl,rfl,l,n,q⟩:=h
 cases o
 obtain⟨t,rfl⟩:=k
 obtain⟨its,r,f,hz⟩:=I.tuple l
 obtain⟨j,h1,g,h3,h4,h5⟩:=Z9 n
 obtain⟨w,ew,e⟩:=r.get g
 have hl:=r.length
 have hn:=Nt
 have d:EP X c σ Q w s:=⟨z,H,I,e,q⟩
 exact subscriptTail_builtinR f.typeIs slot_tuple_getitem.lookup
  (getItem_tuple (j:=j) f (by lia) (by lia) (by grind) (by grind) ⟨rfl,d⟩) m
theorem zQc(c:List Value)(n j:Nat)(u:Value):ac7 (·.setIfInBounds j u) { cls:=.type "list",data:=.seq c.toArray n }={ cls:=.type "list",data:=.seq (c.set j u).toArray n }:=by
 simp[ac7]
theorem Inv.lst(I:Inv X pins σ H s)(h:H p=some (.lst xs)) :
  ∃(its:List Value)(n:Nat),Vals xs its/\s.heap.get? p=some { cls:=.type "list",data:=.seq its.toArray n }/\xs.length<=sizeLine:=by
 obtain⟨z,its,n,r,e⟩:=I.hok p _ h
 exact⟨its,n,r,e,z⟩
theorem Inv.NQ{d its':List Value}(I:Inv X c σ H s)(h:H p=some (.lst xs))(j:s.heap.get? p=some { cls:=.type "list",data:=.seq d.toArray n })(g:f { cls:=.type "list",data:=.seq d.toArray n }={ cls:=.type "list",data:=.seq its'.toArray n' })(r:Vals ys its')(hz:ys.length<=sizeLine)(t:Nat) :
  Inv X c σ (upd H p (.lst ys)) { s with heap:=s.heap.update p f,toks:=t }:=by
 have e:(s.heap.update p f).get? p=some { cls:=.type "list",data:=.seq its'.toArray n' }:=by
  rw[get?_update_self f j (by rw[g]<;>rfl),g]
 refine I.write (by rw[h];trivial) (.inl rfl) (λb u i q=>(get?_update_other _ _ (ac0 i)).trans q) ⟨_,e⟩ ?_
 exact⟨hz,its',n',r,e⟩
def DP:V->V->V->Hp->(Hp->Prop)->Prop:=λo i v H Q=>∃p c k j,o=.ref p/\i=.int k/\H p=some (.lst c)/\vp c.length k=some j/\Q (upd H p (.lst (c.set j v)))
theorem U8:Nb X DP:=by
 intro pins s σ H o i v ov iv u Q I ro ri rv h
 obtain⟨p,xs,k,j,rfl,rfl,hp,hj,q⟩:=h
 cases ro
 obtain⟨t,rfl⟩:=ri
 obtain⟨its,n,r,ho,hz⟩:=I.lst hp
 obtain⟨h1,h2,h3,h4⟩:=zTp hj
 have hl:=r.length
 have hn:=Nt
 have I':Inv X pins σ (upd H p (.lst (xs.set j v))) { s with heap:=s.heap.update p (ac7 (·.setIfInBounds j u)) } :=
  I.NQ hp ho (zQc its n j u) (r.set rv j) (by rw[length_set];exact hz) s.toks
 by_cases h0:0<=k
 ·have hk:k.toNat=j:=by
   rw[aez h0 h4] at h1
   exact abf h1
  exact PySem.W.ki_setAt ho h0 (by omega) (by rw[size_toArray,<-hl];exact h4) (by rw[hk];exact⟨_,I',q⟩)
 ·have hk:(k+(its.toArray.size:Int)).toNat=j:=by
   rw[afg (by omega) h3] at h1
   rw[size_toArray,<-hl]
   exact abf h1
  exact PySem.W.ki_setBack ho (by omega) (by rw[size_toArray,<-hl];exact h3) (by omega) (by rw[hk];exact⟨_,I',q⟩)
def Gs:V->Bool
 |.non=>true
 |.bl _=>true
 |.int _=>true
 |.str _=>true
 |_=>false
def Hx:V->V->Bool
 |.non,.non=>true
 |.bl a,.bl b=>a==b
 |.bl a,.int b=>(if a then 1 else 0)==b
 |.int a,.bl b=>a==(if b then 1 else 0)
 |.int a,.int b=>a==b
 |.str a,.str b=>a==b
 |_,_=>false
theorem NT(ry:RelV y u)(rx:RelV x v)(fy:Gs y=true)(fx:Gs x=true):SeqAt.EqAt A s u v (Hx y x):=by
 cases y with
 |non =>
  cases ry
  cases x with
  |non=>cases rx;exact SeqAt.EqAt.same _
  |bl b=>cases rx;exact SeqAt.EqAt.none_bool b
  |int b=>obtain⟨t,rfl⟩:=rx;exact SeqAt.EqAt.none_int b t
  |str b=>obtain⟨t,rfl⟩:=rx;exact SeqAt.EqAt.none_str b t
  |_=>exact absurd (show false=true from fx) aay
 |bl a =>
  cases ry
  cases x with
  |non=>cases rx;exact SeqAt.EqAt.bool_none a
  |bl b=>cases rx;exact SeqAt.EqAt.bool_bool a b
  |int b=>obtain⟨t,rfl⟩:=rx;exact SeqAt.EqAt.bool_int a b t
  |str b=>obtain⟨t,rfl⟩:=rx;exact SeqAt.EqAt.bool_str a b t
  |_=>exact absurd (show false=true from fx) aay
 |int a =>
  obtain⟨t',rfl⟩:=ry
  cases x with
  |non=>cases rx;exact SeqAt.EqAt.int_none a t'
  |bl b=>cases rx;exact SeqAt.EqAt.int_bool a t' b
  |int b=>obtain⟨t,rfl⟩:=rx;exact SeqAt.EqAt.int_int a t' b t
  |str b=>obtain⟨t,rfl⟩:=rx;exact SeqAt.EqAt.int_str a t' b t
  |_=>exact absurd (show false=true from fx) aay
 |str a =>
  obtain⟨t',rfl⟩:=ry
  cases x with
  |non=>cases rx;exact SeqAt.EqAt.str_none a t'
  |bl b=>cases rx;exact SeqAt.EqAt.str_bool a t' b
  |int b=>obtain⟨t,rfl⟩:=rx;exact SeqAt.EqAt.str_int a t' b t
  |str b=>obtain⟨t,rfl⟩:=rx;exact SeqAt.EqAt.str_str a t' b t
  |_=>exact absurd (show false=true from fx) aay
 |_=>exact absurd (show false=true from fy) aay
def Ah(x:V)(u:Value):Bool:=match u with
 |.none=>Hx .non x
 |.bool b=>Hx (.bl b) x
 |.int i _=>Hx (.int i) x
 |.str z _=>Hx (.str z) x
 |_=>false
theorem zZy(r:RelV y u)(f:Gs y=true):Ah x u=Hx y x:=by
 cases y with
 |non=>cases r;rfl
 |bl b=>cases r;rfl
 |int i=>obtain⟨t,rfl⟩:=r;rfl
 |str z=>obtain⟨t,rfl⟩:=r;rfl
 |_=>exact absurd (f) aay
theorem U9:∀{xs:List V}{us:List Value},Vals xs us->xs.all Gs=true->us.any (Ah x)=xs.any λy=>Hx y x
 |_,_,.nil,_=>rfl
 |y::xs,u::us,.cons r t,f=>by
  rw[all_cons,aco] at f
  rw[any_cons,any_cons,zZy r f.1,U9 t f.2]
theorem U_(d:RelV x v)(e:Gs x=true):∀{xs:List V}{us:List Value},Vals xs us->xs.all Gs=true->∀u∈us,SeqAt.EqAt A s u v (Ah x u)
 |_,_,.nil,_=>λu c=>by cases c
 |y::xs,u::us,.cons r t,f=>λg c=>by
  rw[all_cons,aco] at f
  rcases mem_cons.mp c with rfl|c
  ·rw[zZy r f.1];exact NT r d f.1 e
  ·exact U_ d e t f.2 g c
def inV(x:V)(xs:List V):Bool:=xs.any λy=>Hx y x
def NZ(K:Frag)(d:Bool):R2:=λx y H Q=>∃p c,y=.ref p/\(bN K H p c\/ni K H p c)/\Gs x=true/\c.all Gs=true/\Q (.bl (if d then !inV x c else inV x c)) H
theorem zSt:lE X (compareOp .In) (NZ X.K false):=by
 intro pins s σ H x y v u Q I j k h
 obtain⟨p,xs,rfl,e,i,f,q⟩:=h
 cases k
 rcases e with e|e
 ·obtain⟨c,r,g,l⟩:=I.list e
  refine SeqAt.in_listAt (Ah x) g.isList (λw m=>U_ j i r f w (by grind)) ⟨.bl _,H,I,rfl,?_⟩
  rw[show c.toArray.any (Ah x)=c.any (Ah x) by simp,U9 r f]
  exact q
 ·obtain⟨c,r,g,l⟩:=I.tuple e
  refine SeqAt.in_tupleAt (Ah x) g (λw m=>U_ j i r f w (by simp_all)) ⟨.bl _,H,I,rfl,?_⟩
  rw[show c.toArray.any (Ah x)=c.any (Ah x) by simp,U9 r f]
  exact q
theorem zKy:lE X (compareOp .NotIn) (NZ X.K true):=by
 intro pins s σ H x y v u Q I j k h
 obtain⟨p,xs,rfl,e,i,f,q⟩:=h
 cases k
 rcases e with e|e
 ·obtain⟨c,r,g,l⟩:=I.list e
  refine SeqAt.notIn_listAt (Ah x) g.isList (λw m=>U_ j i r f w (by grind)) ⟨.bl _,H,I,rfl,?_⟩
  rw[show c.toArray.any (Ah x)=c.any (Ah x) by simp,U9 r f]
  exact q
 ·obtain⟨c,r,g,l⟩:=I.tuple e
  refine SeqAt.notIn_tupleAt (Ah x) g (λw m=>U_ j i r f w (by grind)) ⟨.bl _,H,I,rfl,?_⟩
  rw[show c.toArray.any (Ah x)=c.any (Ah x) by simp,U9 r f]
  exact q
theorem zL3:rB X (.builtin "len") (λxs H Q=>∃p ys,xs=[.ref p]/\(bN X.K H p ys\/ni X.K H p ys)/\Q (.int ys.length) H):=by
 intro pins s σ H xs us Q I r h
 obtain⟨p,ys,rfl,d,q⟩:=h
 obtain⟨u,rfl,j⟩:=Dw r
 cases j
 have hn:=Nt
 rcases d with d|d
 ·obtain⟨g,e,f,i⟩:=I.list d
  have c:=e.length
  exact Calls.call_len_list f.isList (by grind) ⟨.int ys.length,H,I.tok _,⟨s.toks+1,by grind⟩,q⟩
 ·obtain⟨g,e,f,i⟩:=I.tuple d
  have c:=e.length
  exact len_tuple f (by grind) ⟨.int ys.length,H,I.tok _,⟨s.toks+1,by grind⟩,q⟩
theorem zL2:rB X (.type "list") (λxs H Q=>∃p ys,xs=[.ref p]/\(bN X.K H p ys\/ni X.K H p ys)/\∀l,H l=none->Q (.ref l) (upd H l (.lst ys))):=by
 intro v s σ H xs us Q I r h
 obtain⟨p,ys,rfl,t,q⟩:=h
 obtain⟨u,rfl,C⟩:=Dw r
 cases C
 have j:∀(c:List Value),Vals ys c->ys.length<=sizeLine->∀(d:Heap)(f:Nat),(∀b B,s.heap.get? b=some B->d.get? b=some B) ->
   d.get? s.heap.objs.size=some { cls:=.type "list",dict:=none,data:=.seq c.toArray f,slots:=#[] }->EP X v σ Q (.ref s.heap.objs.size) { s with heap:=d }:=λc g k d f m e =>
  ⟨.ref s.heap.objs.size,_,I.laid m (aaz _) (show bZ X.prog X.w _ d _ (.lst ys) from⟨k,c,f,g,e⟩),rfl,q _ (I.hok.fresh (aaz _))⟩
 rcases t with t|t
 ·obtain⟨c,g,y,k⟩:=I.list t
  have i:=g.length
  obtain⟨o,z,x,n,A⟩:=y.isList
  exact call_list_seq p (.inl rfl) z x A (λd f m e=>j c g k d f m e) (by grind)
 ·obtain⟨c,g,y,k⟩:=I.tuple t
  have i:=g.length
  obtain⟨o,z,x,n,A⟩:=y
  exact call_list_seq p (.inr rfl) z x A (λd f m e=>j c g k d f m e) (by grind)
theorem zJ1:rB X (.type "tuple") (λxs H Q=>∃p ys,xs=[.ref p]/\((bN X.K H p ys/\∀l,H l=none->Q (.ref l) (upd H l (.tup ys)))\/(ni X.K H p ys/\Q (.ref p) H))):=by
 intro pins s σ H xs us Q I r h
 obtain⟨p,ys,rfl,h⟩:=h
 obtain⟨u,rfl,n⟩:=Dw r
 cases n
 rcases h with⟨f,q⟩|⟨f,q⟩
 ·obtain⟨c,g,d,i⟩:=I.list f
  have hlen:=g.length
  refine call_tuple_list d.isList (λt m=>?_) (by grind)
  have j:=I.kept (t':=s.toks) m
  have k :=
   j.laid (t':=s.toks) (λb o e=>get?_push_of_some _ e) (aaz _) (show bZ X.prog X.w _ _ _ (.tup ys) from⟨i,c,g,IsTup.new _ _⟩)
  exact⟨.ref t.objs.size,_,k,rfl,q _ (j.hok.fresh (aaz _))⟩
 ·obtain⟨c,g,d,i⟩:=I.tuple f
  exact call_tuple_same d ⟨.ref p,H,I,rfl,q⟩
def tyV(K:Frag)(T:String)(x:V)(H:Hp):Prop:=match x with
 |.str _=>T = "str"
 |.int _=>T = "int"
 |.ref p=>(T = "list" /\ ∃d,bN K H p d)\/(T = "tuple" /\ ∃o,K.lookup p=some o/\o.cls=.type "tuple" /\ o.dict=none) \/
   (T = "dict" /\ ((∃c,H p=some (.dK c))\/∃c,H p=some (.dT c)))\/(T = "set" /\ ∃S n,H p=some (.set S n))
 |_=>False
theorem zYk(I:Inv X pins σ H s)(r:RelV x v)(ty:tyV X.K T x H) :
  s.TypeIs v T/\∀a,v=.ref a->∃ob,s.heap.get? a=some ob/\ob.dict=none:=by
 cases x with
 |str z =>
  obtain⟨t,rfl⟩:=r
  cases(show T = "str" from ty)
  exact⟨typeIs_str s z t,λ_ e=>nomatch e⟩
 |int i =>
  obtain⟨t,rfl⟩:=r
  cases(show T = "int" from ty)
  exact⟨typeIs_int s i t,λ_ e=>nomatch e⟩
 |ref p =>
  cases r
  rcases ty with⟨rfl,xs,hq⟩|⟨rfl,o,hk,hc,hd⟩|⟨rfl,hk⟩|⟨rfl,S,n,hk⟩
  ·obtain⟨its,_,pl,_⟩:=I.list hq
   refine⟨pl.isList.typeIs,λa e=>?_⟩
   cases e
   obtain⟨o,n,e,c,hd,_⟩:=pl
   exact⟨o,e,hd⟩
  ·refine⟨⟨o,I.lX p o hk,hc⟩,λa e=>?_⟩
   cases e
   exact⟨o,I.lX _ o hk,hd⟩
  ·have z:∃o,s.heap.get? p=some o/\o.ExactDict:=by
    rcases hk with⟨kvs,hk⟩|⟨kvs,hk⟩
    ·obtain⟨_,_,_,_,o,_,_,e,ex,_⟩:=I.hok p _ hk
     exact⟨o,e,ex⟩
    ·obtain⟨_,_,_,_,o,_,_,e,ex,_⟩:=I.hok p _ hk
     exact⟨o,e,ex⟩
   obtain⟨o,e,ex⟩:=z
   refine⟨⟨o,e,ex.1⟩,λa e2=>?_⟩
   cases e2
   exact⟨o,e,ex.2.1⟩
  ·obtain⟨o,_,_,_,e,ex,_⟩:=I.hok p _ hk
   refine⟨⟨o,e,ex.1⟩,λa e2=>?_⟩
   cases e2
   exact⟨o,e,ex.2.1⟩
 |_=>exact abz ty
def N5(K:Frag)(T:String)(r:V->List V->Hp->VK->Prop)(d:TE):TE:=λσ H Q=>d σ H λx c=>tyV K T x c/\r x [] c Q
def N6(K:Frag)(T:String)(r:V->List V->Hp->VK->Prop)(e:TE)(t:TA):TE:=λσ H Q=>e σ H λx c=>tyV K T x c/\t σ c λd f=>r x d f Q
variable{o e:Expr}{es:List Expr}{to:TE}{t:TA}{name:Str}{apos cpos:Pos}{T id:String}{r:V->List V->Hp->VK->Prop}
theorem N7(q:PlainAttrs T)(g:Slot T name id)(i:typeOf (.builtin id)=pure (.type "method_descriptor"))(m:MtR X id r)(u:PE X o to)(f:attributeBase o name X.env (eval o X.env)=eval o X.env:=by rfl)(d:(apos.endLine==cpos.line)=true:=by rfl):PE X (.Call (.Attribute o name apos) [] [] cpos) (N5 X.K T r to):=by
 intro c s σ H Q I h
 refine wpAny_Call_method0_late f d (aV (u c s σ H _ I h) ?_)
 rintro v n ⟨x,y,k,j,p,z⟩
 obtain⟨w,l⟩:=zYk k j p
 exact⟨T,id,q,g,i,w,l,ad0 rfl (PySem.evalArgs_none (m c n σ y x [] v [] Q k j .nil z))⟩
theorem KC(pa:PlainAttrs T)(slot:Slot T name id)(hty:typeOf (.builtin id)=pure (.type "method_descriptor"))(hm:MtR X id r)(ho:PE X o to)(ha:PA X (e::es) t)(hbase:attributeBase o name X.env (eval o X.env)=eval o X.env:=by rfl)(hfew:((backTo cpos (starEach (e::es) X.env)).all (λx=>!x.1)&&(backToKw cpos (keywordEach [] X.env)).all (λx=>x.1.isSome)
   && decide ((e::es).length+([]:List Keyword).length+(if([]:List Keyword).isEmpty then 0 else 1)<30))=true:=by rfl)(hline:(apos.endLine==cpos.line)=true:=by rfl)(hs:starEach (e::es) X.env=(false,eval e X.env)::starEach es X.env:=by rfl)(hplain:(backTo cpos (starEach es X.env)).any (·.1)=false:=by rfl) :
  PE X (.Call (.Attribute o name apos) (e::es) [] cpos) (N6 X.K T r to t):=by
 intro pins s σ H Q I h
 refine wpAny_Call_method_late hbase hfew hline rfl (aV (ho pins s σ H _ I h) λv s1 ⟨x,H1,I1,r1,ty,q1⟩=>?_)
 obtain⟨h1,h2⟩:=zYk I1 r1 ty
 refine⟨T,id,pa,slot,hty,h1,h2,?_⟩
 have hA:=ha cpos pins s1 σ H1 _ I1 q1
 rw[hs] at hA ⊢
 refine ad0 (by show(false||(backTo cpos (starEach es X.env)).any (·.1))=false;rw[hplain]<;>rfl) (Calls.evalArgs_plain ?_)
 exact aV hA λus s2 ⟨vs,H2,I2,r2,q2⟩=>hm pins s2 σ H2 x vs v us Q I2 r1 r2 q2
end
def Va(X:Cx)(id:String)(r:V->List V->Hp->VK->Prop):Prop :=
 ∀(a:List (Addr×Obj))(s:Shared)(σ:St)(H:Hp)(x:V)(b:List V)(v:Value)(c:List Value)(Q:VK),Inv X a σ H s->RelV x v->Vals b c->r x b H Q ->
  wpAny (model X.prog X.w) X.A (call (.builtin id) (v::c)) (EP X a σ Q) X.xe s
theorem Vals.one{x:V}{us:List Value}(h:Vals [x] us):∃u,us=[u]/\RelV x u:=by
 cases h with|cons r h=>cases h;exact⟨_,rfl,r⟩
theorem Vals.two{x y:V}{us:List Value}(h:Vals [x,y] us):∃u v,us=[u,v]/\RelV x u/\RelV y v:=by
 cases h with|cons r h=>cases h with|cons q h=>cases h;exact⟨_,_,rfl,r,q⟩
theorem Vals.zero:∀{us:List Value},Vals [] us->us=[]
 |_,.nil=>rfl
theorem Vals.eraseIdx:∀{xs:List V}{us:List Value}(i:Nat),Vals xs us->Vals (xs.eraseIdx i) (us.eraseIdx i)
 |_,_,_,.nil=>.nil
 |_,_,0,.cons _ t=>t
 |_,_,i+1,.cons r t=>.cons r (Vals.eraseIdx i t)
theorem Vals.reverse(h:Vals xs us):Vals xs.reverse us.reverse:=by
 induction h with
 |nil=>exact .nil
 |cons r t ih=>rw[reverse_cons,reverse_cons];exact Vals.append ih (.cons r .nil)
section
variable{X:Cx}{pins:List (Addr×Obj)}{σ:St}{H:Hp}{s:Shared}{l b:Addr}{xs ys zs:List V}
theorem Inv.N8{a its':List Value}{f:Array Value->Array Value}(I:Inv X pins σ H s)(i:H l=some (.lst xs))(e:s.heap.get? l=some { cls:=.type "list",data:=.seq a.toArray n })(g:f a.toArray=its'.toArray)(d:Vals ys its')(hz:ys.length<=sizeLine) :
  Inv X pins σ (upd H l (.lst ys)) { s with heap:=s.heap.update l (ac7 f),toks:=t' }:=by
 have q:=PySem.IsL.update e f
 rw[g] at q
 refine I.write (by rw[i];exact trivial) (.inl rfl) (λb' u c h=>(get?_update_other s.heap (ac7 f) (ac0 c)).trans h) ⟨_,q⟩ ?_
 exact⟨hz,its',_,d,q⟩
theorem Inv.aac(I:Inv X pins σ H s)(c:Vals ys a)(hz:ys.length<=sizeLine) :
  Inv X pins σ (upd H s.heap.objs.size (.lst ys)) { s with heap:=s.heap.push { cls:=.type "list",data:=.seq a.toArray },toks:=t' } :=
 I.laid (λ_ _ q=>get?_push_of_some _ q) (aaz _) ⟨hz,a,0,c,get?_push_size _ rfl⟩
theorem Inv.fresh(I:Inv X pins σ H s):H s.heap.objs.size=none:=I.hok.fresh (aaz _)
theorem Inv.B_(I:Inv X pins σ H s)(c:H l=some (.lst xs)):xs.length<=sizeLine/\∃(a:List Value)(n:Nat),Vals xs a/\xs.length=a.length/\s.heap.get? l=some { cls:=.type "list",data:=.seq a.toArray n }:=by
 obtain⟨z,a,n,r,e⟩:=I.hok l _ c
 exact⟨z,a,n,r,r.length,e⟩
theorem zW1(h:n<=sizeLine):adq n=false:=by
 unfold adq
 grind
end
section
variable{X:Cx}
def X7:V->List V->Hp->VK->Prop:=λx b H Q=>∃l a y,x=.ref l/\b=[y]/\H l=some (.lst a)/\a.length<sizeLine/\Q .non (upd H l (.lst (a++[y])))
theorem xA:Va X "list.append" X7:=by
 intro pins s σ H x vs v us Q I c f h
 obtain⟨l,xs,y,rfl,rfl,b,hz,q⟩:=h
 cases c
 obtain⟨u,rfl,d⟩:=f.one
 obtain⟨z,a,n,r,hl,e⟩:=I.B_ b
 refine afa F.slot_list_append ⟨_,e,rfl⟩ F.entry_list_append (F.args_list_append_2 _ _) (PySem.list_append l a.toArray n u (by grind)) ⟨e,?_⟩
 refine⟨.non,_,I.N8 b e (by simp) (r.append (.cons d .nil)) ?_,rfl,q⟩
 grind
def zMm:V->List V->Hp->VK->Prop:=λx d H Q=>∃l b c a,x=.ref l/\d=[.ref b]/\H l=some (.lst c)/\H b=some (.lst a)/\c.length+a.length<=sizeLine/\Q .non (upd H l (.lst (c++a)))
theorem zLh:Va X "list.extend" zMm:=by
 intro pins s σ H x vs v us Q I t o h
 obtain⟨l,b,xs,zs,rfl,rfl,g,j,hz,q⟩:=h
 cases t
 obtain⟨u,rfl,k⟩:=o.one
 cases k
 obtain⟨z,c,n,r,hl,e⟩:=I.B_ g
 obtain⟨z2,a,i,p,hl2,m⟩:=I.B_ j
 have f:c.toArray.size+a.toArray.size<=sizeLine:=by grind
 have d:¬(!c.toArray.isEmpty&&adq (c.toArray.size+a.toArray.size))=true:=by
  rw[zW1 f]
  grind
 refine afa F.slot_list_extend ⟨_,e,rfl⟩ F.entry_list_extend (F.args_list_extend_2 _ _)
  (AutoSeq1.list_extend_list_list_0 l c.toArray n b a.toArray i d (by grind) (by lia)) ⟨e,m,?_⟩
 refine⟨.non,_,I.N8 g e (by simp) (r.append p) ?_,rfl,q⟩
 grind
def zN6:V->List V->Hp->VK->Prop:=λx b H Q=>∃l a,x=.ref l/\b=[]/\H l=some (.lst a)/\Q .non (upd H l (.lst a.reverse))
theorem zIg:Va X "list.reverse" zN6:=by
 intro pins s σ H x vs v us Q I d f h
 obtain⟨l,xs,rfl,rfl,c,q⟩:=h
 cases d
 have b:=f.zero
 subst b
 obtain⟨z,a,n,r,hl,e⟩:=I.B_ c
 refine afa F.slot_list_reverse ⟨_,e,rfl⟩ F.entry_list_reverse (F.args_list_reverse_1 _) (AutoSeq1.list_reverse_list_0 l a.toArray n (by grind)) ⟨e,?_⟩
 refine⟨.non,_,I.N8 c e (by simp) r.reverse ?_,rfl,q⟩
 grind
def Vb:R2:=λx y H Q=>∃l b c a,x=.ref l/\y=.ref b/\H l=some (.lst c)/\H b=some (.lst a)/\c.length+a.length<=sizeLine/\∀p,H p=none->Q (.ref p) (upd H p (.lst (c++a)))
theorem N_:lE X (binaryOp .Add) Vb:=by
 intro pins s σ H x y v u Q I m d h
 obtain⟨l,b,xs,zs,rfl,rfl,f,j,hz,q⟩:=h
 cases m
 cases d
 obtain⟨z,c,n,r,hl,e⟩:=I.B_ f
 obtain⟨z2,a,n2,k,hl2,i⟩:=I.B_ j
 refine PySem.P.add_list e i ?_ (by grind)
 have g:c.toArray++a.toArray=(c++a).toArray:=by simp
 rw[g]
 exact⟨.ref _,_,I.aac (r.append k) (by grind),rfl,q _ I.fresh⟩
end
end L2
namespace Att
open PySem PySem.W PySem.Calls PyProof.Rows
theorem zG4:∀(ns:LI)(vs:List Value),WellAll P h vs (ns.map WData.int)->IntsAre vs ns:=by
 intro ns
 induction ns with
 |nil =>
  intro vs w
  cases w
  exact .nil
 |cons n ns ih =>
  intro vs w
  cases w with
  |cons a b =>
   cases a
   exact .cons _ _ (ih _ b)
theorem zR1{l:OpenLaw}(hn:l.most=some n)(c:l.row.toRowW.claim.pre b=true)(j:WellAll P h g b) :
  ∃a vs ns,g=[abp a]/\b=[WData.list (ns.map WData.int)]/\h.get? a=some { cls:=.type "list",data:=.seq vs.toArray }/\IntsAre vs ns/\ns.length<=n:=by
 have i:=(pre_splitW c).1
 have m:l.pre.holds [] { args:=b }=true:=(pre_splitW c).2
 obtain⟨d,r,rfl,p,t⟩:=hasAllW_cons i
 obtain rfl:=hasAllW_nil t
 obtain⟨xs,rfl,s⟩:=hasW_list p
 obtain⟨ns,rfl⟩:=items_int s
 have f:ns.length<=n:=by
  unfold OpenLaw.pre at m
  have k:(WTm.not (.lt (.lit (.int (n:Int))) (.len (.arg 0)))).holds [] { args:=[.list (ns.map .int)] }=true:=by
   have k:=(holds_andW m).1
   grind
  have h5:=condW_of k (w_not (w_lt w_lit (w_len_list (w_arg rfl))))
  grind
 cases j with
 |cons q u =>
  cases u
  cases q with
  |list o e=>exact⟨_,_,ns,rfl,rfl,o,zG4 ns _ e,f⟩
theorem zSk(l:OpenLaw)(a:List WData):l.row.toRowW.claim.post a (.bool true) a=true :=
 postW_of
  (show WShape.has [] (.bool true) .bool=true by first|rfl|decide|grind)
  (w_eq_bool (w_res rfl) w_lit) rfl
theorem vq{l:OpenLaw}{B:World->Heap->Prop}{d:DefRec}(P:l.most=some n)(v:d.params.defaults=[])(call:∀(w:World) (x b:Shared) (mg t:Str->Option Value) (h:Addr) (o:Obj) (z m c:Value) (a:Addr) (vs:List Value) (ns:LI),
   Ground q e [] L w x mg t b.heap->B w b.heap ->
   b.heap.get? h=some o->o.data=.func (docDef d.name d.params d.body d.scope z m c)->b.heap.CodeRec m d.name->mg d.name=some (.ref h) ->
   b.heap.get? a=some { cls:=.type "list",data:=.seq vs.toArray }->IntsAre vs ns->ns.length<=n->b.gens=#[] ->
   codeAny (model l.prog w) callerA (.call (.ref h) ⟨[.ref a],[]⟩) (λr s'=>r=.ok (.ret (.bool true))/\OldK b.heap s'.heap/\s'.os=b.os/\AllBare s'.gens) b) :
  WalkO q e L B l.row.toRowW d [] (λf vs=>PySem.call f vs):=by
 intro w x b mg t G Y h o z m c N E C I u A p H args vals as j hlay hrd y hlo
 obtain rfl:N=.none:=Dflts.none A v
 obtain rfl:E=.none:=Dflts.noKw A
 obtain⟨a,vs,ns,rfl,rfl,k,g,i⟩:=zR1 P j y
 refine enter_call (adl (call w x b mg t h o z m c a vs ns G Y C (fd_plain I) u p k g i H) λr s' O=>?_)
 obtain⟨rfl,J,F,D⟩:=O
 exact⟨.inl ⟨.bool true,.bool true,[],rfl,λ_=>rfl,.bool true,zSk l _,λ_=>⟨Pairwise.nil,λ_ M=>(nomatch M)⟩⟩,J,F,D⟩
end Att
namespace L2
open PySem PySem.Spec PyProof.Rows
theorem zKc:∀{vs:List Value}{ns:LI},IntsAre vs ns->Vals (ns.map V.int) vs
 |_,_,.nil=>.nil
 |_,_,.cons n t h=>.cons ⟨t,rfl⟩ (zKc h)
def Only(H:Hp):Prop:=∀b,H b=none\/∃o a,H b=some (.zx o (.lst a))
theorem zXe{K:Frag}{c:Shared}{vs:List Value}(X:K.In c.heap)(D:c.heap.Ns abm mg)(g:c.heap.Ns builtinsNs Y)(L:∀x:Str,x ≠ "__name__"->Y x=bootBuiltins x)(t:c.heap.NoLimit)(hg:c.gens=#[])(J:c.heap.get? a=some { cls:=.type "list",data:=.seq vs.toArray })(Z:IntsAre vs ns)(hl:ns.length<=sizeLine)(hr:cI k callerA)(F:∀base:Heap,K.In base->base.Ns abm mg->au P w K mg base CX k T fd [x] sp)(l:∀(s:Shared) (u:Value),BindsTo s fd ⟨[u],[]⟩ [(x,u)])(N:∀H:Hp,Only H->bN K H a (ns.map V.int)->sp [.ref a] H (λv _=>v=.bl true) λ_ _ _=>False)(M:∀H e s',CX [] H c (λ_ _ _=>False) e s'->False) :
  codeAny (model P w) callerA (.call (.ref T) ⟨[.ref a],[]⟩) (λr s'=>r=.ok (.ret (.bool true))/\OldK c.heap s'.heap/\s'.os=c.os/\AllBare s'.gens) c:=by
 have U:=zKc Z
 have B:=Z.length
 have j:∀H:Hp,Only H->bN K H a (ns.map V.int)->jk P w H c.heap->(∀b,H b≠none->b=a)->(H a≠none->K.lookup a=none) ->
   codeAny (model P w) callerA (.call (.ref T) ⟨[.ref a],[]⟩) (λr s'=>r=.ok (.ret (.bool true))/\OldK c.heap s'.heap/\s'.os=c.os/\AllBare s'.gens) c:=by
  intro H hO hS C S hK
  have f:∀{b:Addr}{o:Obj},c.heap.get? b=some o->H b=none->(sG c.heap H).get? b=some o:=λe n=>zXj e n
  have Q:∀{b:Addr}{o:Obj}{y:Array DictEntry}{A:Nat},c.heap.get? b=some o->o.data=.dict y A->H b=none:=λ{b o y A} e d=>by
   cases q:H b with
   |none=>rfl
   |some u =>
    have R:b=a:=S b (by rw[q];simp)
    subst R
    rw[J] at e;cases e
    have d':Data.seq vs.toArray _=Data.dict y A:=d
    cases d'
  have i:∀{b:Addr}{m:Str->Option Value},c.heap.Ns b m->(sG c.heap H).Ns b m:=λ{b m} ⟨o,y,A,e,d,r⟩=>⟨o,y,A,f e (Q e d),d,r⟩
  have p:K.In (sG c.heap H):=λb o e=>f (X b o e) (by
   cases q:H b with
   |none=>rfl
   |some u =>
    have R:b=a:=S b (by rw[q];simp)
    subst R
    rw[hK (by rw[q];simp)] at e;cases e)
  have hM:Mod K mg (sG c.heap H):=⟨p,i D,⟨Y,i g,L⟩,let⟨mc,h1,h2⟩:=t;⟨mc,i h1,h2⟩⟩
  have e0:Af P w K mg (sG c.heap H) callerA [] c H:=⟨rfl,hM,λb o e=>GQ e,Nat.le_of_eq (zTx _ _),trivial,λb g=>absurd (show b∈([]:List Addr) from g) (by simp),C,.of_eq hg⟩
  refine adl ((F _ p (i D)).run callerA [] c H ⟨[.ref a],[]⟩ [.ref a] [.ref a] _ _ hr e0 (l c (.ref a)) (.cons rfl .nil) (N H hO hS)) λr s' h=>?_
  cases r with
  |error e=>exact(M H e s' h).elim
  |ok fl =>
   cases fl with
   |next=>exact abz h
   |brk=>exact abz h
   |cont=>exact abz h
   |ret u =>
    obtain⟨v,H',os,G,un,E,r',q⟩:=h
    have q':v=.bl true:=q
    subst q'
    obtain rfl:u=Value.bool true:=r'
    refine⟨rfl,OldK.of_keep λb o e=>?_,os,G⟩
    cases q:H b with
    |none=>exact un.keep b o e q (by intro z;exact absurd (show b∈([]:List Addr) from z) (by simp)) (by simp)
    |some u =>
     rcases hO b with z|⟨ob,xs,z⟩
     ·rw[q] at z;cases z
     ·have z2:=un.pB b ob _ z
      obtain⟨e1,_⟩:=C b _ z
      obtain⟨e2,_⟩:=E b _ z2
      rw[e] at e1;cases e1
      exact e2
 cases O:K.lookup a with
 |some o =>
  have e:=X a o O
  rw[J] at e
  cases e
  refine j (λ_=>none) (λ_=>.inl rfl) (.inr ⟨_,vs.toArray,_,O,rfl,rfl,rfl,by rw[size_toArray,B];exact hl,by simpa using U⟩) (λb u z=>by have I:(none:Option HO)=some u:=z;cases I) (λb z=>absurd rfl z) λz=>absurd rfl z
 |none =>
  refine j (λb=>if b=a then some (.zx { cls:=.type "list",data:=.seq vs.toArray } (.lst (ns.map V.int))) else none) (λb=>?_) (.inl (.inr ⟨{ cls:=.type "list",data:=.seq vs.toArray },if_pos rfl⟩)) (λb u z=>?_) (λb z=>?_) λ_=>O
  ·by_cases g:b=a
   ·exact .inr ⟨_,_,if_pos g⟩
   ·exact .inl (if_neg g)
  ·by_cases g:b=a
   ·have I:=(if_pos g).symm.trans z
    cases I
    subst g
    exact⟨J,by rw[length_map];exact hl,vs,_,U,J⟩
   ·have I:=(if_neg g).symm.trans z
    cases I
  ·by_cases g:b=a
   ·exact g
   ·exact absurd (if_neg g) z
theorem Hy{l:aec}{D:World->Heap->Prop}{d:DefRec}{K:Params->Frag}{CX:World->Dd}{sp:World->Sp}(hn:l.most=some n)(z:n<=sizeLine)(r:d.params.defaults=[])(hr:cI k callerA)(hY:∀(w:World) (h:Heap),D w h->(K w.params).In h)(F:∀(w:World) (mg:Str->Option Value) (p:Addr) (h:Heap),(K w.params).In h->h.Ns abm mg->mg d.name=some (.ref p) ->
   ∃y:FuncData,(∀(s:Shared) (u:Value),BindsTo s y ⟨[u],[]⟩ [(x,u)]) /\
    ∀base:Heap,(K w.params).In base->base.Ns abm mg->au l.prog w (K w.params) mg base (CX w) k p y [x] (sp w))(t:∀(w:World) (H:Hp) (a:Addr) (ns:LI),ns.length<=n->Only H->bN (K w.params) H a (ns.map V.int)->sp w [.ref a] H (λv _=>v=.bl true) λ_ _ _=>False)(B:∀(w:World) (H:Hp) (s:Shared) (e:Value) (s':Shared),CX w [] H s (λ_ _ _=>False) e s'->False) :
  PySem.W.WalkO q loose XP D l.row.toRowW d [] (λf vs=>PySem.call f vs):=by
 refine Att.vq hn r λw s₀ s₁ mg mb p o pm cd doc a vs ns G Y ho hd hcd A m j i hg=>?_
 have C:=hY w _ Y
 obtain⟨y,hb,hF⟩:=F w mg p _ C G.T.g A
 exact zXe C G.T.g G.T.b G.T.builtins G.T.nolimit hg m j (aa4 i z) hr hF hb (λH hO E=>t w H a ns i hO E) λH e s'=>B w H s₁ e s'
def xV(s:Stmt)(j:Nat):Stmt:=match s with
 |.ClassDef _ _ _ b _ _ _ _ _ _ _=>b.getD j (.Pass ⟨0,0,0,0⟩)
 |_=>.Pass ⟨0,0,0,0⟩
def Df(s:Stmt):Arguments:=match s with
 |.FunctionDef _ a _ _ _ _ _ _ _ _=>a
 |_=>{ posonlyargs:=[],args:=[],vararg:=none,kwonlyargs:=[],kw_defaults:=[],kwarg:=none,defaults:=[] }
def vX(s:Stmt):List Stmt:=match s with
 |.FunctionDef _ _ b _ _ _ _ _ _ _=>b
 |_=>[]
def zJ(s:Stmt):Scope:=match s with
 |.FunctionDef _ _ _ _ _ _ a _ _ _=>a
 |_=>{ kind:=.function,names:=[],isGenerator:=false,isCoroutine:=false }
abbrev aP:Dd:=λ_ _ _ _ _ _=>False
abbrev E0:XK:=λ_ _ _=>False
theorem vV:Ho aP X E0:=λ_ _ _ _ _ _ _ h=>h.elim
structure aY(K:Frag)(x qual:Str)(st:Stmt)(f:Addr)(fd:FuncData):Prop where
 ex:∃(oc:Value)(od:Option Addr)(kV doc pm:Value)(an:Option Addr)(cdv ct:Value)(osl:Array (Option Value)),
  fd=fnOf x qual (Df st) (vX st) (zJ st) .none kV doc pm an cdv ct/\K.lookup f=some ⟨oc,od,.func fd,osl⟩/\codeIn K cdv qual=true
 kp:keepIn K (.ref f)=true
section
variable{P:Program}{w:World}{K:Frag}{mg:Str->Option Value}{base:Heap}
theorem aY.ok{x c:Str}{st:Stmt}{f:Addr}{l:FuncData}{N ps:List Str}{k:Nat}{sp:Sp}(F:aY K x c st f l)(S:ak N ps (zJ st))(i:∀vs H Q E,sp vs H Q E->vs.length=ps.length)(e:∀(d:Value) (A:Around) (b:List Env) (s:Shared) (H:Hp) (vs:List V) (Q:VK) (E:XK),cI k (A.deeper (envOfC c (zJ st) s.heap.objs.size f d))->sp vs H Q E ->
   ∃t,qT (sS aP P w K mg base N c (zJ st) f d A b s H E).Ko (vX st) t/\t { nx:=λ_ H'=>Q .non H',rt:=Q } (start N vs) H):au P w K mg base aP (k+1) f l ps sp:=by
 obtain⟨oc,od,kV,doc,pm,an,d,ct,osl,rfl,n,j⟩:=F.ex
 refine Kw n j S i λA b s H vs Q E m g=>?_
 obtain⟨t,h,q⟩:=e d A b s H vs Q E m g
 exact⟨t,h.Ko,q⟩
theorem aY.binds{x b:Str}{st:Stmt}{f:Addr}{j:FuncData}{ps:List Str}(F:aY K x b st f j)(h:∀(kV d g:Value) (i:Option Addr) (c e:Value) (us:List Value),us.length=ps.length->bindArgs (fnOf x b (Df st) (vX st) (zJ st) .none kV d g i c e) ⟨us,[]⟩=pure (ps.zip us)):Binds K j ps []:=by
 obtain⟨oc,od,kV,d,g,i,c,e,osl,rfl,lk,hcd⟩:=F.ex
 exact .all (h kV d g i c e)
theorem pG{x a:Str}{st:Stmt}{f:Addr}{j:Value}{od i:Option Addr}{e:Array (Option Value)}{kV d g b h:Value}(l:K.lookup f=some ⟨j,od,.func (fnOf x a (Df st) (vX st) (zJ st) .none kV d g i b h),e⟩)(c:codeIn K b a=true)(k:keepIn K (.ref f)=true):aY K x a st f (fnOf x a (Df st) (vX st) (zJ st) .none kV d g i b h):=⟨⟨j,od,kV,d,g,i,b,h,e,rfl,l,c⟩,k⟩
end
theorem DQ(a:cI k A):A.units+1<cLine:=aa1 (Nat.add_le_add_left (by decide:1<=64) _) a.units
theorem zKk(h:n<=1000):n<sizeLine:=aa1 h (by decide)
section
variable{X:Cx}
theorem pv(i:Nat)(b:X.N[i]?=some x:=by rfl)(d:Uk X.env.scope x:=by first|exact Or.inl rfl|exact Or.inr (Or.inl rfl)|exact Or.inr (Or.inr rfl))(c:(x==("__debug__":Str))=false:=by decide)(a:(x==("__classdict__":Str))=false:=by decide):PE X (.Name x pos) (eU i):=M7 b d c a
end
theorem sW{A B:Prop}(h:B):if false=true then A else B:=by
 grind
theorem sX{A B:Prop}(h:A):if true=true then A else B:=by
 grind
def Same(H H':Hp):Prop:=∀b o,H b=some o->H' b=some o
theorem Same.refl(H:Hp):Same H H:=λ_ _ h=>h
theorem Same.trans(a:Same H d)(b:Same d e):Same H e:=λc o h=>b c o (a c o h)
theorem Same.free(e:Same H H')(h:H' l=afh):H l=afh:=by
 cases q:H l with
 |none=>rfl
 |some o =>
  rw[e l o q] at h
  cases h
theorem Same.seq{K:Frag}{H H':Hp}{a:Addr}{xs:List V}(e:Same H H')(h:bN K H a xs):bN K H' a xs:=by
 rcases h with(h|⟨o,h⟩)|h
 ·exact .inl (.inl (e _ _ h))
 ·exact .inl (.inr ⟨o,e _ _ h⟩)
 ·exact .inr h
open PySem
section
variable{prog:Program}{w:World}{A:Around}{R:Result->Shared->Prop}{s:Shared}
theorem S7{α:Type}{t:Sem α}{Q b:α->Shared->Prop}(h:wpAny M A t Q (λ_ _=>False) s)(c:∀a s,Q a s->b a s):wpAny M A t b (notedBy M A env E) s :=
 ab1 h c λ_ _ z=>z.elim
theorem zL0(I:Nat->Shared->Prop)(d:∀n s,I n s->wpAny (model prog w) A (pyNext k) (λr j=>match r with
   |none=>R (.ok .next) j
   |some v=>wpAny (model prog w) A (letOwnedTupleGo a k v) (λ_ o=>wpAny (model prog w) A (assign a env v) (λ_ t =>
     wpAny (model prog w) A (forIn f true λc r=>if r=true then do let i <-isTrue c env (eval c env);pure (acn i) else pure (acn r)) (λi l =>
      if i=true then wpAny (model prog w) A (eval g env) (λx u =>
       wpAny (model prog w) A (call (.builtin "list.append") [acc,x]) (λ_ y=>∃m,m<n/\I m y) (λ_ _=>False) u) (λ_ _=>False) l
      else∃m,m<n/\I m l) (λ_ _=>False) t) (λ_ _=>False) o) (λ_ _=>False) j) (λ_ _=>False) s)(n:Nat)(h:I n s):codeAny (model prog w) A (.compLoop (.ListComp g [⟨a,e,f,0⟩] b pos) 0 k acc env) R s:=by
 refine codeAny_loop rfl I (λn s B=>?_) n h
 show wpAny _ A ((compTurn (.ListComp g [⟨a,e,f,0⟩] b pos) 0 k acc env).onRaise (λx=>do noteFrame x env;theTreesLotGoes x)) _ _ s
 refine wpAny_noted ?_
 rw[compTurn_list]
 refine aav (ae6 (aav (S7 (d n s B) λr j q=>?_)))
 cases r with
 |none=>exact aaw q
 |some v =>
  refine aav (S7 q λ_ o D=>?_)
  refine aav (S7 D λ_ t z=>aav (S7 z λi l p=>?_))
  cases i with
  |false=>exact aaw ⟨rfl,p⟩
  |true =>
   exact aav (aav (S7 p λx u E=>aav (S7 E λ_ y C=>aaw (aaw ⟨rfl,C⟩))))
end
def rC(env:Env):List (Str×NameKind)->List (Str×Addr)->List (Str×Addr)
 |[],a=>a
 | (n,k)::r,a=>if k==.free then rC env r ((n,(env.cells.lookup n).getD 0)::a) else rC env r a
theorem zEi{scope:Scope}{env:Env}(h:∀y∈scope.names,y.2=.free->∃c,env.cells.lookup y.1=some c):closureFor scope env=pure (rC env scope.names []):=by
 unfold closureFor
 generalize scope.names=l at h
 have go:∀(l:List (Str×NameKind))(acc:List (Str×Addr)),(∀y∈l,y.2=.free->∃c,env.cells.lookup y.1=some c) ->
    (forIn l acc (λ(x:Str×NameKind) (r:List (Str×Addr))=>match x with
    | (name,kind)=>if(kind==abv)=true then(do let __do_lift <-cellOf env name;pure (acn ((name,__do_lift)::r))) else pure (acn r)):Sem (List (Str×Addr)))=pure (rC env l acc):=by
  intro l
  induction l with
  |nil=>intro acc _;rfl
  |cons x r ih =>
   intro acc hl
   obtain⟨n,k⟩:=x
   rw[forIn_cons]
   unfold rC
   by_cases hk:(k==abv)=true
   ·obtain⟨c,hc⟩:=hl (n,k) mem_cons_self (aeg hk)
    simp only[hk,if_true]
    have hc':env.cells.lookup n=some c:=hc
    unfold cellOf
    rw[hc']
    exact ih _ λy hy=>hl y (mem_cons_of_mem _ hy)
   ·simp only[hk,if_false]
    exact ih _ λy hy=>hl y (mem_cons_of_mem _ hy)
 have e:=go l [] h
 simp only[bind_pure]
 exact e
theorem zHj{env:Env}:∀(l:List (Str×NameKind))(acc:List (Str×Addr)),(∀x c,acc.lookup x=some c->(env.cells.lookup x).getD 0=c)->∀x c,(rC env l acc).lookup x=some c->(env.cells.lookup x).getD 0=c
 |[],_,h,x,c,e=>h x c e
 | (n,k)::r,acc,h,x,c,e=>by
  unfold rC at e
  by_cases a:(k==abv)=true
  ·rw[if_pos a] at e
   refine zHj r _ (λy d q=>?_) x c e
   grind
  ·rw[if_neg a] at e
   exact zHj r acc h x c e
theorem zE9:∀(l:List (Str×NameKind))(acc:List (Str×Addr))(x:Str)(c:Addr),(rC env l acc).lookup x=some c->(acc.lookup x).isSome=true\/(x,abv)∈l
 |[],_,x,c,e=>.inl (by unfold rC at e;grind)
 | (n,k)::r,acc,x,c,e=>by
  unfold rC at e
  by_cases a:(k==abv)=true
  ·rw[if_pos a] at e
   rcases zE9 r _ x c e with h|h
   ·grind
   grind
  ·rw[if_neg a] at e
   rcases zE9 r _ x c e with h|h
   ·grind
   grind
theorem X8:∀(l:List (Str×NameKind))(acc:List (Str×Addr))(x:Str),((acc.lookup x).isSome=true\/(x,abv)∈l)->((rC env l acc).lookup x).isSome=true
 |[],_,x,h=>by
  rcases h with h|h
  ·exact h
  grind
 | (n,k)::r,acc,x,h=>by
  unfold rC
  by_cases a:(k==abv)=true
  ·rw[if_pos a]
   refine X8 r _ x ?_
   grind
  ·rw[if_neg a]
   refine X8 r _ x ?_
   grind
theorem zFf{env:Env}:∀{a:List (Str×NameKind)}{x:Str},a.lookup x=some .free ->
  (a.map λ(n,k)=>if(k==abv&&env.scope.kind==.function&&env.kindOf n==some .cell) then(n,adt) else(n,k)).lookup x=some .cell \/
  (a.map λ(n,k)=>if(k==abv&&env.scope.kind==.function&&env.kindOf n==some .cell) then(n,adt) else(n,k)).lookup x=some .free
 |[],_,h=>by simp at h
 | (n,k)::r,x,h=>by
  have ih:=@zFf env r x
  grind
theorem zDn{env:Env}:∀{a:List (Str×NameKind)}{x:Str}{k:NameKind},(k=.cell\/k=.free) ->
  (a.map λ(n,k)=>if(k==abv&&env.scope.kind==.function&&env.kindOf n==some .cell) then(n,adt) else(n,k)).lookup x=some k->(x,abv)∈a\/(x,adt)∈a
 |[],_,_,_,h=>by simp at h
 | (n,k')::r,x,k,b,h=>by
  have ih:=@zDn env r x k b
  grind
theorem wW:∀(l:List (Str×NameKind))(n:Nat)(acc:List (Str×Addr)),cellsFrom n l acc=cellsFrom n l []++acc
 |[],_,_=>rfl
 | (x,k)::r,n,acc=>by
  unfold cellsFrom
  split
  ·rw[wW r (n+1) ((x,n)::acc),wW r (n+1) [(x,n)]];simp
  ·exact wW r n acc
theorem zBt:∀(l:List (Str×NameKind))(n:Nat)(x:Str)(c:Addr),(x,c)∈cellsFrom n l []->(x,adt)∈l
 |[],_,_,_,h=>by cases h
 | (y,k)::r,n,x,c,h=>by
  unfold cellsFrom at h
  split at h
  ·rw[wW] at h
   rcases mem_append.mp h with h|h
   ·exact mem_cons_of_mem _ (zBt r _ x c h)
   grind
  ·exact mem_cons_of_mem _ (zBt r _ x c h)
theorem zFq{s:Shared}{a:Scope}{Q:Env->Shared->Prop}(j:∀h',h'.Ns s.heap.objs.size (λ_=>none)->(∀b o,s.heap.get? b=some o->h'.get? b=some o)->CellsOk h' (s.heap.objs.size+1) (cellsFrom (s.heap.objs.size+1) a.names []) ->
   Q (newEnv a s.heap.objs.size c (cellsFrom (s.heap.objs.size+1) a.names d) g none .none (some f) builtinsNs) { s with heap:=h' }) :
  wpAny M A (newFunctionEnv a c d [] g none .none (some f)) Q E s:=by
 refine aav (wpAny_alloc ?_)
 refine aav (wpAny_layCells _ (λname kind cells=>by grind) _ _ _ _ ?_)
 have h:=cellsFrom_ok a.names (s.heap.push { cls:=.type "dict",data:=.dict #[] }) (s.heap.objs.size+1) [] ⟨λ_ _ i=>(nomatch i),Pairwise.nil⟩ (by simp_all)
 rw[size_push] at h
 rw[size_push ..]
 refine aav ?_
 rw[forIn_nil]
 exact aaw (aaw (j _ ((Heap.Ns.new s.heap (.type "dict")).keeps (pushCells_keeps _ _)) (λb o e=>pushCells_keeps _ _ b o (get?_push_of_some _ e)) h))
theorem jk.track(x:jk P w H h)(f:H a=none)(new:bZ P w (upd H a o) h a o):jk P w (upd H a o) h:=λb u e=>by
 by_cases d:b=a
 ·subst d;rw[zT] at e;grind
 ·rw[zX d] at e
  exact(x b u e).stay (λc v _ q=>q) (λc q=>by rw[zX (zW q f)];exact q) λc xs q=>by rw[zX (zW q f)];exact q
theorem Un.track(u:Un fs i H H' h h')(h0:h.get? a=none)(e:H a=none):Un fs i H (upd H' a o) h h' where
 keep:=u.keep
 slot:=u.slot
 free:=λb c q n f=>by
  rw[zX (λz=>by grind)];exact u.free b c q n f
 there:=u.there
 tups:=λb d q=>by rw[zX (zW q e)];exact u.tups b d q
 pB:=λb c d q=>by rw[zX (zW q e)];exact u.pB b c d q
 qR:=λb g q=>by rw[zX (zW q e)];exact u.qR b g q
def nIn(N:List Str)(own:List Str)(ix:List Nat):List Str:=own++ix.map λj=>N.getD j adz
def pH(σ:St)(n:Nat)(ix:List Nat):St:=replicate n none++ix.map λj=>(σ[j]?).getD none
def d_(X:Cx)(a:Scope)(own:List Str)(ix:List Nat)(C:Addr)(s:Shared)(H:Hp)(fp:List Addr):Cx :=
 { X with N:=nIn X.N own ix,s₀:=s,H₀:=H,env:=compEnvC a (cellsFrom (C+1) a.names (rC X.env a.names [])) C X.env,outer:=X.stack,stack:=X.stack,ex:=fp,fn:=λx=>a.names.lookup x==some .cell,pn:=[] }
def X_(b:Scope)(c:List Str)(a:Scope)(ix:List Nat):Bool :=
 a.kind==.function &&
 (a.names.all λy=>(y.2 != .cell||a.names.lookup y.1==some .cell)&&(y.2 != .local||a.names.lookup y.1==some .local)&&(y.2 != .free||(b.names.lookup y.1==some .cell||b.names.lookup y.1==some .free))) &&
 ix.all λj=>match c[j]? with
  |some x=>a.names.lookup x==some .free
  |none=>false
structure lF(osc:Scope)(oN:List Str)(scope:Scope)(ix:List Nat):Prop where
 kind:scope.kind=.function
 clk:∀y∈scope.names,y.2=.cell->scope.names.lookup y.1=some .cell
 nm:∀y∈scope.names,y.2=.local->scope.names.lookup y.1=some .local
 fr:∀y∈scope.names,y.2=.free->osc.names.lookup y.1=some .cell\/osc.names.lookup y.1=some .free
 ix:∀j∈ix,∃x,oN[j]?=some x/\scope.names.lookup x=some .free
theorem zLy(h:X_ b d a ix=true):lF b d a ix:=by
 unfold X_ at h
 rw[aco,aco,all_eq_true] at h
 obtain⟨⟨f,h2⟩,h3⟩:=h
 refine⟨aeg f,λy c e=>?_,λy c e=>?_,λy c e=>?_,λj hj=>?_⟩
 ·grind
 ·grind
 ·grind
 grind
section
variable{X:Cx}{pins:List (Addr×Obj)}{σ:St}{H:Hp}{s:Shared}{scope:Scope}{own:List Str}{ix:List Nat}
theorem zE8(I:Inv X pins σ H s)(a:lF X.env.scope X.N scope ix):∀y∈scope.names,y.2=.free->∃c,X.env.cells.lookup y.1=some c:=λy b e=>by
 rcases a.fr y b e with q|q
 ·exact I.ok.has y.1 (.inl q)
 ·exact I.ok.has y.1 (.inr q)
theorem zO1(I:Inv X pins σ H s)(a:lF X.env.scope X.N scope ix)(e:(rC X.env scope.names []).lookup x=some c):X.env.cells.lookup x=some c:=by
 have h1:=zHj scope.names [] (λx c q=>by simp at q) x c e
 rcases zE9 scope.names [] x c e with q|q
 ·simp at q
 ·obtain⟨c',hc⟩:=zE8 I a (x,.free) q rfl
  grind
theorem zXz(I:Inv X pins σ H s)(d:lF X.env.scope X.N scope ix)(b:(x,abv)∈scope.names)(e:X.env.cells.lookup x=some c):(rC X.env scope.names []).lookup x=some c:=by
 have a:=X8 (env:=X.env) scope.names [] x (.inr b)
 obtain⟨c',f⟩:=abr.mp a
 have:=zO1 I d f
 grind
theorem Oa(I:Inv X pins σ H s)(a:lF X.env.scope X.N scope ix)(e:(cellsFrom (C+1) scope.names (rC X.env scope.names [])).lookup x=some c):(x,c)∈cellsFrom (C+1) scope.names []\/X.env.cells.lookup x=some c:=by
 rw[wW,lookup_append] at e
 cases h:(cellsFrom (C+1) scope.names []).lookup x with
 |some d=>rw[h] at e;cases e;exact .inl (abw h)
 |none=>rw[h] at e;exact .inr (zO1 I a e)
theorem DW(h:(pH σ n ix)[i]?=some (some v)):∃j,ix[i-n]?=some j/\σ[j]?=some (some v)/\n<=i:=by
 unfold pH at h
 grind
theorem Inv.comp{h₁:Heap}(I:Inv X pins σ H s)(f:lF X.env.scope X.N scope ix)(fo:∀b∈fp,oG X pins H b)(Vc:∀b∈fp,b<s.heap.objs.size)(E:s.heap.objs.size<=C)(hns:h₁.Ns C m₀)(hk:∀b o,s.heap.get? b=some o->h₁.get? b=some o)(F:CellsOk h₁ (C+1) (cellsFrom (C+1) scope.names [])):Inv (d_ X scope own ix C s H fp) [] (pH σ own.length ix) H { s with heap:=h₁,toks:=t' }:=by
 have lt:∀{b:Addr},b<s.heap.objs.size->b≠C:=λ{b} n=>aa8 (aa9 n E)
 have A:∀{x:Str}{c:Addr},X.env.cells.lookup x=some c->c<C+1:=λ{x c} e=>by
  obtain⟨v,q⟩:=I.cell x c e
  exact ad2 (aa9 q.lt E)
 have g:∀{x:Str}{c:Addr},X.env.cells.lookup x=some c->∀v,s.heap.IsCell c v->h₁.IsCell c v:=λ{x c} _ v ⟨o,ho,hd⟩=>⟨o,hk _ _ ho,hd⟩
 refine⟨⟨I.ok.mod,f.kind,I.ok.glob,I.ok.blt,E,λx y c h1 h2=>?_,λx hx=>?_,λx c h e=>by
  have h':scope.names.lookup x=some .cell:=aeg h
  have e':(cellsFrom (C+1) scope.names (rC X.env scope.names [])).lookup x=some c:=e
  rw[wW,lookup_append] at e'
  obtain⟨d,hd⟩:=abr.mp (adh scope.names (C+1) [] (.inl h'))
  rw[hd] at e'
  cases e'
  exact aa4 E (ael (F.empty _ _ (abw hd)).2),I.ok.hd,I.ok.frames,.inl rfl,λb n=>?_,I.bs,aa4 I.ok.GX I.sz,λb o e n=>?_,λb n z=>?_,I.stack,I.Bq⟩,
  rfl,I.bare,Un.kept hk,⟨m₀,hns,λi x v h1 h2 h3=>?_⟩,λx c h=>?_,I.hok.fresh E,λx c h=>?_,λp hp=>?_,I.hok.kept hk,?_⟩
 ·rcases Oa I f h1 with q1|q1
  ·rcases Oa I f h2 with G|G
   ·exact name_of_addr F.apart q1 G
   ·exact absurd (aa9 (A G) (F.empty _ _ q1).2) (ab2 _)
  ·rcases Oa I f h2 with G|G
   ·exact absurd (aa9 (A q1) (F.empty _ _ G).2) (ab2 _)
   ·exact I.ok.inj x y c q1 G
 ·have k:(x,abv)∈scope.names\/(x,adt)∈scope.names:=by
   rcases hx with hx|hx
   ·exact zDn (env:=X.env) (.inl rfl) hx
   ·exact zDn (env:=X.env) (.inr rfl) hx
  refine abr.mp ?_
  show((cellsFrom (C+1) scope.names (rC X.env scope.names [])).lookup x).isSome=true
  rcases k with k|k
  ·exact adh _ _ _ (.inr (X8 (env:=X.env) scope.names [] x (.inr k)))
  ·exact adh _ _ _ (.inl (f.clk _ k rfl))
 ·obtain⟨f0,f1,f2,f3,f4,f5⟩:=fo b n
  refine⟨lt (Vc b n),λx c h=>?_⟩
  rcases Oa I f h with q|q
  ·exactλz=>absurd (aa9 (Vc b n) (aa4 E (ael (z▸(F.empty _ _ q).2)))) (ab2 _)
  ·exact f4 x c q
 ·obtain⟨f0,f1,f2,f3,f4,f5⟩:=fo b n
  rcases f3 with z|z
  ·exact I.ok.Dr b o e z
  ·exact absurd (aa9 (lt_size e) (aa4 I.ok.GX z)) (ab2 _)
 ·obtain⟨f0,f1,f2,f3,f4,f5⟩:=fo b n
  rcases mem_cons.mp (I.sH b z) with z|z
  ·exact f1 z
  ·exact f2 z
 ·obtain⟨j,hj,hv,hn⟩:=DW h2
  obtain⟨y,hy,hf⟩:=f.ix j (mem_of_getElem? hj)
  have e:y=x:=by
   have D:(nIn X.N own ix)[i]?=some x:=h1
   unfold nIn at D
   rw[getElem?_append_right hn,getElem?_map,hj] at D
   have t:X.N.getD j adz=x:=abf D
   rw[getD_eq_getElem?_getD,hy] at t
   exact t
  subst e
  have k:(y,abv)∈scope.names:=abw hf
  have vis:Uk X.env.scope y:=by
   rcases f.fr _ k rfl with q|q
   ·exact .inr (.inl q)
   ·exact .inr (.inr q)
  obtain⟨m,_,hl⟩:=I.loc
  obtain⟨u,r,l⟩:=hl j y v hy hv vis
  refine⟨u,r,?_⟩
  rcases l with⟨hk',_⟩|⟨_,c,hc,J⟩
  ·have w:X.env.scope.names.lookup y=some .local:=hk'
   rcases f.fr _ k rfl with q|q
   ·have B:X.env.scope.names.lookup y=some .cell:=q
    rw[w] at B;cases B
   ·have B:X.env.scope.names.lookup y=some .free:=q
    rw[w] at B;cases B
  ·refine .inr ⟨zFf (env:=X.env) hf,c,?_,g hc _ J⟩
   show(cellsFrom (C+1) scope.names (rC X.env scope.names [])).lookup y=some c
   rw[wW,lookup_append,zXz I f k hc]
   cases e:(cellsFrom (C+1) scope.names []).lookup y with
   |none=>rfl
   |some d =>
    have q:=f.clk _ (zBt _ _ _ _ (abw e)) rfl
    have B:scope.names.lookup y=some .cell:=q
    rw[hf] at B;cases B
 ·rcases Oa I f h with q|q
  ·exact⟨_,(F.empty _ _ q).1⟩
  ·obtain⟨v,z⟩:=I.cell x c q
   exact⟨v,g q v z⟩
 ·rcases Oa I f h with q|q
  ·exact I.hok.fresh (aa4 E (ael (F.empty _ _ q).2))
  ·exact I.jo x c q
 ·exact absurd (show p∈([]:List (Addr×Obj)) from hp) (by simp)
 ·show(pH σ own.length ix).length=(nIn X.N own ix).length
  unfold pH nIn
  simp
end
def sY(X:Cx)(b:List Expr)(t:TT):Prop :=
 ∀(a:List (Addr×Obj))(s:Shared)(σ:St)(H:Hp)(Q:Bool->Hp->Prop),Inv X a σ H s->t σ H Q ->
  wpAny (model X.prog X.w) X.A (forIn b true λc r=>if r=true then do let d <-isTrue c X.env (eval c X.env);pure (acn d) else pure (acn r)) (TP X a σ Q) X.xe s
def Hz:TT:=λ_ H Q=>Q true H
theorem wR:sY X [] Hz:=λ_ _ _ H _ I h=>wpAny_tests_nil ⟨H,I,h⟩
theorem KD(h:PT X c t):sY X [c] t:=λa s σ H Q I q=>wpAny_tests_one (h a s σ H Q I q)
def Yb(n:Nat)(ix:List Nat)(g:TG)(s:TT)(te:TE)(σ:St)(Q:VK)(J:It)(q:Hp):Prop :=
 ∃W:Nat->Nat->List V->St->Hp->Prop,(∃m,W 0 m [] (pH σ n ix) q)/\∀i m c k a,W i m c k a ->
  (J.stop i a/\c.length<=sizeLine/\∀p,a p=none->Q (.ref p) (upd a p (.lst c))) \/
  (J.go i a/\c.length<sizeLine/\∃N:List V->St->Hp->Prop,(∀d h o,N d h o->∃j,j<m/\W (i+1) j d h o) /\
   ∀x l,J.SM i a x l->g x k l λe t=>s e t λb f=>if b=true then te e f λy r=>N (c++[y]) e r else N c e f)
def Yc(n:Nat)(ix:List Nat)(a:TI)(g:TG)(b:TT)(te:TE):TE:=λσ H Q=>a σ H (Yb n ix g b te σ Q)
def aad(X:Cx)(a:List (Addr×Obj))(σ:St)(Q:VK)(acc:Value)(C:Addr)(s':Shared):Prop :=
 ∃p b,acc=.ref p/\Inv X a σ b s'/\(∃m,s'.heap.Ns C m)/\oG X a b C/\Q (.ref p) b
theorem thx{X:Cx}{α:Type}{t:Sem α}{Q b:α->Shared->Prop}(hx:X.xe=λ_ _=>False)(h:wpAny M A t Q X.xe s)(c:∀a s,Q a s->b a s):wpAny M A t b E s :=
 ab1 h c λe s' z=>by grind
section
variable{X:Cx}{elt tg iter:Expr}{ifs:List Expr}{scope:Scope}{pos:Pos}{own:List Str}{ix:List Nat}{wi:TI}{g:TG}{tc:TT}{te:TE}
theorem zIr{RR:Value->Addr->Result->Shared->Prop}(hx:X.xe=λ_ _=>False)(hc:X.calm=true)(sc:lF X.env.scope X.N scope ix)(I:Inv X Z σ H s)(T:Turn X.prog X.w X.K tg J fp it tn)(st:tn 0 s.heap)(fo:∀b∈fp,oG X Z H b)(hg:∀C s H fp,PG (d_ X scope own ix C s H fp) tg g)(hif:∀C s H fp,sY (d_ X scope own ix C s H fp) ifs tc)(he:∀C s H fp,PE (d_ X scope own ix C s H fp) elt te)(rd:Yb own.length ix g tc te σ Q J H)(hRR:∀acc C s',aad X Z σ Q acc C s'->RR acc C (.ok .next) s') :
  wpAny (model X.prog X.w) X.A (newList []) (λacc s₃=>wpAny (model X.prog X.w) X.A (newFunctionEnv scope X.env.globals (rC X.env scope.names []) [] X.env.qual none .none (some X.env)) (λY s₄ =>
   codeAny (model X.prog X.w) X.A (.compStart (.ListComp elt [⟨tg,iter,ifs,0⟩] scope pos) 0 (.ref it) acc { Y with scope:=relabel scope X.env }) (RR acc Y.locals) s₄) E s₃) E s:=by
 refine ac2 (zFq (λh₁ B m co=>?_))
 dsimp only at B m co ⊢
 generalize l:s.heap.objs.size=D at B m co ⊢
 generalize hH2:s.heap.push { cls:=.type "list",dict:=none,data:=.seq ([]:List Value).toArray }=G at B m co ⊢
 generalize hC':G.objs.size=C at B m co ⊢
 have hC:C=D+1:=by rw[<-hC',<-hH2,size_push,l]
 have hDC:D≠C:=by rw[hC];exact aa8 (acp _)
 have hle:s.heap.objs.size<=C:=by rw[hC,l];exact ab7 _
 have old:∀b o,s.heap.get? b=some o->h₁.get? b=some o:=λb o e=>by
  exact m b o (hH2▸get?_push_of_some _ e)
 have oD:h₁.get? D=some { cls:=.type "list",data:=.seq ([]:List Value).toArray 0 }:=by
  refine m D _ ?_
  rw[<-hH2,<-l]
  exact get?_push_size _ rfl
 have Vc:∀b∈fp,b<s.heap.objs.size:=λb j=>by
  obtain⟨o,e,_⟩:=T.obj 0 _ st b j
  exact lt_size e
 have nDf:∀b∈fp,b≠D:=λb j=>by rw[<-l];exact aa8 (Vc b j)
 have sD:s.heap.get? D=none:=by
  cases e:s.heap.get? D with
  |none=>rfl
  |some o=>exact absurd (lt_size e) (by rw[l];exact ab2 _)
 have hDn:H D=none:=I.hok.fresh (by rw[l];exact aaz _)
 have I0:Inv (d_ X scope own ix C s H fp) [] (pH σ own.length ix) H { s with heap:=h₁ }:=I.comp sc fo Vc hle B old co
 have st0:tn 0 h₁:=T.keep 0 _ _ st λb _ o e=>old b o e
 have hx':(d_ X scope own ix C s H fp).xe=λ_ _=>False:=hx
 have U:D≠(d_ X scope own ix C s H fp).env.locals:=hDC
 have Dex:D∈(d_ X scope own ix C s H fp).ex\/(d_ X scope own ix C s H fp).s₀.heap.objs.size<=D:=.inr (by show s.heap.objs.size<=D;rw[l];exact aaz _)
 have Dfs:D∉(d_ X scope own ix C s H fp).fs:=I0.M6 (a:=D) |> λk=>λz=>by
  have z':D∈frs X.stack:=z
  rcases mem_cons.mp (I.sH D z') with q|q
  ·exact absurd (q▸I.lt) (by rw[l];exact ab2 _)
  ·exact I.M6 (by rw[l];exact aaz _) q
 have Vd:∀x c,(d_ X scope own ix C s H fp).env.cells.lookup x=some c->c≠D:=λx c e z=>by
  rcases Oa I sc e with q|q
  ·have w1:=(co.empty _ _ q).2
   rw[z,hC] at w1
   lia
  ·obtain⟨v,q⟩:=I.cell x c q
   exact absurd (aa9 q.lt (by rw[z,l];exact aaz _)) (ab2 _)
 have fo':∀{P:Hp}{pl:List (Addr×Obj)},(∀b∈fp,P b=none)->(∀p∈pl,p.1=D)->∀b∈fp,oG (d_ X scope own ix C s H fp) pl P b:=λ{P pl} hn L b j=>by
  obtain⟨f0,f1,f2,f3,f4,f5⟩:=fo b j
  refine⟨hn b j,(I0.ok.Xy b j).1,I0.ok.Ds b j,.inl j,(I0.ok.Xy b j).2,λp hp' z=>?_⟩
  rcases mem_append.mp hp' with q|q
  ·exact absurd (show p∈([]:List (Addr×Obj)) from q) (by simp)
  ·exact nDf b j (by rw[<-z];exact L p q)
 obtain⟨W,⟨m0,w0⟩,step⟩:=rd
 have R:codeAny (model X.prog X.w) X.A (.compLoop (.ListComp elt [⟨tg,iter,ifs,0⟩] scope pos) 0 (.ref it) (.ref D) (d_ X scope own ix C s H fp).env) (RR (.ref D) C) { s with heap:=h₁ }:=by
  refine zL0 (λn s'=>∃i M σ' P f k,Inv (d_ X scope own ix C s H fp) [] σ' P s'/\tn i s'.heap/\(∀b∈fp,P b=none)/\P D=none/\s'.heap.get? D=some { cls:=.type "list",data:=.seq (toArray f) k }/\Vals M f/\W i n M σ' P) ?_ m0
   ⟨0,[],_,H,[],0,I0,st0,λb j=>(fo b j).1,hDn,oD,.nil,w0⟩
  rintro n s1 ⟨i,M,σ1,H1,f,k,I1,tn1,fr1,D1,o1,O,w1⟩
  have J1:Inv (d_ X scope own ix C s H fp) [(D,{ cls:=.type "list",data:=.seq (toArray f) k })] σ1 H1 s1:=I1.lY λp L=>by
   have e:p=(D,{ cls:=.type "list",data:=.seq (toArray f) k }):=by simpa using L
   subst e
   exact⟨o1,D1,U,Dfs,λv z=>by cases z⟩
  have t:∀p∈[((D,{ cls:=.type "list",data:=.seq (toArray f) k }):Addr×Obj)],p.1=D:=λp L=>by
   have e:p=(D,{ cls:=.type "list",data:=.seq (toArray f) k }):=by simpa using L
   rw[e]
  rcases step i n M σ1 H1 w1 with⟨stop,hz,qn⟩|⟨go,hz,N,hN,stp⟩
  ·refine aV (T.done (d_ X scope own ix C s H fp) rfl rfl rfl hc i _ s1 σ1 H1 _ J1 (fo' fr1 t) tn1 stop) λr s2 ⟨hr,I2⟩=>?_
   subst hr
   obtain⟨e2,_⟩:=I2.pin (D,{ cls:=.type "list",data:=.seq (toArray f) k }) (mem_append_right _ (by simp))
   obtain⟨m2,aae,_⟩:=I2.loc
   refine hRR _ _ _ ⟨D,upd H1 D (.lst M),rfl,?_,⟨m2,aae⟩,?_,qn D D1⟩
   ·refine I.call' (ch:=fp) I2.os (Un.track I2.base sD hDn) (I2.hok.track D1 ⟨hz,f,k,O,e2⟩) I2.bare λb j=>?_
    obtain⟨f0,f1,f2,f3,f4,f5⟩:=fo b j
    exact⟨f3,f1,f4,f5⟩
   ·refine I.pF hle ?_
    rw[zX hDC.symm]
    exact I2.free
  ·refine aV (T.item (d_ X scope own ix C s H fp) rfl rfl rfl hc i _ s1 σ1 H1 _ J1 (fo' fr1 t) tn1 go) λr s2 ⟨u,hr,h2⟩=>?_
   subst hr
   refine aV h2 ?_
   rintro _ s3 ⟨x,H3,I3,rx,y3,tn3,fr3⟩
   have I3':=I3.pinned (fo' fr3 t) (T.obj _ _ tn3)
   refine thx hx' (hg C s H fp _ s3 σ1 H3 x u _ I3' rx (stp x H3 y3)) ?_
   rintro _ s4 ⟨σ4,H4,I4,q4⟩
   refine thx hx' (hif C s H fp _ s4 σ4 H4 _ I4 q4) ?_
   rintro b s5 ⟨H5,I5,q5⟩
   have S:∀{σ7:St}{H7:Hp}{s7:Shared},Inv (d_ X scope own ix C s H fp) ([(D,{ cls:=.type "list",data:=.seq (toArray f) k })]++Ks fp s3.heap) σ7 H7 s7 ->
     tn (i+1) s7.heap/\(∀b∈fp,H7 b=none)/\H7 D=none/\s7.heap.get? D=some { cls:=.type "list",data:=.seq (toArray f) k }:=λ{σ7 H7 s7} I7=>by
    have Ve:=I7.pin (D,{ cls:=.type "list",data:=.seq (toArray f) k }) (mem_append_right _ (mem_append_left _ (by simp)))
    refine⟨T.keep _ _ _ tn3 λb j o e=>(I7.pin (b,o) (mem_append_right _ (mem_append_right _ (Nk j e)))).1,λb j=>?_,Ve.2.1,Ve.1⟩
    obtain⟨o,e,d⟩:=T.obj _ _ tn3 b j
    exact(I7.pin (b,o) (mem_append_right _ (mem_append_right _ (Nk j e)))).2.1
   cases b with
   |false =>
    obtain⟨m',hm,w'⟩:=hN _ _ _ (show N M σ4 H5 from q5)
    obtain⟨b1,b2,b3,b4⟩:=S I5
    exact⟨m',hm,i+1,M,σ4,H5,f,k,I5.lY (λp L=>absurd L (by simp)),b1,b2,b3,b4,O,w'⟩
   |true =>
    rw[if_pos rfl]
    refine thx hx' (he C s H fp _ s5 σ4 H5 _ I5 q5) ?_
    rintro v s6 ⟨y,H6,I6,ry,q6⟩
    obtain⟨m',hm,w'⟩:=hN _ _ _ q6
    obtain⟨b1,b2,b3,b4⟩:=S I6
    have zl:f.length=M.length:=O.length.symm
    refine afa F.slot_list_append ⟨_,b4,rfl⟩ F.entry_list_append (F.args_list_append_2 _ _) (PySem.list_append D f.toArray k v (by rw[size_toArray];lia)) ⟨b4,?_⟩
    have q:=PySem.IsL.update b4 (λxs=>xs.push v)
    have keep:∀b o,b≠D->s6.heap.get? b=some o->(s6.heap.update D (ac7 λxs=>xs.push v)).get? b=some o:=λb o j e=>(get?_update_other s6.heap _ (ac0 j)).trans e
    refine⟨m',hm,i+1,M++[y],σ4,H6,f++[v],(if(f.toArray.push v).size==f.toArray.size then k else k+1),?_,T.keep _ _ _ b1 (λb j o e=>keep b o (nDf b j) e),b2,b3,?_,O.append (.cons ry .nil),w'⟩
    ·exact(I6.lY (Kf:=[]) λp L=>absurd L (by simp)).turned (t':=s6.toks) keep b3 U Dex Vd λp L=>absurd (show p∈([]:List (Addr×Obj)) from L) (by simp)
    ·rw[show(f++[v]).toArray=f.toArray.push v by simp]
     exact q
 exact codeAny_compStart_list R (T.self X.A 0 _ _ _ st0 R)
theorem uF(R:X.xe=λ_ _=>False)(w:X.calm=true)(L:X_ X.env.scope X.N scope ix=true)(F:PI X tg iter wi)(P:∀C s H fp,PG (d_ X scope own ix C s H fp) tg g)(i:∀C s H fp,sY (d_ X scope own ix C s H fp) ifs tc)(O:∀C s H fp,PE (d_ X scope own ix C s H fp) elt te)(u:∀x,foldedSetIterable iter X.env x=pure x:=by intro _;rfl):PE X (.ListComp elt [⟨tg,iter,ifs,0⟩] scope pos) (Yc own.length ix wi g tc te):=by
 intro a s σ H Q I h
 have c:=zLy L
 refine wpAny_comprehension_free rfl u (zEi (zE8 I c)) c.kind c.nm (aV (F a s σ H _ I h) λv s1 E=>aV E λitv s2 l=>?_)
 obtain⟨it,fp,tn,J,H2,e,B,T,f,k,M⟩:=l
 subst e
 refine zIr R w c B T f k P i O M ?_
 rintro acc C s' ⟨p,y,rfl,r,⟨m,j⟩,t,q⟩
 obtain⟨D,G,k,n,S,z⟩:=t
 exact⟨m,j,λh' d=>⟨.ref p,y,r.turned (λb o A e=>(d.2 b A).trans e) D G n S z,rfl,q⟩⟩
theorem Dg{f:Pos}(hN:X.N.Nodup)(z:X.N[i]?=some x)(j:X.env.scope.names.lookup x=some .local)(Z:X.xe=λ_ _=>False)(hc:X.calm=true)(Y:X_ X.env.scope X.N scope ix=true)(hi:PI X tg iter wi)(P:∀C s H fp,PG (d_ X scope own ix C s H fp) tg g)(t:∀C s H fp,sY (d_ X scope own ix C s H fp) ifs tc)(he:∀C s H fp,PE (d_ X scope own ix C s H fp) elt te)(u:swapsWith (.ListComp elt [⟨tg,iter,ifs,0⟩] scope pos) (some (.Name x c)) f.line X.env=pure true:=by rfl)(hs:∀x,foldedSetIterable iter X.env x=pure x:=by intro _;rfl):PS X (.Assign [.Name x c] (.ListComp elt [⟨tg,iter,ifs,0⟩] scope pos) f) (pD (Yc own.length ix wi g tc te) (vm i)):=by
 intro d s σ H D I h
 have n:=zLy Y
 rw[exec_Assign_Name_used _ _ _ _ u]
 refine aav (ae6 (aav ?_))
 refine aav (ab1 (wpAny_comprehension_free (use:=some (assign (.Name x c) X.env)) (Q:=λ_ k=>SP X d D .next k) rfl hs (zEi (zE8 I n)) n.kind n.nm
  (aV (hi d s σ H _ I h) λv s1 h1=>aV h1 λitv s2 W=>?_)) (λ_ k hq=>aaw (aaw hq)) λ_ _ e=>e)
 obtain⟨it,fp,tn,J,H2,e,O,T,E,M,rd⟩:=W
 subst e
 refine zIr (RR:=λl C=>compPost (model X.prog X.w) X.A X.xe (some (assign (.Name x c) X.env)) (λ_ k=>SP X d D .next k) l C) Z hc n O T E M P t he rd ?_
 rintro l C k ⟨p,H',rfl,R,⟨m,y⟩,fC,q⟩
 obtain⟨f0,U,M,f3,S,f5⟩:=fC
 show wpAny _ X.A (assign (.Name x c) X.env (.ref p)) _ _ _
 refine wpAny_assign_Name (zKh (v:=.ref p) R hN z (.inl j) rfl (?_) (.inr j))
 rintro L r ⟨a,B,ha⟩
 have G:C≠a:=by
  grind
 exact⟨m,y.sameBut B G,λh' F=>⟨_,H',r.turned (t':=L.toks) (λb o hb e=>(F.2 b hb).trans e) f0 U f3 S f5,q⟩⟩
end
section
variable{n:Nat}{ix:List Nat}{g:TG}{tc:TT}{te:TE}{σ:St}{Q:VK}{H:Hp}
theorem zLx{K:Frag}{a:Addr}{xs:List V}(Pv:Nat->List V->St->Hp->Prop)(h0:Pv 0 [] (pH σ n ix) H)(hl:∀i ys σ H,i<=xs.length->Pv i ys σ H->bN K H a xs/\ys.length<=i)(hz:xs.length<sizeLine)(hs:∀i x ys σ H,xs[i]?=some x->Pv i ys σ H->g x σ H λσ4 H4=>tc σ4 H4 λb H5=>if b=true then te σ4 H5 λy H6=>Pv (i+1) (ys++[y]) σ4 H6 else Pv (i+1) ys σ4 H5)(hd:∀ys σ H,Pv xs.length ys σ H->∀p,H p=none->Q (.ref p) (upd H p (.lst ys))):Yb n ix g tc te σ Q (SN K a) H:=by
 refine⟨λi m ys σ H=>m=xs.length-i/\i<=xs.length/\Pv i ys σ H,⟨xs.length,by simp,abl _,h0⟩,?_⟩
 rintro i m ys σ H ⟨rfl,hi,p⟩
 obtain⟨q,hy⟩:=hl i ys σ H hi p
 by_cases hlt:i<xs.length
 ·refine .inr ⟨⟨xs,xs[i],q,by simp[hlt]⟩,by omega,Pv (i+1),λys' σ' H' p'=>⟨xs.length-(i+1),by omega,rfl,hlt,p'⟩,λx H' y=>?_⟩
  obtain⟨e,y⟩:=y
  subst e
  exact hs i x ys σ _ (y xs q) p
 ·have e:i=xs.length:=by omega
  subst e
  exact .inl ⟨⟨xs,q,aaz _⟩,by omega,hd ys σ H p⟩
theorem zQu{lo:Int}{k:Nat}(a:Nat->List V->St->Hp->Prop)(h0:a 0 [] (pH σ n ix) H)(s:∀i ys σ H,i<=k->a i ys σ H->ys.length<=i)(hz:k<sizeLine)(hs:∀i ys σ H,i<k->a i ys σ H->g (.int (lo+i)) σ H λd q=>tc d q λb f=>if b=true then te d f λy o=>a (i+1) (ys++[y]) d o else a (i+1) ys d f)(h:∀ys σ H,a k ys σ H->∀p,H p=none->Q (.ref p) (upd H p (.lst ys))):Yb n ix g tc te σ Q (XR lo k) H:=by
 refine⟨λi m ys σ H=>m=k-i/\i<=k/\a i ys σ H,⟨k,by simp,abl _,h0⟩,?_⟩
 rintro i m ys σ H ⟨rfl,r,p⟩
 have hy:=s i ys σ H r p
 by_cases c:i<k
 ·refine .inr ⟨c,by lia,a (i+1),λys' σ' j l=>⟨k-(i+1),by lia,rfl,c,l⟩,λx j y=>?_⟩
  obtain⟨e,y⟩:=y
  grind
 ·have e:i=k:=by lia
  subst e
  exact .inl ⟨aaz _,by lia,h ys σ H p⟩
end
def Ite(K:Frag)(a:Addr):It :=
 ⟨λi H=>∃b x,bN K H a b/\b[i]?=some x,λi H v c=>∃t x,v=.ref t/\H t=none/\c=upd H t (.tup [.int i,x])/\∀b,bN K H a b->b[i]?=some x,λi H=>∃b,bN K H a b/\b.length<=i⟩
theorem zRi{P:Program}{w:World}{K:Frag}{M:List Expr}{k:Nat}{tp:Pos}(a e f:Addr)(G:e≠f) :
  Turn P w K (.Tuple M k tp) (Ite K a) [e,f] e (λi h=>(∃g,IsEnum h e f ((i:Nat):Int) g)/\h.IsListIter f a i) where
 mem:=by simp
 obj:=λi h st b r=>by
  obtain⟨⟨g,t⟩,o,ho,c,d⟩:=st
  have m:b=e\/b=f:=by simpa using r
  rcases m with rfl|rfl
  ·exact⟨_,t,λv z=>by
    have z':Data.fields _=Data.cell v:=z
    cases z'⟩
  ·exact⟨o,ho,λv z=>by rw[d] at z;cases z⟩
 keep:=λi h h' st k=>⟨let⟨g,t⟩:=st.1;⟨g,k e (by simp) _ t⟩,st.2.at λo q=>k f (by simp) o q⟩
 item:=by
  intro X Z Y hK hc i N s σ H E I S st hg
  subst Z Y hK
  obtain⟨xs,x,T,j⟩:=hg
  obtain⟨its,rv,p,hz⟩:=I.list T
  obtain⟨u,hu,ru⟩:=rv.get j
  obtain⟨⟨g,t⟩,y⟩:=st
  obtain⟨f0,f1,f2,f3,f4,f5⟩:=S e (by simp)
  obtain⟨Q,g1,g2,g3,g4,g5⟩:=S f (by simp)
  refine wpAny_pyNext_enum_item t y p.isList (x:=u) (by simpa using hu) G λh₁ heo F ht₁ hz₁ hk₁=>?_
  refine⟨_,rfl,wpAny_letOwnedTupleGo_enum (s:={ s with heap:=h₁,toks:=s.toks+1 }) heo λA he₂ l=>?_⟩
  replace l:SameBut e h₁ A:=l
  have J:e<s.heap.objs.size:=lt_size t
  have D:H s.heap.objs.size=none:=I.hok.fresh (aaz _)
  have ht₂:A.get? s.heap.objs.size=some { cls:=.type "tuple",data:=.seq #[.int i s.toks,u] }:=(l.2 _ (ad3 J)).trans ht₁
  have O:∀b o,b≠e->b≠f->s.heap.get? b=some o->A.get? b=some o:=λb o h1 h2 q=>(l.2 b h1).trans (hk₁ b o h1 h2 q)
  have lt:∀b o,s.heap.get? b=some o->b≠s.heap.objs.size:=λb o q=>aa8 (lt_size q)
  have B:∀b o,s.heap.get? b=some o->b∉[e,f]->∃R,A.get? b=some R:=λb o q j=>⟨o,O b o (λz=>j (by simp[z])) (λz=>j (by simp[z])) q⟩
  have U:Un (frs X.stack) [e,f] H (upd H s.heap.objs.size (.tup [.int i,x])) s.heap A :=
   ⟨λb o q _ _ j=>O b o (λz=>j (by simp[z])) (λz=>j (by simp[z])) q,λb o q _ _ j=>⟨o.slots,O b o (λz=>j (by simp[z])) (λz=>j (by simp[z])) q⟩,
    λb o q n _=>by rw[zX (lt b o q)];exact n,B,λb ys q=>by rw[zX (zW q D)];exact q,λb o ys q=>by rw[zX (zW q D)];exact q,λb ps q=>⟨#[],by rw[zX (zW q D),q];simp⟩⟩
  have ok:jk X.prog X.w (upd H s.heap.objs.size (.tup [.int i,x])) A:=λb o q=>by
   by_cases r:b=s.heap.objs.size
   ·subst r
    rw[zT] at q
    cases q
    exact⟨by show 2<=sizeLine;decide,[.int i s.toks,u],.cons ⟨_,rfl⟩ (.cons ru .nil),⟨_,ht₂,rfl,_,rfl⟩⟩
   ·rw[zX r] at q
    refine(I.hok b o q).stay (λc v C z=>?_) (λc z=>by rw[zX (zW z D)];exact z) λc ys z=>by rw[zX (zW z D)];exact z
    have hcs:∃R,H c=some R:=by
     rcases C with rfl|C
     ·exact⟨o,q⟩
     ·exact⟨_,C⟩
    obtain⟨R,L⟩:=hcs
    exact O c v (zW L f0) (zW L Q) z
  have I2:=I.call (h':=A) (g':=s.gens) (t':=s.toks+1) (d':=s.drawn) (ch:=[e,f]) U ok I.bare λb r=>by
   have m:b=e\/b=f:=by simpa using r
   rcases m with rfl|rfl
   ·exact⟨f3,f1,f4,f5⟩
   ·exact⟨g3,g1,g4,g5⟩
  refine⟨.ref s.heap.objs.size,_,I2,rfl,⟨s.heap.objs.size,x,rfl,D,rfl,λys hy=>by rw[I.vh hy T];exact j⟩,⟨⟨_,by rw[show((i+1:Nat):Int)=(i:Int)+1 by push_cast;rfl];exact he₂⟩,F.extBut l.extBut G.symm⟩,λb r=>?_⟩
  have m:b=e\/b=f:=by simpa using r
  obtain⟨o2,ho2,_⟩:=y
  rcases m with rfl|rfl
  ·rw[zX (aa8 J)];exact f0
  ·rw[zX (aa8 (lt_size ho2))];exact Q
 done:=by
  intro X Z Y hK hc i N s σ H E I S st hg
  subst Z Y hK
  obtain⟨xs,T,j⟩:=hg
  obtain⟨its,rv,p,hz⟩:=I.list T
  obtain⟨⟨g,t⟩,y⟩:=st
  obtain⟨Q,g1,g2,g3,g4,g5⟩:=S f (by simp)
  have hl:=rv.length
  exact wpAny_pyNext_enum_end (I.ok.hd hc) t y p.isList (by simp;lia) λh' eb=>⟨rfl,I.turned (t':=s.toks) (λb o r e=>eb b o r e) Q g1 g3 g4 g5⟩
 self:=λ_ _ _ _ _ st h=>let⟨⟨_,t⟩,_⟩:=st;wpAny_pyIter_enum t h
def DX(K:Frag)(d:TA):TI:=λσ H R=>d σ H λc b=>∃a,c=[.ref a]/\(∃e,bN K b a e)/\R (Ite K a) b
theorem oH:bootBuiltins "enumerate" = some (.type "enumerate"):=by decide +kernel
theorem zSm(hg:Gl X "enumerate")(hm:X.mg "enumerate" = none)(ha:PA X [a] ta)(hs:starEach [a] X.env=[(false,eval a X.env)]:=by rfl) :
  PI X (.Tuple elts k tp) (.Call (.Name "enumerate" p) [a] [] pos) (DX X.K ta):=by
 intro pins s σ H R I h
 refine Call_ (GZ I hg hm oH (abx (aV (ha pos pins s σ H _ I h) λus s1 ⟨vs,H1,I1,r1,q1⟩=>?_) hs rfl))
 obtain⟨l,e,⟨xs,hq⟩,q⟩:=q1
 subst e
 cases r1 with
 |cons r rr =>
  cases rr
  cases r
  obtain⟨its,rv,p,hz⟩:=I1.list hq
  refine call_enumerate_list p.isList λh' hE hI hsz hk=>wpAny_pyIter_enum hE ?_
  have I2:Inv X pins σ H1 { s1 with heap:=h',toks:=s1.toks }:=I1.kept hk
  refine⟨s1.heap.objs.size+1,[s1.heap.objs.size+1,s1.heap.objs.size],_,_,H1,rfl,I2,zRi l _ _ (Nat.succ_ne_self _),⟨⟨.none,hE⟩,hI⟩,λb hb=>?_,q⟩
  have hb':b=s1.heap.objs.size+1\/b=s1.heap.objs.size:=by simpa using hb
  rcases hb' with rfl|rfl
  ·exact I1.pF (ab7 _) (I1.hok.fresh (ab7 _))
  ·exact I1.pF (aaz _) (I1.hok.fresh (aaz _))
theorem zXl{K:Frag}{a:Addr}{xs:List V}{g:TG}{j:TS}{D:Ends}{σ:St}{H:Hp}(b:Nat->St->Hp->Prop)(h0:b 0 σ H)(n:∀i σ H,i<=xs.length->b i σ H->bN K H a xs)(hs:∀i x t σ H,xs[i]?=some x->H t=none->b i σ H->g (.ref t) σ (upd H t (.tup [.int i,x])) λd c=>j { D with nx:=b (i+1),ct:=b (i+1),bk:=D.nx } d c)(k:∀σ H,b xs.length σ H->D.nx σ H) :
  ∃W:Nat->Nat->St->Hp->Prop,(∃m,W 0 m σ H)/\∀i m σ H,W i m σ H ->
   ((Ite K a).stop i H/\D.nx σ H)\/((Ite K a).go i H/\∃N:St->Hp->Prop,(∀h H',N h H'->∃m',m'<m/\W (i+1) m' h H')/\∀x H',(Ite K a).SM i H x H'->g x σ H' λd c=>j { D with nx:=N,ct:=N,bk:=D.nx } d c):=by
 refine⟨λi m σ H=>m=xs.length-i/\i<=xs.length/\b i σ H,⟨xs.length,by simp,abl _,h0⟩,?_⟩
 rintro i m σ H ⟨rfl,l,p⟩
 have q:=n i σ H l p
 by_cases f:i<xs.length
 ·refine .inr ⟨⟨xs,xs[i],q,by grind⟩,b (i+1),λh H' o=>⟨xs.length-(i+1),by lia,rfl,f,o⟩,λx H' y=>?_⟩
  obtain⟨t,x',rfl,ht,rfl,y⟩:=y
  grind
 ·have e:i=xs.length:=by lia
  subst e
  exact .inl ⟨⟨xs,q,aaz _⟩,k σ H p⟩
def tFs(a:Str)(te:TE):TE:=λσ H Q=>te σ H λx b=>(∃i,x=.int i/\i.natAbs.log2<1920/\Q (.str (a++adk (toString i))) b)\/∃z,x=.str z/\z.length<=1000/\Q (.str (a++z)) b
theorem zGa(x y:Str):(x++y).length=x.length+y.length:=by rw[<-strLen_append]
theorem DY{a:Str}(y:PE X e te)(w:a.length<=1000):PE X (.JoinedStr [.Constant (.str a) j p1,.FormattedValue e (-1) none p2] pos) (tFs a te):=by
 intro d s σ H Q I h
 refine JoinedStr_many (joinParts_cons (Calls.Constant_str ?_))
 have m:(adz++a)=a:=by
  cases a with
  |mk c=>show Str.mk _=_;simp[adz]
 refine⟨by rw[m];exact aa4 w (by decide),?_⟩
 rw[m]
 have v:=I.tok (s.toks+1)
 refine joinParts_cons (FormattedValue_plain (aV (y d _ σ H _ v h) ?_))
 rintro u n ⟨x,g,k,l,p⟩
 rcases p with⟨i,rfl,f,q⟩|⟨z,rfl,o,q⟩
 ·obtain⟨t,rfl⟩:=l
  refine formatField_int_small f ?_
  have b:(a++adk (toString i)).length<=sizeLine:=by
   have:=int_text_len_1921 f
   rw[zGa]
   exact aa4 (show a.length+(adk (toString i)).length<=4000 by lia) (by decide)
  refine⟨b,joinParts_nil ?_ b⟩
  exact⟨.str (a++adk (toString i)),g,(k.tok (n.toks+1+1)).tok _,⟨_,rfl⟩,q⟩
 ·obtain⟨t,rfl⟩:=l
  have b:(a++z).length<=sizeLine:=by
   rw[zGa]
   exact aa4 (show a.length+z.length<=4000 by lia) (by decide)
  refine formatField_str (λt' r=>?_) (aa4 o (by decide))
  refine⟨b,joinParts_nil ?_ b⟩
  exact⟨.str (a++z),g,(k.tok r).tok _,⟨_,rfl⟩,q⟩
def HB(K:Frag)(c:Value):List V->Hp->VK->Prop:=λd H Q=>∃x y t b,d=[x,y]/\RelV y c/\lZ K H x t/\kitOne K t c=some b/\Q (.bl b) H
theorem zX3(i:∀y u,RelV y c->RelV y u->u=c):rB X (.builtin "isinstance") (HB X.K c):=by
 intro pins s σ H xs us Q I r h
 obtain⟨x,y,t,b,rfl,a,d,e,q⟩:=h
 obtain⟨u,v,rfl,g,f⟩:=r.two
 obtain rfl:=i y v a f
 exact zTq I g d e λj=>⟨.bl b,H,I.tok j,rfl,q⟩
theorem S8:∀y u,RelV y (.type n)->RelV y u->u=.type n:=λy u h1 h2=>by
 cases y<;>first
  | (cases h1;done)
  | (obtain⟨_,e⟩:=h1;cases e;done)
  | (cases h1;cases h2;rfl)
theorem Dh:∀y u,RelV y (.ref a)->RelV y u->u=.ref a:=λy u h1 h2=>by
 cases y<;>first
  | (cases h1;done)
  | (obtain⟨_,e⟩:=h1;cases e;done)
  | (cases h1;cases h2;rfl)
theorem zW5{σ:St}{A B:St->Hp->Prop}(h:A (σ.set i (some x)) H):vm i x σ H (λa d=>Hz a d λb c=>if b=true then A a c else B a c):=by
 show if true=true then A (σ.set i (some x)) H else B (σ.set i (some x)) H
 grind
theorem Od{X:Cx}{K:Frag}(h:X.K=K){es:List Expr}{k:Nat}{t:Sw}{n:Nat}{pos:Pos}(d:X.calm=true)(c:G6 X es t)(b:(assignEach es X.env).length=n:=by rfl)(a:(assignEach es X.env).findIdx? (·.1)=none:=by rfl):PG X (.Tuple es k pos) (G7 K n t):=by
 subst h
 exact C_ d c b a
end L2
namespace Ts
open PySem L2
theorem aK(h:H p=none)(o:HO):Same H (upd H p o):=λb u q=>by rw[zX (zW q h)];exact q
theorem _root_.L2.Same.put(s:Same H H')(h:H p=none)(o:HO):Same H (upd H' p o):=λb u q=>by rw[zX (zW q h)];exact s b u q
def A2{α β:Type}(R:α->β->Prop):List α->List β->Prop
 |[],[]=>True
 |x::b,y::a=>R x y/\A2 R b a
 |_,_=>False
section
variable{α β:Type}{R R':α->β->Prop}
theorem A2.len:∀{xs:List α}{ys:List β},A2 R xs ys->xs.length=ys.length
 |[],[],_=>rfl
 |_::_,_::_,h=>congrArg (· + 1) (A2.len h.2)
 |[],_::_,h=>h.elim
 |_::_,[],h=>h.elim
theorem A2.imp(f:∀x y,R x y->R' x y):∀{xs:List α}{ys:List β},A2 R xs ys->A2 R' xs ys
 |[],[],_=>trivial
 |_::_,_::_,h=>⟨f _ _ h.1,A2.imp f h.2⟩
 |[],_::_,h=>h.elim
 |_::_,[],h=>h.elim
theorem A2.app:∀{xs:List α}{ys:List β}{b:List α}{a:List β},A2 R xs ys->A2 R b a->A2 R (xs++b) (ys++a)
 |[],[],_,_,_,h=>h
 |_::_,_::_,_,_,h,c=>⟨h.1,A2.app h.2 c⟩
 |[],_::_,_,_,h,_=>h.elim
 |_::_,[],_,_,h,_=>h.elim
theorem A2.snoc(h:A2 R xs ys)(r:R x y):A2 R (xs++[x]) (ys++[y]):=h.app ⟨r,trivial⟩
theorem A2.at1:∀{xs:List α}{ys:List β}{i:Nat}{x:α},A2 R xs ys->xs[i]?=some x->∃y,ys[i]?=some y/\R x y
 |[],_,_,_,_,e=>by simp at e
 |_::_,_::_,0,_,h,e=>by simp at e;subst e;exact⟨_,rfl,h.1⟩
 |_::_,_::_,i+1,_,h,e=>by
  obtain⟨y,h1,h2⟩:=A2.at1 (i:=i) h.2 (by simpa using e)
  exact⟨y,by simpa using h1,h2⟩
 |_::_,[],_,_,h,_=>h.elim
theorem A2.at2:∀{xs:List α}{ys:List β}{i:Nat}{y:β},A2 R xs ys->ys[i]?=some y->∃x,xs[i]?=some x/\R x y
 |_,[],_,_,_,e=>by simp at e
 |_::_,_::_,0,_,h,e=>by simp at e;subst e;exact⟨_,rfl,h.1⟩
 |_::_,_::_,i+1,_,h,e=>by
  obtain⟨y,h1,h2⟩:=A2.at2 (i:=i) h.2 (by simpa using e)
  exact⟨y,by simpa using h1,h2⟩
 |[],_::_,_,_,h,_=>h.elim
theorem A2.set(r:R x y):∀{xs:List α}{ys:List β}(i:Nat),A2 R xs ys->A2 R (xs.set i x) (ys.set i y)
 |[],[],_,_=>trivial
 |_::_,_::_,0,h=>⟨r,h.2⟩
 |_::_,_::_,i+1,h=>⟨h.1,A2.set r i h.2⟩
 |[],_::_,_,h=>h.elim
 |_::_,[],_,h=>h.elim
theorem A2.rev:∀{xs:List α}{ys:List β},A2 R xs ys->A2 R xs.reverse ys.reverse
 |[],[],_=>trivial
 |_::_,_::_,h=>by
  rw[reverse_cons,reverse_cons]
  exact(A2.rev h.2).snoc h.1
 |[],_::_,h=>h.elim
 |_::_,[],h=>h.elim
theorem A2.of_map{f:β->α}(h:∀y,R (f y) y):∀ys:List β,A2 R (ys.map f) ys
 |[]=>trivial
 |y::ys=>⟨h y,A2.of_map h ys⟩
end
theorem A2.pI{α β:Type}{f:β->α}:∀{xs:List α}{ys:List β},A2 (λx y=>x=f y) xs ys->xs=ys.map f
 |[],[],_=>rfl
 |_::_,_::_,h=>by rw[map_cons,h.1,A2.pI h.2]
 |[],_::_,h=>h.elim
 |_::_,[],h=>h.elim
class Rp (K:Frag) (α:Type) where
 rp:Hp->V->α->Prop
 mono:∀{F F':Hp}{v:V}{a:α},Same F F'->rp F v a->rp F' v a
abbrev rp(K:Frag){α:Type}[Rp K α]:Hp->V->α->Prop:=Rp.rp (K:=K)
class Nn (K:Frag) (α:Type) [Rp K α]:Prop where
 nn:∀{F:Hp}{v:V}{a:α},rp K F v a->v≠.non
class Sc (K:Frag) (α:Type) [Rp K α] where
 val:α->V
 is:∀{F:Hp}{v:V}{a:α},rp K F v a↔v=val a
 inj:∀{a b:α},val a=val b->a=b
section
variable{K:Frag}
instance:Rp K Int:=⟨λ_ v n=>v=.int n,λ_ h=>h⟩
instance:Rp K Bool:=⟨λ_ v n=>v=.bl n,λ_ h=>h⟩
instance:Rp K Str:=⟨λ_ v n=>v=.str n,λ_ h=>h⟩
instance:Rp K Unit:=⟨λ_ v _=>v=.non,λ_ h=>h⟩
instance{α:Type}[Rp K α]:Rp K (Option α):=⟨λF v a=>match a with
 |none=>v=.non
 |some x=>v≠.non/\rp K F v x,λ{F F' v a} s h=>match a,h with
 |none,h=>h
 |some x,h=>⟨h.1,Rp.mono s h.2⟩⟩
instance{α:Type}[Rp K α]:Rp K (List α):=⟨λF v xs=>∃p vs,v=.ref p/\F p=some (.lst vs)/\A2 (rp K F) vs xs,λs ⟨p,vs,h1,h2,h3⟩=>⟨p,vs,h1,s _ _ h2,h3.imp λ_ _=>Rp.mono s⟩⟩
instance{α β:Type}[Rp K α][Rp K β]:Rp K (α×β):=⟨λF v x=>∃p a b,v=.ref p/\F p=some (.tup [a,b])/\rp K F a x.1/\rp K F b x.2,λs ⟨p,a,b,h1,h2,h3,h4⟩=>⟨p,a,b,h1,s _ _ h2,Rp.mono s h3,Rp.mono s h4⟩⟩
structure mq where
 ns:LI
instance:Rp K mq:=⟨λF v x=>∃p,v=.ref p/\bN K F p (x.ns.map V.int),λs ⟨p,h1,h2⟩=>⟨p,h1,s.seq h2⟩⟩
instance:Nn K Int:=⟨λh=>by cases h;intro e;cases e⟩
instance{α:Type}[Rp K α]:Nn K (List α):=⟨λ⟨_,_,h,_⟩=>by rw[h];intro e;cases e⟩
instance:Sc K Int:=⟨V.int,ae1,λh=>by cases h;rfl⟩
instance:Sc K Bool:=⟨V.bl,ae1,λh=>by cases h;rfl⟩
instance:Sc K Str:=⟨V.str,ae1,λh=>by cases h;rfl⟩
instance{α:Type}[Rp K α][Sc K α][Nn K α]:Sc K (Option α):=⟨λa=>match a with
 |none=>.non
 |some x=>Sc.val K x,λ{F v a}=>match a with
 |none=>ae1
 |some x=>⟨λh=>Sc.is.mp h.2,λh=>⟨Nn.nn (K:=K) (F:=F) (a:=x) (Sc.is.mpr h),Sc.is.mpr h⟩⟩,λ{a b} h=>match a,b,h with
 |none,none,_=>rfl
 |some x,some y,h=>by rw[Sc.inj (K:=K) (a:=x) (b:=y) h]
 |none,some y,h=>absurd h.symm (Nn.nn (K:=K) (F:=λ_=>none) (a:=y) (Sc.is.mpr rfl))
 |some x,none,h=>absurd h (Nn.nn (K:=K) (F:=λ_=>none) (a:=x) (Sc.is.mpr rfl))⟩
theorem D_{α:Type}[Rp K α][Sc K α]{a:α}(h:rp K F v a):rp K F' v a:=Sc.is.mpr (Sc.is.mp h)
inductive Md|nw|fz|hp
def dif(H a:Hp):Hp:=λb=>match a b with
 |none=>H b
 |some _=>none
def ext(c a H:Hp):Hp:=λb=>match a b with
 |none=>H b
 |some _=>c b
structure Bs where
 Fa:Hp
 H0:Hp
abbrev Own:=List (Addr×HO)
class Ob (K:Frag) (α:Type) where
 β:Type
 Vf:Rp K β
 ro:Hp->V->α->Own->Prop
 mono:∀{F F':Hp}{v:V}{a:α}{O:Own},Same F F'->ro F v a O->ro F' v a O
 val:α->β
 zx:∀{F:Hp}{v:V}{a:α}{O:Own},ro F v a O->(∀x∈O,F x.1=some x.2)->Rp.rp (K:=K) F v (val a)
def reg(B:Bs)(F H:Hp):Md->Hp
 |.nw=>dif F B.H0
 |.fz=>F
 |.hp=>H
theorem bQ:Same (dif H H0) H:=λb o h=>by
 unfold dif at h
 grind
theorem wP(h:a b=none):dif H a b=H b:=by
 unfold dif
 rw[h]
theorem vQ(s:Same H H'):Same (dif H a) (dif H' a):=λb o h=>by
 unfold dif at h ⊢
 cases e:a b with
 |none=>rw[e] at h;exact s b o h
 |some u=>grind
structure Ok(B:Bs)(F:Hp)(O:Own)(H:Hp):Prop where
 fh:Same F H
 h0:Same B.H0 H
 fa:∀b o,F b=some o->B.Fa b=some o\/B.H0 b=none
 fo:∀x∈O,F x.1=none/\B.H0 x.1=none/\H x.1=some x.2
 nd:(O.map (·.1)).Nodup
structure cG(B:Bs)(F H:Hp)(O:Own)(F' H':Hp):Prop where
 ff:Same F F'
 hh:Same H H'
 ok:Ok B F' O H'
 nw:∀b,F b=none->H b≠none->F' b=none
section
variable{B:Bs}{F H F' H' F2 H2:Hp}{O:Own}
theorem cG.refl(k:Ok B F O H):cG B F H O F H:=⟨.refl _,.refl _,k,λ_ h _=>h⟩
theorem cG.trans(a:cG B F H O F' H')(b:cG B F' H' O F2 H2):cG B F H O F2 H2 :=
 ⟨a.ff.trans b.ff,a.hh.trans b.hh,b.ok,λq d c=>b.nw q (a.nw q d c) λe=>c (a.hh.free e)⟩
theorem cG.new(k:Ok B F O H)(h:H p=none)(o:HO):cG B F H O (upd F p o) (upd H p o):=by
 have j:=k.fh.free h
 refine⟨aK j o,aK h o,⟨λb u e=>?_,k.h0.put (k.h0.free h) o,λb u e=>?_,λx f=>?_,k.nd⟩,λb d i=>?_⟩
 ·by_cases q:b=p
  ·subst q;rw[zT] at e ⊢;exact e
  ·rw[zX q] at e ⊢;exact k.fh b u e
 ·by_cases q:b=p
  ·subst q;exact .inr (k.h0.free h)
  ·rw[zX q] at e;exact k.fa b u e
 ·obtain⟨c,g,a⟩:=k.fo x f
  have q:=zW a h
  exact⟨by rw[zX q];exact c,g,by rw[zX q];exact a⟩
 ·rw[zX λe=>i (by grind)];exact d
theorem xX(g:cG B F H O F' H')(md:Md):Same (reg B F H md) (reg B F' H' md):=match md with
 |.nw=>vQ g.ff
 |.fz=>g.ff
 |.hp=>g.hh
end
inductive Slot(K:Frag):Type 1
 |un
 |fz (n:Bool) {α:Type} [Rp K α] (a:α)
 |hs {α:Type} [Rp K α] (a:α)
 |nu {α:Type} [Rp K α] (a:α)
 |ow (n:Bool) {α:Type} [Rp K α] (xs:List α)
 |od {α:Type} [Rp K α] (kvs:List (Key×α))
 |ob (n:Bool) {α:Type} [Ob K α] (a:α)
abbrev SL(K:Frag):=List (Slot K)
abbrev j9:Bool->Md
 |true=>.nw
 |false=>.fz
def lo(F:Hp)(O:Own)(H:Hp):Hp:=λb=>if(F b).isSome||(O.any λx=>x.1==b) then none else H b
inductive ao(B:Bs)(F L H:Hp):SL K->St->Own->Prop
 |nil:ao B F L H [] [] []
 |un {sl:SL K} {σ:St} {O:Own} {x:Option V}:ao B F L H sl σ O->ao B F L H (.un::sl) (x::σ) O
 |fz {n:Bool} {α:Type} [Rp K α] {a:α} {sl:SL K} {σ:St} {O:Own} {v:V}:rp K (reg B F H (j9 n)) v a->ao B F L H sl σ O->ao B F L H (.fz n a::sl) (some v::σ) O
 |hs {α:Type} [Rp K α] {a:α} {sl:SL K} {σ:St} {O:Own} {v:V}:rp K H v a->ao B F L H sl σ O->ao B F L H (.hs a::sl) (some v::σ) O
 |nu {α:Type} [Rp K α] {a:α} {sl:SL K} {σ:St} {O:Own} {v:V}:rp K (dif L B.H0) v a->ao B F L H sl σ O->ao B F L H (.nu a::sl) (some v::σ) O
 |ow {n:Bool} {α:Type} [Rp K α] {xs:List α} {sl:SL K} {σ:St} {O:Own} {p:Addr} {vs:List V}:A2 (rp K (reg B F H (j9 n))) vs xs->ao B F L H sl σ O->ao B F L H (.ow n xs::sl) (some (.ref p)::σ) ((p,.lst vs)::O)
 |od {α:Type} [Rp K α] {kvs:List (Key×α)} {sl:SL K} {σ:St} {O:Own} {p:Addr} {ks:List (Key×V)}:A2 (λ(x:Key×V) (y:Key×α)=>x.1=y.1/\rp K F x.2 y.2) ks kvs->ao B F L H sl σ O->ao B F L H (.od kvs::sl) (some (.ref p)::σ) ((p,.dK ks)::O)
 |ob {n:Bool} {α:Type} [Ob K α] {a:α} {sl:SL K} {σ:St} {O Oc:Own} {v:V}:Ob.ro K (reg B F H (j9 n)) v a Oc->ao B F L H sl σ O->ao B F L H (.ob n a::sl) (some v::σ) (Oc++O)
def At(B:Bs)(a:SL K)(F:Hp)(O:Own)(H:Hp)(σ:St):Prop:=Ok B F O H/\ao B F (lo F O H) H a σ O
abbrev lG:Slot K->Bool
 |@Slot.ow _ _ _ _ _=>true
 |@Slot.od _ _ _ _=>true
 |@Slot.ob _ _ _ _ _=>true
 |_=>false
abbrev pJ:Slot K->Bool
 |@Slot.hs _ _ _ _=>true
 |_=>false
section
variable{B:Bs}{F H F' H' L L':Hp}{O O':Own}{sl:SL K}{σ:St}
theorem vG(n:Bool)(a:Same F F'):Same (reg B F H (j9 n)) (reg B F' H' (j9 n)):=match n with
 |true=>vQ a
 |false=>a
theorem ao.mono(a:Same F F')(c:Same L L')(b:Same H H')(h:ao B F L H sl σ O):ao B F' L' H' sl σ O:=by
 induction h with
 |nil=>exact .nil
 |un _ ih=>exact .un ih
 |fz r _ ih=>exact .fz (Rp.mono (vG _ a) r) ih
 |hs r _ ih=>exact .hs (Rp.mono b r) ih
 |nu r _ ih=>exact .nu (Rp.mono (vQ c) r) ih
 |ow r _ ih=>exact .ow (r.imp λ_ _=>Rp.mono (vG _ a)) ih
 |od r _ ih=>exact .od (r.imp λ_ _ z=>⟨z.1,Rp.mono a z.2⟩) ih
 |ob r _ ih=>exact .ob (Ob.mono (vG _ a) r) ih
theorem ao.mut(a:Same L L')(h:ao B F L H sl σ O)(hn:sl.all (λs=>!pJ s)=true):ao B F L' H' sl σ O:=by
 induction h with
 |nil=>exact .nil
 |un _ ih=>exact .un (ih (by grind))
 |fz r _ ih=>exact .fz (Rp.mono (vG _ (.refl _)) r) (ih (by grind))
 |hs r _ ih=>grind
 |nu r _ ih=>exact .nu (Rp.mono (vQ a) r) (ih (by grind))
 |ow r _ ih=>exact .ow (r.imp λ_ _=>Rp.mono (vG _ (.refl _))) (ih (by grind))
 |od r _ ih=>exact .od r (ih (by grind))
 |ob r _ ih=>exact .ob (Ob.mono (vG _ (.refl _)) r) (ih (by grind))
theorem zTh(g:cG B F H O F' H'):Same (lo F O H) (lo F' O H'):=λb o h=>by
 unfold lo at h ⊢
 cases e:(F b).isSome||(O.any λx=>x.1==b) with
 |true=>grind
 |false =>
  rw[e] at h
  have a:H b=some o:=h
  rw[Bool.or_eq_false_iff] at e
  have c:F' b=none:=g.nw b (by cases q:F b with|none=>rfl|some u=>grind) (by grind)
  rw[c,e.2]
  exact g.hh b o a
theorem At.grow(h:At B sl F O H σ)(g:cG B F H O F' H'):At B sl F' O H' σ:=⟨g.ok,h.2.mono g.ff (zTh g) g.hh⟩
theorem ao.len(h:ao B F L H sl σ O):σ.length=sl.length:=by
 induction h with
 |nil=>rfl
 |un _ ih=>grind
 |fz _ _ ih=>grind
 |hs _ _ ih=>grind
 |nu _ _ ih=>grind
 |ow _ _ ih=>grind
 |od _ _ ih=>grind
 |ob _ _ ih=>grind
theorem ao.Br{α:Type}[Rp K α]{a:α}(h:ao B F L H sl σ O):∀{i:Nat},sl[i]?=some (.fz n a)->∃v,σ[i]?=some (some v)/\rp K (reg B F H (j9 n)) v a:=by
 induction h with
 |nil=>intro i e;simp at e
 |fz r _ ih =>
  intro i e
  cases i with
  |zero=>simp only[getElem?_cons_zero] at e;cases e;exact⟨_,rfl,r⟩
  |succ i=>exact ih (by simpa using e)
 |_ =>
  rename_i ih
  intro i e
  cases i with
  |zero=>simp only[getElem?_cons_zero] at e;cases e
  |succ i=>exact ih (by simpa using e)
theorem ao.Vg{α:Type}[Rp K α]{a:α}(h:ao B F L H sl σ O):∀{i:Nat},sl[i]?=some (.hs a)->∃v,σ[i]?=some (some v)/\rp K H v a:=by
 induction h with
 |nil=>intro i e;simp at e
 |hs r _ ih =>
  intro i e
  cases i with
  |zero=>simp only[getElem?_cons_zero] at e;cases e;exact⟨_,rfl,r⟩
  |succ i=>exact ih (by simpa using e)
 |_ =>
  rename_i ih
  intro i e
  cases i with
  |zero=>simp only[getElem?_cons_zero] at e;cases e
  |succ i=>exact ih (by simpa using e)
theorem ao.v7{α:Type}[Rp K α]{a:α}(h:ao B F L H sl σ O):∀{i:Nat},sl[i]?=some (.nu a)->∃v,σ[i]?=some (some v)/\rp K (dif L B.H0) v a:=by
 induction h with
 |nil=>intro i e;simp at e
 |nu r _ ih =>
  intro i e
  cases i with
  |zero=>simp only[getElem?_cons_zero] at e;cases e;exact⟨_,rfl,r⟩
  |succ i=>exact ih (by simpa using e)
 |_ =>
  rename_i ih
  intro i e
  cases i with
  |zero=>simp only[getElem?_cons_zero] at e;cases e
  |succ i=>exact ih (by simpa using e)
theorem ao.put(h:ao B F L H sl σ O)(a:∀(sl:SL K) (σ:St) (O:Own),ao B F L H sl σ O->ao B F L H (s'::sl) (x::σ) O):∀{i:Nat},sl[i]?=some s->lG s=false->ao B F L H (sl.set i s') (σ.set i x) O:=by
 induction h with
 |nil=>intro i e;simp at e
 |un g ih =>
  intro i e o
  cases i with
  |zero=>exact a _ _ _ g
  |succ i=>exact .un (ih (by simpa using e) o)
 |fz r g ih =>
  intro i e o
  cases i with
  |zero=>exact a _ _ _ g
  |succ i=>exact .fz r (ih (by simpa using e) o)
 |hs r g ih =>
  intro i e o
  cases i with
  |zero=>exact a _ _ _ g
  |succ i=>exact .hs r (ih (by simpa using e) o)
 |nu r g ih =>
  intro i e o
  cases i with
  |zero=>exact a _ _ _ g
  |succ i=>exact .nu r (ih (by simpa using e) o)
 |ow r g ih =>
  intro i e o
  cases i with
  |zero=>grind
  |succ i=>exact .ow r (ih (by simpa using e) o)
 |od r g ih =>
  intro i e o
  cases i with
  |zero=>simp only[getElem?_cons_zero] at e;cases e;cases o
  |succ i=>exact .od r (ih (by simpa using e) o)
 |ob r g ih =>
  intro i e o
  cases i with
  |zero=>simp only[getElem?_cons_zero] at e;cases e;cases o
  |succ i=>exact .ob r (ih (by simpa using e) o)
theorem ao.own(h:ao B F L H sl σ O)(b:∀(sl:SL K) (σ:St) (O:Own),ao B F L H sl σ O->ao B F L H (s'::sl) (x::σ) (c::O)) :
  ∀{i:Nat},sl[i]?=some s->lG s=false->∃O1 O2,O=O1++O2/\ao B F L H (sl.set i s') (σ.set i x) (O1++c::O2):=by
 induction h with
 |nil=>intro i e;simp at e
 |un g ih =>
  intro i e o
  cases i with
  |zero=>exact⟨[],_,rfl,b _ _ _ g⟩
  |succ i=>obtain⟨O1,O2,q,z⟩:=ih (by simpa using e) o;exact⟨O1,O2,q,.un z⟩
 |fz r g ih =>
  intro i e o
  cases i with
  |zero=>exact⟨[],_,rfl,b _ _ _ g⟩
  |succ i=>obtain⟨O1,O2,q,z⟩:=ih (by simpa using e) o;exact⟨O1,O2,q,.fz r z⟩
 |hs r g ih =>
  intro i e o
  cases i with
  |zero=>exact⟨[],_,rfl,b _ _ _ g⟩
  |succ i=>obtain⟨O1,O2,q,z⟩:=ih (by simpa using e) o;exact⟨O1,O2,q,.hs r z⟩
 |nu r g ih =>
  intro i e o
  cases i with
  |zero=>exact⟨[],_,rfl,b _ _ _ g⟩
  |succ i=>obtain⟨O1,O2,q,z⟩:=ih (by simpa using e) o;exact⟨O1,O2,q,.nu r z⟩
 |ow r g ih =>
  intro i e o
  cases i with
  |zero=>simp only[getElem?_cons_zero] at e;cases e;cases o
  |succ i=>obtain⟨O1,O2,q,z⟩:=ih (by simpa using e) o;exact⟨_::O1,O2,by rw[q]<;>rfl,.ow r z⟩
 |od r g ih =>
  intro i e o
  cases i with
  |zero=>simp only[getElem?_cons_zero] at e;cases e;cases o
  |succ i=>obtain⟨O1,O2,q,z⟩:=ih (by simpa using e) o;exact⟨_::O1,O2,by rw[q]<;>rfl,.od r z⟩
 |@ob _ _ _ _ _ _ _ d _ r g ih =>
  intro i e o
  cases i with
  |zero=>simp only[getElem?_cons_zero] at e;cases e;cases o
  |succ i =>
   obtain⟨O1,O2,q,z⟩:=ih (by simpa using e) o
   refine⟨d++O1,O2,by rw[q,append_assoc],?_⟩
   rw[append_assoc]
   exact .ob r z
theorem ao.rD{α:Type}[Rp K α]{xs:List α}(h:ao B F L H sl σ O):∀{i:Nat},sl[i]?=some (.ow n xs) ->
  ∃O1 O2 p vs,O=O1++(p,.lst vs)::O2/\σ[i]?=some (some (.ref p))/\A2 (rp K (reg B F H (j9 n))) vs xs /\
   (∀(s':Slot K)(x:Option V)(c:Addr×HO),(∀(sl:SL K)(σ:St)(O:Own),ao B F L H sl σ O->ao B F L H (s'::sl) (x::σ) (c::O))->ao B F L H (sl.set i s') (σ.set i x) (O1++c::O2)) /\
   (∀(s':Slot K)(x:Option V),(∀(sl:SL K)(σ:St)(O:Own),ao B F L H sl σ O->ao B F L H (s'::sl) (x::σ) O)->ao B F L H (sl.set i s') (σ.set i x) (O1++O2)):=by
 induction h with
 |nil=>intro i e;simp at e
 |un g ih =>
  intro i e
  cases i with
  |zero=>simp only[getElem?_cons_zero] at e;cases e
  |succ i=>obtain⟨O1,O2,p,vs,q,f,b,j,d⟩:=ih (by simpa using e);exact⟨O1,O2,p,vs,q,f,b,λs' x c z=>.un (j s' x c z),λs' x z=>.un (d s' x z)⟩
 |fz r g ih =>
  intro i e
  cases i with
  |zero=>simp only[getElem?_cons_zero] at e;cases e
  |succ i=>obtain⟨O1,O2,p,vs,q,f,b,j,d⟩:=ih (by simpa using e);exact⟨O1,O2,p,vs,q,f,b,λs' x c z=>.fz r (j s' x c z),λs' x z=>.fz r (d s' x z)⟩
 |hs r g ih =>
  intro i e
  cases i with
  |zero=>simp only[getElem?_cons_zero] at e;cases e
  |succ i=>obtain⟨O1,O2,p,vs,q,f,b,j,d⟩:=ih (by simpa using e);exact⟨O1,O2,p,vs,q,f,b,λs' x c z=>.hs r (j s' x c z),λs' x z=>.hs r (d s' x z)⟩
 |nu r g ih =>
  intro i e
  cases i with
  |zero=>simp only[getElem?_cons_zero] at e;cases e
  |succ i=>obtain⟨O1,O2,p,vs,q,f,b,j,d⟩:=ih (by simpa using e);exact⟨O1,O2,p,vs,q,f,b,λs' x c z=>.nu r (j s' x c z),λs' x z=>.nu r (d s' x z)⟩
 |ow r g ih =>
  intro i e
  cases i with
  |zero=>simp only[getElem?_cons_zero] at e;cases e;exact⟨[],_,_,_,rfl,rfl,r,λs' x c z=>z _ _ _ g,λs' x z=>z _ _ _ g⟩
  |succ i=>obtain⟨O1,O2,p,vs,q,f,b,j,d⟩:=ih (by simpa using e);exact⟨_::O1,O2,p,vs,by rw[q]<;>rfl,f,b,λs' x c z=>.ow r (j s' x c z),λs' x z=>.ow r (d s' x z)⟩
 |od r g ih =>
  intro i e
  cases i with
  |zero=>simp only[getElem?_cons_zero] at e;cases e
  |succ i=>obtain⟨O1,O2,p,vs,q,f,b,j,d⟩:=ih (by simpa using e);exact⟨_::O1,O2,p,vs,by rw[q]<;>rfl,f,b,λs' x c z=>.od r (j s' x c z),λs' x z=>.od r (d s' x z)⟩
 |@ob _ _ _ _ _ _ _ k _ r g ih =>
  intro i e
  cases i with
  |zero=>simp only[getElem?_cons_zero] at e;cases e
  |succ i =>
   obtain⟨O1,O2,p,vs,q,f,b,j,d⟩:=ih (by simpa using e)
   refine⟨k++O1,O2,p,vs,by rw[q,append_assoc],f,b,λs' x c z=>?_,λs' x z=>?_⟩
   ·rw[append_assoc];exact .ob r (j s' x c z)
   ·rw[append_assoc];exact .ob r (d s' x z)
theorem ao.KH{α:Type}[Rp K α]{kvs:List (Key×α)}(h:ao B F L H sl σ O):∀{i:Nat},sl[i]?=some (.od kvs) ->
  ∃O1 O2 p ks,O=O1++(p,.dK ks)::O2/\σ[i]?=some (some (.ref p))/\A2 (λ(x:Key×V) (y:Key×α)=>x.1=y.1/\rp K F x.2 y.2) ks kvs /\
   (∀(s':Slot K)(x:Option V)(c:Addr×HO),(∀(sl:SL K)(σ:St)(O:Own),ao B F L H sl σ O->ao B F L H (s'::sl) (x::σ) (c::O))->ao B F L H (sl.set i s') (σ.set i x) (O1++c::O2)) /\
   (∀(s':Slot K)(x:Option V),(∀(sl:SL K)(σ:St)(O:Own),ao B F L H sl σ O->ao B F L H (s'::sl) (x::σ) O)->ao B F L H (sl.set i s') (σ.set i x) (O1++O2)):=by
 induction h with
 |nil=>intro i e;simp at e
 |un g ih =>
  intro i e
  cases i with
  |zero=>simp only[getElem?_cons_zero] at e;cases e
  |succ i=>obtain⟨O1,O2,p,f,q,d,a,j,b⟩:=ih (by simpa using e);exact⟨O1,O2,p,f,q,d,a,λs' x c z=>.un (j s' x c z),λs' x z=>.un (b s' x z)⟩
 |fz r g ih =>
  intro i e
  cases i with
  |zero=>simp only[getElem?_cons_zero] at e;cases e
  |succ i=>obtain⟨O1,O2,p,f,q,d,a,j,b⟩:=ih (by simpa using e);exact⟨O1,O2,p,f,q,d,a,λs' x c z=>.fz r (j s' x c z),λs' x z=>.fz r (b s' x z)⟩
 |hs r g ih =>
  intro i e
  cases i with
  |zero=>simp only[getElem?_cons_zero] at e;cases e
  |succ i=>obtain⟨O1,O2,p,f,q,d,a,j,b⟩:=ih (by simpa using e);exact⟨O1,O2,p,f,q,d,a,λs' x c z=>.hs r (j s' x c z),λs' x z=>.hs r (b s' x z)⟩
 |nu r g ih =>
  intro i e
  cases i with
  |zero=>simp only[getElem?_cons_zero] at e;cases e
  |succ i=>obtain⟨O1,O2,p,f,q,d,a,j,b⟩:=ih (by simpa using e);exact⟨O1,O2,p,f,q,d,a,λs' x c z=>.nu r (j s' x c z),λs' x z=>.nu r (b s' x z)⟩
 |od r g ih =>
  intro i e
  cases i with
  |zero=>simp only[getElem?_cons_zero] at e;cases e;exact⟨[],_,_,_,rfl,rfl,r,λs' x c z=>z _ _ _ g,λs' x z=>z _ _ _ g⟩
  |succ i=>obtain⟨O1,O2,p,f,q,d,a,j,b⟩:=ih (by simpa using e);exact⟨_::O1,O2,p,f,by rw[q]<;>rfl,d,a,λs' x c z=>.od r (j s' x c z),λs' x z=>.od r (b s' x z)⟩
 |ow r g ih =>
  intro i e
  cases i with
  |zero=>simp only[getElem?_cons_zero] at e;cases e
  |succ i=>obtain⟨O1,O2,p,f,q,d,a,j,b⟩:=ih (by simpa using e);exact⟨_::O1,O2,p,f,by rw[q]<;>rfl,d,a,λs' x c z=>.ow r (j s' x c z),λs' x z=>.ow r (b s' x z)⟩
 |@ob _ _ _ _ _ _ _ k _ r g ih =>
  intro i e
  cases i with
  |zero=>simp only[getElem?_cons_zero] at e;cases e
  |succ i =>
   obtain⟨O1,O2,p,f,q,d,a,j,b⟩:=ih (by simpa using e)
   refine⟨k++O1,O2,p,f,by rw[q,append_assoc],d,a,λs' x c z=>?_,λs' x z=>?_⟩
   ·rw[append_assoc];exact .ob r (j s' x c z)
   ·rw[append_assoc];exact .ob r (b s' x z)
end
end
section
variable{K:Frag}{B:Bs}{F H F' H' L L':Hp}{O O' O1 O2:Own}{sl:SL K}{σ:St}{p:Addr}{o o':HO}
theorem Oe{α:Type}{a b:List α}{x:α}:(a++x::b).Nodup↔(a++b).Nodup/\x∉a++b:=by
 grind
theorem Ok.add(k:Ok B F (O1++O2) H)(h:H p=none):Ok B F (O1++(p,o)::O2) (upd H p o):=by
 refine⟨λb u e=>?_,k.h0.put (k.h0.free h) o,k.fa,λx hx=>?_,?_⟩
 ·rw[zX (zW (k.fh b u e) h)];exact k.fh b u e
 ·have hx':x=(p,o)\/x∈O1++O2:=by
   grind
  rcases hx' with rfl|hx'
  ·exact⟨k.fh.free h,k.h0.free h,zT⟩
  ·obtain⟨a1,a2,a3⟩:=k.fo x hx'
   exact⟨a1,a2,by rw[zX (zW a3 h)];exact a3⟩
 ·rw[map_append,map_cons,Oe,<-map_append]
  refine⟨k.nd,λz=>?_⟩
  obtain⟨x,hx,e⟩:=mem_map.mp z
  obtain⟨_,_,a3⟩:=k.fo x hx
  grind
theorem Ok.one(k:Ok B F (O1++(p,o)::O2) H):F p=none/\B.H0 p=none/\H p=some o:=k.fo (p,o) (mem_append.mpr (.inr mem_cons_self))
theorem Ok.ndp(k:Ok B F (O1++(p,o)::O2) H):∀x∈O1++O2,x.1≠p:=λx hx e=>by
 have q:=k.nd
 grind
theorem Ok.drop(k:Ok B F (O1++(p,o)::O2) H):Ok B F (O1++O2) H:=by
 refine⟨k.fh,k.h0,k.fa,λx hx=>k.fo x ?_,?_⟩
 ·grind
 ·have q:=k.nd
  grind
theorem Ok.chg(k:Ok B F (O1++(p,o)::O2) H)(o':HO):Ok B F (O1++(p,o')::O2) (upd H p o'):=by
 obtain⟨a1,a2,a3⟩:=k.one
 refine⟨k.fh.put a1 o',k.h0.put a2 o',k.fa,λx hx=>?_,?_⟩
 ·have hx':x=(p,o')\/x∈O1++O2:=by
   grind
  rcases hx' with rfl|hx'
  ·exact⟨a1,a2,zT⟩
  ·obtain⟨b1,b2,b3⟩:=k.drop.fo x hx'
   exact⟨b1,b2,by rw[zX (k.ndp x hx')];exact b3⟩
 ·have q:=k.nd
  grind
theorem Ok.freeze(k:Ok B F (O1++(p,o)::O2) H):Ok B (upd F p o) (O1++O2) H:=by
 obtain⟨a1,a2,a3⟩:=k.one
 refine⟨λb u e=>?_,k.h0,λb u e=>?_,λx hx=>?_,k.drop.nd⟩
 ·by_cases q:b=p
  ·subst q;rw[zT] at e;grind
  ·rw[zX q] at e;exact k.fh b u e
 ·by_cases q:b=p
  ·grind
  ·rw[zX q] at e;exact k.fa b u e
 ·obtain⟨b1,b2,b3⟩:=k.drop.fo x hx
  exact⟨by rw[zX (k.ndp x hx)];exact b1,b2,b3⟩
theorem zZn(h:H p=none):Same (lo F (O1++O2) H) (lo F (O1++(p,o)::O2) (upd H p o)):=λb u e=>by
 unfold lo at e ⊢
 by_cases q:b=p
 ·grind
 ·rw[zX q]
  grind
theorem zZm:Same (lo F (O1++(p,o)::O2) H) (lo F (O1++(p,o')::O2) (upd H p o')):=λb u e=>by
 unfold lo at e ⊢
 by_cases q:b=p
 ·grind
 ·rw[zX q]
  grind
theorem oU:Same (lo F (O1++(p,o)::O2) H) (lo F (O1++O2) H):=λb u e=>by
 unfold lo at e ⊢
 grind
theorem nj:Same (lo F (O1++(p,o)::O2) H) (lo (upd F p o) (O1++O2) H):=λb u e=>by
 unfold lo at e ⊢
 split at e
 ·cases e
 ·rename_i h
  rw[List.any_append,any_cons] at h
  simp at h
  have q:b≠p:=λz=>h.2.2.1 z.symm
  rw[zX q,if_neg]
  ·exact e
  ·rw[List.any_append]
   simp
   exact⟨h.1,h.2.1,h.2.2.2⟩
theorem Ok.called(k:Ok B F O H)(s:Same H H'):cG B F H O (ext F H H') H':=by
 have e1:∀b o,ext F H H' b=some o->F b=some o\/H b=none:=λb o h=>by
  unfold ext at h
  grind
 refine⟨λb o h=>?_,s,⟨λb o h=>?_,k.h0.trans s,λb o h=>?_,λx hx=>?_,k.nd⟩,λb h1 h2=>?_⟩
 ·unfold ext
  rw[k.fh b o h]
  exact h
 ·unfold ext at h
  cases q:H b with
  |none=>grind
  |some u=>rw[q] at h;rw[<-k.fh b o h];exact(s b u q).trans q.symm
 ·rcases e1 b o h with z|z
  ·exact k.fa b o z
  ·exact .inr (k.h0.free z)
 ·obtain⟨a1,a2,a3⟩:=k.fo x hx
  refine⟨?_,a2,s _ _ a3⟩
  unfold ext
  grind
 ·unfold ext
  grind
theorem zNa(h0:Same B.H0 H)(s:Same H H'):Same (dif H' H) (dif (ext F H H') B.H0):=λb o h=>by
 unfold dif at h
 cases q:H b with
 |none =>
  rw[wP (h0.free q)]
  unfold ext
  grind
 |some u=>grind
theorem zXn(s:Same H H'):Same (ext H H H') H':=λb o h=>by
 unfold ext at h
 cases q:H b with
 |none=>grind
 |some u=>rw[q] at h;cases(h);exact s b _ q
theorem Og(h0:Same B.H0 H):Same (ext (dif F B.H0) H H') (dif (ext F H H') B.H0):=λb o h=>by
 unfold ext at h
 cases q:H b with
 |none =>
  rw[wP (h0.free q)]
  unfold ext
  grind
 |some u =>
  have z:B.H0 b=none:=by
   cases z:B.H0 b with
   |none=>rfl
   |some w =>
    unfold dif at h
    grind
  rw[wP z] at h ⊢
  unfold ext
  grind
variable{md md1 md2:Md}{α β γ:Type}[Rp K α][Rp K β][Rp K γ]{t t1 t2:TE}{m:Option α}{m1:Option β}{m2:Option γ}
noncomputable def Ex(B:Bs)(sl:SL K)(md:Md)(t:TE){α:Type}[Rp K α](m:Option α):Prop :=
 ∀a,m=some a->∀(F:Hp)(O:Own)(H:Hp)(σ:St)(Q:VK),At B sl F O H σ->(∀(v:V)(F' H':Hp),cG B F H O F' H'->rp K (reg B F' H' md) v a->Q v H')->t σ H Q
noncomputable def Et(B:Bs)(sl:SL K)(t:TT)(m:Option Bool):Prop :=
 ∀a,m=some a->∀(F:Hp)(O:Own)(H:Hp)(σ:St)(Q:Bool->Hp->Prop),At B sl F O H σ->(∀(F' H':Hp),cG B F H O F' H'->Q a H')->t σ H Q
inductive Ar(R:Hp):SL K->List V->Prop
 |nil:Ar R [] []
 |cons {n:Bool} {α:Type} [Rp K α] {a:α} {v:V} {sl:SL K} {vs:List V}:rp K R v a->Ar R sl vs->Ar R (.fz n a::sl) (v::vs)
noncomputable def Ea(B:Bs)(sl:SL K)(md:Md)(t:TA){A:Type}(as:A->SL K)(m:Option A):Prop :=
 ∀a,m=some a->∀(F:Hp)(O:Own)(H:Hp)(σ:St)(Q:List V->Hp->Prop),At B sl F O H σ->(∀(vs:List V)(F' H':Hp),cG B F H O F' H'->Ar (reg B F' H' md) (as a) vs->Q vs H')->t σ H Q
theorem Ex.sc[Sc K α](h:Ex B sl md t m):Ex B sl md1 t m:=λa ha F O H σ Q s k=>h a ha F O H σ Q s λv F' H' g r=>k v F' H' g (D_ r)
theorem zNc[Nn K α](h:Ex B sl md t m):Ex B sl md t (m.bind λa=>some (some a)):=λa ha F O H σ Q s k=>by
 cases m with
 |none=>cases ha
 |some a' =>
  cases(ha)
  exact h a' rfl F O H σ Q s λv F' H' g r=>k v F' H' g ⟨Nn.nn r,r⟩
theorem yF{n:Bool}{a:α}(i:Nat)(hs:sl[i]?=some (.fz n a)):Ex B sl (j9 n) (eU i) (some a):=λa' ha F O H σ Q s k=>by
 cases ha
 obtain⟨v,h1,h2⟩:=s.2.Br hs
 exact⟨v,h1,k v F H (.refl s.1) h2⟩
theorem zH[Sc K α]{n:Bool}{a:α}(i:Nat)(hs:sl[i]?=some (.fz n a)):Ex B sl md (eU i) (some a):=(yF i hs).sc
theorem lo_le:Same (lo F O H) H:=λb o h=>by
 unfold lo at h
 grind
theorem HD(k:Ok B F O H)(n:Bool):Same (reg B F H (j9 n)) H:=match n with
 |true=>bQ.trans k.fh
 |false=>k.fh
theorem zE{n:Bool}{a:α}(i:Nat)(hs:sl[i]?=some (.fz n a)):Ex B sl .hp (eU i) (some a):=λa' ha F O H σ Q s k=>by
 cases ha
 obtain⟨v,h1,h2⟩:=s.2.Br hs
 exact⟨v,h1,k v F H (.refl s.1) (Rp.mono (HD s.1 n) h2)⟩
theorem vN{n:Bool}{xs:List α}(i:Nat)(hs:sl[i]?=some (.ow n xs)):Ex B sl .hp (eU i) (some xs):=λa' ha F O H σ Q s k=>by
 cases ha
 obtain⟨O1,O2,p,vs,rfl,h1,h2,_⟩:=s.2.rD hs
 exact⟨_,h1,k _ F H (.refl s.1) ⟨p,vs,rfl,s.1.one.2.2,h2.imp λ_ _=>Rp.mono (HD s.1 n)⟩⟩
theorem Oh[Sc K α](a:α):Ex B sl md (tC (Sc.val K a)) (some a):=λa' ha F O H σ Q s k=>by cases ha;exact k _ F H (.refl s.1) (Sc.is.mpr rfl)
theorem zL(i:Int):Ex B sl md (tC (.int i)) (some i):=Oh i
theorem Eb(i:Bool):Ex B sl md (tC (.bl i)) (some i):=Oh i
theorem yY(i:Str):Ex B sl md (tC (.str i)) (some i):=Oh i
theorem zT6:Ex B sl md (tC .non) (some (none:Option α)):=λa' ha F O H σ Q s k=>by cases ha;exact k _ F H (.refl s.1) rfl
theorem sZ{f:β->γ->Option α}(h:(m1.bind λa=>m2.bind λb=>f a b)=some c):∃a b,m1=some a/\m2=some b/\f a b=some c:=by
 cases m1 with
 |none=>cases h
 |some a =>
  cases m2 with
  |none=>cases h
  |some b=>grind
theorem Ca{f:β->γ->Option α}[Sc K α](hr:∀(a:β) (b:γ) (c:α) (v w:V) (H:Hp) (Q:VK),f a b=some c->rp K H v a->rp K H w b->Q (Sc.val K c) H->r v w H Q)(h1:Ex B sl .hp t1 m1)(h2:Ex B sl .hp t2 m2):Ex B sl md (jf r t1 t2) (m1.bind λa=>m2.bind λb=>f a b):=λc hc F O H σ Q s k=>by
 obtain⟨a,b,ha,hb,hf⟩:=sZ hc
 refine h1 a ha F O H σ _ s λv F' H' g r1=>?_
 refine h2 b hb F' O H' σ _ (s.grow g) λw F2 H2 g2 r2=>?_
 exact hr a b c v w H2 Q hf (Rp.mono g2.hh r1) r2 (k _ F2 H2 (g.trans g2) (Sc.is.mpr rfl))
theorem yG(h:Ex B sl md t m'):Et B sl (Kv t) m':=λc hc F O H σ Q s k=>h c hc F O H σ _ s λv F' H' g r=>⟨c,r,k F' H' g⟩
theorem cZ(h:Ex B sl md t m'):Et B sl (tB t) m':=λc hc F O H σ Q s k=>h c hc F O H σ _ s λv F' H' g r=>⟨c,r,k F' H' g⟩
theorem Oi{t:TT}{n:Option Bool}(h:Et B sl t n):Et B sl (Us t) (n.bind λc=>some !c):=λc hc F O H σ Q s k=>by
 cases n with
 |none=>cases hc
 |some c' =>
  cases(hc)
  exact h c' rfl F O H σ _ s λF' H' g=>k F' H' g
theorem Oj(h:Ex B sl .hp t n):Ex B sl md (Km t) (n.bind λc=>some !c):=λc hc F O H σ Q s k=>by
 cases n with
 |none=>cases hc
 |some c' =>
  cases(hc)
  refine h c' rfl F O H σ _ s λv F' H' g r=>?_
  cases r
  exact⟨c',rfl,k _ F' H' g rfl⟩
theorem Yd{t u:TT}{n n':Option Bool}(h:Et B sl t n)(h':Et B sl u n'):Et B sl (Ur t u) (n.bind λc=>if c=true then n' else some false):=λc hc F O H σ Q s k=>by
 cases n with
 |none=>cases hc
 |some c' =>
  refine h c' rfl F O H σ _ s λF' H' g=>?_
  cases c' with
  |true=>exact sX (h' c (by simpa using hc) F' O H' σ _ (s.grow g) λF2 H2 g2=>k F2 H2 (g.trans g2))
  |false=>cases(show some false=some c from by simpa using hc);exact sW (k F' H' g)
theorem KJ{t u:TT}{n n':Option Bool}(h:Et B sl t n)(h':Et B sl u n'):Et B sl (tOr t u) (n.bind λc=>if c=true then some true else n'):=λc hc F O H σ Q s k=>by
 cases n with
 |none=>cases hc
 |some c' =>
  refine h c' rfl F O H σ _ s λF' H' g=>?_
  cases c' with
  |true=>cases(show some true=some c from by simpa using hc);exact sX (k F' H' g)
  |false=>exact sW (h' c (by simpa using hc) F' O H' σ _ (s.grow g) λF2 H2 g2=>k F2 H2 (g.trans g2))
theorem zUd(h:Ex B sl .hp t1 n)(h':Ex B sl .hp t2 n'):Ex B sl md (Kl t1 t2) (n.bind λc=>if c=true then n' else some false):=λc hc F O H σ Q s k=>by
 cases n with
 |none=>cases hc
 |some c' =>
  refine h c' rfl F O H σ _ s λv F' H' g r=>?_
  cases r
  refine⟨c',rfl,?_⟩
  cases c' with
  |true=>exact sX (h' c (by simpa using hc) F' O H' σ _ (s.grow g) λv F2 H2 g2 r2=>k v F2 H2 (g.trans g2) (D_ r2))
  |false=>cases(show some false=some c from by simpa using hc);exact sW (k _ F' H' g rfl)
theorem zZv{t:TT}{n:Option Bool}{m m':Option α}(h:Et B sl t n)(h1:Ex B sl md t1 m)(h2:Ex B sl md t2 m'):Ex B sl md (tIf t t1 t2) (n.bind λc=>if c=true then m else m'):=λc hc F O H σ Q s k=>by
 cases n with
 |none=>cases hc
 |some c' =>
  refine h c' rfl F O H σ _ s λF' H' g=>?_
  cases c' with
  |true=>exact sX (h1 c (by simpa using hc) F' O H' σ _ (s.grow g) λv F2 H2 g2 r2=>k v F2 H2 (g.trans g2) r2)
  |false=>exact sW (h2 c (by simpa using hc) F' O H' σ _ (s.grow g) λv F2 H2 g2 r2=>k v F2 H2 (g.trans g2) r2)
theorem zN:Ea B sl md bT (λ_:Unit=>[]) (some ()):=λa ha F O H σ Q s k=>k [] F H (.refl s.1) .nil
theorem zD{A:Type}{as:A->SL K}{ma:Option A}(h1:Ex B sl md t m)(h2:Ea B sl md tr as ma):Ea B sl md (wI t tr) (λx:α×A=>.fz false x.1::as x.2) (m.bind λa=>ma.bind λb=>some (a,b)):=λc hc F O H σ Q s k=>by
 cases m with
 |none=>cases hc
 |some a =>
  cases ma with
  |none=>cases hc
  |some b =>
   cases(show some (a,b)=some c from hc)
   refine h1 a rfl F O H σ _ s λv F' H' g r1=>?_
   refine h2 b rfl F' O H' σ _ (s.grow g) λvs F2 H2 g2 r2=>?_
   exact k (v::vs) F2 H2 (g.trans g2) (.cons (Rp.mono (xX g2 md) r1) r2)
theorem Vh(k:Ok B F O H)(h:H p=none)(md:Md):reg B (upd F p o) (upd H p o) md p=some o:=match md with
 |.nw=>by show dif (upd F p o) B.H0 p=_;rw[wP (k.h0.free h)];exact zT
 |.fz=>zT
 |.hp=>zT
def cap:Nat:=100000
theorem HF(h:n<cap):n<sizeLine:=aef h (by decide)
theorem zZ4(h:n<=cap):n<=sizeLine:=aa4 h (by decide)
noncomputable def El(B:Bs)(sl:SL K)(md:Md)(t:TA){α:Type}[Rp K α](m:Option (List α)):Prop :=
 ∀a,m=some a->∀(F:Hp)(O:Own)(H:Hp)(σ:St)(Q:List V->Hp->Prop),At B sl F O H σ->(∀(vs:List V)(F' H':Hp),cG B F H O F' H'->A2 (rp K (reg B F' H' md)) vs a->Q vs H')->t σ H Q
theorem Ec:El B sl md bT (some ([]:List α)):=λa ha F O H σ Q s k=>by cases ha;exact k [] F H (.refl s.1) trivial
theorem yU(h1:Ex B sl md t m)(h2:El B sl md tr ma):El B sl md (wI t tr) (m.bind λa=>ma.bind λb=>some (a::b)):=λc hc F O H σ Q s k=>by
 cases m with
 |none=>cases hc
 |some a =>
  cases ma with
  |none=>cases hc
  |some b =>
   cases(show some (a::b)=some c from hc)
   refine h1 a rfl F O H σ _ s λv F' H' g r1=>?_
   refine h2 b rfl F' O H' σ _ (s.grow g) λvs F2 H2 g2 r2=>?_
   exact k (v::vs) F2 H2 (g.trans g2) ⟨Rp.mono (xX g2 md) r1,r2⟩
noncomputable def Eo(B:Bs)(sl:SL K)(md:Md)(t:TE){α:Type}[Rp K α](m:Option (List α)):Prop :=
 ∀a,m=some a->∀(F:Hp)(O:Own)(H:Hp)(σ:St)(Q:VK),At B sl F O H σ->(∀(p:Addr)(vs:List V)(F' H':Hp),cG B F H O F' H'->H' p=none->A2 (rp K (reg B F' H' md)) vs a->Q (.ref p) (upd H' p (.lst vs)))->t σ H Q
theorem Eo.ex{m:Option (List α)}(h:Eo B sl md t m):Ex B sl md t m:=λa ha F O H σ Q s k=>h a ha F O H σ Q s λp vs F' H' g hp r=>by
 have g2:=cG.new g.ok hp (.lst vs)
 exact k _ _ _ (g.trans g2) ⟨p,vs,rfl,Vh g.ok hp md,r.imp λ_ _=>Rp.mono (xX g2 md)⟩
theorem zy:Eo B sl md (Dy bT) (some ([]:List α)):=λa ha F O H σ Q s k=>by
 cases ha
 exact⟨abl _,λp hp=>k p [] F H (.refl s.1) hp trivial⟩
theorem Ed{t:TA}{ma:Option (List α)}(h:El B sl md t ma)(hl:∀a,ma=some a->a.length<=cap):Eo B sl md (Dy t) ma:=λa ha F O H σ Q s k =>
 h a ha F O H σ _ s λvs F' H' g r=>⟨by rw[r.len];exact zZ4 (hl a ha),λp hp=>k p vs F' H' g hp r⟩
theorem Ef(h1:Ex B sl md t1 m1)(h2:Ex B sl md t2 m2):Ex B sl md (Nv (wI t1 (wI t2 bT))) (m1.bind λa=>m2.bind λb=>some (a,b)):=λc hc F O H σ Q s kk=>by
 obtain⟨a,b,ha,hb,hf⟩:=sZ hc
 cases hf
 refine h1 a ha F O H σ _ s λv F' H' g r1=>?_
 refine h2 b hb F' O H' σ _ (s.grow g) λw F2 H2 g2 r2=>?_
 refine⟨by show 2<=sizeLine;decide,λp hp=>?_⟩
 have g3:=cG.new g2.ok hp (.tup [v,w])
 exact kk _ _ _ (g.trans (g2.trans g3)) ⟨p,v,w,rfl,Vh g2.ok hp md,Rp.mono (xX (g2.trans g3) md) r1,Rp.mono (xX g3 md) r2⟩
def bW(K:Frag)(al:Bool){A β:Type}[Rp K β](as:A->SL K)(f:A->Option β):Sp:=λvs H Q _ =>
 ∃a b Fa,Same Fa H/\f a=some b/\Ar Fa (as a) vs/\∀v H',Same H H'->rp K (if al=true then ext Fa H H' else dif H' H) v b->Q v H'
theorem zK{A:Type}{as:A->SL K}{f:A->Option β}{ma:Option A}(h:Ea B sl .hp ta as ma):Ex B sl md (UL (bW K false as f) [] E0 ta) (ma.bind f):=λc hc F O H σ Q s kk=>by
 cases ma with
 |none=>cases hc
 |some a =>
  refine h a rfl F O H σ _ s λvs F' H' g r=>?_
  rw[append_nil]
  refine⟨a,c,H',.refl _,hc,r,λv H2 s2 r2=>?_⟩
  have g2:=g.ok.called s2
  refine kk v _ H2 (g.trans g2) ?_
  have r3:=Rp.mono (zNa (F:=F') g.ok.h0 s2) r2
  exact match md with
  |.nw=>r3
  |.fz=>Rp.mono bQ r3
  |.hp=>Rp.mono (bQ.trans g2.ok.fh) r3
theorem zXp{A:Type}{as:A->SL K}{f:A->Option β}{ma:Option A}(h:Ea B sl md ta as ma):Ex B sl md (UL (bW K true as f) [] E0 ta) (ma.bind f):=λc hc F O H σ Q s kk=>by
 cases ma with
 |none=>cases hc
 |some a =>
  refine h a rfl F O H σ _ s λvs F' H' g r=>?_
  rw[append_nil]
  have hle:Same (reg B F' H' md) H':=match md with
   |.nw=>bQ.trans g.ok.fh
   |.fz=>g.ok.fh
   |.hp=>.refl _
  refine⟨a,c,reg B F' H' md,hle,hc,r,λv H2 s2 r2=>?_⟩
  have g2:=g.ok.called s2
  refine kk v _ H2 (g.trans g2) ?_
  exact match md,r2 with
  |.nw,r2=>Rp.mono (Og g.ok.h0) r2
  |.fz,r2=>r2
  |.hp,r2=>Rp.mono (zXn s2) r2
end
noncomputable def push{α:Type}(xs:List α)(a:α):Option (List α):=if xs.length<cap then some (xs++[a]) else none
noncomputable def setAt{α:Type}(xs:List α)(i:Int)(a:α):Option (List α):=(vp xs.length i).bind λj=>some (xs.set j a)
noncomputable def bH(n:Int):Option LI:=if -(2^62)<=n/\n<2^62 then some ((abb n.toNat).map adb) else none
def xW{S α:Type}(step:S->α->Option S):List α->S->Option S
 |[],s=>some s
 |x::b,s=>(step s x).bind λa=>xW step b a
inductive Out(S β:Type)|nx (s:S)|rt (b:β)
def oJ{S α β:Type}(step:S->α->Option (Out S β)):List α->S->Option (Out S β)
 |[],s=>some (.nx s)
 |x::a,s=>(step s x).bind λo=>match o with
  |.nx c=>oJ step a c
  |.rt b=>some (.rt b)
def HJ{S:Type}(c:S->Option Bool)(a:S->Option S):Nat->S->Option S
 |0,_=>none
 |k+1,s=>(c s).bind λb=>if b=true then(a s).bind λd=>HJ c a k d else some s
def vO{α β:Type}(c:α->Option Bool)(f:α->Option β):List α->Option (List β)
 |[]=>some []
 |x::a=>(c x).bind λb=>if b=true then(f x).bind λy=>(vO c f a).bind λd=>some (y::d) else vO c f a
noncomputable def Out.els{S β:Type}(o:Out S β)(f:S->Option β):Option β:=match o with
 |.nx s=>f s
 |.rt b=>some b
noncomputable def Out.aV{S a β:Type}(o:Out S β)(f:S->Option (Out a β)):Option (Out a β):=match o with
 |.nx s=>f s
 |.rt b=>some (.rt b)
theorem zG8{S α:Type}(step:S->α->Option S):∀(xs ys:List α)(s:S),xW step (xs++ys) s=(xW step xs s).bind λs'=>xW step ys s'
 |[],ys,s=>rfl
 |x::xs,ys,s=>by
  show(step s x).bind _=((step s x).bind _).bind _
  cases step s x with
  |none=>rfl
  |some s'=>exact zG8 step xs ys s'
theorem zQm{S α:Type}{step:S->α->Option S}{xs:List α}{s g:S}(h:xW step xs s=some g){x:α}(j:xs[i]?=some x):∃a b,xW step (xs.take i) s=some a/\step a x=some b/\xW step (xs.take (i+1)) s=some b:=by
 have e:xs=xs.take (i+1)++xs.drop (i+1):=(take_append_drop _ _).symm
 have k:xs.take (i+1)=xs.take i++[x]:=by rw[take_add_one,j]<;>rfl
 rw[e,zG8] at h
 cases q:xW step (xs.take (i+1)) s with
 |none=>rw[q] at h;cases h
 |some b =>
  have d:=q
  rw[k,zG8] at d
  cases z:xW step (xs.take i) s with
  |none=>rw[z] at d;cases d
  |some a =>
   rw[z] at d
   have f:(step a x).bind (λl=>some l)=some b:=d
   refine⟨a,b,rfl,?_,rfl⟩
   cases w:step a x with
   |none=>rw[w] at f;cases f
   |some c=>rw[w] at f;exact f
section
variable{K:Frag}{B:Bs}{F H F' H' G:Hp}{O:Own}{sl sl2:SL K}{σ:St}{md:Md}{α β γ:Type}[Rp K α][Rp K β][Rp K γ]{t u v:TS}{te:TE}{m:Option α}{S S':Type}{al:Bool}
def Sg(B:Bs)(G:Hp)(sl:SL K)(σ:St)(H:Hp):Prop:=∃F O,Same G F/\At B sl F O H σ
def Rt(K:Frag){β:Type}[Rp K β](B:Bs)(al:Bool)(b:β)(v:V)(H':Hp):Prop:=Same B.H0 H'/\rp K (if al=true then ext B.Fa B.H0 H' else dif H' B.H0) v b
noncomputable def Sn(B:Bs)(sl:SL K)(t:TS){S:Type}(L:S->SL K)(m:Option S):Prop :=
 ∀a,m=some a->∀(G:Hp)(D:Ends)(σ:St)(H:Hp),Sg B G sl σ H->(∀b H',Sg B G (L a) b H'->D.nx b H')->t D σ H
noncomputable def SB(B:Bs)(sl:SL K)(t:TS)(al:Bool){β:Type}[Rp K β](m:Option β):Prop :=
 ∀b,m=some b->∀(G:Hp)(D:Ends)(σ:St)(H:Hp),Sg B G sl σ H->(∀v H',Rt K B al b v H'->D.rt v H')->t D σ H
def XE(B:Bs)(G:Hp)(al:Bool)(L:S->SL K)(D:Ends)(o:Out S β):Prop:=match o with
 |.nx s=>∀a H',Sg B G (L s) a H'->D.nx a H'
 |.rt b=>∀v H',Rt K B al b v H'->D.rt v H'
noncomputable def Sx(B:Bs)(sl:SL K)(t:TS)(al:Bool){S β:Type}[Rp K β](L:S->SL K)(m:Option (Out S β)):Prop :=
 ∀o,m=some o->∀(G:Hp)(D:Ends)(σ:St)(H:Hp),Sg B G sl σ H->XE B G al L D o->t D σ H
theorem SB.of(h:SB B sl t al m)(q:m=m'):SB B sl t al m':=q▸h
theorem Sn.of(h:Sn B sl t L m)(q:m=m'):Sn B sl t L m':=q▸h
inductive Le:SL K->SL K->Prop
 |nil:Le [] []
 |eq {s:Slot K} {a b:SL K}:Le a b->Le (s::a) (s::b)
 |un {s:Slot K} {a b:SL K}:Le a b->Le (s::a) (.un::b)
 |fr {n:Bool} {α:Type} [Rp K α] {xs:List α} {a b:SL K}:Le a b->Le (.ow n xs::a) (.fz n xs::b)
 |old {α:Type} [Rp K α] {x:α} {a b:SL K}:Le a b->Le (.fz true x::a) (.fz false x::b)
 |fo {n:Bool} {α:Type} [Ob K α] {x:α} {a b:SL K}:Le a b->Le (.ob n x::a) (@Slot.fz K n (Ob.β K α) (Ob.Vf) (Ob.val x)::b)
theorem Ok.sub(k:Ok B F O H)(s:Sublist a O):Ok B F a H:=⟨k.fh,k.h0,k.fa,λx b=>k.fo x (s.subset b),(s.map _).nodup k.nd⟩
theorem zZl(s:Sublist a O):Same (lo F O H) (lo F a H):=λb u e=>by
 unfold lo at e ⊢
 grind
theorem Ok.Bt:∀(Oc:Own){F:Hp}{O:Own},Ok B F (P++(Oc++O)) H->∃F2,Same F F2/\Ok B F2 (P++O) H/\Same (lo F (P++(Oc++O)) H) (lo F2 (P++O) H)/\∀x∈Oc,F2 x.1=some x.2/\B.H0 x.1=none
 |[],F,O,k=>⟨F,.refl _,k,.refl _,λx hx=>(by cases hx)⟩
 | (p,o)::Oc,F,O,k=>by
  obtain⟨a1,a2,a3⟩:=k.one
  have sf:Same F (upd F p o):=aK a1 _
  obtain⟨F2,s2,k2,l2,m2⟩:=Ok.Bt Oc (k.freeze)
  refine⟨F2,sf.trans s2,k2,nj.trans l2,λx hx=>?_⟩
  rcases mem_cons.mp hx with e|hx
  ·subst e;exact⟨s2 _ _ zT,a2⟩
  ·exact m2 x hx
theorem ao.le(h:Le sl sl2):∀{F:Hp}{σ:St}{O:Own},Ok B F (P++O) H->ao B F (lo F (P++O) H) H sl σ O->∃F' f,Same F F'/\Ok B F' (P++f) H/\Same (lo F (P++O) H) (lo F' (P++f) H)/\ao B F' (lo F' (P++f) H) H sl2 σ f:=by
 induction h generalizing P with
 |nil=>intro F σ O k h;cases h;exact⟨F,[],.refl _,k,.refl _,.nil⟩
 |eq _ ih =>
  intro F σ O k h
  cases h with
  |un h=>obtain⟨F',f,a,b,c,d⟩:=ih k h;exact⟨F',f,a,b,c,.un d⟩
  |fz r h=>obtain⟨F',f,a,b,c,d⟩:=ih k h;exact⟨F',f,a,b,c,.fz (Rp.mono (vG _ a) r) d⟩
  |hs r h=>obtain⟨F',f,a,b,c,d⟩:=ih k h;exact⟨F',f,a,b,c,.hs r d⟩
  |nu r h=>obtain⟨F',f,a,b,c,d⟩:=ih k h;exact⟨F',f,a,b,c,.nu (Rp.mono (vQ c) r) d⟩
  |@ow _ _ _ _ _ _ O p g r h =>
   have e:P++(p,HO.lst g)::O=(P++[(p,HO.lst g)])++O:=by simp
   rw[e] at k h
   obtain⟨F',f,a,b,c,d⟩:=ih k h
   have q:(P++[(p,HO.lst g)])++f=P++(p,HO.lst g)::f:=by simp
   rw[q] at b c d
   rw[<-e] at c
   exact⟨F',_::f,a,b,c,.ow (r.imp λ_ _=>Rp.mono (vG _ a)) d⟩
  |@od _ _ _ _ _ O p g r h =>
   have e:P++(p,HO.dK g)::O=(P++[(p,HO.dK g)])++O:=by simp
   rw[e] at k h
   obtain⟨F',f,a,b,c,d⟩:=ih k h
   have q:(P++[(p,HO.dK g)])++f=P++(p,HO.dK g)::f:=by simp
   rw[q] at b c d
   rw[<-e] at c
   exact⟨F',_::f,a,b,c,.od (r.imp λ_ _ z=>⟨z.1,Rp.mono a z.2⟩) d⟩
  |@ob _ _ _ _ _ _ O i v r h =>
   rw[<-append_assoc] at k h
   obtain⟨F',f,a,b,c,d⟩:=ih k h
   rw[append_assoc] at b c d
   rw[append_assoc] at c
   exact⟨F',i++f,a,b,c,.ob (Ob.mono (vG _ a) r) d⟩
 |un _ ih =>
  intro F σ O k h
  cases h with
  |un h=>obtain⟨F',f,a,b,c,d⟩:=ih k h;exact⟨F',f,a,b,c,.un d⟩
  |fz r h=>obtain⟨F',f,a,b,c,d⟩:=ih k h;exact⟨F',f,a,b,c,.un d⟩
  |hs r h=>obtain⟨F',f,a,b,c,d⟩:=ih k h;exact⟨F',f,a,b,c,.un d⟩
  |nu r h=>obtain⟨F',f,a,b,c,d⟩:=ih k h;exact⟨F',f,a,b,c,.un d⟩
  |ow r h=>obtain⟨F',f,a,b,c,d⟩:=ih k.drop (h.mono (.refl _) oU (.refl _));exact⟨F',f,a,b,oU.trans c,.un d⟩
  |od r h=>obtain⟨F',f,a,b,c,d⟩:=ih k.drop (h.mono (.refl _) oU (.refl _));exact⟨F',f,a,b,oU.trans c,.un d⟩
  |@ob _ _ _ _ _ _ O i v r h =>
   have l:Sublist (P++O) (P++(i++O)):=Sublist.append (Sublist.refl P) (List.sublist_append_right i O)
   obtain⟨F',f,a,b,c,d⟩:=ih (k.sub l) (h.mono (.refl _) (zZl l) (.refl _))
   exact⟨F',f,a,b,(zZl l).trans c,.un d⟩
 |@fr n _ _ _ _ _ _ ih =>
  intro F σ O k h
  cases h with
  |@ow _ _ _ _ _ _ O p g r h =>
   obtain⟨I,A,a3⟩:=k.one
   have j:Same F (upd F p (.lst g)):=aK I _
   obtain⟨F',f,a,b,c,d⟩:=ih k.freeze (h.mono j nj (.refl _))
   refine⟨F',f,j.trans a,b,nj.trans c,.fz ⟨p,g,rfl,?_,r.imp λ_ _=>Rp.mono (vG _ (j.trans a))⟩ d⟩
   cases n with
   |true=>exact(wP A).trans (a _ _ zT)
   |false=>exact a _ _ zT
 |old _ ih =>
  intro F σ O k h
  cases h with
  |fz r h=>obtain⟨F',f,a,b,c,d⟩:=ih k h;exact⟨F',f,a,b,c,.fz (Rp.mono (bQ.trans a) r) d⟩
 |@fo n _ _ _ _ _ _ ih =>
  intro F σ O k h
  cases h with
  |@ob _ _ _ _ _ _ O i v r h =>
   obtain⟨F2,o,y,s,C⟩:=Ok.Bt i k
   obtain⟨F',f,a,b,c,d⟩:=ih y (h.mono o s (.refl _))
   refine⟨F',f,o.trans a,b,s.trans c,@ao.fz _ _ _ _ _ _ _ Ob.Vf _ _ _ _ _ (Ob.zx (Ob.mono (vG _ (o.trans a)) r) λx D=>?_) d⟩
   obtain⟨w,E⟩:=C x D
   cases n with
   |true=>exact(wP E).trans (a _ _ w)
   |false=>exact a _ _ w
theorem Sg.le(h:Sg B G sl σ H)(l:Le sl sl2):Sg B G sl2 σ H:=by
 obtain⟨F,O,g,k,s⟩:=h
 obtain⟨F',c,a,b,_,d⟩:=ao.le (P:=[]) l k s
 exact⟨F',c,g.trans a,b,d⟩
theorem Sg.grow(g:Same G F)(h:At B sl F a H σ)(b:cG B F H a F' H'):Sg B G sl σ H':=⟨F',a,g.trans b.ff,h.grow b⟩
theorem yA(L:S->SL K)(s:S)(h:Le sl (L s)):Sn B sl Ut L (some s):=λa b G D σ H q k=>by cases b;exact k σ H (q.le h)
theorem zP{f:S->Option S'}(d:Sn B sl t L b)(h2:∀s,Sn B (L s) u L' (f s)):Sn B sl (pC t u) L' (b.bind f):=λa c G D σ H q k=>by
 cases b with
 |none=>cases c
 |some s=>exact d s rfl G _ σ H q λe H' g=>h2 s a c G D e H' g k
theorem zO{f:S->Option β}(d:Sn B sl t L b)(h2:∀s,SB B (L s) u al (f s)):SB B sl (pC t u) al (b.bind f):=λa c G D σ H q k=>by
 cases b with
 |none=>cases c
 |some s=>exact d s rfl G _ σ H q λe H' g=>h2 s a c G D e H' g k
theorem zRq{f:S->Option (Out S' β)}(d:Sn B sl t L b)(h2:∀s,Sx B (L s) u al L' (f s)):Sx B sl (pC t u) al L' (b.bind f):=λa c G D σ H q k=>by
 cases b with
 |none=>cases c
 |some s=>exact d s rfl G _ σ H q λe H' g=>h2 s a c G D e H' g k
theorem Ye{f:S->Option β}(d:Sx B sl t al L e)(h2:∀s,SB B (L s) u al (f s)):SB B sl (pC t u) al (e.bind λo=>o.els f):=λa c G D σ H q k=>by
 cases e with
 |none=>cases c
 |some o =>
  cases o with
  |nx s=>exact d _ rfl G _ σ H q λh H' g=>h2 s a c G D h H' g k
  |rt b=>cases c;exact d _ rfl G { D with nx:=u D } σ H q k
theorem zVu{f:S->Option (Out S' β)}(d:Sx B sl t al L e)(h2:∀s,Sx B (L s) u al L' (f s)):Sx B sl (pC t u) al L' (e.bind λo=>o.aV f):=λa c G D σ H q k=>by
 cases e with
 |none=>cases c
 |some o =>
  cases o with
  |nx s=>exact d _ rfl G _ σ H q λh H' g=>h2 s a c G D h H' g k
  |rt b=>cases c;exact d _ rfl G { D with nx:=u D } σ H q k
theorem Vi(L:S->SL K)(s:S)(h:Le sl (L s)):Sx B sl Ut al L (some (.nx s):Option (Out S β)):=λa b G D σ H q k=>by cases b;exact k σ H (q.le h)
theorem KN(k:Ok B F' O H')(n:Bool){v:V}{b:β}(r:rp K (reg B F' H' (j9 n)) v b)(a:n=!al):Rt K B al b v H':=by
 refine⟨k.h0,?_⟩
 cases al with
 |false=>subst a;exact Rp.mono (vQ k.fh) r
 |true =>
  subst a
  refine Rp.mono (λb o h=>?_) r
  show ext B.Fa B.H0 H' b=some o
  unfold ext
  cases q:B.H0 b with
  |none=>exact k.fh b o h
  |some u =>
   rcases k.fa b o h with z|z
   ·exact z
   grind
theorem zV(h:Ex B sl (j9 !al) te m):SB B sl (pC (G4 te) u) al m:=λb c G D σ H s k=>by
 obtain⟨F,O,g,a⟩:=s
 exact h b c F O H σ _ a λv F' H' d r=>k v H' (KN d.ok (!al) r rfl)
theorem HN(h:F p=none):Same (dif F a) (dif (upd F p o) a):=vQ (aK h o)
theorem HS{n:Bool}{xs:List α}(i:Nat)(j:sl[i]?=some (.ow n xs))(o:n=!al):SB B sl (pC (G4 (eU i)) u) al (some xs):=λb d G D σ H s k=>by
 cases d
 obtain⟨F,O,g,a⟩:=s
 obtain⟨O1,O2,p,f,rfl,e,l,_⟩:=a.2.rD j
 obtain⟨c,h,a3⟩:=a.1.one
 refine⟨_,e,k _ H (KN a.1.freeze n ⟨p,f,rfl,?_,l.imp λ_ _=>Rp.mono ?_⟩ o)⟩
 ·cases n with
  |true=>exact(wP h).trans zT
  |false=>exact zT
 ·cases n with
  |true=>exact HN c
  |false=>exact aK c _
theorem rE(hc:Et B sl c n)(h1:Sn B sl t L m1)(h2:Sn B sl u L m2):Sn B sl (G5 c t u) L (n.bind λb=>if b=true then m1 else m2):=λa ha G D σ H s k=>by
 cases n with
 |none=>cases ha
 |some b =>
  obtain⟨F,O,g,z⟩:=s
  refine hc b rfl F O H σ _ z λF' H' gr=>?_
  cases b with
  |true=>exact sX (h1 a (by simpa using ha) G D σ H' (Sg.grow g z gr) k)
  |false=>exact sW (h2 a (by simpa using ha) G D σ H' (Sg.grow g z gr) k)
theorem xP{c:TT}{n:Option Bool}{f e:Option β}(j:Et B sl c n)(i:SB B sl t al f)(h2:SB B sl u al e):SB B sl (pC (G5 c t Ut) u) al (n.bind λb=>if b=true then f else e):=λa h G D σ H s k=>by
 cases n with
 |none=>cases h
 |some b =>
  obtain⟨F,O,g,z⟩:=s
  refine j b rfl F O H σ _ z λF' H' d=>?_
  cases b with
  |true=>exact sX (i a (by grind) G _ σ H' (Sg.grow g z d) k)
  |false=>exact sW (h2 a (by grind) G D σ H' (Sg.grow g z d) k)
theorem Yg{c:TT}{n:Option Bool}{m1:Option β}{L:S->SL K}{m2:Option (Out S β)}(hc:Et B sl c n)(h1:SB B sl t al m1)(h2:Sx B sl u al L m2) :
  Sx B sl (pC (G5 c t Ut) u) al L (n.bind λb=>if b=true then m1.bind λb=>some (.rt b) else m2):=λa ha G D σ H s k=>by
 cases n with
 |none=>cases ha
 |some b =>
  obtain⟨F,O,g,z⟩:=s
  refine hc b rfl F O H σ _ z λF' H' gr=>?_
  cases b with
  |true =>
   have e:=(show(m1.bind λb=>some (Out.rt b))=some a by simpa using ha)
   cases m1 with
   |none=>cases e
   |some b=>cases e;exact sX (h1 b rfl G _ σ H' (Sg.grow g z gr) k)
  |false=>exact sW (h2 a (by simpa using ha) G D σ H' (Sg.grow g z gr) k)
theorem Sg.set{s:Slot K}{i:Nat}{n:Bool}{a:α}{v:V}{O:Own}(g:Same G F)(h:At B sl F O H σ)(b:sl[i]?=some s)(c:lG s=false)(r:rp K (reg B F H (j9 n)) v a):Sg B G (sl.set i (.fz n a)) (σ.set i (some v)) H :=
 ⟨F,O,g,h.1,h.2.put (λ_ _ _ z=>.fz r z) b c⟩
theorem yC(n:Bool)(i:Nat)(d:sl[i]?=some s)(e:lG s=false)(h:Ex B sl (j9 n) te m):Sn B sl (pD te (vm i)) (λa=>sl.set i (.fz n a)) m:=λa c G D σ H s k=>by
 obtain⟨F,O,g,z⟩:=s
 exact h a c F O H σ _ z λv F' H' b r=>k _ _ (Sg.set (g.trans b.ff) (z.grow b) d e r)
theorem S9(h:Ex B sl md te m):Sn B sl (Kq te) (λ_=>sl) m:=λa b G D σ H s k=>by
 obtain⟨F,O,g,z⟩:=s
 exact h a b F O H σ _ z λv F' H' c r=>k _ _ (Sg.grow g z c)
theorem At.own{s:Slot K}{i:Nat}{n:Bool}{xs:List α}{vs:List V}{p:Addr}(h:At B sl F O H σ)(e:sl[i]?=some s)(d:lG s=false)(a:H p=none)(r:A2 (rp K (reg B F H (j9 n))) vs xs) :
  ∃b,At B (sl.set i (.ow n xs)) F b (upd H p (.lst vs)) (σ.set i (some (.ref p))):=by
 obtain⟨k,f⟩:=h
 obtain⟨O1,O2,rfl,z⟩:=f.own (c:=(p,.lst vs)) (λ_ _ _ z=>.ow r z) e d
 exact⟨_,k.add a,z.mono (.refl _) (zZn a) (aK a _)⟩
theorem uW{s:Slot K}{m:Option (List α)}(n:Bool)(i:Nat)(d:sl[i]?=some s)(e:lG s=false)(h:Eo B sl (j9 n) te m):Sn B sl (pD te (vm i)) (λa=>sl.set i (.ow n a)) m:=λa f G D σ H s k=>by
 obtain⟨F,O,g,z⟩:=s
 refine h a f F O H σ _ z λp vs F' H' b l r=>k _ _ ?_
 obtain⟨c,j⟩:=(z.grow b).own d e l r
 exact⟨F',c,g.trans b.ff,j⟩
theorem zMh(i:Nat)(f:sl[i]?=some s)(e:lG s=false):Sn B sl (pD zYp (vm i)) (λ_=>sl.set i (.od ([]:List (Key×α)))) (some ()):=λa ha G D σ H s k=>by
 obtain⟨F,O,g,j,d⟩:=s
 intro p b
 refine k _ _ ?_
 obtain⟨O1,O2,rfl,h⟩:=d.own (s':=.od ([]:List (Key×α))) (c:=(p,.dK [])) (λ_ _ _ z=>.od trivial z) f e
 exact⟨F,_,g,j.add b,h.mono (.refl _) (zZn b) (aK b _)⟩
theorem Ol{α:Type}:∀{l:List α}{i:Nat}{x:α},l[i]?=some x->l.set i x=l
 |[],_,_,h=>by simp at h
 |_::_,0,_,h=>by simp at h;subst h;rfl
 |_::l,i+1,_,h=>congrArg _ (Ol (l:=l) (i:=i) (by simpa using h))
theorem zU3{P:Slot K->Bool}(hs:P s=true):∀{l:SL K}{i:Nat},l.all P=true->(l.set i s).all P=true
 |[],_,h=>h
 |_::_,0,h=>by grind
 |_::l,i+1,h=>by grind
theorem At.chg{i:Nat}{n:Bool}{xs:List α}(h:At B sl F O H σ)(f:sl[i]?=some (.ow n xs))(d:sl.all (λs=>!pJ s)=true):∃p vs,σ[i]?=some (some (.ref p))/\H p=some (.lst vs)/\A2 (rp K (reg B F H (j9 n))) vs xs /\
  ∀(ws:List V)(ys:List α),A2 (rp K (reg B F H (j9 n))) ws ys->∃b,At B (sl.set i (.ow n ys)) F b (upd H p (.lst ws)) σ:=by
 obtain⟨k,c⟩:=h
 obtain⟨O1,O2,p,vs,rfl,a,g,e,_⟩:=c.rD f
 refine⟨p,vs,a,k.one.2.2,g,λws ys r=>⟨_,k.chg (.lst ws),?_⟩⟩
 have z:=e (.ow n ys) (some (.ref p)) (p,.lst ws) λ_ _ _ z=>.ow r z
 rw[Ol a] at z
 exact z.mut zZm (zU3 rfl d)
theorem At.HW(h:At B sl F O H σ)(g:sl[i]?=some (.od kvs))(d:sl.all (λs=>!pJ s)=true):∃p ks,σ[i]?=some (some (.ref p))/\H p=some (.dK ks)/\A2 (λ(x:Key×V) (y:Key×α)=>x.1=y.1/\rp K F x.2 y.2) ks kvs /\
  ∀(ws:List (Key×V))(ys:List (Key×α)),A2 (λ(x:Key×V) (y:Key×α)=>x.1=y.1/\rp K F x.2 y.2) ws ys->∃b,At B (sl.set i (.od ys)) F b (upd H p (.dK ws)) σ:=by
 obtain⟨k,c⟩:=h
 obtain⟨O1,O2,p,e,rfl,a,j,f,_⟩:=c.KH g
 refine⟨p,e,a,k.one.2.2,j,λws ys r=>⟨_,k.chg (.dK ws),?_⟩⟩
 have z:=f (.od ys) (some (.ref p)) (p,.dK ws) λ_ _ _ z=>.od r z
 rw[Ol a] at z
 exact z.mut zZm (zU3 rfl d)
theorem xR(i:Nat)(o:sl[i]?=some (.ow n xs))(x:sl.all (λs=>!pJ s)=true)(h:Ex B sl (j9 n) te m) :
  Sn B sl (Kq (N6 K "list" X7 (eU i) (wI te bT))) (λys=>sl.set i (.ow n ys)) (m.bind λa=>push xs a):=λys y G D σ H s k=>by
 cases m with
 |none=>cases y
 |some a =>
  have b:=y
  unfold push at b
  split at b
  case isFalse=>cases b
  rename_i C
  cases b
  obtain⟨F,O,g,z⟩:=s
  obtain⟨p,vs,q,I,h3,_⟩:=z.chg o x
  refine⟨_,q,.inl ⟨rfl,_,bN.of I⟩,?_⟩
  refine h a rfl F O H σ _ z λv F' H' w r=>?_
  obtain⟨p',c,j,f,d,l⟩:=(z.grow w).chg o x
  have e:=q.symm.trans j
  cases e
  obtain⟨A,E⟩:=l (c++[v]) (xs++[a]) (d.snoc r)
  exact⟨p,c,v,rfl,rfl,f,HF (by rw[d.len];exact C),k _ _ ⟨F',A,g.trans w.ff,E⟩⟩
theorem Yh(i:Nat)(hs:sl[i]?=some (.ow n xs))(hh:sl.all (λs=>!pJ s)=true)(hv:Ex B sl (j9 n) te m)(hi:Ex B sl .hp ti mi) :
  Sn B sl (pD te (Uu (eU i) ti DP)) (λys=>sl.set i (.ow n ys)) (m.bind λa=>mi.bind λk=>setAt xs k a):=λys ha G D σ H s k=>by
 cases m with
 |none=>cases ha
 |some a =>
  cases mi with
  |none=>cases ha
  |some ix =>
   have ha':setAt xs ix a=some ys:=ha
   obtain⟨F,O,g,z⟩:=s
   refine hv a rfl F O H σ _ z λv F' H' gr r=>?_
   obtain⟨p,vs,h1,h2,h3,_⟩:=(z.grow gr).chg hs hh
   refine⟨_,h1,?_⟩
   refine hi ix rfl F' O H' σ _ (z.grow gr) λw F2 H2 gr2 rw=>?_
   cases rw
   obtain⟨p',vs',h1',h2',h3',h4'⟩:=((z.grow gr).grow gr2).chg hs hh
   have e:=h1.symm.trans h1'
   cases e
   unfold setAt at ha'
   cases ej:vp xs.length ix with
   |none=>rw[ej] at ha';cases ha'
   |some jj =>
    rw[ej] at ha'
    cases ha'
    obtain⟨O',z'⟩:=h4' (vs'.set jj v) (xs.set jj a) (h3'.set (Rp.mono (xX gr2 (j9 n)) r) jj)
    exact⟨p,vs',ix,jj,rfl,rfl,h2',by rw[h3'.len,ej],k _ _ ⟨F2,O',(g.trans gr.ff).trans gr2.ff,z'⟩⟩
end
section
variable{K:Frag}{B:Bs}{F H F' H' G:Hp}{O:Own}{sl sl2:SL K}{σ:St}{md:Md}{α β γ:Type}[Rp K α][Rp K β][Rp K γ]{tb u v:TS}{te:TE}{m:Option α}{S S':Type}{al n:Bool}
theorem Yi{S α β:Type}(step:S->α->Option (Out S β)):∀(xs ys:List α)(s:S),oJ step (xs++ys) s=(oJ step xs s).bind λo=>o.aV λs'=>oJ step ys s'
 |[],ys,s=>rfl
 |x::xs,ys,s=>by
  show(step s x).bind _=((step s x).bind _).bind _
  cases step s x with
  |none=>rfl
  |some o =>
   cases o with
   |nx s'=>exact Yi step xs ys s'
   |rt b=>rfl
theorem zQk{S α β:Type}{step:S->α->Option (Out S β)}{xs:List α}{s a:S}{x:α}(h:oJ step (xs.take i) s=some (.nx a))(c:xs[i]?=some x):oJ step (xs.take (i+1)) s=step a x:=by
 have b:xs.take (i+1)=xs.take i++[x]:=by rw[take_add_one,c]<;>rfl
 rw[b,Yi,h]
 show(step a x).bind _=step a x
 cases step a x with
 |none=>rfl
 |some o=>cases o<;>rfl
theorem zT1{S α β:Type}{step:S->α->Option (Out S β)}{xs:List α}{s:S}{o:Out S β}{b:β}(h:oJ step xs s=some o)(a:oJ step (xs.take i) s=some (.rt b)):o=.rt b:=by
 rw[<-take_append_drop i xs,Yi,a] at h
 cases h
 rfl
theorem zQl{S α β:Type}{step:S->α->Option (Out S β)}{xs:List α}{s:S}{o:Out S β}(i:Nat)(h:oJ step xs s=some o):∃a,oJ step (xs.take i) s=some a:=by
 rw[<-take_append_drop i xs,Yi] at h
 cases q:oJ step (xs.take i) s with
 |none=>grind
 |some a=>grind
def Yl(K:Frag)(B:Bs)(F':Hp)(n:Bool)(J:It){α:Type}[Rp K α](xs:List α):Prop:=∀(i:Nat)(c:Hp)(f:Own)(b:Hp),Same F' c->Ok B c f b ->
 (xs.length<=i->J.stop i b)/\∀x,xs[i]?=some x->J.go i b/\∀v d,J.SM i b v d->∃e,cG B c b f e d/\rp K (reg B e d (j9 n)) v x
noncomputable def Ei(B:Bs)(sl:SL K)(n:Bool)(b:TI){α:Type}[Rp K α](mi:Option (List α)):Prop :=
 ∀a,mi=some a->∀(F:Hp)(O:Own)(H:Hp)(σ:St)(R:It->Hp->Prop),At B sl F O H σ->(∀(J:It)(F' H':Hp),cG B F H O F' H'->Yl K B F' n J a->R J H')->b σ H R
def Tg(B:Bs)(sl:SL K)(n:Bool)(g:TG){α:Type}[Rp K α](L:α->SL K):Prop :=
 ∀(v:V)(x:α)(F:Hp)(O:Own)(H:Hp)(σ:St)(Q:St->Hp->Prop),At B sl F O H σ->rp K (reg B F H (j9 n)) v x->(∀b,At B (L x) F O H b->Q b H)->g v σ H Q
theorem yL(i:Nat)(b:sl[i]?=some s)(c:lG s=false):Tg B sl n (vm i) (λx:α=>sl.set i (.fz n x)):=λv x F O H σ Q a r k=>k _ ⟨a.1,a.2.put (λ_ _ _ z=>.fz r z) b c⟩
theorem zRj(k:Ok B F O H)(h:reg B F H (j9 n) p=some o):H p=some o:=HD k n p o h
theorem z_(i j:Nat)(l:sl[i]?=some s)(g:lG s=false)(d:∀x:Slot K,(sl.set i x)[j]?=some s')(c:lG s'=false) :
  Tg B sl n (G7 K 2 (SJ (vm i) (SJ (vm j) Nf))) (λx:α×β=>(sl.set i (.fz n x.1)).set j (.fz n x.2)):=λv x F O H σ Q a r k=>by
 obtain⟨p,e,b,rfl,f,o,h⟩:=r
 refine⟨p,[e,b],rfl,.inl (.inl (zRj a.1 f)),rfl,e,[b],rfl,b,[],rfl,rfl,?_⟩
 exact k _ ⟨a.1,(a.2.put (λ_ _ _ z=>.fz o z) l g).put (λ_ _ _ z=>.fz h z) (d _) c⟩
theorem wN{L:S->SL K}{A:S->α->SL K}{step:S->α->Option S}(f:S)(h0:Le sl (L f))(R:Ei B (L f) n I mi)(hg:∀s,Tg B (L s) n g (A s))(hb:∀s x,Sn B (A s x) tb L (step s x)) :
  Sn B sl (Nj I g tb) L (mi.bind λxs=>xW step xs f):=λU b G D σ H q k=>by
 cases mi with
 |none=>cases b
 |some xs =>
  have b:xW step xs f=some U:=b
  obtain⟨F,O,Y,a⟩:=q.le h0
  refine R xs rfl F O H σ _ a λJ F' H' y Z=>?_
  refine⟨λi m σ H=>m=xs.length-i/\i<=xs.length/\∃s,xW step (xs.take i) f=some s/\Sg B F' (L s) σ H,⟨xs.length,rfl,abl _,f,rfl,F',O,.refl _,a.grow y⟩,?_⟩
  rintro i m σ H ⟨rfl,hil,s,o,E,h,j,l⟩
  obtain⟨y1,y2⟩:=Z i E h H j l.1
  by_cases d:i<xs.length
  ·obtain⟨M,Q⟩:=y2 xs[i] (aax d)
   obtain⟨s',c,t,X,N⟩:=zQm b (aax d)
   rw[o] at t
   cases t
   refine .inr ⟨M,Sg B F' (L c),λw H' z=>⟨xs.length-(i+1),by lia,rfl,d,c,N,z⟩,λv p P=>?_⟩
   obtain⟨r,C,r3⟩:=Q v p P
   exact hg s v xs[i] r h p σ _ (l.grow C) r3 λw T=>hb s xs[i] c X F' _ w p ⟨r,h,j.trans C.ff,T⟩ λσ2 H2 z=>z
  ·have e:i=xs.length:=by lia
   subst e
   rw[take_length,b] at o
   cases o
   exact .inl ⟨y1 (aaz _),k σ H ⟨E,h,(Y.trans y.ff).trans j,l⟩⟩
theorem Vj{L:S->SL K}{Lx:S->α->SL K}{step:S->α->Option (Out S β)}(s0:S)(h0:Le sl (L s0))(hi:Ei B (L s0) n wi mi)(hg:∀s,Tg B (L s) n g (Lx s))(hb:∀s x,Sx B (Lx s x) tb al L (step s x)) :
  Sx B sl (Nj wi g tb) al L (mi.bind λxs=>oJ step xs s0):=λo ho G D σ H q k=>by
 cases mi with
 |none=>cases ho
 |some xs =>
  have ho:oJ step xs s0=some o:=ho
  obtain⟨F,O,g0,a⟩:=q.le h0
  refine hi xs rfl F O H σ _ a λJ F' H' gr yl=>?_
  refine⟨λi m σ H=>m=xs.length-i/\i<=xs.length/\∃s,oJ step (xs.take i) s0=some (.nx s)/\Sg B F' (L s) σ H,⟨xs.length,rfl,abl _,s0,rfl,F',O,.refl _,a.grow gr⟩,?_⟩
  rintro i m σ H ⟨rfl,hil,s,hs,F2,O2,sf,a2⟩
  obtain⟨y1,y2⟩:=yl i F2 O2 H sf a2.1
  by_cases hlt:i<xs.length
  ·obtain⟨go,y3⟩:=y2 xs[i] (aax hlt)
   have e2:=zQk hs (aax hlt)
   obtain⟨o',e3⟩:=zQl (i+1) ho
   refine .inr ⟨go,λσ H=>∃s',o'=.nx s'/\Sg B F' (L s') σ H,λσ' H' ⟨s',e,z⟩=>⟨xs.length-(i+1),by omega,rfl,hlt,s',by rw[e3,e],z⟩,λv H3 yd=>?_⟩
   obtain⟨F3,g3,r3⟩:=y3 v H3 yd
   refine hg s v xs[i] F3 O2 H3 σ _ (a2.grow g3) r3 λσ' a'=>hb s xs[i] o' (by rw[<-e2,e3]) F' _ σ' H3 ⟨F3,O2,sf.trans g3.ff,a'⟩ ?_
   cases o' with
   |nx s'=>exactλσ2 H2 z=>⟨s',rfl,z⟩
   |rt b =>
    have:=zT1 ho e3
    subst this
    exact k
  ·have e:i=xs.length:=by omega
   subst e
   rw[take_length,ho] at hs
   cases hs
   exact .inl ⟨y1 (aaz _),k σ H ⟨F2,O2,(g0.trans gr.ff).trans sf,a2⟩⟩
theorem zNv{L:S->SL K}{cM:S->Option Bool}{bM:S->Option S}(fuel:Nat)(s0:S)(h0:Le sl (L s0))(hc:∀s,Et B (L s) c (cM s))(hb:∀s,Sn B (L s) tb L (bM s)):Sn B sl (zYn c tb) L (HJ cM bM fuel s0):=λs1 hs1 G D σ H q k=>by
 refine⟨λm σ H=>∃s,HJ cM bM m s=some s1/\Sg B G (L s) σ H,⟨fuel,s0,hs1,q.le h0⟩,?_⟩
 rintro m σ H ⟨s,hs,F,O,g,a⟩
 cases m with
 |zero=>cases hs
 |succ m =>
  have hs:((cM s).bind λb=>if b=true then(bM s).bind λs'=>HJ cM bM m s' else some s)=some s1:=hs
  cases e:cM s with
  |none=>rw[e] at hs;cases hs
  |some b =>
   rw[e] at hs
   refine hc s b e F O H σ _ a λF' H' gr=>?_
   cases b with
   |true =>
    have hs:((bM s).bind λs'=>HJ cM bM m s')=some s1:=by simpa using hs
    cases e2:bM s with
    |none=>rw[e2] at hs;cases hs
    |some s' =>
     rw[e2] at hs
     exact sX ⟨Sg B G (L s'),λσ' H' z=>⟨m,acp _,s',hs,z⟩,hb s s' e2 G _ σ H' (Sg.grow g a gr) λ_ _ z=>z⟩
   |false =>
    have hs:some s=some s1:=by simpa using hs
    cases hs
    exact sW (k σ H' (Sg.grow g a gr))
theorem yV{mi:Option (List α)}(h:Ex B sl (j9 n) te mi):Ei B sl n (Du K te) mi:=λt d F O H σ R a k=>by
 refine h t d F O H σ _ a λv F' H' j r=>?_
 obtain⟨p,b,rfl,c,q⟩:=r
 refine⟨p,rfl,⟨b,bN.of (HD j.ok n p _ c)⟩,k _ F' H' j λi s O2 C l g=>?_⟩
 have f:bN K C p b:=bN.of (g.fh _ _ (l _ _ (by cases n with|true=>exact bQ _ _ c|false=>exact c)))
 refine⟨λz=>⟨b,f,by rw[q.len];exact z⟩,λx d=>?_⟩
 obtain⟨w,o,D⟩:=q.at2 d
 refine⟨⟨b,w,f,o⟩,λv H3 A=>?_⟩
 obtain⟨e,y⟩:=A
 subst e
 have:=(o.symm.trans (y b f))
 cases this
 exact⟨s,.refl g,Rp.mono (vG n l) D⟩
theorem zI8{k i:Nat}{x:Int}(h:((abb k).map adb)[i]?=some x):i<k/\x=i:=by
 grind
theorem wV(h:Ex B sl .hp te mi):Ei B sl n (Dv (wI te bT)) (mi.bind bH):=λxs hx F O H σ R a k=>by
 cases mi with
 |none=>cases hx
 |some j =>
  have hx:bH j=some xs:=hx
  unfold bH at hx
  split at hx
  case isFalse=>cases hx
  rename_i hb
  cases hx
  refine h j rfl F O H σ _ a λv F' H' gr r=>?_
  cases r
  refine⟨j,rfl,hb.1,hb.2,k _ F' H' gr λi F2 O2 H2 sf k2=>⟨λhl=>?_,λx hx=>?_⟩⟩
  ·rw[length_map,length_range] at hl;exact hl
  ·obtain⟨h1,rfl⟩:=zI8 hx
   refine⟨h1,λv H3 yd=>?_⟩
   obtain⟨rfl,rfl⟩:=yd
   exact⟨F2,.refl k2,by show V.int (0+(i:Int))=V.int i;rw[Int.zero_add]⟩
def Bu{α:Type}(xs:List α):List (Int×α):=((abb xs.length).map adb).zip xs
theorem Vk{α:Type}{xs:List α}{i:Nat}{x:Int×α}(h:(Bu xs)[i]?=some x):x.1=i/\xs[i]?=some x.2:=by
 unfold Bu at h
 rw[List.getElem?_zip_eq_some] at h
 exact⟨(zI8 h.1).2,h.2⟩
theorem Vl{α:Type}(xs:List α):(Bu xs).length=xs.length:=by unfold Bu;simp
theorem Vm{mi:Option (List α)}(h:Ex B sl (j9 n) te mi):Ei B sl n (DX K (wI te bT)) (mi.bind λxs=>some (Bu xs)):=λxs c F O H σ R a k=>by
 cases mi with
 |none=>cases c
 |some z =>
  cases(c)
  refine h z rfl F O H σ _ a λv F' H' l r=>?_
  obtain⟨p,b,rfl,f,s⟩:=r
  refine⟨p,rfl,⟨b,bN.of (HD l.ok n p _ f)⟩,k _ F' H' l λi F2 O2 I g d=>?_⟩
  have e:bN K I p b:=bN.of (d.fh _ _ (g _ _ (by cases n with|true=>exact bQ _ _ f|false=>exact f)))
  refine⟨λD=>⟨b,e,by rw[s.len,<-Vl];exact D⟩,λx c=>?_⟩
  obtain⟨C,E⟩:=Vk c
  obtain⟨w,q,A⟩:=s.at2 E
  refine⟨⟨b,w,e,q⟩,λv H3 J=>?_⟩
  obtain⟨t,x',rfl,o,rfl,y⟩:=J
  have:=(q.symm.trans (y b e))
  cases this
  have j:=cG.new d o (.tup [.int i,w])
  refine⟨_,j,t,.int i,w,rfl,?_,?_,Rp.mono (vG n (g.trans j.ff)) A⟩
  ·exact Vh d o (j9 n)
  ·rw[C];rfl
noncomputable def aO{α β:Type}(c:α->Option Bool)(f:α->Option β)(xs:List α):Option (List β):=if xs.length<cap then vO c f xs else none
theorem Yj{α β:Type}(c:α->Option Bool)(f:α->Option β):∀(xs ys:List α),vO c f (xs++ys)=(vO c f xs).bind λa=>(vO c f ys).bind λb=>some (a++b)
 |[],ys=>by
  rw[List.nil_append]
  show vO c f ys=(vO c f ys).bind λb=>some ([]++b)
  cases vO c f ys<;>rfl
 |x::xs,ys=>by
  show(c x).bind _=((c x).bind _).bind _
  cases c x with
  |none=>rfl
  |some b =>
   cases b with
   |true =>
    show(f x).bind _=((f x).bind _).bind _
    cases f x with
    |none=>rfl
    |some y =>
     show(vO c f (xs++ys)).bind _=((vO c f xs).bind _).bind _
     rw[Yj c f xs ys]
     cases vO c f xs with
     |none=>rfl
     |some a =>
      show((vO c f ys).bind _).bind _=(vO c f ys).bind _
      cases vO c f ys<;>rfl
   |false=>exact Yj c f xs ys
theorem zHh{α β:Type}(c:α->Option Bool)(f:α->Option β):∀{xs:List α}{ys:List β},vO c f xs=some ys->ys.length<=xs.length
 |[],ys,h=>by cases h;exact aaz _
 |x::xs,ys,h=>by
  have h:((c x).bind λb=>if b=true then(f x).bind λy=>(vO c f xs).bind λys=>some (y::ys) else vO c f xs)=some ys:=h
  cases e:c x with
  |none=>rw[e] at h;cases h
  |some b =>
   rw[e] at h
   cases b with
   |true =>
    have h:((f x).bind λy=>(vO c f xs).bind λys=>some (y::ys))=some ys:=by simpa using h
    cases e2:f x with
    |none=>rw[e2] at h;cases h
    |some y =>
     rw[e2] at h
     cases e3:vO c f xs with
     |none=>rw[e3] at h;cases h
     |some zs =>
      rw[e3] at h
      cases h
      exact acq (zHh c f e3)
   |false =>
    have h:vO c f xs=some ys:=by simpa using h
    exact Nat.le_succ_of_le (zHh c f h)
theorem zQv{α β:Type}{c:α->Option Bool}{f:α->Option β}{xs:List α}{zs:List β}(i:Nat)(h:vO c f xs=some zs):∃ys,vO c f (xs.take i)=some ys:=by
 rw[<-take_append_drop i xs,Yj] at h
 cases q:vO c f (xs.take i) with
 |none=>grind
 |some o'=>grind
theorem zQw{α β:Type}{c:α->Option Bool}{f:α->Option β}{xs:List α}{zs ys:List β}{x:α}(h:vO c f (xs.take (i+1))=some zs)(d:vO c f (xs.take i)=some ys)(g:xs[i]?=some x) :
  (c x=some false/\zs=ys)\/∃y,c x=some true/\f x=some y/\zs=ys++[y]:=by
 have a:xs.take (i+1)=xs.take i++[x]:=by rw[take_add_one,g]<;>rfl
 rw[a,Yj,d] at h
 have h:(((c x).bind λb=>if b=true then(f x).bind λy=>some [y] else some []).bind λb=>some (ys++b))=some zs:=h
 cases e:c x with
 |none=>rw[e] at h;cases h
 |some b =>
  rw[e] at h
  cases b with
  |true =>
   have h:(((f x).bind λy=>some [y]).bind λb=>some (ys++b))=some zs:=by simpa using h
   cases a:f x with
   |none=>rw[a] at h;cases h
   |some y=>rw[a] at h;cases h;exact .inr ⟨y,rfl,rfl,rfl⟩
  |false =>
   have h:some (ys++[])=some zs:=by simpa using h
   rw[append_nil] at h
   cases h
   exact .inl ⟨rfl,rfl⟩
abbrev Vn:Slot K->Slot K
 |.un=>.un
 |@Slot.fz _ n _ i a=>@Slot.fz _ n _ i a
 |@Slot.hs _ _ i a=>@Slot.hs _ _ i a
 |@Slot.nu _ _ i a=>@Slot.hs _ _ i a
 |@Slot.ow _ _ _ i b=>@Slot.hs _ _ _ b
 |@Slot.od _ _ _ _=>.un
 |@Slot.ob _ _ _ _ _=>.un
theorem cG.lift(k:Ok B F O H)(g:cG B F H [] F' H'):cG B F H O F' H' :=
 ⟨g.ff,g.hh,⟨g.ok.fh,g.ok.h0,g.ok.fa,λx b=>by
  obtain⟨a,c,d⟩:=k.fo x b
  exact⟨g.nw _ a (by grind),c,g.hh _ _ d⟩,k.nd⟩,g.nw⟩
theorem Ok.nil(k:Ok B F O H):Ok B F [] H:=⟨k.fh,k.h0,k.fa,λx a=>(by cases a),(by simp)⟩
theorem ao.one(a:At B sl F O H σ)(L:Hp)(j:Nat)(f:sl[j]?=some s):∀{e:SL K}{g:St},ao B F L H e g []->ao B F L H (Vn s::e) ((σ[j]?).getD none::g) []:=λ{e g} h=>by
 cases s with
 |un=>exact .un h
 |fz n b=>obtain⟨v,c,d⟩:=a.2.Br f;rw[c];exact .fz d h
 |hs b=>obtain⟨v,c,d⟩:=a.2.Vg f;rw[c];exact .hs d h
 |nu b=>obtain⟨v,c,d⟩:=a.2.v7 f;rw[c];exact .hs (Rp.mono (bQ.trans lo_le) d) h
 |ow n xs =>
  obtain⟨k,i⟩:=a
  obtain⟨O1,O2,p,l,rfl,c,d,_⟩:=i.rD f
  rw[c]
  exact .hs ⟨p,l,rfl,k.one.2.2,d.imp λ_ _=>Rp.mono (HD k n)⟩ h
 |od kvs=>exact .un h
 |ob n a=>exact .un h
def Om(sl:SL K)(n:Nat)(ix:List Nat):SL K:=replicate n .un++ix.map λj=>Vn ((sl[j]?).getD .un)
theorem HX(a:At B sl F O H σ)(L:Hp)(n:Nat):∀(ix:List Nat),(∀j∈ix,j<sl.length)->ao B F L H (Om sl n ix) (pH σ n ix) []:=λix b=>by
 unfold Om pH
 induction n with
 |zero =>
  induction ix with
  |nil=>exact .nil
  |cons j ix ih =>
   have c:=b j mem_cons_self
   have d:=aax c
   have z:=ao.one a L j d (ih λk e=>b k (mem_cons_of_mem _ e))
   grind
 |succ n ih=>exact .un ih
inductive Aa:SL K->SL K->Prop
 |nil:Aa [] []
 |eq {s:Slot K} {a b:SL K}:Aa a b->Aa (s::a) (s::b)
 |un {s:Slot K} {a b:SL K}:Aa a b->Aa (s::a) (.un::b)
theorem ao.le1(l:Aa sl sl2):∀{σ:St}{O:Own},ao B F L H sl σ O->O=[]->ao B F L H sl2 σ []:=by
 induction l with
 |nil=>grind
 |eq _ ih =>
  intro σ O h e
  cases h with
  |un h=>exact .un (ih h e)
  |fz r h=>exact .fz r (ih h e)
  |hs r h=>exact .hs r (ih h e)
  |nu r h=>exact .nu r (ih h e)
  |ow r h=>cases e
  |od r h=>cases e
  |ob r h =>
   obtain⟨a,b⟩:=List.append_eq_nil_iff.mp e
   subst a
   exact .ob r (ih h b)
 |un _ ih =>
  intro σ O h e
  cases h with
  |un h=>exact .un (ih h e)
  |fz r h=>exact .un (ih h e)
  |hs r h=>exact .un (ih h e)
  |nu r h=>exact .un (ih h e)
  |ow r h=>cases e
  |od r h=>cases e
  |ob r h=>exact .un (ih h (List.append_eq_nil_iff.mp e).2)
theorem ao.le0(l:Aa sl sl2)(h:ao B F L H sl σ []):ao B F L H sl2 σ []:=h.le1 l rfl
theorem xO{c:α->Option Bool}{f:α->Option β}{ix:List Nat}(Z:(ix.all λj=>decide (j<sl.length))=true)(hI:lV=Om sl no ix)(hi:Ei B sl n wi mi)(hg:Tg B lV n g Lx)(hc:∀x,Et B (Lx x) tc (c x))(he:∀x,Ex B (Lx x) md te (f x))(hle:∀x,Aa (Lx x) lV) :
  Eo B sl md (Yc no ix wi g tc te) (mi.bind λxs=>aO c f xs):=λzs r F O H σ Q a k=>by
 cases mi with
 |none=>cases r
 |some xs =>
  have r:aO c f xs=some zs:=r
  unfold aO at r
  split at r
  case isFalse=>cases r
  rename_i N
  have hcl:=HF N
  refine hi xs rfl F O H σ _ a λJ F' H' gr yl=>?_
  have a':=a.grow gr
  refine⟨λi m D A d=>m=xs.length-i/\i<=xs.length/\∃(h:Hp)(ws:List β),vO c f (xs.take i)=some ws/\cG B F' H' O h d/\ao B h (lo h [] d) d lV A []/\A2 (rp K (reg B h d md)) D ws,
   ⟨xs.length,rfl,abl _,F',[],rfl,.refl a'.1,?_,trivial⟩,?_⟩
  ·rw[hI]
   exact HX a' _ no ix λj hj=>by simpa using(all_eq_true.mp Z) j hj
  rintro i m D A d ⟨rfl,hil,h,ws,P,X,s2,U⟩
  have hyl:D.length<=xs.length:=by
   rw[U.len]
   exact aa4 (zHh c f P) (by rw[length_take];lia)
  obtain⟨y1,y2⟩:=yl i h O d X.ff X.ok
  by_cases t:i<xs.length
  ·obtain⟨go,y3⟩:=y2 xs[i] (aax t)
   obtain⟨E,M⟩:=zQv (i+1) r
   refine .inr ⟨go,by lia,λD A d=>∃(h:Hp),cG B F' H' O h d/\ao B h (lo h [] d) d lV A []/\A2 (rp K (reg B h d md)) D E,(by rintro ys' σ' H' ⟨z,I,L,z3⟩;exact⟨xs.length-(i+1),by lia,rfl,t,z,E,M,I,L,z3⟩),λv C yd=>?_⟩
   obtain⟨z,b,r3⟩:=y3 v C yd
   have Eh:=X.trans b
   have at3:At B lV z [] C A:=⟨b.ok.nil,s2.mono b.ff (zTh ⟨b.ff,b.hh,b.ok.nil,b.nw⟩) b.hh⟩
   refine hg v xs[i] z [] C A _ at3 r3 λT R=>?_
   have s:∀{o q:Hp},cG B z C [] o q->cG B F' H' O o q/\ao B o (lo o [] q) q lV T []:=λ{o q} l=>⟨Eh.trans (cG.lift b.ok l),(R.grow l).2.le0 (hle xs[i])⟩
   rcases zQw M P (aax t) with⟨Y,rfl⟩|⟨y,Y,e2,rfl⟩
   ·refine hc xs[i] false Y z [] C T _ R λo q l=>sW ?_
    obtain⟨I,L⟩:=s l
    exact⟨o,I,L,U.imp λ_ _=>Rp.mono (xX (b.trans (cG.lift b.ok l)) md)⟩
   ·refine hc xs[i] true Y z [] C T _ R λo q l=>sX ?_
    refine he xs[i] y e2 o [] q T _ (R.grow l) λw F6 H6 g6 r6=>?_
    obtain⟨I,L⟩:=s (l.trans g6)
    exact⟨F6,I,L,(U.imp λ_ _=>Rp.mono (xX (b.trans (cG.lift b.ok (l.trans g6))) md)).snoc r6⟩
  ·have e:i=xs.length:=by lia
   subst e
   rw[take_length,r] at P
   cases P
   exact .inl ⟨y1 (aaz _),by lia,λp hp=>k p D h d (gr.trans X) hp U⟩
abbrev isF:Slot K->Bool
 |@Slot.fz _ false _ _ _=>true
 |_=>false
theorem zGc{as:SL K}(k:Nat)(a:as.all isF=true)(r:Ar F as vs):ao ⟨F,H⟩ F L' H (as++replicate k .un) (vs.map some++replicate k none) []:=by
 induction r with
 |nil =>
  show ao _ _ _ _ ([]++_) ([]++_) []
  induction k with
  |zero=>exact .nil
  |succ k ih=>exact .un ih
 |@cons n _ _ _ _ _ _ r _ ih =>
  rw[all_cons,aco] at a
  cases n with
  |false=>exact .fz r (ih a.2)
  |true=>grind
theorem Ar.len(r:Ar F as vs):vs.length=as.length:=by
 induction r with
 |nil=>rfl
 |cons _ _ ih=>grind
theorem zVy{A:Type}{as:A->SL K}{f:A->Option β}{N:List Str}(p:∀a,(as a).all isF=true)(k:∀a,(as a).length=i)(j:∀c a,SB ⟨c,H⟩ (as a++replicate (N.length-i) .un) t al (f a))(h:bW K al as f vs H Q E):t { nx:=λ_ H'=>Q .non H',rt:=Q } (L2.start N vs) H:=by
 obtain⟨a,b,c,s,d,r,q⟩:=h
 have e:L2.start N vs=vs.map some++replicate (N.length-i) none:=by
  unfold L2.start
  rw[r.len,k]
 rw[e]
 refine j c a b d c _ _ H ⟨c,[],.refl _,⟨s,.refl _,λb o h=>.inl h,λx l=>(by cases l),(by simp)⟩,zGc _ (p a) r⟩ (λv H' z=>q v H' z.1 z.2)
theorem zYs{A:Type}{as:A->SL K}{f:A->Option β}(c:∀a,(as a).length=d)(h:bW K al as f vs H Q E):vs.length=d:=by
 obtain⟨a,b,Fa,s,hfa,r,q⟩:=h
 rw[r.len,c]
end
open PySem.SeqAt (EqAt RcAt RcNeAt)
class Eqv (K:Frag) (α:Type) [Rp K α] [DecidableEq α] where
 dep:Nat
 det:∀{H:Hp}{v:V}{a b:α},rp K H v a->rp K H v b->a=b
 Oo:∀{X:Cx}{pins:List (Addr×Obj)}{σ:St}{H:Hp}{s:Shared},Inv X pins σ H s->∀{A:Around},A.units+dep<cLine->∀{v w:V}{u u':Value}{a b:α},rp K H v a->rp K H w b->RelV v u->RelV w u'->EqAt A s u u' (decide (a=b))
 Vo:∀{X:Cx}{pins:List (Addr×Obj)}{σ:St}{H:Hp}{s:Shared},Inv X pins σ H s->∀{A:Around},A.units+dep<cLine->∀{v w:V}{u u':Value}{a b:α},rp K H v a->rp K H w b->RelV v u->RelV w u'->RcAt A s u u' (decide (a=b))
 Vp:∀{X:Cx}{pins:List (Addr×Obj)}{σ:St}{H:Hp}{s:Shared},Inv X pins σ H s->∀{A:Around},A.units+dep<cLine->∀{v w:V}{u u':Value}{a b:α},rp K H v a->rp K H w b->RelV v u->RelV w u'->RcNeAt A s u u' (!decide (a=b))
section
variable{K:Frag}
theorem pL{α:Type}[BEq α][LawfulBEq α][DecidableEq α](a b:α):(a==b)=decide (a=b):=by
 grind
instance:Eqv K Int where
 dep:=0
 det h1 h2:=by cases h1;cases h2;rfl
 Oo _ _ _ _ _ _ _ _ _ h1 h2 r1 r2:=by cases h1;cases h2;obtain⟨t,rfl⟩:=r1;obtain⟨t',rfl⟩:=r2;rw[<-pL];exact EqAt.int_int _ _ _ _
 Vo _ _ _ _ _ _ _ _ _ h1 h2 r1 r2:=by cases h1;cases h2;obtain⟨t,rfl⟩:=r1;obtain⟨t',rfl⟩:=r2;rw[<-pL];exact RcAt.int_int _ _ _ _
 Vp _ _ _ _ _ _ _ _ _ h1 h2 r1 r2:=by cases h1;cases h2;obtain⟨t,rfl⟩:=r1;obtain⟨t',rfl⟩:=r2;rw[<-pL];exact RcNeAt.int_int _ _ _ _
instance:Eqv K Str where
 dep:=0
 det h1 h2:=by cases h1;cases h2;rfl
 Oo _ _ _ _ _ _ _ _ _ h1 h2 r1 r2:=by cases h1;cases h2;obtain⟨t,rfl⟩:=r1;obtain⟨t',rfl⟩:=r2;rw[<-pL];exact EqAt.str_str _ _ _ _
 Vo _ _ _ _ _ _ _ _ _ h1 h2 r1 r2:=by cases h1;cases h2;obtain⟨t,rfl⟩:=r1;obtain⟨t',rfl⟩:=r2;rw[<-pL];exact RcAt.str_str _ _ _ _
 Vp _ _ _ _ _ _ _ _ _ h1 h2 r1 r2:=by cases h1;cases h2;obtain⟨t,rfl⟩:=r1;obtain⟨t',rfl⟩:=r2;rw[<-pL];exact RcNeAt.str_str _ _ _ _
instance:Eqv K Bool where
 dep:=0
 det h1 h2:=by cases h1;cases h2;rfl
 Oo _ _ _ _ _ _ _ _ _ h1 h2 r1 r2:=by cases h1;cases h2;cases r1;cases r2;rw[<-pL];exact EqAt.bool_bool _ _
 Vo _ _ _ _ _ _ _ _ _ h1 h2 r1 r2:=by cases h1;cases h2;cases r1;cases r2;rw[<-pL];exact RcAt.bool_bool _ _
 Vp _ _ _ _ _ _ _ _ _ h1 h2 r1 r2:=by cases h1;cases h2;cases r1;cases r2;rw[<-pL];exact RcNeAt.bool_bool _ _
theorem A2.det{α β:Type}{R:α->β->Prop}(h:∀x y z,R x y->R x z->y=z):∀{xs:List α}{ys zs:List β},A2 R xs ys->A2 R xs zs->ys=zs
 |[],[],[],_,_=>rfl
 |_::_,_::_,_::_,h1,h2=>by rw[h _ _ _ h1.1 h2.1,A2.det h h1.2 h2.2]
 |[],_::_,_,h1,_=>h1.elim
 |[],[],_::_,_,h2=>h2.elim
 |_::_,[],_,h1,_=>h1.elim
 |_::_,_::_,[],_,h2=>h2.elim
theorem Yk{α:Type}[DecidableEq α]:∀{xs ys:List α},xs.length=ys.length->((abb xs.length).all λj=>decide (xs[j]?=ys[j]?))=decide (xs=ys)
 |[],[],_=>by simp
 |x::xs,y::ys,h=>by
  have ih:=Yk (xs:=xs) (ys:=ys) (by simpa using h)
  rw[length_cons,range_succ_eq_map,all_cons,List.all_map]
  have e:((λj=>decide ((x::xs)[j]?=(y::ys)[j]?))∘Nat.succ)=λj=>decide (xs[j]?=ys[j]?):=by
   funext j
   simp
  rw[e,ih]
  by_cases h1:x=y<;>by_cases h2:xs=ys<;>simp[h1,h2]
 |[],_::_,h=>by simp at h
 |_::_,[],h=>by simp at h
theorem S_{α:Type}[Rp K α]{xs:List α}(r:Vals vs us)(h:A2 (rp K H) vs xs)(j:Nat)(hj:j<us.toArray.size):∃v x,xs[j]?=some x/\rp K H v x/\RelV v us.toArray[j]:=by
 have l1:j<vs.length:=by rw[r.length];grind
 obtain⟨u,hu,ru⟩:=r.get (aax l1)
 obtain⟨x,hx,rx⟩:=h.at1 (aax l1)
 grind
theorem zG5{A:Around}:A.in1.units=A.units+1:=rfl
instance{α:Type}[Rp K α][DecidableEq α][Eqv K α]:Eqv K (List α) where
 dep:=Eqv.dep K α+1
 det {H v a b} h1 h2:=by
  obtain⟨p,vs,rfl,h1,r1⟩:=h1
  obtain⟨p',vs',e,h2,r2⟩:=h2
  cases e
  cases h1.symm.trans h2
  exact A2.det (R:=rp K H) (λ_ _ _ z1 z2=>Eqv.det (K:=K) z1 z2) r1 r2
 Vo {X pins σ H s} I {A} hu {v w u u' a b} h1 h2 q1 q2:=by
  obtain⟨p,vs,rfl,h1,r1⟩:=h1
  obtain⟨p',ws,rfl,h2,r2⟩:=h2
  cases q1;cases q2
  obtain⟨us,s1,p1,_⟩:=I.list (bN.of h1)
  obtain⟨us',s2,p2,_⟩:=I.list (bN.of h2)
  have n1:us.toArray.size=a.length:=by rw[size_toArray,<-r1.len];exact s1.length.symm
  have n2:us'.toArray.size=b.length:=by rw[size_toArray,<-r2.len];exact s2.length.symm
  by_cases hl:a.length=b.length
  ·have z:=RcAt.lists (e:=λj=>decide (a[j]?=b[j]?)) p1.isList p2.isList (by rw[n1,n2];exact hl) (aa1 (ab4 _ _) hu) (λj h1 h2=>by
    obtain⟨v,x,e1,e2,e3⟩:=S_ s1 r1 j h1
    obtain⟨w,y,f1,f2,f3⟩:=S_ s2 r2 j h2
    rw[e1,f1]
    have z:=Eqv.Oo (K:=K) I (A:=A.in1) (by rw[zG5];omega) e2 f2 e3 f3
    simpa using z)
   rw[n1,Yk hl] at z
   exact z
  ·rw[show decide (a=b)=false by simp;intro e;exact hl (by rw[e])]
   exact RcAt.lists_lengths p1.isList p2.isList (by rw[n1,n2];exact bne_iff_ne.mpr hl) (aa1 (ab4 _ _) hu)
 Vp {X pins σ H s} I {A} hu {v w u u' a b} h1 h2 q1 q2:=by
  obtain⟨p,vs,rfl,h1,r1⟩:=h1
  obtain⟨p',ws,rfl,h2,r2⟩:=h2
  cases q1;cases q2
  obtain⟨us,s1,p1,_⟩:=I.list (bN.of h1)
  obtain⟨us',s2,p2,_⟩:=I.list (bN.of h2)
  have n1:us.toArray.size=a.length:=by rw[size_toArray,<-r1.len];exact s1.length.symm
  have n2:us'.toArray.size=b.length:=by rw[size_toArray,<-r2.len];exact s2.length.symm
  by_cases hl:a.length=b.length
  ·have z:=RcNeAt.lists (e:=λj=>decide (a[j]?=b[j]?)) p1.isList p2.isList (by rw[n1,n2];exact hl) (aa1 (ab4 _ _) hu) (λj h1 h2=>by
    obtain⟨v,x,e1,e2,e3⟩:=S_ s1 r1 j h1
    obtain⟨w,y,f1,f2,f3⟩:=S_ s2 r2 j h2
    rw[e1,f1]
    have z:=Eqv.Oo (K:=K) I (A:=A.in1) (by rw[zG5];omega) e2 f2 e3 f3
    simpa using z)
   rw[n1,Yk hl] at z
   exact z
  ·rw[show decide (a=b)=false by simp;intro e;exact hl (by rw[e])]
   exact RcNeAt.lists_lengths p1.isList p2.isList (by rw[n1,n2];exact bne_iff_ne.mpr hl) (aa1 (ab4 _ _) hu)
 Oo {X pins σ H s} I {A} hu {v w u u' a b} h1 h2 q1 q2:=by
  obtain⟨p,vs,rfl,h1,r1⟩:=h1
  obtain⟨p',ws,rfl,h2,r2⟩:=h2
  cases q1;cases q2
  by_cases hp:p=p'
  ·subst hp
   cases h1.symm.trans h2
   rw[show a=b from A2.det (R:=rp K H) (λ_ _ _ z1 z2=>Eqv.det (K:=K) z1 z2) r1 r2]
   simp
   exact EqAt.same _
  ·refine EqAt.of_refs hp ?_
   obtain⟨us,s1,p1,_⟩:=I.list (bN.of h1)
   obtain⟨us',s2,p2,_⟩:=I.list (bN.of h2)
   have n1:us.toArray.size=a.length:=by rw[size_toArray,<-r1.len];exact s1.length.symm
   have n2:us'.toArray.size=b.length:=by rw[size_toArray,<-r2.len];exact s2.length.symm
   by_cases hl:a.length=b.length
   ·have z:=RcAt.lists (e:=λj=>decide (a[j]?=b[j]?)) p1.isList p2.isList (by rw[n1,n2];exact hl) (aa1 (ab4 _ _) hu) (λj h1 h2=>by
     obtain⟨v,x,e1,e2,e3⟩:=S_ s1 r1 j h1
     obtain⟨w,y,f1,f2,f3⟩:=S_ s2 r2 j h2
     rw[e1,f1]
     have z:=Eqv.Oo (K:=K) I (A:=A.in1) (by rw[zG5];omega) e2 f2 e3 f3
     simpa using z)
    rw[n1,Yk hl] at z
    exact z
   ·rw[show decide (a=b)=false by simp;intro e;exact hl (by rw[e])]
    exact RcAt.lists_lengths p1.isList p2.isList (by rw[n1,n2];exact bne_iff_ne.mpr hl) (aa1 (ab4 _ _) hu)
def HY(K:Frag)(α:Type)[Rp K α][DecidableEq α](neg:Bool):R2:=λx y H Q=>∃a b:α,rp K H x a/\rp K H y b/\Q (.bl (if neg=true then !decide (a=b) else decide (a=b))) H
theorem wG(K:Frag)(α:Type)[Rp K α][DecidableEq α][Eqv K α]{X:Cx}(hr:cI k X.A)(hd:Eqv.dep K α<=64:=by exact Nat.le_of_ble_eq_true rfl):lE X (compareOp .Eq) (HY K α false):=by
 intro pins s σ H x y v u Q I rx ry h
 obtain⟨a,b,h1,h2,q⟩:=h
 exact Eqv.Vo I (by have:=hr.units;lia) h1 h2 rx ry _ _ _ _ ⟨.bl (decide (a=b)),H,I,rfl,q⟩
theorem zZf(K:Frag)(α:Type)[Rp K α][DecidableEq α][Eqv K α]{X:Cx}(hr:cI k X.A)(hd:Eqv.dep K α<=64:=by exact Nat.le_of_ble_eq_true rfl):lE X (compareOp .NotEq) (HY K α true):=by
 intro pins s σ H x y v u Q I rx ry h
 obtain⟨a,b,h1,h2,q⟩:=h
 exact Eqv.Vp I (by have:=hr.units;lia) h1 h2 rx ry _ _ _ _ ⟨.bl (!decide (a=b)),H,I,rfl,q⟩
variable{B:Bs}{sl:SL K}{md md1:Md}{α β:Type}[Rp K α][Rp K β]{t1 t2 t:TE}
theorem wH[DecidableEq α]{m1 m2:Option α}(h1:Ex B sl .hp t1 m1)(h2:Ex B sl .hp t2 m2):Ex B sl md (jf (HY K α false) t1 t2) (m1.bind λa=>m2.bind λb=>some (decide (a=b))) :=
 Ca (λa b c v w H Q e r1 r2 q=>by cases e;exact⟨a,b,r1,r2,q⟩) h1 h2
theorem zZt[DecidableEq α]{m1 m2:Option α}(h1:Ex B sl .hp t1 m1)(h2:Ex B sl .hp t2 m2):Ex B sl md (jf (HY K α true) t1 t2) (m1.bind λa=>m2.bind λb=>some (!decide (a=b))) :=
 Ca (λa b c v w H Q e r1 r2 q=>by cases e;exact⟨a,b,r1,r2,q⟩) h1 h2
section
variable{m1 m2:Option Int}
theorem Oq{g:Int->Int->V}{f:Int->Int->α}[Sc K α](hg:∀i j,g i j=Sc.val K (f i j))(h1:Ex B sl .hp t1 m1)(h2:Ex B sl .hp t2 m2):Ex B sl md (jf (sI g) t1 t2) (m1.bind λa=>m2.bind λb=>some (f a b)) :=
 Ca (λa b c v w H Q e r1 r2 q=>by cases r1;cases r2;exact⟨a,b,rfl,rfl,by grind⟩) h1 h2
theorem uA(h1:Ex B sl .hp t1 m1)(h2:Ex B sl .hp t2 m2):Ex B sl md (jf (sI λi j=>.int (i+j)) t1 t2) (m1.bind λa=>m2.bind λb=>some (a+b)):=Oq (λ_ _=>rfl) h1 h2
theorem Ym(h1:Ex B sl .hp t1 m1)(h2:Ex B sl .hp t2 m2):Ex B sl md (jf (sI λi j=>.int (i-j)) t1 t2) (m1.bind λa=>m2.bind λb=>some (a-b)):=Oq (λ_ _=>rfl) h1 h2
theorem Vq(h1:Ex B sl .hp t1 m1)(h2:Ex B sl .hp t2 m2):Ex B sl md (jf (sI λi j=>.bl (decide (i<j))) t1 t2) (m1.bind λa=>m2.bind λb=>some (decide (a<b))):=Oq (λ_ _=>rfl) h1 h2
theorem Vr(h1:Ex B sl .hp t1 m1)(h2:Ex B sl .hp t2 m2):Ex B sl md (jf (sI λi j=>.bl (decide (i<=j))) t1 t2) (m1.bind λa=>m2.bind λb=>some (decide (a<=b))):=Oq (λ_ _=>rfl) h1 h2
theorem KQ(h1:Ex B sl .hp t1 m1)(h2:Ex B sl .hp t2 m2):Ex B sl md (jf (sI λi j=>.bl (decide (j<i))) t1 t2) (m1.bind λa=>m2.bind λb=>some (decide (b<a))):=Oq (λ_ _=>rfl) h1 h2
theorem Vs(h1:Ex B sl .hp t1 m1)(h2:Ex B sl .hp t2 m2):Ex B sl md (jf (sI λi j=>.bl (decide (j<=i))) t1 t2) (m1.bind λa=>m2.bind λb=>some (decide (b<=a))):=Oq (λ_ _=>rfl) h1 h2
noncomputable def mulM(a b:Int):Option Int:=if(-(2^64)<a/\a<2^64)\/(-(2^64)<b/\b<2^64) then some (a*b) else none
noncomputable def aZ(a b:Int):Option Int:=if 0<b then some (a%b) else none
noncomputable def bV(a b:Int):Option Int:=if 0<b/\b<1073741824 then some (a/b) else none
noncomputable def Ej(a b:Int):Option Int:=if 0<=b/\b<=1000000/\a.natAbs<2^64 then some (a^b.toNat) else none
theorem zT8(h1:Ex B sl .hp t1 m1)(h2:Ex B sl .hp t2 m2):Ex B sl md (jf (rI Hh λi j=>.int (i*j)) t1 t2) (m1.bind λa=>m2.bind λb=>mulM a b) :=
 Ca (λa b c v w H Q e r1 r2 q=>by
  unfold mulM at e
  split at e
  case isFalse=>cases e
  rename_i hc
  cases e;cases r1;cases r2
  exact⟨a,b,rfl,rfl,hc,q⟩) h1 h2
theorem xK(h1:Ex B sl .hp t1 m1)(h2:Ex B sl .hp t2 m2):Ex B sl md (jf (rI (λ_ j=>0<j) λi j=>.int (i%j)) t1 t2) (m1.bind λa=>m2.bind λb=>aZ a b) :=
 Ca (λa b c v w H Q e r1 r2 q=>by
  unfold aZ at e
  split at e
  case isFalse=>cases e
  rename_i hc
  cases e;cases r1;cases r2
  exact⟨a,b,rfl,rfl,hc,q⟩) h1 h2
theorem vD(h1:Ex B sl .hp t1 m1)(h2:Ex B sl .hp t2 m2):Ex B sl md (jf (rI Uy λi j=>.int (i/j)) t1 t2) (m1.bind λa=>m2.bind λb=>bV a b) :=
 Ca (λa b c v w H Q e r1 r2 q=>by
  unfold bV at e
  split at e
  case isFalse=>cases e
  rename_i hc
  cases e;cases r1;cases r2
  exact⟨a,b,rfl,rfl,hc,q⟩) h1 h2
theorem Ot(h1:Ex B sl .hp t1 m1)(h2:Ex B sl .hp t2 m2):Ex B sl md (jf (rI Hg λi j=>.int (i^j.toNat)) t1 t2) (m1.bind λa=>m2.bind λb=>Ej a b) :=
 Ca (λa b c v w H Q e r1 r2 q=>by
  unfold Ej at e
  split at e
  case isFalse=>cases e
  rename_i hc
  cases e;cases r1;cases r2
  exact⟨a,b,rfl,rfl,hc,q⟩) h1 h2
end
theorem A2.aU(h:A2 R vs xs)(e:L2.aU xs i=some a):∃v,L2.aU vs i=some v/\R v a:=by
 unfold L2.aU at e ⊢
 rw[h.len]
 cases q:vp xs.length i with
 |none=>grind
 |some j=>rw[q] at e;exact h.at2 e
theorem xL{m1:Option (List α)}{m2:Option Int}(h1:Ex B sl md t1 m1)(h2:Ex B sl .hp t2 m2):Ex B sl md (jf (BZ K) t1 t2) (m1.bind λxs=>m2.bind λi=>L2.aU xs i):=λc hc F O H σ Q s k=>by
 obtain⟨xs,i,e1,e2,e3⟩:=sZ hc
 refine h1 xs e1 F O H σ _ s λv F' H' g r1=>?_
 refine h2 i e2 F' O H' σ _ (s.grow g) λw F2 H2 g2 r2=>?_
 cases r2
 obtain⟨p,vs,rfl,z1,z2⟩:=r1
 obtain⟨u,y1,y2⟩:=z2.aU e3
 have hle:=(match md with
  |.nw=>bQ.trans g.ok.fh
  |.fz=>g.ok.fh
  |.hp=>.refl _:Same (reg B F' H' md) H').trans g2.hh
 exact⟨p,vs,i,u,rfl,rfl,bN.of (hle _ _ z1),y1,k u F2 H2 (g.trans g2) (Rp.mono (xX g2 md) y2)⟩
theorem Ou{n:Bool}{xs:List α}{m2:Option Int}(i:Nat)(hs:sl[i]?=some (.ow n xs))(h2:Ex B sl .hp t2 m2):Ex B sl (j9 n) (jf (BZ K) (eU i) t2) (m2.bind λi=>L2.aU xs i):=λc hc F O H σ Q s k=>by
 cases m2 with
 |none=>cases hc
 |some j =>
  obtain⟨O1,O2,p,vs,rfl,y1,y2,_⟩:=s.2.rD hs
  refine⟨_,y1,?_⟩
  refine h2 j rfl F _ H σ _ s λw F2 H2 g2 r2=>?_
  cases r2
  obtain⟨u,z1,z2⟩:=y2.aU hc
  exact⟨p,vs,j,u,rfl,rfl,bN.of (g2.hh _ _ s.1.one.2.2),z1,k u F2 H2 g2 (Rp.mono (xX g2 (j9 n)) z2)⟩
abbrev Ov(K:Frag):List V->Hp->VK->Prop:=λxs H Q=>∃p ys,xs=[.ref p]/\(bN K H p ys\/ni K H p ys)/\Q (.int ys.length) H
theorem wO{m:Option (List α)}(h:Ex B sl .hp t m):Ex B sl md (Ag (Ov K) (wI t bT)) (m.bind λxs=>some (xs.length:Int)):=λc hc F O H σ Q s k=>by
 cases m with
 |none=>cases hc
 |some xs =>
  cases(hc)
  refine h xs rfl F O H σ _ s λv F' H' g r1=>?_
  obtain⟨p,vs,rfl,z1,z2⟩:=r1
  exact⟨p,vs,rfl,.inl (bN.of z1),k _ F' H' g (by show V.int vs.length=V.int xs.length;rw[z2.len])⟩
abbrev KR(K:Frag):List V->Hp->VK->Prop:=λxs H Q=>∃p ys,xs=[V.ref p]/\(bN K H p ys\/ni K H p ys)/\∀l,H l=none->Q (.ref l) (upd H l (.lst ys))
theorem A2.sc{F F':Hp}[Sc K α]{vs:List V}{xs:List α}(h:A2 (rp K F) vs xs):A2 (rp K F') vs xs:=h.imp λ_ _=>D_
theorem Ow[Sc K α]{m:Option (List α)}(h:Ex B sl .hp t m):Eo B sl md (Ag (KR K) (wI t bT)) m:=λc hc F O H σ Q s k=>by
 refine h c hc F O H σ _ s λv F' H' g r1=>?_
 obtain⟨p,vs,rfl,z1,z2⟩:=r1
 exact⟨p,vs,rfl,.inl (bN.of z1),λl hl=>k l vs F' H' g hl z2.sc⟩
class Fl (K:Frag) (α:Type) [Rp K α] [Sc K α] [DecidableEq α]:Prop where
 flat:∀a:α,Gs (Sc.val K a)=true
 eq:∀a b:α,Hx (Sc.val K a) (Sc.val K b)=decide (a=b)
instance:Fl K Int:=⟨λ_=>rfl,λa b=>by show(a==b)=_;exact pL a b⟩
instance:Fl K Str:=⟨λ_=>rfl,λa b=>by show(a==b)=_;exact pL a b⟩
theorem A2.vals[Sc K α]:∀{vs:List V}{xs:List α},A2 (rp K F) vs xs->vs=xs.map (Sc.val K)
 |[],[],_=>rfl
 |_::_,_::_,h=>by rw[map_cons,Sc.is.mp h.1,A2.vals h.2]
 |[],_::_,h=>h.elim
 |_::_,[],h=>h.elim
theorem Yn[Sc K α][DecidableEq α][Fl K α](a:α):∀xs:List α,inV (Sc.val K a) (xs.map (Sc.val K))=decide (a∈xs)
 |[]=>by simp[inV]
 |x::xs=>by
  have ih:=Yn a xs
  unfold inV at ih ⊢
  rw[map_cons,any_cons,Fl.eq]
  grind
theorem zM9[Sc K α][DecidableEq α][Fl K α](xs:List α):(xs.map (Sc.val K)).all Gs=true:=by
 rw[List.all_map,all_eq_true]
 intro x _
 exact Fl.flat x
theorem KY[Sc K α][DecidableEq α][Fl K α]{m1:Option α}{m2:Option (List α)}(h1:Ex B sl .hp t1 m1)(h2:Ex B sl .hp t2 m2):Ex B sl md (jf (NZ K false) t1 t2) (m1.bind λa=>m2.bind λxs=>some (decide (a∈xs))) :=
 Ca (λa b c v w H Q e r1 r2 q=>by
  cases e
  obtain⟨p,vs,rfl,z1,z2⟩:=r2
  have ev:=Sc.is.mp r1
  have es:=z2.vals
  subst ev es
  refine⟨p,_,rfl,.inl (bN.of z1),Fl.flat a,zM9 b,?_⟩
  have:=Yn (K:=K) a b
  rw[this]
  exact q) h1 h2
theorem zT7[Sc K α][DecidableEq α][Fl K α]{m1:Option α}{m2:Option (List α)}(h1:Ex B sl .hp t1 m1)(h2:Ex B sl .hp t2 m2):Ex B sl md (jf (NZ K true) t1 t2) (m1.bind λa=>m2.bind λxs=>some (!decide (a∈xs))) :=
 Ca (λa b c v w H Q e r1 r2 q=>by
  cases e
  obtain⟨p,vs,rfl,z1,z2⟩:=r2
  have ev:=Sc.is.mp r1
  have es:=z2.vals
  subst ev es
  refine⟨p,_,rfl,.inl (bN.of z1),Fl.flat a,zM9 b,?_⟩
  have:=Yn (K:=K) a b
  rw[this]
  exact q) h1 h2
theorem Yo{m:Option (Option α)}(h:Ex B sl .hp t m):Ex B sl md (Uq t) (m.bind λa=>some a.isNone):=λc hc F O H σ Q s k=>by
 cases m with
 |none=>cases hc
 |some a =>
  cases(hc)
  refine h a rfl F O H σ _ s λv F' H' g r1=>?_
  cases a with
  |none=>cases r1;exact k _ F' H' g rfl
  |some x=>rw[decide_eq_false r1.1];exact k _ F' H' g rfl
theorem H_{m:Option (Option α)}(h:Ex B sl .hp t m):Ex B sl md (Kg t) (m.bind λa=>some a.isSome):=λc hc F O H σ Q s k=>by
 cases m with
 |none=>cases hc
 |some a =>
  cases(hc)
  refine h a rfl F O H σ _ s λv F' H' g r1=>?_
  cases a with
  |none=>cases r1;exact k _ F' H' g rfl
  |some x=>rw[decide_eq_false r1.1];exact k _ F' H' g rfl
theorem zUb{m:Option (Option α)}(h:Ex B sl md t m):Ex B sl md t (m.bind λa=>a):=λc hc F O H σ Q s k=>by
 cases m with
 |none=>cases hc
 |some a =>
  cases a with
  |none=>cases hc
  |some x =>
   have e:=abf hc
   subst e
   exact h (some x) rfl F O H σ _ s λv F' H' g r1=>k v F' H' g r1.2
theorem Ia{m:Option mq}(h:Ex B sl .hp t m):Ex B sl md (Ag (Ov K) (wI t bT)) (m.bind λxs=>some (xs.ns.length:Int)):=λc hc F O H σ Q s k=>by
 cases m with
 |none=>cases hc
 |some xs =>
  cases(hc)
  refine h xs rfl F O H σ _ s λv F' H' g r1=>?_
  obtain⟨p,rfl,z1⟩:=r1
  exact⟨p,_,rfl,.inl z1,k _ F' H' g (by show V.int (xs.ns.map V.int).length=V.int xs.ns.length;grind)⟩
theorem Ib(h:L2.aU ns i=some z):L2.aU (ns.map V.int) i=some (.int z):=by
 unfold L2.aU at h ⊢
 cases q:vp ns.length i with
 |none=>grind
 |some j =>
  grind
theorem Ox{m1:Option mq}{m2:Option Int}(h1:Ex B sl .hp t1 m1)(h2:Ex B sl .hp t2 m2):Ex B sl md (jf (BZ K) t1 t2) (m1.bind λxs=>m2.bind λi=>L2.aU xs.ns i) :=
 Ca (λa b c v w H Q e r1 r2 q=>by
  subst r2
  obtain⟨p,rfl,z1⟩:=r1
  exact⟨p,a.ns.map V.int,b,.int c,rfl,rfl,z1,Ib e,q⟩) h1 h2
theorem zT9{m1 m2:Option Int}(h1:Ex B sl .hp t1 m1)(h2:Ex B sl .hp t2 m2):Ex B sl md (Ag (λxs H Q=>∃i j,xs=[.int i,.int j]/\Q (.int (if j<i then j else i)) H) (wI t1 (wI t2 bT))) (m1.bind λa=>m2.bind λb=>some (min a b)):=λc hc F O H σ Q s k=>by
 obtain⟨a,b,e1,e2,e3⟩:=sZ hc
 cases e3
 refine h1 a e1 F O H σ _ s λv F' H' g r1=>?_
 refine h2 b e2 F' O H' σ _ (s.grow g) λw F2 H2 g2 r2=>?_
 cases r1;cases r2
 exact⟨a,b,rfl,by rw[show(if b<a then b else a)=min a b by split<;>lia];exact k _ F2 H2 (g.trans g2) rfl⟩
class Ty (K:Frag) (α:Type) [Rp K α] where
 ty:Value
 is:∀{H:Hp}{v:V}{a:α},rp K H v a->lZ K H v ty
instance:Ty K Int:=⟨.type "int",λh=>by cases h;exact .int _⟩
instance:Ty K Str:=⟨.type "str",λh=>by cases h;exact .str _⟩
instance:Ty K (List α):=⟨.type "list",λ⟨p,vs,e,h,_⟩=>by rw[e];exact .lst h⟩
theorem Tc[Ty K α]{c:Value}{y:V}{b:Bool}{m:Option α}(hb:kitOne K (Ty.ty K α) c=some b)(hy:RelV y c)(h:Ex B sl .hp t m):Ex B sl md (Ag (HB K c) (wI t (wI (tC y) bT))) (m.bind λ_=>some b):=λd hd F O H σ Q s k=>by
 cases m with
 |none=>cases hd
 |some a =>
  cases(show some b=some d from hd)
  refine h a rfl F O H σ _ s λv F' H' g r1=>?_
  exact⟨v,y,_,b,rfl,hy,Ty.is r1,hb,k _ F' H' g rfl⟩
end
def src(xss:List LI)(j:Nat):LI:=((abb xss.length).filter λk=>decide ((j:Int)∈xss.getD k [])).map adb
theorem kW{α:Type}{p q:α->Bool}:∀{l:List α},(∀x∈l,p x=q x)->l.filter p=l.filter q
 |[],_=>rfl
 |a::l,h=>by
  rw[filter_cons,filter_cons,h a mem_cons_self,kW λx b=>h x (mem_cons_of_mem _ b)]
theorem zVx(xss:List LI)(xs:LI)(j:Nat):src (xss++[xs]) j=src xss j++(if(j:Int)∈xs then[(xss.length:Int)] else[]):=by
 unfold src
 rw[length_append,length_singleton,range_succ,List.filter_append,map_append]
 congr 1
 ·congr 1
  refine kW λk hk=>?_
  grind
 grind
theorem zVw{xss:List LI}{i:Nat}{xs:LI}(h:xss[i]?=some xs)(j:Nat):src (xss.take (i+1)) j=src (xss.take i) j++(if(j:Int)∈xs then[(i:Int)] else[]):=by
 have a:=(aa0.mp h).1
 rw[take_add_one,h]
 have e:(some xs:Option LI).toList=[xs]:=rfl
 rw[e,zVx,length_take,Nat.min_eq_left (acz a)]
theorem Ie(xss:List LI)(j:Nat):(src xss j).length<=xss.length:=by
 unfold src
 grind
theorem int_at{ns:LI}{i:Nat}{y:V}(h:(ns.map V.int)[i]?=some y):∃z,y=.int z/\ns[i]?=some z:=by
 rw[getElem?_map] at h
 cases e:ns[i]? with
 |none=>rw[e] at h;cases h
 |some z=>rw[e] at h;exact⟨z,(abf h).symm,rfl⟩
theorem zSc{bs:List Addr}{i:Nat}{y:V}(h:(bs.map V.ref)[i]?=some y):∃b,y=.ref b/\bs[i]?=some b:=by
 rw[getElem?_map] at h
 cases e:bs[i]? with
 |none=>rw[e] at h;cases h
 |some z=>rw[e] at h;exact⟨z,(abf h).symm,rfl⟩
theorem zSb{bs:List Addr}{i:Nat}{b:Addr}(h:bs[i]?=some b):(bs.map V.ref)[i]?=some (.ref b):=by rw[getElem?_map,h]<;>rfl
theorem xB{α:Type}{xs:List α}{x:α}(h:xs[i]?=some x):i<xs.length:=(aa0.mp h).1
theorem zTg{i:Nat}(h:i<1920):((i:Int)).natAbs.log2<1920:=by
 exact aa1 (Nat.log2_le_self i) h
theorem zE5{ns:LI}(nd:ns.Nodup)(h:ns[i]?=some z):¬z∈ns.take i:=λhz=>by
 obtain⟨j,hj⟩:=mem_iff_getElem?.mp hz
 have hji:j<i:=by
  have:=xB hj
  rw[length_take] at this
  omega
 rw[getElem?_take_of_lt hji] at hj
 have hi:=xB h
 have hjl:=xB hj
 rw[aax hi] at h
 rw[aax hjl] at hj
 have e:ns[j]=ns[i]:=(abf hj).trans (abf h).symm
 have:=(getElem_inj nd).mp e
 omega
theorem Yp{α:Type}{ns:List α}{z x:α}(h:ns[i]?=some z):x∈ns.take (i+1)↔x∈ns.take i\/x=z:=by
 rw[take_add_one,h]
 simp
def v8(K:Frag)(H:Hp)(bs:List Addr)(xss:List LI):Prop:=bs.length=xss.length/\∀(i:Nat)(b:Addr),bs[i]?=some b->∃c:LI,xss[i]?=some c/\bN K H b (c.map V.int)
theorem v8.same(r:v8 K H bs xss)(s:Same H H'):v8 K H' bs xss:=⟨r.1,λi b h=>let⟨d,a,c⟩:=r.2 i b h;⟨d,a,s.seq c⟩⟩
def Yq(n:Nat)(xss:List LI):Prop:=xss.length=n/\∀a∈xss,a≠[]/\a.Nodup/\a.length<=100/\∀z∈a,0<=z/\z<(n:Int)
def v9(H:Hp)(b:List Addr)(a:Nat->LI):Prop:=∀(j:Nat)(c:Addr),b[j]?=some c->H c=some (.lst ((a j).map V.int))
structure Bl(K:Frag)(mg:Str->Option Value):Prop where
 len:mg "len" = none
 range:mg "range" = none
 rG:mg "isinstance" = none
 int:mg "int" = none
 bool:mg "bool" = none
 list:mg "list" = none
 enum:mg "enumerate" = none
 ii:kitOne K (.type "int") (.type "int")=some true
 ib:kitOne K (.type "int") (.type "bool")=some false
 ll:kitOne K (.type "list") (.type "list")=some true
theorem Vt:kitOne K (.type "int") (.type "int")=some true:=rfl
theorem Vu:kitOne K (.type "list") (.type "list")=some true:=rfl
theorem Vv:kitOne K (.type "int") (.type "bool")=some false:=by
 first|rfl|grind
theorem uZ:bootBuiltins "isinstance" = some (.builtin "isinstance"):=by decide +kernel
theorem zUy:bootBuiltins "int" = some (.type "int"):=by decide +kernel
theorem zUz:bootBuiltins "bool" = some (.type "bool"):=by decide +kernel
theorem KZ:bootBuiltins "list" = some (.type "list"):=by decide +kernel
structure News(H H':Hp)(cs:List Addr)(xss:List (List V)):Prop where
 len:cs.length=xss.length
 at_:∀(i:Nat)(c:Addr),cs[i]?=some c->∃xs,xss[i]?=some xs/\H' c=some (.lst xs)
 new:∀c∈cs,H c=none
 nd:cs.Nodup
theorem News.nil:News H H' [] []:=⟨rfl,λi c h=>(by simp at h),λc h=>(by cases h),nodup_nil⟩
theorem News.snoc(n:News H H1 cs xss)(s:Same H H1)(h:H1 l=none):News H (upd H1 l (.lst xs)) (cs++[l]) (xss++[xs]):=by
 have hl:∀c∈cs,c≠l:=λc hc e=>by
  obtain⟨i,hi⟩:=mem_iff_getElem?.mp hc
  obtain⟨ys,_,q⟩:=n.at_ i c hi
  rw[e,h] at q
  cases q
 refine⟨by rw[length_append,length_append,n.len]<;>rfl,λi c hc=>?_,λc hc=>?_,?_⟩
 ·by_cases hi:i<cs.length
  ·rw[getElem?_append_left hi] at hc
   obtain⟨ys,h1,h2⟩:=n.at_ i c hc
   refine⟨ys,?_,?_⟩
   ·rw[getElem?_append_left (by rw[<-n.len];exact hi)];exact h1
   ·rw[zX (hl c (mem_of_getElem? hc))];exact h2
  ·rw[getElem?_append_right (by omega)] at hc
   have hi2:i-cs.length=0:=by
    have:=xB hc
    simp at this
    omega
   rw[hi2] at hc
   have e:l=c:=abf hc
   subst e
   refine⟨xs,?_,zT⟩
   rw[getElem?_append_right (by rw[<-n.len];omega),<-n.len,hi2]<;>rfl
 ·rcases mem_append.mp hc with hc|hc
  ·exact n.new c hc
  ·rw[mem_singleton.mp hc];exact s.free h
 ·rw[nodup_append]
  refine⟨n.nd,by simp,λa ha b hb e=>?_⟩
  rw[mem_singleton.mp hb] at e
  exact hl a ha e
theorem News.Vw(n:News H H' c xss)(h:H' r=none):r∉c:=λb=>by
 obtain⟨i,a⟩:=mem_iff_getElem?.mp b
 obtain⟨ys,_,q⟩:=n.at_ i r a
 grind
structure aq(C:Addr) where
 steps:List LI
 marks:List (Str×LI)
 fair:List LI
 sources:List LI
def mth:List Str:=["many","next_of","before","marked","fair_at","names_at"]
def srcs(xss:List LI):List LI:=(abb xss.length).map (src xss)
def hid(H:Hp)(p:Addr):Hp:=λb=>if b=p then none else H b
section
variable{K:Frag}{C:Addr}
instance:Rp K (aq C):=⟨λF v m=>∃p dx fs vS vM vF vB,v=.ref p/\F p=some (.ins C dx fs)/\fs.lookup ("steps":Str)=some vS/\rp K F vS m.steps/\fs.lookup ("marks":Str)=some vM/\rp K F vM m.marks/\fs.lookup ("fair":Str)=some vF/\rp K F vF m.fair /\
 fs.lookup ("sources":Str)=some vB/\rp K F vB m.sources/\∀g∈mth,fs.lookup g=none,
 λs h=>by
  obtain⟨p,dx,fs,vS,vM,vF,vB,h1,h2,h3,h4,h5,h6,h7,h8,h9,h10,h11⟩:=h
  exact⟨p,dx,fs,vS,vM,vF,vB,h1,s _ _ h2,h3,Rp.mono s h4,h5,Rp.mono s h6,h7,Rp.mono s h8,h9,Rp.mono s h10,h11⟩⟩
theorem Gu(ns:LI):A2 (rp K F) (ns.map V.int) ns:=A2.of_map (f:=V.int) (λ_=>rfl) ns
theorem zU4:∀{cs:List Addr}{xss:List LI},cs.length=xss.length->(∀(i:Nat)(c:Addr),cs[i]?=some c->∃xs,xss[i]?=some xs/\F c=some (.lst (xs.map V.int)))->A2 (rp K F) (cs.map V.ref) xss
 |[],[],_,_=>trivial
 |c::cs,xs::xss,hl,h=>by
  obtain⟨ys,e1,e2⟩:=h 0 c rfl
  cases e1
  exact⟨⟨c,_,rfl,e2,Gu _⟩,zU4 (by simpa using hl) λi c' hc=>h (i+1) c' hc⟩
 |[],_::_,hl,_=>by simp at hl
 |_::_,[],hl,_=>by simp at hl
theorem zRt{xss:List LI}(h:i<xss.length):(srcs xss)[i]?=some (src xss i):=by
 unfold srcs
 rw[getElem?_map,getElem?_range h]
 rfl
theorem Ig{a:List Addr}{xss:List LI}(d:a.length=xss.length)(n:v9 H' a (src xss))(h:∀c∈a,∀o,H' c=some o->D c=some o):A2 (rp K D) (a.map V.ref) (srcs xss):=by
 refine zU4 (by rw[d];unfold srcs;simp) λi c b=>?_
 have hi:=xB b
 exact⟨_,zRt (by lia),h c (mem_of_getElem? b) _ (n i c b)⟩
end
section
variable{K:Frag}{B:Bs}{F H F' H' G:Hp}{O:Own}{sl:SL K}{σ:St}{md:Md}{α β:Type}[Rp K α][Rp K β]{te ta:TE}{C:Addr}
theorem Yr{d:aq C->α}(cl:Cls K C)(i:bO K C f)(j:∀(R:Hp) (v:V) (x:aq C),rp K R v x->∃p b fs w,v=.ref p/\R p=some (.ins C b fs)/\fs.lookup f=some w/\rp K R w (d x))(h:Ex B sl md ta m) :
  Ex B sl md (sJ K ta f) (m.bind λx=>some (d x)):=λc e F O H σ Q s k=>by
 cases m with
 |none=>cases e
 |some x =>
  cases(e)
  refine h x rfl F O H σ _ s λv F' H' g r=>?_
  obtain⟨p,b,fs,w,rfl,l,o,n⟩:=j _ v x r
  have a:Same (reg B F' H' md) H':=match md with
   |.nw=>bQ.trans g.ok.fh
   |.fz=>g.ok.fh
   |.hp=>.refl _
  exact⟨p,C,b,fs,w,rfl,a _ _ l,cl,i,o,k w F' H' g n⟩
theorem zLq{m:Option (aq C)}(cl:Cls K C)(g:bO K C "steps")(h:Ex B sl md ta m):Ex B sl md (sJ K ta "steps") (m.bind λx=>some x.steps) :=
 Yr cl g (by rintro R v x ⟨p,b,c,a,vM,vF,vB,e,i,f,d,_⟩;exact⟨p,b,c,a,e,i,f,d⟩) h
theorem zHa{m:Option (aq C)}(cl:Cls K C)(f:bO K C "marks")(h:Ex B sl md ta m):Ex B sl md (sJ K ta "marks") (m.bind λx=>some x.marks) :=
 Yr cl f (by rintro R v x ⟨p,b,c,vS,i,vF,vB,e,g,_,_,a,d,_⟩;exact⟨p,b,c,i,e,g,a,d⟩) h
theorem Ys{m:Option (aq C)}(cl:Cls K C)(g:bO K C "fair")(h:Ex B sl md ta m):Ex B sl md (sJ K ta "fair") (m.bind λx=>some x.fair) :=
 Yr cl g (by rintro R v x ⟨p,b,c,vS,vM,d,vB,f,i,_,_,_,_,a,e,_⟩;exact⟨p,b,c,d,f,i,a,e⟩) h
theorem zNd{m:Option (aq C)}(cl:Cls K C)(g:bO K C "sources")(h:Ex B sl md ta m):Ex B sl md (sJ K ta "sources") (m.bind λx=>some x.sources) :=
 Yr cl g (by rintro R v x ⟨p,i,c,vS,vM,vF,e,f,b,_,_,_,_,_,_,d,a,_⟩;exact⟨p,i,c,e,f,b,d,a⟩) h
theorem Di{A:Type}{as:A->SL K}{f:aq C×A->Option β}{e:Option A}(z:g∈mth)(h0:Ex B sl .hp ta k)(h:Ea B sl .hp t as e) :
  Ex B sl md (UW C g (bW K false (λx:aq C×A=>.fz false x.1::as x.2) f) [] E0 ta t) (k.bind λx=>e.bind λa=>f (x,a)):=λc i F O H σ Q s u=>by
 cases k with
 |none=>cases i
 |some x =>
  cases e with
  |none=>cases i
  |some a =>
   refine h0 x rfl F O H σ _ s λv w J l q=>?_
   obtain⟨p,y,E,vS,vM,vF,vB,rfl,I,h3,h4,h5,h6,h7,h8,h9,h10,d⟩:=id q
   refine⟨p,y,E,rfl,I,d g z,?_⟩
   refine h a rfl w O J σ _ (s.grow l) λvs F' H' b r=>?_
   rw[append_nil]
   refine⟨(x,a),c,H',.refl _,i,.cons (Rp.mono b.hh q) r,λv D n L=>?_⟩
   have o:=b.ok.called n
   refine u v _ D (l.trans (b.trans o)) ?_
   have j:=Rp.mono (zNa (F:=F') b.ok.h0 n) L
   exact match md with
   |.nw=>j
   |.fz=>Rp.mono bQ j
   |.hp=>Rp.mono (bQ.trans o.ok.fh) j
noncomputable def En(B:Bs)(sl:SL K)(t:TE){α:Type}[Rp K α](m:Option α):Prop :=
 ∀a,m=some a->∀(F:Hp)(O:Own)(H:Hp)(σ:St)(Q:VK),At B sl F O H σ->(∀(v:V)(F' c b:Hp),cG B F H O F' c->Same c b->rp K (dif b c) v a->Q v b)->t σ H Q
theorem En.ex{m:Option α}(h:En B sl te m):Ex B sl md te m:=λc f F O H σ Q s e=>h c f F O H σ Q s λv F' H1 i g b j=>by
 have d:=g.ok.called b
 refine e v _ i (g.trans d) ?_
 have a:=Rp.mono (zNa (F:=F') g.ok.h0 b) j
 exact match md with
 |.nw=>a
 |.fz=>Rp.mono bQ a
 |.hp=>Rp.mono (bQ.trans d.ok.fh) a
theorem Oz(h1:F b=none)(h2:∀x∈O,x.1≠b):lo F O H b=H b:=by
 unfold lo
 grind
theorem K1{s:Slot K}{m:Option α}(i:Nat)(w:sl[i]?=some s)(t:lG s=false)(h:En B sl te m):Sn B sl (pD te (vm i)) (λa=>sl.set i (.nu a)) m:=λa J G D σ H s k=>by
 obtain⟨F,O,g,z⟩:=s
 refine h a J F O H σ _ z λv F' n p c f r=>k _ _ ?_
 have I:=z.grow c
 have A:Ok B F' O p:=⟨c.ok.fh.trans f,c.ok.h0.trans f,c.ok.fa,λx d=>⟨(c.ok.fo x d).1,(c.ok.fo x d).2.1,f _ _ (c.ok.fo x d).2.2⟩,c.ok.nd⟩
 have l:Same (lo F' O n) (lo F' O p):=λb o e=>by
  unfold lo at e ⊢
  split at e
  ·cases e
  ·rename_i E
   rw[if_neg E]
   exact f _ _ e
 refine⟨F',O,g.trans c.ff,A,(I.2.mono (.refl _) l f).put (λ_ _ _ y=>.nu (Rp.mono (λb o e=>?_) r) y) w t⟩
 have j:n b=none:=by
  cases q:n b with
  |none=>rfl
  |some u=>unfold dif at e;rw[q] at e;cases e
 rw[wP (c.ok.h0.free j),Oz (c.ok.fh.free j) λx d q=>by rw[<-q,(c.ok.fo x d).2.2] at j;cases j]
 exact bQ _ _ e
class IsL (K:Frag) (α:Type) [Rp K α]:Prop where
 il:∀{F:Hp}{v:V}{a:α},rp K F v a->∃p vs,v=.ref p/\F p=some (.lst vs)
abbrev zTr:Slot K->Bool
 |@Slot.hs _ _ _ _=>true
 |@Slot.nu _ _ _ _=>true
 |_=>false
theorem Td(h:dif (lo F O H) B.H0 b=some o):F b=none/\B.H0 b=none/\(∀x∈O,x.1≠b)/\H b=some o:=by
 have a:B.H0 b=none:=by
  cases q:B.H0 b with
  |none=>rfl
  |some u=>unfold dif at h;grind
 rw[wP a] at h
 unfold lo at h
 split at h
 ·cases h
 ·rename_i c
  simp at c
  grind
theorem Ok.Vx(k:Ok B F O H)(b:F p=none)(h2:B.H0 p=none)(c:∀x∈O,x.1≠p):Ok B F O (upd H p o) :=
 ⟨k.fh.put b o,k.h0.put h2 o,k.fa,λx a=>⟨(k.fo x a).1,(k.fo x a).2.1,by rw[zX (c x a)];exact(k.fo x a).2.2⟩,k.nd⟩
theorem ao.calm(h:ao B F L H sl σ O)(hn:sl.all (λs=>!zTr s)=true):ao B F L' H' sl σ O:=by
 induction h with
 |nil=>exact .nil
 |un _ ih=>exact .un (ih (by grind))
 |fz r _ ih=>exact .fz (Rp.mono (vG _ (.refl _)) r) (ih (by grind))
 |hs r _ ih=>grind
 |nu r _ ih=>grind
 |ow r _ ih=>exact .ow (r.imp λ_ _=>Rp.mono (vG _ (.refl _))) (ih (by grind))
 |od r _ ih=>exact .od r (ih (by grind))
 |ob r _ ih=>exact .ob (Ob.mono (vG _ (.refl _)) r) (ih (by grind))
theorem zYv(h:ao B F L H sl σ O)(b:sl[i]?=some s)(a:lG s=false):ao B F L H (sl.set i .un) σ O:=by
 have c:i<σ.length:=by rw[h.len];grind
 have z:=h.put (x:=σ[i]) (λ_ _ _ y=>.un y) b a
 rw[Ol (aax c)] at z
 exact z
instance(n:Nat)(xss:List LI):Decidable (Yq n xss):=by unfold Yq;infer_instance
theorem zYu{s:Slot K}(i:Nat)(b:sl[i]?=some (.fz n x))(h:Ex B sl .hp te m):Sn B sl (Uv i te (XQ f)) (λa=>sl.set i (.fz true a)) (m.bind λy=>some (f x y)):=λa d G D σ H s k=>by
 cases m with
 |none=>cases d
 |some y =>
  cases(d)
  obtain⟨F,O,g,z⟩:=s
  obtain⟨v,j,e⟩:=z.2.Br b
  subst e
  refine⟨_,j,h y rfl F O H σ _ z λw F' H' c r=>?_⟩
  cases r
  exact⟨x,y,rfl,rfl,k _ _ (Sg.set (g.trans c.ff) (z.grow c) b rfl rfl)⟩
end
section
variable{K:Frag}{X:Cx}
theorem Ih(K:Frag)(h:X.K=K:=by rfl):lE X (compareOp .In) (NZ K false):=by subst h;exact zSt
theorem zMq(K:Frag)(h:X.K=K:=by rfl):lE X (compareOp .NotIn) (NZ K true):=by subst h;exact zKy
theorem aX(K:Frag)(h:X.K=K:=by rfl):U7 X (BZ K):=by subst h;exact zTo
theorem OD(K:Frag)(h:X.K=K:=by rfl):U7 X (DN K):=by subst h;exact NP
theorem wL(K:Frag)(h:X.K=K:=by rfl):rB X (.builtin "len") (Ov K):=by subst h;exact zL3
theorem OJ(K:Frag)(h:X.K=K:=by rfl):rB X (.type "list") (KR K):=by subst h;exact zL2
theorem uY(K:Frag)(a:∀y u,RelV y c->RelV y u->u=c)(h:X.K=K:=by rfl):rB X (.builtin "isinstance") (HB K c):=by subst h;exact zX3 a
theorem Dj(K:Frag)(b:PE X e c)(h:X.K=K:=by rfl)(a:attributeBase e f X.env (eval e X.env)=eval e X.env:=by rfl):PE X (.Attribute e f pos) (sJ K c f):=by subst h;exact zZb b a
theorem yS(K:Frag)(b:PE X l a)(h:X.K=K:=by rfl):PI X tg l (Du K a):=by subst h;exact ZQ b
theorem Vy(K:Frag)(b:X.mg "enumerate" = none)(f:PA X [a] c)(h:X.K=K:=by rfl)(e:Gl X "enumerate":=by rfl)(d:starEach [a] X.env=[(false,eval a X.env)]:=by rfl) :
  PI X (.Tuple elts k tp) (.Call (.Name "enumerate" p) [a] [] pos) (DX K c):=by subst h;exact zSm e b f d
theorem rH(K:Frag){o e:Expr}{es:List Expr}{k:TE}{t:TA}{name:Str}{c a:Pos}{T id:String}{r:V->List V->Hp->VK->Prop}(n:PlainAttrs T)(g:PySem.Slot T name id)(j:typeOf (.builtin id)=pure (.type "method_descriptor"))(m:Va X id r)(l:PE X o k)(q:PA X (e::es) t)(h:X.K=K:=by rfl)(f:attributeBase o name X.env (eval o X.env)=eval o X.env:=by rfl)(i:((backTo a (starEach (e::es) X.env)).all (λx=>!x.1)&&(backToKw a (keywordEach [] X.env)).all (λx=>x.1.isSome)
   && decide ((e::es).length+([]:List Keyword).length+(if([]:List Keyword).isEmpty then 0 else 1)<30))=true:=by rfl)(d:(c.endLine==a.line)=true:=by rfl)(p:starEach (e::es) X.env=(false,eval e X.env)::starEach es X.env:=by rfl)(b:(backTo a (starEach es X.env)).any (·.1)=false:=by rfl) :
  PE X (.Call (.Attribute o name c) (e::es) [] a) (N6 K T r k t):=by subst h;exact KC n g j m l q f i d p b
theorem zZd(K:Frag){o:Expr}{g:TE}{name:Str}{b a:Pos}{T id:String}{r:V->List V->Hp->VK->Prop}(i:PlainAttrs T)(e:PySem.Slot T name id)(f:typeOf (.builtin id)=pure (.type "method_descriptor"))(k:Va X id r)(j:PE X o g)(h:X.K=K:=by rfl)(d:attributeBase o name X.env (eval o X.env)=eval o X.env:=by rfl)(c:(b.endLine==a.line)=true:=by rfl):PE X (.Call (.Attribute o name b) [] [] a) (N5 K T r g):=by subst h;exact N7 i e f k j d c
theorem O4:bootBuiltins "max" = some (.builtin "max"):=by decide +kernel
theorem zZ7:bootBuiltins "min" = some (.builtin "min"):=by decide +kernel
theorem O6:bootBuiltins "any" = some (.builtin "any"):=by decide +kernel
theorem O7:bootBuiltins "all" = some (.builtin "all"):=by decide +kernel
theorem Yt:bootBuiltins "sorted" = some (.builtin "sorted"):=by decide +kernel
theorem Ab:Et B sl Hz (some true):=λa b F O H σ Q s k=>by cases b;exact k F H (.refl s.1)
theorem zYw{B:Bs}{b sl2:SL K}{t:TS}{al:Bool}{β:Type}[Rp K β]{m:Option β}(l:Le b sl2)(h:SB B sl2 t al m):SB B b t al m:=λa c G D σ H q k=>h a c G D σ H (q.le l) k
theorem Ek{α:Type}:∀c:List α,some []=some c->c.length<=0:=λc h=>by grind
theorem xM{α:Type}{m:Option α}{ma:Option (List α)}(h:∀b,ma=some b->b.length<=n):∀c,(m.bind λa=>ma.bind λb=>some (a::b))=some c->c.length<=n+1:=λc e=>by
 cases m with
 |none=>cases e
 |some a =>
  cases ma with
  |none=>cases e
  |some b=>cases e;exact acq (h b rfl)
theorem bnd{α β:Type}(a:α)(f:α->Option β):(some a).bind f=f a:=(λ(x:Option α) (e:x=some a)=>by grind:∀x,x=some a->x.bind f=f a) _ rfl
def fuel:Nat:=100000
structure aW(P:Program)(w:World)(K:Frag)(mg:Str->Option Value)(base:Heap)(k:Nat)(x:Str)(ps:List Str)(sp:Sp):Prop where
 ex:∃f fd,au P w K mg base aP k f fd ps sp/\Binds K fd ps []/\keepIn K (.ref f)=true/\mg x=some (.ref f)
structure fV(P:Program)(w:World)(K:Frag)(mg:Str->Option Value)(base:Heap)(k:Nat)(C:Addr)(m:Str)(ps:List Str)(sp:Sp):Prop where
 ex:∃f fd,au P w K mg base aP k f fd ps sp/\Binds K fd ps []/\Meth K C m f
 cl:Cls K C
theorem aW.mono(c:aW P w K mg base j x ps sp)(h:j<=k):aW P w K mg base k x ps sp:=by
 obtain⟨f,d,a,b⟩:=c.ex
 exact⟨f,d,a.mono h,b⟩
theorem fV.mono(c:fV P w K mg base j C x ps sp)(h:j<=k):fV P w K mg base k C x ps sp:=by
 obtain⟨f,d,a,b⟩:=c.ex
 exact⟨⟨f,d,a.mono h,b⟩,c.cl⟩
theorem zU(c:aW X.prog X.w X.K X.mg X.base k x ps sp)(i:cI k X.A)(m:PA X (e::es) t)(l:Gl X x:=by rfl)(a:(x==("__debug__":Str))=false:=by decide)(j:starEach (e::es) X.env=(false,eval e X.env)::starEach es X.env:=by rfl)(b:(backTo pos (starEach es X.env)).any (·.1)=false:=by rfl):PE X (.Call (.Name x p) (e::es) [] pos) (UL sp [] E0 t):=by
 obtain⟨f,fd,g,n,h,d⟩:=c.ex
 exact Hq g i l d h n .nil vV m a j b
theorem K3(c:fV X.prog X.w X.K X.mg X.base k C m ps sp)(j:cI k X.A)(l:PE X o n)(p:PA X (e::es) t)(b:starEach (e::es) X.env=(false,eval e X.env)::starEach es X.env:=by rfl)(d:(backTo pos (starEach es X.env)).any (·.1)=false:=by rfl)(h:eval (.Call (.Attribute o m a) (e::es) [] pos) X.env=(do
   let g <-eval o X.env
   standAt a.atName
   let(f,first) <-holding [g] (getMethod g m pl)
   callWith pos f first (backTo pos (starEach (e::es) X.env)) (backToKw pos (keywordEach [] X.env))):=by rfl):PE X (.Call (.Attribute o m a) (e::es) [] pos) (UW C m sp [] E0 n t):=by
 obtain⟨f,fd,r,q,i⟩:=c.ex
 exact Hr l c.cl i r j q .nil vV p b d h
theorem Yu(c:fV X.prog X.w X.K X.mg X.base k C m ps sp)(h:cI k X.A)(i:PE X o j)(d:eval (.Call (.Attribute o m a) [] [] pos) X.env=(do
   let b <-eval o X.env
   standAt a.atName
   let(f,first) <-holding [b] (getMethod b m pl)
   callWith pos f first (backTo pos (starEach [] X.env)) (backToKw pos (keywordEach [] X.env))):=by rfl):PE X (.Call (.Attribute o m a) [] [] pos) (UW C m sp [] E0 j bT):=by
 obtain⟨f,fd,e,l,g⟩:=c.ex
 exact zWl i c.cl g e h l .nil vV d
end
section
variable{P:Program}{w:World}{K:Frag}{mg:Str->Option Value}{base:Heap}
theorem yK{A β:Type}[Rp K β]{as:A->SL K}{e:A->Option β}(F:aY K x d st f i)(S:ak N ps (zJ st))(o:∀a,(as a).all isF=true)(g:∀a,(as a).length=ps.length)(l:∀(c:Value) (A:Around) (b:List Env) (s:Shared) (H:Hp) (E:XK),cI k (A.deeper (ado d (zJ st) s.heap.objs.size f c)) ->
   ∃t,qT (sS aP P w K mg base N d (zJ st) f c A b s H E).Ko (vX st) t/\∀j a,SB ⟨j,H⟩ (as a++replicate (N.length-ps.length) .un) t al (e a)) :
  au P w K mg base aP (k+1) f i ps (bW K al as e) :=
 F.ok S (λm H Q E h=>zYs g h) λc A b s H m Q E n h=>by
  obtain⟨t,p,q⟩:=l c A b s H E n
  exact⟨t,p,zVy o g q h⟩
end
noncomputable def W{α:Type}(m:Option α)(P:α->Prop):Prop:=∃a,m=some a/\P a
section
variable{α β S:Type}
theorem aj:W (some a) P↔P a:=⟨λ⟨_,e,h⟩=>by grind,λh=>⟨a,rfl,h⟩⟩
theorem Em:W (none:Option α) P↔False:=⟨λ⟨_,e,_⟩=>(by cases e),abz⟩
theorem zC{m:Option α}:W (m.bind f) Q↔W m λa=>W (f a) Q:=by
 cases m with
 |none=>exact⟨λ⟨_,e,_⟩=>(by cases e),λ⟨_,e,_⟩=>(by cases e)⟩
 |some a=>exact⟨λh=>⟨a,rfl,h⟩,by rintro⟨_,e,h⟩;grind⟩
theorem Yv:W ((Out.nx s:Out S β).els f) Q↔W (f s) Q:=ae1
theorem Vz{a:Type}{f:S->Option (Out a β)}{Q:Out a β->Prop}:W ((Out.nx s:Out S β).aV f) Q↔W (f s) Q:=ae1
theorem W.imp{Q:α->Prop}(h:W m P)(f:∀a,P a->Q a):W m Q:=let⟨a,e,p⟩:=h;⟨a,e,f a p⟩
theorem uB:W (aZ a b) Q↔0<b/\Q (a%b):=by
 unfold aZ
 split
 ·rw[aj];grind
 ·rw[Em];grind
theorem oV:W (bV a b) Q↔(0<b/\b<1073741824)/\Q (a/b):=by
 unfold bV
 split
 ·rename_i h;rw[aj];exact⟨λq=>⟨h,q⟩,λq=>q.2⟩
 ·rename_i h;rw[Em];exact⟨abz,λq=>h q.1⟩
theorem K4:W (mulM a b) Q↔((-(2^64)<a/\a<2^64)\/(-(2^64)<b/\b<2^64))/\Q (a*b):=by
 unfold mulM
 split
 ·rw[aj];grind
 ·rw[Em];grind
theorem VB:W (Ej a b) Q↔(0<=b/\b<=1000000/\a.natAbs<2^64)/\Q (a^b.toNat):=by
 unfold Ej
 split
 ·rw[aj];grind
 ·rw[Em];grind
theorem Cd:W (push xs a) Q↔xs.length<cap/\Q (xs++[a]):=by
 unfold push
 split
 ·rename_i h;rw[aj];exact⟨λq=>⟨h,q⟩,λq=>q.2⟩
 ·rename_i h;rw[Em];exact⟨abz,λq=>h q.1⟩
def rng(n:Int):LI:=(abb n.toNat).map adb
theorem uG:W (bH n) Q↔(-(2^62)<=n/\n<2^62)/\Q (rng n):=by
 unfold bH rng
 split
 ·rename_i h;rw[aj];exact⟨λq=>⟨h,q⟩,λq=>q.2⟩
 ·rename_i h;rw[Em];exact⟨abz,λq=>h q.1⟩
theorem Te(h:0<=n):((rng n).length:Int)=n:=by
 unfold rng
 grind
theorem K5{n:Int}{i:Nat}{x:Int}(h:(rng n)[i]?=some x):x=i/\(i:Int)<n:=by
 obtain⟨a,b⟩:=zI8 h
 exact⟨b,by omega⟩
theorem cU:x∈rng n↔0<=x/\x<n:=by
 unfold rng
 rw[mem_map]
 constructor
 ·grind
 ·intro⟨h1,h2⟩
  exact⟨x.toNat,mem_range.mpr (by lia),by grind⟩
theorem Bv(h:0<=i):L2.aU xs i=xs[i.toNat]?:=by
 unfold L2.aU vp
 rw[if_pos h]
 by_cases q:i<xs.length
 ·rw[if_pos q];rfl
 ·rw[if_neg q,abt (by omega)];rfl
theorem dz(h0:0<=i):W (L2.aU xs i) Q↔∃a,xs[i.toNat]?=some a/\Q a:=by
 rw[Bv h0]
 exact ae1
theorem zV4{xs:List α}{i:Int}{a:α}(h0:0<=i)(h1:i<xs.length):setAt xs i a=some (xs.set i.toNat a):=by
 unfold setAt vp
 rw[if_pos h0,if_pos h1]
 rfl
theorem VD{xs:List α}{i:Int}{a:α}{Q:List α->Prop}(h0:0<=i)(b:i<xs.length):W (setAt xs i a) Q↔Q (xs.set i.toNat a):=by
 rw[zV4 h0 b,aj]
theorem vE{step:S->α->Option S}{Q:S->Prop}(I:Nat->S->Prop)(h0:I 0 s)(f:∀i x s,xs[i]?=some x->I i s->W (step s x) (I (i+1)))(g:∀s,I xs.length s->Q s):W (xW step xs s) Q:=by
 have key:∀(a:List α)(i:Nat)(s:S),(∀j x,a[j]?=some x->xs[i+j]?=some x)->i+a.length=xs.length->I i s->W (xW step a s) Q:=by
  intro a
  induction a with
  |nil=>intro i s _ c h;exact⟨s,rfl,g s ((c)▸h)⟩
  |cons y a ih =>
   intro i s d c h
   show W ((step s y).bind λb=>xW step a b) Q
   rw[zC]
   refine(f i y s (d 0 y rfl) h).imp λb e=>ih (i+1) b (λj x hx=>?_) (by grind) e
   have:=d (j+1) x (by grind)
   grind
 grind
theorem zIn{step:S->α->Option (Out S β)}:oJ step (x::xs) s=(step s x).bind λo=>o.aV λs'=>oJ step xs s':=by
 congr 1
theorem zNl{step:S->α->Option (Out S β)}{Q:Out S β->Prop}(I:Nat->S->Prop)(h0:I 0 s)(e:∀i x s,xs[i]?=some x->I i s->W (step s x) λo=>∃s',o=.nx s'/\I (i+1) s')(f:∀s,I xs.length s->Q (.nx s)):W (oJ step xs s) Q:=by
 have key:∀(a:List α)(i:Nat)(s:S),(∀j x,a[j]?=some x->xs[i+j]?=some x)->i+a.length=xs.length->I i s->W (oJ step a s) Q:=by
  intro a
  induction a with
  |nil=>intro i s _ c h;exact⟨.nx s,rfl,f s ((c)▸h)⟩
  |cons y a ih =>
   intro i s b c h
   rw[zIn,zC]
   refine(e i y s (b 0 y rfl) h).imp ?_
   rintro o ⟨s',rfl,d⟩
   refine ih (i+1) s' (λj x hx=>?_) (by grind) d
   have:=b (j+1) x (by grind)
   grind
 grind
theorem zU5{c:S->Option Bool}{a:S->Option S}(I:S->Prop)(μ:S->Nat)(h0:I s)(hk:μ s<k)(d:∀s,I s->W (c s) λb=>if b=true then W (a s) λs'=>I s'/\μ s'<μ s else Q s):W (HJ c a k s) Q:=by
 induction k generalizing s with
 |zero=>lia
 |succ k ih =>
  show W ((c s).bind λb=>if b=true then(a s).bind λs'=>HJ c a k s' else some s) Q
  rw[zC]
  refine(d s h0).imp λb h=>?_
  cases b with
  |true =>
   simp only[if_true]
   rw[zC]
   exact h.imp λs' ⟨e,h2⟩=>ih e (by lia)
  |false=>simpa[aj] using h
theorem zLz(c:α->Bool)(f:α->β):∀xs:List α,vO (λx=>some (c x)) (λx=>some (f x)) xs=some ((xs.filter c).map f)
 |[]=>rfl
 |x::xs=>by
  have ih:=zLz c f xs
  show(some (c x)).bind _=_
  grind
theorem zU8(c:α->Bool)(f:α->β):W (aO (λx=>some (c x)) (λx=>some (f x)) xs) Q↔xs.length<cap/\Q ((xs.filter c).map f):=by
 unfold aO
 split
 ·rename_i h;rw[zLz,aj];exact⟨λq=>⟨h,q⟩,λq=>q.2⟩
 ·rename_i h;rw[Em];exact⟨abz,λq=>h q.1⟩
theorem zT3(xs:List α):xs.filter (λ_=>true)=xs:=List.filter_eq_self.mpr λ_ _=>rfl
theorem Gv(f:α->β):W (aO (λ_=>some true) (λx=>some (f x)) xs) Q↔xs.length<cap/\Q (xs.map f):=by
 rw[zU8 (λ_=>true) f,zT3]
theorem oW[Decidable c]:W (if c then a else b) Q↔(c->W a Q)/\(¬c->W b Q):=by
 grind
theorem yT(h:n<=1000):n<cap:=aa1 h (by decide)
def aL(n:Int)(xs:LI):Prop:=xs.Pairwise (· < ·)/\∀x∈xs,0<=x/\x<n
theorem aL.nodup(h:aL n xs):xs.Nodup:=h.1.imp λq=>Int.ne_of_lt q
theorem zWc:aL n []:=⟨.nil,λx h=>by cases h⟩
theorem zR8(h:aL k xs)(h0:0<=k)(hk:k<n):aL n (xs++[k]):=by
 refine⟨List.pairwise_append.mpr ⟨h.1,by simp,λx a y b=>?_⟩,λx a=>?_⟩
 ·rw[mem_singleton.mp b];exact(h.2 x a).2
 ·rcases mem_append.mp a with q|q
  ·have:=h.2 x q;lia
  grind
theorem Ii(h:aL n xs)(l:n<=m):aL m xs:=⟨h.1,λx a=>by have:=h.2 x a;omega⟩
theorem wC:∀{n:Nat}{xs:LI},xs.Nodup->(∀x∈xs,0<=x/\x<(n:Int))->xs.length<=n
 |0,xs,_,h=>by
  cases xs with
  |nil=>grind
  |cons x xs=>have:=h x mem_cons_self;lia
 |n+1,xs,a,h=>by
  by_cases q:(n:Int)∈xs
  ·have l:=List.length_erase_of_mem q
   have ih:=wC (n:=n) (xs:=xs.erase (n:Int)) (a.erase _) λx b=>by
    grind
   lia
  ·have ih:=wC (n:=n) a λx b=>by
    grind
   lia
end
end Ts
namespace L2
open PySem PySem.Spec PyProof.Rows
theorem Yw:∀{ns:LI}{a:List Value},Vals (ns.map V.int) a->IntsAre a ns
 |[],[],_=>.nil
 |n::ns,_::a,h=>by
  cases h with
  |cons r t =>
   obtain⟨k,rfl⟩:=r
   exact .cons n k (Yw t)
theorem Yx:∀{ns:LI}{a:List Value},IntsAre a ns->Vals (ns.map V.int) a
 |_,_,.nil=>.nil
 |_,_,.cons n t h=>.cons ⟨t,rfl⟩ (Yx h)
section
variable{X:Cx}
def K6(K:Frag)(R:Int->Int->Prop):List V->Hp->VK->Prop:=λc H Q=>∃(p:Addr)(b:LI),c=[.ref p]/\bN K H p (b.map V.int)/\b≠[]/\∀M,M∈b->(∀a∈b,R M a)->Q (.int M) H
theorem zX4{a:Array (Int×Tok)}(b:ns=a.toList.map (·.1))(j:Nat)(hj:j<a.size):numAt a j∈ns:=by
 have e:=numAt_eq a j
 rw[e,b]
 refine PySem.getD_mem ?_
 grind
theorem zUr(K:Frag)(x:X.calm=true)(hK:X.K=K:=by rfl):rB X (.builtin "max") (K6 K (λM a=>a<=M)):=by
 subst hK
 intro pins s σ H xs us Q I r h
 obtain⟨p,ns,rfl,n,hne,q⟩:=h
 obtain⟨u,rfl,rx⟩:=Dw r
 cases rx
 obtain⟨g,r',w,hz⟩:=I.list n
 have k:=Yw r'
 obtain⟨b,e⟩:=k.allInts.items
 have d:ns=b.toList.map (·.1):=(k.numsOf.symm.trans (congrArg numsOf (show g=(intItems b).toList by grind))).trans (nums_intItems b)
 have f:0<b.size:=by
  grind
 have l:=w.isList
 rw[e] at l
 refine max_intList (I.ok.hd x) l f λv h' tk y A=>?_
 obtain⟨t,rfl⟩:=intItems_at y
 obtain⟨b1,b2⟩:=argBest_gt (numAt b) (b.size-1)
 refine⟨.int (numAt b (argBest (λi j=>decide (numAt b i > numAt b j)) (b.size-1))),H,I.kept A,⟨t,rfl⟩,q _ (zX4 d _ (by lia)) λa m=>?_⟩
 rw[d] at m
 obtain⟨j,o,rfl⟩:=PySem.mem_getD m
 rw[length_map,length_toList] at o
 have z:=b2 j (by lia)
 rw[numAt_eq b j] at z
 exact z
def K7(K:Frag):List V->Hp->VK->Prop:=λc H Q=>∃(p:Addr)(b:LI),c=[.ref p]/\bN K H p (b.map V.int)/\b.length<64/\∀(l:Addr)(a:LI),H l=none->a.Perm b->a.Pairwise (· <= ·)->Q (.ref l) (upd H l (.lst (a.map V.int)))
theorem zFb(K:Frag)(m:X.K=K:=by rfl):rB X (.builtin "sorted") (K7 K):=by
 subst m
 intro pins s σ H xs us Q I r h
 obtain⟨p,ns,rfl,k,h64,q⟩:=h
 obtain⟨u,rfl,n⟩:=Dw r
 cases n
 obtain⟨d,g,j,hz⟩:=I.list k
 have i:=g.length
 rw[length_map] at i
 refine sorted_ints j.isList (Yw g) (by lia) λa c t f o=>?_
 obtain⟨e,he⟩:=sortedAll_at s.heap d a
 have l:=I.hok.fresh (ab7 _)
 refine⟨.ref (s.heap.objs.size+1),_,I.laid (λb ob w=>sortedAll_old w) (ab7 _) ?_,rfl,q _ c l f o⟩
 refine⟨?_,a.toList,e,Yx t,?_⟩
 ·rw[length_map,f.length_eq]
  grind
 ·simp_all
theorem zF8{bs:List Bool}(r:Vals (bs.map V.bl) its):TruthOf prog w A (λi v=>its.toArray[i]?=some v) (λi=>bs.getD i false):=by
 intro i v s Q E hv hq
 have hv:its[i]?=some v:=by simpa using hv
 have hi:i<bs.length:=by
  have:=(aa0.mp hv).1
  rw[<-r.length,length_map] at this
  exact this
 obtain⟨u,h1,h2⟩:=r.get (i:=i) (x:=.bl bs[i]) (by rw[getElem?_map,aax hi]<;>rfl)
 rw[hv] at h1
 cases h1
 cases h2
 have hq:Q (bs.getD i false) s:=hq
 rw[getD_eq_getElem?_getD,aax hi] at hq
 exact abu hq
theorem zSf{bs:List Bool}:((abb bs.length).any λi=>bs.getD i false)=bs.any id:=by
 rw[acj,any_eq_true,any_eq_true]
 constructor
 ·rintro⟨i,b,c⟩
  have a:=mem_range.mp b
  rw[getD_eq_getElem?_getD,aax a] at c
  exact⟨_,getElem_mem a,c⟩
 ·rintro⟨x,b,c⟩
  obtain⟨i,a,e⟩:=getElem_of_mem b
  refine⟨i,mem_range.mpr a,?_⟩
  grind
theorem zSg{bs:List Bool}:((abb bs.length).all λi=>bs.getD i false)=bs.all id:=by
 rw[acj,all_eq_true,all_eq_true]
 constructor
 ·intro h x b
  obtain⟨i,a,e⟩:=getElem_of_mem b
  have z:=h i (mem_range.mpr a)
  grind
 ·intro h i a
  have a:=mem_range.mp a
  rw[getD_eq_getElem?_getD,aax a]
  exact h _ (getElem_mem a)
def zSh(K:Frag)(f:List Bool->Bool):List V->Hp->VK->Prop:=λb H Q=>∃(p:Addr)(a:List Bool),b=[.ref p]/\bN K H p (a.map V.bl)/\Q (.bl (f a)) H
theorem wg{s:Shared}{h':Heap}(a:∀b o,b∉[s.heap.objs.size]->(s.heap.push { cls:=.type "list_iterator",data:=.fields #[.ref l,.int 0 0] }).get? b=some o->h'.get? b=some o) :
  ∀b o,s.heap.get? b=some o->h'.get? b=some o:=λb o e=>a b o (λm=>ab2 _ (mem_singleton.mp m▸lt_size e)) (get?_push_of_some _ e)
theorem zUv(K:Frag)(l:X.calm=true)(m:X.K=K:=by rfl):rB X (.builtin "any") (zSh K λbs=>bs.any id):=by
 subst m
 intro pins s σ H xs us Q I r h
 obtain⟨p,bs,rfl,i,q⟩:=h
 obtain⟨u,rfl,f⟩:=Dw r
 cases f
 obtain⟨a,d,k,hz⟩:=I.list i
 have c:=k.isList
 have b:p<s.heap.objs.size:=by obtain⟨_,e,_⟩:=c;exact lt_size e
 refine call_any_walk (ad6 c ?_)
 refine⟨_,_,_,_,_,_,_,rfl,Walks.list (A:=X.A.in1) (I.ok.hd l) s.heap.objs.size p (aa8 b) a.toArray,⟨⟨_,get?_push_size _ rfl,rfl,rfl⟩,c.push _⟩,zF8 d,λh' tk g=>?_⟩
 have j:a.toArray.size=bs.length:=by
  rw[size_toArray,<-d.length,length_map]
 rw[j,zSf]
 exact⟨.bl (bs.any id),H,I.kept (wg g),rfl,q⟩
theorem zUw(K:Frag)(l:X.calm=true)(m:X.K=K:=by rfl):rB X (.builtin "all") (zSh K λbs=>bs.all id):=by
 subst m
 intro pins s σ H xs us Q I r h
 obtain⟨p,bs,rfl,i,q⟩:=h
 obtain⟨u,rfl,f⟩:=Dw r
 cases f
 obtain⟨a,d,k,hz⟩:=I.list i
 have c:=k.isList
 have b:p<s.heap.objs.size:=by obtain⟨_,e,_⟩:=c;exact lt_size e
 refine call_all_walk (ad6 c ?_)
 refine⟨_,_,_,_,_,_,_,rfl,Walks.list (A:=X.A.in1) (I.ok.hd l) s.heap.objs.size p (aa8 b) a.toArray,⟨⟨_,get?_push_size _ rfl,rfl,rfl⟩,c.push _⟩,zF8 d,λh' tk g=>?_⟩
 have j:a.toArray.size=bs.length:=by
  rw[size_toArray,<-d.length,length_map]
 rw[j,zSg]
 exact⟨.bl (bs.all id),H,I.kept (wg g),rfl,q⟩
end
end L2
namespace Ts
open PySem L2
def mz:LI->Int
 |[]=>0
 |[x]=>x
 |x::xs=>max x (mz xs)
theorem zM8:∀{ns:LI}{a:Int},a∈ns->a<=mz ns
 |[x],a,h=>by rw[mem_singleton.mp h];exact ace _
 |x::y::ns,a,h=>by
  show a<=max x (mz (y::ns))
  rcases mem_cons.mp h with rfl|h
  ·lia
  ·have:=zM8 h;lia
theorem zJp:∀{ns:LI},ns≠[]->mz ns∈ns
 |[x],_=>by simp[mz]
 |x::y::ns,_=>by
  show max x (mz (y::ns))∈_
  have:=zJp (ns:=y::ns) (by simp)
  grind
noncomputable def Ce(ns:LI):Option Int:=if ns=[] then none else some (mz ns)
def Ep(ns:LI):LI:=ns.mergeSort (λa b=>decide (a<=b))
noncomputable def jt(ns:LI):Option LI:=if ns.length<64 then some (Ep ns) else none
theorem wK(ns:LI):(Ep ns).Perm ns:=List.mergeSort_perm _ _
theorem zFk(ns:LI):(Ep ns).Pairwise (· <= ·):=by
 have:=List.pairwise_mergeSort (le:=λa b=>decide (a<=b)) (λa b c h1 h2=>by grind) (λa b=>by grind) ns
 exact this.imp λh=>by grind
theorem zGb:∀{xs ys:LI},xs.Perm ys->xs.Pairwise (· <= ·)->ys.Pairwise (· <= ·)->xs=ys
 |[],ys,p,_,_=>(Perm.nil_eq p)
 |x::xs,[],p,_,_=>by simp_all
 |x::xs,y::ys,p,h1,h2=>by
  have a1:=pairwise_cons.mp h1
  have a2:=pairwise_cons.mp h2
  have e:x=y:=by
   have q1:=p.subset mem_cons_self
   have q2:=p.symm.subset mem_cons_self
   grind
  subst e
  rw[zGb (Perm.cons_inv p) a1.2 a2.2]
section
variable{K:Frag}{B:Bs}{sl:SL K}{md:Md}{t t1 t2:TE}{n:Bool}
theorem Ij(h:Ex B sl .hp t m):Ex B sl md (Ag (K6 K (λM a=>a<=M)) (wI t bT)) (m.bind Ce):=λc hc F O H σ Q s k=>by
 cases m with
 |none=>cases hc
 |some ns =>
  have hc:Ce ns=some c:=hc
  unfold Ce at hc
  split at hc
  ·cases hc
  rename_i hne
  cases hc
  refine h ns rfl F O H σ _ s λv F' H' g r1=>?_
  obtain⟨p,vs,rfl,z1,z2⟩:=r1
  have z3:=z2.vals
  subst z3
  refine⟨p,ns,rfl,bN.of z1,hne,λM m1 m2=>?_⟩
  have e:M=mz ns:=by have:=zM8 m1;have:=m2 _ (zJp hne);lia
  rw[e]
  exact k _ F' H' g rfl
theorem zNf(h:Ex B sl .hp t m):Eo B sl md (Ag (K7 K) (wI t bT)) (m.bind jt):=λc hc F O H σ Q s k=>by
 cases m with
 |none=>cases hc
 |some ns =>
  have hc:jt ns=some c:=hc
  unfold jt at hc
  split at hc
  case isFalse=>cases hc
  rename_i hl
  cases hc
  refine h ns rfl F O H σ _ s λv F' H' g r1=>?_
  obtain⟨p,vs,rfl,z1,z2⟩:=r1
  have z3:=z2.vals
  subst z3
  refine⟨p,ns,rfl,bN.of z1,hl,λl ns' hn p1 p2=>?_⟩
  rw[zGb (p1.trans (wK ns).symm) p2 (zFk ns)]
  exact k l _ F' H' g hn (Gu _)
theorem zOu(h:Ex B sl .hp t m):Ex B sl md (Ag (zSh K f) (wI t bT)) (m.bind λbs=>some (f bs)):=λc hc F O H σ Q s k=>by
 cases m with
 |none=>cases hc
 |some bs =>
  cases(hc)
  refine h bs rfl F O H σ _ s λv F' H' g r1=>?_
  obtain⟨p,vs,rfl,z1,z2⟩:=r1
  have z3:=z2.vals
  subst z3
  exact⟨p,bs,rfl,bN.of z1,k _ F' H' g rfl⟩
theorem Tf(h:Ex B sl .hp t m):Ex B sl md (tUn (rU λi=>.int (-i)) t) (m.bind λa=>some (-a)):=λc hc F O H σ Q s k=>by
 cases m with
 |none=>cases hc
 |some a =>
  cases(show some (-a)=some c from hc)
  refine h a rfl F O H σ _ s λv F' H' g r1=>?_
  cases r1
  exact⟨a,rfl,k _ F' H' g rfl⟩
end
section
variable{β:Type}
noncomputable def gK(kvs:List (Key×β))(k:Key):Option β:=(kvs.find? λa=>decide (a.1=k)).map (·.2)
def pK(kvs:List (Key×β))(k:Key)(v:β):List (Key×β):=if(kvs.any λa=>decide (a.1=k))=true then kvs.map (λa=>if a.1=k then(a.1,v) else a) else kvs++[(k,v)]
abbrev oK(kvs:List (Key×β))(k:Int):Option β:=gK kvs (ab5 k)
noncomputable def dput(kvs:List (Key×β))(k:Int)(v:β):Option (List (Key×β)):=if kvs.length<cap then some (pK kvs (ab5 k) v) else none
theorem Yy:∀{kvs:List (Key×β)}{k:Key},(kvs.any λa=>decide (a.1=k))=(gK kvs k).isSome
 |[],_=>rfl
 |x::kvs,k=>by
  unfold gK
  grind
theorem zZq:∀(kvs:List (Key×β))(k j:Key)(v:β),gK (pK kvs k v) j=if j=k then some v else gK kvs j:=λkvs k j v=>by
 unfold pK
 cases a:(kvs.any λb=>decide (b.1=k)) with
 |true =>
  rw[if_pos rfl]
  induction kvs with
  |nil=>cases a
  |cons x kvs ih =>
   unfold gK at ih ⊢
   rw[map_cons,find?_cons,find?_cons]
   by_cases e:x.1=k
   ·rw[if_pos e]
    by_cases f:j=k
    ·subst f
     rw[decide_eq_true (show(x.1,v).1=j from e),if_pos rfl];rfl
    ·rw[decide_eq_false (show¬(x.1,v).1=j fromλz=>f (z.symm.trans e)),if_neg f]
     show Option.map (λx=>x.2) (List.find? (λb=>decide (b.1=j)) (List.map (λb=>if b.1=k then(b.1,v) else b) kvs))=Option.map (λx=>x.2) (List.find? (λb=>decide (b.1=j)) kvs)
     clear ih a
     induction kvs with
     |nil=>rfl
     |cons y kvs ih =>
      grind
   grind
 |false =>
  rw[if_neg (by decide)]
  unfold gK
  grind
theorem zZe(kvs:List (Key×β))(k:Key)(v:β):(pK kvs k v).length<=kvs.length+1:=by
 unfold pK
 grind
end
section
variable{K:Frag}{α:Type}[Rp K α]
abbrev DR(K:Frag){α:Type}[Rp K α](F:Hp):Key×V->Key×α->Prop:=λx y=>x.1=y.1/\rp K F x.2 y.2
theorem A2.any:∀{ks:List (Key×V)}{kvs:List (Key×α)},A2 (DR K F) ks kvs->(ks.any λa=>decide (a.1=k))=(kvs.any λa=>decide (a.1=k))
 |[],[],_=>rfl
 |_::_,_::_,h=>by rw[any_cons,any_cons,h.1.1,A2.any h.2]
 |[],_::_,h=>h.elim
 |_::_,[],h=>h.elim
theorem A2.val:∀{ks:List (Key×V)}{kvs:List (Key×α)},A2 (DR K F) ks kvs->(gK kvs k=none/\jr ks k=none)\/∃a v,gK kvs k=some a/\jr ks k=some v/\rp K F v a
 |[],[],_=>.inl ⟨rfl,rfl⟩
 |x::ks,y::kvs,h=>by
  unfold gK jr
  rw[find?_cons,find?_cons,h.1.1]
  by_cases e:y.1=k
  ·rw[decide_eq_true e];exact .inr ⟨y.2,x.2,rfl,rfl,h.1.2⟩
  ·rw[decide_eq_false e];exact A2.val h.2
 |[],_::_,h=>h.elim
 |_::_,[],h=>h.elim
theorem A2.VF(r:rp K F v a):∀{ks:List (Key×V)}{kvs:List (Key×α)},A2 (DR K F) ks kvs->A2 (DR K F) (ks.map λb=>if b.1=k then(b.1,v) else b) (kvs.map λb=>if b.1=k then(b.1,a) else b)
 |[],[],_=>trivial
 |x::ks,y::kvs,h=>by
  rw[map_cons,map_cons]
  refine⟨?_,A2.VF r h.2⟩
  by_cases e:x.1=k
  ·rw[if_pos e,if_pos (h.1.1▸e)];exact⟨h.1.1,r⟩
  ·rw[if_neg e,if_neg (h.1.1▸e)];exact h.1
 |[],_::_,h=>h.elim
 |_::_,[],h=>h.elim
theorem A2.put{F:Hp}{k:Key}{v:V}{a:α}(r:rp K F v a){ks:List (Key×V)}{kvs:List (Key×α)}(h:A2 (DR K F) ks kvs):A2 (DR K F) (putK ks k v) (pK kvs k a):=by
 unfold putK pK
 rw[h.any]
 split
 ·exact h.VF r
 ·exact h.snoc ⟨rfl,r⟩
structure Dc(α:Type) where
 kv:List (Key×α)
instance:Rp K (Dc α):=⟨λF v d=>∃p ks,v=.ref p/\F p=some (.dK ks)/\A2 (DR K F) ks d.kv,λs ⟨p,ks,h1,h2,h3⟩=>⟨p,ks,h1,s _ _ h2,h3.imp λ_ _ z=>⟨z.1,Rp.mono s z.2⟩⟩⟩
variable{B:Bs}{sl:SL K}{md:Md}{t t2:TE}{F H G:Hp}{O:Own}{σ:St}{u:TS}{al:Bool}
theorem zNb{kvs:List (Key×α)}(i:Nat)(e:sl[i]?=some (.od kvs)):Ex B sl .hp (eU i) (some (Dc.mk kvs)):=λa' f F O H σ Q s k=>by
 cases f
 obtain⟨a,b⟩:=s
 obtain⟨O1,O2,p,c,rfl,d,g,_⟩:=b.KH e
 exact⟨_,d,k _ F H (.refl a) ⟨p,c,rfl,a.one.2.2,g.imp λ_ _ z=>⟨z.1,Rp.mono a.fh z.2⟩⟩⟩
theorem O8{m:Option Int}{b:Option (Dc α)}(h:Ex B sl .hp t m)(h2:Ex B sl .hp t2 b):Ex B sl md (NK t t2) (m.bind λk=>b.bind λd=>some (oK d.kv k).isSome):=λc o F O H σ Q s f=>by
 obtain⟨k,d,i,l,n⟩:=sZ o
 cases n
 refine h k i F O H σ _ s λv C q g y=>?_
 refine h2 d l C O q σ _ (s.grow g) λw J E z D=>?_
 cases y
 obtain⟨p,A,rfl,x,I⟩:=D
 refine⟨p,_,rfl,sV.k (k:=ab5 k) x,?_⟩
 have e:(jr A (ab5 k:Key)).isSome=(oK d.kv k).isSome:=by
  rcases I.val (k:=ab5 k) with⟨j,r⟩|⟨a,v,j,r,_⟩
  ·grind
  grind
 rw[e]
 exact f _ J E (g.trans z) rfl
theorem zUc{m:Option Int}{b:Option (Dc α)}(h:Ex B sl .hp t m)(h2:Ex B sl .hp t2 b):Ex B sl md (zRo t t2) (m.bind λk=>b.bind λd=>some !(oK d.kv k).isSome):=λc o F O H σ Q s f=>by
 obtain⟨k,d,i,l,n⟩:=sZ o
 cases n
 refine h k i F O H σ _ s λv C q g y=>?_
 refine h2 d l C O q σ _ (s.grow g) λw J E z D=>?_
 cases y
 obtain⟨p,A,rfl,x,I⟩:=D
 refine⟨p,_,rfl,sV.k (k:=ab5 k) x,?_⟩
 have e:(jr A (ab5 k:Key)).isSome=(oK d.kv k).isSome:=by
  rcases I.val (k:=ab5 k) with⟨j,r⟩|⟨a,v,j,r,_⟩
  ·grind
  grind
 rw[e]
 exact f _ J E (g.trans z) rfl
theorem zRv{kvs:List (Key×α)}{m:Option α}{mi:Option Int}{te x:TE}(i:Nat)(C:sl[i]?=some (.od kvs))(A:sl.all (λs=>!pJ s)=true)(J:Ex B sl .fz te m)(N:Ex B sl .hp x mi) :
  Sn B sl (DK (eU i) x te) (λys=>sl.set i (.od ys)) (m.bind λa=>mi.bind λk=>dput kvs k a):=λys E G D σ H s k=>by
 obtain⟨a,h,S,U,f⟩:=sZ E
 unfold dput at f
 split at f
 case isFalse=>cases f
 rename_i Q
 cases f
 obtain⟨F,O,g,z⟩:=s
 refine J a S F O H σ _ z λv P M j r=>?_
 obtain⟨p,ks,y,h2,h3,_⟩:=(z.grow j).HW C A
 refine⟨_,y,?_⟩
 refine N h U P O M σ _ (z.grow j) λw T H2 b L=>?_
 cases L
 obtain⟨p',n,l,q,c,o⟩:=((z.grow j).grow b).HW C A
 have e:=y.symm.trans l
 cases e
 obtain⟨I,R⟩:=o (putK n (ab5 h) v) (pK kvs (ab5 h) a) (c.put (Rp.mono b.ff r))
 exact⟨p,_,rfl,BX.k (k:=ab5 h) q (HF (by rw[c.len];exact Q)),k _ _ ⟨T,I,(g.trans j.ff).trans b.ff,R⟩⟩
end
section
variable{K:Frag}{B:Bs}{sl:SL K}{md:Md}{t:TE}{u:TS}{al:Bool}{α:Type}[Rp K α]
abbrev VG:List V->Hp->VK->Prop:=λa H Q=>(∃i,a=[.int i]/\Q (.int i) H)\/∃k,a=[.bl k]/\Q (.int (if k then 1 else 0)) H
theorem Ik(h:Ex B sl .hp t m):Ex B sl md (Ag VG (wI t bT)) (m.bind λb=>some (if b=true then(1:Int) else 0)):=λc a F O H σ Q s k=>by
 cases m with
 |none=>cases a
 |some b =>
  cases(a)
  refine h b rfl F O H σ _ s λv e d g f=>?_
  cases f
  exact .inr ⟨b,rfl,k _ e d g rfl⟩
end
end Ts
namespace L2
open PySem PySem.Spec PyProof.Rows
section
variable{X:Cx}
theorem KV.pN{ks:List (Key×V)}{vs:List (Key×Value)}(r:KV ks vs):ks.map (·.1)=vs.map (·.1):=by
 induction r with
 |nil=>rfl
 |cons h _ ih=>grind
end
def Its(x:Str):It:=⟨λi _=>i<x.cps.size,λi H v a=>a=H/\∃c,x.cps[i]?=some c/\v=.str ⟨#[c]⟩,λi _=>x.cps.size<=i⟩
theorem zPp{P:Program}{w:World}{K:Frag}{N:Expr}(d:Addr)(x:Str)(t:Tok):Turn P w K N (Its x) [d] d (λi h=>h.IsStrIter d "str_ascii_iterator" x t i) where
 mem:=mem_singleton.mpr rfl
 obj:=λi h st b f=>by
  have e:b=d:=mem_singleton.mp f
  subst e
  obtain⟨o,m,g,M⟩:=st
  grind
 keep:=λi h l st k=>by
  obtain⟨o,m,r⟩:=st
  exact⟨o,k d (mem_singleton.mpr rfl) _ m,r⟩
 item:=by
  intro X B q y g i a s σ H E I p st G
  subst B q y
  obtain⟨A,D,O,C,J,F⟩:=p d (mem_singleton.mpr rfl)
  refine(Walks.strAscii (prog:=X.prog) (w:=X.w) (I.ok.hd g) d x t).item i s _ _ G st λv l L R j U=>?_
  obtain⟨c,u,S,rfl⟩:=R
  have T:Inv X a σ H { s with heap:=l,toks:=L }:=I.turned (λb o f e=>U b o (λz=>f (mem_singleton.mp z)) e) A D C J F
  obtain⟨o,m,g,M⟩:=id j
  exact⟨_,rfl,Ux (s:={ s with heap:=l,toks:=L }) (n:="str_ascii_iterator") m g M (by decide) ⟨.str ⟨#[c]⟩,H,T,⟨u,rfl⟩,⟨rfl,c,S,rfl⟩,j,λb f=>(p b f).1⟩⟩
 done:=by
  intro X B q y g i a s σ H E I p st G
  subst B q y
  obtain⟨A,D,O,C,J,F⟩:=p d (mem_singleton.mpr rfl)
  exact wpAny_pyNext_ascii_end (I.ok.hd g) st (ab3 G) λl Q=>⟨rfl,I.turned (t':=s.toks) (λb o f e=>Q b o f e) A D C J F⟩
 self:=λ_ _ _ _ _ st h=>wpAny_pyIter_striter_ascii st h
theorem zRg{P:Program}{w:World}{K:Frag}{N:Expr}(d:Addr)(x:Str)(t:Tok):Turn P w K N (Its x) [d] d (λi h=>h.IsStrIter d "str_iterator" x t i) where
 mem:=mem_singleton.mpr rfl
 obj:=λi h st b f=>by
  have e:b=d:=mem_singleton.mp f
  subst e
  obtain⟨o,m,g,M⟩:=st
  grind
 keep:=λi h l st k=>by
  obtain⟨o,m,r⟩:=st
  exact⟨o,k d (mem_singleton.mpr rfl) _ m,r⟩
 item:=by
  intro X B q y g i a s σ H E I p st G
  subst B q y
  obtain⟨A,D,O,C,J,F⟩:=p d (mem_singleton.mpr rfl)
  refine(Walks.strWide (prog:=X.prog) (w:=X.w) (I.ok.hd g) d x t).item i s _ _ G st λv l L R j U=>?_
  obtain⟨c,u,S,rfl⟩:=R
  have T:Inv X a σ H { s with heap:=l,toks:=L }:=I.turned (λb o f e=>U b o (λz=>f (mem_singleton.mp z)) e) A D C J F
  obtain⟨o,m,g,M⟩:=id j
  exact⟨_,rfl,Ux (s:={ s with heap:=l,toks:=L }) (n:="str_iterator") m g M (by decide) ⟨.str ⟨#[c]⟩,H,T,⟨u,rfl⟩,⟨rfl,c,S,rfl⟩,j,λb f=>(p b f).1⟩⟩
 done:=by
  intro X B q y g i a s σ H E I p st G
  subst B q y
  obtain⟨A,D,O,C,J,F⟩:=p d (mem_singleton.mpr rfl)
  exact wpAny_pyNext_wide_end (I.ok.hd g) st (ab3 G) λl Q=>⟨rfl,I.turned (t':=s.toks) (λb o f e=>Q b o f e) A D C J F⟩
 self:=λ_ _ _ _ _ st h=>wpAny_pyIter_striter_wide st h
section
variable{X:Cx}{tg:Expr}
def VH(a:TE):TI:=λσ H R=>a σ H λx b=>∃y,x=.str y/\R (Its y) b
theorem O9(n:PE X l p):PI X tg l (VH p):=by
 intro a s σ H R I h
 refine aV (n a s σ H _ I h) ?_
 rintro v c ⟨x,f,d,k,m⟩
 obtain⟨y,e,q⟩:=m
 subst e
 obtain⟨t,rfl⟩:=k
 have g:∀b∈[c.heap.objs.size],oG X a f b:=λb j=>by
  have e:b=c.heap.objs.size:=mem_singleton.mp j
  subst e
  exact d.pF (aaz _) (d.hok.fresh (aaz _))
 cases i:y.cps.all (· < 128)
 ·exact wpAny_pyIter_wide i ⟨c.heap.objs.size,[c.heap.objs.size],_,_,f,rfl,d.kept (t':=c.toks) λb o e=>get?_push_of_some _ e,zRg _ y t,⟨_,get?_push_size _ rfl,rfl,rfl⟩,g,q⟩
 ·exact wpAny_pyIter_ascii i ⟨c.heap.objs.size,[c.heap.objs.size],_,_,f,rfl,d.kept (t':=c.toks) λb o e=>get?_push_of_some _ e,zPp _ y t,⟨_,get?_push_size _ rfl,rfl,rfl⟩,g,q⟩
end
end L2
namespace Ts
open PySem L2
section
variable{K:Frag}{B:Bs}{sl:SL K}{md:Md}{t ta tb tc:TE}{n:Bool}
def K8(x:Str):List Str:=x.cps.toList.map λc=>(⟨#[c]⟩:Str)
theorem O_(h:Ex B sl .hp t mi):Ei B sl n (VH t) (mi.bind λx=>some (K8 x)):=λxs f F O H σ R a k=>by
 cases mi with
 |none=>cases f
 |some x =>
  cases(f)
  refine h x rfl F O H σ _ a λv j q p r=>?_
  cases r
  refine⟨x,rfl,k _ j q p λi s O2 H2 sf m=>⟨λl=>?_,λy b=>?_⟩⟩
  ·show x.cps.size<=i
   unfold K8 at l
   grind
  ·unfold K8 at b
   rw[getElem?_map,getElem?_toList] at b
   cases e:x.cps[i]? with
   |none=>grind
   |some c =>
    rw[e] at b
    cases b
    have o:i<x.cps.size:=(Array.getElem?_eq_some_iff.mp e).1
    refine⟨o,λv H3 g=>?_⟩
    obtain⟨rfl,c',d,rfl⟩:=g
    rw[e] at d
    cases d
    exact⟨s,.refl m,rfl⟩
theorem zOt{f g:Int->Int->Bool}(E:Ex B sl .hp ta y)(h2:Ex B sl .hp tb I)(J:Ex B sl .hp tc p) :
  Ex B sl md (zYr (sI λi j=>.bl (f i j)) (sI λi j=>.bl (g i j)) ta tb tc) (y.bind λa=>I.bind λb=>if f a b=true then p.bind λc=>some (g b c) else some false):=λd z F O H σ Q s k=>by
 obtain⟨a,b,P,M,e⟩:=sZ z
 refine E a P F O H σ _ s λv G A h C=>?_
 refine h2 b M G O A σ _ (s.grow h) λw o m l D=>?_
 cases C
 cases D
 refine⟨a,b,rfl,rfl,_,rfl,?_⟩
 by_cases q:f a b=true
 ·rw[if_pos q] at e ⊢
  cases p with
  |none=>cases e
  |some c =>
   cases(e)
   refine J c rfl o O m σ _ ((s.grow h).grow l) λu L N x r=>?_
   cases r
   exact⟨b,c,rfl,rfl,k _ L N ((h.trans l).trans x) rfl⟩
 ·rw[if_neg q] at e ⊢
  cases e
  exact k _ o m (h.trans l) rfl
def K9:List V->Hp->VK->Prop:=λa H Q=>∃x:Str,a=[.str x]/\x.length<cap/\Q (.int x.length) H
theorem zUs:rB X (.builtin "len") K9:=by
 intro a s σ H xs c Q I r h
 obtain⟨x,rfl,b,q⟩:=h
 exact zX2 a s σ H _ c Q I r ⟨_,_,rfl,⟨acz (HF b),rfl⟩,q⟩
noncomputable def Er(x:Str):Option Int:=if x.length<cap then some (x.length:Int) else none
theorem Il(h:Ex B sl .hp t m):Ex B sl md (Ag K9 (wI t bT)) (m.bind Er):=λc a F O H σ Q s k=>by
 cases m with
 |none=>cases a
 |some x =>
  have a:Er x=some c:=a
  unfold Er at a
  split at a
  case isFalse=>cases a
  rename_i e
  cases a
  refine h x rfl F O H σ _ s λv d b g f=>?_
  cases f
  exact⟨x,rfl,e,k _ d b g rfl⟩
def Yz(i j:Str):Bool:=!(adx j i 0 j.length 1).isEmpty
abbrev aaf:R2:=λx y H Q=>∃i j,x=.str i/\y=.str j/\Q (.bl (!(adx j i 0 j.length 1).isEmpty)) H
theorem Pa(h:Ex B sl .hp ta d)(h2:Ex B sl .hp tb i):Ex B sl md (jf aaf ta tb) (d.bind λa=>i.bind λb=>some (Yz a b)) :=
 Ca (λa b c v w H Q e g f q=>by
  cases e
  cases g
  cases f
  exact⟨a,b,rfl,rfl,q⟩) h h2
theorem Pb{ws:List Str}(f:∀H,ni K H p (ws.map V.str))(h:Ex B sl .hp t m):Ex B sl md (jf (NZ K false) t (tC (.ref p))) (m.bind λx=>some (decide (x∈ws))):=λc b F O H σ Q s k=>by
 cases m with
 |none=>cases b
 |some x =>
  cases(b)
  refine h x rfl F O H σ _ s λv i d g e=>?_
  cases e
  refine⟨p,_,rfl,.inr (f d),Fl.flat (K:=K) x,zM9 (K:=K) ws,?_⟩
  have:=Yn (K:=K) x ws
  rw[show inV (V.str x) (ws.map V.str)=decide (x∈ws) from this]
  exact k _ i d g rfl
end
section
variable{P:Program}{w:World}{K:Frag}{mg:Str->Option Value}{base:Heap}{B:Bs}{sl:SL K}{al:Bool}{S β:Type}[Rp K β]
theorem Ti:Sn B sl zYo L none:=λa b=>by cases b
theorem YB{A:Type}{as:A->SL K}{u:A->Option Unit}(F:aY K x i st f fd)(S:ak N ps (zJ st))(hf:∀a,(as a).all isF=true)(n:∀a,(as a).length=ps.length)(hb:∀(d:Value) (A:Around) (c:List Env) (s:Shared) (H:Hp) (E:XK),cI k (A.deeper (ado i (zJ st) s.heap.objs.size f d)) ->
   ∃t,qT (sS aP P w K mg base N i (zJ st) f d A c s H E).Ko (vX st) t/\∀j a,∃L:Unit->SL K,Sn ⟨j,H⟩ (as a++replicate (N.length-ps.length) .un) t L (u a)) :
  au P w K mg base aP (k+1) f fd ps (bW K al as u) :=
 F.ok S (λm H Q E h=>zYs n h) λd A c s H m Q E C h=>by
  obtain⟨t,p,q⟩:=hb d A c s H E C
  refine⟨t,p,?_⟩
  obtain⟨a,b,j,s,l,r,v⟩:=h
  have e:L2.start N m=m.map some++replicate (N.length-ps.length) none:=by
   unfold L2.start
   rw[r.len,n]
  rw[e]
  obtain⟨L,q⟩:=q j a
  exact q b l j _ _ H ⟨j,[],.refl _,⟨s,.refl _,λb o h=>.inl h,λx z=>(by cases z),(by simp)⟩,zGc _ (hf a) r⟩ (by rintro σ' G ⟨F',O',g,D⟩;exact v .non G D.1.h0 rfl)
noncomputable def Pg(a:Str)(i:Int):Option Str:=if i.natAbs.log2<1920 then some (a++adk (toString i)) else none
noncomputable def Tj(a z:Str):Option Str:=if z.length<=1000 then some (a++z) else none
theorem zZw(a:Str)(h:Ex B sl .hp t m):Ex B sl md (tFs a t) (m.bind (Pg a)):=λc b F O H σ Q s k=>by
 cases m with
 |none=>cases b
 |some i =>
  have b:Pg a i=some c:=b
  unfold Pg at b
  split at b
  case isFalse=>cases b
  rename_i f
  cases b
  refine h i rfl F O H σ _ s λv e d g j=>?_
  cases j
  exact .inl ⟨i,rfl,f,k _ e d g rfl⟩
theorem Ph(a:Str)(h:Ex B sl .hp t m):Ex B sl md (tFs a t) (m.bind (Tj a)):=λc b F O H σ Q s k=>by
 cases m with
 |none=>cases b
 |some i =>
  have b:Tj a i=some c:=b
  unfold Tj at b
  split at b
  case isFalse=>cases b
  rename_i f
  cases b
  refine h i rfl F O H σ _ s λv e d g j=>?_
  cases j
  exact .inr ⟨i,rfl,f,k _ e d g rfl⟩
theorem VJ:kitOne K (.type "str") (.type "str")=some true:=rfl
theorem Pj:bootBuiltins "str" = some (.type "str"):=by decide +kernel
end
section
variable{β:Type}
abbrev K_(kvs:List (Key×β))(k:Str):Option β:=gK kvs (acg k)
noncomputable def wj(kvs:List (Key×β))(k:Str)(v:β):Option (List (Key×β)):=if kvs.length<cap then some (pK kvs (acg k) v) else none
end
section
variable{K:Frag}{α:Type}[Rp K α]
variable{B:Bs}{sl:SL K}{md:Md}{t t2:TE}{F H G:Hp}{O:Own}{σ:St}{u:TS}{al:Bool}
theorem Im{m:Option Str}{b:Option (Dc α)}(h:Ex B sl .hp t m)(h2:Ex B sl .hp t2 b):Ex B sl md (NK t t2) (m.bind λk=>b.bind λd=>some (K_ d.kv k).isSome):=λc o F O H σ Q s f=>by
 obtain⟨k,d,i,l,n⟩:=sZ o
 cases n
 refine h k i F O H σ _ s λv C q g y=>?_
 refine h2 d l C O q σ _ (s.grow g) λw J E z D=>?_
 cases y
 obtain⟨p,A,rfl,x,I⟩:=D
 refine⟨p,_,rfl,sV.k (k:=acg k) x,?_⟩
 have e:(jr A (acg k:Key)).isSome=(K_ d.kv k).isSome:=by
  rcases I.val (k:=acg k) with⟨j,r⟩|⟨a,v,j,r,_⟩
  ·grind
  grind
 rw[e]
 exact f _ J E (g.trans z) rfl
theorem zV1{kvs:List (Key×α)}{m:Option α}{mi:Option Str}{te q:TE}(i:Nat)(A:sl[i]?=some (.od kvs))(y:sl.all (λs=>!pJ s)=true)(I:Ex B sl .fz te m)(M:Ex B sl .hp q mi) :
  Sn B sl (DK (eU i) q te) (λys=>sl.set i (.od ys)) (m.bind λa=>mi.bind λk=>wj kvs k a):=λys C G D σ H s k=>by
 obtain⟨a,f,R,T,d⟩:=sZ C
 unfold wj at d
 split at d
 case isFalse=>cases d
 rename_i P
 cases d
 obtain⟨F,O,g,z⟩:=s
 refine I a R F O H σ _ z λv N L h r=>?_
 obtain⟨p,ks,x,h2,h3,_⟩:=(z.grow h).HW A y
 refine⟨_,x,?_⟩
 refine M f T N O L σ _ (z.grow h) λw S H2 b J=>?_
 cases J
 obtain⟨p',l,j,o,c,n⟩:=((z.grow h).grow b).HW A y
 have e:=x.symm.trans j
 cases e
 obtain⟨E,Q⟩:=n (putK l (acg f) v) (pK kvs (acg f) a) (c.put (Rp.mono b.ff r))
 exact⟨p,_,rfl,BX.k (k:=acg f) o (HF (by rw[c.len];exact P)),k _ _ ⟨S,E,(g.trans h.ff).trans b.ff,Q⟩⟩
end
abbrev LLI:=List LI
abbrev Gw:=List (Str×LI)
structure ju(p:Addr) where
 u:Unit
noncomputable def YC(C:Addr)(h:LLI->Option Unit)(f:Gw->Int->Option Unit)(i:LLI->Int->Option Unit)(e g:LLI->Option LLI)(xss:LLI)(mo:Option Gw)(fo:Option LLI):Option (aq C) :=
 (h xss).bind λ_=>(f (mo.getD []) (xss.length:Int)).bind λ_=>(i (fo.getD []) (xss.length:Int)).bind λ_=>(e xss).bind λa=>(aO (λ_=>some true) (λx:Str×LI=>some (x.1,x.2)) (mo.getD [])).bind λb =>
  (e (fo.getD [])).bind λc=>(g a).bind λd=>some ⟨a,b,c,d⟩
theorem Gx{α β:Type}{m:Option α}{f:α->Option β}{b:β}(h:m.bind f=some b):∃a,m=some a/\f a=some b:=by
 cases m with
 |none=>cases h
 |some a=>exact⟨a,rfl,h⟩
section
variable{K:Frag}{C:Addr}{B:Bs}{sl:SL K}{F H:Hp}{O:Own}{σ:St}
instance:Rp K (ju p):=⟨λ_ v _=>v=.ref p,λ_ h=>h⟩
noncomputable def rJ(K:Frag)(C:Addr)(mk:LLI->Option Gw->Option LLI->Option (aq C)):Sp:=λj H Q _=>∃(p i:Addr)(g d f:V)(a:LLI)(h:Option Gw)(e:Option LLI)(M:aq C),j=[.ref p,g,d,f]/\H p=some (.ins C i []) /\
 rp K (hid H p) g a/\rp K (hid H p) d h/\rp K (hid H p) f e/\mk a h e=some M/\∀c:Hp,(∀b o,b≠p->H b=some o->c b=some o)->rp K (dif c (hid H p)) (.ref p) M->Q .non c
variable{mk:LLI->Option Gw->Option LLI->Option (aq C)}
theorem zVz{a:Hp}{x d:Addr}(m:a x=none)(j:a d=none){l h i:V}{xss:LLI}{mo:Option Gw}{fo:Option LLI}{c:aq C}(z:rp K a l xss)(r:rp K a h mo)(y:rp K a i fo)(p:mk xss mo fo=some c){Q:VK}{E:XK}(k:∀f:Hp,Same a f->rp K (dif f a) (.ref x) c->Q (.ref x) f):rJ K C mk [.ref x,l,h,i] (upd (upd a d (.own x)) x (.ins C d [])) (λv f=>v=.non/\Q (.ref x) f) E:=by
 have n:Same a (upd (upd a d (.own x)) x (.ins C d [])):=λb o e=>by rw[zX (zW e m),zX (zW e j)];exact e
 have g:Same a (hid (upd (upd a d (.own x)) x (.ins C d [])) x):=λb o e=>by
  unfold hid
  rw[if_neg (zW e m)]
  exact n b o e
 refine⟨x,d,l,h,i,xss,mo,fo,c,rfl,zT,Rp.mono g z,Rp.mono g r,Rp.mono g y,p,λf t w=>⟨rfl,?_⟩⟩
 refine k f (λb o e=>t b o (zW e m) (n b o e)) (Rp.mono (λb o e=>?_) w)
 have s:a b=none:=by
  cases q:a b with
  |none=>rfl
  |some u =>
   have:=g b u q
   unfold dif at e
   grind
 rw[wP s]
 exact bQ _ _ e
theorem zLt(D:Ex B sl .hp u t)(h2:Ex B sl .hp E p)(I:Ex B sl .hp v o) :
  En B sl (Nx C (rJ K C mk) [] E0 (wI u (wI E (wI v bT)))) (t.bind λa=>p.bind λb=>o.bind λc=>mk a (some b) (some c)):=λc e F O H σ Q s r=>by
 obtain⟨a,rfl,e⟩:=Gx e
 obtain⟨b,rfl,e⟩:=Gx (m:=p) e
 obtain⟨d,rfl,e⟩:=Gx (m:=o) e
 refine D a rfl F O H σ _ s λv1 A S l z=>?_
 refine h2 b rfl A O S σ _ (s.grow l) λN R M f n=>?_
 refine I d rfl R O M σ _ ((s.grow l).grow f) λw J h i q=>?_
 intro x dx L j nex
 have g:=n
 have k:=q
 exact zVz L j (Rp.mono (f.hh.trans i.hh) z) (show rp K h N (some b) from⟨Nn.nn g,Rp.mono i.hh n⟩) (show rp K h w (some d) from⟨Nn.nn k,q⟩) e λy P G=>r _ J h y (l.trans (f.trans i)) P G
theorem Pk(h:b≠p):hid H p b=H b:=by unfold hid;grind
theorem Tn:hid H p p=none:=by unfold hid;grind
theorem VL:Same (hid H p) H:=λb o e=>by
 by_cases q:b=p
 ·subst q;rw[Tn] at e;cases e
 ·rw[Pk q] at e;exact e
theorem Tq(s:Same H H'):Same (hid H p) (hid H' p):=λb o e=>by
 by_cases q:b=p
 ·subst q;rw[Tn] at e;cases e
 ·rw[Pk q] at e ⊢;exact s b o e
theorem La:hid (upd H p o) p=hid H p:=by
 funext b
 by_cases q:b=p
 ·subst q;rw[Tn,Tn]
 ·rw[Pk q,Pk q,zX q]
theorem YD(kp:∀b o,b≠p->H b=some o->a b=some o)(d:a p≠none):Same (dif H' a) (dif (hid H' p) (hid H p)):=λb o e=>by
 have g:a b=none:=by
  cases q:a b with
  |none=>rfl
  |some u=>unfold dif at e;grind
 have c:b≠p:=λq=>d (by grind)
 rw[wP g] at e
 have f:hid H p b=none:=by
  rw[Pk c]
  cases q:H b with
  |none=>rfl
  |some u=>grind
 rw[wP f,Pk c]
 exact e
theorem zZ9(e:ao (K:=K) ⟨hid c p,c⟩ (hid c p) (lo (hid c p) [] c) c sl σ []):At (K:=K) ⟨hid c p,c⟩ sl (hid c p) [] c σ :=
 ⟨⟨VL,.refl _,λb o h=>.inl h,λx d=>(by cases d),by simp⟩,e⟩
end
end Ts
namespace wk
open PySem
def Rz(xs:Array Nat):Prop:=∀i k a b:Nat,i<k->xs[i]?=some a->xs[k]?=some b->a<b
theorem zJ4(hr:Rz xs):∀(fuel lo hi:Nat),hi-lo<=fuel->lo<=hi->hi<=xs.size->(∀i a,i<lo->xs[i]?=some a->a<j)->(∀i a,hi<=i->xs[i]?=some a->j<=a) ->
  (adf xs j fuel lo hi)<=xs.size/\(∀i a,i<adf xs j fuel lo hi->xs[i]?=some a->a<j)/\(∀i a,adf xs j fuel lo hi<=i->xs[i]?=some a->j<=a)
 |0,lo,hi,hf,hl,hz,h1,h2=>by
  have e:lo=hi:=by omega
  subst e
  unfold adf
  exact⟨hz,h1,h2⟩
 |fuel+1,lo,hi,hf,hl,hz,h1,h2=>by
  unfold adf
  by_cases hlt:lo<hi
  ·rw[if_pos hlt]
   have hm:(lo+hi)/2<hi:=by omega
   have hm0:lo<=(lo+hi)/2:=by omega
   have hms:(lo+hi)/2<xs.size:=by omega
   have e:xs.getD ((lo+hi)/2) j=xs[(lo+hi)/2]:=by simp[Array.getD,hms]
   dsimp only
   rw[e]
   by_cases hc:xs[(lo+hi)/2]<j
   ·rw[if_pos hc]
    refine zJ4 hr fuel _ hi (by omega) (by omega) hz (λi a hi' ha=>?_) h2
    by_cases hi2:i=(lo+hi)/2
    ·subst hi2
     rw[aa7 hms] at ha
     cases ha
     exact hc
    ·exact aef (hr i ((lo+hi)/2) a _ (by omega) ha (aa7 hms)) hc
   ·rw[if_neg hc]
    refine zJ4 hr fuel lo _ (by omega) (by omega) (by omega) h1 (λi a hi' ha=>?_)
    by_cases hi2:i=(lo+hi)/2
    ·subst hi2
     rw[aa7 hms] at ha
     cases ha
     omega
    ·have:=hr ((lo+hi)/2) i _ a (by omega) (aa7 hms) ha
     omega
  ·rw[if_neg hlt]
   have e:lo=hi:=by omega
   subst e
   exact⟨hz,h1,h2⟩
theorem zJ3(b:Rz xs)(j:Nat):abq xs j<=xs.size/\(∀i a,i<abq xs j->xs[i]?=some a->a<j)/\(∀i a,abq xs j<=i->xs[i]?=some a->j<=a) :=
 zJ4 b xs.size 0 xs.size (by lia) (abl _) (aaz _) (λi a h=>absurd h (adw _)) (λi a h1 h2=>by
  grind)
theorem Pn{α:Type}(xs:Array α)(p:Nat)(x:α)(hp:p<=xs.size)(i:Nat):(insertAt xs p x)[i]?=if i<p then xs[i]? else if i=p then some x else xs[i-1]?:=by
 have e:insertAt xs p x=(xs.toList.take p++x::xs.toList.drop p).toArray:=by
  unfold insertAt
  apply Array.ext'
  simp
  rw[List.take_of_length_le (by rw[List.length_drop,length_toList];exact aaz _)]
 rw[e,getElem?_toArray]
 have hl:p<=xs.toList.length:=by simpa using hp
 by_cases h1:i<p
 ·rw[if_pos h1,getElem?_append_left (by rw[length_take];omega),getElem?_take_of_lt h1,getElem?_toList]
 ·rw[if_neg h1,getElem?_append_right (by rw[length_take];omega),length_take,Nat.min_eq_left hl]
  by_cases h2:i=p
  ·subst h2;simp
  ·rw[if_neg h2]
   obtain⟨k,rfl⟩:∃k,i=p+1+k:=⟨i-(p+1),by omega⟩
   rw[show p+1+k-p=k+1 by omega,List.getElem?_cons_succ,List.getElem?_drop,getElem?_toList]
   congr 1
   omega
theorem Pq(hr:Rz xs)(hn:xs[abq xs j]?≠some j):Rz (insertAt xs (abq xs j) j):=by
 obtain⟨b1,b2,b3⟩:=zJ3 hr j
 intro i k a b hik ha hb
 rw[Pn _ _ _ b1] at ha hb
 generalize abq xs j=p at *
 have up:∀m c,p<=m->xs[m]?=some c->j<c:=λm c hm hc=>by
  have h1:=b3 m c hm hc
  by_cases e:m=p
  ·subst e
   have:c≠j:=λz=>hn (by rw[hc,z])
   omega
  ·have hp:p<xs.size:=by
    have:m<xs.size:=by
     by_cases z:m<xs.size
     ·exact z
     ·rw[ab3 (by omega)] at hc;cases hc
    omega
   have h2:=hr p m _ c (by omega) (aa7 hp) hc
   have h3:=b3 p _ (aaz _) (aa7 hp)
   omega
 by_cases i1:i<p
 ·rw[if_pos i1] at ha
  have ja:=b2 i a i1 ha
  by_cases k1:k<p
  ·rw[if_pos k1] at hb;exact hr i k a b hik ha hb
  ·rw[if_neg k1] at hb
   by_cases k2:k=p
   ·rw[if_pos k2] at hb;cases hb;exact ja
   ·rw[if_neg k2] at hb
    exact aef ja (up (k-1) b (by omega) hb)
 ·rw[if_neg i1] at ha
  have k1:¬k<p:=by omega
  have k2:¬k=p:=by omega
  rw[if_neg k1,if_neg k2] at hb
  by_cases i2:i=p
  ·rw[if_pos i2] at ha;cases ha;exact up (k-1) b (by omega) hb
  ·rw[if_neg i2] at ha
   exact hr (i-1) (k-1) a b (by omega) ha hb
def Free(t:SetTable)(j:Nat):Prop:=t.place[abq t.place j]?≠some j
theorem zKl{t:SetTable}(h:∀i,t.slot j≠.live i):Free t j:=λe=>by
 refine h (abq t.place j) ?_
 unfold SetTable.slot
 simp[e]
theorem zEz:∀(a:Nat)(p:SetTable.Probe)(j:Nat)(d:Option Nat),(∀d,p.dummy=some d->Free t d)->probe.go t f h a p=some (.empty j d)->Free t j/\∀e,d=some e->Free t e
 |0,p,j,d,g,e=>by unfold probe.go at e;cases e
 |a+1,p,j,d,g,e=>by
  have b:∀q:SetTable.Probe,(t.advance q).dummy=q.dummy:=λq=>by
   unfold SetTable.advance
   grind
  unfold probe.go at e
  cases c:t.slot p.j with
  |empty =>
   rw[c] at e
   cases e
   exact⟨zKl (λi z=>by grind),g⟩
  |dummy =>
   rw[c] at e
   refine zEz a _ j d (λl k=>?_) e
   rw[b] at k
   cases k
   exact zKl λi z=>by grind
  |live i =>
   rw[c] at e
   dsimp only at e
   split at e
   ·cases e
   ·exact zEz a _ j d (λl k=>g l (by grind)) e
theorem zJw{t:SetTable}(e:t.freeSlot h=some (j,b)):Free t j:=by
 unfold SetTable.freeSlot at e
 split at e
 ·rename_i c d a
  cases e
  have q:=zEz _ _ c d (λd f=>by cases f) a
  cases d with
  |none=>exact q.1
  |some d=>grind
 grind
structure Tb(led:Bool)(t:SetTable):Prop where
 led:t.led=led
 rz:t.plain=true->Rz t.place
theorem YF(h:Tb led t)(n:Nat):Tb led (t.standIn n):=⟨h.led,λz=>by cases z⟩
theorem VN(h:Tb led t)(n:Nat):Tb led (t.orStandIn n):=by
 unfold SetTable.orStandIn
 split
 ·exact h
 ·exact YF h n
theorem Pr(a:Tb led t)(es:Array (Int×Value))(h:Int)(x:Value):Tb led (layNew t es h x).2.1:=by
 unfold layNew
 cases e:t.freeSlot h with
 |none=>exact YF a _
 |some q =>
  obtain⟨j,b⟩:=q
  dsimp only
  refine VN (t:=(t.put j).1) ⟨a.led,λz=>?_⟩ _
  exact Pq (a.rz z) (zJw e)
theorem zKt(f:Nat->Option Nat)(n:Nat):Rz (((abb n).filterMap λj=>(f j).map (j,·)).map (·.1)).toArray:=by
 have p:(((abb n).filterMap λj=>(f j).map (j,·)).map (·.1)).Pairwise (· < ·):=by
  rw[pairwise_map]
  refine Pairwise.filterMap _ ?_ (pairwise_lt_range (n:=n))
  intro a b g x c y d
  cases o:f a with
  |none=>rw[o] at c;cases c
  |some u =>
   cases h:f b with
   |none=>rw[h] at d;cases d
   |some v =>
    rw[o] at c
    rw[h] at d
    cases c
    cases d
    exact g
 intro i k a b e m l
 rw[getElem?_toArray] at m l
 obtain⟨q,t⟩:=aa0.mp m
 obtain⟨r,s⟩:=aa0.mp l
 rw[<-t,<-s]
 exact pairwise_iff_getElem.mp p i k q r e
theorem zVr(a:Tb led t)(es:Array (Int×Value))(n:Nat):Tb led (relayAll t es n).2.1:=by
 unfold relayAll
 cases e:t.relaid (es.map (·.1)) n with
 |none=>exact YF a _
 |some q =>
  obtain⟨t',order⟩:=q
  dsimp only
  split
  ·unfold SetTable.relaid SetTable.laid at e
   cases b:SetTable.layClean (SetTable.sizeAbove n-1) (es.map (·.1)) with
   |none=>rw[b] at e;cases e
   |some owner =>
    rw[b] at e
    cases e
    exact⟨a.led,λ_=>zKt _ _⟩
  ·exact YF a _
theorem zVs(led:Bool):Tb led (.fresh 0 0 led):=⟨rfl,λ_=>λi k a b _ h _=>by
 have:(#[]:Array Nat)[i]?=some a:=h
 simp at this⟩
section
variable{prog:Program}{w:World}{κ:Type}[DecidableEq κ](knd:KeyKind prog w κ)(dec:Value->κ)
def Good(led:Bool)(h:Heap)(a:Addr)(ks:List κ):Prop :=
 ∃o b c t,h.get? a=some o/\o.ExactSet/\o.data=.set b c t/\ElemsOf knd b.toList/\(b.toList.map λe=>dec e.2).Perm ks/\ks.Nodup/\b.size<scanBound/\t.fits b.size=true/\Tb led t
variable{knd}{dec}{led:Bool}{A:Around}{E:Value->Shared->Prop}{s:Shared}
theorem Good.len(g:Good knd dec led h a ks):ks.length<scanBound:=by
 obtain⟨o,es,ep,t,_,_,_,_,p,_,b,_⟩:=g
 rw[<-p.length_eq,length_map]
 exact b
theorem Good.keep{h':Heap}(g:Good knd dec led h a ks)(k:∀o,h.get? a=some o->h'.get? a=some o):Good knd dec led h' a ks:=by
 obtain⟨o,d,c,t,e,b⟩:=g
 exact⟨o,d,c,t,k _ e,b⟩
theorem zLo(hdec:∀k v,knd.is k v=true->dec v=k)(b:ElemsOf knd es)(k:κ):es.findIdx? (λe=>knd.is k e.2)=none↔k∉es.map λe=>dec e.2:=by
 constructor
 ·intro h c
  obtain⟨e,d,rfl⟩:=mem_map.mp c
  obtain⟨⟨k',hk,_⟩,_⟩:=b e d
  grind
 grind
theorem Lb{h:Heap}(c:h.get? a=some o)(b:o.data=.set es ep t):(h.update a (ae8 es' t')).get? a=some { o with data:=.set es' (ep+1) t' }:=by
 have q:=get?_update_self (ae8 es' t') c (by rw[putSet_of es' t' b];rfl)
 rw[putSet_of es' t' b] at q
 exact q
theorem zJv{Q:Unit->Shared->Prop}(h:Q () a):wpAny (model prog w) A (match b with|true=>rule "set.scan.the-table-gave-way" | false=>pure ()) Q E a:=by
 cases b
 ·exact aaw h
 ·exact ac4 h
theorem zO6{g:Bool->Sem Unit}(hg:∀(b:Bool) (s₁:Shared) (Q':Unit->Shared->Prop),Q' () s₁->wpAny (model prog w) A (g b) Q' E s₁){es1:Array (Int×Value)}{t2:SetTable}{R:Option Bool->Shared->Prop}(ho:s.heap.get? a=some o)(hx:o.ExactSet)(hd:o.data=.set es ep t)(hel:ElemsOf knd es1.toList)(hp:(es1.toList.map λe=>dec e.2).Perm ks)(nd:ks.Nodup)(hb:es1.size<scanBound)(hf:t2.fits es1.size=true)(tb:Tb led t2)(h:∀h',SameBut a s.heap h'->Good knd dec led h' a ks->R (some true) { s with heap:=h' }) :
  wpAny (model prog w) A (storeSet a es1 t2 >>= λ_=>if(!dum&&t2.tooFull)=true then(g (relayAll t2 es1 (grown es1.size)).2.2 >>= λ_=>storeSet a (relayAll t2 es1 (grown es1.size)).1 (relayAll t2 es1 (grown es1.size)).2.1 >>= λ_=>pure (some true)) else pure (some true)) R E s:=by
 refine aav (aci ho hd ?_ (ach hb))
 have o1:=Lb (es':=es1) (t':=t2) ho hd
 have sb:=SameBut.update s.heap a (ae8 es1 t2)
 split
 ·have rp:=relayAll_perm t2 es1 (grown es1.size)
  have rf:=relayAll_fits t2 es1 (grown es1.size)
  have rt:=zVr tb es1 (grown es1.size)
  generalize relayAll t2 es1 (grown es1.size)=L at rp rf rt ⊢
  obtain⟨es2,t3,gv⟩:=L
  dsimp only at rp rf rt ⊢
  have sz:es2.size=es1.size:=by rw[<-length_toList,rp.length_eq,length_toList]
  refine aav (hg _ _ _ (aav (aci o1 rfl (aaw (h _ (sb.trans (SameBut.update _ a _)) ⟨_,es2,_,t3,Lb (es':=es2) (t':=t3) o1 rfl,hx,rfl,hel.perm rp,(rp.map _).trans hp,nd,by rw[sz];exact hb,rf,rt⟩)) (ach (by rw[sz];exact hb)))))
 ·exact aaw (h _ sb ⟨_,es1,_,t2,o1,hx,rfl,hel,hp,nd,hb,hf,tb⟩)
theorem Pu(h:Tb led t):Tb led { t with plain:=false }:=⟨h.led,λz=>by cases z⟩
theorem YG(f:∀k v,knd.is k v=true->dec v=k){Q:Bool->Shared->Prop}(N:knd.is k x=true)(K:x.scannable=true)(g:Good knd dec led s.heap a ks)(i:ks.length+1<scanBound)(h:∀(h':Heap) (b:Bool),SameBut a s.heap h'->Good knd dec led h' a (if k∈ks then ks else k::ks)->Q b { s with heap:=h' }) :
  wpAny (model prog w) A (setAddHashed a x (knd.hash k)) Q E s:=by
 obtain⟨o,d,Z,t,r,O,F,c,G,X,V,S,U⟩:=g
 have n:d.size=ks.length:=by rw[<-G.length_eq,length_map,length_toList]
 unfold setAddHashed setAddHashedIn
 refine abo (aav (abe r F S ?_))
 dsimp only
 rw[byScan_of K V c]
 simp only[↓reduceIte]
 unfold setAddByScan
 refine aav (aav (ac4 (aav (wpAny_setScan_of N r F S c ?_))))
 have T:=zLo f c k
 cases P:List.findIdx? (λe=>knd.is k e.2) d.toList with
 |some j =>
  have M:k∈ks:=by
   refine G.mem_iff.mp (ab9 λz=>?_)
   rw[T.mpr z] at P
   cases P
  dsimp only
  refine aaw (aaw ?_)
  have q:=h s.heap false (SameBut.refl a s.heap)
  rw[if_pos M] at q
  exact q ⟨o,d,Z,t,r,O,F,c,G,X,V,S,U⟩
 |none =>
  have M:k∉ks:=λz=>T.mp P (G.mem_iff.mpr z)
  dsimp only
  have m:=layNew_perm t d (knd.hash k) x
  have H:=layNew_fits t d (knd.hash k) x
  have C:=Pr U d (knd.hash k) x
  generalize layNew t d (knd.hash k) x=L at m H C ⊢
  obtain⟨B,t1,D,gave⟩:=L
  dsimp only at m H C ⊢
  rw[Array.toList_push] at m
  have W:B.size=d.size+1:=by rw[<-length_toList,m.length_eq,length_append,length_toList];rfl
  have y:(B.toList.map λe=>dec e.2).Perm (k::ks):=by
   refine(m.map _).trans ?_
   rw[map_append]
   show(_++[dec x]).Perm _
   rw[f k x N]
   exact Perm.trans (l₂:=k::d.toList.map λ(e:Int×Value)=>dec e.2) List.perm_append_comm (G.cons k)
  have I:∀h',SameBut a s.heap h'->Good knd dec led h' a (k::ks)->Q true { s with heap:=h' }:=λh' J p=>by
   have q:=h h' true J
   rw[if_neg M] at q
   exact q p
  have u:(k::ks).Nodup:=nodup_cons.mpr ⟨M,X⟩
  refine aav (zJv ?_)
  split
  ·refine aav ?_
   rw[hashByValue_scannable 8 K]
   refine aaw ?_
   refine zO6 (led:=led) (dum:=D) (λb Y Q' R=>zJv R) r O F ((c.push N K).perm m) y u (by rw[W,n];exact i) ?_ ?_ λh' J p=>?_
   ·split
    ·exact H
    ·exact SetTable.fits_plain_off H
   ·split
    ·exact C
    ·exact Pu C
   ·exact aaw (I h' J p)
  ·refine aav (aaw ?_)
   simp only[↓reduceIte]
   refine zO6 (led:=led) (dum:=D) (λb Y Q' R=>zJv R) r O F ((c.push N K).perm m) y u (by rw[W,n];exact i) H C λh' J p=>?_
   exact aaw (I h' J p)
end
open PySem PySem.Spec PyProof.Rows
section
variable{κ:Type}[DecidableEq κ]
def met(a:Nat->κ):Nat->List κ
 |0=>[]
 |i+1=>if a i∈met a i then met a i else a i::met a i
theorem zTb(a:Nat->κ):∀i,(met a i).length<=i
 |0=>aaz _
 |i+1=>by
  have ih:=zTb a i
  unfold met
  grind
theorem zTc(a:Nat->κ)(k:κ):∀i,k∈met a i↔∃j,j<i/\a j=k
 |0=>by simp[met]
 |i+1=>by
  have ih:=zTc a k i
  show k∈(if a i∈met a i then met a i else a i::met a i)↔_
  grind
variable{prog:Program}{w:World}{knd:KeyKind prog w κ}{dec:Value->κ}{led:Bool}{A:Around}{R:Result->Shared->Prop}{I:Addr}{fp wr:List Addr}{G:Array GenState->Array GenState->Prop}{n:Nat}{P:Nat->Value->Prop}{St:Nat->Shared->Prop}
theorem Io(p:∀k v,knd.is k v=true->dec v=k)(W:WalksS prog w A.in1 I fp wr G n P St)(S:Addr)(u:S∉fp)(a:Nat->κ)(r:∀i v,P i v->knd.is (a i) v=true/\v.scannable=true)(f:n+1<scanBound) :
  ∀(k i:Nat)(s:Shared),n-i=k->i<=n->St i s->Good knd dec led s.heap S (met a i)->(∀s',Moved (S::wr) G s s'->Good knd dec led s'.heap S (met a n)->R (.ok (.ret .none)) s')->codeAny (model prog w) A (.builtin "set.update.loop" ⟨[.ref S,.ref I],[]⟩) R s:=by
 have c:S∉wr:=λh=>u (W.sub _ h)
 have j:∀b∈wr,b∈S::wr:=λb f=>mem_cons_of_mem _ f
 intro k
 induction k with
 |zero =>
  intro i s H E st g d
  have e:i=n:=by lia
  subst e
  refine ac8 F.entry_set_update_loop ?_
  rw[acy ady _]
  refine aav (m:=pyNext (.ref I)) (W.done s _ _ st λs' l=>?_)
  exact aaw (d s' (l.mono j) (g.keep λo h=>l.heap S o c h))
 |succ k ih =>
  intro i s H E st g d
  have C:i<n:=by lia
  refine ac8 F.entry_set_update_loop ?_
  rw[acy ady _]
  refine aav (m:=pyNext (.ref I)) (W.item i s _ _ C st λv s' J z l=>?_)
  obtain⟨q,x⟩:=r i v J
  refine aav (m:=holding [v] (setAdd S v)) (abo ?_)
  unfold setAdd
  refine abo (aav (knd.pyHash (k:=a i) q ?_))
  refine YG (led:=led) (s:={ s' with toks:=s'.toks+1 }) p q x (g.keep λo h=>l.heap S o c h) (by have:=zTb a i;lia) λh' b D L=>?_
  refine aaw ⟨aeb ady _,ih (i+1) _ (by lia) C (W.frame _ s' _ _ z (ab7 _) λb f o e=>?_) L λy t B=>?_⟩
  ·rw[D.2 b (λh:b=S=>u (by rw[<-h];exact f))];exact e
  ·refine d y (Moved.trans W.gtrans ((l.mono j).then_heap (ab7 _) λb o f e=>?_) t) B
   rw[D.2 b (λh:b=S=>f (h▸mem_cons_self))];exact e
end
section
variable{prog:Program}{w:World}{A:Around}{E:Value->Shared->Prop}{s:Shared}
def yB(w:World):Bool:=!w.params.followText "set-order"
theorem zW4(a:Value){Q₁:Value->Shared->Prop}(h:Q₁ (.ref s.heap.objs.size) { s with heap:=s.heap.push { cls:=.type "set",dict:=none,data:=.set #[] 0 (.fresh 0 0 (yB w)) } }) :
  codeAny (model prog w) A (.call (.builtin "set.__new__") ⟨[.type "set",a],[]⟩) (wants Q₁ E) s:=by
 refine codeAny_of_tree (aav (m:=checkBuiltinCall "set.__new__" ⟨[.type "set",a],[]⟩) (wpAny_of_eq (F.newCall_set_1 a) (aaw ⟨aeb F.plain_set_new _,ac8 F.entry_set_new ?_⟩)))
 rw[acy F.plain_set_new _]
 unfold Builtin.«set.__new__» Builtin.Frozenset.newClass
 have sub:=aeu
 obtain⟨hp,g,d,tk,os⟩:=s
 dsimp only
 wp_walk
 refine adn (aaw ?_)
 dsimp only
 simp only[newObj]
 exact aav (wpAny_alloc (aaw (aaw h)))
theorem VP{κ:Type}[DecidableEq κ]{knd:KeyKind prog w κ}{dec:Value->κ}{h:Heap}(e:h.get? a=some { cls:=.type "set",dict:=none,data:=.set #[] 0 (.fresh 0 0 led) }):Good knd dec led h a [] :=
 ⟨_,#[],0,.fresh 0 0 led,e,⟨rfl,rfl,rfl⟩,rfl,λx hx=>by simp at hx,by simp,nodup_nil,by show 0<4096;decide,by cases led<;>rfl,zVs led⟩
set_option maxHeartbeats 4000000 in
theorem zX1{κ:Type}[DecidableEq κ]{knd:KeyKind prog w κ}{dec:Value->κ}(hdec:∀k v,knd.is k v=true->dec v=k){Q:Value->Shared->Prop}(val:Nat->κ)(hh:A.handled=none)(hl:s.heap.IsList l items)(hi:∀(i:Nat) (v:Value),items[i]?=some v->knd.is (val i) v=true/\v.scannable=true)(hb:items.size+1<scanBound)(h:∀(h':Heap) (tk:Nat),Good knd dec (yB w) h' s.heap.objs.size (met val items.size)->(∀b o,b<s.heap.objs.size->s.heap.get? b=some o->h'.get? b=some o)->Q (.ref s.heap.objs.size) { s with heap:=h',toks:=tk }) :
  wpAny (model prog w) A (call (.type "set") [.ref l]) Q E s:=by
 obtain⟨c,tl,hmro⟩:=F.called_set.mro
 have hmade:=F.called_set.made
 have hsub:=F.called_set.sub
 refine wpAny_call (codeAny_of_tree (aaw ⟨Code.quiet_builtin _ (by decide +kernel),ac8 F.entry_type_call ?_⟩))
 rw[Around.under_plain (weight_type_call_type "set" [.ref l] []) rfl]
 have h1:=F.called_set.notType
 have h2:=F.called_set.canCreate
 have hct:=F.typeCall_set_1 (.ref l)
 repeat(any_goals (first|assumption|wp_step))
 refine adl (zW4 (.ref l) (E:=E) (Q₁:=λobj s₁=>obj=.ref s.heap.objs.size/\s₁={ s with heap:=s.heap.push { cls:=.type "set",dict:=none,data:=.set #[] 0 (.fresh 0 0 (yB w)) } }) ⟨rfl,rfl⟩) λr s₁ hr=>?_
 cases r with
 |error e=>exact hr
 |ok fl =>
  cases fl with
  |ret obj =>
   obtain⟨rfl,rfl⟩:=hr
   have hS:(s.heap.push { cls:=.type "set",dict:=none,data:=.set #[] 0 (.fresh 0 0 (yB w)) }).get? s.heap.objs.size=some { cls:=.type "set",dict:=none,data:=.set #[] 0 (.fresh 0 0 (yB w)) }:=get?_push_size _ rfl
   have hT:Shared.TypeIs { s with heap:=s.heap.push { cls:=.type "set",dict:=none,data:=.set #[] 0 (.fresh 0 0 (yB w)) } } (.ref s.heap.objs.size) "set":=⟨_,hS,rfl⟩
   have hli:=F.called_set.init.lookup
   have hbi:=F.called_set.init.bind (.ref s.heap.objs.size)
   repeat(any_goals (first|assumption|wp_step))
   refine adl (codeAny_call_builtin (R:=wants (λr s₂=>r=.none/\∃h' tk,s₂={ s with heap:=h',toks:=tk }/\Good knd dec (yB w) h' s.heap.objs.size (met val items.size)/\(∀b o,b<s.heap.objs.size->s.heap.get? b=some o->h'.get? b=some o)) E)
    F.called_set.init.plain F.entry_set_init (check_set_init_1 hT ?_)) λr₂ s₂ hr₂=>?_
   ·obtain⟨ol,hol,hcl,nl,hdl⟩:=hl
    obtain⟨ocls,odict,odata,oslots⟩:=ol
    simp only at hcl hdl
    subst hcl
    subst hdl
    have hol':(s.heap.push { cls:=.type "set",dict:=none,data:=.set #[] 0 (.fresh 0 0 (yB w)) }).get? l=some { cls:=.type "list",dict:=odict,data:=.seq items nl,slots:=oslots }:=get?_push_of_some _ hol
    have hsls:=F.sub_list_set
    have hslf:=F.sub_list_frozenset
    have hne:(ad9 "list" == ad9 "dict")=false:=by decide
    have hl1:(s.heap.push { cls:=.type "set",dict:=none,data:=.set #[] 0 (.fresh 0 0 (yB w)) }).IsList l items:=⟨_,hol',rfl,nl,rfl⟩
    unfold Builtin.«set.__init__» noKeywords Builtin.Frozenset.updateFrom
    generalize hPI:pyIter=PI
    wp_walk
    subst hPI
    refine ad6 hl1 (aav (wpAny_runValue ?_))
    have hlS:l<s.heap.objs.size:=lt_size hol
    have sz:(s.heap.push { cls:=.type "set",dict:=none,data:=.set #[] 0 (.fresh 0 0 (yB w)) }).objs.size=s.heap.objs.size+1:=size_push ..
    have hneI:l≠(s.heap.push { cls:=.type "set",dict:=none,data:=.set #[] 0 (.fresh 0 0 (yB w)) }).objs.size:=by rw[sz];exact aa8 (ad2 hlS)
    refine Io (led:=yB w) hdec ((Walks.list (by simp[hh]) _ l hneI items).toS) s.heap.objs.size (by
     rw[sz]
     intro z
     rcases mem_cons.mp z with z|z
     ·exact absurd z (aa8 (acp _))
     ·exact absurd (mem_singleton.mp z) (ad3 hlS)) val hi hb (items.size-0) 0 _ (by omega) (abl _) ⟨⟨_,get?_push_size _ rfl,rfl,rfl⟩,hl1.push _⟩ (VP (get?_push_of_some _ hS)) λs' hm g'=>?_
    obtain⟨h',g1,d1,tk',os1⟩:=s'
    have eg:g1=s.gens:=hm.gens
    have ed:d1=s.drawn:=hm.drawn
    have eo:os1=s.os:=hm.os
    subst eg ed eo
    refine aaw ?_
    refine aaw ⟨rfl,h',tk',rfl,g',λb o hb e=>hm.heap b o (λz=>?_) (get?_push_of_some _ (get?_push_of_some _ e))⟩
    rcases mem_cons.mp z with z|z
    ·exact absurd z (aa8 hb)
    ·have z:=mem_singleton.mp z
     rw[sz] at z
     exact absurd z (aa8 (ad2 hb))
   ·cases r₂ with
    |error e=>exact hr₂
    |ok fl₂ =>
     cases fl₂ with
     |ret r =>
      obtain⟨rfl,h',tk,rfl,hS',hk'⟩:=hr₂
      repeat(any_goals (first|assumption|wp_step))
      exact h _ _ hS' hk'
     |_=>exact hr₂.elim
  |_=>exact hr.elim
end
theorem zNw:Manifest.owners.lookup (String.ofList ['r','o','t','a','r','e','t','i','_','t','e','s'].reverse)=some Manifest.sig_set_iterator:=by kernel_rfl
theorem mC:Slot "set_iterator" "__next__" "set_iterator.__next__":=.of (owner:="set_iterator") (n:="__next__") (by rw[aev,ad7];kernel_rfl) (by decide +kernel) (by decide +kernel) (by decide +kernel) (by first|exact .inl (by decide +kernel)|grind) (by rw[isSubtype_type];kernel_rfl)
theorem zI2:entryFor table "set_iterator.__next__" = some Builtin.«set_iterator.__next__»:=entryFor_of_tree (by kernel_rfl)
theorem zKn(a:Value):argsOk "set_iterator.__next__" ⟨[a],[]⟩:=by unfold argsOk;rw[signature?_of (n:=['_','_','t','x','e','n','_','_']) (by kernel_rfl) zNw];kernel_rfl
theorem zRy:Slot "set_iterator" "__iter__" "set_iterator.__iter__":=.of (owner:="set_iterator") (n:="__iter__") (by rw[aev,ad7];kernel_rfl) (by decide +kernel) (by decide +kernel) (by decide +kernel) (by first|exact .inl (by decide +kernel)|exact .inr (by decide +kernel)) (by rw[isSubtype_type];kernel_rfl)
theorem zI3:entryFor table "set_iterator.__iter__" = some Builtin.«dict_keyiterator.__iter__»:=ad4 (id':="dict_keyiterator.__iter__") (by kernel_rfl) rfl (by decide +kernel) (by kernel_rfl)
theorem zKo(a:Value):argsOk "set_iterator.__iter__" ⟨[a],[]⟩:=by unfold argsOk;rw[signature?_of (n:=['_','_','r','e','t','i','_','_']) (by kernel_rfl) zNw];kernel_rfl
theorem zHy:entryFor table "set.__iter__" = some Builtin.«frozenset.__iter__»:=ad4 (id':="frozenset.__iter__") (by kernel_rfl) rfl (by decide +kernel) (by kernel_rfl)
theorem tu:typeLookup (.type "set") "__len__" = pure (some (.builtin "set.__len__")):=by rw[aev,ad7];kernel_rfl
section
variable{prog:Program}{w:World}{A:Around}{E:Value->Shared->Prop}{s:Shared}
theorem YH{α:Type}:∀{l:List α}{i:Nat}(h:i<l.length),(l[i]::l.eraseIdx i).Perm l
 |x::l,0,h=>.refl _
 |x::l,i+1,h=>by
  have a:i<l.length:=by grind
  have ih:=YH a
  exact(Perm.swap _ _ _).trans (ih.cons x)
theorem zQ1{Q:Nat->Shared->Prop}(a:0<n)(h:∀i d,i<n->Q i { s with drawn:=d }):wpAny (model prog w) A (choose src n) Q E s :=
 λ_ _ _=>⟨ad3 a,h _ _ (ae7 _ a)⟩
theorem zUh{α:Type}:∀(n:Nat)(xs:List α)(s:Shared)(Q:List α->Shared->Prop),xs.length=n->(∀ys d,ys.Perm xs->Q ys { s with drawn:=d })->wpAny (model prog w) A (drawOrder n xs) Q E s
 |0,xs,s,Q,hl,h=>by
  have e:xs=[]:=length_eq_zero_iff.mp hl
  subst e
  unfold drawOrder
  exact aaw (h [] s.drawn (.refl _))
 |n+1,[],s,Q,hl,h=>by simp at hl
 |n+1,x::xs,s,Q,hl,h=>by
  unfold drawOrder
  refine aav (zQ1 (by rw[hl];omega) λi d hi=>?_)
  have e:(x::xs)[i]?=some (x::xs)[i]:=aax hi
  rw[e]
  refine aav (zUh n _ _ _ (by rw[length_eraseIdx,if_pos hi,hl];rfl) λys d' p=>?_)
  exact aaw (h _ d' ((p.cons _).trans (YH hi)))
theorem zSl{α:Type}(next:Nat->Nat):∀(fuel k:Nat)(left:List α)(out:Array α),left.length=fuel->(afe next fuel k left out).toList.Perm (out.toList++left)
 |0,k,left,out,hl=>by
  have e:left=[]:=length_eq_zero_iff.mp hl
  subst e
  unfold afe
  rw[append_nil]
 |fuel+1,k,left,out,hl=>by
  have hi:next k%left.length<left.length:=ae7 _ (by omega)
  unfold afe
  rw[aax hi]
  dsimp only
  refine(zSl next fuel (k+1) _ _ (by rw[length_eraseIdx,if_pos hi,hl];rfl)).trans ?_
  rw[Array.toList_push,append_assoc]
  exact Perm.append_left _ (YH hi)
theorem Tt{α:Type}(next:Nat->Nat)(xs:Array α):(pickOrder next xs).toList.Perm xs.toList:=by
 have q:=zSl next xs.size 0 xs.toList #[] (by simp)
 exact q
variable{a it T:Addr}{o:Obj}{es:Array (Int×Value)}{ep:Nat}{t:SetTable}
theorem Px{Q:Bool->Shared->Prop}(h:Q (w.params.followText "set-order") s):wpAny (model prog w) A setsByText Q E s:=by
 exact aav (adn (aaw h))
theorem zXv{Q:Bool->Shared->Prop}(c:s.heap.get? a=some o)(b:o.data=.set es ep t)(d:t.fits es.size=true)(h:Q (!w.params.followText "set-order" && (!t.plain&&decide (es.size > 1))) s):wpAny (model prog w) A (setDrawn a) Q E s:=by
 refine aav (abe c b d ?_)
 exact aav (Px (aaw h))
theorem YJ{Q:Array (Int×Value)->Shared->Prop}(c:s.heap.get? a=some o)(b:o.data=.set es ep t)(d:t.fits es.size=true)(h:Q es s):wpAny (model prog w) A (setEntries a) Q E s:=by
 exact aav (abe c b d (aaw h))
theorem zLg{Q:Option (Value×Nat)->Shared->Prop}(d:s.heap.get? a=some o)(g:o.data=.set es ep t)(f:t.fits es.size=true)(c:w.params.followText "set-order" = true)(h:Q (((pickOrder (w.params.setOrder a ep) es)[i]?).map λe=>(e.2,b)) s):wpAny (model prog w) A (setNext a b i ep) Q E s:=by
 refine aav (abe d g f ?_)
 refine aav (Px ?_)
 rw[c]
 simp only[↓reduceIte,bne_self_eq_false]
 refine aav ?_
 refine aav (abe d g f ?_)
 refine aav (Px ?_)
 rw[c]
 refine aav (adn (aaw ?_))
 exact aaw h
theorem zIf{Q:Option (Value×Nat)->Shared->Prop}(ho:s.heap.get? a=some o)(hd:o.data=.set es ep t)(hf:t.fits es.size=true)(hb:w.params.followText "set-order" = false)(hl:t.led=true)(hn:(!t.plain&&decide (es.size > 1))=false)(h:Q (match es[abq t.place slot]?,t.place[abq t.place slot]? with|some (_,x),some j=>some (x,j+1)|_,_=>none) s):wpAny (model prog w) A (setNext a slot i ep) Q E s:=by
 unfold setNext
 refine aav (abe ho hd hf ?_)
 refine aav (Px ?_)
 rw[hb]
 simp only[↓reduceIte,abg]
 show wpAny _ _ (if(!t.plain&&decide (es.size > 1))=true then _ else _) _ _ _
 rw[if_neg (by rw[hn];exact aay)]
 refine aav ?_
 show wpAny _ _ (if(!t.led&&!es.isEmpty)=true then _ else pure ()) _ _ _
 rw[if_neg (by rw[hl];exact aay)]
 exact aaw (aaw h)
theorem zQb{Q:Value->Shared->Prop}(c:s.heap.get? a=some o)(b:o.data=.set es ep t)(e:t.fits es.size=true)(d:es[place]?=some x)(h:Q x.2 s):wpAny (model prog w) A (setNextDrawn a place ep) Q E s:=by
 refine aav (abe c b e ?_)
 simp only[bne_self_eq_false,d]
 exact aaw h
def qU(first:Value)(i:Nat)(a:Addr)(n ep:Nat):Obj:={ cls:=.type "set_iterator",data:=.fields #[first,.int i 0,.ref a,.int n 0,.int ep 0] }
theorem zXf{Q:Value->Shared->Prop}(b:s.heap.get? a=some o)(n:o.ExactSet)(c:o.data=.set es ep t)(e:t.fits es.size=true)(m:(!w.params.followText "set-order" && (!t.plain&&decide (es.size > 1)))=false->Q (.ref s.heap.objs.size) { s with heap:=s.heap.push (qU (.int 0 0) 0 a es.size ep) })(h2:(!w.params.followText "set-order" && (!t.plain&&decide (es.size > 1)))=true->es.size<=sizeLine/\∀(d:Drawn) (ps:List Nat),ps.Perm (abb es.size)->Q (.ref (s.heap.objs.size+1)) { s with drawn:=d,heap:=(s.heap.push { cls:=.type "tuple",data:=.seq (ps.map λ(i:Nat)=>acd i 0).toArray }).push (qU (.ref s.heap.objs.size) 0 a es.size ep) }) :
  wpAny (model prog w) A (pyIter (.ref a)) Q E s:=by
 have h:s.TypeIs (.ref a) "set":=⟨o,b,n.1⟩
 refine wpAny_pyIter_slot h F.slot_set_iter (ab8 F.slot_set_iter h zHy ?_ (F.args_set_iter_1 _))
 unfold Builtin.«frozenset.__iter__»
 refine aav (aaw ?_)
 refine aav ?_
 unfold Builtin.Frozenset.sizeOf
 refine aav (YJ b c e (aaw ?_))
 refine aav (zXv b c e ?_)
 cases j:(!w.params.followText "set-order" && (!t.plain&&decide (es.size > 1))) with
 |false =>
  simp only[abg,↓reduceIte]
  refine aav (aaw ?_)
  refine aav (aby b c e ?_)
  exact aav (ac2 (aaw ⟨_,rfl,"set_iterator",_,⟨_,get?_push_size _ rfl,rfl⟩,mC.lookup,m j⟩))
 |true =>
  obtain⟨k,h2⟩:=h2 j
  simp only[↓reduceIte]
  refine aav (zUh _ _ _ _ (by simp) λps d g=>?_)
  refine aav (wpAny_newTuple ?_ (by rw[length_map,g.length_eq,length_range];exact k))
  have f:=get?_push_of_some ({ cls:=.type "tuple",data:=.seq (ps.map λ(i:Nat)=>rawInt i).toArray }:Obj) b
  refine aav (aby (s:={ s with drawn:=d,heap:=_ }) f c e ?_)
  refine aav (ac2 (aaw ⟨_,rfl,"set_iterator",_,⟨_,get?_push_size _ rfl,rfl⟩,mC.lookup,?_⟩))
  have q:=h2 d ps g
  have l:(s.heap.push ({ cls:=.type "tuple",data:=.seq (ps.map λ(i:Nat)=>acd i 0).toArray }:Obj)).objs.size=s.heap.objs.size+1:=size_push ..
  rw[<-l] at q
  exact q
end
section
variable{prog:Program}{w:World}{A:Around}{E:Value->Shared->Prop}{s:Shared}{a it T:Addr}{o:Obj}{es:Array (Int×Value)}{ep:Nat}{t:SetTable}{i:Nat}{first:Value}
theorem YK{Q:Option Value->Shared->Prop}(g:s.heap.get? it=some (qU first i a es.size ep))(l:s.heap.get? a=some o)(m:o.data=.set es ep t)(k:t.fits es.size=true)(h:wpAny (model prog w) A.in1 (if let .int d _:=first then do
    match <-setNext a d.toNat (i:Int).toNat (ep:Int).toNat with
    |some (x,next) =>
     setField (.ref it) 0 (rawInt next)
     setField (.ref it) 1 (rawInt ((i:Int)+1))
     ret x
    |none=>setField (.ref it) 2 .none;raiseNew (<-newExc (.type "StopIteration") [])
   else do
    let some c <-seqItems? first|unsupported "internal:set_iterator"
    match c[(i:Int).toNat]? with
    |some (.int place _) =>
     let x <-setNextDrawn a place.toNat (ep:Int).toNat
     setField (.ref it) 1 (rawInt ((i:Int)+1))
     ret x
    |some _=>unsupported "internal:set_iterator"
    |none=>setField (.ref it) 0 (rawInt 0);setField (.ref it) 2 .none;raiseNew (<-newExc (.type "StopIteration") []))
   (λf s'=>∃v,f=.done (.ret v)/\Q (some v) s')
   (λe s'=>s'.TypeIs e "StopIteration" /\ Q none s') s):wpAny (model prog w) A (pyNext (.ref it)) Q E s:=by
 have j:s.TypeIs (.ref it) "set_iterator":=⟨_,g,rfl⟩
 unfold pyNext
 refine aav (wpAny_attempt (wpAny_callSpecial?_slot j mC (ab8 mC j zI2 ?_ (zKn _))))
 refine aav (aaw ?_)
 refine aav (wpAny_fieldsOf g rfl ?_)
 dsimp only
 refine aav (YJ l m k ?_)
 rw[if_neg (by simp)]
 exact ab1 h (λf s' ⟨v,e,q⟩=>⟨v,e,aaw q⟩) λe s' ⟨n,q⟩=>aav (acs (T:="StopIteration") (b:=true) n isSubtype_stop (aaw q))
theorem zRr{α:Type}{Q:α->Shared->Prop}{c:Value->Shared->Prop}(d:A.handled=none)(h:∀(e:Value) (h':Heap),(∀b u,s.heap.get? b=some u->h'.get? b=some u)->({ s with heap:=h' }:Shared).TypeIs e "StopIteration"->c e { s with heap:=h' }) :
  wpAny (model prog w) A (newExc (.type "StopIteration") [] >>= λe=>(raiseNew e:Sem α)) Q c s:=by
 refine aav ?_
 simp only[newExc,newTuple]
 refine aav (ac2 (aav (m:=firstArgMember _ _) (wpAny_of_eq (a:=adg) (by first|rfl|grind) (ac2 ?_ (by size_fits)))) (by size_fits))
 simp only[raiseNew]
 refine aav (wpAny_handled ?_)
 rw[d]
 refine aav (aaw (wpAny_throw ?_))
 refine h _ _ (λb u e=>get?_push_of_some _ (get?_push_of_some _ e)) ?_
 exact⟨_,get?_push_size _ rfl,rfl⟩
theorem YL{f:Obj->Obj}(c:s.heap.get? it=some u)(b:(f u).isFreed=false):(s.heap.update it f).get? it=some (f u):=get?_update_self f c b
theorem Tv(c:b≠it)(e:s.heap.get? b=some u):(s.heap.update it f).get? b=some u:=(get?_update_other _ _ (ac0 c)).trans e
theorem zIi{Q:Option Value->Shared->Prop}{c next:Nat}{n:Tok}{x:Value}(d:s.heap.get? it=some (qU (.int c n) i a es.size ep))(p:s.heap.get? a=some o)(l:o.data=.set es ep t)(r:t.fits es.size=true)(q:∀(R:Option (Value×Nat)->Shared->Prop) (k:Value->Shared->Prop),R (some (x,next)) s->wpAny (model prog w) A.in1 (setNext a c i ep) R k s)(h:∀h',h'.get? it=some (qU (.int next 0) (i+1) a es.size ep)->(∀b u,b≠it->s.heap.get? b=some u->h'.get? b=some u)->Q (some x) { s with heap:=h' }):wpAny (model prog w) A (pyNext (.ref it)) Q E s:=by
 refine YK d p l r ?_
 dsimp only
 refine aav (q _ _ ?_)
 dsimp only
 refine aav (adi d rfl (by simp) ?_)
 have j:=YL (f:=aen (·.setIfInBounds 0 (rawInt next))) d rfl
 refine aav (adi j rfl (by simp) ?_)
 have m:=YL (s:={ s with heap:=_ }) (f:=aen (·.setIfInBounds 1 (rawInt ((i:Int)+1)))) j rfl
 exact aaw ⟨x,rfl,h _ m λb u g e=>Tv g (Tv g e)⟩
theorem zLs{Q:Option Value->Shared->Prop}{c:Nat}{n:Tok}(p:A.handled=none)(d:s.heap.get? it=some (qU (.int c n) i a es.size ep))(r:s.heap.get? a=some o)(l:o.data=.set es ep t)(f:t.fits es.size=true)(j:∀(R:Option (Value×Nat)->Shared->Prop) (g:Value->Shared->Prop),R none s->wpAny (model prog w) A.in1 (setNext a c i ep) R g s)(h:∀h',(∀b u,b≠it->s.heap.get? b=some u->h'.get? b=some u)->Q none { s with heap:=h' }):wpAny (model prog w) A (pyNext (.ref it)) Q E s:=by
 refine YK d r l f ?_
 refine aav (j _ _ ?_)
 refine aav (adi d rfl (by simp) ?_)
 exact zRr (by simp[p]) λe h' k q=>⟨q,h h' λb u m e=>k b u (Tv m e)⟩
theorem zQg{Q:Option Value->Shared->Prop}{ps:List Nat}(c:s.heap.get? it=some (qU (.ref T) i a es.size ep))(g:s.heap.get? a=some o)(j:o.data=.set es ep t)(d:t.fits es.size=true)(n:s.heap.get? T=some { cls:=.type "tuple",data:=.seq (ps.map λ(i:Nat)=>acd i 0).toArray })(hp:ps[i]?=some place)(l:es[place]?=some x)(h:∀h',h'.get? it=some (qU (.ref T) (i+1) a es.size ep)->(∀b u,b≠it->s.heap.get? b=some u->h'.get? b=some u)->Q (some x.2) { s with heap:=h' }):wpAny (model prog w) A (pyNext (.ref it)) Q E s:=by
 refine YK c g j d ?_
 dsimp only
 refine aav (aej n rfl ?_)
 have e:((ps.map λ(i:Nat)=>acd i 0).toArray)[(i:Int).toNat]?=some (.int (place:Nat) 0):=by
  simp_all
 dsimp only
 rw[e]
 dsimp only
 refine aav (zQb g j d (x:=x) (by rw[acf];exact l) ?_)
 refine aav (adi c rfl (by simp) ?_)
 have m:=YL (f:=aen (·.setIfInBounds 1 (rawInt ((i:Int)+1)))) c rfl
 exact aaw ⟨x.2,rfl,h _ m λb u k e=>Tv k e⟩
theorem zUg{Q:Option Value->Shared->Prop}{ps:List Nat}(hh:A.handled=none)(hi:s.heap.get? it=some (qU (.ref T) i a es.size ep))(ho:s.heap.get? a=some o)(hd:o.data=.set es ep t)(hf:t.fits es.size=true)(hT:s.heap.get? T=some { cls:=.type "tuple",data:=.seq (ps.map λ(i:Nat)=>acd i 0).toArray })(hp:ps[i]?=none)(h:∀h',(∀b u,b≠it->s.heap.get? b=some u->h'.get? b=some u)->Q none { s with heap:=h' }):wpAny (model prog w) A (pyNext (.ref it)) Q E s:=by
 refine YK hi ho hd hf ?_
 dsimp only
 refine aav (aej hT rfl ?_)
 have e:((ps.map λ(i:Nat)=>acd i 0).toArray)[(i:Int).toNat]?=none:=by
  rw[acf,getElem?_toArray,getElem?_map,hp]
  rfl
 dsimp only
 rw[e]
 dsimp only
 refine aav (adi hi rfl (by simp) ?_)
 have h1:=YL (f:=aen (·.setIfInBounds 0 (rawInt 0))) hi rfl
 refine aav (adi (s:={ s with heap:=_ }) h1 rfl (by simp) ?_)
 exact zRr (s:={ s with heap:=_ }) (by simp[hh]) λe h' k ty=>⟨ty,h h' λb u hb e=>k b u (Tv (s:={ s with heap:=_ }) hb (Tv hb e))⟩
end
section
variable{prog:Program}{w:World}{A:Around}{E:Value->Shared->Prop}{s:Shared}{a it T:Addr}{o:Obj}{es:Array (Int×Value)}{ep:Nat}{t:SetTable}
theorem zJr{Q:Value->Shared->Prop}(c:s.heap.get? it=some (qU first i a n ep))(h:Q (.ref it) s):wpAny (model prog w) A (pyIter (.ref it)) Q E s:=by
 have b:s.TypeIs (.ref it) "set_iterator":=⟨_,c,rfl⟩
 refine wpAny_pyIter_slot b zRy (ab8 zRy b zI3 ?_ (zKo _))
 exact aaw ⟨_,rfl,"set_iterator",_,b,mC.lookup,h⟩
theorem VR(b:t.fits es.size=true):t.place.size=es.size:=by
 unfold fits at b
 grind
theorem zQz(d:Rz xs):abq xs 0=0:=by
 obtain⟨f,b,b3⟩:=zJ3 d 0
 cases e:abq xs 0 with
 |zero=>rfl
 |succ k =>
  rw[e] at f b
  have c:0<xs.size:=by lia
  exact absurd (b 0 _ (aer k) (aa7 c)) (adw _)
theorem zQ0(c:Rz xs)(h:xs[i]?=some j):abq xs (j+1)=i+1:=by
 obtain⟨b1,d,b3⟩:=zJ3 c (j+1)
 generalize abq xs (j+1)=p at *
 have h1:i<p:=by
  grind
 by_cases z:p=i+1
 ·exact z
 ·have b:i+1<xs.size:=by lia
  have q1:=d (i+1) _ (by lia) (aa7 b)
  have q2:=c i (i+1) j _ (by lia) h (aa7 b)
  lia
theorem zV7{xs:Array Nat}(h:xs.size<=1):Rz xs:=λi k a b hik ha hb=>by
 rw[ab3 (by omega)] at hb
 cases hb
theorem zPd(hh:A.handled=none)(hne:a≠it)(hd:o.data=.set es ep t)(hf:t.fits es.size=true)(hb:w.params.followText "set-order" = false)(hl:t.led=true)(hn:(!t.plain&&decide (es.size > 1))=false)(hr:Rz t.place) :
  Walks prog w A it [it,a] [it] es.size (λi v=>(es.toList.map (·.2))[i]?=some v) (λi h=>h.get? a=some o/\∃(slot:Nat)(tk:Tok),h.get? it=some (qU (.int slot tk) i a es.size ep)/\abq t.place slot=i) where
 sub:=λb hb=>by simp at hb;simp[hb]
 frame:=λi h h' ⟨h1,slot,tk,h2,h3⟩ k=>⟨k a (by simp) _ h1,slot,tk,k it (by simp) _ h2,h3⟩
 item:=λi s Q E hi ⟨h1,slot,tk,h2,h3⟩ hQ=>by
  have hp:i<t.place.size:=by rw[VR hf];exact hi
  refine zIi (x:=es[i].2) (next:=t.place[i]+1) h2 h1 hd hf (λR E' hR=>zIf h1 hd hf hb hl hn ?_) λh' hi' k=>?_
  ·rw[h3,aa7 hi,aa7 hp]
   exact hR
  ·refine hQ _ h' s.toks (by simp[hi]) ⟨k a o hne h1,_,_,hi',zQ0 hr (aa7 hp)⟩ λb u hb e=>k b u (λz=>hb (by simp[z])) e
 done:=λs Q E ⟨h1,slot,tk,h2,h3⟩ hQ=>by
  refine zLs hh h2 h1 hd hf (λR E' hR=>zIf h1 hd hf hb hl hn ?_) λh' k=>hQ h' s.toks λb u hb e=>k b u (λz=>hb (by simp[z])) e
  rw[h3,ab3 (aaz _)]
  exact hR
 self:=λi s Q E ⟨h1,slot,tk,h2,h3⟩ hQ=>zJr h2 hQ
theorem zQ4(hh:A.handled=none)(hne:a≠it)(hd:o.data=.set es ep t)(hf:t.fits es.size=true)(hb:w.params.followText "set-order" = true) :
  Walks prog w A it [it,a] [it] es.size (λi v=>((pickOrder (w.params.setOrder a ep) es).toList.map (·.2))[i]?=some v) (λi h=>h.get? a=some o/\∃(slot:Nat)(tk:Tok),h.get? it=some (qU (.int slot tk) i a es.size ep)) where
 sub:=λb hb=>by simp at hb;simp[hb]
 frame:=λi h h' ⟨h1,slot,tk,h2⟩ k=>⟨k a (by simp) _ h1,slot,tk,k it (by simp) _ h2⟩
 item:=λi s Q E hi ⟨h1,slot,tk,h2⟩ hQ=>by
  have hz:i<(pickOrder (w.params.setOrder a ep) es).size:=by rw[<-length_toList,(Tt _ es).length_eq,length_toList];exact hi
  refine zIi (x:=(pickOrder (w.params.setOrder a ep) es)[i].2) (next:=slot) h2 h1 hd hf (λR E' hR=>zLg h1 hd hf hb ?_) λh' hi' k=>?_
  ·rw[aa7 hz]
   exact hR
  ·refine hQ _ h' s.toks (by simp[hz]) ⟨k a o hne h1,_,_,hi'⟩ λb u hb e=>k b u (λz=>hb (by simp[z])) e
 done:=λs Q E ⟨h1,slot,tk,h2⟩ hQ=>by
  have hz:(pickOrder (w.params.setOrder a ep) es).size=es.size:=by rw[<-length_toList,(Tt _ es).length_eq,length_toList]
  refine zLs hh h2 h1 hd hf (λR E' hR=>zLg h1 hd hf hb ?_) λh' k=>hQ h' s.toks λb u hb e=>k b u (λz=>hb (by simp[z])) e
  rw[ab3 (by rw[hz];exact aaz _)]
  exact hR
 self:=λi s Q E ⟨h1,slot,tk,h2⟩ hQ=>zJr h2 hQ
theorem zPe{ps:List Nat}(hh:A.handled=none)(hne:a≠it)(hnT:T≠it)(hd:o.data=.set es ep t)(hf:t.fits es.size=true)(hp:ps.Perm (abb es.size)) :
  Walks prog w A it [it,a,T] [it] es.size (λi v=>(ps.map λp=>((es[p]?).map (·.2)).getD .none)[i]?=some v)
   (λi h=>h.get? a=some o/\h.get? T=some { cls:=.type "tuple",data:=.seq (ps.map λ(i:Nat)=>acd i 0).toArray }/\h.get? it=some (qU (.ref T) i a es.size ep)) where
 sub:=λb hb=>by simp at hb;simp[hb]
 frame:=λi h h' ⟨h1,h2,h3⟩ k=>⟨k a (by simp) _ h1,k T (by simp) _ h2,k it (by simp) _ h3⟩
 item:=λi s Q E hi ⟨h1,h2,h3⟩ hQ=>by
  have hl:ps.length=es.size:=by rw[hp.length_eq,length_range]
  have hi':i<ps.length:=by omega
  have hm:ps[i]<es.size:=mem_range.mp (hp.mem_iff.mp (getElem_mem hi'))
  refine zQg (place:=ps[i]) (x:=es[ps[i]]) h3 h1 hd hf h2 (aax hi') (aa7 hm) λh' hi' k=>?_
  refine hQ _ h' s.toks ?_ ⟨k a o hne h1,k T _ hnT h2,hi'⟩ λb u hb e=>k b u (λz=>hb (by simp[z])) e
  rw[getElem?_map,aax (by omega),Option.map_some,aa7 hm]
  rfl
 done:=λs Q E ⟨h1,h2,h3⟩ hQ=>by
  have hl:ps.length=es.size:=by rw[hp.length_eq,length_range]
  exact zUg hh h3 h1 hd hf h2 (abt (by omega)) λh' k=>hQ h' s.toks λb u hb e=>k b u (λz=>hb (by simp[z])) e
 self:=λi s Q E ⟨h1,h2,h3⟩ hQ=>zJr h3 hQ
end
section
variable{prog:Program}{w:World}{A:Around}{E:Value->Shared->Prop}{s:Shared}{a it T:Addr}{o:Obj}{es:Array (Int×Value)}{ep:Nat}{t:SetTable}
theorem zXi{Q:Bool->Shared->Prop}(d:s.TypeIs (.ref a) "set")(h:Q false s):wpAny (model prog w) A (Builtin.List.listLengthHint (.ref a)) Q E s:=by
 refine aav (ac9 d F.slot_set_len.lookup ?_)
 generalize c:("set.__len__":String)=id0
 subst c
 refine aav (acs d aeu (aew (λb=>absurd b (by decide)) λ_=>aew (λ_=>aav (wpAny_typeOf d (aaw h))) λb=>absurd (by decide +kernel) b))
theorem zTe{R:Result->Shared->Prop}{P:Nat->Value->Prop}{St:Nat->Heap->Prop}(W:Walks prog w A.in1 it fp [it] n P St)(l:n<=sizeLine)(g:S∉fp)(st:St 0 s.heap)(k:s.heap.get? S=some { cls:=.type "list",data:=.seq #[] p })(m:∀h' q acc h,(∀b u,b≠S->b≠it->s.heap.get? b=some u->h'.get? b=some u)->h'.get? S=some { cls:=.type "list",dict:=none,data:=.seq acc h,slots:=#[] }->ItemsOf P acc n->R (.ok (.ret res)) { s with heap:=h',toks:=q }) :
  codeAny (model prog w) A (.builtin "list.extend.loop" ⟨[.ref S,.ref it,res],[]⟩) R s:=by
 refine codeAny_extend_loopS W.toS l S g res n 0 _ #[] p rfl (abl _) st k (ItemsOf.nil _) λi acc h j f d=>?_
 rw[Moved.eq_with j]
 refine m i.heap i.toks acc h (λb u h1 h2 e=>j.heap b u (λz=>?_) e) f d
 grind
theorem zMf{R:Result->Shared->Prop}{P:Nat->Value->Prop}{St:Nat->Heap->Prop}(W:Walks prog w A.in1 it fp [it] n P St)(x:n<=sizeLine)(g:S∉fp)(B:s.TypeIs (.ref a) "set")(st:St 0 s.heap)(m:s.heap.get? S=some { cls:=.type "list",data:=.seq #[] c₀ })(v:∀h' q acc h,(∀b u,b≠S->b≠it->s.heap.get? b=some u->h'.get? b=some u)->h'.get? S=some { cls:=.type "list",dict:=none,data:=.seq acc h,slots:=#[] }->ItemsOf P acc n->R (.ok (.ret res)) { s with heap:=h',toks:=q }) :
  wpAny (model prog w) A.in1 (holding [.ref it] (Builtin.List.listLengthHint (.ref a)) >>= λj=>if(j||b)=true then(rule "list.extend.makes-room" >>= λ_=>Builtin.List.listTouch (.ref S) >>= λ_=>again (.builtin "list.extend.loop" ⟨[.ref S,.ref it,res],[]⟩)) else again (.builtin "list.extend.loop" ⟨[.ref S,.ref it,res],[]⟩))
   (λp s'=>match p with|.done f=>R (.ok f) s'|.again h=>h.quiet=true/\codeAny (model prog w) A h R s') (λe s'=>R (.error e) s') s:=by
 refine aav (abo (zXi B ?_))
 refine aew (λ_=>?_) λ_=>aaw ⟨aeb F.plain_extend_loop _,zTe W x g st m v⟩
 refine aav (ac4 ?_)
 refine aav ?_
 show wpAny _ _ (updateSeq S (·.push .none) >>= λ_=>updateSeq S (·.pop)) _ _ _
 refine aav (wpAny_updateSeq m rfl ?_)
 have i:=get?_update_self (ac7 (·.push adg)) m rfl
 refine wpAny_updateSeq (hz:=by seq_fits) i rfl ?_
 have r:=get?_update_self (ac7 (·.pop)) i rfl
 have d:∀c u,c≠S->s.heap.get? c=some u->((s.heap.update S (ac7 (·.push adg))).update S (ac7 (·.pop))).get? c=some u:=λc u l e=>(get?_update_other _ _ (ac0 l)).trans ((get?_update_other _ _ (ac0 l)).trans e)
 refine aaw ⟨aeb F.plain_extend_loop _,zTe (s:={ s with heap:=_ }) W x g (W.frame 0 _ _ st λc l u e=>d c u (λz=>g (z▸l)) e) r λh' q acc h k D G=>v h' q acc h (λc u y C e=>k c u y C (d c u y e)) D G⟩
theorem zJq(h:ItemsOf (λi v=>b[i]?=some v) acc n)(d:b.length=n):acc.toList=b:=by
 apply ext_getElem?
 intro i
 rw[getElem?_toList]
 by_cases c:i<acc.size
 ·rw[aa7 c]
  exact(h.2 i _ (aa7 c)).symm
 ·rw[ab3 (by lia),abt (by rw[d,<-h.1];lia)]
theorem zP0(es:Array (Int×Value)):(abb es.size).map (λp=>((es[p]?).map (·.2)).getD adg)=es.toList.map (·.2):=by
 apply List.ext_getElem (by simp)
 intro i h1 h2
 have hi:i<es.size:=by simpa using h1
 simp[hi]
theorem zQp{R:Result->Shared->Prop}(X:A.handled=none)(m:s.heap.get? a=some o)(y:o.ExactSet)(J:o.data=.set es ep t)(x:t.fits es.size=true)(W:Tb (yB w) t)(hz:es.size<=sizeLine)(p:S≠a)(r:s.heap.get? S=some { cls:=.type "list",data:=.seq #[] c₀ })(U:∀h' q d acc h,(∀b u,b≠S->s.heap.get? b=some u->h'.get? b=some u)->h'.get? S=some { cls:=.type "list",dict:=none,data:=.seq acc h,slots:=#[] }->acc.toList.Perm (es.toList.map (·.2))->R (.ok (.ret res)) { s with heap:=h',toks:=q,drawn:=d }) :
  wpAny (model prog w) A.in1 (Builtin.List.listExtendWith (.ref S) (.ref a) res)
   (λP s'=>match P with|.done f=>R (.ok f) s'|.again h=>h.quiet=true/\codeAny (model prog w) A h R s') (λe s'=>R (.error e) s') s:=by
 have hT:s.TypeIs (.ref a) "set":=⟨o,m,y.1⟩
 have lta:a<s.heap.objs.size:=lt_size m
 have ltS:S<s.heap.objs.size:=lt_size r
 have Q:A.in1.handled=none:=by simp[X]
 unfold Builtin.List.listExtendWith
 refine aav (wpAny_typeOf hT ?_)
 have h1:Builtin.List.listSameRef (.ref S) (.ref a)=false:=by simp[Builtin.List.listSameRef,p]
 simp only[h1,show(ad9 "set" == ad9 "list")=false by decide,show(ad9 "set" == ad9 "tuple")=false by decide,Bool.or_false,abg,if_false]
 have g:∀{b:Addr}{u:Obj}{n:Nat},s.heap.get? b=some u->s.heap.objs.size<=n->b≠n:=λe H z=>absurd (lt_size e) (by rw[z];exact Nat.not_lt_of_le H)
 refine aav (zXf m y J x (λN=>?_) λN=>⟨hz,λd C v=>?_⟩)
 ·have G:=get?_push_of_some (qU (.int 0 0) 0 a es.size ep) r
  have l:=get?_push_of_some (qU (.int 0 0) 0 a es.size ep) m
  have M:(s.heap.push (qU (.int 0 0) 0 a es.size ep)).get? s.heap.objs.size=some (qU (.int 0 0) 0 a es.size ep):=get?_push_size _ rfl
  have j:S∉[s.heap.objs.size,a]:=λz=>by
   rcases mem_cons.mp z with z|z
   ·exact g r (aaz _) z
   ·exact p (mem_singleton.mp z)
  have F:a≠s.heap.objs.size:=g m (aaz _)
  cases L:w.params.followText "set-order" with
  |true =>
   refine zMf (s:={ s with heap:=_ }) (zQ4 Q F J x L) hz j ⟨o,l,y.1⟩ ⟨l,0,0,M⟩ G λh' q acc h k D B=>?_
   refine U h' q s.drawn acc h (λb u n e=>k b u n (g e (aaz _)) (get?_push_of_some _ e)) D ?_
   rw[zJq B (by rw[length_map,(Tt _ es).length_eq,length_toList])]
   exact(Tt _ es).map _
  |false =>
   have Z:t.led=true:=by rw[W.led];unfold yB;rw[L];rfl
   have H:(!t.plain&&decide (es.size > 1))=false:=by rw[L] at N;exact N
   have V:Rz t.place:=by
    cases v:t.plain with
    |true=>exact W.rz v
    |false =>
     rw[v] at H
     refine zV7 ?_
     rw[VR x]
     have:¬es.size > 1:=of_decide_eq_false (by simpa using H)
     lia
   refine zMf (s:={ s with heap:=_ }) (zPd Q F J x L Z H V) hz j ⟨o,l,y.1⟩ ⟨l,0,0,M,zQz V⟩ G λh' q acc h k D B=>?_
   refine U h' q s.drawn acc h (λb u n e=>k b u n (g e (aaz _)) (get?_push_of_some _ e)) D ?_
   rw[zJq B (by rw[length_map,length_toList])]
 ·have I:∀{b:Addr}{u:Obj},s.heap.get? b=some u->((s.heap.push { cls:=.type "tuple",data:=.seq (C.map λ(i:Nat)=>acd i 0).toArray }).push (qU (.ref s.heap.objs.size) 0 a es.size ep)).get? b=some u:=λe=>get?_push_of_some _ (get?_push_of_some _ e)
  have sz:(s.heap.push ({ cls:=.type "tuple",data:=.seq (C.map λ(i:Nat)=>acd i 0).toArray }:Obj)).objs.size=s.heap.objs.size+1:=size_push ..
  have M:((s.heap.push { cls:=.type "tuple",data:=.seq (C.map λ(i:Nat)=>acd i 0).toArray }).push (qU (.ref s.heap.objs.size) 0 a es.size ep)).get? (s.heap.objs.size+1)=some (qU (.ref s.heap.objs.size) 0 a es.size ep):=by
   rw[<-sz];exact get?_push_size _ rfl
  have O:((s.heap.push { cls:=.type "tuple",data:=.seq (C.map λ(i:Nat)=>acd i 0).toArray }).push (qU (.ref s.heap.objs.size) 0 a es.size ep)).get? s.heap.objs.size=some { cls:=.type "tuple",data:=.seq (C.map λ(i:Nat)=>acd i 0).toArray }:=get?_push_of_some _ (get?_push_size _ rfl)
  have j:S∉[s.heap.objs.size+1,a,s.heap.objs.size]:=λz=>by
   rcases mem_cons.mp z with z|z
   ·exact g r (ab7 _) z
   ·rcases mem_cons.mp z with z|z
    ·exact p z
    ·exact g r (aaz _) (mem_singleton.mp z)
  refine zMf (s:={ s with drawn:=d,heap:=_ }) (zPe Q (g m (ab7 _)) (aa8 (acp _)) J x v) hz j ⟨o,I m,y.1⟩ ⟨I m,O,M⟩ (I r) λh' q acc h k D B=>?_
  refine U h' q d acc h (λb u n e=>k b u n (g e (ab7 _)) (I e)) D ?_
  rw[zJq B (by rw[length_map,v.length_eq,length_range])]
  have Y:=zP0 es
  rw[<-Y]
  exact v.map _
theorem zNh{R:List Value->Shared->Prop}(G:A.handled=none)(r:s.heap.get? a=some o)(D:o.ExactSet)(z:o.data=.set es ep t)(H:t.fits es.size=true)(v:Tb (yB w) t)(hz:es.size<=sizeLine)(h:∀h' c d (acc:List Value),(∀b u,s.heap.get? b=some u->h'.get? b=some u)->acc.Perm (es.toList.map (·.2))->R acc { s with heap:=h',toks:=c,drawn:=d }) :
  wpAny (model prog w) A (collect (.ref a)) R E s:=by
 have B:a<s.heap.objs.size:=lt_size r
 unfold collect
 refine aav (wpAny_runValue (ac8 entry_proto_collect' ?_))
 rw[acy F.plain_proto_collect _]
 refine aav (m:=newList []) (ac2 (aaw ⟨aeb F.plain_list_iadd _,ac8 entry_list_iadd' ?_⟩))
 rw[acy F.plain_list_iadd _]
 have C:(s.heap.push { cls:=.type "list",data:=.seq ([]:List Value).toArray }).get? s.heap.objs.size=some { cls:=.type "list",data:=.seq #[] }:=get?_push_size _ rfl
 have l:=zQp (prog:=prog) (A:=A) (S:=s.heap.objs.size) (res:=.ref s.heap.objs.size) (s:={ s with heap:=s.heap.push { cls:=.type "list",data:=.seq ([]:List Value).toArray } })
  (R:=λ(q:Result) (n:Shared)=>∃(h':Heap)(c:Nat)(d:Drawn)(acc:Array Value)(g:Nat),q=.ok (.ret (.ref s.heap.objs.size))/\n={ s with heap:=h',toks:=c,drawn:=d }/\(∀b u,s.heap.get? b=some u->h'.get? b=some u) /\
   h'.get? s.heap.objs.size=some { cls:=.type "list",dict:=none,data:=.seq acc g,slots:=#[] }/\acc.toList.Perm (es.toList.map (·.2)))
  G (get?_push_of_some _ r) D z H v hz (ad3 B) C λh' c d acc g k j i=>⟨h',c,d,acc,g,rfl,rfl,λb u e=>k b u (aa8 (lt_size e)) (get?_push_of_some _ e),j,i⟩
 refine ab1 l (λp n x=>?_) λe n x=>?_
 ·cases p with
  |done f =>
   obtain⟨h',c,d,acc,g,e,rfl,k,j,i⟩:=x
   cases e
   refine aav (m:=load s.heap.objs.size) (wpAny_load j ?_)
   exact aaw (h h' c d acc.toList k i)
  |again c1 =>
   refine⟨x.1,adl x.2 λq s2 y=>?_⟩
   obtain⟨h',c,d,acc,g,rfl,rfl,k,j,i⟩:=y
   refine aav (m:=load s.heap.objs.size) (wpAny_load j ?_)
   exact aaw (h h' c d acc.toList k i)
 grind
end
end wk
namespace L2
open PySem PySem.Spec PyProof.Rows wk
def wu:Value->Int
 |.int k _=>k
 |_=>0
theorem YM:∀k v,(intKind P w).is k v=true->wu v=k:=λk v h=>by
 obtain⟨t,rfl⟩:=ac1 h
 rfl
theorem Inv.drew(I:Inv X a σ H s)(d:Drawn):Inv X a σ H { s with drawn:=d }:=⟨I.ok,I.os,I.bare,I.base,I.loc,I.cell,I.free,I.jo,I.pin,I.hok,I.len⟩
abbrev Ip:=St->Hp->(LI->Hp->Prop)->Prop
def StP(X:Cx)(b:List (Addr×Obj))(σ:St)(Q:LI->Hp->Prop)(v:Value)(s':Shared):Prop :=
 ∃(a:Addr)(d:LI)(c:Hp),v=.ref a/\Inv X b σ c s'/\Good (intKind X.prog X.w) wu (yB X.w) s'.heap a d/\oG X b c a/\Q d c
def Es(X:Cx)(e:Expr)(t:Ip):Prop:=∀(a:List (Addr×Obj))(s:Shared)(σ:St)(H:Hp)(Q:LI->Hp->Prop),Inv X a σ H s->t σ H Q->wpAny (model X.prog X.w) X.A (eval e X.env) (StP X a σ Q) X.xe s
section
variable{X:Cx}
theorem yAa:∀{ns:LI}{its:List Value},IntsAre its ns->∀{i:Nat}{v:Value},its[i]?=some v->∃t,v=.int (ns.getD i 0) t
 |_,_,.nil,i,v,h=>by simp at h
 |_,_,.cons n t r,0,v,h=>by simp at h;subst h;exact⟨t,rfl⟩
 |_,_,.cons n t r,i+1,v,h=>by
  obtain⟨t',e⟩:=yAa r (by simpa using h)
  exact⟨t',e⟩
theorem zU2:∀{ns:LI}{a:List Value},IntsAre a ns->a.length=ns.length
 |_,_,.nil=>rfl
 |_,_,.cons n t r=>congrArg (· + 1) (zU2 r)
def Ld(K:Frag)(te:TE):Ip:=λσ H Q=>wI te bT σ H λd c=>∃(p:Addr)(b:LI),d=[.ref p]/\bN K c p (b.map V.int)/\b.length<4000/\∀a:LI,a.Nodup->(∀z,z∈a↔z∈b)->Q a c
theorem Py:bootBuiltins "set" = some (.type "set"):=by decide +kernel
theorem Lf(K:Frag)(T:X.calm=true)(E:X.mg "set" = none)(U:PE X e te)(Z:X.K=K:=by rfl)(Y:Gl X "set":=by rfl)(A:starEach [e] X.env=[(false,eval e X.env)]:=by rfl):Es X (.Call (.Name "set" p) [e] [] pos) (Ld K te):=by
 subst Z
 intro c s σ H Q I h
 refine ab0 (GZ I Y E Py ?_)
 have C:PA X [e] (wI te bT):=zA U zF A
 refine abx (aV (C pos c s σ H _ I h) ?_) A rfl
 rintro us s1 ⟨vs,G,a,M,J⟩
 obtain⟨l,f,O,B,h4,q⟩:=J
 subst O
 cases M with
 |cons r L =>
  cases L
  cases r
  obtain⟨d,F,P,n⟩:=a.list B
  have u:IntsAre d f:=Yw F
  have y:=zU2 u
  refine zX1 (knd:=intKind X.prog X.w) (dec:=wu) YM (λi=>f.getD i 0) (a.ok.hd T) P.isList (λi v x=>?_) (by rw[size_toArray,y];show f.length+1<4096;lia) λR D g k=>?_
  ·obtain⟨t,rfl⟩:=yAa u (by rw[getElem?_toArray] at x;exact x)
   exact⟨intKind_is _ _ _ _,rfl⟩
  ·have S:=a.kept (h':=R) (t':=D) λb o e=>k b o (lt_size e) e
   obtain⟨_,_,_,_,_,_,_,_,_,N,_⟩:=id g
   refine⟨_,_,G,rfl,S,g,a.pF (aaz _) (a.hok.fresh (aaz _)),q _ N λz=>?_⟩
   rw[zTc,size_toArray,y]
   constructor
   ·grind
   ·intro n
    obtain⟨j,m,e⟩:=getElem_of_mem n
    exact⟨j,m,by rw[getD_eq_getElem?_getD,aax m];exact e⟩
def V0(ts:Ip):TE:=λσ H Q=>ts σ H λb c=>b.length<64/\∀(l:Addr)(a:LI),c l=none->a.Perm b->a.Pairwise (· <= ·)->Q (.ref l) (upd c l (.lst (a.map V.int)))
theorem zOl:∀{vs:List Value},(∀v∈vs,∃k,(intKind P w).is k v=true)->IntsAre vs (vs.map wu)
 |[],_=>.nil
 |v::vs,h=>by
  obtain⟨k,a⟩:=h v mem_cons_self
  obtain⟨t,rfl⟩:=ac1 a
  exact .cons k t (zOl λu b=>h u (mem_cons_of_mem _ b))
theorem zV0(hc:X.calm=true)(I:Inv X pins σ H s)(g:Good (intKind X.prog X.w) wu (yB X.w) s.heap a ks)(h64:ks.length<64)(q:∀(l:Addr) (ms:LI),H l=none->ms.Perm ks->ms.Pairwise (· <= ·)->Q (.ref l) (upd H l (.lst (ms.map V.int)))):wpAny (model X.prog X.w) X.A (call (.builtin "sorted") [.ref a]) (EP X pins σ Q) X.xe s:=by
 obtain⟨o,es,ep,t,ho,hx,hd,hel,hp,nd,hb,hf,tb⟩:=g
 have hsz:es.size=ks.length:=by rw[<-hp.length_eq,length_map,length_toList]
 refine PySem.Calls.call_function_entry kind_sorted plain_sorted entry_sorted (args_sorted1 _) ?_
 unfold Builtin.«sorted»
 refine aav (m:=checkCount "sorted" 1 1 _) (aaw ?_)
 refine aav (zNh (A:=X.A.in1) (I.ok.hd hc) ho hx hd hf tb (ach hb) λh' tk d acc hkeep hacc=>?_)
 have I':Inv X pins σ H { s with heap:=h',toks:=tk,drawn:=d }:=(I.kept (h':=h') (t':=tk) hkeep).drew d
 have hI:IntsAre acc (acc.map wu):=zOl (P:=X.prog) (w:=X.w) λv hv=>by
  obtain⟨e,he,rfl⟩:=mem_map.mp (hacc.mem_iff.mp hv)
  obtain⟨⟨k,hk,_⟩,_⟩:=hel e he
  exact⟨k,hk⟩
 have hpk:(acc.map wu).Perm ks:=by
  refine(hacc.map wu).trans ?_
  rw[map_map]
  exact hp
 have hal:acc.length=ks.length:=by rw[<-hpk.length_eq,length_map]
 have hsl:acc.length<=sizeLine:=by rw[hal];exact acz (aef h64 (by decide))
 refine aav (wpAny_newList ?_ hsl)
 have hoL:(h'.push (seqObj "list" acc.toArray 0)).get? h'.objs.size=some (seqObj "list" acc.toArray 0):=get?_push_size _ rfl
 refine aav (abo (ab8 slot_list_sort ⟨_,hoL,rfl⟩ entry_list_sort (list_sort_tree hoL hI (by omega) λout ns' a1 a2 a3=>⟨_,rfl,?_⟩) (args_list_sort _)))
 refine aaw ⟨_,rfl,?_⟩
 obtain⟨e,he⟩:=sortedHeap_at (out:=out) hoL
 refine⟨.ref h'.objs.size,_,I'.laid (t':=tk) (o:=.lst (ns'.map V.int)) (λb ob w=>?_) (aaz _) ?_,rfl,q _ ns' (I'.hok.fresh (aaz _)) (a2.trans hpk) a3⟩
 ·have hb:h'.get? b=some ob:=w
  have hlt:=lt_size hb
  rw[sortedHeap_old (aa8 hlt) (by rw[size_push'];exact ad2 hlt),Heap.get?_push_ne _ _ _ (aa8 hlt)]
  exact hb
 ·refine⟨?_,out.toList,e,Yx a1,?_⟩
  ·rw[length_map,a2.length_eq,length_map];exact hsl
  ·rw[Array.toArray_toList];exact he
theorem V1(n:X.calm=true)(j:X.mg "sorted" = none)(l:Es X e ts)(m:Gl X "sorted":=by rfl)(f:starEach [e] X.env=[(false,eval e X.env)]:=by rfl):PE X (.Call (.Name "sorted" p) [e] [] pos) (V0 ts):=by
 intro c s σ H Q I h
 refine ab0 (GZ I m j (by decide +kernel:bootBuiltins "sorted" = some (.builtin "sorted")) ?_)
 refine PyProof.Rows.callWith_builtin1 (Q:=_) ?_ f rfl
 rw[f]
 show wpAny _ _ (spliced ((false,eval e X.env)::backTo pos [])) _ _ s
 refine ac6 (aV (l c s σ H _ I h) ?_)
 rintro u s1 ⟨a,ks,H1,i,k,g,fo,d,q⟩
 subst i
 refine ad1 ?_
 exact zV0 n k g d q
end
end L2
namespace Ts
open PySem L2
def tD(z:Int):LI->LI
 |[]=>[z]
 |y::a=>if z<y then z::y::a else if z=y then y::a else y::tD z a
def vY(ns:LI):LI:=ns.foldr tD []
noncomputable def gq(ns:LI):Option LI:=if ns.length<64 then some (vY ns) else none
theorem pO:∀{ys:LI},x∈tD z ys↔x=z\/x∈ys
 |[]=>by simp[tD]
 |y::ys=>by
  unfold tD
  split
  ·simp
  ·split
   ·grind
   ·rw[mem_cons,pO]
    grind
theorem zTu:∀{ys:LI},ys.Pairwise (· < ·)->(tD z ys).Pairwise (· < ·)
 |[],_=>by simp[tD]
 |y::ys,h=>by
  have h1:=pairwise_cons.mp h
  unfold tD
  split
  ·rename_i hz
   refine pairwise_cons.mpr ⟨λx hx=>?_,h⟩
   rcases mem_cons.mp hx with e|e
   ·rw[e];exact hz
   ·exact Int.lt_trans hz (h1.1 x e)
  ·split
   ·exact h
   ·refine pairwise_cons.mpr ⟨λx hx=>?_,zTu h1.2⟩
    rcases pO.mp hx with e|e
    ·rw[e];omega
    ·exact h1.1 x e
theorem bG:∀{ns:LI},x∈vY ns↔x∈ns
 |[]=>by simp[vY]
 |n::ns=>by
  show x∈tD n (vY ns)↔_
  rw[pO,bG,mem_cons]
theorem Ir:∀ns:LI,(vY ns).Pairwise (· < ·)
 |[]=>.nil
 |n::ns=>zTu (Ir ns)
theorem Iu:∀{xs ys:LI},xs.Pairwise (· < ·)->ys.Pairwise (· < ·)->(∀s,s∈xs↔s∈ys)->xs=ys
 |[],[],_,_,_=>rfl
 |[],y::ys,_,_,h=>absurd ((h y).mpr mem_cons_self) (by simp)
 |x::xs,[],_,_,h=>absurd ((h x).mp mem_cons_self) (by simp)
 |x::xs,y::ys,b,c,h=>by
  have a:=pairwise_cons.mp b
  have d:=pairwise_cons.mp c
  have e:x=y:=by
   rcases mem_cons.mp ((h x).mp mem_cons_self) with e|e
   ·exact e
   ·rcases mem_cons.mp ((h y).mpr mem_cons_self) with f|f
    ·grind
    grind
  subst e
  rw[Iu a.2 d.2 λs=>?_]
  grind
theorem Gy:∀{ks ns:LI},ks.Nodup->(∀z∈ks,z∈ns)->ks.length<=ns.length
 |[],_,_,_=>abl _
 |k::ks,ns,d,h=>by
  obtain⟨a,b,e⟩:=List.append_of_mem (h k mem_cons_self)
  have c:=nodup_cons.mp d
  have q:=Gy (ns:=a++b) c.2 λz hz=>by
   grind
  grind
theorem Tw:∀{a:LI},a.Pairwise (· <= ·)->a.Nodup->a.Pairwise (· < ·)
 |[],_,_=>.nil
 |m::a,h,c=>by
  have d:=pairwise_cons.mp h
  have b:=nodup_cons.mp c
  refine pairwise_cons.mpr ⟨λx hx=>?_,Tw d.2 b.2⟩
  grind
section
variable{K:Frag}{B:Bs}{sl:SL K}{md:Md}{t:TE}
theorem zIq(h:Ex B sl .hp t m):Eo B sl md (V0 (Ld K t)) (m.bind gq):=λc a F O H σ Q s k=>by
 cases m with
 |none=>cases a
 |some b =>
  have a:gq b=some c:=a
  unfold gq at a
  split at a
  case isFalse=>cases a
  rename_i x
  cases a
  refine h b rfl F O H σ _ s λv w A g r=>?_
  obtain⟨p,vs,rfl,o,j⟩:=r
  have y:=j.vals
  subst y
  refine⟨p,b,rfl,bN.of o,by lia,λks i d=>⟨aa1 (Gy i λz n=>(d z).mp n) x,λl ms q f u=>?_⟩⟩
  have e:=Iu (Tw u (f.nodup_iff.mpr i)) (Ir b) λz=>by rw[f.mem_iff,d,bG]
  subst e
  exact k l _ w A g q (Gu _)
end
end Ts
namespace wk
open PySem PySem.Spec PyProof.Rows
theorem zI6:entryFor table "set.__and__" = some Builtin.«frozenset.__and__»:=ad4 (id':="frozenset.__and__") (by kernel_rfl) rfl (by decide +kernel) (by kernel_rfl)
section
variable{prog:Program}{w:World}{κ:Type}[DecidableEq κ]{knd:KeyKind prog w κ}{dec:Value->κ}{led:Bool}{A:Around}{E:Value->Shared->Prop}{s:Shared}
theorem Good.setOf(hdec:∀k v,knd.is k v=true->dec v=k)(g:Good knd dec led h a ks):h.SetOf knd a (λk=>decide (k∈ks)) ks.length:=by
 obtain⟨o,n,d,t,m,l,f,b,c,nd,p,j,tb⟩:=g
 refine⟨o,n,d,t,m,l,f,b,λk=>?_,p,j,by rw[<-c.length_eq,length_map,length_toList]⟩
 rw[decide_eq_true_iff,<-c.mem_iff,mem_map]
 constructor
 ·rintro⟨e,i,rfl⟩
  obtain⟨⟨k',hk,_⟩,_⟩:=b e i
  grind
 grind
theorem Good.size(g:Good knd dec led h a ks):∃o es ep t,h.get? a=some o/\o.ExactSet/\o.data=.set es ep t/\t.fits es.size=true/\es.size=ks.length/\Tb led t/\ElemsOf knd es.toList/\(es.toList.map λe=>dec e.2).Perm ks:=by
 obtain⟨o,es,ep,t,k,j,f,b,c,nd,hb,i,d⟩:=g
 exact⟨o,es,ep,t,k,j,f,i,by rw[<-c.length_eq,length_map,length_toList],d,b,c⟩
theorem Good.type{s:Shared}(g:Good knd dec led s.heap a ks):s.TypeIs (.ref a) "set":=by
 obtain⟨o,_,_,_,b,c,_⟩:=g
 exact⟨o,b,c.1⟩
theorem Gz{Q:Bool->Shared->Prop}(b:s.TypeIs (.ref a) "set")(h:Q true s):wpAny (model prog w) A (Builtin.Frozenset.isAnySet (.ref a)) Q E s:=by
 refine aav (acs b aeu ?_)
 exact aaw h
theorem Tz{Q:Nat->Shared->Prop}(g:Good knd dec led s.heap a ks)(h:Q ks.length s):wpAny (model prog w) A (Builtin.Frozenset.sizeOf a) Q E s:=by
 obtain⟨o,es,ep,t,c,h2,d,b,hl,_⟩:=g.size
 refine aav (YJ c d b (aaw ?_))
 grind
theorem zN7(sets:List Addr)(hs:∀a∈sets,∃ks:List κ,Good knd dec led s.heap a ks)(hn:∀k v,knd.is k v=true->∀b,v≠.ref b){Q:Bool->Shared->Prop}(h:Q true s):wpAny (model prog w) A (setsQuiet sets) Q E s:=by
 unfold setsQuiet
 refine aav (ab1 (acr (β:=Option Bool×Unit) _ (λl b s'=>s'=s/\b=(none,())/\∀a∈l,∃ks:List κ,Good knd dec led s.heap a ks) (λb s'=>s'=s/\b=(none,())) ?turn (λb s' hI=>⟨hI.1,hI.2.1⟩) sets _ ⟨rfl,rfl,hs⟩) ?post (λ_ _ h=>h))
 case post =>
  rintro b s' ⟨rfl,rfl⟩
  exact aaw h
 case turn =>
  rintro a rest b s' ⟨rfl,rfl,hg⟩
  obtain⟨ks,g⟩:=hg a mem_cons_self
  obtain⟨o,es,ep,t,h1,h2,h3,hf,hl,tb,hel,hp⟩:=g.size
  refine aav (YJ h1 h3 hf ?_)
  rw[<-forIn_toList]
  refine aav (ab1 (acr (β:=Option Bool×Unit) _ (λl b s''=>s''=s'/\b=(none,())/\∀e∈l,∀c,e.2≠.ref c) (λb s''=>s''=s'/\b=(none,())) ?t2 (λb s' hI=>⟨hI.1,hI.2.1⟩) es.toList _ ⟨rfl,rfl,?p0⟩) ?p2 (λ_ _ h=>h))
  case p0 =>
   intro e he c z
   obtain⟨⟨k,hk,_⟩,_⟩:=hel e he
   exact hn k _ hk c z
  case p2 =>
   rintro b s'' ⟨rfl,rfl⟩
   exact aaw ⟨rfl,rfl,λa ha=>hg a (mem_cons_of_mem _ ha)⟩
  case t2 =>
   rintro⟨hh,x⟩ l b s'' ⟨rfl,rfl,hl⟩
   have hx:=hl _ mem_cons_self
   dsimp only at hx ⊢
   split
   ·exact absurd rfl (hx _)
   ·exact aaw ⟨rfl,rfl,λe he=>hl e (mem_cons_of_mem _ he)⟩
theorem zQ5(g:Good knd dec (yB w) s.heap a ks)(i:w.params.followText "set-order" = false->∀o es ep t,s.heap.get? a=some o->o.data=.set es ep t->(!t.plain&&decide (es.size > 1))=false){Q:Array (Int×Value)->Shared->Prop}(h:∀es:Array (Int×Value),ElemsOf knd es.toList->(es.toList.map λe=>dec e.2).Perm ks->Q es s):wpAny (model prog w) A (setWalk a) Q E s:=by
 obtain⟨o,es,ep,t,c,h2,f,l,hl,j,b,d⟩:=g.size
 unfold setWalk
 refine aav (abe c f l ?_)
 dsimp only
 refine aav (Px ?_)
 cases k:w.params.followText "set-order" with
 |true =>
  simp only[↓reduceIte]
  refine aav (adn (aaw ?_))
  exact h _ (b.perm (Tt _ es)) (((Tt _ es).map _).trans d)
 |false =>
  have q:=i k o es ep t c f
  have aas:t.led=true:=by rw[j.led];unfold yB;grind
  simp only[abg,↓reduceIte]
  show wpAny _ _ (if(!t.plain&&decide (es.size > 1))=true then _ else _) _ _ _
  rw[if_neg (by grind)]
  refine aav ?_
  show wpAny _ _ (if(!t.led&&decide (es.size > 1))=true then _ else pure ()) _ _ _
  rw[if_neg (by grind)]
  exact aaw (aaw (h es b d))
theorem zF7(g:Good knd dec (yB w) s.heap a ks)(l:Good knd dec (yB w) s.heap f H)(M:∀b∈d,∃ks:List κ,Good knd dec (yB w) s.heap b ks)(S:∀k v,knd.is k v=true->∀b,v≠.ref b){Q:Array (Int×Value)->Shared->Prop}(h:∀(es:Array (Int×Value)) (h':Heap),ElemsOf knd es.toList->(es.toList.map λe=>dec e.2).Perm ks->SameBut f s.heap h'->Good knd dec (yB w) h' f H->Q es { s with heap:=h' }):wpAny (model prog w) A (setWalkUnseen a d (some f)) Q E s:=by
 obtain⟨o,es,ep,t,J,h2,O,R,hl,G,m,F⟩:=g.size
 unfold setWalkUnseen
 refine aav (abe J O R ?_)
 dsimp only
 refine aav (Px ?_)
 split
 ·rename_i c
  refine zQ5 g (λx o' p ep' t' h1' h3'=>?_) λp n r=>h p s.heap n r (SameBut.refl f s.heap) l
  grind
 ·refine aav (zN7 (knd:=knd) (dec:=dec) (led:=yB w) (a::d) (λb x=>(mem_cons.mp x).elim (λe=>e▸⟨ks,g⟩) (M b)) S ?_)
  simp only[ac3,abg,↓reduceIte]
  refine aav (ac4 ?_)
  obtain⟨of,C,epf,P,u,N,q,y,B,i,j,L⟩:=l.size
  refine aav (abe u q y ?_)
  dsimp only
  split
  ·have D:=l.len
   refine aav (aci u q ?_ (ach (by rw[B];exact D)))
   obtain⟨_,_,_,_,e1,_,_,_,_,I,x,_,_⟩:=l
   refine aaw (h es _ m F (SameBut.update _ f _) ⟨_,C,_,_,Lb (es':=C) (t':=_) u q,N,rfl,j,L,I,?_,?_,?_⟩)
   ·rw[B];exact D
   ·exact y
   ·refine⟨?_,λz=>?_⟩
    ·show(P.led&&t.led)=_
     rw[i.led,G.led,ae2]
    ·exact i.rz (Bool.and_eq_true_iff.mp z).1
  ·exact aaw (h es s.heap m F (SameBut.refl f s.heap) l)
theorem zIk(p:∀k v,knd.is k v=true->dec v=k)(id:String)(hn:∀k v,knd.is k v=true->∀b,v≠.ref b)(V:x≠r)(R:y≠r)(gx:Good knd dec (yB w) s.heap x i)(U:Good knd dec (yB w) s.heap y u)(gr:Good knd dec (yB w) s.heap r []){Q:Unit->Shared->Prop}(h:∀(h':Heap) (a:List κ),SameBut r s.heap h'->Good knd dec (yB w) h' r a->(∀k,k∈a↔k∈i/\k∈u)->Q () { s with heap:=h' }) :
  wpAny (model prog w) A (do
   let T <-setEpoch y
   for (h,W) in <-setWalkUnseen y [x,r] (some r) do
    holding [W] do
     if(<-setFind x W h).isSome then
      let _ <-setAddHashed r W h
    abn id y T) Q E s:=by
 obtain⟨o,es,ep,t,h1,d,h3,hf,hl,tb,hel,hp⟩:=U.size
 refine aav (aby h1 h3 hf ?_)
 refine aav (zF7 U gr (λb hb=>(mem_cons.mp hb).elim (λe=>e▸⟨i,gx⟩) λe=>(mem_singleton.mp e)▸⟨[],gr⟩) hn λM h' L N sb X=>?_)
 rw[<-forIn_toList]
 have ln:M.toList.length=u.length:=by rw[<-N.length_eq,length_map]
 refine aav (ab1 (acr (β:=Unit) _ (λl _ I=>∃d a,I={ s with heap:=d }/\SameBut r s.heap d/\Good knd dec (yB w) d r a/\ElemsOf knd l/\a.length+l.length<=u.length/\∀k,(k∈a\/(k∈i/\k∈l.map λe=>dec e.2))↔(k∈i/\k∈u)) (λ_ I=>∃d a,I={ s with heap:=d }/\SameBut r s.heap d/\Good knd dec (yB w) d r a/\∀k,k∈a↔k∈i/\k∈u) ?turn ?fin M.toList () ⟨h',[],rfl,sb,X,L,by rw[ln,length_nil];lia,λk=>?_⟩) ?post (λ_ _ h=>h))
 case turn =>
  rintro⟨hs,v⟩ l b I ⟨d,a,rfl,g,H,O,P,J⟩
  obtain⟨⟨k,S,hh⟩,G⟩:=O _ mem_cons_self
  dsimp only at S hh G ⊢
  subst hh
  have kx:∀o,s.heap.get? x=some o->d.get? x=some o:=λo e=>by rw[g.2 x V];exact e
  have ky':∀o,s.heap.get? y=some o->d.get? y=some o:=λo e=>by rw[g.2 y R];exact e
  have Y:=gx.keep kx
  have dv:dec v=k:=p k v S
  rw[length_cons] at P
  have F:∀(f:Heap)(n:List κ),SameBut r s.heap f->Good knd dec (yB w) f r n->n.length+l.length<=u.length->(∀c,(c∈n\/(c∈i/\c∈l.map λe=>dec e.2))↔(c∈i/\c∈u)) ->
    wpAny (model prog w) A (abn id y ep) (λ_ C=>wpAny (model prog w) A (pure (acn ())) (λq C=>match q with|.yield _=>∃d a,C={ s with heap:=d }/\SameBut r s.heap d/\Good knd dec (yB w) d r a/\ElemsOf knd l/\a.length+l.length<=u.length/\∀k,(k∈a\/(k∈i/\k∈l.map λe=>dec e.2))↔(k∈i/\k∈u)|.done _=>∃d a,C={ s with heap:=d }/\SameBut r s.heap d/\Good knd dec (yB w) d r a/\∀k,k∈a↔k∈i/\k∈u) E C) E { s with heap:=f }:=λf n B Z l3 m3=>by
   unfold abn
   refine aav (aby (s:={ s with heap:=f }) (by show f.get? y=_;rw[B.2 y R];exact h1) h3 hf ?_)
   simp only[bne_self_eq_false,abg,↓reduceIte]
   exact aaw (aaw ⟨f,n,rfl,B,Z,λe he=>O e (mem_cons_of_mem _ he),l3,m3⟩)
  refine aav (abo (aav (wpAny_setFind_of (s:={ s with heap:=d }) S G (Y.setOf p) λq hq=>?_)))
  cases q with
  |none =>
   have nk:k∉i:=by simpa using hq.symm
   simp only[Option.isSome_none,abg,↓reduceIte]
   refine aaw (aav (F d a g H (by lia) λc=>?_))
   rw[<-J c,map_cons,mem_cons]
   show _↔(c∈a\/c∈i/\(c=dec v\/_))
   rw[dv]
   constructor
   ·rintro(z|⟨D,m⟩)
    ·exact .inl z
    ·exact .inr ⟨D,.inr m⟩
   ·rintro(z|⟨D,m|m⟩)
    ·exact .inl z
    ·exact absurd (m▸D) nk
    ·exact .inr ⟨D,m⟩
  |some j =>
   have mk:k∈i:=by simpa using hq.symm
   simp only[aeh,↓reduceIte]
   refine aav (YG (led:=yB w) (s:={ s with heap:=d }) p S G H (by have:=U.len;lia) λf b' B Z=>?_)
   refine aaw (aav (F f _ (g.trans B) Z ?_ λc=>?_))
   ·split
    ·lia
    ·rw[length_cons];lia
   ·rw[<-J c,map_cons,mem_cons]
    show _↔(c∈a\/c∈i/\(c=dec v\/_))
    rw[dv]
    have e:c∈(if k∈a then a else k::a)↔c=k\/c∈a:=by
     split
     ·rename_i z
      exact⟨.inr,λq=>q.elim (λq=>q▸z) λq=>q⟩
     ·exact mem_cons
    rw[e]
    constructor
    ·rintro((z|z)|⟨D,m⟩)
     ·exact .inr ⟨z▸mk,.inl z⟩
     ·exact .inl z
     ·exact .inr ⟨D,.inr m⟩
    ·rintro(z|⟨D,m|m⟩)
     ·exact .inl (.inr z)
     ·exact .inl (.inl m)
     ·exact .inr ⟨D,m⟩
 case fin =>
  rintro b I ⟨d,a,rfl,g,H,_,_,J⟩
  refine⟨d,a,rfl,g,H,λk=>?_⟩
  rw[<-J k]
  simp
 case post =>
  rintro b I ⟨d,a,rfl,g,H,J⟩
  exact aaw (h d a g H J)
 ·rw[N.mem_iff]
  simp
theorem zNi(b:s.TypeIs (.ref a) "set"){Q:Value->Shared->Prop}(h:Q (.type "set") s):wpAny (model prog w) A (Builtin.Frozenset.baseOf a) Q E s:=by
 refine aav (acs b aeu ?_)
 exact aaw h
theorem zGw{Q:Value->Shared->Prop}(h:Q (.ref s.heap.objs.size) { s with heap:=s.heap.push { cls:=.type "set",dict:=none,data:=.set #[] 0 (.fresh 0 0 (yB w)) } }):wpAny (model prog w) A (newSet (.type "set")) Q E s:=by
 refine aav (aav (adn (aaw ?_)))
 exact aav (wpAny_alloc (aaw h))
theorem zXg(j:∀k v,knd.is k v=true->dec v=k)(id:String)(F:∀k v,knd.is k v=true->∀b,v≠.ref b)(t:b≠a)(u:Good knd dec (yB w) s.heap a B)(y:Good knd dec (yB w) s.heap b C){Q:Value->Shared->Prop}(h:∀(h':Heap) (d:List κ),Good knd dec (yB w) h' s.heap.objs.size d->(∀k,k∈d↔k∈B/\k∈C)->(∀c o,c<s.heap.objs.size->s.heap.get? c=some o->h'.get? c=some o)->Q (.ref s.heap.objs.size) { s with heap:=h' }) :
  wpAny (model prog w) A (Builtin.Frozenset.intersection id a (.ref b)) Q E s:=by
 have z:a<s.heap.objs.size:=by obtain⟨o,_,_,_,x,_⟩:=u;exact lt_size x
 have D:b<s.heap.objs.size:=by obtain⟨o,_,_,_,x,_⟩:=y;exact lt_size x
 unfold Builtin.Frozenset.intersection
 rw[if_neg (λe=>t (ae5 (aeg e)))]
 refine aav (zNi u.type (aav (zGw ?_)))
 refine aav (aaw ?_)
 have r:∀c o,s.heap.get? c=some o->(s.heap.push { cls:=.type "set",dict:=none,data:=.set #[] 0 (.fresh 0 0 (yB w)) }).get? c=some o:=λc o e=>get?_push_of_some _ e
 have i:=u.keep (r a)
 have f:=y.keep (r b)
 have n:Good knd dec (yB w) (s.heap.push { cls:=.type "set",dict:=none,data:=.set #[] 0 (.fresh 0 0 (yB w)) }) s.heap.objs.size []:=VP (get?_push_size _ rfl)
 generalize hp:s.heap.push { cls:=.type "set",dict:=none,data:=.set #[] 0 (.fresh 0 0 (yB w)) }=l at r i f n ⊢
 have p:∀(h':Heap)(d:List κ),SameBut s.heap.objs.size l h'->Good knd dec (yB w) h' s.heap.objs.size d->(∀k,k∈d↔k∈B/\k∈C)->Q (.ref s.heap.objs.size) { s with heap:=h' }:=λh' d q g m =>
  h h' d g m λc o G e=>by rw[q.2 c (aa8 G)];exact r c o e
 refine aav (abo (aav (Gz (s:={ s with heap:=l }) (Good.type (s:={ s with heap:=l }) f) ?_)))
 simp only[↓reduceIte]
 refine aav (aaw ?_)
 refine aav (Tz (s:={ s with heap:=l }) f (aav (Tz (s:={ s with heap:=l }) i ?_)))
 split
 ·exact zIk (s:={ s with heap:=l }) j id F (aa8 D) (aa8 z) f i n λh' d q g m=>aaw (p h' d q g λk=>by rw[m k,and_comm])
 ·exact zIk (s:={ s with heap:=l }) j id F (aa8 z) (aa8 D) i f n λh' d q g m=>aaw (p h' d q g m)
theorem Pz(d:∀k v,knd.is k v=true->dec v=k)(n:∀k v,knd.is k v=true->∀b,v≠.ref b)(j:b≠a)(f:Good knd dec (yB w) s.heap a l)(i:Good knd dec (yB w) s.heap b p){Q:Value->Shared->Prop}(h:∀(h':Heap) (e:List κ),Good knd dec (yB w) h' s.heap.objs.size e->(∀k,k∈e↔k∈l/\k∈p)->(∀c o,c<s.heap.objs.size->s.heap.get? c=some o->h'.get? c=some o)->Q (.ref s.heap.objs.size) { s with heap:=h' }) :
  wpAny (model prog w) A (binaryOp .BitAnd (.ref a) (.ref b)) Q E s:=by
 refine aee (T:="set") f.type i.type F.fills_set_and F.slot_set_and (ab8 F.slot_set_and f.type zI6 ?_ (F.args_set_and_2 _ _))
 refine aav ?_
 refine aaw ?_
 dsimp only
 refine aav (aav (Gz f.type ?_))
 refine Gz i.type ?_
 refine aav (aaw (aav (zXg d _ n j f i λh' e g m k=>aaw ⟨.ref s.heap.objs.size,rfl,?_,h h' e g m k⟩)))
 grind
end
end wk
namespace L2
open PySem PySem.Spec PyProof.Rows wk
section
variable{X:Cx}
def Lg(c d:Ip):Ip:=λσ H Q=>c σ H λg f=>d σ f λb e=>∀a:LI,a.Nodup->(∀z,z∈a↔z∈g/\z∈b)->Q a e
theorem Iv(F:Es X a D)(l:Es X b C):Es X (.BinOp a .BitAnd b pos) (Lg D C):=by
 intro c s σ H Q I h
 refine ae0 (aV (F c s σ H _ I h) ?_)
 rintro u w ⟨p,ks,B,e,J,g,fo,N⟩
 subst e
 obtain⟨o,es,ep,t,x,gx,gd,_⟩:=id g
 have f:=J.pinned (fp:=[p]) (λb l=>by grind) (λb l=>by
  grind)
 refine aV (l _ w σ B _ f N) ?_
 rintro u2 d ⟨P,js,U,Y,q,L,j,R⟩
 subst Y
 have n:(p,o)∈X.pn++(c++Ks [p] w.heap):=mem_append_right _ (mem_append_right _ (Nk (mem_singleton.mpr rfl) x))
 have S:d.heap.get? p=some o:=(q.pin (p,o) n).1
 have W:=g.keep (h':=d.heap) λo' A=>by rw[x] at A;cases A;exact S
 have T:P≠p:=ac0 (j.2.2.2.2.2 (p,o) n)
 have i:=q.gP
 refine Pz YM (λk v O b z=>?_) T W L λM y r m k=>?_
 ·obtain⟨t,rfl⟩:=ac1 O
  cases z
 ·have E:=i.kept (h':=M) (t':=d.toks) λb o e=>k b o (lt_size e) e
  obtain⟨_,_,_,_,_,_,_,_,_,G,_⟩:=id r
  exact⟨_,y,U,rfl,E,r,i.pF (aaz _) (i.hok.fresh (aaz _)),R y G m⟩
end
end L2
namespace Ts
open PySem L2
noncomputable def Bw(ns a:LI):Option LI:=if(ns.length<64\/a.length<64)/\ns.length<4000/\a.length<4000 then some (vY (ns.filter λz=>decide (z∈a))) else none
section
variable{K:Frag}{B:Bs}{sl:SL K}{md:Md}{t1 t2:TE}
theorem zQs(J:Ex B sl .hp t1 N)(h2:Ex B sl .hp t2 M):Eo B sl md (V0 (Lg (Ld K t1) (Ld K t2))) (N.bind λa=>M.bind λb=>Bw a b):=λc A F O H σ Q s k=>by
 obtain⟨n,i,P,S,d⟩:=sZ A
 unfold Bw at d
 split at d
 case isFalse=>cases d
 rename_i f
 cases d
 refine J n P F O H σ _ s λv L R g E=>?_
 obtain⟨p,vs,rfl,C,z2⟩:=E
 have U:=z2.vals
 subst U
 refine⟨p,n,rfl,bN.of C,f.2.1,λks nd r=>?_⟩
 refine h2 i S L O R σ _ (s.grow g) λw t Z I x=>?_
 obtain⟨T,vs',rfl,X,Y⟩:=x
 have G:=Y.vals
 subst G
 refine⟨T,i,rfl,bN.of X,f.2.2,λjs jd q rs h m=>⟨f.1.elim (aa1 (Gy h λz j=>(r z).mp ((m z).mp j).1)) (aa1 (Gy h λz j=>(q z).mp ((m z).mp j).2)),λl y D o u=>?_⟩⟩
 have e:y=vY (n.filter λz=>decide (z∈i)):=Iu (Tw u (o.nodup_iff.mpr h)) (Ir _) λz=>by rw[o.mem_iff,m,r,q,bG,mem_filter,decide_eq_true_iff]
 subst e
 exact k l _ t Z (g.trans I) D (Gu _)
end
end Ts
namespace L2
open PySem PySem.Spec PyProof.Rows
section
variable{X:Cx}
theorem Lh:XH X .BitOr (XQ λi j=>ada i j):=by
 intro pins s σ H x y v u Q I d b h
 obtain⟨i,j,c,a,q⟩:=h
 subst c;subst a
 obtain⟨t,rfl⟩:=d
 obtain⟨t',rfl⟩:=b
 exact ior_int ⟨.int _,H,I.tok _,⟨_,rfl⟩,q⟩
def Li(K:Frag):V->V->Hp->VK->Prop:=λx y H Q=>∃p b i v,x=.ref p/\y=.int i/\0<=i/\bN K H p b/\aU b i=some v/\Q v H
theorem zT0(K:Frag)(h:X.K=K:=by rfl):Uw X (Li K):=by
 subst h
 intro pins s σ H o i ov iv Q I rx ry h
 obtain⟨p,xs,i,z,rfl,rfl,h0,hq,he,q⟩:=h
 cases rx
 obtain⟨t,rfl⟩:=ry
 obtain⟨its,r,pl,hz⟩:=I.list hq
 obtain⟨j,h1,h2,h3,h4,h5⟩:=Z9 he
 obtain⟨w,ew,Z_⟩:=r.get h2
 have hl:=r.length
 have hn:=Nt
 have hj:i.toNat=j:=by
  rw[aez h0 h5] at h1
  exact abf h1
 exact wpAny_getItem_list pl.isList h0 (by omega) (by rw[hj];simpa using ew) ⟨z,H,I,Z_,q⟩
theorem zGk(K:Frag)(f:PE X a e)(c:X.K=K:=by rfl)(d:∀b,isTrue a X.env b=(do let v <-b;standAt a.pos;holding [v] (truthy v)):=by intro _;rfl) :
  PT X a (λσ H Q=>e σ H λx H'=>∃k,Hi K x H' k/\Q k H'):=by
 subst c
 exact zWi f d
def tLR(c:TA):TE:=λσ H Q=>c σ H λb a=>∃j:Int,b=[.int j] /\ -(2^62)<=j/\j<1000000/\∀l,a l=none->Q (.ref l) (upd a l (.lst (((abb j.toNat).map adb).map V.int)))
theorem Iw{acc:List Value}:∀{ns:LI},acc.length=ns.length->(∀(i:Nat)(v:Value),acc[i]?=some v->∃t:Tok,v=acd (ns.getD i 0) t)->IntsAre acc ns:=by
 induction acc with
 |nil =>
  intro ns h _
  cases ns with
  |nil=>exact .nil
  |cons n ns=>simp at h
 |cons v acc ih =>
  intro ns h g
  cases ns with
  |nil=>simp at h
  |cons n ns =>
   obtain⟨t,e⟩:=g 0 v rfl
   subst e
   exact .cons n t (ih (by simpa using h) λi v hv=>g (i+1) v hv)
theorem zWn(hc:X.calm=true)(hg:Gl X "list")(hm:X.mg "list" = none)(y:Gl X "range")(A:X.mg "range" = none)(ha:PA X [a] ta)(hs:starEach [a] X.env=[(false,eval a X.env)]:=by rfl)(m:starEach [Expr.Call (.Name "range" p2) [a] [] c] X.env=[(false,eval (Expr.Call (.Name "range" p2) [a] [] c) X.env)]:=by rfl):PE X (.Call (.Name "list" p) [.Call (.Name "range" p2) [a] [] c] [] pos) (tLR ta):=by
 intro k s σ H Q I h
 refine ab0 (GZ I hg hm (by decide +kernel:bootBuiltins "list" = some (.type "list")) ?_)
 refine abx ?_ m rfl
 rw[m]
 show wpAny _ _ (spliced ((false,eval (Expr.Call (.Name "range" p2) [a] [] c) X.env)::backTo pos [])) _ _ s
 refine ac6 (ab0 (GZ I y A boot_range (abx (aV (ha c k s σ H _ I h) ?_) hs rfl)))
 rintro us u ⟨vs,H1,I1,r1,z⟩
 obtain⟨j,e,z,q2,q⟩:=z
 subst e
 cases r1 with
 |cons r rr =>
  cases rr
  obtain⟨t,rfl⟩:=r
  refine call_range_1 (ad1 ?_)
  have x:Inv X k σ H1 { u with heap:=u.heap.push { cls:=.type "range",data:=.fields #[.int 0 u.toks,.int j t,.int 1 (u.toks+1)] },toks:=u.toks+1+1 }:=I1.kept λb o e=>get?_push_of_some _ e
  refine call_list_range (n:=j.toNat) (x.ok.hd hc) (IsRange.new ..) (small_one (by lia) (by lia) z (by lia)) (by rw[rangeSize_one];split<;>lia) (by lia) λh' tk g c' hk hS f=>?_
  have hI:IntsAre g.toList ((abb j.toNat).map adb):=Iw (by rw[length_toList,f.1,length_map,length_range]) λi v B=>by
   rw[getElem?_toList] at B
   obtain⟨C,rfl⟩:=f.2 i v B
   have hi:i<j.toNat:=by
    have:=(Array.getElem?_eq_some_iff.mp B).1
    rw[f.1] at this
    exact this
   refine⟨C,?_⟩
   have e:((abb j.toNat).map adb).getD i 0=(i:Int):=by
    rw[getD_eq_getElem?_getD,getElem?_map,getElem?_range hi]
    rfl
   rw[e]
   simp
  refine⟨.ref _,_,x.laid (h':=h') (t':=tk) (o:=.lst (((abb j.toNat).map adb).map V.int)) (λb ob w=>hk b ob w) (aaz _) ?_,rfl,q _ (x.hok.fresh (aaz _))⟩
  refine⟨?_,g.toList,c',Yx hI,?_⟩
  ·rw[length_map,length_map,length_range]
   exact aa4 (show j.toNat<=1000000 by lia) (by decide)
  ·rw[Array.toArray_toList];exact hS
end
end L2
namespace Ts
open PySem L2
noncomputable def Eu(a b:Int):Option Int:=if 0<=b/\b<=1000000/\a.natAbs<2^64 then some (a*2^b.toNat) else none
noncomputable def mD(a b:Int):Option Int:=if 0<=b then some (a/2^b.toNat) else none
section
variable{K:Frag}{B:Bs}{sl:SL K}{md:Md}{t t1 t2 te:TE}{m1 m2:Option Int}
theorem V2(c:Ex B sl .hp t1 m1)(h2:Ex B sl .hp t2 m2):Ex B sl md (jf (sI λi j=>.int (abj i j)) t1 t2) (m1.bind λa=>m2.bind λb=>some (abj a b)):=Oq (λ_ _=>rfl) c h2
theorem PB(h:Ex B sl .hp t1 m1)(h2:Ex B sl .hp t2 m2):Ex B sl md (jf (rI Hg λi j=>.int (i*2^j.toNat)) t1 t2) (m1.bind λa=>m2.bind λb=>Eu a b) :=
 Ca (λa b c v w H Q e g f q=>by
  unfold Eu at e
  split at e
  case isFalse=>cases e
  rename_i d
  cases e;cases g;cases f
  exact⟨a,b,rfl,rfl,d,q⟩) h h2
theorem YQ(h:Ex B sl .hp t1 m1)(h2:Ex B sl .hp t2 m2):Ex B sl md (jf (rI (λ_ j=>0<=j) λi j=>.int (i/2^j.toNat)) t1 t2) (m1.bind λa=>m2.bind λb=>mD a b) :=
 Ca (λa b c v w H Q e g f q=>by
  unfold mD at e
  split at e
  case isFalse=>cases e
  rename_i d
  cases e;cases g;cases f
  exact⟨a,b,rfl,rfl,d,q⟩) h h2
theorem zUe{m:Option Int}(h:Ex B sl .hp t m):Et B sl (λσ H Q=>t σ H λx H'=>∃k,Hi K x H' k/\Q k H') (m.bind λi=>some (i != 0)):=λc b F O H σ Q s k=>by
 cases m with
 |none=>cases b
 |some i =>
  cases(b)
  refine h i rfl F O H σ _ s λv d H' g r=>?_
  cases r
  exact⟨_,rfl,k d H' g⟩
noncomputable def TF(n:Int):Option LI:=if -(2^62)<=n/\n<1000000 then some ((abb n.toNat).map adb) else none
theorem zXr(h:Ex B sl .hp t m):Eo B sl md (tLR (wI t bT)) (m.bind TF):=λc a F O H σ Q s k=>by
 cases m with
 |none=>cases a
 |some n =>
  have a:TF n=some c:=a
  unfold TF at a
  split at a
  case isFalse=>cases a
  rename_i b
  cases a
  refine h n rfl F O H σ _ s λv e d g i=>?_
  cases i
  exact⟨n,rfl,b.1,b.2,λl f=>k l _ e d g f (Gu _)⟩
noncomputable def Ew(xs ys:LI):Option LI:=if xs.length+ys.length<cap then some (xs++ys) else none
theorem zRu(i:Nat)(w:sl[i]?=some (.ow n xs))(u:sl.all (λs=>!pJ s)=true)(h:Ex B sl .hp te m) :
  Sn B sl (Kq (N6 K "list" zMm (eU i) (wI te bT))) (λys=>sl.set i (.ow n ys)) (m.bind λa=>Ew xs a):=λys o G D σ H s k=>by
 cases m with
 |none=>cases o
 |some a =>
  have b:Ew xs a=some ys:=o
  unfold Ew at b
  split at b
  case isFalse=>cases b
  rename_i E
  cases b
  obtain⟨F,O,g,z⟩:=s
  obtain⟨p,vs,l,M,h3,_⟩:=z.chg w u
  refine⟨_,l,.inl ⟨rfl,_,bN.of M⟩,?_⟩
  refine h a rfl F O H σ _ z λv C H' x r=>?_
  obtain⟨p',vs',j,c,f,d⟩:=(z.grow x).chg w u
  have e:=l.symm.trans j
  cases e
  obtain⟨q,us,rfl,I,N⟩:=r
  have J:=N.vals
  subst J
  have A:=f.vals
  subst A
  obtain⟨y,L⟩:=d (xs.map V.int++a.map V.int) (xs++a) (by rw[<-map_append];exact Gu _)
  exact⟨p,q,_,_,rfl,rfl,c,I,by rw[length_map,length_map];exact acz (HF E),k _ _ ⟨C,y,g.trans x.ff,L⟩⟩
noncomputable def Iz(f:Int->Int->Int)(xs:LI)(ix:Int)(y:Int):Option LI:=if 0<=ix then(L2.aU xs ix).bind λx=>setAt xs ix (f x y) else none
theorem zV2(i:Nat)(I:sl[i]?=some (.ow n xs))(o:sl.all (λs=>!pJ s)=true)(Y:Ex B sl .hp ti mi)(N:Ex B sl .hp te m) :
  Sn B sl (Kr (eU i) ti te (Li K) (XQ f) DP) (λys=>sl.set i (.ow n ys)) (mi.bind λk=>m.bind λa=>Iz f xs k a):=λys X G D σ H s k=>by
 obtain⟨l,a,P,S,b⟩:=sZ X
 unfold Iz at b
 split at b
 case isFalse=>cases b
 rename_i h0
 obtain⟨x,Z,b⟩:=Option.bind_eq_some_iff.mp b
 obtain⟨F,O,g,z⟩:=s
 obtain⟨p,vs,A,h2,h3,_⟩:=z.chg I o
 refine⟨_,A,?_⟩
 refine Y l P F O H σ _ z λv U H' h r=>?_
 cases r
 obtain⟨p',u,E,J,C,h4'⟩:=(z.grow h).chg I o
 have e:=A.symm.trans E
 cases e
 obtain⟨Q,y,q⟩:=C.aU Z
 have q:Q=.int x:=Sc.is.mp q
 subst q
 refine⟨p,u,l,_,rfl,rfl,h0,bN.of J,y,?_⟩
 refine N a S U O H' σ _ (z.grow h) λw F2 H2 d T=>?_
 cases T
 obtain⟨p2,c,y1,y2,L,R⟩:=((z.grow h).grow d).chg I o
 have e:=A.symm.trans y1
 cases e
 refine⟨x,a,rfl,rfl,?_⟩
 unfold setAt at b
 cases M:vp xs.length l with
 |none=>simp_all
 |some j =>
  rw[M] at b
  cases b
  obtain⟨O',z'⟩:=R (c.set j (.int (f x a))) (xs.set j (f x a)) (L.set (Sc.is.mpr rfl) j)
  exact⟨p,c,l,j,rfl,rfl,y2,by rw[L.len,M],k _ _ ⟨F2,O',(g.trans h.ff).trans d.ff,z'⟩⟩
end
section
variable{K:Frag}{B:Bs}{sl sl2:SL K}{G F H:Hp}{O:Own}{σ:St}{te:TE}
theorem YS{α β:Type}[Rp K α][Rp K β]{m:Option (α×β)}{L:α×β->SL K}(h:Ex B sl (j9 n) te m)(f:Tg B sl n g L):Sn B sl (pD te g) L m:=λa i G D σ H s k=>by
 obtain⟨F,O,e,z⟩:=s
 exact h a i F O H σ _ z λv c d b r=>f v a c O d σ _ (z.grow b) r λσ' j=>k _ _ ⟨c,O,e.trans b.ff,j⟩
end
section
variable{K:Frag}{B:Bs}{sl:SL K}{md:Md}{t t2:TE}{α β:Type}[Rp K α][Rp K β]
theorem zJ2:bootBuiltins "tuple" = some (.type "tuple"):=by decide +kernel
end
noncomputable def IV{α:Type}(xs ys:List α):Option (List α):=if xs.length+ys.length<=cap then some (xs++ys) else none
section
variable{P:Program}{w:World}{K:Frag}{mg:Str->Option Value}{base:Heap}{B:Bs}{sl:SL K}{md:Md}{α β:Type}[Rp K α][Rp K β]{tA:Addr}{tO:HO}{te t1 t2:TE}
theorem PJ[Sc K α]{h j:Option (List α)}(z:Ex B sl .hp t1 h)(h2:Ex B sl .hp t2 j):Eo B sl md (jf Vb t1 t2) (h.bind λa=>j.bind λb=>IV a b):=λc d F O H σ Q s k=>by
 obtain⟨D,M,I,C,d⟩:=sZ d
 unfold IV at d
 split at d
 case isFalse=>cases d
 rename_i E
 cases d
 refine z D I F O H σ _ s λv A o g r=>?_
 refine h2 M C A O o σ _ (s.grow g) λu n L f y=>?_
 obtain⟨p,G,rfl,t,m⟩:=r
 obtain⟨q,x,rfl,J,i⟩:=y
 refine⟨p,q,G,x,rfl,rfl,f.hh _ _ t,J,?_,λl e=>k l _ n L (g.trans f) e (m.sc.app i.sc)⟩
 rw[m.len,i.len]
 exact zZ4 E
end
section
variable{X:Cx}{pos pos':Pos}{x:Str}{e:Expr}{te:TE}
theorem yQ(i:Nat)(a:X.N.Nodup)(d:PE X e te)(b:X.N[i]?=some x:=by rfl)(c:Loc X.env.scope x:=by first|exact .inl rfl|exact .inr rfl)(g:swapsWith e (some (.Name x pos')) pos.line X.env=pure false:=by rfl)(f:X.fn x=true\/X.env.scope.names.lookup x=some .local:=by first|exact .inl rfl|exact .inr rfl|assumption):PS X (.Assign [.Name x pos'] e pos) (pD te (vm i)):=XM a b c d g f
theorem bI(i:Nat)(a:X.N.Nodup)(d:X.N[i]?=some x:=by rfl)(b:Loc X.env.scope x:=by first|exact .inl rfl|exact .inr rfl)(c:X.fn x=true\/X.env.scope.names.lookup x=some .local:=by first|exact .inl rfl|exact .inr rfl|assumption):PG X (.Name x pos) (vm i):=yM a d b c
end
theorem esc{K:Frag}{B:Bs}{a:SL K}{md:Md}{α:Type}[Rp K α][Sc K α]{t:TE}{m:Option α}(h:Ex B a .hp t m):Ex B a md t m:=h.sc
theorem fsc{N P:List Str}{s:Scope}(g:s.kind=.function:=by rfl)(h2:s.isCoroutine=false:=by rfl)(d:s.isGenerator=false:=by rfl)(e:N.Nodup:=by decide +kernel)(b:N.take P.length=P:=by rfl)(c:∀x∈P,s.names.lookup x=some .local\/s.names.lookup x=some .cell:=by decide +kernel)(f:∀y∈s.names,y.2≠.free:=by decide +kernel):ak N P s:=⟨g,h2,d,e,b,c,f⟩
section
variable{K:Frag}{x y:Str}{st:Stmt}{f:Addr}{fd:FuncData}{p0 p1 p2 p3 p4:Str}
theorem qW(F:aY K x y st f fd)(h:∀kV p o n j l i,bindArgs (fnOf x y (Df st) (vX st) (zJ st) .none kV p o n j l) ⟨[i],[]⟩=pure [(p0,i)]:=by intros;rfl):Binds K fd [p0] []:=F.binds λa b c d e g m k=>by
 rcases m with _|⟨i,_|_⟩<;>cases k
 exact h a b c d e g i
theorem jm(F:aY K x y st f fd)(h:∀kV m p o k l i j,bindArgs (fnOf x y (Df st) (vX st) (zJ st) .none kV m p o k l) ⟨[i,j],[]⟩=pure [(p0,i),(p1,j)]:=by intros;rfl):Binds K fd [p0,p1] []:=F.binds λa b c d e g n q=>by
 rcases n with _|⟨i,_|⟨j,_|_⟩⟩<;>cases q
 exact h a b c d e g i j
theorem Ac(F:aY K x y st f fd)(h:∀kV n q p l r k i j,bindArgs (fnOf x y (Df st) (vX st) (zJ st) .none kV n q p l r) ⟨[k,i,j],[]⟩=pure [(p0,k),(p1,i),(p2,j)]:=by intros;rfl):Binds K fd [p0,p1,p2] []:=F.binds λa b c d e g o m=>by
 rcases o with _|⟨k,_|⟨i,_|⟨j,_|_⟩⟩⟩<;>cases m
 exact h a b c d e g k i j
theorem GC(F:aY K x y st f fd)(h:∀kV o r q m s l i j k,bindArgs (fnOf x y (Df st) (vX st) (zJ st) .none kV o r q m s) ⟨[l,i,j,k],[]⟩=pure [(p0,l),(p1,i),(p2,j),(p3,k)]:=by intros;rfl):Binds K fd [p0,p1,p2,p3] []:=F.binds λa b c d e g p n=>by
 rcases p with _|⟨l,_|⟨i,_|⟨j,_|⟨k,_|_⟩⟩⟩⟩<;>cases n
 exact h a b c d e g l i j k
end
theorem bw{K:Frag}{a b:SL K}(h:Le a b:=by repeat(first|exact Le.nil|refine Le.eq ?_|refine Le.un ?_|refine Le.fr ?_)):Le a b:=h
theorem eZ{K:Frag}{a b:SL K}(h:Aa a b:=by repeat(first|exact Aa.nil|refine Aa.eq ?_|refine Aa.un ?_)):Aa a b:=h
abbrev Slot.z{α:Type}[Rp K α](a:α):Slot K:=.fz false a
abbrev Slot.y{α:Type}[Rp K α](a:α):Slot K:=.fz true a
end Ts
namespace wk
open PySem PySem.SetTable
def YT(m:Nat):Nat->Nat->Nat
 |0,i=>i
 |t+1,i=>YT m t ((i*5+1)%m)
def seen(m:Nat):Nat->Nat->Nat->Nat
 |0,_,a=>a
 |t+1,i,a=>seen m t ((i*5+1)%m) (a|||1 <<< i)
theorem zNy(m j:Nat):∀(t i acc:Nat),(seen m t i acc).testBit j=true->acc.testBit j=true\/∃u,u<t/\YT m u i=j
 |0,i,acc,h=>.inl h
 |t+1,i,acc,h=>by
  rcases zNy m j t _ _ h with z|⟨u,b,e⟩
  ·rw[Nat.testBit_or,adv] at z
   rcases z with z|z
   ·exact .inl z
   ·rw[Nat.testBit_shiftLeft,aco,decide_eq_true_eq] at z
    obtain⟨z1,a⟩:=z
    have:j-i=0:=by
     cases q:j-i with
     |zero=>rfl
     |succ n =>
      rw[q] at a
      have:(1:Nat).testBit (n+1)=false:=Nat.testBit_lt_two_pow (aa9 (by decide) (Nat.pow_le_pow_right (by decide) (acq (abl n))))
      rw[this] at a
      cases a
    exact .inr ⟨0,aer _,by show i=j;omega⟩
  ·exact .inr ⟨u+1,Nat.succ_lt_succ b,e⟩
def Cg(m:Nat):Bool:=(abb m).all λi=>seen m m i 0==2^m-1
theorem IW(h:Cg m=true)(a:i<m)(hj:j<m):∃u,u<m/\YT m u i=j:=by
 have q:=all_eq_true.mp h i (mem_range.mpr a)
 have t:(seen m m i 0).testBit j=true:=by grind
 rcases zNy m j m i 0 t with z|z
 ·grind
 ·exact z
theorem V3:Cg 8=true:=by decide +kernel
theorem V4:Cg 16=true:=by decide +kernel
theorem V5:Cg 32=true:=by decide +kernel
theorem V6:Cg 64=true:=by decide +kernel
theorem PK:Cg 128=true:=by decide +kernel
theorem PL:Cg 256=true:=by decide +kernel
theorem V7{owner:Array (Option Nat)}{mask i:Nat}(h:owner.getD i (some 0)=none):(abb (runEnd mask i+1-i)).find? (λk=>(owner.getD (i+k) (some 0)).isNone)≠none:=λe=>by
 have q:=List.find?_eq_none.mp e 0 (mem_range.mpr (by unfold runEnd;grind))
 grind
theorem zLm{owner:Array (Option Nat)}{mask:Nat}:∀(a i p j:Nat),layClean.free mask owner a i p=some j->owner.getD j (some 0)=none
 |0,_,_,_,h=>by cases h
 |a+1,i,p,j,h=>by
  unfold layClean.free at h
  split at h
  ·simp_all
  ·exact zLm a _ _ j h
theorem zLn{owner:Array (Option Nat)}{mask j:Nat}(b:owner.getD j (some 0)=none):∀(a u i:Nat),u<a->YT (mask+1) u i=j->layClean.free mask owner a i 0≠none
 |0,u,i,h,_=>absurd h (adw _)
 |a+1,0,i,_,e=>by
  have c:=e
  subst c
  unfold layClean.free
  cases q:(abb (runEnd mask i+1-i)).find? λk=>(owner.getD (i+k) (some 0)).isNone with
  |none=>exact absurd q (V7 b)
  |some k=>grind
 |a+1,u+1,i,h,e=>by
  unfold layClean.free
  cases q:(abb (runEnd mask i+1-i)).find? λk=>(owner.getD (i+k) (some 0)).isNone with
  |none=>exact zLn b a u _ (Nat.lt_of_succ_lt_succ h) e
  |some k=>grind
theorem zOn{owner:Array (Option Nat)}{mask:Nat}(a:Nat)(h0:∀i,i<=mask->layClean.free mask owner a i 0≠none):∀(d i p:Nat),i<=mask->p<32^d->layClean.free mask owner (a+d) i p≠none
 |0,i,p,c,b=>by
  grind
 |d+1,i,p,c,b=>by
  unfold layClean.free
  cases q:(abb (runEnd mask i+1-i)).find? λk=>(owner.getD (i+k) (some 0)).isNone with
  |none=>exact zOn a h0 d _ _ (ade (ae7 _ (aer _))) (by grind)
  |some k=>grind
theorem I8{owner:Array (Option Nat)}{mask j:Nat}(a:Cg (mask+1)=true)(d:j<=mask)(b:owner.getD j (some 0)=none)(h:Int):∃k,layClean.free mask owner (turns mask) (bits h%(mask+1)) (bits h)=some k/\owner.getD k (some 0)=none:=by
 have q:layClean.free mask owner (mask+2+13) (bits h%(mask+1)) (bits h)≠none:=zOn (mask+2) (λi c=>by
  obtain⟨u,hu,e⟩:=IW a (Nat.lt_succ_of_le c) (Nat.lt_succ_of_le d)
  exact zLn b _ u i (by lia) e) 13 _ _ (ade (ae7 _ (aer _))) (by unfold bits;grind)
 unfold turns
 cases e:layClean.free mask owner (mask+15) (bits h%(mask+1)) (bits h) with
 |none=>grind
 |some k=>exact⟨k,rfl,zLm _ _ _ _ e⟩
theorem zI5{α:Type}(v:α):∀(l:List (Option α))(j:Nat),l[j]?=some none->((l.set j (some v)).filterMap id).Perm (v::l.filterMap id)
 |[],j,h=>by simp at h
 |x::l,0,h=>by
  have e:x=none:=by simpa using h
  subst e
  exact .refl _
 |none::l,j+1,h=>by
  show((l.set j (some v)).filterMap id).Perm (v::l.filterMap id)
  exact zI5 v l j (by simpa using h)
 |some x::l,j+1,h=>by
  show(x::(l.set j (some v)).filterMap id).Perm (v::x::l.filterMap id)
  exact((zI5 v l j (by simpa using h)).cons x).trans (.swap _ _ _)
theorem zKi:∀(l:List (Option Nat)),(l.filterMap id).length<l.length->∃j,j<l.length/\l[j]?=some none
 |[],h=>by simp at h
 |none::l,_=>⟨0,by simp,rfl⟩
 |some x::l,h=>by
  obtain⟨j,hj,e⟩:=zKi l (by simpa using h)
  exact⟨j+1,by simpa using hj,e⟩
theorem getD_none{owner:Array (Option Nat)}:owner.getD j (some 0)=none↔owner.toList[j]?=some none:=by
 rw[Array.getD_eq_getD_getElem?,getElem?_toList]
 cases owner[j]? with
 |none=>simp
 |some x=>simp
theorem zZo{mask:Nat}(hc:Cg (mask+1)=true):∀(hs:LI)(owner:Array (Option Nat))(k:Nat),owner.size=mask+1->(owner.toList.filterMap id).Perm (abb k)->k+hs.length<=mask ->
  ∃Ai,hs.foldl (λacc h=>do
   let(owner,k) <-acc
   let j <-layClean.free mask owner (turns mask) (bits h%(mask+1)) (bits h)
   pure (owner.setIfInBounds j (some k),k+1)) (some (owner,k))=some (Ai,k+hs.length)/\Ai.size=mask+1/\(Ai.toList.filterMap id).Perm (abb (k+hs.length))
 |[],owner,k,h1,h2,h3=>⟨owner,rfl,h1,h2⟩
 |h::hs,owner,k,h1,h2,h3=>by
  obtain⟨j,hj,ej⟩:=zKi owner.toList (by rw[h2.length_eq,length_range,length_toList,h1];rw[length_cons] at h3;omega)
  obtain⟨i,ei,fi⟩:=I8 hc (owner:=owner) (j:=j) (by rw[length_toList,h1] at hj;omega) (getD_none.mpr ej) h
  have q:=zZo hc hs (owner.setIfInBounds i (some k)) (k+1) (by rw[Array.size_setIfInBounds];exact h1) ?_ (by rw[length_cons] at h3;omega)
  ·obtain⟨o',e,z1,z2⟩:=q
   have ek:k+(h::hs).length=k+1+hs.length:=by rw[length_cons];omega
   refine⟨o',?_,z1,by rw[ek];exact z2⟩
   rw[ek,List.foldl_cons,<-e]
   refine congrArg (λz=>List.foldl _ z hs) ?_
   show(layClean.free mask owner (turns mask) (bits h%(mask+1)) (bits h)).bind _=_
   rw[ei]
   rfl
  ·rw[Array.toList_setIfInBounds,range_succ]
   exact((zI5 k owner.toList i (getD_none.mp fi)).trans (h2.cons k)).trans (List.perm_append_singleton k _).symm
theorem zKv:∀(l:List (Option Nat)),(abb l.length).filterMap (λj=>(l[j]?).getD none)=l.filterMap id
 |[]=>rfl
 |x::l=>by
  rw[length_cons,range_succ_eq_map,filterMap_cons,List.filterMap_map]
  have e:((λj=>((x::l)[j]?).getD none)∘Nat.succ)=λj=>(l[j]?).getD none:=rfl
  rw[e,zKv l]
  cases x<;>rfl
theorem zTi{mask:Nat}(i:Cg (mask+1)=true)(finger moves:Nat)(led plain:Bool)(c:Array Int)(l:c.size<=mask) :
  ∃t a,laid mask finger moves led plain c=some (t,a)/\a.toList.Perm (abb c.size)/\t.place.size=c.size/\t.dummies=#[]/\t.mask=mask/\t.led=led/\t.plain=plain/\Rz t.place:=by
 obtain⟨b,e,m,d⟩:=zZo i c.toList (Array.replicate (mask+1) none) 0 (by rw[Array.size_replicate]) (by rw[Array.toList_replicate,List.filterMap_replicate_of_none rfl];exact .refl _) (by rw[afc,length_toList];exact l)
 rw[afc,length_toList] at d
 have h:layClean mask c=some b:=by
  unfold layClean
  rw[<-Array.foldl_toList,e]
  rfl
 have g:((abb (mask+1)).filterMap λj=>(b.getD j none).map λk=>(j,k)).map (·.2)=b.toList.filterMap id:=by
  rw[<-zKv b.toList,length_toList,m,List.map_filterMap]
  refine congrArg (λf=>List.filterMap f _) (funext λj=>?_)
  rw[Array.getD_eq_getD_getElem?,getElem?_toList]
  cases(b[j]?).getD none<;>rfl
 refine⟨_,_,by unfold laid;rw[h];rfl,?_,?_,rfl,rfl,rfl,rfl,zKt (λj=>b.getD j none) _⟩
 ·show((abb (mask+1)).filterMap λj=>(b.getD j none).map λk=>(j,k)).map (·.2) |>.Perm _
  rw[g]
  exact d
 ·show(((abb (mask+1)).filterMap λj=>(b.getD j none).map λk=>(j,k)).map (·.1)).length=_
  rw[length_map,<-length_map (f:=(·.2)),g,d.length_eq,length_range]
theorem zX7(h:n<=255):∃m,sizeAbove n=m+1/\n<=m/\Cg (m+1)=true/\m<=255:=by
 by_cases h1:n<8
 ·exact⟨7,by unfold sizeAbove;unfold sizeAbove.go;rw[if_neg (by lia)],by lia,V3,by omega⟩
 by_cases h2:n<16
 ·exact⟨15,by unfold sizeAbove;unfold sizeAbove.go;rw[if_pos (by lia)];unfold sizeAbove.go;rw[if_neg (by lia)],by lia,V4,by omega⟩
 by_cases h3:n<32
 ·exact⟨31,by unfold sizeAbove;unfold sizeAbove.go;rw[if_pos (by lia)];unfold sizeAbove.go;rw[if_pos (by lia)];unfold sizeAbove.go;rw[if_neg (by lia)],by lia,V5,by omega⟩
 by_cases h4:n<64
 ·exact⟨63,by unfold sizeAbove;unfold sizeAbove.go;rw[if_pos (by lia)];unfold sizeAbove.go;rw[if_pos (by lia)];unfold sizeAbove.go;rw[if_pos (by lia)];unfold sizeAbove.go;rw[if_neg (by lia)],by lia,V6,by omega⟩
 by_cases h5:n<128
 ·exact⟨127,by unfold sizeAbove;unfold sizeAbove.go;rw[if_pos (by lia)];unfold sizeAbove.go;rw[if_pos (by lia)];unfold sizeAbove.go;rw[if_pos (by lia)];unfold sizeAbove.go;rw[if_pos (by lia)];unfold sizeAbove.go;rw[if_neg (by lia)],by lia,PK,by omega⟩
 ·exact⟨255,by unfold sizeAbove;unfold sizeAbove.go;rw[if_pos (by lia)];unfold sizeAbove.go;rw[if_pos (by lia)];unfold sizeAbove.go;rw[if_pos (by lia)];unfold sizeAbove.go;rw[if_pos (by lia)];unfold sizeAbove.go;rw[if_pos (by lia)];unfold sizeAbove.go;rw[if_neg (by lia)],by lia,PL,by omega⟩
open PySem PySem.Spec PyProof.Rows
section
variable{prog:Program}{w:World}{κ:Type}[DecidableEq κ]{knd:KeyKind prog w κ}{dec:Value->κ}{led:Bool}{A:Around}{E:Value->Shared->Prop}{s:Shared}
theorem zIe{α:Type}(es:Array α)(a:Array Nat)(h:a.toList.Perm (abb es.size)):(a.filterMap (es[·]?)).toList.Perm es.toList:=by
 rw[Array.toList_filterMap]
 refine(h.filterMap _).trans ?_
 have e:(abb es.size).filterMap (es[·]?)=es.toList:=by
  have:∀l:List α,(abb l.length).filterMap (λj=>l[j]?)=l:=λl=>by
   induction l with
   |nil=>rfl
   |cons x l ih =>
    rw[length_cons,range_succ_eq_map,filterMap_cons,List.filterMap_map]
    show x::List.filterMap (λj=>l[j]?) _=_
    rw[ih]
  have q:=this es.toList
  grind
 rw[e]
theorem zN5{Q:Unit->Shared->Prop}(e:s.heap.get? a=some o)(d:o.data=.set es ep t)(y:t.fits es.size=true)(x:b<=255)(hn:es.size<=b)(h:∀(es':Array (Int×Value)) (t':SetTable),es'.toList.Perm es.toList->t'.place.size=es.size->t'.dummies=#[]->b<=t'.mask->Cg (t'.mask+1)=true->t'.led=t.led->Rz t'.place->Q () { s with heap:=s.heap.update a (ae8 es' t') }):wpAny (model prog w) A (setRelay a b) Q E s:=by
 obtain⟨m,i,e2,f,e4⟩:=zX7 x
 unfold setRelay
 refine aav (abe e d y ?_)
 dsimp only
 rw[if_neg (by rw[i];show¬m+1 > 2^24;lia)]
 obtain⟨t',c,r,g,k,u,v,l,q7,q⟩:=zTi (mask:=m) f t.finger (t.movedTo m) t.led t.plain (es.map (·.1)) (by grind)
 rw[size_map] at g k
 have n:t.relaid (es.map (·.1)) b=some (t',c):=by
  unfold SetTable.relaid
  rw[i]
  exact r
 rw[n]
 have p:=zIe es c g
 have j:(c.filterMap (es[·]?)).size=es.size:=by rw[<-length_toList,p.length_eq,length_toList]
 refine aav (m:=(if((c.filterMap (es[·]?)).size != es.size)=true then unsupported "internal:set-table-lost-an-element" else pure (c.filterMap (es[·]?),t'))) ?_
 rw[if_neg (by rw[j];simp)]
 refine aaw ?_
 exact aci e d (h _ t' p k u (by grind) (by rw[v];exact f) l q) (by rw[j];show es.size<=2^24;lia)
theorem zE6{t':SetTable}(h1:t'.place.size=n)(h2:t'.dummies=#[])(h3:a<=t'.mask)(h4:n<=a):t'.fits n=true:=by
 unfold fits aea
 grind
theorem zN4{Q:Unit->Shared->Prop}(g:Good knd dec led s.heap a ks)(hw:wanted<=255)(hn:ks.length<=wanted)(h:∀h',SameBut a s.heap h'->Good knd dec led h' a ks->Q () { s with heap:=h' }):wpAny (model prog w) A (setRelay a wanted) Q E s:=by
 obtain⟨o,es,ep,t,ho,hx,hd,hel,hp,nd,hb,hf,tb⟩:=g
 have ln:es.size=ks.length:=by rw[<-hp.length_eq,length_map,length_toList]
 refine zN5 ho hd hf hw (by rw[ln];exact hn) λes' t' p q3 q4 q5 q6 q7 q8=>h _ (SameBut.update _ a _) ?_
 have sz:es'.size=es.size:=by rw[<-length_toList,p.length_eq,length_toList]
 exact⟨_,es',_,t',Lb (es':=es') (t':=t') ho hd,hx,rfl,hel.perm p,(p.map _).trans hp,nd,by rw[sz];exact hb,by rw[sz];exact zE6 q3 q4 q5 (by rw[ln];exact hn),⟨q7.trans tb.led,λ_=>q8⟩⟩
theorem I9{Q:Unit->Shared->Prop}(g:Good knd dec led s.heap a ks)(hw:(ks.length+b)*2<=255)(h:∀h',SameBut a s.heap h'->Good knd dec led h' a ks->Q () { s with heap:=h' }):wpAny (model prog w) A (setRoomFor a b) Q E s:=by
 obtain⟨o,i,ep,t,d,hx,f,hel,e,nd,hb,c,tb⟩:=id g
 have ln:i.size=ks.length:=by rw[<-e.length_eq,length_map,length_toList]
 unfold setRoomFor
 refine aav (abe d f c ?_)
 dsimp only
 unfold SetTable.roomFor
 have pl:=VR c
 split
 ·rename_i z
  split at z
  ·cases z
   exact zN4 g (by grind) (by grind) h
  grind
 ·exact aaw (h _ (SameBut.refl a s.heap) g)
theorem zGx{Q:Unit->Shared->Prop}(l:s.heap.get? r=some { cls:=.type "set",dict:=none,data:=.set #[] 0 (.fresh 0 0 (yB w)) })(G:r≠o)(g:Good knd dec (yB w) s.heap o ks)(hl:ks.length<=127)(h:∀h',SameBut r s.heap h'->Good knd dec (yB w) h' r ks->Q () { s with heap:=h' }):wpAny (model prog w) A (setMerge r o each) Q E s:=by
 obtain⟨ob,b,ep,t,ho,hx,Z,u,F,V,C,X,D⟩:=id g
 have ln:b.size=ks.length:=by rw[<-F.length_eq,length_map,length_toList]
 unfold setMerge
 rw[if_neg (by simpa using G)]
 refine aav (abe ho Z X ?_)
 dsimp only
 by_cases e:b.isEmpty=true
 ·rw[if_pos e]
  have e0:b.size=0:=by simpa[Array.isEmpty] using e
  have k0:ks=[]:=length_eq_zero_iff.mp (by rw[<-ln];exact e0)
  subst k0
  exact aaw (h _ (SameBut.refl r s.heap) (VP l))
 rw[if_neg e]
 refine aav (ab1 (Q:=λ_ s'=>∃(i:Heap)(x:Obj)(k:Nat)(d:SetTable),s'={ s with heap:=i }/\SameBut r s.heap i/\i.get? r=some x/\x.ExactSet/\x.data=.set #[] k d/\d.place.size=0/\d.dummies=#[]/\d.led=yB w/\Cg (d.mask+1)=true/\b.size<=d.mask) ?first ?post (λ_ _ h=>h))
 case post =>
  rintro _ _ ⟨i,x,k,d,rfl,O,q,T,n,L,N,P,Y,M⟩
  refine aav (abe (s:={ s with heap:=i }) q n (by show d.fits 0=true;exact zE6 L N (abl _) (aaz 0)) ?_)
  dsimp only
  have f:d.fill=0:=by unfold aea;rw[L,N];rfl
  unfold SetTable.road
  rw[f]
  rw[if_neg (by simp)]
  by_cases v:(d.mask==t.mask&&t.dummies.isEmpty)=true
  ·rw[if_pos v]
   refine aci (s:={ s with heap:=i }) q n (h _ (O.trans (SameBut.update _ r _)) ⟨_,b,_,_,Lb (es':=b) (t':=_) q n,T,rfl,u,F,V,C,X,⟨?_,λz=>D.rz (Bool.and_eq_true_iff.mp z).2⟩⟩) (ach C)
   show(d.led&&t.led)=_
   rw[P,D.led,ae2]
  ·rw[if_neg v]
   obtain⟨j,a,q1,S,y,H,W,J,R,U⟩:=zTi (mask:=d.mask) Y d.finger d.moves (d.led&&t.led) (d.plain&&t.plain) (b.map (·.1)) (by rw[size_map];exact M)
   rw[size_map] at S y
   dsimp only
   rw[q1]
   have p:=zIe b a S
   have B:(a.filterMap (b[·]?)).size=b.size:=by rw[<-length_toList,p.length_eq,length_toList]
   refine aav (m:=(if((a.filterMap (b[·]?)).size != b.size)=true then unsupported "internal:set-table-lost-an-element" else pure (a.filterMap (b[·]?),j))) ?_
   rw[if_neg (by rw[B];simp)]
   refine aaw ?_
   refine aci (s:={ s with heap:=i }) q n (h _ (O.trans (SameBut.update _ r _)) ⟨_,_,_,j,Lb (es':=a.filterMap (b[·]?)) (t':=j) q n,T,rfl,u.perm p,(p.map _).trans F,V,by rw[B];exact C,by rw[B];exact zE6 y H (by rw[W];exact M) (aaz _),⟨?_,λ_=>U⟩⟩) (ach (by rw[B];exact C))
   rw[J,P,D.led,ae2]
 case first =>
  unfold setRoomFor
  refine aav (abe l rfl rfl ?_)
  dsimp only
  have e1:(SetTable.fresh 0 0 (yB w)).roomFor b.size=if(b.size*5 ≥ 21) then some (b.size*2) else none:=by
   unfold SetTable.roomFor aea SetTable.fresh
   simp
  rw[e1]
  by_cases c:b.size*5 ≥ 21
  ·rw[if_pos c]
   refine zN5 l rfl rfl (by lia) (abl _) λI j p y H W J R U=>?_
   have ee:I=#[]:=by
    have:=p.length_eq
    rw[length_toList] at this
    exact Array.eq_empty_of_size_eq_zero this
   subst ee
   exact⟨_,_,_,j,rfl,SameBut.update _ r _,Lb (es':=#[]) (t':=j) l rfl,⟨rfl,rfl,rfl⟩,rfl,y,H,R,J,by omega⟩
  ·rw[if_neg c]
   exact aaw ⟨s.heap,_,0,_,rfl,SameBut.refl r s.heap,l,⟨rfl,rfl,rfl⟩,rfl,rfl,rfl,rfl,V3,by show b.size<=7;omega⟩
end
section
variable{prog:Program}{w:World}{κ:Type}[DecidableEq κ]{knd:KeyKind prog w κ}{dec:Value->κ}{led:Bool}{A:Around}{E:Value->Shared->Prop}{s:Shared}
theorem zUp{Q:Value->Shared->Prop}(g:Good knd dec (yB w) s.heap a ks)(n:ks.length<=127)(h:∀(h':Heap),Good knd dec (yB w) h' s.heap.objs.size ks->(∀c o,c<s.heap.objs.size->s.heap.get? c=some o->h'.get? c=some o)->(ks=[]->h'=s.heap.push { cls:=.type "set",dict:=none,data:=.set #[] 0 (.fresh 0 0 (yB w)) })->Q (.ref s.heap.objs.size) { s with heap:=h' }) :
  wpAny (model prog w) A (adp a) Q E s:=by
 have l:a<s.heap.objs.size:=by obtain⟨o,_,_,_,m,_⟩:=g;exact lt_size m
 have b:∀c o,s.heap.get? c=some o->(s.heap.push { cls:=.type "set",dict:=none,data:=.set #[] 0 (.fresh 0 0 (yB w)) }).get? c=some o:=λc o e=>get?_push_of_some _ e
 have d:=g.keep (b a)
 unfold adp
 refine aav (zNi g.type (aav (zGw ?_)))
 refine aav (aaw ?_)
 cases ks with
 |nil =>
  obtain⟨o,k,ep,t,r,hx,j,hel,f,nd,hb,p,tb⟩:=d
  have e0:k.size=0:=by rw[<-length_toList];have:=f.length_eq;grind
  unfold setMerge
  rw[if_neg (by grind)]
  refine aav (aav (abe (s:={ s with heap:=_ }) r j p ?_))
  dsimp only
  rw[if_pos (by grind)]
  refine aaw (aaw (h _ (VP (get?_push_size _ rfl)) (λc o _ e=>b c o e) λ_=>rfl))
 |cons k0 ks0 =>
  refine aav (zGx (s:={ s with heap:=_ }) (get?_push_size _ rfl) (ad3 l) d n λh' u q=>?_)
  exact aaw (h h' q (λc o i e=>by rw[u.2 c (aa8 i)];exact b c o e) λz=>by cases z)
theorem V8{α:Type}(xs:Array α)(p:Nat):(eraseAt xs p).toList=xs.toList.eraseIdx p:=by
 unfold eraseAt
 rw[List.eraseIdx_eq_take_drop_succ]
 simp[List.extract_eq_take_drop]
 exact List.take_of_length_le (by grind)
theorem zXh{α:Type}(xs:Array α)(p:Nat)(x:α):(insertAt xs p x).size=xs.size+1:=by
 unfold insertAt
 grind
theorem V9(hr:Rz xs)(p:Nat):Rz (eraseAt xs p):=by
 intro i k a b hik ha hb
 rw[<-getElem?_toList,V8,List.getElem?_eraseIdx] at ha hb
 have q:∀j,xs.toList[j]?=xs[j]?:=λj=>getElem?_toList
 split at ha<;>split at hb
 ·exact hr i k a b hik (by rw[<-q];exact ha) (by rw[<-q];exact hb)
 ·exact hr i (k+1) a b (by omega) (by rw[<-q];exact ha) (by rw[<-q];exact hb)
 ·omega
 ·exact hr (i+1) (k+1) a b (by omega) (by rw[<-q];exact ha) (by rw[<-q];exact hb)
theorem zQt(f:∀k v,knd.is k v=true->dec v=k){Q:Bool->Shared->Prop}(P:knd.is k x=true)(U:x.scannable=true)(g:Good knd dec led s.heap a ks)(h:∀(h':Heap) (b:Bool),SameBut a s.heap h'->Good knd dec led h' a (ks.erase k)->Q b { s with heap:=h' }) :
  wpAny (model prog w) A (setDiscardHashed a x (knd.hash k)) Q E s:=by
 obtain⟨o,c,ep,t,m,V,l,d,C,N,M,n,I⟩:=id g
 unfold setDiscardHashed
 refine aav ?_
 unfold setFind setFindIn
 refine aav (abe m l n ?_)
 dsimp only
 rw[byScan_of U M d]
 simp only[↓reduceIte]
 refine aav (ac4 (aav (wpAny_setScan_of P m l n d ?_)))
 have R:=zLo f d k
 cases H:List.findIdx? (λe=>knd.is k e.2) c.toList with
 |none =>
  have O:k∉ks:=λz=>R.mp H (C.mem_iff.mpr z)
  dsimp only
  refine aaw (aaw ?_)
  have q:=h s.heap false (SameBut.refl a s.heap)
  rw[List.erase_of_not_mem O] at q
  exact q g
 |some j =>
  obtain⟨p,u,_⟩:=List.findIdx?_eq_some_iff_getElem.mp H
  dsimp only
  rw[afc]
  refine aaw (aav (abe m l n ?_))
  dsimp only
  have D:t.place.size=c.size:=VR n
  have i:j<t.place.size:=by rw[D,<-length_toList];exact p
  have y:(eraseAt c j).size=c.size-1:=by rw[<-length_toList,V8,length_eraseIdx,if_pos p,length_toList]
  have F:t.drop j={ t with place:=eraseAt t.place j,dummies:=insertAt t.dummies (abq t.dummies t.place[j]) t.place[j] }:=by
   unfold SetTable.drop
   rw[aa7 i]
  have jz:j<c.size:=by rw[<-length_toList];exact p
  have T:(t.drop j).fits (eraseAt c j).size=true:=by
   rw[F]
   unfold fits aea at n ⊢
   have S:(eraseAt t.place j).size=c.size-1:=by rw[<-length_toList,V8,length_eraseIdx,length_toList,if_pos i,D]
   dsimp only
   rw[S,zXh,y]
   grind
  have B:Tb led (t.drop j):=by
   rw[F]
   exact⟨I.led,λz=>V9 (I.rz z) j⟩
  have r:((eraseAt c j).toList.map λe=>dec e.2).Perm (ks.erase k):=by
   rw[V8]
   have G:=((YH p).map λe=>dec e.2).trans C
   rw[map_cons,f k _ u] at G
   have J:=G.erase k
   rw[List.erase_cons_head] at J
   exact J
  refine aav (aci m l (aav (wpAny_point (aaw (h _ true (SameBut.update _ a _) ⟨_,_,_,_,Lb (es':=eraseAt c j) (t':=t.drop j) m l,V,rfl,λe L=>?_,r,N.erase k,by rw[y];lia,T,B⟩)))) (ach (by rw[y];lia)))
  rw[V8] at L
  exact d e (List.mem_of_mem_eraseIdx L)
theorem I_{Q:Unit->Shared->Prop}(g:Good knd dec led s.heap a ks)(hw:ks.length<=63)(h:∀h',SameBut a s.heap h'->Good knd dec led h' a ks->Q () { s with heap:=h' }):wpAny (model prog w) A (setTidy a) Q E s:=by
 obtain⟨o,b,ep,t,i,hx,f,hel,c,nd,hb,d,tb⟩:=id g
 have ln:b.size=ks.length:=by rw[<-c.length_eq,length_map,length_toList]
 refine aav (abe i f d ?_)
 dsimp only
 split
 ·have e:grown b.size=ks.length*4:=by unfold grown;grind
  exact zN4 g (by lia) (by lia) h
 ·exact aaw (h _ (SameBut.refl a s.heap) g)
theorem zPl(g:Good knd dec (yB w) s.heap a ks)(r:∀b∈d,∃ks:List κ,Good knd dec (yB w) s.heap b ks)(p:∀k v,knd.is k v=true->∀b,v≠.ref b){Q:Array (Int×Value)->Shared->Prop}(h:∀(es:Array (Int×Value)),ElemsOf knd es.toList->(es.toList.map λe=>dec e.2).Perm ks->Q es s):wpAny (model prog w) A (setWalkUnseen a d none) Q E s:=by
 obtain⟨o,es,ep,t,q,h2,u,x,hl,tb,l,n⟩:=g.size
 refine aav (abe q u x ?_)
 dsimp only
 refine aav (Px ?_)
 split
 ·rename_i c
  refine zQ5 g (λm o' i ep' t' h1' h3'=>?_) λi f j=>h i f j
  grind
 ·refine aav (zN7 (knd:=knd) (dec:=dec) (led:=yB w) (a::d) (λb m=>(mem_cons.mp m).elim (λe=>e▸⟨ks,g⟩) (r b)) p ?_)
  exact aav (ac4 (aaw (h es l n)))
theorem Ja(p:∀k v,knd.is k v=true->dec v=k)(id:String)(hn:∀k v,knd.is k v=true->∀b,v≠.ref b)(x:b≠r)(I:Good knd dec (yB w) s.heap r u)(J:Good knd dec (yB w) s.heap b G)(hl:u.length<=63)(Y:¬G.length/8 > u.length){Q:Unit->Shared->Prop}(h:∀(h':Heap) (d:List κ),SameBut r s.heap h'->Good knd dec (yB w) h' r d->(∀k,k∈d↔k∈u/\k∉G)->Q () { s with heap:=h' }) :
  wpAny (model prog w) A (Builtin.Frozenset.differenceUpdate id r (.ref b)) Q E s:=by
 obtain⟨o,es,ep,t,X,n,T,V,hlb,tb,hel,hp⟩:=J.size
 have nda:u.Nodup:=by obtain⟨_,_,_,_,_,_,_,_,_,L,_⟩:=I;exact L
 unfold Builtin.Frozenset.differenceUpdate
 rw[if_neg (λe=>x (ae5 (aeg e)))]
 refine aav (Gz J.type ?_)
 simp only[↓reduceIte]
 refine aav (aaw ?_)
 refine aav (Tz J (aav (Tz I ?_)))
 rw[if_neg Y]
 refine aav (aby X T V ?_)
 refine aav (abo (aav (zPl J (λc Z=>(mem_singleton.mp Z)▸⟨u,I⟩) hn λR F O=>?_)))
 rw[<-forIn_toList]
 refine aav (ab1 (acr (β:=Unit) _ (λl _ z=>∃n d,z={ s with heap:=n }/\SameBut r s.heap n/\Good knd dec (yB w) n r d/\ElemsOf knd l/\d.length<=63/\∀k,(k∈d/\k∉l.map λe=>dec e.2)↔(k∈u/\k∉G)) (λ_ z=>∃n d,z={ s with heap:=n }/\SameBut r s.heap n/\Good knd dec (yB w) n r d/\d.length<=63/\∀k,k∈d↔k∈u/\k∉G) ?turn ?fin R.toList () ⟨s.heap,u,rfl,SameBut.refl r s.heap,I,F,hl,λk=>?_⟩) ?post (λ_ _ h=>h))
 case turn =>
  rintro⟨hs',v⟩ l W z ⟨g,d,rfl,i,y,B,f,C⟩
  obtain⟨⟨k,P,U⟩,D⟩:=B _ mem_cons_self
  dsimp only at P U D ⊢
  subst U
  have dv:dec v=k:=p k v P
  have S:d.Nodup:=by obtain⟨_,_,_,_,_,_,_,_,_,L,_⟩:=y;exact L
  refine aav (abo (zQt (led:=yB w) (s:={ s with heap:=g }) p P D y λj b'' m M=>?_))
  refine aav ?_
  unfold abn
  refine aav (aby (s:={ s with heap:=j }) (by show j.get? b=_;rw[m.2 b x];show g.get? b=_;rw[i.2 b x];exact X) T V ?_)
  simp only[bne_self_eq_false,abg,↓reduceIte]
  refine aaw (aaw ⟨j,d.erase k,rfl,i.trans m,M,λe he=>B e (mem_cons_of_mem _ he),?_,λc=>?_⟩)
  ·have:=List.length_erase_le (a:=k) (l:=d)
   lia
  ·rw[<-C c,map_cons,mem_cons]
   show _↔(c∈d/\¬(c=dec v\/_))
   rw[dv,S.mem_erase_iff]
   constructor
   ·rintro⟨⟨N,H⟩,z3⟩
    exact⟨H,λq=>q.elim N z3⟩
   ·rintro⟨N,H⟩
    exact⟨⟨λq=>H (.inl q),N⟩,λq=>H (.inr q)⟩
 case fin =>
  rintro W z ⟨g,d,rfl,i,y,_,f,C⟩
  refine⟨g,d,rfl,i,y,f,λk=>?_⟩
  rw[<-C k]
  simp
 case post =>
  rintro W z ⟨g,d,rfl,i,y,f,C⟩
  refine aaw ?_
  exact I_ (s:={ s with heap:=g }) y f λj m M=>h j d (i.trans m) M C
 ·rw[O.mem_iff]
end
theorem zI4:entryFor table "set.__sub__" = some Builtin.«frozenset.__sub__»:=ad4 (id':="frozenset.__sub__") (by kernel_rfl) rfl (by decide +kernel) (by kernel_rfl)
theorem zKp:entryFor table "set.__or__" = some Builtin.«frozenset.__or__»:=ad4 (id':="frozenset.__or__") (by kernel_rfl) rfl (by decide +kernel) (by kernel_rfl)
section
variable{prog:Program}{w:World}{κ:Type}[DecidableEq κ]{knd:KeyKind prog w κ}{dec:Value->κ}{led:Bool}{A:Around}{E:Value->Shared->Prop}{s:Shared}
theorem zUj(u:∀k v,knd.is k v=true->dec v=k)(id:String)(hn:∀k v,knd.is k v=true->∀b,v≠.ref b)(hxr:x≠r)(W:y≠r)(gx:Good knd dec (yB w) s.heap x m)(X:Good knd dec (yB w) s.heap y B)(gr:Good knd dec (yB w) s.heap r [])(Z:∀o es e t,s.heap.get? y=some o->o.data=.set es e t->e=ep){Q:Unit->Shared->Prop}(h:∀(h':Heap) (a:List κ),SameBut r s.heap h'->Good knd dec (yB w) h' r a->(∀k,k∈a↔k∈B/\k∉m)->Q () { s with heap:=h' }) :
  wpAny (model prog w) A (do
   for (h,V) in <-setWalkUnseen y [x,r] (some r) do
    holding [V] do
     let G <-pure (<-setFind x V h).isSome
     if !G then
      let _ <-setAddHashed r V h
    abn id y ep) Q E s:=by
 obtain⟨o,es,M,t,h1,d,h3,hf,hl,tb,hel,hp⟩:=X.size
 have e1:=Z o es M t h1 h3
 subst e1
 refine aav (zF7 X gr (λb hb=>(mem_cons.mp hb).elim (λe=>e▸⟨m,gx⟩) λe=>(mem_singleton.mp e)▸⟨[],gr⟩) hn λR h' N O sb gr'=>?_)
 rw[<-forIn_toList]
 have ln:R.toList.length=B.length:=by rw[<-O.length_eq,length_map]
 refine aav (ab1 (acr (β:=Unit) _ (λl _ J=>∃d a,J={ s with heap:=d }/\SameBut r s.heap d/\Good knd dec (yB w) d r a/\ElemsOf knd l/\a.length+l.length<=B.length/\∀k,(k∈a\/(k∉m/\k∈l.map λe=>dec e.2))↔(k∈B/\k∉m)) (λ_ J=>∃d a,J={ s with heap:=d }/\SameBut r s.heap d/\Good knd dec (yB w) d r a/\∀k,k∈a↔k∈B/\k∉m) ?turn ?fin R.toList () ⟨h',[],rfl,sb,gr',N,by rw[ln,length_nil];lia,λk=>?_⟩) ?post (λ_ _ h=>h))
 case turn =>
  rintro⟨hs,v⟩ l b J ⟨d,a,rfl,i,L,S,P,I⟩
  obtain⟨⟨k,T,hh⟩,H⟩:=S _ mem_cons_self
  dsimp only at T hh H ⊢
  subst hh
  have kx':∀o,s.heap.get? x=some o->d.get? x=some o:=λo e=>by rw[i.2 x hxr];exact e
  have U:=gx.keep kx'
  have dv:dec v=k:=u k v T
  rw[length_cons] at P
  have F:∀(f:Heap)(p:List κ),SameBut r s.heap f->Good knd dec (yB w) f r p->p.length+l.length<=B.length->(∀c,(c∈p\/(c∉m/\c∈l.map λe=>dec e.2))↔(c∈B/\c∉m)) ->
    wpAny (model prog w) A (abn id y M) (λ_ D=>wpAny (model prog w) A (pure (acn ())) (λq D=>match q with|.yield _=>∃d a,D={ s with heap:=d }/\SameBut r s.heap d/\Good knd dec (yB w) d r a/\ElemsOf knd l/\a.length+l.length<=B.length/\∀k,(k∈a\/(k∉m/\k∈l.map λe=>dec e.2))↔(k∈B/\k∉m)|.done _=>∃d a,D={ s with heap:=d }/\SameBut r s.heap d/\Good knd dec (yB w) d r a/\∀k,k∈a↔k∈B/\k∉m) E D) E { s with heap:=f }:=λf p C Y l3 m3=>by
   unfold abn
   refine aav (aby (s:={ s with heap:=f }) (by show f.get? y=_;rw[C.2 y W];exact h1) h3 hf ?_)
   simp only[bne_self_eq_false,abg,↓reduceIte]
   exact aaw (aaw ⟨f,p,rfl,C,Y,λe he=>S e (mem_cons_of_mem _ he),l3,m3⟩)
  refine aav (abo (aav (wpAny_setFind_of (s:={ s with heap:=d }) T H (U.setOf u) λq hq=>aav (aaw ?_))))
  cases q with
  |some j =>
   have nk:k∈m:=by simpa using hq.symm
   simp only[aeh,ac3,abg,↓reduceIte]
   refine aaw (aav (F d a i L (by lia) λc=>?_))
   rw[<-I c,map_cons,mem_cons]
   show _↔(c∈a\/c∉m/\(c=dec v\/_))
   rw[dv]
   constructor
   ·rintro(z|⟨n,g⟩)
    ·exact .inl z
    ·exact .inr ⟨n,.inr g⟩
   ·rintro(z|⟨n,g|g⟩)
    ·exact .inl z
    ·exact absurd nk (g▸n)
    ·exact .inr ⟨n,g⟩
  |none =>
   have mk:k∉m:=by simpa using hq.symm
   simp only[Option.isSome_none,Bool.not_false,↓reduceIte]
   refine aav (YG (led:=yB w) (s:={ s with heap:=d }) u T H L (by have:=X.len;lia) λf b' C Y=>?_)
   refine aaw (aav (F f _ (i.trans C) Y ?_ λc=>?_))
   ·split
    ·lia
    ·rw[length_cons];lia
   ·rw[<-I c,map_cons,mem_cons]
    show _↔(c∈a\/c∉m/\(c=dec v\/_))
    rw[dv]
    have e:c∈(if k∈a then a else k::a)↔c=k\/c∈a:=by
     split
     ·rename_i z
      exact⟨.inr,λq=>q.elim (λq=>q▸z) λq=>q⟩
     ·exact mem_cons
    rw[e]
    constructor
    ·rintro((z|z)|⟨n,g⟩)
     ·exact .inr ⟨z▸mk,.inl z⟩
     ·exact .inl z
     ·exact .inr ⟨n,.inr g⟩
    ·rintro(z|⟨n,g|g⟩)
     ·exact .inl (.inr z)
     ·exact .inl (.inl g)
     ·exact .inr ⟨n,g⟩
 case fin =>
  rintro b J ⟨d,a,rfl,i,L,_,_,I⟩
  refine⟨d,a,rfl,i,L,λk=>?_⟩
  rw[<-I k]
  simp
 case post =>
  rintro b J ⟨d,a,rfl,i,L,I⟩
  exact aaw (h d a i L I)
 ·rw[O.mem_iff]
  constructor
  ·rintro(z|⟨n,g⟩)
   ·cases z
   ·exact⟨g,n⟩
  ·exactλ⟨n,g⟩=>.inr ⟨g,n⟩
theorem Jb(d:∀k v,knd.is k v=true->dec v=k)(id:String)(D:∀k v,knd.is k v=true->∀b,v≠.ref b)(hab:b≠a)(q:Good knd dec (yB w) s.heap a H)(n:Good knd dec (yB w) s.heap b P)(F:H.length<=63){Q:Value->Shared->Prop}(h:∀(h':Heap) (j:List κ),Good knd dec (yB w) h' s.heap.objs.size j->(∀k,k∈j↔k∈H/\k∉P)->(∀c o,c<s.heap.objs.size->s.heap.get? c=some o->h'.get? c=some o)->Q (.ref s.heap.objs.size) { s with heap:=h' }) :
  wpAny (model prog w) A (Builtin.Frozenset.difference id a (.ref b)) Q E s:=by
 have R:a<s.heap.objs.size:=by obtain⟨o,_,_,_,i,_⟩:=q;exact lt_size i
 have z:b<s.heap.objs.size:=by obtain⟨o,_,_,_,i,_⟩:=n;exact lt_size i
 unfold Builtin.Frozenset.difference
 refine aav (Gz n.type ?_)
 simp only[ac3,abg,Bool.false_and,↓reduceIte]
 refine aav (aaw ?_)
 refine aav (Tz n (aav (Tz q ?_)))
 split
 ·rename_i c
  refine aav (ac4 (aav (zUp q (by lia) λh' N J _=>?_)))
  refine aav (aaw ?_)
  refine aav (abo (Ja (s:={ s with heap:=h' }) d id D (aa8 z) N (n.keep λo e=>J b o z e) F (by lia) λG j B O m=>aaw (h G j O m λc o u e=>?_)))
  rw[B.2 c (aa8 u)]
  exact J c o u e
 ·refine aav (zNi q.type (aav (zGw ?_)))
  refine aav (aaw ?_)
  have x:∀c o,s.heap.get? c=some o->(s.heap.push { cls:=.type "set",dict:=none,data:=.set #[] 0 (.fresh 0 0 (yB w)) }).get? c=some o:=λc o e=>get?_push_of_some _ e
  have f:=q.keep (x a)
  have l:=n.keep (x b)
  have r:Good knd dec (yB w) (s.heap.push { cls:=.type "set",dict:=none,data:=.set #[] 0 (.fresh 0 0 (yB w)) }) s.heap.objs.size []:=VP (get?_push_size _ rfl)
  generalize hp:s.heap.push { cls:=.type "set",dict:=none,data:=.set #[] 0 (.fresh 0 0 (yB w)) }=y at x f l r ⊢
  obtain⟨o,es,ep,t,i,G,C,S,F,tb,hel,hpp⟩:=f.size
  refine aav (aby (s:={ s with heap:=y }) i C S ?_)
  refine aav (abo (zUj (s:={ s with heap:=y }) d id D (aa8 z) (aa8 R) l f r (λM es' e' t' L I=>?_) λh' j B g m=>aaw (h h' j g m λc o u e=>?_)))
  ·have p:y.get? a=some M:=L
   rw[i] at p
   cases p
   rw[C] at I
   cases I
   rfl
  ·rw[B.2 c (aa8 u)];exact x c o e
theorem PN(d:∀k v,knd.is k v=true->dec v=k)(q:∀k v,knd.is k v=true->∀b,v≠.ref b)(j:b≠a)(f:Good knd dec (yB w) s.heap a l)(i:Good knd dec (yB w) s.heap b n)(p:l.length<=63){Q:Value->Shared->Prop}(h:∀(h':Heap) (e:List κ),Good knd dec (yB w) h' s.heap.objs.size e->(∀k,k∈e↔k∈l/\k∉n)->(∀c o,c<s.heap.objs.size->s.heap.get? c=some o->h'.get? c=some o)->Q (.ref s.heap.objs.size) { s with heap:=h' }) :
  wpAny (model prog w) A (binaryOp .Sub (.ref a) (.ref b)) Q E s:=by
 refine aee (op:=.Sub) f.type i.type F.fills_set_sub F.slot_set_sub (ab8 F.slot_set_sub f.type zI4 ?_ (F.args_set_sub_2 _ _))
 refine aav ?_
 refine aaw ?_
 dsimp only
 refine aav (aav (Gz f.type ?_))
 refine Gz i.type ?_
 refine aav (aaw (aav (Jb d _ q j f i p λh' e g m k=>aaw ⟨.ref s.heap.objs.size,rfl,?_,h h' e g m k⟩)))
 grind
end
section
variable{prog:Program}{w:World}{κ:Type}[DecidableEq κ]{knd:KeyKind prog w κ}{dec:Value->κ}{led:Bool}{A:Around}{E:Value->Shared->Prop}{s:Shared}
theorem zW8(u:∀k v,knd.is k v=true->dec v=k)(id:String)(hn:∀k v,knd.is k v=true->∀b,v≠.ref b)(n:o≠r)(g:Good knd dec (yB w) s.heap r j)(go:Good knd dec (yB w) s.heap o B)(hk:j≠[])(hl:(j.length+B.length)*2<=255)(Y:∀ob es e t,s.heap.get? o=some ob->ob.data=.set es e t->e=ep){Q:Unit->Shared->Prop}(h:∀(h':Heap) (ks:List κ),SameBut r s.heap h'->Good knd dec (yB w) h' r ks->(∀k,k∈ks↔k∈j\/k∈B)->Q () { s with heap:=h' }) :
  wpAny (model prog w) A (setMerge r o (abn id o ep)) Q E s:=by
 obtain⟨ob,es,V,t,X,p,U,hf,M,tb,hel,hp⟩:=go.size
 have e1:=Y ob es V t X U
 subst e1
 unfold setMerge
 rw[if_neg (by simpa using(ac0 n))]
 refine aav (abe X U hf ?_)
 dsimp only
 by_cases i:es.isEmpty=true
 ·rw[if_pos i]
  have e0:es.size=0:=by simpa[Array.isEmpty] using i
  have k0:B=[]:=length_eq_zero_iff.mp (by rw[<-M];exact e0)
  subst k0
  exact aaw (h _ j (SameBut.refl r s.heap) g λk=>by simp)
 rw[if_neg i]
 refine aav (I9 g (by rw[M];exact hl) λW T Z=>?_)
 obtain⟨o5,es5,ep5,t5,i1,i2,i3,D,il5,tb5,aat,ip5⟩:=Z.size
 have go4:=go.keep (h':=W) λob' e=>by rw[T.2 o n];exact e
 refine aav (abe (s:={ s with heap:=W }) i1 i3 D ?_)
 dsimp only
 have y:t5.fill≠0:=by
  unfold aea
  rw[VR D,il5]
  cases j with
  |nil=>exact absurd rfl hk
  |cons a l=>rw[length_cons];lia
 unfold SetTable.road
 rw[if_pos (by simpa using y)]
 dsimp only
 refine aav (zF7 (s:={ s with heap:=W }) go4 Z (λb hb=>(mem_singleton.mp hb)▸⟨j,Z⟩) hn λR h' N P sb gr'=>?_)
 rw[<-forIn_toList]
 have ln:R.toList.length=B.length:=by rw[<-P.length_eq,length_map]
 refine aav (ab1 (acr (β:=Unit) _ (λl _ C=>∃p ks,C={ s with heap:=p }/\SameBut r s.heap p/\Good knd dec (yB w) p r ks/\ElemsOf knd l/\ks.length+l.length<=128/\∀k,(k∈ks\/k∈l.map λe=>dec e.2)↔(k∈j\/k∈B)) (λ_ C=>∃p ks,C={ s with heap:=p }/\SameBut r s.heap p/\Good knd dec (yB w) p r ks/\∀k,k∈ks↔k∈j\/k∈B) ?turn ?fin R.toList () ⟨h',j,rfl,T.trans sb,gr',N,by rw[ln];lia,λk=>?_⟩) ?post (λ_ _ h=>h))
 case turn =>
  rintro⟨hs,v⟩ l b C ⟨f,ks,rfl,d,F,O,H,J⟩
  obtain⟨⟨k,x,hh⟩,L⟩:=O _ mem_cons_self
  dsimp only at x hh L ⊢
  subst hh
  have dv:dec v=k:=u k v x
  rw[length_cons] at H
  have big:(129:Nat)<scanBound:=by decide
  have I:ks.length+1<scanBound:=by lia
  refine aav (abo (YG (led:=yB w) (s:={ s with heap:=f }) u x L F I λm b' S g3=>?_))
  have G:m.get? o=some ob:=by rw[S.2 o n];show f.get? o=_;rw[d.2 o n];exact X
  refine aav ?_
  unfold abn
  refine aav (aby (s:={ s with heap:=m }) G U hf ?_)
  simp only[bne_self_eq_false,abg,↓reduceIte]
  refine aaw (aav (abe (s:={ s with heap:=m }) G U hf ?_))
  simp only[bne_self_eq_false,abg,↓reduceIte]
  refine aaw ⟨m,_,rfl,d.trans S,g3,λe he=>O e (mem_cons_of_mem _ he),?_,λc=>?_⟩
  ·split
   ·lia
   ·rw[length_cons];lia
  ·rw[<-J c,map_cons,mem_cons]
   show _↔(c∈ks\/(c=dec v\/_))
   rw[dv]
   have e:c∈(if k∈ks then ks else k::ks)↔c=k\/c∈ks:=by
    split
    ·rename_i z
     exact⟨.inr,λq=>q.elim (λq=>q▸z) λq=>q⟩
    ·exact mem_cons
   rw[e]
   constructor
   ·rintro((z|z)|z)
    ·exact .inr (.inl z)
    ·exact .inl z
    ·exact .inr (.inr z)
   ·rintro(z|z|z)
    ·exact .inl (.inr z)
    ·exact .inl (.inl z)
    ·exact .inr z
 case fin =>
  rintro b C ⟨f,ks,rfl,d,F,_,_,J⟩
  refine⟨f,ks,rfl,d,F,λk=>?_⟩
  rw[<-J k]
  simp
 case post =>
  rintro b C ⟨f,ks,rfl,d,F,J⟩
  exact aaw (h f ks d F J)
 ·rw[P.mem_iff]
theorem PX(c:∀k v,knd.is k v=true->dec v=k)(id:String)(m:∀k v,knd.is k v=true->∀b,v≠.ref b)(d:o≠r)(g:Good knd dec (yB w) s.heap r f)(e:Good knd dec (yB w) s.heap o i)(h0:f=[]->s.heap.get? r=some { cls:=.type "set",dict:=none,data:=.set #[] 0 (.fresh 0 0 (yB w)) })(p:(f.length+i.length)*2<=255){Q:Unit->Shared->Prop}(h:∀(h':Heap) (ks:List κ),SameBut r s.heap h'->Good knd dec (yB w) h' r ks->(∀k,k∈ks↔k∈f\/k∈i)->Q () { s with heap:=h' }) :
  wpAny (model prog w) A (Builtin.Frozenset.updateFrom id r (.ref o)) Q E s:=by
 obtain⟨ob,es,ep',t,n,h2,q,x,hlo,tb,hel,hp⟩:=e.size
 refine aav (Gz e.type ?_)
 simp only[↓reduceIte]
 refine aav (aaw ?_)
 refine aav (aby n q x ?_)
 cases f with
 |nil=>exact zGx (h0 rfl) (ac0 d) e (by grind) λh' u j=>h h' i u j λk=>by simp
 |cons a l =>
  refine zW8 c id m d g e (λz=>by cases z) p (λob' es' e' t' z1 z2=>?_) h
  grind
theorem V_(d:∀k v,knd.is k v=true->dec v=k)(u:∀k v,knd.is k v=true->∀b,v≠.ref b)(hab:b≠a)(g:Good knd dec (yB w) s.heap a n)(f:Good knd dec (yB w) s.heap b q)(hl:n.length<=63)(hl':q.length<=63){Q:Value->Shared->Prop}(h:∀(h':Heap) (p:List κ),Good knd dec (yB w) h' s.heap.objs.size p->(∀k,k∈p↔k∈n\/k∈q)->(∀c o,c<s.heap.objs.size->s.heap.get? c=some o->h'.get? c=some o)->Q (.ref s.heap.objs.size) { s with heap:=h' }) :
  wpAny (model prog w) A (binaryOp .BitOr (.ref a) (.ref b)) Q E s:=by
 have l:b<s.heap.objs.size:=by obtain⟨o,_,_,_,B,_⟩:=f;exact lt_size B
 refine aee (op:=.BitOr) (T:="set") g.type f.type F.fills_set_or F.slot_set_or (ab8 F.slot_set_or g.type zKp ?_ (F.args_set_or_2 _ _))
 refine aav (m:=Builtin.Frozenset.slot1 "__or__" ⟨[.ref a,.ref b],[]⟩) ?_
 unfold Builtin.Frozenset.slot1 slotArgs
 refine aaw ?_
 dsimp only
 refine aav (aav (Gz g.type ?_))
 refine Gz f.type ?_
 simp only[ac3,abg,↓reduceIte]
 refine aav (aaw (aav ?_))
 refine aav (m:=adp a) (zUp g (by lia) λh' G j D=>?_)
 have C:(abp b != .ref a)=true:=by
  grind
 rw[if_pos C]
 refine aav (aaw ?_)
 refine aav (abo (PX (s:={ s with heap:=h' }) d _ u (aa8 l) G (f.keep λo e=>j b o l e) (λz=>?_) (by lia) λr y t x m=>aaw (aaw ⟨.ref s.heap.objs.size,rfl,?_,h r y x m λc o i e=>?_⟩)))
 ·show h'.get? _=_
  rw[D z]
  exact get?_push_size _ rfl
 ·exactλz=>Value.noConfusion z
 ·rw[t.2 c (aa8 i)]
  exact j c o i e
end
end wk
namespace L2
open PySem PySem.Spec PyProof.Rows wk
section
variable{X:Cx}
def Lj(g d:Ip):Ip:=λσ H Q=>g σ H λb f=>b.length<64/\d σ f λc e=>∀a:LI,a.Nodup->(∀z,z∈a↔z∈b/\z∉c)->Q a e
theorem Jc(F:Es X a D)(l:Es X b C):Es X (.BinOp a .Sub b pos) (Lj D C):=by
 intro c s σ H Q I h
 refine ae0 (aV (F c s σ H _ I h) ?_)
 rintro u w ⟨p,ks,B,e,J,g,fo,R,N⟩
 subst e
 obtain⟨o,es,ep,t,x,gx,gd,_⟩:=id g
 have f:=J.pinned (fp:=[p]) (λb l=>by grind) (λb l=>by
  grind)
 refine aV (l _ w σ B _ f N) ?_
 rintro u2 d ⟨P,js,W,Z,q,L,j,S⟩
 subst Z
 have n:(p,o)∈X.pn++(c++Ks [p] w.heap):=mem_append_right _ (mem_append_right _ (Nk (mem_singleton.mpr rfl) x))
 have T:d.heap.get? p=some o:=(q.pin (p,o) n).1
 have Y:=g.keep (h':=d.heap) λo' A=>by rw[x] at A;cases A;exact T
 have U:P≠p:=ac0 (j.2.2.2.2.2 (p,o) n)
 have i:=q.gP
 refine PN YM (λk v O b z=>?_) U Y L (ade R) λM y r m k=>?_
 ·obtain⟨t,rfl⟩:=ac1 O
  cases z
 ·have E:=i.kept (h':=M) (t':=d.toks) λb o e=>k b o (lt_size e) e
  obtain⟨_,_,_,_,_,_,_,_,_,G,_⟩:=id r
  exact⟨_,y,W,rfl,E,r,i.pF (aaz _) (i.hok.fresh (aaz _)),S y G m⟩
def Wa(f g:Ip):Ip:=λσ H Q=>f σ H λc d=>c.length<64/\g σ d λb e=>b.length<64/\∀a:LI,a.Nodup->(∀z,z∈a↔z∈c\/z∈b)->Q a e
theorem P0(D:Es X a ta)(f:Es X b T):Es X (.BinOp a .BitOr b pos) (Wa ta T):=by
 intro c s σ H Q I h
 refine ae0 (aV (D c s σ H _ I h) ?_)
 rintro u r ⟨p,ks,W,e,J,g,fo,R,N⟩
 subst e
 obtain⟨o,es,ep,t,y,gx,gd,_⟩:=id g
 have i:=J.pinned (fp:=[p]) (λb f=>by grind) (λb f=>by
  grind)
 refine aV (f _ r σ W _ i N) ?_
 rintro u2 d ⟨P,js,Y,C,x,L,j,l,F⟩
 subst C
 have q:(p,o)∈X.pn++(c++Ks [p] r.heap):=mem_append_right _ (mem_append_right _ (Nk (mem_singleton.mpr rfl) y))
 have S:d.heap.get? p=some o:=(x.pin (p,o) q).1
 have Z:=g.keep (h':=d.heap) λo' B=>by rw[y] at B;cases B;exact S
 have U:P≠p:=ac0 (j.2.2.2.2.2 (p,o) q)
 have n:=x.gP
 refine V_ YM (λk v O b z=>?_) U Z L (ade R) (ade l) λM A w m k=>?_
 ·obtain⟨t,rfl⟩:=ac1 O
  cases z
 ·have E:=n.kept (h':=M) (t':=d.toks) λb o e=>k b o (lt_size e) e
  obtain⟨_,_,_,_,_,_,_,_,_,G,_⟩:=id w
  exact⟨_,A,Y,rfl,E,w,n.pF (aaz _) (n.hok.fresh (aaz _)),F A G m⟩
end
end L2
namespace Ts
open PySem L2
noncomputable def rK(ns a:LI):Option LI:=if ns.length<64/\a.length<4000 then some (vY (ns.filter λz=>!decide (z∈a))) else none
noncomputable def Jd(ns a:LI):Option LI:=if ns.length<64/\a.length<64/\(vY (ns++a)).length<64 then some (vY (ns++a)) else none
section
variable{K:Frag}{B:Bs}{sl:SL K}{md:Md}{t1 t2:TE}
theorem zQr(L:Ex B sl .hp t1 R)(h2:Ex B sl .hp t2 N):Eo B sl md (V0 (Lj (Ld K t1) (Ld K t2))) (R.bind λa=>N.bind λb=>rK a b):=λc P F O H σ Q s k=>by
 obtain⟨m,h,S,Z,d⟩:=sZ P
 unfold rK at d
 split at d
 case isFalse=>cases d
 rename_i f
 cases d
 refine L m S F O H σ _ s λv M T g E=>?_
 obtain⟨p,vs,rfl,C,z2⟩:=E
 have X:=z2.vals
 subst X
 refine⟨p,m,rfl,bN.of C,aa9 f.1 (by decide),λks I j=>⟨aa1 (Gy I λz i=>(j z).mp i) f.1,?_⟩⟩
 refine h2 h Z M O T σ _ (s.grow g) λw r H2 J x=>?_
 obtain⟨U,vs',rfl,Y,t⟩:=x
 have G:=t.vals
 subst G
 refine⟨U,h,rfl,bN.of Y,f.2,λjs jd A rs o n=>⟨aa1 (Gy o λz i=>(j z).mp ((n z).mp i).1) f.1,λl y D q u=>?_⟩⟩
 have e:y=vY (m.filter λz=>!decide (z∈h)):=Iu (Tw u (q.nodup_iff.mpr o)) (Ir _) λz=>by rw[q.mem_iff,n,j,A,bG,mem_filter,Bool.not_eq_true',decide_eq_false_iff_not]
 subst e
 exact k l _ r H2 (g.trans J) D (Gu _)
theorem zUf(L:Ex B sl .hp t1 P)(h2:Ex B sl .hp t2 N):Eo B sl md (V0 (Wa (Ld K t1) (Ld K t2))) (P.bind λa=>N.bind λb=>Jd a b):=λc A F O H σ Q s k=>by
 obtain⟨r,o,R,T,h⟩:=sZ A
 unfold Jd at h
 split at h
 case isFalse=>cases h
 rename_i f
 cases h
 refine L r R F O H σ _ s λv M S g E=>?_
 obtain⟨p,vs,rfl,C,z2⟩:=E
 have X:=z2.vals
 subst X
 refine⟨p,r,rfl,bN.of C,aa9 f.1 (by decide),λks I i=>⟨aa1 (Gy I λz d=>(i z).mp d) f.1,?_⟩⟩
 refine h2 o T M O S σ _ (s.grow g) λw t H2 J y=>?_
 obtain⟨U,vs',rfl,Y,Z⟩:=y
 have G:=Z.vals
 subst G
 refine⟨U,o,rfl,bN.of Y,aa9 f.2.1 (by decide),λjs x j=>⟨aa1 (Gy x λz d=>(j z).mp d) f.2.1,λrs q m=>⟨aa1 (Gy q λz d=>bG.mpr (mem_append.mpr (((m z).mp d).imp (i z).mp (j z).mp))) f.2.2,λl us D n u=>?_⟩⟩⟩
 have e:=Iu (Tw u (n.nodup_iff.mpr q)) (Ir _) λz=>by rw[n.mem_iff,m,i,j,bG,mem_append]
 subst e
 exact k l _ t H2 (g.trans J) D (Gu _)
end
end Ts
namespace L2
open PySem PySem.Spec PyProof.Rows
structure u_(K:Frag)(C:Addr)(m:Str)(f:Addr):Prop where
 sp:specialIn K (.ref C) "__getattribute__" = some (some (.builtin "type.__getattribute__"))
 rd:PySem.W.readsIn K C (.type "type")=true
 at_:PySem.W.findCls K (.ref C) (.type "type") m=some (.val (.ref f))
 kp:keepIn K (.ref f)=true
section
variable{X:Cx}{CX:Dd}{k:Nat}{f C:Addr}{fd:FuncData}{ps:List Str}{sp:Sp}{sO:List V}{ds:List Value}{E:XK}{x m:Str}{p pos apos:Pos}{e o:Expr}{es:List Expr}{ta:TE}{t:TA}
theorem Aj(D:Gl X x)(v:X.mg x=some (.ref C))(c:u_ X.K C m f)(F:au X.prog X.w X.K X.mg X.base CX k f fd ps sp)(hr:cI k X.A)(B:Binds X.K fd ps ds)(hd:Vals sO ds)(y:Ho CX X E)(n:PA X (e::es) t)(d:(x==("__debug__":Str))=false:=by decide)(i:starEach (e::es) X.env=(false,eval e X.env)::starEach es X.env:=by rfl)(g:(backTo pos (starEach es X.env)).any (·.1)=false:=by rfl)(z:eval (.Call (.Attribute (.Name x p) m apos) (e::es) [] pos) X.env=(do
   let j <-eval (.Name x p) X.env
   standAt apos.atName
   let(f,first) <-holding [j] (getMethod j m pl)
   callWith pos f first (backTo pos (starEach (e::es) X.env)) (backToKw pos (keywordEach [] X.env))):=by rfl) :
  PE X (.Call (.Attribute (.Name x p) m apos) (e::es) [] pos) (UL sp sO E t):=by
 intro b s σ H Q I h
 refine aeo (Uo I D v ?_ d) z
 refine PySem.W.method_cls I.lX c.sp (PySem.W.cls_value I.lX c.rd c.at_ rfl ?_)
 have u:=I.tok (s.toks+1)
 refine aes I.ok.mod.Sq c.kp (aV (n pos b _ σ H _ u h) λus s1 ⟨vs,H1,l,r,q⟩=>⟨l.lX,?_⟩) i g
 exact X6 F hr B hd y l r q
end
end L2
namespace Sy
open PySem L2
inductive Tr where
 |all
 |mark (x:Str)
 |one (i:Fin 7) (t:Tr)
 |two (i:Fin 4) (l r:Tr)
def w1(i:Fin 7):Str:=(["not","somenext","eachnext","somealways","eachalways","someever","eachever"]:List Str).getD i.val adz
def w2(i:Fin 4):Str:=(["both","either","sometill","eachtill"]:List Str).getD i.val adz
def Tr.depth:Tr->Nat
 |.all=>0
 |.mark _=>0
 |.one _ t=>t.depth+1
 |.two _ l r=>max l.depth r.depth+1
def Kp(p:Addr)(H H':Hp):Prop:=∀b o,b≠p->H b=some o->H' b=some o
theorem Kp.of(s:Same H H'):Kp p H H':=λb o _ e=>s b o e
theorem Kp.trans(a:Kp p H d)(b:Kp p d f):Kp p H f:=λc o n e=>b c o n (a c o n e)
theorem Kp.put(p:Addr)(H:Hp)(o:HO):Kp p H (upd H p o):=λb u n e=>by rw[zX n];exact e
theorem aK(h:H p=none)(o:HO):Same H (upd H p o):=λb u q=>by rw[zX (zW q h)];exact q
def Dk(w:V)(q:Addr):List (Str×V):=aH "parts" (.ref q) (aH "word" w [])
def Ci(w v:V)(q:Addr):List (Str×V):=aH "part" v (Dk w q)
def Cj(w v u:V)(q:Addr):List (Str×V):=aH "right" u (aH "left" v (Dk w q))
def TJ(x:V)(q:Addr):List (Str×V):=aH "name" x (Dk x q)
theorem cJ(f:Str)(v:V):∀fs:List (Str×V),(aH f v fs).length<=fs.length+1
 |[]=>aaz _
 | (g,x)::r=>by
  unfold aH
  split
  ·exact ab7 _
  ·exact acq (cJ f v r)
theorem YW(w:V)(q:Addr):(Dk w q).length<=2:=by
 have a1:=cJ "parts" (V.ref q) (aH "word" w [])
 have a2:=cJ "word" w []
 have a3:([]:List (Str×V)).length=0:=rfl
 show(aH "parts" (V.ref q) (aH "word" w [])).length<=2
 lia
structure jg(K:Frag)(C:Addr):Prop where
 cl:Cls K C
 nW:bO K C "word"
 nP:bO K C "parts"
 n1:bO K C "part"
 nL:bO K C "left"
 nR:bO K C "right"
 nN:bO K C "name"
inductive Hd where
 |all
 |mark
 |one (i:Fin 7)
 |two (i:Fin 4)
def spS(K:Frag):Sp:=λc H Q _=>∃(p C b:Addr)(x y:V),c=[.ref p,x,y]/\H p=some (.ins C b [])/\jg K C/\∀a:Hp,Kp p H a->a p=some (.ins C b (aH "parts" y (aH "word" x [])))->Q .non a
def wz(K:Frag):Sp:=λc H Q _=>∃(p C b:Addr)(x v:V),c=[.ref p,x,v]/\H p=some (.ins C b [])/\jg K C/\∀(q:Addr)(a:Hp),Kp p H a->H q=none->a q=some (.tup [v])->a p=some (.ins C b (Ci x v q))->Q .non a
def Ey(K:Frag):Sp:=λc H Q _=>∃(p C b:Addr)(x v u:V),c=[.ref p,x,v,u]/\H p=some (.ins C b [])/\jg K C/\∀(q:Addr)(a:Hp),Kp p H a->H q=none->a q=some (.tup [v,u])->a p=some (.ins C b (Cj x v u q))->Q .non a
def P_(C:Addr):Sp:=λc H Q _=>∃(p b:Addr),c=[.ref p]/\H p=some (.ins C b [])/\∀(q:Addr)(a:Hp),Kp p H a->H q=none->a q=some (.tup [])->a p=some (.ins C b (Dk (.str "all") q))->Q .non a
def Qa(C:Addr):Sp:=λc H Q _=>∃(p b:Addr)(x:V),c=[.ref p,x]/\H p=some (.ins C b [])/\∀(q:Addr)(a:Hp),Kp p H a->H q=none->a q=some (.tup [])->a p=some (.ins C b (TJ x q))->Q .non a
def tE(C:Addr)(w:Str):Sp:=λc H Q _=>∃(p b:Addr)(v:V),c=[.ref p,v]/\H p=some (.ins C b [])/\∀(q:Addr)(a:Hp),Kp p H a->H q=none->a q=some (.tup [v])->a p=some (.ins C b (Ci (.str w) v q))->Q .non a
def Ck(C:Addr)(w:Str):Sp:=λc H Q _=>∃(p b:Addr)(v u:V),c=[.ref p,v,u]/\H p=some (.ins C b [])/\∀(q:Addr)(a:Hp),Kp p H a->H q=none->a q=some (.tup [v,u])->a p=some (.ins C b (Cj (.str w) v u q))->Q .non a
inductive fj(cl:Hd->Addr)(H:Hp):Addr->Tr->Prop where
 |all {p q dx:Addr}:H p=some (.ins (cl .all) dx (Dk (.str "all") q))->H q=some (.tup [])->fj cl H p .all
 |mark {p q dx:Addr} {x:Str}:H p=some (.ins (cl .mark) dx (TJ (.str x) q))->H q=some (.tup [])->fj cl H p (.mark x)
 |one {p q dx c:Addr} {i:Fin 7} {t:Tr}:H p=some (.ins (cl (.one i)) dx (Ci (.str (w1 i)) (.ref c) q))->H q=some (.tup [.ref c])->fj cl H c t->fj cl H p (.one i t)
 |two {p q dx c d:Addr} {i:Fin 4} {l r:Tr}:H p=some (.ins (cl (.two i)) dx (Cj (.str (w2 i)) (.ref c) (.ref d) q))->H q=some (.tup [.ref c,.ref d])->fj cl H c l->fj cl H d r->fj cl H p (.two i l r)
theorem fj.same(h:fj cl H p t)(s:Same H H'):fj cl H' p t:=by
 induction h with
 |all a b=>exact .all (s _ _ a) (s _ _ b)
 |mark a b=>exact .mark (s _ _ a) (s _ _ b)
 |one a b _ ih=>exact .one (s _ _ a) (s _ _ b) ih
 |two a b _ _ d c=>exact .two (s _ _ a) (s _ _ b) d c
def hd:Tr->Hd
 |.all=>.all
 |.mark _=>.mark
 |.one i _=>.one i
 |.two i _ _=>.two i
def hw:Tr->Str
 |.all=>"all"
 |.mark x=>x
 |.one i _=>w1 i
 |.two i _ _=>w2 i
def Ak:Tr->List Tr
 |.all=>[]
 |.mark _=>[]
 |.one _ t=>[t]
 |.two _ l r=>[l,r]
theorem kw1:¬(("word":Str) = "parts"):=by decide +kernel
theorem kw2:¬(("word":Str) = "part"):=by decide +kernel
theorem kw3:¬(("word":Str) = "left"):=by decide +kernel
theorem kw4:¬(("word":Str) = "right"):=by decide +kernel
theorem kw5:¬(("word":Str) = "name"):=by decide +kernel
theorem kp2:¬(("parts":Str) = "part"):=by decide +kernel
theorem kp3:¬(("parts":Str) = "left"):=by decide +kernel
theorem kp4:¬(("parts":Str) = "right"):=by decide +kernel
theorem kp5:¬(("parts":Str) = "name"):=by decide +kernel
theorem YX(w:V)(q:Addr):(Dk w q).lookup ("word":Str)=some w:=by unfold Dk;rw[zS,if_neg kw1,zS,if_pos rfl]
theorem YZ(w:V)(q:Addr):(Dk w q).lookup ("parts":Str)=some (.ref q):=by unfold Dk;rw[zS,if_pos rfl]
theorem Y0(w:V)(q:Addr){m:Str}(a:¬m = "parts")(h2:¬m = "word"):(Dk w q).lookup m=none:=by
 unfold Dk
 rw[zS,if_neg a,zS,if_neg h2]
 rfl
theorem fj.look(h:fj cl H p t):∃(l q:Addr)(fs:List (Str×V))(j:List Addr),H p=some (.ins (cl (hd t)) l fs)/\fs.lookup ("word":Str)=some (.str (hw t))/\fs.lookup ("parts":Str)=some (.ref q) /\
  (∀m:Str,¬m = "word"->¬m = "parts"->¬m = "part"->¬m = "left"->¬m = "right"->¬m = "name"->fs.lookup m=none)/\H q=some (.tup (j.map V.ref))/\Paired (fj cl H) j (Ak t):=by
 cases h with
 |all e g=>exact⟨_,_,_,[],e,YX _ _,YZ _ _,λm a b _ _ _ _=>Y0 _ _ b a,g,.nil⟩
 |mark e g =>
  refine⟨_,_,_,[],e,?_,?_,λm a b _ _ _ f=>?_,g,.nil⟩
  ·unfold TJ;rw[zS,if_neg kw5];exact YX _ _
  ·unfold TJ;rw[zS,if_neg kp5];exact YZ _ _
  ·unfold TJ;rw[zS,if_neg f];exact Y0 _ _ b a
 |one e g i =>
  refine⟨_,_,_,[_],e,?_,?_,λm a b c _ _ _=>?_,g,.cons i .nil⟩
  ·unfold Ci;rw[zS,if_neg kw2];exact YX _ _
  ·unfold Ci;rw[zS,if_neg kp2];exact YZ _ _
  ·unfold Ci;rw[zS,if_neg c];exact Y0 _ _ b a
 |two e g i k =>
  refine⟨_,_,_,[_,_],e,?_,?_,λm a b _ c d _=>?_,g,.cons i (.cons k .nil)⟩
  ·unfold Cj;rw[zS,if_neg kw4,zS,if_neg kw3];exact YX _ _
  ·unfold Cj;rw[zS,if_neg kp4,zS,if_neg kp3];exact YZ _ _
  ·unfold Cj;rw[zS,if_neg d,zS,if_neg c];exact Y0 _ _ b a
theorem zSi(h:u∈Ak t):u.depth<t.depth:=by
 cases t with
 |all=>cases h
 |mark x=>cases h
 |one i t=>simp[Ak] at h;subst h;exact acp _
 |two i l r =>
  simp[Ak] at h
  rcases h with rfl|rfl
  ·show _<max _ _+1;lia
  ·show _<max _ _+1;lia
def n1(i:Fin 7):Str:=(["Not","SomeNext","EachNext","SomeAlways","EachAlways","SomeEver","EachEver"]:List Str).getD i.val adz
def n2(i:Fin 4):Str:=(["Both","Either","SomeTill","EachTill"]:List Str).getD i.val adz
structure Ini(P:Program)(w:World)(K:Frag)(mg:Str->Option Value)(base:Heap)(k:Nat)(cl fi:Hd->Addr)(di:Hd->FuncData):Prop where
 made:∀h,Mk K (cl h) (fi h)
 iA:au P w K mg base aP k (fi .all) (di .all) ["self"] (P_ (cl .all))
 bA:Binds K (di .all) ["self"] []
 iM:au P w K mg base aP k (fi .mark) (di .mark) ["self","name"] (Qa (cl .mark))
 bM:Binds K (di .mark) ["self","name"] []
 i1:∀i,au P w K mg base aP k (fi (.one i)) (di (.one i)) ["self","part"] (tE (cl (.one i)) (w1 i))
 b1:∀i,Binds K (di (.one i)) ["self","part"] []
 i2:∀i,au P w K mg base aP k (fi (.two i)) (di (.two i)) ["self","left","right"] (Ck (cl (.two i)) (w2 i))
 b2:∀i,Binds K (di (.two i)) ["self","left","right"] []
 mA:mg "All" = some (.ref (cl .all))
 mM:mg "Mark" = some (.ref (cl .mark))
 m1:∀i,mg (n1 i)=some (.ref (cl (.one i)))
 m2:∀i,mg (n2 i)=some (.ref (cl (.two i)))
theorem zTd(d:H x=none)(c:H a=none):Same H (upd (upd H a (.own x)) x (.ins C a [])):=λb o e=>by
 rw[zX (zW e d),zX (zW e c)]
 exact e
theorem Y4(a:H x=none)(d:H c=none)(k:Kp x (upd (upd H c (.own x)) x (.ins C c [])) H'):Same H H':=λb o e=>k b o (zW e a) (zTd a d b o e)
end Sy
namespace Ts
open PySem L2 Sy
structure bR(cl:Hd->Addr) where
 t:Tr
def lH:Hd->Tr->Bool
 |.all,.all=>true
 |.mark,.mark _=>true
 |.one i,.one j _=>decide (j=i)
 |.two i,.two j _ _=>decide (j=i)
 |_,_=>false
def bR.parts(x:bR cl):List (bR cl):=(Ak x.t).map bR.mk
noncomputable def bR.name(x:bR cl):Option Str:=match x.t with
 |.mark s=>some s
 |_=>none
structure qX(P:Program)(w:World)(K:Frag)(mg:Str->Option Value)(base:Heap)(k:Nat)(cl fi:Hd->Addr)(di:Hd->FuncData):Prop where
 ini:Ini P w K mg base k cl fi di
 kd:∀h,jg K (cl h)
 rG:∀h h':Hd,∀t:Tr,hd t=h->kitOne K (.ref (cl h)) (.ref (cl h'))=some (lH h' t)
 c1:∀h,findIn K (.ref (cl h)) "__class__" = some (some (.builtin "object.__class__"))
 c2:specialIn K (.builtin "object.__class__") "__get__" = some (some (.builtin "getset_descriptor.__get__"))
 c3:takesIn K (.builtin "object.__class__")=some true
 c4:∀h,mroIn K (cl h) (.type "object")=some true
section
variable{K:Frag}{cl:Hd->Addr}
instance:Rp K (bR cl):=⟨λF v x=>∃p,v=.ref p/\fj cl F p x.t,λs ⟨p,h1,h2⟩=>⟨p,h1,h2.same s⟩⟩
end
section
variable{K:Frag}{B:Bs}{F H H2:Hp}{O:Own}
theorem Lk(k:Ok B F O H)(s:Same H H2)(a:H x=none)(e:H2 x=some o):∀md:Md,reg B (ext F H H2) H2 md x=some o
 |.hp=>e
 |.fz=>by
  show ext F H H2 x=some o
  unfold ext
  grind
 |.nw=>by
  show dif (ext F H H2) B.H0 x=some o
  rw[wP (k.h0.free a)]
  unfold ext
  grind
end
section
variable{P:Program}{w:World}{K:Frag}{mg:Str->Option Value}{base:Heap}{B:Bs}{sl:SL K}{md:Md}{te t1 t2:TE}{cl fi:Hd->Addr}{di:Hd->FuncData}{k:Nat}
theorem Y5(h:upd (upd H c o1) x o2 q=none):H q=none:=by
 by_cases a:q=x
 ·subst a;rw[zT] at h;cases h
 ·rw[zX a] at h
  by_cases b:q=c
  ·subst b;rw[zT] at h;cases h
  ·rw[zX b] at h;exact h
theorem Je:Ex B sl md (Nx (cl .all) (P_ (cl .all)) [] E0 bT) (some (bR.mk (cl:=cl) .all)):=λc j F O H σ Q s d=>by
 cases j
 intro x h b f ne
 refine⟨x,h,rfl,zT,λq n m e l i=>⟨rfl,?_⟩⟩
 have a:=Y4 b f m
 have g:=s.1.called a
 exact d (.ref x) _ n g ⟨x,rfl,.all (Lk s.1 a b i md) (Lk s.1 a (Y5 e) l md)⟩
theorem Jf(h:Ex B sl md te m):Ex B sl md (Nx (cl .mark) (Qa (cl .mark)) [] E0 (wI te bT)) (m.bind λa=>some (bR.mk (cl:=cl) (.mark a))):=λc d F O H σ Q s f=>by
 cases m with
 |none=>cases d
 |some a =>
  cases d
  refine h a rfl F O H σ _ s λv F' H' g i=>?_
  cases i
  intro x n e j ne
  refine⟨x,n,.str a,rfl,zT,λq u t r p o=>⟨rfl,?_⟩⟩
  have b:=Y4 e j t
  have l:=g.ok.called b
  exact f (.ref x) _ u (g.trans l) ⟨x,rfl,.mark (Lk g.ok b e o md) (Lk g.ok b (Y5 r) p md)⟩
theorem Qc(i:Fin 7){m:Option (bR cl)}(h:Ex B sl md te m):Ex B sl md (Nx (cl (.one i)) (tE (cl (.one i)) (w1 i)) [] E0 (wI te bT)) (m.bind λa=>some (bR.mk (cl:=cl) (.one i a.t))):=λc d F O H σ Q s j=>by
 cases m with
 |none=>cases d
 |some a =>
  cases d
  refine h a rfl F O H σ _ s λv F' H' g r=>?_
  obtain⟨p,rfl,n⟩:=r
  intro x l f u ne
  refine⟨x,l,.ref p,rfl,zT,λq C A o z y=>⟨rfl,?_⟩⟩
  have b:=Y4 f u A
  have e:=g.ok.called b
  exact j (.ref x) _ C (g.trans e) ⟨x,rfl,.one (Lk g.ok b f y md) (Lk g.ok b (Y5 o) z md) (n.same (xX e md))⟩
theorem Y6(i:Fin 4){h l:Option (bR cl)}(J:Ex B sl md t1 h)(h2:Ex B sl md t2 l):Ex B sl md (Nx (cl (.two i)) (Ck (cl (.two i)) (w2 i)) [] E0 (wI t1 (wI t2 bT))) (h.bind λa=>l.bind λb=>some (bR.mk (cl:=cl) (.two i a.t b.t))):=λc n F O H σ Q s m=>by
 obtain⟨a,b,r,z,R⟩:=sZ n
 cases R
 refine J a r F O H σ _ s λv L y g E=>?_
 refine h2 b z L O y σ _ (s.grow g) λw F2 H2' d S=>?_
 obtain⟨p,rfl,D⟩:=E
 obtain⟨I,rfl,M⟩:=S
 intro x A j G ne
 refine⟨x,A,.ref p,.ref I,rfl,zT,λq T u C o N=>⟨rfl,?_⟩⟩
 have e:=Y4 j G u
 have f:=d.ok.called e
 exact m (.ref x) _ T (g.trans (d.trans f)) ⟨x,rfl,.two (Lk d.ok e j N md) (Lk d.ok e (Y5 C) o md) (D.same (xX (d.trans f) md)) (M.same (xX f md))⟩
theorem uE(I:qX P w K mg base k cl fi di)(b:Hd){m:Option (bR cl)}(h:Ex B sl .hp te m):Ex B sl md (Ag (HB K (.ref (cl b))) (wI te (wI (tC (.ref (cl b))) bT))) (m.bind λa=>some (lH b a.t)):=λc d F O H σ Q s e=>by
 cases m with
 |none=>cases d
 |some a =>
  cases d
  refine h a rfl F O H σ _ s λv l f g j=>?_
  obtain⟨p,rfl,i⟩:=j
  obtain⟨dx,q,fs,cs,n,_⟩:=i.look
  exact⟨.ref p,.ref (cl b),_,_,rfl,rfl,.ins n (I.kd (hd a.t)).cl (I.c1 _) I.c2 I.c3 (I.c4 _),I.rG (hd a.t) b a.t rfl,e _ l f g rfl⟩
theorem zQq(I:qX P w K mg base k cl fi di){m:Option (bR cl)}(h:Ex B sl .hp te m):Ex B sl md (sJ K te "name") (m.bind λa=>a.name):=λc b F O H σ Q s d=>by
 cases m with
 |none=>cases b
 |some a =>
  obtain⟨t⟩:=a
  cases t with
  |mark x =>
   cases b
   refine h _ rfl F O H σ _ s λv i l g f=>?_
   obtain⟨p,rfl,e⟩:=f
   cases e with
   |mark j e2=>exact⟨p,_,_,_,_,rfl,j,(I.kd .mark).cl,(I.kd .mark).nN,by unfold TJ;rw[zS,if_pos rfl],d _ i l g rfl⟩
  |_=>cases b
theorem Ln:∀{a:List Addr}{ts:List Tr},Paired (fj cl F) a ts->A2 (rp K F) (a.map V.ref) (ts.map (bR.mk (cl:=cl)))
 |_,_,.nil=>trivial
 |_,_,.cons h r=>⟨⟨_,rfl,h⟩,Ln r⟩
theorem zXu{n:Bool}(I:qX P w K mg base k cl fi di){mi:Option (bR cl)}(h:Ex B sl (j9 n) te mi):Ei B sl n (Nh K (sJ K te "parts")) (mi.bind λa=>some a.parts):=λxs b F O H σ R a t=>by
 cases mi with
 |none=>cases b
 |some y =>
  cases b
  refine h y rfl F O H σ _ a λv l j c r=>?_
  obtain⟨p,rfl,A⟩:=r
  obtain⟨L,q,N,o,S,l2,E,l4,f,D⟩:=A.look
  have s:A2 (rp K (reg B l j (j9 n))) (o.map V.ref) y.parts:=Ln D
  have u:=HD c.ok n p _ S
  refine⟨p,_,L,N,.ref q,rfl,u,(I.kd _).cl,(I.kd _).nP,E,q,rfl,⟨_,ni.of (HD c.ok n q _ f)⟩,t _ l j c λi Q O2 M m g=>?_⟩
  have d:ni K M q (o.map V.ref):=ni.of (g.fh _ _ (m _ _ (by cases n with|true=>exact bQ _ _ f|false=>exact f)))
  refine⟨λG=>⟨_,d,by rw[s.len];exact G⟩,λx b=>?_⟩
  obtain⟨w,hw,C⟩:=s.at2 b
  refine⟨⟨_,w,d,hw⟩,λv H3 z=>?_⟩
  obtain⟨e,J⟩:=z
  subst e
  have:=(hw.symm.trans (J _ d))
  cases this
  exact⟨Q,.refl g,Rp.mono (vG n m) C⟩
end
theorem Qd(K:Frag)(b:PE X l a)(h:X.K=K:=by rfl):PI X tg l (Nh K a):=by subst h;exact Ni b
section
variable{K:Frag}{B:Bs}{sl:SL K}{md:Md}{te:TE}{α:Type}[Rp K α]
noncomputable def Ez{α:Type}(xs ys:List α):Option (List α):=if xs.length+ys.length<cap then some (xs++ys) else none
theorem zPs{n:Bool}{xs:List α}{m:Option (List α)}(i:Nat)(t:sl[i]?=some (.ow n xs))(w:sl.all (λs=>!pJ s)=true)(h:Ex B sl (j9 n) te m) :
  Sn B sl (Kq (N6 K "list" zMm (eU i) (wI te bT))) (λys=>sl.set i (.ow n ys)) (m.bind λa=>Ez xs a):=λys u G D σ H s k=>by
 cases m with
 |none=>cases u
 |some a =>
  have b:Ez xs a=some ys:=u
  unfold Ez at b
  split at b
  case isFalse=>cases b
  rename_i E
  cases b
  obtain⟨F,O,g,z⟩:=s
  obtain⟨p,vs,x,L,h3,_⟩:=z.chg t w
  refine⟨_,x,.inl ⟨rfl,_,bN.of L⟩,?_⟩
  refine h a rfl F O H σ _ z λv M H' l r=>?_
  obtain⟨p',j,o,d,c,f⟩:=(z.grow l).chg t w
  have e:=x.symm.trans o
  cases e
  obtain⟨q,A,rfl,I,y⟩:=r
  obtain⟨C,J⟩:=f (j++A) (xs++a) (c.app y)
  exact⟨p,q,_,_,rfl,rfl,d,HD l.ok n q _ I,by rw[c.len,y.len];exact acz (HF E),k _ _ ⟨M,C,g.trans l.ff,J⟩⟩
end
inductive Lp where
 |none
 |step (n:Int)
 |shut
 |walk (xs:LI)
 |out
 |loop (xs ys:LI)
 |rank (n:Int) (o:Option Int)
 |here
 |dead
 |plain
def Lp.word:Lp->Str
 |.none=>"none"
 |.step _=>"step"
 |.shut=>"shut"
 |.walk _=>"walk"
 |.out=>"out"
 |.loop _ _=>"loop"
 |.rank _ _=>"rank"
 |.here=>"here"
 |.dead=>"dead"
 |.plain=>"plain"
def Lp.len:Lp->Int
 |.step _=>2
 |.walk _=>2
 |.loop _ _=>3
 |.rank _ _=>3
 |_=>1
def Lp.at1:Lp->Option Int
 |.step n=>some n
 |.rank n _=>some n
 |_=>afh
section
variable{K:Frag}
def Lp.rest(K:Frag)(F:Hp):Lp->List V->Prop
 |.step n,c=>c=[.int n]
 |.walk d,c=>∃a,c=[a]/\rp K F a d
 |.loop d e,c=>∃a b,c=[a,b]/\rp K F a d/\rp K F b e
 |.rank n o,c=>∃b,c=[.int n,b]/\rp K F b o
 |_,c=>c=[]
end
end Ts
namespace L2
open PySem PySem.Spec PyProof.Rows
section
variable{X:Cx}
def Wb:V->Option Int->Option Int->Hp->VK->Prop:=λx lo a H Q=>∃z j,x=.str z/\lo=none/\a=some j/\z.length<=sizeLine/\Q (.str (Txt.slice z none (some j))) H
theorem Qe:SlR X Wb:=by
 intro pins s σ H x v vl vu lo hi sl Q I f e d a h
 obtain⟨z,j,rfl,rfl,rfl,c,q⟩:=h
 obtain⟨t,rfl⟩:=f
 cases d
 cases a with
 |int _ g =>
  refine⟨"str",_,PySem.F.slot_str_getitem.lookup,typeIs_str _ _ _,?_⟩
  exact wpAny_getItem_str_slice (l:=none) (u:=some (j,g)) (st:=none) e rfl (post_val_or_str ⟨aa4 (Txt.slice_le z _ _) c,λb k=>⟨.str _,H,I.tok k,⟨b,rfl⟩,q⟩⟩)
def Lq:R2:=λx y H Q=>∃i j,x=.str i/\y=.str j/\i.length+j.length<=sizeLine/\Q (.str (i++j)) H
theorem zMr:lE X (binaryOp .Add) Lq:=zP4
def Lr:R2:=λx y H Q=>∃z i c,x=.str z/\y=.int i/\0<=i/\i<2^63/\i<z.length/\z.cps[i.toNat]?=some c/\Q (.str ⟨#[c]⟩) H
theorem zZa(g:PE X a d)(c:PE X b e)(f:zPc b):PE X (.Subscript a b pos) (jf Lr d e):=zMp g c f
end
end L2
namespace Ts
open PySem L2
section
variable{K:Frag}{B:Bs}{sl:SL K}{md:Md}{t t1 t2:TE}
noncomputable def pP(a b:Str):Option Str:=if a.length+b.length<=1000 then some (a++b) else none
theorem zNe(j:Ex B sl .hp t1 p)(h2:Ex B sl .hp t2 m):Ex B sl md (jf Lq t1 t2) (p.bind λa=>m.bind λb=>pP a b):=λc o F O H σ Q s k=>by
 obtain⟨a,b,q,e,d⟩:=sZ o
 unfold pP at d
 split at d
 case isFalse=>cases d
 rename_i l
 cases d
 refine j a q F O H σ _ s λv i u g f=>?_
 refine h2 b e i O u σ _ (s.grow g) λw x r h n=>?_
 cases f
 cases n
 exact⟨a,b,rfl,rfl,aa4 l (by decide),k _ x r (g.trans h) rfl⟩
noncomputable def Jg(z:Str)(i:Int):Option Str:=if 0<=i/\i<2^63/\i<z.length then(z.cps[i.toNat]?).map λc=>⟨#[c]⟩ else none
theorem zZu(l:Ex B sl .hp t1 q)(h2:Ex B sl .hp t2 n):Ex B sl md (jf Lr t1 t2) (q.bind λa=>n.bind λb=>Jg a b):=λc p F O H σ Q s k=>by
 obtain⟨a,b,r,h,d⟩:=sZ p
 unfold Jg at d
 split at d
 case isFalse=>cases d
 rename_i f
 cases e:a.cps[b.toNat]? with
 |none=>grind
 |some z =>
  rw[e] at d
  cases d
  refine l a r F O H σ _ s λv j x g m=>?_
  refine h2 b h j O x σ _ (s.grow g) λw y u i o=>?_
  cases m
  cases o
  exact⟨a,b,z,rfl,rfl,f.1,f.2.1,f.2.2,e,k _ y u (g.trans i) rfl⟩
noncomputable def Jh(z:Str)(j:Int):Option Str:=if z.length<=1000 then some (Txt.slice z none (some j)) else none
theorem Ji(j:Ex B sl .hp t1 p)(h2:Ex B sl .hp t2 m):Ex B sl md (tSl Wb t1 zRl (Kz t2)) (p.bind λa=>m.bind λb=>Jh a b):=λc o F O H σ Q s k=>by
 obtain⟨a,b,q,e,d⟩:=sZ o
 unfold Jh at d
 split at d
 case isFalse=>cases d
 rename_i l
 cases d
 refine j a q F O H σ _ s λv i u g f=>?_
 refine h2 b e i O u σ _ (s.grow g) λw x r h n=>?_
 cases f
 cases n
 exact⟨b,rfl,a,b,rfl,rfl,rfl,aa4 l (by decide),k _ x r (g.trans h) rfl⟩
end
theorem Ls{β:Type}[Rp K β]{m:Option β}(sl2:SL K)(h:SB B sl2 t al m)(e:a=sl2:=by rfl):SB B a t al m:=e▸h
structure Cm(α β γ:Type) where
 a:α
 b:β
 c:γ
section
variable{K:Frag}{B:Bs}{sl:SL K}{md:Md}{n:Bool}{α β γ S:Type}[Rp K α][Rp K β][Rp K γ]{te t1 t2 t3:TE}
instance:Rp K (Cm α β γ):=⟨λF v x=>∃p u w z,v=.ref p/\F p=some (.tup [u,w,z])/\rp K F u x.a/\rp K F w x.b/\rp K F z x.c,λs h=>by
  obtain⟨p,u,w,z,h1,h2,h3,h4,h5⟩:=h
  exact⟨p,u,w,z,h1,s _ _ h2,Rp.mono s h3,Rp.mono s h4,Rp.mono s h5⟩⟩
theorem zT4{h:Option α}{j:Option β}{i:Option γ}(r:Ex B sl md t1 h)(h2:Ex B sl md t2 j)(x:Ex B sl md t3 i):Ex B sl md (Nv (wI t1 (wI t2 (wI t3 bT)))) (h.bind λa=>j.bind λb=>i.bind λc=>some (Cm.mk a b c)):=λd g F O H σ Q s o=>by
 cases h with
 |none=>cases g
 |some a =>
  cases j with
  |none=>cases g
  |some b =>
   cases i with
   |none=>cases g
   |some c =>
    cases(g)
    refine r a rfl F O H σ _ s λv z t l D=>?_
    refine h2 b rfl z O t σ _ (s.grow l) λw A y k q=>?_
    refine x c rfl A O y σ _ ((s.grow l).grow k) λu F3 H3 e C=>?_
    refine⟨by show 3<=sizeLine;decide,λp m=>?_⟩
    have f:=cG.new e.ok m (.tup [v,w,u])
    exact o _ _ _ (l.trans (k.trans (e.trans f))) ⟨p,v,w,u,rfl,Vh e.ok m md,Rp.mono (xX (k.trans (e.trans f)) md) D,Rp.mono (xX (e.trans f) md) q,Rp.mono (xX f md) C⟩
theorem Jj(i j l:Nat)(q:sl[i]?=some s)(D:lG s=false)(f:∀x:Slot K,(sl.set i x)[j]?=some s')(m:lG s'=false)(e:∀x y:Slot K,((sl.set i x).set j y)[l]?=some u)(g:lG u=false) :
  Tg B sl n (G7 K 3 (SJ (vm i) (SJ (vm j) (SJ (vm l) Nf)))) (λx:Cm α β γ=>((sl.set i (.fz n x.a)).set j (.fz n x.b)).set l (.fz n x.c)):=λv x F O H σ Q a r k=>by
 obtain⟨p,o,h,d,rfl,t,C,A,w⟩:=r
 refine⟨p,[o,h,d],rfl,.inl (.inl (zRj a.1 t)),rfl,o,[h,d],rfl,h,[d],rfl,d,[],rfl,rfl,?_⟩
 exact k _ ⟨a.1,((a.2.put (λ_ _ _ z=>.fz C z) q D).put (λ_ _ _ z=>.fz A z) (f _) m).put (λ_ _ _ z=>.fz w z) (e _ _) g⟩
end
open PySem.SeqAt (EqAt RcAt RcNeAt)
section
variable{K:Frag}{B:Bs}{sl:SL K}{md:Md}{te t1 t2:TE}{α β γ δ:Type}[Rp K α][Rp K β][Rp K γ][Rp K δ]
theorem zIc{n:Bool}{xs:List α}(i:Nat)(j:sl[i]?=some (.ow n xs))(f:sl.all (λs=>!pJ s)=true):Sn B sl (Kq (N5 K "list" zN6 (eU i))) (λys=>sl.set i (.ow n ys)) (some xs.reverse):=λa l G D σ H s k=>by
 cases l
 obtain⟨F,O,g,z⟩:=s
 obtain⟨p,b,e,c,h,o⟩:=z.chg j f
 obtain⟨d,m⟩:=o b.reverse xs.reverse h.rev
 exact⟨_,e,.inl ⟨rfl,b,bN.of c⟩,p,b,rfl,rfl,c,k _ _ ⟨F,d,g,m⟩⟩
theorem Qf{L:α->SL K}(h:Ex B sl (j9 n) te m)(f:Tg B sl n g L):Sn B sl (pD te g) L m:=λa i G D σ H s k=>by
 obtain⟨F,O,e,z⟩:=s
 exact h a i F O H σ _ z λv c d b r=>f v a c O d σ _ (z.grow b) r λσ' j=>k _ _ ⟨c,O,e.trans b.ff,j⟩
theorem zOp{o:Cm α β γ->δ}(i:Int)(r:∀(R:Hp) (x:Cm α β γ) (u w z:V),rp K R u x.a->rp K R w x.b->rp K R z x.c->∃y,L2.aU [u,w,z] i=some y/\rp K R y (o x))(E:Ex B sl md t1 m)(h2:Ex B sl .hp t2 (some i)):Ex B sl md (jf (DN K) t1 t2) (m.bind λx=>some (o x)):=λc h F O H σ Q s k=>by
 cases m with
 |none=>cases h
 |some x =>
  cases(h)
  refine E x rfl F O H σ _ s λv q d g C=>?_
  refine h2 i rfl q O d σ _ (s.grow g) λw N L f G=>?_
  cases G
  obtain⟨p,l,j,n,rfl,A,M,J,I⟩:=C
  have e:=(match md with
   |.nw=>bQ.trans g.ok.fh
   |.fz=>g.ok.fh
   |.hp=>.refl _:Same (reg B q d md) d).trans f.hh
  obtain⟨y,D,t⟩:=r _ x l j n M J I
  exact⟨p,[l,j,n],i,y,rfl,rfl,.inl (.inl (e _ _ A)),D,k y N L (g.trans f) (Rp.mono (xX f md) t)⟩
theorem zT5{m:Option (Cm α β γ)}(b:Ex B sl md t1 m)(h2:Ex B sl .hp t2 (some (0:Int))):Ex B sl md (jf (DN K) t1 t2) (m.bind λx=>some x.a):=zOp 0 (λ_ _ u _ _ h _ _=>⟨u,rfl,h⟩) b h2
theorem Jk{m:Option (Cm α β γ)}(a:Ex B sl md t1 m)(h2:Ex B sl .hp t2 (some (1:Int))):Ex B sl md (jf (DN K) t1 t2) (m.bind λx=>some x.b):=zOp 1 (λ_ _ _ u _ _ h _=>⟨u,rfl,h⟩) a h2
end
end Ts
namespace PySem
open Sem (wp)
structure IK(prog:Program)(w:World)(α:Type)[DecidableEq α] where
 is:Heap->α->Value->Prop
 hash:α->Int
 draws:α->Nat
 inj:∀{h:Heap}{v:Value}{x y:α},is h x v->is h y v->x=y
 keeps:∀{h h':Heap}{k:α}{v:Value}{d:Addr}{o:Obj}{es ep},is h k v->h.get? d=some o->o.data=.dict es ep->SameBut d h h'->is h' k v
 pyHash:∀{A:Around}{E:Value->Shared->Prop}{s:Shared}{k:α}{v:Value}{Q:Int->Shared->Prop},A.units<cLine->is s.heap k v->Q (hash k) { s with toks:=s.toks+draws k }->wpAny (model prog w) A (PySem.pyHash v) Q E s
 eqBool:∀{A:Around}{E:Value->Shared->Prop}{s:Shared}{x y:α}{u v:Value}{Q:Bool->Shared->Prop},A.units<cLine->is s.heap x u->is s.heap y v->Q (decide (x=y)) s->wpAny (model prog w) A (PySem.eqBool u v) Q E s
 quiet:∀{A:Around}{E:Value->Shared->Prop}{s:Shared}{k:α}{v:Value}{Q:Bool->Shared->Prop},is s.heap k v->Q true s->wpAny (model prog w) A (eqIsQuiet 7 v) Q E s
section
variable{prog:Program}{w:World}{α β:Type}[DecidableEq α][DecidableEq β]
def Qg(knd:KeyKind prog w α):IK prog w α where
 is:=λ_ k v=>knd.is k v=true
 hash:=knd.hash
 draws:=λ_=>1
 inj:=λh1 h2=>knd.inj _ _ _ h1 h2
 keeps:=λh _ _ _=>h
 pyHash:=λ_ h q=>knd.pyHash h q
 eqBool:=λ_ h1 h2 q=>knd.eqBool h1 h2 q
 quiet:=λh q=>by rw[eqIsQuiet_byValue _ (knd.byValue _ _ h)];exact aaw q
theorem Qh{knd:KeyKind prog w α}{A:Around}{E:Value->Shared->Prop}{s:Shared}{ks:List α}{a:Addr}{Q:Bool->Shared->Prop}(hk:IsTupleKey knd s.heap ks a)(h:Q true s):wpAny (model prog w) A (eqIsQuiet 7 (.ref a)) Q E s:=by
 have hT:=hk.typeIs
 obtain⟨o,items,n,ho,_,hd,hi⟩:=hk
 unfold eqIsQuiet
 refine aav (ac9 hT F.slot_tuple_eq.lookup ?_);refine aav (acs hT ad8 ?_);simp only[ac3,abg,if_false]
 refine aav (aej ho hd (aav ?_));show wpAny _ _ (forIn items _ _) _ _ s
 rw[<-forIn_toList]
 refine acr _ (λrest r s'=>r.1=none/\s'=s/\∀v∈rest,carriedByValue v=true) _ (λv rest r s' q=>?_) (λr s' q=>?_) _ _ ⟨rfl,rfl,hi.byValue⟩
 ·obtain⟨hr,rfl,hall⟩:=q
  rw[eqIsQuiet_byValue _ (hall v mem_cons_self)]
  refine aav (aaw ?_)
  rw[if_neg (by decide)]
  exact aaw ⟨rfl,rfl,λu hu=>hall u (mem_cons_of_mem _ hu)⟩
 ·obtain⟨r1,r2⟩:=r
  obtain⟨hr,rfl,_⟩:=q
  have hr:r1=none:=hr
  subst hr
  exact aaw h
def Wc(knd:KeyKind prog w α):IK prog w (List α) where
 is:=λh k v=>∃a,v=.ref a/\IsTupleKey knd h k a
 hash:=tupleKeyHash knd
 draws:=λks=>ks.length+1
 inj:=λ⟨a,e,h1⟩ ⟨b,e2,h2⟩=>by rw[e] at e2;cases e2;exact h1.inj h2
 keeps:=λ⟨a,e,h⟩ ho hd hs=>⟨a,e,h.keeps ho hd hs⟩
 pyHash:=λhu ⟨a,e,h⟩ q=>by rw[e];exact wpAny_pyHash_tuple hu h q
 eqBool:=λhu ⟨a,e,h1⟩ ⟨b,e2,h2⟩ q=>by rw[e,e2];exact wpAny_eqBool_tuple hu h1 h2 q
 quiet:=λ⟨a,e,h⟩ q=>by rw[e];exact Qh h q
def cg(k1:IK prog w α)(k2:IK prog w β)(h:Heap)(x:α×β)(a:Addr):Prop:=∃o u v n,h.get? a=some o/\o.cls=.type "tuple" /\ o.data=.seq #[u,v] n/\k1.is h x.1 u/\k2.is h x.2 v
variable{k1:IK prog w α}{k2:IK prog w β}
theorem cg.ty{s:Shared}(h:cg k1 k2 s.heap x a):s.TypeIs (.ref a) "tuple":=let⟨o,_,_,_,ho,hc,_⟩:=h;⟨o,ho,hc⟩
theorem cg.inj(hx:cg k1 k2 h x a)(hy:cg k1 k2 h y a):x=y:=by
 obtain⟨o,u,v,n,ho,_,hd,i1,i2⟩:=hx
 obtain⟨o',u',v',n',ho',_,hd',j1,j2⟩:=hy
 cases ho.symm.trans ho'
 rw[hd] at hd'
 cases hd'
 exact Prod.ext (k1.inj i1 j1) (k2.inj i2 j2)
def zJb(k1:IK prog w α)(k2:IK prog w β)(x:α×β):Int:=reduceHash (acv [k1.hash x.1,k2.hash x.2])
variable{A:Around}{E:Value->Shared->Prop}{s:Shared}
theorem zSp{Q:Int->Shared->Prop}(hu:A.units+1<cLine)(hk:cg k1 k2 s.heap x a)(h:Q (zJb k1 k2 x) { s with toks:=s.toks+(k1.draws x.1+k2.draws x.2+1) }):wpAny (model prog w) A (pyHash (.ref a)) Q E s:=by
 have hT:=hk.ty
 obtain⟨o,u,v,n,ho,_,hd,i1,i2⟩:=hk
 unfold pyHash
 first|unfold pyHashByItsType|skip
 first|refine aav (wpAny_cRoomFor_or (.inr (Nat.lt_of_succ_lt hu)) ?_)|skip
 refine aav (ac9 hT F.slot_tuple_hash.lookup ?_);show wpAny _ _ (if(some (Value.builtin "tuple.__hash__")==some adg)=true then _ else _) Q E s
 rw[if_neg (by rw[beq_builtin_none];exact aay)]
 refine aav (ac9 hT F.slot_tuple_hash.lookup ?_);show wpAny _ _ (callSpecialIfBoundUnlessNone? (.ref a) "__hash__" _ >>= _) Q E s
 refine aav (wpAny_callSpecialIfBoundUnlessNone?_slot hT F.slot_tuple_hash (ab8 F.slot_tuple_hash hT F.entry_tuple_hash ?_ (F.args_tuple_hash_1 _)));show wpAny _ _ (Builtin.Tuple.tupleItemsOf (.ref a) >>= _) _ _ s
 refine aav (aek ho hd (aav ?_))
 rw[<-forIn_toList]
 show wpAny _ _ (forIn [u,v] _ _) _ _ s
 rw[forIn_cons]
 refine aav (aav (k1.pyHash (by exact hu) i1 ?_))
 refine aaw ?_
 show wpAny _ _ (forIn [v] (#[].push (k1.hash x.fst)) _) _ _ _
 rw[forIn_cons]
 refine aav (aav (k2.pyHash (by exact hu) i2 (aaw ?_)))
 show wpAny _ _ (forIn [] ((#[].push (k1.hash x.fst)).push (k2.hash x.snd)) _) _ _ _
 rw[forIn_nil]
 refine aaw ?_
 show wpAny _ _ (retInt (acv [k1.hash x.fst,k2.hash x.snd])) _ _ _
 refine wpAny_ret_mkInt ?_
 have et:s.toks+k1.draws x.fst+k2.draws x.snd+1=s.toks+(k1.draws x.1+k2.draws x.2+1):=by lia
 unfold zJb reduceHash at h
 show wpAny _ _ (if(decide (-(2:Int)^63<=acv [k1.hash x.fst,k2.hash x.snd])&&decide (acv [k1.hash x.fst,k2.hash x.snd]<2^63))=true then _ else _) Q E _
 split
 ·rename_i hr
  rw[if_pos hr] at h
  refine aaw ?_
  rw[et]
  exact h
 ·rename_i hr
  rw[if_neg hr] at h
  refine aav (ac4 (aaw ?_))
  rw[et]
  exact h
theorem Jl{Q:Bool->Shared->Prop}(hu:A.units+1<cLine)(hx:cg k1 k2 s.heap x a)(hy:cg k1 k2 s.heap y b)(h:Q (decide (x=y)) s):wpAny (model prog w) A (eqBool (.ref a) (.ref b)) Q E s:=by
 unfold eqBool
 try with_reducible refine abo ?_
 show wpAny _ _ (if(abp a==abp b)=true then _ else _) Q E s
 by_cases hab:(abp a==abp b)=true
 ·rw[if_pos hab]
  have e:a=b:=by have:=aeg hab;injection this
  subst e
  obtain rfl:=hx.inj hy
  exact aav (ac4 (aaw (by rw[decide_eq_true rfl] at h;exact h)))
 ·rw[if_neg hab]
  have ta:=hx.ty
  have tb:=hy.ty
  obtain⟨oa,u,v,na,hoa,_,hda,i1,i2⟩:=hx
  obtain⟨ob,u',v',nb,hob,_,hdb,j1,j2⟩:=hy
  refine aav (wpAny_richCompare_same_room (op:=.Eq) ta tb F.slot_tuple_eq (ab8 F.slot_tuple_eq ta F.entry_tuple_eq ?_ (F.args_tuple_eq_2 _ _)) (Nat.lt_of_succ_lt hu))
  show wpAny _ _ (isInstance (.ref b) (.type "tuple") >>= _) _ _ s
  refine aav (acs tb ad8 ?_)
  rw[if_neg (by decide)]
  refine aav (aek hoa hda (aav (aek hob hdb (aav ?_))))
  show wpAny _ _ (forIn [(u,u'),(v,v')] _ _) _ _ s
  rw[forIn_cons]
  refine aav (aav (k1.eqBool (by exact hu) i1 j1 ?_))
  by_cases q1:x.1=y.1
  ·rw[if_neg (by rw[decide_eq_true q1];decide)]
   refine aaw ?_
   show wpAny _ _ (forIn [(v,v')] _ _) _ _ s
   rw[forIn_cons]
   refine aav (aav (k2.eqBool (by exact hu) i2 j2 ?_))
   by_cases q2:x.2=y.2
   ·rw[if_neg (by rw[decide_eq_true q2];decide)]
    refine aaw ?_
    show wpAny _ _ (forIn [] _ _) _ _ s
    rw[forIn_nil]
    have e:decide (x=y)=true:=decide_eq_true (Prod.ext q1 q2)
    rw[e] at h
    exact aaw (aaw ⟨_,rfl,(λe=>nomatch e),abu h⟩)
   ·rw[if_pos (by rw[decide_eq_false q2];decide)]
    have e:decide (x=y)=false:=decide_eq_false λz=>q2 (by rw[z])
    rw[e] at h
    exact aav (aaw (aaw (aaw (aaw ⟨_,rfl,(λe=>nomatch e),abu h⟩))))
  ·rw[if_pos (by rw[decide_eq_false q1];decide)]
   have e:decide (x=y)=false:=decide_eq_false λz=>q1 (by rw[z])
   rw[e] at h
   exact aav (aaw (aaw (aaw (aaw ⟨_,rfl,(λe=>nomatch e),abu h⟩))))
theorem zP2{Q:Bool->Shared->Prop}(hk:cg k1 k2 s.heap x a)(h:Q true s):wpAny (model prog w) A (eqIsQuiet 8 (.ref a)) Q E s:=by
 have hT:=hk.ty
 obtain⟨o,u,v,n,ho,_,hd,i1,i2⟩:=hk
 unfold eqIsQuiet
 refine aav (ac9 hT F.slot_tuple_eq.lookup ?_);refine aav (acs hT ad8 ?_);simp only[ac3,abg,if_false]
 refine aav (aej ho hd (aav ?_))
 show wpAny _ _ (forIn (#[u,v]:Array Value) _ _) _ _ s
 rw[<-forIn_toList]
 show wpAny _ _ (forIn [u,v] _ _) _ _ s
 rw[forIn_cons]
 refine aav (aav (k1.quiet i1 ?_))
 rw[if_neg (by decide)]
 refine aaw ?_
 show wpAny _ _ (forIn [v] _ _) _ _ s
 rw[forIn_cons]
 refine aav (aav (k2.quiet i2 ?_))
 rw[if_neg (by decide)]
 refine aaw ?_
 show wpAny _ _ (forIn [] _ _) _ _ s
 rw[forIn_nil]
 exact aaw (aaw h)
def zWq(k1:IK prog w α)(k2:IK prog w β):HeapKind prog w (α×β) where
 is:=cg k1 k2
 hash:=zJb k1 k2
 draws:=λx=>k1.draws x.1+k2.draws x.2+1
 room:=λA=>A.units+1<cLine
 inj:=λhx hy=>hx.inj hy
 keeps:=λ{h h' k a d o es ep} ⟨o',u,v,n,ho',hc,hd',i1,i2⟩ ho hd hs=>by
  have hne:a≠d:=by
   rintro rfl
   cases ho'.symm.trans ho
   rw[hd] at hd'
   exact nomatch hd'
  exact⟨o',u,v,n,(hs.2 a hne).trans ho',hc,hd',k1.keeps i1 ho hd hs,k2.keeps i2 ho hd hs⟩
 pyHash:=λhu hk h=>zSp hu hk h
 eqBool:=λhu hx hy h=>Jl hu hx hy h
 quiet:=λhk h=>zP2 hk h
end
section
variable{prog:Program}{w:World}{K:Type}[DecidableEq K]{knd:HeapKind prog w K}{A:Around}{E:Value->Shared->Prop}{s:Shared}
theorem zMi{Q:Value->Shared->Prop}(hu:knd.room A)(hkey:knd.is s.heap k a)(hm:s.heap.DictOfH knd d xs)(hold:∀p,atKey xs k=some p->Q p.2 { s with toks:=s.toks+knd.draws k })(hnew:atKey xs k=none->∀h',h'.DictOfH knd d (xs++[(k,a,v)])->SameBut d s.heap h'->Q v { s with heap:=h',toks:=s.toks+knd.draws k })(hsz:xs.length<=sizeLine):wpAny (model prog w) A (dictSetDefault d (.ref a) v) Q E s:=by
 obtain⟨o,es,ep,ho,hc,hd,he,his,hn⟩:=hm
 unfold dictSetDefault
 try with_reducible refine abo ?_
 refine aav (knd.pyHash hu hkey (aav (wpAny_dictFind_heap (s:={ s with toks:=s.toks+knd.draws k }) hu hkey ho hd he his hn (λhno=>?_) (λj p hj=>?_))))
 ·have hnot:k∉xs.map (·.1):=not_mem_keys_of_get hno
  have no:=atKey_none_of_get hno
  refine aav (ac4 (aav (wpAny_updateDictKeys (hz:=by have e:=size_of_entries he;lia) (s:={ s with toks:=s.toks+knd.draws k }) ho hd (aaw (hnew no _ ⟨_,_,ep+1,get?_update_self _ ho (Obj.isFreed_of_dict (Obj.data_mapDictKeys hd _)),hc.mapDictKeys _,Obj.data_mapDictKeys hd _,?_,λx hx=>?_,?_⟩ (SameBut.update ..))))))
  ·simp[he,entryOfKey]
  ·rcases mem_append.mp hx with hx|hx
   ·exact knd.keeps (his x hx) ho hd (SameBut.update ..)
   ·rw[mem_singleton.mp hx]
    exact knd.keeps hkey ho hd (SameBut.update ..)
  grind
 ·refine aav (wpAny_dictEntries (s:={ s with toks:=s.toks+knd.draws k }) ho hd ?_)
  rw[entry_at he j,hj]
  exact aav (ac4 (aaw (hold p (atKey_of_get hn hj))))
theorem zJo(knd:HeapKind prog w K)(d a:Addr)(hd:(d==sysModules)=false)(v:Value) :
  MeetsIn prog w (Builtin.«dict.setdefault» ⟨[.ref d,.ref a,v],[]⟩) (λA R s=>knd.room A.in1/\∃k xs,knd.is s.heap k a/\s.heap.DictOfH knd d xs/\xs.length<=sizeLine/\(∀p,atKey xs k=some p->R (.ok (.ret p.2)) { s with toks:=s.toks+knd.draws k }) /\
   (atKey xs k=none->∀h',h'.DictOfH knd d (xs++[(k,a,v)])->SameBut d s.heap h'->R (.ok (.ret v)) { s with heap:=h',toks:=s.toks+knd.draws k })) :=
 .of_wp λA R s ⟨hu,k,xs,hkey,hm,hz,h1,h2⟩=>by
  refine aav ?_
  unfold Builtin.Dict.keyAndDefault
  refine aav (wpAny_notOrdered_dict hm.typeIs ?_);refine aaw ?_
  show wpAny _ _ (if(d==sysModules)=true then _ else(dictSetDefault d (.ref a) v >>= _)) _ _ s
  rw[if_neg (by grind)]
  exact aav (zMi hu hkey hm (λp hp=>aaw ⟨_,rfl,h1 p hp⟩) (λhn h' hm' hs'=>aaw ⟨_,rfl,h2 hn h' hm' hs'⟩) hz)
theorem zXc{Q:Value->Shared->Prop}(hd:(d==sysModules)=false)(hm:s.heap.DictOfH knd d xs)(hfit:(xs.length:Int)<2^63)(h:∀t t',Q (.int xs.length t) { s with toks:=t' }):wpAny (model prog w) A (call (.builtin "len") [.ref d]) Q E s:=by
 have ty:=hm.typeIs
 obtain⟨o,es,ep,ho,hc,hdat,he,_⟩:=hm
 have ez:=size_of_entries he
 refine Calls.call_function_entry kind_len plain_len entry_len (args_len1 _) ?_
 unfold Builtin.«len»
 have mt:MeetsIn prog w (Builtin.«dict.__len__» ⟨[.ref d],[]⟩) (λ_ R s'=>s'=s/\R (.ok (.ret (.int xs.length s.toks))) { s with toks:=s.toks+1 }):=.of_wp λA R s' q=>by
  obtain⟨rfl,q⟩:=q
  show wpAny _ _ (dictSize d >>= _) _ _ _
  unfold dictSize
  refine aav (aav (wpAny_dictEntries ho hdat (aaw ?_)))
  show wpAny _ _ (Builtin.Dict.pendingCount d >>= _) _ _ _
  refine aav (wpAny_pendingCount_other hd (wpAny_ret_mkInt ?_))
  grind
 refine aav (m:=oneArg "len" _) (aaw ?_)
 refine aav (m:=callSpecial? (.ref d) (adk "__len__")) (wpAny_callSpecial?_slot (name:=adk "__len__") ty F.slot_dict_len (call_meetsIn F.slot_dict_len ty F.entry_dict_len (F.args_dict_len_1 _) mt ⟨rfl,?_⟩))
 show wpAny _ _ _ _ _ { s with toks:=s.toks+1 }
 refine aav (abo (aaw (aav (wpAny_letGo ?_))))
 show wpAny _ _ (if((xs.length:Nat):Int)<0 then _ else _) _ _ _
 rw[if_neg (by lia)]
 show wpAny _ _ (if((xs.length:Nat):Int) ≥ 2^63 then _ else _) _ _ _
 rw[if_neg (by lia)]
 exact aav (wpAny_mkInt (aaw ⟨_,rfl,h _ _⟩))
end
end PySem
namespace L2
open PySem PySem.Spec PyProof.Rows
structure AK(α:Type)[DecidableEq α] where
 at_:Hp->α->V->Prop
 ik:∀(P:Program)(w:World),IK P w α
 ok:∀{P:Program}{w:World}{H:Hp}{h:Heap}{x:α}{v:V}{u:Value},jk P w H h->at_ H x v->RelV v u->(ik P w).is h x u
 mono:∀{H H':Hp}{x:α}{v:V},at_ H x v->(∀b xs,H b=some (.tup xs)->H' b=some (.tup xs))->at_ H' x v
def yAc:AK Key where
 at_:=λ_ k v=>v=kV k
 ik:=λP w=>Qg (vW P w)
 ok:=λ_ e r=>by subst e;exact U0 r
 mono:=λe _=>e
def TQ:AK (List Key) where
 at_:=λH ks v=>∃a,v=.ref a/\H a=some (.tup (ks.map kV))
 ik:=λP w=>Wc (vW P w)
 ok:=λok ⟨a,e,h⟩ r=>by
  subst e
  exact⟨a,r,U4 ok h⟩
 mono:=λ⟨a,e,h⟩ k=>⟨a,e,k _ _ h⟩
section
variable{α β:Type}[DecidableEq α][DecidableEq β]
def pQ(a1:AK α)(a2:AK β)(H:Hp)(x:α×β)(p:Addr):Prop:=∃v1 v2,H p=some (.tup [v1,v2])/\a1.at_ H x.1 v1/\a2.at_ H x.2 v2
theorem pQ.mono{a1:AK α}{a2:AK β}{H H':Hp}{x:α×β}{p:Addr}(h:pQ a1 a2 H x p)(k:∀b xs,H b=some (.tup xs)->H' b=some (.tup xs)):pQ a1 a2 H' x p:=by
 obtain⟨v1,v2,e,h1,h2⟩:=h
 exact⟨v1,v2,k _ _ e,a1.mono h1 k,a2.mono h2 k⟩
abbrev Qi(P:Program)(w:World)(a1:AK α)(a2:AK β):HeapKind P w (α×β):=zWq (a1.ik P w) (a2.ik P w)
theorem pQ.is{P:Program}{w:World}{a1:AK α}{a2:AK β}{H:Hp}{h:Heap}{x:α×β}{p:Addr}(ok:jk P w H h)(n:pQ a1 a2 H x p):(Qi P w a1 a2).is h x p:=by
 obtain⟨v1,v2,e,h1,h2⟩:=n
 obtain⟨_,its,r,o,e1,e2,n,e3⟩:=(ok p _ e)
 cases r with
 |cons r1 r=>cases r with
  |cons r2 r =>
   cases r
   exact⟨o,_,_,n,e1,e2,e3,a1.ok ok h1 r1,a2.ok ok h2 r2⟩
abbrev Lw(α β:Type):=List ((α×β)×Addr×Int)
def Jm:Lw α β->List ((α×β)×Addr×Value)->Prop:=Paired λp q=>p.1=q.1/\p.2.1=q.2.1/\∃t,q.2.2=.int p.2.2 t
def GD(P:Program)(w:World)(a1:AK α)(a2:AK β)(d:Addr)(kvs:Lw α β):HO:=.ext λh=>(d==sysModules)=false/\kvs.length<=9000/\∃xs o es ep,Jm kvs xs/\h.get? d=some o/\o.ExactDict/\o.data=.dict es ep/\es.toList=xs.map (entryOfKey (Qi P w a1 a2))/\(xs.map (·.1)).Nodup
noncomputable def qY(kvs:Lw α β)(x:α×β):Option Int:=(kvs.find? λp=>decide (p.1=x)).map (·.2.2)
theorem zTj(h:Jm kvs xs):kvs.length=xs.length:=adu h
theorem zTk(h:Jm kvs xs)(x:α×β):(qY kvs x=none/\atKey xs x=none)\/∃i p t,qY kvs x=some i/\atKey xs x=some (p,.int i t):=by
 unfold qY atKey
 induction h with
 |nil=>grind
 |@cons p q ps qs r _ ih =>
  grind
theorem Jo(h:Jm kvs xs)(hx:x∈xs):∃i,(x.1,x.2.1,i)∈kvs:=by
 induction h with
 |nil=>cases hx
 |@cons p q ps qs r _ ih =>
  grind
theorem Jp(h:Jm kvs xs)(x:α×β)(p:Addr)(i:Int)(t:Tok):Jm (kvs++[(x,p,i)]) (xs++[(x,p,.int i t)]):=by
 induction h with
 |nil=>exact .cons ⟨rfl,rfl,t,rfl⟩ .nil
 |cons r _ ih=>exact .cons r ih
variable{X:Cx}{pins:List (Addr×Obj)}{σ:St}{H:Hp}{s:Shared}{a1:AK α}{a2:AK β}{d:Addr}{kvs:Lw α β}
theorem Y7(I:Inv X pins σ H s)(e:H d=some (GD X.prog X.w a1 a2 d kvs))(hk:∀p∈kvs,pQ a1 a2 H p.1 p.2.1):(d==sysModules)=false/\kvs.length<=9000/\∃xs,Jm kvs xs/\s.heap.DictOfH (Qi X.prog X.w a1 a2) d xs:=by
 obtain⟨⟨h1,h2,xs,o,es,ep,r,e1,e2,e3,e4,e5⟩,_⟩:=I.hok d _ e
 refine⟨h1,h2,xs,r,o,es,ep,e1,e2,e3,e4,λx hx=>?_,e5⟩
 obtain⟨i,hi⟩:=Jo r hx
 exact(hk _ hi).is I.hok
def Qj(P:Program)(w:World)(a1:AK α)(a2:AK β):TE:=λ_ H Q=>∀p,H p=none->Q (.ref p) (upd H p (GD P w a1 a2 p []))
theorem zUi{h1 h2:Heap}(p:(d==sysModules)=false/\kvs.length<=9000/\∃xs o es ep,Jm kvs xs/\h1.get? d=some o/\o.ExactDict/\o.data=.dict es ep/\es.toList=xs.map (entryOfKey (Qi P w a1 a2))/\(xs.map (·.1)).Nodup)(k:∀o,h1.get? d=some o->h2.get? d=some o) :
  (d==sysModules)=false/\kvs.length<=9000/\∃xs o es ep,Jm kvs xs/\h2.get? d=some o/\o.ExactDict/\o.data=.dict es ep/\es.toList=xs.map (entryOfKey (Qi P w a1 a2))/\(xs.map (·.1)).Nodup:=by
 grind
theorem zWo:PE X (.Dict [] [] pos) (Qj X.prog X.w a1 a2):=λpins s σ H Q I h=>by
 have hd:=(zOw (P:=X.prog) (w:=X.w) (H:=H) s.heap I.big).2.1
 refine wpAny_Dict_empty ⟨.ref s.heap.objs.size,_,I.laid (o:=GD X.prog X.w a1 a2 s.heap.objs.size []) (λ_ _ q=>get?_push_of_some _ q) (aaz _) ⟨?_,?_,λh1 h2=>zUi⟩,rfl,h _ (I.hok.fresh (aaz _))⟩
 ·exact⟨hd,abl _,[],_,#[],0,.nil,get?_push_size _ rfl,⟨rfl,rfl,rfl⟩,rfl,rfl,nodup_nil⟩
 ·exact⟨_,get?_push_size _ rfl⟩
def Wd(P:Program)(w:World)(a1:AK α)(a2:AK β):List V->Hp->VK->Prop:=λxs H Q=>∃d kvs,xs=[.ref d]/\H d=some (GD P w a1 a2 d kvs)/\(∀p∈kvs,pQ a1 a2 H p.1 p.2.1)/\Q (.int (kvs.length:Int)) H
theorem zUt:rB X (.builtin "len") (Wd X.prog X.w a1 a2):=by
 intro pins s σ H xs us Q I r h
 obtain⟨d,kvs,rfl,e,hk,q⟩:=h
 cases r with
 |cons r1 r =>
  cases r
  rename_i u
  obtain rfl:u=.ref d:=r1
  obtain⟨h1,h2,xs,rel,dd⟩:=Y7 I e hk
  have el:=zTj rel
  refine zXc h1 dd (by lia) λt t'=>⟨.int (kvs.length:Int),H,I.tok t',⟨t,by rw[el]⟩,q⟩
def zYq(P:Program)(w:World)(a1:AK α)(a2:AK β)(td tk:TE):TE:=λσ H Q=>td σ H λx H1=>tk σ H1 λy H2=>∃d kvs p k i,x=.ref d/\y=.ref p/\H2 d=some (GD P w a1 a2 d kvs)/\(∀p∈kvs,pQ a1 a2 H2 p.1 p.2.1)/\pQ a1 a2 H2 k p/\qY kvs k=some i/\Q (.int i) H2
theorem zWp(hu:X.A.units+2<cLine)(ho:PE X o td)(hi:PE X i ty)(hs:U6 i):PE X (.Subscript o i pos) (zYq X.prog X.w a1 a2 td ty):=by
 intro pins s σ H Q I h
 refine Ht PySem.F.slot_dict_getitem.lookup hs (aV (ho pins s σ H _ I h) λu s1 ⟨x,H1,I1,rx,q1⟩=>aV (hi pins s1 σ H1 _ I1 q1) ?_)
 rintro iv s2 ⟨y,H2,I2,ry,d,kvs,p,k,z,ex,ey,e,hk,hn,hv,q2⟩
 subst ex ey
 obtain rfl:u=abp d:=rx
 obtain rfl:iv=abp p:=ry
 obtain⟨h1,h2,xs,rel,dd⟩:=Y7 I2 e hk
 rcases zTk rel k with⟨n1,_⟩|⟨z',p',t,n1,n2⟩
 ·grind
 ·rw[n1] at hv
  cases hv
  exact⟨dd.typeIs,wpAny_getItem_heap (knd:=Qi X.prog X.w a1 a2) (hu) (hn.is I2.hok) dd n2 ⟨.int z,H2,I2.tok _,⟨t,rfl⟩,q2⟩⟩
def Qk(P:Program)(w:World)(a1:AK α)(a2:AK β)(td tk tv:TE):TE:=λσ H Q=>td σ H λx H1=>∃d kvs,x=.ref d/\H1 d=some (GD P w a1 a2 d kvs)/\(∀p∈kvs,pQ a1 a2 H1 p.1 p.2.1)/\tk σ H1 λy H2=>tv σ H2 λz H3=>∃kvs p k i,y=.ref p/\z=.int i/\H3 d=some (GD P w a1 a2 d kvs)/\(∀p∈kvs,pQ a1 a2 H3 p.1 p.2.1)/\pQ a1 a2 H3 k p /\
 (∀j,qY kvs k=some j->Q (.int j) H3)/\(qY kvs k=none->kvs.length<9000/\Q (.int i) (upd H3 d (GD P w a1 a2 d (kvs++[(k,p,i)]))))
theorem zWk(hu:X.A.units+2<cLine)(ho:PE X o td)(he:PE X e ty)(hf:PE X f tx)(m:M2 X o "setdefault" apos e f cpos):PE X (.Call (.Attribute o "setdefault" apos) [e,f] [] cpos) (Qk X.prog X.w a1 a2 td ty tx):=by
 intro pins s σ H Q I h
 refine wpAny_Call_method m.base m.few m.line PySem.F.plainAttrs_dict PySem.F.slot_dict_setdefault PySem.F.type_dict_setdefault (aV (ho pins s σ H _ I h) ?_)
 rintro u s1 ⟨x,H1,I1,rx,d,aau,ex,e0,hk0,q1⟩
 subst ex
 obtain rfl:u=abp d:=rx
 obtain⟨_,_,xs0,_,dd0⟩:=Y7 I1 e0 hk0
 refine⟨dd0.typeIs,λb q=>?_,?_⟩
 ·cases q
  obtain⟨ob,_,_,g1,g2,_⟩:=dd0
  exact⟨ob,g1,g2.2.1⟩
 rw[m.trees]
 refine ad0 rfl (Calls.evalArgs_plain (ac6 (aV (he pins s1 σ H1 _ I1 q1) λiv s2 ⟨y,H2,I2,ry,q2⟩ =>
  ac6 (aV (hf pins s2 σ H2 _ I2 q2) λfv s3 ⟨z,H3,I3,rz,kvs,p,k,i,ey,ez,e3,hk,hn,q3,q4⟩=>ad1 ?_))))
 subst ey ez
 obtain rfl:iv=abp p:=ry
 obtain⟨t,rfl⟩:=rz
 obtain⟨h1,h2,xs,rel,dd⟩:=Y7 I3 e3 hk
 have el:=zTj rel
 refine call_meetsIn PySem.F.slot_dict_setdefault dd.typeIs PySem.F.entry_dict_setdefault (PySem.F.args_dict_setdefault_3 _ _ _) (zJo (Qi X.prog X.w a1 a2) d p h1 (.int i t)) ⟨show X.A.in1.units+1<cLine from hu,k,xs,hn.is I3.hok,dd,aa4 (show xs.length<=9000 by lia) (by decide),λpq hp=>?_,λno h' dd' hs=>?_⟩
 ·rcases zTk rel k with⟨_,n2⟩|⟨j,p',t',n1,n2⟩
  ·rw[n2] at hp;cases hp
  ·rw[n2] at hp
   cases hp
   exact⟨.int j,H3,I3.tok _,⟨t',rfl⟩,q3 j n1⟩
 ·rcases zTk rel k with⟨n1,_⟩|⟨j,p',t',n1,n2⟩
  ·obtain⟨l9,q5⟩:=q4 n1
   obtain⟨o',es',ep',g1,g2,g3,g4,_,g6⟩:=dd'
   refine⟨.int i,_,Z6 (ob:=GD X.prog X.w a1 a2 d (kvs++[(k,p,i)])) I3 (by rw[e3];exact acu) hs ⟨o',g1⟩ ⟨?_,⟨o',g1⟩,λh1 h2=>zUi⟩,⟨t,rfl⟩,q5⟩
   exact⟨h1,by rw[length_append,length_singleton];lia,_,o',es',ep',Jp rel k p i t,g1,g2,g3,g4,g6⟩
  ·rw[n2] at no;cases no
end
end L2
namespace Ts
open PySem PySem.Spec L2 PyProof.Rows
def lJ(a b:Str):Bool:=!ltCps b.cps.toList a.cps.toList
theorem Y8:lJ a b=true↔¬b.cps.toList<a.cps.toList:=by
 unfold lJ
 rw[ltCps_eq]
 simp
theorem zRw(h1:lJ a b=true)(h2:lJ b c=true):lJ a c=true:=by
 rw[Y8] at *
 grind
theorem zV3(a b:Str):(lJ a b||lJ b a)=true:=by
 rw[adv,Y8,Y8]
 grind
theorem zRx(h1:lJ a b=true)(h2:lJ b a=true):a=b:=by
 rw[Y8] at *
 cases a
 cases b
 grind
def Jq(l:List Str):List Str:=l.mergeSort lJ
noncomputable def pR(l:List Str):Option (List Str):=if l.length<64 then some (Jq l) else none
theorem Y9(l:List Str):(Jq l).Perm l:=List.mergeSort_perm l lJ
theorem zVv(l:List Str):(Jq l).Pairwise λa b=>lJ a b=true:=List.pairwise_mergeSort (le:=lJ) (λ_ _ _ h1 h2=>zRw h1 h2) zV3 l
theorem zKw{α:Type}{r:α->α->Prop}(anti:∀a b,r a b->r b a->a=b):∀{xs ys:List α},xs.Perm ys->xs.Pairwise r->ys.Pairwise r->xs=ys
 |[],ys,h,_,_=>by simp_all
 |x::xs,[],h,_,_=>by simp_all
 |x::xs,y::ys,h,h1,h2=>by
  have hx:=h.subset mem_cons_self
  have hy:=h.symm.subset mem_cons_self
  have e:x=y:=by
   rcases mem_cons.mp hx with q|q
   ·exact q
   rcases mem_cons.mp hy with z|z
   ·grind
   exact anti _ _ (rel_of_pairwise_cons h1 z) (rel_of_pairwise_cons h2 q)
  subst e
  rw[zKw anti (List.perm_cons x |>.mp h) (pairwise_cons.mp h1).2 (pairwise_cons.mp h2).2]
theorem zPr:∀{l:List Str},sortedS l=true->l.Pairwise λa b=>lJ a b=true
 |[],_=>.nil
 |x::r,h=>by
  have go:∀(p:Str)(l:List Str),risingS p l=true->(p::l).Pairwise λa b=>lJ a b=true:=by
   intro p l
   induction l generalizing p with
   |nil=>grind
   |cons y t ih =>
    intro q
    have q:(!ltCps y.cps.toList p.cps.toList&&risingS y t)=true:=q
    rw[aco] at q
    have i:=ih y q.2
    refine pairwise_cons.mpr ⟨λz hz=>?_,i⟩
    rcases mem_cons.mp hz with e|hz
    ·rw[e];exact q.1
    ·exact zRw q.1 (rel_of_pairwise_cons i hz)
  exact go x r h
theorem Jr{ss:List Str}(r:Vals (ss.map V.str) its):StrsAre its ss:=by
 induction ss generalizing its with
 |nil=>cases r;exact .nil
 |cons x t ih =>
  cases r with
  |cons r1 r =>
   obtain⟨k,rfl⟩:=r1
   exact .cons x k (ih r)
theorem zKb(h:StrsAre vs ss):Vals (ss.map V.str) vs:=by
 induction h with
 |nil=>exact .nil
 |cons x t _ ih=>exact .cons ⟨t,rfl⟩ ih
section
variable{X:Cx}{K:Frag}{B:Bs}{sl:SL K}{md:Md}{t:TE}
def zY6(K:Frag):List V->Hp->VK->Prop:=λxs H Q=>∃(p:Addr)(ss:List Str),xs=[.ref p]/\bN K H p (ss.map V.str)/\ss.length<64/\∀l:Addr,H l=none->Q (.ref l) (upd H l (.lst ((Jq ss).map V.str)))
theorem zQy(K:Frag)(hK:X.K=K:=by rfl):rB X (.builtin "sorted") (zY6 K):=by
 subst hK
 intro pins s σ H xs us Q I r h
 obtain⟨p,ss,rfl,hq,h64,q⟩:=h
 obtain⟨u,rfl,rx⟩:=Dw r
 cases rx
 obtain⟨its,r',pl,hz⟩:=I.list hq
 have hl:=r'.length
 rw[length_map] at hl
 refine sorted_strs pl.isList (Jr r') (by lia) λout ss' a1 a2 a3=>?_
 obtain⟨e,he⟩:=sortedAll_at s.heap its out
 have fr:=I.hok.fresh (ab7 _)
 have eu:=zKw (λ_ _=>zRx) (a2.trans (Y9 ss).symm) (zPr a3) (zVv ss)
 rw[eu] at a1
 refine⟨.ref (s.heap.objs.size+1),_,I.laid (o:=.lst ((Jq ss).map V.str)) (λb ob w=>sortedAll_old w) (ab7 _) ⟨?_,out.toList,e,zKb a1,?_⟩,rfl,q _ fr⟩
 ·rw[length_map,(Y9 ss).length_eq]
  grind
 ·simp_all
theorem zXq(h:Ex B sl .hp t m):Eo B sl md (Ag (zY6 K) (wI t bT)) (m.bind pR):=λc hc F O H σ Q s k=>by
 cases m with
 |none=>cases hc
 |some ss =>
  have hc:pR ss=some c:=hc
  unfold pR at hc
  split at hc
  case isFalse=>cases hc
  rename_i hl
  cases hc
  refine h ss rfl F O H σ _ s λv F' H' g r1=>?_
  obtain⟨p,vs,rfl,z1,z2⟩:=r1
  have z3:=A2.pI z2
  subst z3
  exact⟨p,ss,rfl,bN.of z1,hl,λl hn=>k l _ F' H' g hn (A2.of_map (f:=V.str) (λ_=>rfl) _)⟩
structure Tp(α:Type) where
 xs:List α
deriving instance DecidableEq for Tp
end
open PySem L2
section
variable{X:Cx}{K:Frag}{B:Bs}{sl:SL K}{md:Md}{t:TE}{α:Type}[Rp K α]
instance{α:Type}[Rp K α]:Rp K (Tp α):=⟨λF v x=>∃p vs,v=.ref p/\F p=some (.tup vs)/\A2 (rp K F) vs x.xs,λs ⟨p,vs,h1,h2,h3⟩=>⟨p,vs,h1,s _ _ h2,h3.imp λ_ _=>Rp.mono s⟩⟩
theorem Js(k:Ok B F' O H'):∀md:Md,Same (reg B F' H' md) H'
 |.nw=>bQ.trans k.fh
 |.fz=>k.fh
 |.hp=>.refl _
def zY5(K:Frag):List V->Hp->VK->Prop:=λxs H Q=>∃p ys,xs=[.ref p]/\bN K H p ys/\∀l,H l=none->Q (.ref l) (upd H l (.tup ys))
theorem zFa(K:Frag)(hK:X.K=K:=by rfl):rB X (.type "tuple") (zY5 K):=by
 subst hK
 exact(by rintro pins s σ H xs us Q I r ⟨p,ys,e,h1,h2⟩;exact zJ1 pins s σ H xs us Q I r ⟨p,ys,e,.inl ⟨h1,h2⟩⟩)
theorem zJx{m:Option (List α)}(h:Ex B sl md t m):Ex B sl md (Ag (zY5 K) (wI t bT)) (m.bind λxs=>some (Tp.mk xs)):=λc hc F O H σ Q s k=>by
 cases m with
 |none=>cases hc
 |some xs =>
  cases(hc)
  refine h xs rfl F O H σ _ s λv F' H' g r1=>?_
  obtain⟨p,vs,rfl,z1,z2⟩:=r1
  refine⟨p,vs,rfl,bN.of (Js g.ok md _ _ z1),λl hl=>?_⟩
  have g3:=cG.new g.ok hl (.tup vs)
  exact k _ _ _ (g.trans g3) ⟨l,vs,rfl,Vh g.ok hl md,z2.imp λ_ _=>Rp.mono (xX g3 md)⟩
end
section
variable{κ:Type}[DecidableEq κ]
def dd:List κ->List κ->List κ
 |acc,[]=>acc
 |acc,k::r=>dd (if k∈acc then acc else acc++[k]) r
def vd(ks:List κ):LI:=ks.map λk=>((dd [] ks).idxOf k:Int)
theorem zZ1(a b:List κ):∀(acc:List κ),dd acc (a++b)=dd (dd acc a) b:=by
 induction a with
 |nil=>intro acc;rfl
 |cons k r ih=>intro acc;exact ih _
theorem zUm:∀(ks acc:List κ),∃r,dd acc ks=acc++r
 |[],acc=>⟨[],(append_nil acc).symm⟩
 |k::ks,acc=>by
  obtain⟨r,e⟩:=zUm ks (if k∈acc then acc else acc++[k])
  show∃r,dd (if k∈acc then acc else acc++[k]) ks=acc++r
  grind
theorem zZ0:∀(ks acc:List κ),(dd acc ks).length<=acc.length+ks.length
 |[],acc=>aaz _
 |k::ks,acc=>by
  have:=zZ0 ks (if k∈acc then acc else acc++[k])
  show(dd (if k∈acc then acc else acc++[k]) ks).length<=_
  grind
theorem Wf:∀{ks acc:List κ}{k:κ},k∈ks->k∈dd acc ks
 |k'::ks,acc,k,h=>by
  show k∈dd (if k'∈acc then acc else acc++[k']) ks
  rcases mem_cons.mp h with e|h
  ·obtain⟨r,q⟩:=zUm ks (if k'∈acc then acc else acc++[k'])
   grind
  ·exact Wf h
end
end Ts
namespace L2
open PySem Ts
section
variable{α β:Type}[DecidableEq α][DecidableEq β]
def w5(kvs:Lw α β)(ds:List (α×β)):Prop:=kvs.map (·.1)=ds/\∀(j:Nat) p,kvs[j]?=some p->p.2.2=(j:Int)
theorem w5.val{kvs:Lw α β}{ds:List (α×β)}(h:w5 kvs ds){k:α×β}(hk:k∈ds):qY kvs k=some (ds.idxOf k:Int):=by
 obtain⟨h1,h2⟩:=h
 have key:∀(l:Lw α β)(n:Nat),(∀(j:Nat) p,l[j]?=some p->p.2.2=((n+j:Nat):Int))->k∈l.map (·.1)->(l.find? λp=>decide (p.1=k)).map (·.2.2)=some (((n+(l.map (·.1)).idxOf k:Nat)):Int):=by
  intro l
  induction l with
  |nil=>intro n _ h;cases h
  |cons p r ih =>
   intro n hn hm
   by_cases q:p.1=k
   ·have e:=hn 0 p rfl
    rw[map_cons,idxOf_cons]
    simp[find?_cons,q,e]
   ·have hm':k∈r.map (·.1):=by
     rw[map_cons] at hm
     rcases mem_cons.mp hm with z|z
     ·exact absurd z.symm q
     ·exact z
    have i:=ih (n+1) (λj p' hj=>by have:=hn (j+1) p' hj;rw[this];congr 1;lia) hm'
    rw[map_cons,idxOf_cons,List.find?_cons_of_neg (by simpa using q),i]
    rw[show(p.1==k)=false from beq_eq_false_iff_ne.mpr q]
    simp only[cond_false]
    congr 2
    lia
 have:=key kvs 0 (λj p hj=>by rw[h2 j p hj];congr 1;lia) (by rw[h1];exact hk)
 rw[h1] at this
 unfold qY
 rw[this]
 congr 2
 lia
theorem w5.non{kvs:Lw α β}{ds:List (α×β)}(h:w5 kvs ds){k:α×β}(hk:k∉ds):qY kvs k=none:=by
 unfold qY
 rw[List.find?_eq_none.mpr λp hp q=>hk (by rw[<-h.1];grind)]
 rfl
theorem w5.snoc(h:w5 kvs ds)(k:α×β)(p:Addr):w5 (kvs++[(k,p,(kvs.length:Int))]) (ds++[k]):=by
 obtain⟨h1,h2⟩:=h
 refine⟨by grind,λj q hj=>?_⟩
 grind
end
end L2
namespace Ts
open PySem L2
structure gY where
 xss:List LI
def j_(F:Hp)(q:Addr)(xs:LI):Prop:=F q=some (.lst (xs.map V.int))
section
variable{K:Frag}{B:Bs}{sl:SL K}{F H G L:Hp}{O:Own}{σ:St}{te t2:TE}{u:TS}{al:Bool}
instance:Rp K gY:=⟨λF v x=>∃(p:Addr)(ps:List Addr),v=.ref p/\F p=some (.lst (ps.map V.ref))/\(p::ps).Nodup/\A2 (j_ F) ps x.xss,λs ⟨p,ps,h1,h2,h3,h4⟩=>⟨p,ps,h1,s _ _ h2,h3,h4.imp λ_ _ h=>s _ _ h⟩⟩
theorem Ly:∀{ps:List Addr}{xss:List LI},A2 (j_ F) ps xss->A2 (rp K F) (ps.map V.ref) xss
 |[],[],_=>trivial
 |_::_,xs::_,h=>⟨⟨_,xs.map V.int,rfl,h.1,Gu xs⟩,Ly h.2⟩
 |[],_::_,h=>h.elim
 |_::_,[],h=>h.elim
theorem Lz{v:V}{x:gY}(h:rp K F v x):rp K F v x.xss:=by
 obtain⟨p,ps,h1,h2,h3,h4⟩:=h
 exact⟨p,ps.map V.ref,h1,h2,Ly h4⟩
theorem LC:∀{ps:List Addr}{xss:List LI}{j:Nat}{r:LI},A2 (j_ F) ps xss->xss[j]?=some r->∃q,ps[j]?=some q/\j_ F q r
 |p::ps,xs::xss,0,r,h,e=>by cases e;exact⟨p,rfl,h.1⟩
 |p::ps,xs::xss,j+1,r,h,e=>by simpa using LC h.2 e
 |[],[],_,_,_,e=>by simp at e
 |[],_::_,_,_,h,_=>h.elim
 |_::_,[],_,_,h,_=>h.elim
theorem zSd:∀{ps:List Addr}{xss:List LI},(∀q∈ps,∀xs,j_ F q xs->j_ F' q xs)->A2 (j_ F) ps xss->A2 (j_ F') ps xss
 |[],[],_,_=>trivial
 |p::ps,_::_,k,h=>⟨k p mem_cons_self _ h.1,zSd (λq hq=>k q (mem_cons_of_mem _ hq)) h.2⟩
 |[],_::_,_,h=>h.elim
 |_::_,[],_,h=>h.elim
theorem zY1:∀{ps:List Addr}{xss:List LI}{j:Nat}{q:Addr}{r:LI},ps.Nodup->ps[j]?=some q->(∀b∈ps,b≠q->∀xs,j_ F b xs->j_ F' b xs)->j_ F' q r->A2 (j_ F) ps xss->A2 (j_ F') ps (xss.set j r)
 |[],[],_,_,_,_,e,_,_,_=>by simp at e
 |p::ps,xs::xss,0,q,r,nd,e,k,n,h=>by
  cases e
  exact⟨n,zSd (λb hb xs=>k b (mem_cons_of_mem _ hb) (λe=>(nodup_cons.mp nd).1 (e▸hb)) xs) h.2⟩
 |p::ps,xs::xss,j+1,q,r,nd,e,k,n,h=>by
  exact⟨k p mem_cons_self (λz=>(nodup_cons.mp nd).1 (z▸mem_of_getElem? e)) _ h.1,zY1 (nodup_cons.mp nd).2 e (λb hb=>k b (mem_cons_of_mem _ hb)) n h.2⟩
 |[],_::_,_,_,_,_,_,_,_,h=>h.elim
 |_::_,[],_,_,_,_,_,_,_,h=>h.elim
theorem zY2:∀{ps:List Addr}{xss:List LI}{q:Addr},A2 (j_ F) ps xss->q∈ps->∃xs,j_ F q xs
 |p::ps,xs::xss,q,h,hq=>by
  rcases mem_cons.mp hq with e|hq
  ·rw[e];exact⟨_,h.1⟩
  ·exact zY2 h.2 hq
 |[],[],_,_,hq=>by cases hq
 |[],_::_,_,h,_=>h.elim
 |_::_,[],_,h,_=>h.elim
theorem zXo{x:gY}(i:Nat)(hs:sl[i]?=some (.nu x)):Ex B sl .hp (eU i) (some x.xss):=λa' ha F O H σ Q s k=>by
 cases ha
 obtain⟨v,h1,h2⟩:=s.2.v7 hs
 exact⟨v,h1,k v F H (.refl s.1) (Lz (Rp.mono (bQ.trans lo_le) h2))⟩
theorem zNz{x:gY}(i:Nat)(hs:sl[i]?=some (.nu x)):SB B sl (pC (G4 (eU i)) u) false (some x.xss):=λb hb G D σ H s k=>by
 cases hb
 obtain⟨F,O,g,a⟩:=s
 obtain⟨v,h1,h2⟩:=a.2.v7 hs
 exact⟨v,h1,k v H ⟨a.1.h0,Lz (Rp.mono (vQ lo_le) h2)⟩⟩
theorem Jt:En B sl (Dy bT) (some (gY.mk [])):=λc hc F O H σ Q s kk=>by
 cases hc
 refine⟨abl _,λp hp=>kk _ F H _ (.refl s.1) (aK hp _) ⟨p,[],rfl,?_,by simp,trivial⟩⟩
 rw[wP hp,zT];rfl
noncomputable def rN(j:Int):Option gY:=if 0<=j/\j<=900 then some (gY.mk (replicate j.toNat [])) else none
theorem zY3:∀{ps:List Addr},(∀q∈ps,F q=some (.lst []))->A2 (j_ F) ps (replicate ps.length [])
 |[],_=>trivial
 |p::ps,h=>⟨h p mem_cons_self,zY3 λq hq=>h q (mem_cons_of_mem _ hq)⟩
theorem zXt(h:Ex B sl .hp te m):En B sl (Yc 1 [] (Dv (wI te bT)) (vm 0) Hz (Dy bT)) (m.bind rN):=λc hc F O H σ Q s kk=>by
 cases m with
 |none=>cases hc
 |some j =>
  have hc:rN j=some c:=hc
  unfold rN at hc
  split at hc
  case isFalse=>cases hc
  rename_i hj
  cases hc
  refine h j rfl F O H σ _ s λv F1 H1 g r=>?_
  cases r
  ·refine⟨j,rfl,Int.le_trans (by decide) hj.1,Int.lt_of_le_of_lt hj.2 (by decide),zQu (lo:=0) (k:=j.toNat) (λi ys σ2 H2=>∃(ps:List Addr),ys=ps.map V.ref/\ps.length=i/\ps.Nodup/\Same H1 H2/\∀q∈ps,H1 q=none/\H2 q=some (.lst [])) ⟨[],rfl,rfl,.nil,.refl _,λq hq=>by cases hq⟩
    (by rintro i ys σ2 H2 hi ⟨ps,e1,e2,_⟩;grind) (aa1 (show j.toNat<=900 by lia) (by decide)) ?_ ?_⟩
   ·rintro i ys σ2 H2 hi ⟨ps,rfl,rfl,nd,s2,hq⟩
    refine⟨abl _,λp hp=>⟨ps++[p],by rw[map_append];rfl,by rw[length_append];rfl,?_,s2.trans (aK hp _),λq hq'=>?_⟩⟩
    ·grind
    ·rcases mem_append.mp hq' with z|z
     ·exact⟨(hq q z).1,aK hp _ _ _ (hq q z).2⟩
     ·rw[mem_singleton.mp z]
      exact⟨s2.free hp,zT⟩
   ·rintro ys σ2 H2 ⟨ps,rfl,e2,nd,s2,hq⟩ p hp
    refine kk _ F1 H1 _ g (s2.trans (aK hp _)) ⟨p,ps,rfl,?_,nodup_cons.mpr ⟨λz=>?_,nd⟩,?_⟩
    ·rw[wP (s2.free hp),zT]
    ·rw[(hq p z).2] at hp;cases hp
    ·rw[<-e2]
     refine zY3 λq z=>?_
     rw[wP (hq q z).1]
     exact aK hp _ _ _ (hq q z).2
noncomputable def oX(x:gY)(ys:LI):Option gY:=if x.xss.length<cap then some (gY.mk (x.xss++[ys])) else none
theorem Ju(i j:Nat)(hi:sl[i]?=some (.nu x))(hj:sl[j]?=some (.ow n ys))(hij:i≠j)(hn:((sl.set j .un).set i .un).all (λs=>!zTr s)=true) :
  Sn B sl (Kq (N6 K "list" X7 (eU i) (wI (eU j) bT))) (λa=>(sl.set j .un).set i (.nu a)) (oX x ys):=λc hc G D σ H s k=>by
 unfold oX at hc
 split at hc
 case isFalse=>cases hc
 rename_i hl
 cases hc
 obtain⟨F,O,g,z⟩:=s
 obtain⟨v,y1,p,ps,rfl,y2,y3,y4⟩:=z.2.v7 hi
 obtain⟨a1,a2,a3,a4⟩:=Td y2
 obtain⟨O1,O2,q,vs,rfl,w1,w2,_,w4⟩:=z.2.rD hj
 have ev:vs=ys.map V.int:=A2.pI (w2.imp λ_ _ h=>h)
 obtain⟨b1,b2,b3⟩:=z.1.one
 have qp:p≠q:=λe=>a3 (q,.lst vs) (by simp) e.symm
 have inO:∀x∈O1++O2,x∈O1++(q,HO.lst vs)::O2:=λx hx=>by
  rcases mem_append.mp hx with e|e
  ·exact mem_append_left _ e
  ·exact mem_append_right _ (mem_cons_of_mem _ e)
 have yl:ps.length=x.xss.length:=y4.len
 refine⟨_,y1,.inl ⟨rfl,_,bN.of a4⟩,_,w1,p,_,.ref q,rfl,rfl,a4,HF (by rw[length_map,yl];exact hl),k _ _ ⟨F,O1++O2,g,z.1.drop.Vx a1 a2 λx hx=>a3 x (inO x hx),?_⟩⟩
 have zu:=w4 .un (some (.ref q)) λ_ _ _ y=>.un y
 rw[Ol w1] at zu
 have hi':(sl.set j .un)[i]?=some (.nu x):=by rw[getElem?_set_ne (ac0 hij)];exact hi
 have z4:ao B F (lo F (O1++O2) (upd H p (.lst (ps.map V.ref++[.ref q])))) (upd H p (.lst (ps.map V.ref++[.ref q]))) ((sl.set j .un).set i .un) σ (O1++O2):=(zYv zu hi' rfl).calm hn
 have hil:i<(sl.set j .un).length:=(aa0.mp hi').1
 have nq:q∉ps:=λhq=>by
  obtain⟨xs,hx⟩:=zY2 y4 hq
  exact(Td hx).2.2.1 (q,.lst vs) (by simp) rfl
 have rl:rp K (dif (lo F (O1++O2) (upd H p (.lst (ps.map V.ref++[.ref q])))) B.H0) (.ref p) (gY.mk (x.xss++[ys])):=by
  refine⟨p,ps++[q],rfl,?_,?_,?_⟩
  ·rw[wP a2,Oz a1 λx hx=>a3 x (inO x hx),zT,map_append];rfl
  ·have n1:=nodup_cons.mp y3
   refine nodup_cons.mpr ⟨λe=>?_,?_⟩
   ·rcases mem_append.mp e with e|e
    ·exact n1.1 e
    ·exact qp (mem_singleton.mp e)
   ·rw[nodup_append]
    refine⟨n1.2,by simp,λa ha b hb e=>nq ?_⟩
    rw[<-mem_singleton.mp hb,<-e]
    exact ha
  ·refine A2.snoc (zSd (λb hb xs hx=>?_) y4) ?_
   ·obtain⟨c1,c2,c3,c4⟩:=Td hx
    have bp:b≠p:=λe=>(nodup_cons.mp y3).1 (e▸hb)
    show dif _ _ b=_
    rw[wP c2,Oz c1 λx hx=>c3 x (inO x hx),zX bp,c4]
   ·show dif _ _ q=_
    rw[wP b2,Oz b1 (z.1.ndp),zX qp.symm,b3,ev]
 have z5:=z4.put (i:=i) (s:=.un) (s':=.nu (gY.mk (x.xss++[ys]))) (x:=some (.ref p)) (λ_ _ _ y=>.nu rl y) (by rw[getElem?_set_self hil]) rfl
 rw[List.set_set,Ol y1] at z5
 exact z5
noncomputable def jw(x:gY)(j y:Int):Option gY:=if 0<=j then(x.xss[j.toNat]?).bind λr=>if r.length<cap then some (gY.mk (x.xss.set j.toNat (r++[y]))) else none else none
theorem zKj(i:Nat)(hs:sl[i]?=some (.nu x))(hn:(sl.set i .un).all (λs=>!zTr s)=true)(h2:Ex B sl .hp t2 m2)(h:Ex B sl .hp te m) :
  Sn B sl (Kq (N6 K "list" X7 (jf (BZ K) (eU i) t2) (wI te bT))) (λa=>sl.set i (.nu a)) (m2.bind λj=>m.bind λy=>jw x j y):=λc hc G D σ H s k=>by
 cases m2 with
 |none=>cases hc
 |some j =>
  cases m with
  |none=>cases hc
  |some y =>
   have hc:jw x j y=some c:=hc
   unfold jw at hc
   split at hc
   case isFalse=>cases hc
   rename_i j0
   cases er:x.xss[j.toNat]? with
   |none=>rw[er] at hc;cases hc
   |some r =>
    rw[er] at hc
    have hc:(if r.length<cap then some (gY.mk (x.xss.set j.toNat (r++[y]))) else none)=some c:=hc
    split at hc
    case isFalse=>cases hc
    rename_i hl
    cases hc
    obtain⟨F,O,g,z⟩:=s
    obtain⟨v,y1,p,ps,rfl,y2,y3,y4⟩:=z.2.v7 hs
    obtain⟨a1,a2,a3,a4⟩:=Td y2
    obtain⟨q,e3,e4⟩:=LC y4 er
    obtain⟨b1,b2,b3,b4⟩:=Td e4
    refine⟨_,y1,h2 j rfl F O H σ _ z λw F2 H2 g2 r2=>?_⟩
    cases r2
    have hix:aU (ps.map V.ref) j=some (.ref q):=by
     have:=zU1 (zSb e3)
     rw[show((j.toNat:Nat):Int)=j by omega] at this
     exact this
    refine⟨p,_,j,.ref q,rfl,rfl,bN.of (g2.hh _ _ a4),hix,.inl ⟨rfl,_,bN.of (g2.hh _ _ b4)⟩,?_⟩
    refine h y rfl F2 O H2 σ _ (z.grow g2) λw F3 H3 g3 r3=>?_
    cases r3
    have Eh:=g2.trans g3
    have q1:=Eh.nw q b1 (by rw[b4];intro z;cases z)
    have p1:=Eh.nw p a1 (by rw[a4];intro z;cases z)
    have b4':=Eh.hh _ _ b4
    refine⟨q,_,.int y,rfl,rfl,b4',HF (by rw[length_map];exact hl),k _ _ ⟨F3,O,g.trans Eh.ff,Eh.ok.Vx q1 b2 b3,?_⟩⟩
    have z3:=(z.grow Eh).2
    have z4:ao B F3 (lo F3 O (upd H3 q (.lst (r.map V.int++[.int y])))) (upd H3 q (.lst (r.map V.int++[.int y]))) (sl.set i .un) σ O:=(zYv z3 hs rfl).calm hn
    have hi:i<sl.length:=(aa0.mp hs).1
    have pq:p≠q:=λe=>(nodup_cons.mp y3).1 (e▸mem_of_getElem? e3)
    have rl:rp K (dif (lo F3 O (upd H3 q (.lst (r.map V.int++[.int y])))) B.H0) (.ref p) (gY.mk (x.xss.set j.toNat (r++[y]))):=by
     refine⟨p,ps,rfl,?_,y3,zY1 (nodup_cons.mp y3).2 e3 (λb hb nb xs hx=>?_) ?_ y4⟩
     ·rw[wP a2,Oz p1 a3,zX pq]
      exact Eh.hh _ _ a4
     ·obtain⟨c1,c2,c3,c4⟩:=Td hx
      show dif _ _ b=_
      rw[wP c2,Oz (Eh.nw b c1 (by rw[c4];intro z;cases z)) c3,zX nb]
      exact Eh.hh _ _ c4
     ·show dif _ _ q=_
      rw[wP b2,Oz q1 b3,zT,map_append];rfl
    have z5:=z4.put (i:=i) (s:=.un) (s':=.nu (gY.mk (x.xss.set j.toNat (r++[y])))) (x:=some (.ref p)) (λ_ _ _ y=>.nu rl y) (by rw[getElem?_set_self hi]) rfl
    rw[List.set_set,Ol y1] at z5
    exact z5
end
def top(i:Nat):Stmt:=PySem.Challenge.pw_treesay_k64_whole_folded_says_the_same.main.body.getD i (.Pass ⟨0,0,0,0⟩)
abbrev lK:Stmt:=top 11
abbrev fu:Stmt:=top 12
abbrev gw:Stmt:=top 13
abbrev nA:Stmt:=top 14
abbrev gA:Stmt:=top 15
abbrev g_:Stmt:=top 16
abbrev pU:Stmt:=top 17
abbrev Y_:Stmt:=top 18
abbrev EY:Stmt:=xV (top 19) 0
abbrev fG:Stmt:=xV (top 19) 1
abbrev c7:Stmt:=xV (top 19) 2
abbrev dG:Stmt:=xV (top 19) 3
abbrev dH:Stmt:=xV (top 19) 4
abbrev cW:Stmt:=xV (top 19) 5
abbrev dh:Stmt:=xV (top 19) 6
abbrev h_:Stmt:=top 21
abbrev tG:Stmt:=top 22
abbrev pW:Stmt:=top 23
abbrev pX:Stmt:=top 24
abbrev lM:Stmt:=top 25
abbrev nD:Stmt:=top 26
abbrev dI:Stmt:=top 28
abbrev fH:Stmt:=top 29
abbrev eE:Stmt:=top 30
abbrev ig:Stmt:=top 31
abbrev eF:Stmt:=top 32
abbrev iu:Stmt:=top 33
abbrev eG:Stmt:=top 34
abbrev cR:Stmt:=top 35
abbrev nG:Stmt:=top 36
abbrev pY:Stmt:=top 37
abbrev jx:Stmt:=top 39
abbrev lN:Stmt:=top 40
abbrev iw:Stmt:=top 41
abbrev gB:Stmt:=top 42
abbrev nH:Stmt:=top 44
abbrev gC:Stmt:=top 45
abbrev tH:Stmt:=top 46
abbrev jy:Stmt:=top 47
abbrev iy:Stmt:=top 48
abbrev pZ:Stmt:=top 49
abbrev Al:Stmt:=top 50
abbrev s_alive:Stmt:=top 51
abbrev mF:Stmt:=xV (top 53) 0
abbrev nJ:Stmt:=xV (top 54) 0
abbrev nO:Stmt:=xV (top 55) 0
abbrev p7:Stmt:=xV (top 56) 0
abbrev oM:Stmt:=xV (top 57) 0
abbrev p8:Stmt:=xV (top 58) 0
abbrev oO:Stmt:=xV (top 59) 0
abbrev mG:Stmt:=xV (top 60) 0
abbrev kh:Stmt:=xV (top 61) 0
abbrev kj:Stmt:=xV (top 62) 0
abbrev kE:Stmt:=xV (top 63) 0
abbrev kI:Stmt:=xV (top 64) 0
abbrev jh:Stmt:=xV (top 65) 0
abbrev ji:Stmt:=xV (top 66) 0
abbrev kJ:Stmt:=xV (top 67) 0
abbrev kO:Stmt:=xV (top 68) 0
abbrev jA:Stmt:=top 70
abbrev jB:Stmt:=top 71
abbrev lO:Stmt:=top 72
abbrev jC:Stmt:=top 73
abbrev cL:Stmt:=top 74
abbrev nQ:Stmt:=top 75
abbrev gD:Stmt:=top 76
abbrev tK:Stmt:=top 77
abbrev tL:Stmt:=top 78
abbrev jD:Stmt:=top 80
abbrev nU:Stmt:=top 81
abbrev jE:Stmt:=top 82
abbrev jF:Stmt:=top 83
abbrev iz:Stmt:=top 84
abbrev jG:Stmt:=top 85
abbrev jH:Stmt:=top 86
abbrev iB:Stmt:=top 87
abbrev jJ:Stmt:=top 88
abbrev jK:Stmt:=top 89
abbrev qb:Stmt:=top 90
abbrev gF:Stmt:=top 91
abbrev tM:Stmt:=top 92
abbrev rO:Stmt:=top 93
section
variable{P:Program}{w:World}{K:Frag}{mg:Str->Option Value}{base:Heap}
def aag(K:Frag):Sp:=λg H Q _=>∃(a:Addr)(f:List Addr)(b:List LI),g=[.ref a]/\bN K H a (f.map V.ref)/\v8 K H f b/\b.length<=60/\Yq b.length b /\
 ∀(r:Addr)(e:List Addr)(d:Hp),Same H d->H r=none->d r=some (.lst (e.map V.ref))->e.length=b.length->v9 d e (src b)->(∀c∈e,H c=none)->Q (.ref r) d
theorem E_:ak ["steps","sources","stand","targets","target"] ["steps"] (zJ Y_):=⟨rfl,rfl,rfl,by decide +kernel,rfl,by decide +kernel,by decide +kernel⟩
theorem aah:(["stand"]:List Str).Nodup:=by grind
theorem Ql{a:List Addr}(e:a.Nodup){i j:Nat}{c:Addr}(b:a[i]?=some c)(h2:a[j]?=some c):i=j:=by
 obtain⟨k1,d⟩:=aa0.mp b
 obtain⟨k2,f⟩:=aa0.mp h2
 exact(getElem_inj e).mp (d.trans f.symm)
theorem v9.put{a:Nat->LI}(r:v9 H h f)(l:h.Nodup)(i:h[j]?=some c)(e:a j=xs)(m:∀k,k≠j->a k=f k):v9 (upd H c (.lst (xs.map V.int))) h a:=λk d b=>by
 by_cases g:k=j
 ·subst g
  rw[i] at b
  cases b
  rw[zT,e]
 ·rw[zX (λz=>g (Ql l b (by grind))),m k g]
  exact r k d b
theorem Wg(F:aY K "sources_of" "sources_of" Y_ f fd)(B:Bl K mg):au P w K mg base aP 1 f fd ["steps"] (aag K):=by
 refine F.ok E_ (λvs H Q E h=>?_) (λcdv A outer s H vs Q E hr h=>?_)
 ·obtain⟨a,bs,g,rfl,_⟩:=h
  rfl
 obtain⟨a,bs,g,rfl,hS,hR,Qm,hV,q⟩:=h
 have Y:(bs.map V.ref).length=g.length:=by rw[length_map];exact hR.1
 refine⟨_,zB (Dg (i:=1) (own:=["stand"]) (ix:=[]) E_.nd rfl rfl rfl rfl rfl (ZQ (pv 0)) (λC s H fp=>yM (i:=0) aah rfl (Or.inl rfl)) (λC s H fp=>wR) (λC s H fp=>xY zF))
  (zB (xG aa3 rfl (zSm rfl B.enum (zA (pv 0) zF)) (C_ rfl (yH (yM (i:=2) E_.nd rfl (Or.inl rfl)) (yH (yM (i:=3) E_.nd rfl (Or.inl rfl)) vC)))
   (xZ (xG aa3 rfl (ZQ (pv 3)) (yM (i:=4) E_.nd rfl (Or.inl rfl))
    (xZ (yI (KC aa2 aa5 aa6 xA (xC zTo (pv 1) (pv 4) (λ_ _=>rfl)) (zA (pv 2) zF)))))))
  (xZ (zQ (pv 1)))),?_⟩
 refine⟨_,rfl,a,rfl,⟨_,hS⟩,zLx (K:=K) (a:=a) (xs:=bs.map V.ref) (λi ys σ M=>∃(d:List Addr)(v:Option V),ys=d.map V.ref/\σ=[v]/\Same H M/\News H M d (replicate i [])/\d.length=i)
  ⟨[],none,rfl,rfl,Same.refl H,News.nil,rfl⟩ (by rintro i ys σ M _ ⟨d,v,e,_,I,_,hi⟩;exact⟨I.seq hS,by rw[e,length_map,hi];exact aaz _⟩) (zKk (by lia)) ?_ ?_⟩
 ·rintro i y ys σ M hi ⟨d,v,rfl,rfl,I,N,J⟩
  refine zW5 ?_
  refine⟨(by show 0<=sizeLine;decide),λl hl'=>?_⟩
  refine⟨d++[l],_,by rw[map_append]<;>rfl,rfl,I.trans (aK hl' _),?_,by rw[length_append,J]<;>rfl⟩
  have e:replicate (i+1) ([]:List V)=replicate i []++[[]]:=List.replicate_succ'
  rw[e]
  exact N.snoc I hl'
 rintro ys σ M ⟨d,v,rfl,rfl,I,N,J⟩ r R
 have T:d.length=g.length:=by rw[J,Y]
 have s3:Same H (upd M r (.lst (d.map V.ref))):=I.trans (aK R _)
 have hrH:H r=none:=I.free R
 have nrc:r∉d:=N.Vw R
 have R0:v9 (upd M r (.lst (d.map V.ref))) d (src (g.take 0)):=λj c n=>by
  obtain⟨G,h1,h2⟩:=N.at_ j c n
  have e:G=[]:=by
   rw[List.getElem?_replicate] at h1
   split at h1
   ·exact(abf h1).symm
   ·cases h1
  subst e
  rw[zX (λz=>nrc (by rw[<-z];exact mem_of_getElem? n)),h2]
  rfl
 refine⟨_,rfl,a,rfl,⟨_,s3.seq hS⟩,zXl (K:=K) (a:=a) (xs:=bs.map V.ref) (λi σ D=>∃u v t,σ=[some (.ref a),some (.ref r),u,v,t]/\Same H D/\D r=some (.lst (d.map V.ref))/\v9 D d (src (g.take i)))
  ⟨none,none,none,rfl,s3,zT,R0⟩ (by rintro i σ D _ ⟨_,_,_,_,Z,_⟩;exact Z.seq hS) ?_ ?_⟩
 ·rintro i x t σ D hi ht ⟨u,v,t',rfl,Z,O,R4⟩
  obtain⟨b,rfl,hb⟩:=zSc hi
  obtain⟨G,hx,U⟩:=hR.2 i b hb
  obtain⟨ne,nd,len,vr⟩:=hV.2 G (mem_of_getElem? hx)
  have il:=xB hx
  have st:Same D (upd D t (.tup [.int i,.ref b])):=aK ht _
  have s5:=Z.trans st
  refine⟨t,_,rfl,ni.of zT,rfl,_,_,rfl,_,_,rfl,rfl,?_⟩
  refine⟨_,rfl,b,rfl,⟨_,s5.seq U⟩,zOo (K:=K) (a:=b) (xs:=G.map V.int) (λm σ S=>∃tt,σ=[some (.ref a),some (.ref r),some (.int i),some (.ref b),tt]/\Same H S/\S r=some (.lst (d.map V.ref)) /\
   v9 S d λj=>src (g.take i) j++(if(j:Int)∈G.take m then[(i:Int)] else[])) ⟨t',rfl,s5,st _ _ O,λj c n=>?_⟩ (by rintro m σ S _ ⟨_,_,X,_⟩;exact X.seq U) ?_ ?_⟩
  ·rw[st _ _ (R4 j c n)]
   simp
  ·rintro m y σ S hm ⟨tt,rfl,X,p,R6⟩
   obtain⟨z,rfl,hz⟩:=int_at hm
   obtain⟨z0,z1⟩:=vr z (mem_of_getElem? hz)
   have zl:z.toNat<d.length:=by rw[T];lia
   have n:d[z.toNat]?=some d[z.toNat]:=aax zl
   have L:((z.toNat:Nat):Int)=z:=by lia
   have o:=R6 z.toNat _ n
   have hno:¬z∈G.take m:=zE5 nd hz
   simp only[L,if_neg hno,append_nil] at o
   have hix:aU (d.map V.ref) z=some (.ref d[z.toNat]):=by
    have:=zU1 (zSb n)
    rw[L] at this
    exact this
   refine⟨_,rfl,_,rfl,r,_,z,_,rfl,rfl,bN.of p,hix,.inl ⟨rfl,_,bN.of o⟩,_,rfl,_,_,_,rfl,rfl,o,?_,?_⟩
   ·have:=Ie (g.take i) z.toNat
    rw[length_take] at this
    refine zKk ?_
    rw[length_map]
    lia
   ·have cH:H d[z.toNat]=none:=N.new _ (mem_of_getElem? n)
    have cr:r≠d[z.toNat]:=λe=>nrc (by rw[e];exact mem_of_getElem? n)
    refine⟨_,rfl,X.put cH _,by rw[zX cr];exact p,?_⟩
    have em:(src (g.take i) z.toNat).map V.int++[V.int i]=(src (g.take i) z.toNat++[(i:Int)]).map V.int:=by rw[map_append]<;>rfl
    rw[em]
    refine R6.put N.nd n ?_ λk hk=>?_
    ·rw[L,if_pos ((Yp hz).mpr (.inr rfl))]
    ·have hk':((k:Int)∈G.take (m+1))=((k:Int)∈G.take m):=by
      rw[Yp hz]
      refine propext ⟨λh=>h.elim id λe=>absurd (by lia) hk,.inl⟩
     simp only[hk']
  ·rintro σ S ⟨tt,rfl,X,p,R6⟩
   refine⟨_,_,_,rfl,X,p,λj c n=>?_⟩
   rw[R6 j c n,zVw hx j,length_map,take_length]
 ·rintro σ D ⟨u,v,t,rfl,Z,O,R4⟩
  refine⟨_,rfl,?_⟩
  have e:g.take (bs.map V.ref).length=g:=by rw[Y];exact take_length
  rw[e] at R4
  exact q r d D Z hrH O T R4 N.new
end
structure Fb(K:Frag)(x qual:Str)(st:Stmt)(dV:Value)(f:Addr)(fd:FuncData):Prop where
 ex:∃(oc:Value)(od:Option Addr)(kV doc pm:Value)(an:Option Addr)(cdv ct:Value)(osl:Array (Option Value)),
  fd=fnOf x qual (Df st) (vX st) (zJ st) dV kV doc pm an cdv ct/\K.lookup f=some ⟨oc,od,.func fd,osl⟩/\codeIn K cdv qual=true
 kp:keepIn K (.ref f)=true
section
variable{P:Program}{w:World}{K:Frag}{mg:Str->Option Value}{base:Heap}
theorem Fb.ok(F:Fb K x c st dV f j)(S:ak N ps (zJ st))(g:∀vs H Q E,sp vs H Q E->vs.length=ps.length)(d:∀(b:Value) (A:Around) (a:List Env) (s:Shared) (H:Hp) (vs:List V) (Q:VK) (E:XK),cI k (A.deeper (ado c (zJ st) s.heap.objs.size f b))->sp vs H Q E ->
   ∃t,qT (sS aP P w K mg base N c (zJ st) f b A a s H E).Ko (vX st) t/\t { nx:=λ_ H'=>Q .non H',rt:=Q } (start N vs) H):au P w K mg base aP (k+1) f j ps sp:=by
 obtain⟨oc,od,kV,doc,pm,an,b,ct,osl,rfl,m,i⟩:=F.ex
 refine Kw m i S g λA a s H vs Q E l e=>?_
 obtain⟨t,h,q⟩:=d b A a s H vs Q E l e
 exact⟨t,h.Ko,q⟩
structure Cl(K:Frag)(mg:Str->Option Value)(C:Addr):Prop where
 cl:Cls K C
 nS:bO K C "steps"
 nM:bO K C "marks"
 nF:bO K C "fair"
 nB:bO K C "sources"
 mgC:mg "Machine" = some (.ref C)
theorem Qn:ak ["self","steps","marks","fair","given_marks","given_fair"] ["self","steps","marks","fair"] (zJ EY):=⟨rfl,rfl,rfl,by decide +kernel,rfl,by decide +kernel,by decide +kernel⟩
theorem Wh:(["name","stands"]:List Str).Nodup:=by decide +kernel
theorem cJ(f:Str)(v:V):∀fs:List (Str×V),(aH f v fs).length<=fs.length+1
 |[]=>aaz _
 | (g,x)::r=>by
  unfold aH
  split
  ·grind
  ·exact acq (cJ f v r)
theorem zR4:∀{vs:List V}{xss:List LI},A2 (rp K R) vs xss->∃bs:List Addr,vs=bs.map V.ref/\v8 K R bs xss
 |[],[],_=>⟨[],rfl,rfl,λi b h=>by simp at h⟩
 |v::vs,a::xss,h=>by
  obtain⟨bs,e,h1,h2⟩:=zR4 h.2
  obtain⟨p,c,rfl,h3,d⟩:=h.1
  have h5:c=a.map V.int:=d.vals
  refine⟨p::bs,by grind,by grind,λi b hb=>?_⟩
  cases i with
  |zero=>exact⟨a,rfl,bN.of (by grind)⟩
  |succ i=>simp_all
 |[],_::_,h=>h.elim
 |_::_,[],h=>h.elim
noncomputable def TV(xss:LLI):Option LLI:=if xss.length<=60/\Yq xss.length xss then some (srcs xss) else none
theorem Qo(F:aY K "sources_of" "sources_of" Y_ f m)(B:Bl K mg):au P w K mg base aP 1 f m ["steps"] (bW K false (λa:LLI×Unit=>([.fz false a.1]:SL K)) λa=>TV a.1):=by
 refine(Wg F B).imp λvs H Q E h=>?_
 obtain⟨⟨g,⟨⟩⟩,b,Fa,s,d,r,q⟩:=h
 have d:TV g=some b:=d
 unfold TV at d
 split at d
 case isFalse=>cases d
 rename_i j
 cases d
 cases r with
 |cons u t =>
  cases t
  obtain⟨a,ws,rfl,v,A⟩:=u
  obtain⟨z,rfl,x⟩:=zR4 A
  refine⟨a,z,g,rfl,bN.of (s _ _ v),x.same s,j.1,j.2,λk cs i y p e l R N=>q _ _ y ?_⟩
  refine⟨k,_,rfl,by show dif i H k=_;rw[wP p];exact e,?_⟩
  exact Ig l R λc n o e=>by show dif i H c=_;rw[wP (N c n)];exact e
theorem Qp{fS:LLI->Option Unit}{fM:Gw->Int->Option Unit}{fF:LLI->Int->Option Unit}{fC fO:LLI->Option LLI}(F:Fb K "__init__" "Machine.__init__" EY dV f fd)(T:Cl K mg C)(B:Bl K mg)(CS:aW P w K mg base k "check_steps" ["steps"] (bW K false (λa:LLI×Unit=>([.fz false a.1]:SL K)) λa=>fS a.1))(CM:aW P w K mg base k "check_marks" ["marks","many"] (bW K false (λa:Gw×Int×Unit=>([.fz false a.1,.fz false a.2.1]:SL K)) λa=>fM a.1 a.2.1))(CF:aW P w K mg base k "check_fair" ["fair","many"] (bW K false (λa:LLI×Int×Unit=>([.fz false a.1,.fz false a.2.1]:SL K)) λa=>fF a.1 a.2.1))(CC:aW P w K mg base k "copied" ["lists"] (bW K false (λa:LLI×Unit=>([.fz false a.1]:SL K)) λa=>fC a.1))(CO:aW P w K mg base k "sources_of" ["steps"] (bW K false (λa:LLI×Unit=>([.fz false a.1]:SL K)) λa=>fO a.1)) :
  au P w K mg base aP (k+1) f fd ["self","steps","marks","fair"] (rJ K C (YC C fS fM fF fC fO)):=by
 refine F.ok Qn (λvs H Q E h=>?_) (λcdv A outer s H vs Q E hr h=>?_)
 ·obtain⟨p,dx,vS,vM,vF,xss,mo,fo,M,rfl,_⟩:=h
  rfl
 obtain⟨p,dx,vS,vM,vF,xss,mo,fo,M,rfl,hp,rS,rM,rF,hm,q⟩:=h
 unfold YC at hm
 obtain⟨⟨⟩,e1,hm⟩:=Gx hm
 obtain⟨⟨⟩,e2,hm⟩:=Gx hm
 obtain⟨⟨⟩,e3,hm⟩:=Gx hm
 obtain⟨a,e4,hm⟩:=Gx hm
 obtain⟨b,e5,hm⟩:=Gx hm
 obtain⟨c,e6,hm⟩:=Gx hm
 obtain⟨d,e7,hm⟩:=Gx hm
 cases hm
 refine⟨_,zB (XM (i:=4) Qn.nd rfl (Or.inl rfl) (zOb (Kh (XC (pv 2))) (xY zF) (pv 2)))
  (zB (XM (i:=5) Qn.nd rfl (Or.inl rfl) (zOb (Kh (XC (pv 3))) (xY zF) (pv 3)))
  (zB (yI (zU CS hr (zA (pv 1) zF)))
  (zB (yI (zU CM hr (zA (pv 4) (zA (zR (wL K) rfl B.len abd (zA (pv 1) zF)) zF))))
  (zB (yI (zU CF hr (zA (pv 5) (zA (zR (wL K) rfl B.len abd (zA (pv 1) zF)) zF))))
  (zB (Gq (pv 0) (zU CC hr (zA (pv 1) zF)) rfl)
  (zB (Gq (pv 0) (uF (own:=["name","stands"]) (ix:=[]) rfl rfl rfl (yS K (pv 4)) (λC s H fp=>Od (K:=K) (n:=2) rfl rfl (yH (yM (i:=0) Wh rfl (Or.inl rfl)) (yH (yM (i:=1) Wh rfl (Or.inl rfl)) vC))) (λC s H fp=>wR)
   (λC s H fp=>vo (zA (pv 0) (zA (vH (OJ K) rfl B.list KZ (zA (pv 1) zF)) zF)))) rfl)
  (zB (Gq (pv 0) (zU CC hr (zA (pv 5) zF)) rfl)
  (xZ (Gq (pv 0) (zU CO hr (zA (zZb (pv 0) rfl) zF)) rfl))))))))),?_⟩
 have sg0:Sg (K:=K) ⟨hid H p,H⟩ (hid H p) [.fz false (ju.mk ():ju p),.fz false xss,.fz false mo,.fz false fo,.un,.un] [some (.ref p),some vS,some vM,some vF,none,none] H :=
  ⟨hid H p,[],.refl _,zZ9 (.fz (show rp K _ _ (ju.mk ():ju p) from rfl) (.fz rS (.fz rM (.fz rF (.un (.un .nil))))))⟩
 refine(Sn.of (yC false 4 rfl rfl (zZv (cZ (md:=.hp) (Yo (zE 2 rfl))) (Eo.ex (zy (α:=Str×LI))) (zUb (yF 2 rfl)))) (show _=some (mo.getD []) by cases mo<;>rfl)) _ rfl (hid H p) _ _ H sg0 λσ1 H1 sg1=>?_
 refine(Sn.of (yC false 5 rfl rfl (zZv (cZ (md:=.hp) (Yo (zE 3 rfl))) (Eo.ex (zy (α:=LI))) (zUb (yF 3 rfl)))) (show _=some (fo.getD []) by cases fo<;>rfl)) _ rfl (hid H p) _ _ H1 sg1 λσ2 H2 sg2=>?_
 refine(Sn.of (S9 (md:=.hp) (zK (f:=λa:LLI×Unit=>fS a.1) (zD (zE 1 rfl) zN))) (show _=fS xss from rfl)) () e1 (hid H p) _ _ H2 sg2 λσ3 H3 sg3=>?_
 refine(Sn.of (S9 (md:=.hp) (zK (f:=λa:Gw×Int×Unit=>fM a.1 a.2.1) (zD (zE 4 rfl) (zD (Ex.sc (md:=.hp) (wO (zE 1 rfl))) zN)))) (show _=fM (mo.getD []) (xss.length:Int) from rfl)) () e2 (hid H p) _ _ H3 sg3 λσ4 H4 sg4=>?_
 refine(Sn.of (S9 (md:=.hp) (zK (f:=λa:LLI×Int×Unit=>fF a.1 a.2.1) (zD (zE 5 rfl) (zD (Ex.sc (md:=.hp) (wO (zE 1 rfl))) zN)))) (show _=fF (fo.getD []) (xss.length:Int) from rfl)) () e3 (hid H p) _ _ H4 sg4 λσ5 H5 sg5=>?_
 obtain⟨F5,O5,g5,k5,s5⟩:=sg5
 have s5:ao (K:=K) ⟨hid H p,H⟩ F5 (lo F5 O5 H5) H5 [.fz false (ju.mk ():ju p),.fz false xss,.fz false mo,.fz false fo,.fz false (mo.getD []),.fz false (fo.getD [])] σ5 O5:=s5
 cases s5 with|fz r0 s5 =>
 cases s5 with|fz r1 s5 =>
 cases s5 with|fz r2 s5 =>
 cases s5 with|fz r3 s5 =>
 cases s5 with|fz r4 s5 =>
 cases s5 with|fz r5 s5 =>
 cases s5
 rename_i v0 v1 v2 v3 v4 v5
 have r0:v0=.ref p:=r0
 subst r0
 have hF:Same F5 (hid H5 p):=λb o e=>by
  by_cases z:b=p
  ·subst z
   rcases k5.fa b o e with z|z
   ·have z:hid H b b=some o:=z
    rw[Tn] at z
    cases z
   ·have z:H b=none:=z
    rw[hp] at z
    cases z
  ·rw[Pk z];exact k5.fh b o e
 have r1:rp K (hid H5 p) v1 xss:=Rp.mono hF r1
 have r2:rp K (hid H5 p) v2 mo:=Rp.mono hF r2
 have r3:rp K (hid H5 p) v3 fo:=Rp.mono hF r3
 have r4:rp K (hid H5 p) v4 (mo.getD []):=Rp.mono hF r4
 have r5:rp K (hid H5 p) v5 (fo.getD []):=Rp.mono hF r5
 have s05:Same H H5:=k5.h0
 have hp5:H5 p=some (.ins C dx []):=s05 _ _ hp
 refine⟨_,rfl,(xss,()),a,H5,.refl _,e4,.cons (Rp.mono VL r1) .nil,λy1 H6 s6 t1=>?_⟩
 have t1:rp K (dif H6 H5) y1 a:=t1
 have hp6:=s6 _ _ hp5
 refine⟨_,rfl,p,C,dx,[],rfl,hp6,T.cl,T.nS,(by show 0<1000;decide),?_⟩
 have f1:=Rp.mono (YD (H:=H) (p:=p) (λb o _ e=>s05 b o e) (by rw[hp5];intro z;cases z)) t1
 have kp6:∀b o,b≠p->H b=some o->(upd H6 p (.ins C dx (aH "steps" y1 []))) b=some o:=λb o n e=>by rw[zX n];exact s6 _ _ (s05 _ _ e)
 have h6:Same (hid H5 p) (hid (upd H6 p (.ins C dx (aH "steps" y1 []))) p):=by rw[La];exact Tq s6
 have E2:Ex (K:=K) ⟨hid (upd H6 p (.ins C dx (aH "steps" y1 []))) p,upd H6 p (.ins C dx (aH "steps" y1 []))⟩ [.fz false (ju.mk ():ju p),.fz false xss,.fz false mo,.fz false fo,.fz false (mo.getD []),.fz false (fo.getD [])] .nw _ _ :=
  (xO (n:=false) (lV:=[.un,.un]) (no:=2) (ix:=[]) rfl rfl (yV (yF 4 rfl)) (z_ 0 1 rfl rfl (λ_=>rfl) rfl) (λx=>Ab) (λx=>Ef (zH 0 rfl) (Ow (zE 1 rfl)).ex) (λx=>Aa.un (Aa.un Aa.nil))).ex
 refine E2 b e5 (hid (upd H6 p (.ins C dx (aH "steps" y1 []))) p) [] _ _ _ (zZ9 (.fz (show rp K _ _ (ju.mk ():ju p) from rfl) (.fz (Rp.mono h6 r1) (.fz (Rp.mono h6 r2) (.fz (Rp.mono h6 r3) (.fz (Rp.mono h6 r4) (.fz (Rp.mono h6 r5) .nil))))))) λy2 F7 H7 g7 t2=>?_
 have s7:=g7.hh
 have t2:rp K (dif H7 (upd H6 p (.ins C dx (aH "steps" y1 [])))) y2 b:=Rp.mono (vQ g7.ok.fh) t2
 have hp7:H7 p=some (.ins C dx (aH "steps" y1 [])):=s7 _ _ zT
 refine⟨_,rfl,p,C,dx,_,rfl,hp7,T.cl,T.nM,(by show 1<1000;decide),?_⟩
 have f2:=Rp.mono (YD (H:=H) (p:=p) kp6 (by rw[zT];intro z;cases z)) t2
 have kp7:∀b o,b≠p->H b=some o->(upd H7 p (.ins C dx (aH "marks" y2 (aH "steps" y1 [])))) b=some o:=λb o n e=>by rw[zX n];exact s7 _ _ (kp6 _ _ n e)
 have h7:Same (hid (upd H6 p (.ins C dx (aH "steps" y1 []))) p) (hid (upd H7 p (.ins C dx (aH "marks" y2 (aH "steps" y1 [])))) p):=by rw[La (H:=H7)];exact Tq s7
 refine⟨_,rfl,(fo.getD [],()),c,_,.refl _,e6,.cons (Rp.mono (h6.trans (h7.trans VL)) r5) .nil,λy3 H8 s8 t3=>?_⟩
 have t3:rp K (dif H8 (upd H7 p (.ins C dx (aH "marks" y2 (aH "steps" y1 []))))) y3 c:=t3
 have hp8:H8 p=some (.ins C dx (aH "marks" y2 (aH "steps" y1 []))):=s8 _ _ zT
 have l2:(aH "marks" y2 (aH "steps" y1 [])).length<1000:=by
  have a1:=cJ "marks" y2 (aH "steps" y1 [])
  have a2:=cJ "steps" y1 []
  have a3:([]:List (Str×V)).length=0:=rfl
  lia
 refine⟨_,rfl,p,C,dx,_,rfl,hp8,T.cl,T.nF,l2,?_⟩
 have f3:=Rp.mono (YD (H:=H) (p:=p) kp7 (by rw[zT];intro z;cases z)) t3
 have kp8:∀b o,b≠p->H b=some o->(upd H8 p (.ins C dx (aH "fair" y3 (aH "marks" y2 (aH "steps" y1 []))))) b=some o:=λb o n e=>by rw[zX n];exact s8 _ _ (kp7 _ _ n e)
 have h8:Same (hid (upd H7 p (.ins C dx (aH "marks" y2 (aH "steps" y1 [])))) p) (hid (upd H8 p (.ins C dx (aH "fair" y3 (aH "marks" y2 (aH "steps" y1 []))))) p):=by rw[La (H:=H8)];exact Tq s8
 have lk:(aH "fair" y3 (aH "marks" y2 (aH "steps" y1 []))).lookup ("steps":Str)=some y1:=by
  rw[zS,if_neg (by decide +kernel),zS,if_neg (by decide +kernel),zS,if_pos rfl]
 have d1:Same (dif (hid H6 p) (hid H p)) (hid (upd H8 p (.ins C dx (aH "fair" y3 (aH "marks" y2 (aH "steps" y1 []))))) p):=bQ.trans ((by rw[La];exact .refl _:Same (hid H6 p) (hid (upd H6 p (.ins C dx (aH "steps" y1 []))) p)).trans (h7.trans h8))
 refine⟨_,rfl,p,C,dx,_,_,rfl,zT,T.cl,T.nS,lk,(a,()),d,_,.refl _,e7,.cons (Rp.mono (d1.trans VL) f1) .nil,λy4 H9 s9 t4=>?_⟩
 have t4:rp K (dif H9 (upd H8 p (.ins C dx (aH "fair" y3 (aH "marks" y2 (aH "steps" y1 [])))))) y4 d:=t4
 have hp9:H9 p=some (.ins C dx (aH "fair" y3 (aH "marks" y2 (aH "steps" y1 [])))):=s9 _ _ zT
 have l3:(aH "fair" y3 (aH "marks" y2 (aH "steps" y1 []))).length<1000:=by
  have a0:=cJ "fair" y3 (aH "marks" y2 (aH "steps" y1 []))
  have a1:=cJ "marks" y2 (aH "steps" y1 [])
  have a2:=cJ "steps" y1 []
  have a3:([]:List (Str×V)).length=0:=rfl
  lia
 refine⟨_,rfl,p,C,dx,_,rfl,hp9,T.cl,T.nB,l3,?_⟩
 have f4:=Rp.mono (YD (H:=H) (p:=p) kp8 (by rw[zT];intro z;cases z)) t4
 have kp9:∀b o,b≠p->H b=some o->(upd H9 p (.ins C dx (aH "sources" y4 (aH "fair" y3 (aH "marks" y2 (aH "steps" y1 [])))))) b=some o:=λb o n e=>by rw[zX n];exact s9 _ _ (kp8 _ _ n e)
 have u9:Same (hid H9 p) (upd H9 p (.ins C dx (aH "sources" y4 (aH "fair" y3 (aH "marks" y2 (aH "steps" y1 [])))))):=(by rw[La];exact .refl _:Same (hid H9 p) (hid (upd H9 p (.ins C dx (aH "sources" y4 (aH "fair" y3 (aH "marks" y2 (aH "steps" y1 [])))))) p)).trans VL
 have u8:Same (hid H8 p) (hid H9 p):=(by rw[La];exact .refl _:Same (hid H8 p) (hid (upd H8 p (.ins C dx (aH "fair" y3 (aH "marks" y2 (aH "steps" y1 []))))) p)).trans (Tq s9)
 have u7:Same (hid H7 p) (hid H8 p):=(by rw[La];exact .refl _:Same (hid H7 p) (hid (upd H7 p (.ins C dx (aH "marks" y2 (aH "steps" y1 [])))) p)).trans (Tq s8)
 have u6:Same (hid H6 p) (hid H7 p):=(by rw[La];exact .refl _:Same (hid H6 p) (hid (upd H6 p (.ins C dx (aH "steps" y1 []))) p)).trans (Tq s7)
 refine q _ kp9 ⟨p,dx,aH "sources" y4 (aH "fair" y3 (aH "marks" y2 (aH "steps" y1 []))),y1,y2,y3,y4,rfl,?_,?_,Rp.mono (vQ (u6.trans (u7.trans (u8.trans u9)))) f1,?_,Rp.mono (vQ (u7.trans (u8.trans u9))) f2,?_,Rp.mono (vQ (u8.trans u9)) f3,?_,Rp.mono (vQ u9) f4,?_⟩
 ·rw[wP Tn];exact zT
 ·rw[zS,if_neg (by decide +kernel)];exact lk
 ·rw[zS,if_neg (by decide +kernel),zS,if_neg (by decide +kernel),zS,if_pos rfl]
 ·rw[zS,if_neg (by decide +kernel),zS,if_pos rfl]
 ·rw[zS,if_pos rfl]
 ·intro g hg
  simp only[mth,mem_cons,List.not_mem_nil,or_false] at hg
  rcases hg with rfl|rfl|rfl|rfl|rfl|rfl<;>(rw[zS,if_neg (by decide +kernel),zS,if_neg (by decide +kernel),zS,if_neg (by decide +kernel),zS,if_neg (by decide +kernel)];rfl)
end
section
variable{P:Program}{w:World}{K:Frag}{mg:Str->Option Value}{base:Heap}{α β:Type}[DecidableEq α][DecidableEq β]
def Wi(K:Frag)(a1:AK α)(a2:AK β):Sp:=λvs H Q _=>∃(l:Addr)(ps:List Addr)(ks:List (α×β)),vs=[.ref l]/\bN K H l (ps.map V.ref)/\Paired (λp k=>pQ a1 a2 H k p) ps ks/\ks.length<=900/\∀(r:Addr)(H':Hp),Same H H'->H r=none->H' r=some (.lst ((vd ks).map V.int))->Q (.ref r) H'
theorem Wj:ak ["keys","known","key"] ["keys"] (zJ dI):=fsc
theorem Qq{κ:Type}[DecidableEq κ](acc:List κ)(k:κ):dd acc [k]=if k∈acc then acc else acc++[k]:=rfl
theorem Wk:(["key","known"]:List Str).Nodup:=by decide +kernel
theorem zKx{α β:Type}{F:α->β->Prop}{a:List α}{b:List β}(h:Paired F a b){i:Nat}{x:α}(hx:a[i]?=some x):∃y,b[i]?=some y/\F x y:=by
 induction h generalizing i with
 |nil=>cases hx
 |cons r _ ih =>
  cases i with
  |zero=>grind
  |succ i=>simp_all
theorem zGp(a1:AK α)(a2:AK β)(F:aY K "numbered" "numbered" dI f fd)(B:Bl K mg):au P w K mg base aP (k+1) f fd ["keys"] (Wi K a1 a2):=by
 refine F.ok Wj (by rintro vs H Q E ⟨l,ps,ks,e,_⟩;rw[e];rfl) λcdv A outer s H vs Q E hr h=>?_
 obtain⟨l,ps,ks,rfl,hS,hP,h9,q⟩:=h
 have hu:(A.deeper (ado "numbered" (zJ dI) s.heap.objs.size f cdv)).units+2<cLine:=aa1 (Nat.add_le_add_left (by decide:2<=64) _) hr.units
 have nd:=Wj.nd
 refine⟨_,zB (XM (i:=1) nd rfl (by first|exact Or.inl rfl|exact Or.inr rfl) (zWo (a1:=a1) (a2:=a2)))
  (zB (xG aa3 rfl (yS K (pv 0)) (yM (i:=2) nd rfl (by first|exact Or.inl rfl|exact Or.inr rfl))
   (xZ (yI (zWk (a1:=a1) (a2:=a2) hu (pv 1) (pv 2) (zR (zUt (a1:=a1) (a2:=a2)) rfl B.len abd (zA (pv 1) zF)) ⟨rfl,rfl,rfl,rfl⟩))))
  (xZ (zQ (uF (te:=zYq P w a1 a2 (eU 1) (eU 0)) (own:=["key"]) (ix:=[1]) rfl rfl rfl (yS K (pv 0)) (λC s H fp=>yM (i:=0) Wk rfl (Or.inl rfl)) (λC s H fp=>wR) (λC s H fp=>zWp (X:=d_ _ _ _ _ C s H fp) (a1:=a1) (a2:=a2) hu (pv 1) (pv 0) (λ_ _=>rfl)))))),?_⟩
 have hl:ks.length=ps.length:=(adu hP).symm
 have up:∀{H':Hp},Same H H'->∀(k:α×β)(p:Addr),pQ a1 a2 H k p->pQ a1 a2 H' k p:=λs' k p n=>pQ.mono n λb xs e=>s' _ _ e
 refineλd hd=>?_
 refine⟨_,rfl,l,rfl,⟨_,(aK hd _).seq hS⟩,zOo (K:=K) (a:=l) (xs:=ps.map V.ref) (λi σ H2=>∃u kvs,σ=[some (.ref l),some (.ref d),u]/\Same H H2/\H2 d=some (GD P w a1 a2 d kvs)/\w5 kvs (dd [] (ks.take i))/\∀p∈kvs,pQ a1 a2 H p.1 p.2.1)
  ⟨none,[],rfl,aK hd _,zT,⟨rfl,λj p h=>by simp at h⟩,λp h=>by cases h⟩ (by rintro i σ H2 _ ⟨_,_,_,s2,_⟩;exact s2.seq hS) ?_ ?_⟩
 ·rintro i x σ H2 hi ⟨u,kvs,rfl,s2,e2,nb,hk⟩
  obtain⟨p,rfl,hp⟩:=zSc hi
  obtain⟨key,hkey,na⟩:=zKx hP hp
  have hk2:∀p∈kvs,pQ a1 a2 H2 p.1 p.2.1:=λp hp=>up s2 _ _ (hk p hp)
  have et:dd [] (ks.take (i+1))=if key∈dd [] (ks.take i) then dd [] (ks.take i) else dd [] (ks.take i)++[key]:=by
   rw[take_add_one,hkey,zZ1]
   show dd _ [key]=_
   rw[Qq]
   by_cases z:key∈dd [] (ks.take i)
   ·rw[if_pos z,if_pos z]
   ·rw[if_neg z,if_neg z]
  refine⟨_,rfl,d,kvs,rfl,e2,hk2,_,rfl,_,rfl,d,kvs,rfl,e2,hk2,kvs,p,key,_,rfl,rfl,e2,hk2,up s2 _ _ na,λj hj=>?_,λno=>?_⟩
  ·refine⟨some (.ref p),kvs,rfl,s2,e2,?_,hk⟩
   rw[et]
   by_cases z:key∈dd [] (ks.take i)
   ·rw[if_pos z];exact nb
   ·rw[nb.non z] at hj;cases hj
  ·have hlen:kvs.length<=i:=by
    have:=congrArg length nb.1
    rw[length_map] at this
    rw[this]
    have z:=zZ0 (ks.take i) []
    rw[length_take] at z
    simp only[length_nil] at z
    lia
   have hi9:=xB hkey
   refine⟨by lia,some (.ref p),_,rfl,s2.put hd _,zT,?_,λp' hp'=>?_⟩
   ·rw[et]
    by_cases z:key∈dd [] (ks.take i)
    ·rw[nb.val z] at no;cases no
    ·rw[if_neg z];exact nb.snoc key p
   ·rcases mem_append.mp hp' with z|z
    ·exact hk p' z
    ·rw[mem_singleton.mp z];exact na
 ·rintro σ H2 ⟨u,kvs,rfl,s2,e2,nb,hk⟩
  rw[length_map,<-hl,take_length] at nb
  have hk2:∀p∈kvs,pQ a1 a2 H2 p.1 p.2.1:=λp hp=>up s2 _ _ (hk p hp)
  refine⟨_,rfl,l,rfl,⟨_,s2.seq hS⟩,zLx (K:=K) (a:=l) (xs:=ps.map V.ref) (λi ys σ H3=>∃v,σ=[v,some (.ref d)]/\H3=H2/\ys=(ks.take i).map λk=>V.int ((dd [] ks).idxOf k:Int))
   ⟨none,rfl,rfl,rfl⟩ (by rintro i ys σ H3 hi ⟨v,_,e,ey⟩;exact⟨by rw[e];exact s2.seq hS,by rw[ey,length_map,length_take];omega⟩) (by rw[length_map];exact aa1 (show ps.length<=900 by lia) (by decide)) ?_ ?_⟩
  ·rintro i x ys σ H3 hi ⟨v,rfl,rfl,rfl⟩
   obtain⟨p,rfl,hp⟩:=zSc hi
   obtain⟨key,hkey,na⟩:=zKx hP hp
   refine⟨_,rfl,_,rfl,d,kvs,p,key,_,rfl,rfl,e2,hk2,up s2 _ _ na,nb.val (Wf (mem_of_getElem? hkey)),_,rfl,rfl,?_⟩
   rw[take_add_one,hkey,map_append];rfl
  ·rintro ys σ H3 ⟨v,rfl,rfl,rfl⟩ r hr
   refine q r _ (s2.trans (aK hr _)) ?_ ?_
   ·have:=s2
    exact ab9 λz=>by
     obtain⟨o,ho⟩:=Option.ne_none_iff_exists'.mp z
     rw[s2 _ _ ho] at hr;cases hr
   ·rw[zT,length_map,<-hl,take_length]
    unfold vd
    rw[map_map]
    have ei:∀k:α×β,@idxOf (α×β) instBEqProd k (dd [] ks)=@idxOf (α×β) instBEqOfDecidableEq k (dd [] ks):=λk=>by
     unfold idxOf
     congr 1
     funext x
     exact acj.mpr ((@beq_iff_eq _ instBEqProd _ _ _).trans (@beq_iff_eq _ instBEqOfDecidableEq _ _ _).symm)
    congr 2
    refine List.map_congr_left λk _=>?_
    show V.int _=V.int _
    rw[ei]
end
section
variable{κ κ':Type}[DecidableEq κ][DecidableEq κ']
theorem zUn{f:κ->κ'}(inj:∀a b,f a=f b->a=b):∀(ks acc:List κ),dd (acc.map f) (ks.map f)=(dd acc ks).map f
 |[],acc=>rfl
 |k::ks,acc=>by
  show dd (if f k∈acc.map f then acc.map f else acc.map f++[f k]) (ks.map f)=(dd (if k∈acc then acc else acc++[k]) ks).map f
  have e:(f k∈acc.map f)↔k∈acc:=by
   grind
  by_cases z:k∈acc
  ·rw[if_pos z,if_pos (e.mpr z)]
   exact zUn inj ks acc
  ·rw[if_neg z,if_neg λh=>z (e.mp h),show acc.map f++[f k]=(acc++[k]).map f by grind]
   exact zUn inj ks _
theorem zTv{f:κ->κ'}(inj:∀a b,f a=f b->a=b)(k:κ):∀l:List κ,(l.map f).idxOf (f k)=l.idxOf k
 |[]=>rfl
 |x::l=>by
  rw[map_cons,idxOf_cons,zTv inj k l]
  grind
theorem Jv{f:κ->κ'}(inj:∀a b,f a=f b->a=b)(ks:List κ):vd (ks.map f)=vd ks:=by
 unfold vd
 rw[map_map]
 refine List.map_congr_left λk _=>?_
 show(((dd [] (ks.map f)).idxOf (f k):Nat):Int)=_
 rw[show dd [] (ks.map f)=(dd [] ks).map f from zUn inj ks [],zTv inj]
end
noncomputable def Qs{κ:Type}[DecidableEq κ](ks:List κ):Option LI:=if ks.length<=900 then some (vd ks) else none
section
variable{P:Program}{w:World}{K:Frag}{mg:Str->Option Value}{base:Heap}
def Wm(q0:List ((Tp Str)×(Tp Int))):Option LI:=Qs q0
def Wn(q0:List (Int×(Tp Int))):Option LI:=Qs q0
abbrev zDu(K:Frag):Sp:=bW K false (λa:(List ((Tp Str)×(Tp Int)))×Unit=>([.fz false a.1]:SL K)) (λa=>Wm a.1)
abbrev zDt(K:Frag):Sp:=bW K false (λa:(List (Int×(Tp Int)))×Unit=>([.fz false a.1]:SL K)) (λa=>Wn a.1)
def kS(x:Tp Str):List Key:=x.xs.map .inr
def kT(x:Tp Int):List Key:=x.xs.map .inl
theorem zM6{α β:Type}{f:α->β}(inj:∀a b,f a=f b->a=b):∀{a b:List α},a.map f=b.map f->a=b
 |[],[],_=>rfl
 |x::a,y::b,h=>by
  obtain⟨h1,h2⟩:=ae4 h
  rw[inj _ _ h1,zM6 inj h2]
 |[],_::_,h=>by cases h
 |_::_,[],h=>by cases h
theorem Qt(a b:Tp Str)(h:kS a=kS b):a=b:=by
 exact congrArg Tp.mk (zM6 (λ_ _ e=>by grind) h)
theorem zZp(a b:Tp Int)(h:kT a=kT b):a=b:=by
 exact congrArg Tp.mk (zM6 (λ_ _ e=>by grind) h)
theorem zTa{γ α β:Type}[DecidableEq α][DecidableEq β][DecidableEq γ][Rp K γ]{a1:AK α}{a2:AK β}(f:γ->α×β)(inj:∀a b,f a=f b->a=b)(h:∀{F:Hp} {v:V} {x:γ},rp K F v x->∃p,v=.ref p/\pQ a1 a2 F (f x) p)(hh:bW K false (λa:List γ×Unit=>([.fz false a.1]:SL K)) (λa=>Qs a.1) vs H Q E):Wi K a1 a2 vs H Q E:=by
 obtain⟨⟨ks,⟨⟩⟩,b,Fa,s,hb,r,q⟩:=hh
 have hb:Qs ks=some b:=hb
 unfold Qs at hb
 split at hb
 case isFalse=>cases hb
 rename_i hl
 cases hb
 cases r with
 |cons r1 r2 =>
  cases r2
  obtain⟨l,us,rfl,h1,h2⟩:=r1
  have key:∀{us:List V}{ks:List γ},A2 (rp K Fa) us ks->∃ps:List Addr,us=ps.map V.ref/\Paired (λp k=>pQ a1 a2 H k p) ps (ks.map f):=by
   intro us
   induction us with
   |nil=>intro ks z;cases ks with
    |nil=>exact⟨[],rfl,.nil⟩
    |cons _ _=>exact z.elim
   |cons u us ih=>intro ks z;cases ks with
    |nil=>exact z.elim
    |cons k ks =>
     obtain⟨ps,e,pr⟩:=ih z.2
     obtain⟨p,e1,n⟩:=h z.1
     exact⟨p::ps,by grind,.cons (n.mono λb xs e=>s _ _ e) pr⟩
  obtain⟨ps,rfl,pr⟩:=key h2
  refine⟨l,ps,ks.map f,rfl,bN.of (s _ _ h1),pr,by grind,λrr H' s' hr e=>q _ _ s' ⟨rr,_,rfl,by show dif H' H rr=_;rw[wP hr];exact e,?_⟩⟩
  rw[Jv inj]
  exact Gu _
theorem LK(h:A2 (rp K F) vs x):vs=(x.map (ab5:Int->Key)).map kV:=by
 rw[map_map];exact A2.pI (h.imp λ_ _ e=>e)
theorem Wo(h:A2 (rp K F) vs x):vs=(x.map (acg:Str->Key)).map kV:=by
 rw[map_map];exact A2.pI (h.imp λ_ _ e=>e)
theorem Qu{F:Hp}{v:V}{x:(Tp Str)×(Tp Int)}(h:rp K F v x):∃p,v=.ref p/\pQ TQ TQ F (kS x.1,kT x.2) p:=by
 obtain⟨p,a,b,e1,e2,⟨pa,va,e3,e4,e5⟩,⟨pb,vb,e6,e7,e8⟩⟩:=h
 exact⟨p,e1,a,b,e2,⟨pa,e3,by rw[e4,Wo e5];rfl⟩,⟨pb,e6,by rw[e7,LK e8];rfl⟩⟩
theorem Qv{F:Hp}{v:V}{x:Int×(Tp Int)}(h:rp K F v x):∃p,v=.ref p/\pQ yAc TQ F ((ab5 x.1:Key),kT x.2) p:=by
 obtain⟨p,a,b,e1,e2,e3,⟨pb,vb,e6,e7,e8⟩⟩:=h
 exact⟨p,e1,a,b,e2,e3,⟨pb,e6,by rw[e7,LK e8];rfl⟩⟩
theorem zK3(F:aY K "numbered" "numbered" dI f fd)(B:Bl K mg):au P w K mg base aP (k+1) f fd ["keys"] (zDu K) :=
 (zGp TQ TQ F B).imp λvs H Q E h=>zTa (λx=>(kS x.1,kT x.2)) (λa b e=>Prod.ext (Qt _ _ (aex e).1) (zZp _ _ (aex e).2)) Qu h
theorem zK2(F:aY K "numbered" "numbered" dI f fd)(B:Bl K mg):au P w K mg base aP (k+1) f fd ["keys"] (zDt K) :=
 (zGp yAc TQ F B).imp λvs H Q E h=>zTa (λx=>((ab5 x.1:Key),kT x.2)) (λa b e=>Prod.ext (Sum.inl.inj (aex e).1) (zZp _ _ (aex e).2)) Qv h
end
end Ts
set_option maxHeartbeats 40000000
namespace Ts
open PySem L2 Sy
section
variable{P:Program}{w:World}{K:Frag}{mg:Str->Option Value}{base:Heap}
seal L2.PE L2.PT L2.PW L2.PA L2.PS L2.qT L2.PC L2.PG L2.G6 L2.PI L2.sY L2.PO
def Wq(q0:Int)(q1:Int):Option Bool:=if true=true then if(!false)=true then if decide ((0:Int)<=q0)=true then some (decide (q0<q1)) else some false else some false else some false
theorem n8:ak ["thing","many"] ["thing","many"] (zJ lK):=fsc
abbrev zIt(K:Frag):Sp:=bW K false (λa:Int×Int×Unit=>([.z a.1,.z a.2.1]:SL K)) (λa=>Wq a.1 a.2.1)
theorem zMu(F:aY K "is_stand" "is_stand" lK f fd)(B:Bl K mg):au P w K mg base aP (k+1) f fd ["thing","many"] (zIt K):=by
 refine yK F n8 (λ_=>rfl) (λ_=>rfl) λcdv A outer s H E hr=>?_
 have nd:=n8.nd
 refine⟨_,(zB (zQ (ZM (zR (uY K (S8 (n:="int"))) rfl B.rG uZ (zA (pv 0) (zA (Ss (v:=.ty "int") rfl B.int zUy rfl) zF))) (ZM (M9 (zR (uY K (S8 (n:="bool"))) rfl B.rG uZ (zA (pv 0) (zA (Ss (v:=.ty "bool") rfl B.bool zUz rfl) zF)))) (zY8 (zOc X4 S6 zM (pv 0) (pv 1)))))) zI),?_⟩
 rintro Fa ⟨q0,q1,⟨⟩⟩
 exact SB.of (zV (esc (zUd (Tc B.ii rfl (zH 0 rfl)) (zUd (Oj (Tc B.ib rfl (zH 0 rfl))) (zOt (f:=(λi j=>decide (i<=j))) (g:=(λi j=>decide (i<j))) (zL 0) (zH 0 rfl) (zH 1 rfl)))))) (by unfold Wq;simp only[bnd])
def wF(q0:LI)(q1:Int)(q2:Str):Option Unit:=(some ()).bind λAm=>((some q0).bind λxs=>xW (λ(s2:List (Key×Bool)) (x4:Int)=>(((Wq x4 q1).bind λa5=>some (!a5)).bind λb=>if b=true then none else some ()).bind λs6=>(if((oK (Dc.mk s2).kv x4).isSome)=true then none else some ()).bind λs8=>(dput s2 x4 true).bind λiC=>some iC) xs (([]:List (Key×Bool)))).bind λs3=>some ()
theorem i_:ak ["stands","many","where","ahead","stand"] ["stands","many","where"] (zJ fu):=fsc
abbrev Za(K:Frag):Sp:=bW K false (λa:LI×Int×Str×Unit=>([.z a.1,.z a.2.1,.z a.2.2.1]:SL K)) (λa=>wF a.1 a.2.1 a.2.2.1)
theorem zGr(F:aY K "check_stands" "check_stands" fu f fd)(B:Bl K mg)(lQ:aW P w K mg base k "is_stand" ["thing","many"] (zIt K)):au P w K mg base aP (k+1) f fd ["stands","many","where"] (Za K):=by
 refine YB F i_ (λ_=>rfl) (λ_=>rfl) λcdv A outer s H E hr=>?_
 have nd:=i_.nd
 have hu:=DQ hr
 refine⟨_,(zB (yQ 3 nd Z8) (zB (xG aa3 rfl (yS K (pv 0)) (bI 4 nd) (zB (xD (M8 (vR (zU lQ hr (zA (pv 4) (zA (pv 1) zF))))) Sv zI) (zB (xD (Kh (zZc hu (pv 4) (pv 3))) Sv zI) (zB (Z7 hu (pv 3) (pv 4) Dt rfl) zI)))) zI)),?_⟩
 rintro Fa ⟨q0,q1,q2,⟨⟩⟩
 exact⟨_,Sn.of (zP (zMh (α:=Bool) 3 rfl rfl) (λAm=>(zP (wN (n:=false) (L:=(λs2:List (Key×Bool)=>([.z q0,.z q1,.z q2,.od (s2:List (Key×Bool)),.un]:SL K))) (([]:List (Key×Bool))) bw (yV (yF 0 rfl)) (λs2=>(yL 4 rfl rfl)) (λs2 x4=>(zP (rE (Oi (cZ (md:=.hp) (zK (zD (esc (zH 4 rfl)) (zD (esc (zH 1 rfl)) zN))))) Ti (yA (λs7:Unit=>([.z q0,.z q1,.z q2,.od (s2:List (Key×Bool)),.z x4]:SL K)) () bw)) (λs6=>(zP (rE (cZ (md:=.hp) (O8 (zH 4 rfl) (zNb 3 rfl))) Ti (yA (λs9:Unit=>([.z q0,.z q1,.z q2,.od (s2:List (Key×Bool)),.z x4]:SL K)) () bw)) (λs8=>(zP (zRv 3 rfl rfl (esc (Eb true)) (zH 4 rfl)) (λiC=>(yA (λs2:List (Key×Bool)=>([.z q0,.z q1,.z q2,.od (s2:List (Key×Bool)),.un]:SL K)) iC bw))))))))) (λs3=>(yA (λ_:Unit=>([.un,.un,.un,.un,.un]:SL K)) () bw))))) (by unfold wF;simp only[bnd])⟩
def uS(q0:List LI):Option Unit:=(some (q0.length:Int)).bind λmany1=>((if(decide (many1<(1:Int)))=true then some true else some (decide ((60:Int)<many1))).bind λb=>if b=true then none else some ()).bind λs2=>((some (Bu q0)).bind λxs=>xW (λ(s4:Unit) (x6:Int×LI)=>(((((Pg "steps of stand " x6.1).bind λa8=>some ((a8,()))).bind λb9=>some (many1,b9)).bind λb10=>some (x6.2,b10)).bind λz7=>wF z7.1 z7.2.1 z7.2.2.1).bind λu11=>(if(decide ((x6.2.length:Int)=(0:Int)))=true then none else some ()).bind λs12=>some ()) xs ()).bind λs5=>some ()
theorem jL:ak ["steps","many","stand","targets"] ["steps"] (zJ gw):=fsc
abbrev zJ7(K:Frag):Sp:=bW K false (λa:((List LI))×Unit=>([.z a.1]:SL K)) (λa=>uS a.1)
theorem zH3(F:aY K "check_steps" "check_steps" gw f fd)(B:Bl K mg)(qZ:mg "MOST_STANDS" = some (.int 60 q9))(aQ:aW P w K mg base k "check_stands" ["stands","many","where"] (Za K)):au P w K mg base aP (k+1) f fd ["steps"] (zJ7 K):=by
 refine YB F jL (λ_=>rfl) (λ_=>rfl) λcdv A outer s H E hr=>?_
 have nd:=jL.nd
 refine⟨_,(zB (yQ 1 nd (zR (wL K) rfl B.len abd (zA (pv 0) zF))) (zB (xD (PW.pt (pw_or (yD S6 (pv 1) zM (yZ _)) (pw_or1 (yD Ku (pv 1) (vT (v:=.int 60) rfl qZ ⟨_,rfl⟩) (yZ _))))) Sv zI) (zB (xG aa3 rfl (Vy K B.enum (zA (pv 0) zF)) (C_ rfl (yH (bI 2 nd) (yH (bI 3 nd) vC))) (zB (yI (zU aQ hr (zA (pv 3) (zA (pv 1) (zA (DY (pv 2) (by decide)) zF))))) (zB (xD (yD (wG K Int hr) (zR (wL K) rfl B.len abd (zA (pv 3) zF)) zM (yZ _)) Sv zI) zI))) zI))),?_⟩
 rintro Fa ⟨q0,⟨⟩⟩
 exact⟨_,Sn.of (zP (yC true 1 rfl rfl (esc (wO (zE 0 rfl)))) (λmany1=>(zP (rE (KJ (yG (md:=.hp) (Vq (zH 1 rfl) (zL 1))) (yG (md:=.hp) (KQ (zH 1 rfl) (zL 60)))) Ti (yA (λs3:Unit=>([.z q0,.y many1,.un,.un]:SL K)) () bw)) (λs2=>(zP (wN (n:=false) (L:=(λs4:Unit=>([.z q0,.y many1,.un,.un]:SL K))) () bw (Vm (yF 0 rfl)) (λs4=>(z_ 2 3 rfl rfl (λ_=>rfl) rfl)) (λs4 x6=>(zP (S9 (md:=.hp) (zK (zD (zE 3 rfl) (zD (esc (zH 1 rfl)) (zD (esc (zZw "steps of stand " (zH 2 rfl))) zN))))) (λu11=>(zP (rE (yG (md:=.hp) (wH (wO (zE 3 rfl)) (zL 0))) Ti (yA (λJw:Unit=>([.z q0,.y many1,.z x6.1,.z x6.2]:SL K)) () bw)) (λs12=>(yA (λs4:Unit=>([.z q0,.y many1,.un,.un]:SL K)) () bw))))))) (λs5=>(yA (λ_:Unit=>([.un,.un,.un,.un]:SL K)) () bw))))))) (by unfold uS;simp only[bnd])⟩
def Qw(q0:Str):Option Bool:=(if(!true)=true then some true else some (decide (q0∈(["all","not","both","either","somenext","eachnext","sometill","eachtill","someever","eachever"]:List Str)))).bind λb=>if b=true then some false else((Er q0).bind λb1=>if decide ((1:Int)<=b1)=true then some (decide (b1<=(8:Int))) else some false).bind λc4=>if c4=true then((some (K8 q0)).bind λxs=>aO (λ(x2:Str)=>some true) (λ(x2:Str)=>some (Yz x2 ("abcdefghijklmnopqrstuvwxyz":Str))) xs).bind λa3=>some (a3.all id) else some false
theorem qd:ak ["name"] ["name"] (zJ nA):=fsc
abbrev zMa(K:Frag):Sp:=bW K false (λa:Str×Unit=>([.z a.1]:SL K)) (λa=>Qw a.1)
theorem zP8(F:aY K "is_name" "is_name" nA f fd)(B:Bl K mg)(Cp:mg "LETTERS" = some (.str "abcdefghijklmnopqrstuvwxyz" Cq))(qe:mg "LONGEST_NAME" = some (.int 8 qg))(qj:mg "SAYING_WORDS" = some (.ref cN))(fJ:∀H,ni K H cN ((["all","not","both","either","somenext","eachnext","sometill","eachtill","someever","eachever"]:List Str).map V.str))(Qx:mg "all" = none)(Qy:mg "str" = none):au P w K mg base aP (k+1) f fd ["name"] (zMa K):=by
 refine yK F qd (λ_=>rfl) (λ_=>rfl) λcdv A outer s H E hr=>?_
 have nd:=qd.nd
 refine⟨_,(zB (xD (PW.pt (pw_or (M8 (vR (zR (uY K (S8 (n:="str"))) rfl B.rG uZ (zA (pv 0) (zA (Ss (v:=.ty "str") rfl Qy Pj rfl) zF))))) (pw_or1 (yD (Ih K) (pv 0) (vT (v:=.ref cN) rfl qj rfl) (by with_unfolding_all rfl))))) (zB (zQ Dt) zI) zI) (zB (zQ (ZM (zOc X4 X4 zM (zR zUs rfl B.len abd (zA (pv 0) zF)) (vT (v:=.int 8) rfl qe ⟨_,rfl⟩)) (zY8 (zR (zUw K rfl) rfl Qx O7 (zA (uF (own:=["sign"]) (ix:=[]) rfl rfl rfl (O9 (pv 0)) (λC s H fp=>yM (i:=0) (show(["sign"]:List Str).Nodup from by decide +kernel) rfl (Or.inl rfl)) (λC s H fp=>wR) (λC s H fp=>(UJ zSs (pv 0) (vT (v:=.str "abcdefghijklmnopqrstuvwxyz") rfl Cp ⟨_,rfl⟩) (by with_unfolding_all rfl)))) zF))))) zI)),?_⟩
 rintro Fa ⟨q0,⟨⟩⟩
 exact SB.of (xP (KJ (Oi (cZ (md:=.hp) (Tc VJ rfl (zH 0 rfl)))) (yG (md:=.hp) (Pb fJ (zH 0 rfl)))) (zV (esc (Eb false))) (zV (esc (zUd (zOt (f:=(λi j=>decide (i<=j))) (g:=(λi j=>decide (i<=j))) (zL 1) (Il (zH 0 rfl)) (zL 8)) (zOu (xO (n:=true) (lV:=[.un]) (no:=1) (ix:=[]) rfl rfl (O_ (zH 0 rfl)) (yL 0 rfl rfl) (λx2=>Ab) (λx2=>(esc (Pa (zH 0 rfl) (yY "abcdefghijklmnopqrstuvwxyz")))) (λx2=>eZ)).ex))))) (by unfold Qw;simp only[bnd])
def uT(q0:List (Str×LI))(q1:Int):Option Unit:=(some ()).bind λAm=>((some q0).bind λxs=>xW (λ(s2:List (Key×Bool)) (x4:Str×LI)=>(((Qw x4.1).bind λa5=>some (!a5)).bind λb=>if b=true then none else some ()).bind λs6=>(if((K_ (Dc.mk s2).kv x4.1).isSome)=true then none else some ()).bind λs8=>(wj s2 x4.1 true).bind λiC=>(((((Tj "mark " x4.1).bind λa12=>some ((a12,()))).bind λWr=>some (q1,Wr)).bind λWs=>some (x4.2,Ws)).bind λz11=>wF z11.1 z11.2.1 z11.2.2.1).bind λu15=>some iC) xs (([]:List (Key×Bool)))).bind λs3=>some ()
theorem jM:ak ["marks","many","ahead","name","stands"] ["marks","many"] (zJ gA):=fsc
abbrev zJ8(K:Frag):Sp:=bW K false (λa:((List (Str×LI)))×Int×Unit=>([.z a.1,.z a.2.1]:SL K)) (λa=>uT a.1 a.2.1)
theorem zH4(F:aY K "check_marks" "check_marks" gA f fd)(B:Bl K mg)(aQ:aW P w K mg base k "check_stands" ["stands","many","where"] (Za K))(nY:aW P w K mg base k "is_name" ["name"] (zMa K)):au P w K mg base aP (k+1) f fd ["marks","many"] (zJ8 K):=by
 refine YB F jM (λ_=>rfl) (λ_=>rfl) λcdv A outer s H E hr=>?_
 have nd:=jM.nd
 have hu:=DQ hr
 refine⟨_,(zB (yQ 2 nd Z8) (zB (xG aa3 rfl (yS K (pv 0)) (C_ rfl (yH (bI 3 nd) (yH (bI 4 nd) vC))) (zB (xD (M8 (vR (zU nY hr (zA (pv 3) zF)))) Sv zI) (zB (xD (Kh (zZc hu (pv 3) (pv 2))) Sv zI) (zB (Z7 hu (pv 2) (pv 3) Dt rfl) (zB (yI (zU aQ hr (zA (pv 4) (zA (pv 1) (zA (DY (pv 3) (by decide)) zF))))) zI))))) zI)),?_⟩
 rintro Fa ⟨q0,q1,⟨⟩⟩
 exact⟨_,Sn.of (zP (zMh (α:=Bool) 2 rfl rfl) (λAm=>(zP (wN (n:=false) (L:=(λs2:List (Key×Bool)=>([.z q0,.z q1,.od (s2:List (Key×Bool)),.un,.un]:SL K))) (([]:List (Key×Bool))) bw (yV (yF 0 rfl)) (λs2=>(z_ 3 4 rfl rfl (λ_=>rfl) rfl)) (λs2 x4=>(zP (rE (Oi (cZ (md:=.hp) (zK (zD (esc (zH 3 rfl)) zN)))) Ti (yA (λs7:Unit=>([.z q0,.z q1,.od (s2:List (Key×Bool)),.z x4.1,.z x4.2]:SL K)) () bw)) (λs6=>(zP (rE (cZ (md:=.hp) (Im (zH 3 rfl) (zNb 2 rfl))) Ti (yA (λs9:Unit=>([.z q0,.z q1,.od (s2:List (Key×Bool)),.z x4.1,.z x4.2]:SL K)) () bw)) (λs8=>(zP (zV1 2 rfl rfl (esc (Eb true)) (zH 3 rfl)) (λiC=>(zP (S9 (md:=.hp) (zK (zD (zE 4 rfl) (zD (esc (zH 1 rfl)) (zD (esc (Ph "mark " (zH 3 rfl))) zN))))) (λu15=>(yA (λs2:List (Key×Bool)=>([.z q0,.z q1,.od (s2:List (Key×Bool)),.un,.un]:SL K)) iC bw))))))))))) (λs3=>(yA (λ_:Unit=>([.un,.un,.un,.un,.un]:SL K)) () bw))))) (by unfold uT;simp only[bnd])⟩
def Wt(q0:List LI)(q1:Int):Option Unit:=((some (Bu q0)).bind λxs=>xW (λ(s1:Unit) (x3:Int×LI)=>(((((Pg "fair set " x3.1).bind λa5=>some ((a5,()))).bind λb6=>some (q1,b6)).bind λb7=>some (x3.2,b7)).bind λz4=>wF z4.1 z4.2.1 z4.2.2.1).bind λu8=>some ()) xs ()).bind λs2=>some ()
theorem kY:ak ["fair","many","number","stands"] ["fair","many"] (zJ g_):=fsc
abbrev zMc(K:Frag):Sp:=bW K false (λa:((List LI))×Int×Unit=>([.z a.1,.z a.2.1]:SL K)) (λa=>Wt a.1 a.2.1)
theorem zJl(F:aY K "check_fair" "check_fair" g_ f fd)(B:Bl K mg)(aQ:aW P w K mg base k "check_stands" ["stands","many","where"] (Za K)):au P w K mg base aP (k+1) f fd ["fair","many"] (zMc K):=by
 refine YB F kY (λ_=>rfl) (λ_=>rfl) λcdv A outer s H E hr=>?_
 have nd:=kY.nd
 refine⟨_,(zB (xG aa3 rfl (Vy K B.enum (zA (pv 0) zF)) (C_ rfl (yH (bI 2 nd) (yH (bI 3 nd) vC))) (zB (yI (zU aQ hr (zA (pv 3) (zA (pv 1) (zA (DY (pv 2) (by decide)) zF))))) zI)) zI),?_⟩
 rintro Fa ⟨q0,q1,⟨⟩⟩
 exact⟨_,Sn.of (zP (wN (n:=false) (L:=(λs1:Unit=>([.z q0,.z q1,.un,.un]:SL K))) () bw (Vm (yF 0 rfl)) (λs1=>(z_ 2 3 rfl rfl (λ_=>rfl) rfl)) (λs1 x3=>(zP (S9 (md:=.hp) (zK (zD (zE 3 rfl) (zD (esc (zH 1 rfl)) (zD (esc (zZw "fair set " (zH 2 rfl))) zN))))) (λu8=>(yA (λs1:Unit=>([.z q0,.z q1,.un,.un]:SL K)) () bw))))) (λs2=>(yA (λ_:Unit=>([.un,.un,.un,.un]:SL K)) () bw))) (by unfold Wt;simp only[bnd])⟩
def TX(q0:List LI):Option (List LI):=(some q0).bind λxs=>aO (λ(x1:LI)=>some true) (λ(x1:LI)=>some x1) xs
theorem rP:ak ["lists"] ["lists"] (zJ pU):=fsc
abbrev zYb(K:Frag):Sp:=bW K false (λa:((List LI))×Unit=>([.z a.1]:SL K)) (λa=>TX a.1)
theorem zSz(F:aY K "copied" "copied" pU f fd)(B:Bl K mg):au P w K mg base aP (k+1) f fd ["lists"] (zYb K):=by
 refine yK F rP (λ_=>rfl) (λ_=>rfl) λcdv A outer s H E hr=>?_
 have nd:=rP.nd
 refine⟨_,(zB (zQ (uF (own:=["things"]) (ix:=[]) rfl rfl rfl (yS K (pv 0)) (λC s H fp=>yM (i:=0) (show(["things"]:List Str).Nodup from by decide +kernel) rfl (Or.inl rfl)) (λC s H fp=>wR) (λC s H fp=>(vH (OJ K) rfl B.list KZ (zA (pv 0) zF))))) zI),?_⟩
 rintro Fa ⟨q0,⟨⟩⟩
 exact SB.of (zV (xO (n:=false) (lV:=[.un]) (no:=1) (ix:=[]) rfl rfl (yV (yF 0 rfl)) (yL 0 rfl rfl) (λx1=>Ab) (λx1=>(Ow (zE 0 rfl)).ex) (λx1=>eZ)).ex) (by unfold TX;simp only[bnd])
end
abbrev Qz(C:Addr):=YC C uS uT Wt TX TV
section
variable{P:Program}{w:World}{K:Frag}{mg:Str->Option Value}{base:Heap}
seal L2.PE L2.PT L2.PW L2.PA L2.PS L2.qT L2.PC L2.PG L2.G6 L2.PI L2.sY L2.PO
def xQ(q0:aq C):Option Int:=some (q0.steps.length:Int)
theorem jc:ak ["self"] ["self"] (zJ fG):=fsc
abbrev uC(K:Frag)(C:Addr):Sp:=bW K false (λa:(aq C)×Unit=>([.z a.1]:SL K)) (λa=>xQ a.1)
theorem zGs(F:aY K "many" "Machine.many" fG f fd)(B:Bl K mg)(T:Cl K mg C):au P w K mg base aP (k+1) f fd ["self"] (uC K C):=by
 refine yK F jc (λ_=>rfl) (λ_=>rfl) λcdv A outer s H E hr=>?_
 have nd:=jc.nd
 refine⟨_,(zB (zQ (zR (wL K) rfl B.len abd (zA (Dj K (pv 0)) zF))) zI),?_⟩
 rintro Fa ⟨q0,⟨⟩⟩
 exact SB.of (zV (esc (wO (zLq T.cl T.nS (zE 0 rfl))))) (by unfold xQ;simp only[bnd])
def yJ(q0:aq C)(q1:Int):Option LI:=(aU q0.steps q1).bind λa1=>jt a1
theorem fK:ak ["self","stand"] ["self","stand"] (zJ c7):=fsc
abbrev wM(K:Frag)(C:Addr):Sp:=bW K false (λa:(aq C)×Int×Unit=>([.z a.1,.z a.2.1]:SL K)) (λa=>yJ a.1 a.2.1)
theorem zD6(F:aY K "next_of" "Machine.next_of" c7 f fd)(B:Bl K mg)(T:Cl K mg C)(bF:mg "sorted" = none):au P w K mg base aP (k+1) f fd ["self","stand"] (wM K C):=by
 refine yK F fK (λ_=>rfl) (λ_=>rfl) λcdv A outer s H E hr=>?_
 have nd:=fK.nd
 refine⟨_,(zB (zQ (zR (zFb K) rfl bF Yt (zA (xC (aX K) (Dj K (pv 0)) (pv 1) (λ_ _=>rfl)) zF))) zI),?_⟩
 rintro Fa ⟨q0,q1,⟨⟩⟩
 exact SB.of (zV (zNf (xL (zLq T.cl T.nS (zE 0 rfl)) (zH 1 rfl))).ex) (by unfold yJ;simp only[bnd])
def wZ(q0:aq C)(q1:Int):Option LI:=aU q0.sources q1
theorem fW:ak ["self","stand"] ["self","stand"] (zJ dG):=fsc
abbrev zCi(K:Frag)(C:Addr):Sp:=bW K false (λa:(aq C)×Int×Unit=>([.z a.1,.z a.2.1]:SL K)) (λa=>wZ a.1 a.2.1)
theorem zE4(F:aY K "before" "Machine.before" dG f fd)(B:Bl K mg)(T:Cl K mg C):au P w K mg base aP (k+1) f fd ["self","stand"] (zCi K C):=by
 refine yK F fW (λ_=>rfl) (λ_=>rfl) λcdv A outer s H E hr=>?_
 have nd:=fW.nd
 refine⟨_,(zB (zQ (vH (OJ K) rfl B.list KZ (zA (xC (aX K) (Dj K (pv 0)) (pv 1) (λ_ _=>rfl)) zF))) zI),?_⟩
 rintro Fa ⟨q0,q1,⟨⟩⟩
 exact SB.of (zV (Ow (xL (zNd T.cl T.nB (zE 0 rfl)) (zH 1 rfl))).ex) (by unfold wZ;simp only[bnd])
def yO(q0:aq C)(q1:Str):Option LI:=((some q0.marks).bind λxs=>oJ (λ(s1:Unit) (x3:Str×LI)=>if(decide (x3.1=q1))=true then(jt x3.2).bind λb=>some (.rt b) else some (.nx ())) xs ()).bind λo=>o.els λs2=>some ([]:LI)
theorem fX:ak ["self","name","known","stands"] ["self","name"] (zJ dH):=fsc
abbrev zCh(K:Frag)(C:Addr):Sp:=bW K false (λa:(aq C)×Str×Unit=>([.z a.1,.z a.2.1]:SL K)) (λa=>yO a.1 a.2.1)
theorem zE3(F:aY K "marked" "Machine.marked" dH f fd)(B:Bl K mg)(T:Cl K mg C)(bF:mg "sorted" = none):au P w K mg base aP (k+1) f fd ["self","name"] (zCh K C):=by
 refine yK F fX (λ_=>rfl) (λ_=>rfl) λcdv A outer s H E hr=>?_
 have nd:=fX.nd
 refine⟨_,(zB (xG aa3 rfl (yS K (Dj K (pv 0))) (C_ rfl (yH (bI 2 nd) (yH (bI 3 nd) vC))) (zB (xD (yD (wG K Str hr) (pv 2) (pv 1) (yZ _)) (zB (zQ (zR (zFb K) rfl bF Yt (zA (pv 3) zF))) zI) zI) zI)) (zB (zQ (xY zF)) zI)),?_⟩
 rintro Fa ⟨q0,q1,⟨⟩⟩
 exact SB.of (Ye (Vj (n:=false) (L:=(λs1:Unit=>([.z q0,.z q1,.un,.un]:SL K))) () bw (yV (zHa T.cl T.nM (yF 0 rfl))) (λs1=>(z_ 2 3 rfl rfl (λ_=>rfl) rfl)) (λs1 x3=>(Yg (yG (md:=.hp) (wH (zH 2 rfl) (zH 1 rfl))) (zV (zNf (zE 3 rfl)).ex) (Vi (λs1:Unit=>([.z q0,.z q1,.un,.un]:SL K)) () bw)))) (λs2=>(zV (zy (α:=Int)).ex))) (by unfold yO;simp only[bnd])
def wJ(q0:aq C)(q1:Int):Option LI:=(aU q0.fair q1).bind λa1=>jt a1
theorem fL:ak ["self","number"] ["self","number"] (zJ dh):=fsc
abbrev zB5(K:Frag)(C:Addr):Sp:=bW K false (λa:(aq C)×Int×Unit=>([.z a.1,.z a.2.1]:SL K)) (λa=>wJ a.1 a.2.1)
theorem zD7(F:aY K "fair_at" "Machine.fair_at" dh f fd)(B:Bl K mg)(T:Cl K mg C)(bF:mg "sorted" = none):au P w K mg base aP (k+1) f fd ["self","number"] (zB5 K C):=by
 refine yK F fL (λ_=>rfl) (λ_=>rfl) λcdv A outer s H E hr=>?_
 have nd:=fL.nd
 refine⟨_,(zB (zQ (zR (zFb K) rfl bF Yt (zA (xC (aX K) (Dj K (pv 0)) (pv 1) (λ_ _=>rfl)) zF))) zI),?_⟩
 rintro Fa ⟨q0,q1,⟨⟩⟩
 exact SB.of (zV (zNf (xL (Ys T.cl T.nF (zE 0 rfl)) (zH 1 rfl))).ex) (by unfold wJ;simp only[bnd])
def yX(q0:aq C):Option LI:=(xQ q0).bind λa1=>TF a1
theorem kZ:ak ["machine"] ["machine"] (zJ h_):=fsc
abbrev wQ(K:Frag)(C:Addr):Sp:=bW K false (λa:(aq C)×Unit=>([.z a.1]:SL K)) (λa=>yX a.1)
theorem zJk(F:aY K "everywhere" "everywhere" h_ f fd)(B:Bl K mg)(aN:fV P w K mg base k C "many" ["self"] (uC K C)):au P w K mg base aP (k+1) f fd ["machine"] (wQ K C):=by
 refine yK F kZ (λ_=>rfl) (λ_=>rfl) λcdv A outer s H E hr=>?_
 have nd:=kZ.nd
 refine⟨_,(zB (zQ (zWn rfl rfl B.list rfl B.range (zA (Yu aN hr (pv 0)) zF))) zI),?_⟩
 rintro Fa ⟨q0,⟨⟩⟩
 exact SB.of (zV (zXr (Di (by decide +kernel) (zE 0 rfl) zN)).ex) (by unfold yX;simp only[bnd])
def TY(q0:aq C)(q1:LI):Option (List Bool):=(((xQ q0).bind λa2=>bH a2).bind λxs=>aO (λ(x3:Int)=>some true) (λ(x3:Int)=>some false) xs).bind λcF=>((some q1).bind λxs=>xW (λ(s4:List Bool) (x6:Int)=>(setAt s4 x6 true).bind λFd=>some Fd) xs cF).bind λs5=>some s5
theorem w6:ak ["machine","stands","told","stand"] ["machine","stands"] (zJ tG):=fsc
abbrev zNm(K:Frag)(C:Addr):Sp:=bW K false (λa:(aq C)×LI×Unit=>([.z a.1,.z a.2.1]:SL K)) (λa=>TY a.1 a.2.1)
theorem zWw(F:aY K "flags" "flags" tG f fd)(B:Bl K mg)(aN:fV P w K mg base k C "many" ["self"] (uC K C)):au P w K mg base aP (k+1) f fd ["machine","stands"] (zNm K C):=by
 refine yK F w6 (λ_=>rfl) (λ_=>rfl) λcdv A outer s H E hr=>?_
 have nd:=w6.nd
 refine⟨_,(zB (Dg (i:=2) (own:=["stand"]) (ix:=[]) nd rfl rfl rfl rfl rfl (xI rfl B.range (zA (Yu aN hr (pv 0)) zF)) (λC s H fp=>yM (i:=0) (show(["stand"]:List Str).Nodup from by decide +kernel) rfl (Or.inl rfl)) (λC s H fp=>wR) (λC s H fp=>Dt)) (zB (xG aa3 rfl (yS K (pv 1)) (bI 3 nd) (zB (G8 Dt (XJ (pv 2) (pv 3) U8)) zI)) (zB (zQ (pv 2)) zI))),?_⟩
 rintro Fa ⟨q0,q1,⟨⟩⟩
 exact SB.of (zO (uW true 2 rfl rfl (xO (n:=true) (lV:=[.un]) (no:=1) (ix:=[]) rfl rfl (wV (Di (by decide +kernel) (zE 0 rfl) zN)) (yL 0 rfl rfl) (λx3=>Ab) (λx3=>(esc (Eb false))) (λx3=>eZ))) (λcF=>(zO (wN (n:=false) (L:=(λs4:List Bool=>([.z q0,.z q1,.ow true s4,.un]:SL K))) cF bw (yV (yF 1 rfl)) (λs4=>(yL 3 rfl rfl)) (λs4 x6=>(zP (Yh 2 rfl rfl (esc (Eb true)) (zH 3 rfl)) (λFd=>(yA (λs4:List Bool=>([.z q0,.z q1,.ow true s4,.un]:SL K)) Fd bw))))) (λs5=>(HS 2 rfl rfl))))) (by unfold TY;simp only[bnd])
def QB(q0:LI)(q1:LI):Option LI:=rK q0 q1
theorem ql:ak ["one","other"] ["one","other"] (zJ nD):=fsc
abbrev zHn(K:Frag):Sp:=bW K false (λa:LI×LI×Unit=>([.z a.1,.z a.2.1]:SL K)) (λa=>QB a.1 a.2.1)
theorem zP5(F:aY K "without" "without" nD f fd)(B:Bl K mg)(bF:mg "sorted" = none)(mH:mg "set" = none):au P w K mg base aP (k+1) f fd ["one","other"] (zHn K):=by
 refine yK F ql (λ_=>rfl) (λ_=>rfl) λcdv A outer s H E hr=>?_
 have nd:=ql.nd
 refine⟨_,(zB (zQ (V1 rfl bF (Jc (Lf K rfl mH (pv 0)) (Lf K rfl mH (pv 1))))) zI),?_⟩
 rintro Fa ⟨q0,q1,⟨⟩⟩
 exact SB.of (zV (zQr (zE 0 rfl) (zE 1 rfl)).ex) (by unfold QB;simp only[bnd])
def wB(q0:aq C)(q1:LI):Option LI:=((yX q0).bind λa2=>some ((a2,(q1,())))).bind λz1=>QB z1.1 z1.2.1
theorem rQ:ak ["machine","stands"] ["machine","stands"] (zJ pW):=fsc
abbrev Wu(K:Frag)(C:Addr):Sp:=bW K false (λa:(aq C)×LI×Unit=>([.z a.1,.z a.2.1]:SL K)) (λa=>wB a.1 a.2.1)
theorem zSv(F:aY K "others" "others" pW f fd)(B:Bl K mg)(aG:aW P w K mg base k "everywhere" ["machine"] (wQ K C))(eY:aW P w K mg base k "without" ["one","other"] (zHn K)):au P w K mg base aP (k+1) f fd ["machine","stands"] (Wu K C):=by
 refine yK F rQ (λ_=>rfl) (λ_=>rfl) λcdv A outer s H E hr=>?_
 have nd:=rQ.nd
 refine⟨_,(zB (zQ (zU eY hr (zA (zU aG hr (zA (pv 0) zF)) (zA (pv 1) zF)))) zI),?_⟩
 rintro Fa ⟨q0,q1,⟨⟩⟩
 exact SB.of (zV (zK (zD (zK (zD (zE 0 rfl) zN)) (zD (zE 1 rfl) zN)))) (by unfold wB;simp only[bnd])
def QC(q0:LI)(q1:LI):Option LI:=Jd q0 q1
theorem n_:ak ["one","other"] ["one","other"] (zJ lM):=fsc
abbrev zFc(K:Frag):Sp:=bW K false (λa:LI×LI×Unit=>([.z a.1,.z a.2.1]:SL K)) (λa=>QC a.1 a.2.1)
theorem zMs(F:aY K "together" "together" lM f fd)(B:Bl K mg)(bF:mg "sorted" = none)(mH:mg "set" = none):au P w K mg base aP (k+1) f fd ["one","other"] (zFc K):=by
 refine yK F n_ (λ_=>rfl) (λ_=>rfl) λcdv A outer s H E hr=>?_
 have nd:=n_.nd
 refine⟨_,(zB (zQ (V1 rfl bF (P0 (Lf K rfl mH (pv 0)) (Lf K rfl mH (pv 1))))) zI),?_⟩
 rintro Fa ⟨q0,q1,⟨⟩⟩
 exact SB.of (zV (zUf (zE 0 rfl) (zE 1 rfl)).ex) (by unfold QC;simp only[bnd])
def wT(q0:LI)(q1:LI):Option LI:=Bw q0 q1
theorem rR:ak ["one","other"] ["one","other"] (zJ pX):=fsc
abbrev T3(K:Frag):Sp:=bW K false (λa:LI×LI×Unit=>([.z a.1,.z a.2.1]:SL K)) (λa=>wT a.1 a.2.1)
theorem zSu(F:aY K "shared" "shared" pX f fd)(B:Bl K mg)(bF:mg "sorted" = none)(mH:mg "set" = none):au P w K mg base aP (k+1) f fd ["one","other"] (T3 K):=by
 refine yK F rR (λ_=>rfl) (λ_=>rfl) λcdv A outer s H E hr=>?_
 have nd:=rR.nd
 refine⟨_,(zB (zQ (V1 rfl bF (Iv (Lf K rfl mH (pv 0)) (Lf K rfl mH (pv 1))))) zI),?_⟩
 rintro Fa ⟨q0,q1,⟨⟩⟩
 exact SB.of (zV (zQs (zE 0 rfl) (zE 1 rfl)).ex) (by unfold wT;simp only[bnd])
def Wv(q0:aq C)(q1:LI)(q2:LI):Option (List (Option Int)):=(TY q0 q1).bind λcj=>(((xQ q0).bind λa3=>bH a3).bind λxs=>aO (λ(x4:Int)=>some true) (λ(x4:Int)=>some (none:Option Int)) xs).bind λFe=>((some q2).bind λxs=>xW (λ(s5:List (Option Int)) (x7:Int)=>(setAt s5 x7 (some (0:Int))).bind λFg=>some Fg) xs Fe).bind λs6=>(some q2).bind λQD=>(some (0:Int)).bind λtQ=>(HJ (λeH:(List (Option Int))×LI×Int=>some (decide (eH.2.2<(eH.2.1.length:Int)))) (λeH:(List (Option Int))×LI×Int=>(aU eH.2.1 eH.2.2).bind λiD=>((wZ q0 iD).bind λxs=>xW (λ(tR:(List (Option Int))×LI) (QF:Int)=>(((aU cj QF).bind λc18=>if c18=true then(aU tR.1 QF).bind λa17=>some a17.isNone else some false).bind λb=>if b=true then(((((aU tR.1 iD).bind λa22=>a22).bind λa23=>some (a23+(1:Int))).bind λa24=>some (some a24)).bind λa25=>setAt tR.1 QF a25).bind λiG=>(push tR.2 QF).bind λFi=>some (iG,Fi) else some (tR.1,tR.2)).bind λWw=>some (Ww.1,Ww.2)) xs (eH.1,eH.2.1)).bind λWx=>(some (eH.2.2+(1:Int))).bind λtV=>some (Wx.1,Wx.2,tV)) fuel (s6,QD,tQ)).bind λs12=>some s12.1
theorem mJ:ak ["machine","through","goal","passable","told","stand","row","place","source"] ["machine","through","goal"] (zJ jx):=fsc
abbrev zHw(K:Frag)(C:Addr):Sp:=bW K false (λa:(aq C)×LI×LI×Unit=>([.z a.1,.z a.2.1,.z a.2.2.1]:SL K)) (λa=>Wv a.1 a.2.1 a.2.2.1)
theorem zLd(F:aY K "distances" "distances" jx f fd)(B:Bl K mg)(dJ:fV P w K mg base k C "before" ["self","stand"] (zCi K C))(aN:fV P w K mg base k C "many" ["self"] (uC K C))(j7:aW P w K mg base k "flags" ["machine","stands"] (zNm K C)):au P w K mg base aP (k+1) f fd ["machine","through","goal"] (zHw K C):=by
 refine yK F mJ (λ_=>rfl) (λ_=>rfl) λcdv A outer s H E hr=>?_
 have nd:=mJ.nd
 refine⟨_,(zB (yQ 3 nd (zU j7 hr (zA (pv 0) (zA (pv 1) zF)))) (zB (Dg (i:=4) (own:=["stand"]) (ix:=[]) nd rfl rfl rfl rfl rfl (xI rfl B.range (zA (Yu aN hr (pv 0)) zF)) (λC s H fp=>yM (i:=0) (show(["stand"]:List Str).Nodup from by decide +kernel) rfl (Or.inl rfl)) (λC s H fp=>wR) (λC s H fp=>zY9)) (zB (xG aa3 rfl (yS K (pv 2)) (bI 5 nd) (zB (G8 zM (XJ (pv 4) (pv 5) U8)) zI)) (zB (yQ 6 nd (vH (OJ K) rfl B.list KZ (zA (pv 2) zF))) (zB (yQ 7 nd zM) (zB (zN8 aa3 (yD S6 (pv 7) (zR (wL K) rfl B.len abd (zA (pv 6) zF)) (yZ _)) (zB (yQ 5 nd (xC (aX K) (pv 6) (pv 7) (λ_ _=>rfl))) (zB (xG aa3 rfl (yS K (K3 dJ hr (pv 0) (zA (pv 5) zF))) (bI 8 nd) (zB (xD (PW.pt (pw_and (vR (xC (aX K) (pv 3) (pv 8) (λ_ _=>rfl))) (pw_and1 (Kh (XC (xC (aX K) (pv 4) (pv 8) (λ_ _=>rfl))))))) (zB (G8 (zZ vZ (xC (aX K) (pv 4) (pv 5) (λ_ _=>rfl)) zM) (XJ (pv 4) (pv 8) U8)) (zB (yI (rH K aa2 aa5 aa6 xA (pv 6) (zA (pv 8) zF))) zI)) zI) zI)) (zB (zY7 (i:=7) nd rfl (by first|exact .inl rfl|exact .inr rfl) zM Ng) zI)))) (zB (zQ (pv 4)) zI))))))),?_⟩
 rintro Fa ⟨q0,q1,q2,⟨⟩⟩
 exact SB.of (zO (yC true 3 rfl rfl (zK (zD (zE 0 rfl) (zD (zE 1 rfl) zN)))) (λcj=>(zO (uW true 4 rfl rfl (xO (n:=true) (lV:=[.un]) (no:=1) (ix:=[]) rfl rfl (wV (Di (by decide +kernel) (zE 0 rfl) zN)) (yL 0 rfl rfl) (λx4=>Ab) (λx4=>(esc (zT6 (α:=Int)))) (λx4=>eZ))) (λFe=>(zO (wN (n:=false) (L:=(λs5:List (Option Int)=>([.z q0,.z q1,.z q2,.y cj,.ow true s5,.un,.un,.un,.un]:SL K))) Fe bw (yV (yF 2 rfl)) (λs5=>(yL 5 rfl rfl)) (λs5 x7=>(zP (Yh 4 rfl rfl (esc (zNc (zL 0))) (zH 5 rfl)) (λFg=>(yA (λs5:List (Option Int)=>([.z q0,.z q1,.z q2,.y cj,.ow true s5,.un,.un,.un,.un]:SL K)) Fg bw))))) (λs6=>(zO (uW true 6 rfl rfl (Ow (zE 2 rfl))) (λQD=>(zO (yC true 7 rfl rfl (esc (zL 0))) (λtQ=>(zO (zNv (L:=(λeH:(List (Option Int))×LI×Int=>([.z q0,.z q1,.z q2,.y cj,.ow true eH.1,.un,.ow true eH.2.1,.y eH.2.2,.un]:SL K))) fuel (s6,QD,tQ) bw (λeH=>(yG (md:=.hp) (Vq (zH 7 rfl) (wO (vN 6 rfl))))) (λeH=>(zP (yC true 5 rfl rfl (esc (esc (xL (vN 6 rfl) (zH 7 rfl))))) (λiD=>(zP (wN (n:=true) (L:=(λtR:(List (Option Int))×LI=>([.z q0,.z q1,.z q2,.y cj,.ow true tR.1,.y iD,.ow true tR.2,.y eH.2.2,.un]:SL K))) (eH.1,eH.2.1) bw (yV (Di (by decide +kernel) (zE 0 rfl) (zD (esc (zH 5 rfl)) zN))) (λtR=>(yL 8 rfl rfl)) (λtR QF=>(zP (rE (Yd (cZ (md:=.hp) (esc (xL (zE 3 rfl) (zH 8 rfl)))) (cZ (md:=.hp) (Yo (esc (xL (vN 4 rfl) (zH 8 rfl)))))) (zP (Yh 4 rfl rfl (esc (zNc (uA (zUb (esc (xL (vN 4 rfl) (zH 5 rfl)))) (zL 1)))) (zH 8 rfl)) (λiG=>(zP (xR 6 rfl rfl (esc (zH 8 rfl))) (λFi=>(yA (λqQ:(List (Option Int))×LI=>([.z q0,.z q1,.z q2,.y cj,.ow true qQ.1,.y iD,.ow true qQ.2,.y eH.2.2,.y QF]:SL K)) (iG,Fi) bw))))) (yA (λqQ:(List (Option Int))×LI=>([.z q0,.z q1,.z q2,.y cj,.ow true qQ.1,.y iD,.ow true qQ.2,.y eH.2.2,.y QF]:SL K)) (tR.1,tR.2) bw)) (λWw=>(yA (λtR:(List (Option Int))×LI=>([.z q0,.z q1,.z q2,.y cj,.ow true tR.1,.y iD,.ow true tR.2,.y eH.2.2,.un]:SL K)) (Ww.1,Ww.2) bw))))) (λWx=>(zP (zYu (s:=.un) 7 rfl (zL 1)) (λtV=>(yA (λeH:(List (Option Int))×LI×Int=>([.z q0,.z q1,.z q2,.y cj,.ow true eH.1,.un,.ow true eH.2.1,.y eH.2.2,.un]:SL K)) (Wx.1,Wx.2,tV) bw))))))))) (λs12=>(HS 4 rfl rfl))))))))))))) (by unfold Wv;simp only[bnd])
def wA(q0:aq C)(q1:LI)(q2:LI):Option LI:=(Wv q0 q1 q2).bind λLQ=>(some (Bu LQ)).bind λxs=>aO (λ(x2:Int×(Option Int))=>some x2.2.isSome) (λ(x2:Int×(Option Int))=>some x2.1) xs
theorem oh:ak ["machine","through","goal","away"] ["machine","through","goal"] (zJ lN):=fsc
abbrev Zb(K:Frag)(C:Addr):Sp:=bW K false (λa:(aq C)×LI×LI×Unit=>([.z a.1,.z a.2.1,.z a.2.2.1]:SL K)) (λa=>wA a.1 a.2.1 a.2.2.1)
theorem zMv(F:aY K "comes_to" "comes_to" lN f fd)(B:Bl K mg)(jN:aW P w K mg base k "distances" ["machine","through","goal"] (zHw K C)):au P w K mg base aP (k+1) f fd ["machine","through","goal"] (Zb K C):=by
 refine yK F oh (λ_=>rfl) (λ_=>rfl) λcdv A outer s H E hr=>?_
 have nd:=oh.nd
 refine⟨_,(zB (yQ 3 nd (zU jN hr (zA (pv 0) (zA (pv 1) (zA (pv 2) zF))))) (zB (zQ (uF (own:=["stand","steps"]) (ix:=[]) rfl rfl rfl (Vy K B.enum (zA (pv 3) zF)) (λC s H fp=>Od (K:=K) (n:=2) rfl rfl (yH (yM (i:=0) (show(["stand","steps"]:List Str).Nodup from by decide +kernel) rfl (Or.inl rfl)) (yH (yM (i:=1) (show(["stand","steps"]:List Str).Nodup from by decide +kernel) rfl (Or.inl rfl)) vC))) (λC s H fp=>KD (Kh (G3 (pv 1)))) (λC s H fp=>(pv 0)))) zI)),?_⟩
 rintro Fa ⟨q0,q1,q2,⟨⟩⟩
 exact SB.of (zO (yC true 3 rfl rfl (zK (zD (zE 0 rfl) (zD (zE 1 rfl) (zD (zE 2 rfl) zN))))) (λLQ=>(zV (xO (n:=true) (lV:=[.un,.un]) (no:=2) (ix:=[]) rfl rfl (Vm (yF 3 rfl)) (z_ 0 1 rfl rfl (λ_=>rfl) rfl) (λx2=>(cZ (md:=.hp) (H_ (zH 1 rfl)))) (λx2=>(esc (zH 0 rfl))) (λx2=>eZ)).ex))) (by unfold wA;simp only[bnd])
def Wy(q0:aq C)(q1:Int)(q2:List Bool):Option Bool:=((yJ q0 q1).bind λxs=>aO (λ(x1:Int)=>some true) (λ(x1:Int)=>aU q2 x1) xs).bind λa2=>some (a2.any id)
theorem lg:ak ["machine","stand","hit"] ["machine","stand","hit"] (zJ iw):=fsc
abbrev zFl(K:Frag)(C:Addr):Sp:=bW K false (λa:(aq C)×Int×(List Bool)×Unit=>([.z a.1,.z a.2.1,.z a.2.2.1]:SL K)) (λa=>Wy a.1 a.2.1 a.2.2.1)
theorem zJe(F:aY K "steps_into" "steps_into" iw f fd)(B:Bl K mg)(QG:mg "any" = none)(aJ:fV P w K mg base k C "next_of" ["self","stand"] (wM K C)):au P w K mg base aP (k+1) f fd ["machine","stand","hit"] (zFl K C):=by
 refine yK F lg (λ_=>rfl) (λ_=>rfl) λcdv A outer s H E hr=>?_
 have nd:=lg.nd
 refine⟨_,(zB (zQ (zR (zUv K rfl) rfl QG O6 (zA (uF (own:=["after"]) (ix:=[2]) rfl rfl rfl (yS K (K3 aJ hr (pv 0) (zA (pv 1) zF))) (λC s H fp=>yM (i:=0) (show(["after","hit"]:List Str).Nodup from by decide +kernel) rfl (Or.inl rfl)) (λC s H fp=>wR) (λC s H fp=>(xC (aX K) (pv 1) (pv 0) (λ_ _=>rfl)))) zF))) zI),?_⟩
 rintro Fa ⟨q0,q1,q2,⟨⟩⟩
 exact SB.of (zV (esc (zOu (xO (n:=true) (lV:=[.un,.z q2]) (no:=1) (ix:=[2]) rfl rfl (yV (Di (by decide +kernel) (zE 0 rfl) (zD (esc (zH 1 rfl)) zN))) (yL 0 rfl rfl) (λx1=>Ab) (λx1=>(esc (esc (xL (zE 1 rfl) (zH 0 rfl))))) (λx1=>eZ)).ex))) (by unfold Wy;simp only[bnd])
def uP(q0:aq C)(q1:LI)(q2:LI):Option LI:=(TY q0 q2).bind λhit1=>(some q1).bind λxs=>aO (λ(x2:Int)=>Wy q0 x2 hit1) (λ(x2:Int)=>some x2) xs
theorem jO:ak ["machine","among","goal","hit"] ["machine","among","goal"] (zJ gB):=fsc
abbrev zEo(K:Frag)(C:Addr):Sp:=bW K false (λa:(aq C)×LI×LI×Unit=>([.z a.1,.z a.2.1,.z a.2.2.1]:SL K)) (λa=>uP a.1 a.2.1 a.2.2.1)
theorem zH0(F:aY K "stepping_to" "stepping_to" gB f fd)(B:Bl K mg)(j7:aW P w K mg base k "flags" ["machine","stands"] (zNm K C))(iH:aW P w K mg base k "steps_into" ["machine","stand","hit"] (zFl K C)):au P w K mg base aP (k+1) f fd ["machine","among","goal"] (zEo K C):=by
 refine yK F jO (λ_=>rfl) (λ_=>rfl) λcdv A outer s H E hr=>?_
 have nd:=jO.nd
 refine⟨_,(zB (yQ 3 nd (zU j7 hr (zA (pv 0) (zA (pv 2) zF)))) (zB (zQ (uF (own:=["stand"]) (ix:=[0,3]) rfl rfl rfl (yS K (pv 1)) (λC s H fp=>yM (i:=0) (show(["stand","machine","hit"]:List Str).Nodup from by decide +kernel) rfl (Or.inl rfl)) (λC s H fp=>KD (vR (zU iH hr (zA (pv 1) (zA (pv 0) (zA (pv 2) zF)))))) (λC s H fp=>(pv 0)))) zI)),?_⟩
 rintro Fa ⟨q0,q1,q2,⟨⟩⟩
 exact SB.of (zO (yC true 3 rfl rfl (zK (zD (zE 0 rfl) (zD (zE 2 rfl) zN)))) (λhit1=>(zV (xO (n:=false) (lV:=[.un,.z q0,.y hit1]) (no:=1) (ix:=[0,3]) rfl rfl (yV (yF 1 rfl)) (yL 0 rfl rfl) (λx2=>(cZ (md:=.hp) (zK (zD (zE 1 rfl) (zD (esc (zH 0 rfl)) (zD (zE 2 rfl) zN)))))) (λx2=>(esc (zH 0 rfl))) (λx2=>eZ)).ex))) (by unfold uP;simp only[bnd])
def T4(q0:LI):Option Int:=(some (0:Int)).bind λcF=>((some q0).bind λxs=>xW (λ(s2:Int) (x4:Int)=>((Eu (1:Int) x4).bind λa6=>some (ada s2 a6)).bind λqm=>some qm) xs cF).bind λs3=>some s3
theorem qt:ak ["stands","told","stand"] ["stands"] (zJ nH):=fsc
abbrev zMd(K:Frag):Sp:=bW K false (λa:LI×Unit=>([.z a.1]:SL K)) (λa=>T4 a.1)
theorem zQa(F:aY K "bits_of" "bits_of" nH f fd)(B:Bl K mg):au P w K mg base aP (k+1) f fd ["stands"] (zMd K):=by
 refine yK F qt (λ_=>rfl) (λ_=>rfl) λcdv A outer s H E hr=>?_
 have nd:=qt.nd
 refine⟨_,(zB (yQ 1 nd zM) (zB (xG aa3 rfl (yS K (pv 0)) (bI 2 nd) (zB (zY7 (i:=1) nd rfl (by first|exact .inl rfl|exact .inr rfl) (zZ Nq zM (pv 2)) Lh) zI)) (zB (zQ (pv 1)) zI))),?_⟩
 rintro Fa ⟨q0,⟨⟩⟩
 exact SB.of (zO (yC true 1 rfl rfl (esc (zL 0))) (λcF=>(zO (wN (n:=false) (L:=(λs2:Int=>([.z q0,.y s2,.un]:SL K))) cF bw (yV (yF 0 rfl)) (λs2=>(yL 2 rfl rfl)) (λs2 x4=>(zP (zYu (s:=.un) 1 rfl (PB (zL 1) (zH 2 rfl))) (λqm=>(yA (λs2:Int=>([.z q0,.y s2,.un]:SL K)) qm bw))))) (λs3=>(zV (esc (zH 1 rfl))))))) (by unfold T4;simp only[bnd])
def uQ(q0:aq C)(q1:LI):Option LI:=(T4 q1).bind λdO=>(((xQ q0).bind λa3=>bH a3).bind λxs=>aO (λ(x4:Int)=>some true) (λ(x4:Int)=>some (0:Int)) xs).bind λfP=>((some q1).bind λxs=>xW (λ(s5:LI) (x7:Int)=>(((((yJ q0 x7).bind λa10=>some ((a10,()))).bind λz9=>T4 z9.1).bind λa11=>some (abj a11 dO)).bind λa12=>setAt s5 x7 a12).bind λFj=>some Fj) xs fP).bind λs6=>((some q1).bind λxs=>xW (λ(Jw:LI) (QH:Int)=>((some q1).bind λxs=>xW (λ(Fo:LI) (x18:Int)=>(((((aU Fo x18).bind λa19=>mD a19 QH).bind λa20=>some (abj a20 (1:Int))).bind λa21=>some (a21 != 0)).bind λb=>if b=true then((aU Fo QH).bind λWz=>Iz (λi j=>ada i j) Fo x18 Wz).bind λAo=>some Ao else some Fo).bind λvf=>some vf) xs Jw).bind λqu=>some qu) xs s6).bind λtR=>some tR
theorem jP:ak ["machine","within","inside","rows","stand","middle"] ["machine","within"] (zJ gC):=fsc
abbrev zEq(K:Frag)(C:Addr):Sp:=bW K false (λa:(aq C)×LI×Unit=>([.z a.1,.z a.2.1]:SL K)) (λa=>uQ a.1 a.2.1)
theorem zH1(F:aY K "onward_bits" "onward_bits" gC f fd)(B:Bl K mg)(aN:fV P w K mg base k C "many" ["self"] (uC K C))(aJ:fV P w K mg base k C "next_of" ["self","stand"] (wM K C))(j8:aW P w K mg base k "bits_of" ["stands"] (zMd K)):au P w K mg base aP (k+1) f fd ["machine","within"] (zEq K C):=by
 refine yK F jP (λ_=>rfl) (λ_=>rfl) λcdv A outer s H E hr=>?_
 have nd:=jP.nd
 refine⟨_,(zB (yQ 2 nd (zU j8 hr (zA (pv 1) zF))) (zB (Dg (i:=3) (own:=["stand"]) (ix:=[]) nd rfl rfl rfl rfl rfl (xI rfl B.range (zA (Yu aN hr (pv 0)) zF)) (λC s H fp=>yM (i:=0) (show(["stand"]:List Str).Nodup from by decide +kernel) rfl (Or.inl rfl)) (λC s H fp=>wR) (λC s H fp=>zM)) (zB (xG aa3 rfl (yS K (pv 1)) (bI 4 nd) (zB (G8 (zZ Uz (zU j8 hr (zA (K3 aJ hr (pv 0) (zA (pv 4) zF)) zF)) (pv 2)) (XJ (pv 3) (pv 4) U8)) zI)) (zB (xG aa3 rfl (yS K (pv 1)) (bI 5 nd) (zB (xG aa3 rfl (yS K (pv 1)) (bI 4 nd) (zB (xD (zGk K (zZ Uz (zZ X3 (xC (aX K) (pv 3) (pv 4) (λ_ _=>rfl)) (pv 5)) zM)) (zB (G9 (pv 3) (pv 4) (zT0 K) (xC (aX K) (pv 3) (pv 5) (λ_ _=>rfl)) Lh U8) zI) zI) zI)) zI)) (zB (zQ (pv 3)) zI))))),?_⟩
 rintro Fa ⟨q0,q1,⟨⟩⟩
 exact SB.of (zO (yC true 2 rfl rfl (esc (zK (zD (zE 1 rfl) zN)))) (λdO=>(zO (uW true 3 rfl rfl (xO (n:=true) (lV:=[.un]) (no:=1) (ix:=[]) rfl rfl (wV (Di (by decide +kernel) (zE 0 rfl) zN)) (yL 0 rfl rfl) (λx4=>Ab) (λx4=>(esc (zL 0))) (λx4=>eZ))) (λfP=>(zO (wN (n:=false) (L:=(λs5:LI=>([.z q0,.z q1,.y dO,.ow true s5,.un,.un]:SL K))) fP bw (yV (yF 1 rfl)) (λs5=>(yL 4 rfl rfl)) (λs5 x7=>(zP (Yh 3 rfl rfl (esc (V2 (zK (zD (Di (by decide +kernel) (zE 0 rfl) (zD (esc (zH 4 rfl)) zN)) zN)) (zH 2 rfl))) (zH 4 rfl)) (λFj=>(yA (λs5:LI=>([.z q0,.z q1,.y dO,.ow true s5,.un,.un]:SL K)) Fj bw))))) (λs6=>(zO (wN (n:=false) (L:=(λJw:LI=>([.z q0,.z q1,.y dO,.ow true Jw,.un,.un]:SL K))) s6 bw (yV (yF 1 rfl)) (λJw=>(yL 5 rfl rfl)) (λJw QH=>(zP (wN (n:=false) (L:=(λFo:LI=>([.z q0,.z q1,.y dO,.ow true Fo,.un,.z QH]:SL K))) Jw bw (yV (yF 1 rfl)) (λFo=>(yL 4 rfl rfl)) (λFo x18=>(zP (rE (zUe (V2 (YQ (esc (xL (vN 3 rfl) (zH 4 rfl))) (zH 5 rfl)) (zL 1))) (zP (zV2 3 rfl rfl (zH 4 rfl) (esc (xL (vN 3 rfl) (zH 5 rfl)))) (λAo=>(yA (λtW:LI=>([.z q0,.z q1,.y dO,.ow true tW,.z x18,.z QH]:SL K)) Ao bw))) (yA (λtW:LI=>([.z q0,.z q1,.y dO,.ow true tW,.z x18,.z QH]:SL K)) Fo bw)) (λvf=>(yA (λFo:LI=>([.z q0,.z q1,.y dO,.ow true Fo,.un,.z QH]:SL K)) vf bw))))) (λqu=>(yA (λJw:LI=>([.z q0,.z q1,.y dO,.ow true Jw,.un,.un]:SL K)) qu bw))))) (λtR=>(HS 3 rfl rfl))))))))) (by unfold uQ;simp only[bnd])
def WD(q0:aq C)(q1:LI):Option (List LI):=(gq q1).bind λdR=>(uQ q0 dR).bind λfP=>(some (([]:List LI))).bind λFp=>(some ()).bind λWK=>((some dR).bind λxs=>xW (λ(s5:(List LI)×(List (Key×Bool))) (x7:Int)=>((if(!(oK (Dc.mk s5.2).kv x7).isSome)=true then(((aU fP x7).bind λa8=>mD a8 x7).bind λa9=>some (abj a9 (1:Int))).bind λa10=>some (a10 != 0) else some false).bind λb=>if b=true then((some dR).bind λxs=>aO (λ(QJ:Int)=>((((aU fP x7).bind λa15=>mD a15 QJ).bind λa17=>((aU fP QJ).bind λa16=>mD a16 x7).bind λQK=>some (abj a17 QK)).bind λa19=>some (abj a19 (1:Int))).bind λa20=>some (a20 != 0)) (λ(QJ:Int)=>some QJ) xs).bind λqw=>(push s5.1 qw).bind λiG=>((some qw).bind λxs=>xW (λ(vf:List (Key×Bool)) (x24:Int)=>(dput vf x24 true).bind λAq=>some Aq) xs s5.2).bind λtW=>some (iG,tW) else some (s5.1,s5.2)).bind λeH=>some (eH.1,eH.2)) xs ((Fp,([]:List (Key×Bool))))).bind λs6=>some s6.1
theorem xq:ak ["machine","within","stands","rows","told","done","stand","ring","other"] ["machine","within"] (zJ tH):=fsc
abbrev zVa(K:Frag)(C:Addr):Sp:=bW K false (λa:(aq C)×LI×Unit=>([.z a.1,.z a.2.1]:SL K)) (λa=>WD a.1 a.2.1)
theorem zWt(F:aY K "rings" "rings" tH f fd)(B:Bl K mg)(bF:mg "sorted" = none)(mH:mg "set" = none)(gG:aW P w K mg base k "onward_bits" ["machine","within"] (zEq K C)):au P w K mg base aP (k+1) f fd ["machine","within"] (zVa K C):=by
 refine yK F xq (λ_=>rfl) (λ_=>rfl) λcdv A outer s H E hr=>?_
 have nd:=xq.nd
 have hu:=DQ hr
 refine⟨_,(zB (yQ 2 nd (V1 rfl bF (Lf K rfl mH (pv 1)))) (zB (yQ 3 nd (zU gG hr (zA (pv 0) (zA (pv 2) zF)))) (zB (yQ 4 nd (xY zF)) (zB (yQ 5 nd Z8) (zB (xG aa3 rfl (yS K (pv 2)) (bI 6 nd) (zB (xD (PW.pt (pw_and (Kh (zSo hu (pv 6) (pv 5))) (pw_and1 (zGk K (zZ Uz (zZ X3 (xC (aX K) (pv 3) (pv 6) (λ_ _=>rfl)) (pv 6)) zM))))) (zB (Dg (i:=7) (own:=["other"]) (ix:=[3,6]) nd rfl rfl rfl rfl rfl (yS K (pv 2)) (λC s H fp=>yM (i:=0) (show(["other","rows","stand"]:List Str).Nodup from by decide +kernel) rfl (Or.inl rfl)) (λC s H fp=>KD (zGk K (zZ Uz (zZ Uz (zZ X3 (xC (aX K) (pv 1) (pv 2) (λ_ _=>rfl)) (pv 0)) (zZ X3 (xC (aX K) (pv 1) (pv 0) (λ_ _=>rfl)) (pv 2))) zM))) (λC s H fp=>(pv 0))) (zB (yI (rH K aa2 aa5 aa6 xA (pv 4) (zA (pv 7) zF))) (zB (xG aa3 rfl (yS K (pv 7)) (bI 8 nd) (zB (Z7 hu (pv 5) (pv 8) Dt rfl) zI)) zI))) zI) zI)) (zB (zQ (pv 4)) zI)))))),?_⟩
 rintro Fa ⟨q0,q1,⟨⟩⟩
 exact SB.of (zO (yC true 2 rfl rfl (zIq (zE 1 rfl)).ex) (λdR=>(zO (yC true 3 rfl rfl (zK (zD (zE 0 rfl) (zD (zE 2 rfl) zN)))) (λfP=>(zO (uW true 4 rfl rfl (zy (α:=LI))) (λFp=>(zO (zMh (α:=Bool) 5 rfl rfl) (λWK=>(zO (wN (n:=true) (L:=(λs5:(List LI)×(List (Key×Bool))=>([.z q0,.z q1,.y dR,.y fP,.ow true s5.1,.od (s5.2:List (Key×Bool)),.un,.un,.un]:SL K))) ((Fp,([]:List (Key×Bool)))) bw (yV (yF 2 rfl)) (λs5=>(yL 6 rfl rfl)) (λs5 x7=>(zP (rE (Yd (cZ (md:=.hp) (zUc (zH 6 rfl) (zNb 5 rfl))) (zUe (V2 (YQ (esc (xL (zE 3 rfl) (zH 6 rfl))) (zH 6 rfl)) (zL 1)))) (zP (yC true 7 rfl rfl (xO (n:=true) (lV:=[.un,.y fP,.y x7]) (no:=1) (ix:=[3,6]) rfl rfl (yV (yF 2 rfl)) (yL 0 rfl rfl) (λQJ=>(zUe (V2 (V2 (YQ (esc (xL (zE 1 rfl) (zH 2 rfl))) (zH 0 rfl)) (YQ (esc (xL (zE 1 rfl) (zH 0 rfl))) (zH 2 rfl))) (zL 1)))) (λQJ=>(esc (zH 0 rfl))) (λQJ=>eZ)).ex) (λqw=>(zP (xR 4 rfl rfl (yF 7 rfl)) (λiG=>(zP (wN (n:=true) (L:=(λvf:List (Key×Bool)=>([.z q0,.z q1,.y dR,.y fP,.ow true iG,.od (vf:List (Key×Bool)),.y x7,.y qw,.un]:SL K))) s5.2 bw (yV (yF 7 rfl)) (λvf=>(yL 8 rfl rfl)) (λvf x24=>(zP (zRv 5 rfl rfl (esc (Eb true)) (zH 8 rfl)) (λAq=>(yA (λvf:List (Key×Bool)=>([.z q0,.z q1,.y dR,.y fP,.ow true iG,.od (vf:List (Key×Bool)),.y x7,.y qw,.un]:SL K)) Aq bw))))) (λtW=>(yA (λs12:(List LI)×(List (Key×Bool))=>([.z q0,.z q1,.y dR,.y fP,.ow true s12.1,.od (s12.2:List (Key×Bool)),.y x7,.un,.un]:SL K)) (iG,tW) bw))))))) (yA (λs12:(List LI)×(List (Key×Bool))=>([.z q0,.z q1,.y dR,.y fP,.ow true s12.1,.od (s12.2:List (Key×Bool)),.y x7,.un,.un]:SL K)) (s5.1,s5.2) bw)) (λeH=>(yA (λs5:(List LI)×(List (Key×Bool))=>([.z q0,.z q1,.y dR,.y fP,.ow true s5.1,.od (s5.2:List (Key×Bool)),.un,.un,.un]:SL K)) (eH.1,eH.2) bw))))) (λs6=>(HS 4 rfl rfl))))))))))) (by unfold WD;simp only[bnd])
def WL(q0:aq C)(q1:LI):Option (Option Int):=((bH (q0.fair.length:Int)).bind λxs=>oJ (λ(s1:Unit) (x3:Int)=>((((((wJ q0 x3).bind λa5=>some ((a5,()))).bind λb6=>some (q1,b6)).bind λz4=>wT z4.1 z4.2.1).bind λa7=>some (a7.length:Int)).bind λa8=>some (decide (a8=(0:Int)))).bind λb=>if b=true then(some (some x3)).bind λb=>some (.rt b) else some (.nx ())) xs ()).bind λo=>o.els λs2=>some (none:Option Int)
theorem mK:ak ["machine","ring","number"] ["machine","ring"] (zJ jy):=fsc
abbrev zHq(K:Frag)(C:Addr):Sp:=bW K false (λa:(aq C)×LI×Unit=>([.z a.1,.z a.2.1]:SL K)) (λa=>WL a.1 a.2.1)
theorem zK4(F:aY K "missed_by" "missed_by" jy f fd)(B:Bl K mg)(T:Cl K mg C)(dj:fV P w K mg base k C "fair_at" ["self","number"] (zB5 K C))(bJ:aW P w K mg base k "shared" ["one","other"] (T3 K)):au P w K mg base aP (k+1) f fd ["machine","ring"] (zHq K C):=by
 refine yK F mK (λ_=>rfl) (λ_=>rfl) λcdv A outer s H E hr=>?_
 have nd:=mK.nd
 refine⟨_,(zB (xG aa3 rfl (xI rfl B.range (zA (zR (wL K) rfl B.len abd (zA (Dj K (pv 0)) zF)) zF)) (bI 2 nd) (zB (xD (yD (wG K Int hr) (zR (wL K) rfl B.len abd (zA (zU bJ hr (zA (pv 1) (zA (K3 dj hr (pv 0) (zA (pv 2) zF)) zF))) zF)) zM (yZ _)) (zB (zQ (pv 2)) zI) zI) zI)) (zB (zQ zY9) zI)),?_⟩
 rintro Fa ⟨q0,q1,⟨⟩⟩
 exact SB.of (Ye (Vj (n:=true) (L:=(λs1:Unit=>([.z q0,.z q1,.un]:SL K))) () bw (wV (wO (Ys T.cl T.nF (zE 0 rfl)))) (λs1=>(yL 2 rfl rfl)) (λs1 x3=>(Yg (yG (md:=.hp) (wH (wO (zK (zD (zE 1 rfl) (zD (Di (by decide +kernel) (zE 0 rfl) (zD (esc (zH 2 rfl)) zN)) zN)))) (zL 0))) (zV (esc (zNc (zH 2 rfl)))) (Vi (λs1:Unit=>([.z q0,.z q1,.un]:SL K)) () bw)))) (λs2=>(zV (esc (zT6 (α:=Int)))))) (by unfold WL;simp only[bnd])
def uK(q0:aq C)(q1:LI):Option (List LI):=(WD q0 q1).bind λxs=>aO (λ(x1:LI)=>(WL q0 x1).bind λa2=>some a2.isNone) (λ(x1:LI)=>some x1) xs
theorem lq:ak ["machine","within"] ["machine","within"] (zJ iy):=fsc
abbrev zFp(K:Frag)(C:Addr):Sp:=bW K false (λa:(aq C)×LI×Unit=>([.z a.1,.z a.2.1]:SL K)) (λa=>uK a.1 a.2.1)
theorem zJj(F:aY K "fair_rings" "fair_rings" iy f fd)(B:Bl K mg)(jQ:aW P w K mg base k "missed_by" ["machine","ring"] (zHq K C))(tX:aW P w K mg base k "rings" ["machine","within"] (zVa K C)):au P w K mg base aP (k+1) f fd ["machine","within"] (zFp K C):=by
 refine yK F lq (λ_=>rfl) (λ_=>rfl) λcdv A outer s H E hr=>?_
 have nd:=lq.nd
 refine⟨_,(zB (zQ (uF (own:=["ring"]) (ix:=[0]) rfl rfl rfl (yS K (zU tX hr (zA (pv 0) (zA (pv 1) zF)))) (λC s H fp=>yM (i:=0) (show(["ring","machine"]:List Str).Nodup from by decide +kernel) rfl (Or.inl rfl)) (λC s H fp=>KD (Kh (XC (zU jQ hr (zA (pv 1) (zA (pv 0) zF)))))) (λC s H fp=>(pv 0)))) zI),?_⟩
 rintro Fa ⟨q0,q1,⟨⟩⟩
 exact SB.of (zV (xO (n:=true) (lV:=[.un,.z q0]) (no:=1) (ix:=[0]) rfl rfl (yV (zK (zD (zE 0 rfl) (zD (zE 1 rfl) zN)))) (yL 0 rfl rfl) (λx1=>(cZ (md:=.hp) (Yo (zK (zD (zE 1 rfl) (zD (zE 0 rfl) zN)))))) (λx1=>(yF 0 rfl)) (λx1=>eZ)).ex) (by unfold uK;simp only[bnd])
def QL(q0:List LI):Option LI:=(some ([]:LI)).bind λcF=>((some q0).bind λxs=>xW (λ(s2:LI) (x4:LI)=>(Ew s2 x4).bind λqm=>some qm) xs cF).bind λs3=>some s3
theorem rT:ak ["lists","told","things"] ["lists"] (zJ pZ):=fsc
abbrev zO9(K:Frag):Sp:=bW K false (λa:((List LI))×Unit=>([.z a.1]:SL K)) (λa=>QL a.1)
theorem zSx(F:aY K "joined" "joined" pZ f fd)(B:Bl K mg):au P w K mg base aP (k+1) f fd ["lists"] (zO9 K):=by
 refine yK F rT (λ_=>rfl) (λ_=>rfl) λcdv A outer s H E hr=>?_
 have nd:=rT.nd
 refine⟨_,(zB (yQ 1 nd (xY zF)) (zB (xG aa3 rfl (yS K (pv 0)) (bI 2 nd) (zB (yI (rH K aa2 PySem.F.slot_list_extend PySem.F.type_list_extend zLh (pv 1) (zA (pv 2) zF))) zI)) (zB (zQ (pv 1)) zI))),?_⟩
 rintro Fa ⟨q0,⟨⟩⟩
 exact SB.of (zO (uW true 1 rfl rfl (zy (α:=Int))) (λcF=>(zO (wN (n:=false) (L:=(λs2:LI=>([.z q0,.ow true s2,.un]:SL K))) cF bw (yV (yF 0 rfl)) (λs2=>(yL 2 rfl rfl)) (λs2 x4=>(zP (zRu 1 rfl rfl (zE 2 rfl)) (λqm=>(yA (λs2:LI=>([.z q0,.ow true s2,.un]:SL K)) qm bw))))) (λs3=>(HS 1 rfl rfl))))) (by unfold QL;simp only[bnd])
def Fq(q0:aq C)(q1:LI):Option LI:=((((((uK q0 q1).bind λa2=>some ((a2,()))).bind λz1=>QL z1.1).bind λa4=>some ((a4,()))).bind λb5=>some (q1,b5)).bind λb6=>some (q0,b6)).bind λz3=>wA z3.1 z3.2.1 z3.2.2.1
theorem Bx:ak ["machine","within"] ["machine","within"] (zJ Al):=fsc
abbrev Zc(K:Frag)(C:Addr):Sp:=bW K false (λa:(aq C)×LI×Unit=>([.z a.1,.z a.2.1]:SL K)) (λa=>Fq a.1 a.2.1)
theorem Jx(F:aY K "core" "core" Al f fd)(B:Bl K mg)(bY:aW P w K mg base k "comes_to" ["machine","through","goal"] (Zb K C))(iI:aW P w K mg base k "fair_rings" ["machine","within"] (zFp K C))(qx:aW P w K mg base k "joined" ["lists"] (zO9 K)):au P w K mg base aP (k+1) f fd ["machine","within"] (Zc K C):=by
 refine yK F Bx (λ_=>rfl) (λ_=>rfl) λcdv A outer s H E hr=>?_
 have nd:=Bx.nd
 refine⟨_,(zB (zQ (zU bY hr (zA (pv 0) (zA (pv 1) (zA (zU qx hr (zA (zU iI hr (zA (pv 0) (zA (pv 1) zF))) zF)) zF))))) zI),?_⟩
 rintro Fa ⟨q0,q1,⟨⟩⟩
 exact SB.of (zV (zK (zD (zE 0 rfl) (zD (zE 1 rfl) (zD (zK (zD (zK (zD (zE 0 rfl) (zD (zE 1 rfl) zN))) zN)) zN))))) (by unfold Fq;simp only[bnd])
def T5(q0:aq C):Option LI:=(((yX q0).bind λa2=>some ((a2,()))).bind λb3=>some (q0,b3)).bind λz1=>Fq z1.1 z1.2.1
theorem xu:ak ["machine"] ["machine"] (zJ s_alive):=fsc
abbrev zVd(K:Frag)(C:Addr):Sp:=bW K false (λa:(aq C)×Unit=>([.z a.1]:SL K)) (λa=>T5 a.1)
theorem zWx(F:aY K "alive" "alive" s_alive f fd)(B:Bl K mg)(iJ:aW P w K mg base k "core" ["machine","within"] (Zc K C))(aG:aW P w K mg base k "everywhere" ["machine"] (wQ K C)):au P w K mg base aP (k+1) f fd ["machine"] (zVd K C):=by
 refine yK F xu (λ_=>rfl) (λ_=>rfl) λcdv A outer s H E hr=>?_
 have nd:=xu.nd
 refine⟨_,(zB (zQ (zU iJ hr (zA (pv 0) (zA (zU aG hr (zA (pv 0) zF)) zF)))) zI),?_⟩
 rintro Fa ⟨q0,⟨⟩⟩
 exact SB.of (zV (zK (zD (zE 0 rfl) (zD (zK (zD (zE 0 rfl) zN)) zN)))) (by unfold T5;simp only[bnd])
def vI(q0:aq C)(q1:LI)(q2:LI):Option LI:=(((yX q0).bind λa3=>((wT q1 q2).bind λa2=>some ((a2,()))).bind λb4=>some (a3,b4)).bind λb5=>some (q0,b5)).bind λz1=>uP z1.1 z1.2.1 z1.2.2.1
theorem mL:ak ["machine","living","part"] ["machine","living","part"] (zJ jA):=fsc
abbrev zHp(K:Frag)(C:Addr):Sp:=bW K false (λa:(aq C)×LI×LI×Unit=>([.z a.1,.z a.2.1,.z a.2.2.1]:SL K)) (λa=>vI a.1 a.2.1 a.2.2.1)
theorem zK1(F:aY K "some_next" "some_next" jA f fd)(B:Bl K mg)(aG:aW P w K mg base k "everywhere" ["machine"] (wQ K C))(bJ:aW P w K mg base k "shared" ["one","other"] (T3 K))(gH:aW P w K mg base k "stepping_to" ["machine","among","goal"] (zEo K C)):au P w K mg base aP (k+1) f fd ["machine","living","part"] (zHp K C):=by
 refine yK F mL (λ_=>rfl) (λ_=>rfl) λcdv A outer s H E hr=>?_
 have nd:=mL.nd
 refine⟨_,(zB (zQ (zU gH hr (zA (pv 0) (zA (zU aG hr (zA (pv 0) zF)) (zA (zU bJ hr (zA (pv 1) (zA (pv 2) zF))) zF))))) zI),?_⟩
 rintro Fa ⟨q0,q1,q2,⟨⟩⟩
 exact SB.of (zV (zK (zD (zE 0 rfl) (zD (zK (zD (zE 0 rfl) zN)) (zD (zK (zD (zE 1 rfl) (zD (zE 2 rfl) zN))) zN))))) (by unfold vI;simp only[bnd])
def wD(q0:aq C)(q1:LI)(q2:LI)(q3:LI):Option LI:=((((wT q1 q3).bind λa2=>some ((a2,()))).bind λb3=>some (q2,b3)).bind λb4=>some (q0,b4)).bind λz1=>wA z1.1 z1.2.1 z1.2.2.1
theorem mO:ak ["machine","living","left","right"] ["machine","living","left","right"] (zJ jB):=fsc
abbrev zHo(K:Frag)(C:Addr):Sp:=bW K false (λa:(aq C)×LI×LI×LI×Unit=>([.z a.1,.z a.2.1,.z a.2.2.1,.z a.2.2.2.1]:SL K)) (λa=>wD a.1 a.2.1 a.2.2.1 a.2.2.2.1)
theorem zK0(F:aY K "some_till" "some_till" jB f fd)(B:Bl K mg)(bY:aW P w K mg base k "comes_to" ["machine","through","goal"] (Zb K C))(bJ:aW P w K mg base k "shared" ["one","other"] (T3 K)):au P w K mg base aP (k+1) f fd ["machine","living","left","right"] (zHo K C):=by
 refine yK F mO (λ_=>rfl) (λ_=>rfl) λcdv A outer s H E hr=>?_
 have nd:=mO.nd
 refine⟨_,(zB (zQ (zU bY hr (zA (pv 0) (zA (pv 2) (zA (zU bJ hr (zA (pv 1) (zA (pv 3) zF))) zF))))) zI),?_⟩
 rintro Fa ⟨q0,q1,q2,q3,⟨⟩⟩
 exact SB.of (zV (zK (zD (zE 0 rfl) (zD (zE 2 rfl) (zD (zK (zD (zE 1 rfl) (zD (zE 3 rfl) zN))) zN))))) (by unfold wD;simp only[bnd])
def WM(q0:aq C)(q1:LI)(q2:LI)(q3:LI):Option LI:=(((((wB q0 q3).bind λa2=>some ((a2,()))).bind λb3=>some (q1,b3)).bind λz1=>wT z1.1 z1.2.1).bind λa5=>some ((a5,(q2,())))).bind λz4=>QB z4.1 z4.2.1
theorem ou:ak ["machine","living","left","right"] ["machine","living","left","right"] (zJ lO):=fsc
abbrev zIs(K:Frag)(C:Addr):Sp:=bW K false (λa:(aq C)×LI×LI×LI×Unit=>([.z a.1,.z a.2.1,.z a.2.2.1,.z a.2.2.2.1]:SL K)) (λa=>WM a.1 a.2.1 a.2.2.1 a.2.2.2.1)
theorem zMt(F:aY K "spoilers" "spoilers" lO f fd)(B:Bl K mg)(bC:aW P w K mg base k "others" ["machine","stands"] (Wu K C))(bJ:aW P w K mg base k "shared" ["one","other"] (T3 K))(eY:aW P w K mg base k "without" ["one","other"] (zHn K)):au P w K mg base aP (k+1) f fd ["machine","living","left","right"] (zIs K C):=by
 refine yK F ou (λ_=>rfl) (λ_=>rfl) λcdv A outer s H E hr=>?_
 have nd:=ou.nd
 refine⟨_,(zB (zQ (zU eY hr (zA (zU bJ hr (zA (pv 1) (zA (zU bC hr (zA (pv 0) (zA (pv 3) zF))) zF))) (zA (pv 2) zF)))) zI),?_⟩
 rintro Fa ⟨q0,q1,q2,q3,⟨⟩⟩
 exact SB.of (zV (zK (zD (zK (zD (zE 1 rfl) (zD (zK (zD (zE 0 rfl) (zD (zE 3 rfl) zN))) zN))) (zD (zE 2 rfl) zN)))) (by unfold WM;simp only[bnd])
def vK(q0:aq C)(q1:LI)(q2:LI)(q3:LI):Option LI:=(wB q0 q3).bind λqy=>(((((WM q0 q1 q2 q3).bind λa4=>some ((a4,()))).bind λb5=>some (qy,b5)).bind λb6=>some (q0,b6)).bind λz3=>wA z3.1 z3.2.1 z3.2.2.1).bind λBJ=>((((((Fq q0 qy).bind λa8=>some ((a8,()))).bind λb9=>some (BJ,b9)).bind λz7=>QC z7.1 z7.2.1).bind λa11=>some ((a11,()))).bind λWQ=>some (q0,WQ)).bind λWR=>wB WR.1 WR.2.1
theorem mQ:ak ["machine","living","left","right","waiting","broken"] ["machine","living","left","right"] (zJ jC):=fsc
abbrev zHv(K:Frag)(C:Addr):Sp:=bW K false (λa:(aq C)×LI×LI×LI×Unit=>([.z a.1,.z a.2.1,.z a.2.2.1,.z a.2.2.2.1]:SL K)) (λa=>vK a.1 a.2.1 a.2.2.1 a.2.2.2.1)
theorem zLc(F:aY K "each_till" "each_till" jC f fd)(B:Bl K mg)(bY:aW P w K mg base k "comes_to" ["machine","through","goal"] (Zb K C))(iJ:aW P w K mg base k "core" ["machine","within"] (Zc K C))(bC:aW P w K mg base k "others" ["machine","stands"] (Wu K C))(lR:aW P w K mg base k "spoilers" ["machine","living","left","right"] (zIs K C))(dM:aW P w K mg base k "together" ["one","other"] (zFc K)):au P w K mg base aP (k+1) f fd ["machine","living","left","right"] (zHv K C):=by
 refine yK F mQ (λ_=>rfl) (λ_=>rfl) λcdv A outer s H E hr=>?_
 have nd:=mQ.nd
 refine⟨_,(zB (yQ 4 nd (zU bC hr (zA (pv 0) (zA (pv 3) zF)))) (zB (yQ 5 nd (zU bY hr (zA (pv 0) (zA (pv 4) (zA (zU lR hr (zA (pv 0) (zA (pv 1) (zA (pv 2) (zA (pv 3) zF))))) zF))))) (zB (zQ (zU bC hr (zA (pv 0) (zA (zU dM hr (zA (pv 5) (zA (zU iJ hr (zA (pv 0) (zA (pv 4) zF))) zF))) zF)))) zI))),?_⟩
 rintro Fa ⟨q0,q1,q2,q3,⟨⟩⟩
 exact SB.of (zO (yC true 4 rfl rfl (zK (zD (zE 0 rfl) (zD (zE 3 rfl) zN)))) (λqy=>(zO (yC true 5 rfl rfl (zK (zD (zE 0 rfl) (zD (zE 4 rfl) (zD (zK (zD (zE 0 rfl) (zD (zE 1 rfl) (zD (zE 2 rfl) (zD (zE 3 rfl) zN))))) zN))))) (λBJ=>(zV (zK (zD (zE 0 rfl) (zD (zK (zD (zE 5 rfl) (zD (zK (zD (zE 0 rfl) (zD (zE 4 rfl) zN))) zN))) zN)))))))) (by unfold vK;simp only[bnd])
def zY(q0:aq C)(q1:LI)(q2:bR cl)(q3:List LI):Option LI:=if(lH (.one 1) q2.t)=true then((((aU q3 (0:Int)).bind λa2=>some ((a2,()))).bind λb3=>some (q1,b3)).bind λb4=>some (q0,b4)).bind λz1=>vI z1.1 z1.2.1 z1.2.2.1 else if(lH (.one 2) q2.t)=true then((((((((((aU q3 (0:Int)).bind λa6=>some ((a6,()))).bind λb7=>some (q0,b7)).bind λz5=>wB z5.1 z5.2.1).bind λa9=>some ((a9,()))).bind λb10=>some (q1,b10)).bind λyc=>some (q0,yc)).bind λz8=>vI z8.1 z8.2.1 z8.2.2.1).bind λa13=>some ((a13,()))).bind λWs=>some (q0,Ws)).bind λz12=>wB z12.1 z12.2.1 else if(lH (.two 2) q2.t)=true then((((aU q3 (0:Int)).bind λa17=>((aU q3 (1:Int)).bind λa16=>some ((a16,()))).bind λQK=>some (a17,QK)).bind λb19=>some (q1,b19)).bind λb20=>some (q0,b20)).bind λZd=>wD Zd.1 Zd.2.1 Zd.2.2.1 Zd.2.2.2.1 else if(lH (.two 3) q2.t)=true then((((aU q3 (0:Int)).bind λa23=>((aU q3 (1:Int)).bind λa22=>some ((a22,()))).bind λb24=>some (a23,b24)).bind λWz=>some (q1,Wz)).bind λb26=>some (q0,b26)).bind λQM=>vK QM.1 QM.2.1 QM.2.2.1 QM.2.2.2.1 else if(lH (.one 3) q2.t)=true then(((aU q3 (0:Int)).bind λa28=>some ((a28,()))).bind λb29=>some (q0,b29)).bind λz27=>Fq z27.1 z27.2.1 else if(lH (.one 4) q2.t)=true then(((((((yX q0).bind λa35=>(((((aU q3 (0:Int)).bind λa31=>some ((a31,()))).bind λb32=>some (q0,b32)).bind λz30=>wB z30.1 z30.2.1).bind λa34=>some ((a34,()))).bind λb36=>some (a35,b36)).bind λb37=>some (q1,b37)).bind λb38=>some (q0,b38)).bind λZe=>wD Ze.1 Ze.2.1 Ze.2.2.1 Ze.2.2.2.1).bind λa40=>some ((a40,()))).bind λb41=>some (q0,b41)).bind λz39=>wB z39.1 z39.2.1 else if(lH (.one 5) q2.t)=true then((((yX q0).bind λa44=>((aU q3 (0:Int)).bind λa43=>some ((a43,()))).bind λb45=>some (a44,b45)).bind λb46=>some (q1,b46)).bind λb47=>some (q0,b47)).bind λZf=>wD Zf.1 Zf.2.1 Zf.2.2.1 Zf.2.2.2.1 else((((yX q0).bind λa50=>((aU q3 (0:Int)).bind λa49=>some ((a49,()))).bind λb51=>some (a50,b51)).bind λb52=>some (q1,b52)).bind λWT=>some (q0,WT)).bind λQS=>vK QS.1 QS.2.1 QS.2.2.1 QS.2.2.2.1
theorem dF:ak ["machine","living","saying","sets"] ["machine","living","saying","sets"] (zJ cL):=fsc
abbrev zAx(K:Frag)(C:Addr)(cl:Hd->Addr):Sp:=bW K false (λa:(aq C)×LI×(bR cl)×((List LI))×Unit=>([.z a.1,.z a.2.1,.z a.2.2.1,.z a.2.2.2.1]:SL K)) (λa=>zY a.1 a.2.1 a.2.2.1 a.2.2.2.1)
theorem zCp{k:Nat}{C:Addr}{cl:Hd->Addr}{f:Addr}{fd:FuncData}(F:aY K "meaning_over_walks" "meaning_over_walks" cL f fd)(B:Bl K mg){kS:Nat}{fi:Hd->Addr}{di:Hd->FuncData}(I:qX P w K mg base kS cl fi di)(iJ:aW P w K mg base k "core" ["machine","within"] (Zc K C))(fY:aW P w K mg base k "each_till" ["machine","living","left","right"] (zHv K C))(aG:aW P w K mg base k "everywhere" ["machine"] (wQ K C))(bC:aW P w K mg base k "others" ["machine","stands"] (Wu K C))(fZ:aW P w K mg base k "some_next" ["machine","living","part"] (zHp K C))(dW:aW P w K mg base k "some_till" ["machine","living","left","right"] (zHo K C)):au P w K mg base aP (k+1) f fd ["machine","living","saying","sets"] (zAx K C cl):=by
 refine yK F dF (λ_=>rfl) (λ_=>rfl) λcdv A outer s H E hr=>?_
 have nd:=dF.nd
 refine⟨_,(zB (xD (vR (zR (uY K (Dh (a:=cl (.one 1)))) rfl B.rG uZ (zA (pv 2) (zA (vT (v:=.ref (cl (.one 1))) rfl (I.ini.m1 1) rfl) zF)))) (zB (zQ (zU fZ hr (zA (pv 0) (zA (pv 1) (zA (xC (aX K) (pv 3) zM (λ_ _=>rfl)) zF))))) zI) zI) (zB (xD (vR (zR (uY K (Dh (a:=cl (.one 2)))) rfl B.rG uZ (zA (pv 2) (zA (vT (v:=.ref (cl (.one 2))) rfl (I.ini.m1 2) rfl) zF)))) (zB (zQ (zU bC hr (zA (pv 0) (zA (zU fZ hr (zA (pv 0) (zA (pv 1) (zA (zU bC hr (zA (pv 0) (zA (xC (aX K) (pv 3) zM (λ_ _=>rfl)) zF))) zF)))) zF)))) zI) zI) (zB (xD (vR (zR (uY K (Dh (a:=cl (.two 2)))) rfl B.rG uZ (zA (pv 2) (zA (vT (v:=.ref (cl (.two 2))) rfl (I.ini.m2 2) rfl) zF)))) (zB (zQ (zU dW hr (zA (pv 0) (zA (pv 1) (zA (xC (aX K) (pv 3) zM (λ_ _=>rfl)) (zA (xC (aX K) (pv 3) zM (λ_ _=>rfl)) zF)))))) zI) zI) (zB (xD (vR (zR (uY K (Dh (a:=cl (.two 3)))) rfl B.rG uZ (zA (pv 2) (zA (vT (v:=.ref (cl (.two 3))) rfl (I.ini.m2 3) rfl) zF)))) (zB (zQ (zU fY hr (zA (pv 0) (zA (pv 1) (zA (xC (aX K) (pv 3) zM (λ_ _=>rfl)) (zA (xC (aX K) (pv 3) zM (λ_ _=>rfl)) zF)))))) zI) zI) (zB (xD (vR (zR (uY K (Dh (a:=cl (.one 3)))) rfl B.rG uZ (zA (pv 2) (zA (vT (v:=.ref (cl (.one 3))) rfl (I.ini.m1 3) rfl) zF)))) (zB (zQ (zU iJ hr (zA (pv 0) (zA (xC (aX K) (pv 3) zM (λ_ _=>rfl)) zF)))) zI) zI) (zB (xD (vR (zR (uY K (Dh (a:=cl (.one 4)))) rfl B.rG uZ (zA (pv 2) (zA (vT (v:=.ref (cl (.one 4))) rfl (I.ini.m1 4) rfl) zF)))) (zB (zQ (zU bC hr (zA (pv 0) (zA (zU dW hr (zA (pv 0) (zA (pv 1) (zA (zU aG hr (zA (pv 0) zF)) (zA (zU bC hr (zA (pv 0) (zA (xC (aX K) (pv 3) zM (λ_ _=>rfl)) zF))) zF))))) zF)))) zI) zI) (zB (xD (vR (zR (uY K (Dh (a:=cl (.one 5)))) rfl B.rG uZ (zA (pv 2) (zA (vT (v:=.ref (cl (.one 5))) rfl (I.ini.m1 5) rfl) zF)))) (zB (zQ (zU dW hr (zA (pv 0) (zA (pv 1) (zA (zU aG hr (zA (pv 0) zF)) (zA (xC (aX K) (pv 3) zM (λ_ _=>rfl)) zF)))))) zI) zI) (zB (zQ (zU fY hr (zA (pv 0) (zA (pv 1) (zA (zU aG hr (zA (pv 0) zF)) (zA (xC (aX K) (pv 3) zM (λ_ _=>rfl)) zF)))))) zI)))))))),?_⟩
 rintro Fa ⟨q0,q1,q2,q3,⟨⟩⟩
 exact SB.of (xP (cZ (md:=.hp) (uE I (.one 1) (zE 2 rfl))) (zV (zK (zD (zE 0 rfl) (zD (zE 1 rfl) (zD (xL (zE 3 rfl) (zL 0)) zN))))) (xP (cZ (md:=.hp) (uE I (.one 2) (zE 2 rfl))) (zV (zK (zD (zE 0 rfl) (zD (zK (zD (zE 0 rfl) (zD (zE 1 rfl) (zD (zK (zD (zE 0 rfl) (zD (xL (zE 3 rfl) (zL 0)) zN))) zN)))) zN)))) (xP (cZ (md:=.hp) (uE I (.two 2) (zE 2 rfl))) (zV (zK (zD (zE 0 rfl) (zD (zE 1 rfl) (zD (xL (zE 3 rfl) (zL 0)) (zD (xL (zE 3 rfl) (zL 1)) zN)))))) (xP (cZ (md:=.hp) (uE I (.two 3) (zE 2 rfl))) (zV (zK (zD (zE 0 rfl) (zD (zE 1 rfl) (zD (xL (zE 3 rfl) (zL 0)) (zD (xL (zE 3 rfl) (zL 1)) zN)))))) (xP (cZ (md:=.hp) (uE I (.one 3) (zE 2 rfl))) (zV (zK (zD (zE 0 rfl) (zD (xL (zE 3 rfl) (zL 0)) zN)))) (xP (cZ (md:=.hp) (uE I (.one 4) (zE 2 rfl))) (zV (zK (zD (zE 0 rfl) (zD (zK (zD (zE 0 rfl) (zD (zE 1 rfl) (zD (zK (zD (zE 0 rfl) zN)) (zD (zK (zD (zE 0 rfl) (zD (xL (zE 3 rfl) (zL 0)) zN))) zN))))) zN)))) (xP (cZ (md:=.hp) (uE I (.one 5) (zE 2 rfl))) (zV (zK (zD (zE 0 rfl) (zD (zE 1 rfl) (zD (zK (zD (zE 0 rfl) zN)) (zD (xL (zE 3 rfl) (zL 0)) zN)))))) (zV (zK (zD (zE 0 rfl) (zD (zE 1 rfl) (zD (zK (zD (zE 0 rfl) zN)) (zD (xL (zE 3 rfl) (zL 0)) zN))))))))))))) (by unfold zY;simp only[bnd])
def uR(q0:aq C)(q1:LI)(q2:bR cl)(q3:List LI):Option LI:=if(lH .all q2.t)=true then yX q0 else if(lH .mark q2.t)=true then(q2.name.bind λa2=>some ((a2,()))).bind λz1=>yO q0 z1.1 else if(lH (.one 0) q2.t)=true then(((aU q3 (0:Int)).bind λa4=>some ((a4,()))).bind λb5=>some (q0,b5)).bind λz3=>wB z3.1 z3.2.1 else if(lH (.two 0) q2.t)=true then((aU q3 (0:Int)).bind λa8=>((aU q3 (1:Int)).bind λa7=>some ((a7,()))).bind λb9=>some (a8,b9)).bind λz6=>wT z6.1 z6.2.1 else if(lH (.two 1) q2.t)=true then((aU q3 (0:Int)).bind λa12=>((aU q3 (1:Int)).bind λa11=>some ((a11,()))).bind λWr=>some (a12,Wr)).bind λWR=>QC WR.1 WR.2.1 else zY q0 q1 q2 q3
theorem qz:ak ["machine","living","saying","sets"] ["machine","living","saying","sets"] (zJ nQ):=fsc
abbrev zL9(K:Frag)(C:Addr)(cl:Hd->Addr):Sp:=bW K false (λa:(aq C)×LI×(bR cl)×((List LI))×Unit=>([.z a.1,.z a.2.1,.z a.2.2.1,.z a.2.2.2.1]:SL K)) (λa=>uR a.1 a.2.1 a.2.2.1 a.2.2.2.1)
theorem zP6{k:Nat}{C:Addr}{cl:Hd->Addr}{f:Addr}{fd:FuncData}(F:aY K "meaning" "meaning" nQ f fd)(B:Bl K mg){kS:Nat}{fi:Hd->Addr}{di:Hd->FuncData}(I:qX P w K mg base kS cl fi di)(dN:fV P w K mg base k C "marked" ["self","name"] (zCh K C))(aG:aW P w K mg base k "everywhere" ["machine"] (wQ K C))(cO:aW P w K mg base k "meaning_over_walks" ["machine","living","saying","sets"] (zAx K C cl))(bC:aW P w K mg base k "others" ["machine","stands"] (Wu K C))(bJ:aW P w K mg base k "shared" ["one","other"] (T3 K))(dM:aW P w K mg base k "together" ["one","other"] (zFc K)):au P w K mg base aP (k+1) f fd ["machine","living","saying","sets"] (zL9 K C cl):=by
 refine yK F qz (λ_=>rfl) (λ_=>rfl) λcdv A outer s H E hr=>?_
 have nd:=qz.nd
 refine⟨_,(zB (xD (vR (zR (uY K (Dh (a:=cl .all))) rfl B.rG uZ (zA (pv 2) (zA (vT (v:=.ref (cl .all)) rfl I.ini.mA rfl) zF)))) (zB (zQ (zU aG hr (zA (pv 0) zF))) zI) zI) (zB (xD (vR (zR (uY K (Dh (a:=cl .mark))) rfl B.rG uZ (zA (pv 2) (zA (vT (v:=.ref (cl .mark)) rfl I.ini.mM rfl) zF)))) (zB (zQ (K3 dN hr (pv 0) (zA (Dj K (pv 2)) zF))) zI) zI) (zB (xD (vR (zR (uY K (Dh (a:=cl (.one 0)))) rfl B.rG uZ (zA (pv 2) (zA (vT (v:=.ref (cl (.one 0))) rfl (I.ini.m1 0) rfl) zF)))) (zB (zQ (zU bC hr (zA (pv 0) (zA (xC (aX K) (pv 3) zM (λ_ _=>rfl)) zF)))) zI) zI) (zB (xD (vR (zR (uY K (Dh (a:=cl (.two 0)))) rfl B.rG uZ (zA (pv 2) (zA (vT (v:=.ref (cl (.two 0))) rfl (I.ini.m2 0) rfl) zF)))) (zB (zQ (zU bJ hr (zA (xC (aX K) (pv 3) zM (λ_ _=>rfl)) (zA (xC (aX K) (pv 3) zM (λ_ _=>rfl)) zF)))) zI) zI) (zB (xD (vR (zR (uY K (Dh (a:=cl (.two 1)))) rfl B.rG uZ (zA (pv 2) (zA (vT (v:=.ref (cl (.two 1))) rfl (I.ini.m2 1) rfl) zF)))) (zB (zQ (zU dM hr (zA (xC (aX K) (pv 3) zM (λ_ _=>rfl)) (zA (xC (aX K) (pv 3) zM (λ_ _=>rfl)) zF)))) zI) zI) (zB (zQ (zU cO hr (zA (pv 0) (zA (pv 1) (zA (pv 2) (zA (pv 3) zF)))))) zI)))))),?_⟩
 rintro Fa ⟨q0,q1,q2,q3,⟨⟩⟩
 exact SB.of (xP (cZ (md:=.hp) (uE I .all (zE 2 rfl))) (zV (zK (zD (zE 0 rfl) zN))) (xP (cZ (md:=.hp) (uE I .mark (zE 2 rfl))) (zV (Di (by decide +kernel) (zE 0 rfl) (zD (esc (esc (zQq I (zE 2 rfl)))) zN))) (xP (cZ (md:=.hp) (uE I (.one 0) (zE 2 rfl))) (zV (zK (zD (zE 0 rfl) (zD (xL (zE 3 rfl) (zL 0)) zN)))) (xP (cZ (md:=.hp) (uE I (.two 0) (zE 2 rfl))) (zV (zK (zD (xL (zE 3 rfl) (zL 0)) (zD (xL (zE 3 rfl) (zL 1)) zN)))) (xP (cZ (md:=.hp) (uE I (.two 1) (zE 2 rfl))) (zV (zK (zD (xL (zE 3 rfl) (zL 0)) (zD (xL (zE 3 rfl) (zL 1)) zN)))) (zV (zK (zD (zE 0 rfl) (zD (zE 1 rfl) (zD (zE 2 rfl) (zD (zE 3 rfl) zN))))))))))) (by unfold uR;simp only[bnd])
def uM(rec:(aq C)->LI->(bR cl)->Option (List LI))(q0:aq C)(q1:LI)(q2:bR cl):Option (List LI):=(some (([]:List LI))).bind λcF=>(some (([]:List LI))).bind λFt=>((some q2.parts).bind λxs=>xW (λ(s3:(List LI)×(List LI)) (x5:bR cl)=>((rec q0 q1 x5).bind λa7=>Ez s3.1 a7).bind λBK=>((aU BK (-(1:Int))).bind λa9=>push s3.2 a9).bind λFv=>some (BK,Fv)) xs (cF,Ft)).bind λs4=>((uR q0 q1 q2 s4.2).bind λa11=>push s4.1 a11).bind λjR=>some jR
def wS:Nat->(aq C)->LI->(bR cl)->Option (List LI)
 |0=>λ_ _ _=>none
 |n+1=>uM (wS n)
theorem jT:ak ["machine","living","saying","told","sets","part"] ["machine","living","saying"] (zJ gD):=fsc
abbrev Zg(K:Frag)(C:Addr)(cl:Hd->Addr)(rec:(aq C)->LI->(bR cl)->Option (List LI)):Sp:=bW K false (λa:(aq C)×LI×(bR cl)×Unit=>([.z a.1,.z a.2.1,.z a.2.2.1]:SL K)) (λa=>rec a.1 a.2.1 a.2.2.1)
abbrev zEn(K:Frag)(C:Addr)(cl:Hd->Addr):Sp:=Zg K C cl (wS 9 )
theorem zHz{k:Nat}{C:Addr}{cl:Hd->Addr}{f:Addr}{fd:FuncData}(F:aY K "table_among" "table_among" gD f fd)(B:Bl K mg){kS:Nat}{fi:Hd->Addr}{di:Hd->FuncData}(I:qX P w K mg base kS cl fi di)(nZ:aW P w K mg base k "meaning" ["machine","living","saying","sets"] (zL9 K C cl)){rec:(aq C)->LI->(bR cl)->Option (List LI)}(cT:aW P w K mg base k "table_among" ["machine","living","saying"] (Zg K C cl rec)):au P w K mg base aP (k+1) f fd ["machine","living","saying"] (Zg K C cl (uM rec)):=by
 refine yK F jT (λ_=>rfl) (λ_=>rfl) λcdv A outer s H E hr=>?_
 have nd:=jT.nd
 refine⟨_,(zB (yQ 3 nd (xY zF)) (zB (yQ 4 nd (xY zF)) (zB (xG aa3 rfl (Qd K (Dj K (pv 2))) (bI 5 nd) (zB (yI (rH K aa2 PySem.F.slot_list_extend PySem.F.type_list_extend zLh (pv 3) (zA (zU cT hr (zA (pv 0) (zA (pv 1) (zA (pv 5) zF)))) zF))) (zB (yI (rH K aa2 aa5 aa6 xA (pv 4) (zA (xC (aX K) (pv 3) (SQ S5 zM) (λ_ _=>rfl)) zF))) zI))) (zB (yI (rH K aa2 aa5 aa6 xA (pv 3) (zA (zU nZ hr (zA (pv 0) (zA (pv 1) (zA (pv 2) (zA (pv 4) zF))))) zF))) (zB (zQ (pv 3)) zI))))),?_⟩
 rintro Fa ⟨q0,q1,q2,⟨⟩⟩
 exact SB.of (zO (uW true 3 rfl rfl (zy (α:=LI))) (λcF=>(zO (uW true 4 rfl rfl (zy (α:=LI))) (λFt=>(zO (wN (n:=false) (L:=(λs3:(List LI)×(List LI)=>([.z q0,.z q1,.z q2,.ow true s3.1,.ow true s3.2,.un]:SL K))) (cF,Ft) bw (zXu I (yF 2 rfl)) (λs3=>(yL 5 rfl rfl)) (λs3 x5=>(zP (zPs 3 rfl rfl (zK (zD (zE 0 rfl) (zD (zE 1 rfl) (zD (zE 5 rfl) zN))))) (λBK=>(zP (xR 4 rfl rfl (Ou 3 rfl (Tf (zL 1)))) (λFv=>(yA (λs3:(List LI)×(List LI)=>([.z q0,.z q1,.z q2,.ow true s3.1,.ow true s3.2,.un]:SL K)) (BK,Fv) bw))))))) (λs4=>(zO (xR 3 rfl rfl (zK (zD (zE 0 rfl) (zD (zE 1 rfl) (zD (zE 2 rfl) (zD (vN 4 rfl) zN)))))) (λjR=>(HS 3 rfl rfl))))))))) (by unfold uM;simp only[bnd])
def Zh(q0:aq C)(q1:bR cl):Option (List LI):=(((T5 q0).bind λa2=>some ((a2,(q1,())))).bind λb3=>some (q0,b3)).bind λz1=>wS 9 z1.1 z1.2.1 z1.2.2.1
theorem yh:ak ["machine","saying"] ["machine","saying"] (zJ tK):=fsc
abbrev zU9(K:Frag)(C:Addr)(cl:Hd->Addr):Sp:=bW K false (λa:(aq C)×(bR cl)×Unit=>([.z a.1,.z a.2.1]:SL K)) (λa=>Zh a.1 a.2.1)
theorem zWs(F:aY K "table" "table" tK f fd)(B:Bl K mg)(tY:aW P w K mg base k "alive" ["machine"] (zVd K C))(cT:aW P w K mg base k "table_among" ["machine","living","saying"] (zEn K C cl)):au P w K mg base aP (k+1) f fd ["machine","saying"] (zU9 K C cl):=by
 refine yK F yh (λ_=>rfl) (λ_=>rfl) λcdv A outer s H E hr=>?_
 have nd:=yh.nd
 refine⟨_,(zB (zQ (zU cT hr (zA (pv 0) (zA (zU tY hr (zA (pv 0) zF)) (zA (pv 1) zF))))) zI),?_⟩
 rintro Fa ⟨q0,q1,⟨⟩⟩
 exact SB.of (zV (zK (zD (zE 0 rfl) (zD (zK (zD (zE 0 rfl) zN)) (zD (zE 1 rfl) zN))))) (by unfold Zh;simp only[bnd])
def Jy(q0:aq C)(q1:bR cl):Option LI:=(Zh q0 q1).bind λa1=>aU a1 (-(1:Int))
theorem yj:ak ["machine","saying"] ["machine","saying"] (zJ tL):=fsc
abbrev zVc(K:Frag)(C:Addr)(cl:Hd->Addr):Sp:=bW K false (λa:(aq C)×(bR cl)×Unit=>([.z a.1,.z a.2.1]:SL K)) (λa=>Jy a.1 a.2.1)
theorem zWv(F:aY K "holds" "holds" tL f fd)(B:Bl K mg)(tZ:aW P w K mg base k "table" ["machine","saying"] (zU9 K C cl)):au P w K mg base aP (k+1) f fd ["machine","saying"] (zVc K C cl):=by
 refine yK F yj (λ_=>rfl) (λ_=>rfl) λcdv A outer s H E hr=>?_
 have nd:=yj.nd
 refine⟨_,(zB (zQ (xC (aX K) (zU tZ hr (zA (pv 0) (zA (pv 1) zF))) (SQ S5 zM) (λ_ _=>rfl))) zI),?_⟩
 rintro Fa ⟨q0,q1,⟨⟩⟩
 exact SB.of (zV (xL (zK (zD (zE 0 rfl) (zD (zE 1 rfl) zN))) (Tf (zL 1)))) (by unfold Jy;simp only[bnd])
def xH(q0:aq C)(q1:Int):Option (List Str):=((some q0.marks).bind λxs=>aO (λ(x1:Str×LI)=>some (decide (q1∈x1.2))) (λ(x1:Str×LI)=>some x1.1) xs).bind λa2=>pR a2
theorem eO:ak ["self","stand"] ["self","stand"] (zJ cW):=fsc
abbrev zBp(K:Frag)(C:Addr):Sp:=bW K false (λa:(aq C)×Int×Unit=>([.z a.1,.z a.2.1]:SL K)) (λa=>xH a.1 a.2.1)
theorem zDq(F:aY K "names_at" "Machine.names_at" cW f fd)(B:Bl K mg)(T:Cl K mg C)(bF:mg "sorted" = none):au P w K mg base aP (k+1) f fd ["self","stand"] (zBp K C):=by
 refine yK F eO (λ_=>rfl) (λ_=>rfl) λcdv A outer s H E hr=>?_
 have nd:=eO.nd
 refine⟨_,(zB (zQ (zR (zQy K) rfl bF Yt (zA (uF (own:=["name","stands"]) (ix:=[1]) rfl rfl rfl (yS K (Dj K (pv 0))) (λC s H fp=>Od (K:=K) (n:=2) rfl rfl (yH (yM (i:=0) (show(["name","stands","stand"]:List Str).Nodup from by decide +kernel) rfl (Or.inl rfl)) (yH (yM (i:=1) (show(["name","stands","stand"]:List Str).Nodup from by decide +kernel) rfl (Or.inl rfl)) vC))) (λC s H fp=>KD (yD (Ih K) (pv 2) (pv 1) (by with_unfolding_all rfl))) (λC s H fp=>(pv 0))) zF))) zI),?_⟩
 rintro Fa ⟨q0,q1,⟨⟩⟩
 exact SB.of (zV (zXq (xO (n:=false) (lV:=[.un,.un,.z q1]) (no:=2) (ix:=[1]) rfl rfl (yV (zHa T.cl T.nM (yF 0 rfl))) (z_ 0 1 rfl rfl (λ_=>rfl) rfl) (λx1=>(yG (md:=.hp) (KY (zH 2 rfl) (zE 1 rfl)))) (λx1=>(esc (zH 0 rfl))) (λx1=>eZ)).ex).ex) (by unfold xH;simp only[bnd])
def vA(q0:aq C)(q1:Int):Option LI:=(some (Bu q0.fair)).bind λxs=>aO (λ(x1:Int×LI)=>some (decide (q1∈x1.2))) (λ(x1:Int×LI)=>some x1.1) xs
theorem je:ak ["machine","stand"] ["machine","stand"] (zJ fH):=fsc
abbrev zDj(K:Frag)(C:Addr):Sp:=bW K false (λa:(aq C)×Int×Unit=>([.z a.1,.z a.2.1]:SL K)) (λa=>vA a.1 a.2.1)
theorem zGq(F:aY K "fair_numbers" "fair_numbers" fH f fd)(B:Bl K mg)(T:Cl K mg C):au P w K mg base aP (k+1) f fd ["machine","stand"] (zDj K C):=by
 refine yK F je (λ_=>rfl) (λ_=>rfl) λcdv A outer s H E hr=>?_
 have nd:=je.nd
 refine⟨_,(zB (zQ (uF (own:=["number","stands"]) (ix:=[1]) rfl rfl rfl (Vy K B.enum (zA (Dj K (pv 0)) zF)) (λC s H fp=>Od (K:=K) (n:=2) rfl rfl (yH (yM (i:=0) (show(["number","stands","stand"]:List Str).Nodup from by decide +kernel) rfl (Or.inl rfl)) (yH (yM (i:=1) (show(["number","stands","stand"]:List Str).Nodup from by decide +kernel) rfl (Or.inl rfl)) vC))) (λC s H fp=>KD (yD (Ih K) (pv 2) (pv 1) (by with_unfolding_all rfl))) (λC s H fp=>(pv 0)))) zI),?_⟩
 rintro Fa ⟨q0,q1,⟨⟩⟩
 exact SB.of (zV (xO (n:=false) (lV:=[.un,.un,.z q1]) (no:=2) (ix:=[1]) rfl rfl (Vm (Ys T.cl T.nF (yF 0 rfl))) (z_ 0 1 rfl rfl (λ_=>rfl) rfl) (λx1=>(yG (md:=.hp) (KY (zH 2 rfl) (zE 1 rfl)))) (λx1=>(esc (zH 0 rfl))) (λx1=>eZ)).ex) (by unfold vA;simp only[bnd])
def vJ(q0:aq C):Option LI:=(some (([]:List ((Tp Str)×(Tp Int))))).bind λqC=>((yX q0).bind λxs=>xW (λ(s2:List ((Tp Str)×(Tp Int))) (x4:Int)=>((((xH q0 x4).bind λa6=>some (Tp.mk a6)).bind λa8=>((vA q0 x4).bind λa7=>some (Tp.mk a7)).bind λb9=>some (a8,b9)).bind λa10=>push s2 a10).bind λqD=>some qD) xs qC).bind λs3=>Wm s3
theorem gR:ak ["machine","keys","stand"] ["machine"] (zJ eE):=fsc
abbrev zC2(K:Frag)(C:Addr):Sp:=bW K false (λa:(aq C)×Unit=>([.z a.1]:SL K)) (λa=>vJ a.1)
theorem zFr(F:aY K "first_numbers" "first_numbers" eE f fd)(B:Bl K mg)(n6:mg "tuple" = none)(cX:fV P w K mg base k C "names_at" ["self","stand"] (zBp K C))(aG:aW P w K mg base k "everywhere" ["machine"] (wQ K C))(fQ:aW P w K mg base k "fair_numbers" ["machine","stand"] (zDj K C))(jU:aW P w K mg base k "numbered" ["keys"] (zDu K)):au P w K mg base aP (k+1) f fd ["machine"] (zC2 K C):=by
 refine yK F gR (λ_=>rfl) (λ_=>rfl) λcdv A outer s H E hr=>?_
 have nd:=gR.nd
 refine⟨_,(zB (yQ 1 nd (xY zF)) (zB (xG aa3 rfl (yS K (zU aG hr (zA (pv 0) zF))) (bI 2 nd) (zB (yI (rH K aa2 aa5 aa6 xA (pv 1) (zA (vo (zA (vH (zFa K) rfl n6 zJ2 (zA (K3 cX hr (pv 0) (zA (pv 2) zF)) zF)) (zA (vH (zFa K) rfl n6 zJ2 (zA (zU fQ hr (zA (pv 0) (zA (pv 2) zF))) zF)) zF))) zF))) zI)) (zB (zQ (zU jU hr (zA (pv 1) zF))) zI))),?_⟩
 rintro Fa ⟨q0,⟨⟩⟩
 exact SB.of (zO (uW true 1 rfl rfl (zy (α:=(Tp Str)×(Tp Int)))) (λqC=>(zO (wN (n:=true) (L:=(λs2:List ((Tp Str)×(Tp Int))=>([.z q0,.ow true s2,.un]:SL K))) qC bw (yV (zK (zD (zE 0 rfl) zN))) (λs2=>(yL 2 rfl rfl)) (λs2 x4=>(zP (xR 1 rfl rfl (Ef (zJx (Di (by decide +kernel) (zE 0 rfl) (zD (esc (zH 2 rfl)) zN))) (zJx (zK (zD (zE 0 rfl) (zD (esc (zH 2 rfl)) zN)))))) (λqD=>(yA (λs2:List ((Tp Str)×(Tp Int))=>([.z q0,.ow true s2,.un]:SL K)) qD bw))))) (λs3=>(zV (zK (zD (vN 1 rfl) zN))))))) (by unfold vJ;simp only[bnd])
def yW(q0:LI)(q1:LI):Option LI:=((some q1).bind λxs=>aO (λ(x1:Int)=>some true) (λ(x1:Int)=>aU q0 x1) xs).bind λa2=>gq a2
theorem lu:ak ["numbers","stands"] ["numbers","stands"] (zJ ig):=fsc
abbrev zC0(K:Frag):Sp:=bW K false (λa:LI×LI×Unit=>([.z a.1,.z a.2.1]:SL K)) (λa=>yW a.1 a.2.1)
theorem zJf(F:aY K "numbers_of" "numbers_of" ig f fd)(B:Bl K mg)(bF:mg "sorted" = none)(mH:mg "set" = none):au P w K mg base aP (k+1) f fd ["numbers","stands"] (zC0 K):=by
 refine yK F lu (λ_=>rfl) (λ_=>rfl) λcdv A outer s H E hr=>?_
 have nd:=lu.nd
 refine⟨_,(zB (zQ (V1 rfl bF (Lf K rfl mH (uF (own:=["stand"]) (ix:=[0]) rfl rfl rfl (yS K (pv 1)) (λC s H fp=>yM (i:=0) (show(["stand","numbers"]:List Str).Nodup from by decide +kernel) rfl (Or.inl rfl)) (λC s H fp=>wR) (λC s H fp=>(xC (aX K) (pv 1) (pv 0) (λ_ _=>rfl))))))) zI),?_⟩
 rintro Fa ⟨q0,q1,⟨⟩⟩
 exact SB.of (zV (zIq (xO (n:=false) (lV:=[.un,.z q0]) (no:=1) (ix:=[0]) rfl rfl (yV (yF 1 rfl)) (yL 0 rfl rfl) (λx1=>Ab) (λx1=>(esc (esc (xL (zE 1 rfl) (zH 0 rfl))))) (λx1=>eZ)).ex).ex) (by unfold yW;simp only[bnd])
def xE(q0:aq C)(q1:LI):Option LI:=(some (([]:List (Int×(Tp Int))))).bind λqC=>((yX q0).bind λxs=>xW (λ(s2:List (Int×(Tp Int))) (x4:Int)=>(((aU q1 x4).bind λa10=>(((((yJ q0 x4).bind λa7=>some ((a7,()))).bind λb8=>some (q1,b8)).bind λz6=>yW z6.1 z6.2.1).bind λa9=>some (Tp.mk a9)).bind λyc=>some (a10,yc)).bind λa12=>push s2 a12).bind λqD=>some qD) xs qC).bind λs3=>Wn s3
theorem gU:ak ["machine","numbers","keys","stand"] ["machine","numbers"] (zJ eF):=fsc
abbrev zC3(K:Frag)(C:Addr):Sp:=bW K false (λa:(aq C)×LI×Unit=>([.z a.1,.z a.2.1]:SL K)) (λa=>xE a.1 a.2.1)
theorem zFs(F:aY K "finer_numbers" "finer_numbers" eF f fd)(B:Bl K mg)(n6:mg "tuple" = none)(aJ:fV P w K mg base k C "next_of" ["self","stand"] (wM K C))(aG:aW P w K mg base k "everywhere" ["machine"] (wQ K C))(jV:aW P w K mg base k "numbered" ["keys"] (zDt K))(bL:aW P w K mg base k "numbers_of" ["numbers","stands"] (zC0 K)):au P w K mg base aP (k+1) f fd ["machine","numbers"] (zC3 K C):=by
 refine yK F gU (λ_=>rfl) (λ_=>rfl) λcdv A outer s H E hr=>?_
 have nd:=gU.nd
 refine⟨_,(zB (yQ 2 nd (xY zF)) (zB (xG aa3 rfl (yS K (zU aG hr (zA (pv 0) zF))) (bI 3 nd) (zB (yI (rH K aa2 aa5 aa6 xA (pv 2) (zA (vo (zA (xC (aX K) (pv 1) (pv 3) (λ_ _=>rfl)) (zA (vH (zFa K) rfl n6 zJ2 (zA (zU bL hr (zA (pv 1) (zA (K3 aJ hr (pv 0) (zA (pv 3) zF)) zF))) zF)) zF))) zF))) zI)) (zB (zQ (zU jV hr (zA (pv 2) zF))) zI))),?_⟩
 rintro Fa ⟨q0,q1,⟨⟩⟩
 exact SB.of (zO (uW true 2 rfl rfl (zy (α:=Int×(Tp Int)))) (λqC=>(zO (wN (n:=true) (L:=(λs2:List (Int×(Tp Int))=>([.z q0,.z q1,.ow true s2,.un]:SL K))) qC bw (yV (zK (zD (zE 0 rfl) zN))) (λs2=>(yL 3 rfl rfl)) (λs2 x4=>(zP (xR 2 rfl rfl (Ef (esc (xL (zE 1 rfl) (zH 3 rfl))) (zJx (zK (zD (zE 1 rfl) (zD (Di (by decide +kernel) (zE 0 rfl) (zD (esc (zH 3 rfl)) zN)) zN)))))) (λqD=>(yA (λs2:List (Int×(Tp Int))=>([.z q0,.z q1,.ow true s2,.un]:SL K)) qD bw))))) (λs3=>(zV (zK (zD (vN 2 rfl) zN))))))) (by unfold xE;simp only[bnd])
def WW(q0:aq C):Option (List LI):=((vJ q0).bind λa2=>some (a2::([]))).bind λcF=>((((aU cF (0:Int)).bind λa5=>some ((a5,()))).bind λb6=>some (q0,b6)).bind λz4=>xE z4.1 z4.2.1).bind λAv=>(HJ (λs7:(List LI)×LI=>(aU s7.1 (-(1:Int))).bind λb9=>some (!decide (s7.2=b9))) (λs7:(List LI)×LI=>(push s7.1 s7.2).bind λjR=>(xE q0 s7.2).bind λmR=>some (jR,mR)) fuel (cF,Av)).bind λs8=>some s8.1
theorem lB:ak ["machine","told","finer"] ["machine"] (zJ iu):=fsc
abbrev zFm(K:Frag)(C:Addr):Sp:=bW K false (λa:(aq C)×Unit=>([.z a.1]:SL K)) (λa=>WW a.1)
theorem zJg(F:aY K "numberings" "numberings" iu f fd)(B:Bl K mg)(cV:aW P w K mg base k "finer_numbers" ["machine","numbers"] (zC3 K C))(eN:aW P w K mg base k "first_numbers" ["machine"] (zC2 K C)):au P w K mg base aP (k+1) f fd ["machine"] (zFm K C):=by
 refine yK F lB (λ_=>rfl) (λ_=>rfl) λcdv A outer s H E hr=>?_
 have nd:=lB.nd
 refine⟨_,(zB (yQ 1 nd (xY (zA (zU eN hr (zA (pv 0) zF)) zF))) (zB (yQ 2 nd (zU cV hr (zA (pv 0) (zA (xC (aX K) (pv 1) zM (λ_ _=>rfl)) zF)))) (zB (zN8 aa3 (yD (zZf K LI hr) (pv 2) (xC (aX K) (pv 1) (SQ S5 zM) (λ_ _=>rfl)) (yZ _)) (zB (yI (rH K aa2 aa5 aa6 xA (pv 1) (zA (pv 2) zF))) (zB (yQ 2 nd (zU cV hr (zA (pv 0) (zA (pv 2) zF)))) zI))) (zB (zQ (pv 1)) zI)))),?_⟩
 rintro Fa ⟨q0,⟨⟩⟩
 exact SB.of (zO (uW true 1 rfl rfl (Ed (yU (zK (zD (zE 0 rfl) zN)) Ec) (λa h=>aa4 ((xM Ek) a h) (by decide)))) (λcF=>(zO (yC true 2 rfl rfl (zK (zD (zE 0 rfl) (zD (xL (vN 1 rfl) (zL 0)) zN)))) (λAv=>(zO (zNv (L:=(λs7:(List LI)×LI=>([.z q0,.ow true s7.1,.y s7.2]:SL K))) fuel (cF,Av) bw (λs7=>(yG (md:=.hp) (zZt (zE 2 rfl) (xL (vN 1 rfl) (Tf (zL 1)))))) (λs7=>(zP (xR 1 rfl rfl (yF 2 rfl)) (λjR=>(zP (yC true 2 rfl rfl (zK (zD (zE 0 rfl) (zD (zE 2 rfl) zN)))) (λmR=>(yA (λs7:(List LI)×LI=>([.z q0,.ow true s7.1,.y s7.2]:SL K)) (jR,mR) bw))))))) (λs8=>(HS 1 rfl rfl))))))) (by unfold WW;simp only[bnd])
def xU(q0:aq C):Option LI:=(WW q0).bind λa1=>aU a1 (-(1:Int))
theorem gV:ak ["machine"] ["machine"] (zJ eG):=fsc
abbrev zBj(K:Frag)(C:Addr):Sp:=bW K false (λa:(aq C)×Unit=>([.z a.1]:SL K)) (λa=>xU a.1)
theorem zFt(F:aY K "class_numbers" "class_numbers" eG f fd)(B:Bl K mg)(iK:aW P w K mg base k "numberings" ["machine"] (zFm K C)):au P w K mg base aP (k+1) f fd ["machine"] (zBj K C):=by
 refine yK F gV (λ_=>rfl) (λ_=>rfl) λcdv A outer s H E hr=>?_
 have nd:=gV.nd
 refine⟨_,(zB (zQ (xC (aX K) (zU iK hr (zA (pv 0) zF)) (SQ S5 zM) (λ_ _=>rfl))) zI),?_⟩
 rintro Fa ⟨q0,⟨⟩⟩
 exact SB.of (zV (xL (zK (zD (zE 0 rfl) zN)) (Tf (zL 1)))) (by unfold xU;simp only[bnd])
def yR(q0:LI):Option (List LI):=(((Ce q0).bind λa5=>some (a5+(1:Int))).bind λa6=>rN a6).bind λcF=>((some (Bu q0)).bind λxs=>xW (λ(s7:gY) (x9:Int×Int)=>(jw s7 x9.2 x9.1).bind λWX=>some WX) xs cF).bind λs8=>some s8.xss
theorem dX:ak ["numbers","told","stand","number"] ["numbers"] (zJ cR):=fsc
abbrev uH(K:Frag):Sp:=bW K false (λa:LI×Unit=>([.z a.1]:SL K)) (λa=>yR a.1)
theorem zDg(F:aY K "stands_of_numbers" "stands_of_numbers" cR f fd)(B:Bl K mg)(QT:mg "max" = none):au P w K mg base aP (k+1) f fd ["numbers"] (uH K):=by
 refine yK F dX (λ_=>rfl) (λ_=>rfl) λcdv A outer s H E hr=>?_
 have nd:=dX.nd
 refine⟨_,(zB (Dg (i:=1) (own:=["number"]) (ix:=[]) nd rfl rfl rfl rfl rfl (xI rfl B.range (zA (zZ vZ (zR (zUr K rfl) rfl QT O4 (zA (pv 0) zF)) zM) zF)) (λC s H fp=>yM (i:=0) (show(["number"]:List Str).Nodup from by decide +kernel) rfl (Or.inl rfl)) (λC s H fp=>wR) (λC s H fp=>(xY zF))) (zB (xG aa3 rfl (Vy K B.enum (zA (pv 0) zF)) (C_ rfl (yH (bI 2 nd) (yH (bI 3 nd) vC))) (zB (yI (rH K aa2 aa5 aa6 xA (xC (aX K) (pv 1) (pv 3) (λ_ _=>rfl)) (zA (pv 2) zF))) zI)) (zB (zQ (pv 1)) zI))),?_⟩
 rintro Fa ⟨q0,⟨⟩⟩
 exact SB.of (zO (K1 1 rfl rfl (zXt (uA (Ij (zE 0 rfl)) (zL 1)))) (λcF=>(zO (wN (n:=false) (L:=(λs7:gY=>([.z q0,.nu (s7:gY),.un,.un]:SL K))) cF bw (Vm (yF 0 rfl)) (λs7=>(z_ 2 3 rfl rfl (λ_=>rfl) rfl)) (λs7 x9=>(zP (zKj 1 rfl rfl (zH 3 rfl) (zH 2 rfl)) (λWX=>(yA (λs7:gY=>([.z q0,.nu (s7:gY),.un,.un]:SL K)) WX bw))))) (λs8=>(zNz 1 rfl))))) (by unfold yR;simp only[bnd])
def WY(q0:aq C):Option (List LI):=((xU q0).bind λa2=>some ((a2,()))).bind λz1=>yR z1.1
theorem qF:ak ["machine"] ["machine"] (zJ nG):=fsc
abbrev zMb(K:Frag)(C:Addr):Sp:=bW K false (λa:(aq C)×Unit=>([.z a.1]:SL K)) (λa=>WY a.1)
theorem zP9(F:aY K "classes" "classes" nG f fd)(B:Bl K mg)(bK:aW P w K mg base k "class_numbers" ["machine"] (zBj K C))(aR:aW P w K mg base k "stands_of_numbers" ["numbers"] (uH K)):au P w K mg base aP (k+1) f fd ["machine"] (zMb K C):=by
 refine yK F qF (λ_=>rfl) (λ_=>rfl) λcdv A outer s H E hr=>?_
 have nd:=qF.nd
 refine⟨_,(zB (zQ (zU aR hr (zA (zU bK hr (zA (pv 0) zF)) zF))) zI),?_⟩
 rintro Fa ⟨q0,⟨⟩⟩
 exact SB.of (zV (zK (zD (zK (zD (zE 0 rfl) zN)) zN))) (by unfold WY;simp only[bnd])
def W0(C:Addr)(q0:aq C):Option (aq C):=(xU q0).bind λdY=>((yR dY).bind λxs=>aO (λ(x3:LI)=>some true) (λ(x3:LI)=>(((((aU x3 (0:Int)).bind λa5=>some ((a5,()))).bind λz4=>yJ q0 z4.1).bind λa7=>some ((a7,()))).bind λb8=>some (dY,b8)).bind λz6=>yW z6.1 z6.2.1) xs).bind λFw=>((some q0.marks).bind λxs=>aO (λ(x10:Str×LI)=>some true) (λ(x10:Str×LI)=>(yW dY x10.2).bind λyc=>some (x10.1,yc)) xs).bind λFx=>((some q0.fair).bind λxs=>aO (λ(Aw:LI)=>some true) (λ(Aw:LI)=>yW dY Aw) xs).bind λFy=>Qz C Fw (some Fx) (some Fy)
theorem rW:ak ["machine","numbers","steps","marks","fair"] ["machine"] (zJ pY):=fsc
abbrev zPa(K:Frag)(C:Addr):Sp:=bW K false (λa:(aq C)×Unit=>([.z a.1]:SL K)) (λa=>W0 C a.1)
theorem zSy(F:aY K "folded" "folded" pY f fd)(B:Bl K mg)(T:Cl K mg C)(MK:Mk K C fI)(GI:au P w K mg base aP k0 fI T6 ["self","steps","marks","fair"] (rJ K C (Qz C)))(T7:Binds K T6 ["self","steps","marks","fair"] [])(aJ:fV P w K mg base (k0+1) C "next_of" ["self","stand"] (wM K C))(bK:aW P w K mg base (k0+1) "class_numbers" ["machine"] (zBj K C))(bL:aW P w K mg base (k0+1) "numbers_of" ["numbers","stands"] (zC0 K))(aR:aW P w K mg base (k0+1) "stands_of_numbers" ["numbers"] (uH K)):au P w K mg base aP ((k0+1)+1) f fd ["machine"] (zPa K C):=by
 refine yK F rW (λ_=>rfl) (λ_=>rfl) λcdv A outer s H E hr=>?_
 have nd:=rW.nd
 refine⟨_,(zB (yQ 1 nd (zU bK hr (zA (pv 0) zF))) (zB (Dg (i:=2) (own:=["stands"]) (ix:=[1,0]) nd rfl rfl rfl rfl rfl (yS K (zU aR hr (zA (pv 1) zF))) (λC s H fp=>yM (i:=0) (show(["stands","numbers","machine"]:List Str).Nodup from by decide +kernel) rfl (Or.inl rfl)) (λC s H fp=>wR) (λC s H fp=>(zU bL hr (zA (pv 1) (zA (K3 aJ hr (pv 2) (zA (xC (aX K) (pv 0) zM (λ_ _=>rfl)) zF)) zF))))) (zB (Dg (i:=3) (own:=["name","stands"]) (ix:=[1]) nd rfl rfl rfl rfl rfl (yS K (Dj K (pv 0))) (λC s H fp=>Od (K:=K) (n:=2) rfl rfl (yH (yM (i:=0) (show(["name","stands","numbers"]:List Str).Nodup from by decide +kernel) rfl (Or.inl rfl)) (yH (yM (i:=1) (show(["name","stands","numbers"]:List Str).Nodup from by decide +kernel) rfl (Or.inl rfl)) vC))) (λC s H fp=>wR) (λC s H fp=>(vo (zA (pv 0) (zA (zU bL hr (zA (pv 2) (zA (pv 1) zF))) zF))))) (zB (Dg (i:=4) (own:=["stands"]) (ix:=[1]) nd rfl rfl rfl rfl rfl (yS K (Dj K (pv 0))) (λC s H fp=>yM (i:=0) (show(["stands","numbers"]:List Str).Nodup from by decide +kernel) rfl (Or.inl rfl)) (λC s H fp=>wR) (λC s H fp=>(zU bL hr (zA (pv 1) (zA (pv 0) zF))))) (zB (zQ (uO MK GI hr rfl T.mgC T7 .nil vV (zA (pv 2) (zA (pv 3) (zA (pv 4) zF))))) zI))))),?_⟩
 rintro Fa ⟨q0,⟨⟩⟩
 exact SB.of (zO (yC true 1 rfl rfl (zK (zD (zE 0 rfl) zN))) (λdY=>(zO (yC true 2 rfl rfl (xO (n:=true) (lV:=[.un,.y dY,.z q0]) (no:=1) (ix:=[1,0]) rfl rfl (yV (zK (zD (zE 1 rfl) zN))) (yL 0 rfl rfl) (λx3=>Ab) (λx3=>(zK (zD (zE 1 rfl) (zD (Di (by decide +kernel) (zE 2 rfl) (zD (esc (esc (xL (zE 0 rfl) (zL 0)))) zN)) zN)))) (λx3=>eZ)).ex) (λFw=>(zO (yC true 3 rfl rfl (xO (n:=false) (lV:=[.un,.un,.y dY]) (no:=2) (ix:=[1]) rfl rfl (yV (zHa T.cl T.nM (yF 0 rfl))) (z_ 0 1 rfl rfl (λ_=>rfl) rfl) (λx10=>Ab) (λx10=>(Ef (zH 0 rfl) (zK (zD (zE 2 rfl) (zD (zE 1 rfl) zN))))) (λx10=>eZ)).ex) (λFx=>(zO (yC true 4 rfl rfl (xO (n:=false) (lV:=[.un,.y dY]) (no:=1) (ix:=[1]) rfl rfl (yV (Ys T.cl T.nF (yF 0 rfl))) (yL 0 rfl rfl) (λAw=>Ab) (λAw=>(zK (zD (zE 1 rfl) (zD (zE 0 rfl) zN)))) (λAw=>eZ)).ex) (λFy=>(zV (zLt (zE 2 rfl) (zE 3 rfl) (zE 4 rfl)).ex))))))))) (by unfold W0;simp only[bnd])
end
end Ts
set_option maxHeartbeats 40000000
namespace Ts
open PySem L2 Sy
section
variable{P:Program}{w:World}{K:Frag}{mg:Str->Option Value}{base:Heap}
seal L2.PE L2.PT L2.PW L2.PA L2.PS L2.qT L2.PC L2.PG L2.G6 L2.PI L2.sY L2.PO
def yE(q0:mq)(q1:Int):Option Int:=if(decide (q1<(q0.ns.length:Int)))=true then aU q0.ns q1 else some (0:Int)
theorem mU:ak ["_law_script","_law_k"] ["_law_script","_law_k"] (zJ jD):=fsc
abbrev T8(K:Frag):Sp:=bW K false (λa:mq×Int×Unit=>([.z a.1,.z a.2.1]:SL K)) (λa=>yE a.1 a.2.1)
theorem zLb(F:aY K "_law_cell_at" "_law_cell_at" jD f fd)(B:Bl K mg):au P w K mg base aP (k+1) f fd ["_law_script","_law_k"] (T8 K):=by
 refine yK F mU (λ_=>rfl) (λ_=>rfl) λcdv A outer s H E hr=>?_
 have nd:=mU.nd
 refine⟨_,(zB (xD (yD S6 (pv 1) (zR (wL K) rfl B.len abd (zA (pv 0) zF)) (yZ _)) (zB (zQ (xC (aX K) (pv 0) (pv 1) (λ_ _=>rfl))) zI) zI) (zB (zQ zM) zI)),?_⟩
 rintro Fa ⟨q0,q1,⟨⟩⟩
 exact SB.of (xP (yG (md:=.hp) (Vq (zH 1 rfl) (Ia (zE 0 rfl)))) (zV (esc (Ox (zE 0 rfl) (zH 1 rfl)))) (zV (esc (zL 0)))) (by unfold yE;simp only[bnd])
def wY(q0:Int)(q1:Int):Option Int:=((((Ej (10:Int) (40:Int)).bind λb1=>aZ q0 b1).bind λa2=>mulM a2 (6364136223846793013:Int)).bind λa3=>(mulM (q1+(1:Int)) (1442695040888963407:Int)).bind λb4=>some (a3+b4)).bind λa5=>bV a5 (97:Int)
theorem qG:ak ["_law_cell","_law_k"] ["_law_cell","_law_k"] (zJ nU):=fsc
abbrev W2(K:Frag):Sp:=bW K false (λa:Int×Int×Unit=>([.z a.1,.z a.2.1]:SL K)) (λa=>wY a.1 a.2.1)
theorem zP7(F:aY K "_law_mixed" "_law_mixed" nU f fd)(B:Bl K mg):au P w K mg base aP (k+1) f fd ["_law_cell","_law_k"] (W2 K):=by
 refine yK F qG (λ_=>rfl) (λ_=>rfl) λcdv A outer s H E hr=>?_
 have nd:=qG.nd
 refine⟨_,(zB (zQ (zZ xN (zZ vZ (zZ ZV (zZ xJ (pv 0) (zZ Np zM zM)) zM) (zZ ZV (zZ vZ (pv 1) zM) zM)) zM)) zI),?_⟩
 rintro Fa ⟨q0,q1,⟨⟩⟩
 exact SB.of (zV (esc (vD (uA (zT8 (xK (zH 0 rfl) (Ot (zL 10) (zL 40))) (zL 6364136223846793013)) (zT8 (uA (zH 1 rfl) (zL 1)) (zL 1442695040888963407))) (zL 97)))) (by unfold wY;simp only[bnd])
def wE(q0:Int)(q1:Int):Option Str:=(some ("abcdefghijklmnopqrstuvwxyz":Str)).bind λqH=>(some ("":Str)).bind λFz=>(bV q0 (16:Int)).bind λFJ=>((((bV q0 (2:Int)).bind λa7=>aZ a7 (8:Int)).bind λa8=>bH a8).bind λxs=>xW (λ(s4:Str×Int) (x6:Int)=>(((aZ s4.2 (26:Int)).bind λb10=>Jg qH b10).bind λyc=>pP s4.1 yc).bind λyp=>(bV s4.2 (26:Int)).bind λqI=>some (yp,qI)) xs (Fz,FJ)).bind λs5=>((aZ (s5.2+q1) (26:Int)).bind λWs=>Jg qH Ws).bind λqJ=>(((pP qJ s5.1).bind λa17=>((pP s5.1 qJ).bind λa16=>some (a16::([]))).bind λQK=>some (a17::QK)).bind λa19=>(aZ q0 (2:Int)).bind λb20=>aU a19 b20).bind λfU=>(some ([("all":Str),("not":Str),("both":Str),("either":Str),("somenext":Str),("eachnext":Str),("sometill":Str),("eachtill":Str),("someever":Str),("eachever":Str)])).bind λoY=>(if(decide (fU∈oY))=true then(Jh fU (-(1:Int))).bind λlU=>some lU else some fU).bind λvf=>some vf
theorem mV:ak ["_law_cell","_law_k","_law_some","_law_tail","_law_rest","_law_turn","_law_sign","_law_made_here","_law_words"] ["_law_cell","_law_k"] (zJ jE):=fsc
abbrev zDw(K:Frag):Sp:=bW K false (λa:Int×Int×Unit=>([.z a.1,.z a.2.1]:SL K)) (λa=>wE a.1 a.2.1)
theorem zK8(F:aY K "_law_name_by" "_law_name_by" jE f fd)(B:Bl K mg):au P w K mg base aP (k+1) f fd ["_law_cell","_law_k"] (zDw K):=by
 refine yK F mV (λ_=>rfl) (λ_=>rfl) λcdv A outer s H E hr=>?_
 have nd:=mV.nd
 refine⟨_,(zB (yQ 2 nd yN) (zB (yQ 3 nd yN) (zB (yQ 4 nd (zZ xN (pv 0) zM)) (zB (xG aa3 rfl (xI rfl B.range (zA (zZ xJ (zZ xN (pv 0) zM) zM) zF)) (bI 5 nd) (zB (yQ 3 nd (zZ zMr (pv 3) (zZa (pv 2) (zZ xJ (pv 4) zM) (λ_ _=>rfl)))) (zB (yQ 4 nd (zZ xN (pv 4) zM)) zI))) (zB (yQ 6 nd (zZa (pv 2) (zZ xJ (zZ vZ (pv 4) (pv 1)) zM) (λ_ _=>rfl))) (zB (yQ 7 nd (xC (aX K) (xY (zA (zZ zMr (pv 6) (pv 3)) (zA (zZ zMr (pv 3) (pv 6)) zF))) (zZ xJ (pv 0) zM) (λ_ _=>rfl))) (zB (yQ 8 nd (xY (zA yN (zA yN (zA yN (zA yN (zA yN (zA yN (zA yN (zA yN (zA yN (zA yN zF)))))))))))) (zB (xD (yD (Ih K) (pv 7) (pv 8) (by with_unfolding_all rfl)) (zB (yQ 7 nd (zWj Qe (pv 7) Hu (Hv (SQ S5 zM)))) zI) zI) (zB (zQ (pv 7)) zI))))))))),?_⟩
 rintro Fa ⟨q0,q1,⟨⟩⟩
 exact SB.of (zO (yC true 2 rfl rfl (esc (yY "abcdefghijklmnopqrstuvwxyz"))) (λqH=>(zO (yC true 3 rfl rfl (esc (yY ""))) (λFz=>(zO (yC true 4 rfl rfl (esc (vD (zH 0 rfl) (zL 16)))) (λFJ=>(zO (wN (n:=true) (L:=(λs4:Str×Int=>([.z q0,.z q1,.y qH,.y s4.1,.y s4.2,.un,.un,.un,.un]:SL K))) (Fz,FJ) bw (wV (xK (vD (zH 0 rfl) (zL 2)) (zL 8))) (λs4=>(yL 5 rfl rfl)) (λs4 x6=>(zP (yC true 3 rfl rfl (esc (zNe (zH 3 rfl) (esc (zZu (zH 2 rfl) (xK (zH 4 rfl) (zL 26))))))) (λyp=>(zP (yC true 4 rfl rfl (esc (vD (zH 4 rfl) (zL 26)))) (λqI=>(yA (λs4:Str×Int=>([.z q0,.z q1,.y qH,.y s4.1,.y s4.2,.un,.un,.un,.un]:SL K)) (yp,qI) bw))))))) (λs5=>(zO (yC true 6 rfl rfl (esc (esc (zZu (zH 2 rfl) (xK (uA (zH 4 rfl) (zH 1 rfl)) (zL 26)))))) (λqJ=>(zO (yC true 7 rfl rfl (esc (esc (xL (Ed (yU (esc (zNe (zH 6 rfl) (zH 3 rfl))) (yU (esc (zNe (zH 3 rfl) (zH 6 rfl))) Ec)) (λa h=>aa4 ((xM (xM Ek)) a h) (by decide))).ex (xK (zH 0 rfl) (zL 2)))))) (λfU=>(zO (yC true 8 rfl rfl (Ed (yU (esc (yY "all")) (yU (esc (yY "not")) (yU (esc (yY "both")) (yU (esc (yY "either")) (yU (esc (yY "somenext")) (yU (esc (yY "eachnext")) (yU (esc (yY "sometill")) (yU (esc (yY "eachtill")) (yU (esc (yY "someever")) (yU (esc (yY "eachever")) Ec)))))))))) (λa h=>aa4 ((xM (xM (xM (xM (xM (xM (xM (xM (xM (xM Ek)))))))))) a h) (by decide))).ex) (λoY=>(zO (rE (yG (md:=.hp) (KY (zH 7 rfl) (zE 8 rfl))) (zP (yC true 7 rfl rfl (esc (esc (Ji (zH 7 rfl) (Tf (zL 1)))))) (λlU=>(yA (λtW:Str=>([.z q0,.z q1,.y qH,.y s5.1,.y s5.2,.un,.y qJ,.y tW,.y oY]:SL K)) lU bw))) (yA (λtW:Str=>([.z q0,.z q1,.y qH,.y s5.1,.y s5.2,.un,.y qJ,.y tW,.y oY]:SL K)) fU bw)) (λvf=>(zV (esc (zH 7 rfl))))))))))))))))))) (by unfold wE;simp only[bnd])
def T9(q0:Int)(q1:Int):Option LI:=(some ([]:LI)).bind λAx=>((bH q1).bind λxs=>xW (λ(s2:LI×Int) (x4:Int)=>(((aZ s2.2 (3:Int)).bind λa5=>some (decide (a5=(0:Int)))).bind λb=>if b=true then(push s2.1 x4).bind λAy=>some Ay else some s2.1).bind λs6=>(bV s2.2 (3:Int)).bind λFN=>some (s6,FN)) xs (Ax,q0)).bind λs3=>(((aZ s3.2 (2:Int)).bind λa10=>some (decide (a10=(1:Int)))).bind λb=>if b=true then(some s3.1.reverse).bind λt_=>some t_ else some s3.1).bind λeH=>some eH
theorem mW:ak ["_law_rest","_law_many","_law_found","_law_k"] ["_law_rest","_law_many"] (zJ jF):=fsc
abbrev zDv(K:Frag):Sp:=bW K false (λa:Int×Int×Unit=>([.z a.1,.z a.2.1]:SL K)) (λa=>T9 a.1 a.2.1)
theorem zK6(F:aY K "_law_some_of" "_law_some_of" jF f fd)(B:Bl K mg):au P w K mg base aP (k+1) f fd ["_law_rest","_law_many"] (zDv K):=by
 refine yK F mW (λ_=>rfl) (λ_=>rfl) λcdv A outer s H E hr=>?_
 have nd:=mW.nd
 refine⟨_,(zB (yQ 2 nd (xY zF)) (zB (xG aa3 rfl (xI rfl B.range (zA (pv 1) zF)) (bI 3 nd) (zB (xD (yD (wG K Int hr) (zZ xJ (pv 0) zM) zM (yZ _)) (zB (yI (rH K aa2 aa5 aa6 xA (pv 2) (zA (pv 3) zF))) zI) zI) (zB (yQ 0 nd (zZ xN (pv 0) zM)) zI))) (zB (xD (yD (wG K Int hr) (zZ xJ (pv 0) zM) zM (yZ _)) (zB (yI (zZd K aa2 PySem.F.slot_list_reverse PySem.F.type_list_reverse zIg (pv 2))) zI) zI) (zB (zQ (pv 2)) zI)))),?_⟩
 rintro Fa ⟨q0,q1,⟨⟩⟩
 exact SB.of (zO (uW true 2 rfl rfl (zy (α:=Int))) (λAx=>(zO (wN (n:=true) (L:=(λs2:LI×Int=>([.z s2.2,.z q1,.ow true s2.1,.un]:SL K))) (Ax,q0) bw (wV (zH 1 rfl)) (λs2=>(yL 3 rfl rfl)) (λs2 x4=>(zP (rE (yG (md:=.hp) (wH (xK (zH 0 rfl) (zL 3)) (zL 0))) (zP (xR 2 rfl rfl (esc (zH 3 rfl))) (λAy=>(yA (λs7:LI=>([.z s2.2,.z q1,.ow true s7,.y x4]:SL K)) Ay bw))) (yA (λs7:LI=>([.z s2.2,.z q1,.ow true s7,.y x4]:SL K)) s2.1 bw)) (λs6=>(zP (yC true 0 rfl rfl (esc (vD (zH 0 rfl) (zL 3)))) (λFN=>(yA (λs2:LI×Int=>([.z s2.2,.z q1,.ow true s2.1,.un]:SL K)) (s6,FN) (Le.old bw)))))))) (λs3=>(zO (rE (yG (md:=.hp) (wH (xK (zH 0 rfl) (zL 2)) (zL 1))) (zP (zIc 2 rfl rfl) (λt_=>(yA (λs12:LI=>([.z s3.2,.z q1,.ow true s12,.un]:SL K)) t_ bw))) (yA (λs12:LI=>([.z s3.2,.z q1,.ow true s12,.un]:SL K)) s3.1 bw)) (λeH=>(HS 2 rfl rfl))))))) (by unfold T9;simp only[bnd])
def W3(q0:mq)(q1:LI)(q2:Int):Option (List LI):=(yE q0 (2:Int)).bind λwg=>(some (([]:List LI))).bind λuc=>((bH q2).bind λxs=>xW (λ(s3:List LI) (x5:Int)=>(((bH (q1.length:Int)).bind λxs=>aO (λ(x7:Int)=>(aU q1 x7).bind λa8=>some (decide (a8=x5))) (λ(x7:Int)=>some x7) xs).bind λa9=>push s3 a9).bind λud=>some ud) xs uc).bind λs4=>(some (gY.mk [])).bind λug=>((bH (q1.length:Int)).bind λxs=>xW (λ(eH:gY) (Aw:Int)=>(((((aU q1 Aw).bind λJz=>some ((50:Int)+Jz)).bind λa17=>some ((a17,()))).bind λQK=>some (wg,QK)).bind λz16=>wY z16.1 z16.2.1).bind λiQ=>(T9 iQ q2).bind λoZ=>(if(decide ((oZ.length:Int)=(0:Int)))=true then((aZ iQ q2).bind λa23=>some (a23::([]))).bind λmX=>some mX else some oZ).bind λqQ=>(some ([]:LI)).bind λFQ=>((some qQ).bind λxs=>xW (λ(JB:LI) (x27:Int)=>(((yE q0 ((6:Int)+Aw)).bind λa30=>some ((a30,((100:Int)+x27,())))).bind λW4=>wY W4.1 W4.2.1).bind λjW=>(((aU s4 x27).bind λa34=>(((aU s4 x27).bind λa32=>some (a32.length:Int)).bind λW5=>aZ jW W5).bind λW6=>aU a34 W6).bind λa36=>push JB a36).bind λmY=>((aU s4 x27).bind λa41=>((bV jW (64:Int)).bind λa39=>((aU s4 x27).bind λa38=>some (a38.length:Int)).bind λb40=>aZ a39 b40).bind λb42=>aU a41 b42).bind λdZ=>(if(!decide (dZ∈mY))=true then(push mY dZ).bind λyq=>some yq else some mY).bind λW7=>some W7) xs FQ).bind λs26=>(oX eH s26).bind λuh=>some uh) xs ug).bind λs12=>(((yE q0 (3:Int)).bind λa49=>some ((a49,((7:Int),())))).bind λQS=>wY QS.1 QS.2.1).bind λjX=>((((aZ jX (3:Int)).bind λa50=>some (decide (a50=(0:Int)))).bind λc57=>if c57=true then((bV jX (3:Int)).bind λa54=>aZ a54 (q1.length:Int)).bind λa55=>((((bV jX (3:Int)).bind λa51=>bV a51 (64:Int)).bind λa52=>aZ a52 (q1.length:Int)).bind λWT=>aU s12.xss WT).bind λb56=>some (!decide (a55∈b56)) else some false).bind λb=>if b=true then((((bV jX (3:Int)).bind λa61=>bV a61 (64:Int)).bind λa62=>aZ a62 (q1.length:Int)).bind λa64=>((bV jX (3:Int)).bind λa63=>aZ a63 (q1.length:Int)).bind λb65=>jw s12 a64 b65).bind λu60=>some u60 else some s12).bind λs58=>some s58.xss
theorem lC:ak ["_law_script","_law_maps","_law_bases","_law_kept","_law_places","_law_base","_law_steps","_law_stand","_law_rest","_law_goals","_law_row","_law_goal","_law_more","_law_second"] ["_law_script","_law_maps","_law_bases"] (zJ iz):=fsc
abbrev zFn(K:Frag):Sp:=bW K false (λa:mq×LI×Int×Unit=>([.z a.1,.z a.2.1,.z a.2.2.1]:SL K)) (λa=>W3 a.1 a.2.1 a.2.2.1)
theorem zJh(F:aY K "_law_steps_by" "_law_steps_by" iz f fd)(B:Bl K mg)(aF:aW P w K mg base k "_law_cell_at" ["_law_script","_law_k"] (T8 K))(bx:aW P w K mg base k "_law_mixed" ["_law_cell","_law_k"] (W2 K))(cY:aW P w K mg base k "_law_some_of" ["_law_rest","_law_many"] (zDv K)):au P w K mg base aP (k+1) f fd ["_law_script","_law_maps","_law_bases"] (zFn K):=by
 refine yK F lC (λ_=>rfl) (λ_=>rfl) λcdv A outer s H E hr=>?_
 have nd:=lC.nd
 refine⟨_,(zB (yQ 3 nd (zU aF hr (zA (pv 0) (zA zM zF)))) (zB (yQ 4 nd (xY zF)) (zB (xG aa3 rfl (xI rfl B.range (zA (pv 2) zF)) (bI 5 nd) (zB (yI (rH K aa2 aa5 aa6 xA (pv 4) (zA (uF (own:=["_law_stand"]) (ix:=[1,5]) rfl rfl rfl (xI rfl B.range (zA (zR (wL K) rfl B.len abd (zA (pv 1) zF)) zF)) (λC s H fp=>yM (i:=0) (show(["_law_stand","_law_maps","_law_base"]:List Str).Nodup from by decide +kernel) rfl (Or.inl rfl)) (λC s H fp=>KD (yD (wG K Int hr) (xC (aX K) (pv 1) (pv 0) (λ_ _=>rfl)) (pv 2) (yZ _))) (λC s H fp=>(pv 0))) zF))) zI)) (zB (yQ 6 nd (xY zF)) (zB (xG aa3 rfl (xI rfl B.range (zA (zR (wL K) rfl B.len abd (zA (pv 1) zF)) zF)) (bI 7 nd) (zB (yQ 8 nd (zU bx hr (zA (pv 3) (zA (zZ vZ zM (xC (aX K) (pv 1) (pv 7) (λ_ _=>rfl))) zF)))) (zB (yQ 9 nd (zU cY hr (zA (pv 8) (zA (pv 2) zF)))) (zB (xD (yD (wG K Int hr) (zR (wL K) rfl B.len abd (zA (pv 9) zF)) zM (yZ _)) (zB (yQ 9 nd (xY (zA (zZ xJ (pv 8) (pv 2)) zF))) zI) zI) (zB (yQ 10 nd (xY zF)) (zB (xG aa3 rfl (yS K (pv 9)) (bI 11 nd) (zB (yQ 12 nd (zU bx hr (zA (zU aF hr (zA (pv 0) (zA (zZ vZ zM (pv 7)) zF))) (zA (zZ vZ zM (pv 11)) zF)))) (zB (yI (rH K aa2 aa5 aa6 xA (pv 10) (zA (xC (aX K) (xC (aX K) (pv 4) (pv 11) (λ_ _=>rfl)) (zZ xJ (pv 12) (zR (wL K) rfl B.len abd (zA (xC (aX K) (pv 4) (pv 11) (λ_ _=>rfl)) zF))) (λ_ _=>rfl)) zF))) (zB (yQ 13 nd (xC (aX K) (xC (aX K) (pv 4) (pv 11) (λ_ _=>rfl)) (zZ xJ (zZ xN (pv 12) zM) (zR (wL K) rfl B.len abd (zA (xC (aX K) (pv 4) (pv 11) (λ_ _=>rfl)) zF))) (λ_ _=>rfl))) (zB (xD (yD (zMq K) (pv 13) (pv 10) (by with_unfolding_all rfl)) (zB (yI (rH K aa2 aa5 aa6 xA (pv 10) (zA (pv 13) zF))) zI) zI) zI))))) (zB (yI (rH K aa2 aa5 aa6 xA (pv 6) (zA (pv 10) zF))) zI))))))) (zB (yQ 8 nd (zU bx hr (zA (zU aF hr (zA (pv 0) (zA zM zF))) (zA zM zF)))) (zB (xD (PW.pt (pw_and (yD (wG K Int hr) (zZ xJ (pv 8) zM) zM (yZ _)) (pw_and1 (yD (zMq K) (zZ xJ (zZ xN (pv 8) zM) (zR (wL K) rfl B.len abd (zA (pv 1) zF))) (xC (aX K) (pv 6) (zZ xJ (zZ xN (zZ xN (pv 8) zM) zM) (zR (wL K) rfl B.len abd (zA (pv 1) zF))) (λ_ _=>rfl)) (by with_unfolding_all rfl))))) (zB (yI (rH K aa2 aa5 aa6 xA (xC (aX K) (pv 6) (zZ xJ (zZ xN (zZ xN (pv 8) zM) zM) (zR (wL K) rfl B.len abd (zA (pv 1) zF))) (λ_ _=>rfl)) (zA (zZ xJ (zZ xN (pv 8) zM) (zR (wL K) rfl B.len abd (zA (pv 1) zF))) zF))) zI) zI) (zB (zQ (pv 6)) zI)))))))),?_⟩
 rintro Fa ⟨q0,q1,q2,⟨⟩⟩
 exact SB.of (zO (yC true 3 rfl rfl (esc (zK (zD (zE 0 rfl) (zD (esc (zL 2)) zN))))) (λwg=>(zO (uW true 4 rfl rfl (zy (α:=LI))) (λuc=>(zO (wN (n:=true) (L:=(λs3:List LI=>([.z q0,.z q1,.z q2,.y wg,.ow true s3,.un,.un,.un,.un,.un,.un,.un,.un,.un]:SL K))) uc bw (wV (zH 2 rfl)) (λs3=>(yL 5 rfl rfl)) (λs3 x5=>(zP (xR 4 rfl rfl (xO (n:=true) (lV:=[.un,.z q1,.y x5]) (no:=1) (ix:=[1,5]) rfl rfl (wV (wO (zE 1 rfl))) (yL 0 rfl rfl) (λx7=>(yG (md:=.hp) (wH (esc (xL (zE 1 rfl) (zH 0 rfl))) (zH 2 rfl)))) (λx7=>(esc (zH 0 rfl))) (λx7=>eZ)).ex) (λud=>(yA (λs3:List LI=>([.z q0,.z q1,.z q2,.y wg,.ow true s3,.un,.un,.un,.un,.un,.un,.un,.un,.un]:SL K)) ud bw))))) (λs4=>(zO (K1 6 rfl rfl Jt) (λug=>(zO (wN (n:=true) (L:=(λeH:gY=>([.z q0,.z q1,.z q2,.y wg,.ow true s4,.un,.nu (eH:gY),.un,.un,.un,.un,.un,.un,.un]:SL K))) ug bw (wV (wO (zE 1 rfl))) (λeH=>(yL 7 rfl rfl)) (λeH Aw=>(zP (yC true 8 rfl rfl (esc (zK (zD (esc (zH 3 rfl)) (zD (esc (uA (zL 50) (esc (xL (zE 1 rfl) (zH 7 rfl))))) zN))))) (λiQ=>(zP (yC true 9 rfl rfl (zK (zD (esc (zH 8 rfl)) (zD (esc (zH 2 rfl)) zN)))) (λoZ=>(zP (rE (yG (md:=.hp) (wH (wO (zE 9 rfl)) (zL 0))) (zP (yC true 9 rfl rfl (Ed (yU (esc (xK (zH 8 rfl) (zH 2 rfl))) Ec) (λa h=>aa4 ((xM Ek) a h) (by decide))).ex) (λmX=>(yA (λDl:LI=>([.z q0,.z q1,.z q2,.y wg,.ow true s4,.un,.nu (eH:gY),.y Aw,.y iQ,.y Dl,.un,.un,.un,.un]:SL K)) mX bw))) (yA (λDl:LI=>([.z q0,.z q1,.z q2,.y wg,.ow true s4,.un,.nu (eH:gY),.y Aw,.y iQ,.y Dl,.un,.un,.un,.un]:SL K)) oZ bw)) (λqQ=>(zP (uW true 10 rfl rfl (zy (α:=Int))) (λFQ=>(zP (wN (n:=true) (L:=(λJB:LI=>([.z q0,.z q1,.z q2,.y wg,.ow true s4,.un,.nu (eH:gY),.y Aw,.y iQ,.y qQ,.ow true JB,.un,.un,.un]:SL K))) FQ bw (yV (yF 9 rfl)) (λJB=>(yL 11 rfl rfl)) (λJB x27=>(zP (yC true 12 rfl rfl (esc (zK (zD (esc (zK (zD (zE 0 rfl) (zD (esc (uA (zL 6) (zH 7 rfl))) zN)))) (zD (esc (uA (zL 100) (zH 11 rfl))) zN))))) (λjW=>(zP (xR 10 rfl rfl (esc (esc (xL (xL (vN 4 rfl) (zH 11 rfl)) (xK (zH 12 rfl) (wO (xL (vN 4 rfl) (zH 11 rfl)))))))) (λmY=>(zP (yC true 13 rfl rfl (esc (esc (xL (xL (vN 4 rfl) (zH 11 rfl)) (xK (vD (zH 12 rfl) (zL 64)) (wO (xL (vN 4 rfl) (zH 11 rfl)))))))) (λdZ=>(zP (rE (yG (md:=.hp) (zT7 (zH 13 rfl) (vN 10 rfl))) (zP (xR 10 rfl rfl (esc (zH 13 rfl))) (λyq=>(yA (λs44:LI=>([.z q0,.z q1,.z q2,.y wg,.ow true s4,.un,.nu (eH:gY),.y Aw,.y iQ,.y qQ,.ow true s44,.y x27,.y jW,.y dZ]:SL K)) yq bw))) (yA (λs44:LI=>([.z q0,.z q1,.z q2,.y wg,.ow true s4,.un,.nu (eH:gY),.y Aw,.y iQ,.y qQ,.ow true s44,.y x27,.y jW,.y dZ]:SL K)) mY bw)) (λW7=>(yA (λJB:LI=>([.z q0,.z q1,.z q2,.y wg,.ow true s4,.un,.nu (eH:gY),.y Aw,.y iQ,.y qQ,.ow true JB,.un,.un,.un]:SL K)) W7 bw))))))))))) (λs26=>(zP (Ju 6 10 rfl rfl (by decide) rfl) (λuh=>(yA (λeH:gY=>([.z q0,.z q1,.z q2,.y wg,.ow true s4,.un,.nu (eH:gY),.un,.un,.un,.un,.un,.un,.un]:SL K)) uh bw))))))))))))))) (λs12=>(zO (yC true 8 rfl rfl (esc (zK (zD (esc (zK (zD (zE 0 rfl) (zD (esc (zL 3)) zN)))) (zD (esc (zL 7)) zN))))) (λjX=>(zO (rE (Yd (yG (md:=.hp) (wH (xK (zH 8 rfl) (zL 3)) (zL 0))) (yG (md:=.hp) (zT7 (xK (vD (zH 8 rfl) (zL 3)) (wO (zE 1 rfl))) (xL (zXo 6 rfl) (xK (vD (vD (zH 8 rfl) (zL 3)) (zL 64)) (wO (zE 1 rfl))))))) (zP (zKj 6 rfl rfl (xK (vD (vD (zH 8 rfl) (zL 3)) (zL 64)) (wO (zE 1 rfl))) (xK (vD (zH 8 rfl) (zL 3)) (wO (zE 1 rfl)))) (λu60=>(yA (λs59:gY=>([.z q0,.z q1,.z q2,.y wg,.ow true s4,.un,.nu (s59:gY),.un,.y jX,.un,.un,.un,.un,.un]:SL K)) u60 bw))) (yA (λs59:gY=>([.z q0,.z q1,.z q2,.y wg,.ow true s4,.un,.nu (s59:gY),.un,.y jX,.un,.un,.un,.un,.un]:SL K)) s12 bw)) (λs58=>(zNz 6 rfl))))))))))))))) (by unfold W3;simp only[bnd])
def T_(q0:Int)(q1:Int)(q2:LI)(q3:Int):Option LI:=((((wY q0 ((200:Int)+q1)).bind λa2=>bV a2 ((1:Int)+q1)).bind λa4=>some ((a4,(q3,())))).bind λz3=>T9 z3.1 z3.2.1).bind λiR=>((bH (q2.length:Int)).bind λxs=>aO (λ(x6:Int)=>(aU q2 x6).bind λa7=>some (decide (a7∈iR))) (λ(x6:Int)=>some x6) xs).bind λuo=>((((bV q0 (7:Int)).bind λa8=>aZ a8 (2:Int)).bind λa9=>some (decide (a9=(1:Int)))).bind λb=>if b=true then(some uo.reverse).bind λmZ=>some mZ else some uo).bind λDm=>(((((bV q0 (14:Int)).bind λa13=>aZ a13 (5:Int)).bind λa14=>(aZ q1 (9:Int)).bind λJz=>some (decide (a14=Jz))).bind λc16=>if c16=true then some (decide ((1:Int)<(q2.length:Int))) else some false).bind λb=>if b=true then((bV q0 (70:Int)).bind λa20=>aZ a20 (q2.length:Int)).bind λgb=>(if(!decide (gb∈Dm))=true then(push Dm gb).bind λm6=>some m6 else some Dm).bind λDl=>some Dl else some Dm).bind λqu=>some qu
theorem m7:ak ["_law_cell","_law_k","_law_maps","_law_bases","_law_goals","_law_found","_law_stand"] ["_law_cell","_law_k","_law_maps","_law_bases"] (zJ jG):=fsc
abbrev zHs(K:Frag):Sp:=bW K false (λa:Int×Int×LI×Int×Unit=>([.z a.1,.z a.2.1,.z a.2.2.1,.z a.2.2.2.1]:SL K)) (λa=>T_ a.1 a.2.1 a.2.2.1 a.2.2.2.1)
theorem zK7(F:aY K "_law_sets_by" "_law_sets_by" jG f fd)(B:Bl K mg)(bx:aW P w K mg base k "_law_mixed" ["_law_cell","_law_k"] (W2 K))(cY:aW P w K mg base k "_law_some_of" ["_law_rest","_law_many"] (zDv K)):au P w K mg base aP (k+1) f fd ["_law_cell","_law_k","_law_maps","_law_bases"] (zHs K):=by
 refine yK F m7 (λ_=>rfl) (λ_=>rfl) λcdv A outer s H E hr=>?_
 have nd:=m7.nd
 refine⟨_,(zB (yQ 4 nd (zU cY hr (zA (zZ xN (zU bx hr (zA (pv 0) (zA (zZ vZ zM (pv 1)) zF))) (zZ vZ zM (pv 1))) (zA (pv 3) zF)))) (zB (Dg (i:=5) (own:=["_law_stand"]) (ix:=[2,4]) nd rfl rfl rfl rfl rfl (xI rfl B.range (zA (zR (wL K) rfl B.len abd (zA (pv 2) zF)) zF)) (λC s H fp=>yM (i:=0) (show(["_law_stand","_law_maps","_law_goals"]:List Str).Nodup from by decide +kernel) rfl (Or.inl rfl)) (λC s H fp=>KD (yD (Ih K) (xC (aX K) (pv 1) (pv 0) (λ_ _=>rfl)) (pv 2) (by with_unfolding_all rfl))) (λC s H fp=>(pv 0))) (zB (xD (yD (wG K Int hr) (zZ xJ (zZ xN (pv 0) zM) zM) zM (yZ _)) (zB (yI (zZd K aa2 PySem.F.slot_list_reverse PySem.F.type_list_reverse zIg (pv 5))) zI) zI) (zB (xD (PW.pt (pw_and (yD (wG K Int hr) (zZ xJ (zZ xN (pv 0) zM) zM) (zZ xJ (pv 1) zM) (yZ _)) (pw_and1 (yD Ku (zR (wL K) rfl B.len abd (zA (pv 2) zF)) zM (yZ _))))) (zB (yQ 6 nd (zZ xJ (zZ xN (pv 0) zM) (zR (wL K) rfl B.len abd (zA (pv 2) zF)))) (zB (xD (yD (zMq K) (pv 6) (pv 5) (by with_unfolding_all rfl)) (zB (yI (rH K aa2 aa5 aa6 xA (pv 5) (zA (pv 6) zF))) zI) zI) zI)) zI) (zB (zQ (pv 5)) zI))))),?_⟩
 rintro Fa ⟨q0,q1,q2,q3,⟨⟩⟩
 exact SB.of (zO (yC true 4 rfl rfl (zK (zD (esc (vD (zK (zD (esc (zH 0 rfl)) (zD (esc (uA (zL 200) (zH 1 rfl))) zN))) (uA (zL 1) (zH 1 rfl)))) (zD (esc (zH 3 rfl)) zN)))) (λiR=>(zO (uW true 5 rfl rfl (xO (n:=true) (lV:=[.un,.z q2,.y iR]) (no:=1) (ix:=[2,4]) rfl rfl (wV (wO (zE 2 rfl))) (yL 0 rfl rfl) (λx6=>(yG (md:=.hp) (KY (esc (xL (zE 1 rfl) (zH 0 rfl))) (zE 2 rfl)))) (λx6=>(esc (zH 0 rfl))) (λx6=>eZ))) (λuo=>(zO (rE (yG (md:=.hp) (wH (xK (vD (zH 0 rfl) (zL 7)) (zL 2)) (zL 1))) (zP (zIc 5 rfl rfl) (λmZ=>(yA (λeH:LI=>([.z q0,.z q1,.z q2,.z q3,.y iR,.ow true eH,.un]:SL K)) mZ bw))) (yA (λeH:LI=>([.z q0,.z q1,.z q2,.z q3,.y iR,.ow true eH,.un]:SL K)) uo bw)) (λDm=>(zO (rE (Yd (yG (md:=.hp) (wH (xK (vD (zH 0 rfl) (zL 14)) (zL 5)) (xK (zH 1 rfl) (zL 9)))) (yG (md:=.hp) (KQ (wO (zE 2 rfl)) (zL 1)))) (zP (yC true 6 rfl rfl (esc (xK (vD (zH 0 rfl) (zL 70)) (wO (zE 2 rfl))))) (λgb=>(zP (rE (yG (md:=.hp) (zT7 (zH 6 rfl) (vN 5 rfl))) (zP (xR 5 rfl rfl (esc (zH 6 rfl))) (λm6=>(yA (λvf:LI=>([.z q0,.z q1,.z q2,.z q3,.y iR,.ow true vf,.y gb]:SL K)) m6 bw))) (yA (λvf:LI=>([.z q0,.z q1,.z q2,.z q3,.y iR,.ow true vf,.y gb]:SL K)) Dm bw)) (λDl=>(yA (λCr:LI=>([.z q0,.z q1,.z q2,.z q3,.y iR,.ow true Cr,.un]:SL K)) Dl bw))))) (yA (λCr:LI=>([.z q0,.z q1,.z q2,.z q3,.y iR,.ow true Cr,.un]:SL K)) Dm bw)) (λqu=>(HS 5 rfl rfl))))))))) (by unfold T_;simp only[bnd])
def W8(q0:mq):Option (LI×Int):=(((yE q0 (0:Int)).bind λa2=>aZ a2 (8:Int)).bind λb3=>some ((1:Int)+b3)).bind λmany1=>(((((yE q0 (0:Int)).bind λa4=>bV a4 (8:Int)).bind λa5=>aZ a5 (8:Int)).bind λa6=>some (decide (a6=(5:Int)))).bind λb=>if b=true then((((yE q0 (0:Int)).bind λa10=>bV a10 (64:Int)).bind λa11=>aZ a11 (20:Int)).bind λWQ=>some ((1:Int)+WQ)).bind λyt=>some yt else some many1).bind λs7=>(((yE q0 (1:Int)).bind λa14=>aZ a14 s7).bind λJz=>some ((1:Int)+Jz)).bind λgj=>(some ([]:LI)).bind λAz=>((bH s7).bind λxs=>xW (λ(qu:LI) (LR:Int)=>(((((((yE q0 (1:Int)).bind λa22=>some ((a22,(LR,())))).bind λQM=>wY QM.1 QM.2.1).bind λa23=>aZ a23 gj).bind λa24=>(mulM gj (if(decide (LR<gj))=true then(1:Int) else 0)).bind λWz=>some (a24+Wz)).bind λb26=>some (min LR b26)).bind λa27=>push qu a27).bind λA_=>some A_) xs Az).bind λCr=>some (Cr,gj)
theorem m8:ak ["_law_script","_law_many","_law_bases","_law_maps","_law_stand"] ["_law_script"] (zJ jH):=fsc
abbrev zHt(K:Frag):Sp:=bW K false (λa:mq×Unit=>([.z a.1]:SL K)) (λa=>W8 a.1)
theorem zK9(F:aY K "_law_maps_by" "_law_maps_by" jH f fd)(B:Bl K mg)(FT:mg "min" = none)(aF:aW P w K mg base k "_law_cell_at" ["_law_script","_law_k"] (T8 K))(bx:aW P w K mg base k "_law_mixed" ["_law_cell","_law_k"] (W2 K)):au P w K mg base aP (k+1) f fd ["_law_script"] (zHt K):=by
 refine yK F m8 (λ_=>rfl) (λ_=>rfl) λcdv A outer s H E hr=>?_
 have nd:=m8.nd
 refine⟨_,(zB (yQ 1 nd (zZ vZ zM (zZ xJ (zU aF hr (zA (pv 0) (zA zM zF))) zM))) (zB (xD (yD (wG K Int hr) (zZ xJ (zZ xN (zU aF hr (zA (pv 0) (zA zM zF))) zM) zM) zM (yZ _)) (zB (yQ 1 nd (zZ vZ zM (zZ xJ (zZ xN (zU aF hr (zA (pv 0) (zA zM zF))) zM) zM))) zI) zI) (zB (yQ 2 nd (zZ vZ zM (zZ xJ (zU aF hr (zA (pv 0) (zA zM zF))) (pv 1)))) (zB (yQ 3 nd (xY zF)) (zB (xG aa3 rfl (xI rfl B.range (zA (pv 1) zF)) (bI 4 nd) (zB (yI (rH K aa2 aa5 aa6 xA (pv 3) (zA (zR (zL1 rfl) rfl FT zZ7 (zA (pv 4) (zA (zZ vZ (zZ xJ (zU bx hr (zA (zU aF hr (zA (pv 0) (zA zM zF))) (zA (pv 4) zF))) (pv 2)) (zZ ZV (pv 2) (vH zUu rfl B.int zUy (zA (UJ S6 (pv 4) (pv 2) (yZ _)) zF)))) zF))) zF))) zI)) (zB (zQ (vo (zA (pv 3) (zA (pv 2) zF)))) zI)))))),?_⟩
 rintro Fa ⟨q0,⟨⟩⟩
 exact SB.of (zO (yC true 1 rfl rfl (esc (uA (zL 1) (xK (zK (zD (zE 0 rfl) (zD (esc (zL 0)) zN))) (zL 8))))) (λmany1=>(zO (rE (yG (md:=.hp) (wH (xK (vD (zK (zD (zE 0 rfl) (zD (esc (zL 0)) zN))) (zL 8)) (zL 8)) (zL 5))) (zP (yC true 1 rfl rfl (esc (uA (zL 1) (xK (vD (zK (zD (zE 0 rfl) (zD (esc (zL 0)) zN))) (zL 64)) (zL 20))))) (λyt=>(yA (λs8:Int=>([.z q0,.y s8,.un,.un,.un]:SL K)) yt bw))) (yA (λs8:Int=>([.z q0,.y s8,.un,.un,.un]:SL K)) many1 bw)) (λs7=>(zO (yC true 2 rfl rfl (esc (uA (zL 1) (xK (zK (zD (zE 0 rfl) (zD (esc (zL 1)) zN))) (zH 1 rfl))))) (λgj=>(zO (uW true 3 rfl rfl (zy (α:=Int))) (λAz=>(zO (wN (n:=true) (L:=(λqu:LI=>([.z q0,.y s7,.y gj,.ow true qu,.un]:SL K))) Az bw (wV (zH 1 rfl)) (λqu=>(yL 4 rfl rfl)) (λqu LR=>(zP (xR 3 rfl rfl (esc (zT9 (zH 4 rfl) (uA (xK (zK (zD (esc (zK (zD (zE 0 rfl) (zD (esc (zL 1)) zN)))) (zD (esc (zH 4 rfl)) zN))) (zH 2 rfl)) (zT8 (zH 2 rfl) (Ik (Vq (zH 4 rfl) (zH 2 rfl)))))))) (λA_=>(yA (λqu:LI=>([.z q0,.y s7,.y gj,.ow true qu,.un]:SL K)) A_ bw))))) (λCr=>(zYw (sl2:=[.z q0,.y s7,.y gj,.y Cr,.un]) bw (zV (Ef (yF 3 rfl) (zH 2 rfl)))))))))))))) (by unfold W8;simp only[bnd])
def uJ(q0:mq):Option (Cm (List LI) (List (Str×LI)) (List LI)):=((((yE q0 (0:Int)).bind λa1=>bV a1 (512:Int)).bind λa2=>aZ a2 (8:Int)).bind λa3=>some (decide (a3=(3:Int)))).bind λb=>if b=true then(((yE q0 (1:Int)).bind λa5=>aZ a5 (29:Int)).bind λb6=>some ((12:Int)+b6)).bind λyu=>((bH yu).bind λxs=>aO (λ(x8:Int)=>some true) (λ(x8:Int)=>some ([min (x8+(1:Int)) (yu-(1:Int))])) xs).bind λFW=>(((((yE q0 (5:Int)).bind λa10=>some ((a10,((0:Int),())))).bind λz9=>wE z9.1 z9.2.1).bind λa11=>some ((a11,[yu-(1:Int)]))).bind λa12=>some (a12::([]))).bind λa13=>some (Cm.mk FW a13 (([]:List LI))) else(W8 q0).bind λyw=>(W3 q0 yw.1 yw.2).bind λiT=>(some (([]:List (Str×LI)))).bind λuq=>((((yE q0 (4:Int)).bind λa20=>aZ a20 (4:Int)).bind λa21=>bH a21).bind λxs=>xW (λ(qu:List (Str×LI)) (LR:Int)=>(((((yE q0 (5:Int)).bind λa24=>some ((a24,(LR,())))).bind λz23=>wE z23.1 z23.2.1).bind λa27=>(((yE q0 (4:Int)).bind λa26=>some ((a26,(LR,(yw.1,(yw.2,())))))).bind λZi=>T_ Zi.1 Zi.2.1 Zi.2.2.1 Zi.2.2.2.1).bind λb28=>some (a27,b28)).bind λa29=>push qu a29).bind λur=>some ur) xs uq).bind λCr=>(some (([]:List LI))).bind λBa=>(((((yE q0 (5:Int)).bind λa34=>bV a34 (5:Int)).bind λa35=>aZ a35 (4:Int)).bind λa36=>bH a36).bind λxs=>xW (λ(QV:List LI) (x33:Int)=>((((yE q0 (5:Int)).bind λa39=>some ((a39,((9:Int)+x33,(yw.1,(yw.2,())))))).bind λZj=>T_ Zj.1 Zj.2.1 Zj.2.2.1 Zj.2.2.2.1).bind λa40=>push QV a40).bind λBb=>some Bb) xs Ba).bind λs32=>some (Cm.mk iT Cr s32)
theorem lD:ak ["_law_script","_law_many","_law_steps","_law_maps","_law_bases","_law_marks","_law_k","_law_fair"] ["_law_script"] (zJ iB):=fsc
abbrev zFo(K:Frag):Sp:=bW K false (λa:mq×Unit=>([.z a.1]:SL K)) (λa=>uJ a.1)
theorem zJi(F:aY K "_law_parts_by" "_law_parts_by" iB f fd)(B:Bl K mg)(FT:mg "min" = none)(aF:aW P w K mg base k "_law_cell_at" ["_law_script","_law_k"] (T8 K))(jY:aW P w K mg base k "_law_maps_by" ["_law_script"] (zHt K))(cP:aW P w K mg base k "_law_name_by" ["_law_cell","_law_k"] (zDw K))(gk:aW P w K mg base k "_law_sets_by" ["_law_cell","_law_k","_law_maps","_law_bases"] (zHs K))(iU:aW P w K mg base k "_law_steps_by" ["_law_script","_law_maps","_law_bases"] (zFn K)):au P w K mg base aP (k+1) f fd ["_law_script"] (zFo K):=by
 refine yK F lD (λ_=>rfl) (λ_=>rfl) λcdv A outer s H E hr=>?_
 have nd:=lD.nd
 refine⟨_,(zB (xD (yD (wG K Int hr) (zZ xJ (zZ xN (zU aF hr (zA (pv 0) (zA zM zF))) zM) zM) zM (yZ _)) (zB (yQ 1 nd (zZ vZ zM (zZ xJ (zU aF hr (zA (pv 0) (zA zM zF))) zM))) (zB (Dg (i:=2) (own:=["_law_k"]) (ix:=[1]) nd rfl rfl rfl rfl rfl (xI rfl B.range (zA (pv 1) zF)) (λC s H fp=>yM (i:=0) (show(["_law_k","_law_many"]:List Str).Nodup from by decide +kernel) rfl (Or.inl rfl)) (λC s H fp=>wR) (λC s H fp=>(xY (zA (zR (zL1 rfl) rfl FT zZ7 (zA (zZ vZ (pv 0) zM) (zA (zZ XS (pv 1) zM) zF))) zF)))) (zB (zQ (vo (zA (pv 2) (zA (xY (zA (vo (zA (zU cP hr (zA (zU aF hr (zA (pv 0) (zA zM zF))) (zA zM zF))) (zA (xY (zA (zZ XS (pv 1) zM) zF)) zF))) zF)) (zA (xY zF) zF))))) zI))) zI) (zB (G8 (zU jY hr (zA (pv 0) zF)) (C_ rfl (yH (bI 3 nd) (yH (bI 4 nd) vC)))) (zB (yQ 2 nd (zU iU hr (zA (pv 0) (zA (pv 3) (zA (pv 4) zF))))) (zB (yQ 5 nd (xY zF)) (zB (xG aa3 rfl (xI rfl B.range (zA (zZ xJ (zU aF hr (zA (pv 0) (zA zM zF))) zM) zF)) (bI 6 nd) (zB (yI (rH K aa2 aa5 aa6 xA (pv 5) (zA (vo (zA (zU cP hr (zA (zU aF hr (zA (pv 0) (zA zM zF))) (zA (pv 6) zF))) (zA (zU gk hr (zA (zU aF hr (zA (pv 0) (zA zM zF))) (zA (pv 6) (zA (pv 3) (zA (pv 4) zF))))) zF))) zF))) zI)) (zB (yQ 7 nd (xY zF)) (zB (xG aa3 rfl (xI rfl B.range (zA (zZ xJ (zZ xN (zU aF hr (zA (pv 0) (zA zM zF))) zM) zM) zF)) (bI 6 nd) (zB (yI (rH K aa2 aa5 aa6 xA (pv 7) (zA (zU gk hr (zA (zU aF hr (zA (pv 0) (zA zM zF))) (zA (zZ vZ zM (pv 6)) (zA (pv 3) (zA (pv 4) zF))))) zF))) zI)) (zB (zQ (vo (zA (pv 2) (zA (pv 5) (zA (pv 7) zF))))) zI)))))))),?_⟩
 rintro Fa ⟨q0,⟨⟩⟩
 exact SB.of (xP (yG (md:=.hp) (wH (xK (vD (zK (zD (zE 0 rfl) (zD (esc (zL 0)) zN))) (zL 512)) (zL 8)) (zL 3))) (zO (yC true 1 rfl rfl (esc (uA (zL 12) (xK (zK (zD (zE 0 rfl) (zD (esc (zL 1)) zN))) (zL 29))))) (λyu=>(zO (yC true 2 rfl rfl (xO (n:=true) (lV:=[.un,.y yu]) (no:=1) (ix:=[1]) rfl rfl (wV (zH 1 rfl)) (yL 0 rfl rfl) (λx8=>Ab) (λx8=>(Ed (yU (esc (zT9 (uA (zH 0 rfl) (zL 1)) (Ym (zH 1 rfl) (zL 1)))) Ec) (λa h=>aa4 ((xM Ek) a h) (by decide))).ex) (λx8=>eZ)).ex) (λFW=>(zV (zT4 (yF 2 rfl) (Ed (yU (Ef (zK (zD (esc (zK (zD (zE 0 rfl) (zD (esc (zL 5)) zN)))) (zD (esc (zL 0)) zN))) (Ed (yU (esc (Ym (zH 1 rfl) (zL 1))) Ec) (λa h=>aa4 ((xM Ek) a h) (by decide))).ex) Ec) (λa h=>aa4 ((xM Ek) a h) (by decide))).ex (zy (α:=LI)).ex)))))) (zO (YS (n:=true) (zK (zD (zE 0 rfl) zN)) (z_ 3 4 rfl rfl (λ_=>rfl) rfl)) (λyw=>(zO (yC true 2 rfl rfl (zK (zD (zE 0 rfl) (zD (zE 3 rfl) (zD (esc (zH 4 rfl)) zN))))) (λiT=>(zO (uW true 5 rfl rfl (zy (α:=Str×LI))) (λuq=>(zO (wN (n:=true) (L:=(λqu:List (Str×LI)=>([.z q0,.un,.y iT,.y yw.1,.y yw.2,.ow true qu,.un,.un]:SL K))) uq bw (wV (xK (zK (zD (zE 0 rfl) (zD (esc (zL 4)) zN))) (zL 4))) (λqu=>(yL 6 rfl rfl)) (λqu LR=>(zP (xR 5 rfl rfl (Ef (zK (zD (esc (zK (zD (zE 0 rfl) (zD (esc (zL 5)) zN)))) (zD (esc (zH 6 rfl)) zN))) (zK (zD (esc (zK (zD (zE 0 rfl) (zD (esc (zL 4)) zN)))) (zD (esc (zH 6 rfl)) (zD (zE 3 rfl) (zD (esc (zH 4 rfl)) zN))))))) (λur=>(yA (λqu:List (Str×LI)=>([.z q0,.un,.y iT,.y yw.1,.y yw.2,.ow true qu,.un,.un]:SL K)) ur bw))))) (λCr=>(zO (uW true 7 rfl rfl (zy (α:=LI))) (λBa=>(zO (wN (n:=true) (L:=(λQV:List LI=>([.z q0,.un,.y iT,.y yw.1,.y yw.2,.ow true Cr,.un,.ow true QV]:SL K))) Ba bw (wV (xK (vD (zK (zD (zE 0 rfl) (zD (esc (zL 5)) zN))) (zL 5)) (zL 4))) (λQV=>(yL 6 rfl rfl)) (λQV x33=>(zP (xR 7 rfl rfl (zK (zD (esc (zK (zD (zE 0 rfl) (zD (esc (zL 5)) zN)))) (zD (esc (uA (zL 9) (zH 6 rfl))) (zD (zE 3 rfl) (zD (esc (zH 4 rfl)) zN)))))) (λBb=>(yA (λQV:List LI=>([.z q0,.un,.y iT,.y yw.1,.y yw.2,.ow true Cr,.un,.ow true QV]:SL K)) Bb bw))))) (λs32=>(zYw (sl2:=[.z q0,.un,.y iT,.y yw.1,.y yw.2,.y Cr,.un,.y s32]) bw (zV (zT4 (yF 2 rfl) (yF 5 rfl) (yF 7 rfl))))))))))))))))) (by unfold uJ;simp only[bnd])
def W9(C:Addr)(q0:Cm (List LI) (List (Str×LI)) (List LI)):Option (aq C):=(some q0).bind λv1=>((some v1.b).bind λxs=>aO (λ(x3:Str×LI)=>some true) (λ(x3:Str×LI)=>some (x3.1,x3.2)) xs).bind λL_=>((some v1.a).bind λxs=>aO (λ(x4:LI)=>some true) (λ(x4:LI)=>some x4) xs).bind λa6=>((some v1.c).bind λxs=>aO (λ(x5:LI)=>some true) (λ(x5:LI)=>some x5) xs).bind λa7=>Qz C a6 (some L_) (some a7)
theorem m9:ak ["_law_parts","_law_steps","_law_marks","_law_fair","_law_some"] ["_law_parts"] (zJ jJ):=fsc
abbrev zHu(K:Frag)(C:Addr):Sp:=bW K false (λa:((Cm (List LI) (List (Str×LI)) (List LI)))×Unit=>([.z a.1]:SL K)) (λa=>W9 C a.1)
theorem zLa(F:aY K "_law_machine" "_law_machine" jJ f fd)(B:Bl K mg)(T:Cl K mg C)(MK:Mk K C fI)(GI:au P w K mg base aP k0 fI T6 ["self","steps","marks","fair"] (rJ K C (Qz C)))(T7:Binds K T6 ["self","steps","marks","fair"] []):au P w K mg base aP ((k0+1)+1) f fd ["_law_parts"] (zHu K C):=by
 refine yK F m9 (λ_=>rfl) (λ_=>rfl) λcdv A outer s H E hr=>?_
 have nd:=m9.nd
 refine⟨_,(zB (G8 (pv 0) (C_ rfl (yH (bI 1 nd) (yH (bI 2 nd) (yH (bI 3 nd) vC))))) (zB (Dg (i:=4) (own:=["_law_name","_law_stands"]) (ix:=[]) nd rfl rfl rfl rfl rfl (yS K (pv 2)) (λC s H fp=>Od (K:=K) (n:=2) rfl rfl (yH (yM (i:=0) (show(["_law_name","_law_stands"]:List Str).Nodup from by decide +kernel) rfl (Or.inl rfl)) (yH (yM (i:=1) (show(["_law_name","_law_stands"]:List Str).Nodup from by decide +kernel) rfl (Or.inl rfl)) vC))) (λC s H fp=>wR) (λC s H fp=>(vo (zA (pv 0) (zA (vH (OJ K) rfl B.list KZ (zA (pv 1) zF)) zF))))) (zB (zQ (uO MK GI hr rfl T.mgC T7 .nil vV (zA (uF (own:=["_law_stands"]) (ix:=[]) rfl rfl rfl (yS K (pv 1)) (λC s H fp=>yM (i:=0) (show(["_law_stands"]:List Str).Nodup from by decide +kernel) rfl (Or.inl rfl)) (λC s H fp=>wR) (λC s H fp=>(vH (OJ K) rfl B.list KZ (zA (pv 0) zF)))) (zA (pv 4) (zA (uF (own:=["_law_stands"]) (ix:=[]) rfl rfl rfl (yS K (pv 3)) (λC s H fp=>yM (i:=0) (show(["_law_stands"]:List Str).Nodup from by decide +kernel) rfl (Or.inl rfl)) (λC s H fp=>wR) (λC s H fp=>(vH (OJ K) rfl B.list KZ (zA (pv 0) zF)))) zF))))) zI))),?_⟩
 rintro Fa ⟨q0,⟨⟩⟩
 exact SB.of (zO (Qf (n:=false) (yF 0 rfl) (Jj 1 2 3 rfl rfl (λ_=>rfl) rfl (λ_ _=>rfl) rfl)) (λv1=>(zO (yC true 4 rfl rfl (xO (n:=false) (lV:=[.un,.un]) (no:=2) (ix:=[]) rfl rfl (yV (yF 2 rfl)) (z_ 0 1 rfl rfl (λ_=>rfl) rfl) (λx3=>Ab) (λx3=>(Ef (zH 0 rfl) (Ow (zE 1 rfl)).ex)) (λx3=>eZ)).ex) (λL_=>(zV (zLt (xO (n:=false) (lV:=[.un]) (no:=1) (ix:=[]) rfl rfl (yV (yF 1 rfl)) (yL 0 rfl rfl) (λx4=>Ab) (λx4=>(Ow (zE 0 rfl)).ex) (λx4=>eZ)).ex (zE 4 rfl) (xO (n:=false) (lV:=[.un]) (no:=1) (ix:=[]) rfl rfl (yV (yF 3 rfl)) (yL 0 rfl rfl) (λx5=>Ab) (λx5=>(Ow (zE 0 rfl)).ex) (λx5=>eZ)).ex).ex))))) (by unfold W9;simp only[bnd])
def W_(q0:mq)(q1:Int)(q2:List Str)(q3:Int):Option Str:=(((yE q0 q1).bind λa3=>some ((a3,(q1,())))).bind λz2=>wY z2.1 z2.2.1).bind λrY=>(some ([("not":Str),("somenext":Str),("eachnext":Str),("somealways":Str),("eachalways":Str),("someever":Str),("eachever":Str)])).bind λzc=>(some ([("both":Str),("either":Str),("sometill":Str),("eachtill":Str)])).bind λzf=>(aZ rY (5:Int)).bind λQW=>(if(decide (q3=(0:Int)))=true then some true else some (decide (QW=(0:Int)))).bind λb=>if b=true then((((bV rY (5:Int)).bind λa7=>aZ a7 (8:Int)).bind λa8=>some (decide (a8=(0:Int)))).bind λc9=>if c9=true then some true else some (decide ((q2.length:Int)=(0:Int)))).bind λb=>if b=true then some ("all":Str) else((bV rY (40:Int)).bind λa10=>aZ a10 (q2.length:Int)).bind λyc=>aU q2 yc else if(decide (QW<(3:Int)))=true then((bV rY (5:Int)).bind λa12=>aZ a12 (7:Int)).bind λWr=>aU zc Wr else((bV rY (5:Int)).bind λa14=>aZ a14 (4:Int)).bind λJz=>aU zf Jz
theorem m_:ak ["_law_script","_law_at","_law_names","_law_depth","_law_rest","_law_singles","_law_doubles","_law_way"] ["_law_script","_law_at","_law_names","_law_depth"] (zJ jK):=fsc
abbrev zHr(K:Frag):Sp:=bW K false (λa:mq×Int×(List Str)×Int×Unit=>([.z a.1,.z a.2.1,.z a.2.2.1,.z a.2.2.2.1]:SL K)) (λa=>W_ a.1 a.2.1 a.2.2.1 a.2.2.2.1)
theorem zK5(F:aY K "_law_word_at" "_law_word_at" jK f fd)(B:Bl K mg)(aF:aW P w K mg base k "_law_cell_at" ["_law_script","_law_k"] (T8 K))(bx:aW P w K mg base k "_law_mixed" ["_law_cell","_law_k"] (W2 K)):au P w K mg base aP (k+1) f fd ["_law_script","_law_at","_law_names","_law_depth"] (zHr K):=by
 refine yK F m_ (λ_=>rfl) (λ_=>rfl) λcdv A outer s H E hr=>?_
 have nd:=m_.nd
 refine⟨_,(zB (yQ 4 nd (zU bx hr (zA (zU aF hr (zA (pv 0) (zA (pv 1) zF))) (zA (pv 1) zF)))) (zB (yQ 5 nd (xY (zA yN (zA yN (zA yN (zA yN (zA yN (zA yN (zA yN zF))))))))) (zB (yQ 6 nd (xY (zA yN (zA yN (zA yN (zA yN zF)))))) (zB (yQ 7 nd (zZ xJ (pv 4) zM)) (zB (xD (PW.pt (pw_or (yD (wG K Int hr) (pv 3) zM (yZ _)) (pw_or1 (yD (wG K Int hr) (pv 7) zM (yZ _))))) (zB (xD (PW.pt (pw_or (yD (wG K Int hr) (zZ xJ (zZ xN (pv 4) zM) zM) zM (yZ _)) (pw_or1 (yD (wG K Int hr) (zR (wL K) rfl B.len abd (zA (pv 2) zF)) zM (yZ _))))) (zB (zQ yN) zI) zI) (zB (zQ (xC (aX K) (pv 2) (zZ xJ (zZ xN (pv 4) zM) (zR (wL K) rfl B.len abd (zA (pv 2) zF))) (λ_ _=>rfl))) zI)) zI) (zB (xD (yD S6 (pv 7) zM (yZ _)) (zB (zQ (xC (aX K) (pv 5) (zZ xJ (zZ xN (pv 4) zM) zM) (λ_ _=>rfl))) zI) zI) (zB (zQ (xC (aX K) (pv 6) (zZ xJ (zZ xN (pv 4) zM) zM) (λ_ _=>rfl))) zI))))))),?_⟩
 rintro Fa ⟨q0,q1,q2,q3,⟨⟩⟩
 exact SB.of (zO (yC true 4 rfl rfl (esc (zK (zD (esc (zK (zD (zE 0 rfl) (zD (esc (zH 1 rfl)) zN)))) (zD (esc (zH 1 rfl)) zN))))) (λrY=>(zO (yC true 5 rfl rfl (Ed (yU (esc (yY "not")) (yU (esc (yY "somenext")) (yU (esc (yY "eachnext")) (yU (esc (yY "somealways")) (yU (esc (yY "eachalways")) (yU (esc (yY "someever")) (yU (esc (yY "eachever")) Ec))))))) (λa h=>aa4 ((xM (xM (xM (xM (xM (xM (xM Ek))))))) a h) (by decide))).ex) (λzc=>(zO (yC true 6 rfl rfl (Ed (yU (esc (yY "both")) (yU (esc (yY "either")) (yU (esc (yY "sometill")) (yU (esc (yY "eachtill")) Ec)))) (λa h=>aa4 ((xM (xM (xM (xM Ek)))) a h) (by decide))).ex) (λzf=>(zO (yC true 7 rfl rfl (esc (xK (zH 4 rfl) (zL 5)))) (λQW=>(xP (KJ (yG (md:=.hp) (wH (zH 3 rfl) (zL 0))) (yG (md:=.hp) (wH (zH 7 rfl) (zL 0)))) (xP (KJ (yG (md:=.hp) (wH (xK (vD (zH 4 rfl) (zL 5)) (zL 8)) (zL 0))) (yG (md:=.hp) (wH (wO (zE 2 rfl)) (zL 0)))) (zV (esc (yY "all"))) (zV (esc (esc (xL (zE 2 rfl) (xK (vD (zH 4 rfl) (zL 40)) (wO (zE 2 rfl)))))))) (xP (yG (md:=.hp) (Vq (zH 7 rfl) (zL 3))) (zV (esc (esc (xL (zE 5 rfl) (xK (vD (zH 4 rfl) (zL 5)) (zL 7)))))) (zV (esc (esc (xL (zE 6 rfl) (xK (vD (zH 4 rfl) (zL 5)) (zL 4)))))))))))))))) (by unfold W_;simp only[bnd])
def Ua(q0:Str)(q1:bR cl)(q2:bR cl):Option (bR cl):=if(decide (q0=("not":Str)))=true then some ((bR.mk (.one 0 q1.t):bR cl)) else if(decide (q0=("both":Str)))=true then some ((bR.mk (.two 0 q1.t q2.t):bR cl)) else if(decide (q0=("either":Str)))=true then some ((bR.mk (.two 1 q1.t q2.t):bR cl)) else if(decide (q0=("somenext":Str)))=true then some ((bR.mk (.one 1 q1.t):bR cl)) else if(decide (q0=("eachnext":Str)))=true then some ((bR.mk (.one 2 q1.t):bR cl)) else if(decide (q0=("sometill":Str)))=true then some ((bR.mk (.two 2 q1.t q2.t):bR cl)) else if(decide (q0=("eachtill":Str)))=true then some ((bR.mk (.two 3 q1.t q2.t):bR cl)) else if(decide (q0=("somealways":Str)))=true then some ((bR.mk (.one 3 q1.t):bR cl)) else if(decide (q0=("eachalways":Str)))=true then some ((bR.mk (.one 4 q1.t):bR cl)) else if(decide (q0=("someever":Str)))=true then some ((bR.mk (.one 5 q1.t):bR cl)) else some ((bR.mk (.one 6 q1.t):bR cl))
theorem rZ:ak ["_law_word","_law_left","_law_right"] ["_law_word","_law_left","_law_right"] (zJ qb):=fsc
abbrev zO8(K:Frag)(cl:Hd->Addr):Sp:=bW K true (λa:Str×(bR cl)×(bR cl)×Unit=>([.z a.1,.z a.2.1,.z a.2.2.1]:SL K)) (λa=>Ua a.1 a.2.1 a.2.2.1)
theorem zSw{k:Nat}{cl:Hd->Addr}{f:Addr}{fd:FuncData}(F:aY K "_law_made" "_law_made" qb f fd)(B:Bl K mg){kS:Nat}{fi:Hd->Addr}{di:Hd->FuncData}(I:qX P w K mg base kS cl fi di)(hS:kS+1<=k):au P w K mg base aP (k+1) f fd ["_law_word","_law_left","_law_right"] (zO8 K cl):=by
 refine yK F rZ (λ_=>rfl) (λ_=>rfl) λcdv A outer s H E hr=>?_
 have nd:=rZ.nd
 refine⟨_,(zB (xD (yD (wG K Str hr) (pv 0) yN (yZ _)) (zB (zQ (uO (I.ini.made (.one 0)) (I.ini.i1 0) (hr.mono hS) rfl (I.ini.m1 0) (I.ini.b1 0) .nil vV (zA (pv 1) zF))) zI) zI) (zB (xD (yD (wG K Str hr) (pv 0) yN (yZ _)) (zB (zQ (uO (I.ini.made (.two 0)) (I.ini.i2 0) (hr.mono hS) rfl (I.ini.m2 0) (I.ini.b2 0) .nil vV (zA (pv 1) (zA (pv 2) zF)))) zI) zI) (zB (xD (yD (wG K Str hr) (pv 0) yN (yZ _)) (zB (zQ (uO (I.ini.made (.two 1)) (I.ini.i2 1) (hr.mono hS) rfl (I.ini.m2 1) (I.ini.b2 1) .nil vV (zA (pv 1) (zA (pv 2) zF)))) zI) zI) (zB (xD (yD (wG K Str hr) (pv 0) yN (yZ _)) (zB (zQ (uO (I.ini.made (.one 1)) (I.ini.i1 1) (hr.mono hS) rfl (I.ini.m1 1) (I.ini.b1 1) .nil vV (zA (pv 1) zF))) zI) zI) (zB (xD (yD (wG K Str hr) (pv 0) yN (yZ _)) (zB (zQ (uO (I.ini.made (.one 2)) (I.ini.i1 2) (hr.mono hS) rfl (I.ini.m1 2) (I.ini.b1 2) .nil vV (zA (pv 1) zF))) zI) zI) (zB (xD (yD (wG K Str hr) (pv 0) yN (yZ _)) (zB (zQ (uO (I.ini.made (.two 2)) (I.ini.i2 2) (hr.mono hS) rfl (I.ini.m2 2) (I.ini.b2 2) .nil vV (zA (pv 1) (zA (pv 2) zF)))) zI) zI) (zB (xD (yD (wG K Str hr) (pv 0) yN (yZ _)) (zB (zQ (uO (I.ini.made (.two 3)) (I.ini.i2 3) (hr.mono hS) rfl (I.ini.m2 3) (I.ini.b2 3) .nil vV (zA (pv 1) (zA (pv 2) zF)))) zI) zI) (zB (xD (yD (wG K Str hr) (pv 0) yN (yZ _)) (zB (zQ (uO (I.ini.made (.one 3)) (I.ini.i1 3) (hr.mono hS) rfl (I.ini.m1 3) (I.ini.b1 3) .nil vV (zA (pv 1) zF))) zI) zI) (zB (xD (yD (wG K Str hr) (pv 0) yN (yZ _)) (zB (zQ (uO (I.ini.made (.one 4)) (I.ini.i1 4) (hr.mono hS) rfl (I.ini.m1 4) (I.ini.b1 4) .nil vV (zA (pv 1) zF))) zI) zI) (zB (xD (yD (wG K Str hr) (pv 0) yN (yZ _)) (zB (zQ (uO (I.ini.made (.one 5)) (I.ini.i1 5) (hr.mono hS) rfl (I.ini.m1 5) (I.ini.b1 5) .nil vV (zA (pv 1) zF))) zI) zI) (zB (zQ (uO (I.ini.made (.one 6)) (I.ini.i1 6) (hr.mono hS) rfl (I.ini.m1 6) (I.ini.b1 6) .nil vV (zA (pv 1) zF))) zI))))))))))),?_⟩
 rintro Fa ⟨q0,q1,q2,⟨⟩⟩
 exact SB.of (xP (yG (md:=.hp) (wH (zH 0 rfl) (yY "not"))) (zV (Qc 0 (yF 1 rfl))) (xP (yG (md:=.hp) (wH (zH 0 rfl) (yY "both"))) (zV (Y6 0 (yF 1 rfl) (yF 2 rfl))) (xP (yG (md:=.hp) (wH (zH 0 rfl) (yY "either"))) (zV (Y6 1 (yF 1 rfl) (yF 2 rfl))) (xP (yG (md:=.hp) (wH (zH 0 rfl) (yY "somenext"))) (zV (Qc 1 (yF 1 rfl))) (xP (yG (md:=.hp) (wH (zH 0 rfl) (yY "eachnext"))) (zV (Qc 2 (yF 1 rfl))) (xP (yG (md:=.hp) (wH (zH 0 rfl) (yY "sometill"))) (zV (Y6 2 (yF 1 rfl) (yF 2 rfl))) (xP (yG (md:=.hp) (wH (zH 0 rfl) (yY "eachtill"))) (zV (Y6 3 (yF 1 rfl) (yF 2 rfl))) (xP (yG (md:=.hp) (wH (zH 0 rfl) (yY "somealways"))) (zV (Qc 3 (yF 1 rfl))) (xP (yG (md:=.hp) (wH (zH 0 rfl) (yY "eachalways"))) (zV (Qc 4 (yF 1 rfl))) (xP (yG (md:=.hp) (wH (zH 0 rfl) (yY "someever"))) (zV (Qc 5 (yF 1 rfl))) (zV (Qc 6 (yF 1 rfl))))))))))))) (by unfold Ua;simp only[bnd])
def uN(cl:Hd->Addr)(rec:mq->Int->(List Str)->Int->Option ((bR cl)×Int))(q0:mq)(q1:Int)(q2:List Str)(q3:Int):Option ((bR cl)×Int):=(W_ q0 q1 q2 q3).bind λoE=>if(decide (oE=("all":Str)))=true then some (((bR.mk .all:bR cl),q1+(1:Int))) else if(decide (oE∈q2))=true then some (((bR.mk (.mark oE):bR cl),q1+(1:Int))) else(rec q0 (q1+(1:Int)) q2 (q3-(1:Int))).bind λv2=>(some v2.1).bind λBc=>(if(decide (oE∈([("both":Str),("either":Str),("sometill":Str),("eachtill":Str)])))=true then(rec q0 v2.2 q2 (q3-(1:Int))).bind λv6=>some (v6.1,v6.2) else some (Bc,v2.2)).bind λs4=>(Ua oE v2.1 s4.1).bind λa7=>some (a7,s4.2)
def vP(cl:Hd->Addr):Nat->mq->Int->(List Str)->Int->Option ((bR cl)×Int)
 |0=>λ_ _ _ _=>none
 |n+1=>uN cl (vP cl n)
theorem jZ:ak ["_law_script","_law_at","_law_names","_law_depth","_law_word","_law_left","_law_right"] ["_law_script","_law_at","_law_names","_law_depth"] (zJ gF):=fsc
abbrev Zk(K:Frag)(cl:Hd->Addr)(rec:mq->Int->(List Str)->Int->Option ((bR cl)×Int)):Sp:=bW K false (λa:mq×Int×(List Str)×Int×Unit=>([.z a.1,.z a.2.1,.z a.2.2.1,.z a.2.2.2.1]:SL K)) (λa=>rec a.1 a.2.1 a.2.2.1 a.2.2.2.1)
abbrev zEr(K:Frag)(cl:Hd->Addr):Sp:=Zk K cl (vP cl 5 )
theorem zH2{k:Nat}{cl:Hd->Addr}{f:Addr}{fd:FuncData}(F:aY K "_law_saying_by" "_law_saying_by" gF f fd)(B:Bl K mg){kS:Nat}{fi:Hd->Addr}{di:Hd->FuncData}(I:qX P w K mg base kS cl fi di)(hS:kS+1<=k)(qK:aW P w K mg base k "_law_made" ["_law_word","_law_left","_law_right"] (zO8 K cl)){rec:mq->Int->(List Str)->Int->Option ((bR cl)×Int)}(cu:aW P w K mg base k "_law_saying_by" ["_law_script","_law_at","_law_names","_law_depth"] (Zk K cl rec))(j4:aW P w K mg base k "_law_word_at" ["_law_script","_law_at","_law_names","_law_depth"] (zHr K)):au P w K mg base aP (k+1) f fd ["_law_script","_law_at","_law_names","_law_depth"] (Zk K cl (uN cl rec)):=by
 refine yK F jZ (λ_=>rfl) (λ_=>rfl) λcdv A outer s H E hr=>?_
 have nd:=jZ.nd
 refine⟨_,(zB (yQ 4 nd (zU j4 hr (zA (pv 0) (zA (pv 1) (zA (pv 2) (zA (pv 3) zF)))))) (zB (xD (yD (wG K Str hr) (pv 4) yN (yZ _)) (zB (zQ (vo (zA (zWm (I.ini.made .all) I.ini.iA (hr.mono hS) rfl I.ini.mA I.ini.bA .nil vV) (zA (zZ vZ (pv 1) zM) zF)))) zI) zI) (zB (xD (yD (Ih K) (pv 4) (pv 2) (by with_unfolding_all rfl)) (zB (zQ (vo (zA (uO (I.ini.made .mark) I.ini.iM (hr.mono hS) rfl I.ini.mM I.ini.bM .nil vV (zA (pv 4) zF)) (zA (zZ vZ (pv 1) zM) zF)))) zI) zI) (zB (G8 (zU cu hr (zA (pv 0) (zA (zZ vZ (pv 1) zM) (zA (pv 2) (zA (zZ XS (pv 3) zM) zF))))) (C_ rfl (yH (bI 5 nd) (yH (bI 1 nd) vC)))) (zB (yQ 6 nd (pv 5)) (zB (xD (yD (Ih K) (pv 4) (xY (zA yN (zA yN (zA yN (zA yN zF))))) (by with_unfolding_all rfl)) (zB (G8 (zU cu hr (zA (pv 0) (zA (pv 1) (zA (pv 2) (zA (zZ XS (pv 3) zM) zF))))) (C_ rfl (yH (bI 6 nd) (yH (bI 1 nd) vC)))) zI) zI) (zB (zQ (vo (zA (zU qK hr (zA (pv 4) (zA (pv 5) (zA (pv 6) zF)))) (zA (pv 1) zF)))) zI))))))),?_⟩
 rintro Fa ⟨q0,q1,q2,q3,⟨⟩⟩
 exact SB.of (zO (yC true 4 rfl rfl (esc (zK (zD (zE 0 rfl) (zD (esc (zH 1 rfl)) (zD (zE 2 rfl) (zD (esc (zH 3 rfl)) zN))))))) (λoE=>(xP (yG (md:=.hp) (wH (zH 4 rfl) (yY "all"))) (zV (Ef (Je (cl:=cl)) (uA (zH 1 rfl) (zL 1)))) (xP (yG (md:=.hp) (KY (zH 4 rfl) (zE 2 rfl))) (zV (Ef (Jf (cl:=cl) (esc (zH 4 rfl))) (uA (zH 1 rfl) (zL 1)))) (zO (YS (n:=true) (zK (zD (zE 0 rfl) (zD (esc (uA (zH 1 rfl) (zL 1))) (zD (zE 2 rfl) (zD (esc (Ym (zH 3 rfl) (zL 1))) zN))))) (z_ 5 1 rfl rfl (λ_=>rfl) rfl)) (λv2=>(zO (yC true 6 rfl rfl (yF 5 rfl)) (λBc=>(zO (rE (yG (md:=.hp) (KY (zH 4 rfl) (Ed (yU (esc (yY "both")) (yU (esc (yY "either")) (yU (esc (yY "sometill")) (yU (esc (yY "eachtill")) Ec)))) (λa h=>aa4 ((xM (xM (xM (xM Ek)))) a h) (by decide))).ex)) (zP (YS (n:=true) (zK (zD (zE 0 rfl) (zD (esc (zH 1 rfl)) (zD (zE 2 rfl) (zD (esc (Ym (zH 3 rfl) (zL 1))) zN))))) (z_ 6 1 rfl rfl (λ_=>rfl) rfl)) (λv6=>(yA (λs5:(bR cl)×Int=>([.z q0,.y s5.2,.z q2,.z q3,.y oE,.y v2.1,.y s5.1]:SL K)) (v6.1,v6.2) bw))) (yA (λs5:(bR cl)×Int=>([.z q0,.y s5.2,.z q2,.z q3,.y oE,.y v2.1,.y s5.1]:SL K)) (Bc,v2.2) bw)) (λs4=>(zV (Ef (zXp (zD (esc (zH 4 rfl)) (zD (yF 5 rfl) (zD (yF 6 rfl) zN)))) (zH 1 rfl))))))))))))) (by unfold uN;simp only[bnd])
def QX(q0:LI)(q1:Int):Option Bool:=if(!true)=true then some false else(some (-(1:Int))).bind λFZ=>((some q0).bind λxs=>oJ (λ(s2:Int) (x4:Int)=>(if(!true)=true then some true else if false=true then some true else if(decide (x4<=s2))=true then some true else some (decide (q1<=x4))).bind λb=>if b=true then(some false).bind λb=>some (.rt b) else(some x4).bind λGa=>some (.nx Ga)) xs FZ).bind λo=>o.els λs3=>some true
theorem zj:ak ["_law_found","_law_many","_law_last","_law_stand"] ["_law_found","_law_many"] (zJ tM):=fsc
abbrev zVb(K:Frag):Sp:=bW K false (λa:LI×Int×Unit=>([.z a.1,.z a.2.1]:SL K)) (λa=>QX a.1 a.2.1)
theorem zWu(F:aY K "_law_set" "_law_set" tM f fd)(B:Bl K mg):au P w K mg base aP (k+1) f fd ["_law_found","_law_many"] (zVb K):=by
 refine yK F zj (λ_=>rfl) (λ_=>rfl) λcdv A outer s H E hr=>?_
 have nd:=zj.nd
 refine⟨_,(zB (xD (M8 (vR (zR (uY K (S8 (n:="list"))) rfl B.rG uZ (zA (pv 0) (zA (Ss (v:=.ty "list") rfl B.list KZ rfl) zF))))) (zB (zQ Dt) zI) zI) (zB (yQ 2 nd (SQ S5 zM)) (zB (xG aa3 rfl (yS K (pv 0)) (bI 3 nd) (zB (xD (PW.pt (pw_or (M8 (vR (zR (uY K (S8 (n:="int"))) rfl B.rG uZ (zA (pv 3) (zA (Ss (v:=.ty "int") rfl B.int zUy rfl) zF))))) (pw_or (vR (zR (uY K (S8 (n:="bool"))) rfl B.rG uZ (zA (pv 3) (zA (Ss (v:=.ty "bool") rfl B.bool zUz rfl) zF)))) (pw_or (yD X4 (pv 3) (pv 2) (yZ _)) (pw_or1 (yD UG (pv 3) (pv 1) (yZ _))))))) (zB (zQ Dt) zI) zI) (zB (yQ 2 nd (pv 3)) zI))) (zB (zQ Dt) zI)))),?_⟩
 rintro Fa ⟨q0,q1,⟨⟩⟩
 exact SB.of (xP (Oi (cZ (md:=.hp) (Tc B.ll rfl (zE 0 rfl)))) (zV (esc (Eb false))) (zO (yC true 2 rfl rfl (esc (Tf (zL 1)))) (λFZ=>(Ye (Vj (n:=false) (L:=(λs2:Int=>([.z q0,.z q1,.y s2,.un]:SL K))) FZ bw (yV (yF 0 rfl)) (λs2=>(yL 3 rfl rfl)) (λs2 x4=>(Yg (KJ (Oi (cZ (md:=.hp) (Tc B.ii rfl (zH 3 rfl)))) (KJ (cZ (md:=.hp) (Tc B.ib rfl (zH 3 rfl))) (KJ (yG (md:=.hp) (Vr (zH 3 rfl) (zH 2 rfl))) (yG (md:=.hp) (Vs (zH 3 rfl) (zH 1 rfl)))))) (zV (esc (Eb false))) (zRq (yC true 2 rfl rfl (esc (zH 3 rfl))) (λGa=>(Vi (λs2:Int=>([.z q0,.z q1,.y s2,.un]:SL K)) Ga bw)))))) (λs3=>(zV (esc (Eb true)))))))) (by unfold QX;simp only[bnd])
end
open PySem L2
structure Gr{C:Addr}(m:aq C)(n:Int):Prop where
 len:(m.steps.length:Int)=n
 pos:1<=n
 few:n<=60
 row:∀xs∈m.steps,xs≠[]/\xs.Nodup/\∀z∈xs,0<=z/\z<n
 src:m.sources=srcs m.steps
def nxt(xss:List LI)(s:Int):LI:=xss.getD s.toNat []
theorem JC:x∈src xss j↔0<=x/\x<(xss.length:Int)/\(j:Int)∈nxt xss x:=by
 unfold src nxt
 grind
theorem Zm{C:Addr}{m:aq C}(g:Gr m n):xQ m=some n:=by
 unfold xQ
 rw[g.len]
theorem zVn{C:Addr}{m:aq C}(g:Gr m n)(h0:0<=s)(h1:s<n):W (wZ m s) λxs=>∀x,x∈xs↔0<=x/\x<n/\s∈nxt m.steps x:=by
 unfold wZ
 rw[dz h0,g.src]
 have a:=g.len
 refine⟨_,zRt (by lia),λx=>?_⟩
 rw[JC,a,show((s.toNat:Nat):Int)=s by lia]
theorem zJu{α:Type}{xs:List α}{a d:α}(h:i<xs.length):(xs.set i a).getD j d=if j=i then a else xs.getD j d:=by
 grind
theorem zRa{C:Addr}{m:aq C}(g:Gr m n)(k:∀x∈xs,0<=x/\x<n):W (TY m xs) λa=>(a.length:Int)=n/\∀s:Int,0<=s->s<n->a.getD s.toNat false=decide (s∈xs):=by
 unfold TY
 have hp:=g.pos
 have hf:=g.few
 simp only[zC,aj,Zm g,uG]
 refine⟨⟨by lia,by omega⟩,?_⟩
 rw[Gv (λ_=>false)]
 have e:=Te (n:=n) (by lia)
 refine⟨yT (by lia),vE (λi a=>(a.length:Int)=n/\∀s:Int,0<=s->s<n->a.getD s.toNat false=decide (s∈xs.take i)) ⟨by rw[length_map];exact e,λs _ _=>?_⟩ (λi x a f b=>?_) λa b=>?_⟩
 ·rw[getD_eq_getElem?_getD,getElem?_map]
  cases(rng n)[s.toNat]?<;>simp
 ·have c:=k x (mem_of_getElem? f)
  simp only[zC,aj]
  rw[VD c.1 (by lia)]
  refine⟨by rw[length_set];exact b.1,λs j h=>?_⟩
  rw[zJu (by lia)]
  have d:xs.take (i+1)=xs.take i++[x]:=by rw[take_add_one,f]<;>rfl
  by_cases q:s.toNat=x.toNat
  ·have:s=x:=by lia
   subst this
   rw[if_pos rfl,d];simp
  ·have:s≠x:=λz=>q (by rw[z])
   rw[if_neg q,b.2 s j h,d]
   simp[this]
 ·rw[take_length] at b
  exact b
abbrev dg(d:List (Option Int))(s:Int):Option Int:=d.getD s.toNat none
structure Bd(xss:List LI)(through goal:LI)(n:Int)(d:List (Option Int)):Prop where
 len:(d.length:Int)=n
 pos:∀s k,0<=s->s<n->dg d s=some k->0<=k/\k<n
 zero:∀s,0<=s->s<n->(dg d s=some 0↔s∈goal)
 via:∀s k,0<=s->s<n->dg d s=some k->s∉goal->s∈through/\∃t∈nxt xss s,0<=t/\t<n/\dg d t=some (k-1)
 near:∀s t k,0<=s->s<n->0<=t->t<n->s∈through->t∈nxt xss s->dg d t=some k->∃j,dg d s=some j/\j<=k+1
structure Bf(xss:List LI)(pass:Int->Prop)(goal:LI)(n:Int)(d:List (Option Int))(row:LI)(place:Nat):Prop where
 len:(d.length:Int)=n
 rng:∀s∈row,0<=s/\s<n
 nd:row.Nodup
 iff:∀s:Int,0<=s->s<n->((dg d s).isSome=true↔s∈row)
 idx:∀(i:Nat)(s:Int),row[i]?=some s->∃k:Int,dg d s=some k/\0<=k/\k<=i
 mono:∀(i j:Nat)(s t k l:Int),i<=j->row[i]?=some s->row[j]?=some t->dg d s=some k->dg d t=some l->k<=l
 top:∀(j:Nat)(s t k l:Int),row[place]?=some s->row[j]?=some t->dg d s=some k->dg d t=some l->l<=k+1
 zero:∀s:Int,0<=s->s<n->(dg d s=some 0↔s∈goal)
 via:∀(s k:Int),s∈row->dg d s=some k->s∉goal->pass s/\∃t∈nxt xss s,0<=t/\t<n/\dg d t=some (k-1)
 done:∀(i:Nat)(s t k:Int),i<place->row[i]?=some t->dg d t=some k->0<=s->s<n->pass s->t∈nxt xss s->∃j,dg d s=some j/\j<=k+1
theorem zUk{d:List (Option Int)}(hl:(d.length:Int)=n)(h0:0<=s)(h1:s<n)(t0:0<=t):dg (d.set s.toNat v) t=if t=s then v else dg d t:=by
 grind
theorem Ub{a:LI}{i:Nat}{s x:Int}(h:(a++[x])[i]?=some s):a[i]?=some s\/(i=a.length/\s=x):=by
 grind
structure Bm(xss:List LI)(pass:Int->Prop)(goal:LI)(n:Int)(d:List (Option Int))(row:LI)(place:Nat)(t k:Int)(seen:LI):Prop where
 bf:Bf xss pass goal n d row place
 at_:row[place]?=some t
 k_:dg d t=some k
 BL:∀s∈seen,pass s->∃j,dg d s=some j/\j<=k+1
theorem Bm.put(b:Bm xss F goal n d A place t k P)(r:0<=x)(C:x<n)(hp:F x)(I:dg d x=none)(ht:t∈nxt xss x) :
  Bm xss F goal n (d.set x.toNat (some (k+1))) (A++[x]) place t k (P++[x]):=by
 have B:=b.bf
 have L:=B.rng t (mem_of_getElem? b.at_)
 have R:x∉A:=λh=>by have:=(B.iff x r C).mpr h;rw[I] at this;cases this
 have X:t≠x:=λe=>R (e▸mem_of_getElem? b.at_)
 obtain⟨k',e1,k0,kp⟩:=B.idx place t b.at_
 rw[b.k_] at e1
 cases e1
 have pl:=xB b.at_
 have f:∀s:Int,0<=s->s≠x->dg (d.set x.toNat (some (k+1))) s=dg d s:=λs p q=>by rw[zUk B.len r C p,if_neg q]
 have g:dg (d.set x.toNat (some (k+1))) x=some (k+1):=by rw[zUk B.len r C r,if_pos rfl]
 have y:∀{i:Nat}{s:Int},A[i]?=some s->0<=s/\s<n/\s≠x:=λh=>by
  have:=B.rng _ (mem_of_getElem? h)
  exact⟨this.1,this.2,λe=>R (e▸mem_of_getElem? h)⟩
 refine⟨⟨by rw[length_set];exact B.len,λs J=>?_,?_,λs p H=>?_,λi s h=>?_,λi j s u a l ij o m G v=>?_,λj s u a l o m G v=>?_,λs p H=>?_,λs a J o m=>?_,λi s u a hi o m p H U hu=>?_⟩,?_,?_,λs J U=>?_⟩
 ·rcases mem_append.mp J with q|q
  ·exact B.rng s q
  ·rw[mem_singleton.mp q];exact⟨r,C⟩
 ·rw[nodup_append]
  exact⟨B.nd,by simp,λa ha c hc e=>by rw[mem_singleton.mp hc] at e;exact R (e▸ha)⟩
 ·by_cases e:s=x
  ·subst e;rw[g];simp
  ·rw[f s p e,B.iff s p H];simp[e]
 ·rcases Ub h with h|⟨rfl,rfl⟩
  ·obtain⟨Z,a2,S⟩:=y h
   rw[f s Z S];exact B.idx i s h
  ·exact⟨k+1,g,by lia,by omega⟩
 ·rcases Ub o with T|⟨rfl,rfl⟩
  ·obtain⟨Z,a2,S⟩:=y T
   rw[f s Z S] at G
   rcases Ub m with g2|⟨rfl,rfl⟩
   ·obtain⟨K,b2,O⟩:=y g2
    rw[f u K O] at v
    exact B.mono i j s u a l ij T g2 G v
   ·rw[g] at v
    cases v
    exact B.top i t s k a b.at_ T b.k_ G
  ·rcases Ub m with m|⟨rfl,rfl⟩
   ·have:=xB m;lia
   ·rw[G] at v;cases v;exact ace _
 ·have D:s=t:=by
   rcases Ub o with o|⟨e,_⟩
   ·rw[b.at_] at o;exact(abf o).symm
   ·lia
  subst D
  rw[f s L.1 X,b.k_] at G
  cases G
  rcases Ub m with m|⟨rfl,rfl⟩
  ·obtain⟨K,b2,O⟩:=y m
   rw[f u K O] at v
   exact B.top j s u k l b.at_ m b.k_ v
  ·rw[g] at v;cases v;exact ace _
 ·by_cases e:s=x
  ·subst e
   rw[g]
   constructor
   ·intro q;have q:=abf q;lia
   ·intro q;have:=(B.zero s p H).mpr q;rw[I] at this;cases this
  ·rw[f s p e];exact B.zero s p H
 ·rcases mem_append.mp J with q|q
  ·have sr:=B.rng s q
   have sx:s≠x:=λe=>R (e▸q)
   rw[f s sr.1 sx] at o
   obtain⟨p1,u,u1,u2,u3,Y⟩:=B.via s a q o m
   refine⟨p1,u,u1,u2,u3,?_⟩
   rw[f u u2 λe=>by rw[e,I] at Y;cases Y]
   exact Y
  ·have:=mem_singleton.mp q
   subst this
   rw[g] at o
   cases o
   exact⟨hp,t,ht,L.1,L.2,by rw[f t L.1 X,b.k_,show k+1-1=k by lia]⟩
 ·have D:A[i]?=some u:=by rw[getElem?_append_left (by lia)] at o;exact o
  obtain⟨K,b2,O⟩:=y D
  rw[f u K O] at m
  obtain⟨j,E,Q⟩:=B.done i s u a hi D m p H U hu
  by_cases e:s=x
  ·subst e;rw[I] at E;cases E
  ·exact⟨j,by rw[f s p e];exact E,Q⟩
 ·rw[getElem?_append_left pl];exact b.at_
 ·rw[f t L.1 X];exact b.k_
 ·rcases mem_append.mp J with q|q
  ·obtain⟨j,E,Q⟩:=b.BL s q U
   by_cases e:s=x
   ·subst e;rw[I] at E;cases E
   ·by_cases p:0<=s
    ·exact⟨j,by rw[f s p e];exact E,Q⟩
    ·refine⟨j,?_,Q⟩
     show(d.set x.toNat (some (k+1))).getD s.toNat none=some j
     have z:s.toNat=0:=by lia
     rw[zJu (by have:=B.len;lia)]
     by_cases w:s.toNat=x.toNat
     ·have xz:x=0:=by lia
      have M:d.getD s.toNat none=some j:=E
      have N:d.getD x.toNat none=none:=I
      rw[w] at M
      rw[M] at N
      cases N
     ·rw[if_neg w];exact E
  ·rw[mem_singleton.mp q];exact⟨k+1,g,ace _⟩
theorem zMe{C:Addr}{m:aq C}(g:Gr m n){goal:LI}(ht:∀x∈through,0<=x/\x<n)(F:goal.Nodup/\∀x∈goal,0<=x/\x<n):W (Wv m through goal) (Bd m.steps through goal n):=by
 unfold Wv
 have hp:=g.pos
 have hf:=g.few
 simp only[zC,aj,Zm g,uG]
 refine(zRa g ht).imp λfl ⟨fl1,fl2⟩=>⟨⟨by lia,by omega⟩,?_⟩
 rw[Gv (λ_=>(none:Option Int))]
 have e:=Te (n:=n) (by lia)
 refine⟨yT (by lia),vE (λi (d:List (Option Int))=>(d.length:Int)=n/\∀s:Int,0<=s->s<n->dg d s=if s∈goal.take i then some 0 else none) ⟨by rw[length_map];exact e,λs _ _=>?_⟩ (λi x d p hI=>?_) λd L=>?_⟩
 ·show(List.map (λ_=>(none:Option Int)) (rng n)).getD s.toNat none=_
  rw[getD_eq_getElem?_getD,getElem?_map]
  cases(rng n)[s.toNat]?<;>simp
 ·have c:=F.2 x (mem_of_getElem? p)
  simp only[zC,aj]
  rw[VD c.1 (by lia)]
  refine⟨by rw[length_set];exact hI.1,λs I J=>?_⟩
  have tk:goal.take (i+1)=goal.take i++[x]:=by rw[take_add_one,p]<;>rfl
  rw[zUk hI.1 c.1 c.2 I,hI.2 s I J,tk]
  by_cases q:s=x<;>simp[q]
 rw[take_length] at L
 have U:Bf m.steps (· ∈ through) goal n d goal 0:=by
  have z:∀s:Int,0<=s->s<n->∀k,dg d s=some k->k=0/\s∈goal:=λs I J k h=>by
   rw[L.2 s I J] at h
   split at h
   ·rename_i q;cases h;exact⟨rfl,q⟩
   ·cases h
  refine⟨L.1,F.2,F.1,λs I J=>?_,λi s h=>?_,λi j s t k l _ w o X Q=>?_,λj s t k l w o X Q=>?_,λs I J=>?_,λs k A w o=>absurd A o,λi s t k p=>by omega⟩
  ·rw[L.2 s I J];by_cases q:s∈goal<;>simp[q]
  ·have A:=mem_of_getElem? h
   have:=F.2 s A
   exact⟨0,by rw[L.2 s this.1 this.2,if_pos A],ace _,by omega⟩
  ·have S:=F.2 s (mem_of_getElem? w)
   have Y:=F.2 t (mem_of_getElem? o)
   have:=(z s S.1 S.2 k X).1
   have:=(z t Y.1 Y.2 l Q).1
   lia
  ·have S:=F.2 s (mem_of_getElem? w)
   have Y:=F.2 t (mem_of_getElem? o)
   have:=(z s S.1 S.2 k X).1
   have:=(z t Y.1 Y.2 l Q).1
   lia
  ·rw[L.2 s I J];by_cases q:s∈goal<;>simp[q]
 have O:n.toNat<=60:=by lia
 refine zU5 (λs=>∃f:Nat,s.2.2=(f:Int)/\Bf m.steps (· ∈ through) goal n s.1 s.2.1 f) (λs=>n.toNat-s.2.2.toNat) ⟨0,rfl,U⟩ (show n.toNat-(0:Int).toNat<fuel from aa1 (Nat.sub_le _ _) (aa1 O (by decide))) ?_
 rintro s ⟨f,hpl,B⟩
 rw[aj]
 have rl:s.2.1.length<=n.toNat:=wC B.nd λx c=>by have:=B.rng x c;lia
 by_cases lt:s.2.2<(s.2.1.length:Int)
 ·rw[decide_eq_true lt,if_pos rfl]
  simp only[zC,aj]
  rw[dz (by lia)]
  have N:f<s.2.1.length:=by lia
  have e1:s.2.2.toNat=f:=by lia
  rw[e1]
  refine⟨_,aax N,?_⟩
  have D:s.2.1[f]?=some s.2.1[f]:=aax N
  generalize s.2.1[f]=t at D
  have tr:=B.rng t (mem_of_getElem? D)
  obtain⟨k,hk,k0,k1⟩:=B.idx f t D
  refine(zVn g tr.1 tr.2).imp λxs P=>?_
  refine vE (λi (r:List (Option Int)×LI)=>Bm m.steps (· ∈ through) goal n r.1 r.2 f t k (xs.take i)) ⟨B,D,hk,λs A=>by cases A⟩ (λi x r p b=>?_) λr b=>?_
  ·have c:=(P x).mp (mem_of_getElem? p)
   have tk:xs.take (i+1)=xs.take i++[x]:=by rw[take_add_one,p]<;>rfl
   rw[tk]
   simp only[zC,aj]
   rw[dz c.1]
   have fx:=fl2 x c.1 c.2.1
   have T:x.toNat<fl.length:=by lia
   refine⟨_,aax T,?_⟩
   rw[getD_eq_getElem?_getD,aax T] at fx
   have fx:fl[x.toNat]=decide (x∈through):=fx
   rw[fx]
   have dl:x.toNat<r.1.length:=by have:=b.bf.len;lia
   have dx:dg r.1 x=r.1[x.toNat]:=by show r.1.getD x.toNat none=_;rw[getD_eq_getElem?_getD,aax dl];rfl
   by_cases px:x∈through
   ·rw[decide_eq_true px,if_pos rfl,zC,dz c.1]
    refine⟨_,aax dl,?_⟩
    rw[<-dx,aj]
    cases E:dg r.1 x with
    |none =>
     simp only[Option.isNone_none,if_true,zC,aj]
     have R:t.toNat<r.1.length:=by have:=b.bf.len;lia
     rw[dz tr.1]
     refine⟨_,aax R,?_⟩
     have ek:r.1[t.toNat]=some k:=by
      have:=b.k_
      have z:r.1.getD t.toNat none=some k:=this
      rw[getD_eq_getElem?_getD,aax R] at z
      exact z
     rw[ek,aj,VD c.1 (by have:=b.bf.len;lia),Cd]
     have rl2:r.2.length<=n.toNat:=wC b.bf.nd λx c=>by have:=b.bf.rng x c;lia
     exact⟨yT (by lia),b.put c.1 c.2.1 px E c.2.2⟩
    |some j =>
     simp only[Option.isNone_some,abg,if_false,aj]
     refine⟨b.bf,b.at_,b.k_,λs A Z=>?_⟩
     rcases mem_append.mp A with q|q
     ·exact b.BL s q Z
     ·rw[mem_singleton.mp q]
      have K:x∈r.2:=(b.bf.iff x c.1 c.2.1).mp (by rw[E];rfl)
      obtain⟨ii,hii⟩:=mem_iff_getElem?.mp K
      exact⟨j,E,b.bf.top ii t x k j b.at_ hii b.k_ E⟩
   ·rw[decide_eq_false px,if_neg (by decide),aj]
    simp only[abg,if_false,aj]
    refine⟨b.bf,b.at_,b.k_,λs A Z=>?_⟩
    rcases mem_append.mp A with q|q
    ·exact b.BL s q Z
    ·rw[mem_singleton.mp q] at Z;exact absurd Z px
  ·rw[take_length] at b
   refine⟨⟨f+1,by show s.2.2+1=_;lia,?_⟩,?_⟩
   ·have y:=b.bf
    refine⟨y.len,y.rng,y.nd,y.iff,y.idx,y.mono,λj u v a l w o X Q=>?_,y.zero,y.via,λi u v a p w o H G pu M=>?_⟩
    ·have q1:=y.mono f (f+1) t u k a (by lia) b.at_ w b.k_ X
     have q2:=y.top j t v k l b.at_ o b.k_ Q
     lia
    ·by_cases q:i=f
     ·subst q
      rw[b.at_] at w
      cases w
      rw[b.k_] at o
      cases o
      exact b.BL u ((P u).mpr ⟨H,G,M⟩) pu
     ·exact y.done i u v a (by lia) w o H G pu M
   ·show n.toNat-(s.2.2+1).toNat<n.toNat-f
    lia
 ·rw[decide_eq_false lt,if_neg (by decide)]
  have all:∀t∈s.2.1,∃i,i<f/\s.2.1[i]?=some t:=λt h=>by
   obtain⟨i,p⟩:=mem_iff_getElem?.mp h
   exact⟨i,by have:=xB p;lia,p⟩
  refine⟨B.len,λu k H G h=>?_,B.zero,λu k H G h M=>?_,λu t k H G t0 t1 M ht hk=>?_⟩
  ·have K:=(B.iff u H G).mp (by rw[h];rfl)
   obtain⟨i,p⟩:=mem_iff_getElem?.mp K
   obtain⟨k',e1,e2,e3⟩:=B.idx i u p
   rw[h] at e1
   cases e1
   have:=xB p
   exact⟨e2,by omega⟩
  ·exact B.via u k ((B.iff u H G).mp (by rw[h];rfl)) h M
  ·obtain⟨i,w,o⟩:=all t ((B.iff t t0 t1).mp (by rw[hk];rfl))
   exact B.done i u t k w o hk H G M ht
theorem zS3{xss:List LI}(hl:(xss.length:Int)=n)(h0:0<=s)(h1:s<n):xss[s.toNat]?=some (nxt xss s):=by
 unfold nxt
 grind
theorem zYz(n:Int):(rng n).Pairwise (· < ·):=by
 unfold rng
 rw[pairwise_map]
 exact pairwise_lt_range.imp λh=>by grind
def pick(n:Int)(p:Int->Bool):LI:=(rng n).filter p
theorem dw:s∈pick n p↔0<=s/\s<n/\p s=true:=by
 unfold pick
 rw[mem_filter,cU,and_assoc]
theorem xS(n:Int)(p:Int->Bool):aL n (pick n p):=⟨(zYz n).filter p,λx a=>by have:=dw.mp a;omega⟩
theorem zXs{d:List (Option Int)}(hl:(d.length:Int)=n):Bu d=(rng n).map λs=>(s,dg d s):=by
 refine ext_getElem? λi=>?_
 have e:n.toNat=d.length:=by lia
 by_cases q:i<d.length
 ·have a:(rng n)[i]?=some (i:Int):=by unfold rng;grind
  rw[getElem?_map,a]
  unfold Bu
  grind
 ·rw[abt (by rw[Vl];lia),abt (by rw[length_map];unfold rng;grind)]
theorem JD:W (dput kvs k v) Q↔kvs.length<cap/\Q (pK kvs (ab5 k) v):=by
 unfold dput
 rw[oW]
 constructor
 ·intro⟨a,b⟩
  by_cases h:kvs.length<cap
  ·exact⟨h,aj.mp (a h)⟩
  ·exact absurd (b h) (by rw[Em];exact id)
 ·intro⟨h,q⟩
  exact⟨λ_=>aj.mpr q,λz=>absurd h z⟩
theorem zX9:W (wj kvs k v) Q↔kvs.length<cap/\Q (pK kvs (acg k) v):=by
 unfold wj
 rw[oW]
 constructor
 ·intro⟨a,b⟩
  by_cases h:kvs.length<cap
  ·exact⟨h,aj.mp (a h)⟩
  ·exact absurd (b h) (by rw[Em];exact id)
 ·intro⟨h,q⟩
  exact⟨λ_=>aj.mpr q,λz=>absurd h z⟩
def Ad(n:Int)(xs:LI):Prop:=xs.Nodup/\xs.length<=100/\∀z∈xs,0<=z/\z<n
theorem zQ9(h:0<=z/\z<n):Wq z n=some true:=by
 unfold Wq
 grind
theorem zDk(h:Ad n xs)(x:Str):W (wF xs n x) λ_=>True:=by
 unfold wF
 rw[zC,aj,zC,zC,aj]
 refine vE (λi s=>s.length<=i/\∀z,(oK s z).isSome=true->z∈xs.take i) ⟨abl _,λz c=>by cases c⟩ (λi y s a f=>?_) λs _=>aj.mpr trivial
 have il:=xB a
 rw[zQ9 (h.2.2 y (mem_of_getElem? a)),zC,zC,zC,aj,aj,if_neg (by decide),aj,zC]
 have d:(oK s y).isSome=false:=by
  cases q:(oK s y).isSome with
  |false=>rfl
  |true=>exact absurd (f.2 y q) (zE5 h.1 a)
 have b:=d
 rw[b,if_neg (by decide),aj,zC,JD]
 have l1:=h.2.1
 refine⟨yT (by lia),?_⟩
 rw[aj]
 have l2:=zZe s (ab5 y) true
 refine⟨by lia,λz c=>?_⟩
 rw[Yp a]
 have e:=zZq s (ab5 y) (ab5 z) true
 grind
theorem Ma(a:Str){i:Nat}(h:i<1000):W (Pg a (i:Int)) λ_=>True:=by
 unfold Pg
 rw[if_pos (zTg (by lia)),aj]
 trivial
theorem zPj{xss:List LI}(d:(xss.length:Int)=n)(h0:1<=n)(h1:n<=60)(h:∀xs∈xss,xs≠[]/\Ad n xs):W (uS xss) λ_=>True:=by
 unfold uS
 rw[zC,aj,zC,zC,d,decide_eq_false (by lia),if_neg (by decide),aj,decide_eq_false (by lia),if_neg (by decide),aj,zC,zC,aj]
 refine vE (λ_ _=>True) trivial (λi y s c _=>?_) λs _=>aj.mpr trivial
 obtain⟨f,a⟩:=Vk c
 have il:=xB a
 obtain⟨e,b⟩:=h y.2 (mem_of_getElem? a)
 rw[f]
 simp only[zC]
 refine(Ma "steps of stand " (i:=i) (by lia)).imp λt _=>?_
 rw[aj,aj,aj]
 refine(zDk b t).imp λ_ _=>?_
 rw[decide_eq_false (λz=>e (length_eq_zero_iff.mp (by lia))),if_neg (by decide),aj,aj]
 trivial
theorem zRe{xss:List LI}(hl:xss.length<=100)(h:∀xs∈xss,Ad n xs):W (Wt xss n) λ_=>True:=by
 unfold Wt
 rw[zC,zC,aj]
 refine vE (λ_ _=>True) trivial (λi y s c _=>?_) λs _=>aj.mpr trivial
 obtain⟨b,a⟩:=Vk c
 have il:=xB a
 rw[b]
 simp only[zC]
 refine(Ma "fair set " (by lia)).imp λt _=>?_
 rw[aj,aj,aj]
 refine(zDk (h y.2 (mem_of_getElem? a)) t).imp λ_ _=>?_
 rw[aj]
 trivial
def uI(n:Int)(a:List (Str×LI)):Prop:=(a.map (·.1)).Nodup/\a.length<=100/\∀m∈a,Qw m.1=some true/\m.1.length<=1000/\Ad n m.2
theorem zPk(h:uI n b):W (uT b n) λ_=>True:=by
 unfold uT
 rw[zC,aj,zC,zC,aj]
 refine vE (λi s=>s.length<=i/\∀z,(K_ s z).isSome=true->z∈(b.map (·.1)).take i) ⟨abl _,λz d=>by cases d⟩ (λi y s g o=>?_) λs _=>aj.mpr trivial
 have il:=xB g
 have a:(b.map (·.1))[i]?=some y.1:=by rw[getElem?_map,g];rfl
 obtain⟨m,r,w⟩:=h.2.2 y (mem_of_getElem? g)
 have k:y.1∉(b.map (·.1)).take i:=λd=>by
  obtain⟨j,c⟩:=mem_iff_getElem?.mp d
  have f:j<i:=by
   have:=xB c
   rw[length_take] at this
   lia
  rw[getElem?_take_of_lt f] at c
  have l:=xB a
  have v:=xB c
  rw[aax l] at a
  rw[aax v] at c
  have e:(b.map (·.1))[j]=(b.map (·.1))[i]:=(abf c).trans (abf a).symm
  have:=(getElem_inj h.1).mp e
  lia
 rw[m,zC,zC,zC,aj,aj,ac3,if_neg (by decide),aj,zC]
 have u:(K_ (Dc.mk s).kv y.1).isSome=false:=by
  cases q:(K_ s y.1).isSome with
  |false=>rfl
  |true=>exact absurd (o.2 y.1 q) k
 rw[u,if_neg (by decide),aj,zC,zX9]
 have l1:=h.2.1
 refine⟨yT (by lia),?_⟩
 simp only[zC]
 have p:W (Tj "mark " y.1) λ_=>True:=by
  unfold Tj
  rw[if_pos r,aj]
  trivial
 refine p.imp λt _=>?_
 rw[aj,aj,aj]
 refine(zDk w t).imp λ_ _=>?_
 rw[aj]
 have l2:=zZe s (acg y.1) true
 refine⟨by lia,λz d=>?_⟩
 rw[Yp a]
 have e:K_ (pK s (acg y.1) true) z=if(acg z:Key)=acg y.1 then some true else K_ s z:=zZq s (acg y.1) (acg z) true
 grind
theorem zNq{xss:List LI}(h:xss.length<=100):TX xss=some xss:=by
 have q:W (TX xss) (· = xss):=by
  unfold TX
  rw[zC,aj,Gv (λx=>x),map_id']
  exact⟨yT (by lia),rfl⟩
 obtain⟨a,e,rfl⟩:=q
 exact e
theorem Mf(C:Addr){xss:List LI}{mo:Option Gw}{fo:Option LLI}(i:(xss.length:Int)=n)(h0:1<=n)(k:n<=60)(h:∀xs∈xss,xs≠[]/\Ad n xs)(j:uI n (mo.getD []))(g:(fo.getD []).length<=100/\∀xs∈fo.getD [],Ad n xs) :
  W (Qz C xss mo fo) λm=>Gr m n/\m.steps=xss/\m.marks=mo.getD []/\m.fair=fo.getD []:=by
 unfold Qz YC
 rw[zC]
 refine(zPj i h0 k h).imp λ_ _=>?_
 rw[zC,i]
 refine(zPk j).imp λ_ _=>?_
 rw[zC]
 refine(zRe g.1 g.2).imp λ_ _=>?_
 have m1:=j.2.1
 rw[zNq (by lia),zC,aj,zC,Gv (λx:Str×LI=>(x.1,x.2))]
 refine⟨yT (by lia),?_⟩
 have e:(mo.getD []).map (λx:Str×LI=>(x.1,x.2))=mo.getD []:=map_id' _
 rw[zNq g.1,zC,aj,zC]
 have l:TV xss=some (srcs xss):=by
  unfold TV
  rw[if_pos ⟨by lia,rfl,λxs f=>by obtain⟨a,b,c,d⟩:=h xs f;exact⟨a,b,c,λz o=>by have:=d z o;omega⟩⟩]
 rw[l,aj,aj,e]
 exact⟨⟨i,h0,k,λxs f=>by obtain⟨a,b,c,d⟩:=h xs f;exact⟨a,b,d⟩,rfl⟩,rfl,rfl,rfl⟩
theorem Xa(h:aL n xs)(Qm:n<=60):Ad n xs:=⟨h.nodup,by
 by_cases hn:0<=n
 ·have:=wC (n:=n.toNat) h.nodup λx a=>by have:=h.2 x a;lia
  lia
 ·cases xs with
  |nil=>grind
  |cons x xs=>have:=h.2 x mem_cons_self;lia,h.2⟩
theorem zHk(hx:0<=x)(hy:0<=y):abj x y=((x.toNat&&&y.toNat:Nat):Int):=by
 unfold abj
 grind
theorem zO4(hx:0<=x)(hy:0<=y):ada x y=((x.toNat|||y.toNat:Nat):Int):=by
 have h1:¬0<=ac5 x:=by unfold ac5;lia
 have h2:¬0<=ac5 y:=by unfold ac5;lia
 have nn:∀z,ac5 (ac5 z)=z:=λz=>by unfold ac5;lia
 unfold ada abj
 grind
def bt(x t:Int):Bool:=x.toNat.testBit t.toNat
theorem Mg(a:0<=x)(b:0<=y)(t:Int):bt (ada x y) t=(bt x t||bt y t):=by
 unfold bt
 rw[zO4 a b,acf,Nat.testBit_or]
theorem zZ8(a:0<=x)(b:0<=y)(t:Int):bt (abj x y) t=(bt x t&&bt y t):=by
 unfold bt
 rw[zHk a b,acf,Nat.testBit_and]
theorem Mh(a:0<=x)(b:0<=y):0<=ada x y:=by rw[zO4 a b];grind
theorem yAb(a:0<=x)(b:0<=y):0<=abj x y:=by rw[zHk a b];grind
theorem JF(t:Int):bt 0 t=false:=by unfold bt;simp
theorem QZ(ht:0<=t)(hu:0<=u):bt (1*2^t.toNat) u=decide (u=t):=by
 unfold bt
 rw[Int.one_mul,show((2:Int)^t.toNat).toNat=2^t.toNat by
  grind]
 grind
theorem zRz{x:Int}(a:0<=x)(k:Nat):0<=x/2^k:=Int.ediv_nonneg a (aep (Int.pow_pos (by decide)))
theorem Zn{x:Int}(hx:0<=x)(k:Nat):(x/2^k).toNat=x.toNat>>>k:=by
 rw[Nat.shiftRight_eq_div_pow]
 grind
theorem zUx{t:Int}(hx:0<=x):bt (x/2^t.toNat) 0=bt x t:=by
 unfold bt
 grind
theorem zZ6(a:0<=x):(abj x 1 != 0)=bt x 0:=by
 rw[zHk a (by decide)]
 unfold bt
 grind
theorem zYg(h:∀x∈xs,0<=x/\x<n)(Qm:n<=60):W (T4 xs) λb=>0<=b/\∀t:Int,0<=t->bt b t=decide (t∈xs):=by
 unfold T4
 rw[zC,aj,zC,zC,aj]
 refine vE (λi s=>0<=s/\∀t:Int,0<=t->bt s t=decide (t∈xs.take i)) ⟨by decide,λt _=>by rw[JF];simp⟩ (λi x s c a=>?_) λs a=>?_
 ·obtain⟨g,l⟩:=a
  have j:=h x (mem_of_getElem? c)
  have e:Eu 1 x=some (1*2^x.toNat):=by unfold Eu;rw[if_pos ⟨j.1,by lia,by decide⟩]
  have k:xs.take (i+1)=xs.take i++[x]:=by rw[take_add_one,c]<;>rfl
  have d:(0:Int)<=1*2^x.toNat:=by rw[Int.one_mul];exact aep (Int.pow_pos (by decide))
  rw[zC,zC,e,aj,aj,aj]
  refine⟨Mh g d,λt f=>?_⟩
  rw[Mg g d,l t f,QZ j.1 f,k,acj]
  simp
 ·rw[aj]
  rw[take_length] at a
  exact a
def rb(rows:LI)(s t:Int):Bool:=bt (rows.getD s.toNat 0) t
theorem Xb{rows:LI}(hl:(rows.length:Int)=n)(h0:0<=s)(h1:s<n):L2.aU rows s=some (rows.getD s.toNat 0):=by
 rw[Bv h0,getD_eq_getElem?_getD,aax (by lia)]
 rfl
def Mi(rows:LI):Prop:=∀i:Nat,0<=rows.getD i 0
theorem zO3{rows:LI}{n s t:Int}(c:(rows.length:Int)=n)(b:Mi rows)(h0:0<=s)(e:s<n)(d:0<=t) :
  ((((L2.aU rows s).bind λa=>mD a t).bind λa=>some (abj a 1)).bind λa=>some (a != 0))=some (rb rows s t):=by
 rw[Xb c h0 e]
 show(((mD _ t).bind _).bind _)=_
 unfold mD
 rw[if_pos d]
 show some (abj (rows.getD s.toNat 0/2^t.toNat) 1 != 0)=_
 rw[zZ6 (zRz (b _) _),zUx (b _)]
 rfl
theorem zVo{rows:LI}{n s t:Int}(e:(rows.length:Int)=n)(c:Mi rows)(h0:0<=s)(i:s<n)(f:0<=t)(j:t<n) :
  (((((L2.aU rows s).bind λa=>mD a t).bind λa=>((L2.aU rows t).bind λb=>mD b s).bind λb=>some (abj a b)).bind λa=>some (abj a 1)).bind λa=>some (a != 0))=some (rb rows s t&&rb rows t s):=by
 rw[Xb e h0 i,Xb e f j]
 show((((mD _ t).bind λa=>(mD _ s).bind _).bind _).bind _)=_
 unfold mD
 rw[if_pos f,if_pos h0]
 show some (abj (abj (rows.getD s.toNat 0/2^t.toNat) (rows.getD t.toNat 0/2^s.toNat)) 1 != 0)=_
 have d:=zRz (c s.toNat) t.toNat
 have g:=zRz (c t.toNat) s.toNat
 rw[zZ6 (yAb d g),zZ8 d g,zUx (c _),zUx (c _)]
 rfl
theorem zY4{rows:LI}(hl:(rows.length:Int)=n)(x0:0<=x)(x1:x<n)(s0:0<=s):rb (rows.set x.toNat v) s t=if s=x then bt v t else rb rows s t:=by
 unfold rb
 grind
theorem zZg{rows:LI}(hl:(rows.length:Int)=n)(x0:0<=x)(x1:x<n)(b:Mi rows)(a:0<=v):Mi (rows.set x.toNat v):=λi=>by
 rw[zJu (by lia)]
 split
 ·exact a
 ·exact b i
inductive iV(xss:List LI)(U:LI):Int->Int->Prop
 |one {s t:Int}:t∈nxt xss s->t∈U->iV xss U s t
 |step {s u t:Int}:u∈nxt xss s->u∈U->iV xss U u t->iV xss U s t
theorem iV.trans(h:iV xss U s t)(k:iV xss U t u):iV xss U s u:=by
 induction h with
 |one a b=>exact .step a b k
 |step a b _ ih=>exact .step a b (ih k)
theorem iV.mem(h:iV xss U s t):t∈U:=by
 induction h with
 |one _ b=>exact b
 |step _ _ _ ih=>exact ih
theorem iV.mono{xss:List LI}{U V:LI}{s t:Int}(h:iV xss U s t)(k:∀x∈U,x∈V):iV xss V s t:=by
 induction h with
 |one a b=>exact .one a (k _ b)
 |step a b _ ih=>exact .step a (k _ b) ih
structure qL(xss:List LI)(U rows:LI):Prop where
 nn:Mi rows
 edge:∀s∈U,∀t∈U,t∈nxt xss s->rb rows s t=true
 sound:∀s∈U,∀t:Int,0<=t->rb rows s t=true->iV xss U s t
 trans:∀s∈U,∀u∈U,∀t:Int,0<=t->rb rows s u=true->rb rows u t=true->rb rows s t=true
theorem zO0{α β:Type}{c:α->Option Bool}{f:α->Option β}{p:α->Bool}{g:α->β}:∀{xs:List α},(∀x∈xs,c x=some (p x))->(∀x∈xs,f x=some (g x))->vO c f xs=some ((xs.filter p).map g)
 |[],_,_=>rfl
 |x::xs,h,e=>by
  have ih:=zO0 (λy a=>h y (mem_cons_of_mem _ a)) λy a=>e y (mem_cons_of_mem _ a)
  show((c x).bind λb=>if b=true then(f x).bind λy=>(vO c f xs).bind λd=>some (y::d) else vO c f xs)=_
  grind
theorem Xc{α β:Type}{c:α->Option Bool}{f:α->Option β}{p:α->Bool}{g:α->β}{xs:List α}(a:xs.length<cap)(d:∀x∈xs,c x=some (p x))(b:∀x∈xs,f x=some (g x)):aO c f xs=some ((xs.filter p).map g):=by
 unfold aO
 rw[if_pos a]
 exact zO0 d b
theorem zYx{C:Addr}{m:aq C}(g:Gr m n)(h0:0<=s)(a:s<n):nxt m.steps s∈m.steps:=mem_of_getElem? (zS3 g.len h0 a)
theorem zNp{C:Addr}{m:aq C}(g:Gr m n)(h0:0<=s)(a:s<n):W (yJ m s) λxs=>xs.length<=60/\∀x,x∈xs↔x∈nxt m.steps s:=by
 unfold yJ
 have f:=g.few
 obtain⟨_,b,rg⟩:=g.row _ (zYx g h0 a)
 have l:=wC (n:=n.toNat) b λx hx=>by grind
 rw[zC,dz h0]
 refine⟨_,zS3 g.len h0 a,?_⟩
 unfold jt
 rw[if_pos (by lia),aj]
 refine⟨by rw[(wK _).length_eq];lia,λx=>(wK _).mem_iff⟩
def dl(xs:LI):List (Key×Bool):=xs.map λx=>((ab5 x:Key),true)
theorem zZz:∀(xs:LI)(x:Int),(oK (dl xs) x).isSome=decide (x∈xs)
 |[],x=>by simp[dl,gK]
 |y::xs,x=>by
  have ih:=zZz xs x
  unfold oK gK dl at ih ⊢
  grind
theorem Q_(h:x∉xs):pK (dl xs) (ab5 x) true=dl (xs++[x]):=by
 unfold pK
 unfold dl
 grind
theorem Ra(xs:LI):(dl xs).length=xs.length:=length_map ..
theorem Rb:W (dput kvs k v) Q↔kvs.length<cap/\Q (pK kvs (ab5 k) v):=by
 unfold dput
 split
 ·rw[aj];grind
 ·rw[Em];grind
section
variable{S α β:Type}
theorem zU7{step:S->α->Option (Out S β)}{Q:Out S β->Prop}(I:Nat->S->Prop)(h0:I 0 s)(f:∀i x s,xs[i]?=some x->I i s->W (step s x) λo=>(∃s',o=.nx s'/\I (i+1) s')\/∃b,o=.rt b/\Q (.rt b))(g:∀s,I xs.length s->Q (.nx s)):W (oJ step xs s) Q:=by
 have key:∀(a:List α)(i:Nat)(s:S),(∀j x,a[j]?=some x->xs[i+j]?=some x)->i+a.length=xs.length->I i s->W (oJ step a s) Q:=by
  intro a
  induction a with
  |nil=>intro i s _ d h;exact⟨.nx s,rfl,g s ((show i=xs.length from d)▸h)⟩
  |cons y a ih =>
   intro i s e d h
   rw[zIn,zC]
   refine(f i y s (e 0 y rfl) h).imp ?_
   rintro o (⟨s',rfl,c⟩|⟨b,rfl,c⟩)
   ·refine ih (i+1) s' (λj x hx=>?_) (by grind) c
    have:=e (j+1) x (by grind)
    grind
   ·exact⟨.rt b,rfl,c⟩
 grind
end
theorem Zo{α:Type}{xs:List α}{x:α}(h:xs[i]?=some x):xs.take (i+1)=xs.take i++[x]:=by rw[take_add_one,h]<;>rfl
theorem Mj{xs:LI}{i:Nat}{x s:Int}(h:xs[i]?=some x):s∈xs.take (i+1)↔s∈xs.take i\/s=x:=by rw[Zo h,mem_append,mem_singleton]
theorem Gb{C:Addr}{m:aq C}(g:Gr m n)(h0:0<=s)(a:s<n):∀x∈nxt m.steps s,0<=x/\x<n:=(g.row _ (zYx g h0 a)).2.2
theorem zVg{C:Addr}{m:aq C}(g:Gr m n)(z:∀x∈U,0<=x/\x<n):W (uQ m U) λrows=>(rows.length:Int)=n/\qL m.steps U rows:=by
 unfold uQ
 have L:=g.few
 have pos:=g.pos
 rw[zC]
 refine(zYg z L).imp λinside ⟨Z,ib⟩=>?_
 rw[zC,zC,zC,Zm g,aj,uG]
 refine⟨⟨by lia,by omega⟩,?_⟩
 have rl:=Te (n:=n) (by lia)
 rw[Gv (λ_=>(0:Int))]
 refine⟨yT (by lia),?_⟩
 rw[zC,zC,aj]
 refine vE (λi rows=>(rows.length:Int)=n/\Mi rows/\∀s∈U.take i,∀t:Int,0<=t->rb rows s t=decide (t∈nxt m.steps s/\t∈U)) ⟨by rw[length_map];exact rl,λi=>?_,λs l=>by simp at l⟩ (λi x rows K E=>?_) λrows E=>?_
 ·rw[getD_eq_getElem?_getD,getElem?_map]
  cases(rng n)[i]?<;>exact ace 0
 ·obtain⟨I,R,H⟩:=E
  have q:=z x (mem_of_getElem? K)
  rw[zC,zC,zC,zC,zC]
  refine(zNp g q.1 q.2).imp ?_
  rintro ns ⟨_,F⟩
  rw[aj]
  refine(zYg (xs:=ns) (λy hy=>Gb g q.1 q.2 y ((F y).mp hy)) L).imp λb ⟨b0,bb⟩=>?_
  rw[aj,VD q.1 (by lia),aj]
  refine⟨by rw[length_set];exact I,zZg I q.1 q.2 R (yAb b0 Z),λs l t f=>?_⟩
  rw[Mj K] at l
  have s0:0<=s:=l.elim (λh=>(z s (List.mem_of_mem_take h)).1) λh=>h▸q.1
  rw[zY4 I q.1 q.2 s0]
  by_cases e:s=x
  ·subst e
   rw[if_pos rfl,zZ8 b0 Z,bb t f,ib t f,acj]
   simp[F]
  ·rw[if_neg e]
   exact H s (l.resolve_right e) t f
 ·obtain⟨I,R,H⟩:=E
  rw[take_length] at H
  rw[zC,zC,aj]
  refine vE (λi rows=>(rows.length:Int)=n/\Mi rows/\(∀s∈U,∀t∈U,t∈nxt m.steps s->rb rows s t=true)/\(∀s∈U,∀t:Int,0<=t->rb rows s t=true->iV m.steps U s t)/\∀u∈U.take i,∀s∈U,∀t:Int,0<=t->rb rows s u=true->rb rows u t=true->rb rows s t=true)
   ⟨I,R,λs l t f h=>by rw[H s l t (z t f).1];exact decide_eq_true ⟨h,f⟩,λs l t f h=>by
    rw[H s l t f] at h
    have:=of_decide_eq_true h
    exact .one this.1 this.2,λu P=>by simp at P⟩ (λi u w K E=>?_) λrows E=>?_
  ·obtain⟨Q,N,X,B,O⟩:=E
   have J:=mem_of_getElem? K
   have D:=z u J
   rw[zC,zC,aj]
   refine vE (λj rows=>(rows.length:Int)=n/\Mi rows/\∀s∈U,∀t:Int,0<=t->rb rows s t=(rb w s t||(decide (s∈U.take j)&&(rb w s u&&rb w u t)))) ⟨Q,N,λs _ t _=>by simp⟩ (λj x rows M S=>?_) λrows S=>?_
   ·obtain⟨o,p,r⟩:=S
    have xm:=mem_of_getElem? M
    have q:=z x xm
    have ex:rb rows x u=rb w x u:=by
     rw[r x xm u D.1]
     cases rb w x u<;>simp
    have eu:∀t:Int,0<=t->rb rows u t=rb w u t:=λt f=>by
     rw[r u J t f]
     cases rb w u t<;>simp
    rw[zO3 o p q.1 q.2 D.1,zC,zC,aj,ex]
    by_cases c:rb w x u=true
    ·rw[c,if_pos rfl,zC,zC,Xb o D.1 D.2,aj]
     unfold Iz
     rw[if_pos q.1,Xb o q.1 q.2]
     show W (setAt rows x _) _
     rw[VD q.1 (by lia),aj,aj]
     refine⟨by rw[length_set];exact o,zZg o q.1 q.2 p (Mh (p _) (p _)),λs l t f=>?_⟩
     rw[zY4 o q.1 q.2 (z s l).1]
     by_cases e:s=x
     ·subst e
      rw[if_pos rfl,Mg (p _) (p _)]
      show(rb rows s t||rb rows u t)=_
      rw[r s l t f,eu t f,c,decide_eq_true ((Mj M).mpr (.inr rfl))]
      cases rb w s t<;>cases rb w u t<;>simp
     ·rw[if_neg e,r s l t f]
      have:decide (s∈U.take (j+1))=decide (s∈U.take j):=by
       rw[acj,decide_eq_true_iff,decide_eq_true_iff,Mj M]
       exact⟨λh=>h.resolve_right e,.inl⟩
      rw[this]
    ·have c:rb w x u=false:=by simpa using c
     rw[c,if_neg (by decide),aj,aj]
     refine⟨o,p,λs l t f=>?_⟩
     rw[r s l t f]
     by_cases e:s=x
     ·subst e
      rw[c]
      simp
     ·have:decide (s∈U.take (j+1))=decide (s∈U.take j):=by
       rw[acj,decide_eq_true_iff,decide_eq_true_iff,Mj M]
       exact⟨λh=>h.resolve_right e,.inl⟩
      rw[this]
   ·obtain⟨o,p,r⟩:=S
    rw[take_length] at r
    have A:∀s∈U,∀t:Int,0<=t->(rb rows s t=true↔rb w s t=true\/(rb w s u=true/\rb w u t=true)):=λs l t f=>by
     rw[r s l t f,decide_eq_true l]
     simp
    rw[aj]
    refine⟨o,p,λs l t f h=>(A s l t (z t f).1).mpr (.inl (X s l t f h)),λs l t f h=>?_,λv G s l t f h1 h2=>?_⟩
    ·rcases(A s l t f).mp h with h|⟨h,k⟩
     ·exact B s l t f h
     ·exact(B s l u D.1 h).trans (B u J t f k)
    ·rw[Mj K] at G
     refine(A s l t f).mpr ?_
     rcases G with G|rfl
     ·have vU:=List.mem_of_mem_take G
      have v0:=(z v vU).1
      have T:=O v G
      rcases(A s l v v0).mp h1 with a|⟨a,b⟩<;>rcases(A v vU t f).mp h2 with c|⟨c,d⟩
      ·exact .inl (T s l t f a c)
      ·exact .inr ⟨T s l u D.1 a c,d⟩
      ·exact .inr ⟨a,T u J t f b c⟩
      ·exact .inr ⟨a,d⟩
     ·have a:rb w s v=true:=((A s l v D.1).mp h1).elim id And.left
      have b:rb w v t=true:=((A v J t f).mp h2).elim id And.right
      exact .inr ⟨a,b⟩
  ·obtain⟨o,p,ed,so,Y⟩:=E
   rw[take_length] at Y
   rw[aj]
   exact⟨o,p,ed,so,λs l u P t f=>Y u P s l t f⟩
def ring(rows U:LI)(s:Int):LI:=U.filter λt=>rb rows s t&&rb rows t s
theorem bh:t∈ring rows U s↔t∈U/\rb rows s t=true/\rb rows t s=true:=by
 unfold ring
 grind
structure Bg(xss:List LI)(U G:LI):Prop where
 sub:∀s∈G,s∈U
 nd:G.Nodup
 go:∀s∈G,∀t∈G,iV xss G s t
theorem qL.full(R:qL xss U rows)(h0:∀x∈U,0<=x)(h:iV xss U s t):s∈U->rb rows s t=true:=by
 induction h with
 |one a b=>exactλc=>R.edge _ c _ b a
 |step a b p ih=>exactλc=>R.trans _ c _ b _ (h0 _ p.mem) (R.edge _ c _ b a) (ih b)
theorem zR9(R:qL xss U rows)(h0:∀x∈U,0<=x)(r:U.Nodup)(i:o∈U):Bg xss U (ring rows U o):=by
 have g:∀{s t:Int},iV xss U s t->s∈ring rows U o->t∈ring rows U o->iV xss (ring rows U o) s t:=by
  intro s t h
  induction h with
  |one a b=>exactλ_ c=>.one a c
  |@step s u t a b p ih =>
   intro d c
   obtain⟨e,j,m⟩:=bh.mp d
   obtain⟨f,n,k⟩:=bh.mp c
   have v:=R.trans o i s e u (h0 u b) j (R.edge s e u b a)
   have q:=R.trans u b t f o (h0 o i) (R.full h0 p b) k
   have l:=bh.mpr ⟨b,v,q⟩
   exact .step a l (ih l c)
 refine⟨λs d=>(bh.mp d).1,r.filter _,λs d t c=>?_⟩
 obtain⟨e,j,m⟩:=bh.mp d
 obtain⟨f,n,k⟩:=bh.mp c
 exact g (R.sound s e t (h0 t f) (R.trans s e o i t (h0 t f) m n)) d c
structure JG(rows U:LI)(told:List LI):Prop where
 are:∀G∈told,∃s∈U,rb rows s s=true/\G=ring rows U s
 nd:told.flatten.Nodup
 all:∀s∈U,rb rows s s=true->s∈told.flatten
theorem zQ6(h:∀x∈xs,0<=x/\x<n)(a:xs.length<64):gq xs=some (vY xs)/\aL n (vY xs):=by
 unfold gq
 rw[if_pos a]
 exact⟨rfl,Ir xs,λx b=>h x (bG.mp b)⟩
theorem JH{C:Addr}{m:aq C}(g:Gr m n)(I:∀x∈xs,0<=x/\x<n)(hl:xs.length<64):W (WD m xs) λf=>∃rows,qL m.steps (vY xs) rows/\JG rows (vY xs) f:=by
 obtain⟨e,r⟩:=zQ6 I hl
 have few:=g.few
 have pos:=g.pos
 unfold WD
 rw[e,zC,aj,zC]
 generalize vY xs=U at r ⊢
 have h0:∀x∈U,0<=x:=λx I=>(r.2 x I).1
 have Ul:U.length<=n.toNat:=wC r.nodup λx I=>by have:=r.2 x I;lia
 refine(zVg g r.2).imp λrows ⟨T,R⟩=>?_
 rw[zC,aj,zC,aj,zC,zC,aj]
 refine vE (λi z=>∃f:List LI,z=(f,dl f.flatten)/\(∀G∈f,∃s∈U,rb rows s s=true/\G=ring rows U s)/\f.flatten.Nodup/\(∀s∈U.take i,rb rows s s=true->s∈f.flatten)/\f.length<=i) ⟨[],rfl,λG u=>(by cases u),by simp,λs v=>(by simp at v),aaz _⟩ (λi x z J O=>?_) λz O=>?_
 ·obtain⟨f,rfl,l,E,o,tl⟩:=O
  have F:=mem_of_getElem? J
  have w:=r.2 x F
  have M:∀t∈f.flatten,t∈U:=λt B=>by
   obtain⟨G,u,N⟩:=mem_flatten.mp B
   obtain⟨s,_,_,rfl⟩:=l G u
   exact(bh.mp N).1
  have il:i<U.length:=(aa0.mp J).1
  rw[zC,zC]
  show W (if(!(oK (dl f.flatten) x).isSome)=true then _ else _) _
  rw[zZz]
  by_cases K:x∈f.flatten
  ·rw[decide_eq_true K,ac3,if_neg (by decide),aj,if_neg (by decide),aj,aj]
   exact⟨f,rfl,l,E,λs v h=>((Mj J).mp v).elim (λq=>o s q h) λq=>q▸K,by omega⟩
  ·rw[decide_eq_false K,Bool.not_false,if_pos rfl,zO3 T R.nn w.1 w.2 w.1,aj]
   by_cases c:rb rows x x=true
   ·have D:∀t∈ring rows U x,t∉f.flatten:=λt B Y=>by
     obtain⟨G,u,N⟩:=mem_flatten.mp Y
     obtain⟨s,P,_,rfl⟩:=l G u
     obtain⟨S,t1,t2⟩:=bh.mp B
     obtain⟨_,t3,X⟩:=bh.mp N
     exact K (mem_flatten.mpr ⟨_,u,bh.mpr ⟨F,R.trans s P t S x w.1 t3 t2,R.trans x F t S s (h0 s P) t1 X⟩⟩)
    have Q:(ring rows U x).Nodup:=r.nodup.filter _
    have H:(f.flatten++ring rows U x).Nodup:=by
     rw[nodup_append]
     exact⟨E,Q,λa ha b hb e=>D b hb (e▸ha)⟩
    have ln:(f.flatten++ring rows U x).length<=n.toNat:=wC H λy hy=>by
     have:y∈U:=(mem_append.mp hy).elim (M y) λq=>(bh.mp q).1
     have:=r.2 y this
     lia
    rw[c,if_pos rfl,zC,zC,aj,Xc (p:=λt=>rb rows x t&&rb rows t x) (g:=λt=>t) (yT (by lia)) (λt B=>zVo T R.nn w.1 w.2 (r.2 t B).1 (r.2 t B).2) (λt _=>rfl),aj,map_id']
    show W ((push f (ring rows U x)).bind _) _
    rw[zC,Cd]
    refine⟨yT (by lia),?_⟩
    rw[zC,zC,aj]
    refine vE (λk d=>d=dl (f.flatten++(ring rows U x).take k)) (by rw[List.take_zero,append_nil]) (λk y d A L=>?_) λd L=>?_
    ·subst L
     have A:(ring rows U x)[k]?=some y:=A
     have ym:=mem_of_getElem? A
     have kl:=(aa0.mp A).1
     have yn:y∉f.flatten++(ring rows U x).take k:=λq=>by
      rcases mem_append.mp q with q|q
      ·exact D y ym q
      ·obtain⟨j,hj,e⟩:=getElem_of_mem q
       rw[List.getElem_take] at e
       rw[length_take] at hj
       have Z:=(aa0.mp A).2
       have:=(List.nodup_iff_pairwise_ne.mp Q)
       have ne:=pairwise_iff_getElem.mp this j k (by lia) kl (by lia)
       exact ne (e.trans Z.symm)
     rw[zC,Rb,Q_ yn,Ra]
     refine⟨yT ?_,?_⟩
     ·rw[length_append] at ln ⊢
      rw[length_take]
      lia
     ·rw[aj,Zo A,append_assoc]
    ·subst L
     rw[show(ring rows U x).take (U.filter λt=>rb rows x t&&rb rows t x).length=ring rows U x from take_length,aj,aj]
     refine⟨f++[ring rows U x],by rw[flatten_append,flatten_singleton],λG u=>?_,by rw[flatten_append,flatten_singleton];exact H,λs v h=>?_,by rw[length_append];exact acq tl⟩
     ·rcases mem_append.mp u with q|q
      ·exact l G q
      ·exact⟨x,F,c,mem_singleton.mp q⟩
     ·rw[flatten_append,flatten_singleton,mem_append]
      exact((Mj J).mp v).elim (λq=>.inl (o s q h)) λq=>.inr (by rw[q];exact bh.mpr ⟨F,c,c⟩)
   ·have c':rb rows x x=false:=by simpa using c
    rw[c',if_neg (by decide),aj,aj]
    exact⟨f,rfl,l,E,λs v h=>((Mj J).mp v).elim (λq=>o s q h) λq=>absurd (q▸h) c,by omega⟩
 ·obtain⟨f,rfl,l,E,o,_⟩:=O
  rw[take_length] at o
  rw[aj]
  exact⟨rows,R,l,E,o⟩
def uV(n:Int)(a:List LI):Prop:=a.length<=100/\∀F∈a,Ad n F
def vL(a:List LI)(G:LI):Bool:=a.all λF=>G.any λx=>decide (x∈F)
theorem tu(h:Ad n xs)(Qm:n<=60)(h0:0<=n):xs.length<=60:=by
 have:=wC (n:=n.toNat) h.1 λx a=>by have:=h.2.2 x a;omega
 lia
theorem zVl{C:Addr}{m:aq C}{n:Int}(g:Gr m n)(b:uV n m.fair){i:Nat}{F:LI}(c:m.fair[i]?=some F):W (wJ m (i:Int)) λxs=>xs.length<=60/\∀x,x∈xs↔x∈F:=by
 unfold wJ
 have a:=g.few
 have pos:=g.pos
 have l:=tu (b.2 F (mem_of_getElem? c)) a (by lia)
 rw[zC,dz (by lia)]
 refine⟨F,by grind,?_⟩
 unfold jt
 rw[if_pos (by lia),aj]
 exact⟨by rw[(wK _).length_eq];exact l,λx=>(wK _).mem_iff⟩
theorem zQ7{xs ys:LI}(h:xs.length<64\/ys.length<64)(h1:xs.length<4000)(h2:ys.length<4000):wT xs ys=some (vY (xs.filter λz=>decide (z∈ys))):=by
 unfold wT Bw
 grind
theorem zNo{xs ys:LI}(a:xs.length<64)(h2:ys.length<4000):wT xs ys=some (vY (xs.filter λz=>decide (z∈ys))):=zQ7 (.inl a) (by lia) h2
theorem su:(vY xs).length=0↔xs=[]:=by
 constructor
 ·intro h
  cases xs with
  |nil=>rfl
  |cons x xs =>
   have:=(bG (ns:=x::xs)).mpr mem_cons_self
   grind
 ·intro h;subst h;rfl
theorem zVh{C:Addr}{m:aq C}(g:Gr m n)(h:uV n m.fair){G:LI}(p:G.length<64):W (WL m G) λo=>o.isNone=vL m.fair G:=by
 unfold WL
 have hl:=h.1
 rw[zC,zC,uG]
 refine⟨⟨by lia,by omega⟩,zU7 (λi _=>∀F∈m.fair.take i,(G.any λx=>decide (x∈F))=true) (λF c=>by simp at c) (λi x s l f=>?_) λs f=>?_⟩
 ·obtain⟨rfl,a⟩:=K5 l
  have j:i<m.fair.length:=by lia
  have c:m.fair[i]?=some m.fair[i]:=aax j
  rw[zC,zC,zC,zC,zC,zC]
  refine(zVl g h c).imp λd ⟨yl,k⟩=>?_
  rw[aj,aj]
  show W (wT G d) _
  rw[zNo p (by lia),aj,aj,aj]
  by_cases e:G.filter (λz=>decide (z∈d))=[]
  ·rw[decide_eq_true (show((vY (G.filter λz=>decide (z∈d))).length:Int)=0 by have:=su.mpr e;lia),if_pos rfl,zC,aj,aj]
   refine .inr ⟨_,rfl,?_⟩
   show W (some (some (i:Int))) _
   rw[aj]
   symm
   show vL m.fair G=false
   have:(G.any λx=>decide (x∈m.fair[i]))=false:=by
    rw[List.any_eq_false]
    intro x a q
    have q:=of_decide_eq_true q
    have:x∈G.filter (λz=>decide (z∈d)):=mem_filter.mpr ⟨a,decide_eq_true ((k x).mpr q)⟩
    rw[e] at this
    cases this
   unfold vL
   rw[List.all_eq_false]
   exact⟨_,getElem_mem j,by rw[this];decide⟩
  ·rw[decide_eq_false (λz=>e (su.mp (by lia))),if_neg (by decide),aj]
   refine .inl ⟨(),rfl,λF b=>?_⟩
   rw[Zo c,mem_append,mem_singleton] at b
   rcases b with q|q
   ·exact f F q
   ·subst q
    obtain⟨x,a⟩:=List.exists_mem_of_ne_nil _ e
    rw[mem_filter] at a
    exact any_eq_true.mpr ⟨x,a.1,decide_eq_true ((k x).mp (of_decide_eq_true a.2))⟩
 ·have e:(rng (m.fair.length:Int)).length=m.fair.length:=by have:=Te (n:=(m.fair.length:Int)) (by lia);lia
  rw[e,take_length] at f
  rw[Yv,aj]
  symm
  show vL m.fair G=true
  exact all_eq_true.mpr f
theorem zWd{U:LI}(h:U.length<=k):(ring rows U s).length<=k:=aa4 (length_filter_le ..) h
structure Bh(xss:List LI)(fair:List LI)(U goal:LI):Prop where
 nd:goal.Nodup
 sub:∀s∈goal,s∈U
 of:∀s∈goal,∃G:LI,Bg xss U G/\s∈G/\vL fair G=true/\∀t∈G,t∈goal
 all:∀s∈U,∀G:LI,(∀t,t∈G↔t∈U/\iV xss U s t/\iV xss U t s)->iV xss U s s->vL fair G=true->s∈goal
theorem zLi(h:∀t,t∈G↔t∈G'):vL a G=vL a G':=by
 unfold vL
 grind
theorem JK{C:Addr}{m:aq C}(g:Gr m n)(hf:uV n m.fair)(A:∀x∈xs,0<=x/\x<n)(M:xs.length<64) :
  W (uK m xs) λa=>a.length<=60/\(∀G∈a,Bg m.steps (vY xs) G/\vL m.fair G=true)/\W (QL a) λgoal=>goal=a.flatten/\Bh m.steps m.fair (vY xs) goal:=by
 have few:=g.few
 have pos:=g.pos
 have z:=(zQ6 A M).2
 have k:∀x∈vY xs,0<=x:=λx A=>(z.2 x A).1
 have Q:(vY xs).length<=n.toNat:=wC z.nodup λx A=>by have:=z.2 x A;lia
 unfold uK
 rw[zC]
 refine(JH g A M).imp λd ⟨D,R,T⟩=>?_
 have Z:d.length<=60/\d.flatten.length<=60:=by
  have f:d.flatten.length<=n.toNat:=wC T.nd λy O=>by
   obtain⟨G,j,X⟩:=mem_flatten.mp O
   obtain⟨s,_,_,rfl⟩:=T.are G j
   have:=z.2 y (bh.mp X).1
   lia
  refine⟨?_,by omega⟩
  have ne:∀G∈d,1<=G.length:=λG j=>by
   obtain⟨s,r,c,rfl⟩:=T.are G j
   exact List.length_pos_of_mem (bh.mpr ⟨r,c,c⟩)
  have:∀l:List LI,(∀G∈l,1<=G.length)->l.length<=l.flatten.length:=λl=>by
   induction l with
   |nil=>intro _;exact abl _
   |cons G l ih =>
    intro h
    rw[flatten_cons,length_append,length_cons]
    have a:=ih λF v=>h F (mem_cons_of_mem _ v)
    have b:=h G mem_cons_self
    lia
  have:=this d ne
  lia
 have Y:∀G∈d,G.length<64:=λG j=>by
  obtain⟨s,_,_,rfl⟩:=T.are G j
  have:=zWd (rows:=D) (s:=s) Q
  lia
 rw[Xc (p:=vL m.fair) (g:=λG=>G) (yT (by lia)) (λG j=>by
  obtain⟨o,e,q⟩:=zVh g hf (Y G j)
  rw[e]
  exact congrArg some q) (λ_ _=>rfl),aj,map_id']
 have N:∀l:List LI,(l.filter (vL m.fair)).flatten.Sublist l.flatten:=λl=>by
  induction l with
  |nil=>exact Sublist.refl _
  |cons G l ih =>
   rw[filter_cons]
   split
   ·rw[flatten_cons,flatten_cons];exact(Sublist.refl _).append ih
   ·rw[flatten_cons];exact ih.trans (List.sublist_append_right ..)
 have S:W (QL (d.filter (vL m.fair))) (· = (d.filter (vL m.fair)).flatten):=by
  unfold QL
  rw[zC,aj,zC,zC,aj]
  refine vE (λi s=>s=((d.filter (vL m.fair)).take i).flatten) (by rw[List.take_zero];rfl) (λi G s P I=>?_) λs I=>?_
  ·subst I
   unfold Ew
   have e:((d.filter (vL m.fair)).take i).flatten++G=((d.filter (vL m.fair)).take (i+1)).flatten:=by rw[Zo P,flatten_append,flatten_singleton]
   have l:(((d.filter (vL m.fair)).take i).flatten++G).length<=60:=by
    rw[e]
    have a:((d.filter (vL m.fair)).take (i+1)).flatten.Sublist (d.filter (vL m.fair)).flatten:=by
     have U:(d.filter (vL m.fair)).flatten=((d.filter (vL m.fair)).take (i+1)).flatten++((d.filter (vL m.fair)).drop (i+1)).flatten:=by rw[<-flatten_append,take_append_drop]
     rw[U]
     exact List.sublist_append_left ..
    have:=(a.trans (N d)).length_le
    lia
   rw[length_append] at l
   rw[if_pos (yT (by lia)),zC,aj,aj,e]
  ·subst I
   rw[take_length,aj]
 refine⟨aa4 (length_filter_le ..) Z.1,λG j=>?_,S.imp λgoal e=>⟨e,?_⟩⟩
 ·obtain⟨o,w,_,rfl⟩:=T.are G (mem_filter.mp j).1
  exact⟨zR9 R k z.nodup w,(mem_filter.mp j).2⟩
 subst e
 refine⟨T.nd.sublist (N d),λs E=>?_,λs E=>?_,λs r G j p q=>?_⟩
 ·obtain⟨G,j,B⟩:=mem_flatten.mp E
  obtain⟨o,_,_,rfl⟩:=T.are G (mem_filter.mp j).1
  exact(bh.mp B).1
 ·obtain⟨G,j,B⟩:=mem_flatten.mp E
  obtain⟨o,w,_,rfl⟩:=T.are G (mem_filter.mp j).1
  exact⟨_,zR9 R k z.nodup w,B,(mem_filter.mp j).2,λt ht=>mem_flatten.mpr ⟨_,j,ht⟩⟩
 ·obtain⟨F,v,B⟩:=mem_flatten.mp (T.all s r (R.full k p r))
  obtain⟨o,w,oo,rfl⟩:=T.are F v
  obtain⟨_,K,L⟩:=bh.mp B
  refine mem_flatten.mpr ⟨_,mem_filter.mpr ⟨v,?_⟩,B⟩
  rw[<-q]
  refine zLi λt=>?_
  rw[j t,bh]
  constructor
  ·rintro⟨u,J,H⟩
   exact⟨u,R.sound s r t (k t u) (R.trans s r o w t (k t u) L J),R.sound t u s (k s r) (R.trans t u o w s (k s r) H K)⟩
  ·rintro⟨u,J,H⟩
   exact⟨u,R.trans o w s r t (k t u) K (R.full k J r),R.trans t u s r o (k o w) (R.full k H u) L⟩
theorem Rf{C:Addr}{m:aq C}(g:Gr m n)(d:uV n m.fair)(c:∀x∈xs,0<=x/\x<n)(b:xs.length<64) :
  W ((uK m xs).bind λa=>QL a) (Bh m.steps m.fair (vY xs)):=by
 rw[zC]
 exact(JK g d c b).imp (by rintro a ⟨_,_,h⟩;exact h.imp λ_ q=>q.2)
theorem zRd{C:Addr}{m:aq C}(g:Gr m n){goal:LI}(b:∀x∈through,0<=x/\x<n)(a:goal.Nodup/\∀x∈goal,0<=x/\x<n):W (wA m through goal) λR=>∃d,Bd m.steps through goal n d/\R=pick n λs=>(dg d s).isSome:=by
 unfold wA
 have few:=g.few
 have pos:=g.pos
 rw[zC]
 refine(zMe g b a).imp λd D=>?_
 have rl:=Te (n:=n) (by lia)
 rw[zC,aj,zXs D.len]
 have e:aO (λx=>some x.2.isSome) (λx=>some x.1) ((rng n).map λs=>(s,dg d s))=some (pick n λs=>(dg d s).isSome):=by
  rw[Xc (yT (by grind)) (λ_ _=>rfl) (λ_ _=>rfl)]
  congr 1
  rw[List.filter_map,map_map]
  exact map_id' _
 rw[e,aj]
 grind
theorem Zq(h:aL n U):vY U=U:=Iu (Ir U) h.1 λ_=>bG
inductive Rc(xss:List LI)(U:LI)(s:Int):Int->Prop
 |here:Rc xss U s s
 |on {t u:Int}:Rc xss U s t->u∈nxt xss t->u∈U->Rc xss U s u
theorem Rc.mem(h:Rc xss U s t)(a:s∈U):t∈U:=by
 cases h with
 |here=>exact a
 |on _ _ h=>exact h
theorem Rc.trans(h:Rc xss U s t)(k:Rc xss U t u):Rc xss U s u:=by
 induction k with
 |here=>exact h
 |on _ a b ih=>exact .on ih a b
theorem Rc.pth(h:Rc xss U s t):t=s\/iV xss U s t:=by
 induction h with
 |here=>grind
 |@on t u _ a b ih =>
  rcases ih with rfl|ih
  ·exact .inr (.one a b)
  ·exact .inr (ih.trans (.one a b))
theorem iV.rc(h:iV xss U s t):Rc xss U s t:=by
 induction h with
 |one a b=>exact .on .here a b
 |step a b _ ih=>exact(Rc.on .here a b).trans ih
theorem cls(P:Int->Prop):∃p:Int->Bool,∀x,p x=true↔P x:=⟨λx=>@decide _ (Classical.propDecidable (P x)),λx=>by
 grind⟩
def Rg(xss c:List LI)(U:LI)(b:Int):Prop:=iV xss U b b/\∀F∈c,∃x∈F,Rc xss U b x/\Rc xss U x b
theorem JL(D:Bd xss U goal n d)(G:Bh xss l U goal)(i:∀x∈U,0<=x/\x<n)(s:Int):s∈pick n (λs=>(dg d s).isSome)↔s∈U/\∃b∈U,Rg xss l U b/\Rc xss U s b:=by
 have g:∀b∈U,(b∈goal↔Rg xss l U b):=λb z=>by
  constructor
  ·intro h
   obtain⟨R,N,E,H,_⟩:=G.of b h
   have L:∀{x y:Int},x∈R->y∈R->iV xss U x y:=λZ hy=>(N.go _ Z _ hy).mono N.sub
   refine⟨L E E,λF I=>?_⟩
   obtain⟨x,P,J⟩:=any_eq_true.mp (all_eq_true.mp H F I)
   exact⟨x,of_decide_eq_true J,(L E P).rc,(L P E).rc⟩
  ·rintro⟨p,m⟩
   obtain⟨f,M⟩:=cls λt=>iV xss U b t/\iV xss U t b
   refine G.all b z (U.filter f) (λt=>by rw[mem_filter,M t]) p ?_
   refine all_eq_true.mpr λF I=>?_
   obtain⟨x,J,r1,Q⟩:=m F I
   have O:iV xss U b x:=r1.pth.elim (λe=>e▸p) id
   have Y:iV xss U x b:=Q.pth.elim (λe=>by rw[<-e];exact e▸p) id
   exact any_eq_true.mpr ⟨x,mem_filter.mpr ⟨O.mem,(M x).mpr ⟨O,Y⟩⟩,decide_eq_true J⟩
 have K:∀(k:Nat)(s:Int),0<=s->s<n->dg d s=some (k:Int)->s∈U/\∃b∈goal,Rc xss U s b:=by
  intro k
  induction k with
  |zero =>
   intro s v o e
   have C:=(D.zero s v o).mp e
   exact⟨G.sub s C,s,C,.here⟩
  |succ k ih =>
   intro s v o e
   have S:s∉goal:=λC=>by
    have:=(D.zero s v o).mpr C
    rw[e] at this
    have:=abf this
    lia
   obtain⟨c,t,tn,t0,T,e2⟩:=D.via s _ v o e S
   obtain⟨A,b,w,r⟩:=ih t t0 T (by rw[e2];congr 1;lia)
   exact⟨c,b,w,(Rc.on .here tn A).trans r⟩
 have B:∀{s t:Int},Rc xss U s t->s∈U->(dg d t).isSome=true->(dg d s).isSome=true:=λh=>by
  induction h with
  |here=>exactλ_ q=>q
  |@on t u r a b ih =>
   intro c q
   have A:=r.mem c
   obtain⟨k,e⟩:=abr.mp q
   obtain⟨j,X,_⟩:=D.near t u k (i t A).1 (i t A).2 (i u b).1 (i u b).2 A a e
   exact ih c (by rw[X];rfl)
 rw[dw]
 constructor
 ·rintro⟨v,o,q⟩
  obtain⟨k,e⟩:=abr.mp q
  have kp:=D.pos s k v o e
  obtain⟨c,b,w,r⟩:=K k.toNat s v o (by rw[e];congr 1;lia)
  exact⟨c,b,G.sub b w,(g b (G.sub b w)).mp w,r⟩
 ·rintro⟨c,b,z,bB,r⟩
  refine⟨(i s c).1,(i s c).2,B r c ?_⟩
  rw[(D.zero b (i b z).1 (i b z).2).mpr ((g b z).mpr bB)]
  rfl
theorem zRc{C:Addr}{m:aq C}(g:Gr m n)(j:uV n m.fair)(c:aL n U):W (Fq m U) λR=>aL n R/\∀s,s∈R↔s∈U/\∃b∈U,Rg m.steps m.fair U b/\Rc m.steps U s b:=by
 unfold Fq
 have few:=g.few
 have Ul:U.length<=n.toNat:=wC c.nodup λx k=>by have:=c.2 x k;lia
 have q:=Rf g j c.2 (by lia)
 rw[Zq c,zC] at q
 rw[zC,zC,zC,zC,zC,zC]
 refine q.imp λa i=>?_
 rw[aj]
 refine i.imp λf G=>?_
 rw[aj,aj,aj]
 show W (wA m U f) _
 refine(zRd g c.2 ⟨G.nd,λx h=>c.2 x (G.sub x h)⟩).imp λR ⟨d,D,e⟩=>?_
 subst e
 exact⟨xS n _,JL D G c.2⟩
theorem JM{C:Addr}{m:aq C}(g:Gr m n):yX m=some (rng n):=by
 unfold yX
 rw[Zm g]
 have:=g.pos
 have:=g.few
 show TF n=_
 unfold TF
 rw[if_pos ⟨by lia,by omega⟩]
 rfl
theorem zY0(h:n<=60)(h0:0<=n):(rng n).length<=60:=by have:=Te h0;lia
theorem zVf{C:Addr}{m:aq C}(g:Gr m n){xs:LI}(a:xs.length<4000):wB m xs=some (pick n λz=>!decide (z∈xs)):=by
 unfold wB
 rw[JM g]
 have r:=zY0 g.few (by have:=g.pos;lia)
 show rK (rng n) xs=_
 unfold rK
 rw[if_pos ⟨by lia,a⟩]
 exact congrArg some (Zq (xS n _))
theorem JN(h:aL n xs)(Qm:n<=60):xs.length<=60:=by
 by_cases h0:0<=n
 ·have:=wC (n:=n.toNat) h.nodup λx b=>by have:=h.2 x b;lia
  lia
 ·cases xs with
  |nil=>grind
  |cons a l=>have:=h.2 a mem_cons_self;lia
theorem zJ9{ys:LI}(b:aL n xs)(a:n<=60)(c:ys.length<4000):wT xs ys=some (xs.filter λz=>decide (z∈ys)):=by
 rw[zNo (by have:=JN b a;lia) c]
 exact congrArg some (Zq ⟨b.1.filter _,λx h=>b.2 x (mem_filter.mp h).1⟩)
theorem zPf{ys:LI}(b:aL n xs)(a:n<=60)(c:ys.length<4000):QB xs ys=some (xs.filter λz=>!decide (z∈ys)):=by
 unfold QB rK
 rw[if_pos ⟨by have:=JN b a;lia,c⟩]
 exact congrArg some (Zq ⟨b.1.filter _,λx h=>b.2 x (mem_filter.mp h).1⟩)
theorem uD(n:Int):aL n (rng n):=⟨zYz n,λx a=>cU.mp a⟩
def into(xss:List LI)(G:LI)(s:Int):Bool:=(nxt xss s).any λt=>decide (t∈G)
theorem Rh{C:Addr}{m:aq C}(g:Gr m n)(h0:0<=s)(h:s<n){c:List Bool}(hl:(c.length:Int)=n)(hh:∀t:Int,0<=t->t<n->c.getD t.toNat false=decide (t∈G)):Wy m s c=some (into m.steps G s):=by
 unfold Wy
 obtain⟨f,e,xl,i⟩:=zNp g h0 h
 rw[e]
 have k:∀x∈f,0<=x/\x<n:=λx b=>by
  have d:=(i x).mp b
  have j:nxt m.steps s∈m.steps:=mem_of_getElem? (zS3 g.len h0 h)
  exact(g.row _ j).2.2 x d
 show((aO _ _ f).bind _)=_
 rw[Xc (p:=λ_=>true) (g:=λx=>decide (x∈G)) (yT (by lia)) (λ_ _=>rfl) (λx b=>?_)]
 ·show some _=some _
  congr 1
  rw[List.filter_eq_self.mpr (λ_ _=>rfl)]
  unfold into
  rw[acj,any_eq_true,any_eq_true]
  constructor
  ·grind
  ·rintro⟨x,b,e⟩
   exact⟨_,mem_map.mpr ⟨x,(i x).mpr b,rfl⟩,e⟩
 ·obtain⟨l,x1⟩:=k x b
  have q:W (aU c x) (· = decide (x∈G)):=by
   rw[dz l]
   grind
  obtain⟨a,o,r⟩:=q
  rw[o,r]
theorem zPg{C:Addr}{m:aq C}(g:Gr m n)(c:∀x∈G,0<=x/\x<n):uP m (rng n) G=some (pick n (into m.steps G)):=by
 unfold uP
 obtain⟨fl,e,d,b⟩:=zRa g c
 rw[e]
 have r:=zY0 g.few (by grind)
 show aO _ _ (rng n)=_
 rw[Xc (yT (by lia)) (λx f=>?_) (λ_ _=>rfl),map_id']
 ·rfl
 ·obtain⟨h,a⟩:=cU.mp f
  exact Rh g h a d b
theorem aai{α:Type}{m:Option α}{a:α}(h:m=some a):W m (· = a):=⟨a,h,rfl⟩
theorem j5{α:Type}{m:Option α}{a:α}(h:W m (· = a)):m=some a:=by obtain⟨b,e,rfl⟩:=h;exact e
theorem zH9{C:Addr}{m:aq C}(g:Gr m n)(a:aL n L)(b:aL n S):vI m L S=some (pick n (into m.steps (L.filter λz=>decide (z∈S)))):=by
 apply j5
 unfold vI
 rw[zC,zC,zC,JM g,aj,zC,zC,zJ9 a g.few (by have:=JN b g.few;lia),aj,aj,aj,aj]
 exact aai (zPg g λx c=>a.2 x (mem_filter.mp c).1)
theorem zp{α:Type}{pre:List α}{x:α}:L2.aU (pre++[x]) (-(1:Int))=some x:=by
 unfold L2.aU vp
 rw[if_neg (by decide),if_pos (by rw[length_append,length_singleton];lia)]
 show(pre++[x])[((-(1:Int))+((pre++[x]).length:Nat)).toNat]?=some x
 have e:((-(1:Int))+((pre++[x]).length:Nat)).toNat=pre.length:=by rw[length_append,length_singleton];lia
 rw[e,getElem?_append_right (aaz _),afb]
 rfl
theorem yP{α:Type}[Decidable c]{a b:Option α}{Q:α->Prop}(h:¬c)(q:W b Q):W (if c then a else b) Q:=by rw[if_neg h];exact q
theorem GF{α:Type}[Decidable c]{a b:Option α}{Q:α->Prop}(h:c)(q:W a Q):W (if c then a else b) Q:=by rw[if_pos h];exact q
inductive uw(xss:List LI)(U G:LI):Int->Prop
 |here {s:Int}:s∈G->uw xss U G s
 |on {s t:Int}:s∈U->t∈nxt xss s->uw xss U G t->uw xss U G s
theorem zZi{α β:Type}:∀{xs:List (α×β)}{a b:α×β},(xs.map (·.1)).Nodup->a∈xs->b∈xs->a.1=b.1->a=b
 |x::xs,a,b,nd,ha,hb,e=>by
  rw[map_cons,nodup_cons] at nd
  cases ha with
  |head=>cases hb with
   |head=>rfl
   |tail _ hb=>exact absurd (e▸mem_map.mpr ⟨_,hb,rfl⟩) nd.1
  |tail _ ha=>cases hb with
   |head=>exact absurd (e▸mem_map.mpr ⟨_,ha,rfl⟩) nd.1
   |tail _ hb=>exact zZi nd.2 ha hb e
theorem zPh{C:Addr}{m:aq C}(h0:0<=n)(Qm:n<=60)(hs:uI n m.marks)(x:Str):W (yO m x) λS=>aL n S/\∀s,s∈S↔∃mk∈m.marks,mk.1=x/\s∈mk.2:=by
 unfold yO
 rw[zC,zC,aj]
 refine zU7 (λi _=>∀mk∈m.marks.take i,mk.1≠x) (λmk h=>by simp at h) (λi mk _ hi hI=>?_) λ_ hI=>?_
 ·have mm:=mem_of_getElem? hi
  by_cases c:mk.1=x
  ·obtain⟨_,_,so⟩:=hs.2.2 mk mm
   have p:=wK mk.2
   rw[decide_eq_true c,if_pos rfl,zC]
   have r:=tu so Qm h0
   unfold jt
   rw[if_pos (by lia),aj,aj]
   refine .inr ⟨_,rfl,?_⟩
   show W (some (Ep mk.2)) _
   rw[aj]
   refine⟨⟨Tw (zFk _) (p.nodup_iff.mpr so.1),λy hy=>so.2.2 y (p.mem_iff.mp hy)⟩,λs=>⟨λh=>⟨mk,mm,c,p.mem_iff.mp h⟩,λ⟨mk',h1,h2,h3⟩=>?_⟩⟩
   rw[zZi hs.1 mm h1 (c.trans h2.symm)]
   exact(wK mk'.2).mem_iff.mpr h3
  ·rw[decide_eq_false c,if_neg (by decide),aj]
   refine .inl ⟨(),rfl,λmk' h=>?_⟩
   rw[take_add_one,hi,mem_append] at h
   rcases h with h|h
   ·exact hI mk' h
   ·have e:mk'=mk:=by simpa using h
    rw[e];exact c
 ·rw[take_length] at hI
  rw[Yv,aj]
  exact⟨zWc,λs=>⟨λh=>(by cases h),λ⟨mk,h1,h2,_⟩=>absurd h2 (hI mk h1)⟩⟩
section
variable{C:Addr}{cl:Hd->Addr}{m:aq C}{n:Int}
theorem xT(a:aL n L)(p:Int->Bool):aL n (L.filter p):=⟨a.1.filter p,λx b=>a.2 x (mem_filter.mp b).1⟩
def nt(n:Int)(S:LI):LI:=pick n λz=>!decide (z∈S)
def tg(n:Int)(A B:LI):LI:=pick n λz=>decide (z∈A)||decide (z∈B)
def sn(m:aq C)(n:Int)(L S:LI):LI:=pick n (into m.steps (L.filter λz=>decide (z∈S)))
def cm(m:aq C)(U G:LI):LI:=(wA m U G).getD []
def co(m:aq C)(U:LI):LI:=(Fq m U).getD []
def st(m:aq C)(L A B:LI):LI:=cm m A (L.filter λz=>decide (z∈B))
def Xd(n:Int)(L A B:LI):LI:=(L.filter λz=>decide (z∈nt n B)).filter λz=>!decide (z∈A)
def et(m:aq C)(n:Int)(L A B:LI):LI:=nt n (tg n (cm m (nt n B) (Xd n L A B)) (co m (nt n B)))
theorem Zr(g:Gr m n)(w:aL n U)(u:aL n G):wA m U G=some (cm m U G)/\aL n (cm m U G)/\∀s,s∈cm m U G↔0<=s/\s<n/\uw m.steps U G s:=by
 obtain⟨R,e,d,D,rfl⟩:=zRd g w.2 ⟨u.nodup,u.2⟩
 have o:cm m U G=pick n λs=>(dg d s).isSome:=by
  unfold cm
  rw[e]
  rfl
 refine⟨by rw[e,o],by rw[o];exact xS n _,λs=>?_⟩
 rw[o,dw]
 have l:∀(k:Nat)(s:Int),0<=s->s<n->dg d s=some (k:Int)->uw m.steps U G s:=by
  intro k
  induction k with
  |zero=>exactλs a b e=>.here ((D.zero s a b).mp e)
  |succ k ih =>
   intro s a b e
   by_cases r:s∈G
   ·exact .here r
   ·obtain⟨p,t,i,f,c,x⟩:=D.via s _ a b e r
    exact .on p i (ih t f c (by rw[x];exact congrArg some (by lia)))
 constructor
 ·rintro⟨a,b,q⟩
  obtain⟨k,e⟩:=abr.mp q
  have kp:=D.pos s k a b e
  exact⟨a,b,l k.toNat s a b (by rw[e];exact congrArg some (by lia))⟩
 ·rintro⟨a,b,h⟩
  refine⟨a,b,?_⟩
  induction h with
  |here h=>rw[(D.zero _ a b).mpr h];rfl
  |@on s t p i _ ih =>
   obtain⟨f,c⟩:=Gb g a b t i
   obtain⟨k,e⟩:=abr.mp (ih f c)
   obtain⟨j,v,_⟩:=D.near s t k a b f c p i e
   rw[v];rfl
theorem Uc(g:Gr m n)(c:uV n m.fair)(a:aL n U):Fq m U=some (co m U)/\aL n (co m U):=by
 obtain⟨R,e,h,_⟩:=zRc g c a
 have b:co m U=R:=by
  unfold co
  rw[e]
  rfl
 rw[b]
 exact⟨e,h⟩
theorem Ml(g:Gr m n)(a:aL n S):wB m S=some (nt n S):=zVf g (by have:=JN a g.few;lia)
theorem GJ(S:LI):aL n (nt n S):=xS n _
theorem Mp(g:Gr m n)(c:aL n A)(d:aL n B):QC A B=some (tg n A B):=by
 have la:=JN c g.few
 have lb:=JN d g.few
 have e:vY (A++B)=tg n A B:=Iu (Ir _) (xS n _).1 λs=>by
  rw[bG,mem_append]
  unfold tg
  rw[dw,adv,decide_eq_true_iff,decide_eq_true_iff]
  exact⟨λh=>h.elim (λa=>⟨(c.2 s a).1,(c.2 s a).2,.inl a⟩) λb=>⟨(d.2 s b).1,(d.2 s b).2,.inr b⟩,λh=>h.2.2⟩
 have lt:=JN (xS n λz=>decide (z∈A)||decide (z∈B)) g.few
 unfold QC Jd
 rw[e,if_pos ⟨by lia,by lia,by unfold tg;omega⟩]
theorem Gd(g:Gr m n)(a:aL n A)(b:aL n B):wT A B=some (A.filter λz=>decide (z∈B)):=zJ9 a g.few (by have:=JN b g.few;lia)
theorem Ud(g:Gr m n)(a:aL n L)(c:aL n A)(b:aL n B):wD m L A B=some (st m L A B)/\aL n (st m L A B):=by
 have q:=Zr g c (xT a λz=>decide (z∈B))
 refine⟨j5 ?_,q.2.1⟩
 unfold wD
 rw[zC,zC,zC,zC,Gd g a b,aj,aj,aj,aj]
 show W (wA m A _) _
 rw[q.1]
 exact aj.mpr rfl
theorem Mq(g:Gr m n)(h:uV n m.fair)(a:aL n L)(f:aL n A)(c:aL n B):vK m L A B=some (et m n L A B):=by
 apply j5
 have e:aL n (Xd n L A B):=xT (xT a _) _
 have d:=Zr g (GJ (n:=n) B) e
 have b:=Uc g h (GJ (n:=n) B)
 have lA:=JN f g.few
 have i:WM m L A B=some (Xd n L A B):=by
  apply j5
  unfold WM
  rw[zC,zC,zC,zC,zC,Ml g c,aj,aj,aj]
  show W (wT L (nt n B)) _
  rw[Gd g a (GJ B),aj,aj]
  show W (QB _ A) _
  rw[zPf (xT a _) g.few (by lia),aj]
  rfl
 unfold vK
 rw[zC,Ml g c,aj,zC,zC,zC,zC,zC,i,aj,aj,aj,aj]
 show W (wA m (nt n B) (Xd n L A B)) _
 rw[d.1,aj,zC,zC,zC,zC,zC,zC,b.1,aj,aj,aj]
 dsimp only
 rw[Mp g d.2.1 b.2,aj,aj,aj]
 dsimp only
 rw[Ml g (S:=tg n (cm m (nt n B) (Xd n L A B)) (co m (nt n B))) (xS n _)]
 exact aj.mpr rfl
def one(m:aq C)(n:Int)(L:LI)(i:Fin 7)(S:LI):LI :=
 if i=0 then nt n S else if i=1 then sn m n L S else if i=2 then nt n (sn m n L (nt n S)) else if i=3 then co m S else if i=4 then nt n (st m L (rng n) (nt n S)) else if i=5 then st m L (rng n) S else et m n L (rng n) S
def two(m:aq C)(n:Int)(L:LI)(i:Fin 4)(A B:LI):LI :=
 if i=0 then A.filter (λz=>decide (z∈B)) else if i=1 then tg n A B else if i=2 then st m L A B else et m n L A B
def vv(m:aq C)(n:Int)(L:LI):Tr->LI
 |.all=>rng n
 |.mark x=>(yO m x).getD []
 |.one i t=>one m n L i (vv m n L t)
 |.two i l r=>two m n L i (vv m n L l) (vv m n L r)
theorem f7:∀i:Fin 7,i=0\/i=1\/i=2\/i=3\/i=4\/i=5\/i=6:=by decide
theorem f4:∀i:Fin 4,i=0\/i=1\/i=2\/i=3:=by decide
theorem Zt(g:Gr m n)(hs:uI n m.marks)(x:Str):yO m x=some ((yO m x).getD [])/\aL n ((yO m x).getD [])/\∀s,s∈(yO m x).getD []↔∃mk∈m.marks,mk.1=x/\s∈mk.2:=by
 obtain⟨S,e,h1,h2⟩:=zPh (n:=n) (by have:=g.pos;lia) g.few hs x
 rw[e]
 exact⟨rfl,h1,h2⟩
theorem zWb(g:Gr m n)(b:uV n m.fair)(d:aL n L)(a:aL n S)(i:Fin 7):aL n (one m n L i S):=by
 have c:=uD n
 rcases f7 i with rfl|rfl|rfl|rfl|rfl|rfl|rfl
 ·exact xS n _
 ·exact xS n _
 ·exact xS n _
 ·exact(Uc g b a).2
 ·exact xS n _
 ·exact(Ud g d c a).2
 ·exact xS n _
theorem zWa(g:Gr m n)(c:aL n L)(a:aL n A)(b:aL n B)(i:Fin 4):aL n (two m n L i A B):=by
 rcases f4 i with rfl|rfl|rfl|rfl
 ·exact xT a _
 ·exact xS n _
 ·exact(Ud g c a b).2
 ·exact xS n _
theorem Dn(g:Gr m n)(hf:uV n m.fair)(hs:uI n m.marks)(hL:aL n L):∀t:Tr,aL n (vv m n L t)
 |.all=>uD n
 |.mark x=>(Zt g hs x).2.1
 |.one i t=>zWb g hf hL (Dn g hf hs hL t) i
 |.two i l r=>zWa g hL (Dn g hf hs hL l) (Dn g hf hs hL r) i
theorem Ri(g:Gr m n)(d:uV n m.fair)(b:aL n L)(a:aL n S)(i:Fin 7)(t:Tr):uR m L (bR.mk (cl:=cl) (.one i t)) [S]=some (one m n L i S):=by
 have c:=uD n
 apply j5
 unfold uR
 rcases f7 i with rfl|rfl|rfl|rfl|rfl|rfl|rfl
 ·refine(yP aay (yP aay (GF (by show decide ((0:Fin 7)=0)=true;decide) ?_)))
  rw[zC,zC,zC,dz (by decide)]
  refine⟨S,rfl,?_⟩
  rw[aj,aj]
  show W (wB m S) _
  rw[Ml g a]
  exact aj.mpr rfl
 ·refine(yP aay (yP aay (yP (by show¬decide ((1:Fin 7)=0)=true;decide) (yP aay (yP aay ?_)))))
  unfold zY
  refine(GF (by show decide ((1:Fin 7)=1)=true;decide) ?_)
  rw[zC,zC,zC,zC,dz (by decide)]
  refine⟨S,rfl,?_⟩
  rw[aj,aj,aj]
  show W (vI m L S) _
  rw[zH9 g b a]
  exact aj.mpr rfl
 ·refine(yP aay (yP aay (yP (by show¬decide ((2:Fin 7)=0)=true;decide) (yP aay (yP aay ?_)))))
  unfold zY
  refine(yP (by show¬decide ((2:Fin 7)=1)=true;decide) (GF (by show decide ((2:Fin 7)=2)=true;decide) ?_))
  rw[zC,zC,zC,zC,zC,zC,zC,zC,zC,zC,dz (by decide)]
  refine⟨S,rfl,?_⟩
  rw[aj,aj]
  show W (wB m S) _
  rw[Ml g a,aj,aj,aj,aj]
  show W (vI m L (nt n S)) _
  rw[zH9 g b (GJ S),aj,aj,aj]
  show W (wB m (sn m n L (nt n S))) _
  rw[Ml g (S:=sn m n L (nt n S)) (xS n _)]
  exact aj.mpr rfl
 ·refine(yP aay (yP aay (yP (by show¬decide ((3:Fin 7)=0)=true;decide) (yP aay (yP aay ?_)))))
  unfold zY
  refine(yP (by show¬decide ((3:Fin 7)=1)=true;decide) (yP (by show¬decide ((3:Fin 7)=2)=true;decide) (yP aay (yP aay (GF (by show decide ((3:Fin 7)=3)=true;decide) ?_)))))
  rw[zC,zC,zC,dz (by decide)]
  refine⟨S,rfl,?_⟩
  rw[aj,aj]
  show W (Fq m S) _
  rw[(Uc g d a).1]
  exact aj.mpr rfl
 ·refine(yP aay (yP aay (yP (by show¬decide ((4:Fin 7)=0)=true;decide) (yP aay (yP aay ?_)))))
  unfold zY
  refine(yP (by show¬decide ((4:Fin 7)=1)=true;decide) (yP (by show¬decide ((4:Fin 7)=2)=true;decide) (yP aay (yP aay (yP (by show¬decide ((4:Fin 7)=3)=true;decide) (GF (by show decide ((4:Fin 7)=4)=true;decide) ?_))))))
  rw[zC,zC,zC,zC,zC,zC,zC,JM g,aj]
  rw[zC,zC,zC,zC,zC,dz (by decide)]
  refine⟨S,rfl,?_⟩
  rw[aj,aj]
  show W (wB m S) _
  rw[Ml g a,aj,aj,aj,aj,aj]
  show W (wD m L (rng n) (nt n S)) _
  rw[(Ud g b c (GJ S)).1,aj,aj,aj]
  dsimp only
  rw[Ml g (Ud g b c (GJ S)).2]
  exact aj.mpr rfl
 ·refine(yP aay (yP aay (yP (by show¬decide ((5:Fin 7)=0)=true;decide) (yP aay (yP aay ?_)))))
  unfold zY
  refine(yP (by show¬decide ((5:Fin 7)=1)=true;decide) (yP (by show¬decide ((5:Fin 7)=2)=true;decide) (yP aay (yP aay (yP (by show¬decide ((5:Fin 7)=3)=true;decide) (yP (by show¬decide ((5:Fin 7)=4)=true;decide) (GF (by show decide ((5:Fin 7)=5)=true;decide) ?_)))))))
  rw[zC,zC,zC,zC,JM g,aj]
  rw[zC,zC,dz (by decide)]
  refine⟨S,rfl,?_⟩
  rw[aj,aj,aj,aj]
  show W (wD m L (rng n) S) _
  rw[(Ud g b c a).1]
  exact aj.mpr rfl
 ·refine(yP aay (yP aay (yP (by show¬decide ((6:Fin 7)=0)=true;decide) (yP aay (yP aay ?_)))))
  unfold zY
  refine(yP (by show¬decide ((6:Fin 7)=1)=true;decide) (yP (by show¬decide ((6:Fin 7)=2)=true;decide) (yP aay (yP aay (yP (by show¬decide ((6:Fin 7)=3)=true;decide) (yP (by show¬decide ((6:Fin 7)=4)=true;decide) (yP (by show¬decide ((6:Fin 7)=5)=true;decide) ?_)))))))
  rw[zC,zC,zC,zC,JM g,aj]
  rw[zC,zC,dz (by decide)]
  refine⟨S,rfl,?_⟩
  rw[aj,aj,aj,aj]
  show W (vK m L (rng n) S) _
  rw[Mq g d b c a]
  exact aj.mpr rfl
theorem Rj(g:Gr m n)(d:uV n m.fair)(c:aL n L)(a:aL n A)(b:aL n B)(i:Fin 4)(l r:Tr):uR m L (bR.mk (cl:=cl) (.two i l r)) [A,B]=some (two m n L i A B):=by
 apply j5
 unfold uR
 rcases f4 i with rfl|rfl|rfl|rfl
 ·refine(yP aay (yP aay (yP aay (GF (by show decide ((0:Fin 4)=0)=true;decide) ?_))))
  rw[zC,zC,dz (by decide)]
  refine⟨A,rfl,?_⟩
  rw[zC,zC,dz (by decide)]
  refine⟨B,rfl,?_⟩
  rw[aj,aj]
  show W (wT A B) _
  rw[Gd g a b]
  exact aj.mpr rfl
 ·refine(yP aay (yP aay (yP aay (yP (by show¬decide ((1:Fin 4)=0)=true;decide) (GF (by show decide ((1:Fin 4)=1)=true;decide) ?_)))))
  rw[zC,zC,dz (by decide)]
  refine⟨A,rfl,?_⟩
  rw[zC,zC,dz (by decide)]
  refine⟨B,rfl,?_⟩
  rw[aj,aj]
  show W (QC A B) _
  rw[Mp g a b]
  exact aj.mpr rfl
 ·refine(yP aay (yP aay (yP aay (yP (by show¬decide ((2:Fin 4)=0)=true;decide) (yP (by show¬decide ((2:Fin 4)=1)=true;decide) ?_)))))
  unfold zY
  refine(yP aay (yP aay (GF (by show decide ((2:Fin 4)=2)=true;decide) ?_)))
  rw[zC,zC,zC,zC,dz (by decide)]
  refine⟨A,rfl,?_⟩
  rw[zC,zC,dz (by decide)]
  refine⟨B,rfl,?_⟩
  rw[aj,aj,aj,aj]
  show W (wD m L A B) _
  rw[(Ud g c a b).1]
  exact aj.mpr rfl
 ·refine(yP aay (yP aay (yP aay (yP (by show¬decide ((3:Fin 4)=0)=true;decide) (yP (by show¬decide ((3:Fin 4)=1)=true;decide) ?_)))))
  unfold zY
  refine(yP aay (yP aay (yP (by show¬decide ((3:Fin 4)=2)=true;decide) (GF (by show decide ((3:Fin 4)=3)=true;decide) ?_))))
  rw[zC,zC,zC,zC,dz (by decide)]
  refine⟨A,rfl,?_⟩
  rw[zC,zC,dz (by decide)]
  refine⟨B,rfl,?_⟩
  rw[aj,aj,aj,aj]
  show W (vK m L A B) _
  rw[Mq g d c a b]
  exact aj.mpr rfl
theorem Xe(g:Gr m n)(hf:uV n m.fair)(hs:uI n m.marks)(hL:aL n L)(t:Tr):uR m L (bR.mk (cl:=cl) t) ((Ak t).map (vv m n L))=some (vv m n L t):=by
 cases t with
 |all =>
  show yX m=_
  exact JM g
 |mark x =>
  show yO m x=_
  exact(Zt g hs x).1
 |one i t=>exact Ri g hf hL (Dn g hf hs hL t) i t
 |two i l r=>exact Rj g hf hL (Dn g hf hs hL l) (Dn g hf hs hL r) i l r
theorem w_tab(g:Gr m n)(hf:uV n m.fair)(hs:uI n m.marks)(hL:aL n L):∀(k:Nat)(t:Tr),t.depth<k->k<=9->W (wS k m L (bR.mk (cl:=cl) t)) λT=>∃pre,T=pre++[vv m n L t]/\T.length<2^k
 |0,t,h,_=>absurd h (adw _)
 |k+1,t,h,h9=>by
  show W (uM (wS k) m L _) _
  unfold uM
  rw[zC,aj,zC,aj,zC,zC,aj]
  show W (xW _ ((Ak t).map bR.mk) _) _
  have p9:2^k<=2^8:=Nat.pow_le_pow_right (by decide) (by lia)
  have p9':2^k<=256:=p9
  have p1:1<=2^k:=Nat.one_le_two_pow
  have l2:(Ak t).length<=2:=by cases t<;>simp[Ak]
  refine vE (λi z=>z.1.length<=i*(2^k-1)/\z.2=((Ak t).take i).map (vv m n L)) ⟨abl _,rfl⟩ (λi x z hi hz=>?_) λz hz=>?_
  ·obtain⟨z1,z2⟩:=hz
   rw[getElem?_map] at hi
   obtain⟨u,hu,rfl⟩:=Option.map_eq_some_iff.mp hi
   have il:i<2:=by
    have:=(aa0.mp hu).1
    lia
   have du:=zSi (mem_of_getElem? hu)
   have im:i*(2^k-1)<=1*255:=Nat.mul_le_mul (by lia) (by lia)
   rw[zC,zC]
   refine(w_tab g hf hs hL k u (by lia) (by lia)).imp ?_
   rintro T ⟨pre,e,hl⟩
   subst e
   unfold Ez
   rw[if_pos (yT (by lia)),aj,zC,zC]
   show W (L2.aU (z.1++(pre++[vv m n L u])) (-(1:Int))) _
   rw[<-append_assoc,zp,aj,z2,Cd]
   refine⟨yT (by rw[length_map,length_take];lia),?_⟩
   rw[aj]
   refine⟨?_,?_⟩
   ·show((z.1++pre)++[vv m n L u]).length<=(i+1)*(2^k-1)
    rw[append_assoc,length_append,Nat.succ_mul]
    lia
   ·show((Ak t).take i).map (vv m n L)++[vv m n L u]=_
    rw[take_add_one,hu,map_append]
    rfl
  ·obtain⟨told,sets⟩:=z
   obtain⟨z1,z2⟩:=hz
   rw[length_map] at z1 z2
   rw[take_length] at z2
   have z2:sets=(Ak t).map (vv m n L):=z2
   have z1:told.length<=(Ak t).length*(2^k-1):=z1
   have zm:(Ak t).length*(2^k-1)<=2*(2^k-1):=Nat.mul_le_mul_right _ l2
   subst z2
   rw[zC,zC]
   show W (uR m L (bR.mk (cl:=cl) t) ((Ak t).map (vv m n L))) _
   rw[Xe g hf hs hL t,aj,Cd]
   refine⟨yT (by show told.length<=1000;lia),?_⟩
   rw[aj]
   refine⟨told,rfl,?_⟩
   show(told++[_]).length<2^(k+1)
   rw[length_append,Nat.pow_succ]
   show told.length+1<_
   lia
theorem zYf(g:Gr m n)(hf:uV n m.fair)(hs:uI n m.marks)(hL:aL n L)(eL:T5 m=some L){t:Tr}(hd:t.depth<9):Jy m (bR.mk (cl:=cl) t)=some (vv m n L t):=by
 apply j5
 unfold Jy Zh
 rw[zC,zC,zC,zC,eL,aj,aj,aj]
 show W (wS 9 m L (bR.mk t)) _
 refine(w_tab g hf hs hL 9 t hd (by decide)).imp ?_
 rintro T ⟨pre,e,_⟩
 subst e
 rw[zp,aj]
end
section
variable{C:Addr}{cl:Hd->Addr}{m:aq C}{n:Int}{L:LI}
theorem zZj:s∈nt n S↔0<=s/\s<n/\s∉S:=by
 unfold nt
 rw[dw]
 simp
theorem zYi(i:Fin 7)(t:Tr):vv m n L (.one i t)=one m n L i (vv m n L t):=by rw[vv]
theorem zYh(i:Fin 4)(l r:Tr):vv m n L (.two i l r)=two m n L i (vv m n L l) (vv m n L r):=by rw[vv]
theorem zYj:vv m n L .all=rng n:=by rw[vv]
theorem on0(S:LI):one m n L 0 S=nt n S:=by unfold one;grind
theorem on1(S:LI):one m n L 1 S=sn m n L S:=by unfold one;grind
theorem on2(S:LI):one m n L 2 S=nt n (sn m n L (nt n S)):=by unfold one;grind
theorem on3(S:LI):one m n L 3 S=co m S:=by unfold one;grind
theorem on4(S:LI):one m n L 4 S=nt n (st m L (rng n) (nt n S)):=by unfold one;grind
theorem on5(S:LI):one m n L 5 S=st m L (rng n) S:=by unfold one;grind
theorem on6(S:LI):one m n L 6 S=et m n L (rng n) S:=by unfold one;grind
theorem tw0(A B:LI):two m n L 0 A B=A.filter (λz=>decide (z∈B)):=by unfold two;grind
theorem tw1(A B:LI):two m n L 1 A B=tg n A B:=by unfold two;grind
theorem tw2(A B:LI):two m n L 2 A B=st m L A B:=by unfold two;grind
theorem tw3(A B:LI):two m n L 3 A B=et m n L A B:=by unfold two;grind
end
theorem zZ2{C:Addr}{m:aq C}(g:Gr m n)(hf:uV n m.fair)(hU:aL n U)(s:Int):s∈co m U↔s∈U/\∃b∈U,Rg m.steps m.fair U b/\Rc m.steps U s b:=by
 obtain⟨R,e,_,h⟩:=zRc g hf hU
 have ec:co m U=R:=by
  unfold co
  rw[e]
  rfl
 rw[ec]
 exact h s
theorem Mr{C:Addr}{m:aq C}(g:Gr m n)(hf:uV n m.fair):T5 m=some (co m (rng n)):=by
 apply j5
 unfold T5
 rw[zC,zC,zC,JM g,aj,aj,aj]
 show W (Fq m (rng n)) _
 rw[(Uc g hf (uD n)).1]
 exact aj.mpr rfl
structure Alike{C:Addr}(m f:aq C)(n M:Int)(q:Int->Int):Prop where
 g:Gr m n
 h:Gr f M
 hf:uV n m.fair
 hF:uV M f.fair
 hm:uI n m.marks
 hM:uI M f.marks
 rg:∀s,0<=s->s<n->0<=q s/\q s<M
 fwd:∀s t,0<=s->s<n->t∈nxt m.steps s->q t∈nxt f.steps (q s)
 bwd:∀s k,0<=s->s<n->k∈nxt f.steps (q s)->∃t∈nxt m.steps s,q t=k
 mks:∀x s,0<=s->s<n->((∃p∈m.marks,p.1=x/\s∈p.2)↔∃p∈f.marks,p.1=x/\q s∈p.2)
 ff:∀F∈m.fair,∃F'∈f.fair,∀s,0<=s->s<n->(s∈F↔q s∈F')
 fb:∀F'∈f.fair,∃F∈m.fair,∀s,0<=s->s<n->(s∈F↔q s∈F')
def gZ(n:Int)(q:Int->Int)(A B:LI):Prop:=∀s,0<=s->s<n->(s∈A↔q s∈B)
section
variable{C:Addr}{cl:Hd->Addr}{m f:aq C}{n M:Int}{q:Int->Int}
theorem zVp(a:Alike m f n M q)(hU:gZ n q U U')(hG:gZ n q G G')(h:uw m.steps U G s):0<=s->s<n->uw f.steps U' G' (q s):=by
 induction h with
 |here h=>exactλs0 s1=>.here ((hG _ s0 s1).mp h)
 |@on s t sU tn _ ih =>
  intro s0 s1
  obtain⟨t0,t1⟩:=Gb a.g s0 s1 t tn
  exact .on ((hU s s0 s1).mp sU) (a.fwd s t s0 s1 tn) (ih t0 t1)
theorem zVq(a:Alike m f n M q)(hU:gZ n q U U')(hG:gZ n q G G')(h:uw f.steps U' G' k):∀s,0<=s->s<n->q s=k->uw m.steps U G s:=by
 induction h with
 |here h=>exactλs s0 s1 e=>.here ((hG s s0 s1).mpr (e▸h))
 |on kU tn _ ih =>
  intro s s0 s1 e
  subst e
  obtain⟨t,tm,e⟩:=a.bwd s _ s0 s1 tn
  obtain⟨t0,t1⟩:=Gb a.g s0 s1 t tm
  exact .on ((hU s s0 s1).mpr kU) tm (ih t t0 t1 e)
theorem zZ3(a:Alike m f n M q)(hU:gZ n q U U')(hG:gZ n q G G')(r1:aL n U)(r2:aL n G)(r3:aL M U')(r4:aL M G'):gZ n q (cm m U G) (cm f U' G'):=λs s0 s1=>by
 rw[(Zr a.g r1 r2).2.2,(Zr a.h r3 r4).2.2]
 exact⟨λh=>⟨(a.rg s s0 s1).1,(a.rg s s0 s1).2,zVp a hU hG h.2.2 s0 s1⟩,λh=>⟨s0,s1,zVq a hU hG h.2.2 s s0 s1 rfl⟩⟩
theorem zSe(a:Alike m f n M q)(hU:gZ n q U U')(rU:aL n U)(s0:0<=s)(s1:s<n)(h:Rc m.steps U s t):(0<=t/\t<n)/\Rc f.steps U' (q s) (q t):=by
 induction h with
 |here=>exact⟨⟨s0,s1⟩,.here⟩
 |@on t u _ tn uU ih =>
  obtain⟨⟨t0,t1⟩,r⟩:=ih
  obtain⟨u0,u1⟩:=rU.2 u uU
  exact⟨⟨u0,u1⟩,.on r (a.fwd t u t0 t1 tn) ((hU u u0 u1).mp uU)⟩
theorem zMl(a:Alike m f n M q)(hU:gZ n q U U')(s0:0<=s)(s1:s<n)(h:Rc f.steps U' (q s) k):∃t,(0<=t/\t<n)/\q t=k/\Rc m.steps U s t:=by
 induction h with
 |here=>exact⟨s,⟨s0,s1⟩,rfl,.here⟩
 |on _ tn uU ih =>
  obtain⟨t,⟨t0,t1⟩,rfl,r⟩:=ih
  obtain⟨u,um,rfl⟩:=a.bwd t _ t0 t1 tn
  obtain⟨u0,u1⟩:=Gb a.g t0 t1 u um
  exact⟨u,⟨u0,u1⟩,rfl,.on r um ((hU u u0 u1).mpr uU)⟩
theorem JQ(a:Alike m f n M q)(hU:gZ n q U U')(rU:aL n U)(h:iV m.steps U s t):0<=s->s<n->iV f.steps U' (q s) (q t):=by
 induction h with
 |@one s t tn tU=>exactλs0 s1=>.one (a.fwd s t s0 s1 tn) ((hU t (rU.2 t tU).1 (rU.2 t tU).2).mp tU)
 |@step s u t un uU _ ih=>exactλs0 s1=>.step (a.fwd s u s0 s1 un) ((hU u (rU.2 u uU).1 (rU.2 u uU).2).mp uU) (ih (rU.2 u uU).1 (rU.2 u uU).2)
theorem zWh(a:Alike m f n M q)(hU:gZ n q U U')(h:iV f.steps U' k j):∀s,0<=s->s<n->q s=k->∃t,(0<=t/\t<n)/\q t=j/\iV m.steps U s t:=by
 induction h with
 |one tn tU =>
  intro s s0 s1 e
  subst e
  obtain⟨t,tm,rfl⟩:=a.bwd s _ s0 s1 tn
  obtain⟨t0,t1⟩:=Gb a.g s0 s1 t tm
  exact⟨t,⟨t0,t1⟩,rfl,.one tm ((hU t t0 t1).mpr tU)⟩
 |step un uU _ ih =>
  intro s s0 s1 e
  subst e
  obtain⟨u,um,e⟩:=a.bwd s _ s0 s1 un
  obtain⟨u0,u1⟩:=Gb a.g s0 s1 u um
  obtain⟨t,ht,e2,p⟩:=ih u u0 u1 e
  exact⟨t,ht,e2,.step um ((hU u u0 u1).mpr (e▸uU)) p⟩
theorem Rk(h:iV xss U s t)(k:Rc xss U t u):iV xss U s u:=by
 rcases k.pth with e|p
 ·grind
 ·exact h.trans p
theorem zSj(h:iV xss U s t):t∈U:=by
 induction h with
 |one _ h=>exact h
 |step _ _ _ ih=>exact ih
def Ge(m:aq C)(U:LI)(b d:Int):Prop:=iV m.steps U b d/\∀F∈m.fair,∃x∈F,Rc m.steps U b x/\Rc m.steps U x d
theorem Ge.trans(h:Ge m U b d)(k:Ge m U d e):Ge m U b e:=⟨h.1.trans k.1,λF hF=>by
 obtain⟨x,xF,r1,r2⟩:=h.2 F hF
 exact⟨x,xF,r1,r2.trans k.1.rc⟩⟩
theorem zV9(a:Alike m f n M q)(hU:gZ n q U U')(B:Rg f.steps f.fair U' b')(b0:0<=b)(b1:b<n)(e:q b=b'):∃d,(0<=d/\d<n)/\q d=b'/\Ge m U b d:=by
 have key:∀l:List LI,(∀F∈l,F∈m.fair)->∃d,(0<=d/\d<n)/\q d=b'/\iV m.steps U b d/\∀F∈l,∃x∈F,Rc m.steps U b x/\Rc m.steps U x d:=by
  intro l
  induction l with
  |nil =>
   intro _
   obtain⟨d,hd,e2,p⟩:=zWh a hU B.1 b b0 b1 e
   grind
  |cons F l ih =>
   intro hl
   obtain⟨d,⟨d0,d1⟩,e2,p,hr⟩:=ih λF' h=>hl F' (mem_cons_of_mem _ h)
   obtain⟨F',hF',c⟩:=a.ff F (hl F mem_cons_self)
   obtain⟨x',xF,r1,r2⟩:=B.2 F' hF'
   obtain⟨x,⟨x0,x1⟩,ex,rx⟩:=zMl a hU (s:=d) d0 d1 (by rw[e2];exact r1)
   obtain⟨y,hy,ey,ry⟩:=zMl a hU (s:=x) x0 x1 (by rw[ex];exact r2)
   refine⟨y,hy,ey,Rk p (rx.trans ry),λG hG=>?_⟩
   rcases mem_cons.mp hG with rfl|hG
   ·exact⟨x,(c x x0 x1).mpr (ex▸xF),p.rc.trans rx,ry⟩
   ·obtain⟨z,zG,z1,z2⟩:=hr G hG
    exact⟨z,zG,z1,z2.trans (rx.trans ry)⟩
 obtain⟨d,hd,e2,p,hr⟩:=key m.fair λ_ h=>h
 exact⟨d,hd,e2,p,hr⟩
theorem twice(g:Nat->Int){U:LI}(h:∀i,g i∈U):∃i j,i<j/\g i=g j:=ab9 λne=>by
 have nd:((abb (U.length+1)).map g).Nodup:=by
  unfold List.Nodup
  rw[pairwise_map]
  refine Pairwise.imp (λ{i j} hij e=>ne ⟨i,j,hij,e⟩) pairwise_lt_range
 have:=Gy nd λz hz=>by
  obtain⟨i,_,rfl⟩:=mem_map.mp hz
  exact h i
 grind
theorem zU0(a:Alike m f n M q)(hU:gZ n q U U')(B:Rg f.steps f.fair U' b')(b0:0<=b)(b1:b<n)(e:q b=b'):∃d,Rg m.steps m.fair U d/\Rc m.steps U b d/\d∈U:=by
 have st:∀x:{ b:Int // (0<=b/\b<n)/\q b=b' },∃y:{ b:Int // (0<=b/\b<n)/\q b=b' },Ge m U x.1 y.1:=by
  rintro⟨x,⟨x0,x1⟩,ex⟩
  obtain⟨d,hd,e2,r⟩:=zV9 a hU B x0 x1 ex
  exact⟨⟨d,hd,e2⟩,r⟩
 let nx:=λx=>Classical.choose (st x)
 have hn:∀x,Ge m U x.1 (nx x).1:=λx=>Classical.choose_spec (st x)
 let w:Nat->{ b:Int // (0<=b/\b<n)/\q b=b' }:=λi=>Nat.rec (nx ⟨b,⟨b0,b1⟩,e⟩) (λ_ x=>nx x) i
 have ws:∀i,Ge m U (w i).1 (w (i+1)).1:=λi=>hn (w i)
 have wr:∀i d,Ge m U (w i).1 (w (i+d+1)).1:=λi d=>by
  induction d with
  |zero=>exact ws i
  |succ d ih=>exact ih.trans (ws (i+d+1))
 have w0:Ge m U b (w 0).1:=hn ⟨b,⟨b0,b1⟩,e⟩
 have wb:∀i,Ge m U b (w i).1:=λi=>by
  induction i with
  |zero=>exact w0
  |succ i ih=>exact ih.trans (ws i)
 obtain⟨i,j,hij,eq⟩:=twice (λi=>(w i).1) (U:=U) λi=>zSj (wb i).1
 have eq:(w i).1=(w j).1:=eq
 have r:=wr i (j-i-1)
 rw[show i+(j-i-1)+1=j by omega,<-eq] at r
 exact⟨(w i).1,r,(wb i).1.rc,zSj (wb i).1⟩
theorem zUq(a:Alike m f n M q)(hU:gZ n q U U')(r1:aL n U)(r2:aL M U'):gZ n q (co m U) (co f U'):=λs s0 s1=>by
 rw[zZ2 a.g a.hf r1,zZ2 a.h a.hF r2]
 constructor
 ·rintro⟨sU,b,bU,B,r⟩
  obtain⟨b0,b1⟩:=r1.2 b bU
  refine⟨(hU s s0 s1).mp sU,q b,(hU b b0 b1).mp bU,⟨JQ a hU r1 B.1 b0 b1,λF' hF'=>?_⟩,(zSe a hU r1 s0 s1 r).2⟩
  obtain⟨F,hF,c⟩:=a.fb F' hF'
  obtain⟨x,xF,x1,x2⟩:=B.2 F hF
  obtain⟨⟨x0,x3⟩,y1⟩:=zSe a hU r1 b0 b1 x1
  exact⟨q x,(c x x0 x3).mp xF,y1,(zSe a hU r1 x0 x3 x2).2⟩
 ·rintro⟨sU,b',bU,B,r⟩
  obtain⟨b,⟨b0,b1⟩,e,rb⟩:=zMl a hU s0 s1 r
  obtain⟨d,D,rd,dU⟩:=zU0 a hU B b0 b1 e
  exact⟨(hU s s0 s1).mpr sU,d,dU,D,rb.trans rd⟩
theorem Rm(a:Alike m f n M q)(h:gZ n q A A'):gZ n q (nt n A) (nt M A'):=λs s0 s1=>by
 rw[zZj,zZj,h s s0 s1]
 exact⟨λz=>⟨(a.rg s s0 s1).1,(a.rg s s0 s1).2,z.2.2⟩,λz=>⟨s0,s1,z.2.2⟩⟩
theorem Zu(h:gZ n q A A')(k:gZ n q B B'):gZ n q (A.filter λz=>decide (z∈B)) (A'.filter λz=>decide (z∈B')):=λs s0 s1=>by
 rw[mem_filter,mem_filter,decide_eq_true_iff,decide_eq_true_iff,h s s0 s1,k s s0 s1]
theorem zXb(h:gZ n q A A')(k:gZ n q B B'):gZ n q (A.filter λz=>!decide (z∈B)) (A'.filter λz=>!decide (z∈B')):=λs s0 s1=>by
 rw[mem_filter,mem_filter,h s s0 s1]
 simp only[k s s0 s1]
theorem zYm(a:Alike m f n M q)(h:gZ n q A A')(k:gZ n q B B'):gZ n q (tg n A B) (tg M A' B'):=λs s0 s1=>by
 unfold tg
 rw[dw,dw,adv,adv,decide_eq_true_iff,decide_eq_true_iff,decide_eq_true_iff,decide_eq_true_iff,h s s0 s1,k s s0 s1]
 exact⟨λz=>⟨(a.rg s s0 s1).1,(a.rg s s0 s1).2,z.2.2⟩,λz=>⟨s0,s1,z.2.2⟩⟩
theorem zYt(a:Alike m f n M q)(hL:gZ n q L L')(h:gZ n q A A'):gZ n q (sn m n L A) (sn f M L' A'):=λs s0 s1=>by
 have c:=Zu hL h
 unfold sn into
 rw[dw,dw,any_eq_true,any_eq_true]
 constructor
 ·rintro⟨_,_,t,tn,z⟩
  obtain⟨t0,t1⟩:=Gb a.g s0 s1 t tn
  exact⟨(a.rg s s0 s1).1,(a.rg s s0 s1).2,q t,a.fwd s t s0 s1 tn,decide_eq_true ((c t t0 t1).mp (of_decide_eq_true z))⟩
 ·rintro⟨_,_,k,kn,z⟩
  obtain⟨t,tn,rfl⟩:=a.bwd s k s0 s1 kn
  obtain⟨t0,t1⟩:=Gb a.g s0 s1 t tn
  exact⟨s0,s1,t,tn,decide_eq_true ((c t t0 t1).mpr (of_decide_eq_true z))⟩
theorem Xf(a:Alike m f n M q):gZ n q (rng n) (rng M):=λs s0 s1=>by
 rw[cU,cU]
 exact⟨λ_=>a.rg s s0 s1,λ_=>⟨s0,s1⟩⟩
theorem zRs(a:Alike m f n M q)(hL:gZ n q L L')(h:gZ n q A A')(k:gZ n q B B')(l1:aL n L)(l2:aL M L')(r1:aL n A)(r2:aL M A'):gZ n q (st m L A B) (st f L' A' B'):=zZ3 a h (Zu hL k) r1 (xT l1 _) r2 (xT l2 _)
theorem zZx(a:Alike m f n M q)(hL:gZ n q L L')(h:gZ n q A A')(k:gZ n q B B')(l1:aL n L)(l2:aL M L'):gZ n q (et m n L A B) (et f M L' A' B'):=by
 have kN:=Rm a k
 exact Rm a (zYm a (zZ3 a kN (zXb (Zu hL kN) h) (GJ _) (xT (xT l1 _) _) (GJ _) (xT (xT l2 _) _)) (zUq a kN (GJ _) (GJ _)))
theorem Zv(a:Alike m f n M q)(hL:gZ n q L L')(l1:aL n L)(l2:aL M L'):∀t:Tr,gZ n q (vv m n L t) (vv f M L' t)
 |.all=>by rw[zYj,zYj];exact Xf a
 |.mark x=>λs s0 s1=>by
  rw[vv,vv,(Zt a.g a.hm x).2.2,(Zt a.h a.hM x).2.2]
  exact a.mks x s s0 s1
 |.one i t=>by
  have ih:=Zv a hL l1 l2 t
  have r:=Dn a.g a.hf a.hm l1 t
  have r':=Dn a.h a.hF a.hM l2 t
  rw[zYi,zYi]
  rcases f7 i with rfl|rfl|rfl|rfl|rfl|rfl|rfl
  ·rw[on0,on0];exact Rm a ih
  ·rw[on1,on1];exact zYt a hL ih
  ·rw[on2,on2];exact Rm a (zYt a hL (Rm a ih))
  ·rw[on3,on3];exact zUq a ih r r'
  ·rw[on4,on4];exact Rm a (zRs a hL (Xf a) (Rm a ih) l1 l2 (uD _) (uD _))
  ·rw[on5,on5];exact zRs a hL (Xf a) ih l1 l2 (uD _) (uD _)
  ·rw[on6,on6];exact zZx a hL (Xf a) ih l1 l2
 |.two i l r=>by
  have il:=Zv a hL l1 l2 l
  have ir:=Zv a hL l1 l2 r
  rw[zYh,zYh]
  rcases f4 i with rfl|rfl|rfl|rfl
  ·rw[tw0,tw0];exact Zu il ir
  ·rw[tw1,tw1];exact zYm a il ir
  ·rw[tw2,tw2];exact zRs a hL il ir l1 l2 (Dn a.g a.hf a.hm l1 l) (Dn a.h a.hF a.hM l2 l)
  ·rw[tw3,tw3];exact zZx a hL il ir l1 l2
end
theorem Rn:W (jt ns) Q↔ns.length<64/\Q (Ep ns):=by
 unfold jt
 split
 ·rw[aj];grind
 ·rw[Em];grind
def resv:List Str:=["all","not","both","either","somenext","eachnext","sometill","eachtill","someever","eachever"]
theorem JR:∀i,i<26->(("abcdefghijklmnopqrstuvwxyz":Str).cps)[i]?=some (97+i):=by decide +kernel
theorem JT:∀i,i<26->Yz ⟨#[97+i]⟩ ("abcdefghijklmnopqrstuvwxyz":Str)=true:=by decide +kernel
theorem zX5:("abcdefghijklmnopqrstuvwxyz":Str).length=26:=by decide +kernel
theorem zOk(x:Int):Jg ("abcdefghijklmnopqrstuvwxyz":Str) (x%26)=some ⟨#[97+(x%26).toNat]⟩:=by
 have h0:0<=x%26/\x%26<26:=by lia
 unfold Jg
 rw[if_pos ⟨h0.1,by lia,by rw[zX5];exact h0.2⟩,JR _ (by lia)]
 rfl
theorem JV(a b:Str):(a++b).cps=a.cps++b.cps:=by
 first
  |rfl
  |grind
def g8(l:List Nat):Str:=⟨l.toArray⟩
theorem Ro{x:Str}(h:x.cps.toList=l):x=g8 l:=by
 unfold g8
 rw[<-h]
theorem JW(a b:List Nat):g8 a++g8 b=g8 (a++b):=Ro (by rw[JV];unfold g8;simp)
theorem zS5(l:List Nat):(g8 l).length=l.length:=by
 show l.toArray.size=_
 grind
theorem zS6(h:g8 a=g8 b):a=b:=by
 have h:a.toArray=b.toArray:=congrArg Str.cps h
 grind
theorem Zw{α β:Type}{c:α->Option Bool}{f:α->Option β}{g:α->β}:∀{xs:List α},(∀x∈xs,c x=some true)->(∀x∈xs,f x=some (g x))->vO c f xs=some (xs.map g)
 |[],_,_=>rfl
 |x::xs,hc,hf=>by
  have ih:=Zw (λy hy=>hc y (mem_cons_of_mem _ hy)) (λy hy=>hf y (mem_cons_of_mem _ hy))
  show(c x).bind _=_
  grind
theorem zTs{l:List Nat}(h1:1<=l.length)(h8:l.length<=8)(hl:∀x∈l,∃i,i<26/\x=97+i)(hr:g8 l∉resv):Qw (g8 l)=some true:=by
 have ln:=zS5 l
 unfold resv at hr
 apply j5
 unfold Qw
 rw[zC,if_neg (by decide),aj,if_neg (λz=>hr (of_decide_eq_true z)),zC,zC]
 unfold Er
 rw[if_pos (yT (by lia)),aj,decide_eq_true (by lia),if_pos rfl,aj,decide_eq_true (by lia),if_pos rfl,zC,zC,aj]
 have ls:K8 (g8 l)=l.map λc=>(⟨#[c]⟩:Str):=by
  unfold K8 g8
  rfl
 have e:aO (λ(_:Str)=>some true) (λ(x2:Str)=>some (Yz x2 ("abcdefghijklmnopqrstuvwxyz":Str))) (K8 (g8 l))=some ((K8 (g8 l)).map λ_=>true):=by
  unfold aO
  rw[if_pos (by rw[ls,length_map];exact yT (by lia))]
  refine Zw (λ_ _=>rfl) λx hx=>?_
  rw[ls] at hx
  obtain⟨y,hy,rfl⟩:=mem_map.mp hx
  obtain⟨i,hi,rfl⟩:=hl y hy
  rw[JT i hi]
 rw[e,aj,aj,all_eq_true]
 intro x hx
 obtain⟨y,_,rfl⟩:=mem_map.mp hx
 rfl
theorem zNk{a b:List Nat}(h:a.length+b.length<=1000):pP (g8 a) (g8 b)=some (g8 (a++b)):=by
 unfold pP
 rw[if_pos (by exact h),JW]
section
variable{κ:Type}[DecidableEq κ]
theorem zOy:∀(ks acc:List κ),acc.Nodup->(dd acc ks).Nodup
 |[],acc,h=>h
 |k::ks,acc,h=>by
  refine zOy ks _ ?_
  grind
theorem zUl:∀{ks acc:List κ}{k:κ},k∈dd acc ks->k∈acc\/k∈ks
 |[],acc,k,h=>.inl h
 |k'::ks,acc,k,h=>by
  have h:k∈dd (if k'∈acc then acc else acc++[k']) ks:=h
  rcases zUl h with z|z
  ·grind
  grind
def ng(ns:LI)(i:Nat):Int:=ns.getD i 0
theorem GK{ns:LI}(h:i<ns.length):ns[i]?=some (ng ns i):=by
 unfold ng
 grind
theorem zM2(ks:List κ):(vd ks).length=ks.length:=by unfold vd;grind
theorem Rq{ks:List κ}{i:Nat}{k:κ}(h:ks[i]?=some k):ng (vd ks) i=((dd [] ks).idxOf k:Int):=by
 unfold ng vd
 grind
theorem zTw{D:List κ}{k:κ}(h:k∈D):D[D.idxOf k]?=some k:=by
 grind
theorem zS8{ks:List κ}{i j:Nat}{a b:κ}(h1:ks[i]?=some a)(h2:ks[j]?=some b):ng (vd ks) i=ng (vd ks) j↔a=b:=by
 rw[Rq h1,Rq h2]
 constructor
 ·intro e
  have e:(dd [] ks).idxOf a=(dd [] ks).idxOf b:=by lia
  have e1:=zTw (Wf (acc:=[]) (mem_of_getElem? h1))
  grind
 grind
def Can(ns:LI):Prop:=∀i,i<ns.length->0<=ng ns i/\∀k,0<=k->k<=ng ns i->∃j,j<=i/\ng ns j=k/\∀j',j'<j->ng ns j'<k
theorem zS9(ks:List κ):Can (vd ks):=λi hi=>by
 rw[zM2] at hi
 have hki:=aax hi
 refine⟨by rw[Rq hki];lia,λk k0 k1=>?_⟩
 rw[Rq hki] at k1
 have mi:ks[i]∈dd [] ks:=Wf (getElem_mem hi)
 have kl:k.toNat<(dd [] ks).length:=by have:=List.idxOf_lt_length_iff.mpr mi;lia
 have nd:=zOy ks [] .nil
 have hd:=aax kl
 generalize hx:(dd [] ks)[k.toNat]=x at hd
 have xk:x∈ks:=(zUl (mem_of_getElem? hd)).elim (λz=>by cases z) id
 have hj:=zTw xk
 have jl:ks.idxOf x<ks.length:=List.idxOf_lt_length_iff.mpr xk
 have xi:(dd [] ks).idxOf x=k.toNat:=by
  rw[<-hx]
  exact List.Nodup.idxOf_getElem nd k.toNat kl
 have aaj:x∉ks.take (ks.idxOf x):=λz=>by
  obtain⟨t,ht⟩:=mem_iff_getElem?.mp z
  have tl:t<ks.idxOf x:=by
   have:=(aa0.mp ht).1
   rw[length_take] at this
   lia
  rw[getElem?_take_of_lt tl] at ht
  have tl2:=(aa0.mp ht).1
  have nf:=List.not_of_lt_findIdx (p:=λy=>y==x) (xs:=ks) (i:=t) tl
  rw[show ks[t]=x from(aa0.mp ht).2] at nf
  simp at nf
 obtain⟨r,er⟩:=zUm (ks.drop (ks.idxOf x)) (dd [] (ks.take (ks.idxOf x)))
 rw[<-zZ1,take_append_drop] at er
 have kge:(dd [] (ks.take (ks.idxOf x))).length<=k.toNat:=by
  refine Nat.le_of_not_lt λz=>aaj ?_
  rw[er,getElem?_append_left z] at hd
  exact(zUl (mem_of_getElem? hd)).elim (λz=>by cases z) id
 have below:∀t,t<ks.idxOf x->ng (vd ks) t<k:=λt ht=>by
  have tl:t<ks.length:=by lia
  have ht':=aax tl
  rw[Rq ht']
  have m1:ks[t]∈dd [] (ks.take (ks.idxOf x)):=Wf (mem_iff_getElem?.mpr ⟨t,by rw[getElem?_take_of_lt ht];exact ht'⟩)
  grind
 refine⟨ks.idxOf x,?_,by rw[Rq hj,xi];lia,below⟩
 refine Nat.le_of_not_lt λz=>?_
 have:=below i z
 rw[Rq hki] at this
 lia
end
theorem zX0(ha:Can a)(hb:Can b)(hl:a.length=b.length)(h:∀i j,i<a.length->j<a.length->(ng a i=ng a j↔ng b i=ng b j)):a=b:=by
 have key:∀n i,i<=n->i<a.length->ng a i=ng b i:=by
  intro n
  induction n with
  |zero =>
   intro i hi il
   have e:i=0:=by lia
   subst e
   have za:ng a 0=0:=by
    obtain⟨p,q⟩:=ha 0 il
    obtain⟨j,j1,j2,_⟩:=q 0 (ace _) p
    have:j=0:=by lia
    rw[this] at j2
    exact j2
   have zb:ng b 0=0:=by
    obtain⟨p,q⟩:=hb 0 (by lia)
    obtain⟨j,j1,j2,_⟩:=q 0 (ace _) p
    have:j=0:=by lia
    rw[this] at j2
    exact j2
   rw[za,zb]
  |succ n ih =>
   intro i hi il
   rcases Nat.lt_or_ge i (n+1) with z|z
   ·exact ih i (by lia) il
   have ei:i=n+1:=by lia
   by_cases ex:∃j,j<i/\ng a j=ng a i
   ·obtain⟨j,j1,j2⟩:=ex
    rw[<-j2,ih j (by lia) (by lia)]
    exact(h j i (by lia) il).mp j2
   ·have no:∀j,j<i->ng a j≠ng a i:=λj h1 h2=>ex ⟨j,h1,h2⟩
    rcases Int.lt_trichotomy (ng a i) (ng b i) with w|w|w
    ·obtain⟨j,j1,j2,_⟩:=(hb i (by lia)).2 (ng a i) (ha i il).1 (aep w)
     have jn:j≠i:=λe=>by rw[e] at j2;lia
     exact absurd (by rw[ih j (by lia) (by lia),j2]) (no j (by lia))
    ·exact w
    ·obtain⟨j,j1,j2,_⟩:=(ha i il).2 (ng b i) (hb i (by lia)).1 (aep w)
     grind
 refine ext_getElem? λi=>?_
 by_cases il:i<a.length
 ·rw[GK il,GK (by lia:i<b.length),key i i (aaz _) il]
 ·rw[abt (by lia),abt (by lia)]
def prs(n:Nat):List (Nat×Nat):=(abb n).flatMap λi=>(abb n).map λj=>(i,j)
theorem BP:(i,j)∈prs n↔i<n/\j<n:=by
 unfold prs
 grind
theorem JX(n:Nat):(prs n).length=n*n:=by
 unfold prs
 rw[List.length_flatMap]
 have:(List.map (λi=>(List.map (λj=>(i,j)) (abb n)).length) (abb n))=replicate n n:=by
  rw[List.eq_replicate_iff]
  grind
 rw[this,List.sum_replicate_nat]
def eqs(n:Nat)(ns:LI):Nat:=(prs n).countP λp=>decide (ng ns p.1=ng ns p.2)
theorem Rr(n:Nat)(ns:LI):eqs n ns<=n*n:=by
 rw[<-JX n]
 exact List.countP_le_length
theorem zLw{α:Type}{p q:α->Bool}:∀{l:List α}{x:α},(∀y∈l,q y=true->p y=true)->x∈l->p x=true->q x=false->l.countP q<l.countP p
 |y::l,x,h,hx,h1,h2=>by
  have hm:=List.countP_mono_left λz hz=>h z (mem_cons_of_mem _ hz)
  rcases mem_cons.mp hx with e|hx
  ·grind
  ·have:=zLw (λz hz=>h z (mem_cons_of_mem _ hz)) hx h1 h2
   grind
theorem Ru(ha:Can a)(hb:Can b)(la:a.length=n)(lb:b.length=n)(h:∀i j,i<n->j<n->ng b i=ng b j->ng a i=ng a j)(ne:b≠a):eqs n b<eqs n a:=by
 have ex:∃i j,i<n/\j<n/\ng a i=ng a j/\ng b i≠ng b j:=ab9 λno=>ne (zX0 ha hb (by lia) λi j hi hj=>⟨λe=>ab9 λz=>no ⟨i,j,by lia,by lia,e,z⟩,λe=>h i j (by lia) (by lia) e⟩).symm
 obtain⟨i,j,hi,hj,e1,e2⟩:=ex
 refine zLw (x:=(i,j)) (λy hy q=>?_) (BP.mpr ⟨hi,hj⟩) (decide_eq_true e1) (decide_eq_false e2)
 obtain⟨h1,h2⟩:=BP.mp (show(y.1,y.2)∈prs n from hy)
 grind
theorem zR7{n:Int}{i:Nat}(h:(i:Int)<n):(rng n)[i]?=some (i:Int):=by
 unfold rng
 grind
theorem uX:(rng n).length=n.toNat:=by unfold rng;grind
theorem zF4{α β:Type}{f:α->Option β}{k:α->β}{xs:List α}(h:∀x∈xs,f x=some (k x))(hl:xs.length<=1000):xW (λ(s:List β) (x:α)=>((f x).bind λa=>push s a).bind λs'=>some s') xs []=some (xs.map k):=by
 refine j5 (vE (λi s=>s=(xs.take i).map k) rfl (λi x s hi e=>?_) λs e=>by grind)
 rw[h x (mem_of_getElem? hi),zC,zC,aj,Cd,aj,e]
 refine⟨yT (by grind),?_⟩
 rw[take_add_one,hi,map_append];rfl
section
variable{C:Addr}{m:aq C}{n:Int}
def Ms(m:aq C)(x:Int):List Str:=(m.marks.filter λp=>decide (x∈p.2)).map (·.1)
def Cu(m:aq C)(x:Int):LI:=((Bu m.fair).filter λp=>decide (x∈p.2)).map (·.1)
def k1(m:aq C)(x:Int):(Tp Str)×(Tp Int):=(Tp.mk (Jq (Ms m x)),Tp.mk (Cu m x))
def k2(m:aq C)(ns:LI)(x:Int):Int×(Tp Int):=(ng ns x.toNat,Tp.mk (vY ((Ep (nxt m.steps x)).map λt=>ng ns t.toNat)))
def fin(m:aq C)(n:Int)(ns:LI):LI:=vd ((rng n).map (k2 m ns))
theorem JZ(hm:m.marks.length<64)(x:Int):xH m x=some (Jq (Ms m x)):=by
 unfold xH
 refine j5 ?_
 rw[zC,zC,aj,zU8]
 refine⟨yT (by lia),?_⟩
 unfold pR
 rw[if_pos (by rw[length_map];exact aa1 (length_filter_le _ _) hm),aj]
 rfl
theorem J0(hf:m.fair.length<=100)(x:Int):vA m x=some (Cu m x):=by
 unfold vA
 refine j5 ?_
 rw[zC,aj,zU8]
 exact⟨yT (by rw[Vl];lia),rfl⟩
theorem J2(g:Gr m n)(hm:m.marks.length<64)(hf:m.fair.length<=100):vJ m=some (vd ((rng n).map (k1 m))):=by
 unfold vJ
 have Rv:=g.few
 have e:=zF4 (f:=λx4=>((xH m x4).bind λa6=>some (Tp.mk a6)).bind λa8=>((vA m x4).bind λa7=>some (Tp.mk a7)).bind λb9=>some (a8,b9)) (k:=k1 m) (xs:=rng n) (λx _=>by rw[JZ hm,J0 hf];rfl) (by rw[uX];lia)
 rw[JM g]
 show((xW _ (rng n) []).bind λs3=>Wm s3)=_
 rw[e]
 show Wm _=_
 unfold Wm Qs
 rw[if_pos (by rw[length_map,uX];lia)]
theorem Zx(g:Gr m n)(h0:0<=x)(h1:x<n):m.steps[x.toNat]?=some (nxt m.steps x)/\(∀t∈nxt m.steps x,0<=t/\t<n)/\(nxt m.steps x).length<=60:=by
 have gl:=g.len
 have hl:x.toNat<m.steps.length:=by lia
 have e:nxt m.steps x=m.steps[x.toNat]:=by unfold nxt;grind
 have r:=g.row _ (getElem_mem hl)
 rw[e]
 refine⟨aax hl,r.2.2,?_⟩
 have:=wC (n:=n.toNat) r.2.1 λz hz=>by grind
 have:=g.few
 lia
theorem zYc(g:Gr m n)(h0:0<=x)(h1:x<n):yJ m x=some (Ep (nxt m.steps x)):=by
 obtain⟨e,_,l⟩:=Zx g h0 h1
 unfold yJ
 rw[Bv h0,e]
 exact j5 (Rn.mpr ⟨by lia,rfl⟩)
theorem zF5{ns:LI}(hn:(ns.length:Int)=n)(hx:∀t∈xs,0<=t/\t<n)(hl:xs.length<64):yW ns xs=some (vY (xs.map λt=>ng ns t.toNat)):=by
 unfold yW
 have e:aO (λ(_:Int)=>some true) (λ(x1:Int)=>aU ns x1) xs=some (xs.map λt=>ng ns t.toNat):=by
  unfold aO
  rw[if_pos (yT (by lia)),Zw (g:=λt=>ng ns t.toNat) (λ_ _=>rfl) λt ht=>by
   obtain⟨t0,t1⟩:=hx t ht
   rw[Bv t0]
   exact GK (by lia)]
 show((aO (λ(_:Int)=>some true) (λ(x1:Int)=>aU ns x1) xs).bind λa2=>gq a2)=_
 rw[e]
 show gq _=_
 unfold gq
 rw[if_pos (by rw[length_map];exact hl)]
theorem zRb(g:Gr m n){ns:LI}(hn:(ns.length:Int)=n):xE m ns=some (fin m n ns):=by
 unfold xE
 have Rv:=g.few
 have e:=zF4 (f:=λx4:Int=>(aU ns x4).bind λa10=>(((((yJ m x4).bind λa7=>some ((a7,()))).bind λb8=>some (ns,b8)).bind λz6=>yW z6.1 z6.2.1).bind λa9=>some (Tp.mk a9)).bind λyc=>some (a10,yc)) (k:=k2 m ns) (xs:=rng n) (λx hx=>by
  obtain⟨x0,x1⟩:=cU.mp hx
  obtain⟨_,t1,t2⟩:=Zx g x0 x1
  have p:=wK (nxt m.steps x)
  show((aU ns x).bind λa10=>_)=_
  rw[Bv x0,GK (by lia:x.toNat<ns.length),zYc g x0 x1]
  show(((yW ns (Ep (nxt m.steps x))).bind λa9=>some (Tp.mk a9)).bind λyc=>some (ng ns x.toNat,yc))=_
  rw[zF5 hn (λt ht=>t1 t (p.mem_iff.mp ht)) (by rw[p.length_eq];lia)]
  rfl) (by rw[uX];lia)
 rw[JM g]
 show((xW _ (rng n) []).bind λs3=>Wn s3)=_
 rw[e]
 show Wn _=_
 unfold Wn Qs fin
 rw[if_pos (by rw[length_map,uX];lia)]
structure Cv(m:aq C)(n:Int)(c:LI):Prop where
 len:(c.length:Int)=n
 can:Can c
 one:∀i j:Nat,(i:Int)<n->(j:Int)<n->ng c i=ng c j->k1 m i=k1 m j
theorem pN{α:Type}{f:Int->α}{i:Nat}(h:(i:Int)<n):((rng n).map f)[i]?=some (f i):=by rw[getElem?_map,zR7 h];rfl
theorem zXm(g:Gr m n):Cv m n (vd ((rng n).map (k1 m))):=⟨by have:=g.pos;rw[zM2,length_map,uX];lia,zS9 _,λi j hi hj e=>(zS8 (pN hi) (pN hj)).mp e⟩
theorem zZs(c:LI){i j:Nat}(hi:(i:Int)<n)(hj:(j:Int)<n):ng (fin m n c) i=ng (fin m n c) j↔k2 m c i=k2 m c j:=zS8 (pN hi) (pN hj)
theorem zT2(c:LI){i j:Nat}(hi:(i:Int)<n)(hj:(j:Int)<n)(e:ng (fin m n c) i=ng (fin m n c) j):ng c i=ng c j:=by
 have:=congrArg Prod.fst ((zZs c hi hj).mp e)
 exact this
theorem Rw(g:Gr m n)(h:Cv m n c):Cv m n (fin m n c):=⟨by have:=g.pos;unfold fin;rw[zM2,length_map,uX];lia,zS9 _,λi j hi hj e=>h.one i j hi hj (zT2 c hi hj e)⟩
theorem zKa(g:Gr m n)(hm:m.marks.length<64)(hf:m.fair.length<=100):W (WW m) λtold=>∃t c,told=t++[c]/\Cv m n c/\fin m n c=c:=by
 have Rv:=g.few
 have gp:=g.pos
 unfold WW
 rw[J2 g hm hf]
 have f0:=zXm g
 generalize vd ((rng n).map (k1 m))=c0 at f0
 rw[zC,zC,aj,aj,zC,zC,zC,zC,show aU [c0] (0:Int)=some c0 from rfl,aj,aj,aj]
 show W (xE m c0) _
 rw[zRb g f0.len,aj,zC]
 have e0:=Rr n.toNat c0
 have nn:n.toNat*n.toNat<=3600:=Nat.mul_le_mul (show n.toNat<=60 by lia) (show n.toNat<=60 by lia)
 refine zU5 (λs=>∃t c,s.1=t++[c]/\Cv m n c/\s.2=fin m n c/\t.length+eqs n.toNat c<=3600) (λs=>4000-s.1.length) ⟨[],c0,rfl,f0,rfl,by simp only[length_nil];omega⟩ (by show 4000-1<100000;decide) ?_
 rintro⟨told,fr⟩ ⟨t,c,rfl,ok,rfl,hl⟩
 show W ((aU (t++[c]) (-(1:Int))).bind λb9=>some (!decide (fin m n c=b9))) _
 rw[show aU (t++[c]) (-(1:Int))=some c from zO5 t c]
 show W (some (!decide (fin m n c=c))) _
 rw[aj]
 by_cases e:fin m n c=c
 ·rw[if_neg (by rw[decide_eq_true e];decide),aj]
  exact⟨t,c,rfl,ok,e⟩
 ·rw[if_pos (by rw[decide_eq_false e];rfl)]
  have ok':=Rw g ok
  have cl:=ok.len
  have cl':=ok'.len
  have lt:eqs n.toNat (fin m n c)<eqs n.toNat c:=Ru ok.can ok'.can (by lia) (by lia) (λi j hi hj=>zT2 c (by lia) (by lia)) e
  show W ((push (t++[c]) (fin m n c)).bind λjR=>(xE m (fin m n c)).bind λmR=>some (jR,mR)) _
  rw[zC,Cd]
  refine⟨aa1 (show(t++[c]).length<=3602 by rw[length_append,length_singleton];lia) (by decide),?_⟩
  rw[zRb g cl']
  show W (some _) _
  rw[aj]
  refine⟨⟨t++[c],fin m n c,rfl,ok',rfl,by rw[length_append,length_singleton];omega⟩,?_⟩
  show 4000-((t++[c])++[fin m n c]).length<4000-(t++[c]).length
  rw[length_append (as:=t++[c]),length_append,length_singleton,length_singleton]
  lia
theorem zZ5(h:Can ns):∀(t i:Nat),i<=t->i<ns.length->ng ns i<=(i:Int)
 |0,i,hi,il=>by
  have e:i=0:=by lia
  subst e
  obtain⟨p,q⟩:=h 0 il
  obtain⟨j,j1,j2,_⟩:=q 0 (ace _) p
  have:j=0:=by lia
  rw[this] at j2
  lia
 |t+1,i,hi,il=>by
  obtain⟨p,q⟩:=h i il
  rcases Int.lt_or_le 0 (ng ns i) with z|z
  ·obtain⟨j,j1,j2,_⟩:=q (ng ns i-1) (by lia) (by lia)
   have jn:j≠i:=λe=>by rw[e] at j2;lia
   have:=zZ5 h t j (by lia) (by lia)
   lia
  ·lia
def oR(N:Nat)(c:LI)(k:Nat):LI:=((abb N).filter λi=>decide (ng c i=(k:Int))).map adb
def wX(M N:Nat)(c:LI):List LI:=(abb M).map (oR N c)
theorem zEx(N:Nat)(c:LI)(k:Nat):oR (N+1) c k=if ng c N=(k:Int) then oR N c k++[(N:Int)] else oR N c k:=by
 unfold oR
 rw[range_succ,List.filter_append,map_append]
 by_cases e:ng c N=(k:Int)
 ·rw[if_pos e,List.filter_cons_of_pos (by simpa using e)];rfl
 ·rw[if_neg e,List.filter_cons_of_neg (by simpa using e)];simp
theorem gW:x∈oR N c k↔0<=x/\x<(N:Int)/\ng c x.toNat=(k:Int):=by
 unfold oR
 rw[mem_map]
 constructor
 ·rintro⟨i,hi,rfl⟩
  rw[mem_filter,mem_range] at hi
  exact⟨Int.natCast_nonneg _,by show(i:Int)<_;lia,of_decide_eq_true hi.2⟩
 ·rintro⟨h0,h1,h2⟩
  refine⟨x.toNat,?_,by show((x.toNat:Nat):Int)=x;omega⟩
  rw[mem_filter,mem_range]
  exact⟨by lia,decide_eq_true h2⟩
theorem zV8(N:Nat)(c:LI)(k:Nat):(oR N c k).Pairwise (· < ·):=by
 unfold oR
 rw[pairwise_map]
 refine(Pairwise.filter _ pairwise_lt_range).imp λh=>?_
 show(_:Int)<_
 exact Int.ofNat_lt.mpr h
theorem zR6(N:Nat)(c:LI)(k:Nat):(oR N c k).length<=N:=by
 unfold oR
 rw[length_map]
 refine aa4 (length_filter_le _ _) ?_
 rw[length_range];exact aaz _
theorem zVe(can:Can c)(hl:c.length=N)(h0:0<N)(Qm:N<=60):∃M:Nat,(∃i,i<N/\ng c i=(M:Int)-1)/\(∀i,i<N->ng c i<(M:Int))/\0<M/\M<=60/\yR c=some (wX M N c):=by
 have ne:c≠[]:=λe=>by rw[e] at hl;simp at hl;lia
 obtain⟨i0,hi0⟩:=mem_iff_getElem?.mp (zJp ne)
 have i0l:=xB hi0
 have e0:ng c i0=mz c:=by rw[GK i0l] at hi0;exact abf hi0
 have p0:=(can i0 i0l).1
 have p1:=zZ5 can i0 i0 (aaz _) i0l
 have ge:∀i,i<N->ng c i<=mz c:=λi hi=>zM8 (mem_of_getElem? (GK (by lia)))
 refine⟨(mz c+1).toNat,⟨i0,by lia,by omega⟩,λi hi=>by have:=ge i hi;lia,by lia,by lia,?_⟩
 generalize hM:(mz c+1).toNat=M
 unfold yR
 refine j5 ?_
 rw[show Ce c=some (mz c) by unfold Ce;rw[if_neg ne]]
 rw[zC,zC,zC,aj,aj,show rN (mz c+1)=some (gY.mk (replicate M [])) by unfold rN;rw[if_pos ⟨by lia,by omega⟩,hM],aj,zC,zC,aj]
 refine vE (λi s=>s.xss=wX M i c) ?_ (λi x s hi e=>?_) λs e=>?_
 ·show replicate M []=wX M 0 c
  unfold wX
  symm
  rw[List.eq_replicate_iff]
  refine⟨by rw[length_map,length_range],λb hb=>?_⟩
  obtain⟨k,_,e⟩:=mem_map.mp hb
  rw[<-e];rfl
 ·have il:=xB hi
  rw[Vl] at il
  obtain⟨x1,x2⟩:=x
  obtain⟨rfl,h2⟩:=Vk hi
  rw[GK il] at h2
  obtain rfl:=abf h2
  have pi:=(can i il).1
  have qi:=ge i (by lia)
  show W ((jw s (ng c i) (i:Int)).bind λWX=>some WX) _
  rw[zC]
  unfold jw
  rw[if_pos pi,e]
  have kl:(ng c i).toNat<M:=by lia
  have er:(wX M i c)[(ng c i).toNat]?=some (oR i c (ng c i).toNat):=by
   unfold wX
   rw[getElem?_map,getElem?_range kl];rfl
  rw[er]
  show W (if _ then _ else _) _
  rw[if_pos (yT (by have:=zR6 i c (ng c i).toNat;lia)),aj,aj]
  show(wX M i c).set (ng c i).toNat _=wX M (i+1) c
  refine ext_getElem? λk=>?_
  by_cases ek:(ng c i).toNat=k
  ·subst ek
   rw[getElem?_set_self (by unfold wX;rw[length_map,length_range];exact kl)]
   unfold wX
   rw[getElem?_map,getElem?_range kl]
   show _=some (oR (i+1) c _)
   rw[zEx,if_pos (by lia)]
  ·rw[getElem?_set_ne ek]
   unfold wX
   rw[getElem?_map,getElem?_map]
   by_cases kM:k<M
   ·rw[getElem?_range kM]
    show some (oR i c k)=some (oR (i+1) c k)
    rw[zEx,if_neg (by lia)]
   ·rw[abt (by rw[length_range];lia)];rfl
 ·rw[aj,e,Vl,hl]
end
abbrev aak:=Cm (List LI) (List (Str×LI)) (List LI)
section
variable{C:Addr}{m:aq C}{n:Int}{c:LI}{M N:Nat}
structure sy(m:aq C)(n:Int)(c:LI)(M:Nat):Prop where
 st:Cv m n c
 fx:fin m n c=c
 top:∃i,i<n.toNat/\ng c i=(M:Int)-1
 lt:∀i,i<n.toNat->ng c i<(M:Int)
 pos:0<M
 few:M<=60
theorem zR5(h:k<M):aU (wX M N c) (k:Int)=some (oR N c k):=by
 rw[Bv (by lia)]
 unfold wX
 rw[getElem?_map,acf,getElem?_range h];rfl
theorem zI7:(wX M N c).length=M:=by unfold wX;grind
theorem zYy(h:sy m n c M)(hk:k<M):∃a r,oR n.toNat c k=a::r/\ng c a.toNat=(k:Int)/\0<=a/\a<n/\∀y∈oR n.toNat c k,a<=y:=by
 obtain⟨i,hi,e⟩:=h.top
 have cl:=h.st.len
 obtain⟨j,j1,j2,_⟩:=(h.st.can i (by lia)).2 (k:Int) (by lia) (by lia)
 have mj:(j:Int)∈oR n.toNat c k:=gW.mpr ⟨by lia,by lia,by grind⟩
 cases hr:oR n.toNat c k with
 |nil=>rw[hr] at mj;cases mj
 |cons a r =>
  have ma:a∈oR n.toNat c k:=by grind
  obtain⟨a0,a1,a2⟩:=gW.mp ma
  have pw:=zV8 n.toNat c k
  rw[hr] at pw
  refine⟨a,r,rfl,a2,a0,by lia,λy hy=>?_⟩
  rcases mem_cons.mp hy with e|hy
  ·lia
  ·have:=rel_of_pairwise_cons pw hy;lia
end
structure Rx(n:Int)(T:aak):Prop where
 len:(T.a.length:Int)=n
 pos:1<=n
 few:n<=60
 row:∀xs∈T.a,xs≠[]/\Ad n xs
 marks:uI n T.b
 J3:T.b.length<64
 Ry:T.c.length<=100
 fair:∀xs∈T.c,Ad n xs
section
variable{C:Addr}{m:aq C}{n:Int}{c:LI}{M:Nat}
theorem zPi(h:Rx n T):W (W9 C T) λm=>Gr m n/\m.steps=T.a/\m.marks=T.b/\m.fair=T.c:=by
 have:=h.len
 have:=h.few
 unfold W9
 rw[zC,aj,zC,zC,aj,Gv (λx:Str×LI=>(x.1,x.2))]
 refine⟨yT (by have:=h.J3;lia),?_⟩
 rw[map_id' _,zC,zC,aj,Gv (λx=>x)]
 refine⟨yT (by lia),?_⟩
 rw[map_id',zC,zC,aj,Gv (λx:LI=>x)]
 refine⟨yT (by have:=h.Ry;lia),?_⟩
 rw[map_id']
 exact Mf C h.len h.pos h.few h.row h.marks ⟨h.Ry,h.fair⟩
theorem Mt{α β:Type}{f:α->β}:∀{l:List α}{a b:α},(l.map f).Nodup->a∈l->b∈l->f a=f b->a=b
 |x::l,a,b,nd,ha,hb,e=>by
  rw[map_cons,nodup_cons] at nd
  rcases mem_cons.mp ha with ha|ha
  ·grind
  ·rcases mem_cons.mp hb with hb|hb
   ·grind
   ·exact Mt nd.2 ha hb e
theorem zS4(nd:(m.marks.map (·.1)).Nodup)(hp:p∈m.marks)(x:Int):p.1∈Ms m x↔x∈p.2:=by
 unfold Ms
 rw[mem_map]
 constructor
 ·rintro⟨q,hq,e⟩
  rw[mem_filter] at hq
  have:=Mt nd hq.1 hp e
  grind
 grind
theorem zZr{i:Nat}{s:LI}(hs:m.fair[i]?=some s)(x:Int):(i:Int)∈Cu m x↔x∈s:=by
 unfold Cu
 rw[mem_map]
 constructor
 ·rintro⟨q,hq,e⟩
  rw[mem_filter] at hq
  obtain⟨j,hj⟩:=mem_iff_getElem?.mp hq.1
  obtain⟨e1,e2⟩:=Vk hj
  grind
 ·intro h
  refine⟨((i:Int),s),mem_filter.mpr ⟨mem_iff_getElem?.mpr ⟨i,?_⟩,decide_eq_true h⟩,rfl⟩
  have hi:=xB hs
  unfold Bu
  grind
theorem zXy(g:Gr m n)(h:sy m n c M)(nd:(m.marks.map (·.1)).Nodup)(a0:0<=a)(a1:a<n)(x0:0<=x)(x1:x<n)(e:ng c a.toNat=ng c x.toNat) :
  (∀p∈m.marks,(a∈p.2↔x∈p.2))/\(∀s∈m.fair,(a∈s↔x∈s))/\∀k,k∈(nxt m.steps a).map (λt=>ng c t.toNat)↔k∈(nxt m.steps x).map λt=>ng c t.toNat:=by
 have ea:((a.toNat:Nat):Int)=a:=by lia
 have ex:((x.toNat:Nat):Int)=x:=by lia
 have q1:=h.st.one a.toNat x.toNat (by lia) (by lia) e
 rw[ea,ex] at q1
 have q2:=(zZs (m:=m) (n:=n) c (i:=a.toNat) (j:=x.toNat) (by lia) (by lia)).mp (by rw[h.fx];exact e)
 rw[ea,ex] at q2
 have n1:Jq (Ms m a)=Jq (Ms m x):=congrArg (λz=>z.1.xs) q1
 have n2:Cu m a=Cu m x:=congrArg (λz=>z.2.xs) q1
 have n3:vY ((Ep (nxt m.steps a)).map λt=>ng c t.toNat)=vY ((Ep (nxt m.steps x)).map λt=>ng c t.toNat):=congrArg (λz=>z.2.xs) q2
 refine⟨λp hp=>?_,λs hs=>?_,λk=>?_⟩
 ·rw[<-zS4 nd hp a,<-zS4 nd hp x,<-(Y9 (Ms m a)).mem_iff,n1,(Y9 (Ms m x)).mem_iff]
 ·obtain⟨i,hi⟩:=mem_iff_getElem?.mp hs
  rw[<-zZr hi a,<-zZr hi x,n2]
 ·rw[<-((wK (nxt m.steps a)).map _).mem_iff,<-bG,n3,bG,((wK (nxt m.steps x)).map _).mem_iff]
end
theorem uL(q:mq)(h:0<=k):W (yE q k) λ_=>True:=by
 unfold yE
 rw[oW]
 refine⟨λh1=>?_,λ_=>aj.mpr trivial⟩
 have h1:=of_decide_eq_true h1
 rw[dz h]
 exact⟨_,aax (show k.toNat<q.ns.length by lia),trivial⟩
theorem Ue(c k:Int):W (wY c k) λ_=>True:=by
 unfold wY
 simp only[zC,VB,uB,K4,aj,oV]
 exact⟨⟨by decide,by decide,by decide⟩,by decide,.inr ⟨by decide,by decide⟩,.inr ⟨by decide,by decide⟩,⟨by decide,by decide⟩,trivial⟩
def Bj(l:List Nat):Prop:=∀x∈l,∃i,i<26/\x=97+i
def BR(e:Bool)(t:List Nat)(r k:Int):List Nat:=if e=true then(97+((r+k)%26).toNat)::t else t++[97+((r+k)%26).toNat]
def Cw(e:Bool)(t:List Nat)(r k:Int):List Nat:=if g8 (BR e t r k)∈resv then(BR e t r k).dropLast else BR e t r k
theorem zWe:∀w∈resv,Jh w (-(1:Int))=some (g8 w.cps.toList.dropLast):=by decide +kernel
theorem zSa:∀w∈resv,∀v∈resv,w.cps.toList.tail=v.cps.toList.tail\/w.cps.toList.dropLast=v.cps.toList.dropLast->w=v:=by decide +kernel
theorem zN3:∀w∈resv,g8 w.cps.toList.dropLast∉resv/\3<=w.cps.toList.length:=by decide +kernel
theorem Xg(l:List Nat):(g8 l).cps.toList=l:=by unfold g8;simp
theorem zM5(e:Bool)(t:List Nat)(r k:Int):(BR e t r k).length=t.length+1:=by
 unfold BR
 split
 ·rw[length_cons]
 ·rw[length_append];rfl
theorem zW9(h:Bj t):Bj (BR e t r k):=λx hx=>by
 have hn:∃i,i<26/\97+((r+k)%26).toNat=97+i:=⟨_,by have:=abh (r+k) (show(0:Int)<26 by decide);have:=abk (r+k) (show(26:Int)≠0 by decide);lia,rfl⟩
 unfold BR at hx
 split at hx
 ·rcases mem_cons.mp hx with e|hx
  ·rw[e];exact hn
  ·exact h x hx
 ·rcases mem_append.mp hx with hx|hx
  ·exact h x hx
  ·rw[mem_singleton.mp hx];exact hn
theorem zZk{e:Bool}{t:List Nat}{r:Int}{j k:Nat}(hj:j<26)(hk:k<26)(h:BR e t r j=BR e t r k):j=k:=by
 have q:(r+(j:Int))%26=(r+(k:Int))%26:=by
  have a1:=abk (r+(j:Int)) (show(26:Int)≠0 by decide)
  have a2:=abk (r+(k:Int)) (show(26:Int)≠0 by decide)
  unfold BR at h
  split at h
  ·have:=(ae4 h).1;omega
  ·have:=List.append_cancel_left h
   have:=(ae4 this).1
   omega
 lia
theorem zS7{t:List Nat}(ht:t.length<=7):1<=(Cw e t r k).length/\(Cw e t r k).length<=8:=by
 have l:=zM5 e t r k
 unfold Cw
 split
 ·rename_i h
  have:=(zN3 _ h).2
  rw[Xg] at this
  rw[length_dropLast]
  lia
 ·lia
theorem zW3{t:List Nat}(ht:t.length<=7)(hl:Bj t):Qw (g8 (Cw e t r k))=some true:=by
 obtain⟨l1,l8⟩:=zS7 (e:=e) (r:=r) (k:=k) ht
 refine zTs l1 l8 ?_ ?_
 ·have:=zW9 (e:=e) (r:=r) (k:=k) hl
  unfold Cw
  split
  ·exactλx hx=>this x ((List.dropLast_sublist _).subset hx)
  ·exact this
 ·unfold Cw
  split
  ·rename_i h
   have:=(zN3 _ h).1
   rw[Xg] at this
   exact this
  ·assumption
theorem RB{e:Bool}{t:List Nat}{r:Int}{j k:Nat}(hj:j<26)(hk:k<26)(h:Cw e t r j=Cw e t r k):j=k:=by
 have l1:=zM5 e t r j
 have l2:=zM5 e t r k
 unfold Cw at h
 split at h
 ·rename_i w1
  split at h
  ·rename_i w2
   refine zZk hj hk (e:=e) (t:=t) (r:=r) ?_
   have q:=zSa _ w1 _ w2
   rw[Xg,Xg] at q
   have:=q (by
    unfold BR
    cases e with
    |true=>exact .inl rfl
    |false=>exact .inr (by rw[if_neg (by decide),if_neg (by decide),List.dropLast_concat,List.dropLast_concat]))
   exact zS6 this
  ·have:=congrArg length h
   rw[length_dropLast] at this
   lia
 ·split at h
  ·have:=congrArg length h
   rw[length_dropLast] at this
   lia
  ·exact zZk hj hk h
theorem zYd(c:Int):∃(e:Bool)(t:List Nat)(r:Int),t.length<=7/\Bj t/\∀k:Int,0<=k->wE c k=some (g8 (Cw e t r k)):=by
 have c8:=abh (c/2) (show(0:Int)<8 by decide)
 have c0:=abk (c/2) (show(8:Int)≠0 by decide)
 have tl:W (xW (λ(s4:Str×Int) (x6:Int)=>(((aZ s4.2 (26:Int)).bind λb10=>Jg ("abcdefghijklmnopqrstuvwxyz":Str) b10).bind λyc=>pP s4.1 yc).bind λyp=>(bV s4.2 (26:Int)).bind λqI=>some (yp,qI)) (rng (c/2%8)) (("":Str),c/16)) λs=>∃t,s.1=g8 t/\t.length<=7/\Bj t:=by
  refine vE (λi s=>∃t,s.1=g8 t/\t.length=i/\Bj t) ⟨[],by show("":Str)=g8 [];rfl,rfl,λx hx=>by cases hx⟩ (λi x s hi hI=>?_) λs hI=>?_
  ·obtain⟨_,i8⟩:=K5 hi
   obtain⟨tx,rs⟩:=s
   obtain⟨t,rfl,rfl,hl⟩:=hI
   rw[zC,zC,zC,uB]
   refine⟨by decide,?_⟩
   show W (Jg _ (rs%26)) _
   rw[zOk,aj]
   show W (pP (g8 t) (g8 [97+(rs%26).toNat])) _
   rw[zNk (by rw[length_singleton];lia),aj,zC,oV]
   refine⟨⟨by decide,by decide⟩,?_⟩
   rw[aj]
   refine⟨_,rfl,by rw[length_append];rfl,λx hx=>?_⟩
   rcases mem_append.mp hx with z|z
   ·exact hl x z
   ·rw[mem_singleton.mp z]
    exact⟨_,by have:=abh rs (show(0:Int)<26 by decide);have:=abk rs (show(26:Int)≠0 by decide);lia,rfl⟩
  ·obtain⟨t,e,l,hl⟩:=hI
   exact⟨t,e,by rw[l,uX];lia,hl⟩
 obtain⟨⟨tx,r⟩,ef,t,rfl,t7,hl⟩:=tl
 refine⟨decide (c%2=0),t,r,t7,hl,λk k0=>?_⟩
 apply j5
 unfold wE
 rw[zC,aj,zC,aj,zC,oV]
 refine⟨⟨by decide,by decide⟩,?_⟩
 rw[zC,zC,zC,zC,oV]
 refine⟨⟨by decide,by decide⟩,?_⟩
 rw[uB]
 refine⟨by decide,?_⟩
 rw[uG]
 refine⟨⟨by lia,by omega⟩,?_⟩
 rw[ef,aj,zC,zC,uB]
 refine⟨by decide,?_⟩
 show W (Jg _ ((r+k)%26)) _
 rw[zOk,aj]
 show W _ _
 rw[zC,zC,zC]
 show W (pP (g8 [97+((r+k)%26).toNat]) (g8 t)) _
 rw[zNk (by rw[length_singleton];lia),aj,zC,zC]
 show W (pP (g8 t) (g8 [97+((r+k)%26).toNat])) _
 rw[zNk (by rw[length_singleton];lia),aj,aj,aj,zC,uB]
 refine⟨by decide,?_⟩
 have md:aU [g8 ([97+((r+k)%26).toNat]++t),g8 (t++[97+((r+k)%26).toNat])] (c%2)=some (g8 (BR (decide (c%2=0)) t r k)):=by
  rw[Bv (by lia)]
  unfold BR
  by_cases z:c%2=0
  ·rw[z,if_pos (decide_eq_true rfl)];rfl
  ·rw[show c%2=1 by lia,if_neg (by decide)];rfl
 rw[md,aj,zC,aj,zC]
 unfold Cw
 by_cases z:g8 (BR (decide (c%2=0)) t r k)∈resv
 ·have z':=z
  unfold resv at z'
  rw[if_pos (decide_eq_true z'),zC,zWe _ z,aj,aj,aj,if_pos z,Xg]
 ·have z':=z
  unfold resv at z'
  rw[if_neg (λy=>z' (of_decide_eq_true y)),aj,aj,if_neg z]
theorem zHg{α β:Type}{c:α->Option Bool}{f:α->Option β}{p:α->Bool}{g:α->β}:∀{xs:List α},(∀x∈xs,c x=some (p x))->(∀x∈xs,f x=some (g x))->vO c f xs=some ((xs.filter p).map g)
 |[],_,_=>rfl
 |x::xs,hc,hf=>by
  have ih:=zHg (λy hy=>hc y (mem_cons_of_mem _ hy)) (λy hy=>hf y (mem_cons_of_mem _ hy))
  show(c x).bind _=_
  rw[hc x mem_cons_self]
  cases e:p x with
  |false =>
   rw[List.filter_cons_of_neg (by rw[e];decide)]
   show vO c f xs=_
   exact ih
  |true =>
   rw[List.filter_cons_of_pos e]
   show(f x).bind _=_
   rw[hf x mem_cons_self]
   show(vO c f xs).bind _=_
   rw[ih]
   rfl
theorem zN2(n:Int):aL n (rng n):=by
 refine⟨?_,λx hx=>cU.mp hx⟩
 unfold rng
 rw[pairwise_map]
 exact pairwise_lt_range.imp λh=>Int.ofNat_lt.mpr h
theorem zFe(p:Int->Bool)(h:aL n xs):aL n (xs.filter p):=⟨h.1.filter p,λx hx=>h.2 x (mem_filter.mp hx).1⟩
theorem zKu{xs:LI}(h:xs.Nodup):xs.reverse.Nodup:=List.pairwise_reverse.mpr (h.imp λq e=>q e.symm)
def Un(n:Int)(xs:LI):Prop:=xs.Nodup/\∀x∈xs,0<=x/\x<n
theorem Ug(h:Un n xs)(h0:0<=n):(xs.length:Int)<=n:=by
 have:=wC (n:=n.toNat) h.1 λx hx=>by have:=h.2 x hx;lia
 lia
theorem Zy(h:Un n xs)(h0:0<=n)(h1:n<=60):Ad n xs:=⟨h.1,by have:=Ug h h0;lia,h.2⟩
theorem Zz(h:Un n xs)(h0:0<=x)(h1:x<n)(hx:x∉xs):Un n (xs++[x]):=by
 refine⟨?_,λy hy=>?_⟩
 ·rw[nodup_append]
  refine⟨h.1,by simp,λa ha b hb e=>hx ?_⟩
  rw[<-mem_singleton.mp hb,<-e]
  exact ha
 ·rcases mem_append.mp hy with z|z
  ·exact h.2 y z
  ·rw[mem_singleton.mp z];exact⟨h0,h1⟩
theorem zNn(q:Int)(h0:0<=n)(h1:n<=60):W (T9 q n) (Un n):=by
 unfold T9
 rw[zC,aj,zC,zC,uG]
 refine⟨⟨by lia,by omega⟩,?_⟩
 refine vE (λi s=>aL (i:Int) s.1) ⟨.nil,λx hx=>by cases hx⟩ (λi x s hi hI=>?_) λs hI=>?_
 ·obtain⟨rfl,il⟩:=K5 hi
  have sl:s.1.length<=1000:=by
   have:=wC (n:=i) hI.nodup hI.2
   lia
  rw[zC,zC,zC,uB]
  refine⟨by decide,?_⟩
  rw[aj,oW]
  refine⟨λ_=>?_,λ_=>?_⟩
  ·rw[zC,Cd]
   refine⟨yT sl,?_⟩
   rw[aj,zC,oV]
   refine⟨⟨by decide,by decide⟩,?_⟩
   rw[aj]
   exact zR8 hI (by lia) (by lia)
  ·rw[aj,zC,oV]
   refine⟨⟨by decide,by decide⟩,?_⟩
   rw[aj]
   exact Ii hI (by lia)
 ·rw[uX] at hI
  have un:Un n s.1:=⟨hI.nodup,λx hx=>by have:=hI.2 x hx;omega⟩
  rw[zC,zC,zC,uB]
  refine⟨by decide,?_⟩
  rw[aj,oW]
  refine⟨λ_=>?_,λ_=>?_⟩
  ·rw[zC,aj,aj,aj]
   exact⟨zKu un.1,λx hx=>un.2 x (List.mem_reverse.mp hx)⟩
  ·rw[aj,aj]
   exact un
structure sE(n:Int)(maps:LI)(bases:Int):Prop where
 len:(maps.length:Int)=n
 pos:1<=n
 few:n<=20
 b1:1<=bases
 bn:bases<=n
 at_:∀i:Nat,(i:Int)<n->0<=ng maps i/\ng maps i<bases
 self:∀i:Nat,(i:Int)<bases->ng maps i=i
theorem zZh(i:Nat):ng (xs++[y]) i=if i<xs.length then ng xs i else if i=xs.length then y else 0:=by
 unfold ng
 rw[getD_eq_getElem?_getD,getD_eq_getElem?_getD]
 by_cases h:i<xs.length
 ·rw[if_pos h,getElem?_append_left h]
 ·rw[if_neg h,getElem?_append_right (by lia)]
  by_cases e:i=xs.length
  ·subst e;rw[if_pos rfl,afb];rfl
  ·rw[if_neg e,abt (by rw[length_singleton];lia)];rfl
theorem RD(q:mq):W (W8 q) λv=>∃n,sE n v.1 v.2:=by
 unfold W8
 obtain⟨c0,e0,_⟩:=uL q (k:=0) (by decide)
 obtain⟨c1,e1,_⟩:=uL q (k:=1) (by decide)
 rw[e0,e1,zC,zC,zC,aj,uB]
 refine⟨by decide,?_⟩
 rw[aj,zC,zC,zC,zC,zC,aj,oV]
 refine⟨⟨by decide,by decide⟩,?_⟩
 rw[uB]
 refine⟨by decide,?_⟩
 rw[aj]
 have many:W (if decide (c0/8%8=5)=true then(((((some c0).bind λa10=>bV a10 64).bind λa11=>aZ a11 20).bind λWQ=>some ((1:Int)+WQ)).bind λyt=>some yt) else some ((1:Int)+c0%8)) λn=>1<=n/\n<=20:=by
  rw[oW]
  refine⟨λ_=>?_,λ_=>?_⟩
  ·rw[zC,zC,zC,zC,aj,oV]
   refine⟨⟨by decide,by decide⟩,?_⟩
   rw[uB]
   refine⟨by decide,?_⟩
   rw[aj,aj]
   lia
  ·rw[aj]
   lia
 refine many.imp λn ⟨n1,n20⟩=>?_
 rw[zC,zC,zC,aj,uB]
 refine⟨by lia,?_⟩
 rw[aj]
 have b0:=abk c1 (show n≠0 by lia)
 have b1:=abh c1 (show 0<n by lia)
 generalize hb:(1:Int)+c1%n=bs
 rw[zC,aj,zC,zC,uG]
 refine⟨⟨by lia,by omega⟩,?_⟩
 refine vE (λi s=>s.length=i/\(∀j:Nat,j<i->0<=ng s j/\ng s j<bs)/\∀j:Nat,j<i->(j:Int)<bs->ng s j=j) ⟨rfl,λj h=>by lia,λj h=>by omega⟩ (λi x s hi hI=>?_) λs hI=>?_
 ·obtain⟨rfl,il⟩:=K5 hi
  obtain⟨sl,s1,s2⟩:=hI
  obtain⟨z,ez,_⟩:=Ue c1 (i:Int)
  rw[zC,zC,zC,zC,zC,zC,zC,aj,aj]
  show W (wY c1 (i:Int)) _
  rw[ez,aj,uB]
  refine⟨by lia,?_⟩
  rw[zC,K4]
  refine⟨.inl ⟨by lia,by omega⟩,?_⟩
  rw[aj,aj,Cd]
  refine⟨yT (by lia),?_⟩
  rw[aj]
  have z0:=abk z (show bs≠0 by lia)
  have z1:=abh z (show 0<bs by lia)
  generalize z%bs=y at z0 z1
  have val:∀w:Int,w=min (i:Int) (y+bs*(if decide ((i:Int)<bs)=true then(1:Int) else 0))->(0<=w/\w<bs)/\((i:Int)<bs->w=i):=λw hw=>by
   by_cases ib:(i:Int)<bs
   ·rw[if_pos (decide_eq_true ib)] at hw
    rw[hw]
    exact⟨⟨by lia,by omega⟩,λ_=>by omega⟩
   ·rw[if_neg (λh=>ib (of_decide_eq_true h))] at hw
    rw[hw]
    exact⟨⟨by lia,by omega⟩,λh=>absurd h ib⟩
  generalize hw:min (i:Int) (y+bs*(if decide ((i:Int)<bs)=true then(1:Int) else 0))=w
  obtain⟨v1,v2⟩:=val w hw.symm
  refine⟨by rw[length_append,sl];rfl,λj hj=>?_,λj hj jb=>?_⟩
  ·rw[zZh,sl]
   by_cases e:j<i
   ·rw[if_pos e];exact s1 j e
   ·rw[if_neg e,if_pos (by lia)];exact v1
  ·rw[zZh,sl]
   by_cases e:j<i
   ·rw[if_pos e];exact s2 j e jb
   ·rw[if_neg e,if_pos (by lia),v2 (by lia)];lia
 ·obtain⟨sl,s1,s2⟩:=hI
  rw[uX] at sl s1 s2
  rw[aj]
  exact⟨n,by show(s.length:Int)=n;lia,n1,n20,by show(1:Int)<=bs;lia,by show bs<=n;lia,λi hi=>s1 i (by lia),λi hi=>s2 i (by lia) hi⟩
def ux(maps:LI)(n b:Int):LI:=(rng n).filter λx=>decide (ng maps x.toNat=b)
section
variable{n:Int}{maps:LI}{bases:Int}
theorem uy:x∈ux maps n b↔(0<=x/\x<n)/\ng maps x.toNat=b:=by
 unfold ux
 rw[mem_filter,cU]
 grind
theorem RG(h:sE n maps bases)(b0:0<=b)(b1:b<bases):0<(ux maps n b).length:=by
 have bn:=h.bn
 have:b∈ux maps n b:=uy.mpr ⟨⟨b0,by omega⟩,by rw[h.self b.toNat (by lia)];omega⟩
 grind
theorem Xh(h:sE n maps bases)(b:Int):((bH (maps.length:Int)).bind λxs=>aO (λ(x7:Int)=>(aU maps x7).bind λa8=>some (decide (a8=b))) (λ(x7:Int)=>some x7) xs)=some (ux maps n b):=by
 have l:=h.len
 have f:=h.few
 apply j5
 rw[zC,uG,l]
 refine⟨⟨by lia,by omega⟩,?_⟩
 unfold aO
 rw[if_pos (yT (by rw[uX];lia)),zHg (λx hx=>?_) (λ_ _=>rfl),aj,map_id']
 ·rfl
 ·obtain⟨x0,x1⟩:=cU.mp hx
  rw[Bv x0,GK (by lia)];rfl
theorem RJ(e:aU P g=some l)(hl:0<l.length)(more:Int){Q:Int->Prop}(k:∀x∈l,Q x):W ((aU P g).bind λa34=>(((aU P g).bind λa32=>some (a32.length:Int)).bind λW5=>aZ more W5).bind λW6=>aU a34 W6) Q:=by
 rw[e,zC,aj,zC,zC,zC,aj,aj,uB]
 refine⟨by lia,?_⟩
 have m0:=abk more (show(l.length:Int)≠0 by lia)
 have m1:=abh more (show(0:Int)<l.length by lia)
 rw[dz m0]
 exact⟨_,aax (by lia),k _ (getElem_mem _)⟩
theorem Xi(h:sE n maps bases)(q:mq)(s0:0<=s)(hg:Un bases goals)(gn:goals≠[]):W (xW (λ(JB:LI) (x27:Int)=>(((yE q ((6:Int)+s)).bind λa30=>some ((a30,((100:Int)+x27,())))).bind λW4=>wY W4.1 W4.2.1).bind λjW=>(((aU ((rng bases).map (ux maps n)) x27).bind λa34=>(((aU ((rng bases).map (ux maps n)) x27).bind λa32=>some (a32.length:Int)).bind λW5=>aZ jW W5).bind λW6=>aU a34 W6).bind λa36=>push JB a36).bind λmY=>((aU ((rng bases).map (ux maps n)) x27).bind λa41=>((bV jW (64:Int)).bind λa39=>((aU ((rng bases).map (ux maps n)) x27).bind λa38=>some (a38.length:Int)).bind λb40=>aZ a39 b40).bind λb42=>aU a41 b42).bind λdZ=>(if(!decide (dZ∈mY))=true then(push mY dZ).bind λyq=>some yq else some mY).bind λW7=>some W7) goals []) λrow=>row≠[]/\Un n row:=by
 have hn:=h.few
 have hp:=h.pos
 have hb:=h.bn
 have gl:=Ug hg (by have:=h.b1;lia)
 refine vE (λi row=>Un n row/\(∀x∈row,ng maps x.toNat∈goals.take i)/\(0<i->row≠[])) ⟨⟨.nil,λx hx=>(by cases hx)⟩,λx hx=>(by cases hx),λz=>absurd z (by lia)⟩ (λi g row hi hI=>?_) λrow hI=>⟨hI.2.2 (List.length_pos_iff.mpr gn),hI.1⟩
 obtain⟨un,hm,_⟩:=hI
 have il:=xB hi
 obtain⟨g0,g1⟩:=hg.2 g (mem_of_getElem? hi)
 have ep:aU ((rng bases).map (ux maps n)) g=some (ux maps n g):=by
  rw[Bv g0,getElem?_map,zR7 (by lia)]
  show some _=some _
  congr 2
  lia
 have tk:goals.take (i+1)=goals.take i++[g]:=by rw[take_add_one,hi];rfl
 have RK:g∉goals.take i:=zE5 hg.1 hi
 have pl:=RG h g0 g1
 have rl:=Ug un (by lia)
 rw[zC,zC,zC]
 refine(uL q (by lia)).imp λc _=>?_
 rw[aj]
 refine(Ue c _).imp λmore _=>?_
 rw[zC,zC]
 refine RJ ep pl more λx hx=>?_
 obtain⟨⟨x0,x1⟩,xg⟩:=uy.mp hx
 have xr:x∉row:=λz=>RK (by rw[<-xg];exact hm x z)
 have un2:=Zz un x0 x1 xr
 rw[Cd]
 refine⟨yT (by lia),?_⟩
 have m2:∀z∈row++[x],ng maps z.toNat∈goals.take (i+1):=λz hz=>by
  rw[tk]
  rcases mem_append.mp hz with w|w
  ·exact mem_append_left _ (hm z w)
  ·rw[mem_singleton.mp w,xg];exact mem_append_right _ mem_cons_self
 have rl2:=Ug un2 (by lia)
 rw[ep,zC,zC,aj,zC,zC,oV]
 refine⟨⟨by decide,by decide⟩,?_⟩
 rw[zC,zC,aj,aj,uB]
 refine⟨by lia,?_⟩
 have m0:=abk (more/64) (show((ux maps n g).length:Int)≠0 by lia)
 have m1:=abh (more/64) (show(0:Int)<(ux maps n g).length by lia)
 rw[dz m0]
 refine⟨_,aax (by lia),?_⟩
 have hy:(ux maps n g)[(more/64%((ux maps n g).length:Int)).toNat]'(by lia)∈ux maps n g:=getElem_mem _
 generalize(ux maps n g)[(more/64%((ux maps n g).length:Int)).toNat]'(by lia)=y at hy
 obtain⟨⟨y0,y1⟩,yg⟩:=uy.mp hy
 rw[zC,oW]
 refine⟨λhn=>?_,λ_=>?_⟩
 ·have yr:y∉row++[x]:=by simpa using hn
  rw[zC,Cd]
  refine⟨yT (by lia),?_⟩
  rw[aj,aj]
  refine⟨Zz un2 y0 y1 yr,λz hz=>?_,λ_=>by simp⟩
  rcases mem_append.mp hz with w|w
  ·exact m2 z w
  ·rw[mem_singleton.mp w,yg,tk];exact mem_append_right _ mem_cons_self
 ·rw[aj,aj]
  exact⟨un2,m2,λ_=>by simp⟩
end
section
variable{n:Int}{maps:LI}{bases:Int}
theorem zVj(h:sE n maps bases)(q:mq):W (W3 q maps bases) λxss=>(xss.length:Int)=n/\∀xs∈xss,xs≠[]/\Un n xs:=by
 have hl:=h.len
 have hn:=h.few
 have hp:=h.pos
 have hb:=h.bn
 have hb1:=h.b1
 unfold W3
 rw[zC]
 refine(uL q (by decide)).imp λkept _=>?_
 rw[zC,aj,zC,zC,uG]
 refine⟨⟨by lia,by omega⟩,?_⟩
 have e:=zF4 (f:=λb:Int=>(bH (maps.length:Int)).bind λxs=>aO (λ(x7:Int)=>(aU maps x7).bind λa8=>some (decide (a8=b))) (λ(x7:Int)=>some x7) xs) (k:=ux maps n) (xs:=rng bases) (λb _=>Xh h b) (by rw[uX];lia)
 rw[e,aj,zC,aj,zC,zC,hl,uG]
 refine⟨⟨by lia,by omega⟩,?_⟩
 refine vE (λi s=>s.xss.length=i/\∀xs∈s.xss,xs≠[]/\Un n xs) ⟨rfl,λx hx=>(by cases hx)⟩ (λi x s hi hI=>?_) λs hI=>?_
 ·obtain⟨rfl,il⟩:=K5 hi
  obtain⟨sl,sm⟩:=hI
  rw[zC,zC,zC,zC,zC,Bv (by lia),acf,GK (by lia),aj,aj,aj,aj]
  refine(Ue _ _).imp λrest _=>?_
  rw[zC]
  refine(zNn rest (by lia) (by lia)).imp λgoals hg=>?_
  have key:W (if(decide ((goals.length:Int)=(0:Int)))=true then((aZ rest bases).bind λa23=>some (a23::([]))).bind λmX=>some mX else some goals) λs=>Un bases s/\s≠[]:=by
   rw[oW]
   refine⟨λ_=>?_,λz=>?_⟩
   ·rw[zC,zC,uB]
    refine⟨by lia,?_⟩
    rw[aj,aj]
    refine⟨⟨by simp,λx hx=>?_⟩,by simp⟩
    rw[mem_singleton.mp hx]
    exact⟨abk _ (by lia),abh _ (by lia)⟩
   ·rw[aj]
    refine⟨hg,λe=>z (by rw[e];rfl)⟩
  rw[zC]
  refine key.imp λqQ ⟨u,ne⟩=>?_
  rw[zC,aj,zC,zC,aj]
  refine(Xi h q (by lia) u ne).imp λrow ⟨rn,ru⟩=>?_
  rw[zC]
  unfold oX
  rw[if_pos (yT (by lia)),aj,aj]
  refine⟨by show(s.xss++[row]).length=_;rw[length_append,sl];rfl,λxs hx=>?_⟩
  rcases mem_append.mp (show xs∈s.xss++[row] from hx) with z|z
  ·exact sm xs z
  ·rw[mem_singleton.mp z];exact⟨rn,ru⟩
 ·obtain⟨sl,sm⟩:=hI
  rw[uX] at sl
  rw[zC,zC,zC]
  refine(uL q (by decide)).imp λc3 _=>?_
  rw[aj]
  refine(Ue _ _).imp λrest _=>?_
  have k0:=abk (rest/3/64) (show n≠0 by lia)
  have k1:=abh (rest/3/64) (show 0<n by lia)
  have a0:=abk (rest/3) (show n≠0 by lia)
  have a1:=abh (rest/3) (show 0<n by lia)
  have kl:(rest/3/64%n).toNat<s.xss.length:=by lia
  have ek:=aax kl
  have rk:=sm _ (getElem_mem kl)
  generalize s.xss[(rest/3/64%n).toNat]=r at ek rk
  have key2:W (((aZ rest (3:Int)).bind λa50=>some (decide (a50=(0:Int)))).bind λc57=>if c57=true then((bV rest (3:Int)).bind λa54=>aZ a54 n).bind λa55=>((((bV rest (3:Int)).bind λa51=>bV a51 (64:Int)).bind λa52=>aZ a52 n).bind λWT=>aU s.xss WT).bind λb56=>some (!decide (a55∈b56)) else some false) λb=>b=true->rest/3%n∉r:=by
   rw[zC,zC,uB]
   refine⟨by decide,?_⟩
   rw[aj,oW]
   refine⟨λ_=>?_,λ_=>aj.mpr λz=>(by cases z)⟩
   rw[zC,zC,oV]
   refine⟨⟨by decide,by decide⟩,?_⟩
   rw[uB]
   refine⟨by lia,?_⟩
   rw[zC,zC,zC,zC,oV]
   refine⟨⟨by decide,by decide⟩,?_⟩
   rw[oV]
   refine⟨⟨by decide,by decide⟩,?_⟩
   rw[uB]
   refine⟨by lia,?_⟩
   rw[Bv k0,ek,aj,aj]
   intro z
   simpa using z
  rw[zC,zC]
  refine key2.imp λb hb=>?_
  rw[oW]
  refine⟨λe=>?_,λ_=>by rw[aj,aj];exact⟨by lia,sm⟩⟩
  have ar:=hb e
  rw[zC,zC,zC,zC,oV]
  refine⟨⟨by decide,by decide⟩,?_⟩
  rw[oV]
  refine⟨⟨by decide,by decide⟩,?_⟩
  rw[uB]
  refine⟨by lia,?_⟩
  rw[zC,zC,oV]
  refine⟨⟨by decide,by decide⟩,?_⟩
  rw[uB]
  refine⟨by lia,?_⟩
  unfold jw
  have rl:=Ug rk.2 (by lia)
  rw[if_pos k0,ek]
  show W (if r.length<cap then _ else _) _
  rw[if_pos (yT (by lia)),aj,aj,aj]
  refine⟨by show((s.xss.set _ _).length:Int)=n;rw[length_set];lia,λxs hx=>?_⟩
  rcases List.mem_or_eq_of_mem_set (show xs∈s.xss.set _ _ from hx) with z|z
  ·exact sm xs z
  ·rw[z]
   exact⟨by simp,Zz rk.2 a0 a1 ar⟩
theorem zQ8(h:sE n maps bases)(c:Int)(k0:0<=k)(k1:k<=100):W (T_ c k maps bases) (Un n):=by
 have hl:=h.len
 have hn:=h.few
 have hp:=h.pos
 have hb:=h.bn
 have hb1:=h.b1
 unfold T_
 rw[zC,zC,zC,zC]
 refine(Ue _ _).imp λz _=>?_
 rw[oV]
 refine⟨⟨by lia,by omega⟩,?_⟩
 rw[aj]
 refine(zNn _ (by show(0:Int)<=bases;lia) (by show bases<=60;lia)).imp λgoals hg=>?_
 have ef:((bH (maps.length:Int)).bind λxs=>aO (λ(x6:Int)=>(aU maps x6).bind λa7=>some (decide (a7∈goals))) (λ(x6:Int)=>some x6) xs)=some ((rng n).filter λx=>decide (ng maps x.toNat∈goals)):=by
  apply j5
  rw[zC,uG,hl]
  refine⟨⟨by lia,by omega⟩,?_⟩
  unfold aO
  rw[if_pos (yT (by rw[uX];lia)),zHg (p:=λx=>decide (ng maps x.toNat∈goals)) (g:=λx=>x) (λx hx=>?_) (λ_ _=>rfl),aj,map_id']
  obtain⟨x0,x1⟩:=cU.mp hx
  rw[Bv x0,GK (by lia)];rfl
 have rf:aL n ((rng n).filter λx=>decide (ng maps x.toNat∈goals)):=zFe _ (zN2 n)
 rw[zC,ef,aj]
 generalize((rng n).filter λx=>decide (ng maps x.toNat∈goals))=found at rf
 have uf:Un n found:=⟨rf.nodup,rf.2⟩
 have key:W ((((bV c (7:Int)).bind λa8=>aZ a8 (2:Int)).bind λa9=>some (decide (a9=(1:Int)))).bind λb=>if b=true then(some found.reverse).bind λmZ=>some mZ else some found) (Un n):=by
  rw[zC,zC,zC,oV]
  refine⟨⟨by decide,by decide⟩,?_⟩
  rw[uB]
  refine⟨by decide,?_⟩
  rw[aj,oW]
  refine⟨λ_=>?_,λ_=>aj.mpr uf⟩
  rw[zC,aj,aj]
  exact⟨zKu uf.1,λx hx=>uf.2 x (List.mem_reverse.mp hx)⟩
 rw[zC]
 refine key.imp λDm us=>?_
 have sl:=Ug us (by lia)
 have key2:W (((((bV c (14:Int)).bind λa13=>aZ a13 (5:Int)).bind λa14=>(aZ k (9:Int)).bind λJz=>some (decide (a14=Jz))).bind λc16=>if c16=true then some (decide ((1:Int)<(maps.length:Int))) else some false).bind λb=>if b=true then((bV c (70:Int)).bind λa20=>aZ a20 (maps.length:Int)).bind λgb=>(if(!decide (gb∈Dm))=true then(push Dm gb).bind λm6=>some m6 else some Dm).bind λDl=>some Dl else some Dm) (Un n):=by
  rw[zC,zC,zC,zC,oV]
  refine⟨⟨by decide,by decide⟩,?_⟩
  rw[uB]
  refine⟨by decide,?_⟩
  rw[zC,uB]
  refine⟨by decide,?_⟩
  rw[aj]
  refine(show W (if decide (c/14%5=k%9)=true then some (decide ((1:Int)<(maps.length:Int))) else some false) (λ_=>True) by rw[oW];exact⟨λ_=>aj.mpr trivial,λ_=>aj.mpr trivial⟩).imp λb _=>?_
  rw[oW]
  refine⟨λ_=>?_,λ_=>aj.mpr us⟩
  rw[zC,zC,oV]
  refine⟨⟨by decide,by decide⟩,?_⟩
  rw[uB]
  refine⟨by lia,?_⟩
  rw[hl,zC,oW]
  refine⟨λz=>?_,λ_=>by rw[aj,aj];exact us⟩
  rw[zC,Cd]
  refine⟨yT (by lia),?_⟩
  rw[aj,aj]
  exact Zz us (abk _ (by lia)) (abh _ (by lia)) (by simpa using z)
 rw[zC]
 refine key2.imp λqu u17=>?_
 rw[aj]
 exact u17
end
theorem zOj(h0:0<=n)(h1:n<=60){t:List Nat}(t7:t.length<=7)(tl:Bj t){ms:List (Str×LI)}(hl:ms.length<=4)(hm:∀(j:Nat) (p:Str×LI),ms[j]?=some p->p.1=g8 (Cw e t r (j:Int))/\Un n p.2):uI n ms:=by
 refine⟨?_,by lia,λp hp=>?_⟩
 ·rw[List.nodup_iff_pairwise_ne,pairwise_iff_getElem]
  intro i j hi hj ij q
  rw[length_map] at hi hj
  rw[List.getElem_map,List.getElem_map,(hm i _ (aax hi)).1,(hm j _ (aax hj)).1] at q
  have:=RB (by lia) (by lia) (zS6 q)
  lia
 ·obtain⟨j,hj⟩:=mem_iff_getElem?.mp hp
  obtain⟨e1,e2⟩:=hm j p hj
  rw[e1]
  have l8:=(zS7 (e:=e) (r:=r) (k:=(j:Int)) t7).2
  exact⟨zW3 t7 tl,by rw[zS5];lia,Zy e2 h0 h1⟩
theorem J4(q:mq):W (uJ q) λT=>∃n,Rx n T:=by
 unfold uJ
 obtain⟨c0,e0,_⟩:=uL q (k:=0) (by decide)
 obtain⟨c1,e1,_⟩:=uL q (k:=1) (by decide)
 obtain⟨c4,e4,_⟩:=uL q (k:=4) (by decide)
 obtain⟨c5,e5,_⟩:=uL q (k:=5) (by decide)
 obtain⟨e,t,r,t7,tl,nm⟩:=zYd c5
 rw[e0,e1,e4,e5,zC,zC,zC,zC,aj,oV]
 refine⟨⟨by decide,by decide⟩,?_⟩
 rw[uB]
 refine⟨by decide,?_⟩
 rw[aj,oW]
 refine⟨λ_=>?_,λ_=>?_⟩
 ·rw[zC,zC,zC,aj,uB]
  refine⟨by decide,?_⟩
  rw[aj]
  have b0:=abk c1 (show(29:Int)≠0 by decide)
  have b1:=abh c1 (show(0:Int)<29 by decide)
  generalize hn:(12:Int)+c1%29=n
  rw[zC,zC,uG]
  refine⟨⟨by lia,by omega⟩,?_⟩
  rw[Gv (λx8:Int=>[min (x8+(1:Int)) (n-(1:Int))])]
  refine⟨yT (by rw[uX];lia),?_⟩
  rw[zC,zC,zC,zC,zC,aj,aj]
  show W (wE c5 0) _
  rw[nm 0 (ace _),aj,aj,aj,aj]
  refine⟨n,⟨?_,by lia,by lia,λxs hx=>?_,zOj (e:=e) (t:=t) (r:=r) (by lia) (by lia) t7 tl (show 1<=4 by decide) λj p hp=>?_,by show 1<64;decide,by show 0<=100;decide,λxs hx=>(by cases hx)⟩⟩
  ·show(((rng n).map _).length:Int)=n
   rw[length_map,uX];lia
  ·obtain⟨x,hxr,rfl⟩:=mem_map.mp (show xs∈(rng n).map _ from hx)
   obtain⟨x0,x1⟩:=cU.mp hxr
   refine⟨by simp,Zy ⟨by simp,λz hz=>?_⟩ (by lia) (by lia)⟩
   rw[mem_singleton.mp hz]
   lia
  ·cases j with
   |zero =>
    cases(abf (show some _=some p from hp))
    exact⟨rfl,by simp,λz hz=>by rw[mem_singleton.mp hz];omega⟩
   |succ j=>cases j<;>cases hp
 ·rw[zC]
  refine(RD q).imp λv ⟨n,h⟩=>?_
  have hn:=h.few
  have hp:=h.pos
  rw[zC]
  refine(zVj h q).imp λsteps ⟨sl,sm⟩=>?_
  have m0:=abk c4 (show(4:Int)≠0 by decide)
  have m1:=abh c4 (show(0:Int)<4 by decide)
  have f0:=abk (c5/5) (show(4:Int)≠0 by decide)
  have f1:=abh (c5/5) (show(0:Int)<4 by decide)
  rw[zC,aj,zC,zC,zC,zC,aj,uB]
  refine⟨by decide,?_⟩
  rw[uG]
  refine⟨⟨by lia,by omega⟩,?_⟩
  refine vE (λi s=>s.length=i/\∀(j:Nat)(p:Str×LI),s[j]?=some p->p.1=g8 (Cw e t r (j:Int))/\Un n p.2) ⟨rfl,λj p h=>by simp at h⟩ (λi x s hi hI=>?_) λms hI=>?_
  ·obtain⟨rfl,il⟩:=K5 hi
   obtain⟨l1,l2⟩:=hI
   rw[zC,zC,zC,zC,zC,aj,aj]
   show W (wE c5 (i:Int)) _
   rw[nm (i:Int) (by lia),aj,zC,zC,zC,aj,aj]
   refine(zQ8 h c4 (k:=(i:Int)) (by lia) (by lia)).imp λst us=>?_
   rw[aj,Cd]
   refine⟨yT (by lia),?_⟩
   rw[aj]
   refine⟨by rw[length_append,l1];rfl,λj p hp=>?_⟩
   rcases Nat.lt_or_ge j s.length with z|z
   ·rw[getElem?_append_left z] at hp
    exact l2 j p hp
   ·rw[getElem?_append_right z] at hp
    have ej:j=i:=by
     have:=xB hp
     rw[length_singleton] at this
     lia
    rw[ej,l1,afb] at hp
    cases(abf (show some _=some p from hp))
    rw[ej]
    exact⟨rfl,us⟩
  ·obtain⟨l1,l2⟩:=hI
   rw[uX] at l1
   rw[zC,aj,zC,zC,zC,zC,zC,aj,oV]
   refine⟨⟨by decide,by decide⟩,?_⟩
   rw[uB]
   refine⟨by decide,?_⟩
   rw[uG]
   refine⟨⟨by lia,by omega⟩,?_⟩
   refine vE (λi s=>s.length=i/\∀xs∈s,Un n xs) ⟨rfl,λx h=>(by cases h)⟩ (λi x s hi hI=>?_) λfs hI=>?_
   ·obtain⟨rfl,il⟩:=K5 hi
    obtain⟨k1,k2⟩:=hI
    rw[zC,zC,zC,zC,aj,aj]
    refine(zQ8 h c5 (k:=(9:Int)+i) (by lia) (by lia)).imp λst us=>?_
    rw[Cd]
    refine⟨yT (by lia),?_⟩
    rw[aj]
    refine⟨by rw[length_append,k1];rfl,λxs hx=>?_⟩
    rcases mem_append.mp hx with z|z
    ·exact k2 xs z
    ·rw[mem_singleton.mp z];exact us
   ·obtain⟨k1,k2⟩:=hI
    rw[uX] at k1
    rw[aj]
    exact⟨n,sl,hp,by lia,λxs hx=>⟨(sm xs hx).1,Zy (sm xs hx).2 (by lia) (by lia)⟩,zOj (by lia) (by lia) t7 tl (by show ms.length<=4;lia) l2,by show ms.length<64;lia,by show fs.length<=100;lia,λxs hx=>Zy (k2 xs hx) (by lia) (by lia)⟩
section
variable{C:Addr}{m:aq C}{n:Int}{c:LI}{M N:Nat}
theorem zHi{α β:Type}{c:α->Option Bool}{f:α->Option β}{g:α->β}{xs:List α}(hl:xs.length<cap)(hc:∀x∈xs,c x=some true)(hf:∀x∈xs,f x=some (g x)):aO c f xs=some (xs.map g):=by
 unfold aO
 rw[if_pos hl,Zw hc hf]
theorem zVm(g:Gr m n)(hm:m.marks.length<64)(hf:m.fair.length<=100):∃c M,xU m=some c/\sy m n c M/\yR c=some (wX M n.toNat c):=by
 have gp:=g.pos
 have Rv:=g.few
 obtain⟨told,e,t,c,rfl,st,fx⟩:=zKa g hm hf
 have cl:=st.len
 obtain⟨M,h1,h2,h3,h4,h5⟩:=zVe (N:=n.toNat) st.can (by lia) (by lia) (by lia)
 refine⟨c,M,?_,⟨st,fx,h1,h2,h3,h4⟩,h5⟩
 unfold xU
 rw[e]
 exact zO5 t c
def due(c:LI)(M N:Nat)(xs:LI):LI:=(rng (M:Int)).filter λk=>(oR N c k.toNat).any λy=>decide (y∈xs)
theorem Mu(xs:LI):aL (M:Int) (due c M N xs):=zFe _ (zN2 _)
theorem iW:k∈due c M N xs↔(0<=k/\k<(M:Int))/\∃y,(0<=y/\y<(N:Int)/\ng c y.toNat=k)/\y∈xs:=by
 unfold due
 rw[mem_filter,cU,any_eq_true]
 constructor
 ·rintro⟨⟨k0,k1⟩,y,hy,hx⟩
  obtain⟨y0,y1,y2⟩:=gW.mp hy
  grind
 ·rintro⟨⟨k0,k1⟩,y,⟨y0,y1,y2⟩,hx⟩
  exact⟨⟨k0,k1⟩,y,gW.mpr ⟨y0,y1,by omega⟩,decide_eq_true hx⟩
theorem RL(h:∀k,(∃y,(0<=y/\y<(N:Int)/\ng c y.toNat=k)/\y∈xs)↔∃y,(0<=y/\y<(N:Int)/\ng c y.toNat=k)/\y∈ys):due c M N xs=due c M N ys:=Iu (Mu xs).1 (Mu ys).1 λk=>by rw[iW,iW,h]
theorem zRf(h:sy m n c M)(hx:∀t∈xs,0<=t/\t<n):vY (xs.map λt=>ng c t.toNat)=due c M n.toNat xs:=Iu (Ir _) (Mu _).1 λk=>by
 rw[bG,mem_map,iW]
 have cl:=h.st.len
 constructor
 ·rintro⟨t,ht,rfl⟩
  obtain⟨t0,t1⟩:=hx t ht
  have:=h.lt t.toNat (by lia)
  have:=(h.st.can t.toNat (by lia)).1
  grind
 grind
def RM(m:aq C)(c:LI)(M N:Nat)(r:LI):LI:=due c M N (nxt m.steps (r.headD 0))
def Uh(c:LI)(M N:Nat)(p:Str×LI):Str×LI:=(p.1,due c M N p.2)
theorem zR0(h:Ad n xs)(h0:0<=n)(h1:n<=60):xs.length<=60:=by
 have:=wC (n:=n.toNat) h.1 λz hz=>by have:=h.2.2 z hz;lia
 lia
theorem zVk(g:Gr m n)(hM:uI n m.marks)(hf:m.fair.length<=100)(hF:∀s∈m.fair,Ad n s)(e:xU m=some c)(ok:sy m n c M)(es:yR c=some (wX M n.toNat c)) :
  W (W0 C m) λf=>Gr f (M:Int)/\f.steps=(wX M n.toNat c).map (RM m c M n.toNat)/\f.marks=m.marks.map (Uh c M n.toNat)/\f.fair=m.fair.map (due c M n.toNat):=by
 have gp:=g.pos
 have Rv:=g.few
 have M60:=ok.few
 have M0:=ok.pos
 have cl:=ok.st.len
 have nof:∀xs:LI,(∀t∈xs,0<=t/\t<n)->xs.length<64->yW c xs=some (due c M n.toNat xs):=λxs h1 h2=>by rw[zF5 cl h1 h2,zRf ok h1]
 have nos:∀xs:LI,Ad n xs->yW c xs=some (due c M n.toNat xs):=λxs h=>nof xs h.2.2 (by have:=zR0 h (by lia) Rv;lia)
 have Xj:∀r∈wX M n.toNat c,∃a r',r=a::r'/\0<=a/\a<n:=λr hr=>by
  unfold wX at hr
  obtain⟨k,hk,rfl⟩:=mem_map.mp hr
  obtain⟨a,r',hr',_,a0,a1,_⟩:=zYy ok (mem_range.mp hk)
  exact⟨a,r',hr',a0,a1⟩
 unfold W0
 rw[e,zC,aj,zC,zC,es,aj]
 rw[zHi (xs:=wX M n.toNat c) (g:=RM m c M n.toNat) (yT (by rw[zI7];lia)) (λ_ _=>rfl) (λr hr=>by
  obtain⟨a,r',rfl,a0,a1⟩:=Xj r hr
  obtain⟨_,t1,t2⟩:=Zx g a0 a1
  have p:=wK (nxt m.steps a)
  rw[show aU (a::r') (0:Int)=some a by rw[Bv (ace _)];rfl]
  show((((yJ m a).bind λa7=>some ((a7,()))).bind λb8=>some (c,b8)).bind λz6=>yW z6.1 z6.2.1)=_
  rw[zYc g a0 a1]
  show yW c (Ep (nxt m.steps a))=some (due c M n.toNat (nxt m.steps a))
  rw[nof _ (λt ht=>t1 t (p.mem_iff.mp ht)) (by rw[p.length_eq];lia)]
  exact congrArg some (RL λk=>⟨(by rintro⟨y,h1,h2⟩;exact⟨y,h1,p.mem_iff.mp h2⟩),(by rintro⟨y,h1,h2⟩;exact⟨y,h1,p.mem_iff.mpr h2⟩)⟩)),aj]
 have m1:=hM.2.1
 rw[zC,zC,aj,zHi (xs:=m.marks) (g:=Uh c M n.toNat) (yT (by lia)) (λ_ _=>rfl) (λp hp=>by
  rw[nos p.2 (hM.2.2 p hp).2.2];rfl),aj]
 rw[zC,zC,aj,zHi (xs:=m.fair) (g:=due c M n.toNat) (yT (by lia)) (λ_ _=>rfl) (λp hp=>by
  rw[nos p (hF p hp)]),aj]
 refine Mf C (n:=(M:Int)) (by rw[length_map,zI7]) (by lia) (by lia) (λxs hx=>?_) ⟨?_,?_,λq hq=>?_⟩ ⟨?_,λxs hx=>?_⟩
 ·obtain⟨r,hr,rfl⟩:=mem_map.mp hx
  obtain⟨a,r',rfl,a0,a1⟩:=Xj r hr
  refine⟨λz=>?_,Xa (Mu _) (by lia)⟩
  obtain⟨s1,t1,_⟩:=Zx g a0 a1
  have ne:=(g.row _ (mem_of_getElem? s1)).1
  obtain⟨t,r2,e2⟩:=List.exists_cons_of_ne_nil ne
  have mt:t∈nxt m.steps a:=by rw[e2];exact mem_cons_self
  obtain⟨t0,t2⟩:=t1 t mt
  have q1:=ok.lt t.toNat (by lia)
  have q2:=(ok.st.can t.toNat (by lia)).1
  have:ng c t.toNat∈due c M n.toNat (nxt m.steps a):=iW.mpr ⟨⟨by lia,by omega⟩,t,⟨t0,by lia,rfl⟩,mt⟩
  have z:due c M n.toNat (nxt m.steps a)=[]:=z
  rw[z] at this
  cases this
 ·show(((m.marks.map (Uh c M n.toNat)).map (·.1))).Nodup
  rw[map_map]
  exact hM.1
 ·show(m.marks.map _).length<=100
  rw[length_map];exact m1
 ·obtain⟨p,hp,rfl⟩:=mem_map.mp (show q∈m.marks.map (Uh c M n.toNat) from hq)
  obtain⟨n1,n2,_⟩:=hM.2.2 p hp
  exact⟨n1,n2,Xa (Mu _) (by lia)⟩
 ·show(m.fair.map _).length<=100
  rw[length_map];exact hf
 ·obtain⟨s,hs,rfl⟩:=mem_map.mp (show xs∈m.fair.map (due c M n.toNat) from hx)
  exact Xa (Mu _) (by lia)
end
end Ts
set_option maxHeartbeats 40000000
namespace Ts
open PySem L2 Sy
section
variable{P:Program}{w:World}{K:Frag}{mg:Str->Option Value}{base:Heap}
seal L2.PE L2.PT L2.PW L2.PA L2.PS L2.qT L2.PC L2.PG L2.G6 L2.PI L2.sY L2.PO
def Xk(C:Addr)(cl:Hd->Addr)(q0:mq):Option Bool:=(uJ q0).bind λcQ=>(W9 C cQ).bind λaM=>(((some cQ.b).bind λxs=>aO (λ(x4:Str×LI)=>some true) (λ(x4:Str×LI)=>some x4.1) xs).bind λa8=>((((yE q0 (5:Int)).bind λa6=>some ((a6,((3:Int),())))).bind λz5=>wE z5.1 z5.2.1).bind λa7=>some (a7::([]))).bind λb9=>IV a8 b9).bind λnames3=>(vP cl 5 q0 (25:Int) names3 (3:Int)).bind λv10=>(WY aM).bind λb_=>(Jy aM v10.1).bind λgJ=>(((W0 C aM).bind λa15=>some ((a15,(v10.1,())))).bind λz14=>Jy z14.1 z14.2.1).bind λeV=>(((QX gJ (cQ.a.length:Int)).bind λa16=>some (!a16)).bind λc18=>if c18=true then some true else(QX eV (b_.length:Int)).bind λa17=>some (!a17)).bind λb=>if b=true then some false else(some (0:Int)).bind λuz=>((bH (b_.length:Int)).bind λxs=>oJ (λ(qQ:Int) (x22:Int)=>((aU b_ x22).bind λxs=>oJ (λ(tW:Int) (x25:Int)=>(some (tW+(1:Int))).bind λBk=>if(!decide ((decide (x25∈gJ))=(decide (x22∈eV))))=true then(some false).bind λb=>some (.rt b) else some (.nx Bk)) xs qQ).bind λo=>o.aV λs24=>some (.nx s24)) xs uz).bind λo=>o.els λDl=>some (decide (Dl=(cQ.a.length:Int)))
theorem Gf:ak ["_law_script","_law_parts","_law_machine_here","_law_names","_law_saying","_law_at","_law_parted","_law_here","_law_there","_law_many","_law_k","_law_stand"] ["_law_script"] (zJ rO):=fsc
abbrev Xl(K:Frag)(C:Addr)(cl:Hd->Addr):Sp:=bW K false (λa:mq×Unit=>([.z a.1]:SL K)) (λa=>Xk C cl a.1)
theorem RN(F:aY K "law" "law" rO f fd)(B:Bl K mg)(aF:aW P w K mg base k "_law_cell_at" ["_law_script","_law_k"] (T8 K))(j6:aW P w K mg base k "_law_machine" ["_law_parts"] (zHu K C))(cP:aW P w K mg base k "_law_name_by" ["_law_cell","_law_k"] (zDw K))(iY:aW P w K mg base k "_law_parts_by" ["_law_script"] (zFo K))(cu:aW P w K mg base k "_law_saying_by" ["_law_script","_law_at","_law_names","_law_depth"] (zEr K cl))(o_:aW P w K mg base k "_law_set" ["_law_found","_law_many"] (zVb K))(n7:aW P w K mg base k "classes" ["machine"] (zMb K C))(qM:aW P w K mg base k "folded" ["machine"] (zPa K C))(pA:aW P w K mg base k "holds" ["machine","saying"] (zVc K C cl)):au P w K mg base aP (k+1) f fd ["_law_script"] (Xl K C cl):=by
 refine yK F Gf (λ_=>rfl) (λ_=>rfl) λcdv A outer s H E hr=>?_
 have nd:=Gf.nd
 refine⟨_,(zB (yQ 1 nd (zU iY hr (zA (pv 0) zF))) (zB (yQ 2 nd (zU j6 hr (zA (pv 1) zF))) (zB (yQ 3 nd (zZ N_ (uF (own:=["_law_name","_law_stands"]) (ix:=[]) rfl rfl rfl (yS K (xC (OD K) (pv 1) zM (λ_ _=>rfl))) (λC s H fp=>Od (K:=K) (n:=2) rfl rfl (yH (yM (i:=0) (show(["_law_name","_law_stands"]:List Str).Nodup from by decide +kernel) rfl (Or.inl rfl)) (yH (yM (i:=1) (show(["_law_name","_law_stands"]:List Str).Nodup from by decide +kernel) rfl (Or.inl rfl)) vC))) (λC s H fp=>wR) (λC s H fp=>(pv 0))) (xY (zA (zU cP hr (zA (zU aF hr (zA (pv 0) (zA zM zF))) (zA zM zF))) zF)))) (zB (G8 (zU cu hr (zA (pv 0) (zA zM (zA (pv 3) (zA zM zF))))) (C_ rfl (yH (bI 4 nd) (yH (bI 5 nd) vC)))) (zB (yQ 6 nd (zU n7 hr (zA (pv 2) zF))) (zB (yQ 7 nd (zU pA hr (zA (pv 2) (zA (pv 4) zF)))) (zB (yQ 8 nd (zU pA hr (zA (zU qM hr (zA (pv 2) zF)) (zA (pv 4) zF)))) (zB (xD (PW.pt (pw_or (M8 (vR (zU o_ hr (zA (pv 7) (zA (zR (wL K) rfl B.len abd (zA (xC (OD K) (pv 1) zM (λ_ _=>rfl)) zF)) zF))))) (pw_or1 (M8 (vR (zU o_ hr (zA (pv 8) (zA (zR (wL K) rfl B.len abd (zA (pv 6) zF)) zF)))))))) (zB (zQ Dt) zI) zI) (zB (yQ 9 nd zM) (zB (xG aa3 rfl (xI rfl B.range (zA (zR (wL K) rfl B.len abd (zA (pv 6) zF)) zF)) (bI 10 nd) (zB (xG aa3 rfl (yS K (xC (aX K) (pv 6) (pv 10) (λ_ _=>rfl))) (bI 11 nd) (zB (yQ 9 nd (zZ vZ (pv 9) zM)) (zB (xD (yD (zZf K Bool hr) (UJ (Ih K) (pv 11) (pv 7) (by with_unfolding_all rfl)) (UJ (Ih K) (pv 10) (pv 8) (by with_unfolding_all rfl)) (yZ _)) (zB (zQ Dt) zI) zI) zI))) zI)) (zB (zQ (UJ (wG K Int hr) (pv 9) (zR (wL K) rfl B.len abd (zA (xC (OD K) (pv 1) zM (λ_ _=>rfl)) zF)) (yZ _))) zI))))))))))),?_⟩
 rintro Fa ⟨q0,⟨⟩⟩
 exact SB.of (zO (yC true 1 rfl rfl (zK (zD (zE 0 rfl) zN))) (λcQ=>(Ls [.z q0,.y cQ,.un,.un,.un,.un,.un,.un,.un,.un,.un,.un] (zO (yC true 2 rfl rfl (zK (zD (zE 1 rfl) zN))) (λaM=>(Ls [.z q0,.y cQ,.y aM,.un,.un,.un,.un,.un,.un,.un,.un,.un] (zO (yC true 3 rfl rfl (PJ (xO (n:=true) (lV:=[.un,.un]) (no:=2) (ix:=[]) rfl rfl (yV (Jk (yF 1 rfl) (zL 1))) (z_ 0 1 rfl rfl (λ_=>rfl) rfl) (λx4=>Ab) (λx4=>(esc (zH 0 rfl))) (λx4=>eZ)).ex (Ed (yU (esc (zK (zD (esc (zK (zD (zE 0 rfl) (zD (esc (zL 5)) zN)))) (zD (esc (zL 3)) zN)))) Ec) (λa h=>aa4 ((xM Ek) a h) (by decide))).ex).ex) (λnames3=>(Ls [.z q0,.y cQ,.y aM,.y names3,.un,.un,.un,.un,.un,.un,.un,.un] (zO (YS (n:=true) (zK (zD (zE 0 rfl) (zD (esc (zL 25)) (zD (zE 3 rfl) (zD (esc (zL 3)) zN))))) (z_ 4 5 rfl rfl (λ_=>rfl) rfl)) (λv10=>(Ls [.z q0,.y cQ,.y aM,.y names3,.y v10.1,.y v10.2,.un,.un,.un,.un,.un,.un] (zO (yC true 6 rfl rfl (zK (zD (zE 2 rfl) zN))) (λb_=>(Ls [.z q0,.y cQ,.y aM,.y names3,.y v10.1,.y v10.2,.y b_,.un,.un,.un,.un,.un] (zO (yC true 7 rfl rfl (zK (zD (zE 2 rfl) (zD (zE 4 rfl) zN)))) (λgJ=>(Ls [.z q0,.y cQ,.y aM,.y names3,.y v10.1,.y v10.2,.y b_,.y gJ,.un,.un,.un,.un] (zO (yC true 8 rfl rfl (zK (zD (zK (zD (zE 2 rfl) zN)) (zD (zE 4 rfl) zN)))) (λeV=>(Ls [.z q0,.y cQ,.y aM,.y names3,.y v10.1,.y v10.2,.y b_,.y gJ,.y eV,.un,.un,.un] (xP (KJ (Oi (cZ (md:=.hp) (zK (zD (zE 7 rfl) (zD (esc (wO (zT5 (zE 1 rfl) (zL 0)))) zN))))) (Oi (cZ (md:=.hp) (zK (zD (zE 8 rfl) (zD (esc (wO (zE 6 rfl))) zN)))))) (zV (esc (Eb false))) (zO (yC true 9 rfl rfl (esc (zL 0))) (λuz=>(Ls [.z q0,.y cQ,.y aM,.y names3,.y v10.1,.y v10.2,.y b_,.y gJ,.y eV,.y uz,.un,.un] (Ye (Vj (n:=true) (L:=(λqQ:Int=>([.z q0,.y cQ,.y aM,.y names3,.y v10.1,.y v10.2,.y b_,.y gJ,.y eV,.y qQ,.un,.un]:SL K))) uz bw (wV (wO (zE 6 rfl))) (λqQ=>(yL 10 rfl rfl)) (λqQ x22=>(zVu (Vj (n:=true) (L:=(λtW:Int=>([.z q0,.y cQ,.y aM,.y names3,.y v10.1,.y v10.2,.y b_,.y gJ,.y eV,.y tW,.y x22,.un]:SL K))) qQ bw (yV (xL (yF 6 rfl) (zH 10 rfl))) (λtW=>(yL 11 rfl rfl)) (λtW x25=>(zRq (yC true 9 rfl rfl (esc (uA (zH 9 rfl) (zL 1)))) (λBk=>(Yg (yG (md:=.hp) (zZt (KY (zH 11 rfl) (zE 7 rfl)) (KY (zH 10 rfl) (zE 8 rfl)))) (zV (esc (Eb false))) (Vi (λtW:Int=>([.z q0,.y cQ,.y aM,.y names3,.y v10.1,.y v10.2,.y b_,.y gJ,.y eV,.y tW,.y x22,.un]:SL K)) Bk bw)))))) (λs24=>(Vi (λqQ:Int=>([.z q0,.y cQ,.y aM,.y names3,.y v10.1,.y v10.2,.y b_,.y gJ,.y eV,.y qQ,.un,.un]:SL K)) s24 bw))))) (λDl=>(zV (esc (wH (zH 9 rfl) (wO (zT5 (zE 1 rfl) (zL 0))))))))))))))))))))))))))))))))) (by unfold Xk;simp only[bnd])
end
section
variable{C:Addr}{cl:Hd->Addr}{m f:aq C}{n:Int}{c:LI}{M:Nat}
theorem zX6(g:Gr m n)(hM:uI n m.marks)(hF:uV n m.fair)(ok:sy m n c M)(h:Gr f (M:Int))(f1:f.steps=(wX M n.toNat c).map (RM m c M n.toNat))(f2:f.marks=m.marks.map (Uh c M n.toNat))(f3:f.fair=m.fair.map (due c M n.toNat)):Alike m f n (M:Int) λs=>ng c s.toNat:=by
 have gp:=g.pos
 have Rv:=g.few
 have M60:=ok.few
 have nn:((n.toNat:Nat):Int)=n:=by lia
 have rg:∀s,0<=s->s<n->0<=ng c s.toNat/\ng c s.toNat<(M:Int):=λs s0 s1=>⟨(ok.st.can s.toNat (by have:=ok.st.len;lia)).1,ok.lt s.toNat (by lia)⟩
 have like:=λ{a x:Int} (a0:0<=a) (a1:a<n) (x0:0<=x) (x1:x<n) (e:ng c a.toNat=ng c x.toNat)=>zXy g ok hM.1 a0 a1 x0 x1 e
 have nx:∀s,0<=s->s<n->∃a,0<=a/\a<n/\ng c a.toNat=ng c s.toNat/\nxt f.steps (ng c s.toNat)=due c M n.toNat (nxt m.steps a):=λs s0 s1=>by
  obtain⟨k0,k1⟩:=rg s s0 s1
  obtain⟨a,r,hr,ea,a0,a1,_⟩:=zYy ok (k:=(ng c s.toNat).toNat) (by lia)
  refine⟨a,a0,a1,by rw[ea];lia,?_⟩
  unfold nxt
  rw[f1]
  have e:=zR5 (M:=M) (N:=n.toNat) (c:=c) (k:=(ng c s.toNat).toNat) (by lia)
  rw[Bv (by lia)] at e
  have e:(wX M n.toNat c)[(ng c s.toNat).toNat]?=some (oR n.toNat c (ng c s.toNat).toNat):=e
  rw[getD_eq_getElem?_getD,getElem?_map,e,hr]
  rfl
 have md:∀(xs:LI)(s:Int),0<=s->s<n->(∀y,0<=y->y<n->ng c y.toNat=ng c s.toNat->(y∈xs↔s∈xs))->(s∈xs↔ng c s.toNat∈due c M n.toNat xs):=λxs s s0 s1 hy=>by
  rw[iW]
  constructor
  ·exactλh=>⟨rg s s0 s1,s,⟨s0,by lia,rfl⟩,h⟩
  ·rintro⟨_,y,⟨y0,y1,e⟩,yx⟩
   exact(hy y y0 (by lia) e).mp yx
 refine⟨g,h,hF,⟨by rw[f3,length_map];exact hF.1,λF hf=>?_⟩,hM,?_,rg,λs t s0 s1 tn=>?_,λs k s0 s1 kn=>?_,λx s s0 s1=>?_,λF hf=>?_,λF' hf=>?_⟩
 ·rw[f3] at hf
  obtain⟨s,_,rfl⟩:=mem_map.mp hf
  exact Xa (Mu _) (by lia)
 ·rw[f2]
  refine⟨?_,by rw[length_map];exact hM.2.1,λq hq=>?_⟩
  ·rw[map_map]
   exact hM.1
  ·obtain⟨p,hp,rfl⟩:=mem_map.mp hq
   obtain⟨n1,n2,_⟩:=hM.2.2 p hp
   exact⟨n1,n2,Xa (Mu _) (by lia)⟩
 ·obtain⟨a,a0,a1,ea,e⟩:=nx s s0 s1
  obtain⟨t0,t1⟩:=Gb g s0 s1 t tn
  show ng c t.toNat∈nxt f.steps (ng c s.toNat)
  rw[e]
  obtain⟨u,un,eu⟩:=mem_map.mp (((like a0 a1 s0 s1 ea).2.2 (ng c t.toNat)).mpr (mem_map.mpr ⟨t,tn,rfl⟩))
  obtain⟨u0,u1⟩:=Gb g a0 a1 u un
  exact iW.mpr ⟨rg t t0 t1,u,⟨u0,by lia,eu⟩,un⟩
 ·obtain⟨a,a0,a1,ea,e⟩:=nx s s0 s1
  have kn:k∈nxt f.steps (ng c s.toNat):=kn
  rw[e] at kn
  obtain⟨_,y,⟨y0,y1,ey⟩,yn⟩:=iW.mp kn
  obtain⟨u,un,eu⟩:=mem_map.mp (((like a0 a1 s0 s1 ea).2.2 k).mp (mem_map.mpr ⟨y,yn,ey⟩))
  exact⟨u,un,eu⟩
 ·rw[f2]
  constructor
  ·rintro⟨p,hp,e,h⟩
   exact⟨Uh c M n.toNat p,mem_map.mpr ⟨p,hp,rfl⟩,e,(md p.2 s s0 s1 λy y0 y1 e=>(like y0 y1 s0 s1 e).1 p hp).mp h⟩
  ·rintro⟨p',hp',e,h⟩
   obtain⟨p,hp,rfl⟩:=mem_map.mp hp'
   exact⟨p,hp,e,(md p.2 s s0 s1 λy y0 y1 e=>(like y0 y1 s0 s1 e).1 p hp).mpr h⟩
 ·exact⟨due c M n.toNat F,by rw[f3];exact mem_map.mpr ⟨F,hf,rfl⟩,λs s0 s1=>md F s s0 s1 λy y0 y1 e=>(like y0 y1 s0 s1 e).2.1 F hf⟩
 ·rw[f3] at hf
  obtain⟨F,hF',rfl⟩:=mem_map.mp hf
  exact⟨F,hF',λs s0 s1=>md F s s0 s1 λy y0 y1 e=>(like y0 y1 s0 s1 e).2.1 F hF'⟩
theorem RP(q:mq)(h0:0<=at_)(names:List Str)(hn:names.length<=100):W (W_ q at_ names d) λw=>d=0->w = "all" \/ w∈names:=by
 unfold W_
 rw[zC,zC,zC]
 refine(uL q h0).imp λc _=>?_
 rw[aj]
 refine(Ue c at_).imp λr _=>?_
 rw[zC,aj,zC,aj,zC,uB]
 refine⟨by decide,?_⟩
 have Mv:∀(Q:Str->Prop),(∀w∈names,Q w)->Q "all"->W ((((bV r (5:Int)).bind λa7=>aZ a7 (8:Int)).bind λa8=>some (decide (a8=(0:Int)))).bind λc9=>if c9=true then some true else some (decide ((names.length:Int)=(0:Int)))) λb=>W (if b=true then some ("all":Str) else((bV r (40:Int)).bind λa10=>aZ a10 (names.length:Int)).bind λyc=>aU names yc) Q:=λQ h1 h2=>by
  rw[zC,zC,zC,oV]
  refine⟨⟨by decide,by decide⟩,?_⟩
  rw[uB]
  refine⟨by decide,?_⟩
  rw[aj,oW]
  refine⟨λ_=>?_,λ_=>?_⟩
  ·rw[aj,if_pos rfl,aj]
   exact h2
  ·rw[aj,oW]
   refine⟨λ_=>by rw[aj];exact h2,λe=>?_⟩
   have l0:names.length≠0:=λz=>e (by rw[z];decide)
   rw[zC,zC,oV]
   refine⟨⟨by decide,by decide⟩,?_⟩
   rw[uB]
   refine⟨by lia,?_⟩
   have z0:=abk (r/40) (show(names.length:Int)≠0 by lia)
   have z1:=abh (r/40) (show 0<(names.length:Int) by lia)
   rw[dz z0]
   exact⟨_,aax (by lia),h1 _ (getElem_mem _)⟩
 have lit:∀(k:Int)(xs:List Str),(xs.length:Int)=k->0<k->∀Q:Str->Prop,(∀w,Q w)->W (((bV r (5:Int)).bind λa=>aZ a k).bind λb=>aU xs b) Q:=λk xs hk k0 Q hQ=>by
  rw[zC,zC,oV]
  refine⟨⟨by decide,by decide⟩,?_⟩
  rw[uB]
  refine⟨k0,?_⟩
  have z0:=abk (r/5) (show k≠0 by lia)
  have z1:=abh (r/5) k0
  rw[dz z0]
  exact⟨_,aax (by lia),hQ _⟩
 rw[zC,oW]
 refine⟨λhd=>?_,λhd=>?_⟩
 ·rw[aj,if_pos rfl,zC]
  exact Mv _ (λw hw _=>.inr hw) λ_=>.inl rfl
 ·have hd:d≠0:=λe=>hd (decide_eq_true e)
  rw[aj,oW]
  refine⟨λ_=>?_,λ_=>?_⟩
  ·rw[zC]
   exact Mv _ (λw hw _=>.inr hw) λ_=>.inl rfl
  ·rw[oW]
   exact⟨λ_=>lit 7 _ rfl (by decide) _ λw e=>absurd e hd,λ_=>lit 4 _ rfl (by decide) _ λw e=>absurd e hd⟩
theorem zVi(w:Str)(a b:bR cl):W (Ua w a b) λv=>v.t.depth<=max a.t.depth b.t.depth+1:=by
 have o1:∀i:Fin 7,W (some (bR.mk (.one i a.t):bR cl)) λv=>v.t.depth<=max a.t.depth b.t.depth+1:=λi=>by
  rw[aj]
  show a.t.depth+1<=_
  lia
 have o2:∀i:Fin 4,W (some (bR.mk (.two i a.t b.t):bR cl)) λv=>v.t.depth<=max a.t.depth b.t.depth+1:=λi=>by
  rw[aj]
  exact aaz _
 unfold Ua
 repeat(rw[oW];refine⟨λ_=>by first|exact o1 _|exact o2 _,λ_=>?_⟩)
 grind
theorem zIu(Dp:mq)(names:List Str)(hn:names.length<=100):∀(k d:Nat)(a:Int),d<k->0<=a->W (vP cl k Dp a names (d:Int)) λv=>v.1.t.depth<=d/\0<=v.2
 |0,_,_,h,_=>absurd h (adw _)
 |k+1,d,a,h,h0=>by
  show W (uN cl (vP cl k) Dp a names (d:Int)) _
  unfold uN
  rw[zC]
  refine(RP Dp h0 names hn).imp λw hw=>?_
  rw[oW]
  refine⟨λ_=>by rw[aj];exact⟨abl _,by show 0<=a+1;omega⟩,λn1=>?_⟩
  rw[oW]
  refine⟨λ_=>by rw[aj];exact⟨abl _,by show 0<=a+1;omega⟩,λn2=>?_⟩
  have d0:d≠0:=λe=>by
   grind
  rw[show(d:Int)-1=((d-1:Nat):Int) by lia,zC]
  refine(zIu Dp names hn k (d-1) (a+1) (by lia) (by lia)).imp λv ⟨v1,v2⟩=>?_
  rw[zC,aj,zC,oW]
  have fin:∀s:bR cl×Int,s.1.t.depth<=d-1->0<=s.2->W ((Ua w v.1 s.1).bind λa7=>some (a7,s.2)) λv=>v.1.t.depth<=d/\0<=v.2:=λs s1 s2=>by
   rw[zC]
   refine(zVi w v.1 s.1).imp λu hu=>?_
   rw[aj]
   exact⟨by show u.t.depth<=d;lia,s2⟩
  refine⟨λ_=>?_,λ_=>?_⟩
  ·rw[zC]
   refine(zIu Dp names hn k (d-1) v.2 (by lia) v2).imp λv' ⟨v1',v2'⟩=>?_
   rw[aj]
   exact fin (v'.1,v'.2) v1' v2'
  ·rw[aj]
   exact fin (v.1,v.2) v1 v2
theorem zYe(h:aL n X):QX X n=some true:=by
 have:W (QX X n) (· = true):=by
  unfold QX
  rw[if_neg (by decide),zC,aj,zC,zC,aj]
  refine zNl (λi s=>-1<=s/\∀j y,i<=j->X[j]?=some y->s<y) ⟨ace _,λj y _ hy=>by have:=(h.2 y (mem_of_getElem? hy)).1;omega⟩ (λi x s hi ⟨h1,h2⟩=>?_) λs _=>by rw[Yv,aj]
  have r:=h.2 x (mem_of_getElem? hi)
  have sx:=h2 i x (aaz _) hi
  rw[zC,if_neg (by decide),if_neg (by decide),if_neg (by grind),aj,if_neg (by grind),zC,aj,aj]
  refine⟨x,rfl,by lia,λj y hj hy=>?_⟩
  obtain⟨jl,rfl⟩:=aa0.mp hy
  obtain⟨il,rfl⟩:=aa0.mp hi
  exact pairwise_iff_getElem.mp h.1 i j il jl (by lia)
 obtain⟨b,e,rfl⟩:=this
 exact e
def tot(N:Nat)(c:LI)(k:Nat):Nat:=((abb k).map λj=>(oR N c j).length).sum
theorem ZC(N:Nat)(c:LI)(k:Nat):tot N c (k+1)=tot N c k+(oR N c k).length:=by
 unfold tot
 rw[range_succ]
 simp
theorem zYl(N:Nat)(c:LI):∀k:Nat,tot (N+1) c k=tot N c k+if ng c N<(k:Int)/\0<=ng c N then 1 else 0
 |0=>by
  rw[if_neg (by lia)]
  rfl
 |k+1=>by
  rw[ZC,ZC,zYl N c k,zEx]
  grind
theorem zRk(c:LI)(M:Nat):∀N:Nat,(∀i,i<N->0<=ng c i/\ng c i<(M:Int))->tot N c M=N
 |0,_=>by
  have:∀k,tot 0 c k=0:=λk=>by
   induction k with
   |zero=>rfl
   |succ k ih=>rw[ZC,ih];rfl
  grind
 |N+1,h=>by
  have:=h N (by lia)
  rw[zYl,zRk c M N λi hi=>h i (by lia),if_pos ⟨this.2,this.1⟩]
theorem RQ(hT:uJ Dp=some T)(h:Rx n T):W (Xk C cl Dp) (· = true):=by
 unfold Xk
 rw[hT,zC,aj,zC]
 refine(zPi (C:=C) h).imp λm ⟨g,e1,e2,e3⟩=>?_
 have hM:uI n m.marks:=by rw[e2];exact h.marks
 have hf:m.fair.length<=100:=by rw[e3];exact h.Ry
 have hF:∀s∈m.fair,Ad n s:=by rw[e3];exact h.fair
 have gp:=g.pos
 have Rv:=g.few
 obtain⟨c,M,ec,ok,es⟩:=zVm g (by rw[e2];exact h.J3) hf
 have ecl:WY m=some (wX M n.toNat c):=by unfold WY;rw[ec];exact es
 obtain⟨f,ef,gf,f1,f2,f3⟩:=zVk (C:=C) g hM hf hF ec ok es
 have a:=zX6 g hM ⟨hf,hF⟩ ok gf f1 f2 f3
 have M0:=ok.pos
 have M60:=ok.few
 have J3:=h.J3
 rw[zC,zC,zC,aj,Gv]
 refine⟨yT (by lia),?_⟩
 rw[zC,zC,zC,zC]
 refine(uL Dp (by decide)).imp λc5 _=>?_
 rw[aj]
 obtain⟨_,_,_,_,_,en⟩:=zYd c5
 rw[show wE (c5,((3:Int),())).1 (c5,((3:Int),())).2.1=_ from en 3 (by decide),aj,aj]
 unfold IV
 rw[if_pos (acz (yT (by rw[length_map];show T.b.length+1<=_;lia))),aj,zC]
 refine(zIu (cl:=cl) Dp _ (by rw[length_append,length_map];show T.b.length+1<=_;lia) 5 3 25 (by decide) (by decide)).imp ?_
 rintro v ⟨hd,_⟩
 have r1:=(Uc g ⟨hf,hF⟩ (uD n)).2
 have r2:=(Uc gf a.hF (uD (M:Int))).2
 have h1:Jy m v.1=some (vv m n (co m (rng n)) v.1.t):=zYf g ⟨hf,hF⟩ hM r1 (Mr g ⟨hf,hF⟩) (aa1 hd (by decide))
 have h2:Jy f v.1=some (vv f (M:Int) (co f (rng (M:Int))) v.1.t):=zYf gf a.hF a.hM r2 (Mr gf a.hF) (aa1 hd (by decide))
 have cor:=Zv a (zUq a (Xf a) (uD n) (uD _)) r1 r2 v.1.t
 have s1:=zYe (Dn g ⟨hf,hF⟩ hM r1 v.1.t)
 have s2:=zYe (Dn gf a.hF a.hM r2 v.1.t)
 rw[zC,ecl,aj,zC,h1,aj,zC,zC,zC,ef,aj,aj]
 show W (Jy f v.1) _
 rw[h2,aj]
 generalize vv m n (co m (rng n)) v.1.t=X at *
 generalize vv f (M:Int) (co f (rng (M:Int))) v.1.t=Y at *
 have hl:=h.len
 have rl:(wX M n.toNat c).length=M:=zI7
 rw[hl,rl,s1,s2,zC,zC,zC,aj,aj,if_neg (by decide),zC,aj,aj,if_neg (by decide),zC,aj,zC,zC,uG]
 refine⟨⟨by lia,by omega⟩,?_⟩
 refine zNl (λk s=>s=(tot n.toNat c k:Int)) rfl (λk x s hk hs=>?_) λs hs=>?_
 ·obtain⟨rfl,kl⟩:=K5 hk
  rw[zC,zC,zR5 (by lia),aj]
  subst hs
  refine zNl (λi s=>s=(tot n.toNat c k:Int)+i) (by simp) (λi y s hi hs=>?_) λs hs=>?_
  ·have ym:=gW.mp (mem_of_getElem? hi)
   have:y∈X↔ng c y.toNat∈Y:=cor y ym.1 (by lia)
   rw[ym.2.2] at this
   rw[zC,aj,if_neg (by simp[this]),aj]
   exact⟨_,rfl,by omega⟩
  ·rw[Vz,aj]
   exact⟨_,rfl,by rw[ZC];omega⟩
 ·rw[Yv,aj,hs,uX,acf,zRk c M n.toNat λi hi=>⟨(ok.st.can i (by have:=ok.st.len;lia)).1,ok.lt i hi⟩]
  exact decide_eq_true (by lia)
end
theorem zXd(C:Addr)(cl:Hd->Addr)(Dp:mq):W (Xk C cl Dp) (· = true):=by
 obtain⟨T,e,n,h⟩:=J4 Dp
 exact RQ e h
end Ts
namespace Sy
open PySem L2
abbrev zMj:Stmt:=Ts.mF
abbrev zR3:Stmt:=Ts.nJ
abbrev zR2:Stmt:=Ts.nO
abbrev RT:Stmt:=Ts.p7
abbrev Gg:Stmt:=Ts.oM
abbrev RV:Stmt:=Ts.p8
abbrev zGe:Stmt:=Ts.kh
abbrev zGh:Stmt:=Ts.kj
abbrev zDl:Stmt:=Ts.jh
abbrev zDm:Stmt:=Ts.ji
abbrev zGf:Stmt:=Ts.kJ
abbrev zGi:Stmt:=Ts.kO
abbrev Gh:Stmt:=Ts.oO
abbrev zMk:Stmt:=Ts.mG
abbrev zGd:Stmt:=Ts.kE
abbrev zGg:Stmt:=Ts.kI
section
variable{P:Program}{w:World}{K:Frag}{mg:Str->Option Value}{base:Heap}
theorem zV5:ak ["self","word","parts"] ["self","word","parts"] (zJ zMj):=⟨rfl,rfl,rfl,by decide +kernel,rfl,by decide +kernel,by decide +kernel⟩
theorem zS0(F:aY K "__init__" "Saying.__init__" zMj f d):au P w K mg base aP 1 f d ["self","word","parts"] (spS K):=by
 refine F.ok zV5 (λc H Q E h=>?_) (λcdv A outer s H c Q E hr h=>?_)
 ·obtain⟨p,C,a,x,y,rfl,_⟩:=h
  rfl
 obtain⟨p,C,a,x,y,rfl,b,T,q⟩:=h
 refine⟨_,zB (Gq (pv 0) (pv 1) rfl) (xZ (Gq (pv 0) (pv 2) rfl)),?_⟩
 refine⟨_,rfl,_,rfl,p,C,a,[],rfl,b,T.cl,T.nW,(by grind),_,rfl,_,rfl,p,C,a,_,rfl,zT,T.cl,T.nP,(by show 1<1000;decide),?_⟩
 exact q _ ((Kp.put p H _).trans (Kp.put p _ _)) zT
theorem J5:ak ["self","word","part"] ["self","word","part"] (zJ zR3):=⟨rfl,rfl,rfl,by decide +kernel,rfl,by decide +kernel,by decide +kernel⟩
theorem zWz(F:aY K "__init__" "OfOne.__init__" zR3 f u)(l:mg "Saying" = some (.ref D))(r:u_ K D "__init__" g)(G:au P w K mg base aP 1 g j ["self","word","parts"] (spS K))(m:Binds K j ["self","word","parts"] []) :
  au P w K mg base aP 2 f u ["self","word","part"] (wz K):=by
 refine F.ok J5 (λo H Q E h=>?_) (λcdv A outer s H o Q E n h=>?_)
 ·obtain⟨p,C,c,x,v,rfl,_⟩:=h
  rfl
 obtain⟨p,C,c,x,v,rfl,d,T,q⟩:=h
 refine⟨_,zB (yI (Aj rfl l r G n m .nil vV (zA (pv 0) (zA (pv 1) (zA (vo (zA (pv 2) zF)) zF))))) (xZ (Gq (pv 0) (pv 2) rfl)),?_⟩
 refine⟨_,rfl,_,rfl,_,rfl,(by show 1<=sizeLine;decide),λt a=>?_⟩
 have b:=aK a (.tup [v]) _ _ d
 refine⟨p,C,c,_,_,rfl,b,T,λH' i k=>?_⟩
 have e:t≠p:=(zW d a).symm
 refine⟨_,rfl,_,rfl,p,C,c,_,rfl,k,T.cl,T.n1,aa1 (YW x t) (by decide),?_⟩
 exact q t _ (((Kp.of (aK a _)).trans i).trans (Kp.put p _ _)) a (by rw[zX e];exact i _ _ e zT) zT
theorem J6:ak ["self","word","left","right"] ["self","word","left","right"] (zJ zR2):=⟨rfl,rfl,rfl,by decide +kernel,rfl,by decide +kernel,by decide +kernel⟩
theorem zWy(F:aY K "__init__" "OfTwo.__init__" zR2 f y)(l:mg "Saying" = some (.ref D))(j:u_ K D "__init__" g)(G:au P w K mg base aP 1 g r ["self","word","parts"] (spS K))(m:Binds K r ["self","word","parts"] []) :
  au P w K mg base aP 2 f y ["self","word","left","right"] (Ey K):=by
 refine F.ok J6 (λo H Q E h=>?_) (λcdv A outer s H o Q E n h=>?_)
 ·obtain⟨p,C,b,x,v,u,rfl,_⟩:=h
  rfl
 obtain⟨p,C,b,x,v,u,rfl,e,T,q⟩:=h
 refine⟨_,zB (yI (Aj rfl l j G n m .nil vV (zA (pv 0) (zA (pv 1) (zA (vo (zA (pv 2) (zA (pv 3) zF))) zF))))) (zB (Gq (pv 0) (pv 2) rfl) (xZ (Gq (pv 0) (pv 3) rfl))),?_⟩
 refine⟨_,rfl,_,rfl,_,rfl,_,rfl,(by show 2<=sizeLine;decide),λt a=>?_⟩
 have c:=aK a (.tup [v,u]) _ _ e
 refine⟨p,C,b,_,_,rfl,c,T,λH' i k=>?_⟩
 have d:t≠p:=(zW e a).symm
 refine⟨_,rfl,_,rfl,p,C,b,_,rfl,k,T.cl,T.nL,aa1 (YW x t) (by decide),?_⟩
 refine⟨_,rfl,_,rfl,p,C,b,_,rfl,zT,T.cl,T.nR,aa1 (aa4 (cJ "left" v _) (acq (YW x t))) (by decide),?_⟩
 exact q t _ ((((Kp.of (aK a _)).trans i).trans (Kp.put p _ _)).trans (Kp.put p _ _)) a (by rw[zX d,zX d];exact i _ _ d zT) zT
theorem Xm:ak ["self"] ["self"] (zJ RT):=⟨rfl,rfl,rfl,by grind,rfl,by decide +kernel,by decide +kernel⟩
theorem RW(F:aY K "__init__" "All.__init__" RT f v)(T:jg K C)(o:mg "Saying" = some (.ref D))(k:u_ K D "__init__" g)(G:au P w K mg base aP 1 g m ["self","word","parts"] (spS K))(n:Binds K m ["self","word","parts"] []) :
  au P w K mg base aP 2 f v ["self"] (P_ C):=by
 refine F.ok Xm (λr H Q E h=>?_) (λcdv A outer s H r Q E i h=>?_)
 ·obtain⟨p,e,rfl,_⟩:=h
  rfl
 obtain⟨p,e,rfl,c,q⟩:=h
 refine⟨_,xZ (yI (Aj rfl o k G i n .nil vV (zA (pv 0) (zA yN (zA (vo zF) zF))))),?_⟩
 refine⟨_,rfl,(by grind),λt a=>?_⟩
 have b:=aK a (.tup []) _ _ c
 have u:t≠p:=(zW c a).symm
 exact⟨p,C,e,_,_,rfl,b,T,λj d l=>q t j ((Kp.of (aK a _)).trans d) a (d _ _ u zT) l⟩
theorem RX:ak ["self","name"] ["self","name"] (zJ Gg):=⟨rfl,rfl,rfl,by decide +kernel,rfl,by decide +kernel,by decide +kernel⟩
theorem J7(F:aY K "__init__" "Mark.__init__" Gg f u)(T:jg K C)(l:mg "Saying" = some (.ref D))(r:u_ K D "__init__" g)(G:au P w K mg base aP 1 g j ["self","word","parts"] (spS K))(m:Binds K j ["self","word","parts"] []) :
  au P w K mg base aP 2 f u ["self","name"] (Qa C):=by
 refine F.ok RX (λo H Q E h=>?_) (λcdv A outer s H o Q E n h=>?_)
 ·obtain⟨p,c,x,rfl,_⟩:=h
  rfl
 obtain⟨p,c,x,rfl,d,q⟩:=h
 refine⟨_,zB (yI (Aj rfl l r G n m .nil vV (zA (pv 0) (zA (pv 1) (zA (vo zF) zF))))) (xZ (Gq (pv 0) (pv 1) rfl)),?_⟩
 refine⟨_,rfl,_,rfl,(by grind),λt a=>?_⟩
 have b:=aK a (.tup []) _ _ d
 have e:t≠p:=(zW d a).symm
 refine⟨p,C,c,_,_,rfl,b,T,λH' i k=>?_⟩
 refine⟨_,rfl,_,rfl,p,C,c,_,rfl,k,T.cl,T.nN,aa1 (YW x t) (by decide),?_⟩
 exact q t _ (((Kp.of (aK a _)).trans i).trans (Kp.put p _ _)) a (by rw[zX e];exact i _ _ e zT) zT
end
section
variable{P:Program}{w:World}{K:Frag}{mg:Str->Option Value}{base:Heap}
theorem Xn:ak ["self","part"] ["self","part"] (zJ RV):=⟨rfl,rfl,rfl,by decide +kernel,rfl,by decide +kernel,by decide +kernel⟩
theorem RZ(F:aY K "__init__" "Not.__init__" RV f v)(T:jg K C)(d:mg "OfOne" = some (.ref D))(n:u_ K D "__init__" g)(G:au P w K mg base aP 2 g k ["self","word","part"] (wz K))(r:Binds K k ["self","word","part"] []) :
  au P w K mg base aP 3 f v ["self","part"] (tE C "not"):=by
 refine F.ok Xn (λu H Q E h=>?_) (λcdv A outer s H u Q E i h=>?_)
 ·obtain⟨p,a,c,rfl,_⟩:=h
  rfl
 obtain⟨p,a,c,rfl,b,q⟩:=h
 refine⟨_,xZ (yI (Aj rfl d n G i r .nil vV (zA (pv 0) (zA yN (zA (pv 1) zF))))),?_⟩
 exact⟨_,rfl,_,rfl,p,C,a,_,_,rfl,b,T,λe m l t o j=>q e m l t o j⟩
theorem zPv:ak ["self","part"] ["self","part"] (zJ zGe):=⟨rfl,rfl,rfl,by decide +kernel,rfl,by decide +kernel,by decide +kernel⟩
theorem zMx(F:aY K "__init__" "SomeNext.__init__" zGe f v)(T:jg K C)(d:mg "OfOne" = some (.ref D))(n:u_ K D "__init__" g)(G:au P w K mg base aP 2 g k ["self","word","part"] (wz K))(r:Binds K k ["self","word","part"] []) :
  au P w K mg base aP 3 f v ["self","part"] (tE C "somenext"):=by
 refine F.ok zPv (λu H Q E h=>?_) (λcdv A outer s H u Q E i h=>?_)
 ·obtain⟨p,a,c,rfl,_⟩:=h
  rfl
 obtain⟨p,a,c,rfl,b,q⟩:=h
 refine⟨_,xZ (yI (Aj rfl d n G i r .nil vV (zA (pv 0) (zA yN (zA (pv 1) zF))))),?_⟩
 exact⟨_,rfl,_,rfl,p,C,a,_,_,rfl,b,T,λe m l t o j=>q e m l t o j⟩
theorem zPy:ak ["self","part"] ["self","part"] (zJ zGh):=⟨rfl,rfl,rfl,by decide +kernel,rfl,by decide +kernel,by decide +kernel⟩
theorem zM0(F:aY K "__init__" "EachNext.__init__" zGh f v)(T:jg K C)(d:mg "OfOne" = some (.ref D))(n:u_ K D "__init__" g)(G:au P w K mg base aP 2 g k ["self","word","part"] (wz K))(r:Binds K k ["self","word","part"] []) :
  au P w K mg base aP 3 f v ["self","part"] (tE C "eachnext"):=by
 refine F.ok zPy (λu H Q E h=>?_) (λcdv A outer s H u Q E i h=>?_)
 ·obtain⟨p,a,c,rfl,_⟩:=h
  rfl
 obtain⟨p,a,c,rfl,b,q⟩:=h
 refine⟨_,xZ (yI (Aj rfl d n G i r .nil vV (zA (pv 0) (zA yN (zA (pv 1) zF))))),?_⟩
 exact⟨_,rfl,_,rfl,p,C,a,_,_,rfl,b,T,λe m l t o j=>q e m l t o j⟩
theorem zKq:ak ["self","part"] ["self","part"] (zJ zDl):=⟨rfl,rfl,rfl,by decide +kernel,rfl,by decide +kernel,by decide +kernel⟩
theorem zJm(F:aY K "__init__" "SomeAlways.__init__" zDl f v)(T:jg K C)(d:mg "OfOne" = some (.ref D))(n:u_ K D "__init__" g)(G:au P w K mg base aP 2 g k ["self","word","part"] (wz K))(r:Binds K k ["self","word","part"] []) :
  au P w K mg base aP 3 f v ["self","part"] (tE C "somealways"):=by
 refine F.ok zKq (λu H Q E h=>?_) (λcdv A outer s H u Q E i h=>?_)
 ·obtain⟨p,a,c,rfl,_⟩:=h
  rfl
 obtain⟨p,a,c,rfl,b,q⟩:=h
 refine⟨_,xZ (yI (Aj rfl d n G i r .nil vV (zA (pv 0) (zA yN (zA (pv 1) zF))))),?_⟩
 exact⟨_,rfl,_,rfl,p,C,a,_,_,rfl,b,T,λe m l t o j=>q e m l t o j⟩
theorem zKr:ak ["self","part"] ["self","part"] (zJ zDm):=⟨rfl,rfl,rfl,by decide +kernel,rfl,by decide +kernel,by decide +kernel⟩
theorem zJn(F:aY K "__init__" "EachAlways.__init__" zDm f v)(T:jg K C)(d:mg "OfOne" = some (.ref D))(n:u_ K D "__init__" g)(G:au P w K mg base aP 2 g k ["self","word","part"] (wz K))(r:Binds K k ["self","word","part"] []) :
  au P w K mg base aP 3 f v ["self","part"] (tE C "eachalways"):=by
 refine F.ok zKr (λu H Q E h=>?_) (λcdv A outer s H u Q E i h=>?_)
 ·obtain⟨p,a,c,rfl,_⟩:=h
  rfl
 obtain⟨p,a,c,rfl,b,q⟩:=h
 refine⟨_,xZ (yI (Aj rfl d n G i r .nil vV (zA (pv 0) (zA yN (zA (pv 1) zF))))),?_⟩
 exact⟨_,rfl,_,rfl,p,C,a,_,_,rfl,b,T,λe m l t o j=>q e m l t o j⟩
theorem zPw:ak ["self","part"] ["self","part"] (zJ zGf):=⟨rfl,rfl,rfl,by decide +kernel,rfl,by decide +kernel,by decide +kernel⟩
theorem zMy(F:aY K "__init__" "SomeEver.__init__" zGf f v)(T:jg K C)(d:mg "OfOne" = some (.ref D))(n:u_ K D "__init__" g)(G:au P w K mg base aP 2 g k ["self","word","part"] (wz K))(r:Binds K k ["self","word","part"] []) :
  au P w K mg base aP 3 f v ["self","part"] (tE C "someever"):=by
 refine F.ok zPw (λu H Q E h=>?_) (λcdv A outer s H u Q E i h=>?_)
 ·obtain⟨p,a,c,rfl,_⟩:=h
  rfl
 obtain⟨p,a,c,rfl,b,q⟩:=h
 refine⟨_,xZ (yI (Aj rfl d n G i r .nil vV (zA (pv 0) (zA yN (zA (pv 1) zF))))),?_⟩
 exact⟨_,rfl,_,rfl,p,C,a,_,_,rfl,b,T,λe m l t o j=>q e m l t o j⟩
theorem zPz:ak ["self","part"] ["self","part"] (zJ zGi):=⟨rfl,rfl,rfl,by decide +kernel,rfl,by decide +kernel,by decide +kernel⟩
theorem zM1(F:aY K "__init__" "EachEver.__init__" zGi f v)(T:jg K C)(d:mg "OfOne" = some (.ref D))(n:u_ K D "__init__" g)(G:au P w K mg base aP 2 g k ["self","word","part"] (wz K))(r:Binds K k ["self","word","part"] []) :
  au P w K mg base aP 3 f v ["self","part"] (tE C "eachever"):=by
 refine F.ok zPz (λu H Q E h=>?_) (λcdv A outer s H u Q E i h=>?_)
 ·obtain⟨p,a,c,rfl,_⟩:=h
  rfl
 obtain⟨p,a,c,rfl,b,q⟩:=h
 refine⟨_,xZ (yI (Aj rfl d n G i r .nil vV (zA (pv 0) (zA yN (zA (pv 1) zF))))),?_⟩
 exact⟨_,rfl,_,rfl,p,C,a,_,_,rfl,b,T,λe m l t o j=>q e m l t o j⟩
theorem R3:ak ["self","left","right"] ["self","left","right"] (zJ Gh):=⟨rfl,rfl,rfl,by decide +kernel,rfl,by decide +kernel,by decide +kernel⟩
theorem J8(F:aY K "__init__" "Both.__init__" Gh f x)(T:jg K C)(e:mg "OfTwo" = some (.ref D))(o:u_ K D "__init__" g)(G:au P w K mg base aP 2 g l ["self","word","left","right"] (Ey K))(t:Binds K l ["self","word","left","right"] []) :
  au P w K mg base aP 3 f x ["self","left","right"] (Ck C "both"):=by
 refine F.ok R3 (λv H Q E h=>?_) (λcdv A outer s H v Q E j h=>?_)
 ·obtain⟨p,a,c,d,rfl,_⟩:=h
  rfl
 obtain⟨p,a,c,d,rfl,b,q⟩:=h
 refine⟨_,xZ (yI (Aj rfl e o G j t .nil vV (zA (pv 0) (zA yN (zA (pv 1) (zA (pv 2) zF)))))),?_⟩
 exact⟨_,rfl,_,rfl,_,rfl,p,C,a,_,_,_,rfl,b,T,λi n m u r k=>q i n m u r k⟩
theorem zV6:ak ["self","left","right"] ["self","left","right"] (zJ zMk):=⟨rfl,rfl,rfl,by decide +kernel,rfl,by decide +kernel,by decide +kernel⟩
theorem zS1(F:aY K "__init__" "Either.__init__" zMk f x)(T:jg K C)(e:mg "OfTwo" = some (.ref D))(o:u_ K D "__init__" g)(G:au P w K mg base aP 2 g l ["self","word","left","right"] (Ey K))(t:Binds K l ["self","word","left","right"] []) :
  au P w K mg base aP 3 f x ["self","left","right"] (Ck C "either"):=by
 refine F.ok zV6 (λv H Q E h=>?_) (λcdv A outer s H v Q E j h=>?_)
 ·obtain⟨p,a,c,d,rfl,_⟩:=h
  rfl
 obtain⟨p,a,c,d,rfl,b,q⟩:=h
 refine⟨_,xZ (yI (Aj rfl e o G j t .nil vV (zA (pv 0) (zA yN (zA (pv 1) (zA (pv 2) zF)))))),?_⟩
 exact⟨_,rfl,_,rfl,_,rfl,p,C,a,_,_,_,rfl,b,T,λi n m u r k=>q i n m u r k⟩
theorem zPu:ak ["self","left","right"] ["self","left","right"] (zJ zGd):=⟨rfl,rfl,rfl,by decide +kernel,rfl,by decide +kernel,by decide +kernel⟩
theorem zMw(F:aY K "__init__" "SomeTill.__init__" zGd f x)(T:jg K C)(e:mg "OfTwo" = some (.ref D))(o:u_ K D "__init__" g)(G:au P w K mg base aP 2 g l ["self","word","left","right"] (Ey K))(t:Binds K l ["self","word","left","right"] []) :
  au P w K mg base aP 3 f x ["self","left","right"] (Ck C "sometill"):=by
 refine F.ok zPu (λv H Q E h=>?_) (λcdv A outer s H v Q E j h=>?_)
 ·obtain⟨p,a,c,d,rfl,_⟩:=h
  rfl
 obtain⟨p,a,c,d,rfl,b,q⟩:=h
 refine⟨_,xZ (yI (Aj rfl e o G j t .nil vV (zA (pv 0) (zA yN (zA (pv 1) (zA (pv 2) zF)))))),?_⟩
 exact⟨_,rfl,_,rfl,_,rfl,p,C,a,_,_,_,rfl,b,T,λi n m u r k=>q i n m u r k⟩
theorem zPx:ak ["self","left","right"] ["self","left","right"] (zJ zGg):=⟨rfl,rfl,rfl,by decide +kernel,rfl,by decide +kernel,by decide +kernel⟩
theorem zMz(F:aY K "__init__" "EachTill.__init__" zGg f x)(T:jg K C)(e:mg "OfTwo" = some (.ref D))(o:u_ K D "__init__" g)(G:au P w K mg base aP 2 g l ["self","word","left","right"] (Ey K))(t:Binds K l ["self","word","left","right"] []) :
  au P w K mg base aP 3 f x ["self","left","right"] (Ck C "eachtill"):=by
 refine F.ok zPx (λv H Q E h=>?_) (λcdv A outer s H v Q E j h=>?_)
 ·obtain⟨p,a,c,d,rfl,_⟩:=h
  rfl
 obtain⟨p,a,c,d,rfl,b,q⟩:=h
 refine⟨_,xZ (yI (Aj rfl e o G j t .nil vV (zA (pv 0) (zA yN (zA (pv 1) (zA (pv 2) zF)))))),?_⟩
 exact⟨_,rfl,_,rfl,_,rfl,p,C,a,_,_,_,rfl,b,T,λi n m u r k=>q i n m u r k⟩
end
section
variable{K:Frag}{C D:Addr}
theorem J9(c:isClsIn K D=true)(b:typeIn K (.ref D)=some (.type "type"))(a:mroIn K C (.ref D)=some true):kitOne K (.ref C) (.ref D)=some true:=by
 unfold kitOne
 split
 ·rfl
 ·unfold PySem.W.kitCls PySem.W.subIn
  dsimp only
  rw[b,a,show(PySem.W.clsIn K D).isSome=true from c]
  rfl
theorem R5(b:isClsIn K D=true)(c:typeIn K (.ref D)=some (.type "type"))(d:mroIn K C (.ref D)=some false)(hs:mroIn K C (.ref C)=some true):kitOne K (.ref C) (.ref D)=some false:=by
 have a:C≠D:=λe=>by
  grind
 unfold kitOne
 rw[if_neg (λe=>a (ae5 (aeg e)))]
 unfold PySem.W.kitCls PySem.W.subIn
 dsimp only
 rw[c,d,show(PySem.W.clsIn K D).isSome=true from b]
 rfl
def ZD(K:Frag)(C:Addr):List Addr->Prop
 |[]=>True
 |D::r=>mroIn K C (.ref D)=some false/\ZD K C r
def Gi(K:Frag):List Addr->List Addr->Prop
 |_,[]=>True
 |p,C::r=>mroIn K C (.ref C)=some true/\ZD K C p/\ZD K C r/\Gi K (C::p) r
theorem zOi(h:ZD K C a)(m:D∈a):mroIn K C (.ref D)=some false:=by
 induction a with
 |nil=>cases m
 |cons E r ih =>
  cases m with
  |head=>exact h.1
  |tail _ m=>exact ih h.2 m
theorem Xo:∀{p:List Addr},Gi K p r->∀{i:Nat},r[i]?=some C->mroIn K C (.ref C)=some true/\(D∈p->mroIn K C (.ref D)=some false)/\∀{j:Nat},r[j]?=some D->j≠i->mroIn K C (.ref D)=some false:=by
 induction r with
 |nil=>grind
 |cons E r ih =>
  intro p h i e
  cases i with
  |zero =>
   cases e
   refine⟨h.1,zOi h.2.1,λ{j} f n=>?_⟩
   cases j with
   |zero=>exact absurd rfl n
   |succ j=>exact zOi h.2.2.1 (mem_of_getElem? f)
  |succ i =>
   obtain⟨a,b,c⟩:=ih h.2.2.2 e
   grind
end
def hix:Hd->Nat
 |.all=>0
 |.mark=>1
 |.one i=>i.val+2
 |.two i=>i.val+9
theorem J_(h:Hd)(t:Tr):Ts.lH h t=decide (hix h=hix (hd t)):=by
 cases h<;>cases t
 case one.one i j _=>exact decide_eq_decide.2 ⟨λe=>by subst e;rfl,λe=>Fin.ext (by have e:i.val+2=j.val+2:=e;lia)⟩
 case two.two i j _ _=>exact decide_eq_decide.2 ⟨λe=>by subst e;rfl,λe=>Fin.ext (by have e:i.val+9=j.val+9:=e;lia)⟩
 all_goals first|rfl|(symm;apply decide_eq_false;intro e;simp only[hix,hd] at e;lia)
theorem Ka:∀i:Fin 7,i=0\/i=1\/i=2\/i=3\/i=4\/i=5\/i=6:=by decide
theorem Kc:∀i:Fin 4,i=0\/i=1\/i=2\/i=3:=by decide
abbrev HdR(K:Frag)(C:Addr):Prop:=findIn K (.ref C) "__class__" = some (some (.builtin "object.__class__"))/\mroIn K C (.type "object")=some true/\isClsIn K C=true/\typeIn K (.ref C)=some (.type "type")
abbrev Bo(K:Frag)(C:Addr)(x y:Str)(st:Stmt):Prop:=nsIn K abm x=some (some (.ref C))/\(∃f b,Mk K C f/\aY K "__init__" y st f b)/\Cls K C/\(findIn K (.ref C) "word" = some none/\findIn K (.ref C) "parts" = some none/\findIn K (.ref C) "part" = some none/\findIn K (.ref C) "left" = some none/\findIn K (.ref C) "right" = some none/\findIn K (.ref C) "name" = some none)/\HdR K C
abbrev ZF(K:Frag)(C:Addr)(x y:Str)(st:Stmt):Prop:=nsIn K abm x=some (some (.ref C))/\∃f b,u_ K C "__init__" f/\aY K "__init__" y st f b
def HdQ(K:Frag)(C f:Addr):Prop:=Mk K C f/\jg K C/\HdR K C
section
variable{K:Frag}{h:Heap}{mg:Str->Option Value}{C:Addr}{x y:Str}{st:Stmt}
theorem R7(a:nsIn K abm x=some (some (.ref C)))(c:u_ K C "__init__" f)(F:aY K "__init__" y st f b):ZF K C x y st:=⟨a,f,b,c,F⟩
theorem R8(a:nsIn K abm x=some (some (.ref C)))(m:Mk K C f)(F:aY K "__init__" y st f b)(c:Cls K C)(n:(findIn K (.ref C) "word" = some none/\findIn K (.ref C) "parts" = some none/\findIn K (.ref C) "part" = some none/\findIn K (.ref C) "left" = some none/\findIn K (.ref C) "right" = some none/\findIn K (.ref C) "name" = some none)/\HdR K C):Bo K C x y st:=⟨a,⟨f,b,m,F⟩,c,n⟩
theorem Cy(X:K.In h)(G:h.Ns abm mg)(p:Bo K C x y st):mg x=some (.ref C)/\∃f b,aY K "__init__" y st f b/\HdQ K C f:=by
 obtain⟨a,⟨f,b,m,F⟩,c,⟨n1,n2,d,g,e,i⟩,r⟩:=p
 exact⟨mg_of X G a,f,b,F,m,⟨c,n1,n2,d,g,e,i⟩,r⟩
end
set_option maxHeartbeats 8000000 in
theorem R9{l:aec}{K:Frag}(X:K.In h)(G:h.Ns abm mg)(bA:ZF K CA "Saying" "Saying.__init__" zMj)(bB:ZF K CB "OfOne" "OfOne.__init__" zR3)(bD:ZF K CD "OfTwo" "OfTwo.__init__" zR2)(h0:Bo K C0 "All" "All.__init__" RT)(h1:Bo K C1 "Mark" "Mark.__init__" Gg)(h2:Bo K C2 "Not" "Not.__init__" RV)(h3:Bo K C3 "SomeNext" "SomeNext.__init__" zGe)(h4:Bo K C4 "EachNext" "EachNext.__init__" zGh)(h5:Bo K C5 "SomeAlways" "SomeAlways.__init__" zDl)(h6:Bo K C6 "EachAlways" "EachAlways.__init__" zDm)(h7:Bo K C7 "SomeEver" "SomeEver.__init__" zGf)(h8:Bo K C8 "EachEver" "EachEver.__init__" zGi)(h9:Bo K C9 "Both" "Both.__init__" Gh)(h10:Bo K C10 "Either" "Either.__init__" zMk)(h11:Bo K C11 "SomeTill" "SomeTill.__init__" zGd)(h12:Bo K C12 "EachTill" "EachTill.__init__" zGg)(m:Gi K [] [C0,C1,C2,C3,C4,C5,C6,C7,C8,C9,C10,C11,C12])(hn:specialIn K (.builtin "object.__class__") "__get__" = some (some (.builtin "getset_descriptor.__get__")))(ht:takesIn K (.builtin "object.__class__")=some true)
   :∃(cl fi:Hd->Addr)(di:Hd->FuncData),∀base:Heap,Ts.qX l.prog w K mg base 3 cl fi di:=by
 obtain⟨aA,fA,dA,cA,FA⟩:=bA
 have aA:=mg_of X G aA
 obtain⟨aB,fB,dB,cB,FB⟩:=bB
 have aB:=mg_of X G aB
 obtain⟨aD,fD,dD,cD,FD⟩:=bD
 have aD:=mg_of X G aD
 obtain⟨a0,f0,d0,F0,Q0⟩:=Cy X G h0
 obtain⟨a1,f1,d1,F1,Q1⟩:=Cy X G h1
 obtain⟨a2,f2,d2,F2,Q2⟩:=Cy X G h2
 obtain⟨a3,f3,d3,F3,Q3⟩:=Cy X G h3
 obtain⟨a4,f4,d4,F4,Q4⟩:=Cy X G h4
 obtain⟨a5,f5,d5,F5,Q5⟩:=Cy X G h5
 obtain⟨a6,f6,d6,F6,Q6⟩:=Cy X G h6
 obtain⟨a7,f7,d7,F7,Q7⟩:=Cy X G h7
 obtain⟨a8,f8,d8,F8,Q8⟩:=Cy X G h8
 obtain⟨a9,f9,d9,F9,Q9⟩:=Cy X G h9
 obtain⟨a10,f10,d10,F10,Q10⟩:=Cy X G h10
 obtain⟨a11,f11,d11,F11,Q11⟩:=Cy X G h11
 obtain⟨a12,f12,d12,F12,Q12⟩:=Cy X G h12
 refine⟨λh=>([C0,C1,C2,C3,C4,C5,C6,C7,C8,C9,C10,C11,C12]:List Addr).getD (hix h) 0,λh=>([f0,f1,f2,f3,f4,f5,f6,f7,f8,f9,f10,f11,f12]:List Addr).getD (hix h) 0,λh=>([d0,d1,d2,d3,d4,d5,d6,d7,d8,d9,d10,d11,d12]:List FuncData).getD (hix h) d0,λbase=>?_⟩
 have Z:∀h,HdQ K (([C0,C1,C2,C3,C4,C5,C6,C7,C8,C9,C10,C11,C12]:List Addr).getD (hix h) 0) (([f0,f1,f2,f3,f4,f5,f6,f7,f8,f9,f10,f11,f12]:List Addr).getD (hix h) 0)/\([C0,C1,C2,C3,C4,C5,C6,C7,C8,C9,C10,C11,C12]:List Addr)[hix h]?=some (([C0,C1,C2,C3,C4,C5,C6,C7,C8,C9,C10,C11,C12]:List Addr).getD (hix h) 0):=λh=>by
  rcases h with _|_|i|i
  ·exact⟨Q0,rfl⟩
  ·exact⟨Q1,rfl⟩
  ·rcases Ka i with rfl|rfl|rfl|rfl|rfl|rfl|rfl<;>exact⟨by assumption,rfl⟩
  ·rcases Kc i with rfl|rfl|rfl|rfl<;>exact⟨by assumption,rfl⟩
 have oA:=zS0 (P:=l.prog) (w:=w) (mg:=mg) (base:=base) FA
 have bA:=Ts.Ac (p0:="self") (p1:="word") (p2:="parts") FA
 have oB:=zWz FB aA cA oA bA
 have bB:=Ts.Ac (p0:="self") (p1:="word") (p2:="part") FB
 have oD:=zWy FD aA cA oA bA
 have bD:=Ts.GC (p0:="self") (p1:="word") (p2:="left") (p3:="right") FD
 have o0:=RW F0 Q0.2.1 aA cA oA bA
 have o1:=J7 F1 Q1.2.1 aA cA oA bA
 have o2:=RZ F2 Q2.2.1 aB cB oB bB
 have o3:=zMx F3 Q3.2.1 aB cB oB bB
 have o4:=zM0 F4 Q4.2.1 aB cB oB bB
 have o5:=zJm F5 Q5.2.1 aB cB oB bB
 have o6:=zJn F6 Q6.2.1 aB cB oB bB
 have o7:=zMy F7 Q7.2.1 aB cB oB bB
 have o8:=zM1 F8 Q8.2.1 aB cB oB bB
 have o9:=J8 F9 Q9.2.1 aD cD oD bD
 have o10:=zS1 F10 Q10.2.1 aD cD oD bD
 have o11:=zMw F11 Q11.2.1 aD cD oD bD
 have o12:=zMz F12 Q12.2.1 aD cD oD bD
 refine⟨⟨λh=>(Z h).1.1,o0.mono (by decide),Ts.qW F0,o1.mono (by decide),Ts.jm F1,λi=>by rcases Ka i with rfl|rfl|rfl|rfl|rfl|rfl|rfl<;>assumption,λi=>by rcases Ka i with rfl|rfl|rfl|rfl|rfl|rfl|rfl<;>(first|exact Ts.jm F2|exact Ts.jm F3|exact Ts.jm F4|exact Ts.jm F5|exact Ts.jm F6|exact Ts.jm F7|exact Ts.jm F8),λi=>by rcases Kc i with rfl|rfl|rfl|rfl<;>assumption,λi=>by rcases Kc i with rfl|rfl|rfl|rfl<;>(first|exact Ts.Ac F9|exact Ts.Ac F10|exact Ts.Ac F11|exact Ts.Ac F12),a0,a1,λi=>by rcases Ka i with rfl|rfl|rfl|rfl|rfl|rfl|rfl<;>assumption,λi=>by rcases Kc i with rfl|rfl|rfl|rfl<;>assumption⟩,λh=>(Z h).1.2.1,λh h' t e=>?_,λh=>(Z h).1.2.2.1,hn,ht,λh=>(Z h).1.2.2.2.1⟩
 subst e
 rw[J_]
 obtain⟨x,_,y⟩:=Xo (D:=_) m (Z (hd t)).2
 by_cases e:hix h'=hix (hd t)
 ·rw[decide_eq_true e]
  exact J9 (Z h').1.2.2.2.2.1 (Z h').1.2.2.2.2.2 (by rw[e];exact x)
 ·rw[decide_eq_false e]
  exact R5 (Z h').1.2.2.2.2.1 (Z h').1.2.2.2.2.2 (y (Z h').2 e) x
end Sy
namespace Ts
open PySem L2 Sy
def Gj(K:Frag):Sp:=λc H Q _=>∃(a:Addr)(b:LI),c=[.ref a]/\bN K H a (b.map V.int)/\b.length<=63/\∀d,Q (.bl true) d
section
variable{P:Program}{w:World}{K:Frag}{mg:Str->Option Value}{base h:Heap}{j k:Nat}{f C:Addr}{fd:FuncData}{ps:List Str}{sp:Sp}{x y:Str}{st:Stmt}
theorem Xp(no:∀vs H Q E,¬sp vs H Q E):au P w K mg base aP k f fd ps sp :=
 ⟨λvs H Q E h=>absurd h (no vs H Q E),λA outer s H args us vs Q E _ _ _ _ h=>absurd h (no vs H Q E)⟩
abbrev FP(K:Frag)(x:Str)(st:Stmt):Prop:=∃f fd,nsIn K abm x=some (some (.ref f))/\aY K x x st f fd
abbrev MP(K:Frag)(C:Addr)(x y:Str)(st:Stmt):Prop:=∃f fd,Meth K C x f/\aY K x y st f fd
def Mw(K:Frag):List Str->Prop
 |[]=>True
 |x::r=>nsIn K abm x=some none/\Mw K r
theorem Xq(a:nsIn K abm x=some (some (.ref f)))(F:aY K x x st f fd):FP K x st:=⟨f,fd,a,F⟩
theorem Xr(a:Meth K C x f)(F:aY K x y st f fd):MP K C x y st:=⟨f,fd,a,F⟩
theorem Kd{g n kV b m a e:Value}{od i:Option Addr}{d:Array (Option Value)}(l:K.lookup f=some ⟨n,od,.func (fnOf x y (Df st) (vX st) (zJ st) g kV b m i a e),d⟩)(c:codeIn K a y=true)(k:keepIn K (.ref f)=true):Fb K x y st g f (fnOf x y (Df st) (vX st) (zJ st) g kV b m i a e):=⟨⟨n,od,kV,b,m,i,a,e,d,rfl,l,c⟩,k⟩
theorem R_(X:K.In h)(G:h.Ns abm mg)(p:FP K x st)(t:∀f fd,aY K x x st f fd->au P w K mg base aP k f fd ps sp/\Binds K fd ps []):aW P w K mg base k x ps sp:=by
 obtain⟨f,fd,a,F⟩:=p
 exact⟨f,fd,(t f fd F).1,(t f fd F).2,F.kp,mg_of X G a⟩
theorem Ke(c:Cls K C)(p:MP K C x y st)(t:∀f fd,aY K x y st f fd->au P w K mg base aP k f fd ps sp/\Binds K fd ps []):fV P w K mg base k C x ps sp:=by
 obtain⟨f,fd,a,F⟩:=p
 exact⟨⟨f,fd,(t f fd F).1,(t f fd F).2,a⟩,c⟩
theorem aW.m(c:aW P w K mg base j x ps sp)(h:j<=k:=by decide):aW P w K mg base k x ps sp:=c.mono h
theorem fV.m(c:fV P w K mg base j C x ps sp)(h:j<=k:=by decide):fV P w K mg base k C x ps sp:=c.mono h
end
set_option maxHeartbeats 8000000 in
theorem all_mk{l:aec}{K:Frag}(X:K.In h)(G:h.Ns abm mg)(hfa:mg "law" = some (.ref fa))(SY:∃(cl fi:Hd->Addr) (di:Hd->FuncData),∀base:Heap,qX l.prog w K mg base 3 cl fi di)(h1:FP K "sources_of" Y_)(h2:FP K "is_stand" lK)(h3:FP K "check_stands" fu)(h4:FP K "check_steps" gw)(h5:FP K "is_name" nA)(h6:FP K "check_marks" gA)(h7:FP K "check_fair" g_)(h8:FP K "copied" pU)(h9:FP K "everywhere" h_)(h10:FP K "flags" tG)(h11:FP K "without" nD)(h12:FP K "others" pW)(h13:FP K "together" lM)(h14:FP K "shared" pX)(h15:FP K "distances" jx)(h16:FP K "comes_to" lN)(h17:FP K "steps_into" iw)(h18:FP K "stepping_to" gB)(h19:FP K "bits_of" nH)(h20:FP K "onward_bits" gC)(h21:FP K "rings" tH)(h22:FP K "missed_by" jy)(h23:FP K "fair_rings" iy)(h24:FP K "joined" pZ)(h25:FP K "core" Al)(h26:FP K "alive" s_alive)(h27:FP K "some_next" jA)(h28:FP K "some_till" jB)(h29:FP K "spoilers" lO)(h30:FP K "each_till" jC)(h31:FP K "meaning_over_walks" cL)(h32:FP K "meaning" nQ)(h33:FP K "table_among" gD)(h34:FP K "table" tK)(h35:FP K "holds" tL)(h36:FP K "fair_numbers" fH)(h37:FP K "numbered" dI)(h38:FP K "first_numbers" eE)(h39:FP K "numbers_of" ig)(h40:FP K "finer_numbers" eF)(h41:FP K "numberings" iu)(h42:FP K "class_numbers" eG)(h43:FP K "stands_of_numbers" cR)(h44:FP K "classes" nG)(h45:FP K "folded" pY)(h46:FP K "_law_cell_at" jD)(h47:FP K "_law_mixed" nU)(h48:FP K "_law_name_by" jE)(h49:FP K "_law_some_of" jF)(h50:FP K "_law_steps_by" iz)(h51:FP K "_law_sets_by" jG)(h52:FP K "_law_maps_by" jH)(h53:FP K "_law_parts_by" iB)(h54:FP K "_law_machine" jJ)(h55:FP K "_law_word_at" jK)(h56:FP K "_law_made" qb)(h57:FP K "_law_saying_by" gF)(h58:FP K "_law_set" tM)(h59:FP K "law" rO)(aC:nsIn K abm "Machine" = some (some (.ref C)))(mk:Mk K C fI)(FI:Fb K "__init__" "Machine.__init__" EY (.ref TD) fI T6)(lT:K.lookup TD=some ⟨ocT,odT,.seq #[.none,.none] nT,slT⟩)(m0:MP K C "many" "Machine.many" fG)(m1:MP K C "next_of" "Machine.next_of" c7)(m2:MP K C "before" "Machine.before" dG)(m3:MP K C "marked" "Machine.marked" dH)(m4:MP K C "fair_at" "Machine.fair_at" dh)(m5:MP K C "names_at" "Machine.names_at" cW)(cC:Cls K C)(nC:findIn K (.ref C) "steps" = some none/\findIn K (.ref C) "marks" = some none/\findIn K (.ref C) "fair" = some none/\findIn K (.ref C) "sources" = some none)(qN:nsIn K abm "LETTERS" = some (some (.str "abcdefghijklmnopqrstuvwxyz" Cq)))(gM:nsIn K abm "LONGEST_NAME" = some (some (.int 8 qg)))(iZ:nsIn K abm "MOST_STANDS" = some (some (.int 60 q9)))(gO:nsIn K abm "SAYING_WORDS" = some (some (.ref cN)))(q_:K.lookup cN=some ⟨.type "tuple",none,.seq #[.str "all" Cz,.str "not" CG,.str "both" CJ,.str "either" CK,.str "somenext" CN,.str "eachnext" CP,.str "sometill" CQ,.str "eachtill" CT,.str "someever" CV,.str "eachever" CW] Gk,Dq⟩)(z:Mw K ["len","range","isinstance","int","bool","list","enumerate","max","min","any","all","sorted","str","set","tuple"]) :
  ∃fd:FuncData,(∀(s:Shared)(v:Value),BindsTo s fd ⟨[v],[]⟩ [("_law_script",v)])/\∀base:Heap,K.In base->base.Ns abm mg->au l.prog w K mg base aP 20 fa fd ["_law_script"] (Gj K):=by
 obtain⟨f,fd,a,⟨oc,od,kV,dc,pm,an,cd,ct,sl,rfl,lk,ck⟩,kp⟩:=h59
 have e:=hfa.symm.trans (mg_of X G a)
 cases e
 obtain⟨cl,fi,di,I0⟩:=SY
 obtain⟨aal,Sd,zq,aam,Xu,Xv,Bp,QT,FT,QG,Qx,bF,Qy,mH,n6,_⟩:=z
 obtain⟨nS,nM,nF,nB⟩:=nC
 have N:∀{x:Str},nsIn K abm x=some none->mg x=none:=λe=>PySem.W.mg_none_of X G e
 have B:Bl K mg:=⟨N aal,N Sd,N zq,N aam,N Xu,N Xv,N Bp,Vt,Vv,Vu⟩
 have aan:=N QT
 have Xw:=N FT
 have aao:=N QG
 have aap:=N Qx
 have eX:=N bF
 have aaq:=N Qy
 have Gm:=N mH
 have Gn:=N n6
 have qN:=mg_of X G qN
 have gM:=mg_of X G gM
 have iZ:=mg_of X G iZ
 have gO:=mg_of X G gO
 have T:Cl K mg C:=⟨cC,nS,nM,nF,nB,mg_of X G aC⟩
 have T7:Binds K T6 ["self","steps","marks","fair"] []:=λs us KX hl=>by
  obtain⟨_,_,_,_,_,_,_,_,_,rfl,_⟩:=FI.ex
  have h2:us.length=4:=by
   rw[length_append] at hl
   have:([]:List Value).length=0:=rfl
   have h4:(["self","steps","marks","fair"]:List Str).length=4:=rfl
   omega
  match us,h2 with
  |[u0,u1,u2,u3],_=>exact BindsTo.of_defaults rfl (KX _ _ lT) rfl rfl rfl
 refine⟨fnOf "law" "law" (Df rO) (vX rO) (zJ rO) .none kV dc pm an cd ct,λs v=>.of_eq rfl,λbase _ _=>?_⟩
 have cal:∀{k:Nat}{x:Str}{st:Stmt}{ps:List Str}{sp:Sp},FP K x st->(∀f fd,aY K x x st f fd->au l.prog w K mg base aP k f fd ps sp/\Binds K fd ps [])->aW l.prog w K mg base k x ps sp:=λh t=>R_ X G h t
 have CZ:∀{k:Nat}{x y:Str}{st:Stmt}{ps:List Str}{sp:Sp},MP K C x y st->(∀f fd,aY K x y st f fd->au l.prog w K mg base aP k f fd ps sp/\Binds K fd ps [])->fV l.prog w K mg base k C x ps sp:=λh t=>Ke cC h t
 have I:=I0 base
 have fJ:∀H:Hp,ni K H cN ((["all","not","both","either","somenext","eachnext","sometill","eachtill","someever","eachever"]:List Str).map V.str):=λH=>.inr ⟨_,_,_,q_,rfl,rfl,(by show 10<=sizeLine;decide),by repeat(first|exact Paired.nil|refine Paired.cons ⟨_,rfl⟩ ?_)⟩
 have lQ:=cal h2 λ_ _ F=>⟨zMu (k:=0) F B,jm F⟩
 have aQ:=cal h3 λ_ _ F=>⟨zGr (k:=1) F B lQ.m,Ac F⟩
 have rm:=cal h4 λ_ _ F=>⟨zH3 (k:=2) F B iZ aQ.m,qW F⟩
 have nY:=cal h5 λ_ _ F=>⟨zP8 (k:=0) F B qN gM gO fJ aap aaq,qW F⟩
 have rA:=cal h6 λ_ _ F=>⟨zH4 (k:=2) F B aQ.m nY.m,jm F⟩
 have u5:=cal h7 λ_ _ F=>⟨zJl (k:=2) F B aQ.m,jm F⟩
 have Gp:=cal h8 λ_ _ F=>⟨zSz (k:=0) F B,qW F⟩
 have aar:=cal h1 λ_ _ F=>⟨Qo F B,qW F⟩
 have OI:au l.prog w K mg base aP 4 fI T6 ["self","steps","marks","fair"] (rJ K C (Qz C)):=Qp (k:=3) FI T B rm.m rA.m u5.m Gp.m aar.m
 have aN:=CZ m0 λ_ _ F=>⟨zGs (k:=0) (C:=C) F B T,qW F⟩
 have aJ:=CZ m1 λ_ _ F=>⟨zD6 (k:=0) (C:=C) F B T eX,jm F⟩
 have dJ:=CZ m2 λ_ _ F=>⟨zE4 (k:=0) (C:=C) F B T,jm F⟩
 have dN:=CZ m3 λ_ _ F=>⟨zE3 (k:=0) (C:=C) F B T eX,jm F⟩
 have dj:=CZ m4 λ_ _ F=>⟨zD7 (k:=0) (C:=C) F B T eX,jm F⟩
 have aG:=cal h9 λ_ _ F=>⟨zJk (k:=1) (C:=C) F B aN.m,qW F⟩
 have j7:=cal h10 λ_ _ F=>⟨zWw (k:=1) (C:=C) F B aN.m,jm F⟩
 have eY:=cal h11 λ_ _ F=>⟨zP5 (k:=0) F B eX Gm,jm F⟩
 have bC:=cal h12 λ_ _ F=>⟨zSv (k:=2) (C:=C) F B aG.m eY.m,jm F⟩
 have dM:=cal h13 λ_ _ F=>⟨zMs (k:=0) F B eX Gm,jm F⟩
 have bJ:=cal h14 λ_ _ F=>⟨zSu (k:=0) F B eX Gm,jm F⟩
 have jN:=cal h15 λ_ _ F=>⟨zLd (k:=2) (C:=C) F B dJ.m aN.m j7.m,Ac F⟩
 have bY:=cal h16 λ_ _ F=>⟨zMv (k:=3) (C:=C) F B jN.m,Ac F⟩
 have iH:=cal h17 λ_ _ F=>⟨zJe (k:=1) (C:=C) F B aao aJ.m,Ac F⟩
 have gH:=cal h18 λ_ _ F=>⟨zH0 (k:=2) (C:=C) F B j7.m iH.m,Ac F⟩
 have j8:=cal h19 λ_ _ F=>⟨zQa (k:=0) F B,qW F⟩
 have gG:=cal h20 λ_ _ F=>⟨zH1 (k:=1) (C:=C) F B aN.m aJ.m j8.m,jm F⟩
 have tX:=cal h21 λ_ _ F=>⟨zWt (k:=2) (C:=C) F B eX Gm gG.m,jm F⟩
 have jQ:=cal h22 λ_ _ F=>⟨zK4 (k:=1) (C:=C) F B T dj.m bJ.m,jm F⟩
 have iI:=cal h23 λ_ _ F=>⟨zJj (k:=3) (C:=C) F B jQ.m tX.m,jm F⟩
 have qx:=cal h24 λ_ _ F=>⟨zSx (k:=0) F B,qW F⟩
 have iJ:=cal h25 λ_ _ F=>⟨Jx (k:=4) (C:=C) F B bY.m iI.m qx.m,jm F⟩
 have tY:=cal h26 λ_ _ F=>⟨zWx (k:=5) (C:=C) F B iJ.m aG.m,qW F⟩
 have fZ:=cal h27 λ_ _ F=>⟨zK1 (k:=3) (C:=C) F B aG.m bJ.m gH.m,Ac F⟩
 have dW:=cal h28 λ_ _ F=>⟨zK0 (k:=4) (C:=C) F B bY.m bJ.m,GC F⟩
 have lR:=cal h29 λ_ _ F=>⟨zMt (k:=3) (C:=C) F B bC.m bJ.m eY.m,GC F⟩
 have fY:=cal h30 λ_ _ F=>⟨zLc (k:=5) (C:=C) F B bY.m iJ.m bC.m lR.m dM.m,GC F⟩
 have cO:=cal h31 λ_ _ F=>⟨zCp (k:=6) (C:=C) (cl:=cl) F B I iJ.m fY.m aG.m bC.m fZ.m dW.m,GC F⟩
 have nZ:=cal h32 λ_ _ F=>⟨zP6 (k:=7) (C:=C) (cl:=cl) F B I dN.m aG.m cO.m bC.m bJ.m dM.m,GC F⟩
 have qO:∀n:Nat,aW l.prog w K mg base (8+n) "table_among" ["machine","living","saying"] (Zg K C cl (wS n)):=λn=>by
  induction n with
  |zero=>exact cal h33 λ_ _ F=>⟨Xp (λvs H Q E ⟨_,_,_,_,z,_⟩=>by cases z),Ac F⟩
  |succ n ih=>exact cal h33 λ_ _ F=>⟨zHz (k:=8+n) F B I (nZ.mono (aa4 (by decide) (ab4 8 n))) ih,Ac F⟩
 have cT:aW l.prog w K mg base 17 "table_among" ["machine","living","saying"] (zEn K C cl):=qO 9
 have tZ:=cal h34 λ_ _ F=>⟨zWs (k:=17) (C:=C) (cl:=cl) F B tY.m cT.m,jm F⟩
 have pA:=cal h35 λ_ _ F=>⟨zWv (k:=18) (C:=C) (cl:=cl) F B tZ.m,jm F⟩
 have cX:=CZ m5 λ_ _ F=>⟨zDq (k:=0) (C:=C) F B T eX,jm F⟩
 have fQ:=cal h36 λ_ _ F=>⟨zGq (k:=0) (C:=C) F B T,jm F⟩
 have jU:aW l.prog w K mg base 1 "numbered" ["keys"] (zDu K):=by
  obtain⟨f,fd,a,F⟩:=h37
  exact⟨f,fd,zK3 F B,qW F,F.kp,mg_of X G a⟩
 have jV:aW l.prog w K mg base 1 "numbered" ["keys"] (zDt K):=by
  obtain⟨f,fd,a,F⟩:=h37
  exact⟨f,fd,zK2 F B,qW F,F.kp,mg_of X G a⟩
 have eN:=cal h38 λ_ _ F=>⟨zFr (k:=2) (C:=C) F B Gn cX.m aG.m fQ.m jU.m,qW F⟩
 have bL:=cal h39 λ_ _ F=>⟨zJf (k:=0) F B eX Gm,jm F⟩
 have cV:=cal h40 λ_ _ F=>⟨zFs (k:=2) (C:=C) F B Gn aJ.m aG.m jV.m bL.m,jm F⟩
 have iK:=cal h41 λ_ _ F=>⟨zJg (k:=3) (C:=C) F B cV.m eN.m,qW F⟩
 have bK:=cal h42 λ_ _ F=>⟨zFt (k:=4) (C:=C) F B iK.m,qW F⟩
 have aR:=cal h43 λ_ _ F=>⟨zDg (k:=0) F B aan,qW F⟩
 have n7:=cal h44 λ_ _ F=>⟨zP9 (k:=5) (C:=C) F B bK.m aR.m,qW F⟩
 have qM:=cal h45 λ_ _ F=>⟨zSy (k0:=4) (C:=C) F B T mk (OI.mono (by decide)) T7 aJ.m bK.m bL.m aR.m,qW F⟩
 have aF:=cal h46 λ_ _ F=>⟨zLb (k:=0) F B,jm F⟩
 have bx:=cal h47 λ_ _ F=>⟨zP7 (k:=0) F B,jm F⟩
 have cP:=cal h48 λ_ _ F=>⟨zK8 (k:=0) F B,jm F⟩
 have cY:=cal h49 λ_ _ F=>⟨zK6 (k:=0) F B,jm F⟩
 have iU:=cal h50 λ_ _ F=>⟨zJh (k:=1) F B aF.m bx.m cY.m,Ac F⟩
 have gk:=cal h51 λ_ _ F=>⟨zK7 (k:=1) F B bx.m cY.m,GC F⟩
 have jY:=cal h52 λ_ _ F=>⟨zK9 (k:=1) F B Xw aF.m bx.m,qW F⟩
 have iY:=cal h53 λ_ _ F=>⟨zJi (k:=2) F B Xw aF.m jY.m cP.m gk.m iU.m,qW F⟩
 have j6:=cal h54 λ_ _ F=>⟨zLa (k0:=4) (C:=C) F B T mk (OI.mono (by decide)) T7,qW F⟩
 have j4:=cal h55 λ_ _ F=>⟨zK5 (k:=1) F B aF.m bx.m,GC F⟩
 have qK:=cal h56 λ_ _ F=>⟨zSw (k:=4) (cl:=cl) F B I (by decide),Ac F⟩
 have qP:∀n:Nat,aW l.prog w K mg base (5+n) "_law_saying_by" ["_law_script","_law_at","_law_names","_law_depth"] (Zk K cl (vP cl n)):=λn=>by
  induction n with
  |zero=>exact cal h57 λ_ _ F=>⟨Xp (λvs H Q E ⟨_,_,_,_,z,_⟩=>by cases z),GC F⟩
  |succ n ih=>exact cal h57 λ_ _ F=>⟨zH2 (k:=5+n) F B I (aa4 (by decide) (ab4 5 n)) (qK.mono (aa4 (by decide) (ab4 5 n))) ih (j4.mono (aa4 (by decide) (ab4 5 n))),GC F⟩
 have cu:aW l.prog w K mg base 10 "_law_saying_by" ["_law_script","_law_at","_law_names","_law_depth"] (zEr K cl):=qP 5
 have o_:=cal h58 λ_ _ F=>⟨zWu (k:=0) F B,jm F⟩
 refine au.imp (RN (k:=19) (cl:=cl) (pG lk ck kp) B aF.m j6.m cP.m iY.m cu.m o_.m n7.m qM.m pA.m) λvs H Q E h=>?_
 obtain⟨a,ns,rfl,hS,h63,hQ⟩:=h
 obtain⟨b,e1,e2⟩:=zXd C cl ⟨ns⟩
 subst e2
 exact⟨(⟨ns⟩,()),true,H,.refl _,e1,.cons ⟨a,rfl,hS⟩ .nil,λv H' _ r=>by cases r;exact hQ H'⟩
theorem walk{l:aec}{YP:World->Heap->Prop}{d:DefRec}{K:Params->Frag}(hn:l.most=some 63)(hdf:d.params.defaults=[])(hY:∀(w:World) (h:Heap),YP w h->(K w.params).In h)(F:∀(w:World) (mg:Str->Option Value) (fa:Addr) (h:Heap),(K w.params).In h->h.Ns abm mg->mg d.name=some (.ref fa) ->
   ∃fd:FuncData,(∀(s:Shared) (u:Value),BindsTo s fd ⟨[u],[]⟩ [("_law_script",u)])/\∀base:Heap,(K w.params).In base->base.Ns abm mg->au l.prog w (K w.params) mg base aP 20 fa fd ["_law_script"] (Gj (K w.params))) :
  PySem.W.WalkO q loose XP YP l.row.toRowW d [] (λf vs=>PySem.call f vs) :=
 L2.Hy (n:=63) (k:=20) (x:="_law_script") (CX:=λ_=>aP) (sp:=λw=>Gj (K w.params)) hn (by decide) hdf ⟨rfl,by decide,by decide⟩ hY F (λ_ _ a ns hl _ hS=>⟨a,ns,rfl,hS,hl,λ_=>rfl⟩) λ_ _ _ _ _ z=>z
end Ts
namespace PySem.W.Fast
def tw16063518721827088363:=0
def tw9113545083846150020:=0
def tw4914507068715609408:=0
def tw5505892109849902363:=0
def tw15725302349190821083:=0
def tw3963425554278840198:=0
def tw12846123001548976589:=0
def tw9654570232025001941:=0
def tw2438466023574966652:=0
def tw15683695670191392135:=0
def tw8816381101544119536:=0
def tw15167871396719935858:=0
def tw3575148371905461187:=0
def tw2996053882363321532:=0
def tw8665743132155512630:=0
def tw14561691124970635478:=0
def tw6687913029497863030:=0
def tw12171980499348130855:=0
def tw8841576013404529026:=0
def tw13493940693955718677:=0
def tw12060452346743852125:=0
def tw7811223985317989524:=0
def tw17819001026120740928:=0
def tw17234975670244514426:=0
def tw15171832376947583445:=0
def tw4712300757068287157:=0
def tw12665953097690234776:=0
def tw16844984341859683317:=0
def tw11708431119013560296:=0
def tw16399212902170482612:=0
def tw3816851383497387841:=0
def tw5166946878752928028:=0
def tw507461656368526518:=0
def tw94645508751556920:=0
def tw2950665302364109065:=0
def tw10299214776561421734:=0
def tw14462971404090465769:=0
def tw15018078085066205600:=0
def tw4834772633005074545:=0
def tw5987549981537681074:=0
def tw14716351646984056723:=0
def tw7726695742493886233:=0
def tw8879791565612478088:=0
def tw5908779840625737783:=0
def tw2587809918776073472:=0
def tw17335148973642270013:=0
def tw6767537102856054715:=0
def tw2259971861412412558:=0
def tw3090885175460212643:=0
def tw17623381329229792384:=0
def tw2241387536391536233:=0
def tw14935028679459159640:=0
def tw1576881282647870195:=0
def tw6756792414950703912:=0
def tw2696456357012803784:=0
def tw14454726906358809:=0
def tw16919174925196687037:=0
def tw14318968695291649603:=0
def tw5271540398595708899:=0
def tw15402630441741671109:=0
def tw10854621229416577127:=0
def tw132565120137384333:=0
def tw8166053377291271302:=0
def tw11053668384349974774:=0
def tw3574185291059959896:=0
def tw7591286170222028000:=0
def tw15159819875580101256:=0
def tw1000135909843159942:=0
def tw1366425234414395035:=0
def tw9566000189629698408:=0
def tw9208848760476339682:=0
def tw2141328801877918676:=0
def tw13488483153789510202:=0
def tw16124155214351705220:=0
def tw17025683645494572167:=0
def tw2671339426399880373:=0
def tw6973996984774214540:=0
def tw18120664716589494092:=0
def tw4599543867109781739:=0
def tw8197060469887637760:=0
def tw2749323181828336143:=0
def tw16944532467785448538:=0
def tw11665493561548483361:=0
def tw13244127680954348238:=0
def tw4422538221373931521:=0
def tw18140708413210898333:=0
def tw16600813113668556326:=0
def tw18025419359476922036:=0
def tw8020490422862525021:=0
def tw6745661574395385781:=0
def tw9059091866140533624:=0
def tw15748218508310978251:=0
def tw15754668191920731656:=0
def tw6760064913792340243:=0
def tw5603150306977223974:=0
def tw17251609511348497387:=0
def tw5973622123234462518:=0
def tw15742065192659336297:=0
def tw17853552265236383946:=0
def tw8403984026827489325:=0
def tw7673910455090656515:=0
def tw10840592708580000400:=0
def tw8538659920161976691:=0
def tw9289526803725810930:=0
def tw15865791716934067660:=0
def tw15732641671297029257:=0
def tw40434020136457472:=0
def tw11395905453520343678:=0
def tw8043205444969770412:=0
def tw10880928001960659992:=0
def tw15287384896286062168:=0
def tw3141076474216353467:=0
def tw9437273214933182711:=0
def tw12767669611657317850:=0
def tw5219884306168824500:=0
def tw17901841128658429607:=0
def tw1910064025468566171:=0
def tw14876386823498809764:=0
def tw11248949064549090081:=0
def tw9112442084922680370:=0
def tw13622209100657240222:=0
def tw10462408955494298230:=0
def tw6791125269311706161:=0
def tw9505666166477924821:=0
def tw9607652793262729303:=0
def tw7027463568880161191:=0
def tw17287791710999544434:=0
def tw13213470518102919838:=0
def tw591743590772080903:=0
def tw6127208305094619026:=0
def tw4711978617100089830:=0
def tw3298372065627294103:=0
def tw16585033956846925747:=0
def tw9178498773351232552:=0
def tw11629958481986488987:=0
def tw8348442688791352173:=0
def tw7573066129641646726:=0
def tw3820118897863752004:=0
def tw4208488757702725234:=0
def tw10724143106109206737:=0
def tw11338408918310016422:=0
def tw4734326477695315103:=0
def tw710850732011753283:=0
def tw12981034500166391594:=0
def tw9574107409972855807:=0
def tw4699181291369539195:=0
def tw10841322906045177628:=0
def tw16563198639900814487:=0
def tw15674583112198221321:=0
def tw16760624220001941540:=0
def tw17142923910296913359:=0
def tw3752791410511096496:=0
def tw3224546682344433038:=0
def tw12698796693186035017:=0
def tw14087464278735186992:=0
def tw14925727796513112871:=0
def tw14433619356548249384:=0
def tw11087314115615173845:=0
def tw7386326176471914174:=0
def tw14061738745130056631:=0
def tw3642471105815156201:=0
def tw4384144516773141954:=0
def tw16486789815228045643:=0
def tw5939592328500046743:=0
def tw17373547683258963795:=0
def tw5649051727097200558:=0
def tw12987403820576276502:=0
def tw3464720382709964581:=0
def tw16460218712474001700:=0
def tw15453292963170084935:=0
def tw7635925281607568887:=0
def tw3536229931570194377:=0
def tw14701689983149422310:=0
def tw17086746927140509984:=0
def tw1254457724564739462:=0
def tw10475034407805175341:=0
def tw6391258917966270863:=0
def tw10313467420827242198:=0
def tw15590484758889095954:=0
def tw5069423728814044476:=0
def tw79197390888253191:=0
def tw11632764215130770409:=0
def tw164068571284270831:=0
def tw14645636725640606485:=0
def tw17778790548799076006:=0
def tw2758816253868234049:=0
def tw701223691487394371:=0
def tw1825329627095923972:=0
def tw1114490990352161716:=0
def tw10689425362120169834:=0
def tw13684055819148345944:=0
def tw16829144224972284132:=0
def tw3030390294310442929:=0
def tw14552559418773484627:=0
def tw18387334795957264773:=0
def tw5876346691951767814:=0
def tw1877452755834378363:=0
def tw5139295895365066320:=0
def tw10425642178199273862:=0
def tw5053001685885882264:=0
def tw2390772224245340751:=0
def tw14938228505483392691:=0
def tw10581070050156295675:=0
def tw11880694078612366246:=0
def tw18283941028351511238:=0
def tw87169978773491456:=0
def tw17732316631997029931:=0
def tw5479246165464473151:=0
def tw1494989206204719342:=0
def tw5013341866540726114:=0
def tw12252452615632251552:=0
def tw15586889655821281631:=0
def tw17877785912134946818:=0
def tw7873101354877814015:=0
def tw11061845320603986778:=0
def tw10833970590132449442:=0
def tw15735491415459947241:=0
def tw9842630423257502476:=0
def tw11878724776534122122:=0
def tw18303280417768853823:=0
def tw12486340729891284828:=0
def tw4681691564691190561:=0
def tw11662542824129783692:=0
def tw3306197219171196114:=0
def tw8317033891158681797:=0
def tw12335083123861742085:=0
def tw729966165004090032:=0
def tw716366981978640722:=0
def tw7022709319080873892:=0
def tw4921729402928359516:=0
def tw10910407967558307056:=0
def tw16660621482944266961:=0
def tw13458198167412553082:=0
def tw7394182231752723720:=0
def tw6185647023608735655:=0
def tw11725669162222162145:=0
def tw9815154754458202065:=0
def tw17449579968757459704:=0
def tw3424935734770918998:=0
def tw15590538361843284153:=0
def tw7761670879115650942:=0
def tw11742472290990967792:=0
def tw5715250617339765296:=0
def tw1688281606031305541:=0
def tw10879941093758425404:=0
def tw10567470051745201467:=0
def tw206232436403213353:=0
def tw14781389617632303234:=0
def tw5542755305746830384:=0
def tw2547896521996347115:=0
def tw15182831266439521828:=0
def tw17612146586827492985:=0
def tw3530904620121881243:=0
def tw3009954307170355534:=0
def tw251315528904465943:=0
def tw2232861798379068890:=0
def tw12525102532671738299:=0
def tw17802516415984827058:=0
def tw15030211396546896899:=0
def tw5514708697112768638:=0
def tw9679418587400052422:=0
def tw17413012793071936358:=0
def tw4402685637037251589:=0
def tw15514571232506797106:=0
def tw17354700334935153878:=0
def tw1526014819716691796:=0
def tw13467465638804425025:=0
def tw2308208039775902718:=0
def tw7250760808738233990:=0
def tw16462318666374517610:=0
def tw6102335377627285463:=0
def tw8118184266343260488:=0
def tw10282181350723437773:=0
def tw10896644548544899515:=0
def tw16586870292153640225:=0
def tw7294937996847358599:=0
def tw8677612941471374089:=0
def tw10001718294657476299:=0
def tw3527733591643792328:=0
def tw7978784222893943809:=0
def tw15532209958900433643:=0
def tw4660778985765750879:=0
def tw3824216828336366024:=0
def tw13527414986073674111:=0
def tw3783449104611296130:=0
def tw6157128219147346645:=0
def tw7848819904432540921:=0
def tw650424843736783262:=0
def tw10013690771750806958:=0
def tw13644236909768708200:=0
def tw5625240332680487150:=0
def tw11380152828633175712:=0
def tw8795121732965902896:=0
def tw451620263001484464:=0
def tw16171520136119099206:=0
def tw8589692827827907469:=0
def tw10951343092162422905:=0
def tw1810800310121394375:=0
def tw17565345902239193865:=0
def tw15871289140308204519:=0
def tw12593915251383529947:=0
def tw10966737124193759079:=0
def tw10082542957949342792:=0
def tw920724617657835974:=0
def tw12666376154532198510:=0
def tw8527215258820107786:=0
def tw11353790677340970248:=0
def tw7111669602791200378:=0
def tw7858395688201159920:=0
def tw15611814443439247720:=0
def tw8005875682065715117:=0
def tw10903706336732872481:=0
def tw15786891738693388156:=0
def tw14255609362664580478:=0
def tw47957462298445517:=0
def tw7081819073114643429:=0
def tw2963935909259678462:=0
def tw6856354739301601355:=0
def tw4825420017895562125:=0
def tw15986231836500603906:=0
def tw7359764034410907449:=0
def tw14419912117396651785:=0
def tw17631025880331518488:=0
def tw1824781801333900569:=0
def tw13317556625500615331:=0
def tw9662250801180402665:=0
def tw292463258367890265:=0
def tw18324176119747364609:=0
def tw14470167241210290876:=0
def tw11382420948515329535:=0
def tw2073795867831841000:=0
def tw83116035133020336:=0
def tw3984059416700671803:=0
def tw8077954669324208624:=0
def tw8028622895507182663:=0
def tw2353503381611231201:=0
def tw13413281175675687332:=0
def tw13244683356353442503:=0
def tw13911199455225342374:=0
def tw1673886004315502800:=0
def tw5715983886784451374:=0
def tw7298500773197077469:=0
def tw16660154927619755430:=0
def tw7370419676438340677:=0
def tw9966625471479718991:=0
def tw15301483709214327974:=0
def tw3741986341543108429:=0
def tw5776006693106024161:=0
def tw17625981352000914463:=0
def tw9445582581656001798:=0
def tw13506454811516408714:=0
def tw11001761730602538987:=0
def tw8006180416189843048:=0
def tw15760892907750864649:=0
def tw2992370350025334180:=0
def tw15510702082189575581:=0
def tw5832601263202331296:=0
def tw12639720720011984897:=0
def tw1219912012643343077:=0
def tw14678260059560643863:=0
def tw1450858816383394361:=0
def tw18129842236276090360:=0
def tw17540254991968165553:=0
def tw13301272988209302418:=0
def tw11799329774458325325:=0
def tw18311562551022073369:=0
def tw326344788724383897:=0
def tw8547873199756471664:=0
def tw6203704540465052878:=0
def tw2648453783710173213:=0
def tw5802540942286019730:=0
def tw10791400678898903328:=0
def tw3379999845631099045:=0
def tw3131080148198981399:=0
def tw11050903026477944197:=0
def tw7071862842617443319:=0
def tw11572182882185647244:=0
def tw18189466168623223156:=0
def tw3297586607659750086:=0
def tw13754193973478748075:=0
def tw3194338080422328315:=0
def tw13548565729032179999:=0
def tw15590296143635727910:=0
def tw15232813635399020730:=0
def tw8398358874470412101:=0
def tw2955053705127097044:=0
def tw1300179803516381692:=0
def tw3740435917174541114:=0
def tw9594433880762903050:=0
def tw17524401279552839566:=0
def tw10034875338807162308:=0
def tw2011854004300150025:=0
def tw11467899829585826407:=0
def tw18272625801557510538:=0
def tw170042210968218044:=0
def tw3437791359489189276:=0
def tw11315987217811682248:=0
def tw5077246042334426796:=0
def tw18162503828049735780:=0
def tw4963602452276486503:=0
def tw11515934739951415677:=0
def tw12213897098525290715:=0
def tw9921768963393458824:=0
def tw14103355565159601552:=0
def tw16639343344601082869:=0
def tw1923319426255720621:=0
def tw11383618793093369754:=0
def tw8591821341238697273:=0
def tw17856947073720070076:=0
def tw16883979761533294169:=0
def tw13288332648941129700:=0
def tw8162509655145030925:=0
def tw16714229223702850664:=0
def tw10505575489941075332:=0
def tw14878055425568102645:=0
def tw12008054969624424284:=0
def tw2429678560873657396:=0
def tw7774268703986170884:=0
def tw17738343604381866245:=0
def tw7735942825806773079:=0
def tw1343412039955864069:=0
def tw533005355627092635:=0
def tw18181073241902289892:=0
def tw1336664299845827373:=0
def tw1228135875741772737:=0
def tw6137599248559668286:=0
def tw11712828529451013761:=0
def tw9515757455829377669:=0
def tw2688838621942152216:=0
def tw16676310599934395515:=0
def tw17922102640571430319:=0
def tw8626988307113067905:=0
def tw8881569389793925636:=0
def tw14856921381287921667:=0
def tw7070072402359725553:=0
def tw1734930823476615746:=0
def tw2721585553105985341:=0
def tw14434397737070225465:=0
def tw1671900649420304588:=0
def tw5669662910681197406:=0
def tw4660171740854525211:=0
def tw5408177592947039766:=0
def tw559294031837296981:=0
def tw16974986874785539340:=0
def tw2634966261575852627:=0
def tw5505045692078466808:=0
def tw1854753071955359255:=0
def tw17246409908041622664:=0
def tw9761738251066540491:=0
def tw13232921410567698981:=0
def tw13479562589400271038:=0
def tw13892070916346309874:=0
def tw2235302250133536752:=0
def tw13811491987891479367:=0
def tw14752905393152676346:=0
def tw4551619255582291586:=0
def tw17590687902587597547:=0
def tw266117850236071329:=0
def tw9942826254056131382:=0
def tw14654031176897016247:=0
def tw7107877330412608981:=0
def tw5597594786695360051:=0
def tw5638237902507565432:=0
def tw11479993847926179911:=0
def tw646591361623080646:=0
def tw16949059244013276477:=0
def tw11725023916875153442:=0
def tw229092642267317147:=0
def tw1030316086473843852:=0
def tw7495556982239847130:=0
def tw7347610276567396436:=0
def tw9954920315581841517:=0
def tw2411394465675502559:=0
def tw7720144784481435267:=0
def tw11872094860565442743:=0
def tw3253859254204447194:=0
def tw4914552889774048608:=0
def tw499629101665893450:=0
def tw7174617977317544684:=0
def tw6685905831214765988:=0
def tw1790996671608183865:=0
def tw3649458948792201546:=0
def tw8061058437098798706:=0
def tw14448149850522257227:=0
def tw15761941907766423066:=0
def tw17412688984138107016:=0
def tw8734068666566320958:=0
def tw3156653560152602985:=0
def tw7969227250815807715:=0
def tw14672910902496106585:=0
def tw9314970699644698456:=0
def tw1201053255260442024:=0
def tw8026218273811937381:=0
def tw1301044168127192530:=0
def tw4611718699717048697:=0
def tw14486580459249832897:=0
def tw4558064213060852077:=0
def tw16782625165310506436:=0
def tw2436158731174230814:=0
def tw438339452181182290:=0
def tw16846876384084940649:=0
def tw7382761411439122129:=0
def tw18304598527788947451:=0
def tw6457267867666287136:=0
def tw5608454335516013785:=0
def tw6816141757671938345:=0
def tw4491043289892335587:=0
def tw12858593193064024666:=0
def tw15677546006951684412:=0
def tw7659799283667241792:=0
def tw14608990812954867293:=0
def tw7502394970568048715:=0
def tw17902168419945728494:=0
def tw5801505796396299530:=0
def tw1455015173341908676:=0
def tw8605305680698487046:=0
def tw1070126005861539957:=0
def tw6526607093221348894:=0
def tw1037369525188442927:=0
def tw11206440210995449537:=0
def tw14220478730280924824:=0
def tw2644980510458766168:=0
def tw14700513135053413215:=0
def tw6456322797960061907:=0
def tw12660898406722391654:=0
def tw18258241342144803194:=0
def tw9513221038092416795:=0
def tw2191471403122525073:=0
def tw12191347115882522988:=0
def tw14085900185536374844:=0
def tw13202886889823351337:=0
def tw12664368620264691788:=0
def tw14812477949375520855:=0
def tw10172057402591804543:=0
def tw14572594496766085182:=0
def tw4863626655774658041:=0
def tw18358331963278198065:=0
def tw2712911033905537351:=0
def tw1799664723549005141:=0
def tw11485621947325355555:=0
def tw10059656914054159918:=0
def tw5414011189242748376:=0
def tw11157681043610833754:=0
def tw13246929299669312956:=0
def tw9013233113635081884:=0
def tw13530265860079059252:=0
def tw6056885879900070303:=0
def tw14461993493139863790:=0
def tw7958138245788419142:=0
def tw4773179239929225611:=0
def tw11478204741800887223:=0
def tw4638263429601592821:=0
def tw9101058081547900184:=0
def tw14261673616542659083:=0
def tw16025601245684403409:=0
def tw4862233993670097950:=0
def tw5328372464147836934:=0
def tw3447670407548221381:=0
def tw1933968047389863673:=0
def tw16751781790469983595:=0
def tw7594956981257941478:=0
def tw7514052039733730727:=0
def tw10384143360957736693:=0
def tw10845569931974322386:=0
def tw16764398080147956719:=0
def tw7591243638332758048:=0
def tw7291757139497382333:=0
def tw7622828107163969814:=0
def tw4373132495710824402:=0
def tw9965347842687678601:=0
def tw13897900556546601873:=0
def tw16562906650100125799:=0
def tw10906413445734668039:=0
def tw4881365850661888130:=0
def tw10200520275258507595:=0
def tw8262392616543554420:=0
def tw268326850090018660:=0
def tw2449348566706922926:=0
def tw17492641468731581177:=0
def tw14826240097836279115:=0
def tw1547679219563832301:=0
def tw9522097359144540571:=0
def tw4884047803285669780:=0
def tw7598191037003293790:=0
def tw16186840908372186140:=0
def tw11832881926039203036:=0
def tw6904681077710269262:=0
def tw9121666586822564953:=0
def tw6564080924295725776:=0
def tw4611852988305748677:=0
def tw14800337911421034678:=0
def tw9013562283343166125:=0
def tw4121001241358374040:=0
def tw4850641538276405497:=0
def tw374654196834444291:=0
def tw10777440132670024190:=0
def tw5879010233638346304:=0
def tw12203802205266554390:=0
def tw7857530418600185004:=0
def tw17181837252419060952:=0
def tw11098502796099143543:=0
def tw11365319580736064577:=0
def tw11442660052470984488:=0
def tw6139707240079078497:=0
def tw6370110764028305803:=0
def tw16958062144621061043:=0
def tw3057793143472783734:=0
def tw1644478068359167269:=0
def tw14274318543778463373:=0
def tw15839942151982040490:=0
def tw10993910301718834505:=0
def tw11704405194098404139:=0
def tw13758905774693413600:=0
def tw9410375373805194011:=0
def tw2601828359927606785:=0
def tw13899471769993536841:=0
def tw10288230474132378117:=0
def tw17218986323871504360:=0
def tw7733376471977840963:=0
def tw11420782338465166194:=0
def tw5929861724756029837:=0
def tw5752346522054992784:=0
def tw15141235402244850967:=0
def tw12739595727465165492:=0
def tw6373762792384753905:=0
def tw14118343020354656933:=0
def tw15814109722349317732:=0
def tw1991069106334751364:=0
def tw4443649973878838603:=0
def tw2076699940014838965:=0
def tw13272182044725081883:=0
def tw11689463754179541771:=0
def tw13848258744722290625:=0
def tw15111018097967233302:=0
def tw7666598235408863019:=0
def tw17050129070894965369:=0
def tw6325011580482075026:=0
def tw13497346044191014426:=0
def tw6404599911836955830:=0
def tw2355650968090019631:=0
end PySem.W.Fast
open PySem PySem.W PyProof.Rows
set_option maxRecDepth 100000 in
set_option maxHeartbeats 0 in
theorem PySem.Challenge.cw_treesay_k64_whole_folded_says_the_same_holds : PySem.Challenge.rw_treesay_k64_whole_folded_says_the_same.Holds := by
 w_on; o_law; k_head; (case hw=>w_witness2)
 k_fill
 refine Ts.walk (l:=PySem.Challenge.rw_treesay_k64_whole_folded_says_the_same) rfl rfl (fun w h Y=>by first | exact PySem.W.kIn_of Y | exact PySem.W.km_in_of Y) ?F
 case F =>
  intro w mg fa h KX G hmg
  refine' Ts.all_mk KX G hmg (Sy.R9 KX G ?_ ?_ ?_ ?_ ?_ ?_ ?_ ?_ ?_ ?_ ?_ ?_ ?_ ?_ ?_ ?_ ?_ ?_ ?_) ?_ ?_ ?_ ?_ ?_ ?_ ?_ ?_ ?_ ?_ ?_ ?_ ?_ ?_ ?_ ?_ ?_ ?_ ?_ ?_ ?_ ?_ ?_ ?_ ?_ ?_ ?_ ?_ ?_ ?_ ?_ ?_ ?_ ?_ ?_ ?_ ?_ ?_ ?_ ?_ ?_ ?_ ?_ ?_ ?_ ?_ ?_ ?_ ?_ ?_ ?_ ?_ ?_ ?_ ?_ ?_ ?_ ?_ ?_ ?_ ?_ ?_ ?_ ?_ ?_ ?_ ?_ ?_ ?_ ?_ ?_ ?_ ?_ ?_ ?_ ?_ ?_
  all_goals first | refine' Sy.R8 ?_ ⟨?_,?_,?_,?_⟩ (L2.pG ?_ ?_ ?_) ⟨?_,?_,?_,?_⟩ ?_ | refine' Sy.R7 ?_ ⟨?_,?_,?_,?_⟩ (L2.pG ?_ ?_ ?_) | refine' Ts.Xr ⟨?_,?_,?_⟩ (L2.pG ?_ ?_ ?_) | refine' Ts.Xq ?_ (L2.pG ?_ ?_ ?_) | refine' Ts.Kd ?_ ?_ ?_ | refine' ⟨?_,?_,?_,?_⟩ | skip
  all_goals repeat' first | refine' And.intro ?_ ?_ | exact True.intro
  all_goals first | k_is | skip
  all_goals first | k_is | skip
#print axioms PySem.Challenge.cw_treesay_k64_whole_folded_says_the_same_holds
